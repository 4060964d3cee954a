import PyProof.Rows.All
import Wide.All
import OpenK.AllK
import Wide.FinOn
import Lean
import PyProof.EqAt
import PyProof.EqKinds
import PyProof.TupleCall
import KE.KRevSl
import PyProof.AttrMissHeap
import KE.KDictOf
import PyProof.StrWalks
import PyProof.ListStr
import PyProof.EnumMake
import PyProof.Rows.Range3
import PyProof.Rows.StrIndexOr
import KE.KRevIter
import PyProof.SumWalk
import PyProof.ReprRoads
import PyProof.DictWalks
import PyProof.FitsBits
import PyProof.CallStr
import PyProof.Rows.FStr
import PyProof.Rows.StrNews
import KE.KIntText
import PyProof.Rows.MinMaxN
import PyProof.StrCalls
import KE.KDictList
import PyProof.RulesTry
import PyProof.Rows.RuleIs
import KE.KDictSum
import PyProof.DictTruth
import PyProof.MinMaxWalk
import PyProof.Rows.SetFrom
import PyProof.ListMulRoad
import PyProof.FactsAll.tuple_2
import PyProof.TupleOfStr
import PyProof.WalkInts
import PyProof.WalksMore
import PyProof.RowDictHeap
import KE.KItemsList
import PyProof.StrLawsIn
import PyProof.Rows.StrLawsPart
import PyProof.StrLawsChain
import PyProof.Rows.StrIntSpec
import PyProof.StrLawsTight
import PyProof.Rows.ReprOcc
import PySem.Challenge.RW_stickytiles_k55_box_beds
set_option maxHeartbeats 8000000
set_option maxRecDepth 100000
open PySem renaming wpAny_bind→Aa,wpAny_pure→Ae,mem_of_lookup→AQ,wpAny_callSpecial?_slot→A6,wpAny_newObj_type→A7,wpAny_call_entry→Bb,wpAny_holding→Bf,wpAny_truthy_bool→Bl,wpAny_field→Bm,wpAny_mono→Br,wpAny_typeNameOfWhole_keyiter→BF,wpAny_seqItems→BI,wpAny_setField_rec→BO,wpAny_passesOwn→BP,wpAny_getItem_str_slice→B5,tupleKind_room_in1→B8,wpAny_notOrdered_dict→Cj,post_val_or_str→Cs,wpAny_typeOf→Cw,wpAny_rule→CD,wpAny_dictEntries→CJ,wpAny_pyNext_list_item→CL,plainId_quiet→CP,wpAny_pyNext_list_end→CQ,wpAny_execs_nil→CW,call_meets→C3,pushCells_keeps→C4,wpAny_updateSeq_pair→C9,codeAny_builtin→Da,wpAny_setField→Dk,sizeLine_eq→Dm,wpAny_Call_Name_kw→Dp,wpAny_standAt→Dt,wpAny_attempt→Dw,wpAny_onRaise→Dx,wpAny_pyIter_list→DC,wpAny_pyNext_tuple_item→DU,wpAny_Call_method0_late→DY,wpAny_dictEpoch→D5,wpAny_pyNext_tuple_end→D6,wpAny_letGo→Ee,wpAny_isTrue_Compare1→Eg,builtinLookup_eq_fast→El,wpAny_isOneOf_keyiter→Eo,wpAny_pyIter_keyiter→EA,wpAny_newList→EF,evalArgs_none→EH,wpAny_dictSet_pairs→EK,codeAny_mono→ER,call_meetsIn→ET,seqIndex_neg→EV,sub_AttributeError→EX,wpAny_assign_Name→EY,wpAny_sequenceKey→Fc,wpAny_pyIter_enum→Fi,seqIndex_of→Fm,wpAny_Name→Fw,typeIs_str→Fy,call→Fz
open Option renaming bind_some→Ab,map_some→Ay,map_none→Dc,isNone_none→Dr,isSome_map→DD,getD_some→DN,isSome_some→ES,getD_none→Fo,bind→F6
open PySem.W renaming Frag→Ac,mg_none_of→AV,nsIn→A8,fnOf→BK,keepIn→BU,codeIn→CF,kas_ask→C8,mg_of→Dz,methodObj→DB,OpenLaw→D2,cellsFrom_some→D7,kat_list_sort→Er,KitAt→ED,kitx_list→Ff,kitx_dict→Fg,kat_kind→Fv,kat_one→FD,KatTups→FE,kitOne→FN,KatLex→FO,kat_lt→FP,KdlSrc→FQ,WalkO→FW
open PySem.Heap renaming get?_push_of_some→Ad,lt_size→Al,get?_push_size→Aq,size_push→Bz,SameBut→BW,get?_update_self→CT,get?_update_other→Eb,ExtBut→Ed,get?_none_of_le→Eu
open Nat renaming le_refl→Af,ne_of_lt→Aw,lt_of_lt_of_le→AB,le_trans→AF,lt_irrefl→AX,zero_le→Bc,le_of_lt→BJ,lt_of_le_of_lt→BL,sub_self→BM,le_of_succ_le→BR,lt_trans→BX,le_add_right→B1,succ_le_succ→Cm,not_lt_zero→Cu,le_of_lt_succ→CK,ne_of_gt→CY,add_le_add_left→Df,min_le_right→DL,lt_succ_of_lt→Fe,le_succ→Fn,lt_succ_self→Fp,min_le_left→FA
open List renaming mem_cons_of_mem→Ag,getElem?_eq_getElem→Ah,append_nil→Ai,getElem?_cons_zero→Aj,length_map→Ak,mem_cons_self→Am,append_assoc→An,map_cons→Ao,getD_eq_getElem?_getD→Ap,getElem?_append_left→Ar,getElem?_cons_succ→As,size_toArray→Au,getElem?_map→AD,length_cons→AE,getElem?_set_ne→AH,mem_append_right→AI,length_append→AJ,getElem?_append_right→AK,mem_append_left→AL,range→AN,not_mem_nil→AS,getElem?_set_self→AY,find?_cons→AZ,mem_cons→Ba,length_nil→Bg,lookup_cons→Bj,mem_of_getElem?→Bo,map_nil→Bq,toArray→Bv,length_singleton→By,map_map→BC,any_cons→BE,length_take→BG,replicate→BV,getElem_mem→B0,getElem?_replicate→B3,pairwise_mergeSort→B6,zip_cons_cons→B9,map_append→Cc,eq_nil_of_length_eq_zero→Ce,length_replicate→Ci,nodup_cons→Cr,forIn_nil→CG,nodup_append→CH,length_range→CI,eraseIdxIfInBounds_toArray→CV,of_mem_zip→CZ,length_set→C1,filterMap_cons→De,getElem_of_mem→Dg,getElem?_range→Dh,mergeSort_perm→Di,map_congr_left→Dj,all_cons→Dy,getElem?_set→DE,drop_eq_getElem_cons→DH,length_drop→DM,all_nil→DP,take_length→DR,forIn_cons→D3,drop_eq_nil_of_le→Ec,getElem?_toArray→Eh,countP_mono_left→Ei,dropLast_eq_take→Ep,set_append_right→Et,length→Fk,all_eq_true→Fq,countP_cons→Fs,getElem_map→Ft,zipIdx_cons→Fu,zipIdx_nil→FG,length_zip→FH,range_succ→FJ,drop_zero→FM,zip_map→F3
open Bool renaming and_eq_true→Av,false_ne_true→AU,false_eq_true→Bi,true_and→DA,not_eq_true'→DG,and_true→EE,eq_iff_iff→FB,false_or→FV,not_true→FZ,and_self→F0
open Option.some renaming inj→Ax
open Or renaming inr→Az,inl→AA
open PySem.NameKind renaming free→AG,cell→AR
open PySem.Value renaming ref→AM,none→Bn,bool→CC,int→EM,str→EN,isStrOf→FU,builtin→FX,isInt→F4
open PySem.Builtin.SmallTypes renaming nextOf→AO,ownedTupleIsFree→Bs,ownedTupleHandOut→CB
open PySem.PassesOwn renaming never→AW
open Int renaming toNat_of_nonneg→A1,toNat_natCast→BD,emod_nonneg→Ca,emod_lt_of_pos→Cb,le_refl→CN,le_trans→C6,le_of_lt→C7,le_antisymm→FC,natCast_add→FL
open PySem.PyData renaming eqv→A9,eqvAll→Bw,canLay0→BH,strOk→BZ,canLayAll0→Cf,depth→Cz,depthAll→D4,int→EC
open PySem.Builtin.Str renaming occurrences→Be
open PySem.Builtin.Int renaming intBits→Bk
open PySem.Paired renaming length→Bp,snoc→F5
open PyProof.Rows renaming callWith_type1→Bt,slot_tuple_getitem→BA,slot_tupleiter_next→Co,assignInOrder_cons→Do,intBits_le→D0,subscriptTail_builtinR→Ea,tuples'→Ex,entry_tupleiter_next→Ez,entry_tuple_getitem→EG,args_tupleiter_next→EJ,lt_int→EL,args_tuple_getitem→EU,assignInOrder_nil→EZ,Subscript_→Fx,Fr→FI,mul_int→FR
open Array renaming length_toList→Bu,getD_eq_getD_getElem?→BN,getElem?_toList→BQ,toList→F1
open Ne renaming symm→Bx
open PySem.Str renaming ofString→BB
open PySem.Builtin.Slice renaming slicePlaces→BS,sliceAdjust→Cq,sliceApplied→Du
open PySem.Builtin.Tuple renaming tupleExact→BY,tupleItemsOf→Dv
open PySem.AutoSeq1 renaming wpAny_loadPart'→B2
open PySem.F renaming plainAttrs_list→B4,slot_dict_get→CS,args_tuple_add_2→DK,args_dict_get_2→DV,plainAttrs_dict→DW,entry_tuple_add→DX,slot_dict_items→DZ,entry_dict_get→D8,slot_tuple_add→D9,slot_list_pop→Em,type_list_pop→En
open PySem.Builtin.Dict renaming updateFrom→B7,showsAll→CU,addKeywords→DQ,selfAndRest→DS,pairItems→Ef
open PySem.Calls renaming callWith_builtin→Cd,call_function_entry→Cv,Name_function_global→Ds,evalArgs_plain→Ew,spliced_cons→EO,spliced_nil→Fb
open Sum renaming inr→Cg,inl→DJ
open PySem.Obj renaming mapSeq→Ck,data_mapFields→CA,isFreed_of_fields→Ek,cls_mapFields→Fh,mapFields→FY
open PySem.Around renaming under_plainId→Cn
open PySem.Heap.SameBut renaming update→Cp
open Array.Perm renaming refl→Ct
open PySem.Builtin.List renaming listTooLong→Cy
open Prod.mk renaming inj→CM
open List.cons renaming inj→CO
open True renaming intro→C0
open ForInStep renaming yield→C5
open PySem.Builtin.Dict_items renaming ownsTuple→Dl
open PySem.SeqAt.EqAt renaming int_int→Dq
open Classical renaming byContradiction→DI
open PySem.Txt renaming slice_le→DO,slice→FS
open Nat.succ renaming inj→DT
open PySem.Heap.DictOf renaming new→D1
open PySem.Heap.IsList renaming «at»→Ej
open PySem.W.Looks renaming of_pure→Es
open PySem.W.KatTups renaming cons→Ey,nil→EI
open PySem.W.KasFin renaming intro→EB
open PySem.Heap.IsListIter renaming «at»→EW
open List.Pairwise renaming nil→Fd
open PySem.W.UpdF renaming head→Fj
open PySem.Heap.IsSliceOf renaming new→F7
set_option Elab.async false
set_option linter.all false
namespace L2
open PySem PySem.Spec PyProof.Rows
noncomputable abbrev Key:=Sum Int Str
noncomputable def zl0:Key->Value->Bool
 | .inl k,v=>F4 k v
 | .inr x,v=>FU x v
noncomputable def keyH(w:World):Key->Int
 | .inl k=>hashInt k
 | .inr x=>hashStr w x
theorem zaT:∀ {k:Key} {v:Value},zl0 k v=true->(∃ i t,k=DJ i/\v=EM i t)\/(∃ x t,k=Cg x/\v=EN x t)
 | .inl i,v,h=>by
   obtain⟨t,e⟩:=Value.isInt_shape (k:=i) (v:=v) h;exact .inl ⟨i,t,rfl,e⟩
 | .inr x,v,h=>by
   obtain⟨t,e⟩:=Value.isStrOf_shape (x:=x) (v:=v) h;exact .inr ⟨x,t,rfl,e⟩
theorem zjE(i:Int)(t:Tok):zl0 (.inl i) (.int i t)=true:=by simp[zl0,F4]
theorem zjD(x:Str)(t:Tok):zl0 (.inr x) (.str x t)=true:=by simp[zl0,FU]
theorem zqg(a b:Int):decide ((DJ a:Key)=DJ b)=(a==b):=by
 by_cases e:a=b
 . subst e;simp
 . have h:¬ (DJ a:Key)=DJ b:=fun q=>e (Sum.inl.inj q);rw[decide_eq_false h];exact (beq_eq_false_iff_ne.mpr e).symm
theorem zqd(a b:Str):decide ((Cg a:Key)=Cg b)=decide (a=b):=by
 by_cases e:a=b
 . subst e;simp
 . have h:¬ (Cg a:Key)=Cg b:=fun q=>e (Sum.inr.inj q);rw[decide_eq_false h,decide_eq_false e]
theorem zqf(a:Int)(b:Str):decide ((DJ a:Key)=Cg b)=false:=decide_eq_false (fun q=>nomatch q)
theorem zqe(a:Str)(b:Int):decide ((Cg a:Key)=DJ b)=false:=decide_eq_false (fun q=>nomatch q)
noncomputable def zay(prog:Program)(w:World):PySem.KeyKind prog w Key where
 is:=zl0
 hash:=keyH w
 inj:=fun v a b ha hb=>by
   rcases zaT ha with ⟨i,t,rfl,rfl⟩ | ⟨x,t,rfl,rfl⟩
   . rcases zaT hb with ⟨j,u,rfl,e⟩ | ⟨y,u,rfl,e⟩
     . injection e with e1 _;rw[e1]
     . exact nomatch e
   . rcases zaT hb with ⟨j,u,rfl,e⟩ | ⟨y,u,rfl,e⟩
     . exact nomatch e
     . injection e with e1 _;rw[e1]
 byValue:=fun k v h=>by
   rcases zaT h with ⟨i,t,rfl,rfl⟩ | ⟨x,t,rfl,rfl⟩ <;> rfl
 pyHash:=fun hv h=>by
   rcases zaT hv with ⟨i,t,rfl,rfl⟩ | ⟨x,t,rfl,rfl⟩
   . exact wpAny_pyHash_int h
   . exact wpAny_pyHash_str h
 eqBool:=fun hu hv h=>by
   rcases zaT hu with ⟨i,t,rfl,rfl⟩ | ⟨x,t,rfl,rfl⟩
   . rcases zaT hv with ⟨j,u,rfl,rfl⟩ | ⟨y,u,rfl,rfl⟩
     . rw[zqg] at h;exact wpAny_eqBool_int h
     . rw[zqf] at h;exact SeqAt.EqAt.int_str i t y u _ _ _ _ h
   . rcases zaT hv with ⟨j,u,rfl,rfl⟩ | ⟨y,u,rfl,rfl⟩
     . rw[zqe] at h;exact SeqAt.EqAt.str_int x t j u _ _ _ _ h
     . rw[zqd] at h;exact wpAny_eqBool_str h
 «strs»:=fun k x t v h=>by
   rcases zaT h with ⟨i,u,rfl,e⟩ | ⟨y,u,rfl,e⟩
   . exact nomatch e
   . injection e with e1 _
     subst e1
     cases v <;> rfl
theorem zic(prog:Program)(w:World)(k:Key)(v:Value):(zay prog w).is k v=zl0 k v:=rfl
theorem zg0(prog:Program)(w:World)(i:Int)(t:Tok):(zay prog w).is (.inl i) (.int i t)=true:=zjE i t
theorem zgZ(prog:Program)(w:World)(x:Str)(t:Tok):(zay prog w).is (.inr x) (.str x t)=true:=zjD x t
inductive V where
 | non | bl (b:Bool) | int (i:Int) | str (x:Str) | byt (b:Array UInt8) | flt (b:UInt64) | ref (a:Addr) | ty (n:String)
 deriving DecidableEq
noncomputable def RelV:V->Value->Prop
 | .non,u=>u=Bn
 | .bl b,u=>u=CC b
 | .int i,u=>∃ t,u=EM i t
 | .str x,u=>∃ t,u=EN x t
 | .byt b,u=>∃ t,u=Value.bytes b t
 | .flt b,u=>∃ t,u=Value.float b t
 | .ref a,u=>u=AM a
 | .ty n,u=>u=Value.type n
noncomputable abbrev Vals:List V->List Value->Prop:=Paired RelV
theorem Vals.length{xs:List V}{us:List Value}(r:Vals xs us):xs.length=us.length:=Bp r
theorem Vals.get:∀ {xs:List V} {us:List Value} {i:Nat} {x:V},Vals xs us->xs[i]?=some x->∃ u,us[i]?=some u/\RelV x u
 | _,_,_,_,.nil,e=>by simp at e
 | _,_,0,_,.cons r _,e=>by simp at e;subst e;exact⟨_,rfl,r⟩
 | _,_,i+1,x,.cons _ t,e=>by
   obtain⟨u,h1,h2⟩:=Vals.get (i:=i) (x:=x) t (by simpa using e);exact⟨u,by simpa using h1,h2⟩
theorem Vals.set{x:V}{u:Value}(r:RelV x u):∀ {xs:List V} {us:List Value} (i:Nat),Vals xs us->Vals (xs.set i x) (us.set i u)
 | _,_,_,.nil=>.nil
 | _,_,0,.cons _ t=>.cons r t
 | _,_,i+1,.cons q t=>.cons q (Vals.set r i t)
theorem Vals.append:∀ {xs ys:List V} {us ws:List Value},Vals xs us->Vals ys ws->Vals (xs++ys) (us++ws)
 | _,_,_,_,.nil,s=>s
 | _,_,_,_,.cons r t,s=>.cons r (Vals.append t s)
theorem Vals.take:∀ {xs:List V} {us:List Value} (n:Nat),Vals xs us->Vals (xs.take n) (us.take n)
 | _,_,0,_=>.nil
 | _,_,_+1,.nil=>.nil
 | _,_,n+1,.cons r t=>.cons r (Vals.take n t)
theorem Vals.drop:∀ {xs:List V} {us:List Value} (n:Nat),Vals xs us->Vals (xs.drop n) (us.drop n)
 | _,_,0,r=>r
 | _,_,_+1,.nil=>.nil
 | _,_,n+1,.cons _ t=>Vals.drop n t
noncomputable def RelO:Option V->Option Value->Prop
 | some v,some u=>RelV v u
 | none,none=>True
 | _,_=>False
noncomputable def KV{κ:Type}:List (κ×V)->List (κ×Value)->Prop:=Paired fun (p:κ×V) (q:κ×Value)=>p.1=q.1/\RelV p.2 q.2
noncomputable def kV:Key->V
 | .inl i=>.int i
 | .inr x=>.str x
inductive HO where
  | lst (xs:List V)
  | tup (xs:List V)
  | dK (kvs:List (Key×V)) | dT (kvs:List (List Key×V))
  | set (S:Int->Bool) (n:Nat)
  | ins (C dx:Addr) (fs:List (Str×V))
  | own (x:Addr)
  | xd (fs:List (Str×V))
  | met (f x:Addr)
  | rng (lo hi:Int)
  | frz (o:Obj) (u:HO)
  | tbl (ps:Array Value)
  | ext (φ:Heap->Prop)
noncomputable abbrev Hp:=Addr->Option HO
noncomputable def upd(H:Hp)(a:Addr)(o:HO):Hp:=fun b=>if b=a then some o else H b
theorem zba{H:Hp}{a:Addr}{o:HO}:upd H a o a=some o:=by unfold upd;rw[if_pos rfl]
theorem zaA{H:Hp}{a b:Addr}{o:HO}(h:b≠a):upd H a o b=H b:=by unfold upd;rw[if_neg h]
theorem zpV{H:Hp}{a b:Addr}{o u:HO}(h:H a=some o)(h':H b=some u)(d:o≠u):a≠b:=by
 intro e;subst e;rw[h] at h';exact d (Ax h')
theorem zaq{H:Hp}{a b:Addr}{o:HO}(h:H a=some o)(h':H b=none):a≠b:=by
 intro e;subst e;rw[h] at h';cases h'
def zcE(h:Heap)(a:Addr)(items:Array Value):Prop:=∃ o,h.get? a=some o/\o.cls=.type "tuple"/\o.dict=none/\∃ n,o.data=.seq items n
theorem zcE.t{h:Heap}{a:Addr}{items:Array Value}(x:zcE h a items):IsTup h a items:=let ⟨o,ho,hc,_,r⟩:=x;⟨o,ho,hc,r⟩
theorem zcE.keeps{h h':Heap}{a:Addr}{items:Array Value}(x:zcE h a items)(hk:∀ b o,h.get? b=some o->h'.get? b=some o):zcE h' a items:=let ⟨o,ho,r⟩:=x;⟨o,hk a o ho,r⟩
theorem zcE.new(h:Heap)(items:Array Value):zcE (h.push { cls:=.type "tuple",data:=.seq items }) h.objs.size items:=⟨_,Aq _ rfl,rfl,rfl,0,rfl⟩
section
variable (P:Program) (w:World)
noncomputable def zcD(H:Hp)(h:Heap)(a:Addr):HO->Prop
 | .lst xs=>xs.length<=sizeLine/\∃ (its:List Value) (n:Nat),Vals xs its/\h.get? a=some { cls:=.type "list",data:=.seq its.toArray n }
 | .tup xs=>xs.length<=sizeLine/\∃ its:List Value,Vals xs its/\zcE h a its.toArray
 | .dK kvs=>kvs.length<=sizeLine/\(a==sysModules)=false/\∃ vs,KV kvs vs/\h.DictOf (zay P w) a vs
 | .dT kvs=>kvs.length<=sizeLine/\(a==sysModules)=false/\∃ xs:List (List Key×Addr×Value),
     Paired (fun (p:List Key×V) (q:List Key×Addr×Value)=>p.1=q.1/\H q.2.1=some (.tup (p.1.map kV))/\RelV p.2 q.2.2) kvs xs /\
     ∃ o es ep,h.get? a=some o/\o.ExactDict/\o.data=.dict es ep/\es.toList=xs.map (entryOfKey (tupleKind (zay P w)))/\(xs.map (·.1)).Nodup
 | .set S n=>h.SetOf (intKind P w) a S n
 | .ins C dx fs=>H dx=some (.own a)/\fs.length<=1000/\dx≠a/\h.get? a=some (PySem.W.instObj C dx) /\
     ∃ mA,h.Ns1 dx mA/\(∀ f,RelO (fs.lookup f) (mA f))/\PySem.Within mA (fs.map (·.1))
 | .own _=>∃ o,h.get? a=some o
 | .xd fs=>∃ mA,h.Ns1 a mA/\∀ f,RelO (fs.lookup f) (mA f)
 | .rng lo hi=>∃ t u v,h.get? a=some { cls:=.type "range",data:=.fields #[.int lo t,.int hi u,.int 1 v] }
 | .frz o u=>h.get? a=some o/\zcD H h a u
 | .tbl ps=>h.get? a=some { cls:=.none,data:=.fields ps }
 | .met f x=>h.get? a=some (DB (.ref f) (.ref x))
 | .ext φ=>φ h/\(∃ o,h.get? a=some o)/\∀ h1 h2:Heap,φ h1->(∀ o,h1.get? a=some o->h2.get? a=some o)->φ h2
def HOk(H:Hp)(h:Heap):Prop:=∀ a o,H a=some o->zcD P w H h a o
end
section
variable {P:Program} {w:World} {H H':Hp} {h h':Heap} {a:Addr} {o:HO}
theorem zcD.lt(x:zcD P w H h a o):a < h.objs.size:=by
 cases o with
 | lst xs=>obtain⟨_,_,_,_,e⟩:=x;exact Al e
 | tup xs=>obtain⟨_,_,_,p⟩:=x;exact p.t.lt
 | dK kvs=>obtain⟨_,_,_,_,o,_,_,e,_⟩:=x;exact Al e
 | dT kvs=>obtain⟨_,_,_,_,o,_,_,e,_⟩:=x;exact Al e
 | set S n=>obtain⟨o,_,_,_,e,_⟩:=x;exact Al e
 | ins C dx fs=>obtain⟨_,_,_,e,_⟩:=x;exact Al e
 | own y=>obtain⟨_,e⟩:=x;exact Al e
 | xd fs=>obtain⟨_,⟨_,_,_,e,_⟩,_⟩:=x;exact Al e
 | rng lo hi=>obtain⟨_,_,_,e⟩:=x;exact Al e
 | frz ob u=>obtain⟨e,_⟩:=x;exact Al e
 | tbl ps=>exact Al (show h.get? a=some _ from x)
 | met f y=>exact Al (show h.get? a=some _ from x)
 | ext φ=>obtain⟨_,⟨_,e⟩,_⟩:=x;exact Al e
theorem Paired.mapP{α β:Type}{F G:α->β->Prop}:∀ {l₁:List α} {l₂:List β},Paired F l₁ l₂->(∀ a b,F a b->G a b)->Paired G l₁ l₂
 | _,_,.nil,_=>.nil
 | _,_,.cons r t,f=>.cons (f _ _ r) (Paired.mapP t f)
theorem zcD.stay(x:zcD P w H h a o)(k:∀ b u,(b=a\/H b=some (.own a))->h.get? b=some u->h'.get? b=some u)
   (ho:∀ b,H b=some (.own a)->H' b=some (.own a)) (ht:∀ b xs,H b=some (.tup xs)->H' b=some (.tup xs)):zcD P w H' h' a o:=by
 induction o with
 | lst xs=>obtain⟨z,its,n,r,e⟩:=x;exact⟨z,its,n,r,k _ _ (.inl rfl) e⟩
 | tup xs=>obtain⟨z,its,r,ob,e,c⟩:=x;exact⟨z,its,r,ob,k _ _ (.inl rfl) e,c⟩
 | dK kvs=>obtain⟨z,y,vs,r,ob,es,ep,e,c⟩:=x;exact⟨z,y,vs,r,ob,es,ep,k _ _ (.inl rfl) e,c⟩
 | dT kvs =>
   obtain⟨z,y,xs,r,ob,es,ep,e,c⟩:=x;exact⟨z,y,xs,Paired.mapP r fun p q z=>⟨z.1,ht _ _ z.2.1,z.2.2⟩,ob,es,ep,k _ _ (.inl rfl) e,c⟩
 | set S n=>obtain⟨ob,es,ep,t,e,c⟩:=x;exact⟨ob,es,ep,t,k _ _ (.inl rfl) e,c⟩
 | ins C dx fs =>
   obtain⟨d,z,ne,e,mA,⟨od,es,ep,e2,c⟩,r⟩:=x;exact⟨ho _ d,z,ne,k _ _ (.inl rfl) e,mA,⟨od,es,ep,k _ _ (.inr d) e2,c⟩,r⟩
 | own y=>obtain⟨ob,e⟩:=x;exact⟨ob,k _ _ (.inl rfl) e⟩
 | xd fs=>obtain⟨mA,⟨od,es,ep,e,c⟩,r⟩:=x;exact⟨mA,⟨od,es,ep,k _ _ (.inl rfl) e,c⟩,r⟩
 | rng lo hi=>obtain⟨t,u,v,e⟩:=x;exact⟨t,u,v,k _ _ (.inl rfl) e⟩
 | frz ob u ih=>obtain⟨e,q⟩:=x;exact⟨k _ _ (.inl rfl) e,ih q⟩
 | tbl ps =>
   have e:h.get? a=some { cls:=.none,data:=.fields ps }:=x;show h'.get? a=some { cls:=.none,data:=.fields ps };exact k a _ (.inl rfl) e
 | met f y =>
   have e:h.get? a=some (DB (.ref f) (.ref y)):=x;show h'.get? a=some (DB (.ref f) (.ref y));exact k a _ (.inl rfl) e
 | ext φ=>obtain⟨p,⟨o,e⟩,st⟩:=x;exact⟨st _ _ p fun o q=>k _ _ (.inl rfl) q,⟨o,k _ _ (.inl rfl) e⟩,st⟩
theorem HOk.lt(x:HOk P w H h)(e:H a=some o):a < h.objs.size:=(x a o e).lt
theorem HOk.fresh(x:HOk P w H h)(e:h.objs.size<=a):H a=none:=by
 cases q:H a with
 | none=>rfl
 | some u=>exact absurd (AB (x.lt q) e) (AX _)
theorem HOk.kept(x:HOk P w H h)(k:∀ b u,h.get? b=some u->h'.get? b=some u):HOk P w H h':=fun a o e =>
 (x a o e).stay (fun b u _ q=>k b u q) (fun _ q=>q) fun _ _ q=>q
theorem HOk.laid(x:HOk P w H h)(k:∀ b u,h.get? b=some u->h'.get? b=some u)(hp:h.objs.size<=a)(new:zcD P w (upd H a o) h' a o):HOk P w (upd H a o) h':=fun b u e=>by
 have hn:=x.fresh hp
 by_cases hb:b=a
 . subst hb;rw[zba] at e;cases e;exact new
 . rw[zaA hb] at e;exact (x b u e).stay (fun c v _ q=>k c v q) (fun c q=>by rw[zaA (zaq q hn)];exact q) fun c xs q=>by rw[zaA (zaq q hn)];exact q
end
def Rd(H:Hp)(a:Addr)(u:HO):Prop:=H a=some u\/∃ o,H a=some (.frz o u)
theorem Rd.ok{P:Program}{w:World}{H:Hp}{h:Heap}{a:Addr}{u:HO}(r:Rd H a u)(x:HOk P w H h):zcD P w H h a u:=by
 rcases r with r | ⟨o,r⟩
 . exact x a u r
 . obtain⟨_,q⟩:=x a _ r;exact q
noncomputable def Mut:Option HO->Prop
 | some (.lst _)=>True
 | some (.dK _)=>True
 | some (.dT _)=>True
 | some (.set _ _)=>True
 | some (.ins _ _ _)=>True
 | some (.ext _)=>True
 | _=>False
section
variable {P:Program} {w:World} {H:Hp} {h h':Heap} {x e:Addr} {o':HO}
theorem HOk.write(ok:HOk P w H h)(mu:Mut (H x))(he:e=x\/H e=some (.own x))(k:∀ b u,b≠e->h.get? b=some u->h'.get? b=some u)(heo:∃ u,h'.get? e=some u)
   (new:zcD P w (upd H x o') h' x o'):HOk P w (upd H x o') h':=fun b u q=>by
 have nown:∀ c y,H c=some (.own y)->c≠x:=fun c y r z=>by subst z;rw[r] at mu;exact mu
 have ntup:∀ c xs,H c=some (.tup xs)->c≠x:=fun c xs r z=>by subst z;rw[r] at mu;exact mu
 by_cases hb:b=x
 . subst hb;rw[zba] at q;cases q;exact new
 . rw[zaA hb] at q
   by_cases hbe:b=e
   . have q':H b=some (.own x):=by
       rcases he with z | z
       . exact absurd (hbe.trans z) hb
       . rw[hbe];exact z
     rw[q] at q';cases q';obtain⟨v,hv⟩:=heo;exact⟨v,by rw[hbe];exact hv⟩
   . refine (ok b u q).stay (fun c v hc r=>k c v ?_ r) (fun c r=>by rw[zaA (nown c b r)];exact r) fun c xs r=>by rw[zaA (ntup c xs r)];exact r
     rcases hc with rfl | hc
     . exact hbe
     . rintro rfl
       rcases he with z | z
       . exact nown c b hc z
       . rw[hc] at z;cases z;exact hb rfl
end
structure Un(fs ex:List Addr)(H H':Hp)(h h':Heap):Prop where
 keep:∀ b o,h.get? b=some o->H b=none->b ∉ fs->b ∉ ex->h'.get? b=some o
 slot:∀ b o,h.get? b=some o->H b=none->b∈fs->b ∉ ex->∃ sl,h'.get? b=some { o with slots:=sl }
 free:∀ b o,h.get? b=some o->H b=none->b ∉ ex->H' b=none
 there:∀ b o,h.get? b=some o->b ∉ ex->∃ o',h'.get? b=some o'
 tups:∀ b xs,H b=some (.tup xs)->H' b=some (.tup xs)
 frzs:∀ b o u,H b=some (.frz o u)->H' b=some (.frz o u)
 tbls:∀ b ps,H b=some (.tbl ps)->∃ more,H' b=some (.tbl (ps++more))
section
variable {fs fs' ex ex':List Addr} {H H1 H2:Hp} {h h1 h2 h':Heap} {a x e:Addr} {o:HO}
theorem Un.any(u:Un fs ex H H1 h h1){b:Addr}{ob:Obj}(q:h.get? b=some ob)(n:H b=none)(hx:b ∉ ex):∃ sl,h1.get? b=some { ob with slots:=sl }:=by
 by_cases hb:b∈fs
 . exact u.slot b ob q n hb hx
 . exact⟨ob.slots,u.keep b ob q n hb hx⟩
theorem Un.kept(k:∀ b u,h.get? b=some u->h'.get? b=some u):Un fs ex H H h h' :=
 ⟨fun b ob q _ _ _=>k b ob q,fun b ob q _ _ _=>⟨ob.slots,k b ob q⟩,fun _ _ _ n _=>n,fun b ob q _=>⟨ob,k b ob q⟩,fun _ _ q=>q,fun _ _ _ q=>q,fun _ ps q=>⟨#[],by rw[q];simp⟩⟩
theorem Un.refl:Un fs ex H H h h:=Un.kept fun _ _ q=>q
theorem Un.laid(k:∀ b u,h.get? b=some u->h'.get? b=some u)(hp:h.objs.size<=a)(hn:H a=none):Un fs ex H (upd H a o) h h' where
 keep:=fun b u q _ _ _=>k b u q
 slot:=fun b u q _ _ _=>⟨u.slots,k b u q⟩
 free:=fun b u q n _=>by rw[zaA (Aw (AB (Al q) hp))];exact n
 there:=fun b u q _=>⟨u,k b u q⟩
 tups:=fun b xs q=>by rw[zaA (zaq q hn)];exact q
 frzs:=fun b u xs q=>by rw[zaA (zaq q hn)];exact q
 tbls:=fun b ps q=>⟨#[],by rw[zaA (zaq q hn),q];simp⟩
theorem Un.write(mu:Mut (H x))(he:e=x\/H e=some (.own x))(k:∀ b u,b≠e->h.get? b=some u->h'.get? b=some u)(heo:∃ u,h'.get? e=some u):Un fs ex H (upd H x o) h h':=by
 have hx:∀ b,H b=none->b≠x:=fun b n z=>by subst z;rw[n] at mu;exact mu
 have hb:∀ b,H b=none->b≠e:=fun b n z=>by
   subst z
   rcases he with r | r
   . exact hx b n r
   . rw[n] at r;cases r
 have hm:∀ b u,H b=some u->¬ Mut (some u)->b≠x:=fun b u q nm z=>by subst z;rw[q] at mu;exact nm mu
 refine⟨fun b u q n _ _=>k b u (hb b n) q,fun b u q n _ _=>⟨u.slots,k b u (hb b n) q⟩,fun b u q n _=>by rw[zaA (hx b n)];exact n,fun b u q _=>?_,
   fun b xs q=>by rw[zaA (hm b _ q fun z=>z)];exact q,fun b u xs q=>by rw[zaA (hm b _ q fun z=>z)];exact q,fun b ps q=>⟨#[],by rw[zaA (hm b _ q fun z=>z),q];simp⟩⟩
 by_cases hbe:b=e
 . subst hbe;exact heo
 . exact⟨u,k b u hbe q⟩
end
noncomputable def trk(h:Heap)(H:Hp):List Addr:=(AN h.objs.size).filter fun a=>(H a).isSome
noncomputable def hidT(h:Heap)(H:Hp):Heap:=PySem.W.hideAll h (trk h H)
theorem zjJ(h:Heap)(H:Hp):(hidT h H).objs.size=h.objs.size:=PySem.W.hideAll_size _ _
theorem zmb{h:Heap}{H:Hp}{b:Addr}{o:Obj}(e:h.get? b=some o)(n:H b=none):(hidT h H).get? b=some o :=
 PySem.W.hideAll_get _ e fun hm=>by
   have q:(H b).isSome=true:=(List.mem_filter.mp hm).2;rw[n] at q;simp at q
theorem znT{h:Heap}{H:Hp}{b:Addr}{o:Obj}(e:(hidT h H).get? b=some o):h.get? b=some o/\H b=none:=by
 have e':h.get? b=some o:=PySem.W.of_hideAll (trk h H) e;refine⟨e',?_⟩
 cases q:H b with
 | none=>rfl
 | some x =>
   have hm:b∈trk h H:=List.mem_filter.mpr ⟨List.mem_range.mpr (Al e'),by simp[q]⟩;have z:(hidT h H).get? b=none:=PySem.W.hideAll_none (trk h H) hm;rw[z] at e;cases e
noncomputable def zcC(g h:Heap)(L:Addr):List (Addr×Obj):=(AN h.objs.size).filterMap fun a=>if a=L\/(g.get? a).isSome=true then none else (h.get? a).map fun o=>(a,o)
theorem zdV{g h:Heap}{L a:Addr}{o:Obj}(h1:a≠L)(h2:g.get? a=none)(h3:h.get? a=some o):(a,o)∈zcC g h L :=
 List.mem_filterMap.mpr ⟨a,List.mem_range.mpr (Al h3),by simp[h1,h2,h3]⟩
theorem zej{g h:Heap}{L:Addr}{p:Addr×Obj}(hp:p∈zcC g h L):p.1≠L/\g.get? p.1=none/\h.get? p.1=some p.2:=by
 obtain⟨b,_,e⟩:=List.mem_filterMap.mp hp
 split at e
 . cases e
 . rename_i hn
   cases q:h.get? b with
   | none=>rw[q] at e;simp at e
   | some u =>
     rw[q] at e;simp only[Ay,Option.some.injEq] at e;subst e;refine⟨fun z=>hn (.inl z),?_,q⟩;show g.get? b=none
     cases r:g.get? b with
     | none=>rfl
     | some v=>exact (hn (.inr (by simp[r]))).elim
theorem zel{g h:Heap}{L:Addr}:News g L h (zcC g h L):=fun p hp=>let ⟨a,b,c⟩:=zej hp;⟨c,a,b⟩
structure Mod(K:Ac)(mg:Str->Option Value)(base:Heap):Prop where
 kin:K.In base
 glob:base.Ns mainGlobals mg
 blt:∃ mb,base.Ns builtinsNs mb/\∀ x:Str,x≠"__name__"->mb x=bootBuiltins x
 nolimit:base.NoLimit
structure Cx where
 prog:Program
 w:World
 K:Ac
 mg:Str->Option Value
 base:Heap
 A:Around
 N:List Str
 s₀:Shared
 H₀:Hp
 env:Env
 outer:List Env
 stack:List Env
 ex:List Addr
 fn:Str->Bool
 calm:Bool
 pn:List (Addr×Obj)
 xe:Value->Shared->Prop
noncomputable def frs(l:List Env):List Addr:=l.filterMap (·.frame)
noncomputable abbrev Cx.fs (X:Cx):List Addr:=frs X.outer
def Vis(sc:Scope)(x:Str):Prop:=sc.names.lookup x=some .local\/sc.names.lookup x=some .cell\/sc.names.lookup x=some .free
def Loc(sc:Scope)(x:Str):Prop:=sc.names.lookup x=some .local\/sc.names.lookup x=some .cell
def Look(env:Env)(h:Heap)(m:Str->Option Value)(x:Str)(u:Value):Prop :=
 (env.kindOf x=some .local/\m x=some u)\/((env.kindOf x=some .cell\/env.kindOf x=some .free)/\∃ c,env.cells.lookup x=some c/\h.IsCell c (some u))
structure Cx.Ok(X:Cx):Prop where
 mod:Mod X.K X.mg X.base
 kind:X.env.scope.kind=.function
 glob:X.env.globals=mainGlobals
 blt:X.env.builtins=builtinsNs
 above:X.s₀.heap.objs.size<=X.env.locals
 inj:∀ x y c,X.env.cells.lookup x=some c->X.env.cells.lookup y=some c->x=y
 has:∀ x,(X.env.kindOf x=some .cell\/X.env.kindOf x=some .free)->∃ c,X.env.cells.lookup x=some c
 cab:∀ x c,X.fn x=true->X.env.cells.lookup x=some c->X.s₀.heap.objs.size<=c
 hd:X.calm=true->X.A.handled=none
 frames:X.A.frames=some X.stack
 stk:X.stack=X.outer\/(X.stack=X.env::X.outer/\X.env.frame=some X.env.locals)
 exf:∀ b∈X.ex,b≠X.env.locals/\∀ x c,X.env.cells.lookup x=some c->c≠b
 bs:∀ b o,X.base.get? b=some o->X.s₀.heap.get? b=some o/\X.H₀ b=none
 bsz:X.base.objs.size<=X.s₀.heap.objs.size
 noex:∀ b o,X.base.get? b=some o->b ∉ X.ex
 exfs:∀ b∈X.ex,b ∉ X.fs
 funs:X.s₀.heap.FunFrames X.base X.outer
 frf:∀ b∈X.fs,X.H₀ b=none
structure Inv(X:Cx)(pins:List (Addr×Obj))(σ:List (Option V))(H:Hp)(s:Shared):Prop where
 ok:X.Ok
 os:s.os=X.s₀.os
 bare:AllBare s.gens
 base:Un X.fs X.ex X.H₀ H X.s₀.heap s.heap
 loc:∃ m,s.heap.Ns X.env.locals m/\∀ (i:Nat) (x:Str) (v:V),X.N[i]?=some x->σ[i]?=some (some v)->Vis X.env.scope x->∃ u,RelV v u/\Look X.env s.heap m x u
 cell:∀ x c,X.env.cells.lookup x=some c->∃ v,s.heap.IsCell c v
 free:H X.env.locals=none
 freeC:∀ x c,X.env.cells.lookup x=some c->H c=none
 pin:∀ p∈X.pn++pins,s.heap.get? p.1=some p.2/\H p.1=none/\p.1≠X.env.locals/\p.1 ∉ X.fs/\∀ v,p.2.data≠.cell v
 hok:HOk X.prog X.w H s.heap
 len:σ.length=X.N.length
section
variable {X:Cx} {pins:List (Addr×Obj)} {σ:List (Option V)} {H H':Hp} {s:Shared} {h':Heap}
theorem Cx.Ok.nofr(ok:X.Ok){b:Addr}{o:Obj}(e:X.base.get? b=some o):b ∉ X.fs:=fun hb=>by
 have:=(ok.funs.mem hb).1;rw[e] at this;cases this
theorem Inv.bs(I:Inv X pins σ H s):∀ b o,X.base.get? b=some o->s.heap.get? b=some o/\H b=none:=fun b o e =>
 ⟨I.base.keep b o (I.ok.bs b o e).1 (I.ok.bs b o e).2 (I.ok.nofr e) (I.ok.noex b o e),I.base.free b o (I.ok.bs b o e).1 (I.ok.bs b o e).2 (I.ok.noex b o e)⟩
theorem Inv.bk(I:Inv X pins σ H s):∀ b o,X.base.get? b=some o->s.heap.get? b=some o:=fun b o e=>(I.bs b o e).1
theorem Inv.mod(I:Inv X pins σ H s):Mod X.K X.mg X.base:=I.ok.mod
theorem Inv.kIn(I:Inv X pins σ H s):X.K.In s.heap:=I.ok.mod.kin.keeps I.bk
theorem Inv.fr(I:Inv X pins σ H s):∃ m,Fr X.base X.env.locals s.heap m :=
 let ⟨m,hn,_⟩:=I.loc
 ⟨m,hn,I.bk,AF I.ok.bsz I.ok.above⟩
theorem Inv.lt(I:Inv X pins σ H s):X.env.locals < s.heap.objs.size:=let ⟨_,hn,_⟩:=I.loc;hn.lt
theorem Inv.sz(I:Inv X pins σ H s):X.s₀.heap.objs.size<=s.heap.objs.size:=AF I.ok.above (BJ I.lt)
theorem Inv.nofs(I:Inv X pins σ H s){a:Addr}(h:s.heap.objs.size<=a):a ∉ X.fs:=fun hb=>by
 obtain⟨_,o,ho,_⟩:=I.ok.funs.mem hb;exact absurd (AB (Al ho) (AF I.sz h)) (AX _)
theorem Inv.cne(I:Inv X pins σ H s):∀ x c,X.env.cells.lookup x=some c->c≠X.env.locals:=fun x c e z=>by
 obtain⟨v,o,ho,hd⟩:=I.cell x c e;obtain⟨m,⟨o',es,ep,ho',hd',_⟩,_⟩:=I.loc;rw[z,ho'] at ho;cases ho;rw[hd'] at hd;cases hd
theorem Inv.funs(I:Inv X pins σ H s):s.heap.FunFrames X.base X.outer:=by
 have all:∀ (l:List Env),(∀ b∈frs l,b∈X.fs)->X.s₀.heap.FunFrames X.base l->s.heap.FunFrames X.base l:=by
   intro l
   induction l with
   | nil=>intro _ _;trivial
   | cons env r ih =>
     intro hs hl;obtain⟨hk,⟨L,o,hf,hn,ho,hd⟩,hr⟩:=hl;have hL:L∈X.fs:=hs L (by unfold frs;rw[De,hf];exact Am);obtain⟨sl,e⟩:=I.base.slot L o ho (I.ok.frf L hL) hL fun z=>I.ok.exfs L z hL;exact⟨hk,⟨L,_,hf,hn,e,hd⟩,ih (fun b hb=>hs b (by unfold frs;rw[De,hf];exact Ag _ hb)) hr⟩
 exact all X.outer (fun _ hb=>hb) I.ok.funs
theorem Inv.stack(I:Inv X pins σ H s):s.heap.FunFrames X.base X.stack:=by
 rcases I.ok.stk with e | ⟨e,hf⟩
 . rw[e];exact I.funs
 . rw[e];obtain⟨m,hn,_⟩:=I.loc;refine .cons (by rw[I.ok.kind];decide) hf hn ?_ I.funs;exact Eu (AF I.ok.bsz I.ok.above)
theorem Inv.stkSub(I:Inv X pins σ H s):∀ b∈frs X.stack,b∈X.env.locals::X.fs:=fun b hb=>by
 rcases I.ok.stk with e | ⟨e,hf⟩
 . rw[e] at hb;exact Ag _ hb
 . rw[e] at hb;unfold frs at hb;rw[De,hf] at hb;exact hb
theorem Inv.stkFree(I:Inv X pins σ H s):∀ b∈frs X.stack,H b=none:=fun b hb=>by
 rcases List.mem_cons.mp (I.stkSub b hb) with e | hb
 . rw[e];exact I.free
 . obtain⟨_,o,ho,_⟩:=I.ok.funs.mem hb;exact I.base.free b o ho (I.ok.frf b hb) fun z=>I.ok.exfs b z hb
theorem Inv.step{g':Array GenState}{t':Nat}{d':Drawn}{ch:List Addr}(I:Inv X pins σ H s)
   (hch:∀ b∈ch,(b∈X.ex\/X.s₀.heap.objs.size<=b)/\b≠X.env.locals/\(∀ x c,X.env.cells.lookup x=some c->c≠b)/\∀ p∈X.pn++pins,p.1≠b)
   (keep:∀ b o,b≠X.env.locals->b ∉ X.fs->b ∉ ch->s.heap.get? b=some o->H b=none->h'.get? b=some o)
   (slot:∀ b o,b≠X.env.locals->b∈X.fs->b ∉ ch->s.heap.get? b=some o->H b=none->∃ sl,h'.get? b=some { o with slots:=sl }) (free:∀ b o,b ∉ ch->s.heap.get? b=some o->H b=none->H' b=none)
   (there:∀ b o,b ∉ ch->s.heap.get? b=some o->∃ o',h'.get? b=some o')
   (tups:∀ b xs,H b=some (.tup xs)->H' b=some (.tup xs)) (frzs:∀ b o u,H b=some (.frz o u)->H' b=some (.frz o u)) (tbls:∀ b ps,H b=some (.tbl ps)->∃ more,H' b=some (.tbl (ps++more)))
   (ns:∀ m,s.heap.Ns X.env.locals m->h'.Ns X.env.locals m) (hok:HOk X.prog X.w H' h') (hg:AllBare g') :
   Inv X pins σ H' { s with heap:=h',gens:=g',drawn:=d',toks:=t' }:=by
 have neL:∀ b o,X.s₀.heap.get? b=some o->b≠X.env.locals:=fun b o e=>Aw (AB (Al e) I.ok.above);have neC:∀ b o,X.s₀.heap.get? b=some o->b ∉ X.ex->b ∉ ch:=fun b o e hx hb=>by
   rcases (hch b hb).1 with z | z
   . exact hx z
   . exact absurd (AB (Al e) z) (AX _)
 have cellK:∀ x c,X.env.cells.lookup x=some c->∀ v,s.heap.IsCell c v->h'.IsCell c v:=by
   rintro x c e v ⟨o,ho,hd⟩;have nch:c ∉ ch:=fun z=>(hch c z).2.2.1 x c e rfl
   by_cases hc:c∈X.fs
   . obtain⟨sl,q⟩:=slot c o (I.cne x c e) hc nch ho (I.freeC x c e);exact⟨_,q,hd⟩
   . exact⟨o,keep c o (I.cne x c e) hc nch ho (I.freeC x c e),hd⟩
 refine⟨I.ok,I.os,hg,⟨fun b o e n hb hx=>?_,fun b o e n hb hx=>?_,fun b o e n hx=>?_,fun b o e hx=>?_,fun b xs e=>tups b xs (I.base.tups b xs e),fun b o xs e=>frzs b o xs (I.base.frzs b o xs e),fun b ps e=>?_⟩,?_,fun x c e=>?_,?_,fun x c e=>?_,fun p hp=>?_,hok,I.len⟩
 . exact keep b o (neL b o e) hb (neC b o e hx) (I.base.keep b o e n hb hx) (I.base.free b o e n hx)
 . obtain⟨sl,e1⟩:=I.base.slot b o e n hb hx;obtain⟨sl',e2⟩:=slot b _ (neL b o e) hb (neC b o e hx) e1 (I.base.free b o e n hx);exact⟨sl',e2⟩
 . obtain⟨o',e1⟩:=I.base.there b o e hx;exact free b o' (neC b o e hx) e1 (I.base.free b o e n hx)
 . obtain⟨o',e1⟩:=I.base.there b o e hx;exact there b o' (neC b o e hx) e1
 . obtain⟨m1,e1⟩:=I.base.tbls b ps e;obtain⟨m2,e2⟩:=tbls b _ e1;exact⟨m1++m2,by rw[e2,Array.append_assoc]⟩
 . obtain⟨m,hn,hl⟩:=I.loc;refine⟨m,ns m hn,fun i x v e1 e2 e3=>?_⟩;obtain⟨u,r,l⟩:=hl i x v e1 e2 e3;refine⟨u,r,?_⟩
   rcases l with l | ⟨k,c,e,z⟩
   . exact .inl l
   . exact .inr ⟨k,c,e,cellK x c e _ z⟩
 . obtain⟨v,z⟩:=I.cell x c e;exact⟨v,cellK x c e v z⟩
 . obtain⟨m,⟨o,_,_,ho,_⟩,_⟩:=I.loc;exact free _ o (fun z=>(hch _ z).2.1 rfl) ho I.free
 . obtain⟨v,o,ho,hd⟩:=I.cell x c e;exact free c o (fun z=>(hch c z).2.2.1 x c e rfl) ho (I.freeC x c e)
 . obtain⟨e,n,ne,nf,d⟩:=I.pin p hp;have nch:p.1 ∉ ch:=fun z=>(hch p.1 z).2.2.2 p hp rfl;exact⟨keep p.1 p.2 ne nf nch e n,free p.1 p.2 nch e n,ne,nf,d⟩
theorem Inv.un{t':Nat}(I:Inv X pins σ H s)(u:Un X.fs [] H H' s.heap h')(hok:HOk X.prog X.w H' h'):Inv X pins σ H' { s with heap:=h',toks:=t' }:=by
 obtain⟨m,⟨o,es,ep,ho,r⟩,_⟩:=id I.loc;obtain⟨sl,hL⟩:=u.any ho I.free (by simp);exact I.step (g':=s.gens) (d':=s.drawn) (ch:=[]) (fun _ z=>nomatch z) (fun b o _ hb _ e n=>u.keep b o e n hb (by simp)) (fun b o _ hb _ e n=>u.slot b o e n hb (by simp)) (fun b o _ e n=>u.free b o e n (by simp)) (fun b o _ e=>u.there b o e (by simp)) u.tups u.frzs u.tbls (fun m' hm=>by
   obtain⟨o',es',ep',ho',r'⟩:=hm;rw[ho] at ho';cases ho';exact⟨_,es',ep',hL,r'⟩) hok I.bare
theorem Inv.call{g':Array GenState}{t':Nat}{d':Drawn}{ch:List Addr}(I:Inv X pins σ H s)(u:Un (frs X.stack) ch H H' s.heap h')(hok:HOk X.prog X.w H' h')(hg:AllBare g')
   (hch:∀ b∈ch,(b∈X.ex\/X.s₀.heap.objs.size<=b)/\b≠X.env.locals/\(∀ x c,X.env.cells.lookup x=some c->c≠b)/\∀ p∈X.pn++pins,p.1≠b) :
   Inv X pins σ H' { s with heap:=h',gens:=g',drawn:=d',toks:=t' }:=by
 obtain⟨m,⟨o,es,ep,ho,r⟩,_⟩:=id I.loc;obtain⟨sl,hL⟩:=u.any ho I.free fun z=>(hch _ z).2.1 rfl;exact I.step (ch:=ch) hch (fun b o hL hb hc e n=>u.keep b o e n (fun z=>(List.mem_cons.mp (I.stkSub b z)).elim hL hb) hc) (fun b o _ _ hc e n=>u.any e n hc) (fun b o hc e n=>u.free b o e n hc) (fun b o hc e=>u.there b o e hc) u.tups u.frzs u.tbls (fun m' hm=>by
   obtain⟨o',es',ep',ho',r'⟩:=hm;rw[ho] at ho';cases ho';exact⟨_,es',ep',hL,r'⟩) hok hg
theorem Inv.turned{t':Nat}{it:Addr}(I:Inv X pins σ H s)(k:∀ b o,b≠it->s.heap.get? b=some o->h'.get? b=some o)(hn:H it=none)(hL:it≠X.env.locals)
   (h1:it∈X.ex\/X.s₀.heap.objs.size<=it) (h2:∀ x c,X.env.cells.lookup x=some c->c≠it) (h3:∀ p∈X.pn++pins,p.1≠it):Inv X pins σ H { s with heap:=h',toks:=t' }:=by
 have nit:∀ b u,H b=some u->b≠it:=fun b u e z=>by rw[z,hn] at e;cases e
 refine I.step (g':=s.gens) (d':=s.drawn) (ch:=[it]) (fun b hb=>?_) (fun b o _ _ hc e _=>k b o (fun z=>hc (by simp[z])) e) (fun b o _ _ hc e _=>⟨o.slots,k b o (fun z=>hc (by simp[z])) e⟩) (fun _ _ _ _ n=>n)
   (fun b o hc e=>⟨o,k b o (fun z=>hc (by simp[z])) e⟩) (fun _ _ e=>e) (fun _ _ _ e=>e) (fun b ps e=>⟨#[],by rw[e];simp⟩) (fun m hm=>?_) (fun b u e=>?_) I.bare
 . have e:b=it:=by simpa using hb
   subst e;exact⟨h1,hL,h2,h3⟩
 . obtain⟨o,es,ep,ho,r⟩:=hm;exact⟨o,es,ep,k _ o (Bx hL) ho,r⟩
 . refine (I.hok b u e).stay (fun c v hc q=>k c v ?_ q) (fun _ q=>q) fun _ _ q=>q
   rcases hc with z | z
   . rw[z];exact nit b u e
   . exact nit c _ z
theorem Inv.tok(I:Inv X pins σ H s)(t:Nat):Inv X pins σ H { s with toks:=t }:=I.un (h':=s.heap) (t':=t) Un.refl I.hok
theorem Inv.kept{t':Nat}(I:Inv X pins σ H s)(k:∀ b u,s.heap.get? b=some u->h'.get? b=some u):Inv X pins σ H { s with heap:=h',toks:=t' }:=I.un (Un.kept k) (I.hok.kept k)
theorem Inv.laid{a:Addr}{o:HO}{t':Nat}(I:Inv X pins σ H s)(k:∀ b u,s.heap.get? b=some u->h'.get? b=some u)(hp:s.heap.objs.size<=a)(new:zcD X.prog X.w (upd H a o) h' a o) :
   Inv X pins σ (upd H a o) { s with heap:=h',toks:=t' }:=I.un (Un.laid k hp (I.hok.fresh hp)) (I.hok.laid k hp new)
theorem Inv.write{x e:Addr}{o:HO}{t':Nat}(I:Inv X pins σ H s)(mu:Mut (H x))(he:e=x\/H e=some (.own x))(k:∀ b u,b≠e->s.heap.get? b=some u->h'.get? b=some u)(heo:∃ u,h'.get? e=some u)
   (new:zcD X.prog X.w (upd H x o) h' x o):Inv X pins σ (upd H x o) { s with heap:=h',toks:=t' }:=I.un (Un.write mu he k heo) (I.hok.write mu he k heo new)
theorem Inv.pins_of{pins':List (Addr×Obj)}(I:Inv X pins σ H s)(h:∀ p∈pins',s.heap.get? p.1=some p.2/\H p.1=none/\p.1≠X.env.locals/\p.1 ∉ X.fs/\∀ v,p.2.data≠.cell v):Inv X pins' σ H s :=
 ⟨I.ok,I.os,I.bare,I.base,I.loc,I.cell,I.free,I.freeC,fun p hp=>(List.mem_append.mp hp).elim (fun z=>I.pin p (AL _ z)) (h p),I.hok,I.len⟩
theorem zh8{N:List Str}(hN:N.Nodup){i j:Nat}{x:Str}(a:N[i]?=some x)(b:N[j]?=some x):i=j:=by
 obtain⟨h1,e1⟩:=List.getElem?_eq_some_iff.mp a;obtain⟨h2,e2⟩:=List.getElem?_eq_some_iff.mp b;exact (List.getElem_inj hN).mp (e1.trans e2.symm)
theorem zfW{M:Model}{A:Around}{E:Value->Shared->Prop}{i:Nat}{x:Str}{v:V}{u:Value}{Q:Unit->Shared->Prop}(I:Inv X pins σ H s)(hN:X.N.Nodup)(hi:X.N[i]?=some x)(hx:Loc X.env.scope x)(r:RelV v u)
   (h:∀ s',Inv X pins (σ.set i (some v)) H s'->(∃ a,BW a s.heap s'.heap/\(a=X.env.locals\/X.env.cells.lookup x=some a))->Q () s') (hf:X.fn x=true\/X.env.scope.names.lookup x=some .local:=by first | exact .inl rfl | exact .inr rfl | assumption):wpAny M A (storeName X.env x u) Q E s:=by
 obtain⟨m,hn,hl⟩:=id I.loc;have hcls:(X.env.scope.kind==.class || (X.env.scope.kind==.module&&X.env.locals != X.env.globals))=false:=by rw[I.ok.kind];rfl
 have hiσ:i < σ.length:=by rw[I.len];exact (List.getElem?_eq_some_iff.mp hi).1
 have cne:=I.cne;have tracked:∀ {a:Addr} {h':Heap},(∃ o,s.heap.get? a=some o/\H a=none)->BW a s.heap h'->HOk X.prog X.w H h':=fun {a h'} ha hs b ob e=>by
   obtain⟨_,_,hfree⟩:=ha;refine (I.hok b ob e).stay (fun c w' hc q=>(hs.2 c ?_).trans q) (fun _ q=>q) fun _ _ q=>q;rintro rfl
   rcases hc with rfl | hc
   . rw[hfree] at e;cases e
   . rw[hfree] at hc;cases hc
 rcases hx with hk | hk
 . refine wpAny_storeName_local hk hn (fun h' hn' hs=>?_) hcls;obtain⟨oL,_,_,hoL,_⟩:=id hn;refine h _ ⟨I.ok,I.os,I.bare,⟨fun b o e n hb hx=>?_,fun b o e n hb hx=>?_,I.base.free,fun b o e hx=>?_,I.base.tups,I.base.frzs,I.base.tbls⟩,⟨_,hn',fun j y v' e1 e2 e3=>?_⟩,fun y c e=>?_,I.free,I.freeC,fun p hp=>?_,tracked ⟨oL,hoL,I.free⟩ hs,by simpa using I.len⟩ ⟨_,hs,.inl rfl⟩
   . exact (hs.2 b (Aw (AB (Al e) I.ok.above))).trans (I.base.keep b o e n hb hx)
   . obtain⟨sl,e1⟩:=I.base.slot b o e n hb hx;exact⟨sl,(hs.2 b (Aw (AB (Al e) I.ok.above))).trans e1⟩
   . obtain⟨o',e1⟩:=I.base.there b o e hx;exact⟨o',(hs.2 b (Aw (AB (Al e) I.ok.above))).trans e1⟩
   . by_cases hj:j=i
     . subst hj;rw[hi] at e1;cases e1;rw[AY hiσ] at e2;cases e2;exact⟨u,r,.inl ⟨hk,by simp⟩⟩
     . rw[AH (Bx hj)] at e2;obtain⟨u',r',q⟩:=hl j y v' e1 e2 e3;refine⟨u',r',?_⟩
       rcases q with ⟨k,e⟩ | ⟨k,c,e,z⟩
       . refine .inl ⟨k,?_⟩;have:y≠x:=fun e=>hj (zh8 hN e1 (e ▸ hi));simp[this,e]
       . exact .inr ⟨k,c,e,z.sameBut hs (cne y c e)⟩
   . obtain⟨w',z⟩:=I.cell y c e;exact⟨w',z.sameBut hs (cne y c e)⟩
   . obtain⟨e,n,ne,nf,d⟩:=I.pin p hp;exact⟨(hs.2 p.1 ne).trans e,n,ne,nf,d⟩
 . have hfn:X.fn x=true:=by
     rcases hf with z | z
     . exact z
     . rw[z] at hk;cases hk
   obtain⟨c,hc⟩:=I.ok.has x (.inl hk);obtain⟨w',z⟩:=I.cell x c hc;refine wpAny_storeName_cell I.ok.kind hk hc z (fun h' hc' hs=>?_);obtain⟨oc,hoc,hocd⟩:=id z;refine h { s with heap:=h' } ⟨I.ok,I.os,I.bare,⟨fun b o e n hb hx=>?_,fun b o e n hb hx=>?_,I.base.free,fun b o e hx=>?_,I.base.tups,I.base.frzs,I.base.tbls⟩,⟨m,hn.sameBut hs (Bx (cne x c hc)),fun j y v' e1 e2 e3=>?_⟩,fun y c' e=>?_,I.free,I.freeC,fun p hp=>?_,tracked ⟨oc,hoc,I.freeC x c hc⟩ hs,by simpa using I.len⟩ ⟨c,hs,.inr hc⟩
   . exact (hs.2 b (Aw (AB (Al e) (I.ok.cab x c hfn hc)))).trans (I.base.keep b o e n hb hx)
   . obtain⟨sl,e1⟩:=I.base.slot b o e n hb hx;exact⟨sl,(hs.2 b (Aw (AB (Al e) (I.ok.cab x c hfn hc)))).trans e1⟩
   . obtain⟨o',e1⟩:=I.base.there b o e hx;exact⟨o',(hs.2 b (Aw (AB (Al e) (I.ok.cab x c hfn hc)))).trans e1⟩
   . by_cases hj:j=i
     . subst hj;rw[hi] at e1;cases e1;rw[AY hiσ] at e2;cases e2;exact⟨u,r,.inr ⟨.inl hk,c,hc,hc'⟩⟩
     . rw[AH (Bx hj)] at e2;obtain⟨u',r',q⟩:=hl j y v' e1 e2 e3;refine⟨u',r',?_⟩
       rcases q with q | ⟨k,c',e,z'⟩
       . exact .inl q
       . refine .inr ⟨k,c',e,z'.sameBut hs ?_⟩;rintro rfl;exact hj (zh8 hN e1 (I.ok.inj _ _ _ e hc ▸ hi))
   . by_cases hcc:c'=c
     . subst hcc;exact⟨_,hc'⟩
     . obtain⟨w2,z2⟩:=I.cell y c' e;exact⟨w2,z2.sameBut hs hcc⟩
   . obtain⟨e,n,ne,nf,d⟩:=I.pin p hp;refine⟨(hs.2 p.1 ?_).trans e,n,ne,nf,d⟩;intro q;rw[q,hoc] at e;have q':oc=p.2:=Ax e;exact d w' (by rw[<-q'];exact hocd)
theorem zd6{M:Model}{A:Around}{E:Value->Shared->Prop}{i:Nat}{x:Str}{v:V}{u:Value}{Q:Unit->Shared->Prop}(I:Inv X pins σ H s)(hN:X.N.Nodup)(hi:X.N[i]?=some x)(hx:Loc X.env.scope x)(r:RelV v u)
   (h:∀ s',Inv X pins (σ.set i (some v)) H s'->Q () s') (hf:X.fn x=true\/X.env.scope.names.lookup x=some .local:=by first | exact .inl rfl | exact .inr rfl | assumption):wpAny M A (storeName X.env x u) Q E s :=
 zfW I hN hi hx r (fun s' I' _=>h s' I') hf
theorem Inv.call'{s':Shared}{ch:List Addr}(I:Inv X pins σ H s)(ho:s'.os=s.os)(u:Un (frs X.stack) ch H H' s.heap s'.heap)(hok:HOk X.prog X.w H' s'.heap)(hg:AllBare s'.gens)
   (hch:∀ b∈ch,(b∈X.ex\/X.s₀.heap.objs.size<=b)/\b≠X.env.locals/\(∀ x c,X.env.cells.lookup x=some c->c≠b)/\∀ p∈X.pn++pins,p.1≠b):Inv X pins σ H' s':=by
 obtain⟨h',g',d',t',o'⟩:=s';have e:o'=s.os:=ho;subst e;exact I.call (g':=g') (t':=t') (d':=d') u hok hg hch
end
noncomputable abbrev XK:=Value->Option Addr->Hp->Prop
noncomputable abbrev St:=List (Option V)
noncomputable abbrev VK:=V->Hp->Prop
noncomputable abbrev TE:=St->Hp->VK->Prop
noncomputable abbrev TT:=St->Hp->(Bool->Hp->Prop)->Prop
noncomputable abbrev TA:=St->Hp->(List V->Hp->Prop)->Prop
structure Ends where
 nx:St->Hp->Prop
 rt:VK
 bk:St->Hp->Prop:=fun _ _=>False
 ct:St->Hp->Prop:=fun _ _=>False
noncomputable abbrev TS:=Ends->St->Hp->Prop
def EP(X:Cx)(pins:List (Addr×Obj))(σ:St)(Q:VK)(u:Value)(s':Shared):Prop:=∃ v H',Inv X pins σ H' s'/\RelV v u/\Q v H'
def TP(X:Cx)(pins:List (Addr×Obj))(σ:St)(Q:Bool->Hp->Prop)(b:Bool)(s':Shared):Prop:=∃ H',Inv X pins σ H' s'/\Q b H'
def AP(X:Cx)(pins:List (Addr×Obj))(σ:St)(Q:List V->Hp->Prop)(us:List Value)(s':Shared):Prop:=∃ vs H',Inv X pins σ H' s'/\Vals vs us/\Q vs H'
def SP(X:Cx)(pins:List (Addr×Obj))(D:Ends)(f:Flow)(s':Shared):Prop :=
 match f with
 | .next=>∃ σ' H',Inv X pins σ' H' s'/\D.nx σ' H'
 | .brk=>∃ σ' H',Inv X pins σ' H' s'/\D.bk σ' H'
 | .cont=>∃ σ' H',Inv X pins σ' H' s'/\D.ct σ' H'
 | .ret u=>∃ v σ' H',Inv X pins σ' H' s'/\RelV v u/\D.rt v H'
def PE(X:Cx)(e:Expr)(t:TE):Prop :=
 ∀ (pins:List (Addr×Obj)) (s:Shared) (σ:St) (H:Hp) (Q:VK),Inv X pins σ H s->t σ H Q->wpAny (model X.prog X.w) X.A (eval e X.env) (EP X pins σ Q) X.xe s
def PT(X:Cx)(e:Expr)(t:TT):Prop :=
 ∀ (pins:List (Addr×Obj)) (s:Shared) (σ:St) (H:Hp) (Q:Bool->Hp->Prop),Inv X pins σ H s->t σ H Q->wpAny (model X.prog X.w) X.A (isTrue e X.env (eval e X.env)) (TP X pins σ Q) X.xe s
def PW(X:Cx)(e:Expr)(t:TT):Prop :=
 ∀ (whole:Sem Value) (pins:List (Addr×Obj)) (s:Shared) (σ:St) (H:Hp) (Q:Bool->Hp->Prop),Inv X pins σ H s->t σ H Q->wpAny (model X.prog X.w) X.A (isTrue e X.env whole) (TP X pins σ Q) X.xe s
theorem PW.pt{X:Cx}{e:Expr}{t:TT}(h:PW X e t):PT X e t:=h _
def PA(X:Cx)(es:List Expr)(t:TA):Prop :=
 ∀ (pos:Pos) (pins:List (Addr×Obj)) (s:Shared) (σ:St) (H:Hp) (Q:List V->Hp->Prop),Inv X pins σ H s->t σ H Q->wpAny (model X.prog X.w) X.A (spliced (backTo pos (starEach es X.env))) (AP X pins σ Q) X.xe s
def PS(X:Cx)(st:Stmt)(t:TS):Prop :=
 ∀ (pins:List (Addr×Obj)) (s:Shared) (σ:St) (H:Hp) (D:Ends),Inv X pins σ H s->t D σ H->wpAny (model X.prog X.w) X.A (exec st X.env) (SP X pins D) X.xe s
def PSs(X:Cx)(st:List Stmt)(t:TS):Prop :=
 ∀ (pins:List (Addr×Obj)) (s:Shared) (σ:St) (H:Hp) (D:Ends),Inv X pins σ H s->t D σ H->wpAny (model X.prog X.w) X.A (execs st X.env) (SP X pins D) X.xe s
theorem thn{α:Type}{t:Sem α}{Q Q':α->Shared->Prop}{M:Model}{A:Around}{E:Value->Shared->Prop}{s:Shared}(h:wpAny M A t Q E s)(hQ:∀ a s,Q a s->Q' a s):wpAny M A t Q' E s:=Br h hQ fun _ _ x=>x
section
variable {X:Cx}
noncomputable def tVar(i:Nat):TE:=fun σ H Q=>∃ v,σ[i]?=some (some v)/\Q v H
noncomputable def tC(v:V):TE:=fun _ H Q=>Q v H
theorem zpx{i:Nat}{x:Str}{pos:Pos}(hN:X.N[i]?=some x)(hv:Vis X.env.scope x)(hd:(x==("__debug__":Str))=false:=by decide)(hcd:(x==("__classdict__":Str))=false:=by decide):PE X (.Name x pos) (tVar i):=by
 intro pins s σ H Q I h;obtain⟨v,e,h⟩:=h;obtain⟨m,hn,hl⟩:=I.loc;obtain⟨u,r,l⟩:=hl i x v hN e hv;have fin:EP X pins σ Q u s:=⟨v,H,I,r,h⟩
 rcases l with ⟨hk,hm⟩ | ⟨hk,c,hc,hcell⟩
 . exact Fw (wpAny_loadName_local I.ok.kind hk hn hm fin) hd
 . rcases hk with hk | hk
   . exact Fw (wpAny_loadName_cell I.ok.kind hk hc hcell fin) hd
   . exact Fw (wpAny_loadName_free I.ok.kind hk hc hcell fin hcd) hd
theorem zpD{i j pos}:PE X (.Constant (.int i) j pos) (tC (.int i)):=fun _ _ _ H _ I h=>wpAny_Constant_int ⟨.int i,H,I.tok _,⟨_,rfl⟩,h⟩
theorem zrF{b j pos}:PE X (.Constant (.bool b) j pos) (tC (.bl b)):=fun _ _ _ H _ I h=>Constant_bool ⟨.bl b,H,I,rfl,h⟩
theorem zpB{j pos}:PE X (.Constant .none j pos) (tC .non):=fun _ _ _ H _ I h=>Constant_none ⟨.non,H,I,rfl,h⟩
theorem zpz{x j pos}:PE X (.Constant (.str x) j pos) (tC (.str x)):=fun _ _ _ H _ I h=>Calls.Constant_str ⟨.str x,H,I.tok _,⟨_,rfl⟩,h⟩
def Gl(X:Cx)(x:Str):Prop:=X.env.kindOf x=some .globalImplicit
theorem zkq{E:Value->Shared->Prop}{pins:List (Addr×Obj)}{s:Shared}{σ:St}{H:Hp}{x:Str}{u:Value}{pos:Pos}{Q:Value->Shared->Prop}(I:Inv X pins σ H s)(hg:Gl X x)(hm:X.mg x=some u)(h:Q u s)
   (hd:(x==("__debug__":Str))=false:=by decide):wpAny (model X.prog X.w) X.A (eval (.Name x pos) X.env) Q E s :=
 Ds I.ok.kind hg (Calls.loadGlobal_global (by rw[I.ok.glob];exact I.mod.glob.keeps I.bk) hm h) hd
theorem zfF{E:Value->Shared->Prop}{pins:List (Addr×Obj)}{s:Shared}{σ:St}{H:Hp}{x:Str}{u:Value}{pos:Pos}{Q:Value->Shared->Prop}(I:Inv X pins σ H s)(hg:Gl X x)(hm:X.mg x=none)(hv:bootBuiltins x=some u)(h:Q u s)
   (hn:x≠"__name__":=by decide) (hd:(x==("__debug__":Str))=false:=by decide):wpAny (model X.prog X.w) X.A (eval (.Name x pos) X.env) Q E s:=by
 obtain⟨mb,h1,h2⟩:=I.mod.blt;exact Ds I.ok.kind hg (Calls.loadGlobal_builtin (by rw[I.ok.glob];exact I.mod.glob.keeps I.bk) hm (by rw[I.ok.blt];exact h1.keeps I.bk) ((h2 x hn).trans hv) h) hd
theorem znw{x:Str}{v:V}{u:Value}{pos:Pos}(hg:Gl X x)(hm:X.mg x=some u)(r:RelV v u)(hd:(x==("__debug__":Str))=false:=by decide):PE X (.Name x pos) (tC v) :=
 fun _ _ _ H _ I h=>zkq I hg hm ⟨v,H,I,r,h⟩ hd
theorem znz{x:Str}{v:V}{u:Value}{pos:Pos}(hg:Gl X x)(hm:X.mg x=none)(hv:bootBuiltins x=some u)(r:RelV v u)(hn:x≠"__name__":=by decide)(hd:(x==("__debug__":Str))=false:=by decide):PE X (.Name x pos) (tC v) :=
 fun _ _ _ H _ I h=>zfF I hg hm hv ⟨v,H,I,r,h⟩ hn hd
variable {a b:Expr} {ta tb:TE} {pos:Pos}
def PC(X:Cx)(op:CmpOp)(a b:Expr)(t:TE):Prop :=
 ∀ (pins:List (Addr×Obj)) (s:Shared) (σ:St) (H:Hp) (Q:VK),Inv X pins σ H s->t σ H Q ->
   wpAny (model X.prog X.w) X.A (eval a X.env) (fun v s₁=>wpAny (model X.prog X.w) X.A (eval b X.env) (fun u s₂=>wpAny (model X.prog X.w) X.A (compareOp op v u) (EP X pins σ Q) X.xe s₂) X.xe s₁) X.xe s
noncomputable def tB(t:TE):TT:=fun σ H Q=>t σ H fun x H1=>∃ c,x=.bl c/\Q c H1
theorem zpE{op:CmpOp}{t:TE}(h:PC X op a b t)(h1:behindInMarks op b=false:=by first | exact nobehind _ (by decide) (by decide) | rfl):PE X (.Compare a [op] [b] pos) t:=fun pins s σ H Q I hw=>wpAny_Compare1 (h pins s σ H Q I hw) h1
theorem zpm{op:CmpOp}{t:TE}(h:PC X op a b t)(h1:behindInMarks op b=false:=by first | exact nobehind _ (by decide) (by decide) | rfl):PT X (.Compare a [op] [b] pos) (tB t):=by
 intro pins s σ H Q I hw;refine Eg (thn (h pins s σ H _ I hw) fun v s1 h1=>thn h1 fun u s2 h2=>thn h2 ?_) h1;rintro c s3 ⟨x,H1,I1,r1,q1⟩;obtain⟨d,rfl,q⟩:=q1;cases r1;exact Bl ⟨H1,I1,q⟩
variable {tA tB':TT} {rest:List Expr}
noncomputable def tAnd(t u:TT):TT:=fun σ H Q=>t σ H fun c H1=>if c=true then u σ H1 Q else Q false H1
noncomputable def tOr(t u:TT):TT:=fun σ H Q=>t σ H fun c H1=>if c=true then Q true H1 else u σ H1 Q
noncomputable def tNot(t:TT):TT:=fun σ H Q=>t σ H fun c H1=>Q (!c) H1
theorem pw_and1(ha:PT X a tA):PW X (.BoolOp .And [a] pos) tA:=by
 intro wh pins s σ H Q I h;refine isTrue_and (thn (ha pins s σ H Q I h) fun c s1 e=>?_)
 cases c with
 | true=>exact isTrue_and_nil e
 | false=>exact e
theorem pw_or1(ha:PT X a tA):PW X (.BoolOp .Or [a] pos) tA:=by
 intro wh pins s σ H Q I h;refine isTrue_or (thn (ha pins s σ H Q I h) fun c s1 e=>?_)
 cases c with
 | false=>exact isTrue_or_nil e
 | true=>exact e
theorem pw_and(ha:PT X a tA)(hb:PW X (.BoolOp .And (b::rest) pos) tB'):PW X (.BoolOp .And (a::b::rest) pos) (tAnd tA tB'):=by
 intro wh pins s σ H Q I h;refine isTrue_and (thn (ha pins s σ H _ I h) ?_);rintro c s1 ⟨H1,I1,q1⟩
 cases c with
 | true=>exact hb wh pins s1 σ H1 Q I1 q1
 | false=>exact⟨H1,I1,q1⟩
theorem pw_or(ha:PT X a tA)(hb:PW X (.BoolOp .Or (b::rest) pos) tB'):PW X (.BoolOp .Or (a::b::rest) pos) (tOr tA tB'):=by
 intro wh pins s σ H Q I h;refine isTrue_or (thn (ha pins s σ H _ I h) ?_);rintro c s1 ⟨H1,I1,q1⟩
 cases c with
 | true=>exact⟨H1,I1,q1⟩
 | false=>exact hb wh pins s1 σ H1 Q I1 q1
theorem zpl(ha:PT X a tA):PT X (.UnaryOp .Not a pos) (tNot tA):=by
 intro pins s σ H Q I h;exact isTrue_not (ha pins s σ H (fun c H1=>Q (!c) H1) I h)
noncomputable def zrl(ta tb:TE):TE:=fun σ H Q=>ta σ H fun x H1=>∃ c,x=.bl c/\if c=true then tb σ H1 Q else Q (.bl false) H1
noncomputable def tOrV(ta tb:TE):TE:=fun σ H Q=>ta σ H fun x H1=>∃ c,x=.bl c/\if c=true then Q (.bl true) H1 else tb σ H1 Q
noncomputable def zre(ta:TE):TE:=fun σ H Q=>ta σ H fun x H1=>∃ c,x=.bl c/\Q (.bl (!c)) H1
theorem znv{op}{t:TE}(h:PE X a t):PE X (.BoolOp op [a] pos) t:=fun pins s σ H Q I hw=>BoolOp_one (h pins s σ H Q I hw)
theorem zpH(ha:PE X a ta)(hb:PE X (.BoolOp .And (b::rest) pos) tb):PE X (.BoolOp .And (a::b::rest) pos) (zrl ta tb):=by
 intro pins s σ H Q I h;refine BoolOp_and (thn (ha pins s σ H _ I h) ?_);rintro v s1 ⟨x,H1,I1,r1,q1⟩;obtain⟨c,rfl,q1⟩:=q1;cases r1;refine Bl ?_
 cases c with
 | true=>exact hb pins s1 σ H1 Q I1 q1
 | false=>exact⟨.bl false,H1,I1,rfl,q1⟩
theorem zrC(ha:PE X a ta)(hb:PE X (.BoolOp .Or (b::rest) pos) tb):PE X (.BoolOp .Or (a::b::rest) pos) (tOrV ta tb):=by
 intro pins s σ H Q I h;refine BoolOp_or (thn (ha pins s σ H _ I h) ?_);rintro v s1 ⟨x,H1,I1,r1,q1⟩;obtain⟨c,rfl,q1⟩:=q1;cases r1;refine Bl ?_
 cases c with
 | false=>exact hb pins s1 σ H1 Q I1 q1
 | true=>exact⟨.bl true,H1,I1,rfl,q1⟩
theorem zpA(ha:PE X a ta):PE X (.UnaryOp .Not a pos) (zre ta):=by
 intro pins s σ H Q I h;refine UnaryOp_ (thn (ha pins s σ H _ I h) ?_);rintro v s1 ⟨x,H1,I1,r1,q1⟩;obtain⟨c,rfl,q1⟩:=q1;cases r1;exact not_of (Bl ⟨.bl (!c),H1,I1,rfl,q1⟩)
end
def SqL(K:Ac)(H:Hp)(a:Addr)(xs:List V):Prop :=
 Rd H a (.lst xs) \/
   ∃ (o:Obj) (its:Array Value) (n:Nat),K.lookup a=some o/\o.cls=.type "list"/\o.dict=none/\o.data=.seq its n/\its.size<=sizeLine/\Vals xs its.toList
def SqT(K:Ac)(H:Hp)(a:Addr)(xs:List V):Prop :=
 Rd H a (.tup xs) \/
   ∃ (o:Obj) (its:Array Value) (n:Nat),K.lookup a=some o/\o.cls=.type "tuple"/\o.data=.seq its n/\its.size<=sizeLine/\Vals xs its.toList
noncomputable def absV:Value->Option V
 | .none=>some .non
 | .bool b=>some (.bl b)
 | .int i _=>some (.int i)
 | .str x _=>some (.str x)
 | .bytes b _=>some (.byt b)
 | .float b _=>some (.flt b)
 | .ref a=>some (.ref a)
 | .type n=>some (.ty n)
 | _=>none
theorem RelV.abs{x:V}{u:Value}(r:RelV x u):absV u=some x:=by
 cases x with
 | non=>cases r;rfl
 | bl _=>cases r;rfl
 | int _=>obtain⟨t,rfl⟩:=r;rfl
 | str _=>obtain⟨t,rfl⟩:=r;rfl
 | byt _=>obtain⟨t,rfl⟩:=r;rfl
 | flt _=>obtain⟨t,rfl⟩:=r;rfl
 | ref _=>cases r;rfl
 | ty _=>cases r;rfl
theorem RelV.inj{x y:V}{u:Value}(r:RelV x u)(q:RelV y u):x=y:=Ax (r.abs.symm.trans q.abs)
theorem Vals.inj:∀ {xs ys:List V} {us:List Value},Vals xs us->Vals ys us->xs=ys
 | _,_,_,.nil,.nil=>rfl
 | _,_,_,.cons r t,.cons r' t'=>by rw[r.inj r',Vals.inj t t']
section
variable {X:Cx} {pins:List (Addr×Obj)} {σ:St} {H:Hp} {s:Shared} {a:Addr} {xs ys:List V}
theorem SqL.of{K:Ac}(h:H a=some (.lst xs)):SqL K H a xs:=.inl (.inl h)
theorem SqT.of{K:Ac}(h:H a=some (.tup xs)):SqT K H a xs:=.inl (.inl h)
theorem Inv.list(I:Inv X pins σ H s)(h:SqL X.K H a xs):∃ its:List Value,Vals xs its/\PlainL s.heap a its.toArray/\xs.length<=sizeLine:=by
 rcases h with h | ⟨o,its,n,hk,hc,hd,hs,hz,r⟩
 . obtain⟨z,its,n,r,e⟩:=h.ok I.hok;exact⟨its,r,⟨_,n,e,rfl,rfl,rfl⟩,z⟩
 . refine⟨its.toList,r,⟨o,n,I.kIn a o hk,hc,hd,by simpa using hs⟩,?_⟩;have e:=r.length;simp only[Bu] at e;omega
theorem Inv.tuple(I:Inv X pins σ H s)(h:SqT X.K H a xs):∃ its:List Value,Vals xs its/\IsTup s.heap a its.toArray/\xs.length<=sizeLine:=by
 rcases h with h | ⟨o,its,n,hk,hc,hs,hz,r⟩
 . obtain⟨z,its,r,p⟩:=h.ok I.hok;exact⟨its,r,p.t,z⟩
 . refine⟨its.toList,r,⟨o,I.kIn a o hk,hc,n,by simpa using hs⟩,?_⟩;have e:=r.length;simp only[Bu] at e;omega
theorem Inv.list_inj(I:Inv X pins σ H s)(h:SqL X.K H a xs)(h':SqL X.K H a ys):xs=ys:=by
 obtain⟨its,r,⟨o,n,e,_,_,d⟩,_⟩:=I.list h;obtain⟨its',r',⟨o',n',e',_,_,d'⟩,_⟩:=I.list h';rw[e] at e';cases e';rw[d] at d';injection d' with d1 _
 have:its=its':=by simpa using congrArg F1 d1
 subst this;exact r.inj r'
theorem Inv.tuple_inj(I:Inv X pins σ H s)(h:SqT X.K H a xs)(h':SqT X.K H a ys):xs=ys:=by
 obtain⟨its,r,⟨o,e,_,n,d⟩,_⟩:=I.tuple h;obtain⟨its',r',⟨o',e',_,n',d'⟩,_⟩:=I.tuple h';rw[e] at e';cases e';rw[d] at d';injection d' with d1 _
 have:its=its':=by simpa using congrArg F1 d1
 subst this;exact r.inj r'
end
noncomputable abbrev Cx.wish (X:Cx) (E:Value->Shared->Prop):Cx:={ X with xe:=E }
noncomputable abbrev Cx.nox (X:Cx):Cx:=X.wish fun _ _=>False
theorem Cx.Ok.wish{X:Cx}(ok:X.Ok)(E:Value->Shared->Prop):(X.wish E).Ok :=
 ⟨ok.mod,ok.kind,ok.glob,ok.blt,ok.above,ok.inj,ok.has,ok.cab,ok.hd,ok.frames,ok.stk,ok.exf,ok.bs,ok.bsz,ok.noex,ok.exfs,ok.funs,ok.frf⟩
theorem Cx.Ok.unwish{X:Cx}{E:Value->Shared->Prop}(ok:(X.wish E).Ok):X.Ok :=
 ⟨ok.mod,ok.kind,ok.glob,ok.blt,ok.above,ok.inj,ok.has,ok.cab,ok.hd,ok.frames,ok.stk,ok.exf,ok.bs,ok.bsz,ok.noex,ok.exfs,ok.funs,ok.frf⟩
section
variable {X:Cx} {pins:List (Addr×Obj)} {σ:St} {H:Hp} {s:Shared} {E:Value->Shared->Prop}
theorem Inv.wish(I:Inv X pins σ H s)(E:Value->Shared->Prop):Inv (X.wish E) pins σ H s:=⟨I.ok.wish E,I.os,I.bare,I.base,I.loc,I.cell,I.free,I.freeC,I.pin,I.hok,I.len⟩
theorem Inv.unwish(I:Inv (X.wish E) pins σ H s):Inv X pins σ H s:=⟨I.ok.unwish,I.os,I.bare,I.base,I.loc,I.cell,I.free,I.freeC,I.pin,I.hok,I.len⟩
theorem SP.unwish{D:Ends}{f:Flow}{s':Shared}(h:SP (X.wish E) pins D f s'):SP X pins D f s':=by
 cases f with
 | next=>obtain⟨σ',H',I,q⟩:=h;exact⟨σ',H',I.unwish,q⟩
 | brk=>obtain⟨σ',H',I,q⟩:=h;exact⟨σ',H',I.unwish,q⟩
 | cont=>obtain⟨σ',H',I,q⟩:=h;exact⟨σ',H',I.unwish,q⟩
 | ret u=>obtain⟨v,σ',H',I,r,q⟩:=h;exact⟨v,σ',H',I.unwish,r,q⟩
theorem PSs.nox{st:List Stmt}{t:TS}(h:PSs X.nox st t):PSs X st t:=fun pins s σ H D I hw =>
 Br (h pins s σ H D (I.wish _) hw) (fun _ _ q=>q.unwish) fun _ _ z=>False.elim z
end
section
variable {X:Cx} {st:Stmt} {rest:List Stmt} {t u:TS} {e:Expr} {te:TE} {pos:Pos}
noncomputable def zrf:TS:=fun D σ H=>D.nx σ H
noncomputable def tSeq(t u:TS):TS:=fun D σ H=>t { D with nx:=u D } σ H
theorem znm:PSs X [] zrf:=fun _ _ σ H _ I h=>CW ⟨σ,H,I,h⟩
theorem zlo(h1:PS X st t)(h2:PSs X rest u):PSs X (st::rest) (tSeq t u):=by
 intro pins s σ H D I h;refine wpAny_execs_cons (thn (h1 pins s σ H { D with nx:=u D } I h) fun f s1 q=>?_)
 cases f with
 | next =>
   obtain⟨σ',H',I',q⟩:=q;exact h2 pins s1 σ' H' D I' q
 | ret v=>exact q
 | brk=>exact q
 | cont=>exact q
theorem znl(h1:PS X st t):PSs X [st] t:=by
 intro pins s σ H D I h;refine wpAny_execs_cons (thn (h1 pins s σ H D I h) fun f s1 q=>?_)
 cases f with
 | next=>exact CW q
 | ret v=>exact q
 | brk=>exact q
 | cont=>exact q
theorem Inv.quiet{pins:List (Addr×Obj)}{σ:St}{H:Hp}{s:Shared}(I:Inv X pins σ H s):interactive X.env=false:=by simp[interactive,I.ok.kind]
noncomputable def zrg(te:TE):TS:=fun D σ H=>te σ H fun _ H1=>D.nx σ H1
theorem znn(he:PE X e te)(hs:swapsWith e none pos.line X.env=pure false:=by rfl):PS X (.Expr e pos) (zrg te):=by
 intro pins s σ H D I h;exact wpAny_Expr_any (thn (he pins s σ H _ I h) fun v s1 ⟨x,H1,I1,r1,q1⟩=>⟨σ,H1,I1,q1⟩) I.quiet hs
noncomputable def tRet(te:TE):TS:=fun D σ H=>te σ H D.rt
theorem zpo(he:PE X e te):PS X (.Return (some e) pos) (tRet te):=by
 intro pins s σ H D I h;exact wpAny_Return_some (thn (he pins s σ H _ I h) fun v s1 ⟨x,H1,I1,r1,q1⟩=>⟨x,σ,H1,I1,r1,q1⟩)
noncomputable def tIfS(c:TT)(t u:TS):TS:=fun D σ H=>c σ H fun b H1=>if b=true then t D σ H1 else u D σ H1
theorem zrz{c:Expr}{a b:List Stmt}{tc:TT}(hc:PT X c tc)(ha:PSs X a t)(hb:PSs X b u):PS X (.If c a b pos) (tIfS tc t u):=by
 intro pins s σ H D I h;refine wpAny_If (thn (hc pins s σ H _ I h) ?_);rintro d s1 ⟨H1,I1,q1⟩
 cases d with
 | true=>exact ha pins s1 σ H1 D I1 q1
 | false=>exact hb pins s1 σ H1 D I1 q1
end
noncomputable abbrev TG:=V->St->Hp->(St->Hp->Prop)->Prop
noncomputable abbrev TGs:=List V->St->Hp->(St->Hp->Prop)->Prop
def PG(X:Cx)(target:Expr)(t:TG):Prop :=
 ∀ (pins:List (Addr×Obj)) (s:Shared) (σ:St) (H:Hp) (v:V) (u:Value) (Q:St->Hp->Prop),Inv X pins σ H s->RelV v u->t v σ H Q ->
   wpAny (model X.prog X.w) X.A (assign target X.env u) (fun _ s'=>∃ σ' H',Inv X pins σ' H' s'/\Q σ' H') X.xe s
def PGs(X:Cx)(ts:List Expr)(t:TGs):Prop :=
 ∀ (pins:List (Addr×Obj)) (s:Shared) (σ:St) (H:Hp) (vs:List V) (us:List Value) (Q:St->Hp->Prop),Inv X pins σ H s->Vals vs us->t vs σ H Q ->
   wpAny (model X.prog X.w) X.A (assignInOrder ((assignEach ts X.env).map (·.2)) us) (fun _ s'=>∃ σ' H',Inv X pins σ' H' s'/\Q σ' H') X.xe s
noncomputable abbrev TSet:=V->V->V->Hp->(Hp->Prop)->Prop
def PSet(X:Cx)(t:TSet):Prop :=
 ∀ (pins:List (Addr×Obj)) (s:Shared) (σ:St) (H:Hp) (o i v:V) (ov iv u:Value) (Q:Hp->Prop),Inv X pins σ H s->RelV o ov->RelV i iv->RelV v u->t o i v H Q ->
   wpAny (model X.prog X.w) X.A (setItem ov iv u) (fun _ s'=>∃ H',Inv X pins σ H' s'/\Q H') X.xe s
section
variable {X:Cx} {pos:Pos}
noncomputable def zq0(i:Nat):TG:=fun v σ H Q=>Q (σ.set i (some v)) H
theorem znu{i:Nat}{x:Str}(hN:X.N.Nodup)(hi:X.N[i]?=some x)(hx:Loc X.env.scope x)(hf:X.fn x=true\/X.env.scope.names.lookup x=some .local:=by first | exact .inl rfl | exact .inr rfl | assumption):PG X (.Name x pos) (zq0 i):=by
 intro pins s σ H v u Q I r h;exact EY (zd6 I hN hi hx r (fun s' I'=>⟨_,H,I',h⟩) hf)
noncomputable def gNil:TGs:=fun vs σ H Q=>vs=[]/\Q σ H
noncomputable def zrZ(t:TG)(u:TGs):TGs:=fun vs σ H Q=>∃ v r,vs=v::r/\t v σ H fun σ' H'=>u r σ' H' Q
theorem znt:PGs X [] gNil:=by
 intro pins s σ H vs us Q I r h;obtain⟨e,h⟩:=h;subst e;cases r;exact EZ ⟨σ,H,I,h⟩
theorem zlv{e:Expr}{es:List Expr}{t:TG}{u:TGs}(h1:PG X e t)(h2:PGs X es u)
   (hs:(assignEach (e::es) X.env).map (·.2)=assign e X.env::(assignEach es X.env).map (·.2):=by rfl):PGs X (e::es) (zrZ t u):=by
 intro pins s σ H vs us Q I r h;obtain⟨v,vr,e1,h⟩:=h;subst e1
 cases r with
 | cons r rr =>
   rw[hs];refine Do (thn (h1 pins s σ H _ _ _ I r h) ?_);rintro _ s1 ⟨σ1,H1,I1,q1⟩;exact h2 pins s1 σ1 H1 _ _ Q I1 rr q1
noncomputable def gTup(K:Ac)(n:Nat)(t:TGs):TG:=fun v σ H Q=>∃ a xs,v=.ref a/\SqT K H a xs/\xs.length=n/\t xs σ H Q
theorem zpv{es:List Expr}{k:Nat}{t:TGs}{n:Nat}(hc:X.calm=true)(h:PGs X es t)
   (hn:(assignEach es X.env).length=n:=by rfl) (hst:(assignEach es X.env).findIdx? (·.1)=none:=by rfl):PG X (.Tuple es k pos) (gTup X.K n t):=by
 intro pins s σ H v u Q I r hw;obtain⟨a,xs,e1,hq,hl,hw⟩:=hw;subst e1;cases r;obtain⟨its,rv,ht,hz⟩:=I.tuple hq;refine assign_Tuple_tuple (I.ok.hd hc) ht (by simp[hn,<-hl,rv.length]) hst fun h' hx=>?_;have I1:Inv X pins σ H { s with heap:=h' }:=I.kept (t':=s.toks) fun b o e=>hx b o (Aw (Al e)) e;exact h pins _ σ H xs _ Q I1 (by simpa using rv) hw
noncomputable def gSub(to ti:TE)(t:TSet):TG:=fun v σ H Q=>to σ H fun o H1=>ti σ H1 fun i H2=>t o i v H2 fun H3=>Q σ H3
theorem zpw{o i:Expr}{to ti:TE}{t:TSet}(ho:PE X o to)(hi:PE X i ti)(hs:PSet X t)
   (ha:∀ v,assign (.Subscript o i pos) X.env v=(do
     let ov <-holding [v] (eval o X.env)
     let iv <-holding [v,ov] (eval i X.env)
     standAt pos
     holding [v,ov,iv] (setItem ov iv v)
     release [v,ov,iv] []):=by intro _;rfl):PG X (.Subscript o i pos) (gSub to ti t):=by
 intro pins s σ H v u Q I r h;rw[ha];refine Aa (Bf (thn (ho pins s σ H _ I h) ?_));rintro ov s1 ⟨x,H1,I1,r1,q1⟩;refine Aa (Bf (thn (hi pins s1 σ H1 _ I1 q1) ?_));rintro iv s2 ⟨y,H2,I2,r2,q2⟩;refine Aa (Dt (Aa (Bf (thn (hs pins s2 σ H2 x y v ov iv u _ I2 r1 r2 r q2) ?_))));rintro _ s3 ⟨H3,I3,q3⟩;exact wpAny_release ⟨σ,H3,I3,q3⟩
noncomputable def tAsg(te:TE)(g:TG):TS:=fun D σ H=>te σ H fun x H1=>g x σ H1 D.nx
theorem zpr{tg e:Expr}{te:TE}{g:TG}(he:PE X e te)(hg:PG X tg g)(hs:swapsWithSole [tg] e pos.line X.env=pure false:=by rfl)(hw:swappedStores [tg] e X.env=pure none:=by rfl)
   (h1:(assignEach [tg] X.env).map (·.2)=[assign tg X.env]:=by rfl):PS X (.Assign [tg] e pos) (tAsg te g):=by
 intro pins s σ H D I h;refine wpAny_Assign_stores (thn (he pins s σ H _ I h) ?_) hs hw;rintro v s1 ⟨x,H1,I1,r1,q1⟩;rw[h1];exact thn (hg pins s1 σ H1 x v _ I1 r1 q1) fun _ s2 q=>q
theorem zpn{i:Nat}{x:Str}{e:Expr}{te:TE}{pos':Pos}(hN:X.N.Nodup)(hi:X.N[i]?=some x)(hx:Loc X.env.scope x)(he:PE X e te)(hs:swapsWith e (some (.Name x pos')) pos.line X.env=pure false:=by rfl)(hf:X.fn x=true\/X.env.scope.names.lookup x=some .local:=by first | exact .inl rfl | exact .inr rfl | assumption) :
   PS X (.Assign [.Name x pos'] e pos) (tAsg te (zq0 i)):=by
 intro pins s σ H D I h;refine wpAny_Assign_Name (thn (he pins s σ H _ I h) ?_) hs;rintro v s1 ⟨y,H1,I1,r1,q1⟩;exact zd6 I1 hN hi hx r1 (fun s2 I2=>⟨_,H1,I2,q1⟩) hf
noncomputable def tPar(i j:Nat)(ta:TA):TS:=fun D σ H=>ta σ H fun vs H1=>∃ v w,vs=[v,w]/\D.nx ((σ.set i (some v)).set j (some w)) H1
theorem zpp{i j:Nat}{x y:Str}{a b:Expr}{ta:TA}{px py pt:Pos}{kt k2 pt2}(hc:X.calm=true)(hN:X.N.Nodup)(hi:X.N[i]?=some x)(hj:X.N[j]?=some y)(hij:i≠j)
   (hx:X.env.scope.names.lookup x=some .local) (hy:X.env.scope.names.lookup y=some .local) (ha:PA X [a,b] ta)
   (hw:swappedStores [.Tuple [.Name x px,.Name y py] kt pt] (.Tuple [a,b] k2 pt2) X.env=pure (some [x,y]))
   (hs:swapsWithSole [.Tuple [.Name x px,.Name y py] kt pt] (.Tuple [a,b] k2 pt2) pos.line X.env=pure false:=by rfl) :
   PS X (.Assign [.Tuple [.Name x px,.Name y py] kt pt] (.Tuple [a,b] k2 pt2) pos) (tPar i j ta):=by
 intro pins s σ H D I h;rw[exec_Assign_arm];refine Aa (Dt ?_);rw[hs];refine Aa (Ae ?_);rw[if_neg (by decide)];refine Aa (Tuple_ (thn (ha _ pins s σ H _ I h) ?_));rintro us s1 ⟨vs,H1,I1,r1,q1⟩;obtain⟨v,w,e1,q1⟩:=q1;subst e1;obtain⟨u1,u2,rfl,rv,rw'⟩:∃ u1 u2,us=[u1,u2]/\RelV v u1/\RelV w u2:=by
   cases r1 with
   | cons p q =>
     cases q with
     | cons p' q' =>
       cases q';exact⟨_,_,rfl,p,p'⟩
 refine A7 ?_ (by show 2<=sizeLine;decide);have I2:Inv X pins σ H1 { s1 with heap:=s1.heap.push { cls:=.type "tuple",data:=.seq [u1,u2].toArray } }:=I1.kept (t':=s1.toks) fun b o e=>Ad _ e;rw[hw];refine Aa (Ae ?_);show wpAny (model X.prog X.w) X.A (do rule "assign.swapped-stores";let items <-unpackItems (.ref s1.heap.objs.size) 2 none;assignInOrder [fun v=>bindName X.env y v,fun v=>bindName X.env x v] items.reverse;pure Flow.next) _ _ _;refine Aa (CD (Aa (unpackItems_tuple (items:=#[u1,u2]) (I.ok.hd hc) (IsTup.new s1.heap _) fun h' hx'=>?_)));have I3:=I2.kept (h':=h') (t':=s1.toks) fun b o e=>hx' b o (Aw (Al e)) e;show wpAny _ _ (assignInOrder [fun v=>bindName X.env y v,fun v=>bindName X.env x v] [u2,u1] >>= fun _=>pure Flow.next) _ _ _;refine Aa (Do (wpAny_bindName (zd6 I3 hN hj (.inl hy) rw' (fun s2 I4=>?_) (.inr hy))));refine Do (wpAny_bindName (zd6 I4 hN hi (.inl hx) rv (fun s3 I5=>EZ (Ae ?_)) (.inr hx)));rw[List.set_comm _ _ (Bx hij)] at I5;exact⟨_,H1,I5,q1⟩
end
section
variable {X:Cx} {pos:Pos}
noncomputable def zoW(c:TT)(tb:TS):TS:=fun D σ H=>∃ W:Nat->St->Hp->Prop,(∃ m,W m σ H)/\∀ m σ H,W m σ H ->
 c σ H fun b H1=>if b=true then ∃ N:St->Hp->Prop,(∀ σ' H',N σ' H'->∃ m',m' < m/\W m' σ' H')/\tb { D with nx:=N,ct:=N,bk:=D.nx } σ H1 else D.nx σ H1
theorem zlp{c:Expr}{body:List Stmt}{tc:TT}{tb:TS}(hp:PassesOwn (model X.prog X.w) X.A X.env X.xe)(hc:PT X c tc)(hb:PSs X body tb):PS X (.While c body [] pos) (zoW tc tb):=by
 intro pins s σ H D I h;obtain⟨W,⟨m0,w0⟩,turn⟩:=h;refine wpAny_While (codeAny_whileLoop (fun n s'=>∃ σ' H',Inv X pins σ' H' s'/\W n σ' H') ?_ m0 ⟨σ,H,I,w0⟩);rintro n s1 ⟨σ1,H1,I1,w1⟩;refine BP hp (thn (hc pins s1 σ1 H1 _ I1 (turn n σ1 H1 w1)) ?_);rintro b s2 ⟨H2,I2,q2⟩
 cases b with
 | true =>
   obtain⟨N,hN,q2⟩:=q2;rw[if_pos rfl];refine BP hp (thn (hb pins s2 σ1 H2 _ I2 q2) fun f s3 q3=>?_)
   cases f with
   | next =>
     obtain⟨σ3,H3,I3,n3⟩:=q3;obtain⟨m',hm,w3⟩:=hN σ3 H3 n3;exact⟨m',hm,σ3,H3,I3,w3⟩
   | cont =>
     obtain⟨σ3,H3,I3,n3⟩:=q3;obtain⟨m',hm,w3⟩:=hN σ3 H3 n3;exact⟨m',hm,σ3,H3,I3,w3⟩
   | brk=>exact q3
   | ret v=>exact q3
 | false =>
   rw[if_neg AU];exact CW ⟨σ1,H2,I2,q2⟩
end
structure It where
 go:Nat->Hp->Prop
 yld:Nat->Hp->V->Hp->Prop
 stop:Nat->Hp->Prop
def FpOk(X:Cx)(pins:List (Addr×Obj))(H:Hp)(b:Addr):Prop :=
 H b=none/\b≠X.env.locals/\b ∉ X.fs/\(b∈X.ex\/X.s₀.heap.objs.size<=b)/\(∀ x c,X.env.cells.lookup x=some c->c≠b)/\∀ p∈X.pn++pins,p.1≠b
theorem Inv.fpOk{X:Cx}{pins:List (Addr×Obj)}{σ:St}{H H':Hp}{s:Shared}{b:Addr}(I:Inv X pins σ H s)(hb:s.heap.objs.size<=b)(hn:H' b=none):FpOk X pins H' b:=by
 refine⟨hn,CY (AB I.lt hb),I.nofs hb,.inr (AF I.sz hb),fun x c e z=>?_,fun p hp z=>?_⟩
 . obtain⟨v,q⟩:=I.cell x c e;exact absurd (AB q.lt (by rw[z];exact hb)) (AX _)
 . exact absurd (AB (Al (I.pin p hp).1) (by rw[z];exact hb)) (AX _)
structure Turn(P:Program)(w:World)(K:Ac)(tg:Expr)(J:It)(fp:List Addr)(it:Addr)(tn:Nat->Heap->Prop):Prop where
 mem:it∈fp
 obj:∀ i h,tn i h->∀ b∈fp,∃ o,h.get? b=some o/\∀ v,o.data≠.cell v
 keep:∀ i h h',tn i h->(∀ b∈fp,∀ o,h.get? b=some o->h'.get? b=some o)->tn i h'
 item:∀ (X:Cx),X.prog=P->X.w=w->X.K=K->X.calm=true->∀ (i:Nat) (pins:List (Addr×Obj)) (s:Shared) (σ:St) (H:Hp) (E:Value->Shared->Prop),Inv X pins σ H s->(∀ b∈fp,FpOk X pins H b)->tn i s.heap->J.go i H ->
   wpAny (model P w) X.A (pyNext (.ref it)) (fun r s1=>∃ u,r=some u /\
     wpAny (model P w) X.A (letOwnedTupleGo tg (.ref it) u) (fun _ s2=>∃ x H',Inv X pins σ H' s2/\RelV x u/\J.yld i H x H'/\tn (i+1) s2.heap/\∀ b∈fp,H' b=none) E s1) E s
 done:∀ (X:Cx),X.prog=P->X.w=w->X.K=K->X.calm=true->∀ (i:Nat) (pins:List (Addr×Obj)) (s:Shared) (σ:St) (H:Hp) (E:Value->Shared->Prop),Inv X pins σ H s->(∀ b∈fp,FpOk X pins H b)->tn i s.heap->J.stop i H ->
   wpAny (model P w) X.A (pyNext (.ref it)) (fun r s1=>r=none/\Inv X pins σ H s1) E s
 self:∀ (A:Around) (i:Nat) (s:Shared) (Q:Value->Shared->Prop) (E:Value->Shared->Prop),tn i s.heap->Q (.ref it) s->wpAny (model P w) A (pyIter (.ref it)) Q E s
noncomputable abbrev TI:=St->Hp->(It->Hp->Prop)->Prop
def PIE(X:Cx)(pins:List (Addr×Obj))(σ:St)(tg:Expr)(R:It->Hp->Prop)(itv:Value)(s2:Shared):Prop :=
 ∃ (it:Addr) (fp:List Addr) (tn:Nat->Heap->Prop) (J:It) (H':Hp),itv=.ref it/\Inv X pins σ H' s2/\Turn X.prog X.w X.K tg J fp it tn/\tn 0 s2.heap/\(∀ b∈fp,FpOk X pins H' b)/\R J H'
def PI(X:Cx)(tg iter:Expr)(wi:TI):Prop :=
 ∀ (pins:List (Addr×Obj)) (s:Shared) (σ:St) (H:Hp) (R:It->Hp->Prop),Inv X pins σ H s->wi σ H R ->
   wpAny (model X.prog X.w) X.A (eval iter X.env) (fun v s1=>wpAny (model X.prog X.w) X.A (pyIter v) (PIE X pins σ tg R) X.xe s1) X.xe s
theorem zoh{M:Model}{A:Around}{E:Value->Shared->Prop}{s:Shared}{tg:Expr}{it:Addr}{u:Value}{o:Obj}{n:String}{vs:Array Value}{Q:Unit->Shared->Prop}(ho:s.heap.get? it=some o)(hc:o.cls=.type n)(hd:o.data=.fields vs)
   (hn:["enumerate","zip","dict_itemiterator","dict_reverseitemiterator","odict_iterator","itertools.zip_longest","itertools.pairwise"].contains n=false) (hQ:Q () s):wpAny M A (letOwnedTupleGo tg (.ref it) u) Q E s:=by
 unfold letOwnedTupleGo
 cases tg <;> first
   | exact Ae hQ
   | (cases u <;> first
       | exact Ae hQ
       | (refine Aa (wpAny_load ho ?_)
          rw[hc,hd];show wpAny M A (if (["enumerate","zip","dict_itemiterator","dict_reverseitemiterator","odict_iterator","itertools.zip_longest","itertools.pairwise"].contains n&&vs[0]?==some (rawInt _))=true then _ else _) Q E s;rw[if_neg (by intro h;rw[hn,Bool.false_and] at h;cases h)];exact Ae hQ))
noncomputable def Itl(K:Ac)(a:Addr):It :=
 ⟨fun i H=>∃ xs x,SqL K H a xs/\xs[i]?=some x,fun i H x H'=>H'=H/\∀ xs,SqL K H a xs->xs[i]?=some x,fun i H=>∃ xs,SqL K H a xs/\xs.length<=i⟩
noncomputable def Itt(K:Ac)(a:Addr):It :=
 ⟨fun i H=>∃ xs x,SqT K H a xs/\xs[i]?=some x,fun i H x H'=>H'=H/\∀ xs,SqT K H a xs->xs[i]?=some x,fun i H=>∃ xs,SqT K H a xs/\xs.length<=i⟩
noncomputable def Itr(lo:Int)(n:Nat):It:=⟨fun i _=>i < n,fun i H x H'=>H'=H/\x=.int (lo+i),fun i _=>n<=i⟩
theorem ziZ{P:Program}{w:World}{K:Ac}{tg:Expr}(a it:Addr):Turn P w K tg (Itl K a) [it] it (fun i h=>h.IsListIter it a i) where
 mem:=by simp
 obj:=fun i h st b hb=>by
   have e:b=it:=by simpa using hb
   subst e;obtain⟨o,e,c,d⟩:=st;exact⟨o,e,fun v z=>by rw[d] at z;cases z⟩
 keep:=fun i h h' st k=>st.at fun o e=>k it (by simp) o e
 item:=by
   intro X hP hw hK hc i pins s σ H E I hf st hg;subst hP hw hK;obtain⟨xs,x,hq,hx⟩:=hg;obtain⟨its,rv,p,hz⟩:=I.list hq;obtain⟨u,hu,ru⟩:=rv.get hx;obtain⟨f0,f1,f2,f3,f4,f5⟩:=hf it (by simp);refine CL st p.isList (x:=u) (by simpa using hu) fun h' st' sb=>?_;have I1:Inv X pins σ H { s with heap:=h' }:=I.turned (t':=s.toks) (fun b o hb e=>(sb.2 b hb).trans e) f0 f1 f3 f4 f5;obtain⟨o,e,c,d⟩:=id st';exact⟨u,rfl,zoh (s:={ s with heap:=h' }) e c d (by decide) ⟨x,H,I1,ru,⟨rfl,fun ys hy=>by rw[I.list_inj hy hq];exact hx⟩,st',fun b hb=>(hf b hb).1⟩⟩
 done:=by
   intro X hP hw hK hc i pins s σ H E I hf st hg;subst hP hw hK;obtain⟨xs,hq,hx⟩:=hg;obtain⟨its,rv,p,hz⟩:=I.list hq;obtain⟨f0,f1,f2,f3,f4,f5⟩:=hf it (by simp);have hl:=rv.length;exact CQ (I.ok.hd hc) st p.isList (by simp;omega) fun h' eb=>⟨rfl,I.turned (t':=s.toks) (fun b o hb e=>eb b o hb e) f0 f1 f3 f4 f5⟩
 self:=fun _ _ _ _ _ st h=>wpAny_pyIter_listiter st h
theorem zhi{P:Program}{w:World}{K:Ac}{tg:Expr}(a it:Addr):Turn P w K tg (Itt K a) [it] it (fun i h=>h.IsTupleIter it a i) where
 mem:=by simp
 obj:=fun i h st b hb=>by
   have e:b=it:=by simpa using hb
   subst e;obtain⟨o,e,c,d⟩:=st;exact⟨o,e,fun v z=>by rw[d] at z;cases z⟩
 keep:=fun i h h' st k=>st.at fun o e=>k it (by simp) o e
 item:=by
   intro X hP hw hK hc i pins s σ H E I hf st hg;subst hP hw hK;obtain⟨xs,x,hq,hx⟩:=hg;obtain⟨its,rv,p,hz⟩:=I.tuple hq;obtain⟨u,hu,ru⟩:=rv.get hx;obtain⟨f0,f1,f2,f3,f4,f5⟩:=hf it (by simp);refine DU st (show s.heap.IsTuple a its.toArray from p) (x:=u) (by simpa using hu) fun h' st' sb=>?_;have I1:Inv X pins σ H { s with heap:=h' }:=I.turned (t':=s.toks) (fun b o hb e=>(sb.2 b hb).trans e) f0 f1 f3 f4 f5;obtain⟨o,e,c,d⟩:=id st';exact⟨u,rfl,zoh (s:={ s with heap:=h' }) e c d (by decide) ⟨x,H,I1,ru,⟨rfl,fun ys hy=>by rw[I.tuple_inj hy hq];exact hx⟩,st',fun b hb=>(hf b hb).1⟩⟩
 done:=by
   intro X hP hw hK hc i pins s σ H E I hf st hg;subst hP hw hK;obtain⟨xs,hq,hx⟩:=hg;obtain⟨its,rv,p,hz⟩:=I.tuple hq;obtain⟨f0,f1,f2,f3,f4,f5⟩:=hf it (by simp);have hl:=rv.length;exact D6 (I.ok.hd hc) st (show s.heap.IsTuple a its.toArray from p) (by simp;omega) fun h' eb=>⟨rfl,I.turned (t':=s.toks) (fun b o hb e=>eb b o hb e) f0 f1 f3 f4 f5⟩
 self:=fun _ _ _ _ _ st h=>wpAny_pyIter_tupleiter st h
theorem zhj{P:Program}{w:World}{K:Ac}{tg:Expr}(it:Addr)(lo:Int)(n:Nat):Turn P w K tg (Itr lo n) [it] it (fun i h=>IsRangeIter h it (lo+(i:Nat)*1) ((n:Int) - (i:Nat)) 1) where
 mem:=by simp
 obj:=fun i h st b hb=>by
   have e:b=it:=by simpa using hb
   subst e;exact⟨_,st,fun v z=>by
     have z':Data.fields _=Data.cell v:=z;cases z'⟩
 keep:=fun i h h' st k=>k it (by simp) _ st
 item:=by
   intro X hP hw hK hc i pins s σ H E I hf st hg;subst hP hw hK;obtain⟨f0,f1,f2,f3,f4,f5⟩:=hf it (by simp);have W:=Walks.range (prog:=X.prog) (w:=X.w) (I.ok.hd hc) it lo 1 n;refine W.item i s _ _ hg st fun v h' tk hv st' kk=>?_;obtain⟨t,rfl⟩:=hv;have I1:Inv X pins σ H { s with heap:=h',toks:=tk }:=I.turned (fun b o hb e=>kk b o (by simpa using hb) e) f0 f1 f3 f4 f5;refine⟨_,rfl,zoh (s:={ s with heap:=h',toks:=tk }) (n:="range_iterator") st' rfl rfl (by decide) ⟨.int (lo+i),H,I1,⟨t,?_⟩,⟨rfl,rfl⟩,st',fun b hb=>(hf b hb).1⟩⟩;rw[Int.mul_one]
 done:=by
   intro X hP hw hK hc i pins s σ H E I hf st hg;subst hP hw hK;obtain⟨f0,f1,f2,f3,f4,f5⟩:=hf it (by simp);exact wpAny_pyNext_range_end (I.ok.hd hc) st (by have:n<=i:=hg;omega) fun h' eb=>⟨rfl,I.turned (t':=s.toks) (fun b o hb e=>eb b o hb e) f0 f1 f3 f4 f5⟩
 self:=fun _ _ _ _ _ st h=>wpAny_pyIter_rangeiter st h
section
variable {X:Cx} {tg:Expr}
noncomputable def zrV(K:Ac)(tl:TE):TI:=fun σ H R=>tl σ H fun x H1=>∃ a,x=.ref a/\(∃ xs,SqL K H1 a xs)/\R (Itl K a) H1
noncomputable def iTup(K:Ac)(tl:TE):TI:=fun σ H R=>tl σ H fun x H1=>∃ a,x=.ref a/\(∃ xs,SqT K H1 a xs)/\R (Itt K a) H1
theorem zns{l:Expr}{tl:TE}(hl:PE X l tl):PI X tg l (zrV X.K tl):=by
 intro pins s σ H R I h;refine thn (hl pins s σ H _ I h) ?_;rintro v s1 ⟨x,H1,I1,r1,q1⟩;obtain⟨a,e,⟨xs,hq⟩,q⟩:=q1;subst e;cases r1;obtain⟨its,rv,p,hz⟩:=I1.list hq;refine DC p.isList ?_;refine⟨s1.heap.objs.size,[s1.heap.objs.size],_,_,H1,rfl,I1.kept (t':=s1.toks) fun b o e=>Ad _ e,ziZ a _,⟨_,Aq _ rfl,rfl,rfl⟩,fun b hb=>?_,q⟩;have e:b=s1.heap.objs.size:=by simpa using hb
 subst e;exact I1.fpOk (Af _) (I1.hok.fresh (Af _))
theorem zpt{l:Expr}{tl:TE}(hl:PE X l tl):PI X tg l (iTup X.K tl):=by
 intro pins s σ H R I h;refine thn (hl pins s σ H _ I h) ?_;rintro v s1 ⟨x,H1,I1,r1,q1⟩;obtain⟨a,e,⟨xs,hq⟩,q⟩:=q1;subst e;cases r1;obtain⟨its,rv,p,hz⟩:=I1.tuple hq;refine wpAny_pyIter_tuple (show s1.heap.IsTuple a its.toArray from p) ?_;refine⟨s1.heap.objs.size,[s1.heap.objs.size],_,_,H1,rfl,I1.kept (t':=s1.toks) fun b o e=>Ad _ e,zhi a _,⟨_,Aq _ rfl,rfl,rfl⟩,fun b hb=>?_,q⟩;have e:b=s1.heap.objs.size:=by simpa using hb
 subst e;exact I1.fpOk (Af _) (I1.hok.fresh (Af _))
theorem zhM{pins:List (Addr×Obj)}{σ:St}{H:Hp}{s:Shared}{R:It->Hp->Prop}{E:Value->Shared->Prop}{lo hi:Int}{t u v:Tok}{tk:Nat}(I:Inv X pins σ H s)(h1:-(2 ^ 62)<=lo)(h2:lo < 2 ^ 62)(h3:-(2 ^ 62)<=hi)(h4:hi < 2 ^ 62)
   (q:R (Itr lo (hi - lo).toNat) H):wpAny (model X.prog X.w) X.A (pyIter (.ref s.heap.objs.size)) (PIE X pins σ tg R) E { s with heap:=s.heap.push { cls:=.type "range",data:=.fields #[.int lo t,.int hi u,.int 1 v] },toks:=tk }:=by
 refine wpAny_pyIter_range (IsRange.new ..) (small_one h1 h2 h3 h4) ?_;have I1:Inv X pins σ H { s with heap:=s.heap.push { cls:=.type "range",data:=.fields #[.int lo t,.int hi u,.int 1 v] },toks:=tk }:=I.kept fun b o e=>Ad _ e;refine⟨(s.heap.push { cls:=.type "range",data:=.fields #[.int lo t,.int hi u,.int 1 v] }).objs.size,[(s.heap.push { cls:=.type "range",data:=.fields #[.int lo t,.int hi u,.int 1 v] }).objs.size],_,_,H,rfl,
   I1.kept (t':=tk) fun b o e=>Ad _ e,zhj _ lo (hi - lo).toNat,?_,fun b hb=>?_,q⟩
 . have e1:lo+((0:Nat):Int)*1=lo:=by simp
   have e2:(((hi - lo).toNat:Nat):Int) - ((0:Nat):Int)=Builtin.Range.rangeSize lo hi 1:=by rw[rangeSize_one];split <;> omega
   show IsRangeIter _ _ (lo+((0:Nat):Int)*1) ((((hi - lo).toNat:Nat):Int) - ((0:Nat):Int)) 1;rw[e1,e2];exact Aq _ rfl
 . have e:b=(s.heap.push { cls:=.type "range",data:=.fields #[.int lo t,.int hi u,.int 1 v] }).objs.size:=by simpa using hb
   subst e;exact I1.fpOk (Af _) (I1.hok.fresh (Af _))
noncomputable def zrU(ta:TA):TI:=fun σ H R=>ta σ H fun vs H1=>∃ j:Int,vs=[.int j]/\-(2 ^ 62)<=j/\j < 2 ^ 62/\R (Itr 0 j.toNat) H1
noncomputable def zrT(ta:TA):TI:=fun σ H R=>ta σ H fun vs H1=>∃ i j:Int,vs=[.int i,.int j]/\(-(2 ^ 62)<=i/\i < 2 ^ 62/\-(2 ^ 62)<=j/\j < 2 ^ 62)/\R (Itr i (j - i).toNat) H1
theorem zjj{a:Expr}{ta:TA}{p pos:Pos}(hg:Gl X "range")(hm:X.mg "range"=none)(ha:PA X [a] ta)(hs:starEach [a] X.env=[(false,eval a X.env)]:=by rfl):PI X tg (.Call (.Name "range" p) [a] [] pos) (zrU ta):=by
 intro pins s σ H R I h;refine Call_ (zfF I hg hm boot_range (Bt (thn (ha pos pins s σ H _ I h) ?_) hs rfl));rintro us s1 ⟨vs,H1,I1,r1,q1⟩;obtain⟨j,e,q1,q2,q⟩:=q1;subst e
 cases r1 with
 | cons r rr =>
   cases rr;obtain⟨t,rfl⟩:=r;exact call_range_1 (zhM I1 (by omega) (by omega) q1 q2 (by simpa using q))
theorem zji{a b:Expr}{ta:TA}{p pos:Pos}(hg:Gl X "range")(hm:X.mg "range"=none)(ha:PA X [a,b] ta)(hs:starEach [a,b] X.env=[(false,eval a X.env),(false,eval b X.env)]:=by rfl)(hs2:starEach [b] X.env=[(false,eval b X.env)]:=by rfl) :
   PI X tg (.Call (.Name "range" p) [a,b] [] pos) (zrT ta):=by
 intro pins s σ H R I h;refine Call_ (zfF I hg hm boot_range (Bt (thn (ha pos pins s σ H _ I h) ?_) (by rw[hs,hs2]) (by rw[hs2];rfl)));rintro us s1 ⟨vs,H1,I1,r1,q1⟩;obtain⟨i,j,e,⟨q1,q2,q3,q4⟩,q⟩:=q1;subst e
 cases r1 with
 | cons r rr =>
   cases rr with
   | cons r' rr =>
     cases rr;obtain⟨t,rfl⟩:=r;obtain⟨t',rfl⟩:=r';exact call_range_2 (zhM I1 q1 q2 q3 q4 q)
noncomputable def tFor(wi:TI)(g:TG)(tb:TS):TS:=fun D σ H=>wi σ H fun J H1=>∃ W:Nat->Nat->St->Hp->Prop,(∃ m,W 0 m σ H1)/\∀ i m σ H,W i m σ H ->
 (J.stop i H/\D.nx σ H)\/(J.go i H/\∃ N:St->Hp->Prop,(∀ σ' H',N σ' H'->∃ m',m' < m/\W (i+1) m' σ' H')/\∀ x H',J.yld i H x H'->g x σ H' fun σ2 H2=>tb { D with nx:=N,ct:=N,bk:=D.nx } σ2 H2)
noncomputable def zhT(fp:List Addr)(h:Heap):List (Addr×Obj):=fp.filterMap fun b=>(h.get? b).map fun o=>(b,o)
theorem zcw{fp:List Addr}{h:Heap}{b:Addr}{o:Obj}(hb:b∈fp)(e:h.get? b=some o):(b,o)∈zhT fp h:=List.mem_filterMap.mpr ⟨b,hb,by rw[e];rfl⟩
theorem zjs{fp:List Addr}{h:Heap}{p:Addr×Obj}(hp:p∈zhT fp h):p.1∈fp/\h.get? p.1=some p.2:=by
 obtain⟨b,hb,e⟩:=List.mem_filterMap.mp hp
 cases q:h.get? b with
 | none=>rw[q] at e;cases e
 | some o =>
   rw[q] at e;have e':(b,o)=p:=Ax e;subst e';exact⟨hb,q⟩
theorem Inv.pinned{pins:List (Addr×Obj)}{σ:St}{H:Hp}{s:Shared}{fp:List Addr}(I:Inv X pins σ H s)(hf:∀ b∈fp,FpOk X pins H b)(ho:∀ b∈fp,∃ o,s.heap.get? b=some o/\∀ v,o.data≠.cell v):Inv X (pins++zhT fp s.heap) σ H s :=
 I.pins_of fun p hp=>(List.mem_append.mp hp).elim (fun z=>I.pin p (AI _ z)) fun z=>by
   obtain⟨hb,e⟩:=zjs z;obtain⟨f0,f1,f2,_⟩:=hf p.1 hb;obtain⟨o,e',d⟩:=ho p.1 hb;rw[e] at e';cases e';exact⟨e,f0,f1,f2,d⟩
theorem Inv.unpinned{pins pl:List (Addr×Obj)}{σ:St}{H:Hp}{s:Shared}(I:Inv X (pins++pl) σ H s):Inv X pins σ H s:=I.pins_of fun p hp=>I.pin p (AI _ (AL _ hp))
theorem zpq{iter:Expr}{body:List Stmt}{wi:TI}{g:TG}{tb:TS}{pos:Pos}(hp:PassesOwn (model X.prog X.w) X.A X.env X.xe)(hc:X.calm=true)(hi:PI X tg iter wi)(hg:PG X tg g)(hb:PSs X body tb)
   (hs:∀ x,foldedSetIterable iter X.env x=pure x:=by intro _;rfl):PS X (.For tg iter body [] pos) (tFor wi g tb):=by
 intro pins s σ H D I h;refine wpAny_For (thn (hi pins s σ H _ I h) fun v s1 h1=>thn h1 fun itv s2 h2=>?_) hs;obtain⟨it,fp,tn,J,H2,e,I2,T,st2,f2,W,⟨m0,w0⟩,turn⟩:=h2;subst e
 -- what stays true of the iterator's objects through the loop
 have stat:∀ {H':Hp},(∀ b∈fp,H' b=none)->∀ b∈fp,FpOk X pins H' b:=fun hn b hb=>⟨hn b hb,(f2 b hb).2⟩
 refine codeAny_forLoop_any (fun n s'=>∃ i σ' H',Inv X pins σ' H' s'/\tn i s'.heap/\(∀ b∈fp,H' b=none)/\W i n σ' H') ?_ m0 ⟨0,σ,H2,I2,st2,fun b hb=>(f2 b hb).1,w0⟩;rintro n s3 ⟨i,σ3,H3,I3,st3,fr3,w3⟩
 rcases turn i n σ3 H3 w3 with ⟨stop,qn⟩ | ⟨go,N,hN,step⟩
 . refine BP hp (thn (T.done X rfl rfl rfl hc i pins s3 σ3 H3 X.xe I3 (stat fr3) st3 stop) ?_);rintro r s4 ⟨hr,I4⟩;subst hr;exact CW ⟨σ3,H3,I4,qn⟩
 . refine BP hp (thn (T.item X rfl rfl rfl hc i pins s3 σ3 H3 X.xe I3 (stat fr3) st3 go) ?_);rintro r s4 ⟨u,hr,h4⟩;subst hr;refine BP hp (thn h4 ?_);rintro _ s5 ⟨x,H5,I5,r5,y5,st5,fr5⟩;have I5':=I5.pinned (stat fr5) (T.obj _ _ st5);refine BP hp (thn (hg _ s5 σ3 H5 x u _ I5' r5 (step x H5 y5)) ?_);rintro _ s6 ⟨σ6,H6,I6,q6⟩;refine BP hp (thn (hb _ s6 σ6 H6 _ I6 q6) fun f s7 q7=>?_);have again:∀ {σ7:St} {H7:Hp},Inv X (pins++zhT fp s5.heap) σ7 H7 s7->N σ7 H7->∃ m,m < n/\∃ i σ' H',Inv X pins σ' H' s7/\tn i s7.heap/\(∀ b∈fp,H' b=none)/\W i m σ' H':=fun {σ7 H7} I7 n7=>by
     obtain⟨m',hm,w7⟩:=hN σ7 H7 n7;refine⟨m',hm,i+1,σ7,H7,I7.unpinned,T.keep _ _ _ st5 fun b hb o e=>(I7.pin (b,o) (AI _ (AI _ (zcw hb e)))).1,fun b hb=>?_,w7⟩;obtain⟨o,e,d⟩:=T.obj _ _ st5 b hb;exact (I7.pin (b,o) (AI _ (AI _ (zcw hb e)))).2.1
   cases f with
   | next=>obtain⟨σ7,H7,I7,n7⟩:=q7;exact again I7 n7
   | cont=>obtain⟨σ7,H7,I7,n7⟩:=q7;exact again I7 n7
   | brk=>obtain⟨σ7,H7,I7,q7⟩:=q7;exact⟨σ7,H7,I7.unpinned,q7⟩
   | ret v=>obtain⟨x7,σ7,H7,I7,r7,q7⟩:=q7;exact⟨x7,σ7,H7,I7.unpinned,r7,q7⟩
end
noncomputable abbrev R2:=V->V->Hp->VK->Prop
def OpR(X:Cx)(f:Value->Value->Sem Value)(r:R2):Prop :=
 ∀ (pins:List (Addr×Obj)) (s:Shared) (σ:St) (H:Hp) (x y:V) (v u:Value) (Q:VK),Inv X pins σ H s->RelV x v->RelV y u->r x y H Q ->
   wpAny (model X.prog X.w) X.A (f v u) (EP X pins σ Q) X.xe s
def UnR(X:Cx)(f:Value->Sem Value)(r:V->Hp->VK->Prop):Prop :=
 ∀ (pins:List (Addr×Obj)) (s:Shared) (σ:St) (H:Hp) (x:V) (v:Value) (Q:VK),Inv X pins σ H s->RelV x v->r x H Q ->
   wpAny (model X.prog X.w) X.A (f v) (EP X pins σ Q) X.xe s
def zjV(X:Cx)(f:Value)(r:List V->Hp->VK->Prop):Prop :=
 ∀ (pins:List (Addr×Obj)) (s:Shared) (σ:St) (H:Hp) (xs:List V) (us:List Value) (Q:VK),Inv X pins σ H s->Vals xs us->r xs H Q ->
   wpAny (model X.prog X.w) X.A (call f us) (EP X pins σ Q) X.xe s
def TruR(X:Cx)(r:V->Hp->(Bool->Hp->Prop)->Prop):Prop :=
 ∀ (pins:List (Addr×Obj)) (s:Shared) (σ:St) (H:Hp) (x:V) (v:Value) (Q:Bool->Hp->Prop),Inv X pins σ H s->RelV x v->r x H Q ->
   wpAny (model X.prog X.w) X.A (truthy v) (TP X pins σ Q) X.xe s
noncomputable def tOp(r:R2)(ta tb:TE):TE:=fun σ H Q=>ta σ H fun x H1=>tb σ H1 fun y H2=>r x y H2 Q
noncomputable def tUn(r:V->Hp->VK->Prop)(ta:TE):TE:=fun σ H Q=>ta σ H fun x H1=>r x H1 Q
noncomputable def rI(C:Int->Int->Prop)(g:Int->Int->V):R2:=fun x y H Q=>∃ i j,x=.int i/\y=.int j/\C i j/\Q (g i j) H
noncomputable def rI0(g:Int->Int->V):R2:=fun x y H Q=>∃ i j,x=.int i/\y=.int j/\Q (g i j) H
noncomputable def rU(g:Int->V):V->Hp->VK->Prop:=fun x H Q=>∃ i,x=.int i/\Q (g i) H
section
variable {X:Cx} {a b c:Expr} {ta tb tc:TE} {pos:Pos}
theorem binT(ha:PE X a ta)(hb:PE X b tb){pins:List (Addr×Obj)}{s:Shared}{σ:St}{H:Hp}{R:V->V->Hp->Prop}(I:Inv X pins σ H s)
   (h:ta σ H fun x H1=>tb σ H1 fun y H2=>R x y H2) {Q:Value->Shared->Prop} {f:Value->Value->Sem Value}
   (hf:∀ v u s2 x y H2,Inv X pins σ H2 s2->RelV x v->RelV y u->R x y H2->wpAny (model X.prog X.w) X.A (f v u) Q X.xe s2) :
   wpAny (model X.prog X.w) X.A (eval a X.env) (fun v s₁=>wpAny (model X.prog X.w) X.A (eval b X.env) (fun u s₂=>wpAny (model X.prog X.w) X.A (f v u) Q X.xe s₂) X.xe s₁) X.xe s:=by
 refine thn (ha pins s σ H _ I h) ?_;rintro v s1 ⟨x,H1,I1,r1,q1⟩;refine thn (hb pins s1 σ H1 _ I1 q1) ?_;rintro u s2 ⟨y,H2,I2,r2,q2⟩;exact hf v u s2 x y H2 I2 r1 r2 q2
theorem zrD{op:Operator}{r:R2}(ho:OpR X (binaryOp op) r)(ha:PE X a ta)(hb:PE X b tb):PE X (.BinOp a op b pos) (tOp r ta tb):=by
 intro pins s σ H Q I h;exact wpAny_BinOp (binT ha hb I h fun v u s2 x y H2 I2 rx ry q=>ho pins s2 σ H2 x y v u Q I2 rx ry q)
theorem zrB{op:UnaryOp}{r:V->Hp->VK->Prop}(ho:UnR X (unaryOp op) r)(ha:PE X a ta):PE X (.UnaryOp op a pos) (tUn r ta):=by
 intro pins s σ H Q I h;exact UnaryOp_ (thn (ha pins s σ H _ I h) fun v s1 ⟨x,H1,I1,r1,q1⟩=>ho pins s1 σ H1 x v Q I1 r1 q1)
theorem opI{f:Value->Value->Sem Value}{C:Int->Int->Prop}{g:Int->Int->Int}
   (rule:∀ (i j:Int) (t u:Tok) (s:Shared) (Q:Value->Shared->Prop) (E:Value->Shared->Prop),C i j->Q (.int (g i j) s.toks) { s with toks:=s.toks+1 }->wpAny (model X.prog X.w) X.A (f (.int i t) (.int j u)) Q E s) :
   OpR X f (rI C fun i j=>.int (g i j)):=by
 intro pins s σ H x y v u Q I rx ry h;obtain⟨i,j,rfl,rfl,hc,q⟩:=h;obtain⟨t,rfl⟩:=rx;obtain⟨t',rfl⟩:=ry;exact rule i j t t' s _ _ hc ⟨.int (g i j),H,I.tok _,⟨_,rfl⟩,q⟩
theorem opI0{f:Value->Value->Sem Value}{g:Int->Int->Int}
   (rule:∀ (i j:Int) (t u:Tok) (s:Shared) (Q:Value->Shared->Prop) (E:Value->Shared->Prop),Q (.int (g i j) s.toks) { s with toks:=s.toks+1 }->wpAny (model X.prog X.w) X.A (f (.int i t) (.int j u)) Q E s) :
   OpR X f (rI0 fun i j=>.int (g i j)):=by
 intro pins s σ H x y v u Q I rx ry h;obtain⟨i,j,rfl,rfl,q⟩:=h;obtain⟨t,rfl⟩:=rx;obtain⟨t',rfl⟩:=ry;exact rule i j t t' s _ _ ⟨.int (g i j),H,I.tok _,⟨_,rfl⟩,q⟩
theorem opB0{f:Value->Value->Sem Value}{g:Int->Int->Bool}
   (rule:∀ (i j:Int) (t u:Tok) (s:Shared) (Q:Value->Shared->Prop) (E:Value->Shared->Prop),Q (.bool (g i j)) s->wpAny (model X.prog X.w) X.A (f (.int i t) (.int j u)) Q E s) :
   OpR X f (rI0 fun i j=>.bl (g i j)):=by
 intro pins s σ H x y v u Q I rx ry h;obtain⟨i,j,rfl,rfl,q⟩:=h;obtain⟨t,rfl⟩:=rx;obtain⟨t',rfl⟩:=ry;exact rule i j t t' s _ _ ⟨.bl (g i j),H,I,rfl,q⟩
def CMul(i j:Int):Prop:=(-(2 ^ 64) < i/\i < 2 ^ 64)\/(-(2 ^ 64) < j/\j < 2 ^ 64)
theorem CMul.ok{i j:Int}(h:CMul i j):IntMulOk i j:=by
 rcases h with ⟨h1,h2⟩ | ⟨h1,h2⟩
 . exact .of_left (intBits_le_64 h1 h2)
 . exact .of_right (intBits_le_64 h1 h2)
theorem zpS:OpR X (binaryOp .Add) (rI0 fun i j=>.int (i+j)):=opI0 fun _ _ _ _ _ _ _ q=>add_int q
theorem zpK:OpR X (binaryOp .Sub) (rI0 fun i j=>.int (i - j)):=opI0 fun _ _ _ _ _ _ _ q=>sub_int q
theorem zpL:OpR X (binaryOp .Mult) (rI CMul fun i j=>.int (i*j)):=opI fun _ _ _ _ _ _ _ hc q=>FR q hc.ok
theorem zpM:OpR X (binaryOp .Mod) (rI (fun _ j=>0 < j) fun i j=>.int (i % j)):=opI fun i j _ _ _ _ _ hc q=>by
 have h1:(0:Int) < j:=hc;exact mod_int' (by omega) (by rw[Int.fmod_eq_emod_of_nonneg i (by omega)];exact q)
theorem unI{f:Value->Sem Value}{g:Int->Int}
   (rule:∀ (i:Int) (t:Tok) (s:Shared) (Q:Value->Shared->Prop) (E:Value->Shared->Prop),Q (.int (g i) s.toks) { s with toks:=s.toks+1 }->wpAny (model X.prog X.w) X.A (f (.int i t)) Q E s) :
   UnR X f (rU fun i=>.int (g i)):=by
 intro pins s σ H x v Q I rx h;obtain⟨i,rfl,q⟩:=h;obtain⟨t,rfl⟩:=rx;exact rule i t s _ _ ⟨.int (g i),H,I.tok _,⟨_,rfl⟩,q⟩
theorem zoS:UnR X (unaryOp .USub) (rU fun i=>.int (-i)):=unI fun _ _ _ _ _ q=>neg_int q
end
section
variable {X:Cx} {a b c:Expr} {ta tb tc:TE} {pos:Pos}
theorem zjK{pins:List (Addr×Obj)}{σ:St}{H:Hp}{s:Shared}{Q:VK}{k k':Bool}(I:Inv X pins σ H s)(q:Q (.bl k) H)(e:k=k'):EP X pins σ Q (.bool k') s:=by
 subst e;exact⟨.bl k,H,I,rfl,q⟩
theorem zrH:OpR X (compareOp .Lt) (rI0 fun i j=>.bl (decide (i < j))):=opB0 fun _ _ _ _ _ _ _ q=>EL q
theorem zrI:OpR X (compareOp .LtE) (rI0 fun i j=>.bl (decide (i<=j))):=opB0 fun _ _ _ _ _ _ _ q=>le_int q
theorem zrJ:OpR X (compareOp .Gt) (rI0 fun i j=>.bl (decide (j < i))):=opB0 fun _ _ _ _ _ _ _ q=>gt_int q
theorem zrK:OpR X (compareOp .GtE) (rI0 fun i j=>.bl (decide (j<=i))):=opB0 fun _ _ _ _ _ _ _ q=>ge_int q
theorem zjq:OpR X (compareOp .In) (fun x y H Q=>∃ i j,x=.str i/\y=.str j/\Q (.bl (!(Be j i 0 j.length 1).isEmpty)) H):=by
 intro pins s σ H x y v u Q I rx ry h;obtain⟨i,j,rfl,rfl,q⟩:=h;obtain⟨t,rfl⟩:=rx;obtain⟨t',rfl⟩:=ry;exact in_str (zjK I q rfl)
theorem zpP:OpR X (compareOp .Is) (fun x y H Q=>y=.non/\Q (.bl (decide (x=.non))) H):=by
 intro pins s σ H x y v u Q I rx ry h;obtain⟨rfl,q⟩:=h;cases ry;refine is_none_gen (zjK I q ?_)
 cases x <;> first
   | (cases rx;rfl)
   | (obtain⟨t,rfl⟩:=rx;rfl)
theorem znG:OpR X (compareOp .IsNot) (fun x y H Q=>y=.non/\Q (.bl (!decide (x=.non))) H):=by
 intro pins s σ H x y v u Q I rx ry h;obtain⟨rfl,q⟩:=h;cases ry;refine isnot_none_gen (zjK I q ?_)
 cases x <;> first
   | (cases rx;rfl)
   | (obtain⟨t,rfl⟩:=rx;rfl)
theorem zfz:OpR X (compareOp .NotIn) (fun x y H Q=>∃ i j,x=.str i/\y=.str j/\Q (.bl (!(!(Be j i 0 j.length 1).isEmpty))) H):=by
 intro pins s σ H x y v u Q I rx ry h;obtain⟨i,j,rfl,rfl,q⟩:=h;obtain⟨t,rfl⟩:=rx;obtain⟨t',rfl⟩:=ry;exact notIn_str (zjK I q rfl)
theorem znx{op:CmpOp}{r:R2}(ho:OpR X (compareOp op) r)(ha:PE X a ta)(hb:PE X b tb)(hm:behindInMarks op b=false):PE X (.Compare a [op] [b] pos) (tOp r ta tb):=by
 intro pins s σ H Q I h;exact wpAny_Compare1 (binT ha hb I h fun v u s2 x y H2 I2 rx ry q=>ho pins s2 σ H2 x y v u Q I2 rx ry q) hm
noncomputable def zqQ(t:TE):TT:=fun σ H Q=>t σ H fun x H'=>∃ k,x=.bl k/\Q k H'
theorem znk{op:CmpOp}{r:R2}(ho:OpR X (compareOp op) r)(ha:PE X a ta)(hb:PE X b tb)(hm:behindInMarks op b=false):PT X (.Compare a [op] [b] pos) (zqQ (tOp r ta tb)):=by
 intro pins s σ H Q I h;refine Eg (thn (ha pins s σ H _ I h) fun v s1 ⟨x,H1,I1,r1,q1⟩=>thn (hb pins s1 σ H1 _ I1 q1) fun u s2 ⟨y,H2,I2,r2,q2⟩ =>
   thn (ho pins s2 σ H2 x y v u _ I2 r1 r2 q2) fun c s3 ⟨z,H3,I3,r3,k,e,q3⟩=>?_) hm
 subst e;cases r3;exact Bl ⟨H3,I3,q3⟩
noncomputable def zkS(r r':R2)(ta tb tc:TE):TE:=fun σ H Q=>ta σ H fun x H1=>tb σ H1 fun y H2=>r x y H2 fun z H3=>∃ k,z=.bl k /\
 (if k=true then tc σ H3 fun w' H4=>r' y w' H4 Q else Q (.bl false) H3)
theorem zly{op op':CmpOp}{r r':R2}(ho:OpR X (compareOp op) r)(ho':OpR X (compareOp op') r')(ha:PE X a ta)(hb:PE X b tb)(hc:PE X c tc)
   (hm:lastMarks [op,op'] [b,c]=false:=by with_unfolding_all rfl):PE X (.Compare a [op,op'] [b,c] pos) (zkS r r' ta tb tc):=by
 intro pins s σ H Q I h;refine Compare_chain (thn (ha pins s σ H _ I h) fun v s1 ⟨x,H1,I1,r1,q1⟩=>chain_link (thn (hb pins s1 σ H1 _ I1 q1) fun u s2 ⟨y,H2,I2,r2,q2⟩ =>
   thn (ho pins s2 σ H2 x y v u _ I2 r1 r2 q2) fun d s3 ⟨z,H3,I3,r3,k,e,q3⟩=>?_)) hm
 subst e;cases r3;refine Bl ?_
 cases k with
 | false=>exact ite_ff ⟨.bl false,H3,I3,rfl,q3⟩
 | true=>exact ite_tt (chain_last (thn (hc pins s3 σ H3 _ I3 q3) fun w' s4 ⟨z',H4,I4,r4,q4⟩=>ho' pins s4 σ H4 y z' u w' Q I4 r2 r4 q4))
theorem zln{op op':CmpOp}{r r':R2}(ho:OpR X (compareOp op) r)(ho':OpR X (compareOp op') r')(ha:PE X a ta)(hb:PE X b tb)(hc:PE X c tc)
   (hm:lastMarks [op,op'] [b,c]=false:=by with_unfolding_all rfl):PT X (.Compare a [op,op'] [b,c] pos) (zqQ (zkS r r' ta tb tc)):=by
 intro pins s σ H Q I h;refine isTrue_chain (thn (ha pins s σ H _ I h) fun v s1 ⟨x,H1,I1,r1,q1⟩=>test_link (thn (hb pins s1 σ H1 _ I1 q1) fun u s2 ⟨y,H2,I2,r2,q2⟩ =>
   thn (ho pins s2 σ H2 x y v u _ I2 r1 r2 q2) fun d s3 ⟨z,H3,I3,r3,k,e,q3⟩=>?_)) hm
 subst e;cases r3;refine Bl ?_
 cases k with
 | false =>
   obtain⟨k',e',q'⟩:=q3;cases e';exact ite_ff ⟨H3,I3,q'⟩
 | true =>
   refine ite_tt (test_last (thn (hc pins s3 σ H3 _ I3 q3) fun w' s4 ⟨z',H4,I4,r4,q4⟩=>thn (ho' pins s4 σ H4 y z' u w' _ I4 r2 r4 q4) ?_));rintro d' s5 ⟨z2,H5,I5,r5,k2,e2,q5⟩;subst e2;cases r5;exact Bl ⟨H5,I5,q5⟩
def TruV(K:Ac)(x:V)(H:Hp)(k:Bool):Prop :=
 match x with
 | .non=>k=false
 | .bl b=>k=b
 | .int i=>k=(i != 0)
 | .str y=>y.length<=sizeLine/\k=((y.length:Int) != 0)
 | .byt y=>y.size<=sizeLine/\k=((y.size:Int) != 0)
 | .ref p=>(∃ xs,SqL K H p xs/\k=!xs.isEmpty)\/(∃ xs,SqT K H p xs/\k=!xs.isEmpty)\/∃ kvs,H p=some (.dK kvs)/\k=!kvs.isEmpty
 | _=>False
theorem zir{κ:Type}{kvs:List (κ×V)}{vs:List (κ×Value)}(r:KV kvs vs):(!vs.isEmpty)=!kvs.isEmpty:=by
 cases r <;> rfl
theorem ze1{xs:List V}{its:List Value}(r:Vals xs its):(!its.toArray.isEmpty)=!xs.isEmpty:=by
 cases r <;> simp
theorem zfE:(sizeLine:Nat) < 2 ^ 63:=by rw[Dm];decide
theorem zoV:TruR X (fun x H Q=>∃ k,TruV X.K x H k/\Q k H):=by
 intro pins s σ H x v Q I rx h;obtain⟨k,e,q⟩:=h;have hl:=zfE;have hs:sizeLine=16777216:=Dm
 cases x with
 | non =>
   cases rx;have e':k=false:=e;subst e';exact truthy_none ⟨H,I,q⟩
 | bl b =>
   cases rx;have e':k=b:=e;subst e';exact Bl ⟨H,I,q⟩
 | int i =>
   obtain⟨t,rfl⟩:=rx;have e':k=(i != 0):=e;subst e';exact PySem.P.truthy_int ⟨H,I,q⟩
 | str y =>
   obtain⟨t,rfl⟩:=rx;obtain⟨hy,e'⟩:y.length<=sizeLine/\k=((y.length:Int) != 0):=e;subst e';exact PySem.P.truthy_str (by omega) ⟨H,I.tok _,q⟩
 | byt y =>
   obtain⟨t,rfl⟩:=rx;obtain⟨hy,e'⟩:y.size<=sizeLine/\k=((y.size:Int) != 0):=e;subst e';exact PySem.W.truthy_bytes (by omega) ⟨H,I.tok _,q⟩
 | ref p =>
   cases rx;have e':(∃ xs,SqL X.K H p xs/\k=!xs.isEmpty)\/(∃ xs,SqT X.K H p xs/\k=!xs.isEmpty)\/∃ kvs,H p=some (.dK kvs)/\k=!kvs.isEmpty:=e
   rcases e' with ⟨xs,hx,e'⟩ | ⟨xs,hx,e'⟩ | ⟨kvs,hx,e'⟩
   . subst e';obtain⟨its,r,pl,hz⟩:=I.list hx;have hlen:=r.length;exact wpAny_truthy_list pl.isList (by simp only[Au];omega) ⟨H,I.tok _,by rw[ze1 r];exact q⟩
   . subst e';obtain⟨its,r,pl,hz⟩:=I.tuple hx;have hlen:=r.length;exact truthy_tuple pl (by simp only[Au];omega) ⟨H,I.tok _,by rw[ze1 r];exact q⟩
   . subst e';obtain⟨hz,hS,vs,r,m⟩:kvs.length<=sizeLine/\(p==sysModules)=false/\∃ vs,KV kvs vs/\s.heap.DictOf (zay X.prog X.w) p vs:=I.hok p _ hx;have hlen:kvs.length=vs.length:=Bp r;exact wpAny_truthy_dict hS m (by omega) ⟨H,I.tok _,by rw[zir r];exact q⟩
 | _=>exact (show False from e).elim
theorem zlm(ha:PE X a ta)(he:∀ whole,isTrue a X.env whole=(do let v <-whole;standAt a.pos;holding [v] (truthy v))) :
   PT X a (fun σ H Q=>ta σ H fun x H'=>∃ k,TruV X.K x H' k/\Q k H'):=by
 intro pins s σ H Q I h;exact isTrue_plain (thn (ha pins s σ H _ I h) fun v s1 ⟨x,H1,I1,r1,q1⟩=>zoV pins s1 σ H1 x v Q I1 r1 q1) (he _)
theorem zhY:OpR X (binaryOp .Add) (fun x y H Q=>∃ i j,x=.str i/\y=.str j/\i.length+j.length<=sizeLine/\Q (.str (i++j)) H):=by
 intro pins s σ H x y v u Q I rx ry h;obtain⟨i,j,rfl,rfl,hz,q⟩:=h;obtain⟨t,rfl⟩:=rx;obtain⟨t',rfl⟩:=ry;exact add_str (fun t' tk=>⟨.str (i++j),H,I.tok _,⟨_,rfl⟩,q⟩) hz
theorem vals1{x:V}{us:List Value}(r:Vals [x] us):∃ u,us=[u]/\RelV x u:=by
 cases r with
 | cons r1 r2=>cases r2;exact⟨_,rfl,r1⟩
theorem zmu:zjV X (.builtin "abs") (fun xs H Q=>∃ i,xs=[.int i]/\Q (.int (if i < 0 then -i else i)) H):=by
 intro pins s σ H xs us Q I r h;obtain⟨i,rfl,q⟩:=h;obtain⟨u,rfl,t,rfl⟩:=vals1 r;exact call_abs_int fun u tk=>⟨.int (if i < 0 then -i else i),H,I.tok _,⟨_,rfl⟩,q⟩
end
theorem RelO.some_of{v:V}{o:Option Value}(r:RelO (some v) o):∃ u,o=some u/\RelV v u:=by
 cases o with
 | none=>exact (show False from r).elim
 | some u=>exact⟨u,rfl,r⟩
structure Room(k:Nat)(A:Around):Prop where
 hd:A.handled=none
 dp:A.depth+3*k+5 < recursionLimit
 un:A.units+16*k+200 < cLine
 gd:A.guards=some []
theorem Room.mono{j k:Nat}{A:Around}(r:Room k A)(h:j<=k):Room j A:=⟨r.hd,by have:=r.dp;omega,by have:=r.un;omega,r.gd⟩
theorem Room.deeper{k:Nat}{A:Around}(r:Room (k+1) A)(env:Env):Room k (A.deeper env) :=
 ⟨r.hd,by have:=r.dp;show A.depth+1+3*k+5 < _;omega,by have:=r.un;show A.units+3+16*k+200 < _;omega,r.gd⟩
theorem Room.depth{k:Nat}{A:Around}(r:Room k A):A.depth < recursionLimit:=by have:=r.dp;omega
theorem Room.units{k:Nat}{A:Around}(r:Room k A):A.units+64 < cLine:=by have:=r.un;omega
noncomputable def tNil:TA:=fun _ H Q=>Q [] H
noncomputable def zrj(ta:TE)(tr:TA):TA:=fun σ H Q=>ta σ H fun x H1=>tr σ H1 fun xs H2=>Q (x::xs) H2
section
variable {X:Cx} {e:Expr} {es:List Expr} {te:TE} {t:TA} {pos:Pos}
theorem zlz:PA X [] tNil:=fun _ _ _ _ H Q I h=>Fb ⟨[],H,I,.nil,h⟩
theorem zf8(ha:PE X e te)(hr:PA X es t)(hs:starEach (e::es) X.env=(false,eval e X.env)::starEach es X.env:=by rfl):PA X (e::es) (zrj te t):=by
 intro pos pins s σ H Q I h;rw[hs];show wpAny _ _ (spliced ((false,eval e X.env)::backTo pos (starEach es X.env))) _ _ s;refine EO (thn (ha pins s σ H _ I h) ?_);rintro u s1 ⟨x,H1,I1,r1,q1⟩;exact thn (hr pos pins s1 σ H1 _ I1 q1) fun us s2 ⟨xs,H2,I2,r2,q2⟩=>⟨x::xs,H2,I2,.cons r1 r2,q2⟩
noncomputable def tTup(t:TA):TE:=fun σ H Q=>t σ H fun xs H1=>xs.length<=sizeLine/\∀ p,H1 p=none->Q (.ref p) (upd H1 p (.tup xs))
noncomputable def tLst(t:TA):TE:=fun σ H Q=>t σ H fun xs H1=>xs.length<=sizeLine/\∀ p,H1 p=none->Q (.ref p) (upd H1 p (.lst xs))
theorem zpy{x1}(h:PA X es t):PE X (.Tuple es x1 pos) (tTup t):=by
 intro pins s σ H Q I hq;refine wpAny_Tuple_spliced (thn (h pos pins s σ H _ I hq) fun us s1 ⟨xs,H1,I1,r,z,q⟩=>⟨by rw[<-r.length];exact z,?_⟩);have hf:H1 s1.heap.objs.size=none:=I1.hok.fresh (Af _);refine⟨.ref s1.heap.objs.size,upd H1 s1.heap.objs.size (.tup xs),I1.laid (t':=s1.toks) (fun b u e=>Ad _ e) (Af _) ?_,rfl,q _ hf⟩;exact⟨z,us,r,⟨_,Aq _ rfl,rfl,rfl,_,rfl⟩⟩
theorem zpC(h:PA X es t):PE X (.List es pos) (tLst t):=by
 intro pins s σ H Q I hq;refine wpAny_List_spliced (thn (h pos pins s σ H _ I hq) fun us s1 ⟨xs,H1,I1,r,z,q⟩=>⟨by rw[<-r.length];exact z,?_⟩);have hf:H1 s1.heap.objs.size=none:=I1.hok.fresh (Af _);refine⟨.ref s1.heap.objs.size,upd H1 s1.heap.objs.size (.lst xs),I1.laid (t':=s1.toks) (fun b u e=>Ad _ e) (Af _) ?_,rfl,q _ hf⟩;exact⟨z,us,0,r,Aq _ rfl⟩
end
noncomputable abbrev Sp:=List V->Hp->VK->XK->Prop
noncomputable abbrev CXT:=List Env->Hp->Shared->XK->Value->Shared->Prop
structure Env0(P:Program)(w:World)(K:Ac)(mg:Str->Option Value)(base:Heap)(A:Around)(outer:List Env)(s:Shared)(H:Hp):Prop where
 frames:A.frames=some outer
 mod:Mod K mg base
 bs:∀ b o,base.get? b=some o->s.heap.get? b=some o/\H b=none
 bsz:base.objs.size<=s.heap.objs.size
 funs:s.heap.FunFrames base outer
 frf:∀ b∈frs outer,H b=none
 hok:HOk P w H s.heap
 bare:AllBare s.gens
def CE(outer:List Env)(P:Program)(w:World)(H:Hp)(s:Shared)(Q:VK)(u:Value)(s':Shared):Prop :=
 ∃ v H',s'.os=s.os/\AllBare s'.gens/\Un (frs outer) [] H H' s.heap s'.heap/\HOk P w H' s'.heap/\RelV v u/\Q v H'
def CR(CX:CXT)(outer:List Env)(P:Program)(w:World)(H:Hp)(s:Shared)(Q:VK)(E:XK)(r:Result)(s':Shared):Prop :=
 match r with
 | .ok (.ret u)=>CE outer P w H s Q u s'
 | .ok _=>False
 | .error e=>CX outer H s E e s'
structure FnOk(P:Program)(w:World)(K:Ac)(mg:Str->Option Value)(base:Heap)(CX:CXT)(k:Nat)(f:Addr)(fd:FuncData)(ps:List Str)(sp:Sp):Prop where
 len:∀ vs H Q E,sp vs H Q E->vs.length=ps.length
 run:∀ (A:Around) (outer:List Env) (s:Shared) (H:Hp) (args:Args) (us:List Value) (vs:List V) (Q:VK) (E:XK),Room k A->Env0 P w K mg base A outer s H->BindsTo s fd args (ps.zip us)->Vals vs us->sp vs H Q E ->
   codeAny (model P w) A (.call (.ref f) args) (CR CX outer P w H s Q E) s
section
variable {X:Cx} {pins:List (Addr×Obj)} {σ:St} {H:Hp} {s s':Shared}
theorem Inv.env0(I:Inv X pins σ H s):Env0 X.prog X.w X.K X.mg X.base X.A X.stack s H :=
 ⟨I.ok.frames,I.ok.mod,I.bs,AF I.ok.bsz I.sz,I.stack,I.stkFree,I.hok,I.bare⟩
theorem Inv.after{Q:VK}{u:Value}(I:Inv X pins σ H s)(h:CE X.stack X.prog X.w H s Q u s'):EP X pins σ Q u s':=by
 obtain⟨v,H',os,bare,un,hok,r,q⟩:=h;obtain⟨hh,g,d,t,os'⟩:=s';obtain rfl:os'=s.os:=os;exact⟨v,H',I.call (h':=hh) (g':=g) (d':=d) (t':=t) (ch:=[]) un hok bare (fun b z=>absurd z (by simp)),r,q⟩
end
noncomputable def zrk(sp:Sp)(dvs:List V)(E:XK)(t:TA):TE:=fun σ H Q=>t σ H fun vs H1=>sp (vs++dvs) H1 Q E
def Binds(K:Ac)(fd:FuncData)(ps:List Str)(ds:List Value):Prop :=
 ∀ (s:Shared) (us:List Value),K.In s.heap->(us++ds).length=ps.length->BindsTo s fd ⟨us,[]⟩ (ps.zip (us++ds))
theorem Binds.all{K:Ac}{fd:FuncData}{ps:List Str}(h:∀ us:List Value,us.length=ps.length->bindArgs fd ⟨us,[]⟩=pure (ps.zip us)):Binds K fd ps []:=fun s us _ hl=>by
 rw[Ai] at hl ⊢;exact .of_eq (h us hl)
def Passes(CX:CXT)(X:Cx)(E:XK):Prop:=∀ (pins:List (Addr×Obj)) (σ:St) (H:Hp) (s:Shared) (e:Value) (s':Shared),Inv X pins σ H s->CX X.stack H s E e s'->X.xe e s'
section
variable {X:Cx} {CX:CXT} {k:Nat} {f C:Addr} {fd:FuncData} {ps:List Str} {sp:Sp} {dvs:List V} {ds:List Value} {E:XK} {x m:Str} {p pos apos:Pos} {e o:Expr} {es:List Expr} {ta:TE} {t:TA}
theorem zpg{pins:List (Addr×Obj)}{σ:St}{H:Hp}{s:Shared}{Q:VK}{us:List Value}{vs:List V}(F:FnOk X.prog X.w X.K X.mg X.base CX k f fd ps sp)(hr:Room k X.A)(hb:Binds X.K fd ps ds)(hd:Vals dvs ds)(hx:Passes CX X E)
   (I:Inv X pins σ H s) (r:Vals vs us) (h:sp (vs++dvs) H Q E):wpAny (model X.prog X.w) X.A (call (.ref f) us) (EP X pins σ Q) X.xe s:=by
 have r2:Vals (vs++dvs) (us++ds):=r.append hd;have hl:(us++ds).length=ps.length:=by rw[<-r2.length];exact F.len _ _ _ _ h
 refine wpAny_call (ER (F.run X.A X.stack s H ⟨us,[]⟩ (us++ds) (vs++dvs) Q E hr I.env0 (hb s us I.kIn hl) r2 h) fun r s' hq=>?_)
 cases r with
 | error e=>exact hx pins σ H s e s' I hq
 | ok fl =>
   cases fl with
   | ret u=>exact I.after hq
   | next=>exact False.elim hq
   | brk=>exact False.elim hq
   | cont=>exact False.elim hq
theorem zny(F:FnOk X.prog X.w X.K X.mg X.base CX k f fd ps sp)(hr:Room k X.A)(hg:Gl X x)(hm:X.mg x=some (.ref f))(hk:BU X.K (.ref f)=true)(hb:Binds X.K fd ps ds)(hd:Vals dvs ds)(hx:Passes CX X E)
   (ha:PA X (e::es) t) (hdb:(x==("__debug__":Str))=false:=by decide) (he:starEach (e::es) X.env=(false,eval e X.env)::starEach es X.env:=by rfl) (hpl:(backTo pos (starEach es X.env)).any (·.1)=false:=by rfl) :
   PE X (.Call (.Name x p) (e::es) [] pos) (zrk sp dvs E t):=by
 intro pins s σ H Q I h;refine Dp (zkq I hg hm ?_ hdb);refine PySem.W.callWith_K (h₀:=X.base) I.ok.mod.kin hk (thn (ha pos pins s σ H _ I h) fun us s1 ⟨vs,H1,I1,r,q⟩=>⟨I1.kIn,?_⟩) he hpl;exact zpg F hr hb hd hx I1 r q
end
structure FnScope(N P:List Str)(sc:Scope):Prop where
 kind:sc.kind=.function
 co:sc.isCoroutine=false
 gen:sc.isGenerator=false
 nd:N.Nodup
 pre:N.take P.length=P
 par:∀ x∈P,sc.names.lookup x=some .local\/sc.names.lookup x=some .cell
 nofree:∀ y∈sc.names,y.2≠.free
theorem zgn{kindOf:Str->Option NameKind}{x:Str}:∀ {binds:List (Str×Value)} {m:Str->Option Value},(∀ v,(x,v) ∉ binds)->bindL kindOf binds m x=m x
 | [],_,_=>rfl
 | (n,v)::r,m,h=>by
   unfold bindL;rw[zgn fun w hw=>h w (Ag _ hw)]
   split
   . have:x≠n:=by rintro rfl;exact h v Am
     simp[this]
   . rfl
theorem zgp{kindOf:Str->Option NameKind}{x:Str}:∀ {binds:List (Str×Value)} {m:Str->Option Value},(∀ v,(x,v) ∉ binds)->bindC kindOf binds m x=m x
 | [],_,_=>rfl
 | (n,v)::r,m,h=>by
   unfold bindC;rw[zgp fun w hw=>h w (Ag _ hw)]
   split
   . rfl
   . have:x≠n:=by rintro rfl;exact h v Am
     simp[this]
theorem zgo{kindOf:Str->Option NameKind}{x:Str}{v:Value}:∀ {P:List Str} {vs:List Value} {i:Nat} {m:Str->Option Value},P.Nodup->P[i]?=some x->vs[i]?=some v->kindOf x=some .local ->
   bindL kindOf (P.zip vs) m x=some v
 | [],_,_,_,_,h,_,_=>by simp at h
 | _::_,[],_,_,_,_,h,_=>by simp at h
 | p::P,w::vs,0,m,nd,h1,h2,hk=>by
   simp at h1 h2;subst h1;subst h2;show bindL kindOf ((p,w)::P.zip vs) m p=_;unfold bindL;rw[zgn fun v hv=>(List.nodup_cons.mp nd).1 (CZ hv).1,if_pos hk];simp
 | p::P,w::vs,i+1,m,nd,h1,h2,hk=>by
   show bindL kindOf ((p,w)::P.zip vs) m x=_;unfold bindL;exact zgo (i:=i) (List.nodup_cons.mp nd).2 (by simpa using h1) (by simpa using h2) hk
theorem zgq{kindOf:Str->Option NameKind}{x:Str}{v:Value}:∀ {P:List Str} {vs:List Value} {i:Nat} {m:Str->Option Value},P.Nodup->P[i]?=some x->vs[i]?=some v->kindOf x≠some .local ->
   bindC kindOf (P.zip vs) m x=some v
 | [],_,_,_,_,h,_,_=>by simp at h
 | _::_,[],_,_,_,_,h,_=>by simp at h
 | p::P,w::vs,0,m,nd,h1,h2,hk=>by
   simp at h1 h2;subst h1;subst h2;show bindC kindOf ((p,w)::P.zip vs) m p=_;unfold bindC;rw[zgp fun v hv=>(List.nodup_cons.mp nd).1 (CZ hv).1,if_neg hk];simp
 | p::P,w::vs,i+1,m,nd,h1,h2,hk=>by
   show bindC kindOf ((p,w)::P.zip vs) m x=_;unfold bindC;exact zgq (i:=i) (List.nodup_cons.mp nd).2 (by simpa using h1) (by simpa using h2) hk
noncomputable def start(N:List Str)(vs:List V):St:=vs.map some++BV (N.length - vs.length) none
noncomputable def cxOf(CX:CXT)(P:Program)(w:World)(K:Ac)(mg:Str->Option Value)(base:Heap)(N:List Str)(qual:Str)(scope:Scope)(f:Addr)(cd:Value)(A:Around)(outer:List Env)(s:Shared)(H:Hp)(E:XK):Cx where
 prog:=P
 w:=w
 K:=K
 mg:=mg
 base:=base
 A:=A.deeper (envOfC qual scope s.heap.objs.size f cd)
 N:=N
 s₀:=s
 H₀:=H
 env:=envOfC qual scope s.heap.objs.size f cd
 outer:=outer
 stack:=envOfC qual scope s.heap.objs.size f cd::outer
 ex:=[]
 calm:=true
 fn:=fun _=>true
 pn:=[]
 xe:=fun e s'=>wpAny (model P w) (A.deeper (envOfC qual scope s.heap.objs.size f cd)) (leaving (envOfC qual scope s.heap.objs.size f cd) e) (fun _ s''=>CX outer H s E e s'') (fun e' s''=>CX outer H s E e' s'') s'
theorem ziI{sc:Scope}{n:Nat}{x:Str}(h:sc.names.lookup x=some .cell):∃ c,(cellsFrom n sc.names []).lookup x=some c:=by
 have q:=D7 sc.names n [] (.inl h);exact Option.isSome_iff_exists.mp q
theorem zjH{CX:CXT}{P:Program}{w:World}{K:Ac}{mg:Str->Option Value}{base:Heap}{N ps:List Str}{qual:Str}{scope:Scope}{f:Addr}{cd:Value}{A:Around}{outer:List Env}{s s1:Shared}{H:Hp}{E:XK}{us:List Value}{vs:List V}
   (S:FnScope N ps scope) (hd:A.handled=none) (e0:Env0 P w K mg base A outer s H) (hl:vs.length=ps.length) (r:Vals vs us)
   (x:InCallC s s.heap.objs.size (bindL (envOfC qual scope s.heap.objs.size f cd).kindOf (ps.zip us) fun _=>none) (cellsFrom (s.heap.objs.size+1) scope.names []) (bindC (envOfC qual scope s.heap.objs.size f cd).kindOf (ps.zip us) fun _=>none) s1) :
   Inv (cxOf CX P w K mg base N qual scope f cd A outer s H E) [] (start N vs) H s1:=by
 have hpl:ps.length<=N.length:=by have:=congrArg Fk S.pre;rw[BG] at this;omega
 obtain⟨h1,tk,rfl,hk⟩:=x.done;have noA:∀ b:Addr,b ∉ (cxOf CX P w K mg base N qual scope f cd A outer s H E).ex:=fun b z=>absurd (show b∈([]:List Addr) from z) (by simp);refine⟨⟨e0.mod,S.kind,rfl,rfl,Af _,fun y z c h1 h2=>?_,fun y hy=>?_,fun y c _ h=>?_,fun _=>hd,Around.frames_deeper e0.frames,.inr ⟨rfl,rfl⟩,fun b z=>absurd z (noA b),e0.bs,e0.bsz,fun b _ _=>noA b,fun b z=>absurd z (noA b),e0.funs,e0.frf⟩,
   rfl,e0.bare,Un.kept hk,⟨_,x.toInCall.ns,fun i y v h1 h2 h3=>?_⟩,fun y c h=>⟨_,x.cell y c h⟩,e0.hok.fresh (Af _),fun y c h=>?_,fun p hp=>absurd (show p∈([]:List (Addr×Obj)) from hp) (by simp),e0.hok.kept hk,?_⟩
 . exact name_of_addr x.apart (AQ h1) (AQ h2)
 . have hy:scope.names.lookup y=some .cell\/scope.names.lookup y=some .free:=hy
   rcases hy with hy | hy
   . exact ziI hy
   . exact absurd rfl (S.nofree _ (AQ hy))
 . exact BJ (x.above y c (AQ h))
 . have hi:i < vs.length:=by
     unfold start at h2
     by_cases hi:i < vs.length
     . exact hi
     . rw[AK (by simpa using hi)] at h2;rw[B3] at h2
       split at h2 <;> cases h2
   have ha:vs[i]?=some v:=by
     unfold start at h2;rw[Ar (by simpa using hi),AD] at h2
     cases e:vs[i]? with
     | none=>rw[e] at h2;cases h2
     | some a=>rw[e] at h2;cases h2;rfl
   obtain⟨u,hu,rv⟩:=r.get ha;have hp:ps[i]?=some y:=by
     rw[<-S.pre,List.getElem?_take_of_lt (by omega)];exact h1
   have ndP:ps.Nodup:=by rw[<-S.pre];exact S.nd.sublist (List.take_sublist _ _)
   refine⟨u,rv,?_⟩
   rcases S.par y (Bo hp) with k | k
   . exact .inl ⟨k,zgo ndP hp hu k⟩
   . obtain⟨c,e⟩:=ziI (n:=s.heap.objs.size+1) k;refine .inr ⟨.inl k,c,e,?_⟩;have q:=x.cell y c e;rw[zgq ndP hp hu (by show scope.names.lookup y≠_;rw[k];decide)] at q;exact q
 . exact e0.hok.fresh (BJ (x.above y c (AQ h)))
 . unfold start;show _=N.length;rw[AJ,Ak,Ci];omega
theorem zr0{CX:CXT}{P:Program}{w:World}{K:Ac}{mg:Str->Option Value}{base:Heap}{k:Nat}{f:Addr}{name qual:Str}{params:Arguments}{body:List Stmt}{scope:Scope}{dV kV doc pm cdv ct oc:Value}{an od:Option Addr}
   {osl:Array (Option Value)} {N ps:List Str} {sp:Sp} (lk:K.lookup f=some ⟨oc,od,.func (BK name qual params body scope dV kV doc pm an cdv ct),osl⟩) (hcd:CF K cdv qual=true) (S:FnScope N ps scope)
   (len:∀ vs H Q E,sp vs H Q E->vs.length=ps.length)
   (hbody:∀ (A:Around) (outer:List Env) (s:Shared) (H:Hp) (vs:List V) (Q:VK) (E:XK),Room k (A.deeper (envOfC qual scope s.heap.objs.size f cdv))->sp vs H Q E ->
     ∃ t,PSs (cxOf CX P w K mg base N qual scope f cdv A outer s H E) body t/\t { nx:=fun _ H'=>Q .non H',rt:=Q } (start N vs) H) :
   FnOk P w K mg base CX (k+1) f (BK name qual params body scope dV kV doc pm an cdv ct) ps sp:=by
 refine⟨len,fun A outer s H args us vs Q E hr e0 hb r hsp=>?_⟩;have hl:=len _ _ _ _ hsp;have KX:K.In s.heap:=e0.mod.kin.keeps fun b o e=>(e0.bs b o e).1;have lim:s.heap.NoLimit:=e0.mod.nolimit.keeps fun b o e=>(e0.bs b o e).1;have hkind:∀ y∈ps.zip us,scope.names.lookup y.1=some .local\/(scope.names.lookup y.1=some .cell/\((cellsFrom (s.heap.objs.size+1) scope.names []).lookup y.1).isSome=true):=by
   rintro ⟨n,v⟩ hy
   rcases S.par n (CZ hy).1 with q | q
   . exact .inl q
   . exact .inr ⟨q,D7 _ _ _ (.inl q)⟩
 refine codeAny_call_function hr.depth (KX _ _ lk) rfl S.co S.gen rfl (PySem.W.codeRec_of KX hcd) (hb _ _ _ _ ?_);refine wpAny_newFunctionEnv_cells S.kind hkind fun env he s1 x=>?_;subst he;refine⟨lim.keeps x.toInCall.keep,codeAny_func ?_⟩;obtain⟨t,ht,hq⟩:=hbody A outer s H vs Q E (hr.deeper _) hsp;have I:Inv (cxOf CX P w K mg base N qual scope f cdv A outer s H E) [] (start N vs) H s1:=zjH S hr.hd e0 hl r x;refine Br (ht [] s1 (start N vs) H _ I hq) (fun fl s' hs=>?_) fun e s' hs=>hs;have fin:∀ {σ':St} {H':Hp} {v:V} {u:Value},Inv (cxOf CX P w K mg base N qual scope f cdv A outer s H E) [] σ' H' s'->RelV v u->Q v H'->CE outer P w H s Q u s' :=
   fun {σ' H' v u} J rv q=>⟨v,H',J.os,J.bare,J.base,J.hok,rv,q⟩
 cases fl with
 | ret u =>
   obtain⟨v,σ',H',J,rv,q⟩:=hs;exact fin J rv q
 | next =>
   obtain⟨σ',H',J,q⟩:=hs;exact fin (v:=V.non) (u:=Bn) J rfl q
 | brk =>
   obtain⟨_,_,_,q⟩:=hs;exact False.elim q
 | cont =>
   obtain⟨_,_,_,q⟩:=hs;exact False.elim q
section
variable {X:Cx} {x:Str} {p pos:Pos} {e:Expr} {es:List Expr} {t:TA} {id T:String} {r:List V->Hp->VK->Prop}
noncomputable def tCB(r:List V->Hp->VK->Prop)(t:TA):TE:=fun σ H Q=>t σ H fun vs H1=>r vs H1 Q
theorem zfw(hc:zjV X (.builtin id) r)(hg:Gl X x)(hm:X.mg x=none)(hv:bootBuiltins x=some (.builtin id))(ha:PA X (e::es) t)(hn:x≠"__name__":=by decide)(hdb:(x==("__debug__":Str))=false:=by decide)
   (he:starEach (e::es) X.env=(false,eval e X.env)::starEach es X.env:=by rfl) (hpl:(backTo pos (starEach es X.env)).any (·.1)=false:=by rfl):PE X (.Call (.Name x p) (e::es) [] pos) (tCB r t):=by
 intro pins s σ H Q I h;refine Dp (zfF I hg hm hv ?_ hn hdb);exact PyProof.Rows.callWith_builtin1 (thn (ha pos pins s σ H _ I h) fun us s1 ⟨vs,H1,I1,r1,q1⟩=>hc pins s1 σ H1 vs us Q I1 r1 q1) he hpl
theorem zjk(hc:zjV X (.type T) r)(hg:Gl X x)(hm:X.mg x=none)(hv:bootBuiltins x=some (.type T))(ha:PA X (e::es) t)(hn:x≠"__name__":=by decide)(hdb:(x==("__debug__":Str))=false:=by decide)
   (he:starEach (e::es) X.env=(false,eval e X.env)::starEach es X.env:=by rfl) (hpl:(backTo pos (starEach es X.env)).any (·.1)=false:=by rfl):PE X (.Call (.Name x p) (e::es) [] pos) (tCB r t):=by
 intro pins s σ H Q I h;refine Dp (zfF I hg hm hv ?_ hn hdb);exact Bt (thn (ha pos pins s σ H _ I h) fun us s1 ⟨vs,H1,I1,r1,q1⟩=>hc pins s1 σ H1 vs us Q I1 r1 q1) he hpl
end
section
variable {κ:Type} [DecidableEq κ]
noncomputable def valV(kvs:List (κ×V))(k:κ):Option V:=(kvs.find? fun kv=>decide (kv.1=k)).map (·.2)
noncomputable def putK(kvs:List (κ×V))(k:κ)(v:V):List (κ×V) :=
 if (kvs.any fun kv=>decide (kv.1=k))=true then kvs.map (fun kv=>if kv.1=k then (kv.1,v) else kv) else kvs++[(k,v)]
theorem zfk{p:κ×V}{r:List (κ×V)}{k:κ}(e:p.1=k):valV (p::r) k=some p.2:=by simp[valV,AZ,e]
theorem zfl{p:κ×V}{r:List (κ×V)}{k:κ}(e:¬ p.1=k):valV (p::r) k=valV r k:=by simp[valV,AZ,e]
theorem zhf(k:κ):∀ kvs:List (κ×V),(kvs.any fun kv=>decide (kv.1=k))=(valV kvs k).isSome
 | []=>rfl
 | p::r=>by
   rw[BE]
   by_cases e:p.1=k
   . simp only[zfk e,decide_eq_true e,Bool.true_or,ES]
   . rw[zfl e,decide_eq_false e,FV];exact zhf k r
theorem zcQ(kvs:List (κ×V))(k:κ)(v:V):(putK kvs k v).length<=kvs.length+1:=by
 unfold putK
 split
 . rw[Ak];omega
 . rw[AJ,AE,Bg];omega
theorem RelO.isSome_eq{o:Option V}{u:Option Value}(r:RelO o u):o.isSome=u.isSome:=by
 cases o with
 | none=>cases u with
   | none=>rfl
   | some _=>exact (show False from r).elim
 | some _=>cases u with
   | none=>exact (show False from r).elim
   | some _=>rfl
theorem RelO.getD{o:Option V}{u:Option Value}{d:V}{d':Value}(r:RelO o u)(rd:RelV d d'):RelV (o.getD d) (u.getD d'):=by
 cases o with
 | none=>cases u with
   | none=>exact rd
   | some _=>exact (show False from r).elim
 | some _=>cases u with
   | none=>exact (show False from r).elim
   | some _=>exact r
theorem KV.val{kvs:List (κ×V)}{vs:List (κ×Value)}(r:KV kvs vs)(k:κ):RelO (valV kvs k) (valueAt vs k):=by
 unfold KV at r
 induction r with
 | nil=>exact C0
 | @cons p q ps qs h t ih =>
   obtain⟨h1,h2⟩:=h
   by_cases e:p.1=k
   . have e':q.1=k:=h1.symm.trans e;have b:valueAt (q::qs) k=some q.2:=by simp[valueAt,AZ,e']
     rw[zfk e,b];exact h2
   . have e':¬ q.1=k:=fun z=>e (h1.trans z);have b:valueAt (q::qs) k=valueAt qs k:=by simp[valueAt,AZ,e']
     rw[zfl e,b];exact ih
theorem KV.any{kvs:List (κ×V)}{vs:List (κ×Value)}(r:KV kvs vs)(k:κ):(kvs.any fun kv=>decide (kv.1=k))=vs.any fun kv=>decide (kv.1=k):=by
 unfold KV at r
 induction r with
 | nil=>rfl
 | cons h t ih=>rw[BE,BE,ih,h.1]
theorem KV.repl{kvs:List (κ×V)}{vs:List (κ×Value)}(r:KV kvs vs)(k:κ){y:V}{u:Value}(ry:RelV y u) :
   KV (kvs.map fun kv=>if kv.1=k then (kv.1,y) else kv) (vs.map fun kv=>if kv.1=k then (kv.1,u) else kv):=by
 unfold KV at r ⊢
 induction r with
 | nil=>exact .nil
 | @cons p q ps qs h t ih =>
   rw[Ao,Ao];refine .cons ?_ ih;obtain⟨h1,h2⟩:=h
   by_cases e:p.1=k
   . rw[if_pos e,if_pos (h1.symm.trans e)];exact⟨h1,ry⟩
   . rw[if_neg e,if_neg (fun z=>e (h1.trans z))];exact⟨h1,h2⟩
theorem KV.put{kvs:List (κ×V)}{vs:List (κ×Value)}(r:KV kvs vs)(k:κ){y:V}{u:Value}(ry:RelV y u):KV (putK kvs k y) (stored vs k u):=by
 unfold putK stored;rw[r.any k]
 by_cases e:(vs.any fun kv=>decide (kv.1=k))=true
 . rw[if_pos e,if_pos e];exact r.repl k ry
 . rw[if_neg e,if_neg e];exact F5 r ⟨rfl,ry⟩
theorem KV.length{kvs:List (κ×V)}{vs:List (κ×Value)}(r:KV kvs vs):kvs.length=vs.length:=Bp r
end
theorem zks{P:Program}{w:World}{k:Key}{u:Value}(r:RelV (kV k) u):(zay P w).is k u=true:=by
 cases k with
 | inl i=>obtain⟨t,e⟩:=(show ∃ t,u=EM i t from r);subst e;exact zg0 P w i t
 | inr x=>obtain⟨t,e⟩:=(show ∃ t,u=EN x t from r);subst e;exact zgZ P w x t
theorem zgj{P:Program}{w:World}:∀ {ks:List Key} {us:List Value},Vals (ks.map kV) us->ItemsAre (zay P w) ks us
 | [],_,r=>by rw[Bq] at r;cases r;exact .nil
 | k::ks,_,r=>by
   rw[Ao] at r
   cases r with
   | cons h t=>exact .cons (zks h) (zgj t)
noncomputable abbrev KT (H:Hp):List (List Key×V)->List (List Key×Addr×Value)->Prop:=Paired fun p q=>p.1=q.1/\H q.2.1=some (.tup (p.1.map kV))/\RelV p.2 q.2.2
theorem KT.val{H:Hp}{kvs:List (List Key×V)}{xs:List (List Key×Addr×Value)}(r:KT H kvs xs)(k:List Key):RelO (valV kvs k) ((atKey xs k).map (·.2)):=by
 induction r with
 | nil=>exact C0
 | @cons p q ps qs h t ih =>
   obtain⟨h1,_,h2⟩:=h
   by_cases e:p.1=k
   . have e':q.1=k:=h1.symm.trans e;have b:atKey (q::qs) k=some q.2:=by simp[atKey,AZ,e']
     rw[zfk e,b];exact h2
   . have e':¬ q.1=k:=fun z=>e (h1.trans z);have b:atKey (q::qs) k=atKey qs k:=by simp[atKey,AZ,e']
     rw[zfl e,b];exact ih
theorem KT.repl{H:Hp}{kvs:List (List Key×V)}{xs:List (List Key×Addr×Value)}(r:KT H kvs xs)(k:List Key){y:V}{u:Value}(ry:RelV y u) :
   KT H (kvs.map fun kv=>if kv.1=k then (kv.1,y) else kv) (xs.map (putAt k u)):=by
 induction r with
 | nil=>exact .nil
 | @cons p q ps qs h t ih =>
   rw[Ao,Ao];refine .cons ?_ ih;obtain⟨h1,h2,h3⟩:=h;unfold putAt
   by_cases e:p.1=k
   . rw[if_pos e,if_pos (h1.symm.trans e)];exact⟨h1,h2,ry⟩
   . rw[if_neg e,if_neg (fun z=>e (h1.trans z))];exact⟨h1,h2,h3⟩
theorem KT.put{H:Hp}{kvs:List (List Key×V)}{xs:List (List Key×Addr×Value)}(r:KT H kvs xs)(k:List Key){b:Addr}{y:V}{u:Value}(hb:H b=some (.tup (k.map kV)))(ry:RelV y u) :
   KT H (putK kvs k y) (storedH xs k b u):=by
 have e:(kvs.any fun kv=>decide (kv.1=k))=(atKey xs k).isSome:=by
   rw[zhf,(r.val k).isSome_eq,DD]
 unfold putK storedH;rw[e]
 by_cases q:(atKey xs k).isSome=true
 . rw[if_pos q,if_pos q];exact r.repl k ry
 . rw[if_neg q,if_neg q];exact F5 r ⟨rfl,hb,ry⟩
theorem KT.keeps{H H':Hp}{kvs:List (List Key×V)}{xs:List (List Key×Addr×Value)}(r:KT H kvs xs)(ht:∀ b ys,H b=some (.tup ys)->H' b=some (.tup ys)):KT H' kvs xs :=
 Paired.mapP r fun _ _ z=>⟨z.1,ht _ _ z.2.1,z.2.2⟩
section
variable {P:Program} {w:World} {H:Hp} {h:Heap} {a:Addr}
theorem zqR{u:HO}(ok:HOk P w H h)(e:Rd H a u):zcD P w H h a u:=e.ok ok
theorem zmm{kvs:List (Key×V)}(ok:HOk P w H h)(e:Rd H a (.dK kvs)):kvs.length<=sizeLine/\(a==sysModules)=false/\∃ vs,KV kvs vs/\h.DictOf (zay P w) a vs :=
 show zcD P w H h a (.dK kvs) from zqR ok e
theorem zqx{kvs:List (Key×V)}(ok:HOk P w H h)(e:H a=some (.dK kvs)):kvs.length<=sizeLine/\(a==sysModules)=false/\∃ vs,KV kvs vs/\h.DictOf (zay P w) a vs:=zmm ok (.inl e)
theorem zfG{ks:List Key}(ok:HOk P w H h)(e:H a=some (.tup (ks.map kV))):(tupleKind (zay P w)).is h ks a:=by
 obtain⟨_,its,r,o,h1,h2,_,n,h3⟩:=(show zcD P w H h a (.tup (ks.map kV)) from ok a _ e)
 exact⟨o,its.toArray,n,h1,h2,h3,by simpa using zgj r⟩
theorem zmk{kvs:List (List Key×V)}(ok:HOk P w H h)(e:Rd H a (.dT kvs)):kvs.length<=sizeLine/\(a==sysModules)=false /\
   ∃ xs,KT H kvs xs/\h.DictOfH (tupleKind (zay P w)) a xs:=by
 obtain⟨z,y,xs,r,o,es,ep,h1,h2,h3,h4,h5⟩:=(show zcD P w H h a (.dT kvs) from zqR ok e)
 refine⟨z,y,xs,r,o,es,ep,h1,h2,h3,h4,fun x hx=>?_,h5⟩;have all:∀ {l:List (List Key×V)} {m:List (List Key×Addr×Value)},KT H l m->∀ x∈m,(tupleKind (zay P w)).is h x.1 x.2.1:=by
   intro l m q
   induction q with
   | nil=>intro x hx;exact nomatch hx
   | @cons p q ps qs hq t ih =>
     intro x hx
     rcases List.mem_cons.mp hx with e | hx
     . subst e;exact zfG ok (by rw[<-hq.1];exact hq.2.1)
     . exact ih x hx
 exact all r x hx
theorem zr7{kvs:List (List Key×V)}(ok:HOk P w H h)(e:H a=some (.dT kvs)):kvs.length<=sizeLine/\(a==sysModules)=false /\
   ∃ xs,KT H kvs xs/\h.DictOfH (tupleKind (zay P w)) a xs:=zmk ok (.inl e)
end
def DGet(H:Hp)(a:Addr)(y:V)(r:Option V):Prop :=
 (∃ kvs k,Rd H a (.dK kvs)/\y=kV k/\r=valV kvs k)\/∃ kvs k b,Rd H a (.dT kvs)/\y=.ref b/\H b=some (.tup (k.map kV))/\r=valV kvs k
def DPut(H:Hp)(a:Addr)(y v:V)(H':Hp):Prop :=
 (∃ kvs k,H a=some (.dK kvs)/\y=kV k/\kvs.length < sizeLine/\H'=upd H a (.dK (putK kvs k v))) \/
 ∃ kvs k b,H a=some (.dT kvs)/\y=.ref b/\H b=some (.tup (k.map kV))/\kvs.length < sizeLine/\H'=upd H a (.dT (putK kvs k v))
theorem DGet.k{H:Hp}{a:Addr}{kvs:List (Key×V)}{k:Key}(e:H a=some (.dK kvs)):DGet H a (kV k) (valV kvs k):=.inl ⟨kvs,k,.inl e,rfl,rfl⟩
theorem DGet.t{H:Hp}{a b:Addr}{kvs:List (List Key×V)}{k:List Key}(e:H a=some (.dT kvs))(eb:H b=some (.tup (k.map kV))):DGet H a (.ref b) (valV kvs k):=.inr ⟨kvs,k,b,.inl e,rfl,eb,rfl⟩
theorem DPut.k{H:Hp}{a:Addr}{kvs:List (Key×V)}{k:Key}{v:V}(e:H a=some (.dK kvs))(hl:kvs.length < sizeLine):DPut H a (kV k) v (upd H a (.dK (putK kvs k v))):=.inl ⟨kvs,k,e,rfl,hl,rfl⟩
theorem DPut.t{H:Hp}{a b:Addr}{kvs:List (List Key×V)}{k:List Key}{v:V}(e:H a=some (.dT kvs))(eb:H b=some (.tup (k.map kV)))(hl:kvs.length < sizeLine) :
   DPut H a (.ref b) v (upd H a (.dT (putK kvs k v))):=.inr ⟨kvs,k,b,e,rfl,eb,hl,rfl⟩
section
variable {X:Cx} {pins:List (Addr×Obj)} {σ:St} {H:Hp} {s:Shared} {a:Addr} {y v:V} {u r:Value} {o:Option V} {A:Around} {E:Value->Shared->Prop}
theorem Inv.big(I:Inv X pins σ H s):sysModules < s.heap.objs.size:=by
 have h:mainGlobals < s.heap.objs.size:=(I.mod.glob.keeps I.bk).lt;exact BX (by decide) h
theorem zjO{Q:Value->Shared->Prop}(hu:A.units+1 < cLine)(I:Inv X pins σ H s)(g:DGet H a y (some v))(ry:RelV y u)(h:∀ w' s',Inv X pins σ H s'->RelV v w'->Q w' s') :
   wpAny (model X.prog X.w) A (getItem (.ref a) u) Q E s:=by
 rcases g with ⟨kvs,k,e,ey,l⟩ | ⟨kvs,k,b,e,ey,eb,l⟩
 . subst ey;obtain⟨z,hd,vs,rel,dd⟩:=zmm I.hok e;obtain⟨w',hw,rw'⟩:=RelO.some_of (v:=v) (o:=valueAt vs k) (by rw[l];exact rel.val k);exact wpAny_getItem_of (zks ry) dd.mapOf hw (h w' _ (I.tok _) rw')
 . subst ey
   cases (show u=AM b from ry)
   obtain⟨z,hd,xs,rel,dd⟩:=zmk I.hok e;obtain⟨w',hw,rw'⟩:=RelO.some_of (v:=v) (o:=(atKey xs k).map (·.2)) (by rw[l];exact rel.val k);obtain⟨p,hp,hp2⟩:=Option.map_eq_some_iff.mp hw;refine wpAny_getItem_heap (B8 hu) (zfG I.hok eb) dd hp ?_;rw[hp2];exact h w' _ (I.tok _) rw'
theorem d_in{Q:Value->Shared->Prop}(hu:A.units+1 < cLine)(I:Inv X pins σ H s)(g:DGet H a y o)(ry:RelV y u)(h:∀ s',Inv X pins σ H s'->Q (.bool o.isSome) s') :
   wpAny (model X.prog X.w) A (compareOp .In u (.ref a)) Q E s:=by
 rcases g with ⟨kvs,k,e,ey,l⟩ | ⟨kvs,k,b,e,ey,eb,l⟩
 . subst ey;obtain⟨z,hd,vs,rel,dd⟩:=zmm I.hok e;refine wpAny_in_of (zks ry) hd dd.mapOf ?_;rw[<-(rel.val k).isSome_eq,<-l];exact h _ (I.tok _)
 . subst ey
   cases (show u=AM b from ry)
   obtain⟨z,hd,xs,rel,dd⟩:=zmk I.hok e;refine wpAny_in_heap (B8 hu) (zfG I.hok eb) hd dd ?_;have q:=(rel.val k).isSome_eq;rw[DD] at q;rw[<-q,<-l];exact h _ (I.tok _)
theorem zoo{Q:Value->Shared->Prop}(hu:A.units+1 < cLine)(I:Inv X pins σ H s)(g:DGet H a y o)(ry:RelV y u)(h:∀ s',Inv X pins σ H s'->Q (.bool (!o.isSome)) s') :
   wpAny (model X.prog X.w) A (compareOp .NotIn u (.ref a)) Q E s:=by
 rcases g with ⟨kvs,k,e,ey,l⟩ | ⟨kvs,k,b,e,ey,eb,l⟩
 . subst ey;obtain⟨z,hd,vs,rel,dd⟩:=zmm I.hok e;refine wpAny_notIn_of (zks ry) hd dd.mapOf ?_;rw[<-(rel.val k).isSome_eq,<-l];exact h _ (I.tok _)
 . subst ey
   cases (show u=AM b from ry)
   obtain⟨z,hd,xs,rel,dd⟩:=zmk I.hok e;refine wpAny_notIn_heap (B8 hu) (zfG I.hok eb) hd dd ?_;have q:=(rel.val k).isSome_eq;rw[DD] at q;rw[<-q,<-l];exact h _ (I.tok _)
theorem ziD{h':Heap}{t':Nat}{ob:HO}(I:Inv X pins σ H s)(mu:Mut (H a))(hs:BW a s.heap h')(he:∃ q,h'.get? a=some q)(new:zcD X.prog X.w (upd H a ob) h' a ob) :
   Inv X pins σ (upd H a ob) { s with heap:=h',toks:=t' } :=
 I.write (x:=a) (e:=a) mu (.inl rfl) (fun b q hb z=>(hs.2 b hb).trans z) he new
theorem zjM{P:Program}{w:World}{H':Hp}{h':Heap}{kvs:List (Key×V)}{vs:List (Key×Value)}(z:kvs.length<=sizeLine)(hd:(a==sysModules)=false)(rel:KV kvs vs)(dd:h'.DictOf (zay P w) a vs) :
   zcD P w H' h' a (.dK kvs):=⟨z,hd,vs,rel,dd⟩
theorem zjN{H':Hp}{Q:Unit->Shared->Prop}(hu:A.units+1 < cLine)(I:Inv X pins σ H s)(g:DPut H a y v H')(ry:RelV y u)(rv:RelV v r)(h:∀ s',Inv X pins σ H' s'->Q () s') :
   wpAny (model X.prog X.w) A (setItem (.ref a) u r) Q E s:=by
 rcases g with ⟨kvs,k,e,ey,l,eH⟩ | ⟨kvs,k,b,e,ey,eb,l,eH⟩
 . subst ey eH;obtain⟨z,hd,vs,rel,dd⟩:=zqx I.hok e;have hz:vs.length<=sizeLine:=by rw[<-rel.length];exact z
   have hl:(putK kvs k v).length<=sizeLine:=by have:=zcQ kvs k v;omega
   refine wpAny_setItem_pairs (hsz:=hz) (zks ry) dd fun h' dd' hs=>h _ ?_;have he:∃ q,h'.get? a=some q:=let ⟨q,_,_,hq,_⟩:=dd';⟨q,hq⟩
   exact ziD I (by rw[e];exact C0) hs he (zjM hl hd (rel.put k rv) dd')
 . subst ey eH
   cases (show u=AM b from ry)
   obtain⟨z,hd,xs,rel,dd⟩:=zr7 I.hok e;have hz:xs.length<=sizeLine:=by rw[<-Bp rel];exact z
   have hl:(putK kvs k v).length<=sizeLine:=by have:=zcQ kvs k v;omega
   refine wpAny_setItem_heap (hsz:=hz) (B8 hu) (zfG I.hok eb) dd fun h' dd' hs=>h _ ?_;obtain⟨q,es,ep,hq,h2,h3,h4,_,h5⟩:=dd';refine ziD I (by rw[e];exact C0) hs ⟨q,hq⟩ ⟨hl,hd,_,(rel.put k eb rv).keeps fun c ys ec=>?_,q,es,ep,hq,h2,h3,h4,h5⟩;rw[zaA (zpV ec e (fun z=>nomatch z))];exact ec
end
def NoSl(i:Expr):Prop:=∀ ov iv,subscripted i false ov iv=operate [ov,iv] (getItem ov iv)
theorem zmV{prog:Program}{w:World}{A:Around}{E:Value->Shared->Prop}{s:Shared}{env:Env}{value slice:Expr}{pos:Pos}{T id:String}{Q:Value->Shared->Prop}
   (hl:typeLookup (.type T) "__getitem__"=pure (some (.builtin id))) (hs:NoSl slice)
   (h:wpAny (model prog w) A (eval value env) (fun o s₁=>wpAny (model prog w) A (eval slice env) (fun i s₂=>s₂.TypeIs o T/\wpAny (model prog w) A (getItem o i) Q E s₂) E s₁) E s) :
   wpAny (model prog w) A (eval (.Subscript value slice pos) env) Q E s:=by
 refine Fx (Br h (fun o s₁ h₁=>Br h₁ (fun i s₂ h₂=>?_) fun _ _ x=>x) fun _ _ x=>x);obtain⟨hT,h₂⟩:=h₂;unfold subscriptTail;refine Aa ?_;rw[getitemInPython_of_ne hT.not_modules];refine Aa (wpAny_specialOf hT hl ?_);have fin:wpAny (model prog w) A (subscripted slice false o i) (fun r s₃=>wpAny (model prog w) A (letTemporaryGo value o r >>= fun _=>pure r) Q E s₃) E s₂:=by
   rw[hs o i];exact wpAny_operating (Br h₂ (fun r s₃ h₃=>Aa (wpAny_letTemporaryGo (Ae h₃))) fun _ _ x=>x)
 first
   | exact Ae (Aa fin)
   | exact Aa (Ae (Aa fin))
   | exact Aa fin
theorem zg4{X:Cx}{pins:List (Addr×Obj)}{σ:St}{H:Hp}{s:Shared}{a:Addr}{y:V}{o:Option V}(I:Inv X pins σ H s)(g:DGet H a y o):s.TypeIs (.ref a) "dict":=by
 rcases g with ⟨kvs,k,e,_,_⟩ | ⟨kvs,k,b,e,_,_,_⟩
 . obtain⟨_,_,vs,_,dd⟩:=zmm I.hok e;exact dd.typeIs
 . obtain⟨_,_,xs,_,dd⟩:=zmk I.hok e;exact dd.typeIs
noncomputable def zri(td ty:TE):TE:=fun σ H Q=>td σ H fun x H1=>ty σ H1 fun y H2=>∃ a v,x=.ref a/\DGet H2 a y (some v)/\Q v H2
noncomputable def tDIn(ty td:TE):TE:=fun σ H Q=>ty σ H fun y H1=>td σ H1 fun x H2=>∃ a o,x=.ref a/\DGet H2 a y o/\Q (.bl o.isSome) H2
noncomputable def zmU(ty td:TE):TE:=fun σ H Q=>ty σ H fun y H1=>td σ H1 fun x H2=>∃ a o,x=.ref a/\DGet H2 a y o/\Q (.bl (!o.isSome)) H2
noncomputable def zru(td ty tv:TE):TS:=fun D σ H=>tv σ H fun v H1=>td σ H1 fun x H2=>ty σ H2 fun y H3=>∃ a H4,x=.ref a/\DPut H3 a y v H4/\D.nx σ H4
section
variable {X:Cx} {o i e value:Expr} {pos pos' tpos:Pos} {td ty tv:TE}
theorem zkg(hu:X.A.units+1 < cLine)(ho:PE X o td)(hi:PE X i ty)(hs:NoSl i):PE X (.Subscript o i pos) (zri td ty):=by
 intro pins s σ H Q I h;refine zmV PySem.F.slot_dict_getitem.lookup hs (thn (ho pins s σ H _ I h) fun u s1 ⟨x,H1,I1,rx,q1⟩=>thn (hi pins s1 σ H1 _ I1 q1) ?_);rintro iv s2 ⟨y,H2,I2,ry,a,v,ex,g,q2⟩;subst ex;obtain rfl:u=AM a:=rx;exact⟨zg4 I2 g,zjO hu I2 g ry fun w' s3 I3 rw'=>⟨v,H2,I3,rw',q2⟩⟩
theorem zpI(hu:X.A.units+1 < cLine)(hi:PE X i ty)(ho:PE X o td):PC X .In i o (tDIn ty td):=by
 intro pins s σ H Q I h;refine thn (hi pins s σ H _ I h) fun iv s1 ⟨y,H1,I1,ry,q1⟩=>thn (ho pins s1 σ H1 _ I1 q1) ?_;rintro u s2 ⟨x,H2,I2,rx,a,ov,ex,g,q2⟩;subst ex;obtain rfl:u=AM a:=rx;exact d_in hu I2 g ry fun s3 I3=>⟨.bl ov.isSome,H2,I3,rfl,q2⟩
theorem zjl(hu:X.A.units+1 < cLine)(hi:PE X i ty)(ho:PE X o td):PC X .NotIn i o (zmU ty td):=by
 intro pins s σ H Q I h;refine thn (hi pins s σ H _ I h) fun iv s1 ⟨y,H1,I1,ry,q1⟩=>thn (ho pins s1 σ H1 _ I1 q1) ?_;rintro u s2 ⟨x,H2,I2,rx,a,ov,ex,g,q2⟩;subst ex;obtain rfl:u=AM a:=rx;exact zoo hu I2 g ry fun s3 I3=>⟨.bl (!ov.isSome),H2,I3,rfl,q2⟩
theorem zno(hu:X.A.units+1 < cLine)(ho:PE X o td)(hi:PE X i ty)(hv:PE X value tv)(hs:swapsWith value (some (.Subscript o i pos')) pos.line X.env=pure false) :
   PS X (.Assign [.Subscript o i pos'] value pos) (zru td ty tv):=by
 intro pins s σ H D I h;refine wpAny_Assign_Subscript (thn (hv pins s σ H _ I h) fun r s1 ⟨v,H1,I1,rv,q1⟩=>thn (ho pins s1 σ H1 _ I1 q1) fun u s2 ⟨x,H2,I2,rx,q2⟩=>thn (hi pins s2 σ H2 _ I2 q2) ?_) hs;rintro iv s3 ⟨y,H3,I3,ry,a,H4,ex,g,q3⟩;subst ex;obtain rfl:u=AM a:=rx;exact zjN hu I3 g ry rv fun s4 I4=>⟨σ,H4,I4,q3⟩
end
theorem zmn{P:Program}{w:World}{H:Hp}(h:Heap)(hb:sysModules < h.objs.size):zcD P w H (h.push { cls:=.type "dict",data:=.dict #[] }) h.objs.size (.dK []) :=
 ⟨Bc _,beq_eq_false_iff_ne.mpr (Bx (Aw hb)),[],.nil,D1 h⟩
noncomputable def zkR:List (TE×TE)->St->Hp->(List (V×V)->Hp->Prop)->Prop
 | [],_,H,Q=>Q [] H
 | (tk,tv)::r,σ,H,Q=>tk σ H fun x H1=>tv σ H1 fun y H2=>zkR r σ H2 fun ps H3=>Q ((x,y)::ps) H3
noncomputable abbrev VV:List (V×V)->List (Value×Value)->Prop:=Paired fun p q=>RelV p.1 q.1/\RelV p.2 q.2
def PPs(X:Cx)(pos:Pos)(keys:List (Option Expr))(values:List Expr)(trs:List (TE×TE)):Prop :=
 ∀ (pins:List (Addr×Obj)) (s:Shared) (σ:St) (H:Hp) (Q:List (V×V)->Hp->Prop),Inv X pins σ H s->zkR trs σ H Q ->
   wpAny (model X.prog X.w) X.A (evalPairs (pairTrees keys values X.env pos)) (fun vs s'=>∃ ps H',Inv X pins σ H' s'/\VV ps vs/\Q ps H') X.xe s
theorem zke{X:Cx}{pos:Pos}:PPs X pos [] [] []:=fun pins s σ H Q I h=>pairTrees_nil_walk ⟨[],H,I,.nil,h⟩
theorem zdm{X:Cx}{pos:Pos}{k v:Expr}{ks:List (Option Expr)}{vs:List Expr}{tk tv:TE}{trs:List (TE×TE)}(hk:PE X k tk)(hv:PE X v tv)(hr:PPs X pos ks vs trs) :
   PPs X pos (some k::ks) (v::vs) ((tk,tv)::trs):=fun pins s σ H Q I h =>
 pairTrees_cons_walk (thn (hk pins s σ H _ I h) fun u s1 ⟨x,H1,I1,rx,q1⟩=>thn (hv pins s1 σ H1 _ I1 q1) fun w2 s2 ⟨y,H2,I2,ry,q2⟩ =>
   thn (hr pins s2 σ H2 _ I2 q2) fun ws s3 ⟨ps,H3,I3,rel,q3⟩=>⟨(x,y)::ps,H3,I3,.cons ⟨rx,ry⟩ rel,q3⟩)
noncomputable def zca(kvs more:List (Key×V)):List (Key×V):=more.foldl (fun acc kv=>putK acc kv.1 kv.2) kvs
theorem KV.merge:∀ {more:List (Key×V)} {rs:List (Key×Value)} {kvs:List (Key×V)} {vs:List (Key×Value)},KV more rs->KV kvs vs->KV (zca kvs more) (merged vs rs):=by
 intro more rs kvs vs r;unfold KV at r
 induction r generalizing kvs vs with
 | nil=>intro q;exact q
 | @cons p q ps qs h t ih =>
   intro r0;have e:KV (putK kvs p.1 p.2) (stored vs q.1 q.2):=by
     have:=r0.put p.1 h.2;rw[<-h.1];exact this
   exact ih e
theorem zbE:∀ (more kvs:List (Key×V)),(zca kvs more).length<=kvs.length+more.length
 | [],kvs=>by show kvs.length<=kvs.length+0;omega
 | p::r,kvs=>by
   have h1:=zbE r (putK kvs p.1 p.2);have h2:=zcQ kvs p.1 p.2;show (zca (putK kvs p.1 p.2) r).length<=_;rw[AE];omega
theorem ze6{P:Program}{w:World}:∀ {kvs:List (Key×V)} {ws:List (Value×Value)},VV (kvs.map fun kv=>(kV kv.1,kv.2)) ws->∃ rs,Carries (zay P w) ws rs/\KV kvs rs
 | [],_,r=>by rw[Bq] at r;cases r;exact⟨[],C0,.nil⟩
 | p::kvs,_,r=>by
   rw[Ao] at r
   cases r with
   | @cons a b as bs h t =>
     obtain⟨rs,c,q⟩:=ze6 (P:=P) (w:=w) t;obtain⟨b1,b2⟩:=b;exact⟨(p.1,b2)::rs,⟨zks h.1,rfl,c⟩,.cons ⟨rfl,h.2⟩ q⟩
noncomputable def zrh(trs:List (TE×TE)):TE:=fun σ H Q=>∀ p,H p=none->zkR trs σ (upd H p (.dK [])) fun ps H2=>H2 p=some (.dK [])/\∃ kvs:List (Key×V),ps=kvs.map (fun kv=>(kV kv.1,kv.2))/\kvs.length<=15/\Q (.ref p) (upd H2 p (.dK (zca [] kvs)))
theorem zkf{X:Cx}{pos:Pos}{keys:List (Option Expr)}{values:List Expr}{trs:List (TE×TE)}(h:PPs X pos keys values trs)(hall:keys.all (·.isSome)=true)(hl:keys.length=values.length)(h0:keys≠[])
   (h15:keys.length<=15):PE X (.Dict keys values pos) (zrh trs):=by
 intro pins s σ H Q I q;have hn:=I.hok.fresh (Af s.heap.objs.size);have I1:=I.laid (a:=s.heap.objs.size) (o:=.dK []) (h':=s.heap.push { cls:=.type "dict",data:=.dict #[] }) (t':=s.toks) (fun _ _ q=>Ad _ q) (Af _) (zmn s.heap I.big);refine wpAny_Dict_walk (knd:=zay X.prog X.w) hall hl h0 h15 (thn (h pins _ σ _ _ I1 (q _ hn)) ?_);rintro ws s2 ⟨ps,H2,I2,rel,e,kvs,ep,lk,q2⟩;subst ep;obtain⟨rs,c,rk⟩:=ze6 (P:=X.prog) (w:=X.w) rel;obtain⟨z,hd,vs0,r0,dd⟩:=zqx I2.hok e;cases r0;refine⟨rs,c,dd,fun h' dd' hs=>⟨.ref s.heap.objs.size,_,?_,rfl,q2⟩⟩;have hz:(zca [] kvs).length<=sizeLine:=by
   have h1:=zbE kvs [];rw[Bg] at h1;rw[Dm];omega
 have he:∃ q,h'.get? s.heap.objs.size=some q:=let ⟨q,_,_,hq,_⟩:=dd';⟨q,hq⟩
 exact ziD I2 (by rw[e];exact C0) hs he (zjM hz hd (rk.merge .nil) dd')
structure M1(X:Cx)(o:Expr)(m:Str)(apos:Pos)(e:Expr)(cpos:Pos):Prop where
 base:attributeBase o m X.env (eval o X.env)=eval o X.env
 few:((backTo cpos (starEach [e] X.env)).all (fun x=>!x.1)&&(backToKw cpos (keywordEach [] X.env)).all (fun x=>x.1.isSome)
  &&decide (([e]:List Expr).length+([]:List Keyword).length+(if ([]:List Keyword).isEmpty then 0 else 1) < 30))=true
 line:(apos.endLine==cpos.line)=true
 trees:backTo cpos (starEach [e] X.env)=[(false,eval e X.env)]
def IsD(H:Hp)(a:Addr):Prop:=(∃ kvs,Rd H a (.dK kvs))\/∃ kvs,Rd H a (.dT kvs)
theorem zfJ{X:Cx}{pins:List (Addr×Obj)}{σ:St}{H:Hp}{s:Shared}{a:Addr}(I:Inv X pins σ H s)(d:IsD H a) :
   s.TypeIs (.ref a) "dict"/\(∀ b,AM a=.ref b->∃ ob,s.heap.get? b=some ob/\ob.dict=none)/\(a==sysModules)=false:=by
 rcases d with ⟨kvs,e⟩ | ⟨kvs,e⟩
 . obtain⟨_,hd,vs,_,dd⟩:=zmm I.hok e;refine⟨dd.typeIs,fun b q=>?_,hd⟩;cases q;obtain⟨ob,_,_,h1,h2,_⟩:=dd;exact⟨ob,h1,h2.2.1⟩
 . obtain⟨_,hd,xs,_,dd⟩:=zmk I.hok e;refine⟨dd.typeIs,fun b q=>?_,hd⟩;cases q;obtain⟨ob,_,_,h1,h2,_⟩:=dd;exact⟨ob,h1,h2.2.1⟩
section
variable {X:Cx} {pins:List (Addr×Obj)} {σ:St} {H:Hp} {s:Shared} {a:Addr} {y d:V} {u r:Value} {o:Option V} {A:Around} {E:Value->Shared->Prop}
theorem zqA{Q:Value->Shared->Prop}(hu:A.units+1 < cLine)(I:Inv X pins σ H s)(g:DGet H a y o)(ry:RelV y u)(h:∀ w' s',Inv X pins σ H s'->RelV (o.getD .non) w'->Q w' s') :
   wpAny (model X.prog X.w) A (call (.builtin "dict.get") [.ref a,u]) Q E s:=by
 rcases g with ⟨kvs,k,e,ey,l⟩ | ⟨kvs,k,b,e,ey,eb,l⟩
 . subst ey;obtain⟨z,hd,vs,rel,dd⟩:=zmm I.hok e;refine ET CS dd.typeIs D8 (DV _ _) (meets_dict_get (zay X.prog X.w) a (zks ry) hd) ⟨_,dd.mapOf,h _ _ (I.tok _) ?_⟩;rw[l];exact (rel.val k).getD rfl
 . subst ey
   cases (show u=AM b from ry)
   obtain⟨z,hd,xs,rel,dd⟩:=zmk I.hok e;refine ET CS dd.typeIs D8 (DV _ _) (meetsH_dict_get (tupleKind (zay X.prog X.w)) a b hd) ⟨B8 hu,k,xs,zfG I.hok eb,dd,h _ _ (I.tok _) ?_⟩;rw[l];exact (rel.val k).getD rfl
end
noncomputable def zoY(td ty:TE):TE:=fun σ H Q=>td σ H fun x H1=>∃ a,x=.ref a/\IsD H1 a/\ty σ H1 fun y H2=>∃ o,DGet H2 a y o/\Q (o.getD .non) H2
section
variable {X:Cx} {o e f:Expr} {apos cpos:Pos} {td ty tx:TE}
theorem zlx(hu:X.A.units+1 < cLine)(ho:PE X o td)(he:PE X e ty)(m:M1 X o "get" apos e cpos):PE X (.Call (.Attribute o "get" apos) [e] [] cpos) (zoY td ty):=by
 intro pins s σ H Q I h;refine wpAny_Call_method m.base m.few m.line DW CS PySem.F.type_dict_get (thn (ho pins s σ H _ I h) ?_);rintro u s1 ⟨x,H1,I1,rx,a,ex,d,q1⟩;subst ex;obtain rfl:u=AM a:=rx;obtain⟨t1,t2,_⟩:=zfJ I1 d;refine⟨t1,t2,?_⟩;rw[m.trees];refine Cd rfl (Ew (EO (thn (he pins s1 σ H1 _ I1 q1) fun iv s2 ⟨y,H2,I2,ry,ov,g,q2⟩=>Fb ?_)));exact zqA hu I2 g ry fun w' s3 I3 rw'=>⟨_,H2,I3,rw',q2⟩
end
end L2
namespace HT
open PySem PyProof.Rows
noncomputable def lexLt:List Int->List Int->Bool
 | [],[]=>false
 | [],_::_=>true
 | _::_,[]=>false
 | x::xs,y::ys=>if x=y then lexLt xs ys else decide (x < y)
theorem lexLt_cons(x y:Int)(xs ys:List Int):lexLt (x::xs) (y::ys)=if x=y then lexLt xs ys else decide (x < y):=rfl
theorem lexLt_nil_nil:lexLt [] []=false:=rfl
theorem lexLt_nil_cons(y:Int)(ys:List Int):lexLt [] (y::ys)=true:=rfl
theorem lexLt_cons_nil(x:Int)(xs:List Int):lexLt (x::xs) []=false:=rfl
theorem zmi(A:Around)(s:Shared)(a:Int)(t:Tok)(c:Int)(u:Tok):∃ e,SeqAt.EqAt A s (.int a t) (.int c u) e/\(e=true ↔ a=c) :=
 ⟨(a==c),Dq a t c u,by simp⟩
theorem zlk(A:Around)(s:Shared)(a:Int)(t:Tok)(c:Int)(u:Tok)(prog:Program)(w:World)(E:Value->Shared->Prop)(Q:Value->Shared->Prop)(h:Q (.bool (decide (a < c))) s) :
   wpAny (model prog w) A (richCompare .Lt (.int a t) (.int c u)) Q E s :=
 (EL h:wpAny (model prog w) A (compareOp .Lt (.int a t) (.int c u)) Q E s)
section
open PySem.SeqAt
open PySem.MeetsSeq PySem.MeetsSeq2 PySem.MeetsSeq3
theorem zex(l b:Addr)(items items2:Array Value)(n n2:Nat)(dd dd2:Option Addr)(sl sl2:Array (Option Value))(ns ms:List Int)(hi:IntsAre items.toList ns)(hj:IntsAre items2.toList ms) :
   Meets (Builtin.«tuple.__lt__» ⟨[.ref l,.ref b],[]⟩)
     (fun _ R s=>s.heap.get? l=some { cls:=.type "tuple",dict:=dd,data:=.seq items n,slots:=sl }/\s.heap.get? b=some { cls:=.type "tuple",dict:=dd2,data:=.seq items2 n2,slots:=sl2 } /\
       R (.ok (.ret (.bool (lexLt ns ms)))) s) :=
 .of_wp fun prog w A R s h=>by
   obtain⟨hp,g,d,tk,os⟩:=s;obtain⟨hl,hb,h⟩:=h;have f2:=AutoSeq1.sub_tuple_tuple;have z1:items.size=ns.length:=by rw[<-hi.length];simp
   have z2:items2.size=ms.length:=by rw[<-hj.length];simp
   wp_walk using wpAny_loadPart' hl,wpAny_loadPart' hb,wpAny_forIn_list _ (fun rest b s'=>b.1=none/\s'=⟨hp,g,d,tk,os⟩/\∃ (vs ws:List Value) (ns' ms':List Int),rest=vs.zip ws /\
     IntsAre vs ns'/\IntsAre ws ms'/\ns'.length+items2.size=ms'.length+items.size/\R (.ok (.ret (.bool (lexLt ns' ms')))) ⟨hp,g,d,tk,os⟩) _
   case turn =>
     rintro ⟨y,x⟩ rest b s' ⟨hb',rfl,vs,ws,ns',ms',hz,hvi,hwi,hlen,hR⟩
     cases hvi with
     | nil=>rw[List.zip_nil_left] at hz;cases hz
     | cons a t hvi' =>
       cases hwi with
       | nil=>rw[List.zip_nil_right] at hz;cases hz
       | cons c u hwi' =>
         rw[B9] at hz;injection hz with hyx hrest
         injection hyx with hy hx
         subst hy hx;rw[lexLt_cons] at hR;simp only[AE] at hlen;obtain⟨e,he,hiff⟩:=zmi A.in1 ⟨hp,g,d,tk,os⟩ a t c u;refine Aa (he prog w _ _ ?_)
         cases e with
         | true =>
           rw[if_pos (hiff.mp rfl)] at hR
           wp_walk
           exact⟨rfl,rfl,_,_,_,_,hrest,hvi',hwi',by omega,hR⟩
         | false =>
           rw[if_neg (fun q=>absurd (hiff.mpr q) AU)] at hR;have hri:=zlk A.in1 ⟨hp,g,d,tk,os⟩ a t c u prog w
           wp_walk using hri
           exact⟨_,rfl,by simpa using hR⟩
   case fin =>
     rintro ⟨b1,b2⟩ s' ⟨hb',rfl,vs,ws,ns',ms',hz,hvi,hwi,hlen,hR⟩;simp only at hb';subst hb';have hv:lexLt ns' ms'=decide (items.size < items2.size):=by
       cases hvi with
       | nil =>
         cases hwi with
         | nil =>
           simp only[Bg] at hlen;rw[lexLt_nil_nil];exact (decide_eq_false (by omega)).symm
         | cons c u hw =>
           simp only[Bg,AE] at hlen;rw[lexLt_nil_cons];exact (decide_eq_true (by omega)).symm
       | cons a t hv =>
         cases hwi with
         | nil =>
           simp only[Bg,AE] at hlen;rw[lexLt_cons_nil];exact (decide_eq_false (by omega)).symm
         | cons c u hw =>
           rw[B9] at hz;cases hz
     rw[hv] at hR
     wp_walk
     exact⟨_,rfl,by simpa[Builtin.Tuple.tupleCompareSizes] using hR⟩
   case h =>
     exact⟨rfl,rfl,items.toList,items2.toList,ns,ms,rfl,hi,hj,by omega,h⟩
end
section
variable {prog:Program} {w:World} {A:Around} {E:Value->Shared->Prop} {s:Shared}
theorem lt_tupInts{l b:Addr}{items items2:Array Value}{ns ms:List Int}{Q:Value->Shared->Prop}(hl:IsTup s.heap l items)(hb:IsTup s.heap b items2)(hi:IntsAre items.toList ns)(hj:IntsAre items2.toList ms)
   (hu:A.units < cLine) (h:Q (.bool (lexLt ns ms)) s):wpAny (model prog w) A (compareOp .Lt (.ref l) (.ref b)) Q E s:=by
 obtain⟨⟨cls,dd,data,sl⟩,ho,hc,n,hd⟩:=id hl;obtain⟨⟨cls2,dd2,data2,sl2⟩,ho2,hc2,n2,hd2⟩:=id hb;simp only at hc hd hc2 hd2;subst hc hd hc2 hd2;exact richCompare_meets_room (op:=.Lt) ⟨_,ho,rfl⟩ ⟨_,ho2,rfl⟩ PySem.F.slot_tuple_lt PySem.F.entry_tuple_lt (PySem.F.args_tuple_lt_2 _ _) (zex l b items items2 n n2 dd dd2 sl sl2 ns ms hi hj)
   ⟨ho,ho2,show CC (lexLt ns ms)≠Value.notImplemented/\Q (.bool (lexLt ns ms)) s from ⟨(fun x=>nomatch x),h⟩⟩ hu
theorem cat_tup{t b:Addr}{vs ws:List Value}{Q:Value->Shared->Prop}(ht:IsTup s.heap t vs.toArray)(hb:IsTup s.heap b ws.toArray)(hv:vs≠[])
   (h1:ws=[]->Q (.ref t) s) (h2:ws≠[]->Q (.ref s.heap.objs.size) { s with heap:=s.heap.push { cls:=.type "tuple",data:=.seq (vs++ws).toArray } })
   (hsz:vs.length+ws.length<=sizeLine):wpAny (model prog w) A (binaryOp .Add (.ref t) (.ref b)) Q E s:=by
 obtain⟨⟨cls,dd,data,sl⟩,ho,hc,n,hd⟩:=id ht;obtain⟨⟨cls2,dd2,data2,sl2⟩,ho2,hc2,n2,hd2⟩:=id hb;simp only at hc hd hc2 hd2;subst hc hd hc2 hd2;have e:vs.toArray++ws.toArray=(vs++ws).toArray:=by simp
 by_cases hw:ws=[]
 . exact concat_meets ⟨_,ho,rfl⟩ ⟨_,ho2,rfl⟩ noFill_tuple_add seq_tuple_add D9 DX (DK _ _)
     (tuple_addW1 t b vs.toArray ws.toArray n n2 dd dd2 sl sl2 (by simpa using hv) (by simp[hw])) ⟨ho,ho2,h1 hw⟩
 . refine concat_meets ⟨_,ho,rfl⟩ ⟨_,ho2,rfl⟩ noFill_tuple_add seq_tuple_add D9 DX (DK _ _)
     (tuple_addW2 t b vs.toArray ws.toArray n n2 dd dd2 sl sl2 (by simpa using hv) (by simpa using hw) (by rw[Au,Au];exact hsz)) ⟨ho,ho2,?_⟩
   rw[e];exact h2 hw
noncomputable def sIx(n d:Nat):Option Int->Nat
 | none=>d
 | some v=>if v < 0 then (v+(n:Int)).toNat else min v.toNat n
theorem zpf(n d:Nat)(hd:d<=n)(o:Option Int):sIx n d o<=n:=by
 cases o with
 | none=>exact hd
 | some v =>
   show (if v < 0 then (v+(n:Int)).toNat else min v.toNat n)<=n
   by_cases hv:v < 0
   . rw[if_pos hv];omega
   . rw[if_neg hv];exact DL _ _
theorem zkE(v:Int)(n d:Nat):(if v < 0 then max (v+(n:Int)) 0 else min v (n:Int))=((sIx n d (some v):Nat):Int):=by
 show (if v < 0 then max (v+(n:Int)) 0 else min v (n:Int))=(((if v < 0 then (v+(n:Int)).toNat else min v.toNat n):Nat):Int)
 by_cases hv:v < 0
 . simp only[if_pos hv];omega
 . simp only[if_neg hv];omega
theorem ziT(lo hi:Option Int)(n:Nat):Cq lo hi 1 (n:Int)=(((sIx n 0 lo:Nat):Int),((sIx n n hi:Nat):Int)):=by
 have h1:¬ ((1:Int) < 0):=by omega
 unfold Cq;simp only[h1,if_false];refine Prod.ext ?_ ?_
 . cases lo with
   | none=>rfl
   | some v=>exact zkE v n 0
 . cases hi with
   | none=>rfl
   | some v=>exact zkE v n n
theorem zhS(i j:Nat):BS (i:Int) (j:Int) 1=j - i:=by
 unfold BS;have h1:(1:Int) > 0:=by omega
 simp only[h1,if_true,Int.ediv_one]
 split <;> omega
theorem zeC{v:Value}{o:Option Int}{Q:Option Int->Shared->Prop}(p:IsPart v o)(h:Q o s):wpAny (model prog w) A (Builtin.Slice.slicePartIndex v) Q E s:=by
 cases p with
 | none=>exact slicePart_none h
 | int i t=>exact slicePart_int h
theorem sliceApplied_gen{sl:Addr}{vl vu:Value}{lo hi:Option Int}{n:Nat}{Q:Int×Int×Nat->Shared->Prop}(hs:s.heap.IsSliceOf sl vl vu .none)(pl:IsPart vl lo)(pu:IsPart vu hi)
   (h:Q (((sIx n 0 lo:Nat):Int),1,sIx n n hi - sIx n 0 lo) s):wpAny (model prog w) A (Du (.ref sl) (pure (n:Int))) Q E s:=by
 obtain⟨os,hos,hcs,hds⟩:=id hs;unfold Du Builtin.Slice.sliceFields;refine Aa (Aa (Bm hos hds (x:=vl) rfl (Aa (Bm hos hds (x:=vu) rfl (Aa (Bm hos hds (x:=.none) rfl (Ae ?_)))))));refine Aa (slicePart_none ?_);show wpAny _ _ (if ((1:Int)==0)=true then _ else _) _ _ s;rw[if_neg (by decide)];refine Aa (zeC pl (Aa (zeC pu (Aa (Ae ?_)))));show wpAny _ _ (match Cq lo hi 1 (n:Int) with | (lo,hi)=>pure (lo,(1:Int),BS lo hi 1)) _ _ s;rw[ziT lo hi n];show wpAny _ _ (pure (((sIx n 0 lo:Nat):Int),(1:Int),BS ((sIx n 0 lo:Nat):Int) ((sIx n n hi:Nat):Int) 1)) _ _ s;rw[zhS];exact Ae h
theorem zlu(xs:Array Value)(i k:Nat):((AN k).filterMap fun (m:Nat)=>xs[((i:Int)+(m:Int)*1).toNat]?).toArray=((xs.toList.drop i).take k).toArray:=by
 have e:(fun (m:Nat)=>xs[((i:Int)+(m:Int)*1).toNat]?)=fun m=>xs[i+m]?:=by
   funext m
   have:((i:Int)+(m:Int)*1).toNat=i+m:=by omega
   rw[this]
 rw[e];have:=pick_run xs i k;rw[List.filterMap_map] at this;have e2:((fun x=>xs[x]?) ∘ fun x=>i+x)=fun m=>xs[i+m]?:=rfl;rw[e2] at this;rw[this]
theorem getItem_tuple_cut{t sl:Addr}{items:Array Value}{vl vu:Value}{lo hi:Option Int}{Q:Value->Shared->Prop}(ht:IsTup s.heap t items)(hs:s.heap.IsSliceOf sl vl vu .none)(pl:IsPart vl lo)(pu:IsPart vu hi)
   (hw:¬ (sIx items.size 0 lo=0/\sIx items.size items.size hi=items.size))
   (h:Q (.ref s.heap.objs.size) { s with heap:=s.heap.push { cls:=.type "tuple",data:=.seq ((items.toList.drop (sIx items.size 0 lo)).take (sIx items.size items.size hi - sIx items.size 0 lo)).toArray } })
   (hsz:items.size<=sizeLine):wpAny (model prog w) A (getItem (.ref t) (.ref sl)) Q E s:=by
 have htake:sizeOk (.seq ((items.toList.drop (sIx items.size 0 lo)).take (sIx items.size items.size hi - sIx items.size 0 lo)).toArray):=by
   show ((items.toList.drop (sIx items.size 0 lo)).take (sIx items.size items.size hi - sIx items.size 0 lo)).toArray.size<=sizeLine;rw[Au,BG,DM,Bu];omega
 have hj:sIx items.size items.size hi<=items.size:=zpf _ _ (Af _) hi;obtain⟨os,hos,hcs,hds⟩:=id hs;have hTs:s.TypeIs (.ref sl) "slice":=⟨os,hos,hcs⟩
 unfold getItem
 try with_reducible refine Bf ?_
 first | refine Aa (Ae ?_) | skip
 refine Aa (Fc ht.typeIs (by decide) ?_);refine Aa (A6 (name:=BB "__getitem__") ht.typeIs BA
   (Bb BA ht.typeIs EG ?_ (EU _ _)))
 show wpAny _ _ (Dv (.ref t) >>= _) _ _ s;refine Aa (tupleItemsOf_ ht ?_);refine Aa (Cw hTs ?_);rw[if_pos (by decide)];refine Aa (sliceApplied_gen hs pl pu ?_);have hno:¬ ((((sIx items.size 0 lo:Nat):Int)==0&&(1:Int)==1&&(sIx items.size items.size hi - sIx items.size 0 lo)==items.size)=true):=by
   intro q;rw[Av,Av] at q;have q1:((sIx items.size 0 lo:Nat):Int)=0:=eq_of_beq q.1.1;have q2:sIx items.size items.size hi - sIx items.size 0 lo=items.size:=eq_of_beq q.2;exact hw ⟨by omega,by omega⟩
 show wpAny _ _ (if (((sIx items.size 0 lo:Nat):Int)==0&&(1:Int)==1&&(sIx items.size items.size hi - sIx items.size 0 lo)==items.size)=true then _ else _) _ _ s;rw[if_neg hno,zlu]
 first
   | exact Aa (m:=BY _) (A7 (Ae ⟨_,rfl,Ae h⟩) htake)
   | exact Aa (m:=BY _) (A7 (Aa (Ae (Ae ⟨_,rfl,Ae h⟩))) htake)
   | exact Aa (Aa (m:=BY _) (A7 (Ae (Ae ⟨_,rfl,Ae h⟩)) htake))
   | exact Aa (Aa (m:=BY _) (A7 (Ae ⟨_,rfl,Ae h⟩) htake))
end
end HT
namespace L2
open PySem PySem.Spec PyProof.Rows
noncomputable abbrev TO:=St->Hp->(Option Int->Hp->Prop)->Prop
def PO(X:Cx)(e:Option Expr)(t:TO):Prop :=
 ∀ (pins:List (Addr×Obj)) (s:Shared) (σ:St) (H:Hp) (Q:Option Int->Hp->Prop),Inv X pins σ H s->t σ H Q ->
   wpAny (model X.prog X.w) X.A (evalPart e X.env) (fun u s'=>∃ o H',Inv X pins σ H' s'/\IsPart u o/\Q o H') X.xe s
noncomputable def zmT:TO:=fun _ H Q=>Q none H
noncomputable def zrd(t:TE):TO:=fun σ H Q=>t σ H fun x H1=>∃ i,x=.int i/\Q (some i) H1
theorem intsAre_of{ns:List Int}:∀ {us:List Value},Vals (ns.map V.int) us->IntsAre us ns:=by
 induction ns with
 | nil=>intro us r;rw[Bq] at r;cases r;exact .nil
 | cons n ns ih =>
   intro us r;rw[Ao] at r
   cases r with
   | cons r1 r2 =>
     obtain⟨t,e⟩:=r1;subst e;exact .cons n t (ih r2)
section
variable {X:Cx} {e:Expr} {te:TE} {lo hi:Option Expr} {tl th:TO} {pos p2:Pos}
theorem znq:PO X none zmT:=by
 intro pins s σ H Q I h;rw[evalPart_none];exact Ae ⟨none,H,I,.none,h⟩
theorem znp(h:PE X e te):PO X (some e) (zrd te):=by
 intro pins s σ H Q I hw;rw[evalPart_some];refine thn (h pins s σ H _ I hw) ?_;rintro u s1 ⟨x,H1,I1,r1,q1⟩;obtain⟨i,rfl,q⟩:=q1;obtain⟨t,rfl⟩:=r1;exact⟨some i,H1,I1,.int i t,q⟩
def SlR(X:Cx)(r:V->Option Int->Option Int->Hp->VK->Prop):Prop :=
 ∀ (pins:List (Addr×Obj)) (s:Shared) (σ:St) (H:Hp) (x:V) (v vl vu:Value) (lo hi:Option Int) (sl:Addr) (Q:VK),Inv X pins σ H s->RelV x v->s.heap.IsSliceOf sl vl vu .none->IsPart vl lo->IsPart vu hi->r x lo hi H Q ->
   ∃ T id,typeLookup (.type T) "__getitem__"=pure (some (.builtin id))/\s.TypeIs v T/\wpAny (model X.prog X.w) X.A (getItem v (.ref sl)) (EP X pins σ Q) X.xe s
noncomputable def tSl(r:V->Option Int->Option Int->Hp->VK->Prop)(te:TE)(tl th:TO):TE:=fun σ H Q=>te σ H fun x H1=>tl σ H1 fun l H2=>th σ H2 fun u H3=>r x l u H3 Q
theorem zee{r:V->Option Int->Option Int->Hp->VK->Prop}(hr:SlR X r)(he:PE X e te)(hl:PO X lo tl)(hu:PO X hi th):PE X (.Subscript e (.Slice lo hi none p2) pos) (tSl r te tl th):=by
 intro pins s σ H Q I h;refine Fx (thn (he pins s σ H _ I h) ?_);rintro v s1 ⟨x,H1,I1,r1,q1⟩;refine wpAny_Slice (thn (hl pins s1 σ H1 _ I1 q1) fun vl s2 ⟨l,H2,I2,pl,q2⟩=>thn (hu pins s2 σ H2 _ I2 q2) ?_);rintro vu s3 ⟨u,H3,I3,pu,q3⟩;rw[evalPart_none];refine Ae ?_;have I4:Inv X pins σ H3 { s3 with heap:=s3.heap.push { cls:=.type "slice",data:=.fields #[vl,vu,.none] } }:=I3.kept (t':=s3.toks) fun b ob q=>Ad _ q;obtain⟨T,id,hT,ht,hg⟩:=hr pins { s3 with heap:=s3.heap.push { cls:=.type "slice",data:=.fields #[vl,vu,.none] } } σ H3 x v vl vu l u s3.heap.objs.size Q I4 r1 (F7 ..) pl pu q3;show wpAny (model X.prog X.w) X.A (subscriptTail e (.Slice lo hi none p2) v (.ref s3.heap.objs.size)) (EP X pins σ Q) X.xe { s3 with heap:=s3.heap.push { cls:=.type "slice",data:=.fields #[vl,vu,.none] } };exact tail_any (ops:=[.ref s3.heap.objs.size,v]) ht hT hg (by with_unfolding_all rfl)
noncomputable def cutV(xs:List V)(lo hi:Option Int):List V:=(xs.drop (HT.sIx xs.length 0 lo)).take (HT.sIx xs.length xs.length hi - HT.sIx xs.length 0 lo)
theorem zdY(xs:List V)(lo hi:Option Int):(cutV xs lo hi).length<=xs.length:=by
 unfold cutV;rw[BG,DM];omega
noncomputable def rSlT(K:Ac):V->Option Int->Option Int->Hp->VK->Prop:=fun x lo hi H Q=>∃ a xs,x=.ref a/\SqT K H a xs /\
 ¬ (HT.sIx xs.length 0 lo=0/\HT.sIx xs.length xs.length hi=xs.length)/\∀ p,H p=none->Q (.ref p) (upd H p (.tup (cutV xs lo hi)))
theorem zo4:SlR X (rSlT X.K):=by
 intro pins s σ H x v vl vu lo hi sl Q I rx hs pl pu h;obtain⟨a,xs,rfl,hx,hw,q⟩:=h;cases rx;obtain⟨its,r,ht,hz⟩:=I.tuple hx;have hlen:its.toArray.size=xs.length:=by rw[Au];exact r.length.symm
 refine⟨"tuple",_,PyProof.Rows.slot_tuple_getitem.lookup,ht.typeIs,?_⟩;refine HT.getItem_tuple_cut ht hs pl pu (by rw[hlen];exact hw) ?_ (by rw[hlen];exact hz);rw[hlen];refine⟨.ref s.heap.objs.size,_,I.laid (t':=s.toks) (o:=.tup (cutV xs lo hi)) (fun b ob q=>Ad _ q) (Af _) ?_,rfl,q _ (I.hok.fresh (Af _))⟩;exact⟨AF (zdY xs lo hi) hz,_,(r.drop (HT.sIx xs.length 0 lo)).take (HT.sIx xs.length xs.length hi - HT.sIx xs.length 0 lo),zcE.new _ _⟩
noncomputable def rLtT(K:Ac):R2:=fun x y H Q=>∃ a b ns ms,x=.ref a/\y=.ref b/\SqT K H a (ns.map V.int)/\SqT K H b (ms.map V.int)/\Q (.bl (HT.lexLt ns ms)) H
theorem zpN(hu:X.A.units < cLine):OpR X (compareOp .Lt) (rLtT X.K):=by
 intro pins s σ H x y v u Q I rx ry h;obtain⟨a,b,ns,ms,rfl,rfl,ha,hb,q⟩:=h;cases rx;cases ry;obtain⟨its,r1,p1,_⟩:=I.tuple ha;obtain⟨its2,r2,p2,_⟩:=I.tuple hb;have i1:IntsAre its.toArray.toList ns:=intsAre_of r1;have i2:IntsAre its2.toArray.toList ms:=intsAre_of r2;exact HT.lt_tupInts p1 p2 i1 i2 hu ⟨.bl (HT.lexLt ns ms),H,I,rfl,q⟩
noncomputable def zrx(K:Ac):R2:=fun x y H Q=>∃ a b xs ys,x=.ref a/\y=.ref b/\SqT K H a xs/\SqT K H b ys/\xs≠[]/\xs.length+ys.length<=sizeLine /\
 (ys=[]->Q (.ref a) H)/\(ys≠[]->∀ p,H p=none->Q (.ref p) (upd H p (.tup (xs++ys))))
theorem Vals.nil_iff{xs:List V}{us:List Value}(r:Vals xs us):us=[] ↔ xs=[]:=by
 cases r with
 | nil=>simp
 | cons _ _=>simp
theorem znP:OpR X (binaryOp .Add) (zrx X.K):=by
 intro pins s σ H x y v u Q I rx ry h;obtain⟨a,b,xs,ys,rfl,rfl,ha,hb,hx,hz,q1,q2⟩:=h;cases rx;cases ry;obtain⟨its,r1,p1,_⟩:=I.tuple ha;obtain⟨its2,r2,p2,_⟩:=I.tuple hb;refine HT.cat_tup p1 p2 (fun z=>hx (r1.nil_iff.mp z)) (fun z=>⟨.ref a,H,I,rfl,q1 (r2.nil_iff.mp z)⟩) (fun z=>?_) (by rw[<-r1.length,<-r2.length];exact hz);refine⟨.ref s.heap.objs.size,_,I.laid (t':=s.toks) (o:=.tup (xs++ys)) (fun b ob q=>Ad _ q) (Af _) ?_,rfl,q2 (fun w=>z (r2.nil_iff.mpr w)) _ (I.hok.fresh (Af _))⟩;exact⟨by rw[AJ];exact hz,_,r1.append r2,zcE.new _ _⟩
end
noncomputable def ixN(n:Nat)(i:Int):Option Nat:=if 0<=i then (if i < n then some i.toNat else none) else if -(n:Int)<=i then some (i+n).toNat else none
noncomputable def atI{α:Type}(xs:List α)(i:Int):Option α:=(ixN xs.length i).bind fun j=>xs[j]?
theorem zkv{n:Nat}{i:Int}{j:Nat}(h:ixN n i=some j):seqIndex? i n=some j/\j < n/\-(n:Int)<=i/\i < n:=by
 unfold ixN at h
 by_cases h0:0<=i
 . rw[if_pos h0] at h
   by_cases h1:i < n
   . rw[if_pos h1] at h;have e:i.toNat=j:=Ax h;exact⟨by rw[Fm h0 h1,e],by omega,by omega,h1⟩
   . rw[if_neg h1] at h;cases h
 . rw[if_neg h0] at h
   by_cases h1:-(n:Int)<=i
   . rw[if_pos h1] at h;have e:(i+n).toNat=j:=Ax h;exact⟨by rw[EV (by omega) h1,e],by omega,h1,by omega⟩
   . rw[if_neg h1] at h;cases h
theorem ziP{α:Type}{xs:List α}{i:Int}{v:α}(h:atI xs i=some v):∃ j,seqIndex? i xs.length=some j/\xs[j]?=some v/\j < xs.length/\-(xs.length:Int)<=i/\i < xs.length:=by
 unfold atI at h
 cases e:ixN xs.length i with
 | none=>rw[e] at h;cases h
 | some j =>
   rw[e] at h;obtain⟨h1,h2,h3,h4⟩:=zkv e;exact⟨j,h1,h,h2,h3,h4⟩
def zgr(b:Expr):Prop:=∀ o i,subscripted b false o i=operate [o,i] (getItem o i)
def IxR(X:Cx)(r:R2):Prop :=
 ∀ (value slice:Expr) (pins:List (Addr×Obj)) (s:Shared) (σ:St) (H:Hp) (x y:V) (v u:Value) (Q:VK),Inv X pins σ H s->RelV x v->RelV y u->r x y H Q ->
   subscripted slice false v u=operate [v,u] (getItem v u)->wpAny (model X.prog X.w) X.A (subscriptTail value slice v u) (EP X pins σ Q) X.xe s
def MtR(X:Cx)(id:String)(r:V->List V->Hp->VK->Prop):Prop :=
 ∀ (pins:List (Addr×Obj)) (s:Shared) (σ:St) (H:Hp) (x:V) (xs:List V) (v:Value) (us:List Value) (Q:VK),Inv X pins σ H s->RelV x v->Vals xs us->r x xs H Q ->
   wpAny (model X.prog X.w) X.A (call (.builtin id) (v::us)) (EP X pins σ Q) X.xe s
section
variable {X:Cx} {a b:Expr} {ta tb:TE} {pos:Pos}
theorem zrE{r:R2}(hr:IxR X r)(ha:PE X a ta)(hb:PE X b tb)(hs:zgr b):PE X (.Subscript a b pos) (tOp r ta tb):=by
 intro pins s σ H Q I h;exact Fx (binT ha hb I h fun v u s2 x y H2 I2 rx ry q=>hr a b pins s2 σ H2 x y v u Q I2 rx ry q (hs _ _))
noncomputable def rIxL(K:Ac):R2:=fun x y H Q=>∃ p xs i v,x=.ref p/\y=.int i/\SqL K H p xs/\atI xs i=some v/\Q v H
noncomputable def rIxT(K:Ac):R2:=fun x y H Q=>∃ p xs i v,x=.ref p/\y=.int i/\SqT K H p xs/\atI xs i=some v/\Q v H
noncomputable def rIxS:R2:=fun x y H Q=>∃ z i c,x=.str z/\y=.int i/\z.length<=sizeLine/\atI z.cps.toList i=some c/\Q (.str ⟨#[c]⟩) H
theorem zku:IxR X (rIxL X.K):=by
 intro value slice pins s σ H x y v u Q I rx ry h hs;obtain⟨p,xs,i,z,rfl,rfl,hq,he,q⟩:=h;cases rx;obtain⟨t,rfl⟩:=ry;obtain⟨its,r,pl,hz⟩:=I.list hq;obtain⟨j,h1,h2,h3,h4,h5⟩:=ziP he;obtain⟨w,ew,rw'⟩:=r.get h2;have hl:=r.length;have hn:=zfE;have fin:EP X pins σ Q w s:=⟨z,H,I,rw',q⟩
 by_cases h0:0<=i
 . have hj:i.toNat=j:=by
     rw[Fm h0 h5] at h1;exact Ax h1
   exact item_listR pl.isList h0 (by omega) (by rw[hj];simpa using ew) fin hs
 . have hj:(i+(its.toArray.size:Int)).toNat=j:=by
     rw[EV (by omega) h4] at h1;rw[Au,<-hl];exact Ax h1
   exact Ea (x:=w) pl.isList.typeIs slot_list_getitem.lookup
     (wpAny_getItem_list_neg (Q:=fun r s'=>r=w/\EP X pins σ Q r s') pl.isList (by omega) (by rw[Au] <;> omega) (by omega) (by rw[hj];simpa using ew) ⟨rfl,fin⟩) hs
theorem zaY:IxR X (rIxT X.K):=by
 intro value slice pins s σ H x y v u Q I rx ry h hs;obtain⟨p,xs,i,z,rfl,rfl,hq,he,q⟩:=h;cases rx;obtain⟨t,rfl⟩:=ry;obtain⟨its,r,pl,hz⟩:=I.tuple hq;obtain⟨j,h1,h2,h3,h4,h5⟩:=ziP he;obtain⟨w,ew,rw'⟩:=r.get h2;have hl:=r.length;have hn:=zfE;have fin:EP X pins σ Q w s:=⟨z,H,I,rw',q⟩
 exact Ea (x:=w) pl.typeIs slot_tuple_getitem.lookup
   (getItem_tuple (j:=j) (Q:=fun r s'=>r=w/\EP X pins σ Q r s') pl (by omega) (by omega) (by rw[Au,<-hl];exact h1) (by simpa using ew) ⟨rfl,fin⟩) hs
theorem zl2:IxR X rIxS:=by
 intro value slice pins s σ H x y v u Q I rx ry h hs;obtain⟨z,i,c,rfl,rfl,hz,he,q⟩:=h;obtain⟨t,rfl⟩:=rx;obtain⟨t',rfl⟩:=ry;obtain⟨j,h1,h2,h3,h4,h5⟩:=ziP he;have hl:z.cps.toList.length=z.length:=by simp[Str.length]
 rw[hl] at h1 h4 h5;have hn:=zfE;exact tail_any (Fy s z t) slot_str_getitem.lookup (getItem_str (c:=c) (by
   have e1:decide (i < -(2 ^ 63:Int))=false:=decide_eq_false (by omega);have e2:decide (i ≥ 2 ^ 63)=false:=decide_eq_false (by omega);rw[e1,e2,Bool.or_false]) (by rw[h1];simpa using h2) ⟨.str ⟨#[c]⟩,H,I.tok _,⟨_,rfl⟩,q⟩) hs
theorem zif(its:List Value)(n j:Nat)(u:Value):Ck (·.setIfInBounds j u) { cls:=.type "list",data:=.seq its.toArray n }={ cls:=.type "list",data:=.seq (its.set j u).toArray n }:=by
 simp[Ck]
theorem Inv.lst{pins:List (Addr×Obj)}{σ:St}{H:Hp}{s:Shared}{p:Addr}{xs:List V}(I:Inv X pins σ H s)(h:H p=some (.lst xs)) :
   ∃ (its:List Value) (n:Nat),Vals xs its/\s.heap.get? p=some { cls:=.type "list",data:=.seq its.toArray n }/\xs.length<=sizeLine:=by
 obtain⟨z,its,n,r,e⟩:=I.hok p _ h;exact⟨its,n,r,e,z⟩
theorem Inv.lstUpd{pins:List (Addr×Obj)}{σ:St}{H:Hp}{s:Shared}{p:Addr}{xs ys:List V}{its its':List Value}{n n':Nat}{f:Obj->Obj}(I:Inv X pins σ H s)(h:H p=some (.lst xs))
   (ho:s.heap.get? p=some { cls:=.type "list",data:=.seq its.toArray n }) (hf:f { cls:=.type "list",data:=.seq its.toArray n }={ cls:=.type "list",data:=.seq its'.toArray n' }) (r:Vals ys its') (hz:ys.length<=sizeLine) (t:Nat) :
   Inv X pins σ (upd H p (.lst ys)) { s with heap:=s.heap.update p f,toks:=t }:=by
 have e:(s.heap.update p f).get? p=some { cls:=.type "list",data:=.seq its'.toArray n' }:=by
   rw[CT f ho (by rw[hf] <;> rfl),hf]
 refine I.write (x:=p) (e:=p) (by rw[h];trivial) (.inl rfl) (fun b u hb q=>(Eb _ _ (Bx hb)).trans q) ⟨_,e⟩ ?_;exact⟨hz,its',n',r,e⟩
noncomputable def zrw:V->V->V->Hp->(Hp->Prop)->Prop:=fun o i v H Q=>∃ p xs k j,o=.ref p/\i=.int k/\H p=some (.lst xs)/\ixN xs.length k=some j/\Q (upd H p (.lst (xs.set j v)))
theorem set_list:PSet X zrw:=by
 intro pins s σ H o i v ov iv u Q I ro ri rv h;obtain⟨p,xs,k,j,rfl,rfl,hp,hj,q⟩:=h;cases ro;obtain⟨t,rfl⟩:=ri;obtain⟨its,n,r,ho,hz⟩:=I.lst hp;obtain⟨h1,h2,h3,h4⟩:=zkv hj;have hl:=r.length;have hn:=zfE;have I':Inv X pins σ (upd H p (.lst (xs.set j v))) { s with heap:=s.heap.update p (Ck (·.setIfInBounds j u)) } :=
   I.lstUpd hp ho (zif its n j u) (r.set rv j) (by rw[C1];exact hz) s.toks
 by_cases h0:0<=k
 . have hk:k.toNat=j:=by
     rw[Fm h0 h4] at h1;exact Ax h1
   exact PySem.W.ki_setAt ho h0 (by omega) (by rw[Au,<-hl];exact h4) (by rw[hk];exact⟨_,I',q⟩)
 . have hk:(k+(its.toArray.size:Int)).toNat=j:=by
     rw[EV (by omega) h3] at h1;rw[Au,<-hl];exact Ax h1
   exact PySem.W.ki_setBack ho (by omega) (by rw[Au,<-hl];exact h3) (by omega) (by rw[hk];exact⟨_,I',q⟩)
theorem zfr(lo hi:Option Int)(n:Nat):(sliceBounds lo hi none n).1=((HT.sIx n 0 lo:Nat):Int)/\(sliceBounds lo hi none n).2.1=((HT.sIx n n hi:Nat):Int)/\(sliceBounds lo hi none n).2.2=1:=by
 refine⟨?_,?_,rfl⟩
 . cases lo with
   | none=>simp[sliceBounds,HT.sIx]
   | some i =>
     simp only[sliceBounds,HT.sIx,Fo,show (1:Int) > 0 by decide,if_true]
     by_cases h:i < 0
     . simp only[h,if_true] <;> omega
     . simp only[h,if_false] <;> omega
 . cases hi with
   | none=>simp[sliceBounds,HT.sIx]
   | some i =>
     simp only[sliceBounds,HT.sIx,Fo,show (1:Int) > 0 by decide,if_true]
     by_cases h:i < 0
     . simp only[h,if_true] <;> omega
     . simp only[h,if_false] <;> omega
theorem zeB(its:List Value)(lo hi:Option Int):slicePick its.toArray lo hi none=((its.drop (HT.sIx its.length 0 lo)).take (HT.sIx its.length its.length hi - HT.sIx its.length 0 lo)).toArray:=by
 obtain⟨h1,h2,h3⟩:=zfr lo hi its.toArray.size;unfold slicePick;rw[h1,h2,h3];simp only[sliceRange_one,pick_run,Au] <;> rfl
noncomputable def rSlL(K:Ac):V->Option Int->Option Int->Hp->VK->Prop:=fun x lo hi H Q=>∃ a xs,x=.ref a/\SqL K H a xs/\∀ p,H p=none->Q (.ref p) (upd H p (.lst (cutV xs lo hi)))
theorem zj2:SlR X (rSlL X.K):=by
 intro pins s σ H x v vl vu lo hi sl Q I rx hs pl pu h;obtain⟨a,xs,rfl,hx,q⟩:=h;cases rx;obtain⟨its,r,ht,hz⟩:=I.list hx;have hlen:=r.length;refine⟨"list",_,slot_list_getitem.lookup,ht.isList.typeIs,?_⟩;refine wpAny_getItem_list_slice ht.isList hs pl pu .none (by simp) ?_ (by rw[Au] <;> omega);rw[zeB,<-hlen];refine⟨.ref s.heap.objs.size,_,I.laid (t':=s.toks) (o:=.lst (cutV xs lo hi)) (fun b ob q=>Ad _ q) (Af _) ?_,rfl,q _ (I.hok.fresh (Af _))⟩;exact⟨AF (zdY xs lo hi) hz,_,0,(r.drop (HT.sIx xs.length 0 lo)).take (HT.sIx xs.length xs.length hi - HT.sIx xs.length 0 lo),Aq _ rfl⟩
theorem zcm:zjV X (.builtin "len") (fun xs H Q=>∃ p ys,xs=[.ref p]/\(SqL X.K H p ys\/SqT X.K H p ys)/\Q (.int ys.length) H):=by
 intro pins s σ H xs us Q I r h;obtain⟨p,ys,rfl,hq,q⟩:=h;obtain⟨u,rfl,rx⟩:=vals1 r;cases rx;have hn:=zfE
 rcases hq with hq | hq
 . obtain⟨its,r',pl,hz⟩:=I.list hq;have hlen:=r'.length;exact Calls.call_len_list pl.isList (by simp only[Au] <;> omega) ⟨.int ys.length,H,I.tok _,⟨s.toks+1,by rw[Au,hlen]⟩,q⟩
 . obtain⟨its,r',pl,hz⟩:=I.tuple hq;have hlen:=r'.length;exact len_tuple pl (by simp only[Au] <;> omega) ⟨.int ys.length,H,I.tok _,⟨s.toks+1,by rw[Au,hlen]⟩,q⟩
theorem zfM:zjV X (.builtin "len") (fun xs H Q=>∃ z,xs=[.str z]/\z.length<=sizeLine/\Q (.int z.length) H):=by
 intro pins s σ H xs us Q I r h;obtain⟨z,rfl,hz,q⟩:=h;obtain⟨u,rfl,t,rfl⟩:=vals1 r;have hn:=zfE;exact len_str (by omega) ⟨.int z.length,H,I.tok _,⟨_,rfl⟩,q⟩
theorem zc0:zjV X (.type "tuple") (fun xs H Q=>∃ p ys,xs=[.ref p]/\((SqL X.K H p ys/\∀ l,H l=none->Q (.ref l) (upd H l (.tup ys)))\/(SqT X.K H p ys/\Q (.ref p) H))):=by
 intro pins s σ H xs us Q I r h;obtain⟨p,ys,rfl,h⟩:=h;obtain⟨u,rfl,rx⟩:=vals1 r;cases rx
 rcases h with ⟨hq,q⟩ | ⟨hq,q⟩
 . obtain⟨its,r',pl,hz⟩:=I.list hq;have hlen:=r'.length;refine call_tuple_list pl.isList (fun h' kp=>?_) (by simp only[Au] <;> omega);have I1:Inv X pins σ H { s with heap:=h' }:=I.kept (t':=s.toks) kp;have I2:Inv X pins σ (upd H h'.objs.size (.tup ys)) { s with heap:=h'.push { cls:=.type "tuple",data:=.seq its.toArray } } :=
     I1.laid (t':=s.toks) (fun b o e=>Ad _ e) (Af _) (show zcD X.prog X.w _ _ _ (.tup ys) from ⟨hz,its,r',zcE.new _ _⟩)
   exact⟨.ref h'.objs.size,_,I2,rfl,q _ (I1.hok.fresh (Af _))⟩
 . obtain⟨its,r',pl,hz⟩:=I.tuple hq;exact call_tuple_same pl ⟨.ref p,H,I,rfl,q⟩
def tyV(K:Ac)(T:String)(x:V)(H:Hp):Prop:=match x with
 | .str _=>T="str"
 | .int _=>T="int"
 | .ref p=>(T="list"/\∃ xs,SqL K H p xs)\/(T="tuple"/\∃ o,K.lookup p=some o/\o.cls=.type "tuple"/\o.dict=none) \/
     (T="dict"/\((∃ kvs,H p=some (.dK kvs))\/∃ kvs,H p=some (.dT kvs)))\/(T="set"/\∃ S n,H p=some (.set S n))
 | _=>False
theorem zmP{pins:List (Addr×Obj)}{σ:St}{H:Hp}{s:Shared}{T:String}{x:V}{v:Value}(I:Inv X pins σ H s)(r:RelV x v)(ty:tyV X.K T x H) :
   s.TypeIs v T/\∀ a,v=.ref a->∃ ob,s.heap.get? a=some ob/\ob.dict=none:=by
 cases x with
 | str z =>
   obtain⟨t,rfl⟩:=r
   cases (show T="str" from ty)
   exact⟨Fy s z t,fun _ e=>nomatch e⟩
 | int i =>
   obtain⟨t,rfl⟩:=r
   cases (show T="int" from ty)
   exact⟨typeIs_int s i t,fun _ e=>nomatch e⟩
 | ref p =>
   cases r
   rcases ty with ⟨rfl,xs,hq⟩ | ⟨rfl,o,hk,hc,hd⟩ | ⟨rfl,hk⟩ | ⟨rfl,S,n,hk⟩
   . obtain⟨its,_,pl,_⟩:=I.list hq;refine⟨pl.isList.typeIs,fun a e=>?_⟩;cases e;obtain⟨o,n,e,c,hd,_⟩:=pl;exact⟨o,e,hd⟩
   . refine⟨⟨o,I.kIn p o hk,hc⟩,fun a e=>?_⟩;cases e;exact⟨o,I.kIn _ o hk,hd⟩
   . have z:∃ o,s.heap.get? p=some o/\o.ExactDict:=by
       rcases hk with ⟨kvs,hk⟩ | ⟨kvs,hk⟩
       . obtain⟨_,_,_,_,o,_,_,e,ex,_⟩:=I.hok p _ hk;exact⟨o,e,ex⟩
       . obtain⟨_,_,_,_,o,_,_,e,ex,_⟩:=I.hok p _ hk;exact⟨o,e,ex⟩
     obtain⟨o,e,ex⟩:=z;refine⟨⟨o,e,ex.1⟩,fun a e2=>?_⟩;cases e2;exact⟨o,e,ex.2.1⟩
   . obtain⟨o,_,_,_,e,ex,_⟩:=I.hok p _ hk;refine⟨⟨o,e,ex.1⟩,fun a e2=>?_⟩;cases e2;exact⟨o,e,ex.2.1⟩
 | _=>exact False.elim ty
noncomputable def tBM0(K:Ac)(T:String)(r:V->List V->Hp->VK->Prop)(to:TE):TE:=fun σ H Q=>to σ H fun x H1=>tyV K T x H1/\r x [] H1 Q
noncomputable def tBM(K:Ac)(T:String)(r:V->List V->Hp->VK->Prop)(to:TE)(t:TA):TE:=fun σ H Q=>to σ H fun x H1=>tyV K T x H1/\t σ H1 fun xs H2=>r x xs H2 Q
variable {o e:Expr} {es:List Expr} {to:TE} {t:TA} {name:Str} {apos cpos:Pos} {T id:String} {r:V->List V->Hp->VK->Prop}
theorem zpF(pa:PlainAttrs T)(slot:Slot T name id)(hty:typeOf (.builtin id)=pure (.type "method_descriptor"))(hm:MtR X id r)(ho:PE X o to)
   (hbase:attributeBase o name X.env (eval o X.env)=eval o X.env:=by rfl) (hline:(apos.endLine==cpos.line)=true:=by rfl):PE X (.Call (.Attribute o name apos) [] [] cpos) (tBM0 X.K T r to):=by
 intro pins s σ H Q I h;refine DY hbase hline (thn (ho pins s σ H _ I h) ?_);rintro v s1 ⟨x,H1,I1,r1,ty,q1⟩;obtain⟨h1,h2⟩:=zmP I1 r1 ty;exact⟨T,id,pa,slot,hty,h1,h2,Cd rfl (EH (hm pins s1 σ H1 x [] v [] Q I1 r1 .nil q1))⟩
theorem zpG(pa:PlainAttrs T)(slot:Slot T name id)(hty:typeOf (.builtin id)=pure (.type "method_descriptor"))(hm:MtR X id r)(ho:PE X o to)(ha:PA X (e::es) t)
   (hbase:attributeBase o name X.env (eval o X.env)=eval o X.env:=by rfl)
   (hfew:((backTo cpos (starEach (e::es) X.env)).all (fun x=>!x.1)&&(backToKw cpos (keywordEach [] X.env)).all (fun x=>x.1.isSome)
    &&decide ((e::es).length+([]:List Keyword).length+(if ([]:List Keyword).isEmpty then 0 else 1) < 30))=true:=by rfl)
   (hline:(apos.endLine==cpos.line)=true:=by rfl) (hs:starEach (e::es) X.env=(false,eval e X.env)::starEach es X.env:=by rfl) (hplain:(backTo cpos (starEach es X.env)).any (·.1)=false:=by rfl) :
   PE X (.Call (.Attribute o name apos) (e::es) [] cpos) (tBM X.K T r to t):=by
 intro pins s σ H Q I h;refine wpAny_Call_method_late hbase hfew hline rfl (thn (ho pins s σ H _ I h) ?_);rintro v s1 ⟨x,H1,I1,r1,ty,q1⟩;obtain⟨h1,h2⟩:=zmP I1 r1 ty;refine⟨T,id,pa,slot,hty,h1,h2,?_⟩;have hA:=ha cpos pins s1 σ H1 _ I1 q1;rw[hs] at hA ⊢;refine Cd (by show (false || (backTo cpos (starEach es X.env)).any (·.1))=false;rw[hplain] <;> rfl) (Ew ?_);exact thn hA fun us s2 ⟨vs,H2,I2,r2,q2⟩=>hm pins s2 σ H2 x vs v us Q I2 r1 r2 q2
end
def MtM(X:Cx)(id:String)(r:V->List V->Hp->VK->Prop):Prop :=
 ∀ (pins:List (Addr×Obj)) (s:Shared) (σ:St) (H:Hp) (x:V) (xs:List V) (v:Value) (us:List Value) (Q:VK),Inv X pins σ H s->RelV x v->Vals xs us->r x xs H Q ->
   wpAny (model X.prog X.w) X.A (call (.builtin id) (v::us)) (EP X pins σ Q) X.xe s
theorem Vals.one:∀ {x:V} {us:List Value},Vals [x] us->∃ u,us=[u]/\RelV x u
 | _,_,.cons r .nil=>⟨_,rfl,r⟩
theorem Vals.two{x y:V}{us:List Value}(h:Vals [x,y] us):∃ u v,us=[u,v]/\RelV x u/\RelV y v:=by
 cases h with
 | cons r t =>
   cases t with
   | cons q t =>
     cases t;exact⟨_,_,rfl,r,q⟩
theorem Vals.zero:∀ {us:List Value},Vals [] us->us=[]
 | _,.nil=>rfl
theorem Vals.dropLast{xs:List V}{us:List Value}(h:Vals xs us):Vals xs.dropLast us.dropLast:=by
 induction h with
 | nil=>exact .nil
 | cons r t ih =>
   cases t with
   | nil=>exact .nil
   | cons q t'=>exact .cons r ih
theorem Vals.eraseIdx:∀ {xs:List V} {us:List Value} (i:Nat),Vals xs us->Vals (xs.eraseIdx i) (us.eraseIdx i)
 | _,_,_,.nil=>.nil
 | _,_,0,.cons _ t=>t
 | _,_,i+1,.cons r t=>.cons r (Vals.eraseIdx i t)
theorem ziz{α:Type}(l:List α):l.eraseIdx (l.length - 1)=l.dropLast:=by
 induction l with
 | nil=>rfl
 | cons a r ih =>
   cases r with
   | nil=>rfl
   | cons b r =>
     have e:(a::b::r).length - 1=((b::r).length - 1)+1:=by
       have h1:(a::b::r).length=r.length+2:=rfl;have h2:(b::r).length=r.length+1:=rfl;omega
     rw[e,List.eraseIdx_cons_succ,ih]
     all_goals rfl
theorem zgf{α:Type}:∀ (l:List α) (i:Nat),(l.eraseIdx i).length<=l.length
 | [],_=>Af _
 | _::_,0=>Fn _
 | _::r,i+1=>Cm (zgf r i)
section
variable {X:Cx} {pins:List (Addr×Obj)} {σ:St} {H:Hp} {s:Shared} {l b:Addr} {xs ys zs:List V}
theorem Inv.lset{its its':List Value}{n:Nat}{f:Array Value->Array Value}{t':Nat}(I:Inv X pins σ H s)(hH:H l=some (.lst xs))
   (e:s.heap.get? l=some { cls:=.type "list",data:=.seq its.toArray n }) (hf:f its.toArray=its'.toArray) (hv:Vals ys its') (hz:ys.length<=sizeLine) :
   Inv X pins σ (upd H l (.lst ys)) { s with heap:=s.heap.update l (Ck f),toks:=t' }:=by
 have q:=PySem.IsL.update e f;rw[hf] at q;refine I.write (x:=l) (e:=l) (by rw[hH];exact trivial) (.inl rfl) (fun b' u hb hu=>(Eb s.heap (Ck f) (Bx hb)).trans hu) ⟨_,q⟩ ?_;exact⟨hz,its',_,hv,q⟩
theorem Inv.lnew{its:List Value}{t':Nat}(I:Inv X pins σ H s)(hv:Vals ys its)(hz:ys.length<=sizeLine) :
   Inv X pins σ (upd H s.heap.objs.size (.lst ys)) { s with heap:=s.heap.push { cls:=.type "list",data:=.seq its.toArray },toks:=t' } :=
 I.laid (fun _ _ q=>Ad _ q) (Af _) ⟨hz,its,0,hv,Aq _ rfl⟩
theorem Inv.fresh(I:Inv X pins σ H s):H s.heap.objs.size=none:=I.hok.fresh (Af _)
theorem Inv.lstM(I:Inv X pins σ H s)(hH:H l=some (.lst xs)):xs.length<=sizeLine/\∃ (its:List Value) (n:Nat),Vals xs its/\xs.length=its.length/\s.heap.get? l=some { cls:=.type "list",data:=.seq its.toArray n }:=by
 obtain⟨z,its,n,r,e⟩:=I.hok l _ hH;exact⟨z,its,n,r,r.length,e⟩
theorem zlJ{n:Nat}(h:n<=sizeLine):Cy n=false:=by
 unfold Cy;exact decide_eq_false (by omega)
end
section
variable {X:Cx}
noncomputable def znj:V->List V->Hp->VK->Prop:=fun x vs H Q=>∃ l xs y,x=.ref l/\vs=[y]/\H l=some (.lst xs)/\xs.length < sizeLine/\Q .non (upd H l (.lst (xs++[y])))
theorem zgb:MtM X "list.append" znj:=by
 intro pins s σ H x vs v us Q I rx rv h;obtain⟨l,xs,y,rfl,rfl,hH,hz,q⟩:=h;cases rx;obtain⟨u,rfl,ru⟩:=rv.one;obtain⟨z,its,n,r,hl,e⟩:=I.lstM hH;refine C3 F.slot_list_append ⟨_,e,rfl⟩ F.entry_list_append (F.args_list_append_2 _ _) (PySem.list_append l its.toArray n u (by rw[Au];omega)) ⟨e,?_⟩;refine⟨.non,_,I.lset (its':=its++[u]) hH e (by simp) (r.append (.cons ru .nil)) ?_,rfl,q⟩;rw[AJ,By];omega
noncomputable def zni:V->List V->Hp->VK->Prop:=fun x vs H Q=>∃ l b xs zs,x=.ref l/\vs=[.ref b]/\H l=some (.lst xs)/\H b=some (.lst zs)/\xs.length+zs.length<=sizeLine/\Q .non (upd H l (.lst (xs++zs)))
theorem zju:MtM X "list.extend" zni:=by
 intro pins s σ H x vs v us Q I rx rv h;obtain⟨l,b,xs,zs,rfl,rfl,hH,hB,hz,q⟩:=h;cases rx;obtain⟨u,rfl,ru⟩:=rv.one;cases ru;obtain⟨z,its,n,r,hl,e⟩:=I.lstM hH;obtain⟨z2,its2,n2,r2,hl2,e2⟩:=I.lstM hB;have hsz:its.toArray.size+its2.toArray.size<=sizeLine:=by rw[Au,Au];omega
 have hlong:¬ (!its.toArray.isEmpty&&Cy (its.toArray.size+its2.toArray.size))=true:=by
   rw[zlJ hsz,Bool.and_false];exact AU
 refine C3 F.slot_list_extend ⟨_,e,rfl⟩ F.entry_list_extend (F.args_list_extend_2 _ _)
   (AutoSeq1.list_extend_list_list_0 l its.toArray n b its2.toArray n2 hlong (by rw[Au];omega) (by omega)) ⟨e,e2,?_⟩
 refine⟨.non,_,I.lset (its':=its++its2) hH e (by simp) (r.append r2) ?_,rfl,q⟩;rw[AJ];omega
noncomputable def rPop:V->List V->Hp->VK->Prop:=fun x vs H Q=>∃ l xs y,x=.ref l/\vs=[]/\H l=some (.lst xs)/\xs[xs.length - 1]?=some y/\Q y (upd H l (.lst xs.dropLast))
theorem zp7:MtM X "list.pop" rPop:=by
 intro pins s σ H x vs v us Q I rx rv h;obtain⟨l,xs,y,rfl,rfl,hH,hy,q⟩:=h;cases rx;have hus:=rv.zero;subst hus;obtain⟨z,its,n,r,hl,e⟩:=I.lstM hH;obtain⟨u,hu,ru⟩:=r.get hy;have hy':its.toArray[its.toArray.size - 1]?=some u:=by
   show its.toArray[its.length - 1]?=some u;rw[<-BQ,<-hl];exact hu
 refine C3 F.slot_list_pop ⟨_,e,rfl⟩ F.entry_list_pop (F.args_list_pop_1 _) (MeetsSeq.list_pop_last l its.toArray n u hy' (by rw[Au];omega)) ⟨e,?_⟩;refine⟨y,_,I.lset (its':=its.dropLast) hH e ?_ r.dropLast ?_,ru,q⟩
 . show its.toArray.eraseIdxIfInBounds (its.toArray.size - 1)=its.dropLast.toArray;rw[Au,CV,ziz]
 . rw[List.length_dropLast];omega
noncomputable def zpj:V->List V->Hp->VK->Prop:=fun x vs H Q=>∃ l xs i k y,x=.ref l/\vs=[.int i]/\H l=some (.lst xs)/\-(2 ^ 63)<=i/\i < 2 ^ 63/\seqIndex? i xs.length=some k/\xs[k]?=some y/\Q y (upd H l (.lst (xs.eraseIdx k)))
theorem zlM:MtM X "list.pop" zpj:=by
 intro pins s σ H x vs v us Q I rx rv h;obtain⟨l,xs,i,k,y,rfl,rfl,hH,h1,h2,hk,hy,q⟩:=h;cases rx;obtain⟨u,rfl,ru⟩:=rv.one;obtain⟨t,rfl⟩:=ru;obtain⟨z,its,n,r,hl,e⟩:=I.lstM hH;obtain⟨w,hw,rw'⟩:=r.get hy;refine C3 F.slot_list_pop ⟨_,e,rfl⟩ F.entry_list_pop (F.args_list_pop_2 _ _)
   (MeetsSeq.list_pop_at l its.toArray n i t k w (fitsIndex_both h1 h2) (by rw[Au,<-hl];exact hk) (by rw[<-BQ];exact hw) (by rw[Au];omega)) ⟨e,?_⟩
 refine⟨y,_,I.lset (its':=its.eraseIdx k) hH e ?_ (r.eraseIdx k) ?_,rw',q⟩
 . show its.toArray.eraseIdxIfInBounds k=(its.eraseIdx k).toArray;rw[CV]
 . have:=zgf xs k;omega
noncomputable def rCat:R2:=fun x y H Q=>∃ l b xs zs,x=.ref l/\y=.ref b/\H l=some (.lst xs)/\H b=some (.lst zs)/\xs.length+zs.length<=sizeLine/\∀ p,H p=none->Q (.ref p) (upd H p (.lst (xs++zs)))
theorem zpR:OpR X (binaryOp .Add) rCat:=by
 intro pins s σ H x y v u Q I rx ry h;obtain⟨l,b,xs,zs,rfl,rfl,hH,hB,hz,q⟩:=h;cases rx;cases ry;obtain⟨z,its,n,r,hl,e⟩:=I.lstM hH;obtain⟨z2,its2,n2,r2,hl2,e2⟩:=I.lstM hB;refine PySem.P.add_list e e2 ?_ (by rw[Au,Au];omega);have ea:its.toArray++its2.toArray=(its++its2).toArray:=by simp
 rw[ea];exact⟨.ref _,_,I.lnew (t':=s.toks) (r.append r2) (by rw[AJ];omega),rfl,q _ I.fresh⟩
end
section
variable {prog:Program} {w:World} {A:Around} {E:Value->Shared->Prop} {s:Shared}
set_option maxRecDepth 100000 in
end
end L2
namespace Att
open PySem PySem.W PySem.Calls PyProof.Rows
theorem zdL{P:Params}{h:Heap}:∀ (ns:List Int) (vs:List Value),WellAll P h vs (ns.map WData.int)->IntsAre vs ns:=by
 intro ns
 induction ns with
 | nil =>
   intro vs w;rw[Bq] at w;cases w;exact .nil
 | cons n ns ih =>
   intro vs w;rw[Ao] at w
   cases w with
   | cons a b =>
     cases a;exact .cons _ _ (ih _ b)
theorem zja{l:OpenLaw}{n:Nat}(hn:l.most=some n){P:Params}{h:Heap}{args:List WData}{vals:List Value}
   (hpre:l.row.toRowW.claim.pre args=true) (hwl:WellAll P h vals args) :
   ∃ a vs ns,vals=[AM a]/\args=[WData.list (ns.map WData.int)]/\h.get? a=some { cls:=.type "list",data:=.seq vs.toArray }/\IntsAre vs ns/\ns.length<=n:=by
 have hsh:WShape.hasAll [] args [.list .int]=true:=(pre_splitW hpre).1;have hc:l.pre.holds [] { args:=args }=true:=(pre_splitW hpre).2;obtain⟨d,r,rfl,h1,h2⟩:=hasAllW_cons hsh;obtain rfl:=hasAllW_nil h2;obtain⟨xs,rfl,h3⟩:=hasW_list h1;obtain⟨ns,rfl⟩:=items_int h3;have hlen:ns.length<=n:=by
   unfold OpenLaw.pre at hc;have h4:(WTm.not (.lt (.lit (.int (n:Int))) (.len (.arg 0)))).holds [] { args:=[.list (ns.map .int)] }=true:=by
     have h4:=(holds_andW hc).1;rw[hn] at h4;exact h4
   have h5:=condW_of h4 (w_not (w_lt w_lit (w_len_list (w_arg rfl))));rw[Ak] at h5;refine Nat.le_of_not_lt fun q=>?_;have q':(n:Int) < ((ns.length:Nat):Int):=by omega
   first
     | (rw[decide_eq_true q'] at h5;exact absurd h5 (by decide))
     | (simp at h5;omega)
 cases hwl with
 | cons w1 w2 =>
   cases w2
   cases w1 with
   | list ho hall=>exact⟨_,_,ns,rfl,rfl,ho,zdL ns _ hall,hlen⟩
theorem zjh(l:OpenLaw)(args:List WData):l.row.toRowW.claim.post args (.bool true) args=true :=
 postW_of (r:=l.row.toRowW) (X:=(true==true))
   (show WShape.has [] (.bool true) .bool=true by first | rfl | decide | simp[WShape.has,WShape.arms,WShape.armsAll])
   (show (WTm.eq .res (.lit (.bool true))).value [] { args:=args,res:=some (.bool true),after:=args }=some (.bool (true==true)) from w_eq_bool (w_res rfl) w_lit) rfl
theorem attach_call{l:OpenLaw}{n:Nat}{q:Program}{loose:List Str}{XP:(Str->Option Value)->Heap->Prop}{YP:World->Heap->Prop}{d:DefRec}
   (hn:l.most=some n) (hdf:d.params.defaults=[])
   (call:∀ (w:World) (s₀ s₁:Shared) (mg mb:Str->Option Value) (fa:Addr) (o:Obj) (pm cd doc:Value) (a:Addr) (vs:List Value) (ns:List Int),
     Ground q loose [] XP w s₀ mg mb s₁.heap->YP w s₁.heap ->
     s₁.heap.get? fa=some o->o.data=.func (docDef d.name d.params d.body d.scope pm cd doc)->s₁.heap.CodeRec cd d.name->mg d.name=some (.ref fa) ->
     s₁.heap.get? a=some { cls:=.type "list",data:=.seq vs.toArray }->IntsAre vs ns->ns.length<=n->s₁.gens=#[] ->
     codeAny (model l.prog w) callerA (.call (.ref fa) ⟨[.ref a],[]⟩) (fun r s'=>r=.ok (.ret (.bool true))/\OldK s₁.heap s'.heap/\s'.os=s₁.os/\AllBare s'.gens) s₁) :
   WalkO q loose XP YP l.row.toRowW d [] (fun f vs=>Fz f vs):=by
 intro w s₀ s₁ mg mb G Y fa o pm cd doc dV kV ho hd hcd hD hmg hg args vals as hpre hlay hrd hwl hlo;obtain rfl:dV=.none:=Dflts.none hD hdf;obtain rfl:kV=.none:=Dflts.noKw hD;obtain⟨a,vs,ns,rfl,rfl,hobj,hints,hlen⟩:=zja hn hpre hwl;refine enter_call (ER (call w s₀ s₁ mg mb fa o pm cd doc a vs ns G Y ho (fd_plain hd) hcd hmg hobj hints hlen hg) fun r s' hq=>?_);obtain⟨rfl,h2,h3,h4⟩:=hq;exact⟨.inl ⟨.bool true,.bool true,[],rfl,fun _=>rfl,.bool true,zjh l _,fun _=>⟨Fd,fun _ hm=>(nomatch hm)⟩⟩,h2,h3,h4⟩
end Att
namespace L2
open PySem PySem.Spec PyProof.Rows
theorem zfP:∀ {vs:List Value} {ns:List Int},IntsAre vs ns->Vals (ns.map V.int) vs
 | _,_,.nil=>.nil
 | _,_,.cons n t h=>.cons ⟨t,rfl⟩ (zfP h)
def Only(H:Hp):Prop:=∀ b,H b=none\/∃ o xs,H b=some (.frz o (.lst xs))
theorem zlX{P:Program}{w:World}{K:Ac}{mg mb:Str->Option Value}{CX:CXT}{k:Nat}{fa a:Addr}{fd:FuncData}{x:Str}{sp:Sp}{s₁:Shared}{vs:List Value}{ns:List Int}
   (KX:K.In s₁.heap) (hns:s₁.heap.Ns mainGlobals mg) (hb:s₁.heap.Ns builtinsNs mb) (hbb:∀ x:Str,x≠"__name__"->mb x=bootBuiltins x) (hlim:s₁.heap.NoLimit) (hg:s₁.gens=#[])
   (ha:s₁.heap.get? a=some { cls:=.type "list",data:=.seq vs.toArray }) (hi:IntsAre vs ns) (hl:ns.length<=sizeLine) (hr:Room k callerA)
   (F:∀ base:Heap,K.In base->base.Ns mainGlobals mg->FnOk P w K mg base CX k fa fd [x] sp) (hbind:∀ (s:Shared) (u:Value),BindsTo s fd ⟨[u],[]⟩ [(x,u)])
   (hsp:∀ H:Hp,Only H->SqL K H a (ns.map V.int)->sp [.ref a] H (fun v _=>v=.bl true) fun _ _ _=>False)
   (hCX:∀ H e s',CX [] H s₁ (fun _ _ _=>False) e s'->False) :
   codeAny (model P w) callerA (.call (.ref fa) ⟨[.ref a],[]⟩) (fun r s'=>r=.ok (.ret (.bool true))/\OldK s₁.heap s'.heap/\s'.os=s₁.os/\AllBare s'.gens) s₁:=by
 have rv:=zfP hi;have lenV:=hi.length
 -- from an abstract heap in which nothing but the script may be tracked
 have core:∀ H:Hp,Only H->SqL K H a (ns.map V.int)->HOk P w H s₁.heap->(∀ b,H b≠none->b=a)->(H a≠none->K.lookup a=none) ->
     codeAny (model P w) callerA (.call (.ref fa) ⟨[.ref a],[]⟩) (fun r s'=>r=.ok (.ret (.bool true))/\OldK s₁.heap s'.heap/\s'.os=s₁.os/\AllBare s'.gens) s₁:=by
   intro H hO hS hok hA hK;have base_of:∀ {b:Addr} {o:Obj},s₁.heap.get? b=some o->H b=none->(hidT s₁.heap H).get? b=some o:=fun e n=>zmb e n;have noA:∀ {b:Addr} {o:Obj} {es:Array DictEntry} {ep:Nat},s₁.heap.get? b=some o->o.data=.dict es ep->H b=none:=fun {b o es ep} e d=>by
     cases q:H b with
     | none=>rfl
     | some u =>
       have e':b=a:=hA b (by rw[q];simp);subst e';rw[ha] at e;cases e;have d':Data.seq vs.toArray _=Data.dict es ep:=d;cases d'
   have nsK:∀ {b:Addr} {m:Str->Option Value},s₁.heap.Ns b m->(hidT s₁.heap H).Ns b m:=fun {b m} ⟨o,es,ep,e,d,r⟩=>⟨o,es,ep,base_of e (noA e d),d,r⟩
   have hKb:K.In (hidT s₁.heap H):=fun b o e=>base_of (KX b o e) (by
     cases q:H b with
     | none=>rfl
     | some u =>
       have e':b=a:=hA b (by rw[q];simp);subst e';rw[hK (by rw[q];simp)] at e;cases e)
   have hM:Mod K mg (hidT s₁.heap H):=⟨hKb,nsK hns,⟨mb,nsK hb,hbb⟩,let ⟨mc,h1,h2⟩:=hlim;⟨mc,nsK h1,h2⟩⟩
   have e0:Env0 P w K mg (hidT s₁.heap H) callerA [] s₁ H:=⟨rfl,hM,fun b o e=>znT e,Nat.le_of_eq (zjJ _ _),trivial,fun b hb=>absurd (show b∈([]:List Addr) from hb) (by simp),hok,.of_eq hg⟩
   refine ER ((F _ hKb (nsK hns)).run callerA [] s₁ H ⟨[.ref a],[]⟩ [.ref a] [.ref a] _ _ hr e0 (hbind s₁ (.ref a)) (.cons rfl .nil) (hsp H hO hS)) fun r s' h=>?_
   cases r with
   | error e=>exact (hCX H e s' h).elim
   | ok fl =>
     cases fl with
     | next=>exact False.elim h
     | brk=>exact False.elim h
     | cont=>exact False.elim h
     | ret u =>
       obtain⟨v,H',os,bare,un,hok',r',q⟩:=h;have q':v=.bl true:=q;subst q';obtain rfl:u=CC true:=r';refine⟨rfl,OldK.of_keep fun b o e=>?_,os,bare⟩
       cases q:H b with
       | none=>exact un.keep b o e q (by intro z;exact absurd (show b∈([]:List Addr) from z) (by simp)) (by simp)
       | some u =>
         rcases hO b with z | ⟨ob,xs,z⟩
         . rw[q] at z;cases z
         . have z2:=un.frzs b ob _ z;obtain⟨e1,_⟩:=hok b _ z;obtain⟨e2,_⟩:=hok' b _ z2;rw[e] at e1;cases e1;exact e2
 cases hk:K.lookup a with
 | some o =>
   -- the script is one of the module's own objects
   have e:=KX a o hk;rw[ha] at e;cases e;refine core (fun _=>none) (fun _=>.inl rfl) (.inr ⟨_,vs.toArray,_,hk,rfl,rfl,rfl,by rw[Au,lenV];exact hl,by simpa using rv⟩) (fun b u z=>by have z':(none:Option HO)=some u:=z;cases z') (fun b z=>absurd rfl z) fun z=>absurd rfl z
 | none =>
   refine core (fun b=>if b=a then some (.frz { cls:=.type "list",data:=.seq vs.toArray } (.lst (ns.map V.int))) else none) (fun b=>?_) (.inl (.inr ⟨{ cls:=.type "list",data:=.seq vs.toArray },if_pos rfl⟩)) (fun b u z=>?_) (fun b z=>?_) fun _=>hk
   . by_cases hb:b=a
     . exact .inr ⟨_,_,if_pos hb⟩
     . exact .inl (if_neg hb)
   . by_cases hb:b=a
     . have z':=(if_pos hb).symm.trans z;cases z';subst hb;exact⟨ha,by rw[Ak];exact hl,vs,_,rv,ha⟩
     . have z':=(if_neg hb).symm.trans z;cases z'
   . by_cases hb:b=a
     . exact hb
     . exact absurd (if_neg hb) z
theorem walk_of{l:D2}{n k:Nat}{q:Program}{loose:List Str}{XP:(Str->Option Value)->Heap->Prop}{YP:World->Heap->Prop}{d:DefRec}{K:Params->Ac}{CX:World->CXT}{sp:World->Sp}{x:Str}
   (hn:l.most=some n) (hn2:n<=sizeLine) (hdf:d.params.defaults=[]) (hr:Room k callerA)
   (hY:∀ (w:World) (h:Heap),YP w h->(K w.params).In h)
   (F:∀ (w:World) (mg:Str->Option Value) (fa:Addr) (h:Heap),(K w.params).In h->h.Ns mainGlobals mg->mg d.name=some (.ref fa) ->
     ∃ fd:FuncData,(∀ (s:Shared) (u:Value),BindsTo s fd ⟨[u],[]⟩ [(x,u)]) /\
       ∀ base:Heap,(K w.params).In base->base.Ns mainGlobals mg->FnOk l.prog w (K w.params) mg base (CX w) k fa fd [x] (sp w))
   (hsp:∀ (w:World) (H:Hp) (a:Addr) (ns:List Int),ns.length<=n->Only H->SqL (K w.params) H a (ns.map V.int)->sp w [.ref a] H (fun v _=>v=.bl true) fun _ _ _=>False)
   (hCX:∀ (w:World) (H:Hp) (s:Shared) (e:Value) (s':Shared),CX w [] H s (fun _ _ _=>False) e s'->False) :
   FW q loose XP YP l.row.toRowW d [] (fun f vs=>Fz f vs):=by
 refine Att.attach_call hn hdf fun w s₀ s₁ mg mb fa o pm cd doc a vs ns G Y ho hd hcd hmg hobj hints hlen hg=>?_;have KX:=hY w _ Y;obtain⟨fd,hb,hF⟩:=F w mg fa _ KX G.T.g hmg;exact zlX KX G.T.g G.T.b G.T.builtins G.T.nolimit hg hobj hints (AF hlen hn2) hr hF hb (fun H hO hS=>hsp w H a ns hlen hO hS) fun H e s'=>hCX w H s₁ e s'
noncomputable def zdt(s:Stmt):Arguments:=match s with
 | .FunctionDef _ a _ _ _ _ _ _ _ _=>a
 | _=>{ posonlyargs:=[],args:=[],vararg:=none,kwonlyargs:=[],kw_defaults:=[],kwarg:=none,defaults:=[] }
noncomputable def zcd(s:Stmt):List Stmt:=match s with
 | .FunctionDef _ _ b _ _ _ _ _ _ _=>b
 | _=>[]
noncomputable def zal(s:Stmt):Scope:=match s with
 | .FunctionDef _ _ _ _ _ _ sc _ _ _=>sc
 | _=>{ kind:=.function,names:=[],isGenerator:=false,isCoroutine:=false }
noncomputable abbrev CX0:CXT:=fun _ _ _ _ _ _=>False
noncomputable abbrev E0:XK:=fun _ _ _=>False
theorem zrG{X:Cx}:Passes CX0 X E0:=fun _ _ _ _ _ _ _ h=>h.elim
structure Fun(K:Ac)(x qual:Str)(st:Stmt)(f:Addr)(fd:FuncData):Prop where
 ex:∃ (oc:Value) (od:Option Addr) (kV doc pm:Value) (an:Option Addr) (cdv ct:Value) (osl:Array (Option Value)),
   fd=BK x qual (zdt st) (zcd st) (zal st) .none kV doc pm an cdv ct/\K.lookup f=some ⟨oc,od,.func fd,osl⟩/\CF K cdv qual=true
 kp:BU K (.ref f)=true
section
variable {P:Program} {w:World} {K:Ac} {mg:Str->Option Value} {base:Heap}
theorem Fun.ok{x qual:Str}{st:Stmt}{f:Addr}{fd:FuncData}{N ps:List Str}{k:Nat}{sp:Sp}(F:Fun K x qual st f fd)(S:FnScope N ps (zal st))(len:∀ vs H Q E,sp vs H Q E->vs.length=ps.length)
   (hbody:∀ (cdv:Value) (A:Around) (outer:List Env) (s:Shared) (H:Hp) (vs:List V) (Q:VK) (E:XK),Room k (A.deeper (envOfC qual (zal st) s.heap.objs.size f cdv))->sp vs H Q E ->
     ∃ t,PSs (cxOf CX0 P w K mg base N qual (zal st) f cdv A outer s H E).nox (zcd st) t/\t { nx:=fun _ H'=>Q .non H',rt:=Q } (start N vs) H):FnOk P w K mg base CX0 (k+1) f fd ps sp:=by
 obtain⟨oc,od,kV,doc,pm,an,cdv,ct,osl,rfl,lk,hcd⟩:=F.ex;refine zr0 lk hcd S len fun A outer s H vs Q E hr hsp=>?_;obtain⟨t,h,q⟩:=hbody cdv A outer s H vs Q E hr hsp;exact⟨t,h.nox,q⟩
theorem Fun.binds{x qual:Str}{st:Stmt}{f:Addr}{fd:FuncData}{ps:List Str}(F:Fun K x qual st f fd)
   (h:∀ (kV doc pm:Value) (an:Option Addr) (cdv ct:Value) (us:List Value),us.length=ps.length->bindArgs (BK x qual (zdt st) (zcd st) (zal st) .none kV doc pm an cdv ct) ⟨us,[]⟩=pure (ps.zip us)):Binds K fd ps []:=by
 obtain⟨oc,od,kV,doc,pm,an,cdv,ct,osl,rfl,lk,hcd⟩:=F.ex;exact .all (h kV doc pm an cdv ct)
theorem zmc{x qual:Str}{st:Stmt}{f:Addr}{oc:Value}{od an:Option Addr}{osl:Array (Option Value)}{kV doc pm cdv ct:Value}(l:K.lookup f=some ⟨oc,od,.func (BK x qual (zdt st) (zcd st) (zal st) .none kV doc pm an cdv ct),osl⟩)
   (c:CF K cdv qual=true) (k:BU K (.ref f)=true):Fun K x qual st f (BK x qual (zdt st) (zcd st) (zal st) .none kV doc pm an cdv ct):=⟨⟨oc,od,kV,doc,pm,an,cdv,ct,osl,rfl,l,c⟩,k⟩
end
theorem zaQ{A:Around}{k:Nat}(hr:Room k A):A.units+1 < cLine:=BL (Df (by decide:1<=64) _) hr.units
end L2
namespace L2.MP
open PySem PySem.Spec PyProof.Rows
inductive D where
 | non | bl (b:Bool) | int (i:Int) | str (x:Str) | tup (xs:List D) | ref (n:Nat) | kl (xs:List D)
inductive O where
 | lst (xs:List D) | fz (xs:List D) | dk (kvs:List (Key×D)) | dt (kvs:List (List Key×D)) | fk (kvs:List (Key×D)) | ft (kvs:List (List Key×D)) | ob (C:Addr) (fs:List (Str×D)) | sz (n:Nat)
noncomputable abbrev Sto:=List O
noncomputable abbrev Rho:=List (Option D)
structure Kp(H H':Hp):Prop where
 tup:∀ a xs,H a=some (.tup xs)->H' a=some (.tup xs)
 frz:∀ a o u,H a=some (.frz o u)->H' a=some (.frz o u)
def SqF(K:Ac)(H:Hp)(a:Addr)(xs:List V):Prop :=
 (∃ o,H a=some (.frz o (.lst xs)))\/∃ (o:Obj) (its:Array Value) (n:Nat),K.lookup a=some o/\o.cls=.type "list"/\o.dict=none/\o.data=.seq its n/\its.size<=sizeLine/\Vals xs its.toList
theorem SqF.sq{K:Ac}{H:Hp}{a:Addr}{xs:List V}(h:SqF K H a xs):SqL K H a xs:=by
 rcases h with h | h
 . exact .inl (.inr h)
 . exact .inr h
theorem SqF.kp{K:Ac}{H H':Hp}{a:Addr}{xs:List V}(T:Kp H H')(h:SqF K H a xs):SqF K H' a xs:=by
 rcases h with ⟨o,h⟩ | h
 . exact .inl ⟨o,T.frz _ _ _ h⟩
 . exact .inr h
mutual
noncomputable def Rep(K:Ac)(H:Hp)(io:List Addr):V->D->Prop
 | v,.non=>v=.non
 | v,.bl b=>v=.bl b
 | v,.int i=>v=.int i
 | v,.str x=>v=.str x
 | v,.tup ds=>∃ a xs,v=.ref a/\H a=some (.tup xs)/\Reps K H io xs ds
 | v,.ref n=>∃ a,v=.ref a/\io[n]?=some a
 | v,.kl ds=>∃ a xs,v=.ref a/\SqF K H a xs/\Reps K H io xs ds
noncomputable def Reps(K:Ac)(H:Hp)(io:List Addr):List V->List D->Prop
 | xs,[]=>xs=[]
 | xs,d::ds=>∃ y ys,xs=y::ys/\Rep K H io y d/\Reps K H io ys ds
end
mutual
theorem Rep.mono{K:Ac}{H H':Hp}{io ka:List Addr}(T:Kp H H'):∀ {v:V} {d:D},Rep K H io v d->Rep K H' (io++ka) v d
 | _,.non,h=>h
 | _,.bl _,h=>h
 | _,.int _,h=>h
 | _,.str _,h=>h
 | _,.tup ds,h=>by
   obtain⟨a,xs,e,q,r⟩:=h;exact⟨a,xs,e,T.tup a xs q,Reps.mono T r⟩
 | _,.ref n,h=>by
   obtain⟨a,e,q⟩:=h;exact⟨a,e,by rw[Ar (List.getElem?_eq_some_iff.mp q).1];exact q⟩
 | _,.kl ds,h=>by
   obtain⟨a,xs,e,q,r⟩:=h;exact⟨a,xs,e,q.kp T,Reps.mono T r⟩
theorem Reps.mono{K:Ac}{H H':Hp}{io ka:List Addr}(T:Kp H H'):∀ {xs:List V} {ds:List D},Reps K H io xs ds->Reps K H' (io++ka) xs ds
 | _,[],h=>h
 | _,d::ds,h=>by
   obtain⟨y,ys,e,r,rs⟩:=h;exact⟨y,ys,e,Rep.mono T r,Reps.mono T rs⟩
end
section
variable {K:Ac} {H H' H1 H2:Hp} {io ka kb:List Addr} {st st':Sto} {xs ys:List V} {ds es:List D}
theorem Reps.length:∀ {xs:List V} {ds:List D},Reps K H io xs ds->xs.length=ds.length
 | _,[],h=>by rw[show _=[] from h];rfl
 | _,d::ds,h=>by
   obtain⟨y,ys,e,_,rs⟩:=h;rw[e,AE,AE,Reps.length rs]
theorem Reps.get:∀ {xs:List V} {ds:List D} {i:Nat} {d:D},Reps K H io xs ds->ds[i]?=some d->∃ v,xs[i]?=some v/\Rep K H io v d
 | _,[],_,_,_,e=>by simp at e
 | _,a::ds,0,d,h,e=>by
   obtain⟨y,ys,rfl,r,_⟩:=h;have e':a=d:=by simpa using e
   subst e';exact⟨y,rfl,r⟩
 | _,a::ds,i+1,d,h,e=>by
   obtain⟨y,ys,rfl,_,rs⟩:=h;exact Reps.get (i:=i) rs (by simpa using e)
theorem Reps.append:∀ {xs ys:List V} {ds es:List D},Reps K H io xs ds->Reps K H io ys es->Reps K H io (xs++ys) (ds++es)
 | _,_,[],_,h,q=>by rw[show _=[] from h];exact q
 | _,_,d::ds,_,h,q=>by
   obtain⟨y,ys,rfl,r,rs⟩:=h;exact⟨y,_,rfl,r,Reps.append rs q⟩
theorem Reps.set:∀ {xs:List V} {ds:List D} {v:V} {d:D} (i:Nat),Reps K H io xs ds->Rep K H io v d->Reps K H io (xs.set i v) (ds.set i d)
 | _,[],_,_,_,h,_=>by rw[show _=[] from h];exact rfl
 | _,a::ds,v,d,0,h,q=>by
   obtain⟨y,ys,rfl,_,rs⟩:=h;exact⟨v,ys,rfl,q,rs⟩
 | _,a::ds,v,d,i+1,h,q=>by
   obtain⟨y,ys,rfl,r,rs⟩:=h;exact⟨y,_,rfl,r,Reps.set i rs q⟩
theorem Reps.take:∀ {xs:List V} {ds:List D} (n:Nat),Reps K H io xs ds->Reps K H io (xs.take n) (ds.take n)
 | _,[],n,h=>by rw[show _=[] from h];simp[Reps]
 | _,_::_,0,_=>by simp[Reps]
 | _,d::ds,n+1,h=>by
   obtain⟨y,ys,rfl,r,rs⟩:=h;exact⟨y,_,rfl,r,Reps.take n rs⟩
theorem Reps.drop:∀ {xs:List V} {ds:List D} (n:Nat),Reps K H io xs ds->Reps K H io (xs.drop n) (ds.drop n)
 | _,[],n,h=>by rw[show _=[] from h];simp[Reps]
 | _,_::_,0,h=>h
 | _,d::ds,n+1,h=>by
   obtain⟨y,ys,rfl,r,rs⟩:=h;exact Reps.drop n rs
theorem Reps.nil:Reps K H io [] []:=rfl
theorem Reps.cons{v:V}{d:D}(r:Rep K H io v d)(rs:Reps K H io xs ds):Reps K H io (v::xs) (d::ds):=⟨v,xs,rfl,r,rs⟩
theorem Reps.one{d:D}(r:Reps K H io xs [d]):∃ v,xs=[v]/\Rep K H io v d:=by
 obtain⟨y,ys,rfl,r,e⟩:=r
 cases (show ys=[] from e)
 exact⟨y,rfl,r⟩
theorem Reps.two{d e:D}(r:Reps K H io xs [d,e]):∃ v u,xs=[v,u]/\Rep K H io v d/\Rep K H io u e:=by
 obtain⟨y,ys,rfl,r,q⟩:=r;obtain⟨v,rfl,q'⟩:=q.one;exact⟨y,v,rfl,r,q'⟩
noncomputable abbrev KR (κ:Type) (K:Ac) (H:Hp) (io:List Addr):List (κ×V)->List (κ×D)->Prop:=Paired fun (p:κ×V) (q:κ×D)=>p.1=q.1/\Rep K H io p.2 q.2
def SetZ(a:Addr)(n:Nat)(h:Heap):Prop:=∃ o es ep t,h.get? a=some o/\o.ExactSet/\o.data=.set es ep t/\es.size < scanBound/\t.fits es.size=true/\es.size=n
noncomputable def OR(K:Ac)(H:Hp)(io:List Addr)(a:Addr):O->Prop
 | .lst ds=>∃ xs,H a=some (.lst xs)/\Reps K H io xs ds
 | .fz ds=>∃ o xs,H a=some (.frz o (.lst xs))/\Reps K H io xs ds
 | .dk kvs=>∃ ps,H a=some (.dK ps)/\KR Key K H io ps kvs
 | .dt kvs=>∃ ps,H a=some (.dT ps)/\KR (List Key) K H io ps kvs
 | .fk kvs=>∃ o ps,H a=some (.frz o (.dK ps))/\KR Key K H io ps kvs
 | .ft kvs=>∃ o ps,H a=some (.frz o (.dT ps))/\KR (List Key) K H io ps kvs
 | .ob C fs=>∃ dx ps,H a=some (.ins C dx ps)/\KR Str K H io ps fs
 | .sz n=>H a=some (.ext (SetZ a n))
structure StR(K:Ac)(H:Hp)(io:List Addr)(st:Sto):Prop where
 len:io.length=st.length
 nd:io.Nodup
 ob:∀ (n:Nat) (a:Addr) (o:O),io[n]?=some a->st[n]?=some o->OR K H io a o
structure EnvR(K:Ac)(H:Hp)(io:List Addr)(σ:St)(ρ:Rho):Prop where
 len:σ.length=ρ.length
 at_:∀ (i:Nat) (d:D),ρ[i]?=some (some d)->∃ v,σ[i]?=some (some v)/\Rep K H io v d
structure Ext(io ka:List Addr)(H H':Hp):Prop where
 keep:∀ b o,H b=some o->b ∉ io->H' b=some o
 fresh:∀ b,b∈ka->H b=none
 frz:∀ b o u,H b=some (.frz o u)->H' b=some (.frz o u)
theorem OR.stands{a:Addr}{o:O}(h:OR K H io a o):∃ u,H a=some u/\∀ xs,u≠.tup xs/\∀ ob,u≠.frz ob (.tup xs):=by
 cases o with
 | lst ds=>obtain⟨xs,e,_⟩:=h;exact⟨_,e,fun _=>⟨by simp,by simp⟩⟩
 | fz ds=>obtain⟨ob,xs,e,_⟩:=h;exact⟨_,e,fun _=>⟨by simp,by simp⟩⟩
 | dk kvs=>obtain⟨xs,e,_⟩:=h;exact⟨_,e,fun _=>⟨by simp,by simp⟩⟩
 | dt kvs=>obtain⟨xs,e,_⟩:=h;exact⟨_,e,fun _=>⟨by simp,by simp⟩⟩
 | fk kvs=>obtain⟨ob,xs,e,_⟩:=h;exact⟨_,e,fun _=>⟨by simp,by simp⟩⟩
 | ft kvs=>obtain⟨ob,xs,e,_⟩:=h;exact⟨_,e,fun _=>⟨by simp,by simp⟩⟩
 | ob C fs=>obtain⟨dx,xs,e,_⟩:=h;exact⟨_,e,fun _=>⟨by simp,by simp⟩⟩
 | sz n=>exact⟨_,h,fun _=>⟨by simp,by simp⟩⟩
theorem StR.mem(S:StR K H io st){a:Addr}(h:a∈io):∃ u,H a=some u/\∀ xs,u≠.tup xs/\∀ ob,u≠.frz ob (.tup xs):=by
 obtain⟨n,hn,e⟩:=Dg h;have h1:io[n]?=some a:=by rw[Ah hn,e]
 have h2:n < st.length:=by rw[<-S.len];exact hn
 exact (S.ob n a _ h1 (Ah h2)).stands
theorem Ext.sqT(S:StR K H io st)(E:Ext io ka H H'):∀ a xs,H a=some (.tup xs)->H' a=some (.tup xs):=by
 intro a xs h;refine E.keep _ _ h fun m=>?_;obtain⟨u,e,q⟩:=S.mem m;rw[h] at e;exact (q xs).1 (Ax e).symm
theorem Ext.kp(S:StR K H io st)(E:Ext io ka H H'):Kp H H':=⟨E.sqT S,E.frz⟩
theorem Ext.refl:Ext io [] H H:=⟨fun _ _ h _=>h,fun _ h=>absurd h (by simp),fun _ _ _ h=>h⟩
theorem Ext.trans(S1:StR K H1 (io++ka) st)(E1:Ext io ka H H1)(E2:Ext (io++ka) kb H1 H2):Ext io (ka++kb) H H2 where
 keep:=fun b o h n=>E2.keep b o (E1.keep b o h n) fun m=>by
   rcases List.mem_append.mp m with m | m
   . exact n m
   . rw[E1.fresh b m] at h;cases h
 fresh:=fun b m=>by
   rcases List.mem_append.mp m with m | m
   . exact E1.fresh b m
   . have h1:=E2.fresh b m
     cases e:H b with
     | none=>rfl
     | some o =>
       by_cases hb:b∈io
       . obtain⟨u,e',_⟩:=S1.mem (AL _ hb);rw[e'] at h1;cases h1
       . rw[E1.keep b o e hb] at h1;cases h1
 frz:=fun b o u h=>E2.frz b o u (E1.frz b o u h)
theorem Ext.app(E:Ext io (ka++[]) H H'):Ext io ka H H':=by rw[Ai] at E;exact E
theorem Rep.ext{v:V}{d:D}(S:StR K H io st)(E:Ext io ka H H')(h:Rep K H io v d):Rep K H' (io++ka) v d:=Rep.mono (E.kp S) h
theorem Reps.ext(S:StR K H io st)(E:Ext io ka H H')(h:Reps K H io xs ds):Reps K H' (io++ka) xs ds:=Reps.mono (E.kp S) h
theorem EnvR.ext{σ:St}{ρ:Rho}(h:EnvR K H io σ ρ)(S:StR K H io st)(E:Ext io ka H H'):EnvR K H' (io++ka) σ ρ :=
 ⟨h.len,fun i d e=>let ⟨v,q,r⟩:=h.at_ i d e;⟨v,q,r.ext S E⟩⟩
theorem EnvR.set{σ:St}{ρ:Rho}{v:V}{d:D}(i:Nat)(h:EnvR K H io σ ρ)(r:Rep K H io v d):EnvR K H io (σ.set i (some v)) (ρ.set i (some d)):=by
 refine⟨by rw[C1,C1];exact h.len,fun j e q=>?_⟩
 by_cases hij:i=j
 . subst hij;rw[DE] at q;rw[if_pos rfl] at q
   split at q
   . rename_i hl
     cases (Ax (Ax q))
     exact⟨v,by rw[DE,if_pos rfl,if_pos (by rw[h.len];exact hl)],r⟩
   . cases q
 . rw[AH hij] at q;obtain⟨u,q',r'⟩:=h.at_ j e q;exact⟨u,by rw[AH hij];exact q',r'⟩
theorem StR.nil(S:StR K H io st):StR K H (io++[]) st:=by rw[Ai];exact S
theorem KR.mono{κ:Type}{ps:List (κ×V)}{kvs:List (κ×D)}(T:Kp H H')(h:KR κ K H io ps kvs):KR κ K H' (io++ka) ps kvs:=Paired.mapP h fun _ _ z=>⟨z.1,Rep.mono T z.2⟩
theorem OR.mono{a:Addr}{o:O}(T:Kp H H')(e:H' a=H a)(h:OR K H io a o):OR K H' (io++ka) a o:=by
 cases o with
 | lst ds=>obtain⟨xs,q,r⟩:=h;exact⟨xs,e.trans q,Reps.mono T r⟩
 | fz ds=>obtain⟨ob,xs,q,r⟩:=h;exact⟨ob,xs,e.trans q,Reps.mono T r⟩
 | dk kvs=>obtain⟨xs,q,r⟩:=h;exact⟨xs,e.trans q,KR.mono T r⟩
 | dt kvs=>obtain⟨xs,q,r⟩:=h;exact⟨xs,e.trans q,KR.mono T r⟩
 | fk kvs=>obtain⟨ob,xs,q,r⟩:=h;exact⟨ob,xs,e.trans q,KR.mono T r⟩
 | ft kvs=>obtain⟨ob,xs,q,r⟩:=h;exact⟨ob,xs,e.trans q,KR.mono T r⟩
 | ob C fs=>obtain⟨dx,xs,q,r⟩:=h;exact⟨dx,xs,e.trans q,KR.mono T r⟩
 | sz n=>exact e.trans h
theorem zdU{p:Addr}{o:HO}(S:StR K H io st)(hp:H p=none):Ext io [] H (upd H p o)/\StR K (upd H p o) (io++[]) st:=by
 have E:Ext io [] H (upd H p o):=⟨fun b u h _=>by rw[zaA (zaq h hp)];exact h,fun _ h=>absurd h (by simp),fun b u v h=>by rw[zaA (zaq h hp)];exact h⟩
 refine⟨E,?_⟩;refine⟨by rw[Ai];exact S.len,by rw[Ai];exact S.nd,fun n a ob h1 h2=>?_⟩;rw[Ai] at h1;obtain⟨u,hu,_⟩:=(S.ob n a ob h1 h2).stands;exact OR.mono (E.kp S) (zaA (zaq hu hp)) (S.ob n a ob h1 h2)
theorem zgY{p:Addr}{o:HO}{ob:O}(S:StR K H io st)(hp:H p=none)(new:∀ H',Kp H H'->H' p=some o->OR K H' (io++[p]) p ob):Ext io [p] H (upd H p o)/\StR K (upd H p o) (io++[p]) (st++[ob]):=by
 have E:Ext io [p] H (upd H p o):=⟨fun b u h _=>by rw[zaA (zaq h hp)];exact h,fun b h=>by rw[List.mem_singleton.mp h];exact hp,fun b u v h=>by rw[zaA (zaq h hp)];exact h⟩
 have np:p ∉ io:=fun m=>by
   obtain⟨u,hu,_⟩:=S.mem m;rw[hp] at hu;cases hu
 refine⟨E,by simp[S.len],?_,fun n a ob' h1 h2=>?_⟩
 . rw[CH];refine⟨S.nd,by simp,fun a ha b hb=>?_⟩;rw[List.mem_singleton.mp hb];rintro rfl;exact np ha
 . by_cases hn:n < io.length
   . rw[Ar hn] at h1;rw[Ar (by rw[<-S.len];exact hn)] at h2;obtain⟨u,hu,_⟩:=(S.ob n a ob' h1 h2).stands;exact OR.mono (E.kp S) (zaA (zaq hu hp)) (S.ob n a ob' h1 h2)
   . have hl:n < (io++[p]).length:=(List.getElem?_eq_some_iff.mp h1).1;rw[AJ,By] at hl;have e:n=io.length:=by omega
     subst e;rw[AK (Af _),BM] at h1;rw[S.len,AK (Af _),BM] at h2
     cases (Ax h1)
     cases (Ax h2)
     exact new _ (E.kp S) zba
theorem zdH{p:Addr}{n:Nat}{o:HO}{ob old:O}(S:StR K H io st)(hn:io[n]?=some p)(ho:st[n]?=some old)(nf:∀ o u,H p≠some (.frz o u))(new:∀ H',Kp H H'->H' p=some o->OR K H' (io++[]) p ob):Ext io [] H (upd H p o)/\StR K (upd H p o) (io++[]) (st.set n ob):=by
 have hp:p∈io:=Bo hn;have E:Ext io [] H (upd H p o):=⟨fun b u h nb=>by rw[zaA (fun e=>nb (by rw[e];exact hp))];exact h,fun b h=>absurd h (by simp),fun b u v h=>by
   by_cases hb:b=p
   . subst hb;exact absurd h (nf u v)
   . rw[zaA hb];exact h⟩
 refine⟨E,by simp[S.len],by rw[Ai];exact S.nd,fun m a ob' h1 h2=>?_⟩;rw[Ai] at h1
 by_cases hm:m=n
 . subst hm;rw[hn] at h1
   cases (Ax h1)
   rw[DE,if_pos rfl] at h2
   split at h2
   . cases (Ax h2)
     exact new _ (E.kp S) zba
   . cases h2
 . rw[AH (fun e=>hm e.symm)] at h2;have hap:a≠p:=fun e=>by
     subst e;exact hm ((List.getElem?_inj (List.getElem?_eq_some_iff.mp h1).1 S.nd).mp (h1.trans hn.symm))
   exact OR.mono (E.kp S) (zaA hap) (S.ob m a ob' h1 h2)
end
noncomputable abbrev ME:=Rho->Sto->Option (D×Sto)
noncomputable abbrev MT:=Rho->Sto->Option (Bool×Sto)
noncomputable abbrev MA:=Rho->Sto->Option (List D×Sto)
inductive Fl where
 | nx (ρ:Rho) | rt (d:D) | bk (ρ:Rho) | ct (ρ:Rho)
noncomputable abbrev MS:=Rho->Sto->Option (Fl×Sto)
noncomputable abbrev MG:=D->Rho->Sto->Option (Rho×Sto)
noncomputable abbrev MGs:=List D->Rho->Sto->Option (Rho×Sto)
def Bh(K:Ac)(io:List Addr)(H:Hp)(st':Sto)(d:D)(Q:VK):Prop:=∀ v H' ka,Ext io ka H H'->StR K H' (io++ka) st'->Rep K H' (io++ka) v d->Q v H'
inductive tE (K:Ac) (m:ME) (σ:L2.St) (H:Hp) (Q:VK):Prop
 | mk (ρ:Rho) (st:Sto) (io:List Addr) (d:D) (st':Sto) (h1:EnvR K H io σ ρ) (h2:StR K H io st) (h3:m ρ st=some (d,st')) (h4:Bh K io H st' d Q)
inductive tT (K:Ac) (m:MT) (σ:L2.St) (H:Hp) (Q:Bool->Hp->Prop):Prop
 | mk (ρ:Rho) (st:Sto) (io:List Addr) (b:Bool) (st':Sto) (h1:EnvR K H io σ ρ) (h2:StR K H io st) (h3:m ρ st=some (b,st')) (h4:∀ H' ka,Ext io ka H H'->StR K H' (io++ka) st'->Q b H')
inductive tA (K:Ac) (m:MA) (σ:L2.St) (H:Hp) (Q:List V->Hp->Prop):Prop
 | mk (ρ:Rho) (st:Sto) (io:List Addr) (ds:List D) (st':Sto) (h1:EnvR K H io σ ρ) (h2:StR K H io st) (h3:m ρ st=some (ds,st')) (h4:∀ vs H' ka,Ext io ka H H'->StR K H' (io++ka) st'->Reps K H' (io++ka) vs ds->Q vs H')
noncomputable def tS(K:Ac)(m:MS):TS:=fun N σ H=>∃ ρ st io f st',EnvR K H io σ ρ/\StR K H io st/\m ρ st=some (f,st') /\
 match f with
 | .nx ρ'=>∀ σ' H' ka,Ext io ka H H'->StR K H' (io++ka) st'->EnvR K H' (io++ka) σ' ρ'->N.nx σ' H'
 | .bk ρ'=>∀ σ' H' ka,Ext io ka H H'->StR K H' (io++ka) st'->EnvR K H' (io++ka) σ' ρ'->N.bk σ' H'
 | .ct ρ'=>∀ σ' H' ka,Ext io ka H H'->StR K H' (io++ka) st'->EnvR K H' (io++ka) σ' ρ'->N.ct σ' H'
 | .rt d=>Bh K io H st' d N.rt
inductive tG (K:Ac) (m:MG) (v:V) (σ:L2.St) (H:Hp) (Q:L2.St->Hp->Prop):Prop
 | mk (d:D) (ρ:Rho) (st:Sto) (io:List Addr) (ρ':Rho) (st':Sto) (h0:Rep K H io v d) (h1:EnvR K H io σ ρ) (h2:StR K H io st) (h3:m d ρ st=some (ρ',st')) (h4:∀ σ' H' ka,Ext io ka H H'->StR K H' (io++ka) st'->EnvR K H' (io++ka) σ' ρ'->Q σ' H')
inductive tGs (K:Ac) (m:MGs) (vs:List V) (σ:L2.St) (H:Hp) (Q:L2.St->Hp->Prop):Prop
 | mk (ds:List D) (ρ:Rho) (st:Sto) (io:List Addr) (ρ':Rho) (st':Sto) (h0:Reps K H io vs ds) (h1:EnvR K H io σ ρ) (h2:StR K H io st) (h3:m ds ρ st=some (ρ',st')) (h4:∀ σ' H' ka,Ext io ka H H'->StR K H' (io++ka) st'->EnvR K H' (io++ka) σ' ρ'->Q σ' H')
def SE(X:Cx)(e:Expr)(m:ME):Prop:=PE X e (tE X.K m)
def SB(X:Cx)(e:Expr)(m:MT):Prop:=PT X e (tT X.K m)
def SA(X:Cx)(es:List Expr)(m:MA):Prop:=PA X es (tA X.K m)
def SS(X:Cx)(s:Stmt)(m:MS):Prop:=PS X s (tS X.K m)
def SSs(X:Cx)(s:List Stmt)(m:MS):Prop:=PSs X s (tS X.K m)
def SG(X:Cx)(e:Expr)(m:MG):Prop:=PG X e (tG X.K m)
def SGs(X:Cx)(e:List Expr)(m:MGs):Prop:=PGs X e (tGs X.K m)
section
variable {X:Cx} {e a b c:Expr} {es:List Expr} {st1 st2:Stmt} {rest body orelse:List Stmt} {pos:Pos} {m ma mb mc:ME} {mt mu:MT} {mm:MA} {ms mq mr:MS} {mg:MG} {mgs:MGs}
theorem PE.imp{t u:TE}(h:PE X e t)(k:∀ σ H Q,u σ H Q->t σ H Q):PE X e u:=fun pins s σ H Q I q=>h pins s σ H Q I (k σ H Q q)
theorem PT.imp{t u:TT}(h:PT X e t)(k:∀ σ H Q,u σ H Q->t σ H Q):PT X e u:=fun pins s σ H Q I q=>h pins s σ H Q I (k σ H Q q)
theorem PA.imp{t u:TA}(h:PA X es t)(k:∀ σ H Q,u σ H Q->t σ H Q):PA X es u:=fun p pins s σ H Q I q=>h p pins s σ H Q I (k σ H Q q)
theorem PS.imp{t u:TS}(h:PS X st1 t)(k:∀ N σ H,u N σ H->t N σ H):PS X st1 u:=fun pins s σ H N I q=>h pins s σ H N I (k N σ H q)
theorem PSs.imp{t u:TS}(h:PSs X rest t)(k:∀ N σ H,u N σ H->t N σ H):PSs X rest u:=fun pins s σ H N I q=>h pins s σ H N I (k N σ H q)
theorem PG.imp{t u:TG}(h:PG X e t)(k:∀ v σ H Q,u v σ H Q->t v σ H Q):PG X e u:=fun pins s σ H v w Q I r q=>h pins s σ H v w Q I r (k v σ H Q q)
theorem PGs.imp{t u:TGs}(h:PGs X es t)(k:∀ v σ H Q,u v σ H Q->t v σ H Q):PGs X es u:=fun pins s σ H v w Q I r q=>h pins s σ H v w Q I r (k v σ H Q q)
theorem zac{α β:Type}{x:Option α}{f:α->Option β}{y:β}(h:x.bind f=some y):∃ z,x=some z/\f z=some y:=by
 cases x with
 | none=>cases h
 | some z=>exact⟨z,rfl,h⟩
variable {K:Ac} {H H1 H2:Hp} {io ka kb:List Addr} {st st':Sto}
theorem Bh.now{d:D}{Q:VK}{v:V}(h:Bh K io H st d Q)(S:StR K H io st)(r:Rep K H io v d):Q v H:=h v H [] Ext.refl S.nil (by rw[Ai];exact r)
theorem Bh.on{d:D}{Q:VK}(h:Bh K io H st' d Q)(S1:StR K H1 (io++ka) st)(E:Ext io ka H H1):Bh K (io++ka) H1 st' d Q:=fun v H' kb E' S' r =>
 h v H' (ka++kb) (E.trans S1 E') (by rw[<-An];exact S') (by rw[<-An];exact r)
noncomputable def mVar(i:Nat):ME:=fun ρ st=>match ρ[i]? with
 | some (some d)=>some (d,st)
 | _=>none
theorem zab(i:Nat){x:Str}{pos:Pos}(hN:X.N[i]?=some x:=by rfl)(hv:Vis X.env.scope x:=by first | exact AA rfl | exact Az (AA rfl) | exact Az (Az rfl))(hd:(x==("__debug__":Str))=false:=by decide)
   (hcd:(x==("__classdict__":Str))=false:=by decide):SE X (.Name x pos) (mVar i):=PE.imp (zpx hN hv hd hcd) <| by
 rintro σ H Q ⟨ρ,st,io,d,st',E,S,e,k⟩;unfold mVar at e
 split at e
 . rename_i d' he;cases e;obtain⟨v,hv,r⟩:=E.at_ i _ he;exact⟨v,hv,k.now S r⟩
 . cases e
noncomputable def mCon(d:D):ME:=fun _ st=>some (d,st)
theorem zad{i j pos}:SE X (.Constant (.int i) j pos) (mCon (.int i)):=PE.imp zpD <| by
 rintro σ H Q ⟨ρ,st,io,d,st',E,S,e,k⟩
 cases e;exact k.now S rfl
theorem zi9{b j pos}:SE X (.Constant (.bool b) j pos) (mCon (.bl b)):=PE.imp zrF <| by
 rintro σ H Q ⟨ρ,st,io,d,st',E,S,e,k⟩
 cases e;exact k.now S rfl
theorem za6{x j pos}:SE X (.Constant (.str x) j pos) (mCon (.str x)):=PE.imp zpz <| by
 rintro σ H Q ⟨ρ,st,io,d,st',E,S,e,k⟩
 cases e;exact k.now S rfl
theorem zla{j pos}:SE X (.Constant .none j pos) (mCon .non):=PE.imp zpB <| by
 rintro σ H Q ⟨ρ,st,io,d,st',E,S,e,k⟩
 cases e;exact k.now S rfl
theorem zeD{x:Str}{z:Str}{t:Tok}{pos:Pos}(hg:Gl X x)(hm:X.mg x=some (.str z t))(hd:(x==("__debug__":Str))=false:=by decide):SE X (.Name x pos) (mCon (.str z)) :=
 PE.imp (znw hg hm (v:=.str z) ⟨t,rfl⟩ hd) <| by
   rintro σ H Q ⟨ρ,st,io,d,st',E,S,e,k⟩
   cases e;exact k.now S rfl
noncomputable abbrev G2:=D->D->Sto->Option (D×Sto)
inductive r2M (K:Ac) (g:G2) (x y:V) (H:Hp) (Q:VK):Prop
 | mk (dx dy:D) (st:Sto) (io:List Addr) (d:D) (st':Sto) (h0:Rep K H io x dx) (h1:Rep K H io y dy) (h2:StR K H io st) (h3:g dx dy st=some (d,st')) (h4:Bh K io H st' d Q)
def OpM(X:Cx)(f:Value->Value->Sem Value)(g:G2):Prop:=OpR X f (r2M X.K g)
noncomputable def mBin(g:G2)(ma mb:ME):ME:=fun ρ st=>(ma ρ st).bind fun (x,s1)=>(mb ρ s1).bind fun (y,s2)=>g x y s2
theorem zdb{g:G2}{σ:L2.St}{H:Hp}{Q:VK}(h:tE K (mBin g ma mb) σ H Q):tOp (r2M K g) (tE K ma) (tE K mb) σ H Q:=by
 obtain⟨ρ,st,io,d,st',E,S,e,k⟩:=h;obtain⟨⟨x,s1⟩,e1,e⟩:=zac e;obtain⟨⟨y,s2⟩,e2,e3⟩:=zac e;refine⟨ρ,st,io,x,s1,E,S,e1,fun v1 H1 k1 X1 S1 R1=>?_⟩;refine⟨ρ,s1,io++k1,y,s2,E.ext S X1,S1,e2,fun v2 H2 k2 X2 S2 R2=>?_⟩;exact⟨x,y,s2,(io++k1)++k2,d,st',R1.ext S1 X2,R2,S2,e3,(k.on S1 X1).on S2 X2⟩
theorem zau{op:Operator}{g:G2}(ho:OpM X (binaryOp op) g)(ha:SE X a ma)(hb:SE X b mb):SE X (.BinOp a op b pos) (mBin g ma mb):=PE.imp (zrD ho ha hb) fun _ _ _ h=>zdb h
theorem zgE{op:CmpOp}{g:G2}(ho:OpM X (compareOp op) g)(ha:SE X a ma)(hb:SE X b mb)(hm:behindInMarks op b=false):SE X (.Compare a [op] [b] pos) (mBin g ma mb):=PE.imp (znx ho ha hb hm) fun _ _ _ h=>zdb h
noncomputable def mTst(m:ME):MT:=fun ρ st=>(m ρ st).bind fun (x,s1)=>match x with
 | .bl b=>some (b,s1)
 | _=>none
theorem zhl{ρ:Rho}{b:Bool}(e:mTst m ρ st=some (b,st')):m ρ st=some (.bl b,st'):=by
 obtain⟨⟨x,s1⟩,e1,e⟩:=zac e;dsimp only at e
 split at e
 . cases e;exact e1
 . cases e
theorem zc6{σ:L2.St}{H:Hp}{Q:Bool->Hp->Prop}(h:tT K (mTst m) σ H Q):tE K m σ H fun x H'=>∃ b,x=.bl b/\Q b H':=by
 obtain⟨ρ,st,io,b,st',E,S,e,k⟩:=h;exact⟨ρ,st,io,_,st',E,S,zhl e,fun v H' ka X' S' R'=>⟨b,R',k H' ka X' S'⟩⟩
theorem zbu{op:CmpOp}{g:G2}(ho:OpM X (compareOp op) g)(ha:SE X a ma)(hb:SE X b mb)(hm:behindInMarks op b=false):SB X (.Compare a [op] [b] pos) (mTst (mBin g ma mb)) :=
 PT.imp (znk ho ha hb hm) fun σ H Q h=>zdb (zc6 h)
theorem zgN(h:SE X a m)(he:∀ whole,isTrue a X.env whole=(do let v <-whole;standAt a.pos;holding [v] (truthy v)):=by intro _;rfl):SB X a (mTst m) :=
 PT.imp (zlm h he) fun σ H Q h=>by
   obtain⟨ρ,st,io,b,st',E,S,e,k⟩:=zc6 h;refine⟨ρ,st,io,b,st',E,S,e,fun v H' ka X' S' R'=>?_⟩;obtain⟨c,hc,q⟩:=k v H' ka X' S' R';subst hc;exact⟨c,rfl,q⟩
noncomputable def zem(m:MT):MT:=fun ρ st=>(m ρ st).map fun (b,s)=>(!b,s)
theorem zcL(h:SB X a mt):SB X (.UnaryOp .Not a pos) (zem mt):=PT.imp (zpl h) <| by
 rintro σ H Q ⟨ρ,st,io,b,st',E,S,e,k⟩;unfold zem at e
 cases e1:mt ρ st with
 | none=>rw[e1] at e;cases e
 | some p=>rw[e1] at e;cases e;exact⟨ρ,st,io,_,_,E,S,e1,fun H' ka X' S'=>k H' ka X' S'⟩
noncomputable def zc9(m n:MT):MT:=fun ρ st=>(m ρ st).bind fun (b,s)=>if b=true then n ρ s else some (false,s)
noncomputable def mOrT(m n:MT):MT:=fun ρ st=>(m ρ st).bind fun (b,s)=>if b=true then some (true,s) else n ρ s
def SW(X:Cx)(e:Expr)(m:MT):Prop:=PW X e (tT X.K m)
theorem PW.imp{t u:TT}(h:PW X e t)(k:∀ σ H Q,u σ H Q->t σ H Q):PW X e u:=fun w pins s σ H Q I q=>h w pins s σ H Q I (k σ H Q q)
theorem SW.sb(h:SW X a mt):SB X a mt:=PW.pt h
theorem zey(ha:SB X a mt):SW X (.BoolOp .And [a] pos) mt:=pw_and1 ha
theorem zfq(ha:SB X a mt):SW X (.BoolOp .Or [a] pos) mt:=pw_or1 ha
theorem zhZ{n:MT}{σ:L2.St}{ρ:Rho}{Q:Bool->Hp->Prop}{b:Bool}{s1:Sto}(E:EnvR K H io σ ρ)(S:StR K H io st)(X1:Ext io ka H H1)(S1:StR K H1 (io++ka) s1)(e:n ρ s1=some (b,st'))(k:∀ H' ka,Ext io ka H H'->StR K H' (io++ka) st'->Q b H'):tT K n σ H1 Q :=
 ⟨ρ,s1,io++ka,b,st',E.ext S X1,S1,e,fun H' kb X' S'=>k H' (ka++kb) (X1.trans S1 X') (by rw[<-An];exact S')⟩
theorem zez{rs:List Expr}(ha:SB X a mt)(hb:SW X (.BoolOp .And (b::rs) pos) mu):SW X (.BoolOp .And (a::b::rs) pos) (zc9 mt mu):=PW.imp (pw_and ha hb) <| by
 rintro σ H Q ⟨ρ,st,io,v,st',E,S,e,k⟩;obtain⟨⟨x,s1⟩,e1,e⟩:=zac e;refine⟨ρ,st,io,x,s1,E,S,e1,fun H1 k1 X1 S1=>?_⟩
 cases x with
 | true=>rw[if_pos rfl];exact zhZ E S X1 S1 e k
 | false =>
   rw[if_neg (by decide)];have e':some (false,s1)=some (v,st'):=e;cases e';exact k H1 k1 X1 S1
theorem zhp{rs:List Expr}(ha:SB X a mt)(hb:SW X (.BoolOp .Or (b::rs) pos) mu):SW X (.BoolOp .Or (a::b::rs) pos) (mOrT mt mu):=PW.imp (pw_or ha hb) <| by
 rintro σ H Q ⟨ρ,st,io,v,st',E,S,e,k⟩;obtain⟨⟨x,s1⟩,e1,e⟩:=zac e;refine⟨ρ,st,io,x,s1,E,S,e1,fun H1 k1 X1 S1=>?_⟩
 cases x with
 | false=>rw[if_neg (by decide)];exact zhZ E S X1 S1 e k
 | true =>
   rw[if_pos rfl];have e':some (true,s1)=some (v,st'):=e;cases e';exact k H1 k1 X1 S1
noncomputable def zdE(m n:ME):ME:=fun ρ st=>(mTst m ρ st).bind fun (b,s)=>if b=true then n ρ s else some (.bl false,s)
noncomputable def mOrV(m n:ME):ME:=fun ρ st=>(mTst m ρ st).bind fun (b,s)=>if b=true then some (.bl true,s) else n ρ s
noncomputable def zoK(m:ME):ME:=fun ρ st=>(mTst m ρ st).map fun (b,s)=>(.bl !b,s)
theorem znQ{n:ME}{σ:L2.St}{ρ:Rho}{Q:VK}{d:D}{s1:Sto}(E:EnvR K H io σ ρ)(S:StR K H io st)(X1:Ext io ka H H1)(S1:StR K H1 (io++ka) s1)(e:n ρ s1=some (d,st'))(k:Bh K io H st' d Q):tE K n σ H1 Q :=
 ⟨ρ,s1,io++ka,d,st',E.ext S X1,S1,e,k.on S1 X1⟩
theorem zcb(ha:SE X a ma):SE X (.BoolOp .And [a] pos) ma:=znv ha
theorem zpb(ha:SE X a ma):SE X (.BoolOp .Or [a] pos) ma:=znv ha
theorem zbS{rs:List Expr}(ha:SE X a ma)(hb:SE X (.BoolOp .And (b::rs) pos) mb):SE X (.BoolOp .And (a::b::rs) pos) (zdE ma mb):=PE.imp (zpH ha hb) <| by
 rintro σ H Q ⟨ρ,st,io,v,st',E,S,e,k⟩;obtain⟨⟨x,s1⟩,e1,e⟩:=zac e;refine⟨ρ,st,io,.bl x,s1,E,S,zhl e1,fun v1 H1 k1 X1 S1 R1=>⟨x,R1,?_⟩⟩
 cases x with
 | true=>rw[if_pos rfl];exact znQ E S X1 S1 e k
 | false =>
   rw[if_neg (by decide)];have e':some (D.bl false,s1)=some (v,st'):=e;cases e';exact k _ H1 k1 X1 S1 rfl
theorem zrs{rs:List Expr}(ha:SE X a ma)(hb:SE X (.BoolOp .Or (b::rs) pos) mb):SE X (.BoolOp .Or (a::b::rs) pos) (mOrV ma mb):=PE.imp (zrC ha hb) <| by
 rintro σ H Q ⟨ρ,st,io,v,st',E,S,e,k⟩;obtain⟨⟨x,s1⟩,e1,e⟩:=zac e;refine⟨ρ,st,io,.bl x,s1,E,S,zhl e1,fun v1 H1 k1 X1 S1 R1=>⟨x,R1,?_⟩⟩
 cases x with
 | false=>rw[if_neg (by decide)];exact znQ E S X1 S1 e k
 | true =>
   rw[if_pos rfl];have e':some (D.bl true,s1)=some (v,st'):=e;cases e';exact k _ H1 k1 X1 S1 rfl
theorem zpc(ha:SE X a ma):SE X (.UnaryOp .Not a pos) (zoK ma):=PE.imp (zpA ha) <| by
 rintro σ H Q ⟨ρ,st,io,v,st',E,S,e,k⟩;unfold zoK at e
 cases e1:mTst ma ρ st with
 | none=>rw[e1] at e;cases e
 | some p =>
   rw[e1] at e;cases e;exact⟨ρ,st,io,_,_,E,S,zhl e1,fun v1 H1 k1 X1 S1 R1=>⟨_,R1,k _ H1 k1 X1 S1 rfl⟩⟩
end
end L2.MP
set_option linter.unusedVariables false
namespace L2.MP
open PySem PySem.Spec PyProof.Rows
section
variable {X:Cx} {e a b c:Expr} {es:List Expr} {st1 st2:Stmt} {rest body orelse:List Stmt} {pos:Pos} {m ma mb mc:ME} {mt mu:MT} {mm:MA} {ms mq mr:MS} {mg:MG} {mgs:MGs}
variable {K:Ac} {H H1 H2:Hp} {io ka kb:List Addr} {st st':Sto}
noncomputable def mNil:MA:=fun _ st=>some ([],st)
noncomputable def zae(m:ME)(mm:MA):MA:=fun ρ st=>(m ρ st).bind fun (x,s1)=>(mm ρ s1).bind fun (xs,s2)=>some (x::xs,s2)
theorem zag:SA X [] mNil:=PA.imp zlz <| by
 rintro σ H Q ⟨ρ,st,io,ds,st',E,S,e,k⟩
 cases e;exact k [] H [] Ext.refl S.nil Reps.nil
theorem zaa(ha:SE X e m)(hr:SA X es mm)(hs:starEach (e::es) X.env=(false,eval e X.env)::starEach es X.env:=by rfl):SA X (e::es) (zae m mm):=PA.imp (zf8 ha hr hs) <| by
 rintro σ H Q ⟨ρ,st,io,ds,st',E,S,e,k⟩;obtain⟨⟨x,s1⟩,e1,e⟩:=zac e;obtain⟨⟨xs,s2⟩,e2,e⟩:=zac e;cases e;refine⟨ρ,st,io,x,s1,E,S,e1,fun v1 H1 k1 X1 S1 R1=>⟨ρ,s1,io++k1,xs,_,E.ext S X1,S1,e2,fun vs H2 k2 X2 S2 R2=>?_⟩⟩;exact k _ H2 (k1++k2) (X1.trans S1 X2) (by rw[<-An];exact S2) (by rw[<-An];exact Reps.cons (R1.ext S1 X2) R2)
noncomputable def fits(n:Nat):Bool:=decide (n<=sizeLine)
noncomputable def mTup(mm:MA):ME:=fun ρ st=>(mm ρ st).bind fun (xs,s)=>if fits xs.length=true then some (.tup xs,s) else none
noncomputable def mLst(mm:MA):ME:=fun ρ st=>(mm ρ st).bind fun (xs,s)=>if fits xs.length=true then some (.ref s.length,s++[.lst xs]) else none
theorem zap{α:Type}{c:Prop}[Decidable c]{x:Option α}{y:α}(h:(if c then x else none)=some y):c/\x=some y:=by
 by_cases hc:c
 . rw[if_pos hc] at h;exact⟨hc,h⟩
 . rw[if_neg hc] at h;cases h
theorem Bh.tup{ds:List D}{vs:List V}{Q:VK}{p:Addr}(k:Bh K io H st (.tup ds) Q)(S:StR K H io st)(R:Reps K H io vs ds)(hp:H p=none):Q (.ref p) (upd H p (.tup vs)):=by
 obtain⟨E,S'⟩:=zdU (o:=.tup vs) S hp;refine k _ _ [] E S' ⟨p,vs,rfl,zba,R.ext S E⟩
theorem getElem?_len{α:Type}(l:List α)(x:α):(l++[x])[l.length]?=some x:=by
 rw[AK (Af _),BM];rfl
theorem Bh.lst{ds:List D}{vs:List V}{Q:VK}{p:Addr}(k:Bh K io H (st++[.lst ds]) (.ref st.length) Q)(S:StR K H io st)(R:Reps K H io vs ds)(hp:H p=none):Q (.ref p) (upd H p (.lst vs)):=by
 obtain⟨E,S'⟩:=zgY (o:=.lst vs) (ob:=.lst ds) S hp fun H' T e=>⟨vs,e,Reps.mono T R⟩
 exact k _ _ [p] E S' ⟨p,rfl,by rw[<-S.len];exact getElem?_len io p⟩
theorem zbp{x1}(h:SA X es mm):SE X (.Tuple es x1 pos) (mTup mm):=PE.imp (zpy h) <| by
 rintro σ H Q ⟨ρ,st,io,d,st',E,S,e,k⟩;obtain⟨⟨xs,s1⟩,e1,e⟩:=zac e;obtain⟨hf,e⟩:=zap e;cases e;refine⟨ρ,st,io,xs,_,E,S,e1,fun vs H1 k1 X1 S1 R1=>⟨by rw[R1.length];exact of_decide_eq_true hf,fun p hp=>(k.on S1 X1).tup S1 R1 hp⟩⟩
theorem zdk(h:SA X es mm):SE X (.List es pos) (mLst mm):=PE.imp (zpC h) <| by
 rintro σ H Q ⟨ρ,st,io,d,st',E,S,e,k⟩;obtain⟨⟨xs,s1⟩,e1,e⟩:=zac e;obtain⟨hf,e⟩:=zap e;cases e;refine⟨ρ,st,io,xs,_,E,S,e1,fun vs H1 k1 X1 S1 R1=>⟨by rw[R1.length];exact of_decide_eq_true hf,fun p hp=>(k.on S1 X1).lst S1 R1 hp⟩⟩
noncomputable abbrev GN:=List D->Sto->Option (D×Sto)
inductive rNM (K:Ac) (g:GN) (xs:List V) (H:Hp) (Q:VK):Prop
 | mk (ds:List D) (st:Sto) (io:List Addr) (d:D) (st':Sto) (h1:Reps K H io xs ds) (h2:StR K H io st) (h3:g ds st=some (d,st')) (h4:Bh K io H st' d Q)
def zeu(X:Cx)(f:Value)(g:GN):Prop:=zjV X f (rNM X.K g)
noncomputable def zaw(g:GN)(mm:MA):ME:=fun ρ st=>(mm ρ st).bind fun (xs,s)=>g xs s
theorem ze7{g:GN}{σ:L2.St}{Q:VK}(h:tE K (zaw g mm) σ H Q):tCB (rNM K g) (tA K mm) σ H Q:=by
 obtain⟨ρ,st,io,d,st',E,S,e,k⟩:=h;obtain⟨⟨xs,s1⟩,e1,e⟩:=zac e;exact⟨ρ,st,io,xs,s1,E,S,e1,fun vs H1 k1 X1 S1 R1=>⟨xs,s1,io++k1,d,st',R1,S1,e,k.on S1 X1⟩⟩
theorem zaO{x:Str}{p:Pos}{id:String}{g:GN}(hc:zeu X (.builtin id) g)(hg:Gl X x)(hm:X.mg x=none)(hv:bootBuiltins x=some (.builtin id))(ha:SA X (e::es) mm)(hn:x≠"__name__":=by decide)(hdb:(x==("__debug__":Str))=false:=by decide)
   (he:starEach (e::es) X.env=(false,eval e X.env)::starEach es X.env:=by rfl) (hpl:(backTo pos (starEach es X.env)).any (·.1)=false:=by rfl):SE X (.Call (.Name x p) (e::es) [] pos) (zaw g mm) :=
 PE.imp (zfw hc hg hm hv ha hn hdb he hpl) fun _ _ _ h=>ze7 h
theorem zcv{x:Str}{p:Pos}{T:String}{g:GN}(hc:zeu X (.type T) g)(hg:Gl X x)(hm:X.mg x=none)(hv:bootBuiltins x=some (.type T))(ha:SA X (e::es) mm)(hn:x≠"__name__":=by decide)(hdb:(x==("__debug__":Str))=false:=by decide)
   (he:starEach (e::es) X.env=(false,eval e X.env)::starEach es X.env:=by rfl) (hpl:(backTo pos (starEach es X.env)).any (·.1)=false:=by rfl):SE X (.Call (.Name x p) (e::es) [] pos) (zaw g mm) :=
 PE.imp (zjk hc hg hm hv ha hn hdb he hpl) fun _ _ _ h=>ze7 h
noncomputable def spM(K:Ac)(n:Nat)(g:GN):Sp:=fun vs H Q _=>∃ ds st io d st',vs.length=n/\Reps K H io vs ds/\StR K H io st/\g ds st=some (d,st')/\Bh K io H st' d Q
theorem znd{x:Str}{p:Pos}{k:Nat}{f:Addr}{fd:FuncData}{ps:List Str}{n:Nat}{g:GN}(F:FnOk X.prog X.w X.K X.mg X.base CX0 k f fd ps (spM X.K n g))(hr:Room k X.A)(hg:Gl X x)(hm:X.mg x=some (.ref f))(hk:BU X.K (.ref f)=true)(hb:Binds X.K fd ps [])
   (ha:SA X (e::es) mm) (hdb:(x==("__debug__":Str))=false:=by decide) (he:starEach (e::es) X.env=(false,eval e X.env)::starEach es X.env:=by rfl) (hpl:(backTo pos (starEach es X.env)).any (·.1)=false:=by rfl) (hn:(e::es).length=n:=by rfl)
   (hl:∀ ρ st xs s,mm ρ st=some (xs,s)->xs.length=n) :
   SE X (.Call (.Name x p) (e::es) [] pos) (zaw g mm):=PE.imp (zny F hr hg hm hk hb .nil zrG ha hdb he hpl) <| by
 rintro σ H Q ⟨ρ,st,io,d,st',E,S,e,k⟩;obtain⟨⟨xs,s1⟩,e1,e⟩:=zac e;refine⟨ρ,st,io,xs,s1,E,S,e1,fun vs H1 k1 X1 S1 R1=>⟨xs,s1,io++k1,d,st',?_,?_,S1,e,k.on S1 X1⟩⟩
 . rw[Ai,R1.length];exact hl _ _ _ _ e1
 . rw[Ai];exact R1
theorem zlQ{ρ:Rho}{st:Sto}{xs:List D}{s:Sto}(h:mNil ρ st=some (xs,s)):xs.length=0:=by cases h;rfl
theorem zjy{ρ:Rho}{st:Sto}{xs:List D}{s:Sto}{n:Nat}(hr:∀ ρ st xs s,mm ρ st=some (xs,s)->xs.length=n)(h:zae m mm ρ st=some (xs,s)):xs.length=n+1:=by
 obtain⟨⟨x,s1⟩,e1,e⟩:=zac h;obtain⟨⟨ys,s2⟩,e2,e⟩:=zac e;cases e;rw[AE,hr _ _ _ _ e2]
noncomputable def Wn(K:Ac)(io:List Addr)(H:Hp)(st':Sto)(N:Ends):Fl->Prop
 | .nx ρ'=>∀ σ' H' ka,Ext io ka H H'->StR K H' (io++ka) st'->EnvR K H' (io++ka) σ' ρ'->N.nx σ' H'
 | .bk ρ'=>∀ σ' H' ka,Ext io ka H H'->StR K H' (io++ka) st'->EnvR K H' (io++ka) σ' ρ'->N.bk σ' H'
 | .ct ρ'=>∀ σ' H' ka,Ext io ka H H'->StR K H' (io++ka) st'->EnvR K H' (io++ka) σ' ρ'->N.ct σ' H'
 | .rt d=>Bh K io H st' d N.rt
inductive tSi (K:Ac) (m:MS) (N:Ends) (σ:L2.St) (H:Hp):Prop
 | mk (ρ:Rho) (st:Sto) (io:List Addr) (f:Fl) (st':Sto) (h1:EnvR K H io σ ρ) (h2:StR K H io st) (h3:m ρ st=some (f,st')) (h4:Wn K io H st' N f)
theorem zcs{N:Ends}{σ:L2.St}{H:Hp}:tS K ms N σ H ↔ tSi K ms N σ H:=by
 constructor
 . rintro ⟨ρ,st,io,f,st',E,S,e,k⟩;exact⟨ρ,st,io,f,st',E,S,e,by cases f <;> exact k⟩
 . rintro ⟨ρ,st,io,f,st',E,S,e,k⟩;exact⟨ρ,st,io,f,st',E,S,e,by cases f <;> exact k⟩
theorem zeO{P:L2.St->Hp->Prop}{ρ':Rho}(h:∀ σ' H' ka,Ext io ka H H'->StR K H' (io++ka) st'->EnvR K H' (io++ka) σ' ρ'->P σ' H')(X1:Ext io ka H H1)(S1:StR K H1 (io++ka) st) :
   ∀ σ' H' kb,Ext (io++ka) kb H1 H'->StR K H' ((io++ka)++kb) st'->EnvR K H' ((io++ka)++kb) σ' ρ'->P σ' H':=fun σ' H' kb E' S' R' =>
 h σ' H' (ka++kb) (X1.trans S1 E') (by rw[<-An];exact S') (by rw[<-An];exact R')
theorem Wn.on{N:Ends}{f:Fl}(h:Wn K io H st' N f)(X1:Ext io ka H H1)(S1:StR K H1 (io++ka) st):Wn K (io++ka) H1 st' N f:=by
 cases f with
 | nx ρ'=>exact zeO h X1 S1
 | bk ρ'=>exact zeO h X1 S1
 | ct ρ'=>exact zeO h X1 S1
 | rt d=>exact Bh.on h S1 X1
theorem zkQ{N:Ends}{σ:L2.St}{ρ:Rho}{f:Fl}(E:EnvR K H io σ ρ)(S:StR K H io st)(e:ms ρ st=some (f,st'))(w:Wn K io H st' N f):tS K ms N σ H:=zcs.mpr ⟨ρ,st,io,f,st',E,S,e,w⟩
theorem zoU{N:Ends}{σ:L2.St}{ρ:Rho}{f:Fl}{s1:Sto}(X1:Ext io ka H H1)(S1:StR K H1 (io++ka) s1)(E:EnvR K H1 (io++ka) σ ρ)(e:ms ρ s1=some (f,st'))(w:Wn K io H st' N f):tS K ms N σ H1 :=
 zkQ E S1 e (w.on X1 S1)
noncomputable def zdJ:MS:=fun ρ st=>some (.nx ρ,st)
theorem zmX:SSs X [] zdJ:=PSs.imp znm fun N σ H h=>by
 obtain⟨ρ,st,io,f,st',E,S,e,w⟩:=zcs.mp h;cases e;exact w σ H [] Ext.refl S.nil (by rw[Ai];exact E)
noncomputable def mSeq(m n:MS):MS:=fun ρ st=>(m ρ st).bind fun (f,s)=>match f with
 | .nx ρ1=>n ρ1 s
 | f=>some (f,s)
theorem zkW(h1:SS X st1 ms)(h2:SSs X rest mq):SSs X (st1::rest) (mSeq ms mq):=PSs.imp (zlo h1 h2) fun N σ H h=>by
 obtain⟨ρ,st,io,f,st',E,S,e,w⟩:=zcs.mp h;obtain⟨⟨f1,s1⟩,e1,e⟩:=zac e;refine zkQ E S e1 ?_
 cases f1 with
 | nx ρ1=>exact fun σ' H' ka X' S' R'=>zoU X' S' R' e w
 | bk ρ1=>cases e;exact w
 | ct ρ1=>cases e;exact w
 | rt d=>cases e;exact w
theorem zmW(h1:SS X st1 ms):SSs X [st1] ms:=znl h1
noncomputable def mExp(m:ME):MS:=fun ρ st=>(m ρ st).map fun (_,s)=>(.nx ρ,s)
noncomputable def mRet(m:ME):MS:=fun ρ st=>(m ρ st).map fun (d,s)=>(.rt d,s)
theorem zaf{α β:Type}{x:Option α}{f:α->β}{y:β}(h:x.map f=some y):∃ z,x=some z/\f z=y:=by
 cases x with
 | none=>cases h
 | some z=>exact⟨z,rfl,Ax h⟩
theorem zdO(he:SE X e m)(hs:swapsWith e none pos.line X.env=pure false:=by rfl):SS X (.Expr e pos) (mExp m):=PS.imp (znn he hs) fun N σ H h=>by
 obtain⟨ρ,st,io,f,st',E,S,e,w⟩:=zcs.mp h;obtain⟨⟨d,s1⟩,e1,e⟩:=zaf e;cases e;exact⟨ρ,st,io,d,_,E,S,e1,fun v H' ka X' S' R'=>w σ H' ka X' S' (E.ext S X')⟩
theorem zaR(he:SE X e m):SS X (.Return (some e) pos) (mRet m):=PS.imp (zpo he) fun N σ H h=>by
 obtain⟨ρ,st,io,f,st',E,S,e,w⟩:=zcs.mp h;obtain⟨⟨d,s1⟩,e1,e⟩:=zaf e;cases e;exact⟨ρ,st,io,d,_,E,S,e1,w⟩
noncomputable def mIf(c:MT)(m n:MS):MS:=fun ρ st=>(c ρ st).bind fun (b,s)=>if b=true then m ρ s else n ρ s
theorem zrp(hc:SB X c mt)(h1:SSs X body ms)(h2:SSs X orelse mq):SS X (.If c body orelse pos) (mIf mt ms mq):=PS.imp (zrz hc h1 h2) fun N σ H h=>by
 obtain⟨ρ,st,io,f,st',E,S,e,w⟩:=zcs.mp h;obtain⟨⟨x,s1⟩,e1,e⟩:=zac e;refine⟨ρ,st,io,x,s1,E,S,e1,fun H1 k1 X1 S1=>?_⟩
 cases x with
 | true=>rw[if_pos rfl];exact zoU X1 S1 (E.ext S X1) e w
 | false=>rw[if_neg (by decide)];exact zoU X1 S1 (E.ext S X1) e w
noncomputable def gNm(i:Nat):MG:=fun d ρ st=>some (ρ.set i (some d),st)
theorem zaz{i:Nat}{x:Str}(hN:X.N.Nodup)(hi:X.N[i]?=some x)(hx:Loc X.env.scope x)(hf:X.fn x=true\/X.env.scope.names.lookup x=some .local:=by first | exact .inl rfl | exact .inr rfl | assumption):SG X (.Name x pos) (gNm i) :=
 PG.imp (znu hN hi hx hf) <| by
   rintro v σ H Q ⟨d,ρ,st,io,ρ',st',R,E,S,e,k⟩;cases e;exact k _ H [] Ext.refl S.nil (by rw[Ai];exact E.set i R)
noncomputable def gN0:MGs:=fun ds ρ st=>match ds with
 | []=>some (ρ,st)
 | _=>none
noncomputable def gC(g:MG)(h:MGs):MGs:=fun ds ρ st=>match ds with
 | d::r=>(g d ρ st).bind fun (ρ1,s1)=>h r ρ1 s1
 | []=>none
theorem zct:SGs X [] gN0:=PGs.imp znt <| by
 rintro v σ H Q ⟨ds,ρ,st,io,ρ',st',R,E,S,e,k⟩
 cases ds with
 | nil=>cases e;exact⟨R,k σ H [] Ext.refl S.nil (by rw[Ai];exact E)⟩
 | cons d r=>cases e
theorem zaN(h1:SG X e mg)(h2:SGs X es mgs)(hs:(assignEach (e::es) X.env).map (·.2)=assign e X.env::(assignEach es X.env).map (·.2):=by rfl):SGs X (e::es) (gC mg mgs) :=
 PGs.imp (zlv h1 h2 hs) <| by
   rintro v σ H Q ⟨ds,ρ,st,io,ρ',st',R,E,S,e,k⟩
   cases ds with
   | nil=>cases e
   | cons d r =>
     obtain⟨y,ys,rfl,r1,rs⟩:=R;obtain⟨⟨ρ1,s1⟩,e1,e⟩:=zac e;refine⟨y,ys,rfl,d,ρ,st,io,ρ1,s1,r1,E,S,e1,fun σ1 H1 k1 X1 S1 E1=>?_⟩;exact⟨r,ρ1,s1,io++k1,ρ',st',rs.ext S X1,E1,S1,e,zeO k X1 S1⟩
noncomputable def gTp(n:Nat)(h:MGs):MG:=fun d ρ st=>match d with
 | .tup ds=>if ds.length=n then h ds ρ st else none
 | _=>none
theorem zd7{k:Nat}{n:Nat}(hc:X.calm=true)(h:SGs X es mgs)(hn:(assignEach es X.env).length=n:=by rfl)(hst:(assignEach es X.env).findIdx? (·.1)=none:=by rfl):SG X (.Tuple es k pos) (gTp n mgs) :=
 PG.imp (zpv hc h hn hst) <| by
   rintro v σ H Q ⟨d,ρ,st,io,ρ',st',R,E,S,e,k⟩
   cases d with
   | tup ds =>
     obtain⟨a,xs,rfl,hq,rs⟩:=R;obtain⟨hl,e⟩:=zap e;exact⟨a,xs,rfl,SqT.of hq,by rw[rs.length];exact hl,ds,ρ,st,io,ρ',st',rs,E,S,e,k⟩
   | _=>cases e
noncomputable abbrev G3:=D->D->D->Sto->Option Sto
inductive tSetM (K:Ac) (g:G3) (o i v:V) (H:Hp) (Q:Hp->Prop):Prop
 | mk (d1 d2 d3:D) (st:Sto) (io:List Addr) (st':Sto) (h0:Rep K H io o d1) (h1:Rep K H io i d2) (h2:Rep K H io v d3) (h3:StR K H io st) (h4:g d1 d2 d3 st=some st') (h5:∀ H' ka,Ext io ka H H'->StR K H' (io++ka) st'->Q H')
def SetM(X:Cx)(g:G3):Prop:=PSet X (tSetM X.K g)
noncomputable def gSb(g:G3)(mo mi:ME):MG:=fun d ρ st=>(mo ρ st).bind fun (o,s1)=>(mi ρ s1).bind fun (i,s2)=>(g o i d s2).map fun s3=>(ρ,s3)
theorem zo9{o i:Expr}{mo mi:ME}{g:G3}(ho:SE X o mo)(hi:SE X i mi)(hs:SetM X g)
   (ha:∀ v,assign (.Subscript o i pos) X.env v=(do
     let ov <-holding [v] (eval o X.env)
     let iv <-holding [v,ov] (eval i X.env)
     standAt pos
     holding [v,ov,iv] (setItem ov iv v)
     release [v,ov,iv] []):=by intro _;rfl):SG X (.Subscript o i pos) (gSb g mo mi) :=
 PG.imp (zpw ho hi hs ha) <| by
   rintro v σ H Q ⟨d,ρ,st,io,ρ',st',R,E,S,e,k⟩;obtain⟨⟨x,s1⟩,e1,e⟩:=zac e;obtain⟨⟨y,s2⟩,e2,e⟩:=zac e;obtain⟨s3,e3,e⟩:=zaf e;cases e;refine⟨ρ,st,io,x,s1,E,S,e1,fun v1 H1 k1 X1 S1 R1=>⟨ρ,s1,io++k1,y,s2,E.ext S X1,S1,e2,fun v2 H2 k2 X2 S2 R2=>?_⟩⟩;have X12:=X1.trans S1 X2;refine⟨x,y,d,s2,(io++k1)++k2,_,R1.ext S1 X2,R2,(R.ext S X1).ext S1 X2,S2,e3,fun H3 k3 X3 S3=>?_⟩;rw[An] at X3 S2;rw[An,An] at S3;refine k σ H3 ((k1++k2)++k3) (X12.trans S2 X3) (by simpa using S3) ?_;have E2:EnvR X.K H2 (io++(k1++k2)) σ ρ:=E.ext S X12;have:=E2.ext S2 X3;simpa using this
noncomputable def mAsg(m:ME)(g:MG):MS:=fun ρ st=>(m ρ st).bind fun (d,s1)=>(g d ρ s1).map fun (ρ',s2)=>(.nx ρ',s2)
theorem zjU{N:Ends}{σ:L2.St}{H:Hp}(h:tS K (mAsg m mg) N σ H):tAsg (tE K m) (tG K mg) N σ H:=by
 obtain⟨ρ,st,io,f,st',E,S,e,w⟩:=zcs.mp h;obtain⟨⟨x,s1⟩,e1,e⟩:=zac e;obtain⟨⟨ρ',s2⟩,e2,e⟩:=zaf e;cases e;exact⟨ρ,st,io,x,s1,E,S,e1,fun v1 H1 k1 X1 S1 R1=>⟨x,ρ,s1,io++k1,ρ',_,R1,E.ext S X1,S1,e2,zeO w X1 S1⟩⟩
theorem zkY{tg:Expr}(he:SE X e m)(hg:SG X tg mg)(hs:swapsWithSole [tg] e pos.line X.env=pure false:=by rfl)(hw:swappedStores [tg] e X.env=pure none:=by rfl)
   (h1:(assignEach [tg] X.env).map (·.2)=[assign tg X.env]:=by rfl):SS X (.Assign [tg] e pos) (mAsg m mg):=PS.imp (zpr he hg hs hw h1) fun _ _ _ h=>zjU h
theorem zbl{i:Nat}{x:Str}{pos':Pos}(hN:X.N.Nodup)(hi:X.N[i]?=some x)(hx:Loc X.env.scope x)(he:SE X e m)(hs:swapsWith e (some (.Name x pos')) pos.line X.env=pure false:=by rfl)(hf:X.fn x=true\/X.env.scope.names.lookup x=some .local:=by first | exact .inl rfl | exact .inr rfl | assumption) :
   SS X (.Assign [.Name x pos'] e pos) (mAsg m (gNm i)):=PS.imp (zpn hN hi hx he hs hf) fun N σ H h=>by
 obtain⟨ρ,st,io,f,st',E,S,e,w⟩:=zcs.mp h;obtain⟨⟨x,s1⟩,e1,e⟩:=zac e;obtain⟨⟨ρ',s2⟩,e2,e⟩:=zaf e;cases e;cases e2;exact⟨ρ,st,io,x,_,E,S,e1,fun v1 H1 k1 X1 S1 R1=>w _ H1 k1 X1 S1 ((E.ext S X1).set i R1)⟩
structure Wk where
 ds:List D
 g:List (Nat×List D)
def stays(W:Wk)(st:Sto):Prop:=∀ p,p∈W.g->st[p.1]?=some (.lst p.2)\/st[p.1]?=some (.fz p.2)
structure ItOk(K:Ac)(H0:Hp)(io:List Addr)(W:Wk)(J:It):Prop where
 go:∀ i d H ka st,W.ds[i]?=some d->Ext io ka H0 H->StR K H (io++ka) st->stays W st->J.go i H/\∀ x H',J.yld i H x H'->Ext (io++ka) [] H H'/\StR K H' (io++ka) st/\Rep K H' (io++ka) x d
 stop:∀ H ka st,Ext io ka H0 H->StR K H (io++ka) st->stays W st->J.stop W.ds.length H
 stop':∀ H ka st i,W.ds.length<=i->Ext io ka H0 H->StR K H (io++ka) st->stays W st->J.stop i H
noncomputable abbrev MI:=Rho->Sto->Option (Wk×Sto)
inductive tI (K:Ac) (m:MI) (σ:L2.St) (H:Hp) (R:It->Hp->Prop):Prop
 | mk (ρ:Rho) (st:Sto) (io:List Addr) (W:Wk) (st':Sto) (h1:EnvR K H io σ ρ) (h2:StR K H io st) (h3:m ρ st=some (W,st')) (h4:∀ J H' ka,Ext io ka H H'->StR K H' (io++ka) st'->ItOk K H' (io++ka) W J->R J H')
def SI(X:Cx)(tg iter:Expr)(m:MI):Prop:=PI X tg iter (tI X.K m)
theorem PI.imp{tg iter:Expr}{t u:TI}(h:PI X tg iter t)(k:∀ σ H R,u σ H R->t σ H R):PI X tg iter u:=fun pins s σ H R I q=>h pins s σ H R I (k σ H R q)
end
mutual
noncomputable def D.eqb:D->D->Bool
 | .non,.non=>true
 | .bl a,.bl b=>a==b
 | .int a,.int b=>decide (a=b)
 | .str a,.str b=>decide (a=b)
 | .tup a,.tup b=>D.eqbs a b
 | .ref a,.ref b=>decide (a=b)
 | .kl a,.kl b=>D.eqbs a b
 | _,_=>false
noncomputable def D.eqbs:List D->List D->Bool
 | [],[]=>true
 | a::as,b::bs=>D.eqb a b&&D.eqbs as bs
 | _,_=>false
end
mutual
theorem D.eqb_refl:∀ a:D,D.eqb a a=true
 | .non=>rfl
 | .bl a=>by simp[D.eqb]
 | .int a=>by simp[D.eqb]
 | .str a=>by simp[D.eqb]
 | .tup a=>by rw[D.eqb];exact D.eqbs_refl a
 | .ref a=>by simp[D.eqb]
 | .kl a=>by rw[D.eqb];exact D.eqbs_refl a
theorem D.eqbs_refl:∀ a:List D,D.eqbs a a=true
 | []=>rfl
 | a::as=>by rw[D.eqbs,D.eqb_refl a,D.eqbs_refl as];rfl
end
mutual
theorem D.eq_of:∀ {a b:D},D.eqb a b=true->a=b
 | .non,b,h=>by cases b <;> simp[D.eqb] at h ⊢
 | .bl a,b,h=>by cases b <;> simp[D.eqb] at h ⊢;exact h
 | .int a,b,h=>by cases b <;> simp[D.eqb] at h ⊢;exact h
 | .str a,b,h=>by cases b <;> simp[D.eqb] at h ⊢;exact h
 | .tup a,.tup b,h=>by rw[D.eqb] at h;rw[D.eqs_of h]
 | .tup a,.non,h=>by simp[D.eqb] at h
 | .tup a,.bl _,h=>by simp[D.eqb] at h
 | .tup a,.int _,h=>by simp[D.eqb] at h
 | .tup a,.str _,h=>by simp[D.eqb] at h
 | .tup a,.ref _,h=>by simp[D.eqb] at h
 | .tup a,.kl _,h=>by simp[D.eqb] at h
 | .kl a,.kl b,h=>by rw[D.eqb] at h;rw[D.eqs_of h]
 | .kl a,.non,h=>by simp[D.eqb] at h
 | .kl a,.bl _,h=>by simp[D.eqb] at h
 | .kl a,.int _,h=>by simp[D.eqb] at h
 | .kl a,.str _,h=>by simp[D.eqb] at h
 | .kl a,.ref _,h=>by simp[D.eqb] at h
 | .kl a,.tup _,h=>by simp[D.eqb] at h
 | .ref a,b,h=>by cases b <;> simp[D.eqb] at h ⊢;exact h
theorem D.eqs_of:∀ {a b:List D},D.eqbs a b=true->a=b
 | [],[],_=>rfl
 | [],_::_,h=>by simp[D.eqbs] at h
 | _::_,[],h=>by simp[D.eqbs] at h
 | a::as,b::bs,h=>by
   rw[D.eqbs,Av] at h;rw[D.eq_of h.1,D.eqs_of h.2]
end
noncomputable instance:DecidableEq D:=fun a b=>if h:D.eqb a b=true then .isTrue (D.eq_of h) else .isFalse fun e=>h (by rw[e];exact D.eqb_refl b)
noncomputable def zit(st:Sto)(n:Nat)(ds:List D):Bool:=match st[n]? with
 | some (.lst xs)=>D.eqbs xs ds
 | some (.fz xs)=>D.eqbs xs ds
 | _=>false
theorem zjI{st:Sto}{n:Nat}{ds:List D}(h:zit st n ds=true):st[n]?=some (.lst ds)\/st[n]?=some (.fz ds):=by
 unfold zit at h
 split at h
 . rename_i xs e;rw[D.eqs_of h] at e;exact .inl e
 . rename_i xs e;rw[D.eqs_of h] at e;exact .inr e
 . cases h
theorem zis{st:Sto}{n:Nat}{ds:List D}(h:st[n]?=some (.lst ds)):zit st n ds=true:=by unfold zit;rw[h];exact D.eqbs_refl ds
section
variable {X:Cx} {e a b c:Expr} {es:List Expr} {st1 st2:Stmt} {rest body orelse:List Stmt} {pos:Pos} {m ma mb mc:ME} {mt mu:MT} {mm:MA} {ms mq mr:MS} {mg:MG} {mgs:MGs} {mi:MI}
variable {K:Ac} {H H1 H2:Hp} {io ka kb:List Addr} {st st':Sto}
noncomputable def walked(W:Wk)(st:Sto):Bool:=W.g.all fun p=>zit st p.1 p.2
theorem zcq{W:Wk}(h:walked W st=true):stays W st:=fun p hp=>zjI (List.all_eq_true.mp h p hp)
noncomputable def zg1(W:Wk)(g:MG)(m:MS):List D->Rho->Sto->Option (Fl×Sto)
 | [],ρ,st=>if walked W st=true then some (.nx ρ,st) else none
 | d::ds,ρ,st=>if walked W st=true then (g d ρ st).bind fun (ρ1,s1)=>(m ρ1 s1).bind fun (f,s2)=>match f with
   | .nx ρ2=>zg1 W g m ds ρ2 s2
   | .ct ρ2=>zg1 W g m ds ρ2 s2
   | .bk ρ2=>some (.nx ρ2,s2)
   | .rt d=>some (.rt d,s2) else none
noncomputable def mFor(mi:MI)(g:MG)(m:MS):MS:=fun ρ st=>(mi ρ st).bind fun (W,s)=>zg1 W g m W.ds ρ s
theorem zo2{tg iter:Expr}(hp:PassesOwn (model X.prog X.w) X.A X.env X.xe)(hc:X.calm=true)(hi:SI X tg iter mi)(hg:SG X tg mg)(hb:SSs X body ms)
   (hs:∀ x,foldedSetIterable iter X.env x=pure x:=by intro _;rfl):SS X (.For tg iter body [] pos) (mFor mi mg ms):=PS.imp (zpq hp hc hi hg hb hs) fun N σ H h=>by
 obtain⟨ρ,st,io,f,st',E,S,e,w⟩:=zcs.mp h;obtain⟨⟨W,s1⟩,e1,e⟩:=zac e;refine⟨ρ,st,io,W,s1,E,S,e1,fun J H1 k1 X1 S1 IO=>?_⟩;refine⟨fun i n σ2 H2=>n=W.ds.length - i/\∃ ρ2 s2 k2,Ext (io++k1) k2 H1 H2/\StR X.K H2 ((io++k1)++k2) s2/\EnvR X.K H2 ((io++k1)++k2) σ2 ρ2/\zg1 W mg ms (W.ds.drop i) ρ2 s2=some (f,st'),
   ⟨_,rfl,ρ,s1,[],Ext.refl,by rw[Ai];exact S1,by rw[Ai];exact E.ext S X1,by rw[FM];exact e⟩,?_⟩
 rintro i n σ2 H2 ⟨rfl,ρ2,s2,k2,X2,S2,E2,e2⟩;have w2:Wn X.K ((io++k1)++k2) H2 st' N f:=(w.on X1 S1).on X2 S2
 cases hd:W.ds[i]? with
 | none =>
   have hl:W.ds.length<=i:=List.getElem?_eq_none_iff.mp hd;rw[Ec hl] at e2;obtain⟨hw,e2⟩:=zap e2;cases e2;refine .inl ⟨?_,w2 σ2 H2 [] Ext.refl S2.nil (by rw[Ai];exact E2)⟩
   -- the end may lie behind
   by_cases hi:i=W.ds.length
   . rw[hi];exact IO.stop H2 k2 _ X2 S2 (zcq hw)
   . exact IO.stop' H2 k2 _ i hl X2 S2 (zcq hw)
 | some d =>
   have hl:i < W.ds.length:=(List.getElem?_eq_some_iff.mp hd).1;have hdr:W.ds.drop i=d::W.ds.drop (i+1):=by
     rw[DH hl,(List.getElem?_eq_some_iff.mp hd).2]
   rw[hdr] at e2;obtain⟨hw,e2⟩:=zap e2;obtain⟨⟨ρ3,s3⟩,e3,e2⟩:=zac e2;obtain⟨⟨f4,s4⟩,e4,e2⟩:=zac e2;obtain⟨go,yl⟩:=IO.go i d H2 k2 s2 hd X2 S2 (zcq hw);refine .inr ⟨go,fun σ5 H5=>∃ ρ5 s5 k5,Ext (io++k1) k5 H1 H5/\StR X.K H5 ((io++k1)++k5) s5/\EnvR X.K H5 ((io++k1)++k5) σ5 ρ5/\zg1 W mg ms (W.ds.drop (i+1)) ρ5 s5=some (f,st'),
     fun σ5 H5 h5=>⟨W.ds.length - (i+1),by omega,rfl,h5⟩,fun x H' y=>?_⟩
   obtain⟨X3,S3,R3⟩:=yl x H' y;have X23:Ext (io++k1) k2 H1 H':=(X2.trans S2 X3).app;refine⟨d,ρ2,s2,(io++k1)++k2,ρ3,s3,R3,?_,S3,e3,fun σ6 H6 k6 X6 S6 E6=>?_⟩
   . have:=E2.ext S2 X3;rw[Ai] at this;exact this
   . refine zkQ E6 S6 e4 ?_;have X26:=X23.trans S3 X6;have S6':StR X.K H6 ((io++k1)++(k2++k6)) s3:=by rw[<-An];exact S6
     have fin:∀ {ρ7:Rho},zg1 W mg ms (W.ds.drop (i+1)) ρ7 s4=some (f,st')->∀ σ7 H7 k7,Ext ((io++k1)++k2++k6) k7 H6 H7->StR X.K H7 ((io++k1)++k2++k6++k7) s4->EnvR X.K H7 ((io++k1)++k2++k6++k7) σ7 ρ7 ->
         ∃ ρ5 s5 k5,Ext (io++k1) k5 H1 H7/\StR X.K H7 ((io++k1)++k5) s5/\EnvR X.K H7 ((io++k1)++k5) σ7 ρ5/\zg1 W mg ms (W.ds.drop (i+1)) ρ5 s5=some (f,st'):=by
       intro ρ7 e7 σ7 H7 k7 X7 S7 E7;rw[An (io++k1)] at X7;rw[An (io++k1),An (io++k1)] at S7 E7;exact⟨ρ7,s4,(k2++k6)++k7,X26.trans S6' X7,S7,E7,e7⟩
     cases f4 with
     | nx ρ7=>exact fin e2
     | ct ρ7=>exact fin e2
     | bk ρ7 =>
       cases e2;exact ((w.on X1 S1).on X23 S3).on X6 S6
     | rt dd =>
       cases e2;exact ((w.on X1 S1).on X23 S3).on X6 S6
end
section
variable {X:Cx} {e a b c:Expr} {es:List Expr} {st1 st2:Stmt} {rest body orelse:List Stmt} {pos:Pos} {m ma mb mc:ME} {mt mu:MT} {mm:MA} {ms mq mr:MS} {mg:MG} {mgs:MGs} {mi:MI}
variable {K:Ac} {H H1 H2:Hp} {io ka kb:List Addr} {st st':Sto}
theorem zcO{ρ:Rho}{x:D}{xs:List D}{s s1 s2:Sto}(h1:m ρ s=some (x,s1))(h2:mm ρ s1=some (xs,s2)):zae m mm ρ s=some (x::xs,s2):=by
 unfold zae;rw[h1];show F6 (mm ρ s1) _=_;rw[h2];rfl
noncomputable def zbj(st:Sto)(n:Nat):Option (List D):=match st[n]? with
 | some (.lst ds)=>some ds
 | some (.fz ds)=>some ds
 | _=>none
theorem zbn{n:Nat}{p:Addr}{ds:List D}(S:StR K H io st)(hn:io[n]?=some p)(h:zbj st n=some ds):∃ xs,SqL K H p xs/\Reps K H io xs ds:=by
 unfold zbj at h
 split at h
 . rename_i o he;cases h;obtain⟨xs,e,r⟩:=S.ob n p _ hn he;exact⟨xs,SqL.of e,r⟩
 . rename_i o he;cases h;obtain⟨ob,xs,e,r⟩:=S.ob n p _ hn he;exact⟨xs,.inl (.inr ⟨ob,e⟩),r⟩
 . cases h
theorem zcP{n:Nat}{ds:List D}{W:Wk}(hm:(n,ds)∈W.g)(h:stays W st):zbj st n=some ds:=by
 unfold zbj
 rcases h _ hm with h | h
 . have h:st[n]?=some (.lst ds):=h;rw[h]
 . have h:st[n]?=some (.fz ds):=h;rw[h]
noncomputable def mWL(m:ME):MI:=fun ρ st=>(m ρ st).bind fun (d,s)=>match d with
 | .ref n=>(zbj s n).map fun ds=>(⟨ds,[(n,ds)]⟩,s)
 | _=>none
noncomputable def mWT(m:ME):MI:=fun ρ st=>(m ρ st).bind fun (d,s)=>match d with
 | .tup ds=>some (⟨ds,[]⟩,s)
 | _=>none
theorem zbf{io ka:List Addr}{n:Nat}{p:Addr}(h:io[n]?=some p):(io++ka)[n]?=some p:=by
 rw[Ar (List.getElem?_eq_some_iff.mp h).1];exact h
theorem zql{n:Nat}{p:Addr}{ds:List D}(hn:io[n]?=some p):ItOk K H io ⟨ds,[(n,ds)]⟩ (Itl K p) where
 go:=fun i d H1 k1 s hd X1 S1 hs=>by
   obtain⟨xs,hx,r⟩:=zbn S1 (zbf hn) (zcP Am hs);obtain⟨v,hv,rv⟩:=r.get hd;refine⟨⟨xs,v,hx,hv⟩,fun x H' y=>?_⟩;obtain⟨rfl,y⟩:=y;have e:=y xs hx;rw[hv] at e;cases e;exact⟨Ext.refl,S1,rv⟩
 stop:=fun H1 k1 s X1 S1 hs=>by
   obtain⟨xs,hx,r⟩:=zbn S1 (zbf hn) (zcP Am hs);exact⟨xs,hx,by rw[r.length];exact Af _⟩
 stop':=fun H1 k1 s i hi X1 S1 hs=>by
   obtain⟨xs,hx,r⟩:=zbn S1 (zbf hn) (zcP Am hs);exact⟨xs,hx,by rw[r.length];exact hi⟩
theorem zm5{tg l:Expr}(hl:SE X l m):SI X tg l (mWL m):=PI.imp (zns hl) <| by
 rintro σ H R ⟨ρ,st,io,W,st',E,S,e,k⟩;obtain⟨⟨d,s1⟩,e1,e⟩:=zac e;dsimp only at e
 split at e
 . rename_i n;obtain⟨ds,e2,e⟩:=zaf e;cases e;refine⟨ρ,st,io,_,_,E,S,e1,fun v H1 k1 X1 S1 R1=>?_⟩;obtain⟨p,rfl,hn⟩:=R1;obtain⟨xs,hx,r⟩:=zbn S1 hn e2;exact⟨p,rfl,⟨xs,hx⟩,k _ H1 k1 X1 S1 (zql hn)⟩
 . cases e
theorem zqk{st:Sto}{p:Addr}{xs:List V}{ds:List D}(S:StR K H io st)(hp:H p=some (.tup xs))(r:Reps K H io xs ds):ItOk K H io ⟨ds,[]⟩ (Itt K p) where
 go:=fun i d H1 k1 s hd X1 S1 hs=>by
   obtain⟨v,hv,rv⟩:=(r.ext S X1).get hd;have hx:SqT K H1 p xs:=SqT.of (X1.sqT S p xs hp);refine⟨⟨xs,v,hx,hv⟩,fun x H' y=>?_⟩;obtain⟨rfl,y⟩:=y;have e:=y xs hx;rw[hv] at e;cases e;exact⟨Ext.refl,S1,rv⟩
 stop:=fun H1 k1 s X1 S1 hs=>⟨xs,SqT.of (X1.sqT S p xs hp),by rw[r.length];exact Af _⟩
 stop':=fun H1 k1 s i hi X1 S1 hs=>⟨xs,SqT.of (X1.sqT S p xs hp),by rw[r.length];exact hi⟩
theorem zo7{tg l:Expr}(hl:SE X l m):SI X tg l (mWT m):=PI.imp (zpt hl) <| by
 rintro σ H R ⟨ρ,st,io,W,st',E,S,e,k⟩;obtain⟨⟨d,s1⟩,e1,e⟩:=zac e;dsimp only at e
 split at e
 . rename_i ds;cases e;refine⟨ρ,st,io,_,_,E,S,e1,fun v H1 k1 X1 S1 R1=>?_⟩;obtain⟨p,xs,rfl,hp,r⟩:=R1;exact⟨p,rfl,⟨xs,SqT.of hp⟩,k _ H1 k1 X1 S1 (zqk S1 hp r)⟩
 . cases e
noncomputable def run(lo:Int)(n:Nat):List D:=(AN n).map fun (k:Nat)=>D.int (lo+(k:Int))
theorem zcZ(lo:Int)(n:Nat):(run lo n).length=n:=by unfold run;rw[Ak,CI]
theorem run_get{lo:Int}{n i:Nat}{d:D}(h:(run lo n)[i]?=some d):i < n/\d=.int (lo+(i:Int)):=by
 have hi:i < n:=by
   have q:=(List.getElem?_eq_some_iff.mp h).1
   rwa [zcZ] at q
 unfold run at h;rw[AD,Dh hi] at h;exact⟨hi,(Ax h).symm⟩
theorem zod(lo:Int)(n:Nat):ItOk K H io ⟨run lo n,[]⟩ (Itr lo n) where
 go:=fun i d H1 k1 s hd X1 S1 hs=>by
   obtain⟨hi,rfl⟩:=run_get hd;refine⟨hi,fun x H' y=>?_⟩;obtain⟨rfl,rfl⟩:=y;exact⟨Ext.refl,S1,rfl⟩
 stop:=fun H1 k1 s X1 S1 hs=>by
   show n<=_;rw[zcZ];exact Af _
 stop':=fun H1 k1 s i hi X1 S1 hs=>by
   show n<=i;have hi:(run lo n).length<=i:=hi
   rwa [zcZ] at hi
noncomputable def small(j:Int):Bool:=decide (-(2 ^ 62)<=j)&&decide (j < 2 ^ 62)
theorem zck{j:Int}(h:small j=true):-(2 ^ 62)<=j/\j < 2 ^ 62:=by
 unfold small at h;rw[Av] at h;exact⟨of_decide_eq_true h.1,of_decide_eq_true h.2⟩
noncomputable def mR1(m:ME):MI:=fun ρ st=>(m ρ st).bind fun (d,s)=>match d with
 | .int j=>if small j=true then some (⟨run 0 j.toNat,[]⟩,s) else none
 | _=>none
theorem zf0{tg a:Expr}{p pos:Pos}(hg:Gl X "range")(hm:X.mg "range"=none)(ha:SE X a m)(hs:starEach [a] X.env=[(false,eval a X.env)]:=by rfl):SI X tg (.Call (.Name "range" p) [a] [] pos) (mR1 m) :=
 PI.imp (zjj hg hm (zaa ha zag hs) hs) <| by
   rintro σ H R ⟨ρ,st,io,W,st',E,S,e,k⟩;obtain⟨⟨d,s1⟩,e1,e⟩:=zac e;dsimp only at e
   split at e
   . rename_i j;obtain⟨hj,e⟩:=zap e;cases e;refine⟨ρ,st,io,[.int j],_,E,S,(zcO e1 rfl),fun vs H1 k1 X1 S1 R1=>?_⟩;obtain⟨v,rfl,rfl⟩:=R1.one;exact⟨j,rfl,(zck hj).1,(zck hj).2,k _ H1 k1 X1 S1 (zod 0 _)⟩
   . cases e
noncomputable def mR2(m n:ME):MI:=fun ρ st=>(m ρ st).bind fun (d,s)=>(n ρ s).bind fun (d2,s2)=>match d,d2 with
 | .int i,.int j=>if (small i&&small j)=true then some (⟨run i (j - i).toNat,[]⟩,s2) else none
 | _,_=>none
theorem zb6{tg a b:Expr}{p pos:Pos}(hg:Gl X "range")(hm:X.mg "range"=none)(ha:SE X a ma)(hb:SE X b mb)(hs:starEach [a,b] X.env=[(false,eval a X.env),(false,eval b X.env)]:=by rfl)(hs2:starEach [b] X.env=[(false,eval b X.env)]:=by rfl):SI X tg (.Call (.Name "range" p) [a,b] [] pos) (mR2 ma mb) :=
 PI.imp (zji hg hm (zaa ha (zaa hb zag hs2) (by rw[hs,hs2])) hs hs2) <| by
   rintro σ H R ⟨ρ,st,io,W,st',E,S,e,k⟩;obtain⟨⟨d,s1⟩,e1,e⟩:=zac e;obtain⟨⟨d2,s2⟩,e2,e⟩:=zac e
   cases d with
   | int i =>
     cases d2 with
     | int j =>
       obtain⟨hj,e⟩:=zap e;cases e;rw[Av] at hj;refine⟨ρ,st,io,[.int i,.int j],_,E,S,(zcO e1 (zcO e2 rfl)),fun vs H1 k1 X1 S1 R1=>?_⟩;obtain⟨v,u,rfl,rfl,rfl⟩:=R1.two;exact⟨i,j,rfl,⟨(zck hj.1).1,(zck hj.1).2,(zck hj.2).1,(zck hj.2).2⟩,k _ H1 k1 X1 S1 (zod i _)⟩
     | _=>cases e
   | _=>cases e
end
noncomputable def rho(n:Nat)(ds:List D):Rho:=ds.map some++BV (n - ds.length) none
noncomputable def fnM(n:Nat)(m:MS):GN:=fun ds st=>(m (rho n ds) st).bind fun (f,s)=>match f with
 | .rt d=>some (d,s)
 | .nx _=>some (.non,s)
 | _=>none
theorem zjL{K:Ac}{H:Hp}{io:List Addr}{N:List Str}{vs:List V}{ds:List D}(R:Reps K H io vs ds):EnvR K H io (start N vs) (rho N.length ds):=by
 have hl:=R.length;refine⟨by unfold start rho;simp[hl],fun i d h=>?_⟩;unfold rho at h;unfold start
 by_cases hi:i < ds.length
 . rw[Ar (by simpa using hi),AD] at h
   cases e:ds[i]? with
   | none=>rw[e] at h;cases h
   | some d' =>
     rw[e] at h
     cases (Ax (Ax h))
     obtain⟨v,hv,r⟩:=R.get e;exact⟨v,by rw[Ar (by simpa[hl] using hi),AD,hv];rfl,r⟩
 . rw[AK (by simpa using hi),B3] at h
   split at h <;> cases h
section
variable {P:Program} {w:World} {K:Ac} {mg:Str->Option Value} {base:Heap}
theorem fn_m{x qual:Str}{st:Stmt}{f:Addr}{fd:FuncData}{N ps:List Str}{k:Nat}{m:MS}(F:Fun K x qual st f fd)(S:FnScope N ps (zal st))
   (hbody:∀ (cdv:Value) (A:Around) (outer:List Env) (s:Shared) (H:Hp) (E:XK),Room k (A.deeper (envOfC qual (zal st) s.heap.objs.size f cdv)) ->
     SSs (cxOf CX0 P w K mg base N qual (zal st) f cdv A outer s H E).nox (zcd st) m):FnOk P w K mg base CX0 (k+1) f fd ps (spM K ps.length (fnM N.length m)):=by
 refine F.ok S (fun vs H Q E ⟨_,_,_,_,_,h,_⟩=>h) fun cdv A outer s H vs Q E hr h=>?_;obtain⟨ds,st0,io,d,st',hl,R,SR,e,k'⟩:=h;refine⟨_,hbody cdv A outer s H E hr,?_⟩;obtain⟨⟨fl,s1⟩,e1,e⟩:=zac e;refine zkQ (zjL R) SR e1 ?_
 cases fl with
 | rt dd=>cases e;exact k'
 | nx ρ=>cases e;exact fun σ' H' ka X' S' E'=>k' .non H' ka X' S' rfl
 | bk ρ=>cases e
 | ct ρ=>cases e
end
noncomputable def clOf(cells:List (Str×Addr)):List (Str×NameKind)->List (Str×Addr)->List (Str×Addr)
 | [],acc=>acc
 | (n,k)::r,acc=>if k==.free then clOf cells r ((n,(cells.lookup n).getD 0)::acc) else clOf cells r acc
theorem zdv{env:Env}(f:Str×NameKind->List (Str×Addr)->Sem (ForInStep (List (Str×Addr))))
   (hf:∀ n k acc,f (n,k) acc=if k==.free then (do let c <-cellOf env n;pure (.yield ((n,c)::acc))) else pure (.yield acc)) :
   ∀ (names:List (Str×NameKind)) (acc:List (Str×Addr)),(∀ n,(n,AG)∈names->∃ c,env.cells.lookup n=some c)->(forIn names acc f:Sem (List (Str×Addr)))=pure (clOf env.cells names acc)
 | [],acc,_=>by rw[CG];rfl
 | (n,k)::r,acc,h=>by
   rw[D3,hf];unfold clOf
   cases hk:k==AG with
   | false =>
     rw[if_neg (by simp),if_neg (by simp)];have:=zdv f hf r acc fun m hm=>h m (Ag _ hm);rw[<-this];rfl
   | true =>
     rw[if_pos rfl,if_pos rfl];have hk':k=AG:=by simpa using hk
     obtain⟨c,hc⟩:=h n (by rw[hk'];exact Am);have:=zdv f hf r ((n,c)::acc) fun m hm=>h m (Ag _ hm);rw[hc,DN,<-this];unfold cellOf;rw[hc];rfl
theorem ziG{env:Env}{scope:Scope}(h:∀ n,(n,AG)∈scope.names->∃ c,env.cells.lookup n=some c):closureFor scope env=pure (clOf env.cells scope.names []):=by
 unfold closureFor;have:=zdv (env:=env) (fun x acc=>(match x with | (n,k)=>if k==.free then (do let c <-cellOf env n;pure (.yield ((n,c)::acc))) else pure (.yield acc))) (fun _ _ _=>rfl) scope.names [] h;refine Eq.trans ?_ this;simp only[bind_pure]
theorem zfK{cells:List (Str×Addr)}:∀ {names:List (Str×NameKind)} {acc:List (Str×Addr)} {p:Str×Addr},p∈clOf cells names acc->p∈acc\/((p.1,AG)∈names/\p.2=(cells.lookup p.1).getD 0)
 | [],acc,p,h=>.inl h
 | (n,k)::r,acc,p,h=>by
   unfold clOf at h
   cases hk:k==AG with
   | false =>
     rw[hk,if_neg (by simp)] at h
     rcases zfK h with h | h
     . exact .inl h
     . exact .inr ⟨Ag _ h.1,h.2⟩
   | true =>
     rw[hk,if_pos rfl] at h;have hk':k=AG:=by simpa using hk
     rcases zfK h with h | h
     . rcases List.mem_cons.mp h with h | h
       . subst h;exact .inr ⟨by rw[hk'];exact Am,rfl⟩
       . exact .inl h
     . exact .inr ⟨Ag _ h.1,h.2⟩
theorem zeq{cells:List (Str×Addr)}:∀ {names:List (Str×NameKind)} {acc:List (Str×Addr)} {x:Str},((x,AG)∈names\/(acc.lookup x).isSome=true)->((clOf cells names acc).lookup x).isSome=true
 | [],acc,x,h=>by
   rcases h with h | h
   . exact absurd h (by simp)
   . exact h
 | (n,k)::r,acc,x,h=>by
   unfold clOf
   cases hk:k==AG with
   | false =>
     rw[if_neg (by simp)];refine zeq ?_
     rcases h with h | h
     . rcases List.mem_cons.mp h with h | h
       . have:k=AG:=(CM h).2.symm;rw[this] at hk;exact absurd hk (by decide)
       . exact .inl h
     . exact .inr h
   | true =>
     rw[if_pos rfl];refine zeq ?_
     by_cases hx:x=n
     . subst hx;exact .inr (by simp)
     . rcases h with h | h
       . rcases List.mem_cons.mp h with h | h
         . exact absurd (CM h).1 hx
         . exact .inl h
       . refine .inr ?_;rw[Bj];have:(x==n)=false:=by simpa using hx
         rw[this];exact h
theorem zeg:∀ {names:List (Str×NameKind)} {n:Nat} {acc:List (Str×Addr)} {p:Str×Addr},p∈cellsFrom n names acc->p∈acc\/n<=p.2
 | [],_,_,_,h=>.inl h
 | (x,k)::r,n,acc,p,h=>by
   unfold cellsFrom at h
   split at h
   . rcases zeg h with h | h
     . rcases List.mem_cons.mp h with h | h
       . subst h;exact .inr (Af _)
       . exact .inl h
     . exact .inr (BR h)
   . exact zeg h
theorem zcS:∀ {names:List (Str×NameKind)} {n:Nat} {acc:List (Str×Addr)},(acc.Pairwise fun x y=>x.2≠y.2)->(∀ p∈acc,p.2 < n)->(cellsFrom n names acc).Pairwise fun x y=>x.2≠y.2
 | [],_,_,h,_=>h
 | (x,k)::r,n,acc,h,hl=>by
   unfold cellsFrom
   split
   . refine zcS (List.pairwise_cons.mpr ⟨fun y hy e=>?_,h⟩) fun p hp=>?_
     . have q:=hl y hy;have e':n=y.2:=e;rw[<-e'] at q;exact AX _ q
     . rcases List.mem_cons.mp hp with rfl | hp
       . exact Fp _
       . exact Fe (hl p hp)
   . exact zcS h hl
theorem zhU:∀ {names:List (Str×NameKind)} {n:Nat} {acc:List (Str×Addr)} {x:Str},((x,AR)∈names\/(acc.lookup x).isSome=true)->((cellsFrom n names acc).lookup x).isSome=true
 | [],n,acc,x,h=>by
   rcases h with h | h
   . exact absurd h (by simp)
   . exact h
 | (m,k)::r,n,acc,x,h=>by
   unfold cellsFrom
   cases hk:k==AR with
   | false =>
     rw[if_neg (by simp)];refine zhU ?_
     rcases h with h | h
     . rcases List.mem_cons.mp h with h | h
       . have:k=AR:=(CM h).2.symm;rw[this] at hk;exact absurd hk (by decide)
       . exact .inl h
     . exact .inr h
   | true =>
     rw[if_pos rfl];refine zhU ?_
     by_cases hx:x=m
     . subst hx;exact .inr (by simp)
     . rcases h with h | h
       . rcases List.mem_cons.mp h with h | h
         . exact absurd (CM h).1 hx
         . exact .inl h
       . refine .inr ?_;rw[Bj];have:(x==m)=false:=by simpa using hx
         rw[this];exact h
theorem zef:∀ {names:List (Str×NameKind)} {n:Nat} {acc:List (Str×Addr)} {x:Str},(x,AR) ∉ names->(cellsFrom n names acc).lookup x=acc.lookup x
 | [],_,_,_,_=>rfl
 | (m,k)::r,n,acc,x,h=>by
   unfold cellsFrom
   cases hk:k==AR with
   | false=>rw[if_neg (by simp)];exact zef fun q=>h (Ag _ q)
   | true =>
     rw[if_pos rfl,zef fun q=>h (Ag _ q),Bj];have hk':k=AR:=by simpa using hk
     have:(x==m)=false:=by
       cases e:x==m with
       | false=>rfl
       | true=>exact absurd (by rw[hk',show x=m by simpa using e];exact Am) h
     rw[this]
theorem zhV:∀ {names:List (Str×NameKind)} {n:Nat} {acc:List (Str×Addr)} {x:Str} {c:Addr},(x,AR)∈names->(cellsFrom n names acc).lookup x=some c->n<=c
 | [],_,_,_,_,h,_=>absurd h (by simp)
 | (m,k)::r,n,acc,x,c,h,e=>by
   unfold cellsFrom at e
   cases hk:k==AR with
   | false =>
     rw[hk,if_neg (by simp)] at e
     rcases List.mem_cons.mp h with h | h
     . have:k=AR:=(CM h).2.symm;rw[this] at hk;exact absurd hk (by decide)
     . exact zhV h e
   | true =>
     rw[hk,if_pos rfl] at e
     by_cases hr:(x,AR)∈r
     . exact BR (zhV hr e)
     . rw[zef hr] at e
       rcases List.mem_cons.mp h with h | h
       . have hx:x=m:=(CM h).1;subst hx;rw[List.lookup_cons_self] at e;exact Nat.le_of_eq (Ax e)
       . exact absurd h hr
theorem zed:∀ {names:List (Str×NameKind)} {h:Heap} {acc:List (Str×Addr)} {p:Str×Addr},p∈cellsFrom h.objs.size names acc->p∈acc\/(pushCells h names).IsCell p.2 none
 | [],_,_,_,h=>.inl h
 | (x,k)::r,h,acc,p,e=>by
   unfold cellsFrom at e;unfold pushCells
   split at e
   . rename_i hk;rw[if_pos hk];have sz:(h.push { cls:=.type "cell",data:=.cell none }).objs.size=h.objs.size+1:=Bz ..;rw[<-sz] at e
     rcases zed e with q | q
     . rcases List.mem_cons.mp q with q | q
       . subst q;exact .inr ⟨_,C4 _ _ _ _ (Aq _ rfl),rfl⟩
       . exact .inl q
     . exact .inr q
   . rename_i hk;rw[if_neg hk];exact zed e
noncomputable def zcz(X:Cx)(scope:Scope)(N':List Str)(cells:List (Str×Addr))(C:Addr)(s0:Shared)(H0:Hp)(ex:List Addr):Cx :=
 { X with N:=N',s₀:=s0,H₀:=H0,env:=compEnvC scope cells C X.env,outer:=X.stack,ex:=ex,fn:=fun x=>scope.names.any fun p=>p.1==x&&p.2==.cell,pn:=[],xe:=fun _ _=>False }
structure CompS(X:Cx)(scope:Scope)(N':List Str)(nt:Nat)(fr:List Nat):Prop where
 kind:scope.kind=.function
 nd:(scope.names.map (·.1)).Nodup
 len:N'.length=nt+fr.length
 cap:∀ (i j:Nat) (x:Str),fr[i]?=some j->N'[nt+i]?=some x->X.N[j]?=some x/\(x,AG)∈scope.names
 out:∀ x,(x,AG)∈scope.names->X.env.kindOf x=some .cell\/X.env.kindOf x=some .free
theorem lookup_mem:∀ {l:List (Str×NameKind)} {x:Str} {k:NameKind},(l.map (·.1)).Nodup->(x,k)∈l->l.lookup x=some k
 | [],_,_,_,h=>absurd h (by simp)
 | (n,j)::r,x,k,nd,h=>by
   rw[Ao,Cr] at nd;rw[Bj]
   rcases List.mem_cons.mp h with h | h
   . cases h;simp
   . have:x≠n:=fun e=>nd.1 (by rw[<-e];exact List.mem_map.mpr ⟨_,h,rfl⟩);have:(x==n)=false:=by simpa using this
     rw[this];exact lookup_mem nd.2 h
theorem zbv{env:Env}:∀ {l:List (Str×NameKind)} {x:Str} {k:NameKind},(l.map fun (n,k)=>if (k==AG&&env.scope.kind==.function&&env.kindOf n==some .cell) then (n,AR) else (n,k)).lookup x=some k ->
   ∃ k',l.lookup x=some k'/\(k'=k\/k'=.free)
 | [],_,_,h=>by simp at h
 | (n,j)::r,x,k,h=>by
   rw[Ao] at h;dsimp only at h
   by_cases hc:(j==AG&&env.scope.kind==.function&&env.kindOf n==some .cell)=true
   . rw[if_pos hc,Bj] at h;rw[Bj]
     cases hx:x==n with
     | true =>
       have:j=.free:=by
         rw[Av,Av] at hc;simpa using hc.1.1
       exact⟨j,rfl,.inr this⟩
     | false=>rw[hx] at h;exact zbv h
   . rw[if_neg hc,Bj] at h;rw[Bj]
     cases hx:x==n with
     | true=>rw[hx] at h;cases h;exact⟨j,rfl,.inl rfl⟩
     | false=>rw[hx] at h;exact zbv h
theorem zcl{env:Env}:∀ {l:List (Str×NameKind)} {x:Str},l.lookup x=some .free ->
   (l.map fun (n,k)=>if (k==AG&&env.scope.kind==.function&&env.kindOf n==some .cell) then (n,AR) else (n,k)).lookup x=some .cell \/
   (l.map fun (n,k)=>if (k==AG&&env.scope.kind==.function&&env.kindOf n==some .cell) then (n,AR) else (n,k)).lookup x=some .free
 | [],_,h=>by simp at h
 | (n,j)::r,x,h=>by
   rw[Ao];dsimp only;rw[Bj] at h
   by_cases hc:(j==AG&&env.scope.kind==.function&&env.kindOf n==some .cell)=true
   . rw[if_pos hc,Bj]
     cases hx:x==n with
     | true=>exact .inl rfl
     | false=>rw[hx] at h;exact zcl h
   . rw[if_neg hc,Bj]
     cases hx:x==n with
     | true=>rw[hx] at h;cases h;exact .inr rfl
     | false=>rw[hx] at h;exact zcl h
section
variable {X:Cx} {scope:Scope} {N':List Str} {nt:Nat} {fr:List Nat} {pins:List (Addr×Obj)} {σ:L2.St} {H:Hp} {s:Shared}
noncomputable abbrev clX (X:Cx) (scope:Scope):List (Str×Addr):=clOf X.env.cells scope.names []
noncomputable abbrev zcA (X:Cx) (scope:Scope) (C:Nat):List (Str×Addr):=cellsFrom (C+1) scope.names (clX X scope)
theorem ziH(Z:CompS X scope N' nt fr)(ok:X.Ok){p:Str×Addr}(h:p∈clX X scope):(p.1,AG)∈scope.names/\X.env.cells.lookup p.1=some p.2:=by
 rcases zfK h with h | ⟨h1,h2⟩
 . exact absurd h (by simp)
 . obtain⟨c,hc⟩:=ok.has p.1 (Z.out p.1 h1);rw[hc,DN] at h2;exact⟨h1,by rw[hc,h2]⟩
theorem zjQ(Z:CompS X scope N' nt fr)(ok:X.Ok){x:Str}(h:(x,AG)∈scope.names):∃ c,X.env.cells.lookup x=some c/\∀ C,(zcA X scope C).lookup x=some c:=by
 obtain⟨c,hc⟩:=ok.has x (Z.out x h);refine⟨c,hc,fun C=>?_⟩;have no:(x,AR) ∉ scope.names:=fun q=>by
   have a:=lookup_mem Z.nd h;have b:=lookup_mem Z.nd q;rw[a] at b;cases b
 rw[zef no];have q:=zeq (cells:=X.env.cells) (acc:=[]) (.inl h);obtain⟨c',e⟩:=Option.isSome_iff_exists.mp q;have:=(ziH Z ok (AQ e)).2;have this:X.env.cells.lookup x=some c':=this;rw[hc] at this;rw[e,this]
theorem zms(Z:CompS X scope N' nt fr)(ok:X.Ok):(clX X scope).Pairwise fun x y=>x.2≠y.2:=by
 have gen:∀ (names:List (Str×NameKind)) (acc:List (Str×Addr)),(∀ n,(n,AG)∈names->∃ c,X.env.cells.lookup n=some c)->(names.map (·.1)).Nodup->(∀ p∈acc,p.1 ∉ names.map (·.1)/\X.env.cells.lookup p.1=some p.2)->(acc.Pairwise fun x y=>x.2≠y.2) ->
     (clOf X.env.cells names acc).Pairwise fun x y=>x.2≠y.2:=by
   intro names
   induction names with
   | nil=>intro acc _ _ _ h;exact h
   | cons p r ih =>
     intro acc hf nd ha hp;obtain⟨n,k⟩:=p;rw[Ao,Cr] at nd;unfold clOf
     cases hk:k==AG with
     | false =>
       rw[if_neg (by simp)];exact ih acc (fun m hm=>hf m (Ag _ hm)) nd.2 (fun q hq=>⟨fun z=>(ha q hq).1 (by rw[Ao];exact Ag _ z),(ha q hq).2⟩) hp
     | true =>
       rw[if_pos rfl];have hk':k=AG:=by simpa using hk
       obtain⟨c,hc⟩:=hf n (by rw[hk'];exact Am);refine ih _ (fun m hm=>hf m (Ag _ hm)) nd.2 (fun q hq=>?_) (List.pairwise_cons.mpr ⟨fun y hy e=>?_,hp⟩)
       . rcases List.mem_cons.mp hq with rfl | hq
         . exact⟨nd.1,by rw[hc];rfl⟩
         . exact⟨fun z=>(ha q hq).1 (by rw[Ao];exact Ag _ z),(ha q hq).2⟩
       . have e1:(X.env.cells.lookup n).getD 0=y.2:=e;rw[hc,DN] at e1;have e2:=(ha y hy).2;rw[<-e1] at e2;have:=ok.inj _ _ _ e2 hc;exact (ha y hy).1 (by rw[this,Ao];exact Am)
 exact gen scope.names [] (fun n hn=>ok.has n (Z.out n hn)) Z.nd (fun p hp=>absurd hp (by simp)) Fd
theorem zmr{M:Model}{A:Around}{E:Value->Shared->Prop}{env:Env}{cl:List (Str×Addr)}{Q:Env->Shared->Prop}
   (h:Q { scope:=scope,locals:=s.heap.objs.size,globals:=env.globals,cells:=cellsFrom (s.heap.objs.size+1) scope.names cl,qual:=env.qual,func:=none,code:=env.code,frame:=env.frame,builtins:=env.builtins }
     { s with heap:=pushCells (s.heap.push { cls:=.type "dict",data:=.dict #[] }) scope.names }) :
   wpAny M A (newFunctionEnv scope env.globals cl [] env.qual none .none (some env)) Q E s:=by
 simp only[newFunctionEnv,ES,if_true];refine Aa (wpAny_alloc ?_);refine Aa (wpAny_layCells _ (fun name kind cells=>by cases hkc:kind==AR <;> simp[hkc]) _ _ _ _ ?_);rw[show ({ s with heap:=s.heap.push { cls:=.type "dict",data:=.dict #[] } }:Shared).heap.objs.size=s.heap.objs.size+1 from Bz ..];rw[CG];exact Aa (Ae (Ae h))
noncomputable def zjP(σ:L2.St)(nt:Nat)(fr:List Nat):L2.St:=BV nt none++fr.map fun (j:Nat)=>(σ[j]?).join
theorem zl6{fp:List Addr}(Z:CompS X scope N' nt fr)(I:Inv X pins σ H s)(hf:∀ b∈fp,FpOk X pins H b)(hlt:∀ b∈fp,b < s.heap.objs.size) :
   Inv (zcz X scope N' (zcA X scope s.heap.objs.size) s.heap.objs.size s H fp) [] (zjP σ nt fr) H { s with heap:=pushCells (s.heap.push { cls:=.type "dict",data:=.dict #[] }) scope.names }:=by
 have ok:=I.ok;have kp:∀ b o,s.heap.get? b=some o->(pushCells (s.heap.push { cls:=.type "dict",data:=.dict #[] }) scope.names).get? b=some o:=fun b o e=>C4 _ _ b o (Ad _ e);have clt:∀ p∈clX X scope,p.2 < s.heap.objs.size:=fun p hp=>by
   obtain⟨_,e⟩:=ziH Z ok hp;obtain⟨v,q⟩:=I.cell p.1 p.2 e;exact q.lt
 have sz:(s.heap.push { cls:=.type "dict",data:=.dict #[] }).objs.size=s.heap.objs.size+1:=Bz ..;have cells:∀ x c,(zcA X scope s.heap.objs.size).lookup x=some c->(X.env.cells.lookup x=some c)\/(s.heap.objs.size+1<=c/\(pushCells (s.heap.push { cls:=.type "dict",data:=.dict #[] }) scope.names).IsCell c none):=fun x c e=>by
   have m:=AQ e
   rcases zeg m with h | h
   . exact .inl (ziH Z ok h).2
   . refine .inr ⟨h,?_⟩;have m':(x,c)∈cellsFrom (s.heap.push { cls:=.type "dict",data:=.dict #[] }).objs.size scope.names (clX X scope):=by rw[sz];exact m
     rcases zed m' with q | q
     . have l:=clt _ q;exact absurd (AB l (BR h)) (AX _)
     . exact q
 refine⟨⟨ok.mod,Z.kind,ok.glob,ok.blt,Af _,fun x y c h1 h2=>?_,fun x hx=>?_,fun x c h1 h2=>?_,ok.hd,ok.frames,.inl rfl,fun b hb=>?_,I.bs,AF ok.bsz I.sz,fun b o e hb=>?_,fun b hb=>?_,I.stack,I.stkFree⟩,
   rfl,I.bare,Un.kept kp,⟨fun _=>none,?_,fun i x v h1 h2 h3=>?_⟩,fun x c e=>?_,I.hok.fresh (Af _),fun x c e=>?_,fun p hp=>absurd hp (by simp[zcz]),I.hok.kept kp,?_⟩
 . exact name_of_addr (zcS (zms Z ok) fun p hp=>Fe (clt p hp)) (AQ h1) (AQ h2)
 . have hx:(relabel scope X.env).names.lookup x=some .cell\/(relabel scope X.env).names.lookup x=some .free:=hx;have q:(x,AR)∈scope.names\/(x,AG)∈scope.names:=by
     rcases hx with hx | hx
     . obtain⟨k',e,z | z⟩:=zbv hx
       . subst z;exact .inl (AQ e)
       . subst z;exact .inr (AQ e)
     . obtain⟨k',e,z | z⟩:=zbv hx
       . subst z;exact .inr (AQ e)
       . subst z;exact .inr (AQ e)
   refine Option.isSome_iff_exists.mp (zhU (n:=s.heap.objs.size+1) (acc:=clX X scope) ?_)
   rcases q with q | q
   . exact .inl q
   . exact .inr (zeq (.inl q))
 . have h1:(scope.names.any fun p=>p.1==x&&p.2==AR)=true:=h1;obtain⟨p,hp,e⟩:=List.any_eq_true.mp h1;rw[Av] at e;have e1:p.1=x:=by simpa using e.1
   have e2:p.2=AR:=by simpa using e.2
   have hm:(x,AR)∈scope.names:=by rw[<-e1,<-e2];exact hp
   exact BR (zhV hm h2)
 . refine⟨Aw (hlt b hb),fun x c e z=>?_⟩
   rcases cells x c e with q | ⟨q,_⟩
   . exact (hf b hb).2.2.2.2.1 x c q z
   . have l:=hlt b hb;rw[<-z] at l;exact absurd (AB l (BR q)) (AX _)
 . rcases (hf b hb).2.2.2.1 with z | z
   . exact ok.noex b o e z
   . exact absurd (AB (Al e) (AF ok.bsz z)) (AX _)
 . intro hs
   rcases List.mem_cons.mp (I.stkSub b hs) with e | e
   . exact (hf b hb).2.1 e
   . exact (hf b hb).2.2.1 e
 . exact (Heap.Ns.new s.heap (.type "dict")).keeps (C4 _ _)
 . -- a captured name
   have hi:nt<=i:=by
     by_cases hi:i < nt
     . unfold zjP at h2;rw[Ar (by simpa using hi),B3,if_pos hi] at h2;cases h2
     . omega
   obtain⟨i',rfl⟩:∃ i',i=nt+i':=⟨i - nt,by omega⟩
   unfold zjP at h2;rw[AK (by simp),Ci,Nat.add_sub_cancel_left,AD] at h2
   cases ej:fr[i']? with
   | none=>rw[ej] at h2;cases h2
   | some j =>
     rw[ej] at h2;have h2:(σ[j]?).join=some v:=Ax h2;have h2:σ[j]?=some (some v):=by
       cases q:σ[j]? with
       | none=>rw[q] at h2;cases h2
       | some w=>rw[q] at h2;cases w with
         | none=>cases h2
         | some w=>cases h2;rfl
     obtain⟨hN,hfree⟩:=Z.cap i' j x ej h1;obtain⟨c,hc,hcc⟩:=zjQ Z ok hfree;have ho:=Z.out x hfree;obtain⟨m,hn,hl⟩:=I.loc;obtain⟨u,r,l⟩:=hl j x v hN h2 (ho.elim (fun z=>.inr (.inl z)) fun z=>.inr (.inr z));refine⟨u,r,.inr ⟨?_,c,hcc _,?_⟩⟩
     . exact zcl (lookup_mem Z.nd hfree)
     . rcases l with ⟨k,_⟩ | ⟨_,c',e',z⟩
       . rcases ho with q | q
         . rw[k] at q;cases q
         . rw[k] at q;cases q
       . rw[hc] at e';cases e';exact z.keeps kp
 . rcases cells x c e with q | ⟨_,q⟩
   . obtain⟨v,z⟩:=I.cell x c q;exact⟨v,z.keeps kp⟩
   . exact⟨none,q⟩
 . rcases cells x c e with q | ⟨q,_⟩
   . exact I.freeC x c q
   . exact I.hok.fresh (BR q)
 . show _=N'.length;unfold zjP;rw[Z.len,AJ,Ci,Ak]
end
noncomputable abbrev FF:Value->Shared->Prop:=fun _ _=>False
theorem zg5{prog:Program}{w:World}{A:Around}{R:Result->Shared->Prop}{s:Shared}{elt target iter:Expr}{ifs:List Expr}{scope:Scope}{pos:Pos}{it acc:Value}{env:Env}(I:Nat->Shared->Prop)
   (turn:∀ n s,I n s->wpAny (model prog w) A (pyNext it) (fun r s1=>match r with
     | none=>R (.ok .next) s1
     | some v=>wpAny (model prog w) A (letOwnedTupleGo target it v) (fun _ s1=>wpAny (model prog w) A (assign target env v) (fun _ s2 =>
         wpAny (model prog w) A (forIn ifs true fun c r=>if r=true then do let ok <-isTrue c env (eval c env);pure (C5 ok) else pure (C5 r)) (fun ok s3 =>
           if ok=true then wpAny (model prog w) A (eval elt env) (fun x s4 =>
             wpAny (model prog w) A (call (.builtin "list.append") [acc,x]) (fun _ s5=>∃ m,m < n/\I m s5) FF s4) FF s3
           else ∃ m,m < n/\I m s3) FF s2) FF s1) FF s1) FF s)
   (n:Nat) (h:I n s) :
   codeAny (model prog w) A (.compLoop (.ListComp elt [⟨target,iter,ifs,0⟩] scope pos) 0 it acc env) R s:=by
 refine codeAny_loop rfl I (fun n s hI=>?_) n h;show wpAny _ A ((compTurn (.ListComp elt [⟨target,iter,ifs,0⟩] scope pos) 0 it acc env).onRaise (fun x=>do noteFrame x env;theTreesLotGoes x)) _ _ s;refine wpAny_noted ?_;rw[compTurn_list];refine Aa (Dt (Aa (Br (turn n s hI) (fun r s₁ h₁=>?_) fun _ _ h'=>False.elim h')))
 cases r with
 | none=>exact Ae h₁
 | some v =>
   refine Aa (Br h₁ (fun _ s₂ h₂=>?_) fun _ _ h'=>False.elim h');refine Aa (Br h₂ (fun _ s₂ h₂=>Aa (Br h₂ (fun ok s₃ h₃=>?_) fun _ _ h'=>False.elim h')) fun _ _ h'=>False.elim h')
   cases ok with
   | false=>exact Ae ⟨rfl,h₃⟩
   | true =>
     exact Aa (Aa (Br h₃ (fun x s₄ h₄=>Aa (Br h₄ (fun _ s₅ h₅=>Ae (Ae ⟨rfl,h₅⟩)) fun _ _ h'=>False.elim h')) fun _ _ h'=>False.elim h'))
noncomputable def mCI(W:Wk)(g:MG)(c:MT)(m:ME):List D->Rho->Sto->Option (List D×Sto)
 | [],ρ,st=>if walked W st=true then some ([],st) else none
 | d::ds,ρ,st=>if walked W st=true then (g d ρ st).bind fun (ρ1,s1)=>(c ρ1 s1).bind fun (b,s2) =>
     if b=true then (m ρ1 s2).bind fun (x,s3)=>(mCI W g c m ds ρ1 s3).map fun (xs,s4)=>(x::xs,s4) else mCI W g c m ds ρ1 s2 else none
noncomputable def rho0(ρ:Rho)(nt:Nat)(fr:List Nat):Rho:=BV nt none++fr.map fun (j:Nat)=>(ρ[j]?).join
noncomputable def zbL(mi:MI)(nt:Nat)(fr:List Nat)(g:MG)(c:MT)(m:ME):ME:=fun ρ st=>(mi ρ st).bind fun (W,s1)=>(mCI W g c m W.ds (rho0 ρ nt fr) s1).bind fun (xs,s2) =>
 if fits xs.length=true then some (.ref s2.length,s2++[.lst xs]) else none
noncomputable def zbT:MT:=fun _ st=>some (true,st)
def SC(X:Cx)(ifs:List Expr)(m:MT):Prop:=∀ (pins:List (Addr×Obj)) (s:Shared) (σ:L2.St) (H:Hp) (Q:Bool->Hp->Prop),Inv X pins σ H s->tT X.K m σ H Q ->
 wpAny (model X.prog X.w) X.A (forIn ifs true fun c r=>if r=true then do let ok <-isTrue c X.env (eval c X.env);pure (C5 ok) else pure (C5 r)) (TP X pins σ Q) X.xe s
theorem zc4{X:Cx}:SC X [] zbT:=by
 rintro pins s σ H Q I ⟨ρ,st,io,b,st',E,S,e,k⟩;cases e;rw[CG];exact Ae ⟨H,I,k H [] Ext.refl S.nil⟩
theorem znf{X:Cx}{c:Expr}{m:MT}(h:SB X c m):SC X [c] m:=fun pins s σ H Q I q=>PySem.wpAny_tests_one (h pins s σ H Q I q)
section
variable {K:Ac} {H H1:Hp} {io ka:List Addr} {st:Sto} {σ:L2.St} {ρ:Rho}
theorem zmj{nt:Nat}{fr:List Nat}(h:EnvR K H io σ ρ):EnvR K H io (zjP σ nt fr) (rho0 ρ nt fr):=by
 refine⟨by unfold zjP rho0;simp,fun i d e=>?_⟩;unfold rho0 at e;unfold zjP
 by_cases hi:i < nt
 . rw[Ar (by simpa using hi),B3,if_pos hi] at e;cases e
 . rw[AK (by simpa using hi),Ci,AD] at e ⊢
   cases ej:fr[i - nt]? with
   | none=>rw[ej] at e;cases e
   | some j =>
     rw[ej] at e;have e:(ρ[j]?).join=some d:=Ax e;have e:ρ[j]?=some (some d):=by
       cases q:ρ[j]? with
       | none=>rw[q] at e;cases e
       | some w=>rw[q] at e;cases w with
         | none=>cases e
         | some w=>cases e;rfl
     obtain⟨v,hv,r⟩:=h.at_ j d e;exact⟨v,by simp[hv],r⟩
theorem adopt{p:Addr}{xs:List V}{ds:List D}(S:StR K H io st)(hp:H p=some (.lst xs))(np:p ∉ io)(R:Reps K H io xs ds):StR K H (io++[p]) (st++[.lst ds]):=by
 refine⟨by simp[S.len],?_,fun n a ob h1 h2=>?_⟩
 . rw[CH];refine⟨S.nd,by simp,fun a ha b hb=>?_⟩;rw[List.mem_singleton.mp hb];rintro rfl;exact np ha
 . by_cases hn:n < io.length
   . rw[Ar hn] at h1;rw[Ar (by rw[<-S.len];exact hn)] at h2;exact OR.mono ⟨fun _ _ h=>h,fun _ _ _ h=>h⟩ rfl (S.ob n a ob h1 h2)
   . have hl:n < (io++[p]).length:=(List.getElem?_eq_some_iff.mp h1).1;rw[AJ,By] at hl;have e:n=io.length:=by omega
     subst e;rw[AK (Af _),BM] at h1;rw[S.len,AK (Af _),BM] at h2
     cases (Ax h1)
     cases (Ax h2)
     exact⟨xs,hp,Reps.mono ⟨fun _ _ h=>h,fun _ _ _ h=>h⟩ R⟩
end
section
variable {X:Cx} {scope:Scope} {N':List Str} {nt:Nat} {fr:List Nat} {elt tg iter:Expr} {ifs:List Expr} {pos:Pos} {mi:MI} {g:MG} {c:MT} {m:ME}
structure CompEnd(X:Cx)(pins:List (Addr×Obj))(σ:L2.St)(H:Hp)(io:List Addr)(d:D)(st':Sto)(Dd C:Addr)(H5:Hp)(s6:Shared):Prop where
 inv:Inv X pins σ H5 s6
 ns:∃ m,s6.heap.Ns C m
 free:H5 C=none
 ne:C≠X.env.locals
 young:X.s₀.heap.objs.size<=C
 cells:∀ x c,X.env.cells.lookup x=some c->c≠C
 pin:∀ p∈X.pn++pins,p.1≠C
 val:∃ ka,Ext io ka H H5/\StR X.K H5 (io++ka) st'/\Rep X.K H5 (io++ka) (.ref Dd) d
inductive CompI (X Y:Cx) (W:Wk) (tn:Nat->Heap->Prop) (fp io:List Addr) (H1:Hp) (Dd:Addr) (g:MG) (c:MT) (m:ME) (t2:Sto) (xs:List D) (n:Nat) (s5:Shared):Prop
 | mk (i:Nat) (σ5:L2.St) (H5:Hp) (ρ5:Rho) (st5:Sto) (k5:List Addr) (ac rs:List D) (h0:n=W.ds.length - i) (h1:Inv Y [] σ5 H5 s5) (h2:tn i s5.heap) (h3:∀ b∈fp,H5 b=none) (h4:Ext io k5 H1 H5) (h5:Dd ∉ k5) (h6:StR X.K H5 (io++k5) st5) (h7:EnvR X.K H5 (io++k5) σ5 ρ5) (h8:∃ vs,H5 Dd=some (.lst vs)/\Reps X.K H5 (io++k5) vs ac) (h9:mCI W g c m (W.ds.drop i) ρ5 st5=some (rs,t2)) (h10:xs=ac++rs)
theorem ziF(hx:X.xe=FF)(hc:X.calm=true)(Z:CompS X scope N' nt fr)(hi:SI X tg iter mi)
   (hg:∀ C s0 H0 fp,SG (zcz X scope N' (zcA X scope C) C s0 H0 fp) tg g) (ht:∀ C s0 H0 fp,SC (zcz X scope N' (zcA X scope C) C s0 H0 fp) ifs c) (he:∀ C s0 H0 fp,SE (zcz X scope N' (zcA X scope C) C s0 H0 fp) elt m)
   (hs:∀ x,foldedSetIterable iter X.env x=pure x) {pins:List (Addr×Obj)} {s:Shared} {σ:L2.St} {H:Hp} {ρ:Rho} {st st':Sto} {io:List Addr} {d:D} {use:Option (Value->Sem Unit)} {Qf:Value->Shared->Prop} {ps:Pos}
   (I:Inv X pins σ H s) (E:EnvR X.K H io σ ρ) (S:StR X.K H io st) (e:zbL mi nt fr g c m ρ st=some (d,st'))
   (kf:∀ Dd C H5 s6,CompEnd X pins σ H io d st' Dd C H5 s6->compPost (model X.prog X.w) X.A X.xe use Qf (.ref Dd) C (.ok .next) s6) :
   wpAny (model X.prog X.w) X.A (comprehension (.ListComp elt [⟨tg,iter,ifs,0⟩] scope pos) scope X.env ps (newList []) false (eval iter X.env) use) Qf X.xe s:=by
 obtain⟨⟨W,t1⟩,e1,e⟩:=zac e;obtain⟨⟨xs,t2⟩,e2,e⟩:=zac e;obtain⟨hfit,e⟩:=zap e;cases e;refine wpAny_comprehension_free (use:=use) rfl hs (ziG fun n hn=>I.ok.has n (Z.out n hn)) Z.kind (fun x hx hl=>by
   obtain⟨n,k⟩:=x
   cases (show k=.local from hl)
   exact lookup_mem Z.nd hx) ?_
 refine thn (hi pins s σ H (fun J H1=>∃ ka,Ext io ka H H1/\StR X.K H1 (io++ka) t1/\ItOk X.K H1 (io++ka) W J) I ⟨ρ,st,io,W,t1,E,S,e1,fun J H' ka X' S' O'=>⟨ka,X',S',O'⟩⟩) fun v sa ha=>?_;refine thn ha ?_;rintro itv s2 ⟨it,fp,tn,J,H1,eit,I1,T,tn0,fpok,k1,X1,S1,IO⟩;subst eit;refine A7 ?_
 -- the new list
 have hD:H1 s2.heap.objs.size=none:=I1.hok.fresh (Af _);have I3:Inv X pins σ (upd H1 s2.heap.objs.size (.lst [])) { s2 with heap:=s2.heap.push { cls:=.type "list",data:=.seq ([]:List Value).toArray },toks:=s2.toks }:=I1.lnew .nil (Bc _);obtain⟨X2,S2a⟩:=zdU (o:=.lst []) S1 hD;rw[Ai] at S2a;have S2:StR X.K (upd H1 s2.heap.objs.size (.lst [])) (io++k1) t1:=S2a;clear S2a;generalize hH3:upd H1 s2.heap.objs.size (.lst [])=H3 at I3 X2 S2;have H3D:H3 s2.heap.objs.size=some (.lst []):=by rw[<-hH3];exact zba
 generalize hD':s2.heap.objs.size=Dd at hD I3 X2 S2 hH3 H3D ⊢;generalize hs3:({ s2 with heap:=s2.heap.push { cls:=.type "list",data:=.seq ([]:List Value).toArray },toks:=s2.toks }:Shared)=s3 at I3;have fplt:∀ b∈fp,b < s3.heap.objs.size:=fun b hb=>by
   obtain⟨o,ho,_⟩:=T.obj 0 _ tn0 b hb;rw[<-hs3];exact AB (Al ho) (by show _<=(s2.heap.push _).objs.size;rw[Bz];exact Fn _)
 have fpD:∀ b∈fp,b≠Dd:=fun b hb z=>by
   obtain⟨o,ho,_⟩:=T.obj 0 _ tn0 b hb;have:=Al ho;rw[z,<-hD'] at this;exact AX _ this
 have fp3:∀ b∈fp,FpOk X pins H3 b:=fun b hb=>⟨by rw[<-hH3,zaA (fpD b hb)];exact (fpok b hb).1,(fpok b hb).2⟩
 have tn3:tn 0 s3.heap:=T.keep 0 _ _ tn0 fun b _ o ho=>by rw[<-hs3];exact Ad _ ho
 refine zmr ?_;have I4:=zl6 (fp:=fp) Z I3 fp3 fplt;have tn4:tn 0 (pushCells (s3.heap.push { cls:=.type "dict",data:=.dict #[] }) scope.names):=T.keep 0 _ _ tn3 fun b _ o ho=>C4 _ _ _ _ (Ad _ ho);generalize hs4:({ s3 with heap:=pushCells (s3.heap.push { cls:=.type "dict",data:=.dict #[] }) scope.names }:Shared)=s4 at I4;have tn4:tn 0 s4.heap:=by rw[<-hs4];exact tn4
 show codeAny (model X.prog X.w) X.A (.compStart (.ListComp elt [⟨tg,iter,ifs,0⟩] scope pos) 0 (.ref it) (.ref Dd) (zcz X scope N' (zcA X scope s3.heap.objs.size) s3.heap.objs.size s3 H3 fp).env) _ _;generalize hY:zcz X scope N' (zcA X scope s3.heap.objs.size) s3.heap.objs.size s3 H3 fp=Y at I4;have yP:Y.prog=X.prog:=by rw[<-hY];rfl
 have yW:Y.w=X.w:=by rw[<-hY];rfl
 have yK:Y.K=X.K:=by rw[<-hY];rfl
 have yC:Y.calm=true:=by rw[<-hY];exact hc
 have yA:Y.A=X.A:=by rw[<-hY];rfl
 have yx:Y.xe=FF:=by rw[<-hY];rfl
 have hg:=hg s3.heap.objs.size s3 H3 fp;have ht:=ht s3.heap.objs.size s3 H3 fp;have he:=he s3.heap.objs.size s3 H3 fp;rw[hY] at hg ht he;have yex:Y.ex=fp:=by rw[<-hY];rfl
 have yfs:∀ b∈fp,b ∉ Y.fs:=fun b hb hs=>by
   rw[<-hY] at hs;have hs:b∈frs X.stack:=hs
   rcases List.mem_cons.mp (I3.stkSub b hs) with z | z
   . exact (fp3 b hb).2.1 z
   . exact (fp3 b hb).2.2.1 z
 have yL:Y.env.locals=s3.heap.objs.size:=by rw[<-hY];rfl
 -- the loop
 have hio:Dd ∉ io++k1:=fun hm=>by
   obtain⟨u,hu,_⟩:=S1.mem hm;rw[hD] at hu;cases hu
 have start:∀ {H':Hp} {sx:Shared} {σ':L2.St},Inv Y [] σ' H' sx->(∀ b∈fp,H' b=none)->∀ b∈fp,FpOk Y [] H' b:=fun {H' sx σ'} I' hn b hb=>by
   refine⟨hn b hb,fun z=>?_,yfs b hb,.inl (by rw[yex];exact hb),fun x cc e z=>?_,fun p hp=>absurd hp (by rw[<-hY];simp[zcz])⟩
   . rw[yL] at z;exact absurd (fplt b hb) (by rw[z];exact AX _)
   . exact (I'.ok.exf b (by rw[yex];exact hb)).2 x cc e z
 have loop:∀ sx:Shared,Inv Y [] (zjP σ nt fr) H3 sx->tn 0 sx.heap->codeAny (model X.prog X.w) X.A (.compLoop (.ListComp elt [⟨tg,iter,ifs,0⟩] scope pos) 0 (.ref it) (.ref Dd) Y.env) (compPost (model X.prog X.w) X.A X.xe use Qf (.ref Dd) s3.heap.objs.size) sx:=by
   intro sx Ix tnx;refine zg5 (CompI X Y W tn fp (io++k1) H1 Dd g c m t2 xs) ?_ (W.ds.length - 0)
     ⟨0,zjP σ nt fr,H3,rho0 ρ nt fr,t1,[],[],xs,rfl,Ix,tnx,fun b hb=>(fp3 b hb).1,X2,by simp,S2.nil,by rw[Ai];exact zmj (by have:=(E.ext S X1).ext S1 X2;rw[Ai] at this;exact this),⟨[],H3D,rfl⟩,by rw[FM];exact e2,rfl⟩
   rintro n s5 ⟨i,σ5,H5,ρ5,st5,k5,ac,rs,rfl,I5,tn5,fr5,X25,nk5,S5,E5,⟨vs,hvs,Rvs⟩,e5,exs⟩;have nD:∀ {kk:List Addr},Dd ∉ kk->Dd ∉ (io++k1)++kk:=fun {kk} hk hm=>(List.mem_append.mp hm).elim hio hk;have nF:∀ {kk jj:List Addr} {Ha Hb:Hp} {vv:List V},Ext jj kk Ha Hb->Ha Dd=some (.lst vv)->Dd ∉ kk:=fun {kk jj Ha Hb vv} Xx hv hm=>by
     have q:=Xx.fresh Dd hm;rw[hv] at q;cases q
   cases hd:W.ds[i]? with
   | none =>
     have hl:W.ds.length<=i:=List.getElem?_eq_none_iff.mp hd;rw[Ec hl] at e5;obtain⟨hw,e5⟩:=zap e5;cases e5;have:=T.done Y yP yW yK yC i [] s5 σ5 H5 FF I5 (start I5 fr5) tn5 (IO.stop' H5 k5 _ i hl X25 S5 (zcq hw));rw[yA] at this;refine thn this ?_;rintro r s6 ⟨hr,I6⟩;subst hr;obtain⟨mm,hn,_⟩:=id I6.loc;rw[yL] at hn
     -- back in the frame
     have base:Un (frs X.stack) fp H3 H5 s3.heap s6.heap:=by
       have b:=I6.base;rw[<-hY] at b;exact b
     have os:s6.os=s3.os:=by
       have b:=I6.os;rw[<-hY] at b;exact b
     have free:H5 s3.heap.objs.size=none:=by
       have b:=I6.free;rw[yL] at b;exact b
     have hok:HOk X.prog X.w H5 s6.heap:=by
       have b:=I6.hok;rw[yP,yW] at b;exact b
     have I7:Inv X pins σ H5 s6:=Inv.call' (s':=s6) (ch:=fp) I3 os base hok I6.bare fun b hb=>⟨(fp3 b hb).2.2.2.1,(fp3 b hb).2.1,(fp3 b hb).2.2.2.2.1,(fp3 b hb).2.2.2.2.2⟩
     have np:Dd ∉ (io++k1)++k5:=nD nk5;rw[Ai] at exs;subst exs;have SA:=adopt S5 hvs np Rvs;have X6:Ext io (k1++k5) H H5:=X1.trans S1 X25;have lt3:X.env.locals < s3.heap.objs.size:=I3.lt;refine kf Dd s3.heap.objs.size H5 s6 ⟨I7,⟨mm,hn⟩,free,CY lt3,I3.sz,fun x cc e z=>?_,fun p hp z=>?_,?_⟩
     . obtain⟨vv,q⟩:=I3.cell x cc e;have:=q.lt;rw[z] at this;exact AX _ this
     . have:=Al (I3.pin p hp).1;rw[z] at this;exact AX _ this
     refine⟨(k1++k5)++[Dd],⟨fun b o hb nb=>X6.keep b o hb nb,fun b hb=>?_,X6.frz⟩,(by simpa using SA),⟨Dd,rfl,?_⟩⟩
     . rcases List.mem_append.mp hb with hb | hb
       . exact X6.fresh b hb
       . rw[List.mem_singleton.mp hb]
         cases q:H Dd with
         | none=>rfl
         | some o =>
           by_cases hb:Dd∈io
           . exact absurd (AL _ hb) hio
           . have:=X1.keep Dd o q hb;rw[hD] at this;cases this
     . have:=getElem?_len ((io++k1)++k5) Dd;rw[<-S5.len];simpa using this
   | some dd =>
     have hl:i < W.ds.length:=(List.getElem?_eq_some_iff.mp hd).1;have hdr:W.ds.drop i=dd::W.ds.drop (i+1):=by
       rw[DH hl,(List.getElem?_eq_some_iff.mp hd).2]
     rw[hdr] at e5;obtain⟨hw,e5⟩:=zap e5;obtain⟨⟨ρ6,t6⟩,e6,e5⟩:=zac e5;obtain⟨⟨b7,t7⟩,e7,e5⟩:=zac e5;obtain⟨go,yl⟩:=IO.go i dd H5 k5 st5 hd X25 S5 (zcq hw);have hit:=T.item Y yP yW yK yC i [] s5 σ5 H5 FF I5 (start I5 fr5) tn5 go;rw[yA] at hit;refine thn hit ?_;rintro r s6 ⟨u,hr,h6⟩;subst hr;refine thn h6 ?_;rintro _ s7 ⟨x,H7,I7,r7,y7,tn7,fr7⟩;obtain⟨X7,S7,R7⟩:=yl x H7 y7;have X57:Ext (io++k1) k5 H1 H7:=(X25.trans S5 X7).app;have hv7:H7 Dd=some (.lst vs):=X7.keep _ _ hvs (nD nk5);have E7:EnvR X.K H7 ((io++k1)++k5) σ5 ρ5:=by
       have:=E5.ext S5 X7;rw[Ai] at this;exact this
     have R7v:Reps X.K H7 ((io++k1)++k5) vs ac:=by
       have:=Rvs.ext S5 X7;rw[Ai] at this;exact this
     have I7p:=I7.pinned (start I7 fr7) (T.obj _ _ tn7);rw[<-yA,<-yP,<-yW];rw[<-yx];refine thn (hg _ s7 σ5 H7 x u (fun σ8 H8=>∃ k8,Ext ((io++k1)++k5) k8 H7 H8/\StR X.K H8 (((io++k1)++k5)++k8) t6/\EnvR X.K H8 (((io++k1)++k5)++k8) σ8 ρ6) I7p r7 (by rw[yK];exact⟨dd,ρ5,st5,(io++k1)++k5,ρ6,t6,R7,E7,S7,e6,fun σ8 H8 k8 X8 S8 E8=>⟨k8,X8,S8,E8⟩⟩)) ?_;rintro _ s8 ⟨σ8,H8,I8,k8,X8,S8,E8⟩;have S8':StR X.K H8 ((io++k1)++(k5++k8)) t6:=by rw[<-An];exact S8
     have E8':EnvR X.K H8 ((io++k1)++(k5++k8)) σ8 ρ6:=by rw[<-An];exact E8
     have X38:Ext (io++k1) (k5++k8) H1 H8:=X57.trans S7 X8;have nk8:Dd ∉ k5++k8:=fun hm=>(List.mem_append.mp hm).elim nk5 (nF X8 hv7);refine thn (ht _ s8 σ8 H8 (fun b H9=>b=b7/\∃ k9,Ext ((io++k1)++(k5++k8)) k9 H8 H9/\StR X.K H9 (((io++k1)++(k5++k8))++k9) t7) I8 (by rw[yK];exact⟨ρ6,t6,(io++k1)++(k5++k8),b7,t7,E8',S8',e7,fun H9 k9 X9 S9=>⟨rfl,k9,X9,S9⟩⟩)) ?_;rintro ok s9 ⟨H9,I9,eb,k9,X9,S9⟩;subst eb;have X39:Ext (io++k1) ((k5++k8)++k9) H1 H9:=X38.trans S8' X9;have S9':StR X.K H9 ((io++k1)++((k5++k8)++k9)) t7:=by rw[<-An];exact S9
     have E9:EnvR X.K H9 ((io++k1)++((k5++k8)++k9)) σ8 ρ6:=by
       have:=E8'.ext S8' X9;rw[An] at this;exact this
     have hv8:H8 Dd=some (.lst vs):=X8.keep _ _ hv7 (nD nk5);have hv9:H9 Dd=some (.lst vs):=X9.keep _ _ hv8 (nD nk8);have nk9:Dd ∉ (k5++k8)++k9:=fun hm=>(List.mem_append.mp hm).elim nk8 (nF X9 hv8);have R8v:Reps X.K H8 ((io++k1)++(k5++k8)) vs ac:=by
       have:=R7v.ext S7 X8;rw[An] at this;exact this
     have R9v:Reps X.K H9 ((io++k1)++((k5++k8)++k9)) vs ac:=by
       have:=R8v.ext S8' X9;rw[An] at this;exact this
     have back:∀ {Hx:Hp} {sx:Shared} {σx:L2.St},Inv Y ([]++zhT fp s7.heap) σx Hx sx->Inv Y [] σx Hx sx/\tn (i+1) sx.heap/\∀ b∈fp,Hx b=none:=fun {Hx sx σx} Ix=>by
       refine⟨Ix.unpinned,T.keep _ _ _ tn7 fun b hb o e=>(Ix.pin (b,o) (AI _ (AI _ (zcw hb e)))).1,fun b hb=>?_⟩;obtain⟨o,e,dn⟩:=T.obj _ _ tn7 b hb;exact (Ix.pin (b,o) (AI _ (AI _ (zcw hb e)))).2.1
     cases ok with
     | false =>
       rw[if_neg (by decide)];have e5:mCI W g c m (W.ds.drop (i+1)) ρ6 t7=some (rs,t2):=e5;obtain⟨Ib,tnb,frb⟩:=back I9;exact⟨W.ds.length - (i+1),by omega,i+1,σ8,H9,ρ6,t7,(k5++k8)++k9,ac,rs,rfl,Ib,tnb,frb,X39,nk9,S9',E9,⟨vs,hv9,R9v⟩,e5,exs⟩
     | true =>
       rw[if_pos rfl];have e5:((m ρ6 t7).bind fun (x,s3)=>(mCI W g c m (W.ds.drop (i+1)) ρ6 s3).map fun (xs,s4)=>(x::xs,s4))=some (rs,t2):=e5;obtain⟨⟨x10,t10⟩,e10,e5⟩:=zac e5;obtain⟨⟨rs',t11⟩,e11,e5⟩:=zaf e5;cases e5;refine thn (he _ s9 σ8 H9 (fun v H10=>∃ k10,Ext ((io++k1)++((k5++k8)++k9)) k10 H9 H10/\StR X.K H10 (((io++k1)++((k5++k8)++k9))++k10) t10/\Rep X.K H10 (((io++k1)++((k5++k8)++k9))++k10) v x10) I9
         (by rw[yK];exact⟨ρ6,t7,(io++k1)++((k5++k8)++k9),x10,t10,E9,S9',e10,fun v H10 k10 X10 S10 R10=>⟨k10,X10,S10,R10⟩⟩)) fun u10 s10 ⟨v10,H10,I10,r10,k10,X10,S10,R10⟩=>?_
       have X310:Ext (io++k1) (((k5++k8)++k9)++k10) H1 H10:=X39.trans S9' X10;have nk10:Dd ∉ ((k5++k8)++k9)++k10:=fun hm=>(List.mem_append.mp hm).elim nk9 (nF X10 hv9);have S10':StR X.K H10 ((io++k1)++(((k5++k8)++k9)++k10)) t10:=by rw[<-An];exact S10
       have hv10:H10 Dd=some (.lst vs):=X10.keep _ _ hv9 (nD nk9);have E10:EnvR X.K H10 ((io++k1)++(((k5++k8)++k9)++k10)) σ8 ρ6:=by
         have:=E9.ext S9' X10;rw[An] at this;exact this
       have R10v:Reps X.K H10 ((io++k1)++(((k5++k8)++k9)++k10)) (vs++[v10]) (ac++[x10]):=by
         have a:=R9v.ext S9' X10;rw[An] at a;rw[An] at R10;exact a.append (Reps.cons R10 Reps.nil)
       have hlen:vs.length < sizeLine:=by
         rw[R9v.length];have:=of_decide_eq_true hfit;rw[exs] at this;simp at this;omega
       refine thn (zgb _ s10 σ8 H10 (.ref Dd) [v10] (.ref Dd) [u10] (fun _ H11=>H11=upd H10 Dd (.lst (vs++[v10]))) I10 rfl (.cons r10 .nil) ⟨Dd,vs,v10,rfl,rfl,hv10,hlen,rfl⟩) ?_;rintro _ s11 ⟨_,H11,I11,_,e11'⟩;subst e11';have nD10:=nD nk10
       -- the new list is written: nothing of the store
       have XU:∀ b o,H10 b=some o->b≠Dd->upd H10 Dd (.lst (vs++[v10])) b=some o:=fun b o hb hn=>by rw[zaA hn];exact hb
       have TU:Kp H10 (upd H10 Dd (.lst (vs++[v10]))):=⟨fun a ys hb=>XU a _ hb (zpV hb hv10 (by simp)),fun a o u hb=>XU a _ hb (zpV hb hv10 (by simp))⟩
       have S11:StR X.K (upd H10 Dd (.lst (vs++[v10]))) ((io++k1)++(((k5++k8)++k9)++k10)) t10:=by
         refine⟨S10'.len,S10'.nd,fun n a ob h1 h2=>?_⟩;have hne:a≠Dd:=fun z=>nD10 (by rw[<-z];exact Bo h1);have:=OR.mono (ka:=[]) TU (zaA hne) (S10'.ob n a ob h1 h2);rw[Ai] at this;exact this
       have mono0:∀ {v:V} {d:D},Rep X.K H10 ((io++k1)++(((k5++k8)++k9)++k10)) v d->Rep X.K (upd H10 Dd (.lst (vs++[v10]))) ((io++k1)++(((k5++k8)++k9)++k10)) v d:=fun {v d} h=>by
         have:=Rep.mono (ka:=[]) TU h;rw[Ai] at this;exact this
       have mono1:∀ {v:List V} {d:List D},Reps X.K H10 ((io++k1)++(((k5++k8)++k9)++k10)) v d->Reps X.K (upd H10 Dd (.lst (vs++[v10]))) ((io++k1)++(((k5++k8)++k9)++k10)) v d:=fun {v d} h=>by
         have:=Reps.mono (ka:=[]) TU h;rw[Ai] at this;exact this
       obtain⟨Ib,tnb,frb⟩:=back I11;refine⟨W.ds.length - (i+1),by omega,i+1,σ8,upd H10 Dd (.lst (vs++[v10])),ρ6,t10,((k5++k8)++k9)++k10,ac++[x10],rs',rfl,Ib,tnb,frb,⟨fun b o hb nb=>XU b o (X310.keep b o hb nb) (fun z=>by rw[z,hD] at hb;cases hb),X310.fresh,fun b o u hb=>XU b _ (X310.frz b o u hb) (fun z=>by rw[z,hD] at hb;cases hb)⟩,nk10,S11,⟨E10.len,fun j dj hj=>?_⟩,⟨_,zba,mono1 R10v⟩,e11,by rw[exs,An];rfl⟩;obtain⟨v,q,r⟩:=E10.at_ j dj hj;exact⟨v,q,mono0 r⟩
 have l4:=loop s4 I4 tn4;exact codeAny_compStart_list l4 (T.self _ 0 _ _ _ tn4 l4)
theorem zbP(hx:X.xe=FF)(hc:X.calm=true)(Z:CompS X scope N' nt fr)(hi:SI X tg iter mi)
   (hg:∀ C s0 H0 fp,SG (zcz X scope N' (zcA X scope C) C s0 H0 fp) tg g) (ht:∀ C s0 H0 fp,SC (zcz X scope N' (zcA X scope C) C s0 H0 fp) ifs c) (he:∀ C s0 H0 fp,SE (zcz X scope N' (zcA X scope C) C s0 H0 fp) elt m)
   (hs:∀ x,foldedSetIterable iter X.env x=pure x:=by intro _;rfl):SE X (.ListComp elt [⟨tg,iter,ifs,0⟩] scope pos) (zbL mi nt fr g c m):=by
 rintro pins s σ H Q I ⟨ρ,st,io,d,st',E,S,e,k⟩;rw[eval_ListComp];refine ziF (use:=none) hx hc Z hi hg ht he hs I E S e fun Dd C H5 s6 R=>?_;obtain⟨m5,hn⟩:=R.ns;refine⟨m5,hn,fun h' hsb=>?_⟩;obtain⟨ka,X5,S5,R5⟩:=R.val;exact⟨.ref Dd,H5,R.inv.turned (t':=s6.toks) (it:=C) (fun b o hb q=>(hsb.2 b hb).trans q) R.free R.ne (.inr R.young) R.cells R.pin,rfl,k _ _ ka X5 S5 R5⟩
theorem zdN{i:Nat}{x:Str}{pos' spos:Pos}(hx:X.xe=FF)(hc:X.calm=true)(Z:CompS X scope N' nt fr)(hi:SI X tg iter mi)
   (hg:∀ C s0 H0 fp,SG (zcz X scope N' (zcA X scope C) C s0 H0 fp) tg g) (ht:∀ C s0 H0 fp,SC (zcz X scope N' (zcA X scope C) C s0 H0 fp) ifs c) (he:∀ C s0 H0 fp,SE (zcz X scope N' (zcA X scope C) C s0 H0 fp) elt m)
   (hN:X.N.Nodup) (hi':X.N[i]?=some x) (hl:X.env.scope.names.lookup x=some .local)
   (hsw:swapsWith (.ListComp elt [⟨tg,iter,ifs,0⟩] scope pos) (some (.Name x pos')) spos.line X.env=pure true:=by rfl)
   (hs:∀ x,foldedSetIterable iter X.env x=pure x:=by intro _;rfl):SS X (.Assign [.Name x pos'] (.ListComp elt [⟨tg,iter,ifs,0⟩] scope pos) spos) (mAsg (zbL mi nt fr g c m) (gNm i)):=by
 intro pins s σ H N I h;obtain⟨ρ,st,io,f,st',E,S,e,w⟩:=zcs.mp h;obtain⟨⟨d,s1⟩,e1,e⟩:=zac e;obtain⟨⟨ρ',s2⟩,e2,e⟩:=zaf e;cases e;cases e2;rw[exec_Assign_Name_used _ _ _ _ hsw];refine Aa (Dt (Aa ?_));show wpAny _ X.A (do let _ <-comprehension (.ListComp elt [⟨tg,iter,ifs,0⟩] scope pos) scope X.env _ (newList []) false (eval iter X.env) (some (assign (.Name x pos') X.env))) _ _ s;refine Aa (thn (ziF (use:=some (assign (.Name x pos') X.env)) (Qf:=fun _ s'=>SP X pins N .next s') hx hc Z hi hg ht he hs I E S e1 fun Dd C H5 s6 R=>?_) fun _ s' hq=>Ae (Ae hq));obtain⟨m5,hn⟩:=R.ns;obtain⟨ka,X5,S5,R5⟩:=R.val;show wpAny _ _ (assign (.Name x pos') X.env (.ref Dd)) _ _ _;refine EY (zfW (v:=.ref Dd) R.inv hN hi' (.inl hl) rfl (?_) (.inr hl));rintro s7 I7 ⟨a,sb,ha⟩;have hCa:C≠a:=fun z=>by
   rcases ha with q | q
   . exact R.ne (z.trans q)
   . exact R.cells _ _ q z.symm
 refine⟨m5,hn.sameBut sb hCa,fun h' hsb=>?_⟩;refine⟨_,H5,I7.turned (t':=s7.toks) (it:=C) (fun b o hb q=>(hsb.2 b hb).trans q) R.free R.ne (.inr R.young) R.cells R.pin,?_⟩;exact w _ _ ka X5 S5 ((E.ext S X5).set i R5)
end
section
variable {X:Cx} {e a b c:Expr} {es:List Expr} {pos:Pos} {m ma mb mc:ME} {mm:MA}
variable {K:Ac} {H:Hp} {io ka:List Addr} {st st':Sto}
noncomputable def addD:G2
 | .int i,.int j,st=>some (.int (i+j),st)
 | .str a,.str b,st=>if fits (a.length+b.length)=true then some (.str (a++b),st) else none
 | .tup a,.tup b,st=>if (!a.isEmpty&&fits (a.length+b.length))=true then some (.tup (a++b),st) else none
 | .ref a,.ref b,st=>match st[a]?,st[b]? with
   | some (.lst x),some (.lst y)=>if fits (x.length+y.length)=true then some (.ref st.length,st++[.lst (x++y)]) else none
   | _,_=>none
 | _,_,_=>none
theorem zaF:OpM X (binaryOp .Add) addD:=by
 rintro pins s σ H x y v u Q I rx ry ⟨dx,dy,st,io,d,st',Rx,Ry,S,e,k⟩
 cases dx with
 | int i =>
   cases dy with
   | int j=>cases e;exact zpS pins s σ H x y v u Q I rx ry ⟨i,j,Rx,Ry,k.now S rfl⟩
   | _=>cases e
 | str i =>
   cases dy with
   | str j =>
     obtain⟨hf,e⟩:=zap e
     cases e;exact zhY pins s σ H x y v u Q I rx ry ⟨i,j,Rx,Ry,of_decide_eq_true hf,k.now S rfl⟩
   | _=>cases e
 | tup i =>
   cases dy with
   | tup j =>
     obtain⟨hf,e⟩:=zap e;cases e;rw[Av] at hf;obtain⟨p,xs,ex,hp,r1⟩:=Rx;obtain⟨q,ys,ey,hq,r2⟩:=Ry;refine znP pins s σ H x y v u Q I rx ry ⟨p,q,xs,ys,ex,ey,SqT.of hp,SqT.of hq,fun z=>?_,by rw[r1.length,r2.length];exact of_decide_eq_true hf.2,fun z=>?_,fun z p hp=>k.tup S (r1.append r2) hp⟩
     . have:=r1.length;rw[z] at this;have:i=[]:=Ce this.symm;rw[this] at hf;exact absurd hf.1 (by decide)
     . have:=r2.length;rw[z] at this;have:j=[]:=Ce this.symm;subst this;rw[Ai] at k;exact k.now S ⟨p,xs,rfl,hp,r1⟩
   | _=>cases e
 | ref i =>
   cases dy with
   | ref j =>
     unfold addD at e;dsimp only at e
     split at e
     . rename_i l1 l2 e1 e2;obtain⟨hf,e⟩:=zap e;cases e;obtain⟨p,ex,hp⟩:=Rx;obtain⟨q,ey,hq⟩:=Ry;obtain⟨xs,h1,r1⟩:=S.ob i p _ hp e1;obtain⟨ys,h2,r2⟩:=S.ob j q _ hq e2;exact zpR pins s σ H x y v u Q I rx ry ⟨p,q,xs,ys,ex,ey,h1,h2,by rw[r1.length,r2.length];exact of_decide_eq_true hf,fun p hp=>k.lst S (r1.append r2) hp⟩
     . cases e
   | _=>cases e
 | _=>cases e
noncomputable def intD(c:Int->Int->Bool)(g:Int->Int->D):G2
 | .int i,.int j,st=>if c i j=true then some (g i j,st) else none
 | _,_,_=>none
theorem zdT{f:Value->Value->Sem Value}{C:Int->Int->Prop}{c:Int->Int->Bool}{g:Int->Int->Int}(h:OpR X f (rI C fun i j=>.int (g i j)))(hc:∀ i j,c i j=true->C i j):OpM X f (intD c fun i j=>.int (g i j)):=by
 rintro pins s σ H x y v u Q I rx ry ⟨dx,dy,st,io,d,st',Rx,Ry,S,e,k⟩
 cases dx with
 | int i =>
   cases dy with
   | int j =>
     obtain⟨hf,e⟩:=zap e
     cases e;exact h pins s σ H x y v u Q I rx ry ⟨i,j,Rx,Ry,hc i j hf,k.now S rfl⟩
   | _=>cases e
 | _=>cases e
noncomputable def tt2:Int->Int->Bool:=fun _ _=>true
noncomputable def subD:G2:=intD tt2 fun i j=>.int (i - j)
theorem zeN:OpM X (binaryOp .Sub) subD:=zdT (C:=fun _ _=>True) (fun pins s σ H x y v u Q I rx ry ⟨i,j,h1,h2,_,q⟩=>zpK pins s σ H x y v u Q I rx ry ⟨i,j,h1,h2,q⟩) fun _ _ _=>trivial
noncomputable def in64(i:Int):Bool:=decide (-(2 ^ 64) < i)&&decide (i < 2 ^ 64)
noncomputable def mulD:G2:=intD (fun i j=>in64 i || in64 j) fun i j=>.int (i*j)
theorem znH:OpM X (binaryOp .Mult) mulD:=zdT zpL fun i j h=>by
 rw[Bool.or_eq_true] at h;unfold in64 at h;rw[Av,Av] at h
 rcases h with h | h
 . exact .inl ⟨of_decide_eq_true h.1,of_decide_eq_true h.2⟩
 . exact .inr ⟨of_decide_eq_true h.1,of_decide_eq_true h.2⟩
noncomputable def modD:G2:=intD (fun _ j=>decide (0 < j)) fun i j=>.int (i % j)
theorem zbV:OpM X (binaryOp .Mod) modD:=zdT zpM fun i j h=>of_decide_eq_true h
noncomputable def cmpD(g:Int->Int->Bool):G2
 | .int i,.int j,st=>some (.bl (g i j),st)
 | _,_,_=>none
theorem zf9{f:Value->Value->Sem Value}{g:Int->Int->Bool}(h:OpR X f (rI0 fun i j=>.bl (g i j))):OpM X f (cmpD g):=by
 rintro pins s σ H x y v u Q I rx ry ⟨dx,dy,st,io,d,st',Rx,Ry,S,e,k⟩
 cases dx with
 | int i =>
   cases dy with
   | int j=>cases e;exact h pins s σ H x y v u Q I rx ry ⟨i,j,Rx,Ry,k.now S rfl⟩
   | _=>cases e
 | _=>cases e
noncomputable def ltD:G2:=cmpD fun i j=>decide (i < j)
noncomputable def leD:G2:=cmpD fun i j=>decide (i<=j)
noncomputable def gtD:G2:=cmpD fun i j=>decide (j < i)
noncomputable def geD:G2:=cmpD fun i j=>decide (j<=i)
theorem zjp:OpM X (compareOp .Lt) ltD:=zf9 zrH
theorem zfA:OpM X (compareOp .LtE) leD:=zf9 zrI
theorem znO:OpM X (compareOp .Gt) gtD:=zf9 zrJ
theorem zlE:OpM X (compareOp .GtE) geD:=zf9 zrK
noncomputable def zqm:D->Bool
 | .non=>true
 | _=>false
noncomputable def isND:G2:=fun x y st=>match y with
 | .non=>some (.bl (zqm x),st)
 | _=>none
noncomputable def zqU:G2:=fun x y st=>match y with
 | .non=>some (.bl !zqm x,st)
 | _=>none
theorem zj7{v:V}{d:D}(h:Rep K H io v d):decide (v=.non)=zqm d:=by
 cases d with
 | non=>cases (show v=.non from h);rfl
 | bl b=>cases (show v=.bl b from h);rfl
 | int b=>cases (show v=.int b from h);rfl
 | str b=>cases (show v=.str b from h);rfl
 | tup b=>obtain⟨a,xs,rfl,_⟩:=h;rfl
 | ref b=>obtain⟨a,rfl,_⟩:=h;rfl
 | kl b=>obtain⟨a,xs,rfl,_⟩:=h;rfl
theorem znL:OpM X (compareOp .Is) isND:=by
 rintro pins s σ H x y v u Q I rx ry ⟨dx,dy,st,io,d,st',Rx,Ry,S,e,k⟩
 cases dy with
 | non =>
   cases e;refine zpP pins s σ H x y v u Q I rx ry ⟨Ry,?_⟩;rw[zj7 Rx];exact k.now S rfl
 | _=>cases e
theorem zlB:OpM X (compareOp .IsNot) zqU:=by
 rintro pins s σ H x y v u Q I rx ry ⟨dx,dy,st,io,d,st',Rx,Ry,S,e,k⟩
 cases dy with
 | non =>
   cases e;refine znG pins s σ H x y v u Q I rx ry ⟨Ry,?_⟩;rw[zj7 Rx];exact k.now S rfl
 | _=>cases e
noncomputable def negD:D->Sto->Option (D×Sto)
 | .int i,st=>some (.int (-i),st)
 | _,_=>none
noncomputable def mNeg(m:ME):ME:=fun ρ st=>(m ρ st).bind fun (x,s)=>negD x s
theorem zna(ha:SE X a ma):SE X (.UnaryOp .USub a pos) (mNeg ma):=PE.imp (zrB zoS ha) <| by
 rintro σ H Q ⟨ρ,st,io,d,st',E,S,e,k⟩;obtain⟨⟨x,s1⟩,e1,e⟩:=zac e
 cases x with
 | int i =>
   cases e;exact⟨ρ,st,io,.int i,_,E,S,e1,fun v H1 k1 X1 S1 R1=>⟨i,R1,k _ H1 k1 X1 S1 rfl⟩⟩
 | _=>cases e
noncomputable def idxD:G2
 | .tup ds,.int i,st=>(atI ds i).map fun d=>(d,st)
 | .ref n,.int i,st=>(zbj st n).bind fun ds=>(atI ds i).map fun d=>(d,st)
 | .kl ds,.int i,st=>(atI ds i).map fun d=>(d,st)
 | .str z,.int i,st=>if fits z.length=true then (atI z.cps.toList i).map fun c=>(.str ⟨#[c]⟩,st) else none
 | _,_,_=>none
theorem ziO{xs:List V}{ds:List D}{i:Int}{d:D}(r:Reps K H io xs ds)(h:atI ds i=some d):∃ v,atI xs i=some v/\Rep K H io v d:=by
 unfold atI at h ⊢;rw[r.length];obtain⟨j,hj,h⟩:=zac h;obtain⟨v,hv,rv⟩:=r.get h;exact⟨v,by rw[hj];exact hv,rv⟩
theorem ix_M:IxR X (r2M X.K idxD):=by
 rintro value slice pins s σ H x y v u Q I rx ry ⟨dx,dy,st,io,d,st',Rx,Ry,S,e,k⟩ hs
 cases dy with
 | int i =>
   cases dx with
   | tup ds =>
     obtain⟨d',e1,e⟩:=zaf e;cases e;obtain⟨p,xs,ex,hp,r⟩:=Rx;obtain⟨w,hw,rw'⟩:=ziO r e1;exact zaY value slice pins s σ H x y v u Q I rx ry ⟨p,xs,i,w,ex,Ry,SqT.of hp,hw,k.now S rw'⟩ hs
   | ref n =>
     obtain⟨ds,e0,e⟩:=zac e;obtain⟨d',e1,e⟩:=zaf e;cases e;obtain⟨p,ex,hp⟩:=Rx;obtain⟨xs,hx,r⟩:=zbn S hp e0;obtain⟨w,hw,rw'⟩:=ziO r e1;exact zku value slice pins s σ H x y v u Q I rx ry ⟨p,xs,i,w,ex,Ry,hx,hw,k.now S rw'⟩ hs
   | kl ds =>
     obtain⟨d',e1,e⟩:=zaf e;cases e;obtain⟨p,xs,ex,hx,r⟩:=Rx;obtain⟨w,hw,rw'⟩:=ziO r e1;exact zku value slice pins s σ H x y v u Q I rx ry ⟨p,xs,i,w,ex,Ry,hx.sq,hw,k.now S rw'⟩ hs
   | str z =>
     obtain⟨hf,e⟩:=zap e;obtain⟨d',e1,e⟩:=zaf e;cases e;exact zl2 value slice pins s σ H x y v u Q I rx ry ⟨z,i,d',Rx,Ry,of_decide_eq_true hf,e1,k.now S rfl⟩ hs
   | _=>cases e
 | _=>cases dx <;> cases e
theorem zrt(ha:SE X a ma)(hb:SE X b mb)(hs:zgr b:=by intro _ _;rfl):SE X (.Subscript a b pos) (mBin idxD ma mb):=PE.imp (zrE ix_M ha hb hs) fun _ _ _ h=>zdb h
noncomputable def lenD:GN
 | [.tup ds],st=>some (.int ds.length,st)
 | [.ref n],st=>(zbj st n).map fun ds=>(.int ds.length,st)
 | [.kl ds],st=>some (.int ds.length,st)
 | [.str z],st=>if fits z.length=true then some (.int z.length,st) else none
 | _,_=>none
theorem zbo:zeu X (.builtin "len") lenD:=by
 rintro pins s σ H xs us Q I r ⟨ds,st,io,d,st',R,S,e,k⟩
 cases ds with
 | nil=>cases e
 | cons d0 r0 =>
 cases r0 with
 | cons d1 r1=>cases d0 <;> cases e
 | nil =>
 cases d0 with
 | tup ts =>
   cases e;obtain⟨v,rfl,p,ys,rfl,hp,r1⟩:=R.one;refine zcm pins s σ H _ us Q I r ⟨p,ys,rfl,.inr (SqT.of hp),?_⟩;rw[r1.length];exact k.now S rfl
 | ref n =>
   obtain⟨ts,e0,e⟩:=zaf e;cases e;obtain⟨v,rfl,p,rfl,hp⟩:=R.one;obtain⟨ys,hx,r1⟩:=zbn S hp e0;refine zcm pins s σ H _ us Q I r ⟨p,ys,rfl,.inl hx,?_⟩;rw[r1.length];exact k.now S rfl
 | kl ts =>
   cases e;obtain⟨v,rfl,p,ys,rfl,hx,r1⟩:=R.one;refine zcm pins s σ H _ us Q I r ⟨p,ys,rfl,.inl hx.sq,?_⟩;rw[r1.length];exact k.now S rfl
 | str z =>
   obtain⟨hf,e⟩:=zap e;cases e;obtain⟨v,rfl,rfl⟩:=R.one;exact zfM pins s σ H _ us Q I r ⟨z,rfl,of_decide_eq_true hf,k.now S rfl⟩
 | _=>cases e
noncomputable def intC:GN
 | [.int i],st=>some (.int i,st)
 | [.bl b],st=>some (.int (if b then 1 else 0),st)
 | _,_=>none
noncomputable def absC:GN
 | [.int i],st=>some (.int (if i < 0 then -i else i),st)
 | _,_=>none
theorem zjS:zeu X (.builtin "abs") absC:=by
 rintro pins s σ H xs us Q I r ⟨ds,st,io,d,st',R,S,e,k⟩
 cases ds with
 | nil=>cases e
 | cons d0 r0 =>
 cases r0 with
 | cons d1 r1=>cases d0 <;> cases e
 | nil =>
 cases d0 with
 | int i =>
   cases e;obtain⟨v,rfl,rfl⟩:=R.one;exact zmu pins s σ H _ us Q I r ⟨i,rfl,k.now S rfl⟩
 | _=>cases e
noncomputable def zfn:GN
 | [.tup ds],st=>some (.tup ds,st)
 | [.ref n],st=>(zbj st n).map fun ds=>(.tup ds,st)
 | _,_=>none
theorem zd1:zeu X (.type "tuple") zfn:=by
 rintro pins s σ H xs us Q I r ⟨ds,st,io,d,st',R,S,e,k⟩
 cases ds with
 | nil=>cases e
 | cons d0 r0 =>
 cases r0 with
 | cons d1 r1=>cases d0 <;> cases e
 | nil =>
 cases d0 with
 | tup ts =>
   cases e;obtain⟨v,rfl,p,ys,rfl,hp,r1⟩:=R.one;exact zc0 pins s σ H _ us Q I r ⟨p,ys,rfl,.inr ⟨SqT.of hp,k.now S ⟨p,ys,rfl,hp,r1⟩⟩⟩
 | ref n =>
   obtain⟨ts,e0,e⟩:=zaf e;cases e;obtain⟨v,rfl,p,rfl,hp⟩:=R.one;obtain⟨ys,hx,r1⟩:=zbn S hp e0;exact zc0 pins s σ H _ us Q I r ⟨p,ys,rfl,.inl ⟨hx,fun l hl=>k.tup S r1 hl⟩⟩
 | _=>cases e
end
noncomputable def toPs(f:D->Option PyData):List D->Option (List PyData)
 | []=>some []
 | d::ds=>(f d).bind fun p=>(toPs f ds).map fun ps=>p::ps
noncomputable def toP:Nat->Sto->D->Option PyData
 | 0,_,_=>none
 | n+1,st,d=>match d with
   | .non=>some .none
   | .bl b=>some (.bool b)
   | .int i=>some (.int i)
   | .str x=>if BZ x=true then some (.str x) else none
   | .tup ds=>(toPs (toP n st) ds).map .tuple
   | .ref k=>(zbj st k).bind fun ds=>(toPs (toP n st) ds).map .list
   | .kl _=>none
theorem zcR{n:Nat}:∀ {ps:List PyData},(∀ p∈ps,p.depth<=n)->D4 ps<=n
 | [],_=>by rw[D4];exact Bc _
 | p::ps,h=>by
   rw[D4];exact Nat.max_le.mpr ⟨h p Am,zcR fun q hq=>h q (Ag _ hq)⟩
theorem zdx{ps:List PyData}:(∀ p∈ps,p.canLay0=true)->Cf ps=true:=by
 induction ps with
 | nil=>intro _;simp only[Cf]
 | cons p ps ih =>
   intro h;simp only[Cf];rw[h p Am,ih fun q hq=>h q (Ag _ hq)];rfl
theorem zfo{f:D->Option PyData}:∀ {ds:List D} {ps:List PyData},toPs f ds=some ps->∀ p∈ps,∃ d,f d=some p
 | [],ps,h,p,hp=>by cases h;exact absurd hp (by simp)
 | d::ds,ps,h,p,hp=>by
   obtain⟨q,e1,h⟩:=zac h;obtain⟨qs,e2,h⟩:=zaf h;subst h
   rcases List.mem_cons.mp hp with rfl | hp
   . exact⟨d,e1⟩
   . exact zfo e2 p hp
theorem zdF:∀ {n:Nat} {st:Sto} {d:D} {p:PyData},toP n st d=some p->p.canLay0=true/\p.depth<=n
 | 0,_,_,_,h=>by cases h
 | n+1,st,d,p,h=>by
   cases d with
   | non=>cases h;exact⟨by simp only[BH],by simp only[Cz];exact Bc _⟩
   | bl b=>cases h;exact⟨by simp only[BH],by simp only[Cz];exact Bc _⟩
   | int b=>cases h;exact⟨by simp only[BH],by simp only[Cz];exact Bc _⟩
   | str b =>
     obtain⟨hs,h⟩:=zap h
     cases h;exact⟨by simp only[BH];exact hs,by simp only[Cz];exact Bc _⟩
   | tup ds =>
     obtain⟨ps,e,h⟩:=zaf h;subst h;have q:∀ p∈ps,p.canLay0=true/\p.depth<=n:=fun p hp=>let ⟨d,hd⟩:=zfo e p hp;zdF hd
     exact⟨by simp only[BH];exact zdx fun p hp=>(q p hp).1,by simp only[Cz];exact Cm (zcR fun p hp=>(q p hp).2)⟩
   | kl ds=>cases h
   | ref k =>
     obtain⟨ds,e0,h⟩:=zac h;obtain⟨ps,e,h⟩:=zaf h;subst h;have q:∀ p∈ps,p.canLay0=true/\p.depth<=n:=fun p hp=>let ⟨d,hd⟩:=zfo e p hp;zdF hd
     exact⟨by simp only[BH];exact zdx fun p hp=>(q p hp).1,by simp only[Cz];exact Cm (zcR fun p hp=>(q p hp).2)⟩
section
variable {X:Cx} {a b:Expr} {pos:Pos} {ma mb:ME} {pins:List (Addr×Obj)} {σ:L2.St} {H:Hp} {s:Shared} {io:List Addr} {st:Sto}
theorem zcM{f:D->Option PyData}(hf:∀ {v:V} {u:Value} {d:D} {p:PyData},Rep X.K H io v d->RelV v u->f d=some p->∃ as,Reads s.heap u p as) :
   ∀ {xs:List V} {us:List Value} {ds:List D} {ps:List PyData},Reps X.K H io xs ds->Vals xs us->toPs f ds=some ps->∃ as,ReadsAll s.heap us ps as
 | _,_,[],ps,h,r,e=>by
   cases (show _=[] from h)
   cases r;cases e;exact⟨_,.nil⟩
 | _,_,d::ds,ps,h,r,e=>by
   obtain⟨y,ys,rfl,h1,h2⟩:=h
   cases r with
   | cons r1 r2 =>
     obtain⟨q,e1,e⟩:=zac e;obtain⟨qs,e2,e⟩:=zaf e;subst e;obtain⟨as,ra⟩:=hf h1 r1 e1;obtain⟨bs,rb⟩:=zcM hf h2 r2 e2;exact⟨_,.cons ra rb⟩
theorem zbH(I:Inv X pins σ H s)(S:StR X.K H io st):∀ {n:Nat} {v:V} {u:Value} {d:D} {p:PyData},Rep X.K H io v d->RelV v u->toP n st d=some p->∃ as,Reads s.heap u p as
 | 0,_,_,_,_,_,_,h=>by cases h
 | n+1,v,u,d,p,h,r,e=>by
   cases d with
   | non=>cases e;cases (show v=.non from h);cases r;exact⟨_,.none⟩
   | bl b=>cases e;cases (show v=.bl b from h);cases r;exact⟨_,.bool _⟩
   | int b=>cases e;cases (show v=.int b from h);obtain⟨t,rfl⟩:=r;exact⟨_,.int _ _⟩
   | str b =>
     obtain⟨hs,e⟩:=zap e
     cases e;cases (show v=.str b from h);obtain⟨t,rfl⟩:=r;exact⟨_,.str _ _⟩
   | tup ds =>
     obtain⟨ps,e',q⟩:=zaf e;subst q;obtain⟨a,xs,rfl,ha,rs⟩:=h;cases r;obtain⟨its,rv,⟨o,ho,hc,k,hd⟩,hz⟩:=I.tuple (SqT.of ha);obtain⟨as,ra⟩:=zcM (f:=toP n st) (fun h r e=>zbH I S h r e) rs rv e';exact⟨_,.tuple ho hc hd (by simpa using ra)⟩
   | kl ds=>cases e
   | ref k =>
     obtain⟨ds,e0,e⟩:=zac e;obtain⟨ps,e',q⟩:=zaf e;subst q;obtain⟨a,rfl,ha⟩:=h;cases r;obtain⟨xs,hx,rs⟩:=zbn S ha e0;obtain⟨its,rv,⟨o,k,ho,hc,_,hd⟩,hz⟩:=I.list hx;obtain⟨as,ra⟩:=zcM (f:=toP n st) (fun h r e=>zbH I S h r e) rs rv e';exact⟨_,.list ho hc hd (by simpa using ra)⟩
noncomputable def eqD:G2:=fun x y st=>(toP 100 st x).bind fun p=>(toP 100 st y).map fun q=>(.bl (A9 p q),st)
noncomputable def neD:G2:=fun x y st=>(toP 100 st x).bind fun p=>(toP 100 st y).map fun q=>(.bl !PyData.eqv p q,st)
theorem zgP(hu:X.A.units+100 < cLine):OpM X (compareOp .Eq) eqD:=by
 rintro pins s σ H x y v u Q I rx ry ⟨dx,dy,st,io,d,st',Rx,Ry,S,e,k⟩;obtain⟨p,e1,e⟩:=zac e;obtain⟨q,e2,e⟩:=zaf e;cases e;obtain⟨as,ra⟩:=zbH I S Rx rx e1;obtain⟨bs,rb⟩:=zbH I S Ry ry e2;have h1:=zdF e1;have h2:=zdF e2;exact PySem.SeqAt.compareEq_reads ra rb h1.1 h2.1 (BL (Df (AF (FA _ _) h1.2) _) hu) ⟨.bl _,H,I,rfl,k.now S rfl⟩
theorem zdo(hu:X.A.units+100 < cLine):OpM X (compareOp .NotEq) neD:=by
 rintro pins s σ H x y v u Q I rx ry ⟨dx,dy,st,io,d,st',Rx,Ry,S,e,k⟩;obtain⟨p,e1,e⟩:=zac e;obtain⟨q,e2,e⟩:=zaf e;cases e;obtain⟨as,ra⟩:=zbH I S Rx rx e1;obtain⟨bs,rb⟩:=zbH I S Ry ry e2;have h1:=zdF e1;have h2:=zdF e2;exact PySem.SeqAt.compareNe_reads ra rb h1.1 h2.1 (BL (Df (AF (FA _ _) h1.2) _) hu) ⟨.bl _,H,I,rfl,k.now S rfl⟩
theorem zaX{k:Nat}{A:Around}(hr:Room k A):A.units+100 < cLine:=by have:=hr.un;omega
end
section
variable {X:Cx} {pins:List (Addr×Obj)} {σ:L2.St} {H:Hp} {s:Shared} {h':Heap}
theorem Inv.turnNew{t':Nat}{fp:List Addr}{p:Addr}{o:HO}(I:Inv X pins σ H s)(hf:∀ b∈fp,FpOk X pins H b)(k:∀ b ob,b ∉ fp->s.heap.get? b=some ob->h'.get? b=some ob)(hp:s.heap.objs.size<=p)
   (hfp:∀ b∈fp,∀ ob,s.heap.get? b=some ob->∃ ob',h'.get? b=some ob') (new:zcD X.prog X.w (upd H p o) h' p o):Inv X pins σ (upd H p o) { s with heap:=h',toks:=t' }:=by
 have hpn:=I.hok.fresh hp;have nlt:∀ b ob,s.heap.get? b=some ob->b≠p:=fun b ob e=>Aw (AB (Al e) hp);refine Inv.step (ch:=fp) (g':=s.gens) (d':=s.drawn) I (fun b hb=>⟨(hf b hb).2.2.2.1,(hf b hb).2.1,(hf b hb).2.2.2.2.1,(hf b hb).2.2.2.2.2⟩) (fun b ob _ _ hc e _=>k b ob hc e) (fun b ob _ _ hc e _=>⟨ob.slots,k b ob hc e⟩)
   (fun b ob hc e n=>by rw[zaA (nlt b ob e)];exact n) (fun b ob hc e=>⟨ob,k b ob hc e⟩) (fun b xs e=>by rw[zaA (zaq e hpn)];exact e) (fun b ob u e=>by rw[zaA (zaq e hpn)];exact e)
   (fun b ps e=>⟨#[],by rw[zaA (zaq e hpn),e];simp⟩) (fun m hm=>?_) (fun b u e=>?_) I.bare
 . obtain⟨ob,es,ep,ho,r⟩:=hm;exact⟨ob,es,ep,k _ ob (fun z=>(hf _ z).2.1 rfl) ho,r⟩
 . by_cases hb:b=p
   . subst hb;rw[zba] at e;cases e;exact new
   . rw[zaA hb] at e;refine (I.hok b u e).stay (fun c v hc q=>k c v (fun z=>?_) q) (fun c q=>by rw[zaA (zaq q hpn)];exact q) fun c xs q=>by rw[zaA (zaq q hpn)];exact q
     have hz:=(hf c z).1
     rcases hc with rfl | hc
     . rw[hz] at e;cases e
     . rw[hz] at hc;cases hc
theorem Inv.turnAll{t':Nat}{fp:List Addr}(I:Inv X pins σ H s)(hf:∀ b∈fp,FpOk X pins H b)(k:∀ b ob,b ∉ fp->s.heap.get? b=some ob->h'.get? b=some ob):Inv X pins σ H { s with heap:=h',toks:=t' }:=by
 refine Inv.step (ch:=fp) (g':=s.gens) (d':=s.drawn) I (fun b hb=>⟨(hf b hb).2.2.2.1,(hf b hb).2.1,(hf b hb).2.2.2.2.1,(hf b hb).2.2.2.2.2⟩) (fun b ob _ _ hc e _=>k b ob hc e) (fun b ob _ _ hc e _=>⟨ob.slots,k b ob hc e⟩)
   (fun b ob hc e n=>n) (fun b ob hc e=>⟨ob,k b ob hc e⟩) (fun b xs e=>e) (fun b ob u e=>e)
   (fun b ps e=>⟨#[],by rw[e];simp⟩) (fun m hm=>?_) (fun b u e=>?_) I.bare
 . obtain⟨ob,es,ep,ho,r⟩:=hm;exact⟨ob,es,ep,k _ ob (fun z=>(hf _ z).2.1 rfl) ho,r⟩
 . refine (I.hok b u e).stay (fun c v hc q=>k c v (fun z=>?_) q) (fun c q=>q) fun c xs q=>q;have hz:=(hf c z).1
   rcases hc with rfl | hc
   . rw[hz] at e;cases e
   . rw[hz] at hc;cases hc
end
section
variable {X:Cx} {m:ME}
theorem boot_enumerate:bootBuiltins "enumerate"=some (.type "enumerate"):=by decide +kernel
noncomputable def pairs(ds:List D):List D:=(ds.zipIdx).map fun (d,k)=>.tup [.int (k:Nat),d]
theorem zf7{ds:List D}{i:Nat}{d:D}(h:(pairs ds)[i]?=some d):∃ e,ds[i]?=some e/\d=.tup [.int (i:Nat),e]:=by
 unfold pairs at h;rw[AD,List.getElem?_zipIdx] at h
 cases e:ds[i]? with
 | none=>rw[e] at h;cases h
 | some x =>
   rw[e] at h;simp at h;exact⟨x,rfl,h.symm⟩
theorem pairs_len(ds:List D):(pairs ds).length=ds.length:=by unfold pairs;simp
end
section
variable {κ:Type} [DecidableEq κ] {K:Ac} {H:Hp} {io:List Addr}
noncomputable def valD(kvs:List (κ×D))(k:κ):Option D:=(kvs.find? fun kv=>decide (kv.1=k)).map (·.2)
noncomputable def putD(kvs:List (κ×D))(k:κ)(d:D):List (κ×D) :=
 if (kvs.any fun kv=>decide (kv.1=k))=true then kvs.map (fun kv=>if kv.1=k then (kv.1,d) else kv) else kvs++[(k,d)]
theorem KR.any{ps:List (κ×V)}{kvs:List (κ×D)}(r:KR κ K H io ps kvs)(k:κ):(ps.any fun kv=>decide (kv.1=k))=(kvs.any fun kv=>decide (kv.1=k)):=by
 induction r with
 | nil=>rfl
 | cons z t ih=>rw[BE,BE,ih,z.1]
theorem KR.length{ps:List (κ×V)}{kvs:List (κ×D)}(r:KR κ K H io ps kvs):ps.length=kvs.length:=Bp r
theorem KR.val{ps:List (κ×V)}{kvs:List (κ×D)}(r:KR κ K H io ps kvs)(k:κ):(valD kvs k=none/\valV ps k=none)\/∃ d v,valD kvs k=some d/\valV ps k=some v/\Rep K H io v d:=by
 induction r with
 | nil=>exact .inl ⟨rfl,rfl⟩
 | @cons p q l1 l2 z t ih =>
   unfold valD valV at *;rw[AZ,AZ,z.1]
   by_cases e:q.1=k
   . rw[decide_eq_true e];exact .inr ⟨q.2,p.2,rfl,rfl,z.2⟩
   . rw[decide_eq_false e];exact ih
theorem KR.append{ps qs:List (κ×V)}{kvs lvs:List (κ×D)}(r:KR κ K H io ps kvs)(r':KR κ K H io qs lvs):KR κ K H io (ps++qs) (kvs++lvs):=by
 induction r with
 | nil=>exact r'
 | cons z t ih=>exact .cons z ih
theorem KR.put{ps:List (κ×V)}{kvs:List (κ×D)}(r:KR κ K H io ps kvs)(k:κ){v:V}{d:D}(rv:Rep K H io v d):KR κ K H io (putK ps k v) (putD kvs k d):=by
 unfold putK putD;rw[KR.any r k]
 by_cases e:(kvs.any fun kv=>decide (kv.1=k))=true
 . rw[if_pos e,if_pos e]
   induction r with
   | nil=>exact .nil
   | @cons p q l1 l2 z t ih =>
     rw[Ao,Ao];have hrest:KR κ K H io (l1.map fun kv=>if kv.1=k then (kv.1,v) else kv) (l2.map fun kv=>if kv.1=k then (kv.1,d) else kv):=by
       clear ih e
       induction t with
       | nil=>exact .nil
       | @cons p q l1 l2 z t ih =>
         rw[Ao,Ao];refine .cons ?_ ih;rw[z.1]
         by_cases e:q.1=k
         . rw[if_pos e,if_pos e];exact⟨rfl,rv⟩
         . rw[if_neg e,if_neg e];exact z
     refine .cons ?_ hrest;rw[z.1]
     by_cases e:q.1=k
     . rw[if_pos e,if_pos e];exact⟨rfl,rv⟩
     . rw[if_neg e,if_neg e];exact z
 . rw[if_neg e,if_neg e];exact KR.append r (.cons ⟨rfl,rv⟩ .nil)
end
noncomputable def keyOf:D->Option Key
 | .int i=>some (.inl i)
 | .str x=>some (.inr x)
 | _=>none
noncomputable def keysOf:List D->Option (List Key)
 | []=>some []
 | d::ds=>(keyOf d).bind fun k=>(keysOf ds).map fun ks=>k::ks
section
variable {X:Cx} {K:Ac} {H:Hp} {io:List Addr} {st st':Sto} {a b e:Expr} {es:List Expr} {ma mb m:ME} {mm:MA} {pos:Pos}
theorem zda{v:V}{d:D}{k:Key}(h:Rep K H io v d)(e:keyOf d=some k):v=kV k:=by
 cases d with
 | int i=>cases e;exact h
 | str i=>cases e;exact h
 | _=>cases e
theorem zbW:∀ {xs:List V} {ds:List D} {ks:List Key},Reps K H io xs ds->keysOf ds=some ks->xs=ks.map kV
 | _,[],ks,h,e=>by cases e;exact h
 | _,d::ds,ks,h,e=>by
   obtain⟨y,ys,rfl,h1,h2⟩:=h;obtain⟨k,e1,e⟩:=zac e;obtain⟨ks',e2,e⟩:=zaf e;subst e;rw[zda h1 e1,zbW h2 e2];rfl
noncomputable def look(st:Sto)(n:Nat)(k:D):Option (Option D):=match st[n]? with
 | some (.dk kvs)=>(keyOf k).map fun q=>valD kvs q
 | some (.dt kvs)=>match k with
   | .tup ds=>(keysOf ds).map fun q=>valD kvs q
   | _=>none
 | _=>none
theorem zfC{n:Nat}{p:Addr}{k:D}{y:V}{r:Option D}(S:StR K H io st)(hp:io[n]?=some p)(ry:Rep K H io y k)(h:look st n k=some r):∃ o,DGet H p y o/\((r=none/\o=none)\/∃ d v,r=some d/\o=some v/\Rep K H io v d):=by
 unfold look at h
 split at h
 . rename_i kvs e;obtain⟨q,e1,h⟩:=zaf h;subst h;obtain⟨ps,hH,r⟩:=S.ob n p _ hp e;have ey:=zda ry e1;subst ey;refine⟨_,DGet.k hH,?_⟩
   rcases KR.val r q with ⟨h1,h2⟩ | ⟨d,v,h1,h2,h3⟩
   . exact .inl ⟨h1,h2⟩
   . exact .inr ⟨d,v,h1,h2,h3⟩
 . rename_i kvs e
   split at h
   . rename_i ds;obtain⟨q,e1,h⟩:=zaf h;subst h;obtain⟨ps,hH,r⟩:=S.ob n p _ hp e;obtain⟨b,xs,rfl,hb,rs⟩:=ry;have ex:=zbW rs e1;subst ex;refine⟨_,DGet.t hH hb,?_⟩
     rcases KR.val r q with ⟨h1,h2⟩ | ⟨d,v,h1,h2,h3⟩
     . exact .inl ⟨h1,h2⟩
     . exact .inr ⟨d,v,h1,h2,h3⟩
   . cases h
 . cases h
noncomputable def zqY(md mk:ME):ME:=fun ρ st=>(md ρ st).bind fun (d,s1)=>(mk ρ s1).bind fun (k,s2)=>match d with
 | .ref n=>(look s2 n k).bind fun r=>r.map fun v=>(v,s2)
 | _=>none
theorem znc{o i:Expr}{md mk:ME}(hu:X.A.units+1 < cLine)(ho:SE X o md)(hi:SE X i mk)(hs:NoSl i:=by intro _ _;rfl):SE X (.Subscript o i pos) (zqY md mk):=PE.imp (zkg hu ho hi hs) <| by
 rintro σ H Q ⟨ρ,st,io,d,st',E,S,e,k⟩;obtain⟨⟨x,s1⟩,e1,e⟩:=zac e;obtain⟨⟨y,s2⟩,e2,e⟩:=zac e
 cases x with
 | ref n =>
   obtain⟨r,e3,e⟩:=zac e;obtain⟨w,e4,e⟩:=zaf e;cases e;subst e4;refine⟨ρ,st,io,_,s1,E,S,e1,fun v1 H1 k1 X1 S1 R1=>⟨ρ,s1,io++k1,y,_,E.ext S X1,S1,e2,fun v2 H2 k2 X2 S2 R2=>?_⟩⟩;obtain⟨p,rfl,hp⟩:=R1;obtain⟨o,g,⟨z,_⟩ | ⟨d',v,hd,hv,rv⟩⟩:=zfC S2 (zbf hp) R2 e3
   . cases z
   . cases hd;subst hv;exact⟨p,v,rfl,g,((k.on S1 X1).on S2 X2).now S2 rv⟩
 | _=>cases e
noncomputable def mDIn(neg:Bool)(mk md:ME):ME:=fun ρ st=>(mk ρ st).bind fun (k,s1)=>(md ρ s1).bind fun (d,s2)=>match d with
 | .ref n=>(look s2 n k).map fun r=>(.bl (if neg then !r.isSome else r.isSome),s2)
 | _=>none
theorem zgk{neg:Bool}{mk md:ME}{σ:L2.St}{Q:VK}(h:tE K (mDIn neg mk md) σ H Q):tE K mk σ H fun y H1=>tE K md σ H1 fun x H2=>∃ a o,x=.ref a/\DGet H2 a y o/\Q (.bl (if neg then !o.isSome else o.isSome)) H2:=by
 obtain⟨ρ,st,io,d,st',E,S,e,k⟩:=h;obtain⟨⟨y,s1⟩,e1,e⟩:=zac e;obtain⟨⟨x,s2⟩,e2,e⟩:=zac e
 cases x with
 | ref n =>
   obtain⟨r,e3,e⟩:=zaf e;cases e;refine⟨ρ,st,io,y,s1,E,S,e1,fun v1 H1 k1 X1 S1 R1=>⟨ρ,s1,io++k1,_,_,E.ext S X1,S1,e2,fun v2 H2 k2 X2 S2 R2=>?_⟩⟩;obtain⟨p,rfl,hp⟩:=R2;obtain⟨o,g,z⟩:=zfC S2 hp (R1.ext S1 X2) e3;have:o.isSome=r.isSome:=by
     rcases z with ⟨a,b⟩ | ⟨d',v,a,b,_⟩
     . rw[a,b];rfl
     . rw[a,b];rfl
   exact⟨p,o,rfl,g,by rw[this];exact ((k.on S1 X1).on S2 X2).now S2 rfl⟩
 | _=>cases e
theorem zpd{o i:Expr}{md mk:ME}(hu:X.A.units+1 < cLine)(hi:SE X i mk)(ho:SE X o md)(hm:behindInMarks .In o=false:=by rfl):SE X (.Compare i [.In] [o] pos) (mDIn false mk md):=PE.imp (zpE (zpI hu hi ho) hm) fun σ H Q h=>zgk h
end
section
variable {X:Cx} {K:Ac} {H:Hp} {io:List Addr} {st st':Sto} {a b c e:Expr} {es:List Expr} {ma mb mc m:ME} {mm:MA} {pos:Pos}
theorem zjd{o i:Expr}{md mk:ME}(hu:X.A.units+1 < cLine)(hi:SE X i mk)(ho:SE X o md)(hm:behindInMarks .NotIn o=false:=by rfl):SB X (.Compare i [.NotIn] [o] pos) (mTst (mDIn true mk md)) :=
 PT.imp (zpm (zjl hu hi ho) hm) fun σ H Q h=>zgk (zc6 h)
noncomputable def dput(st:Sto)(n:Nat)(k d:D):Option Sto:=match st[n]? with
 | some (.dk kvs)=>(keyOf k).bind fun q=>if decide (kvs.length < sizeLine)=true then some (st.set n (.dk (putD kvs q d))) else none
 | some (.dt kvs)=>match k with
   | .tup ds=>(keysOf ds).bind fun q=>if decide (kvs.length < sizeLine)=true then some (st.set n (.dt (putD kvs q d))) else none
   | _=>none
 | _=>none
theorem zml{n:Nat}{p:Addr}{k d:D}{y v:V}(S:StR K H io st)(hp:io[n]?=some p)(ry:Rep K H io y k)(rv:Rep K H io v d)(h:dput st n k d=some st'):∃ H',DPut H p y v H'/\Ext io [] H H'/\StR K H' (io++[]) st':=by
 unfold dput at h
 split at h
 . rename_i kvs e;obtain⟨q,e1,h⟩:=zac h;obtain⟨hl,h⟩:=zap h;cases h;obtain⟨ps,hH,r⟩:=S.ob n p _ hp e;have ey:=zda ry e1;subst ey;have:=KR.length r;refine⟨_,DPut.k hH (by rw[this];exact of_decide_eq_true hl),?_⟩;exact zdH S hp e (fun o u z=>by rw[hH] at z;cases z) fun H' T e'=>⟨_,e',KR.put (KR.mono T r) q (Rep.mono T rv)⟩
 . rename_i kvs e
   split at h
   . rename_i ds;obtain⟨q,e1,h⟩:=zac h;obtain⟨hl,h⟩:=zap h;cases h;obtain⟨ps,hH,r⟩:=S.ob n p _ hp e;obtain⟨b,xs,rfl,hb,rs⟩:=ry;have ex:=zbW rs e1;subst ex;have:=KR.length r;refine⟨_,DPut.t hH hb (by rw[this];exact of_decide_eq_true hl),?_⟩;exact zdH S hp e (fun o u z=>by rw[hH] at z;cases z) fun H' T e'=>⟨_,e',KR.put (KR.mono T r) q (Rep.mono T rv)⟩
   . cases h
 . cases h
noncomputable def zlS(md mk mv:ME):MS:=fun ρ st=>(mv ρ st).bind fun (v,s1)=>(md ρ s1).bind fun (d,s2)=>(mk ρ s2).bind fun (k,s3)=>match d with
 | .ref n=>(dput s3 n k v).map fun s4=>(.nx ρ,s4)
 | _=>none
theorem zmZ{o i value:Expr}{md mk mv:ME}{pos':Pos}(hu:X.A.units+1 < cLine)(ho:SE X o md)(hi:SE X i mk)(hv:SE X value mv)(hs:swapsWith value (some (.Subscript o i pos')) pos.line X.env=pure false:=by rfl) :
   SS X (.Assign [.Subscript o i pos'] value pos) (zlS md mk mv):=PS.imp (zno hu ho hi hv hs) fun N σ H h=>by
 obtain⟨ρ,st,io,f,st',E,S,e,w⟩:=zcs.mp h;obtain⟨⟨v,s1⟩,e1,e⟩:=zac e;obtain⟨⟨d,s2⟩,e2,e⟩:=zac e;obtain⟨⟨k,s3⟩,e3,e⟩:=zac e
 cases d with
 | ref n =>
   obtain⟨s4,e4,e⟩:=zaf e;cases e;refine⟨ρ,st,io,v,s1,E,S,e1,fun v1 H1 k1 X1 S1 R1=>⟨ρ,s1,io++k1,_,s2,E.ext S X1,S1,e2,fun v2 H2 k2 X2 S2 R2=>⟨ρ,s2,(io++k1)++k2,k,s3,(E.ext S X1).ext S1 X2,S2,e3,fun v3 H3 k3 X3 S3 R3=>?_⟩⟩⟩;obtain⟨p,rfl,hp⟩:=R2;obtain⟨H4,g,X4,S4⟩:=zml S3 (zbf hp) R3 ((R1.ext S1 X2).ext S2 X3) e4;refine⟨p,H4,rfl,g,?_⟩;have w3:∀ σ' H' kb,Ext (((io++k1)++k2)++k3) kb H3 H'->_:=zeO (zeO (zeO w X1 S1) X2 S2) X3 S3;exact w3 σ H4 [] X4 S4 ((((E.ext S X1).ext S1 X2).ext S2 X3).ext S3 X4)
 | _=>cases e
inductive mtM (K:Ac) (g:D->List D->Sto->Option (D×Sto)) (x:V) (xs:List V) (H:Hp) (Q:VK):Prop
 | mk (dx:D) (ds:List D) (st:Sto) (io:List Addr) (d:D) (st':Sto) (h0:Rep K H io x dx) (h1:Reps K H io xs ds) (h2:StR K H io st) (h3:g dx ds st=some (d,st')) (h4:Bh K io H st' d Q)
noncomputable def zbR:D->List D->Sto->Option (D×Sto):=fun x xs st=>match x,xs with
 | .ref n,[d]=>match st[n]? with
   | some (.lst ds)=>if decide (ds.length < sizeLine)=true then some (.non,st.set n (.lst (ds++[d]))) else none
   | _=>none
 | _,_=>none
theorem append_in{n:Nat}{d:D}{ds:List D}{xs:List D}(h:zbR (.ref n) xs st=some (d,st')):∃ ds x,st[n]?=some (.lst ds)/\xs=[x]/\ds.length < sizeLine/\d=.non/\st'=st.set n (.lst (ds++[x])):=by
 unfold zbR at h
 match xs,h with
 | [x],h =>
   dsimp only at h
   split at h
   . rename_i ds e;obtain⟨hl,h⟩:=zap h;cases h;exact⟨ds,x,e,rfl,of_decide_eq_true hl,rfl,rfl⟩
   . cases h
 | [],h=>cases h
 | _::_::_,h=>cases h
theorem zib:MtR X "list.append" (mtM X.K zbR):=by
 rintro pins s σ H x xs v us Q I rx rs ⟨dx,ds,st,io,d,st',Rx,Rs,S,e,k⟩
 cases dx with
 | ref n =>
   obtain⟨l,y,e1,rfl,hl,rfl,rfl⟩:=append_in (ds:=[]) e;obtain⟨p,rfl,hp⟩:=Rx;obtain⟨w,rfl,Rw⟩:=Rs.one;obtain⟨ys,hH,r⟩:=S.ob n p _ hp e1;refine zgb pins s σ H _ _ v us Q I rx rs ⟨p,ys,w,rfl,rfl,hH,by rw[r.length];exact hl,?_⟩;obtain⟨E',S'⟩:=zdH (o:=.lst (ys++[w])) (ob:=.lst (l++[y])) S hp e1 (fun o u z=>by rw[hH] at z;cases z) fun H' T e'=>⟨_,e',(Reps.mono T r).append (Reps.cons (Rep.mono T Rw) Reps.nil)⟩
   exact k _ _ [] E' S' rfl
 | _=>unfold zbR at e;cases ds <;> cases e
theorem zd5{n:Nat}{v:V}{l:List D}(R:Rep K H io v (.ref n))(S:StR K H io st)(h:zbj st n=some l):tyV K "list" v H:=by
 obtain⟨p,rfl,hp⟩:=R;obtain⟨xs,hx,_⟩:=zbn S hp h;exact .inl ⟨rfl,xs,hx⟩
noncomputable def mApp(m:ME)(mm:MA):ME:=fun ρ st=>(m ρ st).bind fun (x,s1)=>match x with
 | .ref n=>(zbj s1 n).bind fun _=>(mm ρ s1).bind fun (xs,s2)=>zbR x xs s2
 | _=>none
theorem zc8{o:Expr}{apos cpos:Pos}(ho:SE X o m)(ha:SA X (e::es) mm)
   (hbase:attributeBase o "append" X.env (eval o X.env)=eval o X.env:=by rfl)
   (hfew:((backTo cpos (starEach (e::es) X.env)).all (fun x=>!x.1)&&(backToKw cpos (keywordEach [] X.env)).all (fun x=>x.1.isSome)
    &&decide ((e::es).length+([]:List Keyword).length+(if ([]:List Keyword).isEmpty then 0 else 1) < 30))=true:=by rfl)
   (hline:(apos.endLine==cpos.line)=true:=by rfl) (hs:starEach (e::es) X.env=(false,eval e X.env)::starEach es X.env:=by rfl) (hplain:(backTo cpos (starEach es X.env)).any (·.1)=false:=by rfl) :
   SE X (.Call (.Attribute o "append" apos) (e::es) [] cpos) (mApp m mm) :=
 PE.imp (zpG B4 PySem.F.slot_list_append PySem.F.type_list_append zib ho ha hbase hfew hline hs hplain) <| by
   rintro σ H Q ⟨ρ,st,io,d,st',E,S,e,k⟩;obtain⟨⟨x,s1⟩,e1,e⟩:=zac e
   cases x with
   | ref n =>
     obtain⟨l,e0,e⟩:=zac e;obtain⟨⟨xs,s2⟩,e2,e⟩:=zac e;refine⟨ρ,st,io,_,s1,E,S,e1,fun v1 H1 k1 X1 S1 R1=>⟨zd5 R1 S1 e0,ρ,s1,io++k1,xs,s2,E.ext S X1,S1,e2,fun vs H2 k2 X2 S2 R2=>?_⟩⟩;exact⟨_,xs,s2,(io++k1)++k2,d,st',R1.ext S1 X2,R2,S2,e,(k.on S1 X1).on S2 X2⟩
   | _=>cases e
noncomputable abbrev MO:=Rho->Sto->Option (Option Int×Sto)
inductive tOm (K:Ac) (m:MO) (σ:L2.St) (H:Hp) (Q:Option Int->Hp->Prop):Prop
 | mk (ρ:Rho) (st:Sto) (io:List Addr) (d:Option Int) (st':Sto) (h1:EnvR K H io σ ρ) (h2:StR K H io st) (h3:m ρ st=some (d,st')) (h4:∀ H' ka,Ext io ka H H'->StR K H' (io++ka) st'->Q d H')
def SO(X:Cx)(e:Option Expr)(m:MO):Prop:=PO X e (tOm X.K m)
noncomputable def zeV:MO:=fun _ st=>some (none,st)
noncomputable def zeU(m:ME):MO:=fun ρ st=>(m ρ st).bind fun (d,s)=>match d with
 | .int i=>some (some i,s)
 | _=>none
theorem zdR:SO X none zeV:=fun pins s σ H Q I ⟨ρ,st,io,d,st',E,S,e,k⟩=>znq pins s σ H Q I (by cases e;exact k H [] Ext.refl S.nil)
theorem zdQ(h:SE X e m):SO X (some e) (zeU m):=fun pins s σ H Q I ⟨ρ,st,io,d,st',E,S,e,k⟩=>znp h pins s σ H Q I (by
 obtain⟨⟨x,s1⟩,e1,e⟩:=zac e
 cases x with
 | int i =>
   cases e;exact⟨ρ,st,io,_,_,E,S,e1,fun v1 H1 k1 X1 S1 R1=>⟨i,R1,k H1 k1 X1 S1⟩⟩
 | _=>cases e)
noncomputable def cutD(xs:List D)(lo hi:Option Int):List D:=(xs.drop (HT.sIx xs.length 0 lo)).take (HT.sIx xs.length xs.length hi - HT.sIx xs.length 0 lo)
theorem ziE{xs:List V}{ds:List D}(r:Reps K H io xs ds)(lo hi:Option Int):Reps K H io (cutV xs lo hi) (cutD ds lo hi):=by
 unfold cutV cutD;rw[r.length];exact (r.drop _).take _
noncomputable def slD:D->Option Int->Option Int->Sto->Option (D×Sto):=fun x lo hi st=>match x with
 | .tup ds=>if (decide (HT.sIx ds.length 0 lo=0)&&decide (HT.sIx ds.length ds.length hi=ds.length))=true then none else some (.tup (cutD ds lo hi),st)
 | .ref n=>(zbj st n).map fun ds=>(.ref st.length,st++[.lst (cutD ds lo hi)])
 | _=>none
noncomputable def mSl(m:ME)(l h:MO):ME:=fun ρ st=>(m ρ st).bind fun (x,s1)=>(l ρ s1).bind fun (lo,s2)=>(h ρ s2).bind fun (hi,s3)=>slD x lo hi s3
noncomputable def rSlM(K:Ac):V->Option Int->Option Int->Hp->VK->Prop:=fun x lo hi H Q=>rSlT K x lo hi H Q\/rSlL K x lo hi H Q
theorem sl_M:SlR X (rSlM X.K):=by
 intro pins s σ H x v vl vu lo hi sl Q I rx hs pl pu h
 rcases h with h | h
 . exact zo4 pins s σ H x v vl vu lo hi sl Q I rx hs pl pu h
 . exact zj2 pins s σ H x v vl vu lo hi sl Q I rx hs pl pu h
theorem zk8{lo hi:Option Expr}{ml mh:MO}{p2:Pos}(he:SE X e m)(hl:SO X lo ml)(hu:SO X hi mh):SE X (.Subscript e (.Slice lo hi none p2) pos) (mSl m ml mh):=PE.imp (zee sl_M he hl hu) <| by
 rintro σ H Q ⟨ρ,st,io,d,st',E,S,e,k⟩;obtain⟨⟨x,s1⟩,e1,e⟩:=zac e;obtain⟨⟨lo',s2⟩,e2,e⟩:=zac e;obtain⟨⟨hi',s3⟩,e3,e⟩:=zac e;refine⟨ρ,st,io,x,s1,E,S,e1,fun v1 H1 k1 X1 S1 R1=>⟨ρ,s1,io++k1,lo',s2,E.ext S X1,S1,e2,fun H2 k2 X2 S2=>⟨ρ,s2,(io++k1)++k2,hi',s3,(E.ext S X1).ext S1 X2,S2,e3,fun H3 k3 X3 S3=>?_⟩⟩⟩;have R3:=(R1.ext S1 X2).ext S2 X3;have k':=((k.on S1 X1).on S2 X2).on S3 X3
 cases x with
 | tup ds =>
   have e:(if (decide (HT.sIx ds.length 0 lo'=0)&&decide (HT.sIx ds.length ds.length hi'=ds.length))=true then none else some (D.tup (cutD ds lo' hi'),s3))=some (d,st'):=e
   by_cases hw:(decide (HT.sIx ds.length 0 lo'=0)&&decide (HT.sIx ds.length ds.length hi'=ds.length))=true
   . rw[if_pos hw] at e;cases e
   . rw[if_neg hw] at e;cases e;obtain⟨p,xs,rfl,hp,r⟩:=R3;refine .inl ⟨p,xs,rfl,SqT.of hp,fun z=>hw ?_,fun q hq=>k'.tup S3 (ziE r _ _) hq⟩;rw[r.length] at z;rw[Av];exact⟨decide_eq_true z.1,decide_eq_true z.2⟩
 | ref n =>
   obtain⟨ds,e0,e⟩:=zaf e;cases e;obtain⟨p,rfl,hp⟩:=R3;obtain⟨xs,hx,r⟩:=zbn S3 hp e0;exact .inr ⟨p,xs,rfl,hx,fun q hq=>k'.lst S3 (ziE r _ _) hq⟩
 | _=>cases e
noncomputable def ze4:G2:=intD (fun _ j=>decide (0 < j)&&decide (j < 2 ^ 128)) fun i j=>.int (i / j)
theorem zdq:OpM X (binaryOp .FloorDiv) ze4:=zdT (C:=fun i j=>0 < j/\j < 2 ^ 128) (opI fun i j _ _ _ _ _ hc q=>by
 refine floordiv_int (by omega) (by rw[Int.fdiv_eq_ediv_of_nonneg i (by omega)];exact q) (.inl (PyProof.noPylong_of_log2 ?_));have h0:j.natAbs≠0:=by omega
 have h1:j.natAbs < 2 ^ 128:=by omega
 exact BX ((Nat.log2_lt h0).mpr h1) (by decide)) fun i j h=>by
   rw[Av] at h;exact⟨of_decide_eq_true h.1,of_decide_eq_true h.2⟩
noncomputable def powB:G2:=intD (fun i j=>decide (0<=j)&&decide ((Bk i:Int)*j<=2 ^ 27)) fun i j=>.int (i ^ j.toNat)
theorem zhW:OpM X (binaryOp .Pow) powB:=zdT (C:=fun i j=>0<=j/\(Bk i:Int)*j<=2 ^ 27) (opI fun i j _ _ _ _ _ hc q=>pow_int hc.1 hc.2 q) fun i j h=>by
   rw[Av] at h;exact⟨of_decide_eq_true h.1,of_decide_eq_true h.2⟩
end
noncomputable def subT(t T:String):Bool:=t==T || (t=="bool"&&T=="int")
noncomputable def sorts:List String:=["NoneType","bool","int","str","tuple","list","dict"]
noncomputable def kinds:List String:=["bool","int","str","tuple","list","dict"]
theorem zn7{K:Ac}{t T:String}(ht:t∈sorts)(hT:T∈kinds):FN K (.type t) (.type T)=some (subT t T):=by
 have all:∀ t∈sorts,∀ T∈kinds,FN K (.type t) (.type T)=some (subT t T):=by
   intro t ht T hT;simp only[sorts,kinds,Ba,AS,or_false] at ht hT
   rcases ht with rfl | rfl | rfl | rfl | rfl | rfl | rfl <;> rcases hT with rfl | rfl | rfl | rfl | rfl | rfl <;> rfl
 exact all t ht T hT
noncomputable def tyName(st:Sto):D->Option String
 | .non=>some "NoneType"
 | .bl _=>some "bool"
 | .int _=>some "int"
 | .str _=>some "str"
 | .tup _=>some "tuple"
 | .ref n=>match st[n]? with
   | some (.lst _)=>some "list"
   | some (.fz _)=>some "list"
   | some (.dk _)=>some "dict"
   | some (.dt _)=>some "dict"
   | _=>none
 | .kl _=>none
section
variable {X:Cx} {K:Ac} {H:Hp} {io:List Addr} {st st':Sto} {a:Expr} {m:ME} {pos:Pos} {pins:List (Addr×Obj)} {σ:L2.St} {s:Shared}
theorem zij{xs:List V}{p:Addr}(I:Inv X pins σ H s)(h:SqL X.K H p xs):ED p "list" s.heap:=by
 obtain⟨its,_,⟨o,n,e,c,_,_⟩,_⟩:=I.list h;exact⟨o,e,c⟩
theorem zjB{ps:List (Key×V)}{p:Addr}(I:Inv X pins σ H s)(h:H p=some (.dK ps)):ED p "dict" s.heap:=by
 obtain⟨_,_,_,_,o,_,_,e,ex,_⟩:=I.hok p _ h;exact⟨o,e,ex.1⟩
theorem zjA{ps:List (List Key×V)}{p:Addr}(I:Inv X pins σ H s)(h:H p=some (.dT ps)):ED p "dict" s.heap:=by
 obtain⟨_,_,_,_,o,_,_,e,ex,_⟩:=I.hok p _ h;exact⟨o,e,ex.1⟩
theorem zof{d:D}{v:V}{u:Value}{t T:String}{Q:Value->Shared->Prop}{E:Value->Shared->Prop}(I:Inv X pins σ H s)(S:StR X.K H io st)(R:Rep X.K H io v d)(r:RelV v u)(ht:tyName st d=some t)(hT:T∈kinds)
   (q:∀ tk,Q (.bool (subT t T)) { s with toks:=tk }):wpAny (model X.prog X.w) X.A (call (.builtin "isinstance") [u,.type T]) Q E s:=by
 have k:=fun {x:Value} {HH:Heap->Prop} (hs:t∈sorts) (Z:PySem.W.KitX X.K x (.type t) HH) (p:HH s.heap) (hx:x≠.builtin "__main__.__loader__#opaque")=>PySem.W.kia_one (prog:=X.prog) (w:=X.w) (A:=X.A) (E:=E) Z I.kIn p (zn7 hs hT) hx q
 cases d with
 | non=>cases ht;cases (show v=.non from R);cases r;exact k (by decide) PySem.W.kitx_none trivial (by intro e;cases e)
 | bl b=>cases ht;cases (show v=.bl b from R);cases r;exact k (by decide) PySem.W.kitx_bool trivial (by intro e;cases e)
 | int b=>cases ht;cases (show v=.int b from R);obtain⟨t,rfl⟩:=r;exact k (by decide) PySem.W.kitx_int trivial (by intro e;cases e)
 | str b=>cases ht;cases (show v=.str b from R);obtain⟨t,rfl⟩:=r;exact k (by decide) PySem.W.kitx_str trivial (by intro e;cases e)
 | tup ds =>
   cases ht;obtain⟨p,xs,rfl,hp,_⟩:=R;cases r;obtain⟨its,_,⟨o,e,c,_⟩,_⟩:=I.tuple (SqT.of hp);exact k (by decide) PySem.W.kitx_tuple ⟨o,e,c⟩ (by intro e;cases e)
 | ref n =>
   obtain⟨p,rfl,hp⟩:=R;cases r;unfold tyName at ht;dsimp only at ht
   split at ht
   . rename_i o e;cases ht;obtain⟨xs,hH,_⟩:=S.ob n p _ hp e;exact k (by decide) Ff (zij I (SqL.of hH)) (by intro e;cases e)
   . rename_i o e;cases ht;obtain⟨ob,xs,hH,_⟩:=S.ob n p _ hp e;exact k (by decide) Ff (zij I (.inl (.inr ⟨ob,hH⟩))) (by intro e;cases e)
   . rename_i o e;cases ht;obtain⟨xs,hH,_⟩:=S.ob n p _ hp e;exact k (by decide) Fg (zjB I hH) (by intro e;cases e)
   . rename_i o e;cases ht;obtain⟨xs,hH,_⟩:=S.ob n p _ hp e;exact k (by decide) Fg (zjA I hH) (by intro e;cases e)
   . cases ht
 | kl ds=>cases ht
noncomputable def rIsi(K:Ac)(T:String):List V->Hp->VK->Prop:=fun xs H Q=>∃ x d st io t,xs=[x,.ty T]/\Rep K H io x d/\StR K H io st/\tyName st d=some t/\Q (.bl (subT t T)) H
theorem zmt{T:String}(hT:T∈kinds):zjV X (.builtin "isinstance") (rIsi X.K T):=by
 rintro pins s σ H xs us Q I r ⟨x,d,st,io,t,e,R,S,ht,q⟩;subst e;obtain⟨u,w,rfl,ru,rw'⟩:=r.two;cases rw';exact zof I S R ru ht hT fun tk=>⟨.bl _,H,I.tok tk,rfl,q⟩
noncomputable def mIsi(T:String)(m:ME):ME:=fun ρ st=>(m ρ st).bind fun (x,s)=>(tyName s x).map fun t=>(.bl (subT t T),s)
theorem zd8{T:String}{x y:Str}{p p2:Pos}(hT:T∈kinds)(hg:Gl X "isinstance")(hm:X.mg "isinstance"=none)(ha:SE X a m)(hgy:Gl X y)(hmy:X.mg y=none)(hvy:bootBuiltins y=some (.type T))(hny:y≠"__name__":=by decide)(hdy:(y==("__debug__":Str))=false:=by decide)
   (hs:starEach [a,.Name y p2] X.env=(false,eval a X.env)::starEach [.Name y p2] X.env:=by rfl) (hs2:starEach [.Name y p2] X.env=[(false,eval (.Name y p2) X.env)]:=by rfl) (hpl:(backTo pos (starEach [.Name y p2] X.env)).any (·.1)=false:=by rfl) :
   SE X (.Call (.Name "isinstance" p) [a,.Name y p2] [] pos) (mIsi T m) :=
 PE.imp (zfw (zmt hT) hg hm (by decide +kernel) (zf8 ha (zf8 (znz (v:=.ty T) hgy hmy hvy rfl hny hdy) zlz hs2) hs) (by decide) (by decide) hs hpl) <| by
   rintro σ H Q ⟨ρ,st,io,d,st',E,S,e,k⟩;obtain⟨⟨x,s1⟩,e1,e⟩:=zac e;obtain⟨t,e2,e⟩:=zaf e;cases e;exact⟨ρ,st,io,x,_,E,S,e1,fun v1 H1 k1 X1 S1 R1=>⟨v1,x,_,io++k1,t,rfl,R1,S1,e2,k _ H1 k1 X1 S1 rfl⟩⟩
end
theorem zbU{α:Type}{le:α->α->Prop}:∀ {l1 l2:List α},l1.Perm l2->l1.Pairwise le->l2.Pairwise le->(∀ a∈l1,∀ b∈l1,le a b->le b a->a=b)->l1=l2
 | [],l2,p,_,_,_=>(List.Perm.nil_eq p)
 | a::l1,[],p,_,_,_=>absurd p.symm (by intro h;have:=h.length_eq;simp at this)
 | a::l1,b::l2,p,h1,h2,an=>by
   obtain⟨ha,h1'⟩:=List.pairwise_cons.mp h1;obtain⟨hb,h2'⟩:=List.pairwise_cons.mp h2;have e:a=b:=by
     have m1:a∈b::l2:=p.mem_iff.mp Am;have m2:b∈a::l1:=p.mem_iff.mpr Am
     rcases List.mem_cons.mp m1 with q | q
     . exact q
     . rcases List.mem_cons.mp m2 with r | r
       . exact r.symm
       . exact an a Am b (Ag _ r) (ha b r) (hb a q)
   subst e;rw[zbU ((List.perm_cons a).mp p) h1' h2' fun x hx y hy=>an x (Ag _ hx) y (Ag _ hy)]
theorem zjZ{a b:Str}(h:a.cps.toList=b.cps.toList):a=b:=by
 obtain⟨x⟩:=a;obtain⟨y⟩:=b;have:x=y:=by
   have h':x.toList=y.toList:=h;exact Array.toList_inj.mp h'
 rw[this]
section
variable {X:Cx} {K:Ac} {H:Hp} {io:List Addr} {st st':Sto} {a b c e:Expr} {es:List Expr} {ma mb mc m:ME} {mm:MA} {pos:Pos} {pins:List (Addr×Obj)} {σ:L2.St} {s:Shared}
theorem lt64{n:Nat}(h:n < 64):n<=sizeLine:=AF (BJ h) (by decide)
noncomputable def rSlS:V->Option Int->Option Int->Hp->VK->Prop:=fun x lo hi H Q=>∃ z,x=.str z/\z.length<=sizeLine/\Q (.str (FS z lo hi)) H
theorem zo5:SlR X rSlS:=by
 rintro pins s σ H x v vl vu lo hi sl Q I rx hs pl pu ⟨z,e,hz,q⟩;subst e;obtain⟨t,rfl⟩:=rx;refine⟨"str",_,F.slot_str_getitem.lookup,Fy _ _ _,?_⟩;have fin:∀ t' k,EP X pins σ Q (.str (FS z lo hi) t') { s with toks:=k }:=fun t' k=>⟨.str _,H,I.tok k,⟨t',rfl⟩,q⟩
 cases pl with
 | none =>
   cases pu with
   | none=>exact B5 (l:=none) (u:=none) (st:=none) hs rfl (Cs ⟨AF (DO z _ _) hz,fin⟩)
   | int j tj=>exact B5 (l:=none) (u:=some (j,tj)) (st:=none) hs rfl (Cs ⟨AF (DO z _ _) hz,fin⟩)
 | int i ti =>
   cases pu with
   | none=>exact B5 (l:=some (i,ti)) (u:=none) (st:=none) hs rfl (Cs ⟨AF (DO z _ _) hz,fin⟩)
   | int j tj=>exact B5 (l:=some (i,ti)) (u:=some (j,tj)) (st:=none) hs rfl (Cs ⟨AF (DO z _ _) hz,fin⟩)
noncomputable def slS:D->Option Int->Option Int->Sto->Option (D×Sto):=fun x lo hi st=>match x with
 | .str z=>if fits z.length=true then some (.str (FS z lo hi),st) else none
 | _=>none
noncomputable def mSlS(m:ME)(l h:MO):ME:=fun ρ st=>(m ρ st).bind fun (x,s1)=>(l ρ s1).bind fun (lo,s2)=>(h ρ s2).bind fun (hi,s3)=>slS x lo hi s3
theorem zi6{lo hi:Option Expr}{ml mh:MO}{p2:Pos}(he:SE X e m)(hl:SO X lo ml)(hu:SO X hi mh):SE X (.Subscript e (.Slice lo hi none p2) pos) (mSlS m ml mh):=PE.imp (zee zo5 he hl hu) <| by
 rintro σ H Q ⟨ρ,st,io,d,st',E,S,e,k⟩;obtain⟨⟨x,s1⟩,e1,e⟩:=zac e;obtain⟨⟨lo',s2⟩,e2,e⟩:=zac e;obtain⟨⟨hi',s3⟩,e3,e⟩:=zac e;refine⟨ρ,st,io,x,s1,E,S,e1,fun v1 H1 k1 X1 S1 R1=>⟨ρ,s1,io++k1,lo',s2,E.ext S X1,S1,e2,fun H2 k2 X2 S2=>⟨ρ,s2,(io++k1)++k2,hi',s3,(E.ext S X1).ext S1 X2,S2,e3,fun H3 k3 X3 S3=>?_⟩⟩⟩;have k':=((k.on S1 X1).on S2 X2).on S3 X3
 cases x with
 | str z =>
   obtain⟨hf,e⟩:=zap e;cases e;exact⟨z,R1,of_decide_eq_true hf,k'.now S3 rfl⟩
 | _=>cases e
noncomputable def repS(x:Str)(n:Int):Str:=if n < 1 then Str.empty else if (n==1 || x.length==0)=true then x else ⟨(BV n.toNat x.cps).foldl (·++·) #[]⟩
noncomputable def zp6:G2
 | .str x,.int n,st=>if (decide (-(2 ^ 62)<=n)&&decide (n < 2 ^ 20)&&decide (x.length*n.toNat<=sizeLine)&&decide ((repS x n).length<=sizeLine))=true then some (.str (repS x n),st) else none
 | _,_,_=>none
theorem zlD:OpM X (binaryOp .Mult) zp6:=by
 rintro pins s σ H x y v u Q I rx ry ⟨dx,dy,st,io,d,st',Rx,Ry,S,e,k⟩;unfold zp6 at e
 split at e
 . rename_i z n;obtain⟨hc,e⟩:=zap e;cases e;rw[Av,Av,Av] at hc;obtain⟨⟨⟨h1,h2⟩,h3⟩,h4⟩:=hc;have h1:=of_decide_eq_true h1;have h2:=of_decide_eq_true h2;have h3:=of_decide_eq_true h3;have h4:=of_decide_eq_true h4
   cases (show x=.str z from Rx)
   cases (show y=.int n from Ry)
   obtain⟨t,rfl⟩:=rx;obtain⟨t2,rfl⟩:=ry;have fin:∀ t' k',EP X pins σ Q (.str (repS z n) t') { s with toks:=k' }:=fun t' k'=>⟨.str _,H,I.tok k',⟨t',rfl⟩,k.now S rfl⟩
   refine PySem.P.mul_str (by rw[decide_eq_false (by omega),decide_eq_false (by omega)];rfl) (fun hn _=>?_) (fun hn _=>?_) ?_
   . have hs:sizeLine=16777216:=Dm;have hnn:((n.toNat:Nat):Int)=n:=A1 (by omega);have hm:(z.length:Int)*n<=2 ^ 63 - 1:=by
       rw[<-hnn,<-Int.natCast_mul];omega
     have:=Int.le_ediv_of_mul_le (by omega:0 < n) hm;omega
   . unfold Builtin.Str.tooLong;exact decide_eq_false (by omega)
   . unfold repS at fin h4
     by_cases hn:n < 1
     . rw[if_pos hn] at fin h4 ⊢;exact⟨h4,fin s.toks (s.toks+1)⟩
     . rw[if_neg hn] at fin h4 ⊢;exact Cs ⟨h4,fin⟩
 . cases e
end
section
variable {X:Cx} {K:Ac} {H:Hp} {io:List Addr} {st st':Sto} {a b c e:Expr} {es:List Expr} {ma mb mc m:ME} {mm:MA} {pos:Pos} {pins:List (Addr×Obj)} {σ:L2.St} {s:Shared}
noncomputable def memP(p:PyData):PyData->Option Bool
 | .list xs=>some (xs.any fun y=>A9 y p)
 | .tuple xs=>some (xs.any fun y=>A9 y p)
 | _=>none
noncomputable def inD(neg:Bool):G2:=fun x y st=>(toP 50 st x).bind fun p=>(toP 50 st y).bind fun q=>(memP p q).map fun b=>(.bl (if neg then !b else b),st)
theorem zd0{xs:List PyData}(h:(PyData.list xs).canLay0=true):Cf xs=true:=by simpa only [BH] using h
theorem zdw{xs:List PyData}(h:(PyData.tuple xs).canLay0=true):Cf xs=true:=by simpa only [BH] using h
theorem zpQ(hu:X.A.units+100 < cLine):OpM X (compareOp .In) (inD false):=by
 rintro pins s σ H x y v u Q I rx ry ⟨dx,dy,st,io,d,st',Rx,Ry,S,e,k⟩;obtain⟨p,e1,e⟩:=zac e;obtain⟨q,e2,e⟩:=zac e;obtain⟨r,e3,e⟩:=zaf e;cases e;obtain⟨as,ra⟩:=zbH I S Rx rx e1;obtain⟨bs,rb⟩:=zbH I S Ry ry e2;have h1:=zdF e1;have h2:=zdF e2;have hb:∀ n,X.A.units+1+min n p.depth < cLine:=fun n=>by have:=DL n p.depth;omega
 cases q with
 | list xs=>cases e3;exact PySem.SeqAt.in_list_reads rb ra (zd0 h2.1) h1.1 (hb _) ⟨.bl _,H,I,rfl,k.now S rfl⟩
 | tuple xs=>cases e3;exact PySem.SeqAt.in_tuple_reads rb ra (zdw h2.1) h1.1 (hb _) ⟨.bl _,H,I,rfl,k.now S rfl⟩
 | _=>cases e3
theorem zjo(hu:X.A.units+100 < cLine):OpM X (compareOp .NotIn) (inD true):=by
 rintro pins s σ H x y v u Q I rx ry ⟨dx,dy,st,io,d,st',Rx,Ry,S,e,k⟩;obtain⟨p,e1,e⟩:=zac e;obtain⟨q,e2,e⟩:=zac e;obtain⟨r,e3,e⟩:=zaf e;cases e;obtain⟨as,ra⟩:=zbH I S Rx rx e1;obtain⟨bs,rb⟩:=zbH I S Ry ry e2;have h1:=zdF e1;have h2:=zdF e2;have hb:∀ n,X.A.units+1+min n p.depth < cLine:=fun n=>by have:=DL n p.depth;omega
 cases q with
 | list xs=>cases e3;exact PySem.SeqAt.notIn_list_reads rb ra (zd0 h2.1) h1.1 (hb _) ⟨.bl _,H,I,rfl,k.now S rfl⟩
 | tuple xs=>cases e3;exact PySem.SeqAt.notIn_tuple_reads rb ra (zdw h2.1) h1.1 (hb _) ⟨.bl _,H,I,rfl,k.now S rfl⟩
 | _=>cases e3
noncomputable def inSD:G2
 | .str i,.str j,st=>some (.bl (!(Be j i 0 j.length 1).isEmpty),st)
 | _,_,_=>none
theorem znN:OpM X (compareOp .In) inSD:=by
 rintro pins s σ H x y v u Q I rx ry ⟨dx,dy,st,io,d,st',Rx,Ry,S,e,k⟩;unfold inSD at e
 split at e
 . rename_i i j
   cases e;exact zjq pins s σ H x y v u Q I rx ry ⟨i,j,Rx,Ry,k.now S rfl⟩
 . cases e
noncomputable def zmw:List D->Option (List Bool)
 | []=>some []
 | .bl x::r=>(zmw r).map fun xs=>x::xs
 | _=>none
theorem ziN{d:D}{r:List D}{ss:List Bool}(h:zmw (d::r)=some ss):∃ x xs,d=.bl x/\zmw r=some xs/\ss=x::xs:=by
 cases d with
 | bl x =>
   obtain⟨xs,e,h⟩:=zaf h;exact⟨x,xs,rfl,e,h.symm⟩
 | _=>cases h
theorem zkH:∀ {xs:List V} {us:List Value} {ds:List D} {ss:List Bool},Reps K H io xs ds->Vals xs us->zmw ds=some ss->us=ss.map CC
 | _,_,[],ss,h,r,e=>by
   cases (show _=[] from h);cases r;cases e;rfl
 | _,_,d::ds,ss,h,r,e=>by
   obtain⟨y,ys,rfl,h1,h2⟩:=h;obtain⟨x,rest,rfl,e2,rfl⟩:=ziN e
   cases r with
   | cons r1 r2 =>
     cases (show y=.bl x from h1)
     cases r1;rw[zkH h2 r2 e2];rfl
noncomputable def allC:GN
 | [.ref n],st=>(zbj st n).bind fun ds=>(zmw ds).map fun bs=>(.bl (bs.all id),st)
 | _,_=>none
theorem range_all(bs:List Bool):((AN bs.length).all fun i=>bs.getD i false)=bs.all id:=by
 rw[FB,Fq,Fq]
 constructor
 . intro h b hb;obtain⟨i,hi,e⟩:=Dg hb;have:=h i (List.mem_range.mpr hi);rw[Ap,Ah hi,e] at this;exact this
 . intro h i hi;have hi:=List.mem_range.mp hi;rw[Ap,Ah hi];exact h _ (B0 hi)
theorem zb8(hc:X.calm=true):zeu X (.builtin "all") allC:=by
 rintro pins s σ H xs us Q I r ⟨ds,st,io,d,st',R,S,e,k⟩;unfold allC at e
 split at e
 . rename_i n;obtain⟨ts,e0,e⟩:=zac e;obtain⟨bs,e1,e⟩:=zaf e;cases e;obtain⟨v,rfl,p,rfl,hp⟩:=R.one;obtain⟨u,rfl,ru⟩:=r.one;cases ru;obtain⟨ys,hx,r1⟩:=zbn S hp e0;obtain⟨its,rv,pl,hz⟩:=I.list hx;have hb:=zkH r1 rv e1;subst hb;refine call_all_walk (DC pl.isList ?_);have hlt:p < s.heap.objs.size:=by
     obtain⟨o,_,e,_⟩:=pl;exact Al e
   refine⟨_,_,_,_,_,_,fun i=>bs.getD i false,rfl,Walks.list (A:=X.A.in1) (I.ok.hd hc) s.heap.objs.size p (Aw hlt) (bs.map CC).toArray,⟨⟨_,Aq _ rfl,rfl,rfl⟩,?_⟩,?_,fun h' tk hk=>?_⟩
   . obtain⟨o,nn,e,c,dd,sq⟩:=pl;exact⟨o,Ad _ e,c,nn,sq⟩
   . intro i v s' Q' E' hv hq;have hv:((bs.map CC).toArray)[i]?=some v:=hv;rw[Eh,AD] at hv
     cases ei:bs[i]? with
     | none=>rw[ei] at hv;cases hv
     | some bb =>
       rw[ei] at hv;cases hv;refine Bl ?_;have hg:bs.getD i false=bb:=by rw[Ap,ei];rfl
       have hq:Q' (bs.getD i false) s':=hq;rw[hg] at hq;exact hq
   . refine⟨.bl _,H,I.kept (t':=tk) fun b o q=>hk b o ?_ (Ad _ q),rfl,?_⟩
     . simp;exact Aw (Al q)
     . have:((AN (bs.map CC).toArray.size).all fun i=>bs.getD i false)=bs.all id:=by simpa using range_all bs
       rw[this];exact k.now S rfl
 . cases e
end
end L2.MP
namespace Srt
open PySem PySem.W PyProof.Rows
noncomputable def Hd(n:Nat)(r:Nat->Int){α:Type}:KasT α->(α->Prop)->Prop
 | .ret a,Q=>Q a
 | .ask i j k,Q=>(i < n/\j < n)/\Hd n r (k (decide (r i < r j))) Q
section
variable {n:Nat} {r:Nat->Int} {α β:Type}
theorem Hd.bind{f:α->KasT β}{Q:β->Prop}:∀ {t:KasT α},Hd n r t (fun a=>Hd n r (f a) Q)->Hd n r (t.bind f) Q
 | .ret _,h=>h
 | .ask i j k,h=>⟨h.1,Hd.bind (t:=k _) h.2⟩
theorem Hd.mono{P Q:α->Prop}(k:∀ a,P a->Q a):∀ {t:KasT α},Hd n r t P->Hd n r t Q
 | .ret a,h=>k a h
 | .ask i j f,h=>⟨h.1,Hd.mono k (t:=f _) h.2⟩
theorem ziu{c:Prop}[Decidable c]{A B:KasT α}{Q:α->Prop}(hc:c)(h:Hd n r A Q):Hd n r (if decide c=true then A else B) Q:=by
 rw[decide_eq_true hc,if_pos rfl];exact h
theorem ziv{c:Prop}[Decidable c]{A B:KasT α}{Q:α->Prop}(hc:¬ c)(h:Hd n r B Q):Hd n r (if decide c=true then A else B) Q:=by
 rw[decide_eq_false hc,if_neg AU];exact h
def Bel(n:Nat)(p:Array Nat):Prop:=∀ k,p.getD k 0 < n
noncomputable def R(r:Nat->Int)(p:Array Nat)(k:Nat):Int:=r (p.getD k 0)
def Up(r:Nat->Int)(p:Array Nat)(m:Nat):Prop:=∀ i j,i<=j->j < m->R r p i<=R r p j
def Dn(r:Nat->Int)(p:Array Nat)(m:Nat):Prop:=∀ i j,i<=j->j < m->R r p j<=R r p i
theorem getD_eq{p q:Array Nat}{i j:Nat}(h:p[i]?=q[j]?):p.getD i 0=q.getD j 0:=by
 rw[BN,BN,h]
theorem zf2{p:Array Nat}{i j:Nat}(hj:j<=p.size)(k:Nat):(kas_rev p i j).getD k 0=if i<=k/\k < j then p.getD (i+j - 1 - k) 0 else p.getD k 0:=by
 have e:=getElem?_mirror_all (i:=i) hj k;unfold kas_rev
 by_cases h:i<=k/\k < j
 . rw[if_pos h] at e ⊢;exact getD_eq e
 . rw[if_neg h] at e ⊢;exact getD_eq e
theorem zkF{p:Array Nat}{src d:Nat}(hs:src < p.size)(hd:d<=src)(k:Nat):(bubble p src d).getD k 0=if k=src - d then p.getD src 0 else if src - d < k/\k<=src then p.getD (k - 1) 0 else p.getD k 0:=by
 have e:=getElem?_bubble hs d hd k
 by_cases h1:k=src - d
 . rw[if_pos h1] at e ⊢;exact getD_eq e
 . rw[if_neg h1] at e ⊢
   by_cases h2:src - d < k/\k<=src
   . rw[if_pos h2] at e ⊢;exact getD_eq e
   . rw[if_neg h2] at e ⊢;exact getD_eq e
theorem zeK{p:Array Nat}{i j:Nat}(hj:j<=p.size)(h:Bel n p):Bel n (kas_rev p i j):=fun k=>by
 rw[zf2 hj];split
 . exact h _
 . exact h _
theorem zor{p:Array Nat}{src d:Nat}(hs:src < p.size)(hd:d<=src)(h:Bel n p):Bel n (bubble p src d):=fun k=>by
 rw[zkF hs hd]
 by_cases h1:k=src - d
 . rw[if_pos h1];exact h _
 . rw[if_neg h1]
   by_cases h2:src - d < k/\k<=src
   . rw[if_pos h2];exact h _
   . rw[if_neg h2];exact h _
theorem zlj(p:Array Nat)(i j:Nat):(kas_rev p i j).size=p.size:=mirror_size _ _ _ _
theorem zje(p:Array Nat)(i j:Nat):(kas_rev p i j).Perm p:=mirror_perm _ _ _ _
theorem Up.more{p:Array Nat}{m:Nat}(h:Up r p m)(hl:m=0\/R r p (m - 1)<=R r p m):Up r p (m+1):=fun i j hij hj=>by
 by_cases hm:j < m
 . exact h i j hij hm
 . have e:j=m:=by omega
   subst e
   by_cases hi:i=j
   . rw[hi];exact CN _
   . rcases hl with hl | hl
     . omega
     . exact C6 (h i (j - 1) (by omega) (by omega)) hl
theorem Dn.more{p:Array Nat}{m:Nat}(h:Dn r p m)(hl:m=0\/R r p m<=R r p (m - 1)):Dn r p (m+1):=fun i j hij hj=>by
 by_cases hm:j < m
 . exact h i j hij hm
 . have e:j=m:=by omega
   subst e
   by_cases hi:i=j
   . rw[hi];exact CN _
   . rcases hl with hl | hl
     . omega
     . exact C6 hl (h i (j - 1) (by omega) (by omega))
theorem zmy{p:Array Nat}(hb:Bel n p):∀ (f m:Nat),1<=m->Up r p m->Hd n r (kas_asc p f m) fun m'=>m<=m'/\m'<=m+f/\Up r p m'/\(m' < m+f->R r p m' < R r p (m' - 1))
 | 0,m,h1,h=>⟨Af _,Af _,h,fun z=>absurd z (AX _)⟩
 | f+1,m,h1,h=>by
   refine⟨⟨hb _,hb _⟩,?_⟩
   by_cases c:r (p.getD m 0) < r (p.getD (m - 1) 0)
   . refine ziu c ?_;exact⟨Af _,B1 _ _,h,fun _=>c⟩
   . refine ziv c ?_;refine Hd.mono (fun m' h'=>?_) (zmy hb f (m+1) (by omega) (h.more (.inr (Int.not_lt.mp c))));exact⟨by omega,by omega,h'.2.2.1,fun z=>h'.2.2.2 (by omega)⟩
def Eqs(r:Nat->Int)(p:Array Nat)(i j:Nat):Prop:=∀ k,i<=k->k < j->R r p k=R r p (j - 1)
theorem zhJ{p:Array Nat}{i j:Nat}(hj:j<=p.size)(h:Eqs r p i j)(k:Nat):R r (kas_rev p i j) k=R r p k:=by
 unfold R;rw[zf2 hj]
 split
 . rename_i hk;have h1:=h (i+j - 1 - k) (by omega) (by omega);have h2:=h k hk.1 hk.2;exact h1.trans h2.symm
 . rfl
theorem Dn.same{p p':Array Nat}{m:Nat}(h:Dn r p m)(e:∀ k,R r p' k=R r p k):Dn r p' m:=fun i j a b=>by rw[e,e];exact h i j a b
theorem zpi{p:Array Nat}{m:Nat}(hm:m<=p.size)(h:Dn r p m):Up r (kas_rev p 0 m) m:=fun i j hij hj=>by
 unfold R;rw[zf2 hm,zf2 hm,if_pos (by omega),if_pos (by omega)];exact h (0+m - 1 - j) (0+m - 1 - i) (by omega) (by omega)
theorem zgl{N:Nat}:∀ (f:Nat) (p:Array Nat) (m q:Nat),Bel n p->p.size=N->1<=m->m+f<=N->q+1<=m->Dn r p m->Eqs r p (m - (q+1)) m ->
   Hd n r (kas_desc f p m q) fun t=>Bel n t.1/\t.1.Perm p/\m<=t.2.1/\t.2.1<=m+f/\t.2.2+1<=t.2.1/\Dn r t.1 t.2.1/\Eqs r t.1 (t.2.1 - (t.2.2+1)) t.2.1
 | 0,p,m,q,hb,hs,h1,h2,h3,hd,he=>⟨hb,Ct _,Af _,Af _,h3,hd,he⟩
 | f+1,p,m,q,hb,hs,h1,h2,h3,hd,he=>by
   refine⟨⟨hb _,hb _⟩,?_⟩
   by_cases c:r (p.getD m 0) < r (p.getD (m - 1) 0)
   . refine ziu c ?_;have one:∀ p':Array Nat,Eqs r p' (m+1 - (0+1)) (m+1):=fun p' k h1 h2=>by
       have e:k=m+1 - 1:=by omega
       subst e;rfl
     by_cases hq:q > 0
     . rw[if_pos hq];have hz:m<=p.size:=by omega
       have e:=zhJ hz he;refine Hd.mono (fun t ht=>?_) (zgl f (kas_rev p (m - (q+1)) m) (m+1) 0 (zeK hz hb) ((zlj _ _ _).trans hs) (by omega) (by omega) (by omega) ((hd.more (.inr (C7 c))).same e) (one _));exact⟨ht.1,ht.2.1.trans (zje _ _ _),by omega,by omega,ht.2.2.2.2⟩
     . rw[if_neg hq];refine Hd.mono (fun t ht=>?_) (zgl f p (m+1) 0 hb hs (by omega) (by omega) (by omega) (hd.more (.inr (C7 c))) (one _));exact⟨ht.1,ht.2.1,by omega,by omega,ht.2.2.2.2⟩
   . refine ziv c ?_;refine⟨⟨hb _,hb _⟩,?_⟩
     by_cases d:r (p.getD (m - 1) 0) < r (p.getD m 0)
     . refine ziu d ?_;exact⟨hb,Ct _,Af _,B1 _ _,h3,hd,he⟩
     . refine ziv d ?_;have eq:R r p m=R r p (m - 1):=FC (Int.not_lt.mp d) (Int.not_lt.mp c);refine Hd.mono (fun t ht=>?_) (zgl f p (m+1) (q+1) hb hs (by omega) (by omega) (by omega) (hd.more (.inr (Int.not_lt.mp d))) fun k k1 k2=>?_)
       . exact⟨ht.1,ht.2.1,by omega,by omega,ht.2.2.2.2⟩
       . show R r p k=R r p (m+1 - 1)
         by_cases hk:k=m
         . rw[hk];rfl
         . rw[Nat.add_sub_cancel,eq];exact he k (by omega) (by omega)
def zqP(n N:Nat)(r:Nat->Int)(p:Array Nat)(t:Nat×Array Nat):Prop:=Bel n t.2/\t.2.Perm p/\1<=t.1/\t.1<=N/\Up r t.2 t.1
theorem zho{N m:Nat}{p:Array Nat}(hb:Bel n p)(hs:p.size=N)(h1:1<=m)(h2:m<=N)(hd:Dn r p m):Hd n r (kas_tail3 m N p) (zqP n N r p):=by
 unfold kas_tail3;have hz:m<=p.size:=by omega
 refine Hd.bind (Hd.mono (fun m' h'=>?_) (zmy (zeK hz hb) (N - m) m h1 (zpi hz hd)));exact⟨zeK hz hb,zje _ _ _,by omega,by omega,h'.2.2.1⟩
theorem zdX{N m:Nat}{p:Array Nat}(hb:Bel n p)(hs:p.size=N)(h1:1<=m)(h2:m+1<=N)(hd:Dn r p (m+1)):Hd n r (kas_descPart m N p) (zqP n N r p):=by
 unfold kas_descPart;refine Hd.bind (Hd.mono (fun t ht=>?_) (zgl (N:=N) (N - (m+1)) p (m+1) 0 hb hs (by omega) (by omega) (by omega) hd fun k k1 k2=>by
   have:k=m+1 - 1:=by omega
   rw[this]))
 obtain⟨t1,t2,t3,t4,t5,t6,t7⟩:=ht;have hsz:t.1.size=N:=t2.size_eq.trans hs
 by_cases hq:t.2.2 > 0
 . rw[if_pos hq];have hz:t.2.1<=t.1.size:=by omega
   refine Hd.mono (fun u hu=>?_) (zho (zeK hz t1) ((zlj _ _ _).trans hsz) (by omega) (by omega) (t6.same (zhJ hz t7)));exact⟨hu.1,(hu.2.1.trans (zje _ _ _)).trans t2,hu.2.2⟩
 . rw[if_neg hq];refine Hd.mono (fun u hu=>?_) (zho t1 hsz (by omega) (by omega) t6);exact⟨hu.1,hu.2.1.trans t2,hu.2.2⟩
theorem zmq{N:Nat}{p:Array Nat}(hb:Bel n p)(hs:p.size=N)(hN:1<=N):Hd n r (kas_count N p) (zqP n N r p):=by
 unfold kas_count;have up1:Up r p 1:=fun i j a b=>by
   have:i=j:=by omega
   rw[this];exact CN _
 refine Hd.bind (Hd.mono (fun m hm=>?_) (zmy hb (N - 1) 1 (Af _) up1));obtain⟨m1,m2,m3,m4⟩:=hm
 by_cases e:(m==N)=true
 . rw[if_pos e];exact⟨hb,Ct _,m1,by omega,m3⟩
 . rw[if_neg e];have ne:m≠N:=fun z=>e (by simp[z]);have lt:=m4 (by omega)
   by_cases g:m > 1
   . rw[if_pos g];refine⟨⟨hb _,hb _⟩,?_⟩
     by_cases c:r (p.getD 0 0) < r (p.getD (m - 1) 0)
     . refine ziu c ?_;exact⟨hb,Ct _,m1,by omega,m3⟩
     . refine ziv c ?_;have hz:m<=p.size:=by omega
       have all:∀ k,k < m->R r p k=R r p (m - 1):=fun k hk=>FC (m3 k (m - 1) (by omega) (by omega)) (C6 (Int.not_lt.mp c) (m3 0 k (by omega) hk));have e:=zhJ (i:=0) hz fun k _ hk=>all k hk;have dn:Dn r p m:=fun i j a b=>by rw[all i (by omega),all j b];exact CN _
       refine Hd.mono (fun u hu=>?_) (zdX (zeK (i:=0) hz hb) ((zlj _ _ _).trans hs) m1 (by omega) ((dn.more (.inr (C7 lt))).same e));exact⟨hu.1,hu.2.1.trans (zje _ _ _),hu.2.2⟩
   . rw[if_neg g];have m1':m=1:=by omega
     subst m1';have dn:Dn r p 1:=fun i j a b=>by
       have:i=j:=by omega
       rw[this];exact CN _
     exact zdX hb hs (Af _) (by omega) (dn.more (.inr (C7 lt)))
theorem zfv{p:Array Nat}{k:Nat}(hb:Bel n p)(hu:Up r p k):∀ (f a b:Nat),a<=b->b<=k->b<=a+f->(∀ x,x < a->R r p x<=R r p k)->(∀ x,b<=x->x < k->R r p k<=R r p x) ->
   Hd n r (kas_place p k f a b) fun l=>l<=k/\(∀ x,x < l->R r p x<=R r p k)/\∀ x,l<=x->x < k->R r p k<=R r p x
 | 0,a,b,h1,h2,h3,hl,hr=>by
   have:a=b:=by omega
   subst this;exact⟨h2,hl,hr⟩
 | f+1,a,b,h1,h2,h3,hl,hr=>by
   unfold kas_place
   by_cases g:a ≥ b
   . rw[if_pos g];have:a=b:=by omega
     subst this;exact⟨h2,hl,hr⟩
   . rw[if_neg g];refine⟨⟨hb _,hb _⟩,?_⟩
     by_cases c:r (p.getD k 0) < r (p.getD ((a+b) / 2) 0)
     . refine ziu c ?_;refine zfv hb hu f a ((a+b) / 2) (by omega) (by omega) (by omega) hl fun x x1 x2=>?_;exact C6 (C7 c) (hu ((a+b) / 2) x x1 x2)
     . refine ziv c ?_;refine zfv hb hu f ((a+b) / 2+1) b (by omega) h2 (by omega) (fun x hx=>?_) hr;exact C6 (hu x ((a+b) / 2) (by omega) (by omega)) (Int.not_lt.mp c)
theorem zou{N:Nat}:∀ (f:Nat) (p:Array Nat) (k:Nat),Bel n p->p.size=N->k+f=N->Up r p k->Hd n r (kas_bin f p k) fun q=>q.Perm p/\Up r q N
 | 0,p,k,hb,hs,hk,hu=>⟨Ct _,by rw[<-hk];exact hu⟩
 | f+1,p,k,hb,hs,hk,hu=>by
   unfold kas_bin;refine Hd.bind (Hd.mono (fun l hl=>?_) (zfv hb hu k 0 k (Bc _) (Af _) (by omega) (fun x hx=>absurd hx (Cu _)) fun x a b=>absurd (AB b a) (AX _)));obtain⟨l1,l2,l3⟩:=hl;have hks:k < p.size:=by omega
   refine Hd.mono (fun q hq=>⟨hq.1.trans (bubble_perm _ _ _),hq.2⟩) (zou f (bubble p k (k - l)) (k+1) (zor hks (by omega) hb) ((bubble_size _ _ _).trans hs) (by omega) fun i j hij hj=>?_);have g:∀ x,R r (bubble p k (k - l)) x=if x=l then R r p k else if l < x/\x<=k then R r p (x - 1) else R r p x:=fun x=>by
     unfold R;rw[zkF hks (by omega)];have e:k - (k - l)=l:=by omega
     rw[e]
     by_cases a1:x=l
     . rw[if_pos a1,if_pos a1]
     . rw[if_neg a1,if_neg a1]
       by_cases a2:l < x/\x<=k
       . rw[if_pos a2,if_pos a2]
       . rw[if_neg a2,if_neg a2]
   rw[g i,g j]
   by_cases h1:i=l
   . rw[if_pos h1]
     by_cases h2:j=l
     . rw[if_pos h2];exact CN _
     . rw[if_neg h2,if_pos (by omega)];exact l3 (j - 1) (by omega) (by omega)
   . rw[if_neg h1]
     by_cases h2:j=l
     . rw[if_pos h2,if_neg (by omega)];exact l2 i (by omega)
     . rw[if_neg h2]
       by_cases h3:l < i/\i<=k
       . rw[if_pos h3,if_pos (by omega)];exact hu (i - 1) (j - 1) (by omega) (by omega)
       . rw[if_neg h3]
         by_cases h4:l < j/\j<=k
         . rw[if_pos h4];exact hu i (j - 1) (by omega) (by omega)
         . rw[if_neg h4];exact hu i j hij (by omega)
theorem zjf{n:Nat}(hn:1<=n):Bel n (Bv (AN n)):=fun k=>by
 rw[BN,Eh]
 by_cases h:k < n
 . rw[Dh h];exact h
 . rw[List.getElem?_eq_none_iff.mpr (by rw[CI];omega)];exact hn
theorem sort_ok(hn:1<=n):Hd n r (kas_sort n) fun q=>q.Perm (Bv (AN n))/\Up r q n:=by
 unfold kas_sort;have hs:(Bv (AN n)).size=n:=by simp
 refine Hd.bind (Hd.mono (fun t ht=>?_) (zmq (zjf hn) hs hn));obtain⟨t1,t2,t3,t4,t5⟩:=ht
 by_cases h:t.1 < n
 . rw[if_pos h];have e:max t.1 1=t.1:=Nat.max_eq_left t3;rw[e];refine Hd.mono (fun q hq=>⟨hq.1.trans t2,hq.2⟩) (zou (N:=n) (n - t.1) t.2 t.1 t1 (t2.size_eq.trans hs) (by omega) t5)
 . rw[if_neg h];have e:t.1=n:=by omega
   exact⟨t2,by rw[<-e];exact t5⟩
end
end Srt
namespace L2.MP
open PySem PySem.Spec PyProof.Rows
theorem zlT:∀ a:List Int,HT.lexLt a a=false
 | []=>rfl
 | x::r=>by rw[HT.lexLt_cons,if_pos rfl];exact zlT r
theorem zkp:∀ {a b:List Int},HT.lexLt a b=false->HT.lexLt b a=false->a=b
 | [],[],_,_=>rfl
 | [],_::_,h,_=>by rw[HT.lexLt_nil_cons] at h;cases h
 | _::_,[],_,h=>by rw[HT.lexLt_nil_cons] at h;cases h
 | x::a,y::b,h1,h2=>by
   rw[HT.lexLt_cons] at h1 h2
   by_cases e:x=y
   . subst e;rw[if_pos rfl] at h1 h2;rw[zkp h1 h2]
   . rw[if_neg e] at h1;rw[if_neg (Bx e)] at h2;have a1:=of_decide_eq_false h1;have a2:=of_decide_eq_false h2;omega
theorem zih:∀ {a b c:List Int},HT.lexLt b a=false->HT.lexLt c b=false->HT.lexLt c a=false
 | a,[],c,_,h2=>by
   cases c with
   | nil =>
     cases a with
     | nil=>rfl
     | cons x a=>rename_i h1;rw[HT.lexLt_nil_cons] at h1;cases h1
   | cons z c =>
     cases a with
     | nil=>exact HT.lexLt_cons_nil _ _
     | cons x a=>rename_i h1;rw[HT.lexLt_nil_cons] at h1;cases h1
 | a,y::b,[],_,h2=>by rw[HT.lexLt_nil_cons] at h2;cases h2
 | [],y::b,z::c,_,_=>HT.lexLt_cons_nil _ _
 | x::a,y::b,z::c,h1,h2=>by
   rw[HT.lexLt_cons] at h1 h2 ⊢
   by_cases e1:y=x
   . subst e1;rw[if_pos rfl] at h1
     by_cases e2:z=y
     . subst e2;rw[if_pos rfl] at h2 ⊢;exact zih h1 h2
     . rw[if_neg e2] at h2 ⊢;exact h2
   . rw[if_neg e1] at h1;have a1:=of_decide_eq_false h1
     by_cases e2:z=y
     . subst e2;rw[if_neg e1];exact h1
     . rw[if_neg e2] at h2;have a2:=of_decide_eq_false h2;rw[if_neg (by omega)];exact decide_eq_false (by omega)
theorem zko{a b:List Int}(h:HT.lexLt a b=true):HT.lexLt b a=false:=by
 cases e:HT.lexLt b a with
 | false=>rfl
 | true =>
   -- b < a and a < b: then not (a < a) breaks
   exfalso;have:∀ {a b:List Int},HT.lexLt a b=true->HT.lexLt b a=true->False:=by
     intro a
     induction a with
     | nil=>intro b h1 h2;cases b with
       | nil=>rw[HT.lexLt_nil_nil] at h1;cases h1
       | cons y b=>rw[HT.lexLt_cons_nil] at h2;cases h2
     | cons x a ih=>intro b h1 h2;cases b with
       | nil=>rw[HT.lexLt_cons_nil] at h1;cases h1
       | cons y b =>
         rw[HT.lexLt_cons] at h1 h2
         by_cases q:x=y
         . subst q;rw[if_pos rfl] at h1 h2;exact ih h1 h2
         . rw[if_neg q] at h1;rw[if_neg (Bx q)] at h2;have a1:=of_decide_eq_true h1;have a2:=of_decide_eq_true h2;omega
   exact this h e
noncomputable def tle(a b:List Int):Bool:=!HT.lexLt b a
noncomputable def zj1(ts:List (List Int)):List (List Int):=ts.mergeSort tle
theorem zb5(a b c:List Int)(h1:tle a b=true)(h2:tle b c=true):tle a c=true:=by
 unfold tle at *;rw[DG] at *;exact zih h1 h2
theorem zc7(a b:List Int):(tle a b || tle b a)=true:=by
 unfold tle
 cases e:HT.lexLt b a with
 | false=>rfl
 | true=>rw[zko e];rfl
theorem zfp{a b:List Int}(h1:tle a b=true)(h2:tle b a=true):a=b:=by
 unfold tle at *;rw[DG] at *;exact zkp h2 h1
noncomputable def rank(ts:List (List Int))(i:Nat):Int:=((ts.countP fun t=>HT.lexLt t (ts.getD i [])):Nat)
theorem zhL{ts:List (List Int)}{i j:Nat}(hi:i < ts.length):(decide (rank ts i < rank ts j))=HT.lexLt (ts.getD i []) (ts.getD j []):=by
 unfold rank
 cases e:HT.lexLt (ts.getD i []) (ts.getD j []) with
 | true =>
   refine decide_eq_true ?_;have le:ts.countP (fun t=>HT.lexLt t (ts.getD i [])) < ts.countP (fun t=>HT.lexLt t (ts.getD j [])):=by
     have hm:ts.getD i []∈ts:=by rw[Ap,Ah hi];exact B0 hi
     generalize ha:ts.getD i []=a at *;generalize hb:ts.getD j []=b at *;clear ha hb hi;have sub:∀ t,HT.lexLt t a=true->HT.lexLt t b=true:=fun t ht=>by
       cases q:HT.lexLt t b with
       | true=>rfl
       | false =>
         exfalso
         -- b<=t,t < a,a < b
         have h1:HT.lexLt a t=false:=zko ht;have:HT.lexLt a b=false:=by
           have h2:tle b t=true:=by unfold tle;rw[q];rfl
           have h3:tle t a=true:=by unfold tle;rw[h1];rfl
           have:=zb5 b t a h2 h3;unfold tle at this;rw[DG] at this;exact this
         rw[e] at this;cases this
     induction ts with
     | nil=>exact absurd hm (by simp)
     | cons t r ih =>
       rw[Fs,Fs]
       rcases List.mem_cons.mp hm with q | q
       . subst q;rw[zlT,e];have:r.countP (fun t=>HT.lexLt t a)<=r.countP (fun t=>HT.lexLt t b):=Ei fun t _ ht=>sub t ht;simp only[Bi,if_false,if_true];omega
       . have:=ih q
         by_cases c:HT.lexLt t a=true
         . rw[if_pos c,if_pos (sub t c)];omega
         . rw[if_neg c];split <;> omega
   omega
 | false =>
   refine decide_eq_false ?_;have le:ts.countP (fun t=>HT.lexLt t (ts.getD j []))<=ts.countP (fun t=>HT.lexLt t (ts.getD i [])):=Ei fun t _ ht=>by
     cases q:HT.lexLt t (ts.getD i []) with
     | true=>rfl
     | false =>
       exfalso;have h2:tle (ts.getD j []) (ts.getD i [])=true:=by unfold tle;rw[e];rfl
       have h3:tle (ts.getD i []) t=true:=by unfold tle;rw[q];rfl
       have h4:=zb5 _ _ _ h2 h3;unfold tle at h4;rw[ht] at h4;cases h4
   omega
theorem zqo{n:Nat}{r:Nat->Int}{α:Type}{P:α->Prop}{Q:α->Shared->Prop}{s:Shared}{cmp:Nat->Nat->(Bool->Shared->Prop)->Shared->Prop}(hc:∀ i j,i < n->j < n->∀ C:Bool->Shared->Prop,C (decide (r i < r j)) s->cmp i j C s)(hq:∀ a,P a->Q a s) :
   ∀ {t:PySem.W.KasT α},Srt.Hd n r t P->t.kasWp cmp Q s
 | .ret a,h=>hq a h
 | .ask i j k,h=>hc i j h.1.1 h.1.2 _ (zqo hc hq (t:=k _) h.2)
section
variable {prog:Program} {w:World} {A:Around} {E:Value->Shared->Prop} {s:Shared}
theorem zdW{Q:Bool->Shared->Prop}:∀ {xs ys:List Int} {us ws:List Value} (i:Nat),Vals (xs.map V.int) us->Vals (ys.map V.int) ws->Q (HT.lexLt xs ys) s->FO prog w A true (decide (us.length < ws.length)) Q (us.zip ws) i s
 | [],[],_,_,i,.nil,.nil,h=>h
 | [],y::ys,_,_,i,.nil,.cons r t,h=>by
   show Q (decide (_ < _)) s;rw[decide_eq_true (by simp)];exact h
 | x::xs,[],_,_,i,.cons r t,.nil,h=>by
   show Q (decide (_ < _)) s;rw[decide_eq_false (by simp)];exact h
 | x::xs,y::ys,_,_,i,.cons r1 t1,.cons r2 t2,h=>by
   obtain⟨a1,rfl⟩:=r1;obtain⟨a2,rfl⟩:=r2;rw[HT.lexLt_cons] at h;refine Dq x a1 y a2 prog w _ _ ?_
   by_cases e:x=y
   . subst e;rw[if_pos rfl] at h;rw[beq_self_eq_true,if_pos rfl];have:=zdW (Q:=Q) (i+1) t1 t2 h;rw[AE,AE];have e2:∀ a b:Nat,decide (a+1 < b+1)=decide (a < b):=fun a b=>by
       by_cases q:a < b
       . rw[decide_eq_true q,decide_eq_true (by omega)]
       . rw[decide_eq_false q,decide_eq_false (by omega)]
     rw[e2];exact this
   . rw[if_neg e] at h;have hb:(x==y)=false:=by simpa using e
     rw[hb,if_neg AU]
     by_cases hi:i=0
     . subst hi;exact oneLt_int h
     . have:(true&&i==0)=false:=by simpa using hi
       rw[this];exact FD _ _ (EL h)
end
section
variable {X:Cx} {pins:List (Addr×Obj)} {σ:L2.St} {H:Hp} {s:Shared}
noncomputable def ziU(H:Hp):List V->List (List Int)->Prop:=Paired fun v t=>∃ a,v=.ref a/\H a=some (.tup (t.map V.int))/\t≠[]
theorem zfm:∀ {xs:List V} {ts:List (List Int)} {i:Nat},ziU H xs ts->i < ts.length->∃ a,xs[i]?=some (.ref a)/\H a=some (.tup ((ts.getD i []).map V.int))/\ts.getD i []≠[]
 | _,[],i,_,hi=>absurd hi (by simp)
 | _,t::ts,0,.cons r q,_=>by
   obtain⟨a,rfl,ha,hn⟩:=r;exact⟨a,rfl,ha,hn⟩
 | _,t::ts,i+1,.cons r q,hi=>by
   have:=zfm (i:=i) q (by simpa using hi);simpa using this
theorem zqK{A:Around}{xs:List V}{us:List Value}{ts:List (List Int)}{s':Shared}(I:Inv X pins σ H s)(hk:∀ b o,H b≠none->s.heap.get? b=some o->s'.heap.get? b=some o)(T:ziU H xs ts)(r:Vals xs us){i j:Nat}(hi:i < ts.length)(hj:j < ts.length)(C:Bool->Shared->Prop)
   (h:C (decide (rank ts i < rank ts j)) s'):C8 X.prog X.w A (Ex true) us i j C s':=by
 rw[zhL hi] at h;obtain⟨a,ea,ha,_⟩:=zfm T hi;obtain⟨b,eb,hb,_⟩:=zfm T hj;obtain⟨u,eu,ru⟩:=r.get ea;obtain⟨u2,eu2,ru2⟩:=r.get eb;cases ru;cases ru2;obtain⟨ia,va,⟨oa,ga,ca,na,da⟩,_⟩:=I.tuple (SqT.of (K:=X.K) ha);obtain⟨ib,vb,⟨ob,gb,cb,nb,db⟩,_⟩:=I.tuple (SqT.of (K:=X.K) hb);unfold C8;rw[Ap,Ap,eu,eu2];refine FP (hk _ _ (by rw[ha];simp) ga) da (hk _ _ (by rw[hb];simp) gb) db ?_;have:=zdW (prog:=X.prog) (w:=X.w) (A:=A) (Q:=C) (s:=s') 0 va vb h;simpa using this
end
section
variable {X:Cx} {pins:List (Addr×Obj)} {σ:L2.St} {H:Hp} {s:Shared}
theorem zin{h':Heap}(I:Inv X pins σ H s)(hk:∀ b o,H b≠none->s.heap.get? b=some o->h'.get? b=some o):∀ {xs:List V} {us:List Value} {ts:List (List Int)},ziU H xs ts->Vals xs us ->
   ∃ fs:List Value,FE h' us fs/\fs.length=us.length/\∀ v∈fs,∃ i t,v=EM i t
 | _,_,[],.nil,.nil=>⟨[],EI,rfl,fun v hv=>absurd hv (by simp)⟩
 | _,_,t::ts,.cons r q,.cons rv rvs=>by
   obtain⟨a,rfl,ha,hn⟩:=r;cases rv;obtain⟨fs,h1,h2,h3⟩:=zin I hk q rvs;obtain⟨its,va,⟨o,g,c,n,d⟩,_⟩:=I.tuple (SqT.of (K:=X.K) ha)
   cases t with
   | nil=>exact absurd rfl hn
   | cons x t =>
     cases va with
     | @cons _ u _ us' ru rus =>
       obtain⟨tk,rfl⟩:=ru;refine⟨.int x tk::fs,Ey (hk _ _ (by rw[ha];simp) g) c d (by simp) h1,by rw[AE,AE,h2],fun v hv=>?_⟩
       rcases List.mem_cons.mp hv with rfl | hv
       . exact⟨x,tk,rfl⟩
       . exact h3 v hv
end
theorem zga{P:Program}{w:World}{H:Hp}{h:Heap}{a:Addr}{o:HO}(x:zcD P w H h a o):∃ u,h.get? a=some u:=by
 cases o with
 | lst xs=>obtain⟨_,_,_,_,e⟩:=x;exact⟨_,e⟩
 | tup xs=>obtain⟨_,_,_,o,e,_⟩:=x;exact⟨_,e⟩
 | dK kvs=>obtain⟨_,_,_,_,o,_,_,e,_⟩:=x;exact⟨_,e⟩
 | dT kvs=>obtain⟨_,_,_,_,o,_,_,e,_⟩:=x;exact⟨_,e⟩
 | set S n=>obtain⟨o,_,_,_,e,_⟩:=x;exact⟨_,e⟩
 | ins C dx fs=>obtain⟨_,_,_,e,_⟩:=x;exact⟨_,e⟩
 | own y=>exact x
 | xd fs=>obtain⟨_,⟨_,_,_,e,_⟩,_⟩:=x;exact⟨_,e⟩
 | rng lo hi=>obtain⟨_,_,_,e⟩:=x;exact⟨_,e⟩
 | frz ob u=>obtain⟨e,_⟩:=x;exact⟨_,e⟩
 | tbl ps=>exact⟨_,x⟩
 | met f y=>exact⟨_,x⟩
 | ext φ=>obtain⟨_,e,_⟩:=x;exact e
theorem znU{h:Heap}{a:Addr}{m m':Str->Option Value}(x:h.Ns a m)(y:h.Ns a m'):m=m':=by
 obtain⟨o,es,ep,ho,hd,_,hm⟩:=x;obtain⟨o',es',ep',ho',hd',_,hm'⟩:=y;rw[ho] at ho';cases ho';rw[hd] at hd';cases hd'
 funext n
 rw[<-hm n,hm' n]
section
variable {X:Cx} {pins:List (Addr×Obj)} {σ:L2.St} {H:Hp} {s:Shared}
theorem Inv.laidAt{h':Heap}{m:Str->Option Value}{a:Addr}{o:HO}(I:Inv X pins σ H s)(k:∀ b u,b≠X.env.locals->s.heap.get? b=some u->h'.get? b=some u)(ns:∀ m,s.heap.Ns X.env.locals m->h'.Ns X.env.locals m)(hL:∃ u,h'.get? X.env.locals=some u)
   (ha:s.heap.get? a=none) (hH:H a=none) (haL:a≠X.env.locals) (new:zcD X.prog X.w (upd H a o) h' a o):Inv X pins σ (upd H a o) { s with heap:=h' }:=by
 have na:∀ b u,s.heap.get? b=some u->b≠a:=fun b u e z=>by rw[z,ha] at e;cases e
 refine Inv.step (t':=s.toks) (ch:=[]) (g':=s.gens) (d':=s.drawn) I (fun b hb=>absurd hb (by simp)) (fun b u h1 _ _ e _=>k b u h1 e) (fun b u h1 _ _ e _=>⟨u.slots,k b u h1 e⟩) (fun b u _ e n=>by rw[zaA (na b u e)];exact n) (fun b u _ e=>?_)
   (fun b xs e=>by rw[zaA (zaq e hH)];exact e) (fun b u v e=>by rw[zaA (zaq e hH)];exact e) (fun b ps e=>⟨#[],by rw[zaA (zaq e hH),e];simp⟩) ns (fun b u e=>?_) I.bare
 . by_cases hb:b=X.env.locals
   . rw[hb];exact hL
   . exact⟨u,k b u hb e⟩
 . by_cases hb:b=a
   . subst hb;rw[zba] at e;cases e;exact new
   . rw[zaA hb] at e;refine (I.hok b u e).stay (fun c v hc q=>k c v (fun z=>?_) q) (fun c q=>by rw[zaA (zaq q hH)];exact q) fun c xs q=>by rw[zaA (zaq q hH)];exact q
     subst z
     rcases hc with rfl | hc
     . rw[I.free] at e;cases e
     . rw[I.free] at hc;cases hc
end
theorem zcx{α:Type}(ts:List α)(d:α):(AN ts.length).map (fun i=>ts.getD i d)=ts:=by
 apply List.ext_getElem
 . simp
 . intro i h1 h2;simp[Ap,Ah h2]
theorem zdS{ts:List (List Int)}{q:Array Nat}(hp:q.Perm (Bv (AN ts.length)))(hu:Srt.Up (rank ts) q ts.length):q.toList.map (fun i=>ts.getD i [])=zj1 ts:=by
 have hl:=Array.perm_iff_toList_perm.mp hp;have hl:q.toList.Perm (AN ts.length):=by simpa using hl
 have hsz:q.toList.length=ts.length:=by rw[hl.length_eq,CI]
 have p1:(q.toList.map fun i=>ts.getD i []).Perm ts:=by
   have:=hl.map fun i=>ts.getD i [];rw[zcx] at this;exact this
 refine zbU (le:=fun a b=>tle a b=true) (p1.trans (Di ts tle).symm) ?_ (B6 (fun a b c=>zb5 a b c) zc7 ts) fun a _ b _=>zfp;rw[List.pairwise_iff_getElem];intro i j hi hj hij;rw[Ft,Ft];rw[Ak] at hi hj;have hu:=hu i j (BJ hij) (by omega);have gi:∀ (k:Nat) (hk:k < q.toList.length),q.getD k 0=q.toList[k]:=fun k hk=>by
   rw[BN,<-BQ,Ah hk];rfl
 unfold Srt.R at hu;rw[gi i hi,gi j hj] at hu;have lt:∀ k∈q.toList,k < ts.length:=fun k hk=>List.mem_range.mp (hl.mem_iff.mp hk);have e:=zhL (ts:=ts) (i:=q.toList[j]) (j:=q.toList[i]) (lt _ (B0 hj));rw[decide_eq_false (by omega)] at e;unfold tle;rw[<-e];rfl
noncomputable def intsOf:List D->Option (List Int)
 | []=>some []
 | .int i::r=>(intsOf r).map fun is=>i::is
 | _=>none
theorem zg2{d:D}{r:List D}{ss:List Int}(h:intsOf (d::r)=some ss):∃ x xs,d=.int x/\intsOf r=some xs/\ss=x::xs:=by
 cases d with
 | int x =>
   obtain⟨xs,e,h⟩:=zaf h;exact⟨x,xs,rfl,e,h.symm⟩
 | _=>cases h
noncomputable def rowOf:D->Option (List Int)
 | .tup ds=>(intsOf ds).bind fun t=>if (!t.isEmpty)=true then some t else none
 | _=>none
noncomputable def rowsOf:List D->Option (List (List Int))
 | []=>some []
 | d::r=>(rowOf d).bind fun t=>(rowsOf r).map fun ts=>t::ts
noncomputable def tupD(t:List Int):D:=.tup (t.map D.int)
section
variable {X:Cx} {K:Ac} {H:Hp} {io:List Addr} {st st':Sto}
theorem ints_rep:∀ {xs:List V} {ds:List D} {t:List Int},Reps K H io xs ds->intsOf ds=some t->xs=t.map V.int/\ds=t.map D.int
 | _,[],t,h,e=>by cases e;exact⟨h,rfl⟩
 | _,d::ds,t,h,e=>by
   obtain⟨y,ys,rfl,h1,h2⟩:=h;obtain⟨x,rest,rfl,e2,rfl⟩:=zg2 e;obtain⟨a,b⟩:=ints_rep h2 e2
   cases (show y=.int x from h1)
   rw[a,b];exact⟨rfl,rfl⟩
theorem zhH:∀ {xs:List V} {ds:List D} {ts:List (List Int)},Reps K H io xs ds->rowsOf ds=some ts->ziU H xs ts/\ds=ts.map tupD
 | _,[],ts,h,e=>by
   cases e;cases (show _=[] from h);exact⟨.nil,rfl⟩
 | _,d::ds,ts,h,e=>by
   obtain⟨y,ys,rfl,h1,h2⟩:=h;obtain⟨t,e1,e⟩:=zac e;obtain⟨us,e2,e⟩:=zaf e;subst e;obtain⟨a,b⟩:=zhH h2 e2
   cases d with
   | tup zs =>
     obtain⟨t',f1,f2⟩:=zac e1;obtain⟨hn,f2⟩:=zap f2;cases f2;obtain⟨p,vs,rfl,hp,rs⟩:=h1;obtain⟨q1,q2⟩:=ints_rep rs f1;subst q1;refine⟨.cons ⟨p,rfl,hp,fun z=>?_⟩ a,?_⟩
     . rw[z] at hn;exact absurd hn (by decide)
     . rw[b,q2];rfl
   | _=>cases e1
theorem zf5{xs:List V}{ts:List (List Int)}(r:Reps K H io xs (ts.map tupD)):∀ {q:List Nat},(∀ i∈q,i < ts.length)->Reps K H io (q.map fun i=>xs.getD i .non) ((q.map fun i=>ts.getD i []).map tupD)
 | [],_=>rfl
 | i::q,h=>by
   have hi:=h i Am;have hg:(ts.map tupD)[i]?=some (tupD (ts.getD i [])):=by
     rw[AD,Ah hi,Ap,Ah hi];rfl
   obtain⟨v,hv,rv⟩:=r.get hg;refine⟨_,_,rfl,?_,zf5 r fun j hj=>h j (Ag _ hj)⟩;show Rep K H io (xs.getD i .non) _;rw[Ap,hv];exact rv
end
section
variable {X:Cx} {K:Ac} {H:Hp} {io:List Addr} {st st':Sto} {a b c e:Expr} {es:List Expr} {ma mb mc m:ME} {mm:MA} {pos:Pos} {pins:List (Addr×Obj)} {σ:L2.St} {s:Shared}
noncomputable def orO{α:Type}:Option α->Option α->Option α
 | some x,_=>some x
 | none,y=>y
theorem zbz{α:Type}{x y:Option α}{z:α}(h:orO x y=some z):x=some z\/y=some z:=by
 cases x with
 | none=>exact .inr h
 | some w=>exact .inl h
noncomputable def orG(g h:G2):G2:=fun x y st=>orO (g x y st) (h x y st)
noncomputable def orN(g h:GN):GN:=fun xs st=>orO (g xs st) (h xs st)
theorem zfy{f:Value->Value->Sem Value}{g h:G2}(p:OpM X f g)(q:OpM X f h):OpM X f (orG g h):=by
 rintro pins s σ H x y v u Q I rx ry ⟨dx,dy,st,io,d,st',Rx,Ry,S,e,k⟩
 rcases zbz e with e | e
 . exact p pins s σ H x y v u Q I rx ry ⟨dx,dy,st,io,d,st',Rx,Ry,S,e,k⟩
 . exact q pins s σ H x y v u Q I rx ry ⟨dx,dy,st,io,d,st',Rx,Ry,S,e,k⟩
theorem zfL{f:Value}{g h:GN}(p:zeu X f g)(q:zeu X f h):zeu X f (orN g h):=by
 rintro pins s σ H xs us Q I r ⟨ds,st,io,d,st',R,S,e,k⟩
 rcases zbz e with e | e
 . exact p pins s σ H xs us Q I r ⟨ds,st,io,d,st',R,S,e,k⟩
 . exact q pins s σ H xs us Q I r ⟨ds,st,io,d,st',R,S,e,k⟩
theorem zgd{g:G2}{ρ:Rho}{x y:D}{s0 s1 s2:Sto}{r:D×Sto}(h1:ma ρ s0=some (x,s1))(h2:mb ρ s1=some (y,s2))(h3:g x y s2=some r):mBin g ma mb ρ s0=some r:=by
 unfold mBin;rw[h1];show F6 (mb ρ s1) _=_;rw[h2];exact h3
theorem zk9{g h:G2}(p:SE X e (mBin g ma mb))(q:SE X e (mBin h ma mb)):SE X e (mBin (orG g h) ma mb):=by
 rintro pins s σ H Q I ⟨ρ,st,io,d,st',E,S,e,k⟩;obtain⟨⟨x,s1⟩,e1,e⟩:=zac e;obtain⟨⟨y,s2⟩,e2,e⟩:=zac e
 rcases zbz e with e | e
 . exact p pins s σ H Q I ⟨ρ,st,io,d,st',E,S,zgd e1 e2 e,k⟩
 . exact q pins s σ H Q I ⟨ρ,st,io,d,st',E,S,zgd e1 e2 e,k⟩
theorem zng{g h:G2}(p:SB X e (mTst (mBin g ma mb)))(q:SB X e (mTst (mBin h ma mb))):SB X e (mTst (mBin (orG g h) ma mb)):=by
 rintro pins s σ H Q I ⟨ρ,st,io,d,st',E,S,e,k⟩;have e:=zhl e;obtain⟨⟨x,s1⟩,e1,e⟩:=zac e;obtain⟨⟨y,s2⟩,e2,e⟩:=zac e
 rcases zbz e with e | e
 . exact p pins s σ H Q I ⟨ρ,st,io,d,st',E,S,by unfold mTst;rw[zgd e1 e2 e];rfl,k⟩
 . exact q pins s σ H Q I ⟨ρ,st,io,d,st',E,S,by unfold mTst;rw[zgd e1 e2 e];rfl,k⟩
noncomputable def zqz:G2:=fun d k st=>match d with
 | .ref n=>(look st n k).bind fun r=>r.map fun v=>(v,st)
 | _=>none
noncomputable def ixA:G2:=orG idxD zqz
theorem zas(hu:X.A.units+1 < cLine)(ha:SE X a ma)(hb:SE X b mb)(hs:zgr b:=by intro _ _;rfl)(hs':NoSl b:=by intro _ _;rfl):SE X (.Subscript a b pos) (mBin ixA ma mb) :=
 zk9 (zrt ha hb hs) (show SE X (.Subscript a b pos) (zqY ma mb) from znc hu ha hb hs')
noncomputable def dinD(neg:Bool):G2:=fun k d st=>match d with
 | .ref n=>(look st n k).map fun r=>(.bl (if neg then !r.isSome else r.isSome),st)
 | _=>none
noncomputable def inA:G2:=orG (orG (inD false) inSD) (dinD false)
noncomputable def zlK:G2:=orG (inD true) (dinD true)
theorem zlc(hu:X.A.units+100 < cLine)(ha:SE X a ma)(hb:SE X b mb)(hm:behindInMarks .In b=false:=by rfl):SE X (.Compare a [.In] [b] pos) (mBin inA ma mb) :=
 zk9 (zgE (zfy (zpQ hu) znN) ha hb hm) (show SE X _ (mDIn false ma mb) from zpd (by omega) ha hb hm)
theorem zjc(hu:X.A.units+100 < cLine)(ha:SE X a ma)(hb:SE X b mb)(hm:behindInMarks .NotIn b=false:=by rfl):SB X (.Compare a [.NotIn] [b] pos) (mTst (mBin zlK ma mb)) :=
 zng (zbu (zjo hu) ha hb hm) (show SB X _ (mTst (mDIn true ma mb)) from zjd (by omega) ha hb hm)
noncomputable def slA:D->Option Int->Option Int->Sto->Option (D×Sto):=fun x lo hi st=>orO (slD x lo hi st) (slS x lo hi st)
noncomputable def mSlA(m:ME)(l h:MO):ME:=fun ρ st=>(m ρ st).bind fun (x,s1)=>(l ρ s1).bind fun (lo,s2)=>(h ρ s2).bind fun (hi,s3)=>slA x lo hi s3
theorem zi7{lo hi:Option Expr}{ml mh:MO}{p2:Pos}(he:SE X e m)(hl:SO X lo ml)(hu:SO X hi mh):SE X (.Subscript e (.Slice lo hi none p2) pos) (mSlA m ml mh):=by
 rintro pins s σ H Q I ⟨ρ,st,io,d,st',E,S,e0,k⟩;obtain⟨⟨x,s1⟩,e1,e0⟩:=zac e0;obtain⟨⟨lo',s2⟩,e2,e0⟩:=zac e0;obtain⟨⟨hi',s3⟩,e3,e0⟩:=zac e0
 rcases zbz e0 with e0 | e0
 . exact zk8 he hl hu pins s σ H Q I ⟨ρ,st,io,d,st',E,S,by simp only[mSl,e1,e2,e3,Ab];exact e0,k⟩
 . exact zi6 he hl hu pins s σ H Q I ⟨ρ,st,io,d,st',E,S,by simp only[mSlS,e1,e2,e3,Ab];exact e0,k⟩
noncomputable def zjX:D->Sto->Option (Wk×Sto)
 | .ref n,s=>(zbj s n).map fun ds=>(⟨ds,[(n,ds)]⟩,s)
 | .tup ds,s=>some (⟨ds,[]⟩,s)
 | _,_=>none
noncomputable def mW(m:ME):MI:=fun ρ st=>(m ρ st).bind fun (d,s)=>zjX d s
theorem zm4{tg l:Expr}(hl:SE X l m):SI X tg l (mW m):=by
 rintro pins s σ H R I ⟨ρ,st,io,W,st',E,S,e0,k⟩;obtain⟨⟨d,s1⟩,e1,e0⟩:=zac e0
 cases d with
 | ref n=>exact zm5 hl pins s σ H R I ⟨ρ,st,io,W,st',E,S,by unfold mWL;rw[e1];exact e0,k⟩
 | tup ds=>exact zo7 hl pins s σ H R I ⟨ρ,st,io,W,st',E,S,by unfold mWT;rw[e1];exact e0,k⟩
 | _=>cases e0
noncomputable def setD:G3:=fun o i v st=>match o,i with
 | .ref n,.int k=>match st[n]? with
   | some (.lst ds)=>(ixN ds.length k).map fun j=>st.set n (.lst (ds.set j v))
   | _=>none
 | _,_=>none
theorem zrr:SetM X setD:=by
 rintro pins s σ H o i v ov iv u Q I ro ri rv ⟨d1,d2,d3,st,io,st',R1,R2,R3,S,e,k⟩
 cases d1 with
 | ref n =>
   cases d2 with
   | int j =>
     unfold setD at e;dsimp only at e
     split at e
     . rename_i ds e0;obtain⟨q,e1,e⟩:=zaf e;cases e;obtain⟨p,rfl,hp⟩:=R1;obtain⟨ys,hH,r⟩:=S.ob n p _ hp e0;refine set_list pins s σ H _ _ v ov iv u Q I ro ri rv ⟨p,ys,j,q,rfl,R2,hH,by rw[r.length];exact e1,?_⟩;obtain⟨E',S'⟩:=zdH (o:=.lst (ys.set q v)) (ob:=.lst (ds.set q d3)) S hp e0 (fun o u z=>by rw[hH] at z;cases z) fun H' T e'=>⟨_,e',(Reps.mono T r).set q (Rep.mono T R3)⟩
       exact k _ [] E' S'
     . cases e
   | _=>cases e
 | _=>cases d2 <;> cases e
noncomputable def putA(mo mi mv:ME):MS:=fun ρ st=>orO (mAsg mv (gSb setD mo mi) ρ st) (zlS mo mi mv ρ st)
theorem zgC{o i value:Expr}{mo mi mv:ME}{pos':Pos}(hu:X.A.units+1 < cLine)(ho:SE X o mo)(hi:SE X i mi)(hv:SE X value mv)(hs:swapsWith value (some (.Subscript o i pos')) pos.line X.env=pure false:=by rfl)
   (ha:∀ v,assign (.Subscript o i pos') X.env v=(do
     let ov <-holding [v] (eval o X.env)
     let iv <-holding [v,ov] (eval i X.env)
     standAt pos'
     holding [v,ov,iv] (setItem ov iv v)
     release [v,ov,iv] []):=by intro _;rfl)
   (hs2:swapsWithSole [.Subscript o i pos'] value pos.line X.env=pure false:=by rfl) (hw:swappedStores [.Subscript o i pos'] value X.env=pure none:=by rfl)
   (h1:(assignEach [.Subscript o i pos'] X.env).map (·.2)=[assign (.Subscript o i pos') X.env]:=by rfl):SS X (.Assign [.Subscript o i pos'] value pos) (putA mo mi mv):=by
 intro pins s σ H N I h;obtain⟨ρ,st,io,f,st',E,S,e,w⟩:=zcs.mp h
 rcases zbz e with e | e
 . exact zkY hv (zo9 ho hi zrr ha) hs2 hw h1 pins s σ H N I (zkQ E S e w)
 . exact zmZ hu ho hi hv hs pins s σ H N I (zkQ E S e w)
noncomputable def mPar(i j:Nat)(mm:MA):MS:=fun ρ st=>(mm ρ st).bind fun (xs,s)=>match xs with
 | [x,y]=>some (.nx ((ρ.set i (some x)).set j (some y)),s)
 | _=>none
theorem zo1{i j:Nat}{x y:Str}{px py pt:Pos}{kt k2 pt2}(hc:X.calm=true)(hN:X.N.Nodup)(hi:X.N[i]?=some x)(hj:X.N[j]?=some y)(hij:i≠j)
   (hx:X.env.scope.names.lookup x=some .local) (hy:X.env.scope.names.lookup y=some .local) (ha:SA X [a,b] mm)
   (hw:swappedStores [.Tuple [.Name x px,.Name y py] kt pt] (.Tuple [a,b] k2 pt2) X.env=pure (some [x,y]):=by rfl)
   (hs:swapsWithSole [.Tuple [.Name x px,.Name y py] kt pt] (.Tuple [a,b] k2 pt2) pos.line X.env=pure false:=by rfl) :
   SS X (.Assign [.Tuple [.Name x px,.Name y py] kt pt] (.Tuple [a,b] k2 pt2) pos) (mPar i j mm):=PS.imp (zpp hc hN hi hj hij hx hy ha hw hs) fun N σ H h=>by
 obtain⟨ρ,st,io,f,st',E,S,e,w⟩:=zcs.mp h;obtain⟨⟨xs,s1⟩,e1,e⟩:=zac e
 match xs,e,e1 with
 | [u,v],e,e1 =>
   cases e;refine⟨ρ,st,io,_,_,E,S,e1,fun vs H1 k1 X1 S1 R1=>?_⟩;obtain⟨p,q,rfl,r1,r2⟩:=R1.two;exact⟨p,q,rfl,w _ H1 k1 X1 S1 (((E.ext S X1).set i r1).set j r2)⟩
def zaW(P:Program)(w:World)(K:Ac)(mg:Str->Option Value)(base:Heap)(k:Nat)(x:Str)(n:Nat)(g:GN):Prop :=
 ∃ f fd ps,FnOk P w K mg base CX0 k f fd ps (spM K n g)/\mg x=some (.ref f)/\BU K (.ref f)=true/\Binds K fd ps []
def zak(n:Nat)(mm:MA):Prop:=∀ ρ st xs s,mm ρ st=some (xs,s)->xs.length=n
theorem zak.nil:zak 0 mNil:=fun _ _ _ _ h=>zlQ h
theorem zak.cons{n:Nat}(h:zak n mm):zak (n+1) (zae m mm):=fun _ _ _ _ q=>zjy h q
theorem zah{x:Str}{p:Pos}{k n:Nat}{g:GN}(F:zaW X.prog X.w X.K X.mg X.base k x n g)(hr:Room k X.A)(hg:Gl X x)(ha:SA X (e::es) mm)(hl:zak n mm)(hdb:(x==("__debug__":Str))=false:=by decide)
   (he:starEach (e::es) X.env=(false,eval e X.env)::starEach es X.env:=by rfl) (hpl:(backTo pos (starEach es X.env)).any (·.1)=false:=by rfl) (hn:(e::es).length=n:=by rfl) :
   SE X (.Call (.Name x p) (e::es) [] pos) (zaw g mm):=by
 obtain⟨f,fd,ps,F,hm,hk,hb⟩:=F;exact znd F hr hg hm hk hb ha hdb he hpl hn hl
def Laid(K:Ac)(mg:Str->Option Value)(x:Str)(st:Stmt)(ps:List Str):Prop:=∃ f fd,Fun K x x st f fd/\mg x=some (.ref f)/\Binds K fd ps []
theorem zbk{P:Program}{w:World}{mg:Str->Option Value}{base:Heap}{x:Str}{st:Stmt}{N ps:List Str}{k:Nat}{m:MS}(L:Laid K mg x st ps)(S:FnScope N ps (zal st))
   (hbody:∀ (f:Addr) (cdv:Value) (A:Around) (outer:List Env) (s:Shared) (H:Hp) (E:XK),Room k (A.deeper (envOfC x (zal st) s.heap.objs.size f cdv)) ->
     SSs (cxOf CX0 P w K mg base N x (zal st) f cdv A outer s H E).nox (zcd st) m):zaW P w K mg base (k+1) x ps.length (fnM N.length m):=by
 obtain⟨f,fd,F,hm,hb⟩:=L;exact⟨f,fd,ps,fn_m F S (hbody f),hm,F.kp,hb⟩
end
section
variable {prog:Program} {w:World} {A:Around} {E:Value->Shared->Prop} {s:Shared}
theorem zio{d:Addr}{o:Obj}{R:Value->Shared->Prop}(ty:s.TypeIs (.ref d) "dict")(hd:(d==sysModules)=false)
   (k:R (.ref s.heap.objs.size) { s with heap:=s.heap.push { cls:=.type "dict_items",data:=.fields #[.ref d] } }):wpAny (model prog w) A (call (.builtin "dict.items") [.ref d]) R E s:=by
 refine Bb DZ ty PySem.F.entry_dict_items ?_ (PySem.F.args_dict_items_1 _);unfold Builtin.«dict.items» Builtin.Dict.noArgs;refine Aa (Aa (Cj ty ?_));show wpAny _ _ (pure d) _ _ s;refine Ae ?_;unfold CU;show wpAny _ _ ((if (d==sysModules)=true then _ else _) >>= _) _ _ s;rw[if_neg (show ¬ (d==sysModules)=true by rw[hd];decide)];exact Aa (Ae (Aa (A7 (Ae ⟨_,rfl,k⟩))))
end
section
variable {X:Cx} {pins:List (Addr×Obj)} {σ:L2.St} {H:Hp} {s:Shared}
theorem Inv.freeze{d:Addr}{o:Obj}{u:HO}(I:Inv X pins σ H s)(hd:H d=some u)(g:s.heap.get? d=some o)(n1:∀ xs,u≠.tup xs)(n2:∀ x,u≠.own x)(n3:∀ o w,u≠.frz o w)(n4:∀ ps,u≠.tbl ps):Inv X pins σ (upd H d (.frz o u)) s:=by
 have ne:∀ {b:Addr} {v:HO},H b=some v->v≠u->b≠d:=fun {b v} q nv z=>by
   subst z;rw[hd] at q;exact nv (Ax q).symm
 refine Inv.step (h':=s.heap) (t':=s.toks) (g':=s.gens) (d':=s.drawn) (ch:=[]) I (fun _ z=>nomatch z) (fun b v _ _ _ q _=>q) (fun b v _ _ _ q _=>⟨v.slots,q⟩) (fun b v _ q n=>?_) (fun b v _ q=>⟨v,q⟩) (fun b xs q=>?_) (fun b v w q=>?_) (fun b ps q=>⟨#[],?_⟩) (fun m hm=>hm) (fun b v q=>?_) I.bare
 . have:b≠d:=fun z=>by
     rw[z,hd] at n;cases n
   rw[zaA this];exact n
 . rw[zaA (ne q (fun z=>n1 xs z.symm))];exact q
 . rw[zaA (ne q (fun z=>n3 v w z.symm))];exact q
 . rw[zaA (ne q (fun z=>n4 ps z.symm)),q];simp
 . by_cases hb:b=d
   . subst hb;rw[zba] at q;cases q;refine⟨g,?_⟩;exact (I.hok b u hd).stay (fun c x _ y=>y) (fun c y=>by rw[zaA (ne y (fun z=>n2 b z.symm))];exact y) fun c xs y=>by rw[zaA (ne y (fun z=>n1 xs z.symm))];exact y
   . rw[zaA hb] at q;exact (I.hok b v q).stay (fun c x _ y=>y) (fun c y=>by rw[zaA (ne y (fun z=>n2 b z.symm))];exact y) fun c xs y=>by rw[zaA (ne y (fun z=>n1 xs z.symm))];exact y
end
theorem zdu{P:Program}{w:World}{H:Hp}{h:Heap}{d:Addr}{o:Obj}{ps:List (List Key×V)}{es:Array DictEntry}{ep:Nat}(x:zcD P w H h d (.frz o (.dT ps)))(dd:o.data=.dict es ep) :
   h.get? d=some o/\es.size=ps.length/\∀ (i:Nat) (k:List Key) (v:V),ps[i]?=some (k,v)->∃ (en:DictEntry) (b:Addr),es[i]?=some en/\en.key=.ref b/\H b=some (.tup (k.map kV))/\RelV v en.val:=by
 obtain⟨g,z,y,xs,r,o',es',ep',g',ex,dd',et,nd⟩:=x;rw[g] at g';cases g';rw[dd] at dd';cases dd';have hl:es.size=ps.length:=by
   have h1:=congrArg Fk et;have h2:=Bp r;simp at h1;omega
 refine⟨g,hl,fun i k v hi=>?_⟩;have get:∀ {l:List (List Key×V)} {m:List (List Key×Addr×Value)} {i:Nat},Paired (fun (p:List Key×V) (q:List Key×Addr×Value)=>p.1=q.1/\H q.2.1=some (.tup (p.1.map kV))/\RelV p.2 q.2.2) l m->l[i]?=some (k,v)->∃ q,m[i]?=some q/\H q.2.1=some (.tup (k.map kV))/\RelV v q.2.2:=by
   intro l m i q
   induction q generalizing i with
   | nil=>intro e;simp at e
   | cons h t ih =>
     cases i with
     | zero =>
       intro e;simp at e;subst e;exact⟨_,rfl,h.2.1,h.2.2⟩
     | succ j=>intro e;exact ih (by simpa using e)
 obtain⟨q,hq,h1,h2⟩:=get r hi;have he:es[i]?=some (entryOfKey (tupleKind (zay P w)) q):=by
   have:es.toList[i]?=some (entryOfKey (tupleKind (zay P w)) q):=by rw[et,AD,hq];rfl
   simpa using this
 exact⟨_,q.2.1,he,rfl,h1,h2⟩
section
variable {X:Cx} {K:Ac} {H:Hp} {io:List Addr} {m:ME} {st st':Sto}
noncomputable def keyD:Key->D
 | .inl i=>.int i
 | .inr x=>.str x
theorem zeo:∀ (ks:List Key),Reps K H io (ks.map kV) (ks.map keyD)
 | []=>rfl
 | .inl i::r=>⟨_,_,rfl,rfl,zeo r⟩
 | .inr x::r=>⟨_,_,rfl,rfl,zeo r⟩
end
inductive Sr where
 | l (a:Addr) | t (a:Addr)
noncomputable def Sr.ad:Sr->Addr
 | .l a=>a
 | .t a=>a
noncomputable def Sr.ob:Sr->Obj
 | .l a=>{ cls:=.type "list_iterator",data:=.fields #[.ref a,.int 0 0] }
 | .t a=>{ cls:=.type "tuple_iterator",data:=.fields #[.ref a,.int 0 0] }
noncomputable def Sr.is(h:Heap)(xs:Array Value):Sr->Prop
 | .l a=>h.IsList a xs
 | .t a=>IsTup h a xs
noncomputable def Sr.at_(h:Heap)(i:Addr)(k:Nat):Sr->Prop
 | .l a=>h.IsListIter i a k
 | .t a=>IsTupIter h i a k
theorem Sr.is_keep{h h':Heap}{xs:Array Value}{x:Sr}(q:x.is h xs)(k:∀ u,h.get? x.ad=some u->h'.get? x.ad=some u):x.is h' xs:=by
 cases x with
 | l a=>exact Ej q k
 | t a=>obtain⟨o,g,c⟩:=q;exact⟨o,k o g,c⟩
theorem Sr.at_keep{h h':Heap}{i:Addr}{n:Nat}{x:Sr}(q:x.at_ h i n)(k:∀ u,h.get? i=some u->h'.get? i=some u):x.at_ h' i n:=by
 cases x with
 | l a=>exact EW q k
 | t a=>obtain⟨o,g,c⟩:=q;exact⟨o,k o g,c⟩
theorem Sr.at_get{h:Heap}{i:Addr}{n:Nat}{x:Sr}(q:x.at_ h i n):∃ o vs,h.get? i=some o/\o.data=.fields vs:=by
 cases x with
 | l a=>obtain⟨o,g,c,d⟩:=q;exact⟨o,_,g,d⟩
 | t a=>obtain⟨o,g,c,d⟩:=q;exact⟨o,_,g,d⟩
section
variable {prog:Program} {w:World} {A:Around} {E:Value->Shared->Prop} {s:Shared}
theorem Sr.iter{x:Sr}{xs:Array Value}{R:Value->Shared->Prop}(h:x.is s.heap xs)(k:R (.ref s.heap.objs.size) { s with heap:=s.heap.push x.ob }):wpAny (model prog w) A (pyIter (.ref x.ad)) R E s:=by
 cases x with
 | l a=>exact DC h k
 | t a=>exact iter_tuple h k
theorem zh9{it a:Addr}{i:Nat}{xs:Array Value}{v:Value}{R:Value->Shared->Prop}(hit:IsTupIter s.heap it a i)(ht:IsTup s.heap a xs)(hx:xs[i]?=some v)
   (k:∀ h',IsTupIter h' it a (i+1)->BW it s.heap h'->R v { s with heap:=h' }):wpAny (model prog w) A (AO (.ref it)) R E s:=by
 obtain⟨ro,rg,rc,rd⟩:=id hit;obtain⟨to,tg,_,tn,td⟩:=ht;unfold AO;refine Aa (A6 (name:=BB "__next__") hit.typeIs Co (Bb Co hit.typeIs Ez ?_ (EJ _)));show wpAny _ _ (field (.ref it) 0 >>= _) _ _ s;refine Aa (Bm rg rd (x:=.ref a) rfl ?_);show wpAny _ _ (if (AM a==Bn)=true then _ else _) _ _ s;rw[if_neg (show ¬ (AM a==Bn)=true from fun z=>AU z)];show wpAny _ _ (field (.ref it) 1 >>= _) _ _ s;refine Aa (Bm rg rd (x:=.int i 0) rfl ?_);show wpAny _ _ (seqItems? (.ref a) >>= _) _ _ s;refine Aa (BI tg td ?_);simp only[BD,hx];refine Aa (Dk rg rd (by simp) (Ae ⟨v,rfl,Ae (k _ ⟨_,CT _ rg (Ek (CA rd _)),(Fh ..).trans rc,?_⟩ (Cp ..))⟩));rw[CA rd];simp[rawInt]
theorem zek{it a:Addr}{i:Nat}{xs:Array Value}{R:Value->Shared->Prop}(hh:A.handled=none)(hit:IsTupIter s.heap it a i)(ht:IsTup s.heap a xs)(hx:xs[i]?=none)
   (k:∀ h' e,Ed it s.heap h'->(∃ o,h'.get? e=some o/\o.cls=.type "StopIteration")->E (.ref e) { s with heap:=h' }):wpAny (model prog w) A (AO (.ref it)) R E s:=by
 obtain⟨ro,rg,rc,rd⟩:=id hit;obtain⟨to,tg,_,tn,td⟩:=ht;unfold AO;refine Aa (A6 (name:=BB "__next__") hit.typeIs Co (Bb Co hit.typeIs Ez ?_ (EJ _)));show wpAny _ _ (field (.ref it) 0 >>= _) _ _ s;refine Aa (Bm rg rd (x:=.ref a) rfl ?_);show wpAny _ _ (if (AM a==Bn)=true then _ else _) _ _ s;rw[if_neg (show ¬ (AM a==Bn)=true from fun z=>AU z)];show wpAny _ _ (field (.ref it) 1 >>= _) _ _ s;refine Aa (Bm rg rd (x:=.int i 0) rfl ?_);show wpAny _ _ (seqItems? (.ref a) >>= _) _ _ s;refine Aa (BI tg td ?_);simp only[BD,hx];refine Aa (CD (Aa (Dk rg rd (by simp) ?_)));show wpAny _ _ (newExc (.type "StopIteration") [] >>= _) _ _ _;simp only[newExc,newTuple];refine Aa (Aa (A7 (Aa (m:=firstArgMember _ _) (wpAny_of_eq (a:=Bn) (by first | rfl | (simp only[firstArgMember];rfl)) (A7 ?_ (by size_fits)))) (by size_fits)));simp only[raiseNew];refine Aa (wpAny_handled ?_)
 first | rw[show A.in1.handled=none from hh] | rw[hh]
 refine Aa (Ae (wpAny_throw ?_));exact k _ _ (((Cp ..).extBut.push _).push _) ⟨_,Aq _ rfl,rfl⟩
theorem Sr.next{x:Sr}{it:Addr}{i:Nat}{xs:Array Value}{v:Value}{R:Value->Shared->Prop}(hit:x.at_ s.heap it i)(h:x.is s.heap xs)(hx:xs[i]?=some v)(k:∀ h',x.at_ h' it (i+1)->BW it s.heap h'->R v { s with heap:=h' }) :
   wpAny (model prog w) A (AO (.ref it)) R E s:=by
 cases x with
 | l a=>exact wpAny_nextOf_list_item hit h hx k
 | t a=>exact zh9 hit h hx k
theorem Sr.stop{x:Sr}{it:Addr}{i:Nat}{xs:Array Value}{R:Value->Shared->Prop}(hh:A.handled=none)(hit:x.at_ s.heap it i)(h:x.is s.heap xs)(hx:xs[i]?=none)
   (k:∀ h' e,Ed it s.heap h'->(∃ o,h'.get? e=some o/\o.cls=.type "StopIteration")->E (.ref e) { s with heap:=h' }):wpAny (model prog w) A (AO (.ref it)) R E s:=by
 cases x with
 | l a=>exact wpAny_nextOf_list_end hh hit h hx k
 | t a=>exact zek hh hit h hx k
end
theorem Sr.at_new{h:Heap}{x:Sr}{i:Addr}(g:h.get? i=some x.ob):x.at_ h i 0:=by
 cases x with
 | l a=>exact⟨_,g,rfl,rfl⟩
 | t a=>exact⟨_,g,rfl,rfl⟩
noncomputable abbrev zp1 (h:Heap) (x:Sr):Heap:=h.push x.ob
noncomputable abbrev zp2 (h:Heap) (x y:Sr):Heap:=(zp1 h x).push y.ob
noncomputable abbrev zp3 (h:Heap) (x y:Sr):Heap:=(zp2 h x y).push { cls:=.type "tuple",data:=.seq #[.ref h.objs.size,.ref (zp1 h x).objs.size] }
noncomputable abbrev zp4 (h:Heap) (x y:Sr):Heap:=(zp3 h x y).push { cls:=.type "tuple",data:=.seq #[.none,.none] }
noncomputable abbrev zp5 (h:Heap) (x y:Sr):Heap:=(zp4 h x y).push { cls:=.type "zip",data:=.fields #[.none,.bool false,.bool false,.ref (zp2 h x y).objs.size,.ref (zp3 h x y).objs.size] }
theorem ziX(x y:Sr)(xs ys:Array Value):Meets (Builtin.«zip.__new__» ⟨[.type "zip",.ref x.ad,.ref y.ad],[]⟩) (fun _ R s=>x.is s.heap xs/\y.is s.heap ys/\R (.ok (.ret (.ref (zp4 s.heap x y).objs.size))) { s with heap:=zp5 s.heap x y }) :=
 .of_wp fun prog w A R s h=>by
   obtain⟨hp,g,d,tk,os⟩:=s;obtain⟨h1,h2,h⟩:=h;have hsub:=sub_zip;have hx:x.is (Shared.heap ⟨hp,g,d,tk,os⟩) xs:=h1;have hy:y.is (Shared.heap ⟨hp.push x.ob,g,d,tk,os⟩) ys:=Sr.is_keep h2 fun u q=>Ad _ q
   wp_walk using Sr.iter hx,Sr.iter hy
   exact⟨_,rfl,h⟩
structure Zp(z TI TO i j:Addr):Prop where
 TIz:TI≠z
 TOz:TO≠z
 iz:i≠z
 jz:j≠z
 TIO:TI≠TO
 TIi:TI≠i
 TIj:TI≠j
 TOi:TO≠i
 TOj:TO≠j
 ij:i≠j
theorem neq{a b:Nat}(h:a≠b):(show Addr from a)≠(show Addr from b):=h
theorem Zp.new(n:Nat):Zp (n+4) (n+2) (n+3) n (n+1):=⟨neq (by omega),neq (by omega),neq (by omega),neq (by omega),neq (by omega),neq (by omega),neq (by omega),neq (by omega),neq (by omega),neq (by omega)⟩
section
variable {prog:Program} {w:World} {A:Around} {E:Value->Shared->Prop} {s:Shared}
theorem zjR{x y:Sr}{xs ys:Array Value}{R:Value->Shared->Prop}(hx:x.is s.heap xs)(hy:y.is s.heap ys)
   (k:∀ h',IsZip h' (s.heap.objs.size+4) (s.heap.objs.size+2) (s.heap.objs.size+3) .none->IsPair h' (s.heap.objs.size+2) (.ref s.heap.objs.size) (.ref (s.heap.objs.size+1))->IsPair h' (s.heap.objs.size+3) .none .none ->
     x.at_ h' s.heap.objs.size 0->y.at_ h' (s.heap.objs.size+1) 0->(∀ c u,s.heap.get? c=some u->h'.get? c=some u)->R (.ref (s.heap.objs.size+4)) { s with heap:=h' }):wpAny (model prog w) A (call (.type "zip") [.ref x.ad,.ref y.ad]) R E s:=by
 refine callType_new F.called_zip (by decide) (F.typeCall_zip_2 _ _) (F.newCall_zip_2 _ _) (fun obj=>F.args_object_init_3 obj _ _) F.entry_zip_new (ziX x y xs ys) ⟨hx,hy,?_⟩;have e1:(zp1 s.heap x).objs.size=s.heap.objs.size+1:=Bz ..;have e2:(zp2 s.heap x y).objs.size=s.heap.objs.size+2:=(Bz ..).trans (by rw[e1]);have e3:(zp3 s.heap x y).objs.size=s.heap.objs.size+3:=(Bz ..).trans (by rw[e2]);have e4:(zp4 s.heap x y).objs.size=s.heap.objs.size+4:=(Bz ..).trans (by rw[e3]);have up:∀ c u,(zp1 s.heap x).get? c=some u->(zp5 s.heap x y).get? c=some u:=fun c u q=>Ad _ (Ad _ (Ad _ (Ad _ q)));have f5:(zp5 s.heap x y).get? (zp4 s.heap x y).objs.size=some { cls:=.type "zip",data:=.fields #[.none,.bool false,.bool false,.ref (zp2 s.heap x y).objs.size,.ref (zp3 s.heap x y).objs.size] }:=Aq _ rfl;have f4:(zp5 s.heap x y).get? (zp3 s.heap x y).objs.size=some { cls:=.type "tuple",data:=.seq #[.none,.none] }:=Ad _ (Aq _ rfl);have f3:(zp5 s.heap x y).get? (zp2 s.heap x y).objs.size=some { cls:=.type "tuple",data:=.seq #[.ref s.heap.objs.size,.ref (zp1 s.heap x).objs.size] }:=Ad _ (Ad _ (Aq _ rfl));have f2:(zp5 s.heap x y).get? (zp1 s.heap x).objs.size=some y.ob:=Ad _ (Ad _ (Ad _ (Aq _ (by cases y <;> rfl))));have f1:(zp5 s.heap x y).get? s.heap.objs.size=some x.ob:=up _ _ (Aq _ (by cases x <;> rfl));rw[e2,e3,e4] at f5;rw[e1,e2] at f3;rw[e3] at f4;rw[e1] at f2;show _/\_;rw[e4];exact⟨⟨_,f5,rfl⟩,k _ f5 f3 f4 (Sr.at_new f1) (Sr.at_new f2) fun c u q=>up c u (Ad _ q)⟩
theorem zkM{z TI TO i j:Addr}{x y:Sr}{n m:Nat}{xs ys:Array Value}{u v a b:Value}{R:Option Value->Shared->Prop}(D:Zp z TI TO i j)(xz:x.ad≠z/\x.ad≠TO/\x.ad≠i/\x.ad≠j)(yz:y.ad≠z/\y.ad≠TO/\y.ad≠i/\y.ad≠j)
   (hz:IsZip s.heap z TI TO .none) (hTI:IsPair s.heap TI (.ref i) (.ref j)) (hTO:IsPair s.heap TO a b) (hi:x.at_ s.heap i n) (hj:y.at_ s.heap j m) (hx:x.is s.heap xs) (hy:y.is s.heap ys) (gx:xs[n]?=some u) (gy:ys[m]?=some v)
   (k:∀ h',IsZip h' z TI TO (rawInt s.heap.objs.size)->IsPair h' TI (.ref i) (.ref j)->IsPair h' TO u v->x.at_ h' i (n+1)->y.at_ h' j (m+1)->IsPair h' s.heap.objs.size u v ->
     (∀ c o,c≠z->c≠TO->c≠i->c≠j->s.heap.get? c=some o->h'.get? c=some o)->R (some (.ref s.heap.objs.size)) { s with heap:=h' }):wpAny (model prog w) A (pyNext (.ref z)) R E s:=by
 have ty:s.TypeIs (.ref z) "zip":=⟨_,hz,rfl⟩
 unfold pyNext;refine Aa (Dw (A6 (name:=BB "__next__") ty F.slot_zip_next (Bb F.slot_zip_next ty F.entry_zip_next ?_ (F.args_zip_next_1 _))));show wpAny _ _ (field (.ref z) 2 >>= _) _ _ _;refine Aa (Bm hz rfl (x:=.bool false) rfl ?_);show wpAny _ _ (field (.ref z) 3 >>= _) _ _ _;refine Aa (Bm hz rfl (x:=.ref TI) rfl (Aa (BI hTI rfl ?_)));show wpAny _ _ (Bs (.ref z) >>= _) _ _ _;unfold Bs;refine Aa (Aa (Bm hz rfl (x:=.none) rfl (Ae ?_)));simp only[if_true];refine Aa (CD (Aa (Bm hz rfl (x:=.ref TO) rfl (Aa (BO hz (by simp) fun g1 z1 s1=>?_)))))
 replace z1:IsZip g1 z TI TO .ellipsis:=z1
 have k1:∀ c o,c≠z->s.heap.get? c=some o->g1.get? c=some o:=fun c o nc q=>s1.extBut c o nc q;simp only[Fu,FG,D3,CG];refine Aa (Aa (Aa (Dx ?_)));show wpAny _ _ (AO (.ref i) >>= _) _ _ _;refine Aa (Sr.next (Sr.at_keep hi fun o q=>k1 _ o D.iz q) (Sr.is_keep hx fun o q=>k1 _ o xz.1 q) gx fun g2 i2 s2=>Ae ?_);have k2:∀ c o,c≠z->c≠i->s.heap.get? c=some o->g2.get? c=some o:=fun c o nc ni q=>s2.extBut c o ni (k1 c o nc q);have o2:IsPair g2 TO a b:=k2 _ _ D.TOz D.TOi hTO;refine Aa (BI o2 rfl (Aa (C9 o2 fun g3 o3 s3=>(Aa (Ee (Ae ?_))))))
 replace o3:IsPair g3 TO u b:=o3
 have k3:∀ c o,c≠z->c≠i->c≠TO->s.heap.get? c=some o->g3.get? c=some o:=fun c o nc ni nt q=>s3.extBut c o nt (k2 c o nc ni q);refine Aa (Aa (Dx ?_));show wpAny _ _ (AO (.ref j) >>= _) _ _ _;refine Aa (Sr.next (Sr.at_keep hj fun o q=>k3 _ o D.jz D.ij.symm D.TOj.symm q) (Sr.is_keep hy fun o q=>k3 _ o yz.1 yz.2.2.1 yz.2.1 q) gy fun g4 j4 s4=>Ae ?_);have o4:IsPair g4 TO u b:=s4.extBut _ _ D.TOj o3;refine Aa (BI o4 rfl (Aa (C9 o4 fun g5 o5 s5=>(Aa (Ee (Ae (Ae ?_)))))))
 replace o5:IsPair g5 TO u v:=o5
 refine Aa (BI o5 rfl (Aa (wpAny_newTuple ?_)));have sz:g5.objs.size=s.heap.objs.size:=by rw[s5.1,s4.1,s3.1,s2.1,s1.1]
 have z5:IsZip g5 z TI TO .ellipsis:=s5.extBut _ _ D.TOz.symm (s4.extBut _ _ D.jz.symm (s3.extBut _ _ D.TOz.symm (s2.extBut _ _ D.iz.symm z1)));have k5:∀ c o,c≠z->c≠TO->c≠i->c≠j->s.heap.get? c=some o->g5.get? c=some o:=fun c o c1 c2 c3 c4 q=>s5.extBut c o c2 (s4.extBut c o c4 (k3 c o c1 c3 c2 q));have i5:x.at_ g5 i (n+1):=Sr.at_keep i2 fun o q=>s5.extBut _ _ D.TOi.symm (s4.extBut _ _ D.ij (s3.extBut _ _ D.TOi.symm q));have j5:y.at_ g5 j (m+1):=Sr.at_keep j4 fun o q=>s5.extBut _ _ D.TOj.symm q;have lz:z < g5.objs.size:=Al z5;show wpAny _ _ (CB (.ref z) (.ref g5.objs.size) >>= _) _ _ _;unfold CB;have z6:IsZip (g5.push { cls:=.type "tuple",data:=.seq #[u,v] }) z TI TO .ellipsis:=Ad _ z5;refine Aa (Aa (BO z6 (by simp) fun g7 z7 s7=>?_))
 replace z7:IsZip g7 z TI TO (rawInt g5.objs.size):=z7
 refine BO z7 (by simp) fun g8 z8 s8=>?_
 replace z8:IsZip g8 z TI TO (rawInt g5.objs.size):=z8
 have up:∀ c o,c≠z->g5.get? c=some o->g8.get? c=some o:=fun c o nc q=>s8.extBut c o nc (s7.extBut c o nc (Ad _ q));have t8:IsPair g8 g5.objs.size u v:=s8.extBut _ _ (CY lz) (s7.extBut _ _ (CY lz) (Aq _ rfl));rw[sz] at z8 t8;refine Ae ⟨_,rfl,Ae ?_⟩;show R (some (.ref g5.objs.size)) _;rw[sz];exact k g8 z8 (up _ _ D.TIz (k5 _ _ D.TIz D.TIO D.TIi D.TIj hTI)) (up _ _ D.TOz o5) (Sr.at_keep i5 fun o q=>up _ o D.iz q) (Sr.at_keep j5 fun o q=>up _ o D.jz q) t8 fun c o c1 c2 c3 c4 q=>up c o c1 (k5 c o c1 c2 c3 c4 q)
theorem zmM{z TI TO i j:Addr}{x y:Sr}{n m:Nat}{xs ys:Array Value}{a b:Value}{R:Option Value->Shared->Prop}(hh:A.handled=none)(D:Zp z TI TO i j)(xz:x.ad≠z/\x.ad≠TO/\x.ad≠i/\x.ad≠j)(yz:y.ad≠z/\y.ad≠TO/\y.ad≠i/\y.ad≠j)
   (hz:IsZip s.heap z TI TO .none) (hTI:IsPair s.heap TI (.ref i) (.ref j)) (hTO:IsPair s.heap TO a b) (hi:x.at_ s.heap i n) (hj:y.at_ s.heap j m) (hx:x.is s.heap xs) (hy:y.is s.heap ys) (he:xs[n]?=none\/ys[m]?=none)
   (k:∀ h',(∀ c o,c≠z->c≠TO->c≠i->c≠j->s.heap.get? c=some o->h'.get? c=some o)->R none { s with heap:=h' }):wpAny (model prog w) A (pyNext (.ref z)) R E s:=by
 have ty:s.TypeIs (.ref z) "zip":=⟨_,hz,rfl⟩
 have halt:∀ h' e,(∀ c o,c≠z->c≠TO->c≠i->c≠j->s.heap.get? c=some o->h'.get? c=some o)->(∃ o,h'.get? e=some o/\o.cls=.type "StopIteration") ->
     wpAny (model prog w) A (do if <-isInstance (.ref e) (.type "StopIteration") then pure none else throw (AM e)) R E { s with heap:=h' }:=fun h' e q ⟨o,g,c⟩ =>
   Aa (wpAny_isInstance (T:="StopIteration") (b:=true) ⟨o,g,c⟩ isSubtype_stop (Ae (k h' q)))
 unfold pyNext;refine Aa (Dw (A6 (name:=BB "__next__") ty F.slot_zip_next (Bb F.slot_zip_next ty F.entry_zip_next ?_ (F.args_zip_next_1 _))));show wpAny _ _ (field (.ref z) 2 >>= _) _ _ _;refine Aa (Bm hz rfl (x:=.bool false) rfl ?_);show wpAny _ _ (field (.ref z) 3 >>= _) _ _ _;refine Aa (Bm hz rfl (x:=.ref TI) rfl (Aa (BI hTI rfl ?_)));show wpAny _ _ (Bs (.ref z) >>= _) _ _ _;unfold Bs;refine Aa (Aa (Bm hz rfl (x:=.none) rfl (Ae ?_)));simp only[if_true];refine Aa (CD (Aa (Bm hz rfl (x:=.ref TO) rfl (Aa (BO hz (by simp) fun g1 z1 s1=>?_)))))
 replace z1:IsZip g1 z TI TO .ellipsis:=z1
 have k1:∀ c o,c≠z->s.heap.get? c=some o->g1.get? c=some o:=fun c o nc q=>s1.extBut c o nc q;have sep:∀ {g:Heap} {e:Addr} {o:Obj},IsZip g z TI TO .ellipsis->g.get? e=some o->o.cls=.type "StopIteration"->e≠z:=fun {g e o} q h c r=>by
   subst r;rw[q] at h;cases h;simp at c
 simp only[Fu,FG,D3,CG];refine Aa (Aa (Aa (Dx ?_)));show wpAny _ _ (AO (.ref i) >>= _) _ _ _
 cases gx:xs[n]? with
 | none =>
   refine Aa (Sr.stop hh (Sr.at_keep hi fun o q=>k1 _ o D.iz q) (Sr.is_keep hx fun o q=>k1 _ o xz.1 q) gx ?_);rintro g2 e s2 ⟨oe,he,ce⟩;have z2:IsZip g2 z TI TO .ellipsis:=s2 _ _ D.iz.symm z1;exact BO z2 (by simp) fun g3 _ s3=>halt g3 e (fun c o c1 _ c3 _ q=>s3.extBut c o c1 (s2 c o c3 (k1 c o c1 q))) ⟨oe,s3.extBut _ _ (sep z2 he ce) he,ce⟩
 | some u =>
   have gy:ys[m]?=none:=he.resolve_left (by rw[gx];simp);refine Aa (Sr.next (Sr.at_keep hi fun o q=>k1 _ o D.iz q) (Sr.is_keep hx fun o q=>k1 _ o xz.1 q) gx fun g2 i2 s2=>Ae ?_);have k2:∀ c o,c≠z->c≠i->s.heap.get? c=some o->g2.get? c=some o:=fun c o nc ni q=>s2.extBut c o ni (k1 c o nc q);have o2:IsPair g2 TO a b:=k2 _ _ D.TOz D.TOi hTO;refine Aa (BI o2 rfl (Aa (C9 o2 fun g3 o3 s3=>(Aa (Ee (Ae ?_))))));have k3:∀ c o,c≠z->c≠i->c≠TO->s.heap.get? c=some o->g3.get? c=some o:=fun c o nc ni nt q=>s3.extBut c o nt (k2 c o nc ni q);refine Aa (Aa (Dx ?_));show wpAny _ _ (AO (.ref j) >>= _) _ _ _;refine Aa (Sr.stop hh (Sr.at_keep hj fun o q=>k3 _ o D.jz D.ij.symm D.TOj.symm q) (Sr.is_keep hy fun o q=>k3 _ o yz.1 yz.2.2.1 yz.2.1 q) gy ?_);rintro g4 e s4 ⟨oe,he,ce⟩;have z4:IsZip g4 z TI TO .ellipsis:=s4 _ _ D.jz.symm (s3.extBut _ _ D.TOz.symm (s2.extBut _ _ D.iz.symm z1));exact BO z4 (by simp) fun g5 _ s5=>halt g5 e (fun c o c1 c2 c3 c4 q=>s5.extBut c o c1 (s4 c o c4 (k3 c o c1 c3 c2 q))) ⟨oe,s5.extBut _ _ (sep z4 he ce) he,ce⟩
end
noncomputable def Sr.sq(H:Hp)(xs:List V):Sr->Prop
 | .l a=>H a=some (.lst xs)\/∃ o,H a=some (.frz o (.lst xs))
 | .t a=>H a=some (.tup xs)
theorem Sr.sq_ne{H:Hp}{xs:List V}{x:Sr}{b:Addr}(h:x.sq H xs)(hb:H b=none):x.ad≠b:=by
 cases x with
 | l a=>rcases h with h | ⟨o,h⟩ <;> exact zaq h hb
 | t a=>exact zaq (show H a=some (.tup xs) from h) hb
theorem Sr.sq_inj{H:Hp}{xs ys:List V}{x:Sr}(h:x.sq H xs)(h':x.sq H ys):xs=ys:=by
 cases x with
 | l a=>rcases h with h | ⟨o,h⟩ <;> rcases h' with h' | ⟨o',h'⟩ <;> rw[h] at h' <;> cases h' <;> rfl
 | t a =>
   have h:H a=some (.tup xs):=h;have h':H a=some (.tup ys):=h';rw[h] at h';cases h';rfl
theorem Sr.sq_is{X:Cx}{pins:List (Addr×Obj)}{σ:L2.St}{H:Hp}{s:Shared}{xs:List V}{x:Sr}(I:Inv X pins σ H s)(h:x.sq H xs):∃ its:List Value,Vals xs its/\x.is s.heap its.toArray:=by
 cases x with
 | l a =>
   obtain⟨its,rv,p,_⟩:=I.list (show SqL X.K H a xs from .inl h);exact⟨its,rv,p.isList⟩
 | t a =>
   obtain⟨its,rv,p,_⟩:=I.tuple (SqT.of (K:=X.K) h);exact⟨its,rv,p⟩
noncomputable def Itz(x y:Sr):It :=
 ⟨fun i H=>∃ xs ys u v,x.sq H xs/\y.sq H ys/\xs[i]?=some u/\ys[i]?=some v,fun i H r H'=>∃ p u v,H p=none/\H'=upd H p (.tup [u,v])/\r=.ref p/\(∀ xs,x.sq H xs->xs[i]?=some u)/\∀ ys,y.sq H ys->ys[i]?=some v,
   fun i H=>∃ xs ys,x.sq H xs/\y.sq H ys/\(xs.length<=i\/ys.length<=i)⟩
theorem zkO{P:Program}{w:World}{K:Ac}{elts:List Expr}{x1}{pos:Pos}(x y:Sr){z TI TO i j:Addr}(D:Zp z TI TO i j) :
   Turn P w K (.Tuple elts x1 pos) (Itz x y) [z,TI,TO,i,j] z (fun n h=>IsZip h z TI TO .none/\IsPair h TI (.ref i) (.ref j)/\(∃ a b,IsPair h TO a b)/\x.at_ h i n/\y.at_ h j n) where
 mem:=by simp
 obj:=fun n h st b hb=>by
   obtain⟨hz,hTI,⟨a,c,hTO⟩,hi,hj⟩:=st;simp only[Ba,AS,or_false] at hb
   rcases hb with rfl | rfl | rfl | rfl | rfl
   . exact⟨_,hz,fun v q=>by cases q⟩
   . exact⟨_,hTI,fun v q=>by cases q⟩
   . exact⟨_,hTO,fun v q=>by cases q⟩
   . obtain⟨o,vs,g,d⟩:=Sr.at_get hi;exact⟨o,g,fun v q=>by rw[d] at q;cases q⟩
   . obtain⟨o,vs,g,d⟩:=Sr.at_get hj;exact⟨o,g,fun v q=>by rw[d] at q;cases q⟩
 keep:=fun n h h' st k=>by
   obtain⟨hz,hTI,⟨a,c,hTO⟩,hi,hj⟩:=st;exact⟨k z (by simp) _ hz,k TI (by simp) _ hTI,⟨a,c,k TO (by simp) _ hTO⟩,Sr.at_keep hi fun o q=>k i (by simp) o q,Sr.at_keep hj fun o q=>k j (by simp) o q⟩
 item:=by
   intro X hP hw hK hc n pins s σ H E I hf st hg;subst hP hw hK;obtain⟨xs,ys,u,v,hx,hy,gu,gv⟩:=hg;obtain⟨hz,hTI,⟨a,c,hTO⟩,hi,hj⟩:=st;obtain⟨its,rx,ix⟩:=Sr.sq_is I hx;obtain⟨jts,ry,iy⟩:=Sr.sq_is I hy;obtain⟨u',gu',ru⟩:=rx.get gu;obtain⟨v',gv',rv⟩:=ry.get gv;have fz:=(hf z (by simp)).1;have fTO:=(hf TO (by simp)).1;have fi:=(hf i (by simp)).1;have fj:=(hf j (by simp)).1;refine zkM D ⟨Sr.sq_ne hx fz,Sr.sq_ne hx fTO,Sr.sq_ne hx fi,Sr.sq_ne hx fj⟩ ⟨Sr.sq_ne hy fz,Sr.sq_ne hy fTO,Sr.sq_ne hy fi,Sr.sq_ne hy fj⟩ hz hTI hTO hi hj ix iy (u:=u') (v:=v') (by simpa using gu') (by simpa using gv') fun h1 z1 ti1 to1 i1 j1 t1 k1=>?_;refine⟨_,rfl,wpAny_letOwnedTupleGo_zip (s:={ s with heap:=h1 }) z1 fun h2 z2 b2=>?_⟩;have up:∀ b o,b≠z->h1.get? b=some o->h2.get? b=some o:=fun b o nb q=>(b2.2 b nb).trans q;have k2:∀ b o,b ∉ [z,TI,TO,i,j]->s.heap.get? b=some o->h2.get? b=some o:=fun b o hb q=>by
     simp only[Ba,AS,or_false,not_or] at hb;exact up b o hb.1 (k1 b o hb.1 hb.2.2.1 hb.2.2.2.1 hb.2.2.2.2 q)
   have lt:∀ b∈[z,TI,TO,i,j],b < s.heap.objs.size:=fun b hb=>by
     simp only[Ba,AS,or_false] at hb
     rcases hb with rfl | rfl | rfl | rfl | rfl
     . exact Al hz
     . exact Al hTI
     . exact Al hTO
     . obtain⟨o,vs,g,d⟩:=Sr.at_get hi;exact Al g
     . obtain⟨o,vs,g,d⟩:=Sr.at_get hj;exact Al g
   have t2:h2.get? s.heap.objs.size=some { cls:=.type "tuple",data:=.seq #[u',v'] }:=up _ _ (CY (lt z (by simp))) t1;have st2:IsZip h2 z TI TO .none/\IsPair h2 TI (.ref i) (.ref j)/\(∃ a b,IsPair h2 TO a b)/\x.at_ h2 i (n+1)/\y.at_ h2 j (n+1) :=
     ⟨z2,up _ _ D.TIz ti1,⟨_,_,up _ _ D.TOz to1⟩,Sr.at_keep i1 fun o q=>up _ o D.iz q,Sr.at_keep j1 fun o q=>up _ o D.jz q⟩
   refine⟨.ref s.heap.objs.size,upd H s.heap.objs.size (.tup [u,v]),?_,rfl,⟨_,u,v,I.hok.fresh (Af _),rfl,rfl,fun zs h=>by rw[Sr.sq_inj h hx];exact gu,fun zs h=>by rw[Sr.sq_inj h hy];exact gv⟩,st2,fun b hb=>?_⟩
   . refine Inv.turnNew (s:=s) (h':=h2) (t':=s.toks) I hf k2 (Af _) (fun b hb ob q=>?_) ⟨by show 2<=sizeLine;decide,[u',v'],.cons ru (.cons rv .nil),⟨_,t2,rfl,rfl,_,rfl⟩⟩;simp only[Ba,AS,or_false] at hb
     rcases hb with rfl | rfl | rfl | rfl | rfl
     . exact⟨_,z2⟩
     . exact⟨_,st2.2.1⟩
     . obtain⟨_,_,q⟩:=st2.2.2.1;exact⟨_,q⟩
     . obtain⟨o,vs,g,d⟩:=Sr.at_get st2.2.2.2.1;exact⟨o,g⟩
     . obtain⟨o,vs,g,d⟩:=Sr.at_get st2.2.2.2.2;exact⟨o,g⟩
   . rw[zaA (Aw (lt b hb))];exact (hf b hb).1
 done:=by
   intro X hP hw hK hc n pins s σ H E I hf st hg;subst hP hw hK;obtain⟨xs,ys,hx,hy,he⟩:=hg;obtain⟨hz,hTI,⟨a,c,hTO⟩,hi,hj⟩:=st;obtain⟨its,rx,ix⟩:=Sr.sq_is I hx;obtain⟨jts,ry,iy⟩:=Sr.sq_is I hy;have fz:=(hf z (by simp)).1;have fTO:=(hf TO (by simp)).1;have fi:=(hf i (by simp)).1;have fj:=(hf j (by simp)).1;have l1:=rx.length;have l2:=ry.length;exact zmM (I.ok.hd hc) D ⟨Sr.sq_ne hx fz,Sr.sq_ne hx fTO,Sr.sq_ne hx fi,Sr.sq_ne hx fj⟩ ⟨Sr.sq_ne hy fz,Sr.sq_ne hy fTO,Sr.sq_ne hy fi,Sr.sq_ne hy fj⟩ hz hTI hTO hi hj ix iy (by
     rcases he with h | h
     . exact .inl (by simp;omega)
     . exact .inr (by simp;omega)) fun h' k=>⟨rfl,Inv.turnAll (t':=s.toks) I hf fun b o hb q=>by
       simp only[Ba,AS,or_false,not_or] at hb;exact k b o hb.1 hb.2.2.1 hb.2.2.2.1 hb.2.2.2.2 q⟩
 self:=fun _ _ _ _ _ st h=>wpAny_pyIter_zip st.1 h
section
variable {X:Cx} {K:Ac} {H:Hp} {io:List Addr} {ma mb:ME} {st st':Sto}
noncomputable def seqD(s:Sto):D->Option (List D×List (Nat×List D))
 | .ref n=>(zbj s n).map fun ds=>(ds,[(n,ds)])
 | .tup ds=>some (ds,[])
 | _=>none
noncomputable def pairD(a b:List D):List D:=(a.zip b).map fun p=>.tup [p.1,p.2]
noncomputable def zipW(x y:D)(s:Sto):Option (Wk×Sto):=(seqD s x).bind fun (a,f)=>(seqD s y).map fun (b,g)=>(⟨pairD a b,f++g⟩,s)
noncomputable def mZip(ma mb:ME):MI:=fun ρ st=>(ma ρ st).bind fun (x,s1)=>(mb ρ s1).bind fun (y,s2)=>zipW x y s2
theorem zhx{d:D}{v:V}{ds:List D}{g:List (Nat×List D)}(S:StR K H io st)(R:Rep K H io v d)(h:seqD st d=some (ds,g)):∃ x:Sr,v=.ref x.ad/\(∃ xs,x.sq H xs) /\
   ∀ H1 ka s1,Ext io ka H H1->StR K H1 (io++ka) s1->(∀ p,p∈g->s1[p.1]?=some (.lst p.2)\/s1[p.1]?=some (.fz p.2))->∃ xs,x.sq H1 xs/\Reps K H1 (io++ka) xs ds:=by
 cases d with
 | ref n =>
   obtain⟨l,e,q⟩:=zaf h;cases q;obtain⟨p,rfl,hp⟩:=R;refine⟨.l p,rfl,?_,fun H1 ka s1 X1 S1 hs=>?_⟩
   . unfold zbj at e
     split at e
     . rename_i o he;cases e;obtain⟨xs,q,_⟩:=S.ob n p _ hp he;exact⟨xs,.inl q⟩
     . rename_i o he;cases e;obtain⟨ob,xs,q,_⟩:=S.ob n p _ hp he;exact⟨xs,.inr ⟨ob,q⟩⟩
     . cases e
   . rcases hs (n,ds) Am with q | q
     . obtain⟨xs,q',r⟩:=S1.ob n p _ (zbf hp) q;exact⟨xs,.inl q',r⟩
     . obtain⟨ob,xs,q',r⟩:=S1.ob n p _ (zbf hp) q;exact⟨xs,.inr ⟨ob,q'⟩,r⟩
 | tup ts =>
   cases h;obtain⟨p,xs,rfl,hp,r⟩:=R;exact⟨.t p,rfl,⟨xs,hp⟩,fun H1 ka s1 X1 S1 _=>⟨xs,X1.sqT S p xs hp,r.ext S X1⟩⟩
 | _=>cases h
theorem zjm{a b:List D}{i:Nat}{d:D}(h:(pairD a b)[i]?=some d):∃ x y,a[i]?=some x/\b[i]?=some y/\d=.tup [x,y]:=by
 unfold pairD at h;rw[AD] at h;obtain⟨⟨x,y⟩,e,q⟩:=zaf h;rw[List.getElem?_zip_eq_some] at e;exact⟨x,y,e.1,e.2,q.symm⟩
theorem boot_zip:bootBuiltins "zip"=some (.type "zip"):=by decide +kernel
theorem zm3{elts:List Expr}{x1}{tp:Pos}{a b:Expr}{p pos:Pos}(hg:Gl X "zip")(hm:X.mg "zip"=none)(ha:SE X a ma)(hb:SE X b mb)(hs:starEach [a,b] X.env=[(false,eval a X.env),(false,eval b X.env)]:=by rfl)
   (hs2:starEach [b] X.env=[(false,eval b X.env)]:=by rfl) (hpl:(backTo pos (starEach [b] X.env)).any (·.1)=false:=by rfl):SI X (.Tuple elts x1 tp) (.Call (.Name "zip" p) [a,b] [] pos) (mZip ma mb):=by
 rintro pins s σ H R I ⟨ρ,st,io,W,st',E,S,e,k⟩;obtain⟨⟨x,s1⟩,e1,e⟩:=zac e;obtain⟨⟨y,s2⟩,e2,e⟩:=zac e;obtain⟨⟨as,f⟩,e3,e⟩:=zac e;obtain⟨⟨bs,g⟩,e4,e⟩:=zaf e;cases e;have hs1:starEach [a,b] X.env=(false,eval a X.env)::starEach [b] X.env:=by rw[hs,hs2]
 refine Call_ (zfF I hg hm boot_zip (Bt (thn (zaa ha (zaa hb zag hs2) hs1 pos pins s σ H (fun vs H'=>∃ ka,Ext io ka H H'/\StR X.K H' (io++ka) st'/\Reps X.K H' (io++ka) vs [x,y]) I ⟨ρ,st,io,[x,y],st',E,S,zcO e1 (zcO e2 rfl),fun vs H1 k1 X1 S1 R1=>⟨k1,X1,S1,R1⟩⟩) ?_) hs1 hpl));rintro us t1 ⟨vs,H1,I1,r1,k1,X1,S1,R1⟩;obtain⟨v,u,rfl,Rx,Ry⟩:=R1.two;obtain⟨v',u',rfl,rv,ru⟩:=r1.two;obtain⟨xx,rfl,⟨xs,hx⟩,kx⟩:=zhx S1 Rx e3;obtain⟨yy,rfl,⟨ys,hy⟩,ky⟩:=zhx S1 Ry e4;cases rv;cases ru;obtain⟨its,vx,ix⟩:=Sr.sq_is I1 hx;obtain⟨jts,vy,iy⟩:=Sr.sq_is I1 hy;refine zjR ix iy fun h' hz hTI hTO hi hj kk=>wpAny_pyIter_zip hz ?_;refine⟨_,_,_,_,H1,rfl,I1.kept (t':=t1.toks) kk,zkO xx yy (Zp.new t1.heap.objs.size),⟨hz,hTI,⟨_,_,hTO⟩,hi,hj⟩,fun b hb=>?_,?_⟩
 . have hle:t1.heap.objs.size<=b:=by
     simp only[Ba,AS,or_false] at hb
     rcases hb with rfl | rfl | rfl | rfl | rfl
     . exact B1 _ 4
     . exact B1 _ 2
     . exact B1 _ 3
     . exact Af _
     . exact B1 _ 1
   exact I1.fpOk hle (I1.hok.fresh hle)
 . refine k _ H1 k1 X1 S1 ?_;have st1:∀ {s3:Sto},stays ⟨pairD as bs,f++g⟩ s3->(∀ p,p∈f->s3[p.1]?=some (.lst p.2)\/s3[p.1]?=some (.fz p.2))/\∀ p,p∈g->s3[p.1]?=some (.lst p.2)\/s3[p.1]?=some (.fz p.2):=fun {s3} h=>⟨fun p hp=>h p (AL _ hp),fun p hp=>h p (AI _ hp)⟩
   have len:∀ {a b:List D},(pairD a b).length=min a.length b.length:=fun {a b}=>by unfold pairD;rw[Ak,FH]
   refine⟨fun i d H2 k2 s3 hd X2 S2 hs=>?_,fun H2 k2 s3 X2 S2 hs=>?_,fun H2 k2 s3 i hi X2 S2 hs=>?_⟩
   . obtain⟨xs2,qx,rx⟩:=kx H2 k2 s3 X2 S2 (st1 hs).1;obtain⟨ys2,qy,ry⟩:=ky H2 k2 s3 X2 S2 (st1 hs).2;obtain⟨dx,dy,g1,g2,rfl⟩:=zjm hd;obtain⟨u1,gu,ru⟩:=rx.get g1;obtain⟨v1,gv,rv⟩:=ry.get g2;refine⟨⟨xs2,ys2,u1,v1,qx,qy,gu,gv⟩,fun r H' yl=>?_⟩;obtain⟨q,u2,v2,hq,rfl,rfl,yu,yv⟩:=yl;have e5:=yu xs2 qx;have e6:=yv ys2 qy;rw[gu] at e5;rw[gv] at e6;cases e5;cases e6;obtain⟨E',S'⟩:=zdU (o:=.tup [u1,v1]) S2 hq;rw[Ai] at S';refine⟨E',S',⟨q,_,rfl,zba,?_⟩⟩;have r2:=ru.ext S2 E';have r3:=rv.ext S2 E';rw[Ai] at r2 r3;exact Reps.cons r2 (Reps.cons r3 Reps.nil)
   . obtain⟨xs2,qx,rx⟩:=kx H2 k2 s3 X2 S2 (st1 hs).1;obtain⟨ys2,qy,ry⟩:=ky H2 k2 s3 X2 S2 (st1 hs).2;refine⟨xs2,ys2,qx,qy,?_⟩;show xs2.length<=(pairD as bs).length\/ys2.length<=(pairD as bs).length;rw[len,rx.length,ry.length];omega
   . obtain⟨xs2,qx,rx⟩:=kx H2 k2 s3 X2 S2 (st1 hs).1;obtain⟨ys2,qy,ry⟩:=ky H2 k2 s3 X2 S2 (st1 hs).2;refine⟨xs2,ys2,qx,qy,?_⟩;have hi:(pairD as bs).length<=i:=hi;rw[len] at hi;rw[rx.length,ry.length];omega
end
noncomputable def Caps(X:Cx)(fs:List Str):List Nat->List Str->Prop
 | [],[]=>True
 | j::js,x::xs=>(X.N[j]?=some x/\x∈fs)/\Caps X fs js xs
 | _,_=>False
noncomputable def Outs(X:Cx):List Str->Prop
 | []=>True
 | x::xs=>(X.env.kindOf x=some .cell\/X.env.kindOf x=some .free)/\Outs X xs
theorem Outs.get{X:Cx}:∀ {fs:List Str} {x:Str},Outs X fs->x∈fs->X.env.kindOf x=some .cell\/X.env.kindOf x=some .free
 | [],_,_,m=>nomatch m
 | y::ys,x,h,m=>by
   rcases List.mem_cons.mp m with rfl | m
   . exact h.1
   . exact Outs.get h.2 m
theorem Caps.get{X:Cx}{fs:List Str}:∀ {fr:List Nat} {xs:List Str} {i j:Nat} {x:Str},Caps X fs fr xs->fr[i]?=some j->xs[i]?=some x->X.N[j]?=some x/\x∈fs
 | [],[],i,j,x,_,h,_=>by simp at h
 | [],_::_,i,j,x,h,_,_=>h.elim
 | _::_,[],i,j,x,h,_,_=>h.elim
 | k::ks,y::ys,0,j,x,h,h1,h2=>by
   simp at h1 h2;subst h1 h2;exact h.1
 | k::ks,y::ys,i+1,j,x,h,h1,h2=>Caps.get (i:=i) h.2 (by simpa using h1) (by simpa using h2)
theorem zbe{X:Cx}{scope:Scope}{N':List Str}{nt:Nat}{fr:List Nat}(fs:List Str)(kind:scope.kind=.function)(nd:(scope.names.map (·.1)).Nodup)(hf:scope.names.all (fun p=>!(p.2==AG) || fs.contains p.1)=true)
   (hb:fs.all (fun x=>scope.names.contains (x,AG))=true) (len:N'.length=nt+fr.length) (cap:Caps X fs fr (N'.drop nt)) (out:Outs X fs):CompS X scope N' nt fr:=by
 refine⟨kind,nd,len,fun i j x h1 h2=>?_,fun x hx=>?_⟩
 . have h2':(N'.drop nt)[i]?=some x:=by rw[List.getElem?_drop];exact h2
   obtain⟨a,b⟩:=cap.get h1 h2';refine⟨a,?_⟩;have:=List.all_eq_true.mp hb x b;simpa using this
 . have:=List.all_eq_true.mp hf _ hx;have hm:x∈fs:=by simpa using this
   exact out.get hm
theorem zdy:bootBuiltins "len"=some (.builtin "len"):=by decide +kernel
theorem zqF:bootBuiltins "abs"=some (.builtin "abs"):=by decide +kernel
theorem zes:bootBuiltins "sorted"=some (.builtin "sorted"):=by decide +kernel
theorem zg9:bootBuiltins "all"=some (.builtin "all"):=by decide +kernel
theorem zqE:bootBuiltins "int"=some (.type "int"):=by decide +kernel
theorem zos:bootBuiltins "bool"=some (.type "bool"):=by decide +kernel
theorem zmv:bootBuiltins "str"=some (.type "str"):=by decide +kernel
theorem zcT:bootBuiltins "tuple"=some (.type "tuple"):=by decide +kernel
theorem ziM:bootBuiltins "dict"=some (.type "dict"):=by decide +kernel
noncomputable def mulA:G2:=orG mulD zp6
theorem zdp{X:Cx}:OpM X (binaryOp .Mult) mulA:=zfy znH zlD
theorem zkw{K:Ac}{H:Hp}{io:List Addr}:∀ (ns:List Int),Reps K H io (ns.map V.int) (ns.map D.int)
 | []=>rfl
 | n::ns=>⟨_,_,rfl,rfl,zkw ns⟩
theorem zk0{K:Ac}{H:Hp}{a:Addr}{ns:List Int}{g:GN}{st:Sto}{E:XK}(hO:Only H)(hS:SqL K H a (ns.map V.int))(e:g [.kl (ns.map D.int)] []=some (.bl true,st)):spM K 1 g [.ref a] H (fun v _=>v=.bl true) E:=by
 have hF:SqF K H a (ns.map V.int):=by
   rcases hS with (h | h) | h
   . rcases hO a with z | ⟨o,xs,z⟩
     . rw[z] at h;cases h
     . rw[z] at h;cases h
   . exact .inl h
   . exact .inr h
 refine⟨_,[],[],_,_,rfl,Reps.cons (show Rep K H [] (.ref a) (.kl (ns.map D.int)) from ⟨a,_,rfl,hF,zkw ns⟩) Reps.nil,⟨rfl,List.nodup_nil,fun n b o h=>by simp at h⟩,e,fun v H' ka E' S' R'=>R'⟩
end L2.MP
namespace L2.MP
open PySem
structure Gr(st st':Sto):Prop where
 len:st.length<=st'.length
 old:∀ k,k < st.length->st'[k]?=st[k]?
theorem Gr.refl(st:Sto):Gr st st:=⟨Af _,fun _ _=>rfl⟩
theorem Gr.trans{a b c:Sto}(h:Gr a b)(h':Gr b c):Gr a c:=⟨AF h.len h'.len,fun k hk=>(h'.old k (AB hk h.len)).trans (h.old k hk)⟩
theorem Gr.app(st:Sto)(l:List O):Gr st (st++l):=⟨by simp,fun k hk=>Ar hk⟩
theorem getElem?_lt{α:Type}{l:List α}{n:Nat}{x:α}(h:l[n]?=some x):n < l.length:=(List.getElem?_eq_some_iff.mp h).1
theorem za4(st:Sto)(o:O):(st++[o])[st.length]?=some o:=getElem?_len st o
theorem zcc{W:Wk}{g:MG}{m:MS}:∀ {ds:List D} {Inv:Nat->Rho->Sto->Prop} {ρ:Rho} {st:Sto},Inv 0 ρ st->(∀ k ρ s,k<=ds.length->Inv k ρ s->walked W s=true) ->
   (∀ k d ρ s,ds[k]?=some d->Inv k ρ s->∃ ρ1 s1 ρ2 s2,g d ρ s=some (ρ1,s1)/\m ρ1 s1=some (.nx ρ2,s2)/\Inv (k+1) ρ2 s2)->∃ ρ' s',zg1 W g m ds ρ st=some (.nx ρ',s')/\Inv ds.length ρ' s'
 | [],Inv,ρ,st,h0,wk,step=>⟨ρ,st,by unfold zg1;rw[if_pos (wk 0 ρ st (Af _) h0)],h0⟩
 | d::ds,Inv,ρ,st,h0,wk,step=>by
   obtain⟨ρ1,s1,ρ2,s2,e1,e2,h1⟩:=step 0 d ρ st rfl h0;obtain⟨ρ',s',e,h⟩:=zcc (W:=W) (g:=g) (m:=m) (ds:=ds) (Inv:=fun k=>Inv (k+1)) h1 (fun k ρ s hk h=>wk (k+1) ρ s (Cm hk) h) (fun k d ρ s hd h=>step (k+1) d ρ s (by simpa using hd) h);refine⟨ρ',s',?_,h⟩;unfold zg1;rw[if_pos (wk 0 ρ st (Bc _) h0),e1];simp only[Ab,e2];exact e
theorem zqB{W:Wk}{g:MG}{c:MT}{m:ME}:∀ {ds:List D} {Inv:Nat->List D->Rho->Sto->Prop} {acc:List D} {ρ:Rho} {st:Sto},Inv 0 acc ρ st->(∀ k a ρ s,k<=ds.length->Inv k a ρ s->walked W s=true) ->
   (∀ k d a ρ s,ds[k]?=some d->Inv k a ρ s->∃ ρ1 s1 b s2,g d ρ s=some (ρ1,s1)/\c ρ1 s1=some (b,s2)/\((b=true/\∃ x s3,m ρ1 s2=some (x,s3)/\Inv (k+1) (a++[x]) ρ1 s3)\/(b=false/\Inv (k+1) a ρ1 s2))) ->
   ∃ xs ρ' s',mCI W g c m ds ρ st=some (xs,s')/\Inv ds.length (acc++xs) ρ' s'
 | [],Inv,acc,ρ,st,h0,wk,step=>⟨[],ρ,st,by unfold mCI;rw[if_pos (wk 0 acc ρ st (Af _) h0)],by rw[Ai];exact h0⟩
 | d::ds,Inv,acc,ρ,st,h0,wk,step=>by
   obtain⟨ρ1,s1,b,s2,e1,e2,h1⟩:=step 0 d acc ρ st rfl h0;have wk':∀ k a ρ s,k<=ds.length->Inv (k+1) a ρ s->walked W s=true:=fun k a ρ s hk h=>wk (k+1) a ρ s (Cm hk) h;have st':∀ k d a ρ s,ds[k]?=some d->Inv (k+1) a ρ s->∃ ρ1 s1 b s2,g d ρ s=some (ρ1,s1)/\c ρ1 s1=some (b,s2)/\((b=true/\∃ x s3,m ρ1 s2=some (x,s3)/\Inv (k+1+1) (a++[x]) ρ1 s3)\/(b=false/\Inv (k+1+1) a ρ1 s2)):=fun k d a ρ s hd h=>step (k+1) d a ρ s (by simpa using hd) h
   rcases h1 with ⟨rfl,x,s3,e3,h1⟩ | ⟨rfl,h1⟩
   . obtain⟨xs,ρ',s',e,h⟩:=zqB (W:=W) (g:=g) (c:=c) (m:=m) (ds:=ds) (Inv:=fun k=>Inv (k+1)) h1 wk' st';refine⟨x::xs,ρ',s',?_,by simpa using h⟩;unfold mCI;rw[if_pos (wk 0 acc ρ st (Bc _) h0),e1];simp only[Ab,e2,if_true,e3,e,Ay]
   . obtain⟨xs,ρ',s',e,h⟩:=zqB (W:=W) (g:=g) (c:=c) (m:=m) (ds:=ds) (Inv:=fun k=>Inv (k+1)) h1 wk' st';refine⟨xs,ρ',s',?_,h⟩;unfold mCI;rw[if_pos (wk 0 acc ρ st (Bc _) h0),e1];simp only[Ab,e2,Bi,if_false,e]
theorem zg6{W:Wk}{g:MG}{c:MT}{m:ME}{α:Type}{f h:α->D}{R:Rho->Prop}:∀ {as:List α} {ρ:Rho} {st:Sto},R ρ->walked W st=true->(∀ a∈as,∀ ρ,R ρ->∃ ρ1,g (f a) ρ st=some (ρ1,st)/\c ρ1 st=some (true,st)/\m ρ1 st=some (h a,st)/\R ρ1) ->
   mCI W g c m (as.map f) ρ st=some (as.map h,st)
 | [],ρ,st,r,wk,_=>by unfold mCI;rw[Bq];simp only[wk,if_true,Bq]
 | a::as,ρ,st,r,wk,hs=>by
   obtain⟨ρ1,e1,e2,e3,r1⟩:=hs a Am ρ r;have e:=zg6 (W:=W) (g:=g) (c:=c) (m:=m) (f:=f) (h:=h) (R:=R) (as:=as) r1 wk fun b hb=>hs b (Ag _ hb);rw[Ao];unfold mCI;rw[if_pos wk,e1];simp only[Ab,e2,if_true,e3,e,Ay,Ao]
theorem za5{ds xs:List D}{n:Nat}{s:Sto}(h:s[n]?=some (.lst xs)):walked ⟨ds,[(n,xs)]⟩ s=true:=by
 unfold walked;simp only[Dy,DP,EE];exact zis h
theorem zaG{n:Nat}(h:n<=10000):fits n=true:=by
 unfold fits;exact decide_eq_true (AF h (by decide))
end L2.MP
namespace L2.MP
@[simp] theorem zeM{α:Type}(x:α)(y:Option α):orO (some x) y=some x:=rfl
@[simp] theorem zfx{α:Type}(y:Option α):orO none y=y:=rfl
end L2.MP
namespace L2.MP.Hn
open PySem L2.MP
end L2.MP.Hn
namespace L2.MP
open PySem
section
variable {ρ ρ1:Rho} {st s1:Sto} {m n ma mb:ME} {mm:MA} {ms mq:MS} {mt mu:MT} {g:G2} {gn:GN} {d:D} {i j:Nat} {ds:List D} {mg:MG} {mgs:MGs} {ml mh:MO}
@[simp] theorem zbc:mVar i ρ st=match ρ[i]? with
 | some (some d)=>some (d,st)
 | _=>none:=rfl
@[simp] theorem zbZ:mCon d ρ st=some (d,st):=rfl
@[simp] theorem zcB:mBin g ma mb ρ st=(ma ρ st).bind fun p=>(mb ρ p.2).bind fun q=>g p.1 q.1 q.2:=rfl
@[simp] theorem ziQ:mTst m ρ st=(m ρ st).bind fun p=>match p.1 with
 | .bl b=>some (b,p.2)
 | _=>none:=rfl
@[simp] theorem zkJ:zem mt ρ st=(mt ρ st).map fun p=>(!p.1,p.2):=rfl
@[simp] theorem ziS:zc9 mt mu ρ st=(mt ρ st).bind fun p=>if p.1=true then mu ρ p.2 else some (false,p.2):=rfl
@[simp] theorem zoC:mOrT mt mu ρ st=(mt ρ st).bind fun p=>if p.1=true then some (true,p.2) else mu ρ p.2:=rfl
@[simp] theorem zoE:zdE m n ρ st=(mTst m ρ st).bind fun p=>if p.1=true then n ρ p.2 else some (.bl false,p.2):=rfl
theorem zoB:mOrV m n ρ st=(mTst m ρ st).bind fun p=>if p.1=true then some (.bl true,p.2) else n ρ p.2:=rfl
@[simp] theorem zq9:zoK m ρ st=(mTst m ρ st).map fun p=>(.bl !p.1,p.2):=rfl
@[simp] theorem zcf:zaw gn mm ρ st=(mm ρ st).bind fun p=>gn p.1 p.2:=rfl
@[simp] theorem zbY:zae m mm ρ st=(m ρ st).bind fun p=>(mm ρ p.2).bind fun q=>some (p.1::q.1,q.2):=rfl
@[simp] theorem zdz:mNil ρ st=some ([],st):=rfl
@[simp] theorem zsb:mTup mm ρ st=(mm ρ st).bind fun p=>if fits p.1.length=true then some (.tup p.1,p.2) else none:=rfl
@[simp] theorem zsh:mLst mm ρ st=(mm ρ st).bind fun p=>if fits p.1.length=true then some (.ref p.2.length,p.2++[.lst p.1]) else none:=rfl
@[simp] theorem zet:mRet m ρ st=(m ρ st).map fun p=>(.rt p.1,p.2):=rfl
@[simp] theorem zqM:mExp m ρ st=(m ρ st).map fun p=>(.nx ρ,p.2):=rfl
@[simp] theorem zcn:mAsg m mg ρ st=(m ρ st).bind fun p=>(mg p.1 ρ p.2).map fun q=>(.nx q.1,q.2):=rfl
@[simp] theorem zsf:gNm i d ρ st=some (ρ.set i (some d),st):=rfl
@[simp] theorem zq6:zdJ ρ st=some (.nx ρ,st):=rfl
@[simp] theorem zsg:mNeg m ρ st=(m ρ st).bind fun p=>negD p.1 p.2:=rfl
@[simp] theorem zha:mIf mt ms mq ρ st=(mt ρ st).bind fun p=>if p.1=true then ms ρ p.2 else mq ρ p.2:=rfl
@[simp] theorem ziR:putA ma mb m ρ st=orO (mAsg m (gSb setD ma mb) ρ st) (zlS ma mb m ρ st):=rfl
@[simp] theorem zoz{g3:G3}:gSb g3 ma mb d ρ st=(ma ρ st).bind fun p=>(mb ρ p.2).bind fun q=>(g3 p.1 q.1 d q.2).map fun s=>(ρ,s):=rfl
@[simp] theorem zsz:gTp i mgs d ρ st=match d with
 | .tup ds=>if ds.length=i then mgs ds ρ st else none
 | _=>none:=rfl
@[simp] theorem zsi:gN0 [] ρ st=some (ρ,st):=rfl
@[simp] theorem zsA:gC mg mgs (d::ds) ρ st=(mg d ρ st).bind fun p=>mgs ds p.1 p.2:=rfl
@[simp] theorem zsd:mR1 m ρ st=(m ρ st).bind fun p=>match p.1 with
 | .int j=>if small j=true then some (⟨run 0 j.toNat,[]⟩,p.2) else none
 | _=>none:=rfl
@[simp] theorem zq5:zbT ρ st=some (true,st):=rfl
theorem zce{mi:MI}{k:Nat}{fr:List Nat}:zbL mi k fr mg mt m ρ st=(mi ρ st).bind fun p=>(mCI p.1 mg mt m p.1.ds (rho0 ρ k fr) p.2).bind fun q=>if fits q.1.length=true then some (.ref q.2.length,q.2++[.lst q.1]) else none:=rfl
@[simp] theorem zdM{mi:MI}:mFor mi mg ms ρ st=(mi ρ st).bind fun p=>zg1 p.1 mg ms p.1.ds ρ p.2:=rfl
@[simp] theorem zq8:zeV ρ st=some (none,st):=rfl
@[simp] theorem zq7:zeU m ρ st=(m ρ st).bind fun p=>match p.1 with
 | .int i=>some (some i,p.2)
 | _=>none:=rfl
@[simp] theorem zmz{T:String}:mIsi T m ρ st=(m ρ st).bind fun p=>(tyName p.2 p.1).map fun t=>(.bl (subT t T),p.2):=rfl
@[simp] theorem zsj:mApp m mm ρ st=(m ρ st).bind fun p=>match p.1 with
 | .ref n=>(zbj p.2 n).bind fun _=>(mm ρ p.2).bind fun q=>zbR p.1 q.1 q.2
 | _=>none:=rfl
@[simp] theorem zse:mPar i j mm ρ st=(mm ρ st).bind fun p=>match p.1 with
 | [x,y]=>some (.nx ((ρ.set i (some x)).set j (some y)),p.2)
 | _=>none:=rfl
@[simp] theorem zow:mZip ma mb ρ st=(ma ρ st).bind fun p=>(mb ρ p.2).bind fun q=>zipW p.1 q.1 q.2:=rfl
theorem zaB{r:Option (Fl×Sto)}(h:ms ρ st=some (.nx ρ1,s1))(k:mq ρ1 s1=r):mSeq ms mq ρ st=r:=by
 unfold mSeq;rw[h];exact k
theorem zfs{s:Sto}(h:ms ρ st=some (.rt d,s)):mSeq ms mq ρ st=some (.rt d,s):=by
 unfold mSeq;rw[h];rfl
theorem zbQ{N:Nat}{s:Sto}(h:ms (rho N ds) st=some (.rt d,s)):fnM N ms ds st=some (d,s):=by
 unfold fnM;rw[h];rfl
theorem zbM{k:Nat}(h:k<=10000:=by decide):fits k=true:=zaG h
@[simp] theorem zss:fits 0=true:=zbM
@[simp] theorem zsr:fits 1=true:=zbM
@[simp] theorem zsq:fits 2=true:=zbM
@[simp] theorem zsp:fits 3=true:=zbM
@[simp] theorem zso:fits 4=true:=zbM
@[simp] theorem zsn:fits 5=true:=zbM
@[simp] theorem zsm:fits 6=true:=zbM
@[simp] theorem zsl:fits 7=true:=zbM
@[simp] theorem zsk:fits 8=true:=zbM
theorem zfZ{k:Int}(h0:0<=k)(h1:k<=1000000):small k=true:=by
 unfold small;simp;omega
theorem zl3{n:Nat}{ds:List D}{k:Int}{x:D}(h:st[n]?=some (.lst ds))(h0:0<=k)(hx:ds[k.toNat]?=some x):ixA (.ref n) (.int k) st=some (x,st):=by
 have hl:=getElem?_lt hx;have h1:k < ds.length:=by omega
 simp[ixA,orG,idxD,zbj,h,atI,ixN,h0,h1,zeM];exact (List.getElem?_eq_some_iff.mp hx).2
theorem zaY{ds:List D}{k:Int}{x:D}(h0:0<=k)(hx:ds[k.toNat]?=some x):ixA (.tup ds) (.int k) st=some (x,st):=by
 have hl:=getElem?_lt hx;have h1:k < ds.length:=by omega
 simp[ixA,orG,idxD,atI,ixN,h0,h1,zeM];exact (List.getElem?_eq_some_iff.mp hx).2
theorem zrS{ds:List D}{k:Int}{x:D}(h0:0<=k)(hx:ds[k.toNat]?=some x):ixA (.kl ds) (.int k) st=some (x,st):=by
 have hl:=getElem?_lt hx;have h1:k < ds.length:=by omega
 simp[ixA,orG,idxD,atI,ixN,h0,h1,zeM];exact (List.getElem?_eq_some_iff.mp hx).2
theorem zl2{z:Str}{k:Int}{c:Nat}(hz:z.length<=10000)(h0:0<=k)(hx:z.cps[k.toNat]?=some c):ixA (.str z) (.int k) st=some (.str ⟨#[c]⟩,st):=by
 have hl:k.toNat < z.cps.size:=(Array.getElem?_eq_some_iff.mp hx).1;have h1:k < z.cps.size:=by omega
 have hf:fits z.length=true:=zaG hz;simp[ixA,orG,idxD,atI,ixN,h0,h1,zeM,hf];exact (Array.getElem?_eq_some_iff.mp hx).2
theorem zeZ:lenD [.tup ds] st=some (.int ds.length,st):=rfl
theorem zqc:lenD [.kl ds] st=some (.int ds.length,st):=rfl
@[simp] theorem add_int(a b:Int):addD (.int a) (.int b) st=some (.int (a+b),st):=rfl
@[simp] theorem sub_int(a b:Int):subD (.int a) (.int b) st=some (.int (a - b),st):=rfl
theorem append_at{n:Nat}{x:D}(h:st[n]?=some (.lst ds))(hl:ds.length<=10000):zbR (.ref n) [x] st=some (.non,st.set n (.lst (ds++[x]))):=by
 have:ds.length < sizeLine:=BL hl (by decide);simp[zbR,h,this]
end
end L2.MP
set_option linter.unusedSimpArgs false
namespace L2.MP.Hn
open PySem L2.MP
end L2.MP.Hn
namespace L2.MP
open PySem PySem.Builtin PySem.Builtin.Str
end L2.MP
namespace L2.MP
open PySem
theorem zcY{n:Nat}{st:Sto}{x:Str}(h:BZ x=true):toP (n+1) st (.str x)=some (.str x):=by
 rw[toP];simp[h]
theorem eq_int(a b:Int)(st:Sto):eqD (.int a) (.int b) st=some (.bl (a==b),st):=by
 unfold eqD;rw[toP,toP];simp[A9]
end L2.MP
namespace L2.MP.Hn
open PySem L2.MP
end L2.MP.Hn
namespace L2.MP
open PySem
noncomputable def zbb(p:Str×Int):D:=.tup [.str p.1,.int p.2]
noncomputable def zbq(k:List Str):D:=.tup (k.map D.str)
end L2.MP
namespace L2.MP.Hn
open PySem L2.MP
end L2.MP.Hn
namespace L2.MP
open PySem
theorem zhv(rows:List (List Int)):(zj1 rows).Perm rows:=Di _ _
theorem zi4(rows:List (List Int)):(zj1 rows).Pairwise fun a b=>tle a b=true:=B6 (fun a b c=>zb5 a b c) zc7 rows
theorem zk3{a b:List (List Int)}(h:a.Perm b)(hs:b.Pairwise fun x y=>tle x y=true):zj1 a=b :=
 zbU ((zhv a).trans h) (zi4 a) hs fun x _ y _=>zfp
noncomputable abbrev Tl:=Int×Int×Int
end L2.MP
namespace L2.MP.Hn
open PySem L2.MP
noncomputable def plain:Nat->D->Prop
 | 0,_=>False
 | _+1,.non=>True
 | _+1,.bl _=>True
 | _+1,.int _=>True
 | _+1,.str x=>BZ x=true
 | n+1,.tup ds=>ds.length<=10000/\∀ d∈ds,plain n d
 | _+1,.ref _=>False
 | _+1,.kl _=>False
theorem zhR:∀ {n m:Nat} {d:D},plain n d->n<=m->plain m d
 | 0,_,_,h,_=>h.elim
 | n+1,0,_,_,hm=>absurd hm (by omega)
 | n+1,m+1,.non,_,_=>trivial
 | n+1,m+1,.bl _,_,_=>trivial
 | n+1,m+1,.int _,_,_=>trivial
 | n+1,m+1,.str _,h,_=>h
 | n+1,m+1,.tup ds,h,hm=>⟨h.1,fun d hd=>zhR (h.2 d hd) (by omega)⟩
 | n+1,m+1,.ref _,h,_=>h
 | n+1,m+1,.kl _,h,_=>h
theorem zfS{f:D->Option PyData}:∀ {ds:List D},(∀ d∈ds,∃ p,f d=some p/\A9 p p=true)->∃ ps,toPs f ds=some ps/\Bw ps ps=true
 | [],_=>⟨[],rfl,by simp[Bw]⟩
 | d::ds,h=>by
   obtain⟨p,e,q⟩:=h d Am;obtain⟨ps,es,qs⟩:=zfS fun x hx=>h x (Ag _ hx);refine⟨p::ps,?_,?_⟩
   . rw[toPs,e,Ab,es];rfl
   . rw[Bw,q,qs];rfl
theorem zf4:∀ {n:Nat} {d:D} {st:Sto},plain n d->∃ p,toP n st d=some p/\A9 p p=true
 | 0,_,_,h=>h.elim
 | n+1,.non,st,_=>⟨.none,by rw[toP],by simp[A9]⟩
 | n+1,.bl b,st,_=>⟨.bool b,by rw[toP],by simp[A9]⟩
 | n+1,.int i,st,_=>⟨.int i,by rw[toP],by simp[A9]⟩
 | n+1,.str x,st,h=>⟨.str x,zcY h,by simp[A9]⟩
 | n+1,.tup ds,st,h=>by
   obtain⟨ps,e,q⟩:=zfS (f:=toP n st) fun d hd=>zf4 (st:=st) (h.2 d hd);refine⟨.tuple ps,?_,?_⟩
   . rw[toP,e];rfl
   . rw[A9];exact q
 | n+1,.ref _,_,h=>h.elim
 | n+1,.kl _,_,h=>h.elim
theorem znV{n:Nat}{d:D}{st:Sto}(h:plain n d)(hn:n<=100):neD d d st=some (.bl false,st):=by
 obtain⟨p,e,q⟩:=zf4 (st:=st) (zhR h hn);unfold neD;rw[e];simp[q]
end L2.MP.Hn
namespace L2.MP
open PySem PySem.Spec PyProof.Rows
section
variable {X:Cx} {K:Ac} {H:Hp} {io:List Addr} {st st':Sto} {a b c e:Expr} {es:List Expr} {ma mb mc m:ME} {mm:MA} {pos:Pos}
noncomputable def ze5:D->List D->Sto->Option (D×Sto):=fun x xs st=>match x,xs with
 | .ref n,[.ref k]=>match st[n]?,st[k]? with
   | some (.lst ds),some (.lst zs)=>if fits (ds.length+zs.length)=true then some (.non,st.set n (.lst (ds++zs))) else none
   | _,_=>none
 | _,_=>none
theorem extend_in{x:D}{xs:List D}{d:D}(h:ze5 x xs st=some (d,st')):∃ n k ds zs,x=.ref n/\xs=[.ref k]/\st[n]?=some (.lst ds)/\st[k]?=some (.lst zs)/\ds.length+zs.length<=sizeLine/\d=.non/\st'=st.set n (.lst (ds++zs)):=by
 unfold ze5 at h
 split at h
 . rename_i n k
   split at h
   . rename_i ds zs e1 e2;obtain⟨hf,h⟩:=zap h;cases h;exact⟨n,k,ds,zs,rfl,rfl,e1,e2,of_decide_eq_true hf,rfl,rfl⟩
   . cases h
 . cases h
theorem zia:MtR X "list.extend" (mtM X.K ze5):=by
 rintro pins s σ H x xs v us Q I rx rs ⟨dx,ds,st,io,d,st',Rx,Rs,S,e,k⟩;obtain⟨n,j,l,zs,rfl,rfl,e1,e2,hl,rfl,rfl⟩:=extend_in e;obtain⟨p,rfl,hp⟩:=Rx;obtain⟨w,rfl,Rw⟩:=Rs.one;obtain⟨q,rfl,hq⟩:=Rw;obtain⟨ys,hH,r⟩:=S.ob n p _ hp e1;obtain⟨ws,hB,r2⟩:=S.ob j q _ hq e2;refine zju pins s σ H _ _ v us Q I rx rs ⟨p,q,ys,ws,rfl,rfl,hH,hB,by rw[r.length,r2.length];exact hl,?_⟩;obtain⟨E',S'⟩:=zdH (o:=.lst (ys++ws)) (ob:=.lst (l++zs)) S hp e1 (fun o u z=>by rw[hH] at z;cases z) fun H' T e'=>⟨_,e',(Reps.mono T r).append (Reps.mono T r2)⟩
 exact k _ _ [] E' S' rfl
noncomputable def mExt(m:ME)(mm:MA):ME:=fun ρ st=>(m ρ st).bind fun (x,s1)=>match x with
 | .ref n=>(zbj s1 n).bind fun _=>(mm ρ s1).bind fun (xs,s2)=>ze5 x xs s2
 | _=>none
theorem zi8{o:Expr}{apos cpos:Pos}(ho:SE X o m)(ha:SA X (e::es) mm)
   (hbase:attributeBase o "extend" X.env (eval o X.env)=eval o X.env:=by rfl)
   (hfew:((backTo cpos (starEach (e::es) X.env)).all (fun x=>!x.1)&&(backToKw cpos (keywordEach [] X.env)).all (fun x=>x.1.isSome)
    &&decide ((e::es).length+([]:List Keyword).length+(if ([]:List Keyword).isEmpty then 0 else 1) < 30))=true:=by rfl)
   (hline:(apos.endLine==cpos.line)=true:=by rfl) (hs:starEach (e::es) X.env=(false,eval e X.env)::starEach es X.env:=by rfl) (hplain:(backTo cpos (starEach es X.env)).any (·.1)=false:=by rfl) :
   SE X (.Call (.Attribute o "extend" apos) (e::es) [] cpos) (mExt m mm) :=
 PE.imp (zpG B4 PySem.F.slot_list_extend PySem.F.type_list_extend zia ho ha hbase hfew hline hs hplain) <| by
   rintro σ H Q ⟨ρ,st,io,d,st',E,S,e,k⟩;obtain⟨⟨x,s1⟩,e1,e⟩:=zac e
   cases x with
   | ref n =>
     obtain⟨l,e0,e⟩:=zac e;obtain⟨⟨xs,s2⟩,e2,e⟩:=zac e;refine⟨ρ,st,io,_,s1,E,S,e1,fun v1 H1 k1 X1 S1 R1=>⟨zd5 R1 S1 e0,ρ,s1,io++k1,xs,s2,E.ext S X1,S1,e2,fun vs H2 k2 X2 S2 R2=>?_⟩⟩;exact⟨_,xs,s2,(io++k1)++k2,d,st',R1.ext S1 X2,R2,S2,e,(k.on S1 X1).on S2 X2⟩
   | _=>cases e
end
end L2.MP
namespace L2.MP
open PySem
end L2.MP
namespace L2.MP.Hn
open PySem L2.MP
end L2.MP.Hn
namespace L2.MP
open PySem PySem.Spec PyProof.Rows
section
theorem ziA(x:Sr)(o:Obj)(xs:Array Value):Meets (Builtin.«enumerate.__new__» ⟨[.type "enumerate",.ref x.ad],[]⟩) (fun _ R s=>s.heap.get? x.ad=some o/\x.is s.heap xs /\
     R (.ok (.ret (.ref (s.heap.push x.ob).objs.size))) { s with heap:=(s.heap.push x.ob).push { cls:=.type "enumerate",data:=.fields #[.none,.bool false,.ref s.heap.objs.size,rawInt 0,.none,.none] } }) :=
 .of_wp fun prog w A R s h=>by
   obtain⟨hp,g,d,tk,os⟩:=s;obtain⟨h1,h2,h⟩:=h;have hsub:=sub_enumerate;have hx:x.is (Shared.heap ⟨hp,g,d,tk,os⟩) xs:=h2
   wp_walk using B2 h1
   refine wpAny_stack_any fun sk=>Ae ?_
   split
   . rename_i c _ _ _ _ _
     cases (c==Value.type "enumerate")
     . wp_walk using B2 h1,Sr.iter hx
       exact⟨_,rfl,h⟩
     . wp_walk using B2 h1,Sr.iter hx
       exact⟨_,rfl,h⟩
   . wp_walk using B2 h1,Sr.iter hx
     exact⟨_,rfl,h⟩
end
section
variable {prog:Program} {w:World} {A:Around} {E:Value->Shared->Prop} {s:Shared}
theorem Sr.is_get{h:Heap}{xs:Array Value}{x:Sr}(q:x.is h xs):∃ o,h.get? x.ad=some o:=by
 cases x with
 | l a=>obtain⟨o,g,_⟩:=q;exact⟨o,g⟩
 | t a=>obtain⟨o,g,_⟩:=q;exact⟨o,g⟩
theorem ziK{x:Sr}{xs:Array Value}{R:Value->Shared->Prop}(hx:x.is s.heap xs)(k:∀ h',IsEnum h' (s.heap.objs.size+1) s.heap.objs.size 0 .none->x.at_ h' s.heap.objs.size 0->(∀ c u,s.heap.get? c=some u->h'.get? c=some u)->R (.ref (s.heap.objs.size+1)) { s with heap:=h' }) :
   wpAny (model prog w) A (call (.type "enumerate") [.ref x.ad]) R E s:=by
 obtain⟨o,g⟩:=Sr.is_get hx;refine callType_new F.called_enumerate (by decide) (F.typeCall_enumerate_1 _) (F.newCall_enumerate_1 _) (fun obj=>F.args_object_init_2 obj _) F.entry_enumerate_new (ziA x o xs) ⟨g,hx,?_⟩;have z1:(s.heap.push x.ob).objs.size=s.heap.objs.size+1:=Bz ..;have f2:((s.heap.push x.ob).push { cls:=.type "enumerate",data:=.fields #[.none,.bool false,.ref s.heap.objs.size,rawInt 0,.none,.none] }).get? (s.heap.push x.ob).objs.size=some { cls:=.type "enumerate",data:=.fields #[.none,.bool false,.ref s.heap.objs.size,rawInt 0,.none,.none] }:=Aq _ rfl;have f1:((s.heap.push x.ob).push { cls:=.type "enumerate",data:=.fields #[.none,.bool false,.ref s.heap.objs.size,rawInt 0,.none,.none] }).get? s.heap.objs.size=some x.ob:=Ad _ (Aq _ (by cases x <;> rfl));show _/\_;rw[z1] at f2 ⊢;exact⟨⟨_,f2,rfl⟩,k _ f2 (Sr.at_new f1) fun c u q=>Ad _ (Ad _ q)⟩
end
theorem Sr.draws{prog:Program}{w:World}{A:Around}(hh:A.handled=none)(it:Addr)(x:Sr)(hne:x.ad≠it)(items:Array Value):Draws prog w A it [it,x.ad] items.size (fun i v=>items[i]?=some v) (fun i h=>x.at_ h it i/\x.is h items) where
 live:=fun _ _ q=>let ⟨o,_,g,_⟩:=Sr.at_get q.1;⟨o,g⟩
 frame:=fun _ _ _ q k=>⟨Sr.at_keep q.1 fun o e=>k it (by simp) o e,Sr.is_keep q.2 fun o e=>k x.ad (by simp) o e⟩
 item:=fun i s Q E hi q k=>by
   refine Sr.next q.1 q.2 (v:=items[i]) (by simp[hi]) fun h' a b=>?_;exact k _ h' s.toks (by simp[hi]) ⟨a,Sr.is_keep q.2 fun o e=>b.extBut _ _ hne e⟩ b
 done:=fun s Q E q k=>Sr.stop hh q.1 q.2 (by simp) k
theorem Sr.drawsEnd{prog:Program}{w:World}{A:Around}(hh:A.handled=none)(it:Addr)(x:Sr)(items:Array Value)(n:Nat)(hn:items[n]?=none):Draws prog w A it [it,x.ad] n (fun _ _=>True) (fun j h=>j=n/\x.at_ h it n/\x.is h items) where
 live:=fun _ _ q=>let ⟨o,_,g,_⟩:=Sr.at_get q.2.1;⟨o,g⟩
 frame:=fun _ _ _ q k=>⟨q.1,Sr.at_keep q.2.1 fun o e=>k it (by simp) o e,Sr.is_keep q.2.2 fun o e=>k x.ad (by simp) o e⟩
 item:=fun i s Q E hi q k=>absurd q.1 (Aw hi)
 done:=fun s Q E q k=>Sr.stop hh q.2.1 q.2.2 hn k
noncomputable def Itn(x:Sr):It :=
 ⟨fun i H=>∃ xs v,x.sq H xs/\xs[i]?=some v,fun i H r H'=>∃ p v,H p=none/\H'=upd H p (.tup [.int (i:Nat),v])/\r=.ref p/\∀ xs,x.sq H xs->xs[i]?=some v,fun i H=>∃ xs,x.sq H xs/\xs.length<=i⟩
theorem zhk{P:Program}{w:World}{K:Ac}{elts:List Expr}{x1}{pos:Pos}(x:Sr)(it e:Addr)(hne:e≠it) :
   Turn P w K (.Tuple elts x1 pos) (Itn x) [e,it] e (fun i h=>(∃ old,IsEnum h e it (i:Nat) old)/\x.at_ h it i) where
 mem:=by simp
 obj:=fun i h st b hb=>by
   obtain⟨⟨old,he⟩,hi⟩:=st
   rcases List.mem_cons.mp hb with rfl | hb
   . exact⟨_,he,fun v z=>by cases z⟩
   . rw[List.mem_singleton.mp hb];obtain⟨o,vs,g,d⟩:=Sr.at_get hi;exact⟨o,g,fun v z=>by rw[d] at z;cases z⟩
 keep:=fun i h h' st k=>by
   obtain⟨⟨old,he⟩,hi⟩:=st;exact⟨⟨old,k e (by simp) _ he⟩,Sr.at_keep hi fun o q=>k it (by simp) o q⟩
 item := by
   intro X hP hw hK hc i pins s σ H E I hf st hg;subst hP hw hK;obtain⟨xs,v,hx,hv⟩:=hg;obtain⟨⟨old,he⟩,hi⟩:=st;obtain⟨its,rx,ix⟩:=Sr.sq_is I hx;obtain⟨v',gv,rv⟩:=rx.get hv;have fit:=(hf it (by simp)).1;have fe:=(hf e (by simp)).1;have hlt:i < its.toArray.size:=by have:=(List.getElem?_eq_some_iff.mp gv).1;simpa using this
   refine wpAny_pyNext_enum_itemD (Sr.draws (A:=X.A.in1) (I.ok.hd hc) it x (Sr.sq_ne hx fit) its.toArray) he ⟨hi,ix⟩ hlt hne (by
     simp only[Ba,AS,or_false,not_or];exact⟨hne,fun z=>Sr.sq_ne hx fe z.symm⟩) fun y h1 tk hy he1 st1 t1 z1 k1=>?_
   have ey:y=v':=by
     have:its[i]?=some y:=by simpa using hy
     rw[gv] at this;exact (Ax this).symm
   subst ey;refine⟨_,rfl,wpAny_letOwnedTupleGo_enum (s:={ s with heap:=h1,toks:=tk+1 }) he1 fun h2 he2 hb2=>?_⟩;have k2:∀ b o,b ∉ [e,it]->s.heap.get? b=some o->h2.get? b=some o:=fun b o hb q=>by
     have n1:b≠e:=fun z=>hb (by simp[z]);have n2:b≠it:=fun z=>hb (by simp[z]);exact (hb2.2 b n1).trans (k1 b o n1 n2 q)
   have hsz:e≠s.heap.objs.size:=Aw (Al he);have t2:h2.get? s.heap.objs.size=some { cls:=.type "tuple",data:=.seq #[.int i tk,y] }:=(hb2.2 _ hsz.symm).trans t1;have hi2:x.at_ h2 it (i+1):=Sr.at_keep st1.1 fun o q=>(hb2.2 it hne.symm).trans q;refine⟨.ref s.heap.objs.size,upd H s.heap.objs.size (.tup [.int (i:Nat),v]),?_,rfl,⟨_,v,I.hok.fresh (Af _),rfl,rfl,fun ys hy=>by rw[Sr.sq_inj hy hx];exact hv⟩,⟨⟨_,by exact_mod_cast he2⟩,hi2⟩,fun b hb=>?_⟩
   . exact Inv.turnNew (s:=s) (h':=h2) (t':=tk+1) I hf k2 (Af _) (fun b hb ob q=>by
       rcases List.mem_cons.mp hb with rfl | hb
       . exact⟨_,he2⟩
       . rw[List.mem_singleton.mp hb];obtain⟨o,vs,g,d⟩:=Sr.at_get hi2;exact⟨o,g⟩) ⟨by show 2<=sizeLine;decide,[.int i tk,y],.cons ⟨_,rfl⟩ (.cons rv .nil),⟨_,t2,rfl,rfl,_,rfl⟩⟩
   . rw[zaA (fun z=>?_)]
     . exact (hf b hb).1
     . rcases List.mem_cons.mp hb with q | hb
       . exact hsz (q.symm.trans z)
       . have q:=List.mem_singleton.mp hb;obtain⟨o,vs,g,d⟩:=Sr.at_get hi;exact (Aw (Al g)) (q.symm.trans z)
 done:=by
   intro X hP hw hK hc i pins s σ H E I hf st hg;subst hP hw hK;obtain⟨xs,hx,hl⟩:=hg;obtain⟨⟨old,he⟩,hi⟩:=st;obtain⟨its,rx,ix⟩:=Sr.sq_is I hx;have l1:=rx.length;exact wpAny_pyNext_enum_endD (Sr.drawsEnd (A:=X.A.in1) (I.ok.hd hc) it x its.toArray i (by simp;omega)) he ⟨rfl,hi,ix⟩ fun h' eb=>⟨rfl,Inv.turnAll (t':=s.toks) I hf fun b o hb q=>eb b o (fun z=>hb (by simp[z])) q⟩
 self:=fun _ _ _ _ _ st h=>by
   obtain⟨⟨old,he⟩,_⟩:=st;exact Fi he h
section
variable {X:Cx} {K:Ac} {H:Hp} {io:List Addr} {m:ME} {st st':Sto}
noncomputable def zqs(x:D)(s:Sto):Option (Wk×Sto):=(seqD s x).map fun (a,f)=>(⟨pairs a,f⟩,s)
noncomputable def zn1(m:ME):MI:=fun ρ st=>(m ρ st).bind fun (x,s1)=>zqs x s1
theorem zm7{elts:List Expr}{x1}{tp:Pos}{a:Expr}{p pos:Pos}(hg:Gl X "enumerate")(hm:X.mg "enumerate"=none)(ha:SE X a m)(hs:starEach [a] X.env=[(false,eval a X.env)]:=by rfl) :
   SI X (.Tuple elts x1 tp) (.Call (.Name "enumerate" p) [a] [] pos) (zn1 m):=by
 rintro pins s σ H R I ⟨ρ,st,io,W,st',E,S,e,k⟩;obtain⟨⟨x,s1⟩,e1,e⟩:=zac e;obtain⟨⟨as,f⟩,e3,e⟩:=zaf e;cases e;refine Call_ (zfF I hg hm boot_enumerate (Bt (thn (zaa ha zag hs pos pins s σ H (fun vs H'=>∃ ka,Ext io ka H H'/\StR X.K H' (io++ka) st'/\Reps X.K H' (io++ka) vs [x]) I ⟨ρ,st,io,[x],st',E,S,zcO e1 rfl,fun vs H1 k1 X1 S1 R1=>⟨k1,X1,S1,R1⟩⟩) ?_) hs rfl));rintro us t1 ⟨vs,H1,I1,r1,k1,X1,S1,R1⟩;obtain⟨v,rfl,Rx⟩:=R1.one;obtain⟨v',rfl,rv⟩:=r1.one;obtain⟨xx,rfl,⟨xs,hx⟩,kx⟩:=zhx S1 Rx e3;cases rv;obtain⟨its,vx,ix⟩:=Sr.sq_is I1 hx;refine ziK ix fun h' he hi kk=>Fi he ?_;refine⟨_,_,_,_,H1,rfl,I1.kept (t':=t1.toks) kk,zhk xx t1.heap.objs.size (t1.heap.objs.size+1) (Nat.succ_ne_self _),⟨⟨_,he⟩,hi⟩,fun b hb=>?_,?_⟩
 . have hle:t1.heap.objs.size<=b:=by
     rcases List.mem_cons.mp hb with q | hb
     . rw[q];exact Fn _
     . rw[List.mem_singleton.mp hb];exact Af _
   exact I1.fpOk hle (I1.hok.fresh hle)
 . refine k _ H1 k1 X1 S1 ?_;refine⟨fun i d H2 k2 s3 hd X2 S2 hs=>?_,fun H2 k2 s3 X2 S2 hs=>?_,fun H2 k2 s3 i hi X2 S2 hs=>?_⟩
   . obtain⟨xs2,qx,rx⟩:=kx H2 k2 s3 X2 S2 hs;obtain⟨dx,g1,rfl⟩:=zf7 hd;obtain⟨u1,gu,ru⟩:=rx.get g1;refine⟨⟨xs2,u1,qx,gu⟩,fun r H' yl=>?_⟩;obtain⟨q,u2,hq,rfl,rfl,yu⟩:=yl;have e5:=yu xs2 qx;rw[gu] at e5;cases e5;obtain⟨E',S'⟩:=zdU (o:=.tup [.int (i:Nat),u1]) S2 hq;rw[Ai] at S';refine⟨E',S',⟨q,_,rfl,zba,?_⟩⟩;have r2:=ru.ext S2 E';rw[Ai] at r2;exact Reps.cons rfl (Reps.cons r2 Reps.nil)
   . obtain⟨xs2,qx,rx⟩:=kx H2 k2 s3 X2 S2 hs;exact⟨xs2,qx,by show xs2.length<=(pairs as).length;rw[pairs_len,rx.length];exact Af _⟩
   . obtain⟨xs2,qx,rx⟩:=kx H2 k2 s3 X2 S2 hs;have hi:(pairs as).length<=i:=hi;rw[pairs_len] at hi;exact⟨xs2,qx,by rw[rx.length];exact hi⟩
end
section
variable {X:Cx} {K:Ac} {H:Hp} {io:List Addr} {m:ME} {st st':Sto}
@[simp] theorem zoD{ρ:Rho}:zn1 m ρ st=(m ρ st).bind fun p=>zqs p.1 p.2:=rfl
end
section
variable {X:Cx} {K:Ac} {H:Hp} {io:List Addr} {m ma mb mc:ME} {st st':Sto} {a b c:Expr} {pos:Pos}
noncomputable def zbD(g g':G2)(ma mb mc:ME):ME:=fun ρ st=>(ma ρ st).bind fun (x,s1)=>(mb ρ s1).bind fun (y,s2)=>(g x y s2).bind fun (z,s3)=>match z with
 | .bl q=>if q=true then (mc ρ s3).bind fun (w,s4)=>g' y w s4 else some (.bl false,s3)
 | _=>none
theorem zdZ{g g':G2}{σ:L2.St}{H:Hp}{Q:VK}(h:tE K (zbD g g' ma mb mc) σ H Q):zkS (r2M K g) (r2M K g') (tE K ma) (tE K mb) (tE K mc) σ H Q:=by
 obtain⟨ρ,st,io,d,st',E,S,e,k⟩:=h;obtain⟨⟨x,s1⟩,e1,e⟩:=zac e;obtain⟨⟨y,s2⟩,e2,e⟩:=zac e;obtain⟨⟨z,s3⟩,e3,e⟩:=zac e;refine⟨ρ,st,io,x,s1,E,S,e1,fun v1 H1 k1 X1 S1 R1=>?_⟩;refine⟨ρ,s1,io++k1,y,s2,E.ext S X1,S1,e2,fun v2 H2 k2 X2 S2 R2=>?_⟩;refine⟨x,y,s2,(io++k1)++k2,z,s3,R1.ext S1 X2,R2,S2,e3,fun v3 H3 k3 X3 S3 R3=>?_⟩;have k':=((k.on S1 X1).on S2 X2).on S3 X3;dsimp only at e
 split at e
 . rename_i q;refine⟨q,R3,?_⟩
   cases q with
   | true =>
     rw[if_pos rfl] at e ⊢;obtain⟨⟨w,s4⟩,e4,e5⟩:=zac e;refine⟨ρ,s3,((io++k1)++k2)++k3,w,s4,((E.ext S X1).ext S1 X2).ext S2 X3,S3,e4,fun v4 H4 k4 X4 S4 R4=>?_⟩;exact⟨y,w,s4,(((io++k1)++k2)++k3)++k4,d,st',(R2.ext S2 X3).ext S3 X4,R4,S4,e5,k'.on S4 X4⟩
   | false =>
     rw[if_neg AU] at e ⊢;cases e;exact Bh.now k' S3 rfl
 . cases e
theorem zhy{op op':CmpOp}{g g':G2}(ho:OpM X (compareOp op) g)(ho':OpM X (compareOp op') g')(ha:SE X a ma)(hb:SE X b mb)(hc:SE X c mc)(hm:lastMarks [op,op'] [b,c]=false:=by with_unfolding_all rfl) :
   SE X (.Compare a [op,op'] [b,c] pos) (zbD g g' ma mb mc):=PE.imp (zly ho ho' ha hb hc hm) fun _ _ _ h=>zdZ h
theorem zhG{op op':CmpOp}{g g':G2}(ho:OpM X (compareOp op) g)(ho':OpM X (compareOp op') g')(ha:SE X a ma)(hb:SE X b mb)(hc:SE X c mc)(hm:lastMarks [op,op'] [b,c]=false:=by with_unfolding_all rfl) :
   SB X (.Compare a [op,op'] [b,c] pos) (mTst (zbD g g' ma mb mc)):=PT.imp (zln ho ho' ha hb hc hm) fun _ _ _ h=>zdZ (zc6 h)
end
noncomputable abbrev Spr:=Str×Int
noncomputable def encL(xs:List Nat)(i:Int):List Int:=(xs.map fun (c:Nat)=>(c:Int))++[-1,i]
noncomputable def enc(t:Spr):List Int:=encL t.1.cps.toList t.2
theorem zkC(i j:Int):∀ xs ys:List Nat,HT.lexLt (encL xs i) (encL ys j)=if xs=ys then decide (i < j) else decide (xs < ys)
 | [],[]=>by
   show HT.lexLt [-1,i] [-1,j]=_;rw[HT.lexLt_cons,if_pos rfl,HT.lexLt_cons,HT.lexLt_nil_nil,if_pos rfl]
   by_cases h:i=j
   . simp[h]
   . simp[h]
 | [],y::ys=>by
   show HT.lexLt (-1::[i]) ((y:Int)::encL ys j)=_;have h1:¬ (-1:Int)=(y:Int):=by omega
   have h2:(-1:Int) < (y:Int):=by omega
   rw[HT.lexLt_cons,if_neg h1,decide_eq_true h2];simp
 | x::xs,[]=>by
   show HT.lexLt ((x:Int)::encL xs i) (-1::[j])=_;have h1:¬ (x:Int)=(-1:Int):=by omega
   have h2:¬ (x:Int) < (-1:Int):=by omega
   rw[HT.lexLt_cons,if_neg h1,decide_eq_false h2];simp
 | x::xs,y::ys=>by
   show HT.lexLt ((x:Int)::encL xs i) ((y:Int)::encL ys j)=_;rw[HT.lexLt_cons,zkC i j xs ys]
   by_cases h:x=y
   . subst h;rw[if_pos rfl]
     by_cases h2:xs=ys
     . subst h2;simp
     . have:¬ x::xs=x::ys:=fun z=>h2 (CO z).2;rw[if_neg h2,if_neg this]
       congr 1
       simp[List.cons_lt_cons_iff]
   . have h1:¬ (x:Int)=(y:Int):=by omega
     have:¬ x::xs=y::ys:=fun z=>h (CO z).1;rw[if_neg h1,if_neg this]
     by_cases h2:x < y
     . have h3:(x:Int) < (y:Int):=by omega
       have h4:x::xs < y::ys:=List.cons_lt_cons_iff.mpr (.inl h2);rw[decide_eq_true h3,decide_eq_true h4]
     . have h3:¬ (x:Int) < (y:Int):=by omega
       have h4:¬ x::xs < y::ys:=fun z=>by
         rcases List.cons_lt_cons_iff.mp z with q | q
         . exact h2 q
         . exact h q.1
       rw[decide_eq_false h3,decide_eq_false h4]
theorem zom{a b:Spr}(h:enc a=enc b):a=b:=by
 have i1:tle (enc a) (enc b)=true:=by rw[h];unfold tle;rw[zlT];rfl
 obtain⟨x,i⟩:=a;obtain⟨y,j⟩:=b;unfold enc encL at h;have hl:=congrArg Fk h;simp at hl;obtain⟨h1,h2⟩:=List.append_inj h (by simp[hl]);have e1:x.cps.toList=y.cps.toList:=by
   have inj:∀ {l m:List Nat},l.map (fun (c:Nat)=>(c:Int))=m.map (fun (c:Nat)=>(c:Int))->l=m:=by
     intro l
     induction l with
     | nil=>intro m q;cases m with
       | nil=>rfl
       | cons c m=>cases q
     | cons c l ih=>intro m q;cases m with
       | nil=>cases q
       | cons e m =>
         rw[Ao,Ao] at q;obtain⟨q1,q2⟩:=CO q;rw[ih q2,Int.ofNat_inj.mp q1]
   exact inj h1
 have e2:i=j:=by
   obtain⟨_,q⟩:=CO h2;exact (CO q).1
 rw[zjZ e1,e2]
noncomputable def ple(a b:Spr):Bool:=tle (enc a) (enc b)
noncomputable def zhb(ts:List Spr):List Spr:=ts.mergeSort ple
theorem zeA(ts:List Spr):(zhb ts).Perm ts:=Di ts ple
theorem zfY(ts:List Spr):(zhb ts).Pairwise fun a b=>ple a b=true:=B6 (fun a b c=>zb5 (enc a) (enc b) (enc c)) (fun a b=>zc7 (enc a) (enc b)) ts
theorem zhQ{a b:Spr}(h1:ple a b=true)(h2:ple b a=true):a=b:=zom (zfp h1 h2)
theorem zk4{a b:List Spr}(h:a.Perm b)(hs:b.Pairwise fun x y=>ple x y=true):zhb a=b:=zbU (le:=fun a b=>ple a b=true) ((zeA a).trans h) (zfY a) hs fun _ _ _ _=>zhQ
section
variable {prog:Program} {w:World} {A:Around} {E:Value->Shared->Prop} {s:Shared}
theorem zjF{Q:Bool->Shared->Prop}{a b:Str}{i j:Int}{t1 t2 t3 t4:Tok}(h:Q (HT.lexLt (enc (a,i)) (enc (b,j))) s):FO prog w A true false Q [(.str a t1,.str b t2),(.int i t3,.int j t4)] 0 s:=by
 unfold enc at h;rw[zkC] at h;refine SeqAt.EqAt.str_str a t1 b t2 prog w _ _ ?_
 by_cases e:a=b
 . subst e;rw[if_pos rfl] at h;rw[beq_self_eq_true,if_pos rfl];refine Dq i t3 j t4 prog w _ _ ?_
   by_cases e:i=j
   . subst e;rw[beq_self_eq_true,if_pos rfl];rw[decide_eq_false (Int.lt_irrefl _)] at h;exact h
   . have hb:(i==j)=false:=by simpa using e
     rw[hb,if_neg AU];exact FD _ _ (EL h)
 . have hb:(a==b)=false:=by simpa using e
   have hc:¬ a.cps.toList=b.cps.toList:=fun z=>e (zjZ z);rw[if_neg hc] at h;rw[hb,if_neg AU];exact oneLt_str h
end
section
variable {X:Cx} {pins:List (Addr×Obj)} {σ:L2.St} {H:Hp} {s:Shared}
noncomputable def zmL(H:Hp):List V->List Spr->Prop:=Paired fun v t=>∃ a,v=.ref a/\H a=some (.tup [.str t.1,.int t.2])
noncomputable def si0:Spr:=(⟨#[]⟩,0)
theorem zhP:∀ {xs:List V} {ts:List Spr} {i:Nat},zmL H xs ts->i < ts.length->∃ a,xs[i]?=some (.ref a)/\H a=some (.tup [.str (ts.getD i si0).1,.int (ts.getD i si0).2])
 | _,[],i,_,hi=>absurd hi (by simp)
 | _,t::ts,0,.cons r q,_=>by
   obtain⟨a,rfl,ha⟩:=r;exact⟨a,rfl,ha⟩
 | _,t::ts,i+1,.cons r q,hi=>by
   have:=zhP (i:=i) q (by simpa using hi);simpa using this
theorem ziB{ts:List Spr}{i:Nat}(hi:i < ts.length):(ts.map enc).getD i []=enc (ts.getD i si0):=by
 rw[Ap,AD,Ah hi,Ap,Ah hi];rfl
theorem zov{A:Around}{xs:List V}{us:List Value}{ts:List Spr}{s':Shared}(I:Inv X pins σ H s)(hk:∀ b o,H b≠none->s.heap.get? b=some o->s'.heap.get? b=some o)(T:zmL H xs ts)(r:Vals xs us){i j:Nat}(hi:i < ts.length)(hj:j < ts.length)(C:Bool->Shared->Prop)
   (h:C (decide (rank (ts.map enc) i < rank (ts.map enc) j)) s'):C8 X.prog X.w A (Ex true) us i j C s':=by
 rw[zhL (by rw[Ak];exact hi),ziB hi,ziB hj] at h;obtain⟨a,ea,ha⟩:=zhP T hi;obtain⟨b,eb,hb⟩:=zhP T hj;obtain⟨u,eu,ru⟩:=r.get ea;obtain⟨u2,eu2,ru2⟩:=r.get eb;cases ru;cases ru2;obtain⟨ia,va,⟨oa,ga,ca,na,da⟩,_⟩:=I.tuple (SqT.of (K:=X.K) ha);obtain⟨ib,vb,⟨ob,gb,cb,nb,db⟩,_⟩:=I.tuple (SqT.of (K:=X.K) hb);unfold C8;rw[Ap,Ap,eu,eu2];refine FP (hk _ _ (by rw[ha];simp) ga) da (hk _ _ (by rw[hb];simp) gb) db ?_
 cases va with
 | cons r1 t1 =>
   cases t1 with
   | cons r2 t2 =>
     cases t2
     cases vb with
     | cons r3 t3 =>
       cases t3 with
       | cons r4 t4 =>
         cases t4;obtain⟨_,rfl⟩:=r1;obtain⟨_,rfl⟩:=r2;obtain⟨_,rfl⟩:=r3;obtain⟨_,rfl⟩:=r4;exact zjF h
theorem zkr{h':Heap}(I:Inv X pins σ H s)(hk:∀ b o,H b≠none->s.heap.get? b=some o->h'.get? b=some o):∀ {xs:List V} {us:List Value} {ts:List Spr},zmL H xs ts->Vals xs us ->
   ∃ fs:List Value,FE h' us fs/\fs.length=us.length/\∀ v∈fs,∃ i t,v=EN i t
 | _,_,[],.nil,.nil=>⟨[],EI,rfl,fun v hv=>absurd hv (by simp)⟩
 | _,_,t::ts,.cons r q,.cons rv rvs=>by
   obtain⟨a,rfl,ha⟩:=r;cases rv;obtain⟨fs,h1,h2,h3⟩:=zkr I hk q rvs;obtain⟨its,va,⟨o,g,c,n,d⟩,_⟩:=I.tuple (SqT.of (K:=X.K) ha)
   cases va with
   | @cons _ u _ us' ru rus =>
     obtain⟨tk,rfl⟩:=ru;refine⟨.str t.1 tk::fs,Ey (hk _ _ (by rw[ha];simp) g) c d (by simp) h1,by rw[AE,AE,h2],fun v hv=>?_⟩
     rcases List.mem_cons.mp hv with rfl | hv
     . exact⟨t.1,tk,rfl⟩
     . exact h3 v hv
end
theorem zfu{ts:List Spr}{q:Array Nat}(hp:q.Perm (Bv (AN ts.length)))(hu:Srt.Up (rank (ts.map enc)) q ts.length):q.toList.map (fun i=>ts.getD i si0)=zhb ts:=by
 have hl:=Array.perm_iff_toList_perm.mp hp;have hl:q.toList.Perm (AN ts.length):=by simpa using hl
 have e:=zdS (ts:=ts.map enc) (q:=q) (by rw[Ak];exact hp) (by rw[Ak];exact hu);have p1:(q.toList.map fun i=>ts.getD i si0).Perm ts:=by
   have:=hl.map fun i=>ts.getD i si0;rw[zcx] at this;exact this
 refine zbU (le:=fun a b=>ple a b=true) (p1.trans (zeA ts).symm) ?_ (zfY ts) fun a _ b _=>zhQ;have e2:(q.toList.map fun i=>ts.getD i si0).map enc=zj1 (ts.map enc):=by
   rw[<-e,BC];apply Dj;intro i hi;rw[ziB (List.mem_range.mp (hl.mem_iff.mp hi))];rfl
 have e3:((q.toList.map fun i=>ts.getD i si0).map enc).Pairwise fun a b=>tle a b=true:=by
   rw[e2];exact B6 (fun a b c=>zb5 a b c) zc7 _
 rw[List.pairwise_map] at e3;exact e3
noncomputable def siD(t:Spr):D:=.tup [.str t.1,.int t.2]
section
variable {X:Cx} {K:Ac} {H:Hp} {io:List Addr} {st st':Sto}
theorem zeL{xs:List V}{ts:List Spr}(r:Reps K H io xs (ts.map siD)):∀ {q:List Nat},(∀ i∈q,i < ts.length)->Reps K H io (q.map fun i=>xs.getD i .non) ((q.map fun i=>ts.getD i si0).map siD)
 | [],_=>rfl
 | i::q,h=>by
   have hi:=h i Am;have hg:(ts.map siD)[i]?=some (siD (ts.getD i si0)):=by
     rw[AD,Ah hi,Ap,Ah hi];rfl
   obtain⟨v,hv,rv⟩:=r.get hg;refine⟨_,_,rfl,?_,zeL r fun j hj=>h j (Ag _ hj)⟩;show Rep K H io (xs.getD i .non) _;rw[Ap,hv];exact rv
end
theorem zfD:typeLookup (.type "list") "keys"=pure none:=by rw[typeLookup_type,El];kernel_rfl
theorem zb7:entryFor table "dict.update.loop"=some Builtin.«dict.update.loop»:=entryFor_of_fast (by kernel_rfl)
theorem za2:plainId "dict.update.loop"=true:=by decide +kernel
section
variable {prog:Program} {w:World} {A:Around} {E:Value->Shared->Prop} {s:Shared} {a:Addr}
theorem zgi{Q:Option Value->Shared->Prop}{xs:Array Value}{k:Nat}{sl:Array (Option Value)}(hx:s.heap.get? a=some { cls:=.type "list",dict:=none,data:=.seq xs k,slots:=sl })(hA:A.handled=none)
   (h:∀ h' tk,(∀ b u,s.heap.get? b=some u->h'.get? b=some u)->Q none { s with heap:=h',toks:=tk }):wpAny (model prog w) A (getAttr? (.ref a) "keys") Q E s:=by
 obtain⟨hp,g,d,tk,os⟩:=s;have hT:∀ tk',(⟨hp,g,d,tk',os⟩:Shared).TypeIs (.ref a) "list":=fun _=>⟨_,hx,rfl⟩
 have f1:=EX;have f3:=F.slot_list_getattribute.lookup;have f4:=F.slot_list_getattribute.bind (.ref a);have f5:=am_list_getattr_none;unfold getAttr? getAttrBy? getAttrBy
 repeat (any_goals (first | assumption | exact hT _ | ((with_reducible show wpAny _ _ (call (FX "list.__getattribute__") _ _) _ _ _);refine C3 F.slot_list_getattribute (hT _) am_entry_list_getattribute (F.args_list_getattribute_2 _ _) (meets_getattribute_miss_list a xs k sl _ _ zfD (by decide +kernel)) ⟨hx,hA,fun h' tk' e hx'=>?_⟩) | wp_step))
 obtain⟨t',u',he⟩:=hx'.there;show wpAny _ _ (getattributeRaised _ _ _ _ _ _ _) _ _ _;unfold getattributeRaised
 repeat (any_goals (first | assumption | wp_step))
 exact h _ _ hx'.keeps
def zfb(prog:Program)(w:World)(h:Heap)(v:Value)(kv:Key×Value):Prop:=∃ p kx,v=.ref p/\IsTup h p #[kx,kv.2]/\(zay prog w).is kv.1 kx=true
theorem zfb.keep{h h':Heap}{v:Value}{kv:Key×Value}(q:zfb prog w h v kv)(k:∀ b o,v=.ref b->h.get? b=some o->h'.get? b=some o):zfb prog w h' v kv:=by
 obtain⟨p,kx,rfl,⟨o,g,c⟩,i⟩:=q;exact⟨p,kx,rfl,⟨o,k p o rfl g,c⟩,i⟩
theorem zdn{p:Addr}{xs:Array Value}{Q:List Value->Shared->Prop}(ht:IsTup s.heap p xs)(h:Q xs.toList s):wpAny (model prog w) A (Ef (.ref p)) Q E s:=by
 obtain⟨hp,g,d,tk,os⟩:=s;obtain⟨o,g0,c,n,dd⟩:=ht;have hT:(⟨hp,g,d,tk,os⟩:Shared).TypeIs (.ref p) "tuple":=⟨_,g0,c⟩
 unfold Ef seqItems?
 repeat (any_goals (first | assumption | wp_step))
 rw[dd];exact Ae (Ae h)
end
section
variable {prog:Program} {w:World} {A:Around} {E:Value->Shared->Prop} {s:Shared} {a:Addr}
theorem zhq{K:Type}[DecidableEq K](kvs:List (K×Value))(k:K)(v:Value):(stored kvs k v).length<=kvs.length+1:=by
 unfold stored
 split <;> simp
theorem zds{K:Type}[DecidableEq K]:∀ (more kvs:List (K×Value)),(merged kvs more).length<=kvs.length+more.length
 | [],kvs=>by show kvs.length<=kvs.length+0;omega
 | p::r,kvs=>by
   have h1:=zds r (stored kvs p.1 p.2);have h2:=zhq kvs p.1 p.2;show (merged (stored kvs p.1 p.2) r).length<=_;rw[AE];omega
theorem zr8{R:Result->Shared->Prop}{D I l:Addr}{its:List Value}{kvs:List (Key×Value)}{h0:Heap}(hh:A.in1.handled=none)(hl:its.length=kvs.length)(hz:kvs.length<=sizeLine)(hDI:D≠I)(hlD:l≠D)(hlI:l≠I) :
   ∀ (k i:Nat) (s:Shared),kvs.length - i=k->i<=kvs.length->s.heap.IsListIter I l i->s.heap.IsList l its.toArray->s.heap.DictOf (zay prog w) D (merged [] (kvs.take i)) ->
   (∀ (j:Nat) (v:Value) (kv:Key×Value),its[j]?=some v->kvs[j]?=some kv->zfb prog w s.heap v kv/\v≠.ref D/\v≠.ref I)->(∀ b o,b≠D->b≠I->h0.get? b=some o->s.heap.get? b=some o) ->
   (∀ h' tk,h'.DictOf (zay prog w) D (merged [] kvs)->(∀ b o,b≠D->b≠I->h0.get? b=some o->h'.get? b=some o)->R (.ok (.ret .none)) { s with heap:=h',toks:=tk }) ->
   codeAny (model prog w) A (.builtin "dict.update.loop" ⟨[.ref D,.ref I,rawInt i,.none],[]⟩) R s:=by
 intro k
 induction k with
 | zero =>
   intro i s hk hi hit hlist hd hp h0k hR;have hin:i=kvs.length:=by omega
   subst hin;refine Da zb7 ?_;rw[Cn za2 _];show wpAny _ A.in1 (pyNext (.ref I) >>= _) _ _ s;refine Aa (CQ hh hit hlist (by simp[hl]) fun h' hx=>?_);show wpAny _ A.in1 (DQ D [] >>= fun _=>ret .none) _ _ _;refine Aa (Ae (Ae ?_));rw[DR] at hd;refine hR h' s.toks ?_ fun b o h1 h2 e=>hx b o h2 (h0k b o h1 h2 e);obtain⟨o,es,ep,ho,r⟩:=hd;exact⟨o,es,ep,hx D o hDI ho,r⟩
 | succ k ih =>
   intro i s hk hi hit hlist hd hp h0k hR;have hlt:i < kvs.length:=by omega
   have hlt':i < its.length:=by omega
   refine Da zb7 ?_;rw[Cn za2 _];show wpAny _ A.in1 (pyNext (.ref I) >>= _) _ _ s;have hv:its[i]?=some its[i]:=Ah hlt';have hkv:kvs[i]?=some kvs[i]:=Ah hlt;refine Aa (CL (x:=its[i]) hit hlist (by simp[hlt']) fun h' hit' hx=>?_);obtain⟨pa,nD,nI⟩:=hp i _ _ hv hkv;have pa':zfb prog w h' its[i] kvs[i]:=pa.keep fun b o e g=>hx.extBut b o (fun z=>nI (by rw[e,z])) g;obtain⟨p,kx,ep,tp,ik⟩:=pa';have hd':h'.DictOf (zay prog w) D (merged [] (kvs.take i)):=by
     obtain⟨o,es,ep,ho,r⟩:=hd;exact⟨o,es,ep,hx.extBut D o hDI ho,r⟩
   have hlen:(merged [] (kvs.take i)).length<=sizeLine:=by
     have:=zds (kvs.take i) [];rw[BG,Bg] at this;omega
   rw[ep];refine Aa (Bf (Aa (wpAny_tryCatch (zdn (s:={ s with heap:=h' }) tp ?_))));refine Bf (EK (s:={ s with heap:=h' }) ik hd' (fun h2 hd2 hs2=>?_) hlen);have hI2:∀ b o,b≠D->h'.get? b=some o->h2.get? b=some o:=fun b o hb e=>hs2.extBut b o hb e;have e1:stored (merged [] (kvs.take i)) kvs[i].1 kvs[i].2=merged [] (kvs.take (i+1)):=(merged_take_succ [] kvs i _ hkv).symm;refine Ae ⟨CP za2 _,?_⟩;refine ih (i+1) { s with heap:=h2,toks:=s.toks+1 } (by omega) (by omega) ?_ ?_ (by rw[<-e1];exact hd2) (fun j v kv h1 h2'=>?_) (fun b o b1 b2 e=>hI2 b o b1 (hx.extBut b o b2 (h0k b o b1 b2 e))) fun h3 tk3 d3 k3=>hR h3 tk3 d3 k3
   . exact EW hit' fun u e=>hI2 I u (Bx hDI) e
   . exact Ej (Ej hlist fun u e=>hx.extBut l u hlI e) fun u e=>hI2 l u hlD e
   . obtain⟨q,q1,q2⟩:=hp j v kv h1 h2';exact⟨(q.keep fun b o e g=>hx.extBut b o (fun z=>q2 (by rw[e,z])) g).keep fun b o e g=>hI2 b o (fun z=>q1 (by rw[e,z])) g,q1,q2⟩
theorem zfa{l:Addr}{its:List Value}{kvs:List (Key×Value)}{Q:Value->Shared->Prop}(hh:A.handled=none)(hpl:PlainL s.heap l its.toArray)(hl:its.length=kvs.length)(hz:kvs.length<=sizeLine)
   (hp:∀ (j:Nat) (v:Value) (kv:Key×Value),its[j]?=some v->kvs[j]?=some kv->zfb prog w s.heap v kv)
   (h:∀ h' tk,h'.DictOf (zay prog w) s.heap.objs.size (merged [] kvs)->(∀ b o,s.heap.get? b=some o->h'.get? b=some o)->Q (.ref s.heap.objs.size) { s with heap:=h',toks:=tk }) :
   wpAny (model prog w) A (call (.type "dict") [.ref l]) Q E s:=by
 refine callType_codes (Q₁:=fun obj s₁=>obj=.ref s.heap.objs.size/\s₁={ s with heap:=s.heap.push { cls:=.type "dict",data:=.dict #[] } }) F.kt_called_dict (F.kt_typeCall_dict_1 _) F.entry_dict_init (kt_code_dict_new _ ⟨rfl,rfl⟩) ?_;rintro obj s₁ ⟨rfl,rfl⟩;have hnew:(s.heap.push { cls:=.type "dict",data:=.dict #[] }).DictOf (zay prog w) s.heap.objs.size []:=D1 s.heap;have k1:∀ b o,s.heap.get? b=some o->(s.heap.push { cls:=.type "dict",data:=.dict #[] }).get? b=some o:=fun b o e=>Ad _ e;have hpl1:=hpl.keeps k1;obtain⟨⟨cl,di,da,sl⟩,n,g1,c1,c2,c3⟩:=id hpl1;simp only at c1 c2 c3;subst c1 c2 c3;have hlt:∀ b o,s.heap.get? b=some o->b < s.heap.objs.size:=fun b o e=>Al e;have hll:l < s.heap.objs.size:=by obtain⟨o,_,g,_⟩:=hpl;exact hlt l o g
 refine⟨hnew.typeIs,F.args_dict_init_2 _ _,?_⟩;unfold Builtin.«dict.__init__»;refine Aa ?_;unfold DS;refine Aa (Cj hnew.typeIs ?_);show wpAny _ _ (pure (s.heap.objs.size,[AM l])) _ _ _;refine Ae ?_;show wpAny _ _ (B7 "dict.__init__" s.heap.objs.size (.ref l) [] .none) _ _ _;unfold B7;refine Aa (Cw (show Shared.TypeIs { s with heap:=s.heap.push { cls:=.type "dict",data:=.dict #[] } } (.ref l) "list" from ⟨_,g1,rfl⟩) ?_);rw[if_pos (by decide)];refine Aa (zgi g1 hh fun h2 tk2 k2=>?_);have hpl2:=hpl1.keeps k2;have hd2:h2.DictOf (zay prog w) s.heap.objs.size []:=by
   obtain⟨o,es,ep,ho,r⟩:=hnew;exact⟨o,es,ep,k2 _ o ho,r⟩
 have hsz:s.heap.objs.size < h2.objs.size:=by
   obtain⟨o,es,ep,ho,r⟩:=hd2;exact Al ho
 simp only[Dr,if_true];refine Aa (CD ?_);refine Aa (Sr.iter (x:=.l l) (s:={ s with heap:=h2,toks:=tk2 }) (xs:=its.toArray) hpl2.isList ?_);have k3:∀ b o,h2.get? b=some o->(h2.push (Sr.ob (.l l))).get? b=some o:=fun b o e=>Ad _ e;refine Ae ⟨CP za2 _,?_⟩;have n1:s.heap.objs.size≠h2.objs.size:=Aw hsz;have n2:l≠s.heap.objs.size:=Aw hll;have n3:l≠h2.objs.size:=Aw (BX hll hsz);show codeAny (model prog w) A.in1 (.builtin "dict.update.loop" ⟨[.ref s.heap.objs.size,.ref h2.objs.size,rawInt (0:Nat),.none],[]⟩) _ { s with heap:=h2.push (Sr.ob (.l l)),toks:=tk2 };refine zr8 (A:=A.in1) (h0:=s.heap) (l:=l) (its:=its) (kvs:=kvs) (D:=s.heap.objs.size) (I:=h2.objs.size) hh hl hz n1 n2 n3 kvs.length 0 { s with heap:=h2.push (Sr.ob (.l l)),toks:=tk2 } rfl (Bc _) ?_ (hpl2.keeps k3).isList ?_ (fun j v kv e1 e2=>?_) (fun b o _ _ e=>k3 b o (k2 b o (k1 b o e))) (fun h' tk d' k'=>?_)
 . exact Sr.at_new (x:=.l l) (Aq _ rfl)
 . obtain⟨o,es,ep,ho,r⟩:=hd2;exact⟨o,es,ep,k3 _ o ho,r⟩
 . have q:=hp j v kv e1 e2;have nn:∀ b,v=.ref b->b < s.heap.objs.size:=fun b e=>by
     obtain⟨p,kx,rfl,⟨o,g,_⟩,_⟩:=q;cases e;exact hlt _ o g
   refine⟨q.keep fun b o _ g=>k3 b o (k2 b o (k1 b o g)),fun e=>?_,fun e=>?_⟩
   . exact absurd (nn _ e) (AX _)
   . exact absurd (nn _ e) (Nat.not_lt_of_lt hsz)
 . exact⟨rfl,h h' tk d' fun b o e=>k' b o (Aw (hlt b o e)) (Aw (BX (hlt b o e) hsz)) e⟩
end
noncomputable def prOf:D->Option (Key×D)
 | .tup [k,v]=>(keyOf k).map fun q=>(q,v)
 | _=>none
noncomputable def zmG:List D->Option (List (Key×D))
 | []=>some []
 | d::r=>(prOf d).bind fun t=>(zmG r).map fun ts=>t::ts
noncomputable def zeX(kvs more:List (Key×D)):List (Key×D):=more.foldl (fun acc kv=>putD acc kv.1 kv.2) kvs
section
variable {X:Cx} {K:Ac} {H:Hp} {io:List Addr} {st st':Sto} {pins:List (Addr×Obj)} {σ:L2.St} {s:Shared}
theorem zid:∀ {more:List (Key×V)} {mds:List (Key×D)} {kvs:List (Key×V)} {kds:List (Key×D)},KR Key K H io more mds->KR Key K H io kvs kds->KR Key K H io (zca kvs more) (zeX kds mds):=by
 intro more mds kvs kds r;unfold KR at r
 induction r generalizing kvs kds with
 | nil=>intro q;exact q
 | @cons p q ps qs h t ih =>
   intro r0;have e:KR Key K H io (putK kvs p.1 p.2) (putD kds q.1 q.2):=by
     rw[<-h.1];exact KR.put r0 p.1 h.2
   exact ih e
theorem zlq(I:Inv X pins σ H s):∀ {ys:List V} {ds:List D} {kds:List (Key×D)} {its:List Value},Reps X.K H io ys ds->zmG ds=some kds->Vals ys its ->
   ∃ (kvV:List (Key×V)) (kvs:List (Key×Value)),KR Key X.K H io kvV kds/\KV kvV kvs/\its.length=kvs.length/\kvs.length=kds.length/\∀ (j:Nat) (v:Value) (kv:Key×Value),its[j]?=some v->kvs[j]?=some kv->zfb X.prog X.w s.heap v kv
 | _,[],kds,_,h,e,r=>by
   cases e
   cases (show _=[] from h)
   cases r;exact⟨[],[],.nil,.nil,rfl,rfl,fun j v kv h=>by simp at h⟩
 | _,d::ds,kds,_,h,e,r=>by
   obtain⟨y,ys,rfl,h1,h2⟩:=h;obtain⟨t,e1,e⟩:=zac e;obtain⟨ts,e2,e⟩:=zaf e;subst e
   cases r with
   | @cons _ u _ us ru rus =>
     obtain⟨kvV,kvs,a1,a2,a3,a4,a5⟩:=zlq I h2 e2 rus;unfold prOf at e1
     split at e1
     . rename_i k v;obtain⟨q,eq1,e1⟩:=zaf e1;subst e1;obtain⟨p,vs,rfl,hp,rs⟩:=h1;obtain⟨v1,w1,rfl,q1,rs⟩:=rs;obtain⟨v2,w2,rfl,q2,rs⟩:=rs
       cases (show w2=[] from rs)
       have ek:=zda q1 eq1;subst ek;cases ru;obtain⟨ia,va,ht,_⟩:=I.tuple (SqT.of (K:=X.K) hp)
       cases va with
       | cons r1 t1 =>
         cases t1 with
         | cons r2 t2 =>
           cases t2;rename_i u1 u2;refine⟨(q,v2)::kvV,(q,u2)::kvs,.cons ⟨rfl,q2⟩ a1,.cons ⟨rfl,r2⟩ a2,by rw[AE,AE,a3],by rw[AE,AE,a4],fun j v kv e1 e2=>?_⟩
           cases j with
           | zero =>
             cases e1;cases e2;exact⟨p,u1,rfl,ht,zks r1⟩
           | succ j=>exact a5 j v kv e1 e2
     . cases e1
noncomputable def zoP:GN
 | [.ref n],st=>(zbj st n).bind fun ds=>(zmG ds).bind fun kds=>if fits kds.length=true then some (.ref st.length,st++[.dk (zeX [] kds)]) else none
 | _,_=>none
theorem ziL(hc:X.calm=true):zeu X (.type "dict") zoP:=by
 rintro pins s σ H xs us Q I r ⟨ds,st,io,d,st',R,S,e,k⟩;unfold zoP at e
 split at e
 . rename_i n;obtain⟨zs,e0,e⟩:=zac e;obtain⟨kds,e1,e⟩:=zac e;obtain⟨hf,e⟩:=zap e;cases e;obtain⟨v,rfl,p,rfl,hp⟩:=R.one;obtain⟨u,rfl,ru⟩:=r.one;cases ru;obtain⟨ys,hx,r1⟩:=zbn S hp e0;obtain⟨its,rv,pl,hz⟩:=I.list hx;obtain⟨kvV,kvs,a1,a2,a3,a4,a5⟩:=zlq I r1 e1 rv;have hzk:kvs.length<=sizeLine:=by
     rw[a4];exact of_decide_eq_true hf
   refine zfa (I.ok.hd hc) pl a3 hzk a5 fun h' tk d' kk=>?_;have hlV:kvV.length=kvs.length:=Bp a2;have hm:(zca [] kvV).length<=sizeLine:=by
     have:=zbE kvV [];rw[Bg] at this;omega
   have hd:(s.heap.objs.size==sysModules)=false:=beq_eq_false_iff_ne.mpr (Bx (Aw I.big));refine⟨.ref s.heap.objs.size,_,I.laid (a:=s.heap.objs.size) (o:=.dK (zca [] kvV)) (t':=tk) kk (Af _) (zjM hm hd (a2.merge .nil) d'),rfl,?_⟩;obtain⟨E',S'⟩:=zgY (o:=.dK (zca [] kvV)) (ob:=.dk (zeX [] kds)) S (I.hok.fresh (Af _)) fun H' T e=>⟨_,e,zid (KR.mono T a1) .nil⟩
   exact k _ _ [s.heap.objs.size] E' S' ⟨s.heap.objs.size,rfl,by rw[<-S.len];exact getElem?_len io _⟩
 . cases e
end
noncomputable def Itw(n:Nat)(f:Nat->Option V):It:=⟨fun i _=>i < n,fun i H v H'=>H'=H/\f i=some v,fun i _=>n<=i⟩
noncomputable def zil:List String:=["enumerate","zip","dict_itemiterator","dict_reverseitemiterator","odict_iterator","itertools.zip_longest","itertools.pairwise"]
theorem zhh{P:Program}{w:World}{K:Ac}{tg:Expr}(it:Addr)(n:Nat)(f:Nat->Option V){R:Nat->Value->Prop}{T:Nat->Heap->Prop}(W:∀ A:Around,A.handled=none->Walks P w A it [it] [it] n R T)
   (hr:∀ i v,R i v->∃ x,f i=some x/\RelV x v) (hob:∀ i h,T i h->∃ o nm vs,h.get? it=some o/\o.cls=.type nm/\o.data=.fields vs/\zil.contains nm=false)
   (hself:∀ (A:Around) (i:Nat) (s:Shared) (Q:Value->Shared->Prop) (E:Value->Shared->Prop),T i s.heap->Q (.ref it) s->wpAny (model P w) A (pyIter (.ref it)) Q E s) :
   Turn P w K tg (Itw n f) [it] it (fun i h=>i<=n/\T i h) where
 mem:=by simp
 obj:=fun i h st b hb=>by
   have e:b=it:=by simpa using hb
   subst e;obtain⟨o,nm,vs,e,c,d,_⟩:=hob i h st.2;exact⟨o,e,fun v z=>by rw[d] at z;cases z⟩
 keep:=fun i h h' st k=>⟨st.1,(W {} rfl).frame i h h' st.2 k⟩
 item:=by
   intro X hP hw hK hc i pins s σ H E I hf st hg;subst hP hw hK;obtain⟨f0,f1,f2,f3,f4,f5⟩:=hf it (by simp);refine (W X.A (I.ok.hd hc)).item i s _ _ hg st.2 fun v h' tk hv st' kk=>?_;obtain⟨x,hx,rx⟩:=hr i v hv;have I1:Inv X pins σ H { s with heap:=h',toks:=tk }:=I.turned (fun b o hb e=>kk b o (by simpa using hb) e) f0 f1 f3 f4 f5;obtain⟨o,nm,vs,e,c,d,hn⟩:=hob (i+1) h' st';exact⟨_,rfl,zoh (s:={ s with heap:=h',toks:=tk }) e c d hn ⟨x,H,I1,rx,⟨rfl,hx⟩,⟨hg,st'⟩,fun b hb=>(hf b hb).1⟩⟩
 done:=by
   intro X hP hw hK hc i pins s σ H E I hf st hg;subst hP hw hK;obtain⟨f0,f1,f2,f3,f4,f5⟩:=hf it (by simp);have e:i=n:=Nat.le_antisymm st.1 hg;subst e;exact (W X.A (I.ok.hd hc)).done s _ _ st.2 fun h' tk kk=>⟨rfl,I.turned (fun b o hb e=>kk b o (by simpa using hb) e) f0 f1 f3 f4 f5⟩
 self:=fun A i s Q E st h=>hself A i s Q E st.2 h
theorem zqj{K:Ac}{H:Hp}{io:List Addr}{ds:List D}{n:Nat}{f:Nat->Option V}(hn:n=ds.length)(hf:∀ i d,ds[i]?=some d->∃ v,f i=some v/\∀ H io,Rep K H io v d):ItOk K H io ⟨ds,[]⟩ (Itw n f) where
 go:=fun i d H1 k1 s hd X1 S1 hs=>by
   have hi:i < ds.length:=(List.getElem?_eq_some_iff.mp hd).1;refine⟨by show i < n;omega,fun x H' y=>?_⟩;obtain⟨rfl,y⟩:=y;obtain⟨v,hv,rv⟩:=hf i d hd;rw[hv] at y;cases y;exact⟨Ext.refl,S1,rv _ _⟩
 stop:=fun H1 k1 s X1 S1 hs=>by show n<=ds.length;omega
 stop':=fun H1 k1 s i hi X1 S1 hs=>by
   show n<=i;have hi:ds.length<=i:=hi;omega
section
variable {X:Cx} {K:Ac} {H:Hp} {io:List Addr} {st st':Sto} {a b c e:Expr} {es:List Expr} {ma mb mc m:ME} {mm:MA} {mt:MT} {ms:MS} {pos:Pos} {tg:Expr} {body:List Stmt}
noncomputable def signs(z:Str):List D:=z.cps.toList.map fun c=>D.str ⟨#[c]⟩
noncomputable def zmF(z:Str)(i:Nat):Option V:=z.cps[i]?.map fun c=>V.str ⟨#[c]⟩
theorem ziY{P:Program}{w:World}{A:Around}(hh:A.handled=none)(I:Addr)(x:Str)(t:Tok):Walks P w A I [I] [I] x.cps.size (SignAt x) (fun i h=>h.IsStrIter I (strIterType x) x t i):=by
 unfold strIterType
 cases x.cps.all (· < 128)
 . exact Walks.strWide hh I x t
 . exact Walks.strAscii hh I x t
theorem zkP{P:Program}{w:World}{K:Ac}{tg:Expr}(it:Addr)(x:Str)(t:Tok):Turn P w K tg (Itw x.cps.size (zmF x)) [it] it (fun i h=>i<=x.cps.size/\h.IsStrIter it (strIterType x) x t i) :=
 zhh it x.cps.size (zmF x) (fun A hA=>ziY hA it x t) (fun i v ⟨c,u,hc,hv⟩=>⟨.str ⟨#[c]⟩,by unfold zmF;rw[hc];rfl,u,hv⟩)
   (fun i h ⟨o,e,c,d⟩=>⟨o,_,_,e,c,d,by unfold strIterType;split <;> decide⟩) fun A i s Q E st h=>by
     unfold strIterType at st
     split at st
     . exact wpAny_pyIter_striter_ascii st h
     . exact wpAny_pyIter_striter_wide st h
noncomputable def iStr(tl:TE):TI:=fun σ H R=>tl σ H fun x H1=>∃ z,x=.str z/\R (Itw z.cps.size (zmF z)) H1
theorem zpu{l:Expr}{tl:TE}(hl:PE X l tl):PI X tg l (iStr tl):=by
 intro pins s σ H R I h;refine thn (hl pins s σ H _ I h) ?_;rintro v s1 ⟨x,H1,I1,r1,q1⟩;obtain⟨z,e,q⟩:=q1;subst e;obtain⟨t,rfl⟩:=r1;refine wpAny_pyIter_strU ?_;refine⟨s1.heap.objs.size,[s1.heap.objs.size],_,_,H1,rfl,I1.kept (t':=s1.toks) fun b o e=>Ad _ e,zkP _ z t,⟨Bc _,_,Aq _ rfl,rfl,rfl⟩,fun b hb=>?_,q⟩;have e:b=s1.heap.objs.size:=by simpa using hb
 subst e;exact I1.fpOk (Af _) (I1.hok.fresh (Af _))
theorem signs_get{z:Str}{i:Nat}{d:D}(h:(signs z)[i]?=some d):∃ v,zmF z i=some v/\∀ H io,Rep K H io v d:=by
 unfold signs at h;rw[AD] at h;obtain⟨c,hc,e⟩:=zaf h;subst e;refine⟨.str ⟨#[c]⟩,?_,fun H io=>rfl⟩;unfold zmF;rw[BQ] at hc;rw[hc];rfl
theorem zi5(z:Str):z.cps.size=(signs z).length:=by unfold signs;rw[Ak,Bu]
noncomputable def mWS(m:ME):MI:=fun ρ st=>(m ρ st).bind fun (d,s)=>match d with
 | .str z=>some (⟨signs z,[]⟩,s)
 | _=>none
theorem zo8{l:Expr}(hl:SE X l m):SI X tg l (mWS m):=PI.imp (zpu hl) <| by
 rintro σ H R ⟨ρ,st,io,W,st',E,S,e,k⟩;obtain⟨⟨d,s1⟩,e1,e⟩:=zac e;dsimp only at e
 split at e
 . rename_i z;cases e;refine⟨ρ,st,io,_,_,E,S,e1,fun v H1 k1 X1 S1 R1=>?_⟩;exact⟨z,R1,k _ H1 k1 X1 S1 (zqj (zi5 z) fun i d h=>signs_get h)⟩
 . cases e
noncomputable def mWA(m:ME):MI:=fun ρ st=>(m ρ st).bind fun (d,s)=>orO (zjX d s) (match d with | .str z=>some (⟨signs z,[]⟩,s) | _=>none)
theorem zbm{l:Expr}(hl:SE X l m):SI X tg l (mWA m):=by
 rintro pins s σ H R I ⟨ρ,st,io,W,st',E,S,e0,k⟩;obtain⟨⟨d,s1⟩,e1,e0⟩:=zac e0
 rcases zbz e0 with e0 | e0
 . exact zm4 hl pins s σ H R I ⟨ρ,st,io,W,st',E,S,by unfold mW;rw[e1];exact e0,k⟩
 . exact zo8 hl pins s σ H R I ⟨ρ,st,io,W,st',E,S,by unfold mWS;rw[e1];exact e0,k⟩
end
section
variable {X:Cx} {K:Ac} {H:Hp} {io:List Addr} {st st':Sto} {a b c e:Expr} {es:List Expr} {ma mb mc m:ME} {mm:MA} {mt:MT} {ms:MS} {pos:Pos} {tg:Expr} {body:List Stmt}
noncomputable def mWhF(c:MT)(m:MS):Nat->MS
 | 0=>fun _ _=>none
 | n+1=>fun ρ st=>(c ρ st).bind fun (b,s)=>if b=true then (m ρ s).bind fun (f,s2)=>match f with
     | .nx ρ2=>mWhF c m n ρ2 s2
     | .ct ρ2=>mWhF c m n ρ2 s2
     | .bk ρ2=>some (.nx ρ2,s2)
     | .rt d=>some (.rt d,s2)
   else some (.nx ρ,s)
theorem zkX{n:Nat}{c:Expr}(hp:PassesOwn (model X.prog X.w) X.A X.env X.xe)(hc:SB X c mt)(hb:SSs X body ms):SS X (.While c body [] pos) (mWhF mt ms n):=PS.imp (zlp hp hc hb) fun N σ H h=>by
 obtain⟨ρ,st,io,f,st',E,S,e,w⟩:=zcs.mp h;refine⟨fun k σ2 H2=>∃ ρ2 s2 k2,Ext io k2 H H2/\StR X.K H2 (io++k2) s2/\EnvR X.K H2 (io++k2) σ2 ρ2/\mWhF mt ms k ρ2 s2=some (f,st'),⟨n,ρ,st,[],Ext.refl,S.nil,by rw[Ai];exact E,e⟩,?_⟩;rintro k σ2 H2 ⟨ρ2,s2,k2,X2,S2,E2,e2⟩;have w2:Wn X.K (io++k2) H2 st' N f:=w.on X2 S2
 cases k with
 | zero=>cases e2
 | succ k =>
   obtain⟨⟨b,s3⟩,e3,e2⟩:=zac e2;refine⟨ρ2,s2,io++k2,b,s3,E2,S2,e3,fun H3 k3 X3 S3=>?_⟩;have X23:=X2.trans S2 X3;have S3':StR X.K H3 (io++(k2++k3)) s3:=by rw[<-An];exact S3
   dsimp only
   cases b with
   | false =>
     rw[if_neg (by decide)];have e2:some (Fl.nx ρ2,s3)=some (f,st'):=e2;cases e2;exact w2 σ2 H3 k3 X3 S3 (E2.ext S2 X3)
   | true =>
     rw[if_pos rfl];obtain⟨⟨f4,s4⟩,e4,e2⟩:=zac (show (ms ρ2 s3).bind _=some (f,st') from e2);refine⟨fun σ5 H5=>∃ ρ5 s5 k5,Ext io k5 H H5/\StR X.K H5 (io++k5) s5/\EnvR X.K H5 (io++k5) σ5 ρ5/\mWhF mt ms k ρ5 s5=some (f,st'),fun σ5 H5 h5=>⟨k,Fp k,h5⟩,?_⟩;refine zkQ (E2.ext S2 X3) S3 e4 ?_;have fin:∀ {ρ7:Rho},mWhF mt ms k ρ7 s4=some (f,st')->∀ σ7 H7 k7,Ext (io++k2++k3) k7 H3 H7->StR X.K H7 (io++k2++k3++k7) s4->EnvR X.K H7 (io++k2++k3++k7) σ7 ρ7 ->
         ∃ ρ5 s5 k5,Ext io k5 H H7/\StR X.K H7 (io++k5) s5/\EnvR X.K H7 (io++k5) σ7 ρ5/\mWhF mt ms k ρ5 s5=some (f,st'):=by
       intro ρ7 e7 σ7 H7 k7 X7 S7 E7;rw[An io] at X7;rw[An io,An io] at S7 E7;exact⟨ρ7,s4,(k2++k3)++k7,X23.trans S3' X7,S7,E7,e7⟩
     cases f4 with
     | nx ρ7=>exact fin e2
     | ct ρ7=>exact fin e2
     | bk ρ7 =>
       cases e2;exact w2.on X3 S3
     | rt dd =>
       cases e2;exact w2.on X3 S3
theorem Reps.erase:∀ {xs:List V} {ds:List D} (k:Nat),Reps K H io xs ds->Reps K H io (xs.eraseIdx k) (ds.eraseIdx k)
 | _,[],k,h=>by rw[show _=[] from h];simp[Reps]
 | _,d::ds,0,h=>by
   obtain⟨y,ys,rfl,_,rs⟩:=h;exact rs
 | _,d::ds,k+1,h=>by
   obtain⟨y,ys,rfl,r,rs⟩:=h;exact⟨y,_,rfl,r,Reps.erase k rs⟩
noncomputable def popD:D->List D->Sto->Option (D×Sto):=fun x xs st=>match x,xs with
 | .ref n,[.int i]=>match st[n]? with
   | some (.lst ds)=>if small i=true then (seqIndex? i ds.length).bind fun k=>(ds[k]?).map fun d=>(d,st.set n (.lst (ds.eraseIdx k))) else none
   | _=>none
 | _,_=>none
theorem znZ:MtR X "list.pop" (mtM X.K popD):=by
 rintro pins s σ H x xs v us Q I rx rs ⟨dx,ds,st,io,d,st',Rx,Rs,S,e,k⟩;unfold popD at e
 split at e
 . rename_i n i
   split at e
   . rename_i l e1;obtain⟨hi,e⟩:=zap e;obtain⟨q,e2,e⟩:=zac e;obtain⟨dd,e3,e⟩:=zaf e;cases e;obtain⟨p,rfl,hp⟩:=Rx;obtain⟨w,rfl,Rw⟩:=Rs.one
     cases (show w=.int i from Rw)
     obtain⟨ys,hH,r⟩:=S.ob n p _ hp e1;obtain⟨y,hy,ry⟩:=r.get e3;have hsm:=zck hi;refine zlM pins s σ H _ _ v us Q I rx rs ⟨p,ys,i,q,y,rfl,rfl,hH,by omega,by omega,by rw[r.length];exact e2,hy,?_⟩;obtain⟨E',S'⟩:=zdH (o:=.lst (ys.eraseIdx q)) (ob:=.lst (l.eraseIdx q)) S hp e1 (fun o u z=>by rw[hH] at z;cases z) fun H' T e'=>⟨_,e',(Reps.mono T r).erase q⟩
     exact k _ _ [] E' S' (ry.ext S E')
   . cases e
 . cases e
noncomputable def mPop(m:ME)(mm:MA):ME:=fun ρ st=>(m ρ st).bind fun (x,s1)=>match x with
 | .ref n=>(zbj s1 n).bind fun _=>(mm ρ s1).bind fun (xs,s2)=>popD x xs s2
 | _=>none
theorem zpa{o:Expr}{apos cpos:Pos}(ho:SE X o m)(ha:SA X (e::es) mm)
   (hbase:attributeBase o "pop" X.env (eval o X.env)=eval o X.env:=by rfl)
   (hfew:((backTo cpos (starEach (e::es) X.env)).all (fun x=>!x.1)&&(backToKw cpos (keywordEach [] X.env)).all (fun x=>x.1.isSome)
    &&decide ((e::es).length+([]:List Keyword).length+(if ([]:List Keyword).isEmpty then 0 else 1) < 30))=true:=by rfl)
   (hline:(apos.endLine==cpos.line)=true:=by rfl) (hs:starEach (e::es) X.env=(false,eval e X.env)::starEach es X.env:=by rfl) (hplain:(backTo cpos (starEach es X.env)).any (·.1)=false:=by rfl) :
   SE X (.Call (.Attribute o "pop" apos) (e::es) [] cpos) (mPop m mm) :=
 PE.imp (zpG B4 Em En znZ ho ha hbase hfew hline hs hplain) <| by
   rintro σ H Q ⟨ρ,st,io,d,st',E,S,e,k⟩;obtain⟨⟨x,s1⟩,e1,e⟩:=zac e
   cases x with
   | ref n =>
     obtain⟨l,e0,e⟩:=zac e;obtain⟨⟨xs,s2⟩,e2,e⟩:=zac e;refine⟨ρ,st,io,_,s1,E,S,e1,fun v1 H1 k1 X1 S1 R1=>⟨zd5 R1 S1 e0,ρ,s1,io++k1,xs,s2,E.ext S X1,S1,e2,fun vs H2 k2 X2 S2 R2=>?_⟩⟩;exact⟨_,xs,s2,(io++k1)++k2,d,st',R1.ext S1 X2,R2,S2,e,(k.on S1 X1).on S2 X2⟩
   | _=>cases e
noncomputable def slK:D->Option Int->Option Int->Sto->Option (D×Sto):=fun x lo hi st=>match x with
 | .kl ds=>some (.ref st.length,st++[.lst (cutD ds lo hi)])
 | _=>none
noncomputable def slB:D->Option Int->Option Int->Sto->Option (D×Sto):=fun x lo hi st=>orO (slA x lo hi st) (slK x lo hi st)
noncomputable def mSlB(m:ME)(l h:MO):ME:=fun ρ st=>(m ρ st).bind fun (x,s1)=>(l ρ s1).bind fun (lo,s2)=>(h ρ s2).bind fun (hi,s3)=>slB x lo hi s3
theorem zcu{lo hi:Option Expr}{ml mh:MO}{p2:Pos}(he:SE X e m)(hl:SO X lo ml)(hu:SO X hi mh):SE X (.Subscript e (.Slice lo hi none p2) pos) (mSlB m ml mh):=by
 rintro pins s σ H Q I ⟨ρ,st,io,d,st',E,S,e0,k⟩;obtain⟨⟨x,s1⟩,e1,e0⟩:=zac e0;obtain⟨⟨lo',s2⟩,e2,e0⟩:=zac e0;obtain⟨⟨hi',s3⟩,e3,e0⟩:=zac e0
 rcases zbz e0 with e0 | e0
 . exact zi7 he hl hu pins s σ H Q I ⟨ρ,st,io,d,st',E,S,by simp only[mSlA,e1,e2,e3,Ab];exact e0,k⟩
 . refine zee zj2 he hl hu pins s σ H Q I ?_;refine⟨ρ,st,io,x,s1,E,S,e1,fun v1 H1 k1 X1 S1 R1=>⟨ρ,s1,io++k1,lo',s2,E.ext S X1,S1,e2,fun H2 k2 X2 S2=>⟨ρ,s2,(io++k1)++k2,hi',s3,(E.ext S X1).ext S1 X2,S2,e3,fun H3 k3 X3 S3=>?_⟩⟩⟩;have R3:=(R1.ext S1 X2).ext S2 X3;have k':=((k.on S1 X1).on S2 X2).on S3 X3
   cases x with
   | kl ds =>
     cases e0;obtain⟨p,xs,rfl,hx,r⟩:=R3;exact⟨p,xs,rfl,hx.sq,fun q hq=>k'.lst S3 (ziE r _ _) hq⟩
   | _=>cases e0
noncomputable def zkj:G2
 | .str i,.str j,st=>some (.bl (!(!(Be j i 0 j.length 1).isEmpty)),st)
 | _,_,_=>none
theorem zhX:OpM X (compareOp .NotIn) zkj:=by
 rintro pins s σ H x y v u Q I rx ry ⟨dx,dy,st,io,d,st',Rx,Ry,S,e,k⟩
 cases dx with
 | str i =>
   cases dy with
   | str j=>cases e;exact zfz pins s σ H x y v u Q I rx ry ⟨i,j,Rx,Ry,k.now S rfl⟩
   | _=>cases e
 | _=>cases e
noncomputable def zbC:G2:=orG zlK zkj
theorem zeb(hu:X.A.units+100 < cLine)(ha:SE X a ma)(hb:SE X b mb)(hm:behindInMarks .NotIn b=false:=by rfl):SB X (.Compare a [.NotIn] [b] pos) (mTst (mBin zbC ma mb)) :=
 zng (zjc hu ha hb hm) (zbu zhX ha hb hm)
end
end L2.MP
namespace PySem.F
end PySem.F
namespace PySem
open Builtin
end PySem
namespace L2.MP
open PySem PySem.Spec PyProof.Rows
section
variable {ρ ρ1:Rho} {st s1:Sto} {m n o ma mb:ME} {mm:MA} {ms mq:MS} {mt mu:MT} {d:D} {ml mh:MO}
@[simp] theorem zq4:mWA m ρ st=(m ρ st).bind fun p=>orO (zjX p.1 p.2) (match p.1 with | .str z=>some (⟨signs z,[]⟩,p.2) | _=>none):=rfl
theorem zqL:mPop m mm ρ st=(m ρ st).bind fun p=>match p.1 with
 | .ref n=>(zbj p.2 n).bind fun _=>(mm ρ p.2).bind fun q=>popD p.1 q.1 q.2
 | _=>none:=rfl
@[simp] theorem zsc:mSlB m ml mh ρ st=(m ρ st).bind fun p=>(ml ρ p.2).bind fun q=>(mh ρ q.2).bind fun r=>slB p.1 q.1 r.1 r.2:=rfl
end
section
variable {prog:Program} {w:World} {A:Around} {E:Value->Shared->Prop} {s:Shared}
theorem zep{d:Addr}{o:Obj}{es:Array DictEntry}{ep:Nat}{R:Value->Shared->Prop}(ty:s.TypeIs (.ref d) "dict")(hd:(d==sysModules)=false)(g:s.heap.get? d=some o)(dd:o.data=.dict es ep)
   (k:R (.ref s.heap.objs.size) { s with heap:=s.heap.push { cls:=.type "dict_keyiterator",data:=.fields #[.ref d,.int 0 0,.int es.size 0,.int ep 0] } }):wpAny (model prog w) A (pyIter (.ref d)) R E s:=by
 refine wpAny_pyIter_slot ty F.slot_dict_iter (Bb F.slot_dict_iter ty F.entry_dict_iter ?go (F.args_dict_iter_1 _));unfold Builtin.«dict.__iter__»;refine Aa ?_;unfold Builtin.Dict.dictSlotNone;refine Aa (Cj ty ?_);show wpAny _ _ (pure (AM d)) _ _ s;refine Ae ?_;show wpAny _ _ (CU d >>= _) _ _ s;unfold CU;rw[if_neg (by rw[hd];exact AU)];refine Aa (Ae (Aa (CJ g dd (Aa (D5 g dd ?_)))));refine Aa (A7 (Ae ⟨_,rfl,"dict_keyiterator",_,⟨_,Aq _ rfl,rfl⟩,F.slot_dict_keyiterator_next.lookup,?_⟩));simpa[rawInt] using k
theorem zgh{it d:Addr}{i ep:Nat}{o:Obj}{es:Array DictEntry}{en:DictEntry}{R:Option Value->Shared->Prop}(hit:s.heap.IsKeyIter it d i es.size ep)(g:s.heap.get? d=some o)(dd:o.data=.dict es ep)(hx:es[i]?=some en)
   (k:∀ h',h'.IsKeyIter it d (i+1) es.size ep->BW it s.heap h'->R (some en.key) { s with heap:=h' }):wpAny (model prog w) A (pyNext (.ref it)) R E s:=by
 obtain⟨io,ig,ic,idt⟩:=id hit;have own:Dl "dict_keyiterator"=false:=by decide
 unfold pyNext;refine Aa (Dw (A6 (name:=BB "__next__") hit.typeIs F.slot_dict_keyiterator_next (Bb F.slot_dict_keyiterator_next hit.typeIs F.entry_dict_keyiterator_next ?_ (F.args_dict_keyiterator_next_1 _))));refine Aa (Ae (Aa (Aa ?_)));refine Aa (BF hit.typeIs (Ae (Aa (wpAny_fieldsOf ig idt ?_))));simp only[own,Bi,if_false];show wpAny _ _ (if (AM d==Bn)=true then _ else _) _ _ s;rw[if_neg (show ¬ (AM d==Bn)=true from fun z=>AU z)];refine Aa (Ae (Aa (CJ g dd ?_)));rw[if_neg (by simp)];refine Aa (Ae (Aa (D5 g dd ?_)));rw[if_neg (by simp)];refine Ae ?_;have ni:¬ ((i:Int) < 0):=by omega
 simp only[ni,if_false,BD,hx];refine Aa (Aa (BF hit.typeIs (Ae (Aa (Eo hit.typeIs ?_)))));show wpAny _ _ (setField (.ref it) 1 (rawInt ((i:Int)+1)) >>= _) _ _ s;refine Aa (Dk ig idt (by simp) ?_);have h2:(s.heap.update it (FY (·.setIfInBounds 1 (rawInt ((i:Int)+1))))).IsKeyIter it d (i+1) es.size ep:=⟨_,CT _ ig (Ek (CA idt _)),(Fh ..).trans ic,by rw[CA idt];simp[rawInt]⟩
 refine Aa (Bf (Aa (Eo (s:={ s with heap:=s.heap.update it (FY (·.setIfInBounds 1 (rawInt ((i:Int)+1)))) }) h2.typeIs ?_)));show wpAny _ _ (pure en.key) _ _ _;exact Ae (Ae ⟨_,rfl,Ae (k _ h2 (Cp ..))⟩)
theorem zgg{it d:Addr}{i ep:Nat}{o:Obj}{es:Array DictEntry}{R:Option Value->Shared->Prop}(hh:A.handled=none)(hit:s.heap.IsKeyIter it d i es.size ep)(g:s.heap.get? d=some o)(dd:o.data=.dict es ep)(hx:es[i]?=none)
   (k:∀ h',Ed it s.heap h'->R none { s with heap:=h' }):wpAny (model prog w) A (pyNext (.ref it)) R E s:=by
 obtain⟨io,ig,ic,idt⟩:=id hit;have own:Dl "dict_keyiterator"=false:=by decide
 unfold pyNext;refine Aa (Dw (A6 (name:=BB "__next__") hit.typeIs F.slot_dict_keyiterator_next (Bb F.slot_dict_keyiterator_next hit.typeIs F.entry_dict_keyiterator_next ?_ (F.args_dict_keyiterator_next_1 _))));refine Aa (Ae (Aa (Aa ?_)));refine Aa (BF hit.typeIs (Ae (Aa (wpAny_fieldsOf ig idt ?_))));simp only[own,Bi,if_false];show wpAny _ _ (if (AM d==Bn)=true then _ else _) _ _ s;rw[if_neg (show ¬ (AM d==Bn)=true from fun z=>AU z)];refine Aa (Ae (Aa (CJ g dd ?_)));rw[if_neg (by simp)];refine Aa (Ae (Aa (D5 g dd ?_)));rw[if_neg (by simp)];refine Ae ?_;have ni:¬ ((i:Int) < 0):=by omega
 simp only[ni,if_false,BD,hx];refine Aa (Aa (BF hit.typeIs (Ae ?_)));show wpAny _ _ (setField (.ref it) 0 .none >>= _) _ _ s;refine Aa (Dk ig idt (by simp) ?_);show wpAny _ _ (newExc (.type "StopIteration") [] >>= _) _ _ _;simp only[newExc,newTuple];refine Aa (Aa (A7 (Aa (m:=firstArgMember _ _) (wpAny_of_eq (a:=Bn) (by first | rfl | (simp only[firstArgMember];rfl)) (A7 ?_ (by size_fits)))) (by size_fits)));simp only[raiseNew];refine Aa (wpAny_handled ?_);rw[show A.in1.handled=none from hh];refine Aa (Ae (wpAny_throw ?_));refine Aa (wpAny_isInstance (T:="StopIteration") (b:=true) ⟨_,Aq _ rfl,rfl⟩ isSubtype_stop (Ae ?_));exact k _ (((Cp ..).extBut.push _).push _)
end
noncomputable def Itk(o:Obj)(d:Addr):It :=
 ⟨fun i H=>∃ ps p,H d=some (.frz o (.dT ps))/\ps[i]?=some p,fun i H x H'=>∃ b ps k v,H'=H/\x=.ref b/\H d=some (.frz o (.dT ps))/\ps[i]?=some (k,v)/\H b=some (.tup (k.map kV)),
   fun i H=>∃ ps,H d=some (.frz o (.dT ps))/\ps.length<=i⟩
theorem zfR{P:Program}{w:World}{K:Ac}{tg:Expr}{o:Obj}{es:Array DictEntry}{ep:Nat}(d it:Addr)(dd:o.data=.dict es ep) :
   Turn P w K tg (Itk o d) [it] it (fun i h=>h.IsKeyIter it d i es.size ep) where
 mem:=by simp
 obj:=fun i h st b hb=>by
   obtain⟨ob,e,c,dt⟩:=st;rw[List.mem_singleton.mp hb];exact⟨_,e,fun v z=>by rw[dt] at z;cases z⟩
 keep:=fun i h h' st k=>st.at fun ob e=>k it (by simp) ob e
 item:=by
   intro X hP hw hK hc i pins s σ H E I hf st hg;subst hP hw hK;obtain⟨ps,⟨k,v⟩,hq,hx⟩:=hg;obtain⟨g,hl,ent⟩:=zdu (I.hok d _ hq) dd;obtain⟨en,b,he,hkey,hb,hv⟩:=ent i k v hx;obtain⟨f0,f1,f2,f3,f4,f5⟩:=hf it (by simp);refine zgh st g dd he fun h' st' sb=>?_;have I1:Inv X pins σ H { s with heap:=h' }:=I.turned (t':=s.toks) (fun b o hb e=>(sb.2 b hb).trans e) f0 f1 f3 f4 f5;obtain⟨ob,e,c,dt⟩:=id st';exact⟨en.key,rfl,zoh (s:={ s with heap:=h' }) e c dt (by decide) ⟨.ref b,H,I1,by rw[hkey];rfl,⟨b,ps,k,v,rfl,rfl,hq,hx,hb⟩,st',fun b hb=>(hf b hb).1⟩⟩
 done:=by
   intro X hP hw hK hc i pins s σ H E I hf st hg;subst hP hw hK;obtain⟨ps,hq,hx⟩:=hg;obtain⟨g,hl,_⟩:=zdu (I.hok d _ hq) dd;obtain⟨f0,f1,f2,f3,f4,f5⟩:=hf it (by simp);exact zgg (I.ok.hd hc) st g dd (by simp;omega) fun h' eb=>⟨rfl,I.turned (t':=s.toks) (fun b o hb e=>eb b o hb e) f0 f1 f3 f4 f5⟩
 self:=fun _ _ _ _ _ st h=>EA st h
section
variable {X:Cx} {K:Ac} {H:Hp} {io:List Addr} {m:ME} {st st':Sto} {tg:Expr}
noncomputable def zdK(kvs:List (List Key×D)):List D:=kvs.map fun p=>.tup (p.1.map keyD)
noncomputable def zmD:D->Sto->Option (Wk×Sto)
 | .ref n,s=>match s[n]? with
   | some (.dt kvs)=>some (⟨zdK kvs,[]⟩,s.set n (.ft kvs))
   | _=>none
 | _,_=>none
theorem zoe{n:Nat}{p:Addr}{o:Obj}{ps:List (List Key×V)}{kvs:List (List Key×D)}(S:StR K H io st)(hn:io[n]?=some p)(hp:H p=some (.frz o (.dT ps)))(r:KR (List Key) K H io ps kvs):ItOk K H io ⟨zdK kvs,[]⟩ (Itk o p) where
 go := fun i d H1 k1 s hd X1 S1 hs=>by
   have h1:=X1.frz _ _ _ hp;have hd:(zdK kvs)[i]?=some d:=hd;unfold zdK at hd;rw[AD] at hd;obtain⟨⟨k,y⟩,hk,rfl⟩:=zaf hd;have get:∀ {l:List (List Key×V)} {m:List (List Key×D)} {i:Nat},KR (List Key) K H io l m->m[i]?=some (k,y)->∃ v,l[i]?=some (k,v):=by
     intro l m i q
     induction q generalizing i with
     | nil=>intro e;simp at e
     | @cons a b _ _ h t ih =>
       cases i with
       | zero =>
         intro e;simp at e;subst e;obtain⟨a1,a2⟩:=a;have z:a1=k:=h.1;subst z;exact⟨a2,rfl⟩
       | succ j=>intro e;exact ih (by simpa using e)
   obtain⟨v,hv⟩:=get r hk;refine⟨⟨ps,_,h1,hv⟩,fun x H' y'=>?_⟩;obtain⟨b,ps',k',v',rfl,rfl,h1',hv',hb⟩:=y';rw[h1] at h1';cases h1';rw[hv] at hv';cases hv';exact⟨Ext.refl,S1,⟨b,_,rfl,hb,zeo k⟩⟩
 stop:=fun H1 k1 s X1 S1 hs=>⟨ps,X1.frz _ _ _ hp,by show ps.length<=(zdK kvs).length;unfold zdK;rw[Ak,KR.length r];exact Af _⟩
 stop':=fun H1 k1 s i hi X1 S1 hs=>⟨ps,X1.frz _ _ _ hp,by have hi:(zdK kvs).length<=i:=hi;unfold zdK at hi;rw[Ak,<-KR.length r] at hi;exact hi⟩
noncomputable def mWK(m:ME):MI:=fun ρ st=>(m ρ st).bind fun (d,s)=>zmD d s
theorem zm6{o:Expr}(ho:SE X o m):SI X tg o (mWK m):=by
 rintro pins s σ H R I ⟨ρ,st,io,W,st',E,S,e,k⟩;obtain⟨⟨d,s1⟩,e1,e⟩:=zac e
 cases d with
 | ref n =>
   unfold zmD at e;dsimp only at e
   split at e
   . rename_i kvs en;cases e;refine thn (ho pins s σ H (fun v H'=>∃ ka,Ext io ka H H'/\StR X.K H' (io++ka) s1/\Rep X.K H' (io++ka) v (.ref n)) I ⟨ρ,st,io,_,s1,E,S,e1,fun v1 H1 k1 X1 S1 R1=>⟨k1,X1,S1,R1⟩⟩) ?_;rintro v s2 ⟨x,H1,I1,r1,k1,X1,S1,R1⟩;obtain⟨p,rfl,hp⟩:=R1;cases r1;obtain⟨ps,hH,r⟩:=S1.ob n p _ hp en;obtain⟨t1,t2,hs⟩:=zfJ I1 (.inr ⟨ps,.inl hH⟩);obtain⟨_,_,xs,_,o,es,ep,g,_,dd,_,_⟩:=I1.hok p _ hH;refine zep (o:=o) (es:=es) (ep:=ep) t1 hs g dd ?_;have J:=I1.kept (t':=s2.toks) (h':=s2.heap.push { cls:=.type "dict_keyiterator",data:=.fields #[.ref p,.int 0 0,.int es.size 0,.int ep 0] }) fun b u q=>Ad _ q;have J2:=Inv.freeze J hH (Ad _ g) (by simp) (by simp) (by simp) (by simp);obtain⟨X2,S2⟩:=zdH (o:=.frz o (.dT ps)) (ob:=.ft kvs) S1 hp en (fun o u z=>by rw[hH] at z;cases z) fun H' T e'=>⟨o,ps,e',KR.mono T r⟩
     refine⟨_,[_],_,_,_,rfl,J2,zfR p _ dd,⟨_,Aq _ rfl,rfl,rfl⟩,fun b hb=>?_,?_⟩
     . rw[List.mem_singleton.mp hb];refine I1.fpOk (Af _) ?_;rw[zaA (Bx (Aw (Al g)))];exact I1.hok.fresh (Af _)
     . have hn':((io++k1)++[])[n]?=some p:=by rw[Ai];exact hp
       have r2:=KR.mono (ka:=[]) (X2.kp S1) r;have ok:=zoe S2 hn' zba r2;refine k _ _ (k1++[]) (X1.trans S1 X2) (by rw[<-An];exact S2) (by rw[<-An];exact ok)
   . cases e
 | _=>cases e
noncomputable def zlU(st:Sto)(n:Nat)(k:D):Option (Option D):=match st[n]? with
 | some (.ft kvs)=>match k with
   | .tup ds=>(keysOf ds).map fun q=>valD kvs q
   | _=>none
 | _=>none
theorem zge{n:Nat}{p:Addr}{k:D}{y:V}{r:Option D}(S:StR K H io st)(hp:io[n]?=some p)(ry:Rep K H io y k)(h:zlU st n k=some r):∃ o,DGet H p y o/\((r=none/\o=none)\/∃ d v,r=some d/\o=some v/\Rep K H io v d):=by
 unfold zlU at h
 split at h
 . rename_i kvs e
   split at h
   . rename_i ds;obtain⟨q,e1,h⟩:=zaf h;subst h;obtain⟨ob,ps,hH,r⟩:=S.ob n p _ hp e;obtain⟨b,xs,rfl,hb,rs⟩:=ry;have ex:=zbW rs e1;subst ex;refine⟨_,.inr ⟨ps,q,b,.inr ⟨ob,hH⟩,rfl,hb,rfl⟩,?_⟩
     rcases KR.val r q with ⟨h1,h2⟩ | ⟨d,v,h1,h2,h3⟩
     . exact .inl ⟨h1,h2⟩
     . exact .inr ⟨d,v,h1,h2,h3⟩
   . cases h
 . cases h
end
section
variable {X:Cx} {K:Ac} {H:Hp} {io:List Addr} {st st':Sto} {a b c e:Expr} {es:List Expr} {ma mb mc m mk:ME} {mm:MA} {pos:Pos} {pins:List (Addr×Obj)} {σ:L2.St} {s:Shared}
noncomputable def zoL(st:Sto)(n:Nat)(k:D):Option (Option D):=orO (look st n k) (zlU st n k)
theorem zjz{n:Nat}{p:Addr}{k:D}{y:V}{r:Option D}(S:StR K H io st)(hp:io[n]?=some p)(ry:Rep K H io y k)(h:zoL st n k=some r):∃ o,DGet H p y o/\((r=none/\o=none)\/∃ d v,r=some d/\o=some v/\Rep K H io v d):=by
 rcases zbz h with h | h
 . exact zfC S hp ry h
 . exact zge S hp ry h
noncomputable def zmJ(st:Sto)(n:Nat):Bool:=match st[n]? with
 | some (.dk _)=>true
 | some (.dt _)=>true
 | some (.fk _)=>true
 | some (.ft _)=>true
 | _=>false
theorem zl5{n:Nat}{p:Addr}(S:StR K H io st)(hp:io[n]?=some p)(h:zmJ st n=true):IsD H p:=by
 unfold zmJ at h
 split at h
 . rename_i kvs e;obtain⟨ps,q,_⟩:=S.ob n p _ hp e;exact .inl ⟨ps,.inl q⟩
 . rename_i kvs e;obtain⟨ps,q,_⟩:=S.ob n p _ hp e;exact .inr ⟨ps,.inl q⟩
 . rename_i kvs e;obtain⟨o,ps,q,_⟩:=S.ob n p _ hp e;exact .inl ⟨ps,.inr ⟨o,q⟩⟩
 . rename_i kvs e;obtain⟨o,ps,q,_⟩:=S.ob n p _ hp e;exact .inr ⟨ps,.inr ⟨o,q⟩⟩
 . cases h
noncomputable def zn0(md mk:ME):ME:=fun ρ st=>(md ρ st).bind fun (d,s1)=>match d with
 | .ref n=>if zmJ s1 n=true then (mk ρ s1).bind fun (k,s2)=>(zoL s2 n k).map fun r=>(r.getD .non,s2) else none
 | _=>none
theorem znb{o:Expr}{md:ME}{apos cpos:Pos}(hu:X.A.units+1 < cLine)(ho:SE X o md)(he:SE X e mk)(mm:M1 X o "get" apos e cpos:=by exact⟨rfl,rfl,rfl,rfl⟩):SE X (.Call (.Attribute o "get" apos) [e] [] cpos) (zn0 md mk) :=
 PE.imp (zlx hu ho he mm) <| by
   rintro σ H Q ⟨ρ,st,io,d,st',E,S,e,k⟩;obtain⟨⟨x,s1⟩,e1,e⟩:=zac e
   cases x with
   | ref n =>
     obtain⟨hd,e⟩:=zap e;obtain⟨⟨y,s2⟩,e2,e⟩:=zac e;obtain⟨r,e3,e⟩:=zaf e;cases e;refine⟨ρ,st,io,_,s1,E,S,e1,fun v1 H1 k1 X1 S1 R1=>?_⟩;obtain⟨p,rfl,hp⟩:=R1;refine⟨p,rfl,zl5 S1 hp hd,ρ,s1,io++k1,y,_,E.ext S X1,S1,e2,fun v2 H2 k2 X2 S2 R2=>?_⟩;obtain⟨o,g,z⟩:=zjz S2 (zbf hp) R2 e3;refine⟨o,g,?_⟩
     rcases z with ⟨rfl,rfl⟩ | ⟨d',v,rfl,rfl,rv⟩
     . exact ((k.on S1 X1).on S2 X2).now S2 rfl
     . exact ((k.on S1 X1).on S2 X2).now S2 rv
   | _=>cases e
noncomputable def zqy:G2:=fun d k st=>match d with
 | .ref n=>(zlU st n k).bind fun r=>r.map fun v=>(v,st)
 | _=>none
theorem zlf{o i:Expr}{md mk:ME}(hu:X.A.units+1 < cLine)(ho:SE X o md)(hi:SE X i mk)(hs:NoSl i:=by intro _ _;rfl):SE X (.Subscript o i pos) (mBin zqy md mk):=PE.imp (zkg hu ho hi hs) <| by
 rintro σ H Q ⟨ρ,st,io,d,st',E,S,e,k⟩;obtain⟨⟨x,s1⟩,e1,e⟩:=zac e;obtain⟨⟨y,s2⟩,e2,e⟩:=zac e
 cases x with
 | ref n =>
   obtain⟨r,e3,e⟩:=zac (show (zlU s2 n y).bind _=some (d,st') from e);obtain⟨w,e4,e⟩:=zaf e;cases e;subst e4;refine⟨ρ,st,io,_,s1,E,S,e1,fun v1 H1 k1 X1 S1 R1=>⟨ρ,s1,io++k1,y,_,E.ext S X1,S1,e2,fun v2 H2 k2 X2 S2 R2=>?_⟩⟩;obtain⟨p,rfl,hp⟩:=R1;obtain⟨o,g,⟨z,_⟩ | ⟨d',v,hd,hv,rv⟩⟩:=zge S2 (zbf hp) R2 e3
   . cases z
   . cases hd;subst hv;exact⟨p,v,rfl,g,((k.on S1 X1).on S2 X2).now S2 rv⟩
 | _=>cases e
noncomputable def ixB:G2:=orG ixA zqy
theorem zlb(hu:X.A.units+1 < cLine)(ha:SE X a ma)(hb:SE X b mb)(hs:zgr b:=by intro _ _;rfl)(hs':NoSl b:=by intro _ _;rfl):SE X (.Subscript a b pos) (mBin ixB ma mb) :=
 zk9 (zas hu ha hb hs hs') (zlf hu ha hb hs')
end
theorem zeY:typeLookup (.type "tuple") "keys"=pure none:=by rw[typeLookup_type,El];kernel_rfl
structure Fill(prog:Program)(w:World)(A:Around)(D I:Addr)(n:Nat)(key val:Nat->Value)(T:Nat->Heap->Prop):Prop where
 keep:∀ i h h',T i h->(∀ b o,b≠I->h.get? b=some o->h'.get? b=some o)->T i h'
 step:∀ i (s:Shared) (Q:Unit->Shared->Prop) (E:Value->Shared->Prop),i < n->T i s.heap->(∀ h' tk,T (i+1) h'->BW D s.heap h'->Q () { s with heap:=h',toks:=tk })->wpAny (model prog w) A (dictSet D (key i) (val i)) Q E s
section
variable {prog:Program} {w:World} {A:Around} {E:Value->Shared->Prop} {s:Shared} {a:Addr}
theorem zik{Q:Option Value->Shared->Prop}{xs:Array Value}{k:Nat}{sl:Array (Option Value)}(hx:s.heap.get? a=some { cls:=.type "tuple",dict:=none,data:=.seq xs k,slots:=sl })(hA:A.handled=none)
   (h:∀ h' tk,(∀ b u,s.heap.get? b=some u->h'.get? b=some u)->Q none { s with heap:=h',toks:=tk }):wpAny (model prog w) A (getAttr? (.ref a) "keys") Q E s:=by
 obtain⟨hp,g,d,tk,os⟩:=s;have hT:∀ tk',(⟨hp,g,d,tk',os⟩:Shared).TypeIs (.ref a) "tuple":=fun _=>⟨_,hx,rfl⟩
 have f1:=EX;have f3:=F.slot_tuple_getattribute.lookup;have f4:=F.slot_tuple_getattribute.bind (.ref a);have f5:=am_tuple_getattr_none;unfold getAttr? getAttrBy? getAttrBy
 repeat (any_goals (first | assumption | exact hT _ | ((with_reducible show wpAny _ _ (call (FX "tuple.__getattribute__") _ _) _ _ _);refine C3 F.slot_tuple_getattribute (hT _) am_entry_tuple_getattribute (F.args_tuple_getattribute_2 _ _) (meets_getattribute_miss_tuple a xs k sl _ _ zeY (by decide +kernel)) ⟨hx,hA,fun h' tk' e hx'=>?_⟩) | wp_step))
 obtain⟨t',u',he⟩:=hx'.there;show wpAny _ _ (getattributeRaised _ _ _ _ _ _ _) _ _ _;unfold getattributeRaised
 repeat (any_goals (first | assumption | wp_step))
 exact h _ _ hx'.keeps
theorem Sr.nextN{x:Sr}{it:Addr}{i:Nat}{xs:Array Value}{v:Value}{R:Option Value->Shared->Prop}(hit:x.at_ s.heap it i)(h:x.is s.heap xs)(hx:xs[i]?=some v)(k:∀ h',x.at_ h' it (i+1)->BW it s.heap h'->R (some v) { s with heap:=h' }) :
   wpAny (model prog w) A (pyNext (.ref it)) R E s:=by
 cases x with
 | l a=>exact CL hit h hx k
 | t a=>exact DU (show s.heap.IsTupleIter it a i from hit) (show s.heap.IsTuple a xs from h) hx k
theorem Sr.stopN{x:Sr}{it:Addr}{i:Nat}{xs:Array Value}{R:Option Value->Shared->Prop}(hh:A.handled=none)(hit:x.at_ s.heap it i)(h:x.is s.heap xs)(hx:xs[i]?=none)(k:∀ h',Ed it s.heap h'->R none { s with heap:=h' }) :
   wpAny (model prog w) A (pyNext (.ref it)) R E s:=by
 cases x with
 | l a=>exact CQ hh hit h hx k
 | t a=>exact D6 hh (show s.heap.IsTupleIter it a i from hit) (show s.heap.IsTuple a xs from h) hx k
theorem zrY{R:Result->Shared->Prop}{D I:Addr}{x:Sr}{its:List Value}{n:Nat}{key val:Nat->Value}{T:Nat->Heap->Prop}{h0:Heap}(F:Fill prog w A.in1 D I n key val T)(hh:A.in1.handled=none)(hl:its.length=n)(hDI:D≠I)(hxD:x.ad≠D)(hxI:x.ad≠I) :
   ∀ (k i:Nat) (s:Shared),n - i=k->i<=n->x.at_ s.heap I i->x.is s.heap its.toArray->T i s.heap ->
   (∀ (j:Nat) (v:Value),its[j]?=some v->∃ p,v=.ref p/\IsTup s.heap p #[key j,val j]/\p≠D/\p≠I)->(∀ b o,b≠D->b≠I->h0.get? b=some o->s.heap.get? b=some o) ->
   (∀ h' tk,T n h'->(∀ b o,b≠D->b≠I->h0.get? b=some o->h'.get? b=some o)->R (.ok (.ret .none)) { s with heap:=h',toks:=tk }) ->
   codeAny (model prog w) A (.builtin "dict.update.loop" ⟨[.ref D,.ref I,rawInt i,.none],[]⟩) R s:=by
 intro k
 induction k with
 | zero =>
   intro i s hk hi hit hlist hd hp h0k hR;have hin:i=n:=by omega
   subst hin;refine Da zb7 ?_;rw[Cn za2 _];show wpAny _ A.in1 (pyNext (.ref I) >>= _) _ _ s;refine Aa (Sr.stopN hh hit hlist (by simp[hl]) fun h' hx=>?_);show wpAny _ A.in1 (DQ D [] >>= fun _=>ret .none) _ _ _;exact Aa (Ae (Ae (hR h' s.toks (F.keep _ _ _ hd fun b o hb e=>hx b o hb e) fun b o h1 h2 e=>hx b o h2 (h0k b o h1 h2 e))))
 | succ k ih =>
   intro i s hk hi hit hlist hd hp h0k hR;have hlt:i < n:=by omega
   have hlt':i < its.length:=by omega
   refine Da zb7 ?_;rw[Cn za2 _];show wpAny _ A.in1 (pyNext (.ref I) >>= _) _ _ s;have hv:its[i]?=some its[i]:=Ah hlt';refine Aa (Sr.nextN (v:=its[i]) hit hlist (by simp[hlt']) fun h' hit' hx=>?_);obtain⟨p,ep,tp,nD,nI⟩:=hp i _ hv;have tp':IsTup h' p #[key i,val i]:=by
     obtain⟨o,g,c⟩:=tp;exact⟨o,hx.extBut p o nI g,c⟩
   have hd':T i h':=F.keep _ _ _ hd fun b o hb e=>hx.extBut b o hb e;rw[ep];refine Aa (Bf (Aa (wpAny_tryCatch (zdn (s:={ s with heap:=h' }) tp' ?_))));refine Bf (F.step i { s with heap:=h' } _ _ hlt hd' fun h2 tk2 hd2 hs2=>?_);have hI2:∀ b o,b≠D->h'.get? b=some o->h2.get? b=some o:=fun b o hb e=>hs2.extBut b o hb e;refine Ae ⟨CP za2 _,?_⟩;refine ih (i+1) { s with heap:=h2,toks:=tk2 } (by omega) (by omega) ?_ ?_ hd2 (fun j v h1=>?_) (fun b o b1 b2 e=>hI2 b o b1 (hx.extBut b o b2 (h0k b o b1 b2 e))) fun h3 tk3 d3 k3=>hR h3 tk3 d3 k3
   . exact Sr.at_keep hit' fun u e=>hI2 I u (Bx hDI) e
   . exact Sr.is_keep (Sr.is_keep hlist fun u e=>hx.extBut _ u hxI e) fun u e=>hI2 _ u hxD e
   . obtain⟨q,e,⟨o,g,c⟩,q1,q2⟩:=hp j v h1;exact⟨q,e,⟨o,hI2 q o q1 (hx.extBut q o q2 g),c⟩,q1,q2⟩
noncomputable def Sr.pl(h:Heap)(xs:Array Value):Sr->Prop
 | .l a=>PlainL h a xs
 | .t a=>zcE h a xs
theorem Sr.pl_is{h:Heap}{xs:Array Value}{x:Sr}(q:x.pl h xs):x.is h xs:=by
 cases x with
 | l a=>exact PlainL.isList q
 | t a=>exact zcE.t q
theorem Sr.pl_keep{h h':Heap}{xs:Array Value}{x:Sr}(q:x.pl h xs)(k:∀ b u,h.get? b=some u->h'.get? b=some u):x.pl h' xs:=by
 cases x with
 | l a=>exact PlainL.keeps q k
 | t a=>exact zcE.keeps q k
theorem zc2{x:Sr}{its:List Value}{n:Nat}{key val:Nat->Value}{T:Nat->Heap->Prop}{Q:Value->Shared->Prop}(hh:A.handled=none)(hpl:x.pl s.heap its.toArray)(hl:its.length=n)
   (hF:∀ I:Addr,s.heap.objs.size < I->Fill prog w A.in1.in1 s.heap.objs.size I n key val T) (h0:T 0 (s.heap.push { cls:=.type "dict",data:=.dict #[] }))
   (hp:∀ (j:Nat) (v:Value),its[j]?=some v->∃ p,v=.ref p/\IsTup s.heap p #[key j,val j])
   (h:∀ h' tk,T n h'->(∀ b o,s.heap.get? b=some o->h'.get? b=some o)->Q (.ref s.heap.objs.size) { s with heap:=h',toks:=tk }) :
   wpAny (model prog w) A (call (.type "dict") [.ref x.ad]) Q E s:=by
 refine callType_codes (Q₁:=fun obj s₁=>obj=.ref s.heap.objs.size/\s₁={ s with heap:=s.heap.push { cls:=.type "dict",data:=.dict #[] } }) F.kt_called_dict (F.kt_typeCall_dict_1 _) F.entry_dict_init (kt_code_dict_new _ ⟨rfl,rfl⟩) ?_;rintro obj s₁ ⟨rfl,rfl⟩;have hnt:Shared.TypeIs { s with heap:=s.heap.push { cls:=.type "dict",data:=.dict #[] } } (.ref s.heap.objs.size) "dict":=⟨_,Aq _ rfl,rfl⟩
 have k1:∀ b o,s.heap.get? b=some o->(s.heap.push { cls:=.type "dict",data:=.dict #[] }).get? b=some o:=fun b o e=>Ad _ e;have hpl1:=Sr.pl_keep hpl k1;have hlt:∀ b o,s.heap.get? b=some o->b < s.heap.objs.size:=fun b o e=>Al e;have hll:x.ad < s.heap.objs.size:=by obtain⟨o,g⟩:=Sr.is_get (Sr.pl_is hpl);exact hlt _ o g
 refine⟨hnt,F.args_dict_init_2 _ _,?_⟩;unfold Builtin.«dict.__init__»;refine Aa ?_;unfold DS;refine Aa (Cj hnt ?_);show wpAny _ _ (pure (s.heap.objs.size,[AM x.ad])) _ _ _;refine Ae ?_;show wpAny _ _ (B7 "dict.__init__" s.heap.objs.size (.ref x.ad) [] .none) _ _ _;unfold B7;have rest:∀ (h2:Heap) (tk2:Nat),(∀ b u,(s.heap.push { cls:=.type "dict",data:=.dict #[] }).get? b=some u->h2.get? b=some u) ->
     codeAny (model prog w) A.in1 (.builtin "dict.update.loop" ⟨[.ref s.heap.objs.size,.ref h2.objs.size,rawInt (0:Nat),.none],[]⟩) (wants (fun r s₂=>r=.none/\Q (.ref s.heap.objs.size) s₂) E) { s with heap:=h2.push x.ob,toks:=tk2 }:=by
   intro h2 tk2 k2;have hpl2:=Sr.pl_keep hpl1 k2;have hsz:s.heap.objs.size < h2.objs.size:=by
     obtain⟨o,ho,_⟩:=hnt;exact Al (k2 _ o ho)
   have k3:∀ b o,h2.get? b=some o->(h2.push x.ob).get? b=some o:=fun b o e=>Ad _ e;have n1:s.heap.objs.size≠h2.objs.size:=Aw hsz;have n2:x.ad≠s.heap.objs.size:=Aw hll;have n3:x.ad≠h2.objs.size:=Aw (BX hll hsz);have FF:=hF h2.objs.size hsz;refine zrY (A:=A.in1) (h0:=s.heap) (x:=x) (its:=its) FF hh hl n1 n2 n3 n 0 { s with heap:=h2.push x.ob,toks:=tk2 } rfl (Bc _) ?_ (Sr.pl_is (Sr.pl_keep hpl2 k3)) ?_ (fun j v e1=>?_) (fun b o _ _ e=>k3 b o (k2 b o (k1 b o e))) (fun h' tk d' k'=>?_)
   . exact Sr.at_new (Aq _ (by cases x <;> rfl))
   . exact FF.keep _ _ _ h0 fun b o _ e=>k3 b o (k2 b o e)
   . obtain⟨p,e,⟨o,g,c⟩⟩:=hp j v e1;exact⟨p,e,⟨o,k3 p o (k2 p o (k1 p o g)),c⟩,Aw (hlt p o g),Aw (BX (hlt p o g) hsz)⟩
   . exact⟨rfl,h h' tk d' fun b o e=>k' b o (Aw (hlt b o e)) (Aw (BX (hlt b o e) hsz)) e⟩
 cases x with
 | l a =>
   obtain⟨⟨cl,di,da,sl⟩,nn,g1,c1,c2,c3⟩:=id hpl1;simp only at c1 c2 c3;subst c1 c2 c3;refine Aa (Cw (show Shared.TypeIs { s with heap:=s.heap.push { cls:=.type "dict",data:=.dict #[] } } (.ref a) "list" from ⟨_,g1,rfl⟩) ?_);rw[if_pos (by decide)];refine Aa (zgi g1 hh fun h2 tk2 k2=>?_);simp only[Dr,if_true];refine Aa (CD ?_);refine Aa (Sr.iter (x:=.l a) (s:={ s with heap:=h2,toks:=tk2 }) (xs:=its.toArray) (Sr.pl_is (x:=.l a) (Sr.pl_keep (x:=.l a) hpl1 k2)) ?_);exact Ae ⟨CP za2 _,rest h2 tk2 k2⟩
 | t a =>
   obtain⟨⟨cl,di,da,sl⟩,g1,c1,c2,nn,c3⟩:=id hpl1;simp only at c1 c2 c3;subst c1 c2 c3;refine Aa (Cw (show Shared.TypeIs { s with heap:=s.heap.push { cls:=.type "dict",data:=.dict #[] } } (.ref a) "tuple" from ⟨_,g1,rfl⟩) ?_);rw[if_pos (by decide)];refine Aa (zik g1 hh fun h2 tk2 k2=>?_);simp only[Dr,if_true];refine Aa (CD ?_);refine Aa (Sr.iter (x:=.t a) (s:={ s with heap:=h2,toks:=tk2 }) (xs:=its.toArray) (Sr.pl_is (x:=.t a) (Sr.pl_keep (x:=.t a) hpl1 k2)) ?_);exact Ae ⟨CP za2 _,rest h2 tk2 k2⟩
end
noncomputable abbrev TE3:=List Key×Addr×Value
noncomputable def zhO(acc xs:List TE3):List TE3:=xs.foldl (fun acc x=>storedH acc x.1 x.2.1 x.2.2) acc
theorem zgz{acc:List TE3}{k:List Key}{a:Addr}{v:Value}{x:TE3}(h:x∈storedH acc k a v):(∃ y∈acc,y.1=x.1/\y.2.1=x.2.1)\/(x.1=k/\x.2.1=a):=by
 unfold storedH at h
 split at h
 . obtain⟨y,hy,e⟩:=List.mem_map.mp h;refine .inl ⟨y,hy,?_⟩;rw[<-e];unfold putAt
   split <;> exact⟨rfl,rfl⟩
 . rcases List.mem_append.mp h with h | h
   . exact .inl ⟨x,h,rfl,rfl⟩
   . rw[List.mem_singleton.mp h];exact .inr ⟨rfl,rfl⟩
theorem zf3:∀ {xs acc:List TE3} {x:TE3},x∈zhO acc xs->(∃ y∈acc,y.1=x.1/\y.2.1=x.2.1)\/∃ y∈xs,y.1=x.1/\y.2.1=x.2.1
 | [],acc,x,h=>.inl ⟨x,h,rfl,rfl⟩
 | z::zs,acc,x,h=>by
   rcases zf3 (xs:=zs) (acc:=storedH acc z.1 z.2.1 z.2.2) h with ⟨y,hy,e1,e2⟩ | ⟨y,hy,e⟩
   . rcases zgz hy with ⟨u,hu,f1,f2⟩ | ⟨f1,f2⟩
     . exact .inl ⟨u,hu,f1.trans e1,f2.trans e2⟩
     . exact .inr ⟨z,Am,f1.symm.trans e1,f2.symm.trans e2⟩
   . exact .inr ⟨y,Ag _ hy,e⟩
theorem zgA(acc:List TE3)(k:List Key)(a:Addr)(v:Value):(storedH acc k a v).length<=acc.length+1:=by
 unfold storedH
 split <;> simp
theorem zec:∀ (xs acc:List TE3),(zhO acc xs).length<=acc.length+xs.length
 | [],acc=>by show acc.length<=acc.length+0;omega
 | z::zs,acc=>by
   have h1:=zec zs (storedH acc z.1 z.2.1 z.2.2);have h2:=zgA acc z.1 z.2.1 z.2.2;show (zhO (storedH acc z.1 z.2.1 z.2.2) zs).length<=_;rw[AE];omega
theorem zhN{xs:List TE3}{i:Nat}{x:TE3}(e:xs[i]?=some x):zhO [] (xs.take (i+1))=storedH (zhO [] (xs.take i)) x.1 x.2.1 x.2.2:=by
 rw[List.take_add_one,e];unfold zhO;rw[List.foldl_append];rfl
noncomputable def kAt(xs:List TE3)(i:Nat):Value:=match xs[i]? with | some x=>.ref x.2.1 | none=>.none
noncomputable def vAt(xs:List TE3)(i:Nat):Value:=match xs[i]? with | some x=>x.2.2 | none=>.none
section
variable {prog:Program} {w:World} {A:Around} {E:Value->Shared->Prop} {s:Shared} {a:Addr}
def FT(prog:Program)(w:World)(D:Addr)(xs:List TE3)(i:Nat)(h:Heap):Prop :=
 h.DictOfH (tupleKind (zay prog w)) D (zhO [] (xs.take i))/\∀ x∈xs,(tupleKind (zay prog w)).is h x.1 x.2.1
theorem zfH{h h':Heap}{k:List Key}{b:Addr}(q:(tupleKind (zay prog w)).is h k b)(kk:∀ o,h.get? b=some o->h'.get? b=some o):(tupleKind (zay prog w)).is h' k b:=by
 obtain⟨o,its,n,h1,r⟩:=q;exact⟨o,its,n,kk o h1,r⟩
theorem zr3{D I:Addr}{xs:List TE3}(hu:A.units < cLine)(hDI:D≠I)(hI:∀ x∈xs,x.2.1≠I)(hD:∀ x∈xs,x.2.1≠D)(hz:xs.length<=sizeLine):Fill prog w A D I xs.length (kAt xs) (vAt xs) (FT prog w D xs) where
 keep:=by
   rintro i h h' ⟨⟨o,es,ep,ho,hc,hd,he,his,hn⟩,hk⟩ k;have all:∀ x∈xs,(tupleKind (zay prog w)).is h' x.1 x.2.1:=fun x hx=>zfH (hk x hx) fun o e=>k _ o (hI x hx) e;refine⟨⟨o,es,ep,k _ o hDI ho,hc,hd,he,fun x hx=>?_,hn⟩,all⟩
   rcases zf3 hx with ⟨y,hy,_⟩ | ⟨y,hy,e1,e2⟩
   . exact nomatch hy
   . have:=all y (List.mem_of_mem_take hy);rw[e1,e2] at this;exact this
 step:=by
   rintro i s Q E hi ⟨hd,hk⟩ h;have e:xs[i]?=some xs[i]:=Ah hi;have ek:kAt xs i=.ref xs[i].2.1:=by unfold kAt;rw[e]
   have ev:vAt xs i=xs[i].2.2:=by unfold vAt;rw[e]
   rw[ek,ev];have hl:(zhO [] (xs.take i)).length<=sizeLine:=by
     have:=zec (xs.take i) [];rw[BG,Bg] at this;omega
   refine wpAny_dictSet_heap (hsz:=hl) hu (hk _ (B0 hi)) hd fun h' hd' hs=>h h' _ ⟨?_,fun x hx=>?_⟩ hs
   . rw[zhN e];exact hd'
   . exact zfH (hk x hx) fun o g=>hs.extBut _ o (hD x hx) g
end
noncomputable def zeW{κ:Type}[DecidableEq κ](kvs more:List (κ×V)):List (κ×V):=more.foldl (fun acc kv=>putK acc kv.1 kv.2) kvs
noncomputable def zie(kvs more:List (List Key×D)):List (List Key×D):=more.foldl (fun acc kv=>putD acc kv.1 kv.2) kvs
noncomputable def zqT:D->Option (List Key×D)
 | .tup [.tup ks,v]=>(keysOf ks).map fun q=>(q,v)
 | _=>none
noncomputable def zgO:List D->Option (List (List Key×D))
 | []=>some []
 | d::r=>(zqT d).bind fun t=>(zgO r).map fun ts=>t::ts
section
variable {X:Cx} {K:Ac} {H:Hp} {io:List Addr} {st st':Sto} {pins:List (Addr×Obj)} {σ:L2.St} {s:Shared}
theorem zlO:∀ {more:List (List Key×V)} {mx:List TE3} {kvs:List (List Key×V)} {xs:List TE3},KT H more mx->KT H kvs xs->KT H (zeW kvs more) (zhO xs mx):=by
 intro more mx kvs xs r
 induction r generalizing kvs xs with
 | nil=>intro q;exact q
 | @cons p q ps qs h t ih =>
   intro r0;have e:KT H (putK kvs p.1 p.2) (storedH xs q.1 q.2.1 q.2.2):=by
     rw[<-h.1];exact KT.put r0 p.1 h.2.1 h.2.2
   exact ih e
theorem zjw:∀ {more:List (List Key×V)} {mds:List (List Key×D)} {kvs:List (List Key×V)} {kds:List (List Key×D)},KR (List Key) K H io more mds->KR (List Key) K H io kvs kds->KR (List Key) K H io (zeW kvs more) (zie kds mds):=by
 intro more mds kvs kds r;unfold KR at r
 induction r generalizing kvs kds with
 | nil=>intro q;exact q
 | @cons p q ps qs h t ih =>
   intro r0;have e:KR (List Key) K H io (putK kvs p.1 p.2) (putD kds q.1 q.2):=by
     rw[<-h.1];exact KR.put r0 p.1 h.2
   exact ih e
theorem zkb(I:Inv X pins σ H s):∀ {ys:List V} {ds:List D} {kds:List (List Key×D)} {its:List Value},Reps X.K H io ys ds->zgO ds=some kds->Vals ys its ->
   ∃ (kvV:List (List Key×V)) (xs:List TE3),KR (List Key) X.K H io kvV kds/\KT H kvV xs/\its.length=xs.length/\xs.length=kds.length/\∀ (j:Nat) (v:Value) (x:TE3),its[j]?=some v->xs[j]?=some x->∃ p,v=.ref p/\IsTup s.heap p #[.ref x.2.1,x.2.2]
 | _,[],kds,_,h,e,r=>by
   cases e
   cases (show _=[] from h)
   cases r;exact⟨[],[],.nil,.nil,rfl,rfl,fun j v kv h=>by simp at h⟩
 | _,d::ds,kds,_,h,e,r=>by
   obtain⟨y,ys,rfl,h1,h2⟩:=h;obtain⟨t,e1,e⟩:=zac e;obtain⟨ts,e2,e⟩:=zaf e;subst e
   cases r with
   | @cons _ u _ us ru rus =>
     obtain⟨kvV,xs,a1,a2,a3,a4,a5⟩:=zkb I h2 e2 rus;unfold zqT at e1
     split at e1
     . rename_i ks v;obtain⟨q,eq1,e1⟩:=zaf e1;subst e1;obtain⟨p,vs,rfl,hp,rs⟩:=h1;obtain⟨v1,w1,rfl,q1,rs⟩:=rs;obtain⟨v2,w2,rfl,q2,rs⟩:=rs
       cases (show w2=[] from rs)
       obtain⟨b,zs,rfl,hb,rz⟩:=q1;have ek:=zbW rz eq1;subst ek;cases ru;obtain⟨ia,va,ht,_⟩:=I.tuple (SqT.of (K:=X.K) hp)
       cases va with
       | cons r1 t1 =>
         cases t1 with
         | cons r2 t2 =>
           cases t2;rename_i u1 u2
           cases (show u1=AM b from r1)
           refine⟨(q,v2)::kvV,(q,b,u2)::xs,.cons ⟨rfl,q2⟩ a1,.cons ⟨rfl,hb,r2⟩ a2,by rw[AE,AE,a3],by rw[AE,AE,a4],fun j v kv e1 e2=>?_⟩
           cases j with
           | zero =>
             cases e1;cases e2;exact⟨p,rfl,ht⟩
           | succ j=>exact a5 j v kv e1 e2
     . cases e1
theorem zrv{k:Nat}{A:Around}(hr:Room k A):A.units+2 < cLine:=by have:=hr.un;omega
noncomputable def zon:GN
 | [.ref n],st=>(zbj st n).bind fun ds=>(zgO ds).bind fun kds=>if fits kds.length=true then some (.ref st.length,st++[.dt (zie [] kds)]) else none
 | [.tup ds],st=>(zgO ds).bind fun kds=>if fits kds.length=true then some (.ref st.length,st++[.dt (zie [] kds)]) else none
 | _,_=>none
theorem ziC{x:Sr}{ys:List V}{ds:List D}{kds:List (List Key×D)}{its:List Value}{A:Around}{Q:Value->Shared->Prop}{E:Value->Shared->Prop}(I:Inv X pins σ H s)(hh:A.handled=none)(hu:A.units+2 < cLine)(pl:x.pl s.heap its.toArray)(rv:Vals ys its)(r1:Reps X.K H io ys ds)(e1:zgO ds=some kds)(hf:kds.length<=sizeLine)
   (h:∀ s' kvV,Inv X pins σ (upd H s.heap.objs.size (.dT (zeW [] kvV))) s'->KR (List Key) X.K H io kvV kds->Q (.ref s.heap.objs.size) s'):wpAny (model X.prog X.w) A (call (.type "dict") [.ref x.ad]) Q E s:=by
 obtain⟨kvV,xs,a1,a2,a3,a4,a5⟩:=zkb I r1 e1 rv;have hz:xs.length<=sizeLine:=by rw[a4];exact hf
 have hkey:∀ y∈xs,(tupleKind (zay X.prog X.w)).is s.heap y.1 y.2.1:=by
   clear a5 a4 a3 hz a1
   induction a2 with
   | nil=>intro y hy;exact nomatch hy
   | @cons p q ps qs hq t ih =>
     intro y hy
     rcases List.mem_cons.mp hy with e | hy
     . subst e;exact zfG I.hok (by rw[<-hq.1];exact hq.2.1)
     . exact ih y hy
 have hlt:∀ y∈xs,y.2.1 < s.heap.objs.size:=fun y hy=>by
   obtain⟨o,_,_,g,_⟩:=hkey y hy;exact Al g
 refine zc2 (T:=FT X.prog X.w s.heap.objs.size xs) (key:=kAt xs) (val:=vAt xs) hh pl a3 (fun i hi=>zr3 hu (Aw hi) (fun y hy=>Aw (BX (hlt y hy) hi)) (fun y hy=>Aw (hlt y hy)) hz) ⟨Heap.DictOfH.new s.heap,fun y hy=>zfH (hkey y hy) fun o g=>Ad _ g⟩ (fun j v e=>?_) fun h' tk d' kk=>?_
 . have hj:j < xs.length:=by
     rw[<-a3];exact (List.getElem?_eq_some_iff.mp e).1
   have ex:xs[j]?=some xs[j]:=Ah hj;obtain⟨p,ep,tp⟩:=a5 j v _ e ex;refine⟨p,ep,?_⟩;unfold kAt vAt;rw[ex];exact tp
 . have hlV:kvV.length=xs.length:=Bp a2;obtain⟨⟨o,es,ep,ho,hc,hdd,he,his,hn⟩,_⟩:=d';rw[DR] at he his hn;have km:KT H (zeW [] kvV) (zhO [] xs):=zlO a2 .nil;have hm:(zeW [] kvV).length<=sizeLine:=by
     have:=zec xs [];rw[Bp km];rw[Bg] at this;omega
   have hd:(s.heap.objs.size==sysModules)=false:=beq_eq_false_iff_ne.mpr (Bx (Aw I.big));refine h _ kvV (I.laid (a:=s.heap.objs.size) (o:=.dT (zeW [] kvV)) (t':=tk) kk (Af _) ⟨hm,hd,zhO [] xs,?_,o,es,ep,ho,hc,hdd,he,hn⟩) a1;exact KT.keeps km fun b ys e=>by
     rw[zaA (zaq e (I.hok.fresh (Af _)))];exact e
theorem zg7(hc:X.calm=true)(hu:X.A.units+2 < cLine):zeu X (.type "dict") zon:=by
 rintro pins s σ H xs us Q I r ⟨ds,st,io,d,st',R,S,e,k⟩;have fin:∀ (kds:List (List Key×D)),(d,st')=(D.ref st.length,st++[O.dt (zie [] kds)])->∀ s' kvV,Inv X pins σ (upd H s.heap.objs.size (.dT (zeW [] kvV))) s'->KR (List Key) X.K H io kvV kds->∃ v H',Inv X pins σ H' s'/\RelV v (.ref s.heap.objs.size)/\Q v H':=fun kds ed s' kvV I' a1=>by
   cases ed;obtain⟨E',S'⟩:=zgY (o:=.dT (zeW [] kvV)) (ob:=.dt (zie [] kds)) S (I.hok.fresh (Af _)) fun H' T e=>⟨_,e,zjw (KR.mono T a1) .nil⟩
   exact⟨.ref s.heap.objs.size,_,I',rfl,k _ _ [s.heap.objs.size] E' S' ⟨s.heap.objs.size,rfl,by rw[<-S.len];exact getElem?_len io _⟩⟩
 unfold zon at e
 split at e
 . rename_i n;obtain⟨zs,e0,e⟩:=zac e;obtain⟨kds,e1,e⟩:=zac e;obtain⟨hf,e⟩:=zap e;obtain⟨v,rfl,p,rfl,hp⟩:=R.one;obtain⟨u,rfl,ru⟩:=r.one;cases ru;obtain⟨ys,hx,r1⟩:=zbn S hp e0;obtain⟨its,rv,pl,hz⟩:=I.list hx;exact ziC (x:=.l p) I (I.ok.hd hc) hu pl rv r1 e1 (of_decide_eq_true hf) (fin kds (by cases e;rfl))
 . rename_i zs;obtain⟨kds,e1,e⟩:=zac e;obtain⟨hf,e⟩:=zap e;obtain⟨v,rfl,p,ys,rfl,hp,r1⟩:=R.one;obtain⟨u,rfl,ru⟩:=r.one;cases ru;obtain⟨hz,its,rv,pl⟩:=(show zcD X.prog X.w H s.heap p (.tup ys) from I.hok p _ hp)
   exact ziC (x:=.t p) I (I.ok.hd hc) hu pl rv r1 e1 (of_decide_eq_true hf) (fin kds (by cases e;rfl))
 . cases e
end
section
variable {X:Cx}
noncomputable def mulB:G2:=intD (fun i j=>decide (Bk i<=2 ^ 20)&&decide (Bk j<=2 ^ 20)) fun i j=>.int (i*j)
theorem znI:OpM X (binaryOp .Mult) mulB:=zdT (C:=fun i j=>Bk i<=2 ^ 20/\Bk j<=2 ^ 20) (opI fun i j _ _ _ _ _ hc q=>FR q (IntMulOk.of_bits hc.1 hc.2)) fun i j h=>by
   rw[Av] at h;exact⟨of_decide_eq_true h.1,of_decide_eq_true h.2⟩
end
section
variable {prog:Program} {w:World} {A:Around} {E:Value->Shared->Prop} {s:Shared} {a:Addr}
def FK(prog:Program)(w:World)(D:Addr)(kvs:List (Key×Value))(i:Nat)(h:Heap):Prop:=h.DictOf (zay prog w) D (merged [] (kvs.take i))
noncomputable def xAt(xs:List Value)(i:Nat):Value:=match xs[i]? with | some x=>x | none=>.none
noncomputable def wAt(xs:List (Key×Value))(i:Nat):Value:=match xs[i]? with | some x=>x.2 | none=>.none
theorem zr4{D I:Addr}{kvs:List (Key×Value)}{kxs:List Value}(hDI:D≠I)(hz:kvs.length<=sizeLine)(hk:∀ (j:Nat) (kv:Key×Value),kvs[j]?=some kv->(zay prog w).is kv.1 (xAt kxs j)=true):Fill prog w A D I kvs.length (xAt kxs) (wAt kvs) (FK prog w D kvs) where
 keep:=fun i h h' ⟨o,es,ep,ho,r⟩ k=>⟨o,es,ep,k D o hDI ho,r⟩
 step:=fun i s Q E hi hd h=>by
   have e:kvs[i]?=some kvs[i]:=Ah hi;have ev:wAt kvs i=kvs[i].2:=by unfold wAt;rw[e]
   rw[ev];have hl:(merged [] (kvs.take i)).length<=sizeLine:=by
     have:=zds (kvs.take i) [];rw[BG,Bg] at this;omega
   refine EK (hk i _ e) hd (fun h' hd' hs=>h h' _ ?_ hs) hl;have e1:stored (merged [] (kvs.take i)) kvs[i].1 kvs[i].2=merged [] (kvs.take (i+1)):=(merged_take_succ [] kvs i _ e).symm;unfold FK;rw[<-e1];exact hd'
theorem zf6{h:Heap}:∀ {its:List Value} {kvs:List (Key×Value)},its.length=kvs.length->(∀ (j:Nat) (v:Value) (kv:Key×Value),its[j]?=some v->kvs[j]?=some kv->zfb prog w h v kv) ->
   ∃ kxs:List Value,∀ (j:Nat) (v:Value) (kv:Key×Value),its[j]?=some v->kvs[j]?=some kv->∃ p,v=.ref p/\IsTup h p #[xAt kxs j,kv.2]/\(zay prog w).is kv.1 (xAt kxs j)=true
 | [],kvs,_,_=>⟨[],fun j v kv e=>by simp at e⟩
 | v::its,[],e,_=>by cases e
 | v::its,kv::kvs,e,hp=>by
   obtain⟨kxs,hk⟩:=zf6 (its:=its) (kvs:=kvs) (by simpa using e) fun j u q e1 e2=>hp (j+1) u q e1 e2;obtain⟨p,kx,e1,e2,e3⟩:=hp 0 v kv rfl rfl;refine⟨kx::kxs,fun j u q f1 f2=>?_⟩
   cases j with
   | zero =>
     cases f1;cases f2;exact⟨p,e1,e2,e3⟩
   | succ j=>exact hk j u q f1 f2
end
section
variable {X:Cx} {K:Ac} {H:Hp} {io:List Addr} {st st':Sto} {pins:List (Addr×Obj)} {σ:L2.St} {s:Shared}
noncomputable def zoO:GN
 | [.tup ds],st=>(zmG ds).bind fun kds=>if fits kds.length=true then some (.ref st.length,st++[.dk (zeX [] kds)]) else none
 | _,_=>none
theorem zg8(hc:X.calm=true):zeu X (.type "dict") zoO:=by
 rintro pins s σ H xs us Q I r ⟨ds,st,io,d,st',R,S,e,k⟩;unfold zoO at e
 split at e
 . rename_i zs;obtain⟨kds,e1,e⟩:=zac e;obtain⟨hf,e⟩:=zap e;cases e;obtain⟨v,rfl,p,ys,rfl,hp,r1⟩:=R.one;obtain⟨u,rfl,ru⟩:=r.one;cases ru;obtain⟨hz,its,rv,pl⟩:=(show zcD X.prog X.w H s.heap p (.tup ys) from I.hok p _ hp)
   obtain⟨kvV,kvs,a1,a2,a3,a4,a5⟩:=zlq I r1 e1 rv;have hzk:kvs.length<=sizeLine:=by
     rw[a4];exact of_decide_eq_true hf
   obtain⟨kxs,hk⟩:=zf6 a3 a5;have hkk:∀ (j:Nat) (kv:Key×Value),kvs[j]?=some kv->(zay X.prog X.w).is kv.1 (xAt kxs j)=true:=fun j kv e=>by
     have hj:j < its.length:=by rw[a3];exact (List.getElem?_eq_some_iff.mp e).1
     obtain⟨_,_,_,q⟩:=hk j _ kv (Ah hj) e;exact q
   refine zc2 (x:=.t p) (T:=FK X.prog X.w s.heap.objs.size kvs) (key:=xAt kxs) (val:=wAt kvs) (I.ok.hd hc) pl a3 (fun i hi=>zr4 (Aw hi) hzk hkk) (D1 s.heap) (fun j v e=>?_) fun h' tk d' kk=>?_
   . have hj:j < kvs.length:=by
       rw[<-a3];exact (List.getElem?_eq_some_iff.mp e).1
     have ex:kvs[j]?=some kvs[j]:=Ah hj;obtain⟨p',ep,tp,_⟩:=hk j v _ e ex;refine⟨p',ep,?_⟩;unfold wAt;rw[ex];exact tp
   . have d':h'.DictOf (zay X.prog X.w) s.heap.objs.size (merged [] kvs):=by
       have:FK X.prog X.w s.heap.objs.size kvs kvs.length h':=d';unfold FK at this
       rwa [DR] at this
     have hlV:kvV.length=kvs.length:=Bp a2;have hm:(zca [] kvV).length<=sizeLine:=by
       have:=zbE kvV [];rw[Bg] at this;omega
     have hd:(s.heap.objs.size==sysModules)=false:=beq_eq_false_iff_ne.mpr (Bx (Aw I.big));refine⟨.ref s.heap.objs.size,_,I.laid (a:=s.heap.objs.size) (o:=.dK (zca [] kvV)) (t':=tk) kk (Af _) (zjM hm hd (a2.merge .nil) d'),rfl,?_⟩;obtain⟨E',S'⟩:=zgY (o:=.dK (zca [] kvV)) (ob:=.dk (zeX [] kds)) S (I.hok.fresh (Af _)) fun H' T e=>⟨_,e,zid (KR.mono T a1) .nil⟩
     exact k _ _ [s.heap.objs.size] E' S' ⟨s.heap.objs.size,rfl,by rw[<-S.len];exact getElem?_len io _⟩
 . cases e
noncomputable def zmK:GN:=orN zoP zoO
theorem zd2(hc:X.calm=true):zeu X (.type "dict") zmK:=zfL (ziL hc) (zg8 hc)
end
end L2.MP
namespace L2.MP
section
open PySem PySem.Spec PyProof.Rows PySem.Builtin PySem.Builtin.Str
variable {prog:Program} {w:World} {A:Around} {E:Value->Shared->Prop} {s:Shared} {z y:Str} {t u:Tok} {Q:Value->Shared->Prop}
end
section
open PySem PySem.Spec PyProof.Rows
variable {X:Cx} {K:Ac} {H:Hp} {io:List Addr} {st st':Sto} {a b c e:Expr} {es:List Expr} {ma mb mc m:ME} {mm:MA} {pos:Pos}
end
end L2.MP
namespace L2.MP
open PySem
end L2.MP
namespace L2.MP
open PySem PySem.Spec PyProof.Rows
@[irreducible] def JSs (X:Cx) (s:List Stmt) (m:MS):Prop:=SSs X s m
@[irreducible] def JS (X:Cx) (s:Stmt) (m:MS):Prop:=SS X s m
@[irreducible] def JA (X:Cx) (es:List Expr) (m:MA):Prop:=SA X es m
section
variable {X:Cx} {e a b c:Expr} {es:List Expr} {st1 st2:Stmt} {rest body orelse:List Stmt} {pos:Pos} {m ma mb mc:ME} {mt mu:MT} {mm:MA} {ms mq mr:MS} {mg:MG} {mi:MI}
theorem JSs.out(h:JSs X body ms):SSs X body ms:=by unfold JSs at h;exact h
theorem JSs.mk(h:SSs X body ms):JSs X body ms:=by unfold JSs;exact h
theorem JS.out(h:JS X st1 ms):SS X st1 ms:=by unfold JS at h;exact h
theorem JS.mk(h:SS X st1 ms):JS X st1 ms:=by unfold JS;exact h
theorem JA.out(h:JA X es mm):SA X es mm:=by unfold JA at h;exact h
theorem JA.mk(h:SA X es mm):JA X es mm:=by unfold JA;exact h
theorem zbt:JSs X [] zdJ:=.mk zmX
theorem zam(h:JS X st1 ms):JSs X [st1] ms:=.mk (zmW h.out)
theorem zai(h:JS X st1 ms)(h2:JSs X rest mq):JSs X (st1::rest) (mSeq ms mq):=.mk (zkW h.out h2.out)
theorem zfj(hc:SB X c mt)(h1:JSs X body ms)(h2:JSs X orelse mq):JS X (.If c body orelse pos) (mIf mt ms mq):=.mk (zrp hc h1.out h2.out)
theorem zc5{tg iter:Expr}(hp:PassesOwn (model X.prog X.w) X.A X.env X.xe)(hc:X.calm=true)(hi:SI X tg iter mi)(hg:SG X tg mg)(hb:JSs X body ms)(hs:∀ x,foldedSetIterable iter X.env x=pure x:=by intro _;rfl):JS X (.For tg iter body [] pos) (mFor mi mg ms):=.mk (zo2 hp hc hi hg hb.out hs)
theorem zfI{n:Nat}(hp:PassesOwn (model X.prog X.w) X.A X.env X.xe)(hc:SB X c mt)(hb:JSs X body ms):JS X (.While c body [] pos) (mWhF mt ms n):=.mk (zkX hp hc hb.out)
theorem ze0:JA X [] mNil:=.mk zag
theorem zaC(ha:SE X e m)(hr:JA X es mm)(hs:∀ q,starEach (e::q) X.env=(false,eval e X.env)::starEach q X.env:=by intro _;rfl):JA X (e::es) (zae m mm):=.mk (zaa ha hr.out (hs _))
end
section
variable {X:Cx} {K:Ac} {H:Hp} {io:List Addr} {st st':Sto} {a b c e o:Expr} {es:List Expr} {ma mb mc m:ME} {mm:MA} {pos apos cpos:Pos}
noncomputable def zls:D->List D->Sto->Option (D×Sto):=fun x xs st=>match x,xs with
 | .ref n,[]=>match st[n]? with
   | some (.lst ds)=>(ds[ds.length - 1]?).map fun d=>(d,st.set n (.lst ds.dropLast))
   | _=>none
 | _,_=>none
theorem Reps.dropLast:∀ {xs:List V} {ds:List D},Reps K H io xs ds->Reps K H io xs.dropLast ds.dropLast:=by
 intro xs ds r;rw[Ep,Ep,r.length];exact r.take _
theorem zlN:MtR X "list.pop" (mtM X.K zls):=by
 rintro pins s σ H x xs v us Q I rx rs ⟨dx,ds,st,io,d,st',Rx,Rs,S,e,k⟩;unfold zls at e
 split at e
 . rename_i n
   split at e
   . rename_i l e1;obtain⟨y,e2,e⟩:=zaf e;cases e;obtain⟨p,rfl,hp⟩:=Rx
     cases (show xs=[] from Rs)
     obtain⟨ys,hH,r⟩:=S.ob n p _ hp e1;obtain⟨w,hw,rw'⟩:=r.get e2;refine zp7 pins s σ H _ _ v us Q I rx rs ⟨p,ys,w,rfl,rfl,hH,by rw[r.length];exact hw,?_⟩;obtain⟨E',S'⟩:=zdH (o:=.lst ys.dropLast) (ob:=.lst l.dropLast) S hp e1 (fun o u z=>by rw[hH] at z;cases z) fun H' T e'=>⟨_,e',by rw[Ai] at *;exact (Reps.mono (ka:=[]) T r.dropLast) |> fun q=>by rw[Ai] at q;exact q⟩
     exact k _ _ [] E' S' (rw'.ext S E')
   . cases e
 . cases e
noncomputable def zp9(m:ME):ME:=fun ρ st=>(m ρ st).bind fun (x,s1)=>match x with
 | .ref n=>(zbj s1 n).bind fun _=>zls x [] s1
 | _=>none
theorem zm9(ho:SE X o m)(hbase:attributeBase o "pop" X.env (eval o X.env)=eval o X.env:=by rfl)(hline:(apos.endLine==cpos.line)=true:=by rfl):SE X (.Call (.Attribute o "pop" apos) [] [] cpos) (zp9 m) :=
 PE.imp (zpF B4 Em En zlN ho hbase hline) <| by
   rintro σ H Q ⟨ρ,st,io,d,st',E,S,e,k⟩;obtain⟨⟨x,s1⟩,e1,e⟩:=zac e
   cases x with
   | ref n =>
     obtain⟨l,e0,e⟩:=zac e;refine⟨ρ,st,io,_,s1,E,S,e1,fun v1 H1 k1 X1 S1 R1=>⟨zd5 R1 S1 e0,?_⟩⟩;exact⟨_,[],s1,io++k1,d,st',R1,rfl,S1,e,k.on S1 X1⟩
   | _=>cases e
end
section
variable {prog:Program} {w:World} {A:Around}
theorem zhd(hh:A.handled=none)(it d:Addr)(hne:d≠it){o:Obj}{es:Array DictEntry}{ep:Nat}(dd:o.data=.dict es ep) :
   Walks prog w A it [it,d] [it] es.size (fun i v=>∃ en,es[i]?=some en/\v=en.key) (fun i h=>h.IsKeyIter it d i es.size ep/\h.get? d=some o) where
 sub:=fun b hb=>by simp at hb;simp[hb]
 frame:=fun _ _ _ st hk=>⟨st.1.at fun o e=>hk it (by simp) o e,hk d (by simp) o st.2⟩
 item:=fun i s Q E hi st hQ=>by
   have hx:es[i]?=some es[i]:=Array.getElem?_eq_getElem hi;refine zgh st.1 st.2 dd hx fun h' st' sb=>?_;exact hQ _ h' s.toks ⟨_,hx,rfl⟩ ⟨st',(sb.2 d hne).trans st.2⟩ fun b ob hb e=>(sb.2 b (fun z=>hb (by simp[z]))).trans e
 done:=fun s Q E st hQ=>zgg hh st.1 st.2 dd (by simp) fun h' eb=>hQ h' s.toks fun b ob hb e=>eb b ob (fun z=>hb (by simp[z])) e
 self:=fun _ _ _ _ st hQ=>EA st.1 hQ
theorem zhr{d:Addr}{o:Obj}{es:Array DictEntry}{ep:Nat}(dd:o.data=.dict es ep)(hd:(d==sysModules)=false)(ty:∀ s:Shared,s.heap.get? d=some o->s.TypeIs (.ref d) "dict") :
   FQ prog w "dict" d d es.size (fun i v=>∃ en,es[i]?=some en/\v=en.key) (fun h=>h.get? d=some o) where
 type:=ty
 there:=fun _ g=>⟨Al g,Al g⟩
 keep:=fun _ _ g hk=>hk d (.inl rfl) o g
 notList:=by decide
 notTuple:=by decide
 hint:=fun _ _ s _ g hq=>PySem.W.kdl_hint_dict (ty s g) hq
 iter:=fun A' s hh g=>⟨_,_,fun _ _ hq=>zep (ty s g) hd g dd hq,zhd hh _ d (Aw (Al g)) dd,⟨⟨_,Aq _ rfl,rfl,rfl⟩,Ad _ g⟩⟩
end
section
variable {X:Cx} {K:Ac} {H:Hp} {io:List Addr} {st st':Sto}
theorem zen{K:Ac}{H:Hp}{io:List Addr}:∀ {vs:List Value} {ps:List (List Key×V)} {kvs:List (List Key×D)},KR (List Key) K H io ps kvs->vs.length=ps.length->(∀ (j:Nat) (v:Value) (p:List Key×V),vs[j]?=some v->ps[j]?=some p->∃ b,v=.ref b/\H b=some (.tup (p.1.map kV)))->∃ ys,Vals ys vs/\Reps K H io ys (zdK kvs)
 | [],_,_,.nil,_,_=>⟨[],.nil,rfl⟩
 | [],_::_,_,.cons _ _,hl,_=>by simp at hl
 | v::vs,_,_,.nil,hl,_=>by simp at hl
 | v::vs,p::ps,q::kvs,.cons h t,hl,hv=>by
   obtain⟨b,rfl,hb⟩:=hv 0 v p rfl rfl;obtain⟨ys,r1,r2⟩:=zen (vs:=vs) t (by simpa using hl) fun j v p e1 e2=>hv (j+1) v p (by simpa using e1) (by simpa using e2);refine⟨.ref b::ys,.cons rfl r1,Reps.cons ⟨b,_,rfl,hb,?_⟩ r2⟩;rw[h.1];exact zeo _
end
section
variable {X:Cx} {K:Ac} {H:Hp} {io:List Addr} {st st':Sto} {body:List Stmt} {ms:MS} {pos:Pos}
noncomputable def isBD:G2:=orG isND fun x y st=>match x,y with
 | .bl a,.bl b=>some (.bl (a==b),st)
 | _,_=>none
noncomputable def zmH:G2:=orG zqU fun x y st=>match x,y with
 | .bl a,.bl b=>some (.bl (a != b),st)
 | _,_=>none
theorem znM:OpM X (compareOp .Is) isBD:=zfy znL (by
 rintro pins s σ H x y v u Q I rx ry ⟨dx,dy,st,io,d,st',Rx,Ry,S,e,k⟩
 (try dsimp only at e)
 split at e
 . cases e
   cases (show x=_ from Rx)
   cases (show y=_ from Ry)
   cases rx;cases ry;exact PyProof.Rows.is_bool ⟨.bl _,H,I,rfl,k.now S rfl⟩
 . cases e)
theorem zlC:OpM X (compareOp .IsNot) zmH:=zfy zlB (by
 rintro pins s σ H x y v u Q I rx ry ⟨dx,dy,st,io,d,st',Rx,Ry,S,e,k⟩
 (try dsimp only at e)
 split at e
 . cases e
   cases (show x=_ from Rx)
   cases (show y=_ from Ry)
   cases rx;cases ry;exact PyProof.Rows.isnot_bool ⟨.bl _,H,I,rfl,k.now S rfl⟩
 . cases e)
end
section
variable {prog:Program} {w:World} {A:Around} {E:Value->Shared->Prop} {s:Shared}
theorem zk2{at_:Addr}{vs:List Value}{k:Nat}{R:PySem.Fin->Shared->Prop}(hv:vs.length < 2)(g0:s.heap.get? at_=some (seqObj "list" vs.toArray k))(fin:R (.done (.ret .none)) { s with heap:=sortedHeap s.heap at_ vs vs.toArray }) :
   wpAny (model prog w) A (Builtin.«list.sort» ⟨[.ref at_],[]⟩) R E s:=by
 have lt0:=Al g0;have hz:vs.length<=sizeLine:=AF (BJ hv) (by decide);obtain⟨ep,g1⟩:∃ ep,(s.heap.update at_ (Ck fun _=>(#[]:Array Value))).get? at_=some (seqObj "list" #[] ep):=⟨_,get?_update_seq g0 fun _=>#[]⟩
 have g2:(((s.heap.update at_ (Ck fun _=>(#[]:Array Value))).push (seqObj "tuple" vs.toArray 0)).push (seqObj "list" #[] 0)).get? at_=some (seqObj "list" #[] ep):=Ad _ (Ad _ g1);rw[list_sort_plain];refine Aa (listItems_at g0 rfl (Aa (listUpdate_at g0 rfl (Aa (seqEpoch_at g1 rfl (Aa (wpAny_newTuple (Aa (EF (Bf ?_))) (by simpa using hz))))) (by simpa using hz))));show wpAny (model prog w) A _ R E { s with heap:=((s.heap.update at_ (Ck fun _=>(#[]:Array Value))).push (seqObj "tuple" vs.toArray 0)).push (seqObj "list" #[] 0) };have two:vs.toArray.size < 2:=by simpa using hv
 have same:(arrOf (SortSt.mk' general' (vs.toArray.zip vs.toArray) #[] 7 none)).map (·.2)=vs.toArray:=by
   show ((vs.toArray.zip vs.toArray).map (·.2))=vs.toArray;simp;clear two g2 g1 g0 hz fin hv
   induction vs with
   | nil=>rfl
   | cons a r ih=>simpa using ih
 dsimp only;rw[if_pos two,if_pos two];refine Aa (Ae ?_);rw[StateT.run_pure];refine Aa (Ae ?_);dsimp only;rw[same];refine Aa (seqEpoch_at g2 rfl (Aa (listUpdate_at g2 rfl ?_ (hsz2:=by simp;omega))));simp only[bne_self_eq_false,Bi,if_false];exact Ae fin
end
section
variable {X:Cx} {pins:List (Addr×Obj)} {σ:L2.St} {H:Hp} {s:Shared}
theorem Inv.notL(I:Inv X pins σ H s){D:Addr}(h:s.heap.get? D=none):D≠X.env.locals/\X.base.get? D=none/\H D=none:=by
 refine⟨fun z=>?_,?_,?_⟩
 . obtain⟨m,⟨o,_,_,e,_⟩,_⟩:=I.loc;rw[<-z,h] at e;cases e
 . cases e:X.base.get? D with
   | none=>rfl
   | some u=>rw[(I.bs D u e).1] at h;cases h
 . cases e:H D with
   | none=>rfl
   | some o =>
     obtain⟨u,hu⟩:=zga (I.hok D o e);rw[h] at hu;cases hu
theorem zhu{xs:List V}{its:List Value}{D:Addr}{h':Heap}{Q:VK}(I:Inv X pins σ H s)(rv:Vals xs its)(h2:xs.length < 2)(k:∀ b o,s.heap.get? b=some o->h'.get? b=some o)(hD:s.heap.get? D=none)(gD:h'.get? D=some (seqObj "list" its.toArray 0))(h:∀ p,H p=none->Q (.ref p) (upd H p (.lst xs))) :
   wpAny (model X.prog X.w) X.A.in1.in1 (Builtin.«list.sort» ⟨[.ref D],[]⟩) (fun f s'=>f=.done (.ret .none)/\EP X pins σ Q (.ref D) s') (fun _ _=>False) { s with heap:=h' }:=by
 have hlen:=rv.length;have hz:xs.length<=sizeLine:=AF (BJ h2) (by decide);refine zk2 (by omega) gD ⟨rfl,?_⟩;obtain⟨n1,n2,n3⟩:=Inv.notL I hD;obtain⟨ep,e⟩:=sortedHeap_at (out:=its.toArray) gD;have kk:∀ b u,s.heap.get? b=some u->(sortedHeap h' D its its.toArray).get? b=some u:=fun b u q=>by
   have hb:b≠D:=fun z=>by rw[z,hD] at q;cases q
   rw[sortedHeap_old hb (Al (k b u q))];exact k b u q
 have J:Inv X pins σ (upd H D (.lst xs)) { s with heap:=sortedHeap h' D its its.toArray }:=by
   obtain⟨m,F⟩:=I.fr;refine Inv.laidAt (m:=m) I (fun b u _=>kk b u) (fun m' ⟨o,a1,a2,q,a3⟩=>⟨o,a1,a2,kk _ _ q,a3⟩) (let ⟨m',⟨o,_,_,q,_⟩,_⟩:=I.loc;⟨o,kk _ _ q⟩) hD n3 n1 ⟨hz,its,ep,rv,e⟩
 exact⟨.ref D,_,J,rfl,h D n3⟩
theorem zhs{xs:List V}{its:List Value}{ts:List (List Int)}{D:Addr}{h0:Heap}{Q:VK}(I:Inv X pins σ H s)(rv:Vals xs its)(T:ziU H xs ts)(h2:2<=ts.length)(h64:ts.length < 64)(k0:∀ b o,s.heap.get? b=some o->h0.get? b=some o)(hsD:s.heap.get? D=none)(gD:h0.get? D=some (seqObj "list" its.toArray 0))
   (h:∀ (q:Array Nat) (p:Addr),q.Perm (Bv (AN ts.length))->Srt.Up (rank ts) q ts.length->H p=none->Q (.ref p) (upd H p (.lst (q.toList.map fun i=>xs.getD i .non)))) :
   wpAny (model X.prog X.w) X.A.in1.in1 (Builtin.«list.sort» ⟨[.ref D],[]⟩) (fun f s'=>f=.done (.ret .none)/\EP X pins σ Q (.ref D) s') (fun _ _=>False) { s with heap:=h0 }:=by
 have hlen:its.length=ts.length:=by
   have a:=rv.length;have b:=Bp T;omega
 obtain⟨m,F⟩:=I.fr;have trkL:∀ b,H b≠none->b≠X.env.locals:=fun b hb z=>hb (by rw[z];exact I.free);obtain⟨n1,n2,hHD⟩:=Inv.notL I hsD;have nD:∀ p∈zcC X.base s.heap X.env.locals,p.1≠D:=fun p hp z=>by
   have q:=(zel (g:=X.base) (h:=s.heap) (L:=X.env.locals) p hp).1;rw[z,hsD] at q;cases q
 refine Er (s:={ s with heap:=h0 }) (news:=zcC X.base s.heap X.env.locals) (F.kept k0) ((zel (g:=X.base) (h:=s.heap) (L:=X.env.locals)).grown k0) gD n1 n2 nD (by omega) (by omega) fun e1 h' F' N'=>?_;have keep:∀ {h2:Heap} {o:Obj},FI X.base X.env.locals h2 m->News X.base X.env.locals h2 ((D,o)::zcC X.base s.heap X.env.locals)->∀ b u,b≠X.env.locals->s.heap.get? b=some u->h2.get? b=some u:=fun {h2 o} F2 N2 b u hb e=>by
   cases q:X.base.get? b with
   | some v =>
     have z:=(I.bs b v q).1;rw[e] at z;cases z;exact F2.keep b _ q
   | none=>exact (N2 (b,u) (Ag _ (zdV hb q e))).1
 have hk:∀ b o,H b≠none->s.heap.get? b=some o->h'.get? b=some o:=fun b o hb e=>keep F' N' b o (trkL b hb) e;obtain⟨fs,k1,k2,k3⟩:=zin (h':=h') I hk T rv;refine Fv (s:={ s with heap:=h' }) (T:=.type "int") k1 (by omega) (fun v hv=>?_) rfl ?_
 . obtain⟨i,t,rfl⟩:=k3 v hv;exact Es rfl
 have ok:=Srt.sort_ok (n:=its.length) (r:=rank ts) (by omega);refine zqo (n:=its.length) (r:=rank ts) (s:={ s with heap:=h' }) (fun i j hi hj C hC=>zqK (s':={ s with heap:=h' }) I hk T rv (by omega) (by omega) C hC) (fun q hq=>?_) ok;refine EB F' N' (Fj nD) fun h2 c F2 N2=>⟨rfl,?_⟩
 have hD2:=(N2 _ Am).1;rw[hlen] at hq;have vals:Vals (q.toList.map fun i=>xs.getD i .non) (q.toList.map fun i=>its.getD i Bn):=by
   have hmem:∀ i∈q.toList,i < xs.length:=fun i hi=>by
     have:i∈(Bv (AN ts.length)).toList:=(Array.perm_iff_toList_perm.mp hq.1).mem_iff.mp hi;have hr:=rv.length;simp at this;omega
   generalize q.toList=ql at hmem
   induction ql with
   | nil=>exact .nil
   | cons i r ih =>
     refine .cons ?_ (ih fun j hj=>hmem j (Ag _ hj));have hi:=hmem i Am;obtain⟨u,eu,ru⟩:=rv.get (Ah hi);show RelV (xs.getD i V.non) (its.getD i Bn);rw[Ap,Ap,Ah hi,eu];exact ru
 have hql:q.toList.length=ts.length:=by
   have:=(Array.perm_iff_toList_perm.mp hq.1).length_eq;simpa using this
 have J:Inv X pins σ (upd H D (.lst (q.toList.map fun i=>xs.getD i .non))) { s with heap:=h2 } :=
   Inv.laidAt (m:=m) I (keep F2 N2) (fun m' hm'=>by rw[znU hm' F.ns];exact F2.ns) (let ⟨o,_,_,e,_⟩:=F2.ns;⟨o,e⟩) hsD hHD n1 ⟨by rw[Ak,hql];exact lt64 h64,_,c,vals,hD2⟩
 exact⟨.ref D,_,J,rfl,h q D hq.1 hq.2 hHD⟩
end
section
variable {X:Cx} {K:Ac} {H:Hp} {io:List Addr} {st st':Sto}
theorem zdP{Q:VK}{xs:List V}{ts:List (List Int)}{p:Addr}{q:Array Nat}(S:StR K H io st)(r1:Reps K H io xs (ts.map tupD))(hq:q.Perm (Bv (AN ts.length)))(hu:Srt.Up (rank ts) q ts.length)(hf:H p=none)(k:Bh K io H (st++[.lst ((zj1 ts).map tupD)]) (.ref st.length) Q):Q (.ref p) (upd H p (.lst (q.toList.map fun i=>xs.getD i .non))):=by
 have hm:∀ i∈q.toList,i < ts.length:=fun i hi=>by
   have:=(Array.perm_iff_toList_perm.mp hq).mem_iff.mp hi;simpa using this
 have rr:=zf5 r1 hm;rw[zdS hq hu] at rr;exact k.lst S rr hf
noncomputable def zqO:G2
 | .tup a,.tup b,st=>if (a.isEmpty&&fits b.length)=true then some (.tup b,st) else none
 | _,_,_=>none
theorem zlF:OpM X (binaryOp .Add) zqO:=by
 rintro pins s σ H x y v u Q I rx ry ⟨dx,dy,st,io,d,st',Rx,Ry,S,e,k⟩;unfold zqO at e
 split at e
 . rename_i i j;obtain⟨hf,e⟩:=zap e;cases e;rw[Av] at hf;obtain⟨p,xs,rfl,hp,r1⟩:=Rx;obtain⟨q,ys,rfl,hq,r2⟩:=id Ry;cases rx;cases ry;obtain⟨m,F⟩:=I.fr;obtain⟨its,w1,p1,_⟩:=I.tuple (SqT.of hp);obtain⟨its2,w2,p2,_⟩:=I.tuple (SqT.of hq);have e0:its=[]:=by
     have a:=r1.length;have b:=w1.length;have c:i=[]:=by simpa using hf.1
     rw[c] at a;exact Ce (by have a':xs.length=0:=a;omega)
   have hz:its2.length<=sizeLine:=by
     have a:=r2.length;have b:=w2.length;have c:=of_decide_eq_true hf.2;omega
   exact PyProof.Rows.add_tuples F (news:=[]) (fun p hp=>nomatch hp) p1 p2 (fun _=>⟨.ref q,H,I,rfl,k.now S Ry⟩) (fun z _=>absurd e0 z) (fun z _=>absurd e0 z) (by rw[e0];simpa using hz)
 . cases e
noncomputable def addE:G2:=orG addD zqO
theorem zkh:OpM X (binaryOp .Add) addE:=zfy zaF zlF
end
end L2.MP
namespace L2.MP
open PySem PySem.Spec PyProof.Rows PySem.SeqAt PySem.MeetsSeq PySem.MeetsSeq2 PySem.MeetsSeq3
section
variable {prog:Program} {w:World} {A:Around} {E:Value->Shared->Prop} {s:Shared}
theorem ze2{t sl:Addr}{items:Array Value}{vl vu:Value}{lo hi:Option Int}{Q:Value->Shared->Prop}(ht:IsTup s.heap t items)(hs:s.heap.IsSliceOf sl vl vu .none)(pl:IsPart vl lo)(pu:IsPart vu hi)
   (h0:HT.sIx items.size 0 lo=0) (h1:HT.sIx items.size items.size hi=items.size) (h:Q (.ref t) s):wpAny (model prog w) A (getItem (.ref t) (.ref sl)) Q E s:=by
 obtain⟨os,hos,hcs,hds⟩:=id hs;have hTs:s.TypeIs (.ref sl) "slice":=⟨os,hos,hcs⟩
 unfold getItem
 try with_reducible refine Bf ?_
 first | refine Aa (Ae ?_) | skip
 refine Aa (Fc ht.typeIs (by decide) (Aa (A6 (name:=BB "__getitem__") ht.typeIs BA (Bb BA ht.typeIs EG ?_ (EU _ _)))));show wpAny _ _ (Dv (.ref t) >>= _) _ _ s;refine Aa (tupleItemsOf_ ht (Aa (Cw hTs ?_)));rw[if_pos (by decide)];refine Aa (HT.sliceApplied_gen hs pl pu ?_);rw[h0,h1];have yes:((((0:Nat):Int)==0&&(1:Int)==1&&(items.size - 0)==items.size)=true):=by simp
 show wpAny _ _ (if (((0:Nat):Int)==0&&(1:Int)==1&&(items.size - 0)==items.size)=true then _ else _) _ _ s;rw[if_pos yes];refine Aa (m:=Builtin.Tuple.tupleIsExact _) (Aa (Cw ht.typeIs (Ae ?_)));rw[if_pos (by decide)];exact Aa (m:=(pure (Fin.done (Flow.ret (AM t))):Sem Fin)) (Ae (Ae ⟨_,rfl,Ae h⟩))
end
section
variable {X:Cx} {K:Ac} {H:Hp} {io:List Addr} {st st':Sto} {e:Expr} {m:ME} {pos:Pos}
noncomputable def rSlW(K:Ac):V->Option Int->Option Int->Hp->VK->Prop:=fun x lo hi H Q=>∃ a xs,x=.ref a/\SqT K H a xs/\HT.sIx xs.length 0 lo=0/\HT.sIx xs.length xs.length hi=xs.length/\Q (.ref a) H
theorem zk5:SlR X (rSlW X.K):=by
 intro pins s σ H x v vl vu lo hi sl Q I rx hs pl pu h;obtain⟨a,xs,rfl,hx,h0,h1,q⟩:=h;cases rx;obtain⟨its,r,ht,hz⟩:=I.tuple hx;have hlen:its.toArray.size=xs.length:=by rw[Au];exact r.length.symm
 exact⟨"tuple",_,PyProof.Rows.slot_tuple_getitem.lookup,ht.typeIs,ze2 ht hs pl pu (by rw[hlen];exact h0) (by rw[hlen];exact h1) ⟨.ref a,H,I,rfl,q⟩⟩
noncomputable def slW:D->Option Int->Option Int->Sto->Option (D×Sto):=fun x lo hi st=>match x with
 | .tup ds=>if (decide (HT.sIx ds.length 0 lo=0)&&decide (HT.sIx ds.length ds.length hi=ds.length))=true then some (.tup ds,st) else none
 | _=>none
noncomputable def slC:D->Option Int->Option Int->Sto->Option (D×Sto):=fun x lo hi st=>orO (slB x lo hi st) (slW x lo hi st)
noncomputable def mSlC(m:ME)(l h:MO):ME:=fun ρ st=>(m ρ st).bind fun (x,s1)=>(l ρ s1).bind fun (lo,s2)=>(h ρ s2).bind fun (hi,s3)=>slC x lo hi s3
theorem zf1{lo hi:Option Expr}{ml mh:MO}{p2:Pos}(he:SE X e m)(hl:SO X lo ml)(hu:SO X hi mh):SE X (.Subscript e (.Slice lo hi none p2) pos) (mSlC m ml mh):=by
 rintro pins s σ H Q I ⟨ρ,st,io,d,st',E,S,e0,k⟩;obtain⟨⟨x,s1⟩,e1,e0⟩:=zac e0;obtain⟨⟨lo',s2⟩,e2,e0⟩:=zac e0;obtain⟨⟨hi',s3⟩,e3,e0⟩:=zac e0
 rcases zbz e0 with e0 | e0
 . exact zcu he hl hu pins s σ H Q I ⟨ρ,st,io,d,st',E,S,by simp only[mSlB,e1,e2,e3,Ab];exact e0,k⟩
 . refine zee zk5 he hl hu pins s σ H Q I ?_;refine⟨ρ,st,io,x,s1,E,S,e1,fun v1 H1 k1 X1 S1 R1=>⟨ρ,s1,io++k1,lo',s2,E.ext S X1,S1,e2,fun H2 k2 X2 S2=>⟨ρ,s2,(io++k1)++k2,hi',s3,(E.ext S X1).ext S1 X2,S2,e3,fun H3 k3 X3 S3=>?_⟩⟩⟩;have R3:=(R1.ext S1 X2).ext S2 X3;have k':=((k.on S1 X1).on S2 X2).on S3 X3;unfold slW at e0
   split at e0
   . rename_i ds;obtain⟨hw,e0⟩:=zap e0;cases e0;rw[Av] at hw;obtain⟨p,xs,rfl,hp,r⟩:=id R3;exact⟨p,xs,rfl,SqT.of hp,by rw[r.length];exact of_decide_eq_true hw.1,by rw[r.length];exact of_decide_eq_true hw.2,k'.now S3 R3⟩
   . cases e0
end
end L2.MP
namespace L2.MP
open PySem L2 PySem.Spec PyProof.Rows
section
variable {K:Ac} {x:Str} {st:Stmt} {f:Addr}
structure FdIn(K:Ac)(x:Str)(st:Stmt)(f:Addr):Prop where
 ex:∃ (oc:Value) (od:Option Addr) (kV dc pm:Value) (an:Option Addr) (cd ct:Value) (sl:Array (Option Value)),K.lookup f=some ⟨oc,od,.func (BK x x (zdt st) (zcd st) (zal st) .none kV dc pm an cd ct),sl⟩/\CF K cd x=true
 ns:A8 K mainGlobals x=some (some (.ref f))
 kp:BU K (.ref f)=true
theorem zcy{oc kV dc pm cd ct:Value}{od an:Option Addr}{sl:Array (Option Value)}(a:A8 K mainGlobals x=some (some (.ref f)))(l:K.lookup f=some ⟨oc,od,.func (BK x x (zdt st) (zcd st) (zal st) .none kV dc pm an cd ct),sl⟩)(c:CF K cd x=true)(k:BU K (.ref f)=true):FdIn K x st f :=
 ⟨⟨oc,od,kV,dc,pm,an,cd,ct,sl,l,c⟩,a,k⟩
theorem zaM{h:Heap}{mg:Str->Option Value}{ps:List Str}(F:FdIn K x st f)(X:K.In h)(G:h.Ns mainGlobals mg)(b:∀ (kV doc pm:Value) (an:Option Addr) (cdv ct:Value) (us:List Value),us.length=ps.length->bindArgs (BK x x (zdt st) (zcd st) (zal st) .none kV doc pm an cdv ct) ⟨us,[]⟩=pure (ps.zip us)):Laid K mg x st ps:=by
 obtain⟨⟨oc,od,kV,dc,pm,an,cd,ct,sl,l,c⟩,a,k⟩:=F;exact⟨_,_,zmc l c k,Dz X G a,(zmc l c k).binds b⟩
end
theorem len1{α:Type}{P:List α->Prop}(h:∀ a,P [a])(l:List α)(e:l.length=1):P l:=by
 rcases l with _ | ⟨a,_ | ⟨b,l⟩⟩
 . cases e
 . exact h a
 . cases e
theorem len2{α:Type}{P:List α->Prop}(h:∀ a b,P [a,b])(l:List α)(e:l.length=2):P l:=by
 rcases l with _ | ⟨a,l⟩
 . cases e
 . exact len1 (P:=fun l=>P (a::l)) (h a) l (DT e)
theorem len3{α:Type}{P:List α->Prop}(h:∀ a b c,P [a,b,c])(l:List α)(e:l.length=3):P l:=by
 rcases l with _ | ⟨a,l⟩
 . cases e
 . exact len2 (P:=fun l=>P (a::l)) (h a) l (DT e)
theorem len4{α:Type}{P:List α->Prop}(h:∀ a b c d,P [a,b,c,d])(l:List α)(e:l.length=4):P l:=by
 rcases l with _ | ⟨a,l⟩
 . cases e
 . exact len3 (P:=fun l=>P (a::l)) (h a) l (DT e)
theorem len5{α:Type}{P:List α->Prop}(h:∀ a b c d f,P [a,b,c,d,f])(l:List α)(e:l.length=5):P l:=by
 rcases l with _ | ⟨a,l⟩
 . cases e
 . exact len4 (P:=fun l=>P (a::l)) (h a) l (DT e)
end L2.MP
namespace L2.MP
open PySem PySem.Spec PyProof.Rows
section
variable {prog:Program} {w:World} {A:Around} {E:Value->Shared->Prop} {s:Shared}
theorem zfX{T:String}{r d:Addr}{n:Nat}{P:Nat->Value->Prop}{OK:Heap->Prop}{R:Value->Shared->Prop}(K:FQ prog w T r d n P OK)(hh:A.handled=none)(hok:OK s.heap)(hz:n<=sizeLine)
   (go:∀ (D:Addr) (h':Heap) (tk:Nat) (vs:List Value),(∀ b o,s.heap.get? b=some o->h'.get? b=some o)->s.heap.get? D=none->h'.get? D=some (seqObj "list" vs.toArray 0)->vs.length=n->(∀ (j:Nat) (v:Value),vs[j]?=some v->P j v)->wpAny (model prog w) A.in1.in1 (Builtin.«list.sort» ⟨[.ref D],[]⟩) (fun f s'=>f=.done (.ret .none)/\R (.ref D) s') (fun _ _=>False) { s with heap:=h',toks:=tk }) :
   wpAny (model prog w) A (call (.builtin "sorted") [.ref r]) R E s:=by
 refine Cv kind_sorted plain_sorted entry_sorted (args_sorted1 _) ?_;unfold Builtin.«sorted»;refine Aa (m:=checkCount "sorted" 1 1 _) (Ae (Aa (PySem.W.kdu_collect (A:=A.in1) K hh hok hz fun h1 tk acc k1 hacc=>Aa (EF ?_ (by rw[Bu,hacc.1];exact hz)))));have g0:(h1.push (seqObj "list" acc.toList.toArray 0)).get? h1.objs.size=some (seqObj "list" acc.toList.toArray 0):=Aq _ rfl;have fr:s.heap.get? h1.objs.size=none:=by
   cases e:s.heap.get? h1.objs.size with
   | none=>rfl
   | some u=>exact absurd (Al (k1 _ _ e)) (AX _)
 refine Aa (Bf (Bb slot_list_sort ⟨_,g0,rfl⟩ entry_list_sort (Br (go _ _ tk acc.toList (fun b u e=>Ad _ (k1 b u e)) fr g0 (by rw[Bu,hacc.1]) fun j v e=>hacc.2 j v (by rw[<-BQ];exact e)) (fun f s' ⟨e,r⟩=>?_) fun _ _ x=>x.elim) (args_list_sort _)));subst e;exact⟨_,rfl,Ae ⟨_,rfl,r⟩⟩
end
section
variable {X:Cx} {K:Ac} {H:Hp} {io:List Addr} {st st':Sto}
noncomputable def zcj:GN
 | [.ref n],st=>match st[n]? with
   | some (.dt kvs)=>if fits kvs.length=true then (if decide ((zdK kvs).length < 2)=true then some (.ref st.length,st++[.lst (zdK kvs)]) else (rowsOf (zdK kvs)).bind fun ts=>if (decide (2<=ts.length)&&decide (ts.length < 64))=true then some (.ref st.length,st++[.lst ((zj1 ts).map tupD)]) else none) else none
   | _=>none
 | _,_=>none
theorem Inv.tk{pins:List (Addr×Obj)}{σ:L2.St}{s:Shared}(I:Inv X pins σ H s)(t':Nat):Inv X pins σ H { s with toks:=t' }:=Inv.step (t':=t') (ch:=[]) (g':=s.gens) (d':=s.drawn) I (fun b hb=>absurd hb (by simp)) (fun b u _ _ _ e _=>e) (fun b u _ _ _ e _=>⟨u.slots,e⟩) (fun b u _ e n=>n) (fun b u _ e=>⟨u,e⟩)
   (fun b xs e=>e) (fun b u v e=>e) (fun b ps e=>⟨#[],by rw[e];simp⟩) (fun m h=>h) (fun b u e=>I.hok b u e) I.bare
theorem ze8(hc:X.calm=true):zeu X (.builtin "sorted") zcj:=by
 rintro pins s σ H xs us Q I r ⟨ds,st,io,d,st',R,S,e,k⟩;unfold zcj at e
 split at e
 . rename_i n
   split at e
   . rename_i kvs en;obtain⟨hf,e⟩:=zap e;obtain⟨v,rfl,p,rfl,hp⟩:=R.one;obtain⟨u,rfl,ru⟩:=r.one;cases ru;obtain⟨ps,hH,rk⟩:=S.ob n p _ hp en;obtain⟨t1,t2,hs⟩:=zfJ I (.inr ⟨ps,.inl hH⟩);obtain⟨z,y,xs,r0,o,es,ep,g,ex,dd,et,nd⟩:=I.hok p _ hH;have x:=I.hok p _ hH;have fz:zcD X.prog X.w H s.heap p (.frz o (.dT ps)):=⟨g,x⟩
     obtain⟨g',hl,ent⟩:=zdu fz dd;have hsz:es.size<=sizeLine:=by
       rw[hl,KR.length rk];exact of_decide_eq_true hf
     refine zfX (zhr (prog:=X.prog) (w:=X.w) dd hs (fun s' g'=>?_)) (I.ok.hd hc) g hsz fun D h' tk vs hk hD gD hvl hvs=>?_
     . obtain⟨o',ho',hc'⟩:=t1;rw[g] at ho';cases ho';exact⟨o,g',hc'⟩
     . obtain⟨ys,rv,rr⟩:=zen (vs:=vs) rk (by rw[hvl,hl]) fun j v q e1 e2=>by
         obtain⟨en',h1,h2⟩:=hvs j v e1;obtain⟨en2,b,h3,h4,h5,_⟩:=ent j q.1 q.2 e2;rw[h1] at h3;cases h3;exact⟨b,by rw[h2,h4],h5⟩
       have hyl:ys.length=(zdK kvs).length:=rr.length
       split at e
       . rename_i h2;cases e;exact zhu (s:={ s with toks:=tk }) (Inv.tk I tk) rv (by rw[hyl];exact of_decide_eq_true h2) hk hD gD fun q hf=>k.lst S rr hf
       . obtain⟨ts,e1,e⟩:=zac e;obtain⟨h2,e⟩:=zap e;cases e;rw[Av] at h2;obtain⟨T,hd⟩:=zhH rr e1;rw[hd] at rr;exact zhs (s:={ s with toks:=tk }) (Inv.tk I tk) rv T (of_decide_eq_true h2.1) (of_decide_eq_true h2.2) hk hD gD fun q p' hq hu hf=>zdP S rr hq hu hf k
   . cases e
 . cases e
end
end L2.MP
namespace L2.MP
open PySem L2 PySem.Spec PyProof.Rows
end L2.MP
namespace L2.MP
open PySem PySem.Spec PyProof.Rows
section
variable {X:Cx} {K:Ac} {H:Hp} {io:List Addr}
noncomputable def ltSD:G2:=fun x y st=>match x,y with
 | .str a,.str b=>some (.bl (decide (a.cps.toList < b.cps.toList)),st)
 | _,_=>none
theorem znK:OpM X (compareOp .Lt) ltSD:=by
 rintro pins s σ H x y v u Q I rx ry ⟨dx,dy,st,io,d,st',Rx,Ry,S,e,k⟩;unfold ltSD at e
 split at e
 . cases e
   cases (show x=_ from Rx)
   cases (show y=_ from Ry)
   obtain⟨t,rfl⟩:=rx;obtain⟨t,rfl⟩:=ry;exact lt_str ⟨.bl _,H,I,rfl,k.now S rfl⟩
 . cases e
noncomputable def ltTD:G2:=fun x y st=>match x,y with
 | .tup a,.tup b=>(intsOf a).bind fun ns=>(intsOf b).map fun ms=>(.bl (HT.lexLt ns ms),st)
 | _,_=>none
theorem znJ(hu:X.A.units+100 < cLine):OpM X (compareOp .Lt) ltTD:=by
 rintro pins s σ H x y v u Q I rx ry ⟨dx,dy,st,io,d,st',Rx,Ry,S,e,k⟩;unfold ltTD at e
 split at e
 . obtain⟨ns,e1,e⟩:=zac e;obtain⟨ms,e2,e⟩:=zaf e;cases e;obtain⟨p,xs,ex,hp,r1⟩:=Rx;obtain⟨q,ys,ey,hq,r2⟩:=Ry
   cases (ints_rep r1 e1).1
   cases (ints_rep r2 e2).1
   exact zpN (by omega) pins s σ H x y v u Q I rx ry ⟨p,q,ns,ms,ex,ey,SqT.of hp,SqT.of hq,k.now S rfl⟩
 . cases e
noncomputable def ltB:G2:=orG ltD (orG ltSD ltTD)
theorem zpO(hu:X.A.units+100 < cLine):OpM X (compareOp .Lt) ltB:=zfy zjp (zfy znK (znJ hu))
end
end L2.MP
namespace L2.MP
open PySem PySem.Spec
end L2.MP
namespace L2.MP
open PySem PySem.Spec PyProof.Rows
end L2.MP
namespace L2.MP
open PySem PySem.Spec
end L2.MP
namespace L2.MP
open PySem PySem.Spec PyProof.Rows
section
variable {X:Cx} {K:Ac} {H:Hp} {io:List Addr} {st st':Sto} {pos:Pos}
noncomputable def zlR(a b c:Str)(m1 m2 m3:ME):ME:=fun ρ st=>(m1 ρ (st++[.dk []])).bind fun (x,s1)=>(m2 ρ s1).bind fun (y,s2)=>(m3 ρ s2).bind fun (z,s3)=>match s3[st.length]? with
 | some (.dk [])=>some (.ref st.length,s3.set st.length (.dk [(.inr a,x),(.inr b,y),(.inr c,z)]))
 | _=>none
theorem zp8{a b c:Str}(h:(a≠b/\a≠c)/\b≠c)(x y z:V):zca [] [(.inr a,x),(.inr b,y),(.inr c,z)]=[(.inr a,x),(.inr b,y),(.inr c,z)]:=by
 obtain⟨⟨h1,h2⟩,h3⟩:=h;simp[zca,putK,h1,h2,h3]
theorem zld{e1 e2 e3 k1 k2 k3:Expr}{a b c:Str}{m1 m2 m3:ME}(q1:SE X k1 (mCon (.str a)))(h1:SE X e1 m1)(q2:SE X k2 (mCon (.str b)))(h2:SE X e2 m2)(q3:SE X k3 (mCon (.str c)))(h3:SE X e3 m3)(hd:(a≠b/\a≠c)/\b≠c) :
   SE X (.Dict [some k1,some k2,some k3] [e1,e2,e3] pos) (zlR a b c m1 m2 m3) :=
 PE.imp (zkf (zdm q1 h1 (zdm q2 h2 (zdm q3 h3 zke))) rfl rfl (by simp) (by simp)) <| by
   rintro σ H Q ⟨ρ,st,io,d,st',E,S,e,k⟩;obtain⟨⟨x,s1⟩,e1,e⟩:=zac e;obtain⟨⟨y,s2⟩,e2,e⟩:=zac e;obtain⟨⟨z,s3⟩,e3,e⟩:=zac e;intro p hp;obtain⟨E',S'⟩:=zgY (o:=.dK []) (ob:=.dk []) S hp fun H' T e=>⟨[],e,.nil⟩
   have E0:=E.ext S E';refine⟨ρ,_,_,_,_,E0,S',rfl,fun w1 H1 j1 X1 S1 R1=>?_⟩;refine⟨ρ,_,_,x,s1,E0.ext S' X1,S1,e1,fun v1 H2 j2 X2 S2 R2=>?_⟩;have E2:=(E0.ext S' X1).ext S1 X2;refine⟨ρ,_,_,_,_,E2,S2,rfl,fun w2 H3 j3 X3 S3 R3=>?_⟩;refine⟨ρ,_,_,y,s2,E2.ext S2 X3,S3,e2,fun v2 H4 j4 X4 S4 R4=>?_⟩;have E4:=(E2.ext S2 X3).ext S3 X4;refine⟨ρ,_,_,_,_,E4,S4,rfl,fun w3 H5 j5 X5 S5 R5=>?_⟩;refine⟨ρ,_,_,z,s3,E4.ext S4 X5,S5,e3,fun v3 H6 j6 X6 S6 R6=>?_⟩;dsimp only at e
   split at e
   . rename_i eq2;cases e;have hlen:io.length=st.length:=S.len;have hp0:(((((((io++[p])++j1)++j2)++j3)++j4)++j5)++j6)[st.length]?=some p:=by
       simp only[An];rw[AK (by omega),hlen,BM];rfl
     obtain⟨ps,hH,r⟩:=S6.ob st.length p _ hp0 eq2;cases r
     cases (show w1=.str a from R1)
     cases (show w2=.str b from R3)
     cases (show w3=.str c from R5)
     refine⟨hH,[(.inr a,v1),(.inr b,v2),(.inr c,v3)],rfl,by simp,?_⟩;rw[zp8 hd];have r1:=(((R2.ext S2 X3).ext S3 X4).ext S4 X5).ext S5 X6;have r2:=(R4.ext S4 X5).ext S5 X6;obtain⟨E7,S7⟩:=zdH (o:=.dK [(.inr a,v1),(.inr b,v2),(.inr c,v3)]) (ob:=.dk [(.inr a,x),(.inr b,y),(.inr c,z)]) S6 hp0 eq2 (fun o u z=>by rw[hH] at z;cases z) fun H' T e'=>⟨_,e',.cons ⟨rfl,Rep.mono T r1⟩ (.cons ⟨rfl,Rep.mono T r2⟩ (.cons ⟨rfl,Rep.mono T R6⟩ .nil))⟩
     have k':=((((((k.on S' E').on S1 X1).on S2 X2).on S3 X3).on S4 X4).on S5 X5).on S6 X6;exact k' _ _ [] E7 S7 ⟨p,rfl,by rw[Ai];exact hp0⟩
   . cases e
end
section
variable {X:Cx} {K:Ac} {H:Hp} {io:List Addr} {st st':Sto} {pos:Pos}
noncomputable def zig(n1 m1 n2 m2:ME):ME:=fun ρ st=>(n1 ρ (st++[.dk []])).bind fun (a,s0)=>(m1 ρ s0).bind fun (x,s1)=>(n2 ρ s1).bind fun (b,s2)=>(m2 ρ s2).bind fun (y,s3)=>match a,b,s3[st.length]? with
 | .str a,.str b,some (.dk [])=>if decide (a≠b)=true then some (.ref st.length,s3.set st.length (.dk [(.inr a,x),(.inr b,y)])) else none
 | _,_,_=>none
theorem zle{e1 e2 k1 k2:Expr}{n1 n2 m1 m2:ME}(q1:SE X k1 n1)(h1:SE X e1 m1)(q2:SE X k2 n2)(h2:SE X e2 m2) :
   SE X (.Dict [some k1,some k2] [e1,e2] pos) (zig n1 m1 n2 m2) :=
 PE.imp (zkf (zdm q1 h1 (zdm q2 h2 zke)) rfl rfl (by simp) (by simp)) <| by
   rintro σ H Q ⟨ρ,st,io,d,st',E,S,e,k⟩;obtain⟨⟨ka,s0⟩,e0,f1⟩:=zac e;obtain⟨⟨x,s1⟩,e1,f2⟩:=zac f1;obtain⟨⟨kb,s2⟩,e2,f3⟩:=zac f2;obtain⟨⟨y,s3⟩,e3,f4⟩:=zac f3;clear e f1 f2 f3;intro p hp;obtain⟨E',S'⟩:=zgY (o:=.dK []) (ob:=.dk []) S hp fun H' T e=>⟨[],e,.nil⟩
   have E0:=E.ext S E';refine⟨ρ,_,_,ka,s0,E0,S',e0,fun w1 H1 j1 X1 S1 R1=>?_⟩;refine⟨ρ,_,_,x,s1,E0.ext S' X1,S1,e1,fun v1 H2 j2 X2 S2 R2=>?_⟩;have E2:=(E0.ext S' X1).ext S1 X2;refine⟨ρ,_,_,kb,s2,E2,S2,e2,fun w2 H3 j3 X3 S3 R3=>?_⟩;refine⟨ρ,_,_,y,s3,E2.ext S2 X3,S3,e3,fun v2 H4 j4 X4 S4 R4=>?_⟩;dsimp only at f4
   split at f4
   . rename_i a b eq2;obtain⟨hd,e⟩:=zap f4;have hd:=of_decide_eq_true hd;cases e;have hlen:io.length=st.length:=S.len;have hp0:(((((io++[p])++j1)++j2)++j3)++j4)[st.length]?=some p:=by
       simp only[An];rw[AK (by omega),hlen,BM];rfl
     obtain⟨ps,hH,r⟩:=S4.ob st.length p _ hp0 eq2;cases r
     cases (show w1=.str a from R1)
     cases (show w2=.str b from R3)
     refine⟨hH,[(.inr a,v1),(.inr b,v2)],rfl,by simp,?_⟩;rw[show zca [] [(Cg a,v1),(Cg b,v2)]=[(Cg a,v1),(Cg b,v2)] by simp[zca,putK,hd]];have r1:=(R2.ext S2 X3).ext S3 X4;obtain⟨E7,S7⟩:=zdH (o:=.dK [(.inr a,v1),(.inr b,v2)]) (ob:=.dk [(.inr a,x),(.inr b,y)]) S4 hp0 eq2 (fun o u z=>by rw[hH] at z;cases z) fun H' T e'=>⟨_,e',.cons ⟨rfl,Rep.mono T r1⟩ (.cons ⟨rfl,Rep.mono T R4⟩ .nil)⟩
     have k':=((((k.on S' E').on S1 X1).on S2 X2).on S3 X3).on S4 X4;exact k' _ _ [] E7 S7 ⟨p,rfl,by rw[Ai];exact hp0⟩
   . cases f4
end
def zmB(a d:Addr)(h:Heap):Prop:=h.get? a=some { cls:=.type "dict_items",data:=.fields #[.ref d] }
theorem zkN{P:Program}{w:World}{H:Hp}{h:Heap}{a d:Addr}(x:zmB a d h):zcD P w H h a (.ext (zmB a d)):=⟨x,⟨_,x⟩,fun _ _ y k=>k _ y⟩
noncomputable abbrev tp (t:Spr):HO:=.tup [.str t.1,.int t.2]
noncomputable def updP(H:Hp):List (Addr×Spr)->Hp
 | []=>H
 | p::r=>upd (updP H r) p.1 (tp p.2)
theorem zcr{H:Hp}{b:Addr}:∀ {ps:List (Addr×Spr)},b ∉ ps.map (·.1)->updP H ps b=H b
 | [],_=>rfl
 | p::r,h=>by
   have h1:b≠p.1:=fun z=>h (by simp[z]);show upd (updP H r) p.1 (tp p.2) b=H b;rw[zaA h1];exact zcr fun z=>h (Ag _ z)
theorem zfQ{H:Hp}:∀ {ps:List (Addr×Spr)},(ps.map (·.1)).Nodup->∀ p∈ps,updP H ps p.1=some (tp p.2)
 | [],_,p,h=>absurd h (by simp)
 | q::r,nd,p,h=>by
   rw[Ao,Cr] at nd;show upd (updP H r) q.1 (tp q.2) p.1=some (tp p.2)
   rcases List.mem_cons.mp h with rfl | h
   . exact zba
   . rw[zaA (fun z=>nd.1 (List.mem_map.mpr ⟨p,h,z⟩))];exact zfQ nd.2 p h
theorem zhg{K:Ac}{H:Hp}{io:List Addr}{st:Sto}(S:StR K H io st):∀ {ps:List (Addr×Spr)},(∀ p∈ps,H p.1=none)->(ps.map (·.1)).Nodup->Ext io [] H (updP H ps)/\StR K (updP H ps) (io++[]) st
 | [],_,_=>⟨Ext.refl,by rw[Ai];exact S⟩
 | q::r,h,nd=>by
   rw[Ao,Cr] at nd;obtain⟨E,S1⟩:=zhg S (ps:=r) (fun p hp=>h p (Ag _ hp)) nd.2;have hq:updP H r q.1=none:=by rw[zcr nd.1];exact h q Am
   obtain⟨E2,S2⟩:=zdU (o:=tp q.2) S1 hq;refine⟨E.trans S1 E2,?_⟩;rw[Ai] at S2;exact S2
section
variable {X:Cx} {pins:List (Addr×Obj)} {σ:L2.St} {H:Hp} {s:Shared}
theorem Inv.laidP{h':Heap}{t':Nat}{ps:List (Addr×Spr)}(I:Inv X pins σ H s)(k:∀ b u,s.heap.get? b=some u->h'.get? b=some u)(hp:∀ p∈ps,s.heap.objs.size<=p.1)(nd:(ps.map (·.1)).Nodup)
   (new:∀ p∈ps,∃ t1 t2,h'.get? p.1=some { cls:=.type "tuple",data:=.seq #[.str p.2.1 t1,.int p.2.2 t2] }):Inv X pins σ (updP H ps) { s with heap:=h',toks:=t' }:=by
 have out:∀ b u,s.heap.get? b=some u->b ∉ ps.map (·.1):=fun b u e z=>by
   obtain⟨p,hm,rfl⟩:=List.mem_map.mp z;exact absurd (Al e) (Nat.not_lt.mpr (hp p hm))
 have outH:∀ b u,H b=some u->b ∉ ps.map (·.1):=fun b u e=>by
   obtain⟨v,hv⟩:=zga (I.hok b u e);exact out b v hv
 refine I.un ⟨fun b o e n _ _=>k b o e,fun b o e n _ _=>⟨o.slots,k b o e⟩,fun b o e n _=>by rw[zcr (out b o e)];exact n,fun b o e _=>⟨o,k b o e⟩,fun b xs e=>by rw[zcr (outH b _ e)];exact e,fun b o u e=>by rw[zcr (outH b _ e)];exact e,fun b q e=>⟨#[],by rw[zcr (outH b _ e),e];simp⟩⟩ fun b u e=>?_
 by_cases hb:b∈ps.map (·.1)
 . obtain⟨p,hm,rfl⟩:=List.mem_map.mp hb;rw[zfQ nd p hm] at e;cases e;obtain⟨t1,t2,g⟩:=new p hm;exact⟨by show 2<=sizeLine;decide,[.str p.2.1 t1,.int p.2.2 t2],.cons ⟨t1,rfl⟩ (.cons ⟨t2,rfl⟩ .nil),⟨_,g,rfl,rfl,_,rfl⟩⟩
 . rw[zcr hb] at e;exact (I.hok b u e).stay (fun c v _ q=>k c v q) (fun c q=>by rw[zcr (outH c _ q)];exact q) fun c xs q=>by rw[zcr (outH c _ q)];exact q
theorem zht{xs:List V}{its:List Value}{ts:List Spr}{D:Addr}{h0:Heap}{Q:VK}(I:Inv X pins σ H s)(rv:Vals xs its)(T:zmL H xs ts)(h2:2<=ts.length)(h64:ts.length < 64)(k0:∀ b o,s.heap.get? b=some o->h0.get? b=some o)(hsD:s.heap.get? D=none)(gD:h0.get? D=some (seqObj "list" its.toArray 0))
   (h:∀ (q:Array Nat) (p:Addr),q.Perm (Bv (AN ts.length))->Srt.Up (rank (ts.map enc)) q ts.length->H p=none->Q (.ref p) (upd H p (.lst (q.toList.map fun i=>xs.getD i .non)))) :
   wpAny (model X.prog X.w) X.A.in1.in1 (Builtin.«list.sort» ⟨[.ref D],[]⟩) (fun f s'=>f=.done (.ret .none)/\EP X pins σ Q (.ref D) s') (fun _ _=>False) { s with heap:=h0 }:=by
 have hlen:its.length=ts.length:=by
   have a:=rv.length;have b:=Bp T;omega
 obtain⟨m,F⟩:=I.fr;have trkL:∀ b,H b≠none->b≠X.env.locals:=fun b hb z=>hb (by rw[z];exact I.free);obtain⟨n1,n2,hHD⟩:=Inv.notL I hsD;have nD:∀ p∈zcC X.base s.heap X.env.locals,p.1≠D:=fun p hp z=>by
   have q:=(zel (g:=X.base) (h:=s.heap) (L:=X.env.locals) p hp).1;rw[z,hsD] at q;cases q
 refine Er (s:={ s with heap:=h0 }) (news:=zcC X.base s.heap X.env.locals) (F.kept k0) ((zel (g:=X.base) (h:=s.heap) (L:=X.env.locals)).grown k0) gD n1 n2 nD (by omega) (by omega) fun e1 h' F' N'=>?_;have keep:∀ {h2:Heap} {o:Obj},FI X.base X.env.locals h2 m->News X.base X.env.locals h2 ((D,o)::zcC X.base s.heap X.env.locals)->∀ b u,b≠X.env.locals->s.heap.get? b=some u->h2.get? b=some u:=fun {h2 o} F2 N2 b u hb e=>by
   cases q:X.base.get? b with
   | some v =>
     have z:=(I.bs b v q).1;rw[e] at z;cases z;exact F2.keep b _ q
   | none=>exact (N2 (b,u) (Ag _ (zdV hb q e))).1
 have hk:∀ b o,H b≠none->s.heap.get? b=some o->h'.get? b=some o:=fun b o hb e=>keep F' N' b o (trkL b hb) e;obtain⟨fs,k1,k2,k3⟩:=zkr (h':=h') I hk T rv;refine Fv (s:={ s with heap:=h' }) (T:=.type "str") k1 (by omega) (fun v hv=>?_) rfl ?_
 . obtain⟨i,t,rfl⟩:=k3 v hv;exact Es rfl
 have ok:=Srt.sort_ok (n:=its.length) (r:=rank (ts.map enc)) (by omega);refine zqo (n:=its.length) (r:=rank (ts.map enc)) (s:={ s with heap:=h' }) (fun i j hi hj C hC=>zov (s':={ s with heap:=h' }) I hk T rv (by omega) (by omega) C hC) (fun q hq=>?_) ok;refine EB F' N' (Fj nD) fun h2 c F2 N2=>⟨rfl,?_⟩
 have hD2:=(N2 _ Am).1;rw[hlen] at hq;have vals:Vals (q.toList.map fun i=>xs.getD i .non) (q.toList.map fun i=>its.getD i Bn):=by
   have hmem:∀ i∈q.toList,i < xs.length:=fun i hi=>by
     have:i∈(Bv (AN ts.length)).toList:=(Array.perm_iff_toList_perm.mp hq.1).mem_iff.mp hi;have hr:=rv.length;simp at this;omega
   generalize q.toList=ql at hmem
   induction ql with
   | nil=>exact .nil
   | cons i r ih =>
     refine .cons ?_ (ih fun j hj=>hmem j (Ag _ hj));have hi:=hmem i Am;obtain⟨u,eu,ru⟩:=rv.get (Ah hi);show RelV (xs.getD i V.non) (its.getD i Bn);rw[Ap,Ap,Ah hi,eu];exact ru
 have hql:q.toList.length=ts.length:=by
   have:=(Array.perm_iff_toList_perm.mp hq.1).length_eq;simpa using this
 have J:Inv X pins σ (upd H D (.lst (q.toList.map fun i=>xs.getD i .non))) { s with heap:=h2 } :=
   Inv.laidAt (m:=m) I (keep F2 N2) (fun m' hm'=>by rw[znU hm' F.ns];exact F2.ns) (let ⟨o,_,_,e,_⟩:=F2.ns;⟨o,e⟩) hsD hHD n1 ⟨by rw[Ak,hql];exact lt64 h64,_,c,vals,hD2⟩
 exact⟨.ref D,_,J,rfl,h q D hq.1 hq.2 hHD⟩
theorem zqh{P:Program}{w:World}{x:Str}{v:Value}(h:(zay P w).is (.inr x) v=true):∃ t,v=.str x t:=by
 rw[zic] at h
 rcases zaT h with ⟨i,t,e,_⟩ | ⟨y,t,e,r⟩
 . cases e
 . cases e;exact⟨t,r⟩
noncomputable def zoX(ta:TE):TE:=fun σ H Q=>ta σ H fun x H1=>∃ d kvs,x=.ref d/\H1 d=some (.dK kvs)/\∀ p,H1 p=none->Q (.ref p) (upd H1 p (.ext (zmB p d)))
theorem zlw{o:Expr}{ta:TE}{apos cpos:Pos}(he:PE X o ta)(hbase:attributeBase o "items" X.env (eval o X.env)=eval o X.env:=by rfl)(hline:(apos.endLine==cpos.line)=true:=by rfl):PE X (.Call (.Attribute o "items" apos) [] [] cpos) (zoX ta):=by
 intro pins s σ H Q I h;refine DY hbase hline (thn (he pins s σ H _ I h) ?_);rintro v s2 ⟨x,H1,I1,r1,q⟩;obtain⟨d,kvs,rfl,hd,q⟩:=q;cases r1;obtain⟨t1,t2,hs⟩:=zfJ I1 (.inl ⟨kvs,.inl hd⟩);refine⟨"dict","dict.items",DW,DZ,PySem.F.type_dict_items,t1,t2,Cd rfl (EH (zio (o:=default) t1 hs ?_))⟩;exact⟨.ref s2.heap.objs.size,_,I1.laid (a:=s2.heap.objs.size) (o:=.ext (zmB s2.heap.objs.size d)) (t':=s2.toks) (fun b u e=>Ad _ e) (Af _) (zkN (Aq _ rfl)),rfl,q _ (I1.hok.fresh (Af _))⟩
inductive SrtI (H:Hp) (Q:VK):List V->Prop
 | mk (p d:Addr) (ts:List Spr) (h1:H p=some (.ext (zmB p d))) (h2:H d=some (.dK (ts.map fun t=>(.inr t.1,.int t.2)))) (h3:2<=ts.length) (h4:ts.length < 64)
     (h5:∀ (ps:List (Addr×Spr)) (q:Array Nat) (l:Addr),ps.map (·.2)=ts->(∀ p∈ps,H p.1=none)->(ps.map (·.1)).Nodup->q.Perm (Bv (AN ts.length))->Srt.Up (rank (ts.map enc)) q ts.length->updP H ps l=none ->
       Q (.ref l) (upd (updP H ps) l (.lst (q.toList.map fun i=>(ps.map fun p=>V.ref p.1).getD i .non)))):SrtI H Q [.ref p]
theorem zn5:∀ {ts:List Spr} {vs:List (Key×Value)} {j:Nat} {k:Key} {x:Value},KV (ts.map fun t=>((.inr t.1:Key),V.int t.2)) vs->vs[j]?=some (k,x)->∃ t tk,ts[j]?=some t/\k=.inr t.1/\x=.int t.2 tk
 | [],_,j,k,x,.nil,h=>by simp at h
 | t::ts,_,0,k,x,.cons r q,h=>by
   simp at h;subst h;obtain⟨r1,tk,r2⟩:=r;exact⟨t,tk,rfl,r1.symm,r2⟩
 | t::ts,_,j+1,k,x,.cons r q,h=>by
   obtain⟨t',tk,a,b⟩:=zn5 (j:=j) q (by simpa using h);exact⟨t',tk,by simpa using a,b⟩
theorem zka{h:Heap}{H:Hp}:∀ {as:List Addr} {ts:List Spr},as.length=ts.length->((as.zip ts).map (·.1))=as/\((as.zip ts).map (·.2))=ts
 | [],[],_=>⟨rfl,rfl⟩
 | a::as,t::ts,e=>by
   obtain⟨e1,e2⟩:=zka (h:=h) (H:=H) (as:=as) (ts:=ts) (by simpa using e);exact⟨by rw[B9,Ao,e1],by rw[B9,Ao,e2]⟩
 | [],_::_,e=>by simp at e
 | _::_,[],e=>by simp at e
theorem zkc{H:Hp}:∀ {ps:List (Addr×Spr)},(∀ p∈ps,H p.1=some (tp p.2))->zmL H (ps.map fun p=>V.ref p.1) (ps.map (·.2))
 | [],_=>.nil
 | p::r,h=>.cons ⟨p.1,rfl,h p Am⟩ (zkc fun q hq=>h q (Ag _ hq))
theorem zfO:∀ (ps:List (Addr×Spr)),Vals (ps.map fun p=>V.ref p.1) ((ps.map (·.1)).map AM)
 | []=>.nil
 | p::r=>.cons rfl (zfO r)
theorem ze9(hc:X.calm=true):zjV X (.builtin "sorted") (fun xs H Q=>SrtI H Q xs):=by
 intro pins s σ H xs us Q I r h;obtain⟨p,d,ts,h1,h2,h3,h4,h5⟩:=h;obtain⟨u,rfl,ru⟩:=r.one;cases ru;obtain⟨vz,_,_⟩:=I.hok p _ h1;obtain⟨hz,hS,vs,rel,dd⟩:=zqx I.hok h2;obtain⟨ep,hat⟩:=dd.dictAt;have hvl:vs.length=ts.length:=by
   have:=rel.length;simp at this;omega
 refine Cv kind_sorted plain_sorted entry_sorted (args_sorted1 _) ?_;unfold Builtin.«sorted»;refine Aa (m:=checkCount "sorted" 1 1 _) (Ae ?_);refine Aa (PySem.W.kdx_collect (A:=X.A.in1) (knd:=zay X.prog X.w) (kvs:=vs) (ep:=ep) (I.ok.hd hc) ⟨_,vz,rfl,rfl⟩ hat (by rw[hvl];exact lt64 h4) fun h1' tk as hk hl hG=>?_);refine Aa (EF ?_ (by rw[Ak,hl,hvl];exact lt64 h4));obtain⟨z1,z2⟩:=zka (h:=h1') (H:=H) (as:=as) (ts:=ts) (by omega);have nd:((as.zip ts).map (·.1)).Nodup:=by rw[z1];exact hG.rise.imp fun h=>Aw h
 have mem:∀ q∈as.zip ts,q.1∈as:=fun q hq=>by rw[<-z1];exact List.mem_map_of_mem hq
 have new:∀ q∈as.zip ts,∃ t1 t2,h1'.get? q.1=some { cls:=.type "tuple",data:=.seq #[.str q.2.1 t1,.int q.2.2 t2] }:=fun q hq=>by
   obtain⟨j,hj⟩:=List.mem_iff_getElem?.mp hq;have hz:=List.getElem?_zip_eq_some.mp hj;obtain⟨key,k,x,e1,e2,e3⟩:=hG.pairs j q.1 hz.1;obtain⟨t,tk,f1,rfl,rfl⟩:=zn5 rel e1;rw[hz.2] at f1;cases f1;obtain⟨t1,rfl⟩:=zqh e2;exact⟨t1,tk,e3⟩
 have J:Inv X pins σ (updP H (as.zip ts)) { s with heap:=h1',toks:=tk }:=Inv.laidP I hk (fun q hq=>BJ (hG.above _ (mem q hq))) nd new;have g0:(h1'.push (seqObj "list" (as.map AM).toArray 0)).get? h1'.objs.size=some (seqObj "list" (as.map AM).toArray 0):=Aq _ rfl;have fr:∀ q∈as.zip ts,H q.1=none:=fun q hq=>I.hok.fresh (BJ (hG.above _ (mem q hq)));have rv:Vals ((as.zip ts).map fun p=>V.ref p.1) (as.map AM):=by
   have:=zfO (as.zip ts);rw[z1] at this;exact this
 have T:zmL (updP H (as.zip ts)) ((as.zip ts).map fun p=>V.ref p.1) ts:=by
   have:=zkc (zfQ (H:=H) nd);rw[z2] at this;exact this
 have fr2:h1'.get? h1'.objs.size=none:=Eu (Af _);refine Aa (Bf (Bb slot_list_sort ⟨_,g0,rfl⟩ entry_list_sort (Br (zht (s:={ s with heap:=h1',toks:=tk }) (Q:=Q) J rv T h3 h4 (fun b u e=>Ad _ e) fr2 g0 fun q l hq hu hl=>h5 _ q l z2 fr nd hq hu hl) (fun f s' ⟨e,r⟩=>?_) fun _ _ x=>x.elim) (args_list_sort _)));subst e;exact⟨_,rfl,Ae ⟨_,rfl,r⟩⟩
end
noncomputable def kiOf:List (Key×D)->Option (List Spr)
 | []=>some []
 | (.inr x,.int i)::r=>(kiOf r).map fun ts=>(x,i)::ts
 | _=>none
noncomputable def zoJ(m:ME):ME:=fun ρ st=>(m ρ st).bind fun (d,s)=>match d with
 | .ref n=>match s[n]? with
   | some (.dk kvs)=>(kiOf kvs).bind fun ts=>if (decide (2<=ts.length)&&decide (ts.length < 64))=true then some (.ref s.length,s++[.lst ((zhb ts).map siD)]) else none
   | _=>none
 | _=>none
section
variable {X:Cx} {K:Ac} {H:Hp} {io:List Addr} {st st':Sto} {pos:Pos} {m:ME}
theorem zn9:∀ {ps:List (Key×V)} {kvs:List (Key×D)} {ts:List Spr},KR Key K H io ps kvs->kiOf kvs=some ts->ps=ts.map fun t=>(.inr t.1,.int t.2)
 | _,[],ts,.nil,e=>by cases e;rfl
 | a::_,q::kvs,ts,.cons h t,e=>by
   obtain⟨a1,a2⟩:=a;unfold kiOf at e
   split at e
   . rename_i hq;cases hq
   . rename_i x i r hq;cases hq;obtain⟨us,e1,e⟩:=zaf e;subst e
     cases (show a1=.inr x from h.1)
     cases (show a2=.int i from h.2)
     rw[Ao,zn9 t e1]
   . cases e
theorem zhK{H:Hp}:∀ {ps:List (Addr×Spr)},(∀ p∈ps,H p.1=some (tp p.2))->Reps K H io (ps.map fun p=>V.ref p.1) ((ps.map (·.2)).map siD)
 | [],_=>rfl
 | p::r,h=>⟨_,_,rfl,⟨p.1,_,rfl,h p Am,⟨_,_,rfl,rfl,⟨_,_,rfl,rfl,rfl⟩⟩⟩,zhK fun q hq=>h q (Ag _ hq)⟩
theorem zm8{o:Expr}{p apos cpos:Pos}(hc:X.calm=true)(hg:Gl X "sorted")(hm:X.mg "sorted"=none)(ho:SE X o m)(hbase:attributeBase o "items" X.env (eval o X.env)=eval o X.env:=by rfl)(hline:(apos.endLine==cpos.line)=true:=by rfl)
   (he:starEach [Expr.Call (.Attribute o "items" apos) [] [] cpos] X.env=(false,eval (.Call (.Attribute o "items" apos) [] [] cpos) X.env)::starEach [] X.env:=by rfl) (hpl:(backTo pos (starEach [] X.env)).any (·.1)=false:=by rfl) :
   SE X (.Call (.Name "sorted" p) [.Call (.Attribute o "items" apos) [] [] cpos] [] pos) (zoJ m) :=
 PE.imp (zfw (ze9 hc) hg hm zes (zf8 (zlw ho hbase hline) zlz he) (by decide) (by decide) he hpl) <| by
   rintro σ H Q ⟨ρ,st,io,d,st',E,S,e,k⟩;obtain⟨⟨x,s1⟩,e1,f1⟩:=zac e;clear e;refine⟨ρ,st,io,x,s1,E,S,e1,fun v H1 k1 X1 S1 R1=>?_⟩
   cases x with
   | ref n =>
     dsimp only at f1
     split at f1
     . rename_i kvs en;obtain⟨ts,e2,f2⟩:=zac f1;obtain⟨hl,e⟩:=zap f2;cases e;rw[Av] at hl;obtain⟨a,rfl,ha⟩:=R1;obtain⟨ps,hH,r⟩:=S1.ob n a _ ha en;have ep:=zn9 r e2;subst ep;refine⟨a,_,rfl,hH,fun v hv=>?_⟩;obtain⟨E2,S2⟩:=zdU (o:=.ext (zmB v a)) S1 hv;refine⟨v,a,ts,zba,by rw[zaA (zaq hH hv)];exact hH,of_decide_eq_true hl.1,of_decide_eq_true hl.2,fun ps q l z fr nd hq hu hf=>?_⟩;obtain⟨E3,S3⟩:=zhg S2 fr nd;have k':=((k.on S1 X1).on S2 E2).on S3 E3;have rp:=zhK (K:=X.K) (io:=io++k1++[]++[]) (zfQ (H:=upd H1 v (.ext (zmB v a))) nd);rw[z] at rp;have hmm:∀ i∈q.toList,i < ts.length:=fun i hi=>by
         have:=(Array.perm_iff_toList_perm.mp hq).mem_iff.mp hi;simpa using this
       have rr:=zeL rp hmm;rw[zfu hq hu] at rr;exact k'.lst S3 rr hf
     . cases f1
   | _=>cases f1
end
section
variable {prog:Program} {w:World} {A:Around} {E:Value->Shared->Prop} {s:Shared}
theorem zjx{d:Addr}(nm:(d==sysModules)=false):MeetsIn prog w (Builtin.«dict.__len__» ⟨[.ref d],[]⟩) fun _ R s=>∃ o es ep,s.heap.get? d=some o/\o.data=.dict es ep/\R (.ok (.ret (.int es.size s.toks))) { s with toks:=s.toks+1 } :=
 .of_wp fun A R s ⟨o,es,ep,g,dd,q⟩=>by
   show wpAny _ _ (dictSize d >>= _) _ _ s;unfold dictSize;exact Aa (Aa (CJ g dd (Ae (show wpAny _ _ (Builtin.Dict.pendingCount d >>= _) _ _ s from Aa (wpAny_pendingCount_other nm (wpAny_ret_mkInt q))))))
theorem zlV{d:Addr}{o:Obj}{es:Array DictEntry}{ep:Nat}{Q:Value->Shared->Prop}(ty:s.TypeIs (.ref d) "dict")(nm:(d==sysModules)=false)(g:s.heap.get? d=some o)(dd:o.data=.dict es ep)(hz:es.size<=sizeLine)
   (q:∀ t tk,Q (.int es.size t) { s with toks:=tk }):wpAny (model prog w) A (call (.builtin "len") [.ref d]) Q E s:=by
 refine Cv kind_len plain_len entry_len (args_len1 _) ?_;rw[Dm] at hz;unfold Builtin.«len»;refine Aa (m:=oneArg "len" _) (Ae (Aa (m:=callSpecial? (.ref d) (BB "__len__")) (A6 (name:=BB "__len__") ty F.slot_dict_len (ET F.slot_dict_len ty F.entry_dict_len (F.args_dict_len_1 _) (zjx nm) ⟨o,es,ep,g,dd,?_⟩))));show wpAny _ _ _ _ _ { s with toks:=s.toks+1 };refine Aa (Bf (Ae (Aa (Ee ?_))));show wpAny _ _ (if ((es.size:Nat):Int) < 0 then _ else _) _ _ _;rw[if_neg (by omega)];show wpAny _ _ (if ((es.size:Nat):Int) ≥ 2 ^ 63 then _ else _) _ _ _;rw[if_neg (by omega)];exact Aa (wpAny_mkInt (Ae ⟨_,rfl,q _ _⟩))
end
section
variable {X:Cx} {K:Ac} {H:Hp} {io:List Addr} {st st':Sto}
noncomputable def zoM:GN
 | [.ref n],st=>match st[n]? with
   | some (.dt kvs)=>if fits kvs.length=true then some (.int kvs.length,st) else none
   | _=>none
 | _,_=>none
theorem ziJ:zeu X (.builtin "len") zoM:=by
 rintro pins s σ H xs us Q I r ⟨ds,st,io,d,st',R,S,e,k⟩;unfold zoM at e
 split at e
 . rename_i n
   split at e
   . rename_i kvs en;obtain⟨hf,e⟩:=zap e;cases e;obtain⟨v,rfl,p,rfl,hp⟩:=R.one;obtain⟨u,rfl,ru⟩:=r.one;cases ru;obtain⟨ps,hH,rk⟩:=S.ob n p _ hp en;obtain⟨t1,t2,hs⟩:=zfJ I (.inr ⟨ps,.inl hH⟩);obtain⟨z,y,xs,r0,o,es,ep,g,ex,dd,et,nd⟩:=I.hok p _ hH;have fz:zcD X.prog X.w H s.heap p (.frz o (.dT ps)):=⟨g,I.hok p _ hH⟩
     obtain⟨g',hl,ent⟩:=zdu fz dd;have hk:=KR.length rk;refine zlV t1 hs g dd (by rw[hl];exact z) fun t tk=>?_;rw[hl,hk];exact⟨.int kvs.length,H,I.tok _,⟨_,rfl⟩,k.now S rfl⟩
   . cases e
 . cases e
noncomputable def lenF:GN:=orN lenD zoM
theorem zgm:zeu X (.builtin "len") lenF:=zfL zbo ziJ
end
section
variable {X:Cx} {K:Ac} {H:Hp} {io:List Addr} {m:ME} {st st':Sto} {tg:Expr}
noncomputable def zhe:D->Sto->Option (Wk×Sto)
 | .ref n,s=>match s[n]? with
   | some (.ft kvs)=>some (⟨zdK kvs,[]⟩,s)
   | _=>none
 | _,_=>none
noncomputable def mWKF(m:ME):MI:=fun ρ st=>(m ρ st).bind fun (d,s)=>zhe d s
theorem zk7{o:Expr}(ho:SE X o m):SI X tg o (mWKF m):=by
 rintro pins s σ H R I ⟨ρ,st,io,W,st',E,S,e,k⟩;obtain⟨⟨d,s1⟩,e1,e⟩:=zac e
 cases d with
 | ref n =>
   unfold zhe at e;dsimp only at e
   split at e
   . rename_i kvs en;cases e;refine thn (ho pins s σ H (fun v H'=>∃ ka,Ext io ka H H'/\StR X.K H' (io++ka) st'/\Rep X.K H' (io++ka) v (.ref n)) I ⟨ρ,st,io,_,st',E,S,e1,fun v1 H1 k1 X1 S1 R1=>⟨k1,X1,S1,R1⟩⟩) ?_;rintro v s2 ⟨x,H1,I1,r1,k1,X1,S1,R1⟩;obtain⟨p,rfl,hp⟩:=R1;cases r1;obtain⟨o,ps,hH,r⟩:=S1.ob n p _ hp en;obtain⟨t1,t2,hs⟩:=zfJ I1 (.inr ⟨ps,.inr ⟨o,hH⟩⟩);obtain⟨g,_,_,xs,_,o',es,ep,g',_,dd,_,_⟩:=I1.hok p _ hH;rw[g] at g';cases g';refine zep (o:=o) (es:=es) (ep:=ep) t1 hs g dd ?_;have J:=I1.kept (t':=s2.toks) (h':=s2.heap.push { cls:=.type "dict_keyiterator",data:=.fields #[.ref p,.int 0 0,.int es.size 0,.int ep 0] }) fun b u q=>Ad _ q;refine⟨_,[_],_,_,_,rfl,J,zfR p _ dd,⟨_,Aq _ rfl,rfl,rfl⟩,fun b hb=>?_,?_⟩
     . rw[List.mem_singleton.mp hb];exact I1.fpOk (Af _) (I1.hok.fresh (Af _))
     . exact k _ _ k1 X1 S1 (zoe S1 hp hH r)
   . cases e
 | _=>cases e
noncomputable def mWKB(m:ME):MI:=fun ρ st=>(m ρ st).bind fun (d,s)=>orO (zmD d s) (zhe d s)
theorem zhw{o:Expr}(ho:SE X o m):SI X tg o (mWKB m):=by
 rintro pins s σ H R I ⟨ρ,st,io,W,st',E,S,e0,k⟩;obtain⟨⟨d,s1⟩,e1,e0⟩:=zac e0
 rcases zbz e0 with e0 | e0
 . exact zm6 ho pins s σ H R I ⟨ρ,st,io,W,st',E,S,by unfold mWK;rw[e1];exact e0,k⟩
 . exact zk7 ho pins s σ H R I ⟨ρ,st,io,W,st',E,S,by unfold mWKF;rw[e1];exact e0,k⟩
@[simp] theorem zox{ρ:Rho}:mWKB m ρ st=(m ρ st).bind fun p=>orO (zmD p.1 p.2) (zhe p.1 p.2):=rfl
noncomputable def zdj:GN
 | [.ref n],st=>match st[n]? with
   | some (.ft kvs)=>if fits kvs.length=true then (if decide ((zdK kvs).length < 2)=true then some (.ref st.length,st++[.lst (zdK kvs)]) else (rowsOf (zdK kvs)).bind fun ts=>if (decide (2<=ts.length)&&decide (ts.length < 64))=true then some (.ref st.length,st++[.lst ((zj1 ts).map tupD)]) else none) else none
   | _=>none
 | _,_=>none
theorem zer(hc:X.calm=true):zeu X (.builtin "sorted") zdj:=by
 rintro pins s σ H xs us Q I r ⟨ds,st,io,d,st',R,S,e,k⟩;unfold zdj at e
 split at e
 . rename_i n
   split at e
   . rename_i kvs en;obtain⟨hf,e⟩:=zap e;obtain⟨v,rfl,p,rfl,hp⟩:=R.one;obtain⟨u,rfl,ru⟩:=r.one;cases ru;obtain⟨o,ps,hH,rk⟩:=S.ob n p _ hp en;obtain⟨t1,t2,hs⟩:=zfJ I (.inr ⟨ps,.inr ⟨o,hH⟩⟩);obtain⟨g,z,y,xs,r0,o',es,ep,g',ex,dd,et,nd⟩:=I.hok p _ hH;rw[g] at g';cases g';obtain⟨g',hl,ent⟩:=zdu (I.hok p _ hH) dd;have hsz:es.size<=sizeLine:=by
       rw[hl,KR.length rk];exact of_decide_eq_true hf
     refine zfX (zhr (prog:=X.prog) (w:=X.w) dd hs (fun s' g'=>?_)) (I.ok.hd hc) g hsz fun D h' tk vs hk hD gD hvl hvs=>?_
     . obtain⟨o',ho',hc'⟩:=t1;rw[g] at ho';cases ho';exact⟨o,g',hc'⟩
     . obtain⟨ys,rv,rr⟩:=zen (vs:=vs) rk (by rw[hvl,hl]) fun j v q e1 e2=>by
         obtain⟨en',h1,h2⟩:=hvs j v e1;obtain⟨en2,b,h3,h4,h5,_⟩:=ent j q.1 q.2 e2;rw[h1] at h3;cases h3;exact⟨b,by rw[h2,h4],h5⟩
       have hyl:ys.length=(zdK kvs).length:=rr.length
       split at e
       . rename_i h2;cases e;exact zhu (s:={ s with toks:=tk }) (Inv.tk I tk) rv (by rw[hyl];exact of_decide_eq_true h2) hk hD gD fun q hf=>k.lst S rr hf
       . obtain⟨ts,e1,e⟩:=zac e;obtain⟨h2,e⟩:=zap e;cases e;rw[Av] at h2;obtain⟨T,hd⟩:=zhH rr e1;rw[hd] at rr;exact zhs (s:={ s with toks:=tk }) (Inv.tk I tk) rv T (of_decide_eq_true h2.1) (of_decide_eq_true h2.2) hk hD gD fun q p' hq hu hf=>zdP S rr hq hu hf k
   . cases e
 . cases e
noncomputable def zbK:GN:=orN zcj zdj
theorem zc1(hc:X.calm=true):zeu X (.builtin "sorted") zbK:=zfL (ze8 hc) (zer hc)
end
end L2.MP
namespace L2.MP
open PySem PySem.Spec
end L2.MP
namespace L2.MP
open PySem PySem.Spec PyProof.Rows
end L2.MP
namespace L2.MP.Hb
open PySem L2.MP
end L2.MP.Hb
namespace L2.MP
open PySem
theorem zfU{f:D->Option PyData}(hf:∀ x:Int,f (.int x)=some (.int x)):∀ as:List Int,toPs f (as.map D.int)=some (as.map EC)
 | []=>rfl
 | x::as=>by
   rw[Ao,toPs,hf x,Ab,zfU hf as];rfl
theorem zhn{n:Nat}{st:Sto}{k:Nat}{as:List Int}(hk:st[k]?=some (.lst (as.map D.int))):toP (n+2) st (.ref k)=some (.list (as.map EC)):=by
 rw[toP];simp only[zbj,hk,Ab];rw[zfU (fun x=>by rw[toP])];rfl
theorem zkl{st:Sto}{f g:Nat}{as:List Int}(hf:st[f]?=some (.lst (as.map D.int)))(hg:st[g]?=some (.lst [])):neD (.ref f) (.ref g) st=some (.bl (!as.isEmpty),st):=by
 unfold neD;rw[zhn (n:=98) hf,zhn (n:=98) (as:=[]) hg]
 cases as <;> rfl
end L2.MP
namespace L2.MP.Hb
open PySem L2.MP
structure FrB(n q:Nat)(st st':Sto):Prop where
 len:st.length<=st'.length
 old:∀ k,k < st.length->k≠n->k≠q->st'[k]?=st[k]?
theorem FrB.refl(n q:Nat)(st:Sto):FrB n q st st:=⟨Af _,fun _ _ _ _=>rfl⟩
theorem FrB.trans{n q:Nat}{a b c:Sto}(h:FrB n q a b)(h':FrB n q b c):FrB n q a c:=⟨AF h.len h'.len,fun k hk n1 n2=>(h'.old k (AB hk h.len) n1 n2).trans (h.old k hk n1 n2)⟩
theorem FrB.app(n q:Nat)(st:Sto)(l:List O):FrB n q st (st++l):=⟨by simp,fun k hk _ _=>Ar hk⟩
theorem FrB.setN(n q:Nat)(st:Sto)(o:O):FrB n q st (st.set n o):=⟨by simp,fun k _ h1 h2=>by rw[AH (fun h=>h1 h.symm)]⟩
theorem FrB.setQ(n q:Nat)(st:Sto)(o:O):FrB n q st (st.set q o):=⟨by simp,fun k _ h1 h2=>by rw[AH (fun h=>h2 h.symm)]⟩
theorem FrB.of{n q:Nat}{a b:Sto}(h:Gr a b):FrB n q a b:=⟨h.len,fun k hk _ _=>h.old k hk⟩
theorem zmp(ns:List Int)(lo hi:Option Int):∃ ms:List Int,cutD (ns.map D.int) lo hi=ms.map D.int/\ms.length<=ns.length:=by
 unfold cutD;refine⟨(ns.drop (HT.sIx (ns.map D.int).length 0 lo)).take (HT.sIx (ns.map D.int).length (ns.map D.int).length hi - HT.sIx (ns.map D.int).length 0 lo),by simp,?_⟩;rw[BG,DM];omega
theorem zo6{ds:List D}{lo hi:Option Int}{st:Sto}:slB (.kl ds) lo hi st=some (.ref st.length,st++[.lst (cutD ds lo hi)]):=by
 simp[slB,slA,slD,slS,slK,zfx]
end L2.MP.Hb
namespace L2.MP.Hd
open PySem L2.MP
end L2.MP.Hd
namespace L2.MP
open PySem
@[simp] theorem zr5(n:Nat)(ds:List D):rho n ds=ds.map some++BV (n - ds.length) none:=rfl
@[simp] theorem zq1(ρ:Rho)(n:Nat)(l:List Nat):rho0 ρ n l=BV n none++l.map fun (j:Nat)=>(ρ[j]?).join:=rfl
@[simp] theorem zst{a b:Int}{st:Sto}:ltD (.int a) (.int b) st=some (.bl (decide (a < b)),st):=rfl
@[simp] theorem zsu{a b:Int}{st:Sto}:leD (.int a) (.int b) st=some (.bl (decide (a<=b)),st):=rfl
@[simp] theorem zsx{a b:Int}{st:Sto}:gtD (.int a) (.int b) st=some (.bl (decide (b < a)),st):=rfl
@[simp] theorem zsy{a b:Int}{st:Sto}:geD (.int a) (.int b) st=some (.bl (decide (b<=a)),st):=rfl
@[simp] theorem zsw{a:Int}{st:Sto}:intC [.int a] st=some (.int a,st):=rfl
@[simp] theorem zsv{b:Bool}{st:Sto}:intC [.bl b] st=some (.int (if b then 1 else 0),st):=rfl
end L2.MP
namespace L2.MP.Hd
open PySem L2.MP
theorem zjv{a b:Int}{st:Sto}(h:0 < b):modD (.int a) (.int b) st=some (.int (a % b),st):=by simp[modD,intD,h]
theorem zkD{a b:Int}{st:Sto}(h:0 < b)(h2:b < 340282366920938463463374607431768211456):ze4 (.int a) (.int b) st=some (.int (a / b),st):=by simp[ze4,intD,h,h2]
theorem zpk{m:ME}{ρ:Rho}{st:Sto}{k:Nat}(e:m ρ st=some (.int (k:Int),st))(hk:k<=1000):mR1 m ρ st=some (⟨run 0 k,[]⟩,st):=by
 have sm:small (k:Int)=true:=zfZ (by omega) (by omega);rw[zsd,e,Ab];simp only[sm,if_true];rw[BD]
theorem run_map(k:Nat):run 0 k=(AN k).map fun (i:Nat)=>D.int (i:Int):=by
 unfold run;apply Dj;intro i _;rw[Int.zero_add]
theorem znh{j k:Nat}{d:D}(h:(run 0 j)[k]?=some d):k < j/\d=.int (k:Int):=by
 have hk:=getElem?_lt h;rw[zcZ] at hk;rw[run_map,AD,Dh hk] at h;exact⟨hk,by cases h;rfl⟩
noncomputable def kvS(p:Str×Int):Key×D:=(.inr p.1,.int p.2)
noncomputable def stD(stk:List (Str×Int)):List (Key×D):=zeX [] (stk.map kvS)
theorem zmN{κ:Type}[DecidableEq κ]:∀ (kvs:List (κ×D)) (k q:κ) (d:D),valD (putD kvs k d) q=if q=k then some d else valD kvs q:=by
 intro kvs k q d;unfold putD
 by_cases h:(kvs.any fun kv=>decide (kv.1=k))=true
 . rw[if_pos h]
   induction kvs with
   | nil=>simp at h
   | cons p r ih =>
     unfold valD at *;rw[Ao,AZ,AZ]
     by_cases hp:p.1=k
     . simp only[hp,if_true]
       by_cases hq:q=k
       . simp[hq]
       . have:¬ k=q:=fun e=>hq e.symm;simp only[this,decide_false,hq,if_false];clear h ih
         induction r with
         | nil=>rfl
         | cons u r ih2 =>
           rw[Ao,AZ,AZ]
           by_cases hu:u.1=k
           . simp only[hu,if_true,this,decide_false];exact ih2
           . simp only[hu,if_false]
             by_cases huq:u.1=q
             . simp[huq]
             . simp only[huq,decide_false];exact ih2
     . simp only[hp,if_false]
       by_cases hpq:p.1=q
       . have:¬ q=k:=fun e=>hp (hpq.trans e);simp[hpq,this]
       . simp only[hpq,decide_false];refine ih ?_;rw[BE] at h;simpa[hp] using h
 . rw[if_neg h];unfold valD;rw[List.find?_append]
   by_cases hq:q=k
   . subst hq;have:kvs.find? (fun kv=>decide (kv.1=q))=none:=by
       rw[List.find?_eq_none];intro x hx hx2;exact h (List.any_eq_true.mpr ⟨x,hx,hx2⟩)
     simp[this]
   . have:¬ k=q:=fun e=>hq e.symm;simp[hq,this]
def okV(d:Option D):Prop:=∃ v:Int,d=some (.int v)/\1<=v/\v<=4
theorem zgc{q:Str}:∀ {more:List (Str×Int)} {acc:List (Key×D)},(∀ p∈more,1<=p.2/\p.2<=4)->(okV (valD acc (.inr q))\/q∈more.map (·.1))->okV (valD (zeX acc (more.map kvS)) (.inr q))
 | [],acc,_,h=>by
   rcases h with h | h
   . exact h
   . cases h
 | p::r,acc,hv,h=>by
   show okV (valD (zeX (putD acc (.inr p.1) (.int p.2)) (r.map kvS)) (.inr q));refine zgc (fun u hu=>hv u (Ag _ hu)) ?_;rw[zmN]
   by_cases e:q=p.1
   . subst e;rw[if_pos rfl];have:=hv p Am;exact .inl ⟨p.2,rfl,this.1,this.2⟩
   . have e':¬ (Cg q:Key)=.inr p.1:=fun z=>e (by injection z);rw[if_neg e']
     rcases h with h | h
     . exact .inl h
     . rcases List.mem_cons.mp h with h | h
       . exact absurd h e
       . exact .inr h
noncomputable def sv(stk:List (Str×Int))(a:Str):Int:=match valD (stD stk) (.inr a) with | some (.int v)=>v | _=>0
theorem zi0{stk:List (Str×Int)}{a:Str}(h:∀ p∈stk,1<=p.2/\p.2<=4)(ha:a∈stk.map (·.1)):valD (stD stk) (.inr a)=some (.int (sv stk a))/\1<=sv stk a/\sv stk a<=4:=by
 obtain⟨v,e,h1,h2⟩:=zgc (acc:=[]) h (.inr ha);have e:valD (stD stk) (.inr a)=some (.int v):=e;have:sv stk a=v:=by unfold sv;rw[e]
 rw[this];exact⟨e,h1,h2⟩
theorem zkd:∀ stk:List (Str×Int),zmG (stk.map zbb)=some (stk.map kvS)
 | []=>rfl
 | p::r=>by
   have ih:=zkd r;rw[Ao,zmG,ih];rfl
theorem zbX{stk:List (Str×Int)}{st:Sto}(hl:stk.length<=1000):zmK [.tup (stk.map zbb)] st=some (.ref st.length,st++[.dk (stD stk)]):=by
 have fk:fits (stk.map kvS).length=true:=zaG (by rw[Ak];omega);have e1:zoP [.tup (stk.map zbb)] st=none:=rfl;unfold zmK orN;rw[e1,zfx];unfold zoO;simp only[zkd,Ab,fk,if_true];rfl
theorem zoN{d:Nat}{kvs:List (Key×D)}{a:Str}{v:D}{st:Sto}(h:st[d]?=some (.dk kvs))(hv:valD kvs (.inr a)=some v):ixA (.ref d) (.str a) st=some (v,st):=by
 have e1:idxD (.ref d) (.str a) st=none:=by simp[idxD,zbj,h]
 unfold ixA orG;rw[e1,zfx];simp[zqz,look,h,keyOf,hv]
noncomputable def fl(p:Nat->Bool)(k:Nat):List D:=((AN k).filter p).map fun (i:Nat)=>D.int (i:Int)
end L2.MP.Hd
namespace L2.MP
open PySem
theorem zqC{W:Wk}{g:MG}{c:MT}{m:ME}{α:Type}{f h:α->D}{R:Rho->Prop}:∀ {as:List α} {ρ:Rho} {st:Sto},R ρ->(∀ s,Gr st s->walked W s=true)->(∀ a∈as,∀ ρ s,R ρ->Gr st s->∃ ρ1 s1,g (f a) ρ s=some (ρ1,s)/\c ρ1 s=some (true,s)/\m ρ1 s=some (h a,s1)/\Gr s s1/\R ρ1) ->
   ∃ s',mCI W g c m (as.map f) ρ st=some (as.map h,s')/\Gr st s'
 | [],ρ,st,r,wk,_=>⟨st,by unfold mCI;rw[Bq];simp only[wk st (Gr.refl st),if_true,Bq],Gr.refl st⟩
 | a::as,ρ,st,r,wk,hs=>by
   obtain⟨ρ1,s1,e1,e2,e3,g1,r1⟩:=hs a Am ρ st r (Gr.refl st);obtain⟨s',e,g'⟩:=zqC (W:=W) (g:=g) (c:=c) (m:=m) (f:=f) (h:=h) (R:=R) (as:=as) (st:=s1) r1 (fun s q=>wk s (g1.trans q)) fun b hb ρ s q z=>hs b (Ag _ hb) ρ s q (g1.trans z);refine⟨s',?_,g1.trans g'⟩;rw[Ao];unfold mCI;rw[if_pos (wk st (Gr.refl st)),e1];simp only[Ab,e2,if_true,e3,e,Ay,Ao]
end L2.MP
namespace L2.MP.stickytiles_k55_box_beds
open PySem L2.MP
noncomputable def zfd:MS:=mRet (zdE (mIsi "int" (mVar 0)) (zdE (zoK (mIsi "bool" (mVar 0))) (zbD leD leD (mVar 1) (mVar 0) (mVar 2))))
noncomputable def zaI:GN:=fnM 3 zfd
noncomputable def zfe:MS:=mRet (zdE (mIsi "tuple" (mVar 0)) (mBin eqD (zaw lenD (zae (mVar 0) (mNil))) (mVar 1)))
noncomputable def zar:GN:=fnM 2 zfe
noncomputable def zdh:ME:=mBin ltB (mVar 0) (mVar 1)
noncomputable def zkL:MS:=mRet (zaw allC (zae (zbL (mZip (mVar 0) (mSlB (mVar 0) (zeU (mCon (.int 1))) (zeV))) 2 [] (gTp 2 (gC (gNm 0) (gC (gNm 1) (gN0)))) (zbT) (zdh)) (mNil)))
noncomputable def zd3:GN:=fnM 1 zkL
noncomputable def zcX:ME:=mBin inA (mVar 0) (mCon (.str "abcdefghijklmnopqrstuvwxyz"))
noncomputable def zdi:MS:=mRet (zdE (mIsi "str" (mVar 0)) (zdE (zbD leD leD (mCon (.int 1)) (zaw lenD (zae (mVar 0) (mNil))) (mCon (.int 8))) (zaw allC (zae (zbL (mWA (mVar 0)) 1 [] (gNm 0) (zbT) (zcX)) (mNil)))))
noncomputable def zde:GN:=fnM 1 zdi
noncomputable def zff:MS:=mRet (zdE (zaw zar (zae (mVar 0) (zae (mCon (.int 2)) (mNil)))) (zdE (zaw zde (zae (mBin ixA (mVar 0) (mCon (.int 0))) (mNil))) (zaw zaI (zae (mBin ixA (mVar 0) (mCon (.int 1))) (zae (mCon (.int 1)) (zae (mCon (.int 4)) (mNil)))))))
noncomputable def zcF:GN:=fnM 1 zff
noncomputable def zbO:ME:=zaw zcF (zae (mVar 0) (mNil))
noncomputable def zby:ME:=mBin ixA (mVar 0) (mCon (.int 0))
noncomputable def zcp:MS:=mSeq (mIf (mOrT (zem (mTst (mIsi "tuple" (mVar 0)))) (zem (mTst (zaw allC (zae (zbL (mWA (mVar 0)) 1 [] (gNm 0) (zbT) (zbO)) (mNil)))))) (mRet (mCon (.bl false))) (zdJ)) (mRet (zaw zd3 (zae (zbL (mWA (mVar 0)) 1 [] (gNm 0) (zbT) (zby)) (mNil))))
noncomputable def zbA:GN:=fnM 1 zcp
noncomputable def zjW:MS:=mRet (zdE (mIsi "str" (mVar 0)) (zdE (mBin leD (zaw lenD (zae (mVar 0) (mNil))) (mCon (.int 1))) (mBin inA (mVar 0) (mCon (.str "abcdefghijklmnopqrstuvwxyz0123456789")))))
noncomputable def zdg:GN:=fnM 1 zjW
noncomputable def zgv:MS:=mRet (zdE (mIsi "str" (mVar 0)) (mOrV (mBin eqD (mVar 0) (mCon (.str ""))) (mBin inA (mVar 0) (mVar 1))))
noncomputable def zdd:GN:=fnM 2 zgv
noncomputable def zb9:ME:=zaw zdd (zae (mVar 0) (zae (mVar 1) (mNil)))
noncomputable def zgw:MS:=mRet (zdE (zaw zar (zae (mVar 0) (zae (mCon (.int 5)) (mNil)))) (zdE (zaw zdg (zae (mBin ixA (mVar 0) (mCon (.int 0))) (mNil))) (zaw allC (zae (zbL (mWA (mSlB (mVar 0) (zeU (mCon (.int 1))) (zeV))) 1 [1] (gNm 0) (zbT) (zb9)) (mNil)))))
noncomputable def zdf:GN:=fnM 2 zgw
noncomputable def zco:ME:=zaw zdf (zae (mVar 0) (zae (mVar 1) (mNil)))
noncomputable def zb4:MS:=mSeq (mIf (mOrT (zem (mTst (zaw zar (zae (mVar 0) (zae (mCon (.int 3)) (mNil)))))) (mOrT (zem (mTst (zaw zaI (zae (mBin ixA (mVar 0) (mCon (.int 0))) (zae (mCon (.int 1)) (zae (mCon (.int 4)) (mNil))))))) (zem (mTst (zaw zbA (zae (mBin ixA (mVar 0) (mCon (.int 1))) (mNil))))))) (mRet (mCon (.bl false))) (zdJ)) (mSeq (mAsg (mBin ixA (mVar 0) (mCon (.int 2))) (gNm 1)) (mSeq (mIf (mOrT (zem (mTst (mIsi "tuple" (mVar 1)))) (mTst (mBin eqD (zaw lenD (zae (mVar 1) (mNil))) (mCon (.int 0))))) (mRet (mCon (.bl false))) (zdJ)) (mSeq (mAsg (zaw zmK (zae (mBin ixA (mVar 0) (mCon (.int 1))) (mNil))) (gNm 2)) (mRet (zaw allC (zae (zbL (mWA (mVar 1)) 1 [2] (gNm 0) (zbT) (zco)) (mNil)))))))
noncomputable def zcH:GN:=fnM 3 zb4
noncomputable def zfh:MS:=mRet (zdE (zaw zar (zae (mVar 0) (zae (mCon (.int 2)) (mNil)))) (zdE (zaw zaI (zae (mBin ixA (mVar 0) (mCon (.int 0))) (zae (mCon (.int 1)) (zae (mCon (.int 12)) (mNil))))) (zaw zaI (zae (mBin ixA (mVar 0) (mCon (.int 1))) (zae (mCon (.int 1)) (zae (mCon (.int 12)) (mNil)))))))
noncomputable def zcI:GN:=fnM 1 zfh
noncomputable def zfg:MS:=mSeq (mAsg (mBin ixA (mVar 0) (mCon (.int 1))) (gNm 2)) (mRet (zdE (zaw zar (zae (mVar 1) (zae (mCon (.int 2)) (mNil)))) (zdE (zaw zaI (zae (mBin ixA (mVar 1) (mCon (.int 0))) (zae (mCon (.int 0)) (zae (mBin subD (mBin ixA (mVar 2) (mCon (.int 0))) (mCon (.int 1))) (mNil))))) (zaw zaI (zae (mBin ixA (mVar 1) (mCon (.int 1))) (zae (mCon (.int 0)) (zae (mBin subD (mBin ixA (mVar 2) (mCon (.int 1))) (mCon (.int 1))) (mNil))))))))
noncomputable def zcG:GN:=fnM 3 zfg
noncomputable def zgu:MS:=mSeq (mAsg (mBin ixA (mBin ixA (mVar 0) (mCon (.int 0))) (mCon (.int 2))) (gNm 2)) (mRet (zdE (zaw zar (zae (mVar 1) (zae (mCon (.int 3)) (mNil)))) (zdE (zaw zcG (zae (mVar 0) (zae (mSlB (mVar 1) (zeV) (zeU (mCon (.int 2)))) (mNil)))) (zaw zaI (zae (mBin ixA (mVar 1) (mCon (.int 2))) (zae (mCon (.int 0)) (zae (mBin subD (zaw lenD (zae (mVar 2) (mNil))) (mCon (.int 1))) (mNil))))))))
noncomputable def zdc:GN:=fnM 3 zgu
noncomputable def za7:ME:=zaw zdc (zae (mVar 1) (zae (mVar 0) (mNil)))
noncomputable def zbI:ME:=mSlB (mVar 0) (zeV) (zeU (mCon (.int 2)))
noncomputable def zb3:MS:=mSeq (mIf (mOrT (zem (mTst (mIsi "tuple" (mVar 1)))) (zem (mTst (zaw allC (zae (zbL (mWA (mVar 1)) 1 [0] (gNm 0) (zbT) (za7)) (mNil)))))) (mRet (mCon (.bl false))) (zdJ)) (mRet (zaw zd3 (zae (zbL (mWA (mVar 1)) 1 [] (gNm 0) (zbT) (zbI)) (mNil))))
noncomputable def zbF:GN:=fnM 2 zb3
noncomputable def zfN:MS:=mSeq (mIf (mOrT (zem (mTst (zaw zar (zae (mVar 0) (zae (mCon (.int 3)) (mNil)))))) (mOrT (zem (mTst (zaw zcH (zae (mBin ixA (mVar 0) (mCon (.int 0))) (mNil))))) (zem (mTst (zaw zcI (zae (mBin ixA (mVar 0) (mCon (.int 1))) (mNil))))))) (mRet (mCon (.bl false))) (zdJ)) (mRet (zaw zbF (zae (mVar 0) (zae (mBin ixA (mVar 0) (mCon (.int 2))) (mNil)))))
noncomputable def zcW:GN:=fnM 1 zfN
noncomputable def ziV:MS:=mRet (mBin addD (mBin addD (mBin addD (mVar 0) (mBin ixA (mCon (.str "abcdefghijklmnopqrstuvwxyz")) (mBin ze4 (mVar 1) (mCon (.int 676))))) (mBin ixA (mCon (.str "abcdefghijklmnopqrstuvwxyz")) (mBin modD (mBin ze4 (mVar 1) (mCon (.int 26))) (mCon (.int 26))))) (mBin ixA (mCon (.str "abcdefghijklmnopqrstuvwxyz")) (mBin modD (mVar 1) (mCon (.int 26)))))
noncomputable def zav:GN:=fnM 2 ziV
noncomputable def zfi:MS:=mRet (mTup (zae (mVar 0) (zae (zaw zfn (zae (zoJ (mVar 1)) (mNil))) (zae (zaw zfn (zae (mVar 2) (mNil))) (mNil)))))
noncomputable def zb2:GN:=fnM 3 zfi
noncomputable def zdD:MS:=mRet (zaw zav (zae (mCon (.str "a")) (zae (mVar 0) (mNil))))
noncomputable def zaS:GN:=fnM 1 zdD
noncomputable def zgt:MS:=mRet (zaw zav (zae (mCon (.str "u")) (zae (mVar 0) (mNil))))
noncomputable def zbx:GN:=fnM 1 zgt
noncomputable def zb1:MS:=mExp (mApp (mVar 4) (zae (mTup (zae (mCon (.str "")) (zae (mVar 3) (zae (zaw zaS (zae (mBin addD (mVar 5) (mCon (.int 1))) (mNil))) (zae (mCon (.str "")) (zae (zaw zaS (zae (mVar 5) (mNil))) (mNil))))))) (mNil)))
noncomputable def zb0:MS:=mExp (mApp (mVar 4) (zae (mTup (zae (mCon (.str "")) (zae (zaw zbx (zae (mBin addD (mVar 5) (mCon (.int 1))) (mNil))) (zae (mVar 2) (zae (zaw zbx (zae (mVar 5) (mNil))) (zae (mCon (.str "")) (mNil))))))) (mNil)))
noncomputable def zd4:MS:=mSeq (mAsg (zaw zav (zae (mCon (.str "f")) (zae (mCon (.int 0)) (mNil)))) (gNm 2)) (mSeq (mAsg (zaw zav (zae (mCon (.str "f")) (zae (mCon (.int 1)) (mNil)))) (gNm 3)) (mSeq (mAsg (mLst (zae (mTup (zae (mCon (.str "")) (zae (zaw zbx (zae (mCon (.int 1)) (mNil))) (zae (zaw zaS (zae (mCon (.int 1)) (mNil))) (zae (mCon (.str "")) (zae (mCon (.str "")) (mNil))))))) (mNil))) (gNm 4)) (mSeq (mFor (mR2 (mCon (.int 1)) (mVar 0)) (gNm 5) (zb1)) (mSeq (mFor (mR2 (mCon (.int 1)) (mVar 1)) (gNm 5) (zb0)) (mSeq (mExp (mApp (mVar 4) (zae (mTup (zae (mCon (.str "")) (zae (mVar 3) (zae (mVar 2) (zae (mVar 3) (zae (mVar 2) (mNil))))))) (mNil)))) (mRet (mVar 4)))))))
noncomputable def zbJ:GN:=fnM 6 zd4
noncomputable def zcV:MS:=putA (mVar 2) (zaw zaS (zae (mVar 3) (mNil))) (mCon (.int 2))
noncomputable def zcU:MS:=putA (mVar 2) (zaw zbx (zae (mVar 3) (mNil))) (mCon (.int 2))
noncomputable def zgx:MS:=mSeq (mAsg (zig (zaw zav (zae (mCon (.str "f")) (zae (mCon (.int 0)) (mNil)))) (mCon (.int 1)) (zaw zav (zae (mCon (.str "f")) (zae (mCon (.int 1)) (mNil)))) (mCon (.int 1))) (gNm 2)) (mSeq (mFor (mR2 (mCon (.int 1)) (mBin addD (mVar 0) (mCon (.int 1)))) (gNm 3) (zcV)) (mSeq (mFor (mR2 (mCon (.int 1)) (mBin addD (mVar 1) (mCon (.int 1)))) (gNm 3) (zcU)) (mRet (mTup (zae (zaw zb2 (zae (mCon (.int 2)) (zae (mVar 2) (zae (zaw zbJ (zae (mVar 0) (zae (mVar 1) (mNil)))) (mNil))))) (zae (mTup (zae (mBin addD (mVar 0) (mCon (.int 2))) (zae (mBin addD (mVar 1) (mCon (.int 2))) (mNil)))) (zae (mTup (zae (mTup (zae (mCon (.int 1)) (zae (mCon (.int 1)) (zae (mCon (.int 0)) (mNil))))) (mNil))) (mNil))))))))
noncomputable def zbG:GN:=fnM 4 zgx
noncomputable def zbh:MS:=mAsg (mBin mulB (mVar 3) (mBin powB (mCon (.int 10)) (mCon (.int 60)))) (gNm 3)
noncomputable def zbg:MS:=mSeq (mAsg (mBin modD (mVar 5) (mCon (.int 1000003))) (gNm 6)) (mAsg (mBin modD (mBin addD (mBin addD (mBin addD (mBin mulA (mVar 2) (mCon (.int 69069))) (mBin mulA (mVar 6) (mVar 6))) (mVar 5)) (mCon (.int 5))) (mCon (.int 2305843009213693951))) (gNm 2))
noncomputable def zaL:ME:=mBin modD (zaw absC (zae (mVar 0) (mNil))) (mVar 1)
noncomputable def zbs:MS:=mSeq (mAsg (mTup (zae (mLst (mNil)) (zae (mCon (.int 4099)) (zae (mBin powB (mCon (.int 10)) (mCon (.int 60))) (mNil))))) (gTp 3 (gC (gNm 1) (gC (gNm 2) (gC (gNm 3) (gN0)))))) (mSeq (mFor (mR1 (mCon (.int 6))) (gNm 4) (zbh)) (mSeq (mFor (mWA (mSlC (mVar 0) (zeV) (zeU (mCon (.int 63))))) (gNm 5) (zbg)) (mSeq (mIf (zc9 (mTst (mBin gtD (zaw lenD (zae (mVar 0) (mNil))) (mCon (.int 0)))) (mTst (mBin geD (mBin ixA (mVar 0) (mCon (.int 0))) (mBin powB (mCon (.int 10)) (mCon (.int 18)))))) (mAsg (zbL (mWA (mSlC (mVar 0) (zeV) (zeU (mCon (.int 63))))) 1 [3] (gNm 0) (zbT) (zaL)) (gNm 1)) (zdJ)) (mRet (zlR "own" "seed" "turn" (mVar 1) (mVar 2) (mCon (.int 0)))))))
noncomputable def za9:GN:=fnM 7 zbs
noncomputable def zaK:MT:=zc9 (mTst (mBin neD (mBin ixA (mVar 0) (mCon (.str "own"))) (mLst (mNil)))) (mTst (mBin eqD (mBin ixA (mBin ixA (mVar 0) (mCon (.str "own"))) (mCon (.int 0))) (mCon (.int 0))))
noncomputable def zbw:MS:=mExp (mPop (mBin ixA (mVar 0) (mCon (.str "own"))) (zae (mCon (.int 0)) (mNil)))
noncomputable def zbB:MS:=mSeq (mWhF (zaK) (zbw) 100) (mSeq (mIf (mTst (mBin neD (mBin ixA (mVar 0) (mCon (.str "own"))) (mLst (mNil)))) (mSeq (mAsg (mBin modD (mBin ixA (mBin ixA (mVar 0) (mCon (.str "own"))) (mCon (.int 0))) (mVar 1)) (gNm 2)) (mSeq (putA (mBin ixA (mVar 0) (mCon (.str "own"))) (mCon (.int 0)) (mBin ze4 (mBin ixA (mBin ixA (mVar 0) (mCon (.str "own"))) (mCon (.int 0))) (mVar 1))) (mRet (mVar 2)))) (zdJ)) (mSeq (putA (mVar 0) (mCon (.str "turn")) (mBin addE (mBin ixA (mVar 0) (mCon (.str "turn"))) (mCon (.int 1)))) (mSeq (mAsg (mBin modD (mBin mulA (mBin addE (mBin ixA (mVar 0) (mCon (.str "seed"))) (mBin mulA (mBin mulA (mCon (.int 7919)) (mBin ixA (mVar 0) (mCon (.str "turn")))) (mBin ixA (mVar 0) (mCon (.str "turn"))))) (mCon (.int 48271))) (mCon (.int 2305843009213693907))) (gNm 3)) (mSeq (mAsg (mBin modD (mBin mulA (mVar 3) (mBin addD (mBin addD (mBin modD (mVar 3) (mCon (.int 999983))) (mBin mulA (mCon (.int 131)) (mBin ixA (mVar 0) (mCon (.str "turn"))))) (mCon (.int 3)))) (mCon (.int 2305843009213693921))) (gNm 3)) (mRet (mBin modD (mBin addD (mBin ze4 (mVar 3) (mCon (.int 89))) (mBin ze4 (mVar 3) (mCon (.int 1000033)))) (mVar 1)))))))
noncomputable def zax:GN:=fnM 4 zbB
noncomputable def zbi:MS:=mSeq (mAsg (zn0 (mVar 1) (mTup (zae (mBin addD (mBin ixA (mVar 2) (mCon (.int 0))) (mVar 8)) (zae (mBin addD (mBin ixA (mVar 2) (mCon (.int 1))) (mVar 9)) (mNil))))) (gNm 10)) (mSeq (mAsg (mBin ixA (mBin ixA (mVar 5) (mVar 3)) (mBin addD (mCon (.int 1)) (mVar 7))) (gNm 11)) (mIf (zc9 (mTst (mBin zmH (mVar 10) (mCon .non))) (zc9 (mTst (mBin neD (mVar 11) (mCon (.str "")))) (mTst (mBin eqD (mVar 11) (mBin ixA (mBin ixA (mVar 5) (mVar 10)) (mBin addD (mCon (.int 1)) (mBin modD (mBin addD (mVar 7) (mCon (.int 2))) (mCon (.int 4))))))))) (mAsg (mBin addD (mVar 6) (mBin ixA (mVar 4) (mVar 11))) (gNm 6)) (zdJ)))
noncomputable def zdC:MS:=mSeq (mPar 4 5 (zae (zaw zmK (zae (mBin ixA (mBin ixA (mVar 0) (mCon (.int 0))) (mCon (.int 1))) (mNil))) (zae (mBin ixA (mBin ixA (mVar 0) (mCon (.int 0))) (mCon (.int 2))) (mNil)))) (mSeq (mAsg (mCon (.int 0)) (gNm 6)) (mSeq (mFor (zn1 (mLst (zae (mTup (zae (mCon (.int 0)) (zae (mCon (.int 1)) (mNil)))) (zae (mTup (zae (mCon (.int 1)) (zae (mCon (.int 0)) (mNil)))) (zae (mTup (zae (mCon (.int 0)) (zae (mNeg (mCon (.int 1))) (mNil)))) (zae (mTup (zae (mNeg (mCon (.int 1))) (zae (mCon (.int 0)) (mNil)))) (mNil))))))) (gTp 2 (gC (gNm 7) (gC (gTp 2 (gC (gNm 8) (gC (gNm 9) (gN0)))) (gN0)))) (zbi)) (mRet (mVar 6))))
noncomputable def zaH:GN:=fnM 12 zdC
noncomputable def zbr:ME:=mVar 0
noncomputable def za8:MT:=mTst (mBin geD (zaw zaH (zae (mVar 1) (zae (mVar 2) (zae (mVar 3) (zae (mVar 0) (mNil)))))) (mBin ixA (mBin ixA (mVar 1) (mCon (.int 0))) (mCon (.int 0))))
noncomputable def zcg:MS:=mRet (zbL (mR1 (zaw lenD (zae (mBin ixA (mBin ixA (mVar 0) (mCon (.int 0))) (mCon (.int 2))) (mNil)))) 1 [0,1,2] (gNm 0) (za8) (zbr))
noncomputable def zaj:GN:=fnM 3 zcg
noncomputable def zbN:ME:=mTup (zae (mTup (zae (mVar 0) (zae (mVar 1) (mNil)))) (zae (mVar 2) (mNil)))
noncomputable def zdB:MS:=mRet (zaw zon (zae (zbL (mWA (mVar 0)) 3 [] (gTp 3 (gC (gNm 0) (gC (gNm 1) (gC (gNm 2) (gN0))))) (zbT) (zbN)) (mNil)))
noncomputable def zaE:GN:=fnM 1 zdB
noncomputable def zao:MS:=mIf (zc9 (mTst (mBin zbC (mVar 5) (mVar 1))) (zc9 (mTst (zbD leD ltD (mCon (.int 0)) (mBin ixA (mVar 5) (mCon (.int 0))) (mBin ixA (mBin ixA (mVar 0) (mCon (.int 1))) (mCon (.int 0))))) (mTst (zbD leD ltD (mCon (.int 0)) (mBin ixA (mVar 5) (mCon (.int 1))) (mBin ixA (mBin ixA (mVar 0) (mCon (.int 1))) (mCon (.int 1))))))) (mIf (mTst (mBin neD (zaw zaj (zae (mVar 0) (zae (mVar 1) (zae (mVar 5) (mNil))))) (mLst (mNil)))) (mSeq (putA (mVar 1) (mVar 5) (mBin ixA (zaw zaj (zae (mVar 0) (zae (mVar 1) (zae (mVar 5) (mNil))))) (mCon (.int 0)))) (mExp (mApp (mVar 2) (zae (mVar 5) (mNil))))) (zdJ)) (zdJ)
noncomputable def zaP:MT:=mTst (mBin neD (mVar 2) (mLst (mNil)))
noncomputable def za1:MS:=mSeq (mAsg (zp9 (mVar 2)) (gTp 2 (gC (gNm 3) (gC (gNm 4) (gN0))))) (mFor (mWA (mLst (zae (mTup (zae (mVar 3) (zae (mBin addD (mVar 4) (mCon (.int 1))) (mNil)))) (zae (mTup (zae (mBin addD (mVar 3) (mCon (.int 1))) (zae (mVar 4) (mNil)))) (zae (mTup (zae (mVar 3) (zae (mBin subD (mVar 4) (mCon (.int 1))) (mNil)))) (zae (mTup (zae (mBin subD (mVar 3) (mCon (.int 1))) (zae (mVar 4) (mNil)))) (mNil))))))) (gNm 5) (zao))
noncomputable def zan:MS:=mIf (zc9 (mTst (mBin neD (mVar 9) (mVar 6))) (zc9 (mTst (mBin zbC (mVar 9) (mVar 7))) (mTst (mBin geD (zaw zaH (zae (mVar 0) (zae (mVar 7) (zae (mVar 9) (zae (mBin ixB (mVar 1) (mVar 9)) (mNil)))))) (mBin ixA (mBin ixA (mVar 0) (mCon (.int 0))) (mCon (.int 0))))))) (putA (mVar 7) (mVar 9) (mBin ixB (mVar 1) (mVar 9))) (zdJ)
noncomputable def zaZ:MT:=mTst (mBin ltD (mVar 8) (zaw lenF (zae (mVar 7) (mNil))))
noncomputable def za0:MS:=mSeq (mAsg (zaw lenF (zae (mVar 7) (mNil))) (gNm 8)) (mFor (mWKB (mVar 1)) (gNm 9) (zan))
noncomputable def zaJ:ME:=mVar 0
noncomputable def zat:MT:=mTst (mBin neD (mVar 0) (mBin ixB (mVar 1) (mVar 2)))
noncomputable def zaD:MS:=mIf (mTst (mBin zbC (mVar 6) (zaw zaE (zae (mBin ixA (mVar 0) (mCon (.int 2))) (mNil))))) (mSeq (mAsg (zaw zaE (zae (mBin ixA (mVar 0) (mCon (.int 2))) (mNil))) (gNm 7)) (mSeq (mAsg (mCon (.int 0)) (gNm 8)) (mSeq (mWhF (zaZ) (za0) 100) (mIf (mTst (mBin neD (zbL (mWA (zaw zaj (zae (mVar 0) (zae (mVar 7) (zae (mVar 6) (mNil)))))) 1 [1,6] (gNm 0) (zat) (zaJ)) (mLst (mNil)))) (mRet (mCon .non)) (zdJ))))) (zdJ)
noncomputable def zcJ:MS:=mSeq (mAsg (zaw zaE (zae (mBin ixA (mVar 0) (mCon (.int 2))) (mNil))) (gNm 1)) (mSeq (mAsg (zaw zbK (zae (mVar 1) (mNil))) (gNm 2)) (mSeq (mWhF (zaP) (za1) 100) (mSeq (mFor (mWKB (mVar 1)) (gNm 6) (zaD)) (mRet (mVar 1)))))
noncomputable def za3:GN:=fnM 10 zcJ
noncomputable def zaV:ME:=mTup (zae (mVar 1) (zae (mVar 0) (mNil)))
noncomputable def zaU:MS:=mExp (mExt (mVar 4) (zae (zbL (mR2 (mCon (.int 1)) (mBin addD (mVar 1) (mCon (.int 1)))) 1 [5] (gNm 0) (zbT) (zaV)) (mNil)))
noncomputable def zc3:MS:=mSeq (mIf (mOrT (zem (mTst (zaw zcW (zae (mVar 2) (mNil))))) (mOrT (mTst (mBin neD (mBin ixA (mVar 2) (mCon (.int 1))) (mTup (zae (mBin addD (mVar 0) (mCon (.int 2))) (zae (mBin addD (mVar 1) (mCon (.int 2))) (mNil)))))) (mOrT (mTst (mBin neD (zaw lenD (zae (mBin ixA (mVar 2) (mCon (.int 2))) (mNil))) (mCon (.int 1)))) (mTst (mBin gtD (zaw lenD (zae (mBin ixA (mBin ixA (mVar 2) (mCon (.int 0))) (mCon (.int 2))) (mNil))) (mBin addD (mVar 0) (mVar 1))))))) (mRet (mCon (.bl false))) (zdJ)) (mSeq (mAsg (zaw za3 (zae (mVar 2) (mNil))) (gNm 3)) (mSeq (mIf (mTst (mBin isBD (mVar 3) (mCon .non))) (mRet (mCon (.bl false))) (zdJ)) (mSeq (mAsg (mLst (mNil)) (gNm 4)) (mSeq (mFor (mR2 (mCon (.int 1)) (mBin addD (mVar 0) (mCon (.int 1)))) (gNm 5) (zaU)) (mRet (mBin eqD (zaw zbK (zae (mVar 3) (mNil))) (mVar 4)))))))
noncomputable def zbd:GN:=fnM 6 zc3
noncomputable def zfc:ME:=zaw zbG (zae (mVar 0) (zae (mVar 1) (mNil)))
noncomputable def zgs:MS:=mIf (mOrT (zem (mTst (zaw zbd (zae (mVar 4) (zae (mVar 5) (zae (mVar 6) (mNil))))))) (mTst (mBin neD (zaw zbG (zae (mVar 4) (zae (mVar 5) (mNil)))) (mVar 6)))) (mRet (mCon (.bl false))) (zdJ)
noncomputable def zra:MS:=mSeq (mAsg (zaw za9 (zae (mVar 0) (mNil))) (gNm 1)) (mSeq (mAsg (mLst (zae (mTup (zae (mBin addD (mCon (.int 1)) (zaw zax (zae (mVar 1) (zae (mCon (.int 6)) (mNil))))) (zae (mBin addD (mCon (.int 1)) (zaw zax (zae (mVar 1) (zae (mCon (.int 6)) (mNil))))) (mNil)))) (zae (mTup (zae (mBin addD (mCon (.int 1)) (zaw zax (zae (mVar 1) (zae (mCon (.int 6)) (mNil))))) (zae (mBin addD (mCon (.int 1)) (zaw zax (zae (mVar 1) (zae (mCon (.int 3)) (mNil))))) (mNil)))) (mNil)))) (gNm 2)) (mSeq (mAsg (zbL (mWA (mVar 2)) 2 [] (gTp 2 (gC (gNm 0) (gC (gNm 1) (gN0)))) (zbT) (zfc)) (gNm 3)) (mSeq (mFor (mZip (mVar 2) (mVar 3)) (gTp 2 (gC (gTp 2 (gC (gNm 4) (gC (gNm 5) (gN0)))) (gC (gNm 6) (gN0)))) (zgs)) (mRet (mCon (.bl true))))))
noncomputable def zmC:GN:=fnM 7 zra
end L2.MP.stickytiles_k55_box_beds
namespace L2.MP.stickytiles_k55_box_beds
open PySem L2 L2.MP  PySem.Spec PyProof.Rows
noncomputable def top(i:Nat):Stmt:=PySem.Challenge.pw_stickytiles_k55_box_beds.main.body.getD i (.Pass ⟨0,0,0,0⟩)
section
variable {P:Program} {w:World} {K:Ac} {mg:Str->Option Value} {base:Heap}
theorem nd_0:(["one","other"]:List Str).Nodup:=by decide +kernel
theorem nd_1:(["sign"]:List Str).Nodup:=by decide +kernel
theorem nd_2:(["part"]:List Str).Nodup:=by decide +kernel
theorem nd_3:(["stick"]:List Str).Nodup:=by decide +kernel
theorem nd_4:(["part","names"]:List Str).Nodup:=by decide +kernel
theorem nd_5:(["thing","kinds","names"]:List Str).Nodup:=by decide +kernel
theorem nd_6:(["bed","thing","floor"]:List Str).Nodup:=by decide +kernel
theorem nd_7:(["bed","thing","kinds"]:List Str).Nodup:=by decide +kernel
theorem nd_8:(["part","bed"]:List Str).Nodup:=by decide +kernel
theorem nd_9:(["tile"]:List Str).Nodup:=by decide +kernel
theorem znW:(["wide","high","across","upon","kinds","number"]:List Str).Nodup:=by decide +kernel
theorem zpZ:(["wide","high","strengths","number"]:List Str).Nodup:=by decide +kernel
theorem zjt:(["_law_script","_law_own","_law_seed","_law_far","_law_k","_law_cell","_law_part"]:List Str).Nodup:=by decide +kernel
theorem zrP:(["_law_cell","_law_far"]:List Str).Nodup:=by decide +kernel
theorem zpY:(["_law_spring","_law_many","_law_digit","_law_once"]:List Str).Nodup:=by decide +kernel
theorem zkm:(["_law_bed","_law_there","_law_place","_law_kind","_law_strengths","_law_kinds","_law_many","_law_side","_law_x","_law_y","_law_other","_law_name"]:List Str).Nodup:=by decide +kernel
theorem zrO:(["_law_kind","_law_bed","_law_there","_law_place"]:List Str).Nodup:=by decide +kernel
theorem zpX:(["_law_x","_law_y","_law_kind"]:List Str).Nodup:=by decide +kernel
theorem ziW:(["_law_bed","_law_there","_law_looked_at","_law_x","_law_y","_law_spot","_law_place","_law_left","_law_many","_law_other"]:List Str).Nodup:=by decide +kernel
theorem zrN:(["_law_kind","_law_there","_law_place"]:List Str).Nodup:=by decide +kernel
theorem zpW:(["_law_wide","_law_high","_law_bed","_law_there","_law_due","_law_x"]:List Str).Nodup:=by decide +kernel
theorem zrM:(["_law_y","_law_x"]:List Str).Nodup:=by decide +kernel
theorem zmI:(["_law_script","_law_spring","_law_sizes","_law_beds","_law_wide","_law_high","_law_bed"]:List Str).Nodup:=by decide +kernel
theorem zqX:(["_law_wide","_law_high"]:List Str).Nodup:=by decide +kernel
theorem zgG:FnScope ["thing","least","most"] ["thing","least","most"] (zal (top 3)):=⟨rfl,rfl,rfl,by decide +kernel,rfl,by decide +kernel,by decide +kernel⟩
theorem zgR(L:Laid K mg "is_whole" (top 3) ["thing","least","most"])(b_isinstance:mg "isinstance"=none)(b_int:mg "int"=none)(b_bool:mg "bool"=none):zaW P w K mg base 1 "is_whole" 3 zaI :=
 zbk (k:=0) L zgG fun f cdv A outer s H E hr=>JSs.out (zam (JS.mk (zaR (zbS (zd8 (T:="int") (x:="isinstance") (by decide) rfl b_isinstance (zab 0) rfl b_int zqE) (zbS (zpc (zd8 (T:="bool") (x:="isinstance") (by decide) rfl b_isinstance (zab 0) rfl b_bool zos)) (zcb (zhy zfA zfA (zab 1) (zab 0) (zab 2))))))))
theorem zgH:FnScope ["thing","size"] ["thing","size"] (zal (top 4)):=⟨rfl,rfl,rfl,by decide +kernel,rfl,by decide +kernel,by decide +kernel⟩
theorem zgS(L:Laid K mg "is_tuple" (top 4) ["thing","size"])(b_isinstance:mg "isinstance"=none)(b_tuple:mg "tuple"=none)(b_len:mg "len"=none):zaW P w K mg base 1 "is_tuple" 2 zar :=
 zbk (k:=0) L zgH fun f cdv A outer s H E hr=>JSs.out (zam (JS.mk (zaR (zbS (zd8 (T:="tuple") (x:="isinstance") (by decide) rfl b_isinstance (zab 0) rfl b_tuple zcT) (zcb (zgE (zgP (zaX hr)) (zaO zbo rfl b_len zdy (zaa (zab 0) (zag))) (zab 1) rfl))))))
theorem zlg:FnScope ["parts"] ["parts"] (zal (top 5)):=⟨rfl,rfl,rfl,by decide +kernel,rfl,by decide +kernel,by decide +kernel⟩
theorem zlH(L:Laid K mg "rises" (top 5) ["parts"])(b_zip:mg "zip"=none)(b_all:mg "all"=none):zaW P w K mg base 1 "rises" 1 zd3 :=
 zbk (k:=0) L zlg fun f cdv A outer s H E hr=>JSs.out (zam (JS.mk (zaR (zaO (zb8 rfl) rfl b_all zg9 (zaa (zbP rfl rfl (zbe (N':=["one","other"]) (nt:=2) (fr:=[]) [] rfl (by decide +kernel) (by decide +kernel) (by decide +kernel) rfl trivial trivial) (zm3 rfl b_zip (zab 0) (zcu (zab 0) (zdQ (zad)) (zdR))) (fun C s0 H0 fp=>zd7 rfl (zaN (zaz (i:=0) nd_0 rfl (by first | exact AA rfl | exact Az rfl)) (zaN (zaz (i:=1) nd_0 rfl (by first | exact AA rfl | exact Az rfl)) (zct)))) (fun C s0 H0 fp=>zc4) (fun C s0 H0 fp=>zgE (zpO (zaX hr)) (zab 0) (zab 1) rfl)) (zag))))))
theorem zhC:FnScope ["thing"] ["thing"] (zal (top 6)):=⟨rfl,rfl,rfl,by decide +kernel,rfl,by decide +kernel,by decide +kernel⟩
theorem zh3{t_LETTERS:Tok}(L:Laid K mg "is_name" (top 6) ["thing"])(b_isinstance:mg "isinstance"=none)(b_str:mg "str"=none)(b_len:mg "len"=none)(b_all:mg "all"=none)(g_LETTERS:mg "LETTERS"=some (.str "abcdefghijklmnopqrstuvwxyz" t_LETTERS)):zaW P w K mg base 1 "is_name" 1 zde :=
 zbk (k:=0) L zhC fun f cdv A outer s H E hr=>JSs.out (zam (JS.mk (zaR (zbS (zd8 (T:="str") (x:="isinstance") (by decide) rfl b_isinstance (zab 0) rfl b_str zmv) (zbS (zhy zfA zfA (zad) (zaO zbo rfl b_len zdy (zaa (zab 0) (zag))) (zad)) (zcb (zaO (zb8 rfl) rfl b_all zg9 (zaa (zbP rfl rfl (zbe (N':=["sign"]) (nt:=1) (fr:=[]) [] rfl (by decide +kernel) (by decide +kernel) (by decide +kernel) rfl trivial trivial) (zbm (zab 0)) (fun C s0 H0 fp=>zaz (i:=0) nd_1 rfl (by first | exact AA rfl | exact Az rfl)) (fun C s0 H0 fp=>zc4) (fun C s0 H0 fp=>zlc (zaX hr) (zab 0) (zeD rfl g_LETTERS))) (zag)))))))))
theorem zgI:FnScope ["thing"] ["thing"] (zal (top 7)):=⟨rfl,rfl,rfl,by decide +kernel,rfl,by decide +kernel,by decide +kernel⟩
theorem zgT(L:Laid K mg "is_stick" (top 7) ["thing"])(h_is_tuple:zaW P w K mg base 1 "is_tuple" 2 zar)(h_is_name:zaW P w K mg base 1 "is_name" 1 zde)(h_is_whole:zaW P w K mg base 1 "is_whole" 3 zaI):zaW P w K mg base 2 "is_stick" 1 zcF :=
 zbk (k:=1) L zgI fun f cdv A outer s H E hr=>JSs.out (zam (JS.mk (zaR (zbS (zah h_is_tuple (hr.mono (by decide)) rfl (zaa (zab 0) (zaa (zad) (zag))) (zak.cons (zak.cons zak.nil))) (zbS (zah h_is_name (hr.mono (by decide)) rfl (zaa (zas (zaQ hr) (zab 0) (zad)) (zag)) (zak.cons zak.nil)) (zcb (zah h_is_whole (hr.mono (by decide)) rfl (zaa (zas (zaQ hr) (zab 0) (zad)) (zaa (zad) (zaa (zad) (zag)))) (zak.cons (zak.cons (zak.cons zak.nil))))))))))
theorem zeH:FnScope ["thing"] ["thing"] (zal (top 8)):=⟨rfl,rfl,rfl,by decide +kernel,rfl,by decide +kernel,by decide +kernel⟩
theorem zeS(L:Laid K mg "are_sticks" (top 8) ["thing"])(b_isinstance:mg "isinstance"=none)(b_tuple:mg "tuple"=none)(b_all:mg "all"=none)(h_is_stick:zaW P w K mg base 2 "is_stick" 1 zcF)(h_rises:zaW P w K mg base 1 "rises" 1 zd3):zaW P w K mg base 3 "are_sticks" 1 zbA :=
 zbk (k:=2) L zeH fun f cdv A outer s H E hr=>JSs.out (zai (zfj (SW.sb (zhp (zcL (zgN (zd8 (T:="tuple") (x:="isinstance") (by decide) rfl b_isinstance (zab 0) rfl b_tuple zcT))) (zfq (zcL (zgN (zaO (zb8 rfl) rfl b_all zg9 (zaa (zbP rfl rfl (zbe (N':=["part"]) (nt:=1) (fr:=[]) [] rfl (by decide +kernel) (by decide +kernel) (by decide +kernel) rfl trivial trivial) (zbm (zab 0)) (fun C s0 H0 fp=>zaz (i:=0) nd_2 rfl (by first | exact AA rfl | exact Az rfl)) (fun C s0 H0 fp=>zc4) (fun C s0 H0 fp=>zah h_is_stick (hr.mono (by decide)) rfl (zaa (zab 0) (zag)) (zak.cons zak.nil))) (zag)))))))) (zam (JS.mk (zaR (zi9)))) (zbt)) (zam (JS.mk (zaR (zah h_rises (hr.mono (by decide)) rfl (zaa (zbP rfl rfl (zbe (N':=["stick"]) (nt:=1) (fr:=[]) [] rfl (by decide +kernel) (by decide +kernel) (by decide +kernel) rfl trivial trivial) (zbm (zab 0)) (fun C s0 H0 fp=>zaz (i:=0) nd_3 rfl (by first | exact AA rfl | exact Az rfl)) (fun C s0 H0 fp=>zc4) (fun C s0 H0 fp=>zas (zaQ hr) (zab 0) (zad))) (zag)) (zak.cons zak.nil))))))
theorem zhE:FnScope ["thing"] ["thing"] (zal (top 9)):=⟨rfl,rfl,rfl,by decide +kernel,rfl,by decide +kernel,by decide +kernel⟩
theorem zh5{t_FACE_SIGNS:Tok}(L:Laid K mg "is_face" (top 9) ["thing"])(b_isinstance:mg "isinstance"=none)(b_str:mg "str"=none)(b_len:mg "len"=none)(g_FACE_SIGNS:mg "FACE_SIGNS"=some (.str "abcdefghijklmnopqrstuvwxyz0123456789" t_FACE_SIGNS)):zaW P w K mg base 1 "is_face" 1 zdg :=
 zbk (k:=0) L zhE fun f cdv A outer s H E hr=>JSs.out (zam (JS.mk (zaR (zbS (zd8 (T:="str") (x:="isinstance") (by decide) rfl b_isinstance (zab 0) rfl b_str zmv) (zbS (zgE zfA (zaO zbo rfl b_len zdy (zaa (zab 0) (zag))) (zad) rfl) (zcb (zlc (zaX hr) (zab 0) (zeD rfl g_FACE_SIGNS))))))))
theorem zhB:FnScope ["thing","names"] ["thing","names"] (zal (top 10)):=⟨rfl,rfl,rfl,by decide +kernel,rfl,by decide +kernel,by decide +kernel⟩
theorem zh2(L:Laid K mg "is_side" (top 10) ["thing","names"])(b_isinstance:mg "isinstance"=none)(b_str:mg "str"=none):zaW P w K mg base 1 "is_side" 2 zdd :=
 zbk (k:=0) L zhB fun f cdv A outer s H E hr=>JSs.out (zam (JS.mk (zaR (zbS (zd8 (T:="str") (x:="isinstance") (by decide) rfl b_isinstance (zab 0) rfl b_str zmv) (zcb (zrs (zgE (zgP (zaX hr)) (zab 0) (za6) rfl) (zpb (zlc (zaX hr) (zab 0) (zab 1)))))))))
theorem zhD:FnScope ["thing","names"] ["thing","names"] (zal (top 11)):=⟨rfl,rfl,rfl,by decide +kernel,rfl,by decide +kernel,by decide +kernel⟩
theorem zh4(L:Laid K mg "is_kind" (top 11) ["thing","names"])(b_all:mg "all"=none)(h_is_tuple:zaW P w K mg base 1 "is_tuple" 2 zar)(h_is_face:zaW P w K mg base 1 "is_face" 1 zdg)(h_is_side:zaW P w K mg base 1 "is_side" 2 zdd):zaW P w K mg base 2 "is_kind" 2 zdf :=
 zbk (k:=1) L zhD fun f cdv A outer s H E hr=>JSs.out (zam (JS.mk (zaR (zbS (zah h_is_tuple (hr.mono (by decide)) rfl (zaa (zab 0) (zaa (zad) (zag))) (zak.cons (zak.cons zak.nil))) (zbS (zah h_is_face (hr.mono (by decide)) rfl (zaa (zas (zaQ hr) (zab 0) (zad)) (zag)) (zak.cons zak.nil)) (zcb (zaO (zb8 rfl) rfl b_all zg9 (zaa (zbP rfl rfl (zbe (N':=["part","names"]) (nt:=1) (fr:=[1]) ["names"] rfl (by decide +kernel) (by decide +kernel) (by decide +kernel) rfl ⟨⟨rfl,by decide⟩,trivial⟩ ⟨by first | exact AA rfl | exact Az rfl,trivial⟩) (zbm (zcu (zab 0) (zdQ (zad)) (zdR))) (fun C s0 H0 fp=>zaz (i:=0) nd_4 rfl (by first | exact AA rfl | exact Az rfl)) (fun C s0 H0 fp=>zc4) (fun C s0 H0 fp=>zah h_is_side (hr.mono (by decide)) rfl (zaa (zab 0) (zaa (zab 1) (zag))) (zak.cons (zak.cons zak.nil)))) (zag)))))))))
theorem zgK:FnScope ["thing","kinds","names"] ["thing"] (zal (top 12)):=⟨rfl,rfl,rfl,by decide +kernel,rfl,by decide +kernel,by decide +kernel⟩
theorem zgV(L:Laid K mg "is_house" (top 12) ["thing"])(b_isinstance:mg "isinstance"=none)(b_tuple:mg "tuple"=none)(b_len:mg "len"=none)(b_dict:mg "dict"=none)(b_all:mg "all"=none)(h_is_tuple:zaW P w K mg base 1 "is_tuple" 2 zar)(h_is_whole:zaW P w K mg base 1 "is_whole" 3 zaI)(h_are_sticks:zaW P w K mg base 3 "are_sticks" 1 zbA)(h_is_kind:zaW P w K mg base 2 "is_kind" 2 zdf):zaW P w K mg base 4 "is_house" 1 zcH :=
 zbk (k:=3) L zgK fun f cdv A outer s H E hr=>JSs.out (zai (zfj (SW.sb (zhp (zcL (zgN (zah h_is_tuple (hr.mono (by decide)) rfl (zaa (zab 0) (zaa (zad) (zag))) (zak.cons (zak.cons zak.nil))))) (zhp (zcL (zgN (zah h_is_whole (hr.mono (by decide)) rfl (zaa (zas (zaQ hr) (zab 0) (zad)) (zaa (zad) (zaa (zad) (zag)))) (zak.cons (zak.cons (zak.cons zak.nil)))))) (zfq (zcL (zgN (zah h_are_sticks (hr.mono (by decide)) rfl (zaa (zas (zaQ hr) (zab 0) (zad)) (zag)) (zak.cons zak.nil)))))))) (zam (JS.mk (zaR (zi9)))) (zbt)) (zai (JS.mk (zbl (i:=1) nd_5 rfl (by first | exact AA rfl | exact Az rfl) (zas (zaQ hr) (zab 0) (zad)))) (zai (zfj (SW.sb (zhp (zcL (zgN (zd8 (T:="tuple") (x:="isinstance") (by decide) rfl b_isinstance (zab 1) rfl b_tuple zcT))) (zfq (zbu (zgP (zaX hr)) (zaO zbo rfl b_len zdy (zaa (zab 1) (zag))) (zad) rfl)))) (zam (JS.mk (zaR (zi9)))) (zbt)) (zai (JS.mk (zbl (i:=2) nd_5 rfl (by first | exact AA rfl | exact Az rfl) (zcv (zd2 rfl) rfl b_dict ziM (zaa (zas (zaQ hr) (zab 0) (zad)) (zag))))) (zam (JS.mk (zaR (zaO (zb8 rfl) rfl b_all zg9 (zaa (zbP rfl rfl (zbe (N':=["part","names"]) (nt:=1) (fr:=[2]) ["names"] rfl (by decide +kernel) (by decide +kernel) (by decide +kernel) rfl ⟨⟨rfl,by decide⟩,trivial⟩ ⟨by first | exact AA rfl | exact Az rfl,trivial⟩) (zbm (zab 1)) (fun C s0 H0 fp=>zaz (i:=0) nd_4 rfl (by first | exact AA rfl | exact Az rfl)) (fun C s0 H0 fp=>zc4) (fun C s0 H0 fp=>zah h_is_kind (hr.mono (by decide)) rfl (zaa (zab 0) (zaa (zab 1) (zag))) (zak.cons (zak.cons zak.nil)))) (zag))))))))))
theorem zgL:FnScope ["thing"] ["thing"] (zal (top 13)):=⟨rfl,rfl,rfl,by decide +kernel,rfl,by decide +kernel,by decide +kernel⟩
theorem zgW(L:Laid K mg "is_floor" (top 13) ["thing"])(h_is_tuple:zaW P w K mg base 1 "is_tuple" 2 zar)(h_is_whole:zaW P w K mg base 1 "is_whole" 3 zaI):zaW P w K mg base 2 "is_floor" 1 zcI :=
 zbk (k:=1) L zgL fun f cdv A outer s H E hr=>JSs.out (zam (JS.mk (zaR (zbS (zah h_is_tuple (hr.mono (by decide)) rfl (zaa (zab 0) (zaa (zad) (zag))) (zak.cons (zak.cons zak.nil))) (zbS (zah h_is_whole (hr.mono (by decide)) rfl (zaa (zas (zaQ hr) (zab 0) (zad)) (zaa (zad) (zaa (zad) (zag)))) (zak.cons (zak.cons (zak.cons zak.nil)))) (zcb (zah h_is_whole (hr.mono (by decide)) rfl (zaa (zas (zaQ hr) (zab 0) (zad)) (zaa (zad) (zaa (zad) (zag)))) (zak.cons (zak.cons (zak.cons zak.nil))))))))))
theorem zgJ:FnScope ["bed","thing","floor"] ["bed","thing"] (zal (top 14)):=⟨rfl,rfl,rfl,by decide +kernel,rfl,by decide +kernel,by decide +kernel⟩
theorem zgU(L:Laid K mg "is_place" (top 14) ["bed","thing"])(h_is_tuple:zaW P w K mg base 1 "is_tuple" 2 zar)(h_is_whole:zaW P w K mg base 1 "is_whole" 3 zaI):zaW P w K mg base 2 "is_place" 2 zcG :=
 zbk (k:=1) L zgJ fun f cdv A outer s H E hr=>JSs.out (zai (JS.mk (zbl (i:=2) nd_6 rfl (by first | exact AA rfl | exact Az rfl) (zas (zaQ hr) (zab 0) (zad)))) (zam (JS.mk (zaR (zbS (zah h_is_tuple (hr.mono (by decide)) rfl (zaa (zab 1) (zaa (zad) (zag))) (zak.cons (zak.cons zak.nil))) (zbS (zah h_is_whole (hr.mono (by decide)) rfl (zaa (zas (zaQ hr) (zab 1) (zad)) (zaa (zad) (zaa (zau zeN (zas (zaQ hr) (zab 2) (zad)) (zad)) (zag)))) (zak.cons (zak.cons (zak.cons zak.nil)))) (zcb (zah h_is_whole (hr.mono (by decide)) rfl (zaa (zas (zaQ hr) (zab 1) (zad)) (zaa (zad) (zaa (zau zeN (zas (zaQ hr) (zab 2) (zad)) (zad)) (zag)))) (zak.cons (zak.cons (zak.cons zak.nil)))))))))))
theorem zhA:FnScope ["bed","thing","kinds"] ["bed","thing"] (zal (top 15)):=⟨rfl,rfl,rfl,by decide +kernel,rfl,by decide +kernel,by decide +kernel⟩
theorem zh1(L:Laid K mg "is_tile" (top 15) ["bed","thing"])(b_len:mg "len"=none)(h_is_tuple:zaW P w K mg base 1 "is_tuple" 2 zar)(h_is_place:zaW P w K mg base 2 "is_place" 2 zcG)(h_is_whole:zaW P w K mg base 1 "is_whole" 3 zaI):zaW P w K mg base 3 "is_tile" 2 zdc :=
 zbk (k:=2) L zhA fun f cdv A outer s H E hr=>JSs.out (zai (JS.mk (zbl (i:=2) nd_7 rfl (by first | exact AA rfl | exact Az rfl) (zas (zaQ hr) (zas (zaQ hr) (zab 0) (zad)) (zad)))) (zam (JS.mk (zaR (zbS (zah h_is_tuple (hr.mono (by decide)) rfl (zaa (zab 1) (zaa (zad) (zag))) (zak.cons (zak.cons zak.nil))) (zbS (zah h_is_place (hr.mono (by decide)) rfl (zaa (zab 0) (zaa (zcu (zab 1) (zdR) (zdQ (zad))) (zag))) (zak.cons (zak.cons zak.nil))) (zcb (zah h_is_whole (hr.mono (by decide)) rfl (zaa (zas (zaQ hr) (zab 1) (zad)) (zaa (zad) (zaa (zau zeN (zaO zbo rfl b_len zdy (zaa (zab 2) (zag))) (zad)) (zag)))) (zak.cons (zak.cons (zak.cons zak.nil)))))))))))
theorem zea:FnScope ["bed","thing"] ["bed","thing"] (zal (top 16)):=⟨rfl,rfl,rfl,by decide +kernel,rfl,by decide +kernel,by decide +kernel⟩
theorem zei(L:Laid K mg "is_standing" (top 16) ["bed","thing"])(b_isinstance:mg "isinstance"=none)(b_tuple:mg "tuple"=none)(b_all:mg "all"=none)(h_is_tile:zaW P w K mg base 3 "is_tile" 2 zdc)(h_rises:zaW P w K mg base 1 "rises" 1 zd3):zaW P w K mg base 4 "is_standing" 2 zbF :=
 zbk (k:=3) L zea fun f cdv A outer s H E hr=>JSs.out (zai (zfj (SW.sb (zhp (zcL (zgN (zd8 (T:="tuple") (x:="isinstance") (by decide) rfl b_isinstance (zab 1) rfl b_tuple zcT))) (zfq (zcL (zgN (zaO (zb8 rfl) rfl b_all zg9 (zaa (zbP rfl rfl (zbe (N':=["part","bed"]) (nt:=1) (fr:=[0]) ["bed"] rfl (by decide +kernel) (by decide +kernel) (by decide +kernel) rfl ⟨⟨rfl,by decide⟩,trivial⟩ ⟨by first | exact AA rfl | exact Az rfl,trivial⟩) (zbm (zab 1)) (fun C s0 H0 fp=>zaz (i:=0) nd_8 rfl (by first | exact AA rfl | exact Az rfl)) (fun C s0 H0 fp=>zc4) (fun C s0 H0 fp=>zah h_is_tile (hr.mono (by decide)) rfl (zaa (zab 1) (zaa (zab 0) (zag))) (zak.cons (zak.cons zak.nil)))) (zag)))))))) (zam (JS.mk (zaR (zi9)))) (zbt)) (zam (JS.mk (zaR (zah h_rises (hr.mono (by decide)) rfl (zaa (zbP rfl rfl (zbe (N':=["tile"]) (nt:=1) (fr:=[]) [] rfl (by decide +kernel) (by decide +kernel) (by decide +kernel) rfl trivial trivial) (zbm (zab 1)) (fun C s0 H0 fp=>zaz (i:=0) nd_9 rfl (by first | exact AA rfl | exact Az rfl)) (fun C s0 H0 fp=>zc4) (fun C s0 H0 fp=>zcu (zab 0) (zdR) (zdQ (zad)))) (zag)) (zak.cons zak.nil))))))
theorem zjb:FnScope ["thing"] ["thing"] (zal (top 17)):=⟨rfl,rfl,rfl,by decide +kernel,rfl,by decide +kernel,by decide +kernel⟩
theorem zjr(L:Laid K mg "is_bed" (top 17) ["thing"])(h_is_tuple:zaW P w K mg base 1 "is_tuple" 2 zar)(h_is_house:zaW P w K mg base 4 "is_house" 1 zcH)(h_is_floor:zaW P w K mg base 2 "is_floor" 1 zcI)(h_is_standing:zaW P w K mg base 4 "is_standing" 2 zbF):zaW P w K mg base 5 "is_bed" 1 zcW :=
 zbk (k:=4) L zjb fun f cdv A outer s H E hr=>JSs.out (zai (zfj (SW.sb (zhp (zcL (zgN (zah h_is_tuple (hr.mono (by decide)) rfl (zaa (zab 0) (zaa (zad) (zag))) (zak.cons (zak.cons zak.nil))))) (zhp (zcL (zgN (zah h_is_house (hr.mono (by decide)) rfl (zaa (zas (zaQ hr) (zab 0) (zad)) (zag)) (zak.cons zak.nil)))) (zfq (zcL (zgN (zah h_is_floor (hr.mono (by decide)) rfl (zaa (zas (zaQ hr) (zab 0) (zad)) (zag)) (zak.cons zak.nil)))))))) (zam (JS.mk (zaR (zi9)))) (zbt)) (zam (JS.mk (zaR (zah h_is_standing (hr.mono (by decide)) rfl (zaa (zab 0) (zaa (zas (zaQ hr) (zab 0) (zad)) (zag))) (zak.cons (zak.cons zak.nil)))))))
theorem zgF:FnScope ["letter","number"] ["letter","number"] (zal (top 19)):=⟨rfl,rfl,rfl,by decide +kernel,rfl,by decide +kernel,by decide +kernel⟩
theorem zgQ{t_LETTERS:Tok}(L:Laid K mg "numbered" (top 19) ["letter","number"])(g_LETTERS:mg "LETTERS"=some (.str "abcdefghijklmnopqrstuvwxyz" t_LETTERS)):zaW P w K mg base 1 "numbered" 2 zav :=
 zbk (k:=0) L zgF fun f cdv A outer s H E hr=>JSs.out (zam (JS.mk (zaR (zau zaF (zau zaF (zau zaF (zab 0) (zas (zaQ hr) (zeD rfl g_LETTERS) (zau zdq (zab 1) (zad)))) (zas (zaQ hr) (zeD rfl g_LETTERS) (zau zbV (zau zdq (zab 1) (zad)) (zad)))) (zas (zaQ hr) (zeD rfl g_LETTERS) (zau zbV (zab 1) (zad)))))))
theorem zgM:FnScope ["enough","strengths","kinds"] ["enough","strengths","kinds"] (zal (top 20)):=⟨rfl,rfl,rfl,by decide +kernel,rfl,by decide +kernel,by decide +kernel⟩
theorem zgX(L:Laid K mg "house_of" (top 20) ["enough","strengths","kinds"])(b_tuple:mg "tuple"=none)(b_sorted:mg "sorted"=none):zaW P w K mg base 1 "house_of" 3 zb2 :=
 zbk (k:=0) L zgM fun f cdv A outer s H E hr=>JSs.out (zam (JS.mk (zaR (zbp (zaa (zab 0) (zaa (zcv zd1 rfl b_tuple zcT (zaa (zm8 rfl rfl b_sorted (zab 1)) (zag))) (zaa (zcv zd1 rfl b_tuple zcT (zaa (zab 2) (zag))) (zag))))))))
theorem zeI:FnScope ["number"] ["number"] (zal (top 22)):=⟨rfl,rfl,rfl,by decide +kernel,rfl,by decide +kernel,by decide +kernel⟩
theorem zeT(L:Laid K mg "along_name" (top 22) ["number"])(h_numbered:zaW P w K mg base 1 "numbered" 2 zav):zaW P w K mg base 2 "along_name" 1 zaS :=
 zbk (k:=1) L zeI fun f cdv A outer s H E hr=>JSs.out (zam (JS.mk (zaR (zah h_numbered (hr.mono (by decide)) rfl (zaa (za6) (zaa (zab 0) (zag))) (zak.cons (zak.cons zak.nil))))))
theorem zhz:FnScope ["number"] ["number"] (zal (top 23)):=⟨rfl,rfl,rfl,by decide +kernel,rfl,by decide +kernel,by decide +kernel⟩
theorem zh0(L:Laid K mg "up_name" (top 23) ["number"])(h_numbered:zaW P w K mg base 1 "numbered" 2 zav):zaW P w K mg base 2 "up_name" 1 zbx :=
 zbk (k:=1) L zhz fun f cdv A outer s H E hr=>JSs.out (zam (JS.mk (zaR (zah h_numbered (hr.mono (by decide)) rfl (zaa (za6) (zaa (zab 0) (zag))) (zak.cons (zak.cons zak.nil))))))
theorem zft:FnScope ["wide","high","across","upon","kinds","number"] ["wide","high"] (zal (top 24)):=⟨rfl,rfl,rfl,by decide +kernel,rfl,by decide +kernel,by decide +kernel⟩
theorem zfB(L:Laid K mg "box_kinds" (top 24) ["wide","high"])(b_range:mg "range"=none)(h_numbered:zaW P w K mg base 1 "numbered" 2 zav)(h_along_name:zaW P w K mg base 2 "along_name" 1 zaS)(h_up_name:zaW P w K mg base 2 "up_name" 1 zbx):zaW P w K mg base 3 "box_kinds" 2 zbJ :=
 zbk (k:=2) L zft fun f cdv A outer s H E hr=>JSs.out (zai (JS.mk (zbl (i:=2) znW rfl (by first | exact AA rfl | exact Az rfl) (zah h_numbered (hr.mono (by decide)) rfl (zaa (za6) (zaa (zad) (zag))) (zak.cons (zak.cons zak.nil))))) (zai (JS.mk (zbl (i:=3) znW rfl (by first | exact AA rfl | exact Az rfl) (zah h_numbered (hr.mono (by decide)) rfl (zaa (za6) (zaa (zad) (zag))) (zak.cons (zak.cons zak.nil))))) (zai (JS.mk (zbl (i:=4) znW rfl (by first | exact AA rfl | exact Az rfl) (zdk (zaa (zbp (JA.out (zaC (za6) (zaC (zah h_up_name (hr.mono (by decide)) rfl (zaa (zad) (zag)) (zak.cons zak.nil)) (zaC (zah h_along_name (hr.mono (by decide)) rfl (zaa (zad) (zag)) (zak.cons zak.nil)) (zaC (za6) (zaC (za6) (ze0)))))))) (zag))))) (zai (zc5 AW rfl (zb6 rfl b_range (zad) (zab 0)) (zaz (i:=5) znW rfl (by first | exact AA rfl | exact Az rfl)) (zam (JS.mk (zdO (zc8 (zab 4) (zaa (zbp (JA.out (zaC (za6) (zaC (zab 3) (zaC (zah h_along_name (hr.mono (by decide)) rfl (zaa (zau zaF (zab 5) (zad)) (zag)) (zak.cons zak.nil)) (zaC (za6) (zaC (zah h_along_name (hr.mono (by decide)) rfl (zaa (zab 5) (zag)) (zak.cons zak.nil)) (ze0)))))))) (zag))))))) (zai (zc5 AW rfl (zb6 rfl b_range (zad) (zab 1)) (zaz (i:=5) znW rfl (by first | exact AA rfl | exact Az rfl)) (zam (JS.mk (zdO (zc8 (zab 4) (zaa (zbp (JA.out (zaC (za6) (zaC (zah h_up_name (hr.mono (by decide)) rfl (zaa (zau zaF (zab 5) (zad)) (zag)) (zak.cons zak.nil)) (zaC (zab 2) (zaC (zah h_up_name (hr.mono (by decide)) rfl (zaa (zab 5) (zag)) (zak.cons zak.nil)) (zaC (za6) (ze0)))))))) (zag))))))) (zai (JS.mk (zdO (zc8 (zab 4) (zaa (zbp (JA.out (zaC (za6) (zaC (zab 3) (zaC (zab 2) (zaC (zab 3) (zaC (zab 2) (ze0)))))))) (zag))))) (zam (JS.mk (zaR (zab 4))))))))))
theorem zhF:FnScope ["wide","high","strengths","number"] ["wide","high"] (zal (top 25)):=⟨rfl,rfl,rfl,by decide +kernel,rfl,by decide +kernel,by decide +kernel⟩
theorem zh6(L:Laid K mg "box_bed" (top 25) ["wide","high"])(b_range:mg "range"=none)(h_numbered:zaW P w K mg base 1 "numbered" 2 zav)(h_along_name:zaW P w K mg base 2 "along_name" 1 zaS)(h_up_name:zaW P w K mg base 2 "up_name" 1 zbx)(h_box_kinds:zaW P w K mg base 3 "box_kinds" 2 zbJ)(h_house_of:zaW P w K mg base 1 "house_of" 3 zb2):zaW P w K mg base 4 "box_bed" 2 zbG :=
 zbk (k:=3) L zhF fun f cdv A outer s H E hr=>JSs.out (zai (JS.mk (zbl (i:=2) zpZ rfl (by first | exact AA rfl | exact Az rfl) (zle (zah h_numbered (hr.mono (by decide)) rfl (zaa (za6) (zaa (zad) (zag))) (zak.cons (zak.cons zak.nil))) (zad) (zah h_numbered (hr.mono (by decide)) rfl (zaa (za6) (zaa (zad) (zag))) (zak.cons (zak.cons zak.nil))) (zad)))) (zai (zc5 AW rfl (zb6 rfl b_range (zad) (zau zaF (zab 0) (zad))) (zaz (i:=3) zpZ rfl (by first | exact AA rfl | exact Az rfl)) (zam (JS.mk (zgC (zaQ hr) (zab 2) (zah h_along_name (hr.mono (by decide)) rfl (zaa (zab 3) (zag)) (zak.cons zak.nil)) (zad))))) (zai (zc5 AW rfl (zb6 rfl b_range (zad) (zau zaF (zab 1) (zad))) (zaz (i:=3) zpZ rfl (by first | exact AA rfl | exact Az rfl)) (zam (JS.mk (zgC (zaQ hr) (zab 2) (zah h_up_name (hr.mono (by decide)) rfl (zaa (zab 3) (zag)) (zak.cons zak.nil)) (zad))))) (zam (JS.mk (zaR (zbp (zaa (zah h_house_of (hr.mono (by decide)) rfl (zaa (zad) (zaa (zab 2) (zaa (zah h_box_kinds (hr.mono (by decide)) rfl (zaa (zab 0) (zaa (zab 1) (zag))) (zak.cons (zak.cons zak.nil))) (zag)))) (zak.cons (zak.cons (zak.cons zak.nil)))) (zaa (zbp (zaa (zau zaF (zab 0) (zad)) (zaa (zau zaF (zab 1) (zad)) (zag)))) (zaa (zbp (zaa (zbp (zaa (zad) (zaa (zad) (zaa (zad) (zag))))) (zag))) (zag)))))))))))
theorem zcK:FnScope ["_law_script","_law_own","_law_seed","_law_far","_law_k","_law_cell","_law_part"] ["_law_script"] (zal (top 27)):=⟨rfl,rfl,rfl,by decide +kernel,rfl,by decide +kernel,by decide +kernel⟩
theorem zcN(L:Laid K mg "_law_spring_of" (top 27) ["_law_script"])(b_range:mg "range"=none)(b_len:mg "len"=none)(b_abs:mg "abs"=none):zaW P w K mg base 1 "_law_spring_of" 1 za9 :=
 zbk (k:=0) L zcK fun f cdv A outer s H E hr=>JSs.out (zai (JS.mk (zkY (zbp (zaa (zdk (zag)) (zaa (zad) (zaa (zau zhW (zad) (zad)) (zag))))) (zd7 rfl (zaN (zaz (i:=1) zjt rfl (by first | exact AA rfl | exact Az rfl)) (zaN (zaz (i:=2) zjt rfl (by first | exact AA rfl | exact Az rfl)) (zaN (zaz (i:=3) zjt rfl (by first | exact AA rfl | exact Az rfl)) (zct))))))) (zai (zc5 AW rfl (zf0 rfl b_range (zad)) (zaz (i:=4) zjt rfl (by first | exact AA rfl | exact Az rfl)) (zam (JS.mk (zbl (i:=3) zjt rfl (by first | exact AA rfl | exact Az rfl) (zau znI (zab 3) (zau zhW (zad) (zad))))))) (zai (zc5 AW rfl (zbm (zf1 (zab 0) (zdR) (zdQ (zad)))) (zaz (i:=5) zjt rfl (by first | exact AA rfl | exact Az rfl)) (zai (JS.mk (zbl (i:=6) zjt rfl (by first | exact AA rfl | exact Az rfl) (zau zbV (zab 5) (zad)))) (zam (JS.mk (zbl (i:=2) zjt rfl (by first | exact AA rfl | exact Az rfl) (zau zbV (zau zaF (zau zaF (zau zaF (zau zdp (zab 2) (zad)) (zau zdp (zab 6) (zab 6))) (zab 5)) (zad)) (zad))))))) (zai (zfj (SW.sb (zez (zbu znO (zaO zbo rfl b_len zdy (zaa (zab 0) (zag))) (zad) rfl) (zey (zbu zlE (zas (zaQ hr) (zab 0) (zad)) (zau zhW (zad) (zad)) rfl)))) (zam (JS.mk (zdN (i:=1) rfl rfl (zbe (N':=["_law_cell","_law_far"]) (nt:=1) (fr:=[3]) ["_law_far"] rfl (by decide +kernel) (by decide +kernel) (by decide +kernel) rfl ⟨⟨rfl,by decide⟩,trivial⟩ ⟨by first | exact AA rfl | exact Az rfl,trivial⟩) (zbm (zf1 (zab 0) (zdR) (zdQ (zad)))) (fun C s0 H0 fp=>zaz (i:=0) zrP rfl (by first | exact AA rfl | exact Az rfl)) (fun C s0 H0 fp=>zc4) (fun C s0 H0 fp=>zau zbV (zaO zjS rfl b_abs zqF (zaa (zab 0) (zag))) (zab 1)) zjt rfl rfl))) (zbt)) (zam (JS.mk (zaR (zld (za6) (zab 1) (za6) (zab 2) (za6) (zad) (by decide)))))))))
theorem zeE:FnScope ["_law_spring","_law_many","_law_digit","_law_once"] ["_law_spring","_law_many"] (zal (top 28)):=⟨rfl,rfl,rfl,by decide +kernel,rfl,by decide +kernel,by decide +kernel⟩
theorem zeP(L:Laid K mg "_law_take" (top 28) ["_law_spring","_law_many"]):zaW P w K mg base 1 "_law_take" 2 zax :=
 zbk (k:=0) L zeE fun f cdv A outer s H E hr=>JSs.out (zai (zfI AW (SW.sb (zez (zbu (zdo (zaX hr)) (zas (zaQ hr) (zab 0) (za6)) (zdk (zag)) rfl) (zey (zbu (zgP (zaX hr)) (zas (zaQ hr) (zas (zaQ hr) (zab 0) (za6)) (zad)) (zad) rfl)))) (zam (JS.mk (zdO (zpa (zas (zaQ hr) (zab 0) (za6)) (zaa (zad) (zag))))))) (zai (zfj (zbu (zdo (zaX hr)) (zas (zaQ hr) (zab 0) (za6)) (zdk (zag)) rfl) (zai (JS.mk (zbl (i:=2) zpY rfl (by first | exact AA rfl | exact Az rfl) (zau zbV (zas (zaQ hr) (zas (zaQ hr) (zab 0) (za6)) (zad)) (zab 1)))) (zai (JS.mk (zgC (zaQ hr) (zas (zaQ hr) (zab 0) (za6)) (zad) (zau zdq (zas (zaQ hr) (zas (zaQ hr) (zab 0) (za6)) (zad)) (zab 1)))) (zam (JS.mk (zaR (zab 2)))))) (zbt)) (zai (JS.mk (zgC (zaQ hr) (zab 0) (za6) (zau zkh (zas (zaQ hr) (zab 0) (za6)) (zad)))) (zai (JS.mk (zbl (i:=3) zpY rfl (by first | exact AA rfl | exact Az rfl) (zau zbV (zau zdp (zau zkh (zas (zaQ hr) (zab 0) (za6)) (zau zdp (zau zdp (zad) (zas (zaQ hr) (zab 0) (za6))) (zas (zaQ hr) (zab 0) (za6)))) (zad)) (zad)))) (zai (JS.mk (zbl (i:=3) zpY rfl (by first | exact AA rfl | exact Az rfl) (zau zbV (zau zdp (zab 3) (zau zaF (zau zaF (zau zbV (zab 3) (zad)) (zau zdp (zad) (zas (zaQ hr) (zab 0) (za6)))) (zad))) (zad)))) (zam (JS.mk (zaR (zau zbV (zau zaF (zau zdq (zab 3) (zad)) (zau zdq (zab 3) (zad))) (zab 1))))))))))
theorem zeG:FnScope ["_law_bed","_law_there","_law_place","_law_kind","_law_strengths","_law_kinds","_law_many","_law_side","_law_x","_law_y","_law_other","_law_name"] ["_law_bed","_law_there","_law_place","_law_kind"] (zal (top 29)):=⟨rfl,rfl,rfl,by decide +kernel,rfl,by decide +kernel,by decide +kernel⟩
theorem zeR(L:Laid K mg "_law_hold" (top 29) ["_law_bed","_law_there","_law_place","_law_kind"])(b_dict:mg "dict"=none)(b_enumerate:mg "enumerate"=none):zaW P w K mg base 1 "_law_hold" 4 zaH :=
 zbk (k:=0) L zeG fun f cdv A outer s H E hr=>JSs.out (zai (JS.mk (zo1 (i:=4) (j:=5) rfl zkm rfl rfl (by decide) rfl rfl (zaa (zcv (zd2 rfl) rfl b_dict ziM (zaa (zas (zaQ hr) (zas (zaQ hr) (zab 0) (zad)) (zad)) (zag))) (zaa (zas (zaQ hr) (zas (zaQ hr) (zab 0) (zad)) (zad)) (zag))))) (zai (JS.mk (zbl (i:=6) zkm rfl (by first | exact AA rfl | exact Az rfl) (zad))) (zai (zc5 AW rfl (zm7 rfl b_enumerate (zdk (JA.out (zaC (zbp (zaa (zad) (zaa (zad) (zag)))) (zaC (zbp (zaa (zad) (zaa (zad) (zag)))) (zaC (zbp (zaa (zad) (zaa (zna (zad)) (zag)))) (zaC (zbp (zaa (zna (zad)) (zaa (zad) (zag)))) (ze0)))))))) (zd7 rfl (zaN (zaz (i:=7) zkm rfl (by first | exact AA rfl | exact Az rfl)) (zaN (zd7 rfl (zaN (zaz (i:=8) zkm rfl (by first | exact AA rfl | exact Az rfl)) (zaN (zaz (i:=9) zkm rfl (by first | exact AA rfl | exact Az rfl)) (zct)))) (zct)))) (zai (JS.mk (zbl (i:=10) zkm rfl (by first | exact AA rfl | exact Az rfl) (znb (zaQ hr) (zab 1) (zbp (zaa (zau zaF (zas (zaQ hr) (zab 2) (zad)) (zab 8)) (zaa (zau zaF (zas (zaQ hr) (zab 2) (zad)) (zab 9)) (zag))))))) (zai (JS.mk (zbl (i:=11) zkm rfl (by first | exact AA rfl | exact Az rfl) (zas (zaQ hr) (zas (zaQ hr) (zab 5) (zab 3)) (zau zaF (zad) (zab 7))))) (zam (zfj (SW.sb (zez (zbu zlC (zab 10) (zla) rfl) (zez (zbu (zdo (zaX hr)) (zab 11) (za6) rfl) (zey (zbu (zgP (zaX hr)) (zab 11) (zas (zaQ hr) (zas (zaQ hr) (zab 5) (zab 10)) (zau zaF (zad) (zau zbV (zau zaF (zab 7) (zad)) (zad)))) rfl))))) (zam (JS.mk (zbl (i:=6) zkm rfl (by first | exact AA rfl | exact Az rfl) (zau zaF (zab 6) (zas (zaQ hr) (zab 4) (zab 11)))))) (zbt)))))) (zam (JS.mk (zaR (zab 6)))))))
theorem zdl:FnScope ["_law_bed","_law_there","_law_place"] ["_law_bed","_law_there","_law_place"] (zal (top 30)):=⟨rfl,rfl,rfl,by decide +kernel,rfl,by decide +kernel,by decide +kernel⟩
theorem zdr(L:Laid K mg "_law_fitting" (top 30) ["_law_bed","_law_there","_law_place"])(b_len:mg "len"=none)(b_range:mg "range"=none)(h_q_law_hold:zaW P w K mg base 1 "_law_hold" 4 zaH):zaW P w K mg base 2 "_law_fitting" 3 zaj :=
 zbk (k:=1) L zdl fun f cdv A outer s H E hr=>JSs.out (zam (JS.mk (zaR (zbP rfl rfl (zbe (N':=["_law_kind","_law_bed","_law_there","_law_place"]) (nt:=1) (fr:=[0,1,2]) ["_law_bed","_law_there","_law_place"] rfl (by decide +kernel) (by decide +kernel) (by decide +kernel) rfl ⟨⟨rfl,by decide⟩,⟨⟨rfl,by decide⟩,⟨⟨rfl,by decide⟩,trivial⟩⟩⟩ ⟨by first | exact AA rfl | exact Az rfl,⟨by first | exact AA rfl | exact Az rfl,⟨by first | exact AA rfl | exact Az rfl,trivial⟩⟩⟩) (zf0 rfl b_range (zaO zbo rfl b_len zdy (zaa (zas (zaQ hr) (zas (zaQ hr) (zab 0) (zad)) (zad)) (zag)))) (fun C s0 H0 fp=>zaz (i:=0) zrO rfl (by first | exact AA rfl | exact Az rfl)) (fun C s0 H0 fp=>znf (zbu zlE (zah h_q_law_hold (hr.mono (by decide)) rfl (JA.out (zaC (zab 1) (zaC (zab 2) (zaC (zab 3) (zaC (zab 0) (ze0)))))) (zak.cons (zak.cons (zak.cons (zak.cons zak.nil))))) (zas (zaQ hr) (zas (zaQ hr) (zab 1) (zad)) (zad)) rfl)) (fun C s0 H0 fp=>zab 0)))))
theorem zeF:FnScope ["_law_tiles"] ["_law_tiles"] (zal (top 31)):=⟨rfl,rfl,rfl,by decide +kernel,rfl,by decide +kernel,by decide +kernel⟩
theorem zeQ(L:Laid K mg "_law_lain" (top 31) ["_law_tiles"])(b_dict:mg "dict"=none):zaW P w K mg base 1 "_law_lain" 1 zaE :=
 zbk (k:=0) L zeF fun f cdv A outer s H E hr=>JSs.out (zam (JS.mk (zaR (zcv (zg7 rfl (zrv hr)) rfl b_dict ziM (zaa (zbP rfl rfl (zbe (N':=["_law_x","_law_y","_law_kind"]) (nt:=3) (fr:=[]) [] rfl (by decide +kernel) (by decide +kernel) (by decide +kernel) rfl trivial trivial) (zbm (zab 0)) (fun C s0 H0 fp=>zd7 rfl (zaN (zaz (i:=0) zpX rfl (by first | exact AA rfl | exact Az rfl)) (zaN (zaz (i:=1) zpX rfl (by first | exact AA rfl | exact Az rfl)) (zaN (zaz (i:=2) zpX rfl (by first | exact AA rfl | exact Az rfl)) (zct))))) (fun C s0 H0 fp=>zc4) (fun C s0 H0 fp=>zbp (zaa (zbp (zaa (zab 0) (zaa (zab 1) (zag)))) (zaa (zab 2) (zag))))) (zag))))))
theorem zdG:FnScope ["_law_bed","_law_there","_law_looked_at","_law_x","_law_y","_law_spot","_law_place","_law_left","_law_many","_law_other"] ["_law_bed"] (zal (top 32)):=⟨rfl,rfl,rfl,by decide +kernel,rfl,by decide +kernel,by decide +kernel⟩
theorem zdI(L:Laid K mg "_law_end_of" (top 32) ["_law_bed"])(b_sorted:mg "sorted"=none)(b_len:mg "len"=none)(h_q_law_lain:zaW P w K mg base 1 "_law_lain" 1 zaE)(h_q_law_fitting:zaW P w K mg base 2 "_law_fitting" 3 zaj)(h_q_law_hold:zaW P w K mg base 1 "_law_hold" 4 zaH):zaW P w K mg base 3 "_law_end_of" 1 za3 :=
 zbk (k:=2) L zdG fun f cdv A outer s H E hr=>JSs.out (zai (JS.mk (zbl (i:=1) ziW rfl (by first | exact AA rfl | exact Az rfl) (zah h_q_law_lain (hr.mono (by decide)) rfl (zaa (zas (zaQ hr) (zab 0) (zad)) (zag)) (zak.cons zak.nil)))) (zai (JS.mk (zbl (i:=2) ziW rfl (by first | exact AA rfl | exact Az rfl) (zaO (zc1 rfl) rfl b_sorted zes (zaa (zab 1) (zag))))) (zai (zfI AW (zbu (zdo (zaX hr)) (zab 2) (zdk (zag)) rfl) (zai (JS.mk (zkY (zm9 (zab 2)) (zd7 rfl (zaN (zaz (i:=3) ziW rfl (by first | exact AA rfl | exact Az rfl)) (zaN (zaz (i:=4) ziW rfl (by first | exact AA rfl | exact Az rfl)) (zct)))))) (zam (zc5 AW rfl (zbm (zdk (JA.out (zaC (zbp (zaa (zab 3) (zaa (zau zaF (zab 4) (zad)) (zag)))) (zaC (zbp (zaa (zau zaF (zab 3) (zad)) (zaa (zab 4) (zag)))) (zaC (zbp (zaa (zab 3) (zaa (zau zeN (zab 4) (zad)) (zag)))) (zaC (zbp (zaa (zau zeN (zab 3) (zad)) (zaa (zab 4) (zag)))) (ze0)))))))) (zaz (i:=5) ziW rfl (by first | exact AA rfl | exact Az rfl)) (zam (zfj (SW.sb (zez (zeb (zaX hr) (zab 5) (zab 1)) (zez (zhG zfA zjp (zad) (zas (zaQ hr) (zab 5) (zad)) (zas (zaQ hr) (zas (zaQ hr) (zab 0) (zad)) (zad))) (zey (zhG zfA zjp (zad) (zas (zaQ hr) (zab 5) (zad)) (zas (zaQ hr) (zas (zaQ hr) (zab 0) (zad)) (zad))))))) (zam (zfj (zbu (zdo (zaX hr)) (zah h_q_law_fitting (hr.mono (by decide)) rfl (zaa (zab 0) (zaa (zab 1) (zaa (zab 5) (zag)))) (zak.cons (zak.cons (zak.cons zak.nil)))) (zdk (zag)) rfl) (zai (JS.mk (zgC (zaQ hr) (zab 1) (zab 5) (zas (zaQ hr) (zah h_q_law_fitting (hr.mono (by decide)) rfl (zaa (zab 0) (zaa (zab 1) (zaa (zab 5) (zag)))) (zak.cons (zak.cons (zak.cons zak.nil)))) (zad)))) (zam (JS.mk (zdO (zc8 (zab 2) (zaa (zab 5) (zag))))))) (zbt))) (zbt))))))) (zai (zc5 AW rfl (zhw (zab 1)) (zaz (i:=6) ziW rfl (by first | exact AA rfl | exact Az rfl)) (zam (zfj (zeb (zaX hr) (zab 6) (zah h_q_law_lain (hr.mono (by decide)) rfl (zaa (zas (zaQ hr) (zab 0) (zad)) (zag)) (zak.cons zak.nil))) (zai (JS.mk (zbl (i:=7) ziW rfl (by first | exact AA rfl | exact Az rfl) (zah h_q_law_lain (hr.mono (by decide)) rfl (zaa (zas (zaQ hr) (zab 0) (zad)) (zag)) (zak.cons zak.nil)))) (zai (JS.mk (zbl (i:=8) ziW rfl (by first | exact AA rfl | exact Az rfl) (zad))) (zai (zfI AW (zbu zjp (zab 8) (zaO zgm rfl b_len zdy (zaa (zab 7) (zag))) rfl) (zai (JS.mk (zbl (i:=8) ziW rfl (by first | exact AA rfl | exact Az rfl) (zaO zgm rfl b_len zdy (zaa (zab 7) (zag))))) (zam (zc5 AW rfl (zhw (zab 1)) (zaz (i:=9) ziW rfl (by first | exact AA rfl | exact Az rfl)) (zam (zfj (SW.sb (zez (zbu (zdo (zaX hr)) (zab 9) (zab 6) rfl) (zez (zeb (zaX hr) (zab 9) (zab 7)) (zey (zbu zlE (zah h_q_law_hold (hr.mono (by decide)) rfl (JA.out (zaC (zab 0) (zaC (zab 7) (zaC (zab 9) (zaC (zlb (zaQ hr) (zab 1) (zab 9)) (ze0)))))) (zak.cons (zak.cons (zak.cons (zak.cons zak.nil))))) (zas (zaQ hr) (zas (zaQ hr) (zab 0) (zad)) (zad)) rfl))))) (zam (JS.mk (zgC (zaQ hr) (zab 7) (zab 9) (zlb (zaQ hr) (zab 1) (zab 9))))) (zbt))))))) (zam (zfj (zbu (zdo (zaX hr)) (zbP rfl rfl (zbe (N':=["_law_kind","_law_there","_law_place"]) (nt:=1) (fr:=[1,6]) ["_law_there","_law_place"] rfl (by decide +kernel) (by decide +kernel) (by decide +kernel) rfl ⟨⟨rfl,by decide⟩,⟨⟨rfl,by decide⟩,trivial⟩⟩ ⟨by first | exact AA rfl | exact Az rfl,⟨by first | exact AA rfl | exact Az rfl,trivial⟩⟩) (zbm (zah h_q_law_fitting (hr.mono (by decide)) rfl (zaa (zab 0) (zaa (zab 7) (zaa (zab 6) (zag)))) (zak.cons (zak.cons (zak.cons zak.nil))))) (fun C s0 H0 fp=>zaz (i:=0) zrN rfl (by first | exact AA rfl | exact Az rfl)) (fun C s0 H0 fp=>znf (zbu (zdo (zaX hr)) (zab 0) (zlb (zaQ hr) (zab 1) (zab 2)) rfl)) (fun C s0 H0 fp=>zab 0)) (zdk (zag)) rfl) (zam (JS.mk (zaR (zla)))) (zbt)))))) (zbt)))) (zam (JS.mk (zaR (zab 1))))))))
theorem zd9:FnScope ["_law_wide","_law_high","_law_bed","_law_there","_law_due","_law_x"] ["_law_wide","_law_high","_law_bed"] (zal (top 33)):=⟨rfl,rfl,rfl,by decide +kernel,rfl,by decide +kernel,by decide +kernel⟩
theorem zeh(L:Laid K mg "_law_right" (top 33) ["_law_wide","_law_high","_law_bed"])(b_len:mg "len"=none)(b_range:mg "range"=none)(b_sorted:mg "sorted"=none)(h_is_bed:zaW P w K mg base 5 "is_bed" 1 zcW)(h_q_law_end_of:zaW P w K mg base 3 "_law_end_of" 1 za3):zaW P w K mg base 6 "_law_right" 3 zbd :=
 zbk (k:=5) L zd9 fun f cdv A outer s H E hr=>JSs.out (zai (zfj (SW.sb (zhp (zcL (zgN (zah h_is_bed (hr.mono (by decide)) rfl (zaa (zab 2) (zag)) (zak.cons zak.nil)))) (zhp (zbu (zdo (zaX hr)) (zas (zaQ hr) (zab 2) (zad)) (zbp (zaa (zau zaF (zab 0) (zad)) (zaa (zau zaF (zab 1) (zad)) (zag)))) rfl) (zhp (zbu (zdo (zaX hr)) (zaO zbo rfl b_len zdy (zaa (zas (zaQ hr) (zab 2) (zad)) (zag))) (zad) rfl) (zfq (zbu znO (zaO zbo rfl b_len zdy (zaa (zas (zaQ hr) (zas (zaQ hr) (zab 2) (zad)) (zad)) (zag))) (zau zaF (zab 0) (zab 1)) rfl)))))) (zam (JS.mk (zaR (zi9)))) (zbt)) (zai (JS.mk (zbl (i:=3) zpW rfl (by first | exact AA rfl | exact Az rfl) (zah h_q_law_end_of (hr.mono (by decide)) rfl (zaa (zab 2) (zag)) (zak.cons zak.nil)))) (zai (zfj (zbu znM (zab 3) (zla) rfl) (zam (JS.mk (zaR (zi9)))) (zbt)) (zai (JS.mk (zbl (i:=4) zpW rfl (by first | exact AA rfl | exact Az rfl) (zdk (zag)))) (zai (zc5 AW rfl (zb6 rfl b_range (zad) (zau zaF (zab 0) (zad))) (zaz (i:=5) zpW rfl (by first | exact AA rfl | exact Az rfl)) (zam (JS.mk (zdO (zi8 (zab 4) (zaa (zbP rfl rfl (zbe (N':=["_law_y","_law_x"]) (nt:=1) (fr:=[5]) ["_law_x"] rfl (by decide +kernel) (by decide +kernel) (by decide +kernel) rfl ⟨⟨rfl,by decide⟩,trivial⟩ ⟨by first | exact AA rfl | exact Az rfl,trivial⟩) (zb6 rfl b_range (zad) (zau zaF (zab 1) (zad))) (fun C s0 H0 fp=>zaz (i:=0) zrM rfl (by first | exact AA rfl | exact Az rfl)) (fun C s0 H0 fp=>zc4) (fun C s0 H0 fp=>zbp (zaa (zab 1) (zaa (zab 0) (zag))))) (zag))))))) (zam (JS.mk (zaR (zgE (zgP (zaX hr)) (zaO (zc1 rfl) rfl b_sorted zes (zaa (zab 3) (zag))) (zab 4) rfl)))))))))
theorem zpe:FnScope ["_law_script","_law_spring","_law_sizes","_law_beds","_law_wide","_law_high","_law_bed"] ["_law_script"] (zal (top 34)):=⟨rfl,rfl,rfl,by decide +kernel,rfl,by decide +kernel,by decide +kernel⟩
theorem zqq{f:Addr}{fd:FuncData}(F:Fun K "law" "law" (top 34) f fd)(b_zip:mg "zip"=none)(h_q_law_spring_of:zaW P w K mg base 1 "_law_spring_of" 1 za9)(h_q_law_take:zaW P w K mg base 1 "_law_take" 2 zax)(h_box_bed:zaW P w K mg base 4 "box_bed" 2 zbG)(h_q_law_right:zaW P w K mg base 6 "_law_right" 3 zbd):FnOk P w K mg base CX0 7 f fd ["_law_script"] (spM K 1 zmC) :=
 fn_m (k:=6) F zpe fun cdv A outer s H E hr=>JSs.out (zai (JS.mk (zbl (i:=1) zmI rfl (by first | exact AA rfl | exact Az rfl) (zah h_q_law_spring_of (hr.mono (by decide)) rfl (zaa (zab 0) (zag)) (zak.cons zak.nil)))) (zai (JS.mk (zbl (i:=2) zmI rfl (by first | exact AA rfl | exact Az rfl) (zdk (zaa (zbp (zaa (zau zaF (zad) (zah h_q_law_take (hr.mono (by decide)) rfl (zaa (zab 1) (zaa (zad) (zag))) (zak.cons (zak.cons zak.nil)))) (zaa (zau zaF (zad) (zah h_q_law_take (hr.mono (by decide)) rfl (zaa (zab 1) (zaa (zad) (zag))) (zak.cons (zak.cons zak.nil)))) (zag)))) (zaa (zbp (zaa (zau zaF (zad) (zah h_q_law_take (hr.mono (by decide)) rfl (zaa (zab 1) (zaa (zad) (zag))) (zak.cons (zak.cons zak.nil)))) (zaa (zau zaF (zad) (zah h_q_law_take (hr.mono (by decide)) rfl (zaa (zab 1) (zaa (zad) (zag))) (zak.cons (zak.cons zak.nil)))) (zag)))) (zag)))))) (zai (JS.mk (zdN (i:=3) rfl rfl (zbe (N':=["_law_wide","_law_high"]) (nt:=2) (fr:=[]) [] rfl (by decide +kernel) (by decide +kernel) (by decide +kernel) rfl trivial trivial) (zbm (zab 2)) (fun C s0 H0 fp=>zd7 rfl (zaN (zaz (i:=0) zqX rfl (by first | exact AA rfl | exact Az rfl)) (zaN (zaz (i:=1) zqX rfl (by first | exact AA rfl | exact Az rfl)) (zct)))) (fun C s0 H0 fp=>zc4) (fun C s0 H0 fp=>zah h_box_bed (hr.mono (by decide)) rfl (zaa (zab 0) (zaa (zab 1) (zag))) (zak.cons (zak.cons zak.nil))) zmI rfl rfl)) (zai (zc5 AW rfl (zm3 rfl b_zip (zab 2) (zab 3)) (zd7 rfl (zaN (zd7 rfl (zaN (zaz (i:=4) zmI rfl (by first | exact AA rfl | exact Az rfl)) (zaN (zaz (i:=5) zmI rfl (by first | exact AA rfl | exact Az rfl)) (zct)))) (zaN (zaz (i:=6) zmI rfl (by first | exact AA rfl | exact Az rfl)) (zct)))) (zam (zfj (SW.sb (zhp (zcL (zgN (zah h_q_law_right (hr.mono (by decide)) rfl (zaa (zab 4) (zaa (zab 5) (zaa (zab 6) (zag)))) (zak.cons (zak.cons (zak.cons zak.nil)))))) (zfq (zbu (zdo (zaX hr)) (zah h_box_bed (hr.mono (by decide)) rfl (zaa (zab 4) (zaa (zab 5) (zag))) (zak.cons (zak.cons zak.nil))) (zab 6) rfl)))) (zam (JS.mk (zaR (zi9)))) (zbt)))) (zam (JS.mk (zaR (zi9))))))))
end
theorem zqN{P:Program}{w:World}{K:Ac}{mg:Str->Option Value}{base:Heap}{f:Addr}{fd:FuncData}(b_isinstance:mg "isinstance"=none)(b_int:mg "int"=none)(b_bool:mg "bool"=none)(b_tuple:mg "tuple"=none)(b_len:mg "len"=none)(b_zip:mg "zip"=none)(b_all:mg "all"=none)(b_str:mg "str"=none)(b_dict:mg "dict"=none)(b_sorted:mg "sorted"=none)(b_range:mg "range"=none)(b_abs:mg "abs"=none)(b_enumerate:mg "enumerate"=none){t_LETTERS:Tok}(g_LETTERS:mg "LETTERS"=some (.str "abcdefghijklmnopqrstuvwxyz" t_LETTERS)){t_FACE_SIGNS:Tok}(g_FACE_SIGNS:mg "FACE_SIGNS"=some (.str "abcdefghijklmnopqrstuvwxyz0123456789" t_FACE_SIGNS))(L_is_whole:Laid K mg "is_whole" (top 3) ["thing","least","most"])(L_is_tuple:Laid K mg "is_tuple" (top 4) ["thing","size"])(L_rises:Laid K mg "rises" (top 5) ["parts"])(L_is_name:Laid K mg "is_name" (top 6) ["thing"])(L_is_stick:Laid K mg "is_stick" (top 7) ["thing"])(L_are_sticks:Laid K mg "are_sticks" (top 8) ["thing"])(L_is_face:Laid K mg "is_face" (top 9) ["thing"])(L_is_side:Laid K mg "is_side" (top 10) ["thing","names"])(L_is_kind:Laid K mg "is_kind" (top 11) ["thing","names"])(L_is_house:Laid K mg "is_house" (top 12) ["thing"])(L_is_floor:Laid K mg "is_floor" (top 13) ["thing"])(L_is_place:Laid K mg "is_place" (top 14) ["bed","thing"])(L_is_tile:Laid K mg "is_tile" (top 15) ["bed","thing"])(L_is_standing:Laid K mg "is_standing" (top 16) ["bed","thing"])(L_is_bed:Laid K mg "is_bed" (top 17) ["thing"])(L_numbered:Laid K mg "numbered" (top 19) ["letter","number"])(L_house_of:Laid K mg "house_of" (top 20) ["enough","strengths","kinds"])(L_along_name:Laid K mg "along_name" (top 22) ["number"])(L_up_name:Laid K mg "up_name" (top 23) ["number"])(L_box_kinds:Laid K mg "box_kinds" (top 24) ["wide","high"])(L_box_bed:Laid K mg "box_bed" (top 25) ["wide","high"])(L_q_law_spring_of:Laid K mg "_law_spring_of" (top 27) ["_law_script"])(L_q_law_take:Laid K mg "_law_take" (top 28) ["_law_spring","_law_many"])(L_q_law_hold:Laid K mg "_law_hold" (top 29) ["_law_bed","_law_there","_law_place","_law_kind"])(L_q_law_fitting:Laid K mg "_law_fitting" (top 30) ["_law_bed","_law_there","_law_place"])(L_q_law_lain:Laid K mg "_law_lain" (top 31) ["_law_tiles"])(L_q_law_end_of:Laid K mg "_law_end_of" (top 32) ["_law_bed"])(L_q_law_right:Laid K mg "_law_right" (top 33) ["_law_wide","_law_high","_law_bed"])(F:Fun K "law" "law" (top 34) f fd):FnOk P w K mg base CX0 7 f fd ["_law_script"] (spM K 1 zmC):=by
 have h_is_whole:=zgR (P:=P) (w:=w) (base:=base) L_is_whole  b_isinstance b_int b_bool;have h_is_tuple:=zgS (P:=P) (w:=w) (base:=base) L_is_tuple  b_isinstance b_tuple b_len;have h_rises:=zlH (P:=P) (w:=w) (base:=base) L_rises  b_zip b_all;have h_is_name:=zh3 (P:=P) (w:=w) (base:=base) L_is_name  b_isinstance b_str b_len b_all g_LETTERS;have h_is_stick:=zgT (P:=P) (w:=w) (base:=base) L_is_stick    h_is_tuple h_is_name h_is_whole;have h_are_sticks:=zeS (P:=P) (w:=w) (base:=base) L_are_sticks  b_isinstance b_tuple b_all  h_is_stick h_rises;have h_is_face:=zh5 (P:=P) (w:=w) (base:=base) L_is_face  b_isinstance b_str b_len g_FACE_SIGNS;have h_is_side:=zh2 (P:=P) (w:=w) (base:=base) L_is_side  b_isinstance b_str;have h_is_kind:=zh4 (P:=P) (w:=w) (base:=base) L_is_kind  b_all  h_is_tuple h_is_face h_is_side;have h_is_house:=zgV (P:=P) (w:=w) (base:=base) L_is_house  b_isinstance b_tuple b_len b_dict b_all  h_is_tuple h_is_whole h_are_sticks h_is_kind;have h_is_floor:=zgW (P:=P) (w:=w) (base:=base) L_is_floor    h_is_tuple h_is_whole;have h_is_place:=zgU (P:=P) (w:=w) (base:=base) L_is_place    h_is_tuple h_is_whole;have h_is_tile:=zh1 (P:=P) (w:=w) (base:=base) L_is_tile  b_len  h_is_tuple h_is_place h_is_whole;have h_is_standing:=zei (P:=P) (w:=w) (base:=base) L_is_standing  b_isinstance b_tuple b_all  h_is_tile h_rises;have h_is_bed:=zjr (P:=P) (w:=w) (base:=base) L_is_bed    h_is_tuple h_is_house h_is_floor h_is_standing;have h_numbered:=zgQ (P:=P) (w:=w) (base:=base) L_numbered   g_LETTERS;have h_house_of:=zgX (P:=P) (w:=w) (base:=base) L_house_of  b_tuple b_sorted;have h_along_name:=zeT (P:=P) (w:=w) (base:=base) L_along_name    h_numbered;have h_up_name:=zh0 (P:=P) (w:=w) (base:=base) L_up_name    h_numbered;have h_box_kinds:=zfB (P:=P) (w:=w) (base:=base) L_box_kinds  b_range  h_numbered h_along_name h_up_name;have h_box_bed:=zh6 (P:=P) (w:=w) (base:=base) L_box_bed  b_range  h_numbered h_along_name h_up_name h_box_kinds h_house_of;have h_q_law_spring_of:=zcN (P:=P) (w:=w) (base:=base) L_q_law_spring_of  b_range b_len b_abs;have h_q_law_take:=zeP (P:=P) (w:=w) (base:=base) L_q_law_take;have h_q_law_hold:=zeR (P:=P) (w:=w) (base:=base) L_q_law_hold  b_dict b_enumerate;have h_q_law_fitting:=zdr (P:=P) (w:=w) (base:=base) L_q_law_fitting  b_len b_range  h_q_law_hold;have h_q_law_lain:=zeQ (P:=P) (w:=w) (base:=base) L_q_law_lain  b_dict;have h_q_law_end_of:=zdI (P:=P) (w:=w) (base:=base) L_q_law_end_of  b_sorted b_len  h_q_law_lain h_q_law_fitting h_q_law_hold;have h_q_law_right:=zeh (P:=P) (w:=w) (base:=base) L_q_law_right  b_len b_range b_sorted  h_is_bed h_q_law_end_of;exact zqq F b_zip h_q_law_spring_of h_q_law_take h_box_bed h_q_law_right
theorem all_mk{l:D2}{w:World}{K:Ac}{h:Heap}{mg:Str->Option Value}{fa:Addr}(X:K.In h)(G:h.Ns mainGlobals mg)(hfa:mg "law"=some (.ref fa)){f0 f1 f2 f3 f4 f5 f6 f7 f8 f9 f10 f11 f12 f13 f14 f15 f16 f17 f18 f19 f20 f21 f22 f23 f24 f25 f26 f27 f28:Addr}
   (a0:FdIn K "is_whole" (top 3) f0)
   (a1:FdIn K "is_tuple" (top 4) f1)
   (a2:FdIn K "rises" (top 5) f2)
   (a3:FdIn K "is_name" (top 6) f3)
   (a4:FdIn K "is_stick" (top 7) f4)
   (a5:FdIn K "are_sticks" (top 8) f5)
   (a6:FdIn K "is_face" (top 9) f6)
   (a7:FdIn K "is_side" (top 10) f7)
   (a8:FdIn K "is_kind" (top 11) f8)
   (a9:FdIn K "is_house" (top 12) f9)
   (a10:FdIn K "is_floor" (top 13) f10)
   (a11:FdIn K "is_place" (top 14) f11)
   (a12:FdIn K "is_tile" (top 15) f12)
   (a13:FdIn K "is_standing" (top 16) f13)
   (a14:FdIn K "is_bed" (top 17) f14)
   (a15:FdIn K "numbered" (top 19) f15)
   (a16:FdIn K "house_of" (top 20) f16)
   (a17:FdIn K "along_name" (top 22) f17)
   (a18:FdIn K "up_name" (top 23) f18)
   (a19:FdIn K "box_kinds" (top 24) f19)
   (a20:FdIn K "box_bed" (top 25) f20)
   (a21:FdIn K "_law_spring_of" (top 27) f21)
   (a22:FdIn K "_law_take" (top 28) f22)
   (a23:FdIn K "_law_hold" (top 29) f23)
   (a24:FdIn K "_law_fitting" (top 30) f24)
   (a25:FdIn K "_law_lain" (top 31) f25)
   (a26:FdIn K "_law_end_of" (top 32) f26)
   (a27:FdIn K "_law_right" (top 33) f27)
   (a28:FdIn K "law" (top 34) f28)
   (z0:A8 K mainGlobals "isinstance"=some none)
   (z1:A8 K mainGlobals "int"=some none)
   (z2:A8 K mainGlobals "bool"=some none)
   (z3:A8 K mainGlobals "tuple"=some none)
   (z4:A8 K mainGlobals "len"=some none)
   (z5:A8 K mainGlobals "zip"=some none)
   (z6:A8 K mainGlobals "all"=some none)
   (z7:A8 K mainGlobals "str"=some none)
   (z8:A8 K mainGlobals "dict"=some none)
   (z9:A8 K mainGlobals "sorted"=some none)
   (z10:A8 K mainGlobals "range"=some none)
   (z11:A8 K mainGlobals "abs"=some none)
   (z12:A8 K mainGlobals "enumerate"=some none)
   {tg0:Tok} (y0:A8 K mainGlobals "LETTERS"=some (some (.str "abcdefghijklmnopqrstuvwxyz" tg0)))
   {tg1:Tok} (y1:A8 K mainGlobals "FACE_SIGNS"=some (some (.str "abcdefghijklmnopqrstuvwxyz0123456789" tg1))) :
   ∃ fd:FuncData,(∀ (s:Shared) (v:Value),BindsTo s fd ⟨[v],[]⟩ [("_law_script",v)])/\∀ base:Heap,K.In base->base.Ns mainGlobals mg->FnOk l.prog w K mg base CX0 7 fa fd ["_law_script"] (spM K 1 zmC):=by
 obtain⟨⟨oc,od,kV,dc,pm,an,cd,ct,sl,l,c⟩,n,k⟩:=a28;have e:=hfa.symm.trans (Dz X G n);cases e;exact⟨_,fun s v=>.of_eq rfl,fun base _ _=>zqN (AV X G z0) (AV X G z1) (AV X G z2) (AV X G z3) (AV X G z4) (AV X G z5) (AV X G z6) (AV X G z7) (AV X G z8) (AV X G z9) (AV X G z10) (AV X G z11) (AV X G z12) (Dz X G y0) (Dz X G y1)
   (zaM (ps:=["thing","least","most"]) a0 X G fun _ _ _ _ _ _=>len3 fun _ _ _=>rfl)
   (zaM (ps:=["thing","size"]) a1 X G fun _ _ _ _ _ _=>len2 fun _ _=>rfl)
   (zaM (ps:=["parts"]) a2 X G fun _ _ _ _ _ _=>len1 fun _=>rfl)
   (zaM (ps:=["thing"]) a3 X G fun _ _ _ _ _ _=>len1 fun _=>rfl)
   (zaM (ps:=["thing"]) a4 X G fun _ _ _ _ _ _=>len1 fun _=>rfl)
   (zaM (ps:=["thing"]) a5 X G fun _ _ _ _ _ _=>len1 fun _=>rfl)
   (zaM (ps:=["thing"]) a6 X G fun _ _ _ _ _ _=>len1 fun _=>rfl)
   (zaM (ps:=["thing","names"]) a7 X G fun _ _ _ _ _ _=>len2 fun _ _=>rfl)
   (zaM (ps:=["thing","names"]) a8 X G fun _ _ _ _ _ _=>len2 fun _ _=>rfl)
   (zaM (ps:=["thing"]) a9 X G fun _ _ _ _ _ _=>len1 fun _=>rfl)
   (zaM (ps:=["thing"]) a10 X G fun _ _ _ _ _ _=>len1 fun _=>rfl)
   (zaM (ps:=["bed","thing"]) a11 X G fun _ _ _ _ _ _=>len2 fun _ _=>rfl)
   (zaM (ps:=["bed","thing"]) a12 X G fun _ _ _ _ _ _=>len2 fun _ _=>rfl)
   (zaM (ps:=["bed","thing"]) a13 X G fun _ _ _ _ _ _=>len2 fun _ _=>rfl)
   (zaM (ps:=["thing"]) a14 X G fun _ _ _ _ _ _=>len1 fun _=>rfl)
   (zaM (ps:=["letter","number"]) a15 X G fun _ _ _ _ _ _=>len2 fun _ _=>rfl)
   (zaM (ps:=["enough","strengths","kinds"]) a16 X G fun _ _ _ _ _ _=>len3 fun _ _ _=>rfl)
   (zaM (ps:=["number"]) a17 X G fun _ _ _ _ _ _=>len1 fun _=>rfl)
   (zaM (ps:=["number"]) a18 X G fun _ _ _ _ _ _=>len1 fun _=>rfl)
   (zaM (ps:=["wide","high"]) a19 X G fun _ _ _ _ _ _=>len2 fun _ _=>rfl)
   (zaM (ps:=["wide","high"]) a20 X G fun _ _ _ _ _ _=>len2 fun _ _=>rfl)
   (zaM (ps:=["_law_script"]) a21 X G fun _ _ _ _ _ _=>len1 fun _=>rfl)
   (zaM (ps:=["_law_spring","_law_many"]) a22 X G fun _ _ _ _ _ _=>len2 fun _ _=>rfl)
   (zaM (ps:=["_law_bed","_law_there","_law_place","_law_kind"]) a23 X G fun _ _ _ _ _ _=>len4 fun _ _ _ _=>rfl)
   (zaM (ps:=["_law_bed","_law_there","_law_place"]) a24 X G fun _ _ _ _ _ _=>len3 fun _ _ _=>rfl)
   (zaM (ps:=["_law_tiles"]) a25 X G fun _ _ _ _ _ _=>len1 fun _=>rfl)
   (zaM (ps:=["_law_bed"]) a26 X G fun _ _ _ _ _ _=>len1 fun _=>rfl)
   (zaM (ps:=["_law_wide","_law_high","_law_bed"]) a27 X G fun _ _ _ _ _ _=>len3 fun _ _ _=>rfl)
   (zmc (st:=top 34) l c k)⟩
end L2.MP.stickytiles_k55_box_beds
namespace L2.MP.stickytiles_k55_box_beds
open PySem L2.MP L2.MP.Hd
open L2.MP.Hb (FrB)
noncomputable def spr(q:Nat)(b t:Int):List (Key×D):=[(.inr "own",.ref q),(.inr "seed",.int b),(.inr "turn",.int t)]
theorem os:(("own":Str)="seed")=False:=by decide
theorem ot:(("own":Str)="turn")=False:=by decide
theorem stn:(("seed":Str)="turn")=False:=by decide
section
variable {n q:Nat} {st:Sto} {b t:Int}
theorem zjG(h:st[n]?=some (.dk (spr q b t))):ixA (.ref n) (.str "own") st=some (.ref q,st):=Hd.zoN h (by simp[valD,spr])
theorem zoc(h:st[n]?=some (.dk (spr q b t))):ixA (.ref n) (.str "seed") st=some (.int b,st):=Hd.zoN h (by simp[valD,spr,os])
theorem zkt(h:st[n]?=some (.dk (spr q b t))):ixA (.ref n) (.str "turn") st=some (.int t,st):=Hd.zoN h (by simp[valD,spr,ot,stn])
theorem zll(c:Int)(h:st[n]?=some (.dk (spr q b t))):dput st n (.str "turn") (.int c)=some (st.set n (.dk (spr q b c))):=by
 unfold dput;simp only[h];have:3 < sizeLine:=by decide
 simp[keyOf,this,putD,spr,ot,stn]
def PotS(n q m:Nat)(st:Sto):Prop:=∃ (as:List Int) (b t:Int),st[n]?=some (.dk (spr q b t))/\st[q]?=some (.lst (as.map D.int))/\q≠n/\(∀ a∈as,0<=a)/\as.length<=63/\(0<=b/\b < 2305843009213693951)/\0<=t/\t<=m
theorem zj3{many:Int}{v w:Option D}(hqn:q≠n):∀ (as:List Int) (st:Sto) (k:Nat),st[n]?=some (.dk (spr q b t))->st[q]?=some (.lst (as.map D.int))->as.length < k ->
   ∃ (as':List Int) (st':Sto),mWhF zaK zbw k [some (.ref n),some (.int many),v,w] st=some (.nx [some (.ref n),some (.int many),v,w],st')/\st'[n]?=some (.dk (spr q b t))/\st'[q]?=some (.lst (as'.map D.int))/\(∀ a∈as',a∈as)/\as'.length<=as.length/\FrB n q st st'
 | as,st,0,_,_,h=>absurd h (Cu _)
 | as,st,k+1,h1,h2,hk=>by
   have i0:=zjG h1;have e1:=zkl (st:=st++[.lst []]) (f:=q) (g:=st.length) (as:=as) (by rw[Ar (getElem?_lt h2)];exact h2) (za4 st _);have h1':(st++[O.lst []])[n]?=some (.dk (spr q b t)):=by rw[Ar (getElem?_lt h1)];exact h1
   have h2':(st++[O.lst []])[q]?=some (.lst (as.map D.int)):=by rw[Ar (getElem?_lt h2)];exact h2
   have i0':=zjG h1';generalize hs:st++[O.lst []]=s1 at e1 h1' h2' i0';have f1:FrB n q st s1:=by rw[<-hs];exact Hb.FrB.app _ _ _ _
   cases as with
   | nil =>
     refine⟨[],s1,?_,h1',h2',by simp,by simp,f1⟩;have et:zaK [some (.ref n),some (.int many),v,w] st=some (false,s1):=by
       unfold zaK;simp[i0,hs,e1]
     rw[mWhF];simp[et]
   | cons a as =>
     have i1:ixA (.ref q) (.int 0) s1=some (.int a,s1):=zl3 h2' (by decide) rfl
     by_cases ha:a=0
     . subst ha;have et:zaK [some (.ref n),some (.int many),v,w] st=some (true,s1):=by
         unfold zaK;simp[i0,hs,e1,i0',i1,eq_int]
       have hl:zbw [some (.ref n),some (.int many),v,w] s1=some (.nx [some (.ref n),some (.int many),v,w],s1.set q (.lst (as.map D.int))):=by
         unfold zbw;have:seqIndex? 0 ((0:Int)::as).length=some 0:=by
           unfold seqIndex?;simp
         simp[zqL,i0',zbj,h2',popD,show small 0=true by decide];simp at this;rw[this];simp
       obtain⟨as',s',e,g1,g2,g3,g4,g5⟩:=zj3 (many:=many) (v:=v) (w:=w) hqn as (s1.set q (.lst (as.map D.int))) k (by rw[AH hqn];exact h1') (by simp[getElem?_lt h2']) (by simp at hk;omega);refine⟨as',s',?_,g1,g2,fun x hx=>Ag _ (g3 x hx),by simp;omega,(f1.trans (Hb.FrB.setQ _ _ _ _)).trans g5⟩;rw[mWhF];simp[et,hl,e]
     . refine⟨a::as,s1,?_,h1',h2',by simp,by simp,f1⟩;have et:zaK [some (.ref n),some (.int many),v,w] st=some (false,s1):=by
         unfold zaK;simp[i0,hs,e1,i0',i1,eq_int,ha]
       rw[mWhF];simp[et]
theorem zfV{m:Nat}{many:Int}(h:PotS n q m st)(h1:0 < many)(h2:many < 18446744073709551616)(hm:m<=1000000):∃ (r:Int) (st':Sto),zax [.ref n,.int many] st=some (.int r,st')/\0<=r/\r < many/\PotS n q (m+1) st'/\FrB n q st st':=by
 obtain⟨as0,b,t,en,eq0,hqn,hpos0,hlen0,⟨hb,hb2⟩,ht,ht2⟩:=h;have hm2:many < 340282366920938463463374607431768211456:=by omega
 obtain⟨as,s1,ew,en1,eq1,hsub,hlen,f1⟩:=zj3 (many:=many) (v:=none) (w:=none) hqn as0 st 100 en eq0 (by omega);have hpos:∀ a∈as,0<=a:=fun a ha=>hpos0 a (hsub a ha);have i0:=zjG en1;have e1:=zkl (st:=s1++[.lst []]) (f:=q) (g:=s1.length) (as:=as) (by rw[Ar (getElem?_lt eq1)];exact eq1) (za4 s1 _);have en2:(s1++[O.lst []])[n]?=some (.dk (spr q b t)):=by rw[Ar (getElem?_lt en1)];exact en1
 have eq2:(s1++[O.lst []])[q]?=some (.lst (as.map D.int)):=by rw[Ar (getElem?_lt eq1)];exact eq1
 generalize hs:s1++[O.lst []]=s2 at e1 en2 eq2;have f2:FrB n q st s2:=f1.trans (by rw[<-hs];exact Hb.FrB.app _ _ _ _);have j0:=zjG en2;have hn2:=getElem?_lt en2;have hq2:=getElem?_lt eq2
 cases as with
 | cons a as =>
   have j1:ixA (.ref q) (.int 0) s2=some (.int a,s2):=zl3 eq2 (by decide) rfl;have ha:=hpos a Am;refine⟨a % many,s2.set q (.lst ((a / many::as).map D.int)),zbQ ?_,Ca _ (by omega),Cb _ h1,⟨a / many::as,b,t,by rw[AH hqn];exact en2,by simp[hq2],hqn,?_,by simp at hlen ⊢;omega,⟨hb,hb2⟩,ht,by omega⟩,f2.trans (Hb.FrB.setQ _ _ _ _)⟩
   . show zbB [some (.ref n),some (.int many),none,none] st=_;unfold zbB;refine zaB ew ?_;refine zfs ?_;have hset:setD (.ref q) (.int 0) (.int (a / many)) s2=some (s2.set q (.lst ((a / many::as).map D.int))):=by
       simp[setD,eq2,ixN]
     have et:mTst (mBin neD (mBin ixA (mVar 0) (mCon (.str "own"))) (mLst (mNil))) [some (.ref n),some (.int many),none,none] s1=some (true,s2):=by simp[i0,hs,e1]
     rw[zha,et];show mSeq _ _ [some (.ref n),some (.int many),none,none] s2=_;refine zaB (ρ1:=[some (.ref n),some (.int many),some (.int (a % many)),none]) (s1:=s2) (by simp[j0,j1,modD,intD,h1]) ?_;refine zaB (ρ1:=[some (.ref n),some (.int many),some (.int (a % many)),none]) (s1:=s2.set q (.lst ((a / many::as).map D.int))) (by
       simp only[ziR,zcn,zcB,zoz,zbc,zbZ,Aj,As,Ab,j0,j1,ze4,intD,h1];simp[j0,j1,h1,hm2,hset,zeM]) ?_
     simp
   . intro x hx
     rcases List.mem_cons.mp hx with rfl | hx
     . exact Int.ediv_nonneg ha (by omega)
     . exact hpos x (Ag _ hx)
 | nil =>
   have ep:=zll (t+1) en2;have en3:(s2.set n (.dk (spr q b (t+1))))[n]?=some (.dk (spr q b (t+1))):=by simp[hn2]
   have eq3:(s2.set n (.dk (spr q b (t+1))))[q]?=some (.lst (([]:List Int).map D.int)):=by rw[AH (fun h=>hqn h.symm)];exact eq2
   have f3:FrB n q st (s2.set n (.dk (spr q b (t+1)))):=f2.trans (Hb.FrB.setN _ _ _ _);have jt:=zkt en2;generalize hs3:s2.set n (.dk (spr q b (t+1)))=s3 at ep en3 eq3 f3;have k1:=zoc en3;have k2:=zkt en3;have c1:in64 (t+1)=true:=by unfold in64;simp;omega
   generalize hx1:(b+7919*(t+1)*(t+1))*48271 % 2305843009213693907=x1;have x10:0<=x1:=by rw[<-hx1];exact Ca _ (by decide)
   have x11:x1 < 2305843009213693907:=by rw[<-hx1];exact Cb _ (by decide)
   have c2:in64 x1=true:=by unfold in64;simp;omega
   generalize hx2:x1*(x1 % 999983+131*(t+1)+3) % 2305843009213693921=x2;generalize hx3:x2 / 89+x2 / 1000033=x3;have c3:in64 48271=true:=by decide
   have c4:in64 7919=true:=by decide
   have c5:in64 131=true:=by decide
   refine⟨x3 % many,s3,zbQ ?_,Ca _ (by omega),Cb _ h1,⟨[],b,t+1,en3,eq3,hqn,by simp,by simp,⟨hb,hb2⟩,by omega,by push_cast;omega⟩,f3⟩;show zbB [some (.ref n),some (.int many),none,none] st=_;unfold zbB;refine zaB ew ?_;have et:mTst (mBin neD (mBin ixA (mVar 0) (mCon (.str "own"))) (mLst (mNil))) [some (.ref n),some (.int many),none,none] s1=some (false,s2):=by simp[i0,hs,e1]
   refine zaB (ρ1:=[some (.ref n),some (.int many),none,none]) (s1:=s2) (by rw[zha,et];rfl) ?_;have aE:∀ (u v:Int) (s:Sto),addE (.int u) (.int v) s=some (.int (u+v),s):=fun u v s=>rfl;have mA:∀ (u v:Int) (s:Sto),in64 u=true\/in64 v=true->mulA (.int u) (.int v) s=some (.int (u*v),s):=fun u v s h=>by
     have:(in64 u || in64 v)=true:=by rcases h with h | h <;> simp[h]
     simp[mulA,orG,mulD,intD,this,zeM]
   have mD:∀ (u v:Int) (s:Sto),0 < v->modD (.int u) (.int v) s=some (.int (u % v),s):=fun u v s h=>by simp[modD,intD,h]
   have fD:∀ (u v:Int) (s:Sto),0 < v->v < 1000000000->ze4 (.int u) (.int v) s=some (.int (u / v),s):=fun u v s h h'=>by
     have:v < 340282366920938463463374607431768211456:=by omega
     simp[ze4,intD,h,this]
   refine zaB (ρ1:=[some (.ref n),some (.int many),none,none]) (s1:=s3) (by
     have en:∀ d k,setD (.ref n) (.str k) d s2=none:=fun d k=>by simp[setD,en2]
     simp only[ziR,zcn,zcB,zoz,zbc,zbZ,Aj,As,Ab,jt,aE,en,Dc,zfx];unfold zlS;simp only[zcB,zbc,zbZ,Aj,As,Ab,jt,aE,ep,Ay]) ?_
   refine zaB (ρ1:=[some (.ref n),some (.int many),none,some (.int x1)]) (s1:=s3) (by
     simp only[zcn,zcB,zbc,zbZ,Aj,As,Ab,k1,k2,mA 7919 _ _ (.inl c4),mA _ _ _ (.inr c1),aE,mA _ _ _ (.inr c3),mD _ _ _ (show (0:Int) < 2305843009213693907 by decide),hx1]
     rfl) ?_
   refine zaB (ρ1:=[some (.ref n),some (.int many),none,some (.int x2)]) (s1:=s3) (by
     simp only[zcn,zcB,zbc,zbZ,Aj,As,Ab,k2,mD _ _ _ (show (0:Int) < 999983 by decide),mA 131 _ _ (.inl c5),add_int,mA _ _ _ (.inl c2),mD _ _ _ (show (0:Int) < 2305843009213693921 by decide),hx2]
     rfl) ?_
   simp only[zet,zcB,zbc,zbZ,Aj,As,Ab,fD _ _ _ (show (0:Int) < 89 by decide) (by decide),fD _ _ _ (show (0:Int) < 1000033 by decide) (by decide),add_int,hx3,mD _ _ _ h1];rfl
end
theorem zm1{ds:List D}{lo hi:Option Int}{st:Sto}:slC (.kl ds) lo hi st=some (.ref st.length,st++[.lst (cutD ds lo hi)]):=by
 unfold slC;rw[Hb.zo6,zeM]
theorem zoy{m:ME}{ml mh:MO}{ρ:Rho}{st:Sto}:mSlC m ml mh ρ st=(m ρ st).bind fun p=>(ml ρ p.2).bind fun q=>(mh ρ q.2).bind fun r=>slC p.1 q.1 r.1 r.2:=rfl
theorem p60(st:Sto):powB (.int 10) (.int 60) st=some (.int (10 ^ 60),st):=by
 have:(decide ((0:Int)<=60)&&decide ((Bk 10:Int)*60<=2 ^ 27))=true:=by decide +kernel
 unfold powB intD;dsimp only;rw[if_pos this];rfl
theorem mulF{F P:Int}{k:Nat}{st:Sto}(h0:0 < F)(hF:F.natAbs < 2 ^ (200*k))(hk:k<=10)(p0:0 < P)(hP:P.natAbs < 2 ^ 200):mulB (.int F) (.int P) st=some (.int (F*P),st)/\0 < F*P/\(F*P).natAbs < 2 ^ (200*(k+1)):=by
 have b1:Bk F<=2 ^ 20:=AF (D0 hF) (by omega);have b2:Bk P<=2 ^ 20:=AF (D0 hP) (by decide);refine⟨?_,Int.mul_pos h0 p0,?_⟩
 . unfold mulB intD;dsimp only;rw[if_pos (by rw[decide_eq_true b1,decide_eq_true b2];rfl)]
 . rw[Int.natAbs_mul,Nat.mul_add,Nat.mul_one,Nat.pow_add];exact Nat.mul_lt_mul'' hF hP
theorem pP:(0:Int) < 10 ^ 60/\((10:Int) ^ 60).natAbs < 2 ^ 200:=by decide +kernel
theorem zi2{ns:List Int}(st:Sto)(hl:ns.length<=63):∃ (n q:Nat) (st':Sto),za9 [.kl (ns.map D.int)] st=some (.ref n,st')/\PotS n q 0 st'/\Gr st st':=by
 obtain⟨ms,hms,hml⟩:=Hb.zmp ns none (some 63);have hp:=p60;obtain⟨p0,p1⟩:=pP;generalize hP:(10:Int) ^ 60=P at hp p0 p1;have hp18:∀ s:Sto,powB (.int 10) (.int 18) s=some (.int 1000000000000000000,s):=fun s=>rfl;have a1:=za4 st (.lst []);have g1:=Gr.app st [.lst []];generalize hs1:st++[O.lst []]=s1 at a1 g1
 -- the far number
 have key1:=zcc (W:=⟨run 0 6,[]⟩) (g:=gNm 4) (m:=zbh) (ds:=run 0 6) (ρ:=[some (.kl (ns.map D.int)),some (.ref st.length),some (.int 4099),some (.int P),none,none,none]) (st:=s1)
   (Inv:=fun i ρ s=>∃ (F:Int) (x:Option D),ρ=[some (.kl (ns.map D.int)),some (.ref st.length),some (.int 4099),some (.int F),x,none,none]/\0 < F/\F.natAbs < 2 ^ (200*(i+1))/\s=s1)
   ⟨P,none,rfl,p0,p1,rfl⟩ (fun _ _ _ _ _=>rfl) (fun i d ρ s hd hI=>by
     obtain⟨F,x,rfl,hF0,hF,rfl⟩:=hI;have hi:i < 6:=by have:=getElem?_lt hd;rwa [zcZ] at this
     obtain⟨e,q1,q2⟩:=mulF (k:=i+1) (st:=s) hF0 hF (by omega) p0 p1;refine⟨[some (.kl (ns.map D.int)),some (.ref st.length),some (.int 4099),some (.int F),some d,none,none],s,[some (.kl (ns.map D.int)),some (.ref st.length),some (.int 4099),some (.int (F*P)),some d,none,none],s,rfl,?_,F*P,_,rfl,q1,q2,rfl⟩;unfold zbh;simp only[zcn,zcB,zbc,zbZ,Aj,As,Ab,hp,e]
     rfl)
 obtain⟨ρ',s',el1,F,x4,rfl,hF0,_,rfl⟩:=key1
 -- the seed
 have e2:=zm1 (ds:=ns.map D.int) (lo:=none) (hi:=some 63) (st:=s');rw[hms] at e2;have a2:=za4 s' (.lst (ms.map D.int));have g2:=Gr.app s' [.lst (ms.map D.int)];generalize hs2:s'++[O.lst (ms.map D.int)]=s2 at e2 a2 g2;have key2:=zcc (W:=⟨ms.map D.int,[(s'.length,ms.map D.int)]⟩) (g:=gNm 5) (m:=zbg) (ds:=ms.map D.int) (ρ:=[some (.kl (ns.map D.int)),some (.ref st.length),some (.int 4099),some (.int F),x4,none,none]) (st:=s2)
   (Inv:=fun i ρ s=>∃ (b:Int) (x y:Option D),ρ=[some (.kl (ns.map D.int)),some (.ref st.length),some (.int b),some (.int F),x4,x,y]/\(0<=b/\b < 2305843009213693951)/\s=s2)
   ⟨4099,none,none,rfl,by decide,rfl⟩ (fun k ρ s hk hI=>by obtain⟨b,x,y,_,_,rfl⟩:=hI;exact za5 a2) (fun i d ρ s hd hI=>by
     obtain⟨b,x,y,rfl,hb,rfl⟩:=hI;rw[AD] at hd;obtain⟨c,hc,rfl⟩:=zaf hd;have c0:0<=c % 1000003:=Ca _ (by decide);have c1:c % 1000003 < 1000003:=Cb _ (by decide);have mD:∀ (u v:Int) (s:Sto),0 < v->modD (.int u) (.int v) s=some (.int (u % v),s):=fun u v s h=>by simp[modD,intD,h]
     have mm:∀ s,mulA (.int (c % 1000003)) (.int (c % 1000003)) s=some (.int (c % 1000003*(c % 1000003)),s):=fun s=>by
       have:in64 (c % 1000003)=true:=by unfold in64;simp;omega
       simp[mulA,orG,mulD,intD,this,zeM]
     have mb:∀ s,mulA (.int b) (.int 69069) s=some (.int (b*69069),s):=fun s=>by
       have:in64 69069=true:=by decide
       simp[mulA,orG,mulD,intD,this,zeM]
     refine⟨[some (.kl (ns.map D.int)),some (.ref st.length),some (.int b),some (.int F),x4,some (.int c),y],s,[some (.kl (ns.map D.int)),some (.ref st.length),some (.int ((b*69069+c % 1000003*(c % 1000003)+c+5) % 2305843009213693951)),some (.int F),x4,some (.int c),some (.int (c % 1000003))],s,rfl,?_,_,_,_,rfl,⟨Ca _ (by decide),Cb _ (by decide)⟩,rfl⟩;unfold zbg;refine zaB (ρ1:=[some (.kl (ns.map D.int)),some (.ref st.length),some (.int b),some (.int F),x4,some (.int c),some (.int (c % 1000003))]) (s1:=s) (by
       simp only[zcn,zcB,zbc,zbZ,Aj,As,Ab,mD _ _ _ (show (0:Int) < 1000003 by decide)]
       rfl) ?_
     generalize c % 1000003=p at *;simp only[zcn,zcB,zbc,zbZ,Aj,As,Ab,mb,mm,add_int,mD _ _ _ (show (0:Int) < 2305843009213693951 by decide)]
     rfl)
 obtain⟨ρ',s3,el2,b,x5,x6,rfl,hb,rfl⟩:=key2
 -- the script's own numbers
 have hif:∃ (q:Nat) (as:List Int) (s4:Sto),mIf (zc9 (mTst (mBin gtD (zaw lenD (zae (mVar 0) (mNil))) (mCon (.int 0)))) (mTst (mBin geD (mBin ixA (mVar 0) (mCon (.int 0))) (mBin powB (mCon (.int 10)) (mCon (.int 18)))))) (mAsg (zbL (mWA (mSlC (mVar 0) (zeV) (zeU (mCon (.int 63))))) 1 [3] (gNm 0) (zbT) (zaL)) (gNm 1)) (zdJ) [some (.kl (ns.map D.int)),some (.ref st.length),some (.int b),some (.int F),x4,x5,x6] s3
    =some (.nx [some (.kl (ns.map D.int)),some (.ref q),some (.int b),some (.int F),x4,x5,x6],s4)/\s4[q]?=some (.lst (as.map D.int))/\(∀ a∈as,0<=a)/\as.length<=63/\Gr s3 s4:=by
   have eL:lenD [.kl (ns.map D.int)] s3=some (.int (ns.length:Int),s3):=by rw[zqc,Ak]
   have own0:s3[st.length]?=some (.lst (([]:List Int).map D.int)):=(g2.old _ (getElem?_lt a1)).trans a1
   cases ns with
   | nil =>
     refine⟨st.length,[],s3,?_,own0,by simp,by simp,Gr.refl _⟩;have eL0:lenD [.kl []] s3=some (.int 0,s3):=rfl;simp[eL0,gtD,cmpD]
   | cons c0 cs =>
     have i0:ixA (.kl ((c0::cs).map D.int)) (.int 0) s3=some (.int c0,s3):=zrS (by decide) rfl;have cl:(0:Int) < ((c0::cs).length:Int):=by simp
     by_cases hc:1000000000000000000<=c0
     . have e3:=zm1 (ds:=(c0::cs).map D.int) (lo:=none) (hi:=some 63) (st:=s3);rw[hms] at e3;have a3:=za4 s3 (.lst (ms.map D.int));have g3:=Gr.app s3 [.lst (ms.map D.int)];generalize hs4:s3++[O.lst (ms.map D.int)]=s4 at e3 a3 g3;have ec:=zg6 (W:=⟨ms.map D.int,[(s3.length,ms.map D.int)]⟩) (g:=gNm 0) (c:=zbT) (m:=zaL) (f:=D.int) (h:=fun c:Int=>D.int ((if c < 0 then -c else c) % F)) (R:=fun r=>∃ x,r=[x,some (.int F)]) (as:=ms) (ρ:=[none,some (.int F)]) (st:=s4) ⟨none,rfl⟩ (za5 a3) (fun c hc r hr=>by
         obtain⟨x,rfl⟩:=hr;refine⟨[some (.int c),some (.int F)],rfl,rfl,?_,_,rfl⟩;have mD:modD (.int (if c < 0 then -c else c)) (.int F) s4=some (.int ((if c < 0 then -c else c) % F),s4):=by simp[modD,intD,hF0]
         have eA:absC [.int c] s4=some (.int (if c < 0 then -c else c),s4):=by simp[absC]
         unfold zaL;simp only[zcB,zcf,zbY,zdz,zbc,Aj,As,Ab,eA,mD])
       have em:(ms.map fun c:Int=>D.int ((if c < 0 then -c else c) % F))=(ms.map fun c:Int=>(if c < 0 then -c else c) % F).map D.int:=by rw[BC];rfl
       rw[em] at ec;have fl:fits ((ms.map fun c:Int=>(if c < 0 then -c else c) % F).map D.int).length=true:=zaG (by rw[Ak,Ak];omega);refine⟨s4.length,ms.map fun c:Int=>(if c < 0 then -c else c) % F,s4++[.lst ((ms.map fun c:Int=>(if c < 0 then -c else c) % F).map D.int)],?_,za4 _ _,?_,by rw[Ak];omega,g3.trans (Gr.app _ _)⟩
       . have ecm:zbL (mWA (mSlC (mVar 0) (zeV) (zeU (mCon (.int 63))))) 1 [3] (gNm 0) (zbT) (zaL) [some (.kl ((c0::cs).map D.int)),some (.ref st.length),some (.int b),some (.int F),x4,x5,x6] s3=some (.ref s4.length,s4++[.lst ((ms.map fun c:Int=>(if c < 0 then -c else c) % F).map D.int)]):=by
           rw[zce,zq4,zoy];simp only[zbc,zq8,zq7,zbZ,Ab,Aj,e3,zjX,zbj,a3,Ay,zeM];rw[show rho0 [some (.kl ((c0::cs).map D.int)),some (.ref st.length),some (.int b),some (.int F),x4,x5,x6] 1 [3]=[none,some (.int F)] from rfl,ec];simp only[Ab,fl,if_true]
         have et:zc9 (mTst (mBin gtD (zaw lenD (zae (mVar 0) (mNil))) (mCon (.int 0)))) (mTst (mBin geD (mBin ixA (mVar 0) (mCon (.int 0))) (mBin powB (mCon (.int 10)) (mCon (.int 18))))) [some (.kl ((c0::cs).map D.int)),some (.ref st.length),some (.int b),some (.int F),x4,x5,x6] s3=some (true,s3):=by
           generalize ((c0::cs).length:Int)=L at eL cl;simp only[ziS,ziQ,zcB,zcf,zbY,zdz,zbc,zbZ,Aj,Ab,eL,i0,hp18,gtD,geD,cmpD,decide_eq_true cl,decide_eq_true hc,if_true]
         rw[zha,et];simp only[Ab,if_true,zcn,ecm];rfl
       . intro a ha;obtain⟨c,_,rfl⟩:=List.mem_map.mp ha;exact Ca _ (by omega)
     . refine⟨st.length,[],s3,?_,own0,by simp,by simp,Gr.refl _⟩;have et:zc9 (mTst (mBin gtD (zaw lenD (zae (mVar 0) (mNil))) (mCon (.int 0)))) (mTst (mBin geD (mBin ixA (mVar 0) (mCon (.int 0))) (mBin powB (mCon (.int 10)) (mCon (.int 18))))) [some (.kl ((c0::cs).map D.int)),some (.ref st.length),some (.int b),some (.int F),x4,x5,x6] s3=some (false,s3):=by
         generalize ((c0::cs).length:Int)=L at eL cl;simp only[ziS,ziQ,zcB,zcf,zbY,zdz,zbc,zbZ,Aj,Ab,eL,i0,hp18,gtD,geD,cmpD,decide_eq_true cl,decide_eq_false hc,if_true]
       rw[zha,et];rfl
 obtain⟨q,as,s4,eif,aq,hpos,hal,g4⟩:=hif;have a5:=za4 s4 (.dk []);have hq:=getElem?_lt aq;refine⟨s4.length,q,(s4++[O.dk []]).set s4.length (.dk (spr q b 0)),zbQ ?_,⟨as,b,0,by simp,by rw[AH (by omega),Ar hq];exact aq,by omega,hpos,hal,hb,by decide,by decide⟩,?_⟩
 . show zbs [some (.kl (ns.map D.int)),none,none,none,none,none,none] st=_;unfold zbs;refine zaB (ρ1:=[some (.kl (ns.map D.int)),some (.ref st.length),some (.int 4099),some (.int P),none,none,none]) (s1:=s') (by simp[hs1,hp]) ?_;refine zaB (ρ1:=[some (.kl (ns.map D.int)),some (.ref st.length),some (.int 4099),some (.int F),x4,none,none]) (s1:=s') (by
     have e6:mR1 (mCon (.int 6)) [some (.kl (ns.map D.int)),some (.ref st.length),some (.int 4099),some (.int P),none,none,none] s'=some (⟨run 0 6,[]⟩,s'):=rfl;rw[zdM,e6];exact el1) ?_
   refine zaB (ρ1:=[some (.kl (ns.map D.int)),some (.ref st.length),some (.int b),some (.int F),x4,x5,x6]) (s1:=s3) (by
     rw[zdM,zq4,zoy];simp only[zbc,zq8,zq7,zbZ,Ab,Aj,e2,zjX,zbj,a2,Ay,zeM];exact el2) ?_
   refine zaB eif ?_;rw[zet];unfold zlR;simp only[zbc,zbZ,Aj,As,Ab,a5,Ay];rfl
 . refine⟨by simp;have:=((g1.trans g2).trans g4).len;omega,fun k hk=>?_⟩;have hk4:k < s4.length:=AB hk ((g1.trans g2).trans g4).len;rw[AH (by omega),Ar hk4];exact ((g1.trans g2).trans g4).old k hk
end L2.MP.stickytiles_k55_box_beds
namespace L2.MP.stickytiles_k55_box_beds
open PySem L2.MP
open L2.MP.Hn
open L2.MP.Hd (stD zbX)
noncomputable def wh(x lo hi:Int):Bool:=decide (lo<=x)&&decide (x<=hi)
theorem ziq{x:Int}{st:Sto}:tyName st (.int x)=some "int":=rfl
theorem zkT:subT "int" "int"=true:=by decide
theorem zkU:subT "int" "bool"=false:=by decide
theorem zgy:subT "str" "str"=true:=by decide
theorem sub_tt:subT "tuple" "tuple"=true:=by decide
theorem zch{x lo hi:Int}{st:Sto}:zaI [.int x,.int lo,.int hi] st=some (.bl (wh x lo hi),st):=by
 refine zbQ ?_;unfold zfd wh
 by_cases h1:lo<=x
 . by_cases h2:x<=hi
   . simp[zbD,ziq,zkT,zkU,h1,h2]
   . simp[zbD,ziq,zkT,zkU,h1,h2]
 . simp[zbD,ziq,zkT,zkU,h1]
theorem zci{ds:List D}{N:Int}{st:Sto}:zar [.tup ds,.int N] st=some (.bl ((ds.length:Int)==N),st):=by
 refine zbQ ?_;have t1:tyName st (.tup ds)=some "tuple":=rfl;unfold zfe;simp[t1,sub_tt,zeZ,eq_int]
noncomputable def LET:Str:="abcdefghijklmnopqrstuvwxyz"
noncomputable def FAC:Str:="abcdefghijklmnopqrstuvwxyz0123456789"
theorem zl8{a b:Str}{st:Sto}:inA (.str a) (.str b) st=some (.bl (!(Be b a 0 b.length 1).isEmpty),st):=by
 have e:inD false (.str a) (.str b) st=none:=by
   unfold inD
   cases h1:toP 50 st (.str a) with
   | none=>rfl
   | some p =>
     cases h2:toP 50 st (.str b) with
     | none=>rfl
     | some q =>
       have:q=.str b:=by
         rw[toP] at h2
         split at h2
         . cases h2;rfl
         . cases h2
       subst this;rfl
 unfold inA orG;rw[e,zfx];rfl
theorem zn4:∀ k:Nat,k < 26->(Be LET ⟨#[97+k]⟩ 0 LET.length 1).isEmpty=false:=by decide +kernel
theorem zqn{c:Nat}{st:Sto}(h:97<=c/\c<=122):inA (.str ⟨#[c]⟩) (.str LET) st=some (.bl true,st):=by
 obtain⟨k,rfl⟩:=Nat.le.dest h.1;rw[zl8,zn4 k (by omega)];rfl
noncomputable def fac(k:Nat):Nat:=FAC.cps.getD k 0
theorem zol:∀ k:Nat,k < 36->(Be FAC ⟨#[fac k]⟩ 0 FAC.length 1).isEmpty=false:=by decide +kernel
theorem zmh:(Be FAC ("":Str) 0 FAC.length 1).isEmpty=false:=by decide +kernel
theorem zkG{α:Type}(f:α->Bool):∀ as:List α,zmw (as.map fun a=>D.bl (f a))=some (as.map f)
 | []=>rfl
 | a::as=>by
   show (zmw (as.map fun a=>D.bl (f a))).map _=_;rw[zkG f as];rfl
theorem zoF{α:Type}{f:α->Bool}{as:List α}{n:Nat}{st:Sto}(h:st[n]?=some (.lst (as.map fun a=>D.bl (f a)))):allC [.ref n] st=some (.bl (as.all f),st):=by
 unfold allC;simp only[zbj,h,Ab,zkG,Ay,List.all_map];rfl
theorem zdA{α:Type}{mi:MI}{f:α->D}{b:α->Bool}{as:List α}{fr:List Nat}{m:ME}{ρ0 ρ:Rho}{st:Sto}{gd:List (Nat×List D)}(hw:mi ρ st=some (⟨as.map f,gd⟩,st))(hg:∀ s,Gr st s->walked ⟨as.map f,gd⟩ s=true)(hρ:rho0 ρ 1 fr=none::ρ0)(hl:as.length<=10000)
   (h:∀ a∈as,∀ s,Gr st s->∃ s1,m (some (f a)::ρ0) s=some (.bl (b a),s1)/\Gr s s1) :
   ∃ st',zaw allC (zae (zbL mi 1 fr (gNm 0) zbT m) mNil) ρ st=some (.bl (as.all b),st')/\Gr st st':=by
 obtain⟨s1,e,g⟩:=zqC (W:=⟨as.map f,gd⟩) (g:=gNm 0) (c:=zbT) (m:=m) (f:=f) (h:=fun a=>D.bl (b a)) (R:=fun r=>∃ x,r=x::ρ0) (as:=as) (ρ:=none::ρ0) (st:=st) ⟨none,rfl⟩ hg (fun a ha r s hr gs=>by
   obtain⟨x,rfl⟩:=hr;obtain⟨s1,e,g⟩:=h a ha s gs;exact⟨some (f a)::ρ0,s1,rfl,rfl,e,g,_,rfl⟩)
 have fl:fits (as.map fun a=>D.bl (b a)).length=true:=zaG (by rw[Ak];exact hl);have ec:zbL mi 1 fr (gNm 0) zbT m ρ st=some (.ref s1.length,s1++[.lst (as.map fun a=>D.bl (b a))]):=by
   rw[zce,hw];simp only[Ab];rw[hρ,e];simp only[Ab,fl,if_true]
 refine⟨_,?_,g.trans (Gr.app s1 [.lst (as.map fun a=>D.bl (b a))])⟩;simp only[zcf,zbY,zdz,ec,Ab];exact zoF (za4 s1 _)
noncomputable def zj6{α:Type}(lt:α->α->Bool)(as:List α):Bool:=(as.zip (as.drop 1)).all fun p=>lt p.1 p.2
theorem zmo(ds:List D):cutD ds (some 1) none=ds.drop 1:=by
 unfold cutD;have h1:HT.sIx ds.length 0 (some 1)=min 1 ds.length:=by
   unfold HT.sIx;simp
 have h2:HT.sIx ds.length ds.length none=ds.length:=rfl;rw[h1,h2]
 cases ds with
 | nil=>rfl
 | cons a r =>
   have:min 1 (a::r).length=1:=by simp
   rw[this];simp
theorem zhI{α:Type}{f:α->D}{lt:α->α->Bool}{as:List α}{l:Nat}{st:Sto}(hl:st[l]?=some (.lst (as.map f)))(hn:as.length<=10000)(hlt:∀ a∈as,∀ b∈as,∀ s:Sto,ltB (f a) (f b) s=some (.bl (lt a b),s)) :
   ∃ st',zd3 [.ref l] st=some (.bl (zj6 lt as),st')/\Gr st st':=by
 have hll:=getElem?_lt hl;have es:slB (.ref l) (some 1) none st=some (.ref st.length,st++[.lst ((as.drop 1).map f)]):=by
   have:slD (.ref l) (some 1) none st=some (.ref st.length,st++[.lst ((as.drop 1).map f)]):=by
     show (zbj st l).map _=_;simp only[zbj,hl,Ay,zmo];rw[List.map_drop]
   unfold slB slA;rw[this,zeM,zeM]
 have a1:(st++[O.lst ((as.drop 1).map f)])[l]?=some (.lst (as.map f)):=by rw[Ar hll];exact hl
 have a2:=za4 st (.lst ((as.drop 1).map f));have g1:=Gr.app st [.lst ((as.drop 1).map f)];generalize hs1:st++[O.lst ((as.drop 1).map f)]=s1 at *;have ep:pairD (as.map f) ((as.drop 1).map f)=(as.zip (as.drop 1)).map fun p=>D.tup [f p.1,f p.2]:=by
   unfold pairD;rw[F3,BC];rfl
 have ez:zipW (.ref l) (.ref st.length) s1=some (⟨(as.zip (as.drop 1)).map fun p=>D.tup [f p.1,f p.2],[(l,as.map f),(st.length,(as.drop 1).map f)]⟩,s1):=by
   unfold zipW;simp only[seqD,zbj,a1,a2,Ay,Ab,ep];rfl
 have hw:walked ⟨(as.zip (as.drop 1)).map fun p=>D.tup [f p.1,f p.2],[(l,as.map f),(st.length,(as.drop 1).map f)]⟩ s1=true:=by
   have w1:=za5 (ds:=[]) a1;have w2:=za5 (ds:=[]) a2;unfold walked at w1 w2 ⊢;simp only[Dy,DP,EE] at w1 w2 ⊢;rw[w1,w2];rfl
 have ec:=zg6 (W:=⟨(as.zip (as.drop 1)).map fun p=>D.tup [f p.1,f p.2],[(l,as.map f),(st.length,(as.drop 1).map f)]⟩) (g:=gTp 2 (gC (gNm 0) (gC (gNm 1) (gN0)))) (c:=zbT) (m:=zdh) (f:=fun p:α×α=>D.tup [f p.1,f p.2]) (h:=fun p:α×α=>D.bl (lt p.1 p.2)) (R:=fun r=>∃ x y,r=[x,y]) (as:=as.zip (as.drop 1)) (ρ:=[none,none]) (st:=s1) ⟨_,_,rfl⟩ hw (fun p hp r hr=>by
   obtain⟨x,y,rfl⟩:=hr;obtain⟨q1,q2⟩:=CZ (a:=p.1) (b:=p.2) hp;refine⟨[some (f p.1),some (f p.2)],rfl,rfl,?_,_,_,rfl⟩;have:=hlt _ q1 _ (List.mem_of_mem_drop q2) s1;unfold zdh;simp[this])
 have fl:fits ((as.zip (as.drop 1)).map fun p=>D.bl (lt p.1 p.2)).length=true:=zaG (by rw[Ak,FH];omega);refine⟨_,zbQ ?_,g1.trans (Gr.app s1 [.lst ((as.zip (as.drop 1)).map fun p=>D.bl (lt p.1 p.2))])⟩;have ecm:zbL (mZip (mVar 0) (mSlB (mVar 0) (zeU (mCon (.int 1))) (zeV))) 2 [] (gTp 2 (gC (gNm 0) (gC (gNm 1) (gN0)))) (zbT) (zdh) [some (.ref l)] st=some (.ref s1.length,s1++[.lst ((as.zip (as.drop 1)).map fun p=>D.bl (lt p.1 p.2))]):=by
   have ezz:mZip (mVar 0) (mSlB (mVar 0) (zeU (mCon (.int 1))) (zeV)) [some (.ref l)] st=some (⟨(as.zip (as.drop 1)).map fun p=>D.tup [f p.1,f p.2],[(l,as.map f),(st.length,(as.drop 1).map f)]⟩,s1):=by
     rw[zow];have e2:mSlB (mVar 0) (zeU (mCon (.int 1))) (zeV) [some (.ref l)] st=some (.ref st.length,s1):=by
       unfold mSlB;simp[es]
     have v0:mVar 0 [some (.ref l)] st=some (.ref l,st):=rfl;rw[v0,Ab,e2,Ab,ez]
   rw[zce,ezz];simp only[Ab];rw[show rho0 [some (.ref l)] 2 []=[none,none] from rfl,ec];simp only[Ab,fl,if_true]
 have ea:=zoF (za4 s1 (.lst ((as.zip (as.drop 1)).map fun p=>D.bl (lt p.1 p.2))));unfold zkL zj6;show mRet _ [some (.ref l)] st=_;rw[zet];simp only[zcf,zbY,zdz,ecm,Ab,ea,Ay]
noncomputable def nb(z:Str):Bool:=decide (1<=z.length)&&decide (z.length<=8)
def LetS(z:Str):Prop:=(∀ c∈z.cps.toList,97<=c/\c<=122)/\z.length<=100
theorem len_str{z:Str}{st:Sto}(h:z.length<=10000):lenD [.str z] st=some (.int (z.length:Int),st):=by
 have:fits z.length=true:=zaG h;simp[lenD,this]
theorem znY{z:Str}{st:Sto}(h:LetS z):∃ st',zde [.str z] st=some (.bl (nb z),st')/\Gr st st':=by
 have t1:tyName st (.str z)=some "str":=rfl;have el:=len_str (z:=z) (st:=st) (by have:=h.2;omega)
 by_cases h1:1<=z.length
 . by_cases h2:z.length<=8
   . have hw:mWA (mVar 0) [some (.str z)] st=some (⟨z.cps.toList.map fun c=>D.str ⟨#[c]⟩,[]⟩,st):=rfl;obtain⟨s1,e,g⟩:=zdA (b:=fun _=>true) (fr:=[]) (m:=zcX) (ρ0:=[]) hw (fun _ _=>rfl) rfl (by have:=h.2;show z.cps.toList.length<=_;rw[Bu];exact AF this (by decide)) (fun c hc s _=>⟨s,by
       have:=zqn (st:=s) (h.1 c hc);unfold zcX;show mBin inA (mVar 0) (mCon (.str LET)) [some (.str ⟨#[c]⟩)] s=_;simp[this],Gr.refl s⟩)
     have e1:nb z=true:=by unfold nb;simp[h1,h2]
     rw[e1];refine⟨s1,zbQ ?_,g⟩;unfold zdi;have i1:(1:Int)<=(z.length:Int):=by omega
     have i2:(z.length:Int)<=8:=by omega
     show mRet _ [some (.str z)] st=_;have ec:zbD leD leD (mCon (.int 1)) (zaw lenD (zae (mVar 0) (mNil))) (mCon (.int 8)) [some (.str z)] st=some (.bl true,st):=by simp[zbD,el,i1,i2]
     have e':(z.cps.toList.all fun _=>true)=true:=by simp
     rw[e'] at e;simp only[zet,zoE,ziQ,zmz,zbc,Aj,Ab,t1,Ay,zgy,if_true,ec,e]
   . have e1:nb z=false:=by unfold nb;simp[h2]
     rw[e1];refine⟨st,zbQ ?_,Gr.refl st⟩;unfold zdi;have i1:(1:Int)<=(z.length:Int):=by omega
     have i2:¬ (z.length:Int)<=8:=by omega
     simp[zbD,t1,zgy,el,i1,i2]
 . have e1:nb z=false:=by unfold nb;simp[h1]
   rw[e1];refine⟨st,zbQ ?_,Gr.refl st⟩;unfold zdi;have i1:¬ (1:Int)<=(z.length:Int):=by omega
   simp[zbD,t1,zgy,el,i1]
noncomputable def stB(p:Str×Int):Bool:=nb p.1&&wh p.2 1 4
theorem zkV{p:Str×Int}{st:Sto}(h:LetS p.1):∃ st',zcF [zbb p] st=some (.bl (stB p),st')/\Gr st st':=by
 obtain⟨s1,e,g⟩:=znY (st:=st) h;have x0:∀ s:Sto,ixA (zbb p) (.int 0) s=some (.str p.1,s):=fun s=>zaY (by decide) rfl;have x1:∀ s:Sto,ixA (zbb p) (.int 1) s=some (.int p.2,s):=fun s=>zaY (by decide) rfl;have et:zar [zbb p,.int 2] st=some (.bl true,st):=zci;have ew:=zch (x:=p.2) (lo:=1) (hi:=4) (st:=s1);unfold stB;generalize zbb p=P at *;refine⟨s1,zbQ ?_,g⟩;unfold zff
 cases hb:nb p.1 with
 | true =>
   rw[hb] at e;simp[et,x0,e,x1,ew]
 | false =>
   rw[hb] at e;simp[et,x0,e]
noncomputable def ltS(a b:Str):Bool:=decide (a.cps.toList < b.cps.toList)
theorem zqa{a b:Str}{s:Sto}:ltB (.str a) (.str b) s=some (.bl (ltS a b),s):=rfl
theorem zi1{S:List (Str×Int)}{st:Sto}(h:∀ p∈S,LetS p.1)(hl:S.length<=1000):∃ st',zbA [.tup (S.map zbb)] st=some (.bl (S.all stB&&zj6 ltS (S.map (·.1))),st')/\Gr st st':=by
 have hw:mWA (mVar 0) [some (.tup (S.map zbb))] st=some (⟨S.map zbb,[]⟩,st):=rfl;obtain⟨s1,e1,g1⟩:=zdA (b:=stB) (fr:=[]) (m:=zbO) (ρ0:=[]) hw (fun _ _=>rfl) rfl (by omega) (fun p hp s _=>by
   obtain⟨s1,e,g⟩:=zkV (st:=s) (h p hp);refine⟨s1,?_,g⟩;unfold zbO;generalize zbb p=P at *;simp[e])
 have t1:∀ s:Sto,tyName s (.tup (S.map zbb))=some "tuple":=fun _=>rfl
 cases hb:S.all stB with
 | false =>
   rw[hb] at e1;refine⟨s1,zbQ ?_,g1⟩;unfold zcp;refine zfs ?_;show mIf _ _ _ [some (.tup (S.map zbb))] st=_;generalize S.map zbb=SS at *;simp only[zha,zoC,zkJ,ziQ,zmz,zbc,Aj,Ab,t1,Ay,sub_tt,FZ,Bi,if_false,e1,Bool.not_false,if_true];simp
 | true =>
   rw[hb] at e1;have hw1:mWA (mVar 0) [some (.tup (S.map zbb))] s1=some (⟨S.map zbb,[]⟩,s1):=rfl;have ec:=zg6 (W:=⟨S.map zbb,[]⟩) (g:=gNm 0) (c:=zbT) (m:=zby) (f:=zbb) (h:=fun p:Str×Int=>D.str p.1) (R:=fun r=>∃ x,r=[x]) (as:=S) (ρ:=[none]) (st:=s1) ⟨_,rfl⟩ rfl (fun p hp r hr=>by
     obtain⟨x,rfl⟩:=hr;have x0:ixA (zbb p) (.int 0) s1=some (.str p.1,s1):=zaY (by decide) rfl;refine⟨[some (zbb p)],rfl,rfl,?_,_,rfl⟩;unfold zby;generalize zbb p=P at *;simp[x0])
   have fl:fits (S.map fun p:Str×Int=>D.str p.1).length=true:=zaG (by rw[Ak];omega);have ecm:zbL (mWA (mVar 0)) 1 [] (gNm 0) (zbT) (zby) [some (.tup (S.map zbb))] s1=some (.ref s1.length,s1++[.lst ((S.map (·.1)).map D.str)]):=by
     rw[zce,hw1];simp only[Ab];rw[show rho0 [some (.tup (S.map zbb))] 1 []=[none] from rfl,ec];simp only[Ab,fl,if_true,BC];rfl
   obtain⟨s2,e2,g2⟩:=zhI (f:=D.str) (lt:=ltS) (as:=S.map (·.1)) (za4 s1 (.lst ((S.map (·.1)).map D.str))) (by rw[Ak];omega) (fun a _ b _ s=>zqa);refine⟨s2,zbQ ?_,(g1.trans (Gr.app _ _)).trans g2⟩;unfold zcp;generalize S.map zbb=SS at *;refine zaB (ρ1:=[some (.tup SS)]) (s1:=s1) ?_ ?_
   . show mIf _ _ _ [some (.tup SS)] st=_;simp only[zha,zoC,zkJ,ziQ,zmz,zbc,Aj,Ab,t1,Ay,sub_tt,FZ,Bi,if_false,e1];simp
   . simp only[zet,zcf,zbY,zdz,ecm,Ab,e2,Ay,DA]
end L2.MP.stickytiles_k55_box_beds
namespace L2.MP.stickytiles_k55_box_beds
open PySem L2.MP
open L2.MP.Hn
open L2.MP.Hd (stD zbX zi0 sv)
def FaOk(f:Str):Prop:=f=""\/∃ k,k < 36/\f=⟨#[fac k]⟩
theorem zmg{f:Str}(h:FaOk f):f.length<=1:=by
 rcases h with rfl | ⟨k,_,rfl⟩
 . decide
 . exact Af _
theorem zok{f:Str}{st:Sto}(h:FaOk f):zdg [.str f] st=some (.bl true,st):=by
 have hl:=zmg h;have el:=len_str (z:=f) (st:=st) (by omega);have t1:tyName st (.str f)=some "str":=rfl;have i1:(f.length:Int)<=1:=by omega
 have ei:inA (.str f) (.str FAC) st=some (.bl true,st):=by
   rcases h with rfl | ⟨k,hk,rfl⟩
   . rw[zl8,zmh];rfl
   . rw[zl8,zol k hk];rfl
 refine zbQ ?_;show mRet (zdE (mIsi "str" (mVar 0)) (zdE (mBin leD (zaw lenD (zae (mVar 0) (mNil))) (mCon (.int 1))) (mBin inA (mVar 0) (mCon (.str FAC))))) [some (.str f)] st=_;generalize FAC=Z at *;simp[t1,zgy,el,i1,ei]
def SdOk(ns:List Str)(x:Str):Prop:=x=""\/x∈ns
theorem zm2{S:List (Str×Int)}{x:Str}{d:Nat}{st:Sto}(hd:st[d]?=some (.dk (stD S)))(hs:∀ p∈S,1<=p.2/\p.2<=4)(hx:SdOk (S.map (·.1)) x)(ho:BZ x=true):zdd [.str x,.ref d] st=some (.bl true,st):=by
 have t1:tyName st (.str x)=some "str":=rfl;have e0:∃ b,eqD (.str x) (.str "") st=some (.bl b,st)/\(x=""->b=true):=by
   refine⟨A9 (.str x) (.str ""),?_,fun z=>by subst z;decide +kernel⟩;unfold eqD;rw[zcY (n:=99) ho,zcY (n:=99) (by decide +kernel)];rfl
 obtain⟨b,eb,hb⟩:=e0;refine zbQ ?_;unfold zgv
 cases b with
 | true=>simp[t1,zgy,zoB,eb]
 | false =>
   have hm:x∈S.map (·.1):=by
     rcases hx with z | z
     . exact absurd (hb z) (by decide)
     . exact z
   have ei:inA (.str x) (.ref d) st=some (.bl true,st):=by
     have a1:inD false (.str x) (.ref d) st=none:=by
       unfold inD;rw[zcY (n:=49) ho];have:toP 50 st (.ref d)=none:=by rw[toP];simp[zbj,hd]
       rw[this];rfl
     have a2:inSD (.str x) (.ref d) st=none:=rfl;have a3:=(zi0 hs hm).1;unfold inA orG;rw[a1,zfx,a2,zfx];simp[dinD,look,hd,keyOf,a3]
   simp[t1,zgy,zoB,eb,ei]
def KiOk(ns:List Str)(k:List Str):Prop:=∃ f a b c d,k=[f,a,b,c,d]/\FaOk f/\∀ x∈[a,b,c,d],SdOk ns x/\BZ x=true
theorem zn8{S:List (Str×Int)}{k:List Str}{n:Nat}{st:Sto}(hd:st[n]?=some (.dk (stD S)))(hs:∀ p∈S,1<=p.2/\p.2<=4)(hk:KiOk (S.map (·.1)) k):∃ st',zdf [zbq k,.ref n] st=some (.bl true,st')/\Gr st st':=by
 obtain⟨f,a,b,c,d,rfl,hf,hx⟩:=hk;have et:zar [zbq [f,a,b,c,d],.int 5] st=some (.bl true,st):=zci;have x0:ixA (zbq [f,a,b,c,d]) (.int 0) st=some (.str f,st):=zaY (by decide) rfl;have ef:=zok (st:=st) hf;have es:slB (zbq [f,a,b,c,d]) (some 1) none st=some (.tup ([a,b,c,d].map D.str),st):=rfl;have hw:mWA (mSlB (mVar 0) (zeU (mCon (.int 1))) (zeV)) [some (zbq [f,a,b,c,d]),some (.ref n)] st=some (⟨[a,b,c,d].map D.str,[]⟩,st):=rfl;obtain⟨s1,e1,g1⟩:=zdA (b:=fun _=>true) (fr:=[1]) (m:=zb9) (ρ0:=[some (.ref n)]) hw (fun _ _=>rfl) rfl (by simp) (fun x hxx s gs=>by
   have hd':=(gs.old _ (getElem?_lt hd)).trans hd;have:=zm2 hd' hs (hx x hxx).1 (hx x hxx).2;refine⟨s,?_,Gr.refl s⟩;unfold zb9;simp[this])
 refine⟨s1,zbQ ?_,g1⟩;have e':([a,b,c,d].all fun _=>true)=true:=rfl;rw[e'] at e1;unfold zgw;show mRet _ [some (zbq [f,a,b,c,d]),some (.ref n)] st=_;generalize zbq [f,a,b,c,d]=P at *;generalize zaw allC (zae (zbL (mWA (mSlB (mVar 0) (zeU (mCon (.int 1))) (zeV))) 1 [1] (gNm 0) (zbT) (zb9)) (mNil))=AC at *;simp[et,x0,ef,e1]
noncomputable def hD(e:Int)(S:List (Str×Int))(K:List (List Str)):D:=.tup [.int e,.tup (S.map zbb),.tup (K.map zbq)]
noncomputable def hB(e:Int)(S:List (Str×Int))(K:List (List Str)):Bool:=wh e 1 4&&((S.all stB&&zj6 ltS (S.map (·.1)))&&!K.isEmpty)
theorem zl9{e:Int}{S:List (Str×Int)}{K:List (List Str)}{st:Sto}(h:∀ p∈S,LetS p.1)(hl:S.length<=1000)(hK:∀ k∈K,KiOk (S.map (·.1)) k)(hKl:K.length<=1000):∃ st',zcH [hD e S K] st=some (.bl (hB e S K),st')/\Gr st st':=by
 have et:∀ s:Sto,zar [hD e S K,.int 3] s=some (.bl true,s):=fun _=>zci;have x0:∀ s:Sto,ixA (hD e S K) (.int 0) s=some (.int e,s):=fun s=>zaY (by decide) rfl;have x1:∀ s:Sto,ixA (hD e S K) (.int 1) s=some (.tup (S.map zbb),s):=fun s=>zaY (by decide) rfl;have x2:∀ s:Sto,ixA (hD e S K) (.int 2) s=some (.tup (K.map zbq),s):=fun s=>zaY (by decide) rfl;have ew:=zch (x:=e) (lo:=1) (hi:=4) (st:=st);obtain⟨s1,e1,g1⟩:=zi1 (st:=st) h hl;unfold hB
 cases hw:wh e 1 4 with
 | false =>
   rw[hw] at ew;refine⟨st,zbQ ?_,Gr.refl st⟩;unfold zb4;generalize hD e S K=P at *;refine zfs ?_;show mIf _ _ _ [some P,none,none] st=_;simp[et,x0,ew]
 | true =>
   rw[hw] at ew
   cases hb:(S.all stB&&zj6 ltS (S.map (·.1))) with
   | false =>
     rw[hb] at e1;refine⟨s1,zbQ ?_,g1⟩;unfold zb4;generalize hD e S K=P at *;generalize S.map zbb=SS at *;refine zfs ?_;show mIf _ _ _ [some P,none,none] st=_;simp[et,x0,ew,x1,e1]
   | true =>
     rw[hb] at e1;have first:mIf (mOrT (zem (mTst (zaw zar (zae (mVar 0) (zae (mCon (.int 3)) (mNil)))))) (mOrT (zem (mTst (zaw zaI (zae (mBin ixA (mVar 0) (mCon (.int 0))) (zae (mCon (.int 1)) (zae (mCon (.int 4)) (mNil))))))) (zem (mTst (zaw zbA (zae (mBin ixA (mVar 0) (mCon (.int 1))) (mNil))))))) (mRet (mCon (.bl false))) (zdJ) [some (hD e S K),none,none] st=some (.nx [some (hD e S K),none,none],s1):=by
       generalize hD e S K=P at *;generalize S.map zbb=SS at *;simp[et,x0,ew,x1,e1]
     have t1:tyName s1 (.tup (K.map zbq))=some "tuple":=rfl;have el:lenD [.tup (K.map zbq)] s1=some (.int (K.length:Int),s1):=by rw[zeZ,Ak]
     cases K with
     | nil =>
       refine⟨s1,zbQ ?_,g1⟩;unfold zb4;refine zaB first ?_
       refine zaB (ρ1:=[some (hD e S []),some (.tup []),none]) (s1:=s1) ?_ (zfs ?_)
       . have x2:∀ s:Sto,ixA (hD e S []) (.int 2) s=some (.tup [],s):=x2;generalize hD e S []=P at *;simp[x2]
       . have t1:tyName s1 (.tup [])=some "tuple":=rfl;have el:lenD [.tup []] s1=some (.int 0,s1):=rfl;generalize hD e S []=P at *;simp[t1,sub_tt,el,eq_int]
     | cons k0 K0 =>
       have hst:∀ p∈S,1<=p.2/\p.2<=4:=fun p hp=>by
         rw[Av] at hb;have:=List.all_eq_true.mp hb.1 p hp;unfold stB wh at this;simp at this;omega
       have ed:=zbX (stk:=S) (st:=s1) hl;have a2:=za4 s1 (.dk (stD S));have g2:=Gr.app s1 [.dk (stD S)];generalize hs2:s1++[O.dk (stD S)]=s2 at *;have hw:mWA (mVar 1) [some (hD e S (k0::K0)),some (.tup ((k0::K0).map zbq)),some (.ref s1.length)] s2=some (⟨(k0::K0).map zbq,[]⟩,s2):=rfl;obtain⟨s3,e3,g3⟩:=zdA (b:=fun _=>true) (fr:=[2]) (m:=zco) (ρ0:=[some (.ref s1.length)]) hw (fun _ _=>rfl) rfl (by omega) (fun k hk s gs=>by
         obtain⟨s',e',g'⟩:=zn8 ((gs.old _ (getElem?_lt a2)).trans a2) hst (hK k hk);refine⟨s',?_,g'⟩;unfold zco;generalize zbq k=P at *;simp[e'])
       have e':((k0::K0).all fun _=>true)=true:=by simp
       rw[e'] at e3;refine⟨s3,zbQ ?_,(g1.trans g2).trans g3⟩;unfold zb4;refine zaB first ?_
       refine zaB (ρ1:=[some (hD e S (k0::K0)),some (.tup ((k0::K0).map zbq)),none]) (s1:=s1) ?_ ?_
       . generalize hD e S (k0::K0)=P at *;generalize (k0::K0).map zbq=KK at *;simp[x2]
       refine zaB (ρ1:=[some (hD e S (k0::K0)),some (.tup ((k0::K0).map zbq)),none]) (s1:=s1) ?_ ?_
       . have n0:¬ (((k0::K0).length:Nat):Int)=0:=by simp;omega
         generalize ((k0::K0).length:Int)=N at *;generalize hD e S (k0::K0)=P at *;generalize (k0::K0).map zbq=KK at *;simp[t1,sub_tt,el,eq_int,n0]
       refine zaB (ρ1:=[some (hD e S (k0::K0)),some (.tup ((k0::K0).map zbq)),some (.ref s1.length)]) (s1:=s2) ?_ ?_
       . generalize hD e S (k0::K0)=P at *;generalize (k0::K0).map zbq=KK at *;generalize S.map zbb=SS at *;simp[x1,ed]
       . rw[zet,e3];simp
end L2.MP.stickytiles_k55_box_beds
namespace L2.MP.stickytiles_k55_box_beds
open PySem L2.MP
open L2.MP.Hn
open L2.MP.Hd (stD zbX zi0 sv zjv zkD znh)
theorem zme{a b:Int}{st:Sto}:zcI [.tup [.int a,.int b]] st=some (.bl (wh a 1 12&&wh b 1 12),st):=by
 have et:zar [.tup [.int a,.int b],.int 2] st=some (.bl true,st):=zci;have x0:ixA (.tup [.int a,.int b]) (.int 0) st=some (.int a,st):=zaY (by decide) rfl;have x1:ixA (.tup [.int a,.int b]) (.int 1) st=some (.int b,st):=zaY (by decide) rfl;have w0:=zch (x:=a) (lo:=1) (hi:=12) (st:=st);have w1:=zch (x:=b) (lo:=1) (hi:=12) (st:=st);refine zbQ ?_;unfold zfh
 cases h:wh a 1 12 with
 | true=>rw[h] at w0;simp[et,x0,w0,x1,w1]
 | false=>rw[h] at w0;simp[et,x0,w0]
section
variable {B:D} {w h:Int} {KN:Nat} {st:Sto}
structure BdAt(B:D)(w h:Int)(KN:Nat):Prop where
 fl:∀ s:Sto,ixA B (.int 1) s=some (.tup [.int w,.int h],s)
 kd:∃ (H:D) (ks:List D),(∀ s:Sto,ixA B (.int 0) s=some (H,s))/\(∀ s:Sto,ixA H (.int 2) s=some (.tup ks,s))/\ks.length=KN
noncomputable def plB(w h x y:Int):Bool:=wh x 0 (w - 1)&&wh y 0 (h - 1)
theorem zlt{x y:Int}(c:BdAt B w h KN):zcG [B,.tup [.int x,.int y]] st=some (.bl (plB w h x y),st):=by
 have et:zar [.tup [.int x,.int y],.int 2] st=some (.bl true,st):=zci;have x0:ixA (.tup [.int x,.int y]) (.int 0) st=some (.int x,st):=zaY (by decide) rfl;have x1:ixA (.tup [.int x,.int y]) (.int 1) st=some (.int y,st):=zaY (by decide) rfl;have j0:ixA (.tup [.int w,.int h]) (.int 0) st=some (.int w,st):=zaY (by decide) rfl;have j1:ixA (.tup [.int w,.int h]) (.int 1) st=some (.int h,st):=zaY (by decide) rfl;have w0:=zch (x:=x) (lo:=0) (hi:=w - 1) (st:=st);have w1:=zch (x:=y) (lo:=0) (hi:=h - 1) (st:=st);have fl:=c.fl;refine zbQ ?_;unfold zfg plB;refine zaB (ρ1:=[some B,some (.tup [.int x,.int y]),some (.tup [.int w,.int h])]) (s1:=st) (by simp[fl]) ?_
 cases hh:wh x 0 (w - 1) with
 | true=>rw[hh] at w0;simp[et,x0,j0,w0,x1,j1,w1]
 | false=>rw[hh] at w0;simp[et,x0,j0,w0]
noncomputable def tlB(w h:Int)(KN:Nat)(t:Tl):Bool:=plB w h t.1 t.2.1&&wh t.2.2 0 ((KN:Int) - 1)
noncomputable def tD(t:Tl):D:=.tup [.int t.1,.int t.2.1,.int t.2.2]
theorem zmS{t:Tl}(c:BdAt B w h KN):zdc [B,tD t] st=some (.bl (tlB w h KN t),st):=by
 obtain⟨x,y,k⟩:=t;obtain⟨H,ks,i0,i2,hl⟩:=c.kd;have et:zar [.tup [.int x,.int y,.int k],.int 3] st=some (.bl true,st):=zci;have es:slB (.tup [.int x,.int y,.int k]) none (some 2) st=some (.tup [.int x,.int y],st):=rfl;have x2:ixA (.tup [.int x,.int y,.int k]) (.int 2) st=some (.int k,st):=zaY (by decide) rfl;have ep:=zlt (x:=x) (y:=y) (st:=st) c;have el:lenD [.tup ks] st=some (.int (KN:Int),st):=by rw[zeZ,hl]
 have w1:=zch (x:=k) (lo:=0) (hi:=(KN:Int) - 1) (st:=st);have d1:∀ ρ:Option D,mSlB (mVar 1) (zeV) (zeU (mCon (.int 2))) [some B,some (.tup [.int x,.int y,.int k]),ρ] st=some (.tup [.int x,.int y],st):=fun ρ=>by unfold mSlB;simp[es]
 refine zbQ ?_;unfold zgu tlB;show mSeq _ _ [some B,some (.tup [.int x,.int y,.int k]),none] st=_;refine zaB (ρ1:=[some B,some (.tup [.int x,.int y,.int k]),some (.tup ks)]) (s1:=st) (by simp[i0,i2]) ?_;generalize mSlB (mVar 1) (zeV) (zeU (mCon (.int 2)))=M1 at *
 cases hh:plB w h x y with
 | true=>rw[hh] at ep;simp[et,d1,ep,x2,el,w1,hh]
 | false=>rw[hh] at ep;simp[et,d1,ep,hh]
noncomputable def ltP(t u:Tl):Bool:=HT.lexLt [t.1,t.2.1] [u.1,u.2.1]
theorem zgB{T:List Tl}(c:BdAt B w h KN)(hl:T.length<=1000):∃ st',zbF [B,.tup (T.map tD)] st=some (.bl (T.all (tlB w h KN)&&zj6 ltP T),st')/\Gr st st':=by
 have hw:mWA (mVar 1) [some B,some (.tup (T.map tD))] st=some (⟨T.map tD,[]⟩,st):=rfl;obtain⟨s1,e1,g1⟩:=zdA (b:=tlB w h KN) (fr:=[0]) (m:=za7) (ρ0:=[some B]) hw (fun _ _=>rfl) rfl (by omega) (fun t ht s _=>by
   have:=zmS (t:=t) (st:=s) c;refine⟨s,?_,Gr.refl s⟩;unfold za7;generalize tD t=P at *;simp[this])
 have t1:∀ s:Sto,tyName s (.tup (T.map tD))=some "tuple":=fun _=>rfl
 cases hb:T.all (tlB w h KN) with
 | false =>
   rw[hb] at e1;refine⟨s1,zbQ ?_,g1⟩;unfold zb3;refine zfs ?_;show mIf _ _ _ [some B,some (.tup (T.map tD))] st=_;generalize T.map tD=SS at *;generalize zaw allC (zae (zbL (mWA (mVar 1)) 1 [0] (gNm 0) (zbT) (za7)) (mNil))=AC at *;simp[t1,sub_tt,e1]
 | true =>
   rw[hb] at e1;have hw1:mWA (mVar 1) [some B,some (.tup (T.map tD))] s1=some (⟨T.map tD,[]⟩,s1):=rfl;have ec:=zg6 (W:=⟨T.map tD,[]⟩) (g:=gNm 0) (c:=zbT) (m:=zbI) (f:=tD) (h:=fun t:Tl=>D.tup [.int t.1,.int t.2.1]) (R:=fun r=>∃ x,r=[x]) (as:=T) (ρ:=[none]) (st:=s1) ⟨_,rfl⟩ rfl (fun t ht r hr=>by
     obtain⟨x,rfl⟩:=hr;exact⟨[some (tD t)],rfl,rfl,rfl,_,rfl⟩)
   have fl:fits (T.map fun t:Tl=>D.tup [.int t.1,.int t.2.1]).length=true:=zaG (by rw[Ak];omega);have ecm:zbL (mWA (mVar 1)) 1 [] (gNm 0) (zbT) (zbI) [some B,some (.tup (T.map tD))] s1=some (.ref s1.length,s1++[.lst (T.map fun t:Tl=>D.tup [.int t.1,.int t.2.1])]):=by
     rw[zce,hw1];simp only[Ab];rw[show rho0 [some B,some (.tup (T.map tD))] 1 []=[none] from rfl,ec];simp only[Ab,fl,if_true]
   obtain⟨s2,e2,g2⟩:=zhI (f:=fun t:Tl=>D.tup [.int t.1,.int t.2.1]) (lt:=ltP) (as:=T) (za4 s1 (.lst (T.map fun t:Tl=>D.tup [.int t.1,.int t.2.1]))) (by omega) (fun a _ b _ s=>rfl);refine⟨s2,zbQ ?_,(g1.trans (Gr.app _ _)).trans g2⟩;unfold zb3;generalize T.map tD=SS at *;refine zaB (ρ1:=[some B,some (.tup SS)]) (s1:=s1) ?_ ?_
   . show mIf _ _ _ [some B,some (.tup SS)] st=_;generalize zaw allC (zae (zbL (mWA (mVar 1)) 1 [0] (gNm 0) (zbT) (za7)) (mNil))=AC at *;simp[t1,sub_tt,e1]
   . simp only[zet,zcf,zbY,zdz,ecm,Ab,e2,Ay,DA]
end
noncomputable def bD(H:D)(w h:Int)(T:List Tl):D:=.tup [H,.tup [.int w,.int h],.tup (T.map tD)]
theorem zsa{e:Int}{S:List (Str×Int)}{K:List (List Str)}{w h:Int}{T:List Tl}:BdAt (bD (hD e S K) w h T) w h K.length :=
 ⟨fun s=>zaY (by decide) rfl,hD e S K,K.map zbq,fun s=>zaY (by decide) rfl,fun s=>zaY (by decide) rfl,Ak _⟩
theorem zqJ{e:Int}{S:List (Str×Int)}{K:List (List Str)}{w h:Int}{T:List Tl}{st:Sto}(hl:∀ p∈S,LetS p.1)(hS:S.length<=1000)(hK:∀ k∈K,KiOk (S.map (·.1)) k)(hKl:K.length<=1000)(hT:T.length<=1000)(hb:hB e S K=true) :
   ∃ st',zcW [bD (hD e S K) w h T] st=some (.bl ((wh w 1 12&&wh h 1 12)&&(T.all (tlB w h K.length)&&zj6 ltP T)),st')/\Gr st st':=by
 obtain⟨s1,e1,g1⟩:=zl9 (e:=e) (st:=st) hl hS hK hKl;rw[hb] at e1;obtain⟨s2,e2,g2⟩:=zgB (B:=bD (hD e S K) w h T) (T:=T) (st:=s1) zsa hT;have et:zar [bD (hD e S K) w h T,.int 3] st=some (.bl true,st):=zci;have x0:∀ s:Sto,ixA (bD (hD e S K) w h T) (.int 0) s=some (hD e S K,s):=fun s=>zaY (by decide) rfl;have x1:∀ s:Sto,ixA (bD (hD e S K) w h T) (.int 1) s=some (.tup [.int w,.int h],s):=fun s=>zaY (by decide) rfl;have x2:∀ s:Sto,ixA (bD (hD e S K) w h T) (.int 2) s=some (.tup (T.map tD),s):=fun s=>zaY (by decide) rfl;have ef:=zme (a:=w) (b:=h) (st:=s1);generalize bD (hD e S K) w h T=P at *;generalize hD e S K=Q at *;generalize T.map tD=TT at *
 cases hf:(wh w 1 12&&wh h 1 12) with
 | false =>
   rw[hf] at ef;refine⟨s1,zbQ ?_,g1⟩;unfold zfN;refine zfs ?_;show mIf _ _ _ [some P] st=_;simp[et,x0,e1,x1,ef]
 | true =>
   rw[hf] at ef;refine⟨s2,zbQ ?_,g1.trans g2⟩;unfold zfN;refine zaB (ρ1:=[some P]) (s1:=s1) ?_ ?_
   . show mIf _ _ _ [some P] st=_;simp[et,x0,e1,x1,ef]
   . simp[x2,e2]
end L2.MP.stickytiles_k55_box_beds
namespace L2.MP.stickytiles_k55_box_beds
open PySem L2.MP
open L2.MP.Hd (stD zbX zi0 sv zjv zkD kvS)
noncomputable def nm(c k:Nat):Str:=⟨#[c,97,97,97+k]⟩
noncomputable abbrev aN (k:Nat):Str:=nm 97 k
noncomputable abbrev uN (k:Nat):Str:=nm 117 k
noncomputable abbrev fN (k:Nat):Str:=nm 102 k
theorem zqb:∀ k:Nat,k < 26->LET.cps[k]?=some (97+k):=by decide +kernel
theorem zn3{k:Nat}{st:Sto}(hk:k < 26):ixA (.str LET) (.int (k:Int)) st=some (.str ⟨#[97+k]⟩,st):=zl2 (by decide +kernel) (by omega) (by rw[BD];exact zqb k hk)
theorem zpT{c i j k l:Int}{x y z:Nat}{st:Sto}{L:D}(e1:ze4 (.int k) (.int 676) st=some (.int i,st))(e2:ze4 (.int k) (.int 26) st=some (.int j,st))(e3:modD (.int j) (.int 26) st=some (.int i,st))(e4:modD (.int k) (.int 26) st=some (.int k,st))
   (l0:ixA L (.int i) st=some (.str ⟨#[x]⟩,st)) (lk:ixA L (.int k) st=some (.str ⟨#[y]⟩,st)):mRet (mBin addD (mBin addD (mBin addD (mVar 0) (mBin ixA (mCon L) (mBin ze4 (mVar 1) (mCon (.int 676))))) (mBin ixA (mCon L) (mBin modD (mBin ze4 (mVar 1) (mCon (.int 26))) (mCon (.int 26))))) (mBin ixA (mCon L) (mBin modD (mVar 1) (mCon (.int 26))))) [some (.str ⟨#[z]⟩),some (.int k)] st=some (.rt (.str ⟨#[z,x,x,y]⟩),st):=by
 have a1:addD (.str ⟨#[z]⟩) (.str ⟨#[x]⟩) st=some (.str ⟨#[z,x]⟩,st):=rfl;have a2:addD (.str ⟨#[z,x]⟩) (.str ⟨#[x]⟩) st=some (.str ⟨#[z,x,x]⟩,st):=rfl;have a3:addD (.str ⟨#[z,x,x]⟩) (.str ⟨#[y]⟩) st=some (.str ⟨#[z,x,x,y]⟩,st):=rfl;simp[e1,e2,e3,e4,l0,lk,a1,a2,a3]
theorem zlI{c k:Nat}{st:Sto}(hk:k < 26):zav [.str ⟨#[c]⟩,.int (k:Int)] st=some (.str (nm c k),st):=by
 refine zbQ ?_;have e1:ze4 (.int (k:Int)) (.int 676) st=some (.int 0,st):=by rw[zkD (by decide) (by decide)];congr 3;omega
 have e2:ze4 (.int (k:Int)) (.int 26) st=some (.int 0,st):=by rw[zkD (by decide) (by decide)];congr 3;omega
 have e3:modD (.int 0) (.int 26) st=some (.int 0,st):=by rw[zjv (by decide)];rfl
 have e4:modD (.int (k:Int)) (.int 26) st=some (.int (k:Int),st):=by rw[zjv (by decide)];congr 3;omega
 exact zpT (c:=0) (l:=0) e1 e2 e3 e4 (zn3 (k:=0) (by decide)) (zn3 hk)
theorem sA:("a":Str)=⟨#[97]⟩:=by decide +kernel
theorem sU:("u":Str)=⟨#[117]⟩:=by decide +kernel
theorem sF:("f":Str)=⟨#[102]⟩:=by decide +kernel
theorem zoR{k:Nat}{st:Sto}(hk:k < 26):zaS [.int (k:Int)] st=some (.str (aN k),st):=by
 have:=zlI (c:=97) (st:=st) hk;refine zbQ ?_;unfold zdD;rw[sA];simp[this]
theorem zoH{k:Nat}{st:Sto}(hk:k < 26):zbx [.int (k:Int)] st=some (.str (uN k),st):=by
 have:=zlI (c:=117) (st:=st) hk;refine zbQ ?_;unfold zgt;rw[sU];simp[this]
theorem f_ev{k:Nat}{st:Sto}(hk:k < 26):zav [.str "f",.int (k:Int)] st=some (.str (fN k),st):=by
 rw[sF];exact zlI hk
theorem zry{m1 m2:ME}{ρ:Rho}{st:Sto}{a b:Int}{k:Nat}(e1:m1 ρ st=some (.int a,st))(e2:m2 ρ st=some (.int b,st))(s1:small a=true)(s2:small b=true)(hk:(b - a).toNat=k):mR2 m1 m2 ρ st=some (⟨run a k,[]⟩,st):=by
 unfold mR2;simp only[e1,e2,Ab,s1,s2,F0,if_true,hk]
theorem zjg{m1 m2:ME}{ρ:Rho}{st:Sto}{b:Int}{k:Nat}(e1:m1 ρ st=some (.int 1,st))(e2:m2 ρ st=some (.int b,st))(hb:b=(k:Int)+1)(hk:k<=1000):mR2 m1 m2 ρ st=some (⟨run 1 k,[]⟩,st) :=
 zry e1 e2 (by decide) (zfZ (by omega) (by omega)) (by omega)
theorem ziw{st0 st:Sto}{l:Nat}{o:O}(g:Gr st0 st)(h:st0.length<=l):Gr st0 (st.set l o):=⟨by rw[C1];exact g.len,fun k hk=>by rw[AH (by omega)];exact g.old k hk⟩
theorem zoI{m:MS}{ρ0:Rho}{x:Option D}{l k:Nat}{c:Nat->O}{st st0:Sto}(hl:st[l]?=some (c 0))(g0:Gr st0 st)(hl0:st0.length<=l)
   (step:∀ j < k,∀ s,s[l]?=some (c j)->Gr st0 s->m (ρ0++[some (.int ((j+1:Nat):Int))]) s=some (.nx (ρ0++[some (.int ((j+1:Nat):Int))]),s.set l (c (j+1)))) :
   ∃ y st',zg1 ⟨run 1 k,[]⟩ (gNm ρ0.length) m (run 1 k) (ρ0++[x]) st=some (.nx (ρ0++[y]),st')/\st'[l]?=some (c k)/\Gr st0 st':=by
 have key:=zcc (W:=⟨run 1 k,[]⟩) (g:=gNm ρ0.length) (m:=m) (ds:=run 1 k) (ρ:=ρ0++[x]) (st:=st) (Inv:=fun i ρ s=>(∃ y,ρ=ρ0++[y])/\s[l]?=some (c i)/\Gr st0 s) ⟨⟨_,rfl⟩,hl,g0⟩ (fun _ _ _ _ _=>rfl) (fun j d ρ s hd hI=>by
   obtain⟨⟨y,rfl⟩,h1,h2⟩:=hI;obtain⟨hj,rfl⟩:=run_get hd;have e:(1:Int)+(j:Int)=((j+1:Nat):Int):=by omega
   rw[e];refine⟨ρ0++[some (.int ((j+1:Nat):Int))],s,_,_,?_,step j hj s h1 h2,⟨_,rfl⟩,?_,ziw h2 hl0⟩
   . unfold gNm;rw[Et _ _ (Af _),BM];rfl
   . rw[AY (getElem?_lt h1)])
 obtain⟨ρ',st',e,⟨y,rfl⟩,h1,h2⟩:=key;rw[zcZ] at h1;exact⟨y,st',e,h1,h2⟩
noncomputable def rg(n:Nat):List Nat:=(AN n).map (·+1)
theorem zeJ(n:Nat):rg (n+1)=rg n++[n+1]:=by unfold rg;rw[FJ,Cc];rfl
noncomputable def kS:List Str:=["",uN 1,aN 1,"",""]
noncomputable def kA(n:Nat):List Str:=["",fN 1,aN (n+1),"",aN n]
noncomputable def kU(n:Nat):List Str:=["",uN (n+1),fN 0,uN n,""]
noncomputable def kI:List Str:=["",fN 1,fN 0,fN 1,fN 0]
noncomputable def KK(w h:Nat):List (List Str):=[kS]++(rg (w - 1)).map kA++(rg (h - 1)).map kU++[kI]
theorem zlZ{w h:Nat}{st:Sto}(hw:1<=w/\w<=6)(hh:1<=h/\h<=6):∃ st',zbJ [.int (w:Int),.int (h:Int)] st=some (.ref st.length,st')/\st'[st.length]?=some (.lst ((KK w h).map zbq))/\Gr st st':=by
 have f0:∀ s:Sto,zav [.str "f",.int 0] s=some (.str (fN 0),s):=fun s=>f_ev (k:=0) (by decide);have f1:∀ s:Sto,zav [.str "f",.int 1] s=some (.str (fN 1),s):=fun s=>f_ev (k:=1) (by decide);have u1:∀ s:Sto,zbx [.int 1] s=some (.str (uN 1),s):=fun s=>zoH (k:=1) (by decide);have a1:∀ s:Sto,zaS [.int 1] s=some (.str (aN 1),s):=fun s=>zoR (k:=1) (by decide);have g1:=Gr.app st [.lst ([kS].map zbq)];have b1:=za4 st (.lst ([kS].map zbq));generalize hs1:st++[O.lst ([kS].map zbq)]=s1 at g1 b1;obtain⟨y,s2,e2,b2,g2⟩:=zoI (m:=zb1) (ρ0:=[some (.int (w:Int)),some (.int (h:Int)),some (.str (fN 0)),some (.str (fN 1)),some (.ref st.length)]) (x:=none) (l:=st.length) (k:=w - 1) (c:=fun j=>.lst (([kS]++(rg j).map kA).map zbq)) (st:=s1) (st0:=st) (by rw[b1];rfl) g1 (Af _) (fun j hj s h1 _=>by
   have al1:=zoR (k:=j+2) (st:=s) (by omega);rw[show ((j+2:Nat):Int)=((j+1:Nat):Int)+1 by omega] at al1;have al0:=zoR (k:=j+1) (st:=s) (by omega);have ap:=append_at (x:=zbq (kA (j+1))) h1 (by simp[rg];omega);have ec:([kS]++(rg (j+1)).map kA).map zbq=([kS]++(rg j).map kA).map zbq++[zbq (kA (j+1))]:=by rw[zeJ];simp
   rw[ec];generalize (([kS]++(rg j).map kA).map zbq)=LL at *;generalize ((j+1:Nat):Int)=J at *;unfold zb1;have ap':zbR (.ref st.length) [.tup [.str "",.str (fN 1),.str (aN (j+2)),.str "",.str (aN (j+1))]] s=some (.non,s.set st.length (.lst (LL++[zbq (kA (j+1))]))):=ap;simp[al1,al0,zbj,h1,ap'])
 obtain⟨z,s3,e3,b3,g3⟩:=zoI (m:=zb0) (ρ0:=[some (.int (w:Int)),some (.int (h:Int)),some (.str (fN 0)),some (.str (fN 1)),some (.ref st.length)]) (x:=y) (l:=st.length) (k:=h - 1) (c:=fun j=>.lst (([kS]++(rg (w - 1)).map kA++(rg j).map kU).map zbq)) (st:=s2) (st0:=st) (by rw[b2];simp[rg]) g2 (Af _) (fun j hj s h1 _=>by
   have al1:=zoH (k:=j+2) (st:=s) (by omega);rw[show ((j+2:Nat):Int)=((j+1:Nat):Int)+1 by omega] at al1;have al0:=zoH (k:=j+1) (st:=s) (by omega);have ap:=append_at (x:=zbq (kU (j+1))) h1 (by simp[rg];omega);have ec:([kS]++(rg (w - 1)).map kA++(rg (j+1)).map kU).map zbq=([kS]++(rg (w - 1)).map kA++(rg j).map kU).map zbq++[zbq (kU (j+1))]:=by rw[zeJ];simp
   rw[ec];generalize (([kS]++(rg (w - 1)).map kA++(rg j).map kU).map zbq)=LL at *;generalize ((j+1:Nat):Int)=J at *;unfold zb0;have ap':zbR (.ref st.length) [.tup [.str "",.str (uN (j+2)),.str (fN 0),.str (uN (j+1)),.str ""]] s=some (.non,s.set st.length (.lst (LL++[zbq (kU (j+1))]))):=ap;simp[al1,al0,zbj,h1,ap'])
 have ap:=append_at (x:=zbq kI) b3 (by simp[rg];omega);have b4:(s3.set st.length (.lst (([kS]++(rg (w - 1)).map kA++(rg (h - 1)).map kU).map zbq++[zbq kI])))[st.length]?=some (.lst ((KK w h).map zbq)):=by
   rw[AY (getElem?_lt b3)];unfold KK;simp
 refine⟨_,zbQ ?_,b4,ziw g3 (Af _)⟩;generalize (([kS]++(rg (w - 1)).map kA++(rg (h - 1)).map kU).map zbq)=LL at *;unfold zd4;refine zaB (ρ1:=[some (.int (w:Int)),some (.int (h:Int)),some (.str (fN 0)),none,none,none]) (s1:=st) (by simp[f0]) ?_;refine zaB (ρ1:=[some (.int (w:Int)),some (.int (h:Int)),some (.str (fN 0)),some (.str (fN 1)),none,none]) (s1:=st) (by simp[f1]) ?_;refine zaB (ρ1:=[some (.int (w:Int)),some (.int (h:Int)),some (.str (fN 0)),some (.str (fN 1)),some (.ref st.length),none]) (s1:=s1) (by simp[u1,a1,<-hs1];rfl) ?_;refine zaB (ρ1:=[some (.int (w:Int)),some (.int (h:Int)),some (.str (fN 0)),some (.str (fN 1)),some (.ref st.length),y]) (s1:=s2) ?_ ?_
 . rw[zdM,zjg (b:=(w:Int)) (k:=w - 1) rfl rfl (by omega) (by omega)];exact e2
 refine zaB (ρ1:=[some (.int (w:Int)),some (.int (h:Int)),some (.str (fN 0)),some (.str (fN 1)),some (.ref st.length),z]) (s1:=s3) ?_ ?_
 . rw[zdM,zjg (b:=(h:Int)) (k:=h - 1) rfl rfl (by omega) (by omega)];exact e3
 have ap':zbR (.ref st.length) [.tup [.str "",.str (fN 1),.str (fN 0),.str (fN 1),.str (fN 0)]] s3=some (.non,s3.set st.length (.lst (LL++[zbq kI]))):=ap;refine zaB (ρ1:=[some (.int (w:Int)),some (.int (h:Int)),some (.str (fN 0)),some (.str (fN 1)),some (.ref st.length),z]) (s1:=s3.set st.length (.lst (LL++[zbq kI]))) (by simp[zbj,b3,ap']) (by simp)
noncomputable def SD(w h:Nat):List Spr:=[(fN 0,1),(fN 1,1)]++(rg w).map (fun n=>(aN n,2))++(rg h).map (fun n=>(uN n,2))
noncomputable def SSk(w h:Nat):List Spr:=(rg w).map (fun n=>(aN n,2))++[(fN 0,1),(fN 1,1)]++(rg h).map (fun n=>(uN n,2))
theorem zoj:∀ j:Nat,j < 6->((SD j 0).any fun p=>decide (p.1=aN (j+1)))=false:=by decide +kernel
theorem zoi:∀ w:Nat,w < 7->∀ j:Nat,j < 6->((SD w j).any fun p=>decide (p.1=uN (j+1)))=false:=by decide +kernel
theorem zo0:∀ w:Nat,w < 7->∀ h:Nat,h < 7->(SSk w h).Pairwise fun a b=>ple a b=true:=by decide +kernel
theorem zne{w h:Nat}(hw:w < 7)(hh:h < 7):zhb (SD w h)=SSk w h:=zk4 (List.perm_append_comm.append_right _) (zo0 w hw h hh)
theorem zkK(k:Str):∀ L:List Spr,((L.map kvS).any fun kv=>decide (kv.1=(.inr k:Key)))=L.any fun p=>decide (p.1=k)
 | []=>rfl
 | p::L=>by
   rw[Ao,BE,BE,zkK k L]
   congr 1
   simp[kvS]
theorem zj9{L:List Spr}{k:Str}{v:Int}{n:Nat}{st:Sto}(h:st[n]?=some (.dk (L.map kvS)))(hn:(L.any fun p=>decide (p.1=k))=false)(hl:L.length<=1000):dput st n (.str k) (.int v)=some (st.set n (.dk ((L++[(k,v)]).map kvS))):=by
 have hz:(L.map kvS).length < sizeLine:=by rw[Ak];exact BL hl (by decide)
 unfold dput;simp only[h];simp only[keyOf,Ab,decide_eq_true hz,if_true,putD,zkK,hn,Bi,if_false,Cc,Ao,Bq];rfl
theorem zoa:∀ L:List Spr,kiOf (L.map kvS)=some L
 | []=>rfl
 | p::L=>by
   rw[Ao];show (kiOf (L.map kvS)).map _=_;rw[zoa L];rfl
theorem zj8{m:ME}{k:Str}{n:Nat}{a0 a1 a3:Option D}{s s':Sto}{kvs:List (Key×D)}(h:s[n]?=some (.dk kvs))(em:m [a0,a1,some (.ref n),a3] s=some (.str k,s))(dp:dput s n (.str k) (.int 2)=some s'):putA (mVar 2) m (mCon (.int 2)) [a0,a1,some (.ref n),a3] s=some (.nx [a0,a1,some (.ref n),a3],s'):=by
 have ns:setD (.ref n) (.str k) (.int 2) s=none:=by unfold setD;simp[h]
 rw[ziR];simp only[zcn,zoz,zbc,zbZ,Aj,As,Ab,em,ns,Dc,zfx];unfold zlS;simp only[zbc,zbZ,Aj,As,Ab,em,dp,Ay]
noncomputable def Bd(w h:Nat):D:=bD (hD 2 (SSk w h) (KK w h)) ((w:Int)+2) ((h:Int)+2) [(1,1,0)]
theorem zg3{L:List Spr}{ks:List D}{r l:Nat}{st:Sto}(hr:st[r]?=some (.dk (L.map kvS)))(hl:st[l]?=some (.lst ks))(h2:2<=L.length)(h64:L.length < 64)(hk:ks.length<=1000) :
   zb2 [.int 2,.ref r,.ref l] st=some (.tup [.int 2,.tup ((zhb L).map siD),.tup ks],st++[.lst ((zhb L).map siD)]):=by
 refine zbQ ?_;have e1:zoJ (mVar 1) [some (.int 2),some (.ref r),some (.ref l)] st=some (.ref st.length,st++[.lst ((zhb L).map siD)]):=by
   unfold zoJ;simp only[zbc,As,Aj,Ab,hr,zoa,decide_eq_true h2,decide_eq_true h64,F0,if_true]
 have a1:=za4 st (.lst ((zhb L).map siD));have a2:(st++[O.lst ((zhb L).map siD)])[l]?=some (.lst ks):=by rw[Ar (getElem?_lt hl)];exact hl
 generalize (zhb L).map siD=SL at *;generalize st++[O.lst SL]=s1 at *;have t1:zfn [.ref st.length] s1=some (.tup SL,s1):=by simp[zfn,zbj,a1]
 have t2:zfn [.ref l] s1=some (.tup ks,s1):=by simp[zfn,zbj,a2]
 have f3:fits 3=true:=by decide
 unfold zfi;show mRet _ [some (.int 2),some (.ref r),some (.ref l)] st=_;simp[e1,t1,t2,f3]
theorem zmd{m2:ME}{g:MG}{b:MS}{ρ:Rho}{st:Sto}{r:Option (Fl×Sto)}{B:Int}{k:Nat}(e2:m2 ρ st=some (.int B,st))(hb:B=(k:Int)+1)(hk:k<=1000)(el:zg1 ⟨run 1 k,[]⟩ g b (run 1 k) ρ st=r):mFor (mR2 (mCon (.int 1)) m2) g b ρ st=r:=by
 rw[zdM,zjg rfl e2 hb hk];exact el
theorem zqG{W H:Int}{n l:Nat}{s0 s1 s2 s3 s4 s5:Sto}{y z:Option D}{HH:D}
   (ed:zig (zaw zav (zae (mCon (.str "f")) (zae (mCon (.int 0)) (mNil)))) (mCon (.int 1)) (zaw zav (zae (mCon (.str "f")) (zae (mCon (.int 1)) (mNil)))) (mCon (.int 1)) [some (.int W),some (.int H),none,none] s0=some (.ref n,s1))
   (e2:mFor (mR2 (mCon (.int 1)) (mBin addD (mVar 0) (mCon (.int 1)))) (gNm 3) (zcV) [some (.int W),some (.int H),some (.ref n),none] s1=some (.nx [some (.int W),some (.int H),some (.ref n),y],s2))
   (e3:mFor (mR2 (mCon (.int 1)) (mBin addD (mVar 1) (mCon (.int 1)))) (gNm 3) (zcU) [some (.int W),some (.int H),some (.ref n),y] s2=some (.nx [some (.int W),some (.int H),some (.ref n),z],s3))
   (e4:zbJ [.int W,.int H] s3=some (.ref l,s4)) (e5:zb2 [.int 2,.ref n,.ref l] s4=some (HH,s5)) :
   zbG [.int W,.int H] s0=some (.tup [HH,.tup [.int (W+2),.int (H+2)],.tup [.tup [.int 1,.int 1,.int 0]]],s5):=by
 refine zbQ ?_;unfold zgx;refine zaB (ρ1:=[some (.int W),some (.int H),some (.ref n),none]) (s1:=s1) (by
   show mAsg _ _ [some (.int W),some (.int H),none,none] s0=_;rw[zcn,ed];rfl) ?_
 refine zaB e2 (zaB e3 ?_);simp[e4,e5]
theorem zkI{w h:Nat}{st:Sto}(hw:1<=w/\w<=6)(hh:1<=h/\h<=6):∃ st',zbG [.int (w:Int),.int (h:Int)] st=some (Bd w h,st')/\Gr st st':=by
 have f0:∀ s:Sto,zav [.str "f",.int 0] s=some (.str (fN 0),s):=fun s=>f_ev (k:=0) (by decide);have f1:∀ s:Sto,zav [.str "f",.int 1] s=some (.str (fN 1),s):=fun s=>f_ev (k:=1) (by decide);have nf:fN 0≠fN 1:=by decide +kernel
 have g1:=Gr.app st [.dk ((SD 0 0).map kvS)];have b1:=za4 st (.dk ((SD 0 0).map kvS));have es:(st++[O.dk []]).set st.length (.dk ((SD 0 0).map kvS))=st++[.dk ((SD 0 0).map kvS)]:=by rw[Et _ _ (Af _),BM];rfl
 have b0:=za4 st (.dk []);generalize hs1:st++[O.dk ((SD 0 0).map kvS)]=s1 at g1 b1 es;have ed:zig (zaw zav (zae (mCon (.str "f")) (zae (mCon (.int 0)) (mNil)))) (mCon (.int 1)) (zaw zav (zae (mCon (.str "f")) (zae (mCon (.int 1)) (mNil)))) (mCon (.int 1)) [some (.int (w:Int)),some (.int (h:Int)),none,none] st=some (.ref st.length,s1):=by
   unfold zig;simp only[zcf,zbY,zdz,zbZ,Ab,f0,f1,b0,decide_eq_true nf,if_true];rw[<-es];rfl
 obtain⟨y,s2,e2,b2,g2⟩:=zoI (m:=zcV) (ρ0:=[some (.int (w:Int)),some (.int (h:Int)),some (.ref st.length)]) (x:=none) (l:=st.length) (k:=w) (c:=fun j=>.dk ((SD j 0).map kvS)) (st:=s1) (st0:=st) b1 g1 (Af _) (fun j hj s h1 _=>by
   have al:=zoR (k:=j+1) (st:=s) (by omega);have dp:=zj9 (v:=2) h1 (zoj j (by omega)) (by simp[SD,rg];omega);have ec:SD (j+1) 0=SD j 0++[(aN (j+1),2)]:=by unfold SD;rw[zeJ];simp[rg]
   rw[ec];exact zj8 h1 (by generalize ((j+1:Nat):Int)=J at *;simp[al]) dp)
 obtain⟨z,s3,e3,b3,g3⟩:=zoI (m:=zcU) (ρ0:=[some (.int (w:Int)),some (.int (h:Int)),some (.ref st.length)]) (x:=y) (l:=st.length) (k:=h) (c:=fun j=>.dk ((SD w j).map kvS)) (st:=s2) (st0:=st) b2 g2 (Af _) (fun j hj s h1 _=>by
   have al:=zoH (k:=j+1) (st:=s) (by omega);have dp:=zj9 (v:=2) h1 (zoi w (by omega) j (by omega)) (by simp[SD,rg];omega);have ec:SD w (j+1)=SD w j++[(uN (j+1),2)]:=by unfold SD;rw[zeJ];simp
   rw[ec];exact zj8 h1 (by generalize ((j+1:Nat):Int)=J at *;simp[al]) dp)
 obtain⟨s4,e4,b4,g4⟩:=zlZ (st:=s3) hw hh;have b5:=(g4.old _ (getElem?_lt b3)).trans b3;have e5:=zg3 b5 b4 (by simp[SD,rg]) (by simp[SD,rg];omega) (by simp[KK,rg];omega);rw[zne (by omega) (by omega)] at e5;have g5:=Gr.app s4 [.lst ((SSk w h).map siD)];have eB:Bd w h=.tup [.tup [.int 2,.tup ((SSk w h).map siD),.tup ((KK w h).map zbq)],.tup [.int ((w:Int)+2),.int ((h:Int)+2)],.tup [.tup [.int 1,.int 1,.int 0]]]:=rfl;rw[eB];exact⟨_,zqG ed (zmd (by simp) rfl (by omega) e2) (zmd (by simp) rfl (by omega) e3) e4 e5,(g3.trans g4).trans g5⟩
end L2.MP.stickytiles_k55_box_beds
set_option synthInstance.maxHeartbeats 2000000
set_option synthInstance.maxSize 4000
namespace L2.MP.stickytiles_k55_box_beds
open PySem L2.MP
open L2.MP.Hd (stD zbX zi0 sv zjv zkD kvS)
noncomputable def KC(w h:Nat):List (List Nat):=[[0,21,11,0,0]]++(rg (w - 1)).map (fun n=>[0,31,11+n,0,10+n])++(rg (h - 1)).map (fun n=>[0,21+n,30,20+n,0])++[[0,31,30,31,30]]
noncomputable def tx(c:Nat):Str:=if c=0 then "" else if c < 20 then aN (c - 10) else if c < 30 then uN (c - 20) else fN (c - 30)
noncomputable def ac:List Nat:=[0,11,12,13,14,15,16,21,22,23,24,25,26,30,31]
noncomputable def sn(c:Nat):Nat:=if c < 30 then 2 else 1
theorem zn6:∀ w:Nat,w < 7->∀ h:Nat,h < 7->KK w h=(KC w h).map (·.map tx):=by decide +kernel
theorem zob:∀ w:Nat,w < 7->∀ h:Nat,h < 7->1<=w->1<=h->∀ k∈KC w h,k.length=5/\k.getD 0 1=0/\∀ c∈k,c∈ac/\(c≠0->tx c∈(SSk w h).map (·.1)):=by decide +kernel
theorem zmE:∀ c∈ac,BZ (tx c)=true:=by decide +kernel
theorem zmQ:∀ c∈ac,∀ d∈ac,A9 (.str (tx c)) (.str (tx d))=decide (c=d):=by decide +kernel
theorem zrn:∀ w:Nat,w < 7->∀ h:Nat,h < 7->1<=w->1<=h->∀ c∈ac,c≠0->tx c∈(SSk w h).map (·.1)->sv (SSk w h) (tx c)=sn c:=by decide +kernel
theorem zoZ:∀ w:Nat,w < 7->∀ h:Nat,h < 7->∀ p∈SSk w h,1<=p.2/\p.2<=4:=by decide +kernel
noncomputable abbrev Pt:=Int×Int
noncomputable def prD(p:Pt):D:=.tup [.int p.1,.int p.2]
noncomputable def off:Nat->Pt
 | 0=>(0,1)
 | 1=>(1,0)
 | 2=>(0,-1)
 | _=>(-1,0)
noncomputable def nbr(p:Pt)(i:Nat):Pt:=(p.1+(off i).1,p.2+(off i).2)
noncomputable def inb(w h:Nat)(p:Pt):Bool:=decide (1<=p.1)&&decide (p.1<=w)&&decide (1<=p.2)&&decide (p.2<=h)
noncomputable def fK(w h:Nat)(p:Pt):Nat:=if p.2=1 then p.1.toNat - 1 else if p.1=1 then w+p.2.toNat - 2 else w+h - 1
noncomputable def cd(w h k i:Nat):Nat:=((KC w h).getD k []).getD (1+i) 0
noncomputable def bd(w h k:Nat)(p:Pt)(i:Nat):Nat:=if inb w h (nbr p i)=true then (if cd w h k i≠0/\cd w h k i=cd w h (fK w h (nbr p i)) ((i+2) % 4) then sn (cd w h k i) else 0) else 0
noncomputable def bds(w h k:Nat)(p:Pt):Nat:=bd w h k p 0+bd w h k p 1+bd w h k p 2+bd w h k p 3
theorem only:∀ w:Nat,w < 7->1<=w->∀ h:Nat,h < 7->1<=h->∀ x:Nat,x < w+2->∀ y:Nat,y < h+2->∀ k:Nat,k < w+h->2<=bds w h k ((x:Int),(y:Int))->inb w h ((x:Int),(y:Int))=true/\fK w h ((x:Int),(y:Int))=k:=by decide +kernel
theorem west:∀ w:Nat,w < 7->1<=w->∀ h:Nat,h < 7->1<=h->∀ x:Nat,x < w+1->2<=x->∀ y:Nat,y < h+1->1<=y->(if y=1 then 2 else 1)<=bd w h (fK w h ((x:Int),(y:Int))) ((x:Int),(y:Int)) 3:=by decide +kernel
theorem zrq:∀ w:Nat,w < 7->1<=w->∀ h:Nat,h < 7->1<=h->∀ x:Nat,x < w+1->1<=x->∀ y:Nat,y < h+1->2<=y->(if x=1 then 2 else 1)<=bd w h (fK w h ((x:Int),(y:Int))) ((x:Int),(y:Int)) 2:=by decide +kernel
theorem zr2:∀ w:Nat,w < 7->1<=w->∀ h:Nat,h < 7->1<=h->∀ x:Nat,x < w+1->1<=x->∀ y:Nat,y < h+1->1<=y->fK w h ((x:Int),(y:Int)) < w+h:=by decide +kernel
theorem zim{w h:Nat}(hw:1<=w)(hh:1<=h):(KC w h).length=w+h:=by simp[KC,rg];omega
noncomputable def kvF(w h:Nat)(p:Pt):List Key×D:=([.inl p.1,.inl p.2],.int (fK w h p:Int))
theorem zmO{w h:Nat}(q:Pt):∀ R:List Pt,valD (R.map (kvF w h)) [.inl q.1,.inl q.2]=if q∈R then some (.int (fK w h q:Int)) else none
 | []=>rfl
 | p::R=>by
   have ih:=zmO (w:=w) (h:=h) q R;unfold valD at ih ⊢;rw[Ao,AZ]
   by_cases e:p=q
   . subst e;have:decide ((kvF w h p).1=[.inl p.1,.inl p.2])=true:=decide_eq_true rfl;rw[this,if_pos Am];rfl
   . have hn:decide ((kvF w h p).1=[.inl q.1,.inl q.2])=false:=by
       refine decide_eq_false fun z=>e ?_;obtain⟨a,b⟩:=p;obtain⟨c,d⟩:=q;simp[kvF] at z;rw[z.1,z.2]
     rw[hn];simp only[];rw[ih]
     by_cases hq:q∈R
     . rw[if_pos hq,if_pos (Ag _ hq)]
     . rw[if_neg hq,if_neg (fun z=>(List.mem_cons.mp z).elim (fun z=>e z.symm) hq)]
theorem zn2{w h:Nat}{R:List Pt}{q:Pt}{t:Nat}{st:Sto}(h1:st[t]?=some (.dt (R.map (kvF w h)))):look st t (prD q)=some (if q∈R then some (.int (fK w h q:Int)) else none):=by
 unfold look prD;simp only[h1,keysOf,keyOf,Ab,Ay];rw[<-zmO q R]
theorem zqp{a b:Int}{B:D}{t:Nat}{k m S X Y:Int}{d:Nat}{KD:D}{a10 a11:Option D}{r:Option D}{st:Sto}(hd:zmJ st t=true)(hl:look st t (.tup [.int (a+X),.int (b+Y)])=some r) :
   zn0 (mVar 1) (mTup (zae (mBin addD (mBin ixA (mVar 2) (mCon (.int 0))) (mVar 8)) (zae (mBin addD (mBin ixA (mVar 2) (mCon (.int 1))) (mVar 9)) (mNil)))) [some B,some (.ref t),some (.tup [.int a,.int b]),some (.int k),some (.ref d),some KD,some (.int m),some (.int S),some (.int X),some (.int Y),a10,a11] st=some (r.getD .non,st):=by
 have x0:ixA (.tup [.int a,.int b]) (.int 0) st=some (.int a,st):=zaY (by decide) rfl;have x1:ixA (.tup [.int a,.int b]) (.int 1) st=some (.int b,st):=zaY (by decide) rfl;have f2:fits 2=true:=by decide
 have hb:zoL st t (.tup [.int (a+X),.int (b+Y)])=some r:=by unfold zoL;rw[hl,zeM]
 unfold zn0;simp[hd,x0,x1,f2,hb]
inductive Bnd (KD:D) (d:Nat) (S:Int) (z:Str) (o:D) (v:Int) (st:Sto):Prop
 | no (h1:o=.non) (h2:v=0)
 | em (j:Int) (h1:o=.int j) (h2:neD (.str z) (.str "") st=some (.bl false,st)) (h3:v=0)
 | ne (j:Int) (K2:D) (z2:Str) (h1:o=.int j) (h2:neD (.str z) (.str "") st=some (.bl true,st)) (h3:ixA KD (.int j) st=some (K2,st)) (h4:ixA K2 (.int (1+(S+2) % 4)) st=some (.str z2,st)) (h5:eqD (.str z) (.str z2) st=some (.bl false,st)) (h6:v=0)
 | eq (j:Int) (K2:D) (z2:Str) (h1:o=.int j) (h2:neD (.str z) (.str "") st=some (.bl true,st)) (h3:ixA KD (.int j) st=some (K2,st)) (h4:ixA K2 (.int (1+(S+2) % 4)) st=some (.str z2,st)) (h5:eqD (.str z) (.str z2) st=some (.bl true,st)) (h6:ixA (.ref d) (.str z) st=some (.int v,st))
theorem zog{B T P KD K1 o:D}{d:Nat}{k m S X Y v:Int}{st:Sto}{a10 a11:Option D}{z:Str}
   (eg:zn0 (mVar 1) (mTup (zae (mBin addD (mBin ixA (mVar 2) (mCon (.int 0))) (mVar 8)) (zae (mBin addD (mBin ixA (mVar 2) (mCon (.int 1))) (mVar 9)) (mNil)))) [some B,some T,some P,some (.int k),some (.ref d),some KD,some (.int m),some (.int S),some (.int X),some (.int Y),a10,a11] st=some (o,st))
   (e1:ixA KD (.int k) st=some (K1,st)) (e2:ixA K1 (.int (1+S)) st=some (.str z,st)) (r:Bnd KD d S z o v st) :
   ∃ y10 y11,zbi [some B,some T,some P,some (.int k),some (.ref d),some KD,some (.int m),some (.int S),some (.int X),some (.int Y),a10,a11] st=some (.nx [some B,some T,some P,some (.int k),some (.ref d),some KD,some (.int (m+v)),some (.int S),some (.int X),some (.int Y),y10,y11],st):=by
 have m4:modD (.int (S+2)) (.int 4) st=some (.int ((S+2) % 4),st):=zjv (by decide);unfold zbi;refine⟨some o,some (.str z),zaB (ρ1:=[some B,some T,some P,some (.int k),some (.ref d),some KD,some (.int m),some (.int S),some (.int X),some (.int Y),some o,a11]) (s1:=st) (by rw[zcn,eg];rfl) ?_⟩;refine zaB (ρ1:=[some B,some T,some P,some (.int k),some (.ref d),some KD,some (.int m),some (.int S),some (.int X),some (.int Y),some o,some (.str z)]) (s1:=st) (by simp[e1,e2]) ?_
 cases r with
 | no h1 h2 =>
   subst h1 h2;have n1:zmH .non .non st=some (.bl false,st):=rfl;simp[n1]
 | em j h1 h2 h3 =>
   subst h1 h3;have n1:zmH (.int j) .non st=some (.bl true,st):=rfl;simp[n1,h2]
 | ne j K2 z2 h1 h2 h3 h4 h5 h6 =>
   subst h1 h6;have n1:zmH (.int j) .non st=some (.bl true,st):=rfl;simp[n1,h2,h3,m4,h4,h5]
 | eq j K2 z2 h1 h2 h3 h4 h5 h6 =>
   subst h1;have n1:zmH (.int j) .non st=some (.bl true,st):=rfl;simp[n1,h2,h3,m4,h4,h5,h6]
section
variable {w h:Nat} {st:Sto}
structure Sz(w h:Nat):Prop where
 w1:1<=w
 w6:w < 7
 h1:1<=h
 h6:h < 7
noncomputable def KD(w h:Nat):D:=.tup ((KK w h).map zbq)
theorem zqZ(z:Sz w h){k:Nat}(hk:k < w+h):ixA (KD w h) (.int (k:Int)) st=some (zbq (((KC w h).getD k []).map tx),st):=by
 refine zaY (by omega) ?_;rw[BD,zn6 w z.w6 h z.h6,AD,AD];rw[Ah (by rw[zim z.w1 z.h1];exact hk),Ap,Ah (by rw[zim z.w1 z.h1];exact hk)];rfl
theorem zl1(z:Sz w h){k:Nat}(hk:k < w+h):(KC w h).getD k []∈KC w h:=by
 rw[Ap,Ah (by rw[zim z.w1 z.h1];exact hk)];exact B0 _
theorem zr9(z:Sz w h){k i:Nat}(hk:k < w+h)(hi:i < 4):cd w h k i∈(KC w h).getD k []:=by
 obtain⟨hl,_,_⟩:=zob w z.w6 h z.h6 z.w1 z.h1 _ (zl1 z hk);unfold cd;generalize (KC w h).getD k []=L at *;rw[Ap,Ah (by omega)];exact B0 _
theorem zq3(z:Sz w h){k i:Nat}(hk:k < w+h)(hi:i < 4):cd w h k i∈ac/\(cd w h k i≠0->tx (cd w h k i)∈(SSk w h).map (·.1)) :=
 (zob w z.w6 h z.h6 z.w1 z.h1 _ (zl1 z hk)).2.2 _ (zr9 z hk hi)
theorem zj4(z:Sz w h){k i:Nat}(hk:k < w+h)(hi:i < 4):ixA (zbq (((KC w h).getD k []).map tx)) (.int (1+(i:Int))) st=some (.str (tx (cd w h k i)),st):=by
 obtain⟨hl,_,_⟩:=zob w z.w6 h z.h6 z.w1 z.h1 _ (zl1 z hk);unfold cd zbq;generalize (KC w h).getD k []=L at *;refine zaY (by omega) ?_;have:(1+(i:Int)).toNat=1+i:=by omega
 rw[this,AD,AD,Ap,Ah (by omega)];rfl
theorem zr6{c d:Nat}(hc:c∈ac)(hd:d∈ac):eqD (.str (tx c)) (.str (tx d)) st=some (.bl (decide (c=d)),st):=by
 unfold eqD;rw[zcY (n:=99) (zmE c hc),zcY (n:=99) (zmE d hd),Ab,Ay,zmQ c hc d hd]
theorem zrL{c:Nat}(hc:c∈ac):neD (.str (tx c)) (.str "") st=some (.bl (!decide (c=0)),st):=by
 have h0:(0:Nat)∈ac:=by decide
 have e0:("":Str)=tx 0:=rfl;unfold neD;rw[e0,zcY (n:=99) (zmE c hc),zcY (n:=99) (zmE 0 h0),Ab,Ay,zmQ c hc 0 h0]
theorem zro(z:Sz w h){d c:Nat}(hd:st[d]?=some (.dk (stD (SSk w h))))(hc:c∈ac)(h0:c≠0)(hm:tx c∈(SSk w h).map (·.1)):ixA (.ref d) (.str (tx c)) st=some (.int (sn c:Int),st):=by
 refine Hd.zoN hd ?_;rw[(zi0 (zoZ w z.w6 h z.h6) hm).1,zrn w z.w6 h z.h6 z.w1 z.h1 c hc h0 hm]
noncomputable def bR(w h:Nat)(R:List Pt)(k:Nat)(p:Pt)(i:Nat):Nat:=if nbr p i∈R then bd w h k p i else 0
theorem zl7(z:Sz w h){q:Pt}(hq:inb w h q=true):fK w h q < w+h:=by
 obtain⟨a,b⟩:=q;simp[inb] at hq;have:=zr2 w z.w6 z.w1 h z.h6 z.h1 a.toNat (by omega) (by omega) b.toNat (by omega) (by omega);rw[A1 (by omega),A1 (by omega)] at this;exact this
theorem zqH(z:Sz w h){R:List Pt}{d k i:Nat}{p:Pt}(hR:∀ q∈R,inb w h q=true)(hd:st[d]?=some (.dk (stD (SSk w h))))(hk:k < w+h)(hi:i < 4) :
   Bnd (KD w h) d (i:Int) (tx (cd w h k i)) ((if nbr p i∈R then some (.int (fK w h (nbr p i):Int)) else none:Option D).getD .non) (bR w h R k p i:Int) st:=by
 unfold bR
 by_cases hm:nbr p i∈R
 . rw[if_pos hm,if_pos hm];have hin:=hR _ hm;have hk2:=zl7 z hin;obtain⟨a1,a2⟩:=zq3 z hk hi;have hj:(i+2) % 4 < 4:=by omega
   obtain⟨b1,_⟩:=zq3 z hk2 hj;have e3:=zqZ (st:=st) z hk2;have e4:=zj4 (st:=st) z hk2 hj;have ej:(1:Int)+(((i+2) % 4:Nat):Int)=1+((i:Int)+2) % 4:=by omega
   rw[ej] at e4;unfold bd;rw[if_pos hin];have n1:=zrL (st:=st) a1;have q1:=zr6 (st:=st) a1 b1
   by_cases h0:cd w h k i=0
   . rw[if_neg (fun z=>z.1 h0)];rw[decide_eq_true h0] at n1;exact .em _ rfl n1 rfl
   . rw[decide_eq_false h0] at n1
     by_cases h1:cd w h k i=cd w h (fK w h (nbr p i)) ((i+2) % 4)
     . rw[if_pos ⟨h0,h1⟩];rw[decide_eq_true h1] at q1;exact .eq _ _ _ rfl n1 e3 e4 q1 (zro z hd a1 h0 (a2 h0))
     . rw[if_neg (fun z=>h1 z.2)];rw[decide_eq_false h1] at q1;exact .ne _ _ _ rfl n1 e3 e4 q1 rfl
 . rw[if_neg hm,if_neg hm];exact .no rfl rfl
noncomputable def hR(w h:Nat)(R:List Pt)(k:Nat)(p:Pt):Nat:=bR w h R k p 0+bR w h R k p 1+bR w h R k p 2+bR w h R k p 3
end
section
variable {w h:Nat} {st:Sto}
theorem bx0:ixA (Bd w h) (.int 0) st=some (hD 2 (SSk w h) (KK w h),st):=zaY (by decide) rfl
theorem bx1:ixA (Bd w h) (.int 1) st=some (.tup [.int ((w:Int)+2),.int ((h:Int)+2)],st):=zaY (by decide) rfl
theorem bx2:ixA (Bd w h) (.int 2) st=some (.tup [.tup [.int 1,.int 1,.int 0]],st):=zaY (by decide) rfl
theorem hx0:ixA (hD 2 (SSk w h) (KK w h)) (.int 0) st=some (.int 2,st):=zaY (by decide) rfl
theorem hx1:ixA (hD 2 (SSk w h) (KK w h)) (.int 1) st=some (.tup ((SSk w h).map zbb),st):=zaY (by decide) rfl
theorem hx2:ixA (hD 2 (SSk w h) (KK w h)) (.int 2) st=some (KD w h,st):=zaY (by decide) rfl
noncomputable def offL:ME:=mLst (zae (mTup (zae (mCon (.int 0)) (zae (mCon (.int 1)) (mNil)))) (zae (mTup (zae (mCon (.int 1)) (zae (mCon (.int 0)) (mNil)))) (zae (mTup (zae (mCon (.int 0)) (zae (mNeg (mCon (.int 1))) (mNil)))) (zae (mTup (zae (mNeg (mCon (.int 1))) (zae (mCon (.int 0)) (mNil)))) (mNil)))))
noncomputable def offs:List D:=[prD (off 0),prD (off 1),prD (off 2),prD (off 3)]
theorem znS{i:Nat}{e:D}(h:offs[i]?=some e):i < 4/\e=prD (off i):=by
 have hi:i < 4:=getElem?_lt h;refine⟨hi,?_⟩
 match i,hi,h with
 | 0,_,h=>exact (Ax h).symm
 | 1,_,h=>exact (Ax h).symm
 | 2,_,h=>exact (Ax h).symm
 | 3,_,h=>exact (Ax h).symm
noncomputable def sb(w h:Nat)(R:List Pt)(k:Nat)(p:Pt):Nat->Nat
 | 0=>0
 | i+1=>sb w h R k p i+bR w h R k p i
theorem zma{B H0 KDv SDv P T:D}{k m':Int}{d:Nat}{s1 s2:Sto}{y7 y8 y9 y10 y11:Option D}(e0:∀ s:Sto,ixA B (.int 0) s=some (H0,s))(e1:∀ s:Sto,ixA H0 (.int 1) s=some (SDv,s))(e2:∀ s:Sto,ixA H0 (.int 2) s=some (KDv,s))(ed:zmK [SDv] st=some (.ref d,s1))
   (el:mFor (zn1 offL) (gTp 2 (gC (gNm 7) (gC (gTp 2 (gC (gNm 8) (gC (gNm 9) (gN0)))) (gN0)))) (zbi) [some B,some T,some P,some (.int k),some (.ref d),some KDv,some (.int 0),none,none,none,none,none] s1=some (.nx [some B,some T,some P,some (.int k),some (.ref d),some KDv,some (.int m'),y7,y8,y9,y10,y11],s2)) :
   zaH [B,T,P,.int k] st=some (.int m',s2):=by
 refine zbQ ?_;unfold zdC;refine zaB (ρ1:=[some B,some T,some P,some (.int k),some (.ref d),some KDv,none,none,none,none,none,none]) (s1:=s1) (by simp[e0,e1,e2,ed]) ?_;refine zaB (ρ1:=[some B,some T,some P,some (.int k),some (.ref d),some KDv,some (.int 0),none,none,none,none,none]) (s1:=s1) (by simp) ?_;refine zaB el ?_;simp
theorem zky(z:Sz w h){R:List Pt}{t k:Nat}{p:Pt}(hRi:∀ q∈R,inb w h q=true)(ht:st[t]?=some (.dt (R.map (kvF w h))))(hk:k < w+h) :
   ∃ st',zaH [Bd w h,.ref t,prD p,.int (k:Int)] st=some (.int (hR w h R k p:Int),st')/\Gr st st':=by
 have ed:=zbX (stk:=SSk w h) (st:=st) (by have:=z.w6;have:=z.h6;simp[SSk,rg];omega);have g1:=Gr.app st [.dk (stD (SSk w h))];have a1:=za4 st (.dk (stD (SSk w h)));generalize hs1:st++[O.dk (stD (SSk w h))]=s1 at *;have g2:=Gr.app s1 [.lst offs];have a2:=za4 s1 (.lst offs);generalize hs2:s1++[O.lst offs]=s2 at *;have t2:=((g1.trans g2).old _ (getElem?_lt ht)).trans ht;have d2:=(g2.old _ (getElem?_lt a1)).trans a1;have dic:zmJ s2 t=true:=by unfold zmJ;rw[t2]
 have key:=zcc (W:=⟨pairs offs,[(s1.length,offs)]⟩) (g:=gTp 2 (gC (gNm 7) (gC (gTp 2 (gC (gNm 8) (gC (gNm 9) (gN0)))) (gN0)))) (m:=zbi) (ds:=pairs offs) (ρ:=[some (Bd w h),some (.ref t),some (prD p),some (.int (k:Int)),some (.ref st.length),some (KD w h),some (.int 0),none,none,none,none,none]) (st:=s2)
   (Inv:=fun i ρ s=>s=s2/\∃ y7 y8 y9 y10 y11,ρ=[some (Bd w h),some (.ref t),some (prD p),some (.int (k:Int)),some (.ref st.length),some (KD w h),some (.int (sb w h R k p i:Int)),y7,y8,y9,y10,y11])
   ⟨rfl,_,_,_,_,_,rfl⟩ (fun _ _ s _ hI=>by rw[hI.1];exact za5 a2) (fun i d ρ s hd hI=>by
     obtain⟨rfl,y7,y8,y9,y10,y11,rfl⟩:=hI;obtain⟨e,he,rfl⟩:=zf7 hd;obtain⟨hi,rfl⟩:=znS he;have hl:=zn2 (w:=w) (h:=h) (R:=R) (q:=nbr p i) t2;have eg:=zqp (B:=Bd w h) (a:=p.1) (b:=p.2) (k:=(k:Int)) (m:=(sb w h R k p i:Int)) (S:=(i:Int)) (X:=(off i).1) (Y:=(off i).2) (d:=st.length) (KD:=KD w h) (a10:=y10) (a11:=y11) dic hl;obtain⟨z10,z11,e2⟩:=zog eg (zqZ z hk) (zj4 z hk hi) (zqH z (p:=p) hRi d2 hk hi);refine⟨[some (Bd w h),some (.ref t),some (prD p),some (.int (k:Int)),some (.ref st.length),some (KD w h),some (.int (sb w h R k p i:Int)),some (.int (i:Int)),some (.int (off i).1),some (.int (off i).2),y10,y11],s,_,_,?_,e2,rfl,some (.int (i:Int)),some (.int (off i).1),some (.int (off i).2),z10,z11,?_⟩
     . unfold prD;simp
     . rw[show sb w h R k p (i+1)=sb w h R k p i+bR w h R k p i from rfl,FL]
       rfl)
 obtain⟨ρ',s',el,rfl,y7,y8,y9,y10,y11,rfl⟩:=key;have e4:sb w h R k p (pairs offs).length=hR w h R k p:=by
   show 0+bR w h R k p 0+bR w h R k p 1+bR w h R k p 2+bR w h R k p 3=_;unfold hR;omega
 rw[e4] at el;refine⟨s',zma (y7:=y7) (y8:=y8) (y9:=y9) (y10:=y10) (y11:=y11) (fun _=>bx0) (fun _=>hx1) (fun _=>hx2) ed ?_,g1.trans g2⟩;have en:zn1 offL [some (Bd w h),some (.ref t),some (prD p),some (.int (k:Int)),some (.ref st.length),some (KD w h),some (.int 0),none,none,none,none,none] s1=some (⟨pairs offs,[(s1.length,offs)]⟩,s'):=by
   rw[zoD];have e1:offL [some (Bd w h),some (.ref t),some (prD p),some (.int (k:Int)),some (.ref st.length),some (KD w h),some (.int 0),none,none,none,none,none] s1=some (.ref s1.length,s'):=by
     rw[<-hs2];rfl
   rw[e1];simp only[Ab,zqs,seqD,zbj,a2,Ay]
 rw[zdM,en];exact el
noncomputable def zix(w h:Nat)(R:List Pt)(p:Pt)(n:Nat):List Nat:=(AN n).filter fun k=>decide (2<=hR w h R k p)
theorem ze3{R:List Pt}{p:Pt}{n:Nat}:zix w h R p (n+1)=if 2<=hR w h R n p then zix w h R p n++[n] else zix w h R p n:=by
 unfold zix;rw[FJ,List.filter_append]
 by_cases h2:2<=hR w h R n p
 . simp[h2]
 . simp[h2]
theorem zmf(z:Sz w h){R:List Pt}{t:Nat}{p:Pt}(hRi:∀ q∈R,inb w h q=true)(ht:st[t]?=some (.dt (R.map (kvF w h)))) :
   ∃ l st',zaj [Bd w h,.ref t,prD p] st=some (.ref l,st')/\st'[l]?=some (.lst ((zix w h R p (w+h)).map fun (k:Nat)=>D.int (k:Int)))/\Gr st st'/\st.length<=l:=by
 have key:=zqB (W:=⟨run 0 (w+h),[]⟩) (g:=gNm 0) (c:=za8) (m:=zbr) (ds:=run 0 (w+h)) (acc:=[]) (ρ:=[none,some (Bd w h),some (.ref t),some (prD p)]) (st:=st)
   (Inv:=fun i acc ρ s=>acc=(zix w h R p i).map (fun (k:Nat)=>D.int (k:Int))/\(∃ x,ρ=[x,some (Bd w h),some (.ref t),some (prD p)])/\Gr st s)
   ⟨rfl,⟨_,rfl⟩,Gr.refl st⟩ (fun _ _ _ _ _ _=>rfl) (fun i d acc ρ s hd hI=>by
     obtain⟨rfl,⟨x,rfl⟩,gs⟩:=hI;obtain⟨hi,rfl⟩:=Hd.znh hd;obtain⟨s1,e1,g1⟩:=zky z (p:=p) hRi ((gs.old _ (getElem?_lt ht)).trans ht) hi;have b0:=bx0 (w:=w) (h:=h) (st:=s1);have x0:=hx0 (w:=w) (h:=h) (st:=s1);refine⟨[some (.int (i:Int)),some (Bd w h),some (.ref t),some (prD p)],s,decide (2<=hR w h R i p),s1,rfl,?_,?_⟩
     . have ec:decide ((2:Int)<=(hR w h R i p:Int))=decide (2<=hR w h R i p):=by
         rw[FB];simp only[decide_eq_true_iff];omega
       generalize ((hR w h R i p:Nat):Int)=V at *;generalize hD 2 (SSk w h) (KK w h)=H0 at *;generalize Bd w h=B at *;generalize prD p=P at *;unfold za8;simp[e1,b0,x0,ec]
     . rw[ze3]
       by_cases h2:2<=hR w h R i p
       . exact .inl ⟨decide_eq_true h2,.int (i:Int),s1,rfl,by rw[if_pos h2,Cc];rfl,⟨_,rfl⟩,gs.trans g1⟩
       . exact .inr ⟨decide_eq_false h2,by rw[if_neg h2],⟨_,rfl⟩,gs.trans g1⟩)
 obtain⟨xs,ρ',s',e,hx,_,gs⟩:=key;rw[List.nil_append,zcZ] at hx;subst hx;have fl:fits ((zix w h R p (w+h)).map fun (k:Nat)=>D.int (k:Int)).length=true:=zaG (by
   rw[Ak];have:=List.length_filter_le (fun k=>decide (2<=hR w h R k p)) (AN (w+h));rw[CI] at this;have:=z.w6;have:=z.h6;unfold zix;omega)
 have er:mR1 (zaw lenD (zae (mBin ixA (mBin ixA (mVar 0) (mCon (.int 0))) (mCon (.int 2))) (mNil))) [some (Bd w h),some (.ref t),some (prD p)] st=some (⟨run 0 (w+h),[]⟩,st):=by
   refine Hd.zpk ?_ (by have:=z.w6;have:=z.h6;omega);have el:lenD [KD w h] st=some (.int ((w+h:Nat):Int),st):=by
     unfold KD;rw[zeZ,Ak,zn6 w z.w6 h z.h6,Ak,zim z.w1 z.h1]
   have b0:=bx0 (w:=w) (h:=h) (st:=st);have x2:=hx2 (w:=w) (h:=h) (st:=st);generalize ((w+h:Nat):Int)=N at *;generalize hD 2 (SSk w h) (KK w h)=H0 at *;generalize KD w h=KV at *;generalize Bd w h=B at *;simp[b0,x2,el]
 have ec:zbL (mR1 (zaw lenD (zae (mBin ixA (mBin ixA (mVar 0) (mCon (.int 0))) (mCon (.int 2))) (mNil)))) 1 [0,1,2] (gNm 0) (za8) (zbr) [some (Bd w h),some (.ref t),some (prD p)] st=some (.ref s'.length,s'++[.lst ((zix w h R p (w+h)).map fun (k:Nat)=>D.int (k:Int))]):=by
   rw[zce,er];simp only[Ab];rw[show rho0 [some (Bd w h),some (.ref t),some (prD p)] 1 [0,1,2]=[none,some (Bd w h),some (.ref t),some (prD p)] from rfl,e];simp only[Ab,fl,if_true]
 refine⟨s'.length,_,zbQ ?_,za4 s' _,gs.trans (Gr.app _ _),gs.len⟩;unfold zcg;show mRet _ [some (Bd w h),some (.ref t),some (prD p)] st=_;rw[zet,ec];rfl
end
end L2.MP.stickytiles_k55_box_beds
namespace L2.MP.stickytiles_k55_box_beds
open PySem L2.MP
open L2.MP.Hb (FrB)
section
variable {w h:Nat} {st:Sto}
noncomputable def okR(w h:Nat)(R:List Pt)(p:Pt):Bool:=inb w h p&&decide (2<=hR w h R (fK w h p) p)
def flr(w h:Nat)(p:Pt):Prop:=(0<=p.1/\p.1 < (w:Int)+2)/\0<=p.2/\p.2 < (h:Int)+2
theorem zoQ{R:List Pt}{k:Nat}{p:Pt}(i:Nat):bR w h R k p i<=bd w h k p i:=by
 unfold bR
 split
 . exact Af _
 . exact Bc _
theorem zrW{R:List Pt}{k:Nat}{p:Pt}:hR w h R k p<=bds w h k p:=by
 have a:=zoQ (w:=w) (h:=h) (R:=R) (k:=k) (p:=p) 0;have b:=zoQ (w:=w) (h:=h) (R:=R) (k:=k) (p:=p) 1;have c:=zoQ (w:=w) (h:=h) (R:=R) (k:=k) (p:=p) 2;have d:=zoQ (w:=w) (h:=h) (R:=R) (k:=k) (p:=p) 3;unfold hR bds;omega
theorem zlG(z:Sz w h){R:List Pt}{k:Nat}{p:Pt}(hf:flr w h p)(hk:k < w+h)(h2:2<=hR w h R k p):inb w h p=true/\fK w h p=k:=by
 obtain⟨⟨f1,f2⟩,f3,f4⟩:=hf;obtain⟨a,b⟩:=p;have:=only w z.w6 z.w1 h z.h6 z.h1 a.toNat (by simp at f1 f2;omega) b.toNat (by simp at f3 f4;omega) k hk;rw[A1 f1,A1 f3] at this;exact this (AF h2 zrW)
theorem zkA(z:Sz w h){R:List Pt}{p:Pt}(hf:flr w h p):∀ n,n<=w+h->zix w h R p n=if okR w h R p=true/\fK w h p < n then [fK w h p] else []
 | 0,_=>by rw[if_neg (fun q=>Cu _ q.2)];rfl
 | n+1,hn=>by
   rw[ze3,zkA z hf n (by omega)]
   by_cases h2:2<=hR w h R n p
   . obtain⟨hi,hk⟩:=zlG z hf (by omega) h2;have ok:okR w h R p=true:=by unfold okR;rw[hi,hk,decide_eq_true h2];rfl
     rw[if_pos h2,if_neg (fun q=>by omega),if_pos ⟨ok,by omega⟩,hk];rfl
   . rw[if_neg h2]
     by_cases ok:okR w h R p=true/\fK w h p < n
     . rw[if_pos ok,if_pos ⟨ok.1,by omega⟩]
     . rw[if_neg ok,if_neg];rintro ⟨q1,q2⟩
       by_cases e:fK w h p=n
       . unfold okR at q1;rw[Av] at q1;have:=of_decide_eq_true q1.2;rw[e] at this;exact h2 this
       . exact ok ⟨q1,by omega⟩
theorem ziy(z:Sz w h){R:List Pt}{p:Pt}(hf:flr w h p):zix w h R p (w+h)=if okR w h R p=true then [fK w h p] else []:=by
 rw[zkA z hf _ (Af _)]
 by_cases ok:okR w h R p=true
 . have hi:inb w h p=true:=by unfold okR at ok;rw[Av] at ok;exact ok.1
   rw[if_pos ⟨ok,zl7 z hi⟩,if_pos ok]
 . rw[if_neg (fun q=>ok q.1),if_neg ok]
theorem zkx{p:Pt}(hi:inb w h p=true):flr w h p:=by
 obtain⟨a,b⟩:=p;simp[inb] at hi;refine⟨⟨?_,?_⟩,?_,?_⟩ <;> (simp;omega)
theorem znR{R Q:List Pt}{p:Pt}(hs:∀ q∈R,q∈Q)(ok:okR w h R p=true):okR w h Q p=true:=by
 have le:∀ i,bR w h R (fK w h p) p i<=bR w h Q (fK w h p) p i:=fun i=>by
   unfold bR
   by_cases hm:nbr p i∈R
   . rw[if_pos hm,if_pos (hs _ hm)];exact Af _
   . rw[if_neg hm];exact Bc _
 unfold okR at ok ⊢;rw[Av] at ok ⊢;refine⟨ok.1,decide_eq_true ?_⟩;have h2:=of_decide_eq_true ok.2;have:=le 0;have:=le 1;have:=le 2;have:=le 3;unfold hR at h2 ⊢;omega
theorem zki{R B:List Pt}{p:Pt}(ok:okR w h (R++B) p=true)(no:¬ okR w h R p=true):∃ i,i < 4/\nbr p i∈B:=by
 apply DI;intro hc;have eq:∀ i,i < 4->bR w h (R++B) (fK w h p) p i=bR w h R (fK w h p) p i:=fun i hi=>by
   unfold bR
   by_cases hm:nbr p i∈R
   . rw[if_pos hm,if_pos (AL _ hm)]
   . rw[if_neg hm,if_neg];intro q
     rcases List.mem_append.mp q with q | q
     . exact hm q
     . exact hc ⟨i,hi,q⟩
 apply no;unfold okR hR at ok ⊢;rw[eq 0 (by decide),eq 1 (by decide),eq 2 (by decide),eq 3 (by decide)] at ok;exact ok
theorem zkn{p q:Pt}{i:Nat}(hi:i < 4)(e:nbr p i=q):p=nbr q ((i+2) % 4):=by
 obtain⟨a,b⟩:=p;obtain⟨c,d⟩:=q
 match i,hi,e with
 | 0,_,e=>simp[nbr,off] at e ⊢;omega
 | 1,_,e=>simp[nbr,off] at e ⊢;omega
 | 2,_,e=>simp[nbr,off] at e ⊢;omega
 | 3,_,e=>simp[nbr,off] at e ⊢;omega
theorem zmA(z:Sz w h){R:List Pt}(one:((1,1):Pt)∈R)(cl:∀ s,s ∉ R->¬ okR w h R s=true):∀ n:Nat,∀ x y:Nat,x+y<=n->inb w h ((x:Int),(y:Int))=true->((x:Int),(y:Int))∈R
 | 0,x,y,hn,hi=>by simp[inb] at hi;omega
 | n+1,x,y,hn,hi=>by
   have hi':=hi;simp[inb] at hi';apply DI;intro hc;refine cl _ hc ?_;unfold okR;rw[hi,DA];apply decide_eq_true;have hw:2<=x->(if y=1 then 2 else 1)<=bR w h R (fK w h ((x:Int),(y:Int))) ((x:Int),(y:Int)) 3:=fun h2=>by
     have:=west w z.w6 z.w1 h z.h6 z.h1 x (by omega) h2 y (by omega) (by omega);have hm:nbr ((x:Int),(y:Int)) 3∈R:=by
       have:=zmA z one cl n (x - 1) y (by omega) (by simp[inb];omega);have e:nbr ((x:Int),(y:Int)) 3=(((x - 1:Nat):Int),(y:Int)):=by simp[nbr,off];omega
       rw[e];exact this
     unfold bR;rw[if_pos hm];exact this
   have hs:2<=y->(if x=1 then 2 else 1)<=bR w h R (fK w h ((x:Int),(y:Int))) ((x:Int),(y:Int)) 2:=fun h2=>by
     have:=zrq w z.w6 z.w1 h z.h6 z.h1 x (by omega) (by omega) y (by omega) h2;have hm:nbr ((x:Int),(y:Int)) 2∈R:=by
       have:=zmA z one cl n x (y - 1) (by omega) (by simp[inb];omega);have e:nbr ((x:Int),(y:Int)) 2=((x:Int),((y - 1:Nat):Int)):=by simp[nbr,off];omega
       rw[e];exact this
     unfold bR;rw[if_pos hm];exact this
   unfold hR
   by_cases h1:y=1
   . by_cases h3:x=1
     . subst h1 h3;exact absurd one hc
     . have:=hw (by omega);rw[if_pos h1] at this;omega
   . have b:=hs (by omega)
     by_cases h3:x=1
     . rw[if_pos h3] at b;omega
     . have a:=hw (by omega);rw[if_neg h1] at a;rw[if_neg h3] at b;omega
theorem zoG(z:Sz w h){R:List Pt}(one:((1,1):Pt)∈R)(cl:∀ s,s ∉ R->¬ okR w h R s=true){p:Pt}(hi:inb w h p=true):p∈R:=by
 obtain⟨a,b⟩:=p;have hi':=hi;simp[inb] at hi';have:=zmA z one cl (a.toNat+b.toNat) a.toNat b.toNat (Af _);rw[A1 (by omega),A1 (by omega)] at this;exact this hi
noncomputable def bx(w h:Nat):List Pt:=(rg w).flatMap fun (x:Nat)=>(rg h).map fun (y:Nat)=>((x:Int),(y:Int))
theorem zlP{p:Pt}:p∈bx w h ↔ inb w h p=true:=by
 obtain⟨a,b⟩:=p;simp only[bx,rg,List.mem_flatMap,List.mem_map,List.mem_range,inb,Av,decide_eq_true_iff,Prod.mk.injEq]
 constructor
 . rintro ⟨x,⟨i,hi,rfl⟩,y,⟨j,hj,rfl⟩,e1,e2⟩;omega
 . rintro ⟨⟨⟨h1,h2⟩,h3⟩,h4⟩;exact⟨a.toNat,⟨a.toNat - 1,by omega,by omega⟩,b.toNat,⟨b.toNat - 1,by omega,by omega⟩,by omega,by omega⟩
theorem zjT:∀ w:Nat,w < 7->∀ h:Nat,h < 7->(bx w h).length<=36/\(bx w h).Nodup:=by decide +kernel
theorem len_sub{α:Type}[DecidableEq α]:∀ {a b:List α},a.Nodup->(∀ x∈a,x∈b)->a.length<=b.length
 | [],_,_,_=>Bc _
 | x::a,b,h,hs=>by
   rw[Cr] at h;have hx:=hs x Am;have ih:=len_sub (a:=a) (b:=b.erase x) h.2 fun y hy=>by
     have hne:y≠x:=fun e=>h.1 (e ▸ hy);exact (List.mem_erase_of_ne hne).mpr (hs y (Ag _ hy))
   rw[List.length_erase_of_mem hx] at ih;have:=List.length_pos_of_mem hx;rw[AE];omega
theorem few(z:Sz w h){R:List Pt}(nd:R.Nodup)(hi:∀ p∈R,inb w h p=true):R.length<=36 :=
 AF (len_sub nd fun p hp=>zlP.mpr (hi p hp)) (zjT w z.w6 h z.h6).1
end
section
variable {w h:Nat} {st:Sto}
theorem zhm(m:Nat)(st:Sto):∀ xs:List Nat,toPs (toP (m+1) st) (xs.map fun (k:Nat)=>D.int (k:Int))=some (xs.map fun (k:Nat)=>EC (k:Int))
 | []=>rfl
 | x::xs=>by
   have e:toP (m+1) st (.int (x:Int))=some (.int (x:Int)):=rfl;rw[Ao,toPs,e,Ab,zhm m st xs];rfl
theorem zkk{l g:Nat}{xs:List Nat}(hl:st[l]?=some (.lst (xs.map fun (k:Nat)=>D.int (k:Int))))(hg:st[g]?=some (.lst [])):neD (.ref l) (.ref g) st=some (.bl (!xs.isEmpty),st):=by
 have e1:toP 100 st (.ref l)=some (.list (xs.map fun (k:Nat)=>EC (k:Int))):=by
   rw[toP];simp only[zbj,hl,Ab,zhm 98 st xs];rfl
 have e2:toP 100 st (.ref g)=some (.list []):=by
   rw[toP];simp only[zbj,hg,Ab];rfl
 unfold neD;rw[e1,e2]
 cases xs with
 | nil=>rfl
 | cons a r=>rfl
theorem zew{R:List Pt}{q:Pt}:(valD (R.map (kvF w h)) [.inl q.1,.inl q.2]).isSome=decide (q∈R):=by
 rw[zmO]
 by_cases hq:q∈R
 . rw[if_pos hq,decide_eq_true hq];rfl
 . rw[if_neg hq,decide_eq_false hq];rfl
theorem zjY{κ:Type}[DecidableEq κ](k:κ):∀ kvs:List (κ×D),(valD kvs k).isSome=kvs.any fun kv=>decide (kv.1=k)
 | []=>rfl
 | a::kvs=>by
   have ih:=zjY k kvs;unfold valD at ih ⊢;rw[AZ,BE]
   cases h:decide (a.1=k) with
   | true=>rfl
   | false=>rw[FV,<-ih]
theorem zh7{R:List Pt}{q:Pt}{t:Nat}(ht:st[t]?=some (.dt (R.map (kvF w h)))):zbC (prD q) (.ref t) st=some (.bl (!decide (q∈R)),st):=by
 have e0:toP 50 st (.ref t)=none:=by rw[toP];simp[zbj,ht]
 have e1:inD true (prD q) (.ref t) st=none:=by
   unfold inD;rw[e0]
   cases toP 50 st (prD q) <;> rfl
 have e2:=zew (w:=w) (h:=h) (R:=R) (q:=q);have e3:dinD true (prD q) (.ref t) st=some (.bl (!decide (q∈R)),st):=by
   unfold dinD;dsimp only;rw[zn2 ht,Ay];rw[zmO] at e2;simp only[if_true,e2]
 unfold zbC orG zlK orG;rw[e1,zfx,e3,zeM]
theorem zqS{R:List Pt}{q:Pt}{t:Nat}(ht:st[t]?=some (.dt (R.map (kvF w h))))(hn:q ∉ R)(hl:R.length<=1000):dput st t (prD q) (.int (fK w h q:Int))=some (st.set t (.dt ((R++[q]).map (kvF w h)))):=by
 have hz:(R.map (kvF w h)).length < sizeLine:=by rw[Ak];exact BL hl (by decide)
 have ha:=zew (w:=w) (h:=h) (R:=R) (q:=q);rw[decide_eq_false hn,zjY] at ha;unfold dput prD;simp only[ht];simp only[keysOf,keyOf,Ab,Ay,decide_eq_true hz,if_true,putD,ha,Bi,if_false,Cc,Ao,Bq];rfl
structure DF(w h t a:Nat)(R A:List Pt)(st:Sto):Prop where
 nd:R.Nodup
 inn:∀ p∈R,inb w h p=true
 one:((1,1):Pt)∈R
 sub:∀ p∈A,p∈R
 ht:st[t]?=some (.dt (R.map (kvF w h)))
 ha:st[a]?=some (.lst (A.map prD))
theorem DF.gr{t a:Nat}{R A:List Pt}{st':Sto}(d:DF w h t a R A st)(g:Gr st st'):DF w h t a R A st':=⟨d.nd,d.inn,d.one,d.sub,(g.old _ (getElem?_lt d.ht)).trans d.ht,(g.old _ (getElem?_lt d.ha)).trans d.ha⟩
noncomputable def flT:MT:=zc9 (mTst (zbD leD ltD (mCon (.int 0)) (mBin ixA (mVar 5) (mCon (.int 0))) (mBin ixA (mBin ixA (mVar 0) (mCon (.int 1))) (mCon (.int 0))))) (mTst (zbD leD ltD (mCon (.int 0)) (mBin ixA (mVar 5) (mCon (.int 1))) (mBin ixA (mBin ixA (mVar 0) (mCon (.int 1))) (mCon (.int 1)))))
theorem zr1{B T A:D}{W H x y:Int}{x3 x4 n6 n7 n8 n9:Option D}(b1:∀ s:Sto,ixA B (.int 1) s=some (.tup [.int W,.int H],s)) :
   flT [some B,some T,some A,x3,x4,some (.tup [.int x,.int y]),n6,n7,n8,n9] st=some (decide (0<=x)&&decide (x < W)&&(decide (0<=y)&&decide (y < H)),st):=by
 have j0:∀ s:Sto,ixA (.tup [.int W,.int H]) (.int 0) s=some (.int W,s):=fun s=>zaY (by decide) rfl;have j1:∀ s:Sto,ixA (.tup [.int W,.int H]) (.int 1) s=some (.int H,s):=fun s=>zaY (by decide) rfl;have x0:∀ s:Sto,ixA (.tup [.int x,.int y]) (.int 0) s=some (.int x,s):=fun s=>zaY (by decide) rfl;have x1:∀ s:Sto,ixA (.tup [.int x,.int y]) (.int 1) s=some (.int y,s):=fun s=>zaY (by decide) rfl;have l1:∀ (a b:Int) (s:Sto),leD (.int a) (.int b) s=some (.bl (decide (a<=b)),s):=fun _ _ _=>rfl;have l2:∀ (a b:Int) (s:Sto),ltD (.int a) (.int b) s=some (.bl (decide (a < b)),s):=fun _ _ _=>rfl;have c1:mTst (zbD leD ltD (mCon (.int 0)) (mBin ixA (mVar 5) (mCon (.int 0))) (mBin ixA (mBin ixA (mVar 0) (mCon (.int 1))) (mCon (.int 0)))) [some B,some T,some A,x3,x4,some (.tup [.int x,.int y]),n6,n7,n8,n9] st=some (decide (0<=x)&&decide (x < W),st):=by
   by_cases h:0<=x
   . simp[zbD,x0,b1,j0,h]
   . simp[zbD,x0,b1,j0,h]
 have c2:mTst (zbD leD ltD (mCon (.int 0)) (mBin ixA (mVar 5) (mCon (.int 1))) (mBin ixA (mBin ixA (mVar 0) (mCon (.int 1))) (mCon (.int 1)))) [some B,some T,some A,x3,x4,some (.tup [.int x,.int y]),n6,n7,n8,n9] st=some (decide (0<=y)&&decide (y < H),st):=by
   by_cases h:0<=y
   . simp[zbD,x1,b1,j1,h]
   . simp[zbD,x1,b1,j1,h]
 unfold flT;rw[ziS,c1]
 cases hb:decide (0<=x)&&decide (x < W) with
 | true=>simp only[Ab,if_true,c2,DA]
 | false=>simp
section
variable {B S:D} {t a:Nat} {x3 x4 n6 n7 n8 n9:Option D} {b1 b2:Bool}
theorem zj0(e1:zbC S (.ref t) st=some (.bl b1,st))(e2:flT [some B,some (.ref t),some (.ref a),x3,x4,some S,n6,n7,n8,n9] st=some (b2,st))(hb:(b1&&b2)=false) :
   zao [some B,some (.ref t),some (.ref a),x3,x4,some S,n6,n7,n8,n9] st=some (.nx [some B,some (.ref t),some (.ref a),x3,x4,some S,n6,n7,n8,n9],st):=by
 unfold zao;show mIf (zc9 (mTst (mBin zbC (mVar 5) (mVar 1))) flT) _ _ _ _=_;generalize flT=F at *
 cases b1 with
 | true=>cases b2 with
   | true=>cases hb
   | false=>simp[e1,e2]
 | false=>simp[e1]
theorem zi3{l:Nat}{s1 s2:Sto}(e1:zbC S (.ref t) st=some (.bl true,st))(e2:flT [some B,some (.ref t),some (.ref a),x3,x4,some S,n6,n7,n8,n9] st=some (true,st))(e3:zaj [B,.ref t,S] st=some (.ref l,s1))(hs2:s1++[.lst []]=s2)(en:neD (.ref l) (.ref s1.length) s2=some (.bl false,s2)) :
   zao [some B,some (.ref t),some (.ref a),x3,x4,some S,n6,n7,n8,n9] st=some (.nx [some B,some (.ref t),some (.ref a),x3,x4,some S,n6,n7,n8,n9],s2):=by
 unfold zao;show mIf (zc9 (mTst (mBin zbC (mVar 5) (mVar 1))) flT) _ _ _ _=_;generalize flT=F at *;simp[e1,e2,e3,hs2,en]
theorem zkZ{l l2:Nat}{v:Int}{L:List D}{s1 s2 s3 s4 s5:Sto}(e1:zbC S (.ref t) st=some (.bl true,st))(e2:flT [some B,some (.ref t),some (.ref a),x3,x4,some S,n6,n7,n8,n9] st=some (true,st))(e3:zaj [B,.ref t,S] st=some (.ref l,s1))(hs2:s1++[.lst []]=s2)(en:neD (.ref l) (.ref s1.length) s2=some (.bl true,s2))
   (e4:zaj [B,.ref t,S] s2=some (.ref l2,s3)) (ei:ixA (.ref l2) (.int 0) s3=some (.int v,s3)) (es:setD (.ref t) S (.int v) s3=none) (ed:dput s3 t S (.int v)=some s4) (ha:s4[a]?=some (.lst L)) (ap:zbR (.ref a) [S] s4=some (.non,s5)) :
   zao [some B,some (.ref t),some (.ref a),x3,x4,some S,n6,n7,n8,n9] st=some (.nx [some B,some (.ref t),some (.ref a),x3,x4,some S,n6,n7,n8,n9],s5):=by
 unfold zao;have et:zc9 (mTst (mBin zbC (mVar 5) (mVar 1))) flT [some B,some (.ref t),some (.ref a),x3,x4,some S,n6,n7,n8,n9] st=some (true,st):=by
   generalize flT=F at *;simp[e1,e2]
 show mIf (zc9 (mTst (mBin zbC (mVar 5) (mVar 1))) flT) _ _ _ _=_;rw[zha,et];have et2:mTst (mBin neD (zaw zaj (zae (mVar 0) (zae (mVar 1) (zae (mVar 5) (mNil))))) (mLst (mNil))) [some B,some (.ref t),some (.ref a),x3,x4,some S,n6,n7,n8,n9] st=some (true,s2):=by
   simp[e3,hs2,en]
 show mIf _ _ _ [some B,some (.ref t),some (.ref a),x3,x4,some S,n6,n7,n8,n9] st=_;rw[zha,et2];have ev:mBin ixA (zaw zaj (zae (mVar 0) (zae (mVar 1) (zae (mVar 5) (mNil))))) (mCon (.int 0)) [some B,some (.ref t),some (.ref a),x3,x4,some S,n6,n7,n8,n9] s2=some (.int v,s3):=by simp[e4,ei]
 show mSeq _ _ [some B,some (.ref t),some (.ref a),x3,x4,some S,n6,n7,n8,n9] s2=_;refine zaB (ρ1:=[some B,some (.ref t),some (.ref a),x3,x4,some S,n6,n7,n8,n9]) (s1:=s4) (by
   rw[ziR];simp only[zcn,zoz,ev,zbc,Aj,As,Ab,es,Dc,zfx];unfold zlS;simp only[ev,zbc,Aj,As,Ab,ed,Ay]) ?_
 simp[zbj,ha,ap]
end
theorem zm0(z:Sz w h){t a:Nat}{R A:List Pt}(d:DF w h t a R A st)(hta:t≠a)(hA:A.length<=1000)(s:Pt){x3 x4 n6 n7 n8 n9:Option D} :
   ∃ C st',zao [some (Bd w h),some (.ref t),some (.ref a),x3,x4,some (prD s),n6,n7,n8,n9] st=some (.nx [some (Bd w h),some (.ref t),some (.ref a),x3,x4,some (prD s),n6,n7,n8,n9],st')/\DF w h t a (R++C) (A++C) st'/\C.length<=1/\(s ∉ R->okR w h R s=true->s∈C)/\FrB t a st st':=by
 have stay:∀ st',Gr st st'->zao [some (Bd w h),some (.ref t),some (.ref a),x3,x4,some (prD s),n6,n7,n8,n9] st=some (.nx [some (Bd w h),some (.ref t),some (.ref a),x3,x4,some (prD s),n6,n7,n8,n9],st')->(s ∉ R->¬ okR w h R s=true) ->
     ∃ C st',zao [some (Bd w h),some (.ref t),some (.ref a),x3,x4,some (prD s),n6,n7,n8,n9] st=some (.nx [some (Bd w h),some (.ref t),some (.ref a),x3,x4,some (prD s),n6,n7,n8,n9],st')/\DF w h t a (R++C) (A++C) st'/\C.length<=1/\(s ∉ R->okR w h R s=true->s∈C)/\FrB t a st st':=fun st' g e q =>
   ⟨[],st',e,by rw[Ai,Ai];exact d.gr g,by simp,fun h1 h2=>absurd h2 (q h1),FrB.of g⟩
 have e1:=zh7 (q:=s) d.ht;have e2:=zr1 (st:=st) (B:=Bd w h) (T:=.ref t) (A:=.ref a) (x:=s.1) (y:=s.2) (x3:=x3) (x4:=x4) (n6:=n6) (n7:=n7) (n8:=n8) (n9:=n9) (fun _=>bx1 (w:=w) (h:=h))
 by_cases h1:s∈R
 . rw[decide_eq_true h1] at e1;exact stay st (Gr.refl st) (zj0 (S:=prD s) e1 e2 rfl) fun q=>absurd h1 q
 rw[decide_eq_false h1] at e1
 by_cases hf:flr w h s
 . have hb:(decide (0<=s.1)&&decide (s.1 < (w:Int)+2)&&(decide (0<=s.2)&&decide (s.2 < (h:Int)+2)))=true:=by
     obtain⟨⟨f1,f2⟩,f3,f4⟩:=hf;rw[decide_eq_true f1,decide_eq_true f2,decide_eq_true f3,decide_eq_true f4];rfl
   rw[hb] at e2;obtain⟨l,s1,e3,hl,g1,_⟩:=zmf z (p:=s) d.inn d.ht;rw[ziy z hf] at hl;have g2:=Gr.app s1 [.lst []];have a2:=za4 s1 (.lst []);have l2:=(g2.old _ (getElem?_lt hl)).trans hl;generalize hs2:s1++[O.lst []]=s2 at g2 a2 l2;have en:=zkk l2 a2
   by_cases ok:okR w h R s=true
   . rw[if_pos ok] at en;have t2:=((g1.trans g2).old _ (getElem?_lt d.ht)).trans d.ht;have A2:=((g1.trans g2).old _ (getElem?_lt d.ha)).trans d.ha;obtain⟨l3,s3,e4,hl3,g3,_⟩:=zmf z (p:=s) d.inn t2;rw[ziy z hf,if_pos ok] at hl3;have ei:ixA (.ref l3) (.int 0) s3=some (.int (fK w h s:Int),s3):=zl3 hl3 (by decide) rfl;have t3:=(g3.old _ (getElem?_lt t2)).trans t2;have A3:=(g3.old _ (getElem?_lt A2)).trans A2;have es:setD (.ref t) (prD s) (.int (fK w h s:Int)) s3=none:=by unfold setD prD;simp[t3]
     have hRl:=few z d.nd d.inn;have ed:=zqS t3 h1 (by omega);have A4:(s3.set t (.dt ((R++[s]).map (kvF w h))))[a]?=some (.lst (A.map prD)):=by rw[AH hta];exact A3
     have t4:(s3.set t (.dt ((R++[s]).map (kvF w h))))[t]?=some (.dt ((R++[s]).map (kvF w h))):=by rw[AY (getElem?_lt t3)]
     have f4:=FrB.setN t a s3 (.dt ((R++[s]).map (kvF w h)));generalize s3.set t (.dt ((R++[s]).map (kvF w h)))=s4 at ed A4 t4 f4;have ap:=append_at (x:=prD s) A4 (by rw[Ak];omega);have f5:=FrB.setQ t a s4 (.lst (A.map prD++[prD s]));have A5:(s4.set a (.lst (A.map prD++[prD s])))[a]?=some (.lst ((A++[s]).map prD)):=by rw[AY (getElem?_lt A4),Cc];rfl
     have t5:(s4.set a (.lst (A.map prD++[prD s])))[t]?=some (.dt ((R++[s]).map (kvF w h))):=by rw[AH (Bx hta)];exact t4
     have hin:inb w h s=true:=by unfold okR at ok;rw[Av] at ok;exact ok.1
     refine⟨[s],_,zkZ e1 e2 e3 hs2 en e4 ei es ed A4 ap,⟨?_,fun p hp=>?_,AL _ d.one,fun p hp=>?_,t5,A5⟩,by simp,fun _ _=>by simp,(FrB.of ((g1.trans g2).trans g3)).trans (f4.trans f5)⟩
     . rw[CH];refine⟨d.nd,by simp,fun x hx y hy=>?_⟩;rw[List.mem_singleton.mp hy];rintro rfl;exact h1 hx
     . rcases List.mem_append.mp hp with hp | hp
       . exact d.inn p hp
       . rw[List.mem_singleton.mp hp];exact hin
     . rcases List.mem_append.mp hp with hp | hp
       . exact AL _ (d.sub p hp)
       . exact AI _ hp
   . rw[if_neg ok] at en;exact stay s2 (g1.trans g2) (zi3 e1 e2 e3 hs2 en) fun _=>ok
 . refine stay st (Gr.refl st) (zj0 (S:=prD s) e1 e2 ?_) fun _ ok=>hf (zkx (by unfold okR at ok;rw[Av] at ok;exact ok.1));rw[Bool.and_eq_false_iff]
   right
   rw[Bool.eq_false_iff];intro q;simp only[Av,decide_eq_true_iff] at q;exact hf q
end
section
variable {w h:Nat} {st:Sto}
noncomputable def prP(p:Pt):PyData:=.tuple [.int p.1,.int p.2]
theorem zfT(m:Nat)(st:Sto):∀ ps:List Pt,toPs (toP (m+2) st) (ps.map prD)=some (ps.map prP)
 | []=>rfl
 | p::ps=>by
   have e:toP (m+2) st (prD p)=some (prP p):=rfl;rw[Ao,toPs,e,Ab,zfT m st ps];rfl
theorem zpU{l g:Nat}{xs:List Pt}(hl:st[l]?=some (.lst (xs.map prD)))(hg:st[g]?=some (.lst [])):neD (.ref l) (.ref g) st=some (.bl (!xs.isEmpty),st):=by
 have e1:toP 100 st (.ref l)=some (.list (xs.map prP)):=by
   rw[toP];simp only[zbj,hl,Ab,zfT 97 st xs];rfl
 have e2:toP 100 st (.ref g)=some (.list []):=by
   rw[toP];simp only[zbj,hg,Ab];rfl
 unfold neD;rw[e1,e2]
 cases xs with
 | nil=>rfl
 | cons a r=>rfl
noncomputable def nbL:ME:=mLst (zae (mTup (zae (mVar 3) (zae (mBin addD (mVar 4) (mCon (.int 1))) (mNil)))) (zae (mTup (zae (mBin addD (mVar 3) (mCon (.int 1))) (zae (mVar 4) (mNil)))) (zae (mTup (zae (mVar 3) (zae (mBin subD (mVar 4) (mCon (.int 1))) (mNil)))) (zae (mTup (zae (mBin subD (mVar 3) (mCon (.int 1))) (zae (mVar 4) (mNil)))) (mNil)))))
noncomputable def nb4(p:Pt):List Pt:=[(p.1,p.2+1),(p.1+1,p.2),(p.1,p.2 - 1),(p.1 - 1,p.2)]
theorem znX{p:Pt}:∀ i,i < 4->(nb4 p)[i]?=some (nbr p i)
 | 0,_=>by simp[nb4,nbr,off]
 | 1,_=>by simp[nb4,nbr,off]
 | 2,_=>by simp[nb4,nbr,off];omega
 | 3,_=>by simp[nb4,nbr,off];omega
theorem zp0{B T A:D}{x y:Int}{x5 n6 n7 n8 n9:Option D}:nbL [some B,some T,some A,some (.int x),some (.int y),x5,n6,n7,n8,n9] st=some (.ref st.length,st++[.lst ((nb4 (x,y)).map prD)]):=by
 unfold nbL;have f2:fits 2=true:=by decide
 have f4:fits 4=true:=by decide
 have sb:∀ (a b:Int) (s:Sto),subD (.int a) (.int b) s=some (.int (a - b),s):=fun _ _ _=>rfl;simp[f2,f4,sb,nb4,prD]
theorem zlL(z:Sz w h){t a:Nat}{R A:List Pt}{p:Pt}(d:DF w h t a R A st)(hta:t≠a)(hA:A.length<=500){x5 n6 n7 n8 n9:Option D} :
   ∃ C y5 st',mFor (mWA nbL) (gNm 5) (zao) [some (Bd w h),some (.ref t),some (.ref a),some (.int p.1),some (.int p.2),x5,n6,n7,n8,n9] st=some (.nx [some (Bd w h),some (.ref t),some (.ref a),some (.int p.1),some (.int p.2),y5,n6,n7,n8,n9],st')/\DF w h t a (R++C) (A++C) st'/\C.length<=4/\(∀ s∈nb4 p,s ∉ R++C->¬ okR w h R s=true)/\FrB t a st st':=by
 have g1:=Gr.app st [.lst ((nb4 p).map prD)];have a1:=za4 st (.lst ((nb4 p).map prD));have lt:=getElem?_lt d.ht;have la:=getElem?_lt d.ha;have eL:=zp0 (st:=st) (B:=Bd w h) (T:=.ref t) (A:=.ref a) (x:=p.1) (y:=p.2) (x5:=x5) (n6:=n6) (n7:=n7) (n8:=n8) (n9:=n9);have eL:nbL [some (Bd w h),some (.ref t),some (.ref a),some (.int p.1),some (.int p.2),x5,n6,n7,n8,n9] st=some (.ref st.length,st++[.lst ((nb4 p).map prD)]):=eL;generalize st++[O.lst ((nb4 p).map prD)]=s1 at *;have key:=zcc (W:=⟨(nb4 p).map prD,[(st.length,(nb4 p).map prD)]⟩) (g:=gNm 5) (m:=zao) (ds:=(nb4 p).map prD) (ρ:=[some (Bd w h),some (.ref t),some (.ref a),some (.int p.1),some (.int p.2),x5,n6,n7,n8,n9]) (st:=s1)
   (Inv:=fun i ρ s=>(∃ y5,ρ=[some (Bd w h),some (.ref t),some (.ref a),some (.int p.1),some (.int p.2),y5,n6,n7,n8,n9])/\FrB t a s1 s/\∃ C,DF w h t a (R++C) (A++C) s/\C.length<=i/\∀ j s',j < i->(nb4 p)[j]?=some s'->s' ∉ R++C->¬ okR w h R s'=true)
   ⟨⟨_,rfl⟩,FrB.refl t a s1,[],by rw[Ai,Ai];exact d.gr g1,by simp,by intro j s' hj;omega⟩ (fun k _ s _ hI=>za5 ((hI.2.1.old _ (getElem?_lt a1) (by omega) (by omega)).trans a1)) (fun i dd ρ s hd hI=>by
     obtain⟨⟨y5,rfl⟩,fr,C,dC,hC,hall⟩:=hI;rw[AD] at hd;obtain⟨s',hs',rfl⟩:=zaf hd;have hi:i < 4:=getElem?_lt hs';obtain⟨C2,st2,e2,d2,l2,ok2,fr2⟩:=zm0 z dC hta (by rw[AJ];omega) s' (x3:=some (.int p.1)) (x4:=some (.int p.2)) (n6:=n6) (n7:=n7) (n8:=n8) (n9:=n9);refine⟨_,s,_,st2,rfl,e2,⟨_,rfl⟩,fr.trans fr2,C++C2,by rw[<-An,<-An];exact d2,by rw[AJ];omega,fun j u hj hu hn ok=>?_⟩;rw[<-An] at hn
     by_cases hji:j=i
     . subst hji;rw[hs'] at hu;cases hu;refine hn (AI _ (ok2 (fun q=>hn (AL _ q)) (znR (fun q hq=>AL _ hq) ok)))
     . exact hall j u (by omega) hu (fun q=>hn (AL _ q)) ok)
 obtain⟨ρ',s',el,⟨y5,rfl⟩,fr,C,dC,hC,hall⟩:=key;refine⟨C,y5,s',?_,dC,hC,fun u hu=>?_,(FrB.of g1).trans fr⟩
 . have ew:mWA nbL [some (Bd w h),some (.ref t),some (.ref a),some (.int p.1),some (.int p.2),x5,n6,n7,n8,n9] st=some (⟨(nb4 p).map prD,[(st.length,(nb4 p).map prD)]⟩,s1):=by
     unfold mWA;rw[eL];simp[zjX,zbj,a1]
   rw[zdM,ew];exact el
 . obtain⟨j,hj,e⟩:=Dg hu;exact hall j u (by simpa using hj) (by rw[Ah hj,e])
theorem zoA{m:ME}{ρ:Rho}{st:Sto}:zp9 m ρ st=(m ρ st).bind fun p=>match p.1 with
 | .ref n=>(zbj p.2 n).bind fun _=>zls p.1 [] p.2
 | _=>none:=rfl
theorem zlr{A:List Pt}{p:Pt}{n:Nat}{s:Sto}(h:s[n]?=some (.lst ((A++[p]).map prD))):zls (.ref n) [] s=some (prD p,s.set n (.lst (A.map prD))):=by
 unfold zls;simp[h]
theorem zoT{B T:D}{a:Nat}{b:Bool}{x3 x4 x5 n6 n7 n8 n9:Option D}{s1:Sto}(hs:st++[.lst []]=s1)(en:neD (.ref a) (.ref st.length) s1=some (.bl b,s1)):zaP [some B,some T,some (.ref a),x3,x4,x5,n6,n7,n8,n9] st=some (b,s1):=by
 unfold zaP;simp[hs,en]
theorem zot{B T:D}{a:Nat}{x y:Int}{L:List D}{x3 x4 x5 y5 n6 n7 n8 n9:Option D}{s1 s2:Sto}(ha:st[a]?=some (.lst L))(pl:zls (.ref a) [] st=some (.tup [.int x,.int y],s1))(ef:mFor (mWA nbL) (gNm 5) (zao) [some B,some T,some (.ref a),some (.int x),some (.int y),x5,n6,n7,n8,n9] s1=some (.nx [some B,some T,some (.ref a),some (.int x),some (.int y),y5,n6,n7,n8,n9],s2)) :
   za1 [some B,some T,some (.ref a),x3,x4,x5,n6,n7,n8,n9] st=some (.nx [some B,some T,some (.ref a),some (.int x),some (.int y),y5,n6,n7,n8,n9],s2):=by
 unfold za1;refine zaB (ρ1:=[some B,some T,some (.ref a),some (.int x),some (.int y),x5,n6,n7,n8,n9]) (s1:=s1) ?_ ef;rw[zcn,zoA];simp only[zbc,Aj,As,Ab,zbj,ha,pl];rfl
theorem dfs(z:Sz w h){t a:Nat}(hta:t≠a){n6 n7 n8 n9:Option D}:∀ (k:Nat) (R A:List Pt) (st:Sto) (x3 x4 x5:Option D),DF w h t a R A st->(∀ s,s ∉ R->okR w h R s=true->∃ q∈A,s∈nb4 q)->2*(36 - R.length)+A.length < k->k<=200 ->
   ∃ R' y3 y4 y5 st',mWhF zaP za1 k [some (Bd w h),some (.ref t),some (.ref a),x3,x4,x5,n6,n7,n8,n9] st=some (.nx [some (Bd w h),some (.ref t),some (.ref a),y3,y4,y5,n6,n7,n8,n9],st')/\DF w h t a R' [] st'/\(∀ s,s ∉ R'->¬ okR w h R' s=true)/\FrB t a st st'
 | 0,R,A,st,x3,x4,x5,_,_,hk,_=>absurd hk (Cu _)
 | k+1,R,A,st,x3,x4,x5,d,hc,hk,hk2=>by
   have g1:=Gr.app st [.lst []];have a1:=za4 st (.lst []);generalize hs1:st++[O.lst []]=s1 at g1 a1;have d1:=d.gr g1;have en:=zpU d1.ha a1;have et:=zoT (B:=Bd w h) (T:=.ref t) (x3:=x3) (x4:=x4) (x5:=x5) (n6:=n6) (n7:=n7) (n8:=n8) (n9:=n9) hs1 en
   rcases List.eq_nil_or_concat A with rfl | ⟨A0,p,rfl⟩
   . refine⟨R,x3,x4,x5,s1,?_,d1,fun s hs ok=>?_,FrB.of g1⟩
     . rw[mWhF];simp[et]
     . obtain⟨q,hq,_⟩:=hc s hs ok;exact absurd hq (by simp)
   . rw[List.concat_eq_append] at d hc hk d1 et;have et:zaP [some (Bd w h),some (.ref t),some (.ref a),x3,x4,x5,n6,n7,n8,n9] st=some (true,s1):=by rw[et];simp
     have pl:=zlr d1.ha;have d2:DF w h t a R A0 (s1.set a (.lst (A0.map prD))):=⟨d.nd,d.inn,d.one,fun x hx=>d.sub x (AL _ hx),by rw[AH (Bx hta)];exact d1.ht,by rw[AY (getElem?_lt d1.ha)]⟩
     have f2:=FrB.setQ t a s1 (.lst (A0.map prD));rw[AJ,By] at hk;have hRl:=few z d.nd d.inn;obtain⟨C,y5,s2,e2,dC,hC,hall,f3⟩:=zlL z (p:=p) d2 hta (by omega) (x5:=x5) (n6:=n6) (n7:=n7) (n8:=n8) (n9:=n9);have hRC:=few z dC.nd dC.inn;rw[AJ] at hRC;obtain⟨R',z3,z4,z5,s3,e3,h3,c3,f4⟩:=dfs z hta (n6:=n6) (n7:=n7) (n8:=n8) (n9:=n9) k (R++C) (A0++C) s2 (some (.int p.1)) (some (.int p.2)) y5 dC (fun s hs ok=>by
       by_cases ok0:okR w h R s=true
       . obtain⟨q,hq,hqs⟩:=hc s (fun m=>hs (AL _ m)) ok0
         rcases List.mem_append.mp hq with hq | hq
         . exact⟨q,AL _ hq,hqs⟩
         . rw[List.mem_singleton.mp hq] at hqs;exact absurd ok0 (hall s hqs hs)
       . obtain⟨i,hi,hm⟩:=zki ok ok0;refine⟨_,AI _ hm,?_⟩;have e:=zkn (p:=s) (q:=nbr s i) hi rfl;have:=znX (p:=nbr s i) ((i+2) % 4) (by omega);rw[<-e] at this;exact Bo this) (by rw[AJ,AJ];omega) (by omega)
     refine⟨R',z3,z4,z5,s3,?_,h3,c3,((FrB.of g1).trans f2).trans (f3.trans f4)⟩;have el:=zot (B:=Bd w h) (T:=.ref t) (x3:=x3) (x4:=x4) (x:=p.1) (y:=p.2) d1.ha pl e2;rw[mWhF];simp[et,el,e3]
end
end L2.MP.stickytiles_k55_box_beds
namespace L2.MP.stickytiles_k55_box_beds
open PySem L2.MP
section
variable {w h:Nat} {st:Sto}
theorem zii:∃ d st',zaE [.tup [.tup [.int 1,.int 1,.int 0]]] st=some (.ref d,st')/\st'[d]?=some (.dt ([((1,1):Pt)].map (kvF w h)))/\Gr st st'/\st.length<=d:=by
 have g1:=Gr.app st [.lst [.tup [.tup [.int 1,.int 1],.int 0]]];have a1:=za4 st (.lst [.tup [.tup [.int 1,.int 1],.int 0]]);have ec:zbL (mWA (mVar 0)) 3 [] (gTp 3 (gC (gNm 0) (gC (gNm 1) (gC (gNm 2) (gN0))))) (zbT) (zbN) [some (.tup [.tup [.int 1,.int 1,.int 0]])] st=some (.ref st.length,st++[.lst [.tup [.tup [.int 1,.int 1],.int 0]]]):=by
   have e0:mCI ⟨[.tup [.int 1,.int 1,.int 0]],[]⟩ (gTp 3 (gC (gNm 0) (gC (gNm 1) (gC (gNm 2) (gN0))))) (zbT) (zbN) [.tup [.int 1,.int 1,.int 0]] [none,none,none] st=some ([.tup [.tup [.int 1,.int 1],.int 0]],st):=rfl;have ew:mWA (mVar 0) [some (.tup [.tup [.int 1,.int 1,.int 0]])] st=some (⟨[.tup [.int 1,.int 1,.int 0]],[]⟩,st):=rfl;have f1:fits 1=true:=by decide
   rw[zce,ew];simp only[Ab];rw[show rho0 [some (D.tup [.tup [.int 1,.int 1,.int 0]])] 3 []=[none,none,none] from rfl,e0];simp only[Ab,By,f1,if_true]
 generalize st++[O.lst [.tup [.tup [.int 1,.int 1],.int 0]]]=s1 at *;have ed:zon [.ref st.length] s1=some (.ref s1.length,s1++[.dt ([((1,1):Pt)].map (kvF w h))]):=by
   have f1:fits 1=true:=by decide
   have ep:zgO [.tup [.tup [.int 1,.int 1],.int 0]]=some [([.inl 1,.inl 1],.int 0)]:=rfl;unfold zon;simp only[zbj,a1,Ab,ep,By,f1,if_true];rfl
 refine⟨s1.length,_,zbQ ?_,za4 s1 _,g1.trans (Gr.app s1 _),g1.len⟩;unfold zdB;show mRet _ [some (D.tup [.tup [.int 1,.int 1,.int 0]])] st=_;rw[zet];simp only[zcf,zbY,zdz,ec,Ab,ed,Ay]
theorem zqV{o p:Pt}:neD (prD o) (prD p) st=some (.bl (!decide (o=p)),st):=by
 have e1:toP 100 st (prD o)=some (prP o):=rfl;have e2:toP 100 st (prD p)=some (prP p):=rfl;have ev:A9 (prP o) (prP p)=decide (o=p):=by
   obtain⟨a,b⟩:=o;obtain⟨c,d⟩:=p;unfold prP
   by_cases h1:a=c
   . by_cases h2:b=d
     . simp[A9,Bw,h1,h2]
     . simp[A9,Bw,h1,h2]
   . simp[A9,Bw,h1]
 unfold neD;rw[e1,e2,Ab,Ay,ev]
theorem zqi{R:List Pt}{o:Pt}{t:Nat}(ht:st[t]?=some (.ft (R.map (kvF w h))))(ho:o∈R):ixB (.ref t) (prD o) st=some (.int (fK w h o:Int),st):=by
 have e1:ixA (.ref t) (prD o) st=none:=by
   unfold ixA orG idxD zqz look prD;simp[ht]
 have e2:zlU st t (prD o)=some (some (.int (fK w h o:Int))):=by
   have:=zmO (w:=w) (h:=h) o R;rw[if_pos ho] at this;unfold zlU prD;simp only[ht,keysOf,keyOf,Ab,Ay];rw[<-this]
 unfold ixB orG;rw[e1,zfx];unfold zqy;dsimp only;rw[e2];rfl
section
variable {B T A P O2:D} {l:Nat} {y3 y4 y5 m8:Option D} {v fk:Int} {s1 s2:Sto}
theorem znF(e1:neD O2 P st=some (.bl false,st)):zan [some B,some T,some A,y3,y4,y5,some P,some (.ref l),m8,some O2] st=some (.nx [some B,some T,some A,y3,y4,y5,some P,some (.ref l),m8,some O2],st):=by
 unfold zan;simp[e1]
theorem znE(e1:neD O2 P st=some (.bl true,st))(e2:zbC O2 (.ref l) st=some (.bl false,st)):zan [some B,some T,some A,y3,y4,y5,some P,some (.ref l),m8,some O2] st=some (.nx [some B,some T,some A,y3,y4,y5,some P,some (.ref l),m8,some O2],st):=by
 unfold zan;simp[e1,e2]
theorem znB{b0 H0:D}{E:Int}(e1:neD O2 P st=some (.bl true,st))(e2:zbC O2 (.ref l) st=some (.bl true,st))(e3:ixB T O2 st=some (.int fk,st))(e4:zaH [B,.ref l,O2,.int fk] st=some (.int v,s1))(b0:∀ s:Sto,ixA B (.int 0) s=some (H0,s))(h0:∀ s:Sto,ixA H0 (.int 0) s=some (.int E,s)) :
   zc9 (mTst (mBin neD (mVar 9) (mVar 6))) (zc9 (mTst (mBin zbC (mVar 9) (mVar 7))) (mTst (mBin geD (zaw zaH (zae (mVar 0) (zae (mVar 7) (zae (mVar 9) (zae (mBin ixB (mVar 1) (mVar 9)) (mNil)))))) (mBin ixA (mBin ixA (mVar 0) (mCon (.int 0))) (mCon (.int 0)))))) [some B,some T,some A,y3,y4,y5,some P,some (.ref l),m8,some O2] st=some (decide (E<=v),s1):=by
 simp[e1,e2,e3,e4,b0,h0]
theorem znD{q:Bool}(et:zc9 (mTst (mBin neD (mVar 9) (mVar 6))) (zc9 (mTst (mBin zbC (mVar 9) (mVar 7))) (mTst (mBin geD (zaw zaH (zae (mVar 0) (zae (mVar 7) (zae (mVar 9) (zae (mBin ixB (mVar 1) (mVar 9)) (mNil)))))) (mBin ixA (mBin ixA (mVar 0) (mCon (.int 0))) (mCon (.int 0)))))) [some B,some T,some A,y3,y4,y5,some P,some (.ref l),m8,some O2] st=some (false,s1)) :
   zan [some B,some T,some A,y3,y4,y5,some P,some (.ref l),m8,some O2] st=some (.nx [some B,some T,some A,y3,y4,y5,some P,some (.ref l),m8,some O2],s1):=by
 unfold zan;rw[zha,et];rfl
theorem znC(et:zc9 (mTst (mBin neD (mVar 9) (mVar 6))) (zc9 (mTst (mBin zbC (mVar 9) (mVar 7))) (mTst (mBin geD (zaw zaH (zae (mVar 0) (zae (mVar 7) (zae (mVar 9) (zae (mBin ixB (mVar 1) (mVar 9)) (mNil)))))) (mBin ixA (mBin ixA (mVar 0) (mCon (.int 0))) (mCon (.int 0)))))) [some B,some T,some A,y3,y4,y5,some P,some (.ref l),m8,some O2] st=some (true,s1))
   (e3:ixB T O2 s1=some (.int fk,s1)) (es:setD (.ref l) O2 (.int fk) s1=none) (ed:dput s1 l O2 (.int fk)=some s2) :
   zan [some B,some T,some A,y3,y4,y5,some P,some (.ref l),m8,some O2] st=some (.nx [some B,some T,some A,y3,y4,y5,some P,some (.ref l),m8,some O2],s2):=by
 unfold zan;rw[zha,et];show putA _ _ _ [some B,some T,some A,y3,y4,y5,some P,some (.ref l),m8,some O2] s1=_;rw[ziR];simp only[zcn,zoz,zcB,zbc,Aj,As,Ab,e3,es,Dc,zfx];unfold zlS;simp only[zcB,zbc,Aj,As,Ab,e3,ed,Ay]
end
structure LF(w h l:Nat)(s0:Sto)(R Q:List Pt)(s:Sto):Prop where
 nd:Q.Nodup
 sub:∀ q∈Q,q∈R
 hl:s[l]?=some (.dt (Q.map (kvF w h)))
 fr:Gr s0 s
theorem zpJ(z:Sz w h){t l:Nat}{s0:Sto}{R Q:List Pt}{p o:Pt}{A:D}{y3 y4 y5 m8:Option D}(f:LF w h l s0 R Q st)(ht:s0[t]?=some (.ft (R.map (kvF w h))))(hl0:s0.length<=l)(hR:∀ q∈R,inb w h q=true)(ho:o∈R) :
   ∃ C st',zan [some (Bd w h),some (.ref t),some A,y3,y4,y5,some (prD p),some (.ref l),m8,some (prD o)] st=some (.nx [some (Bd w h),some (.ref t),some A,y3,y4,y5,some (prD p),some (.ref l),m8,some (prD o)],st')/\LF w h l s0 R (Q++C) st':=by
 have hQi:∀ q∈Q,inb w h q=true:=fun q hq=>hR q (f.sub q hq);have tt:=(f.fr.old _ (getElem?_lt ht)).trans ht;have e1:=zqV (st:=st) (o:=o) (p:=p)
 by_cases h1:o=p
 . rw[decide_eq_true h1] at e1;exact⟨[],st,znF e1,by rw[Ai];exact f⟩
 rw[decide_eq_false h1] at e1;have e2:=zh7 (q:=o) f.hl
 by_cases h2:o∈Q
 . rw[decide_eq_true h2] at e2;exact⟨[],st,znE e1 e2,by rw[Ai];exact f⟩
 rw[decide_eq_false h2] at e2;have e3:=zqi tt ho;obtain⟨s1,e4,g1⟩:=zky z (p:=o) hQi f.hl (zl7 z (hR o ho));have et:=znB (A:=A) (y3:=y3) (y4:=y4) (y5:=y5) (m8:=m8) (b0:=.non) e1 e2 e3 e4 (fun _=>bx0) (fun _=>hx0);have l1:=(g1.old _ (getElem?_lt f.hl)).trans f.hl
 by_cases h3:(2:Int)<=(L2.MP.stickytiles_k55_box_beds.hR w h Q (fK w h o) o:Int)
 . rw[decide_eq_true h3] at et;have t1:=(g1.old _ (getElem?_lt tt)).trans tt;have es:setD (.ref l) (prD o) (.int (fK w h o:Int)) s1=none:=by unfold setD prD;simp[l1]
   have ed:=zqS l1 h2 (by have:=few z f.nd hQi;omega);refine⟨[o],_,znC et (zqi t1 ho) es ed,?_,fun q hq=>?_,by rw[AY (getElem?_lt l1)],ziw (f.fr.trans g1) hl0⟩
   . rw[CH];refine⟨f.nd,by simp,fun x hx y hy=>?_⟩;rw[List.mem_singleton.mp hy];rintro rfl;exact h2 hx
   . rcases List.mem_append.mp hq with hq | hq
     . exact f.sub q hq
     . rw[List.mem_singleton.mp hq];exact ho
 . rw[decide_eq_false h3] at et;exact⟨[],s1,znD (q:=true) et,by rw[Ai];exact⟨f.nd,f.sub,l1,f.fr.trans g1⟩⟩
theorem zjC(R:List Pt):zdK (R.map (kvF w h))=R.map prD:=by
 unfold zdK;rw[BC];rfl
theorem znA(z:Sz w h){t l:Nat}{s0:Sto}{R Q:List Pt}{p:Pt}{A:D}{y3 y4 y5 m8 m9:Option D}(f:LF w h l s0 R Q st)(ht:s0[t]?=some (.ft (R.map (kvF w h))))(hl0:s0.length<=l)(hR:∀ q∈R,inb w h q=true) :
   ∃ C n9 st',mFor (mWKB (mVar 1)) (gNm 9) (zan) [some (Bd w h),some (.ref t),some A,y3,y4,y5,some (prD p),some (.ref l),m8,m9] st=some (.nx [some (Bd w h),some (.ref t),some A,y3,y4,y5,some (prD p),some (.ref l),m8,n9],st')/\LF w h l s0 R (Q++C) st':=by
 have tt:=(f.fr.old _ (getElem?_lt ht)).trans ht;have ew:mWKB (mVar 1) [some (Bd w h),some (.ref t),some A,y3,y4,y5,some (prD p),some (.ref l),m8,m9] st=some (⟨R.map prD,[]⟩,st):=by
   rw[zox];simp only[zbc,As,Aj,Ab];simp only[zmD,zhe,tt,zfx,zjC]
 have key:=zcc (W:=⟨R.map prD,[]⟩) (g:=gNm 9) (m:=zan) (ds:=R.map prD) (ρ:=[some (Bd w h),some (.ref t),some A,y3,y4,y5,some (prD p),some (.ref l),m8,m9]) (st:=st)
   (Inv:=fun i ρ s=>(∃ n9,ρ=[some (Bd w h),some (.ref t),some A,y3,y4,y5,some (prD p),some (.ref l),m8,n9])/\∃ C,LF w h l s0 R (Q++C) s)
   ⟨⟨_,rfl⟩,[],by rw[Ai];exact f⟩ (fun _ _ _ _ _=>rfl) (fun i d ρ s hd hI=>by
     obtain⟨⟨n9,rfl⟩,C,fC⟩:=hI;rw[AD] at hd;obtain⟨o,ho,rfl⟩:=zaf hd;obtain⟨C2,s2,e2,f2⟩:=zpJ z (p:=p) (A:=A) (y3:=y3) (y4:=y4) (y5:=y5) (m8:=m8) fC ht hl0 hR (Bo ho);exact⟨_,s,_,s2,rfl,e2,⟨_,rfl⟩,C++C2,by rw[<-An];exact f2⟩)
 obtain⟨ρ',s',el,⟨n9,rfl⟩,C,fC⟩:=key;refine⟨C,n9,s',?_,fC⟩;rw[zdM,ew];exact el
theorem zrQ{Q:List Pt}{l:Nat}(hl:st[l]?=some (.dt (Q.map (kvF w h))))(hq:Q.length<=1000):lenF [.ref l] st=some (.int (Q.length:Int),st):=by
 have e1:lenD [.ref l] st=none:=by simp[lenD,zbj,hl]
 have f1:fits Q.length=true:=zaG (by omega);unfold lenF orN;rw[e1,zfx];unfold zoM;simp only[hl,Ak,f1,if_true]
section
variable {B T A P:D} {l:Nat} {y3 y4 y5 m8 m9 n9:Option D} {M N:Int} {s1:Sto}
theorem zrb(e:lenF [.ref l] st=some (.int N,st)):zaZ [some B,some T,some A,y3,y4,y5,some P,some (.ref l),some (.int M),m9] st=some (decide (M < N),st):=by
 unfold zaZ;simp[e]
theorem zrc(e:lenF [.ref l] st=some (.int N,st))(ef:mFor (mWKB (mVar 1)) (gNm 9) (zan) [some B,some T,some A,y3,y4,y5,some P,some (.ref l),some (.int N),m9] st=some (.nx [some B,some T,some A,y3,y4,y5,some P,some (.ref l),some (.int N),n9],s1)) :
   za0 [some B,some T,some A,y3,y4,y5,some P,some (.ref l),some (.int M),m9] st=some (.nx [some B,some T,some A,y3,y4,y5,some P,some (.ref l),some (.int N),n9],s1):=by
 unfold za0;exact zaB (ρ1:=[some B,some T,some A,y3,y4,y5,some P,some (.ref l),some (.int N),m9]) (s1:=st) (by simp[e]) ef
end
theorem zkz(z:Sz w h){t l:Nat}{s0:Sto}{R:List Pt}{p:Pt}{A:D}{y3 y4 y5:Option D}(ht:s0[t]?=some (.ft (R.map (kvF w h))))(hl0:s0.length<=l)(hR:∀ q∈R,inb w h q=true):∀ (k:Nat) (Q:List Pt) (m:Nat) (m9:Option D) (st:Sto),LF w h l s0 R Q st->m<=Q.length->37 - m < k ->
   ∃ Q' m8 n9 st',mWhF zaZ za0 k [some (Bd w h),some (.ref t),some A,y3,y4,y5,some (prD p),some (.ref l),some (.int (m:Int)),m9] st=some (.nx [some (Bd w h),some (.ref t),some A,y3,y4,y5,some (prD p),some (.ref l),m8,n9],st')/\LF w h l s0 R Q' st'
 | 0,Q,m,m9,st,_,_,hk=>absurd hk (Cu _)
 | k+1,Q,m,m9,st,f,hm,hk=>by
   have hq:=few z f.nd fun q hq=>hR q (f.sub q hq);have el:=zrQ f.hl (by omega);have et:=zrb (B:=Bd w h) (T:=.ref t) (A:=A) (P:=prD p) (y3:=y3) (y4:=y4) (y5:=y5) (m9:=m9) (M:=(m:Int)) el
   by_cases hlt:m < Q.length
   . have hd:decide ((m:Int) < (Q.length:Int))=true:=decide_eq_true (by omega);rw[hd] at et;obtain⟨C,n9,s1,e1,f1⟩:=znA z (p:=p) (A:=A) (y3:=y3) (y4:=y4) (y5:=y5) (m8:=some (.int (Q.length:Int))) (m9:=m9) f ht hl0 hR;have eb:=zrc (M:=(m:Int)) el e1;obtain⟨Q',m8,r9,s2,e2,f2⟩:=zkz z (p:=p) (A:=A) (y3:=y3) (y4:=y4) (y5:=y5) ht hl0 hR k (Q++C) Q.length n9 s1 f1 (by rw[AJ];omega) (by omega);refine⟨Q',m8,r9,s2,?_,f2⟩;rw[mWhF];simp[et,eb,e2]
   . have hd:decide ((m:Int) < (Q.length:Int))=false:=decide_eq_false (by omega);rw[hd] at et;refine⟨Q,some (.int (m:Int)),m9,st,?_,f⟩;rw[mWhF];simp[et]
end
end L2.MP.stickytiles_k55_box_beds
namespace L2.MP.stickytiles_k55_box_beds
open PySem L2.MP
open L2.MP.Hb (FrB)
section
variable {w h:Nat} {st:Sto}
section
variable {B T A P L0:D} {l l1 l2:Nat} {y3 y4 y5 m7 m8 n8 m9 n9:Option D} {s1 s2 s3 s4 s5:Sto}
theorem znr(b2:∀ s:Sto,ixA B (.int 2) s=some (L0,s))(e1:zaE [L0] st=some (.ref l1,s1))(e2:zbC P (.ref l1) s1=some (.bl false,s1)):zaD [some B,some T,some A,y3,y4,y5,some P,m7,m8,m9] st=some (.nx [some B,some T,some A,y3,y4,y5,some P,m7,m8,m9],s1):=by
 unfold zaD;have et:mTst (mBin zbC (mVar 6) (zaw zaE (zae (mBin ixA (mVar 0) (mCon (.int 2))) (mNil)))) [some B,some T,some A,y3,y4,y5,some P,m7,m8,m9] st=some (false,s1):=by simp[b2,e1,e2]
 rw[zha,et];rfl
theorem zrA(b2:∀ s:Sto,ixA B (.int 2) s=some (L0,s))(e1:zaE [L0] st=some (.ref l1,s1))(e2:zbC P (.ref l1) s1=some (.bl true,s1))(e3:zaE [L0] s1=some (.ref l,s2))
   (ew:mWhF (zaZ) (za0) 100 [some B,some T,some A,y3,y4,y5,some P,some (.ref l),some (.int 0),m9] s2=some (.nx [some B,some T,some A,y3,y4,y5,some P,some (.ref l),n8,n9],s3))
   (ec:zbL (mWA (zaw zaj (zae (mVar 0) (zae (mVar 7) (zae (mVar 6) (mNil)))))) 1 [1,6] (gNm 0) (zat) (zaJ) [some B,some T,some A,y3,y4,y5,some P,some (.ref l),n8,n9] s3=some (.ref l2,s4)) (hs5:s4++[.lst []]=s5) (en:neD (.ref l2) (.ref s4.length) s5=some (.bl false,s5)) :
   zaD [some B,some T,some A,y3,y4,y5,some P,m7,m8,m9] st=some (.nx [some B,some T,some A,y3,y4,y5,some P,some (.ref l),n8,n9],s5):=by
 unfold zaD;have et:mTst (mBin zbC (mVar 6) (zaw zaE (zae (mBin ixA (mVar 0) (mCon (.int 2))) (mNil)))) [some B,some T,some A,y3,y4,y5,some P,m7,m8,m9] st=some (true,s1):=by simp[b2,e1,e2]
 rw[zha,et];show mSeq _ _ [some B,some T,some A,y3,y4,y5,some P,m7,m8,m9] s1=_;refine zaB (ρ1:=[some B,some T,some A,y3,y4,y5,some P,some (.ref l),m8,m9]) (s1:=s2) (by simp[b2,e3]) ?_;refine zaB (ρ1:=[some B,some T,some A,y3,y4,y5,some P,some (.ref l),some (.int 0),m9]) (s1:=s2) (by simp) ?_;refine zaB ew ?_;have et2:mTst (mBin neD (zbL (mWA (zaw zaj (zae (mVar 0) (zae (mVar 7) (zae (mVar 6) (mNil)))))) 1 [1,6] (gNm 0) (zat) (zaJ)) (mLst (mNil))) [some B,some T,some A,y3,y4,y5,some P,some (.ref l),n8,n9] s3=some (false,s5):=by
   generalize zbL (mWA (zaw zaj (zae (mVar 0) (zae (mVar 7) (zae (mVar 6) (mNil)))))) 1 [1,6] (gNm 0) (zat) (zaJ)=M at *;simp[ec,hs5,en]
 rw[zha,et2];rfl
end
theorem zqW{V:Int}:neD (.int V) (.int V) st=some (.bl false,st):=by
 show some (D.bl !PyData.eqv (.int V) (.int V),st)=_;simp[A9]
theorem zq2{W:Wk}{T P:D}{s:Sto}(wk:walked W s=true):∀ (xs:List D) (x0:Option D),(∀ x∈xs,zat [some x,some T,some P] s=some (false,s))->mCI W (gNm 0) zat zaJ xs [x0,some T,some P] s=some ([],s)
 | [],x0,_=>by
   unfold mCI;rw[if_pos wk]
 | x::xs,x0,hx=>by
   have e:=hx x Am;have ih:=zq2 wk xs (some x) fun y hy=>hx y (Ag _ hy);unfold mCI;rw[if_pos wk];simp only[zsf,List.set_cons_zero,Ab,e,Bi,if_false];exact ih
theorem zlA{B T A P:D}{l k:Nat}{xs:List D}{y3 y4 y5 n8 n9:Option D}{s1:Sto}(e1:zaj [B,.ref l,P] st=some (.ref k,s1))(hk:s1[k]?=some (.lst xs))(hx:∀ x∈xs,zat [some x,some T,some P] s1=some (false,s1)) :
   zbL (mWA (zaw zaj (zae (mVar 0) (zae (mVar 7) (zae (mVar 6) (mNil)))))) 1 [1,6] (gNm 0) (zat) (zaJ) [some B,some T,some A,y3,y4,y5,some P,some (.ref l),n8,n9] st=some (.ref s1.length,s1++[.lst []]):=by
 have ew:mWA (zaw zaj (zae (mVar 0) (zae (mVar 7) (zae (mVar 6) (mNil))))) [some B,some T,some A,y3,y4,y5,some P,some (.ref l),n8,n9] st=some (⟨xs,[(k,xs)]⟩,s1):=by
   unfold mWA;simp only[zcf,zbY,zdz,zbc,Aj,As,Ab,e1];simp[zjX,zbj,hk]
 have f0:fits 0=true:=by decide
 rw[zce,ew];simp only[Ab];rw[show rho0 [some B,some T,some A,y3,y4,y5,some P,some (.ref l),n8,n9] 1 [1,6]=[none,some T,some P] from rfl,zq2 (za5 hk) xs none hx];simp only[Ab,Bg,f0,if_true]
theorem zrm{T P:D}{V:Int}(ix:ixB T P st=some (.int V,st)):zat [some (.int V),some T,some P] st=some (false,st):=by
 have ne:=zqW (V:=V) (st:=st);unfold zat;simp[ix,ne]
theorem zjn(z:Sz w h){t l:Nat}{R Q:List Pt}{p:Pt}{A:D}{y3 y4 y5 n8 n9:Option D}(ht:st[t]?=some (.ft (R.map (kvF w h))))(hl:st[l]?=some (.dt (Q.map (kvF w h))))(hQ:∀ q∈Q,inb w h q=true)(hp:p∈R)(hi:inb w h p=true) :
   ∃ st',zbL (mWA (zaw zaj (zae (mVar 0) (zae (mVar 7) (zae (mVar 6) (mNil)))))) 1 [1,6] (gNm 0) (zat) (zaJ) [some (Bd w h),some (.ref t),some A,y3,y4,y5,some (prD p),some (.ref l),n8,n9] st=some (.ref st'.length,st'++[.lst []])/\Gr st st':=by
 obtain⟨k,s1,e1,hk,g1,_⟩:=zmf z (p:=p) hQ hl;rw[ziy z (zkx hi)] at hk;have ix:=zqi ((g1.old _ (getElem?_lt ht)).trans ht) hp;refine⟨s1,zlA e1 hk fun x hx=>?_,g1⟩
 by_cases ok:okR w h Q p=true
 . rw[if_pos ok] at hx;obtain⟨n,hn,rfl⟩:=List.mem_map.mp hx;rw[List.mem_singleton.mp hn];exact zrm ix
 . rw[if_neg ok] at hx;exact absurd hx (by simp)
theorem zps(z:Sz w h){t:Nat}{R:List Pt}{p:Pt}{A:D}{y3 y4 y5 m7 m8 m9:Option D}(ht:st[t]?=some (.ft (R.map (kvF w h))))(hR:∀ q∈R,inb w h q=true)(one:((1,1):Pt)∈R)(hp:p∈R) :
   ∃ n7 n8 n9 st',zaD [some (Bd w h),some (.ref t),some A,y3,y4,y5,some (prD p),m7,m8,m9] st=some (.nx [some (Bd w h),some (.ref t),some A,y3,y4,y5,some (prD p),n7,n8,n9],st')/\Gr st st':=by
 obtain⟨l1,s1,e1,h1,g1,_⟩:=zii (w:=w) (h:=h) (st:=st);have e2:=zh7 (q:=p) h1
 by_cases hm:p∈[((1,1):Pt)]
 . rw[decide_eq_true hm] at e2;exact⟨m7,m8,m9,s1,znr (fun _=>bx2) e1 e2,g1⟩
 . rw[decide_eq_false hm] at e2;obtain⟨l,s2,e3,h3,g3,hl3⟩:=zii (w:=w) (h:=h) (st:=s1);have t1:=(g1.old _ (getElem?_lt ht)).trans ht;obtain⟨Q,n8,n9,s3,ew,f3⟩:=zkz z (p:=p) (A:=A) (y3:=y3) (y4:=y4) (y5:=y5) (s0:=s1) t1 hl3 hR 100 [(1,1)] 0 m9 s2 ⟨by simp,fun q hq=>by rw[List.mem_singleton.mp hq];exact one,h3,g3⟩ (by simp) (by omega);have t3:=(f3.fr.old _ (getElem?_lt t1)).trans t1;obtain⟨s4,ec,g4⟩:=zjn z (A:=A) (y3:=y3) (y4:=y4) (y5:=y5) (n8:=n8) (n9:=n9) t3 f3.hl (fun q hq=>hR q (f3.sub q hq)) hp (hR p hp);have a5:=za4 s4 (.lst ([]:List D));have g5:=Gr.app s4 [.lst ([]:List D)];generalize s4++[O.lst []]=s5 at *;have a6:=za4 s5 (.lst ([]:List D));have g6:=Gr.app s5 [.lst ([]:List D)];have a5':=(g6.old _ (getElem?_lt a5)).trans a5;generalize hs6:s5++[O.lst []]=s6 at *;have en:=zkk (xs:=[]) a5' a6;exact⟨_,_,_,s6,zrA (fun _=>bx2) e1 e2 e3 ew ec hs6 en,(((g1.trans f3.fr).trans g4).trans g5).trans g6⟩
theorem zgD{t:Nat}{p:Pt}(ht:st[t]?=some (.dt ([p].map (kvF w h)))):zbK [.ref t] st=some (.ref st.length,st++[.lst ([p].map prD)]):=by
 have e:zcj [.ref t] st=some (.ref st.length,st++[.lst ([p].map prD)]):=by
   have f1:fits 1=true:=by decide
   have ek:zdK ([p].map (kvF w h))=[p].map prD:=zjC [p];unfold zcj;simp only[ht,ek];simp[f1]
 unfold zbK orN;rw[e,zeM]
theorem zqt{B L0:D}{t a:Nat}{y3 y4 y5 z6 z7 z8 z9:Option D}{s1 s2 s3 s4:Sto}(b2:∀ s:Sto,ixA B (.int 2) s=some (L0,s))(e1:zaE [L0] st=some (.ref t,s1))(e2:zbK [.ref t] s1=some (.ref a,s2))
   (e3:mWhF (zaP) (za1) 100 [some B,some (.ref t),some (.ref a),none,none,none,none,none,none,none] s2=some (.nx [some B,some (.ref t),some (.ref a),y3,y4,y5,none,none,none,none],s3))
   (e4:mFor (mWKB (mVar 1)) (gNm 6) (zaD) [some B,some (.ref t),some (.ref a),y3,y4,y5,none,none,none,none] s3=some (.nx [some B,some (.ref t),some (.ref a),y3,y4,y5,z6,z7,z8,z9],s4)) :
   za3 [B] st=some (.ref t,s4):=by
 refine zbQ ?_;unfold zcJ;refine zaB (ρ1:=[some B,some (.ref t),none,none,none,none,none,none,none,none]) (s1:=s1) (by simp[b2,e1]) ?_;refine zaB (ρ1:=[some B,some (.ref t),some (.ref a),none,none,none,none,none,none,none]) (s1:=s2) (by simp[e2]) ?_;refine zaB e3 (zaB e4 ?_);simp
theorem zqu(z:Sz w h):∃ (t:Nat) (st':Sto) (R:List Pt),za3 [Bd w h] st=some (.ref t,st')/\st'[t]?=some (.ft (R.map (kvF w h)))/\R.Perm (bx w h)/\Gr st st':=by
 obtain⟨t,s1,e1,h1,g1,ht0⟩:=zii (w:=w) (h:=h) (st:=st);have e2:=zgD h1;have g2:=Gr.app s1 [.lst ([((1,1):Pt)].map prD)];have a2:=za4 s1 (.lst ([((1,1):Pt)].map prD));have lt:=getElem?_lt h1;have ha0:st.length<=s1.length:=g1.len;have t2:=(g2.old _ lt).trans h1;generalize s1++[O.lst ([((1,1):Pt)].map prD)]=s2 at *;have hin:inb w h (1,1)=true:=by have:=z.w1;have:=z.h1;simp[inb];omega
 have hta:t≠s1.length:=by omega
 obtain⟨R,y3,y4,y5,s3,e3,d3,c3,f3⟩:=dfs z hta (n6:=none) (n7:=none) (n8:=none) (n9:=none) 100 [(1,1)] [(1,1)] s2 none none none ⟨by simp,fun p hp=>by rw[List.mem_singleton.mp hp];exact hin,by simp,fun p hp=>hp,t2,a2⟩ (fun s hs ok=>by
   have no:¬ okR w h [] s=true:=by
     unfold okR hR bR;simp
   have:=zki (R:=[]) (B:=[(1,1)]) (by simpa using ok) no;obtain⟨i,hi,hm⟩:=this;refine⟨nbr s i,hm,?_⟩;have e:=zkn (p:=s) (q:=nbr s i) hi rfl;have:=znX (p:=nbr s i) ((i+2) % 4) (by omega);rw[<-e] at this;exact Bo this) (by simp) (by omega)
 have g3:Gr st s3:=⟨AF (AF g1.len g2.len) f3.len,fun k hk=>by
   have:=(g1.trans g2)
   rw[f3.old k (AB hk this.len) (by omega) (by omega)];exact this.old k hk⟩
 have hperm:R.Perm (bx w h):=(List.perm_ext_iff_of_nodup d3.nd (zjT w z.w6 h z.h6).2).mpr fun p=>⟨fun hp=>zlP.mpr (d3.inn p hp),fun hp=>zoG z d3.one c3 (zlP.mp hp)⟩
 have t4:(s3.set t (.ft (R.map (kvF w h))))[t]?=some (.ft (R.map (kvF w h))):=by rw[AY (getElem?_lt d3.ht)]
 have g4:=ziw (o:=.ft (R.map (kvF w h))) g3 ht0;have ew:mWKB (mVar 1) [some (Bd w h),some (.ref t),some (.ref s1.length),y3,y4,y5,none,none,none,none] s3=some (⟨R.map prD,[]⟩,s3.set t (.ft (R.map (kvF w h)))):=by
   have:=d3.ht;rw[zox];simp only[zbc,As,Aj,Ab];simp only[zmD,this,zeM,zjC]
 generalize s3.set t (.ft (R.map (kvF w h)))=s4 at *;have key:=zcc (W:=⟨R.map prD,[]⟩) (g:=gNm 6) (m:=zaD) (ds:=R.map prD) (ρ:=[some (Bd w h),some (.ref t),some (.ref s1.length),y3,y4,y5,none,none,none,none]) (st:=s4)
   (Inv:=fun i ρ s=>(∃ z6 z7 z8 z9,ρ=[some (Bd w h),some (.ref t),some (.ref s1.length),y3,y4,y5,z6,z7,z8,z9])/\Gr s4 s)
   ⟨⟨_,_,_,_,rfl⟩,Gr.refl s4⟩ (fun _ _ _ _ _=>rfl) (fun i d ρ s hd hI=>by
     obtain⟨⟨z6,z7,z8,z9,rfl⟩,gs⟩:=hI;rw[AD] at hd;obtain⟨p,hp,rfl⟩:=zaf hd;obtain⟨n7,n8,n9,s',e,g'⟩:=zps z (A:=.ref s1.length) (y3:=y3) (y4:=y4) (y5:=y5) (m7:=z7) (m8:=z8) (m9:=z9) ((gs.old _ (getElem?_lt t4)).trans t4) d3.inn d3.one (Bo hp);exact⟨_,s,_,s',rfl,e,⟨_,_,_,_,rfl⟩,gs.trans g'⟩)
 obtain⟨ρ',s5,el,⟨z6,z7,z8,z9,rfl⟩,g5⟩:=key;refine⟨t,s5,R,zqt (z6:=z6) (z7:=z7) (z8:=z8) (z9:=z9) (fun _=>bx2) e1 e2 e3 ?_,(g5.old _ (getElem?_lt t4)).trans t4,hperm,g4.trans g5⟩;rw[zdM,ew];exact el
end
end L2.MP.stickytiles_k55_box_beds
set_option synthInstance.maxHeartbeats 2000000
set_option synthInstance.maxSize 4000
namespace L2.MP.stickytiles_k55_box_beds
open PySem L2.MP
section
variable {w h:Nat} {st:Sto}
theorem zmY:∀ w:Nat,w < 7->∀ h:Nat,h < 7->∀ p∈SSk w h,((∀ c∈p.1.cps.toList,97<=c/\c<=122)/\p.1.length<=100)/\BZ p.1=true:=by decide +kernel
theorem zrX:∀ w:Nat,w < 7->∀ h:Nat,h < 7->hB 2 (SSk w h) (KK w h)=true:=by decide +kernel
theorem zrR(z:Sz w h):∀ k∈KK w h,KiOk ((SSk w h).map (·.1)) k:=by
 intro k hk;rw[zn6 w z.w6 h z.h6] at hk;obtain⟨l,hl,rfl⟩:=List.mem_map.mp hk;obtain⟨h5,h0,hc⟩:=zob w z.w6 h z.h6 z.w1 z.h1 l hl;obtain⟨a,b,c,d,e,rfl⟩:∃ a b c d e,l=[a,b,c,d,e]:=len5 (P:=fun l=>∃ a b c d e,l=[a,b,c,d,e]) (fun a b c d e=>⟨a,b,c,d,e,rfl⟩) l h5;refine⟨tx a,tx b,tx c,tx d,tx e,rfl,?_,fun x hx=>?_⟩
 . have:a=0:=h0;subst this;exact .inl rfl
 . have go:∀ v∈[a,b,c,d,e],SdOk ((SSk w h).map (·.1)) (tx v)/\BZ (tx v)=true:=fun v hv=>by
     obtain⟨q1,q2⟩:=hc v hv;refine⟨?_,zmE v q1⟩
     by_cases h0:v=0
     . subst h0;exact .inl rfl
     . exact .inr (q2 h0)
   simp only[Ba,AS,or_false] at hx
   rcases hx with rfl | rfl | rfl | rfl
   . exact go b (by simp)
   . exact go c (by simp)
   . exact go d (by simp)
   . exact go e (by simp)
theorem zlY(z:Sz w h):(KK w h).length=w+h:=by rw[zn6 w z.w6 h z.h6,Ak,zim z.w1 z.h1]
theorem zl4(z:Sz w h):∃ st',zcW [Bd w h] st=some (.bl true,st')/\Gr st st':=by
 have:=z.w1;have:=z.w6;have:=z.h1;have:=z.h6;have hk:=zlY z;obtain⟨st',e,g⟩:=zqJ (e:=2) (S:=SSk w h) (K:=KK w h) (w:=(w:Int)+2) (h:=(h:Int)+2) (T:=[(1,1,0)]) (st:=st) (fun p hp=>(zmY w z.w6 h z.h6 p hp).1) (by simp[SSk,rg];omega) (zrR z) (by omega) (by simp) (zrX w z.w6 h z.h6);refine⟨st',?_,g⟩;rw[show Bd w h=bD (hD 2 (SSk w h) (KK w h)) ((w:Int)+2) ((h:Int)+2) [(1,1,0)] from rfl,e];have w1:wh ((w:Int)+2) 1 12=true:=by unfold wh;rw[decide_eq_true (by omega),decide_eq_true (by omega)];rfl
 have w2:wh ((h:Int)+2) 1 12=true:=by unfold wh;rw[decide_eq_true (by omega),decide_eq_true (by omega)];rfl
 have t1:tlB ((w:Int)+2) ((h:Int)+2) (KK w h).length (1,1,0)=true:=by
   unfold tlB plB wh;simp only[Av,decide_eq_true_iff];omega
 have r1:zj6 ltP [((1,1,0):Tl)]=true:=rfl;rw[w1,w2,Dy,t1,DP,r1];rfl
noncomputable def row(p:Pt):List Int:=[p.1,p.2]
theorem zqD:∀ w:Nat,w < 7->∀ h:Nat,h < 7->((bx w h).map row).Pairwise fun a b=>tle a b=true:=by decide +kernel
theorem zj5:∀ R:List Pt,rowsOf (R.map prD)=some (R.map row)
 | []=>rfl
 | p::R=>by
   have e:rowOf (prD p)=some (row p):=rfl;rw[Ao,rowsOf,e,Ab,zj5 R];rfl
theorem zph(R:List Pt):(R.map row).map tupD=R.map prD:=by rw[BC];rfl
theorem zk1(z:Sz w h){R:List Pt}{t:Nat}(ht:st[t]?=some (.ft (R.map (kvF w h))))(hp:R.Perm (bx w h)):zbK [.ref t] st=some (.ref st.length,st++[.lst ((bx w h).map prD)]):=by
 have hl:R.length<=36:=by rw[hp.length_eq];exact (zjT w z.w6 h z.h6).1
 have e1:zcj [.ref t] st=none:=by unfold zcj;simp only[ht]
 have f1:fits R.length=true:=zaG (by omega);have ek:=zjC (w:=w) (h:=h) R;have e2:zdj [.ref t] st=some (.ref st.length,st++[.lst ((bx w h).map prD)]):=by
   unfold zdj;simp only[ht,ek,Ak,f1,if_true]
   by_cases h2:R.length < 2
   . rw[if_pos (decide_eq_true h2)];have:R=bx w h:=by
       match R,h2,hp with
       | [],_,hp=>exact hp.nil_eq
       | [a],_,hp=>exact hp.singleton_eq
     rw[this]
   . rw[if_neg (by simp;omega),zj5,Ab];have a1:decide (2<=(R.map row).length)=true:=by rw[Ak];exact decide_eq_true (by omega)
     have a2:decide ((R.map row).length < 64)=true:=by rw[Ak];exact decide_eq_true (by omega)
     rw[a1,a2,zk3 (hp.map row) (zqD w z.w6 h z.h6),zph];rfl
 unfold zbK orN;rw[e1,zfx,e2]
theorem zoq(i h:Nat):bx (i+1) h=bx i h++(rg h).map fun (y:Nat)=>(((i+1:Nat):Int),(y:Int)):=by
 unfold bx;rw[zeJ,List.flatMap_append];simp
theorem zop{W H x:Int}{B t l:D}{h:Nat}(hH:H=(h:Int))(hh:h<=1000):zbL (mR2 (mCon (.int 1)) (mBin addD (mVar 1) (mCon (.int 1)))) 1 [5] (gNm 0) (zbT) (zaV) [some (.int W),some (.int H),some B,some t,some l,some (.int x)] st=some (.ref st.length,st++[.lst (((rg h).map fun (y:Nat)=>((x,(y:Int)):Pt)).map prD)]):=by
 subst hH;have er:=zjg (m1:=mCon (.int 1)) (m2:=mBin addD (mVar 1) (mCon (.int 1))) (ρ:=[some (.int W),some (.int (h:Int)),some B,some t,some l,some (.int x)]) (st:=st) (b:=(h:Int)+1) (k:=h) rfl (by simp) rfl hh;have ed:run 1 h=(rg h).map fun (y:Nat)=>D.int (y:Int):=by
   unfold run rg;rw[BC];apply Dj;intro k _;have e:(1:Int)+(k:Int)=((k+1:Nat):Int):=by omega
   exact congrArg D.int e
 have ec:=zg6 (W:=⟨run 1 h,[]⟩) (g:=gNm 0) (c:=zbT) (m:=zaV) (f:=fun (y:Nat)=>D.int (y:Int)) (h:=fun (y:Nat)=>prD ((x,(y:Int)):Pt)) (R:=fun r=>∃ u,r=[u,some (.int x)]) (as:=rg h) (ρ:=[none,some (.int x)]) (st:=st) ⟨_,rfl⟩ rfl (fun y _ r hr=>by
   obtain⟨u,rfl⟩:=hr;refine⟨[some (.int (y:Int)),some (.int x)],by simp,by simp,?_,⟨some (.int (y:Int)),by simp⟩⟩;have f2:fits 2=true:=by decide
   unfold zaV prD;simp[f2])
 have fl:fits ((rg h).map fun (y:Nat)=>prD ((x,(y:Int)):Pt)).length=true:=zaG (by simp[rg];omega);rw[zce,er];simp only[Ab];rw[show rho0 [some (.int W),some (.int (h:Int)),some B,some t,some l,some (.int x)] 1 [5]=[none,some (.int x)] from rfl];rw[<-ed] at ec;rw[ec];simp only[Ab,fl,if_true,BC];rfl
theorem zqv{W H x:Int}{B t:D}{l k:Nat}{s1:Sto}{L M:List D}(ec:zbL (mR2 (mCon (.int 1)) (mBin addD (mVar 1) (mCon (.int 1)))) 1 [5] (gNm 0) (zbT) (zaV) [some (.int W),some (.int H),some B,some t,some (.ref l),some (.int x)] st=some (.ref k,s1))(hl0:st[l]?=some (.lst L))(hl:s1[l]?=some (.lst L))(hk:s1[k]?=some (.lst M))(hf:fits (L.length+M.length)=true) :
   zaU [some (.int W),some (.int H),some B,some t,some (.ref l),some (.int x)] st=some (.nx [some (.int W),some (.int H),some B,some t,some (.ref l),some (.int x)],s1.set l (.lst (L++M))):=by
 unfold zaU;generalize zbL (mR2 (mCon (.int 1)) (mBin addD (mVar 1) (mCon (.int 1)))) 1 [5] (gNm 0) (zbT) (zaV)=MC at *;rw[zqM];unfold mExt;simp only[zbc,Aj,As,Ab,zbj,hl0,zbY,zdz,ec,ze5,hl,hk,hf,if_true,Ay]
theorem zqw(z:Sz w h){B t:D}{l:Nat}{s0:Sto}(hl:st[l]?=some (.lst []))(g0:Gr s0 st)(hl0:s0.length<=l) :
   ∃ y5 st',mFor (mR2 (mCon (.int 1)) (mBin addD (mVar 0) (mCon (.int 1)))) (gNm 5) (zaU) [some (.int (w:Int)),some (.int (h:Int)),some B,some t,some (.ref l),none] st=some (.nx [some (.int (w:Int)),some (.int (h:Int)),some B,some t,some (.ref l),y5],st')/\st'[l]?=some (.lst ((bx w h).map prD))/\Gr s0 st':=by
 have w6:=z.w6;have h6:=z.h6;have key:=zcc (W:=⟨run 1 w,[]⟩) (g:=gNm 5) (m:=zaU) (ds:=run 1 w) (ρ:=[some (.int (w:Int)),some (.int (h:Int)),some B,some t,some (.ref l),none]) (st:=st)
   (Inv:=fun i ρ s=>(∃ y5,ρ=[some (.int (w:Int)),some (.int (h:Int)),some B,some t,some (.ref l),y5])/\s[l]?=some (.lst ((bx i h).map prD))/\Gr s0 s)
   ⟨⟨_,rfl⟩,hl,g0⟩ (fun _ _ _ _ _=>rfl) (fun i d ρ s hd hI=>by
     obtain⟨⟨y5,rfl⟩,h1,g1⟩:=hI;obtain⟨hi,rfl⟩:=run_get hd;have ei:(1:Int)+(i:Int)=((i+1:Nat):Int):=by omega
     rw[ei];have ec:=zop (st:=s) (W:=(w:Int)) (H:=(h:Int)) (x:=((i+1:Nat):Int)) (B:=B) (t:=t) (l:=.ref l) (h:=h) rfl (by omega);have a1:=za4 s (.lst (((rg h).map fun (y:Nat)=>((((i+1:Nat):Int),(y:Int)):Pt)).map prD));have g2:=Gr.app s [.lst (((rg h).map fun (y:Nat)=>((((i+1:Nat):Int),(y:Int)):Pt)).map prD)];have l2:=(g2.old _ (getElem?_lt h1)).trans h1;have hbl:=(zjT i (by omega) h (by omega)).1;have hf:fits (((bx i h).map prD).length+(((rg h).map fun (y:Nat)=>((((i+1:Nat):Int),(y:Int)):Pt)).map prD).length)=true:=zaG (by simp[rg];omega);refine⟨[some (.int (w:Int)),some (.int (h:Int)),some B,some t,some (.ref l),some (.int ((i+1:Nat):Int))],s,_,_,rfl,zqv ec h1 l2 a1 hf,⟨_,rfl⟩,?_,ziw (g1.trans g2) hl0⟩;rw[AY (getElem?_lt l2),zoq,Cc])
 obtain⟨ρ',s',el,⟨y5,rfl⟩,h1,g1⟩:=key;rw[zcZ] at h1;exact⟨y5,s',zmd (by simp) rfl (by omega) el,h1,g1⟩
theorem zkB:∀ ps:List Pt,Bw (ps.map prP) (ps.map prP)=true
 | []=>by simp[Bw]
 | p::ps=>by
   rw[Ao,Bw,zkB ps];simp[prP,A9,Bw]
theorem zqr{a b:Nat}{ps:List Pt}(h1:st[a]?=some (.lst (ps.map prD)))(h2:st[b]?=some (.lst (ps.map prD))):eqD (.ref a) (.ref b) st=some (.bl true,st):=by
 have e1:toP 100 st (.ref a)=some (.list (ps.map prP)):=by
   rw[toP];simp only[zbj,h1,Ab,zfT 97 st ps];rfl
 have e2:toP 100 st (.ref b)=some (.list (ps.map prP)):=by
   rw[toP];simp only[zbj,h2,Ab,zfT 97 st ps];rfl
 unfold eqD;rw[e1,e2,Ab,Ay,A9,zkB]
theorem zlh{W H W2 H2 N:Int}{B H0 KV:D}{T0:List D}{t k:Nat}{y5:Option D}{s1 s2 s3 s4 s5:Sto}(e1:zcW [B] st=some (.bl true,s1))(b0:∀ s:Sto,ixA B (.int 0) s=some (H0,s))(b1:∀ s:Sto,ixA B (.int 1) s=some (.tup [.int W2,.int H2],s))(b2:∀ s:Sto,ixA B (.int 2) s=some (.tup T0,s))(h2:∀ s:Sto,ixA H0 (.int 2) s=some (KV,s))
   (n1:neD (.tup [.int W2,.int H2]) (.tup [.int (W+2),.int (H+2)]) s1=some (.bl false,s1)) (l1:∀ s:Sto,lenD [.tup T0] s=some (.int 1,s)) (lk:∀ s:Sto,lenD [KV] s=some (.int N,s)) (hN:decide (W+H < N)=false)
   (e2:za3 [B] s1=some (.ref t,s2)) (hs3:s2++[.lst []]=s3) (e3:mFor (mR2 (mCon (.int 1)) (mBin addD (mVar 0) (mCon (.int 1)))) (gNm 5) (zaU) [some (.int W),some (.int H),some B,some (.ref t),some (.ref s2.length),none] s3=some (.nx [some (.int W),some (.int H),some B,some (.ref t),some (.ref s2.length),y5],s4))
   (e4:zbK [.ref t] s4=some (.ref k,s5)) (e5:eqD (.ref k) (.ref s2.length) s5=some (.bl true,s5)):zbd [.int W,.int H,B] st=some (.bl true,s5):=by
 refine zbQ ?_;have f2:fits 2=true:=by decide
 have n2:=zqW (V:=1) (st:=s1);have nb:isBD (.ref t) .non s2=some (.bl false,s2):=rfl;unfold zc3;refine zaB (ρ1:=[some (.int W),some (.int H),some B,none,none,none]) (s1:=s1) (by
   show mIf _ _ _ [some (.int W),some (.int H),some B,none,none,none] st=_;simp[e1,b0,b1,b2,h2,n1,l1,lk,n2,hN,f2]) ?_
 refine zaB (ρ1:=[some (.int W),some (.int H),some B,some (.ref t),none,none]) (s1:=s2) (by simp[e2]) ?_;refine zaB (ρ1:=[some (.int W),some (.int H),some B,some (.ref t),none,none]) (s1:=s2) (by simp[nb]) ?_;refine zaB (ρ1:=[some (.int W),some (.int H),some B,some (.ref t),some (.ref s2.length),none]) (s1:=s3) (by simp[hs3]) ?_;refine zaB e3 ?_;simp[e4,e5]
theorem zli(z:Sz w h):∃ st',zbd [.int (w:Int),.int (h:Int),Bd w h] st=some (.bl true,st')/\Gr st st':=by
 obtain⟨s1,e1,g1⟩:=zl4 z (st:=st);obtain⟨t,s2,R,e2,t2,hp,g2⟩:=zqu z (st:=s1);have a3:=za4 s2 (.lst ([]:List D));have g3:=Gr.app s2 [.lst ([]:List D)];generalize hs3:s2++[O.lst []]=s3 at *;obtain⟨y5,s4,e3,h4,g4⟩:=zqw z (B:=Bd w h) (t:=.ref t) (s0:=s2) a3 g3 (Af _);have t4:=(g4.old _ (getElem?_lt t2)).trans t2;have e4:=zk1 z t4 hp;have g5:=Gr.app s4 [.lst ((bx w h).map prD)];have a5:=za4 s4 (.lst ((bx w h).map prD));have h5:=(g5.old _ (getElem?_lt h4)).trans h4;generalize s4++[O.lst ((bx w h).map prD)]=s5 at *;have e5:=zqr a5 h5;have n1:neD (.tup [.int ((w:Int)+2),.int ((h:Int)+2)]) (.tup [.int ((w:Int)+2),.int ((h:Int)+2)]) s1=some (.bl false,s1):=by
   have:=zqV (st:=s1) (o:=((w:Int)+2,(h:Int)+2)) (p:=((w:Int)+2,(h:Int)+2));rw[decide_eq_true rfl] at this;exact this
 refine⟨s5,zlh (N:=(w:Int)+h) e1 (fun _=>bx0) (fun _=>bx1) (fun _=>bx2) (fun _=>hx2) n1 (fun _=>rfl) (fun s=>?_) (decide_eq_false (by omega)) e2 hs3 e3 e4 e5,((g1.trans g2).trans g4).trans g5⟩;unfold KD;rw[zeZ,Ak,zlY z,FL]
end
end L2.MP.stickytiles_k55_box_beds
namespace L2.MP.stickytiles_k55_box_beds
open PySem L2.MP
open L2.MP.Hb (FrB)
open L2.MP.Hn (plain)
section
variable {w h:Nat} {st:Sto}
theorem zmx(z:Sz w h):plain 5 (Bd w h):=by
 have w6:=z.w6;have h6:=z.h6;refine⟨by simp,fun d hd=>?_⟩;simp only[Ba,AS,or_false] at hd
 rcases hd with rfl | rfl | rfl
 . refine⟨by simp,fun d hd=>?_⟩;simp only[Ba,AS,or_false] at hd
   rcases hd with rfl | rfl | rfl
   . exact trivial
   . refine⟨by simp[SSk,rg];omega,fun d hd=>?_⟩;obtain⟨p,hp,rfl⟩:=List.mem_map.mp hd;refine⟨by simp,fun d hd=>?_⟩;simp only[Ba,AS,or_false] at hd
     rcases hd with rfl | rfl
     . exact (zmY w z.w6 h z.h6 p hp).2
     . exact trivial
   . refine⟨by rw[Ak,zlY z];omega,fun d hd=>?_⟩;obtain⟨k,hk,rfl⟩:=List.mem_map.mp hd;rw[zn6 w z.w6 h z.h6] at hk;obtain⟨l,hl,rfl⟩:=List.mem_map.mp hk;obtain⟨h5,_,hc⟩:=zob w z.w6 h z.h6 z.w1 z.h1 l hl;refine⟨by rw[Ak,Ak,h5];decide,fun d hd=>?_⟩;obtain⟨x,hx,rfl⟩:=List.mem_map.mp hd;obtain⟨c,hc',rfl⟩:=List.mem_map.mp hx;exact zmE c (hc c hc').1
 . refine⟨by simp,fun d hd=>?_⟩;simp only[Ba,AS,or_false] at hd
   rcases hd with rfl | rfl <;> exact trivial
 . refine⟨by simp,fun d hd=>?_⟩;rw[Ao,Bq,List.mem_singleton] at hd;subst hd;refine⟨by simp,fun d hd=>?_⟩;simp only[Ba,AS,or_false] at hd
   rcases hd with rfl | rfl | rfl <;> exact trivial
theorem zhc{α:Type}:∀ ps:List α,ps.zip ps=ps.map fun p=>(p,p)
 | []=>rfl
 | a::r=>by rw[B9,zhc r];rfl
noncomputable def szD(p:Nat×Nat):D:=.tup [.int (p.1:Int),.int (p.2:Int)]
theorem zqI{W H:Int}{B:D}{s1:Sto}(e:zbG [.int W,.int H] st=some (B,s1)):zfc [some (.int W),some (.int H)] st=some (B,s1):=by
 unfold zfc;simp[e]
theorem zmR{W H:Int}{B k0 k1 k2 k3:D}{s1 s2:Sto}(e1:zbd [.int W,.int H,B] st=some (.bl true,s1))(e2:zbG [.int W,.int H] s1=some (B,s2))(en:neD B B s2=some (.bl false,s2)) :
   zgs [some k0,some k1,some k2,some k3,some (.int W),some (.int H),some B] st=some (.nx [some k0,some k1,some k2,some k3,some (.int W),some (.int H),some B],s2):=by
 unfold zgs;simp[e1,e2,en]
theorem zk6{W1 H1 W2 H2:Int}{n:Nat}{k0:D}{s1 s2 s3 s4:Sto}(e1:zax [.ref n,.int 6] st=some (.int W1,s1))(e2:zax [.ref n,.int 6] s1=some (.int H1,s2))(e3:zax [.ref n,.int 6] s2=some (.int W2,s3))(e4:zax [.ref n,.int 3] s3=some (.int H2,s4)) :
   mAsg (mLst (zae (mTup (zae (mBin addD (mCon (.int 1)) (zaw zax (zae (mVar 1) (zae (mCon (.int 6)) (mNil))))) (zae (mBin addD (mCon (.int 1)) (zaw zax (zae (mVar 1) (zae (mCon (.int 6)) (mNil))))) (mNil)))) (zae (mTup (zae (mBin addD (mCon (.int 1)) (zaw zax (zae (mVar 1) (zae (mCon (.int 6)) (mNil))))) (zae (mBin addD (mCon (.int 1)) (zaw zax (zae (mVar 1) (zae (mCon (.int 3)) (mNil))))) (mNil)))) (mNil)))) (gNm 2) [some k0,some (.ref n),none,none,none,none,none] st=some (.nx [some k0,some (.ref n),some (.ref s4.length),none,none,none,none],s4++[.lst [.tup [.int (1+W1),.int (1+H1)],.tup [.int (1+W2),.int (1+H2)]]]):=by
 have f2:fits 2=true:=by decide
 simp[e1,e2,e3,e4,f2]
theorem zlW(ns:List Int)(hl:ns.length<=63):∃ st,zmC [.kl (ns.map D.int)] []=some (.bl true,st):=by
 obtain⟨n,q,s0,e0,p0,g0⟩:=zi2 (ns:=ns) [] hl;obtain⟨r1,s1,e1,a1,b1,p1,f1⟩:=zfV (many:=6) p0 (by decide) (by decide) (by decide);obtain⟨r2,s2,e2,a2,b2,p2,f2⟩:=zfV (many:=6) p1 (by decide) (by decide) (by decide);obtain⟨r3,s3,e3,a3,b3,p3,f3⟩:=zfV (many:=6) p2 (by decide) (by decide) (by decide);obtain⟨r4,s4,e4,a4,b4,p4,f4⟩:=zfV (many:=3) p3 (by decide) (by decide) (by decide);have es:=zk6 (k0:=.kl (ns.map D.int)) e1 e2 e3 e4;obtain⟨ps,hps,hd⟩:∃ ps:List (Nat×Nat),(∀ p∈ps,Sz p.1 p.2)/\[.tup [.int (1+r1),.int (1+r2)],.tup [.int (1+r3),.int (1+r4)]]=ps.map szD/\ps.length=2:=by
   refine⟨[((1+r1).toNat,(1+r2).toNat),((1+r3).toNat,(1+r4).toNat)],fun p hp=>?_,?_,rfl⟩
   . simp only[Ba,AS,or_false] at hp
     rcases hp with rfl | rfl
     . exact⟨by simp;omega,by simp;omega,by simp;omega,by simp;omega⟩
     . exact⟨by simp;omega,by simp;omega,by simp;omega,by simp;omega⟩
   . unfold szD;rw[Ao,Ao,Bq];dsimp only;rw[A1 (by omega),A1 (by omega),A1 (by omega),A1 (by omega)]
 obtain⟨hd,hp2⟩:=hd;rw[hd] at es;have l5:=za4 s4 (.lst (ps.map szD));generalize s4++[O.lst (ps.map szD)]=s5 at es l5;generalize s4.length=L2n at es l5;obtain⟨s6,ec,g6⟩:=zqC (W:=⟨ps.map szD,[(L2n,ps.map szD)]⟩) (g:=gTp 2 (gC (gNm 0) (gC (gNm 1) (gN0)))) (c:=zbT) (m:=zfc) (f:=szD) (h:=fun p:Nat×Nat=>Bd p.1 p.2) (R:=fun r=>∃ x y,r=[x,y]) (as:=ps) (ρ:=[none,none]) (st:=s5) ⟨_,_,rfl⟩ (fun s g=>za5 ((g.old _ (getElem?_lt l5)).trans l5)) (fun p hp r s hr gs=>by
   obtain⟨x,y,rfl⟩:=hr;have z:=hps p hp;obtain⟨s',e',g'⟩:=zkI (w:=p.1) (h:=p.2) (st:=s) ⟨z.w1,CK z.w6⟩ ⟨z.h1,CK z.h6⟩;exact⟨[some (.int (p.1:Int)),some (.int (p.2:Int))],s',by unfold szD;simp,by simp,zqI e',g',_,_,rfl⟩)
 have l6:=(g6.old _ (getElem?_lt l5)).trans l5;have l7:=za4 s6 (.lst (ps.map fun p:Nat×Nat=>Bd p.1 p.2));have g7:=Gr.app s6 [.lst (ps.map fun p:Nat×Nat=>Bd p.1 p.2)];have l6:=(g7.old _ (getElem?_lt l6)).trans l6;have ecm:zbL (mWA (mVar 2)) 2 [] (gTp 2 (gC (gNm 0) (gC (gNm 1) (gN0)))) (zbT) (zfc) [some (.kl (ns.map D.int)),some (.ref n),some (.ref L2n),none,none,none,none] s5=some (.ref s6.length,s6++[.lst (ps.map fun p:Nat×Nat=>Bd p.1 p.2)]):=by
   have ew:mWA (mVar 2) [some (.kl (ns.map D.int)),some (.ref n),some (.ref L2n),none,none,none,none] s5=some (⟨ps.map szD,[(L2n,ps.map szD)]⟩,s5):=by
     unfold mWA;simp[zjX,zbj,l5]
   have fl:fits (ps.map fun p:Nat×Nat=>Bd p.1 p.2).length=true:=zaG (by rw[Ak,hp2];decide);rw[zce,ew];simp only[Ab];rw[show rho0 [some (.kl (ns.map D.int)),some (.ref n),some (.ref L2n),none,none,none,none] 2 []=[none,none] from rfl,ec];simp only[Ab,fl,if_true]
 generalize s6++[O.lst (ps.map fun p:Nat×Nat=>Bd p.1 p.2)]=s7 at *;have ep:pairD (ps.map szD) (ps.map fun p:Nat×Nat=>Bd p.1 p.2)=ps.map fun p=>D.tup [szD p,Bd p.1 p.2]:=by
   unfold pairD;rw[F3,BC];rw[zhc];rw[BC];rfl
 have key:=zcc (W:=⟨ps.map fun p=>D.tup [szD p,Bd p.1 p.2],[(L2n,ps.map szD),(s6.length,ps.map fun p:Nat×Nat=>Bd p.1 p.2)]⟩) (g:=gTp 2 (gC (gTp 2 (gC (gNm 4) (gC (gNm 5) (gN0)))) (gC (gNm 6) (gN0)))) (m:=zgs) (ds:=ps.map fun p=>D.tup [szD p,Bd p.1 p.2]) (ρ:=[some (.kl (ns.map D.int)),some (.ref n),some (.ref L2n),some (.ref s6.length),none,none,none]) (st:=s7)
   (Inv:=fun i ρ s=>(∃ x4 x5 x6,ρ=[some (.kl (ns.map D.int)),some (.ref n),some (.ref L2n),some (.ref s6.length),x4,x5,x6])/\Gr s7 s)
   ⟨⟨_,_,_,rfl⟩,Gr.refl s7⟩ (fun k _ s _ hI=>by
     have w1:=za5 (ds:=[]) ((hI.2.old _ (getElem?_lt l6)).trans l6);have w2:=za5 (ds:=[]) ((hI.2.old _ (getElem?_lt l7)).trans l7);unfold walked at w1 w2 ⊢;simp only[Dy,DP,EE] at w1 w2 ⊢;rw[w1,w2]
     rfl) (fun i d ρ s hd hI=>by
     obtain⟨⟨x4,x5,x6,rfl⟩,gs⟩:=hI;rw[AD] at hd;obtain⟨p,hp,rfl⟩:=zaf hd;have z:=hps p (Bo hp);obtain⟨u1,v1,h1⟩:=zli z (st:=s);obtain⟨u2,v2,h2⟩:=zkI (w:=p.1) (h:=p.2) (st:=u1) ⟨z.w1,CK z.w6⟩ ⟨z.h1,CK z.h6⟩;have en:=Hn.znV (st:=u2) (zmx z) (by decide);refine⟨[some (.kl (ns.map D.int)),some (.ref n),some (.ref L2n),some (.ref s6.length),some (.int (p.1:Int)),some (.int (p.2:Int)),some (Bd p.1 p.2)],s,_,u2,?_,zmR v1 v2 en,⟨_,_,_,rfl⟩,(gs.trans h1).trans h2⟩;unfold szD;simp)
 obtain⟨ρ',s8,el,⟨x4,x5,x6,rfl⟩,_⟩:=key;refine⟨s8,zbQ ?_⟩;unfold zra;refine zaB (ρ1:=[some (.kl (ns.map D.int)),some (.ref n),none,none,none,none,none]) (s1:=s0) (by simp[e0]) ?_;refine zaB es ?_;refine zaB (ρ1:=[some (.kl (ns.map D.int)),some (.ref n),some (.ref L2n),some (.ref s6.length),none,none,none]) (s1:=s7) (by rw[zcn,ecm];rfl) ?_;refine zaB (ρ1:=[some (.kl (ns.map D.int)),some (.ref n),some (.ref L2n),some (.ref s6.length),x4,x5,x6]) (s1:=s8) ?_ (by simp);have ez:mZip (mVar 2) (mVar 3) [some (.kl (ns.map D.int)),some (.ref n),some (.ref L2n),some (.ref s6.length),none,none,none] s7=some (⟨ps.map fun p=>D.tup [szD p,Bd p.1 p.2],[(L2n,ps.map szD),(s6.length,ps.map fun p:Nat×Nat=>Bd p.1 p.2)]⟩,s7):=by
   rw[zow];simp only[zbc,Aj,As,Ab];unfold zipW;simp only[seqD,zbj,l6,l7,Ay,Ab,ep];rfl
 rw[zdM,ez];exact el
end
end L2.MP.stickytiles_k55_box_beds
namespace L2.MP.stickytiles_k55_box_beds
open PySem L2 L2.MP PySem.Spec PyProof.Rows
theorem zo3{K:Ac}{H:Hp}{a:Addr}{ns:List Int}(hl:ns.length<=63)(hO:Only H)(hS:SqL K H a (ns.map V.int)):spM K 1 zmC [.ref a] H (fun v _=>v=.bl true) fun _ _ _=>False:=by
 obtain⟨st,e⟩:=zlW ns hl;exact zk0 hO hS e
theorem walk{l:D2}{q:Program}{loose:List Str}{XP:(Str->Option Value)->Heap->Prop}{YP:World->Heap->Prop}{d:DefRec}{K:Params->Ac}(hn:l.most=some 63)(hdf:d.params.defaults=[])
   (hY:∀ (w:World) (h:Heap),YP w h->(K w.params).In h)
   (F:∀ (w:World) (mg:Str->Option Value) (fa:Addr) (h:Heap),(K w.params).In h->h.Ns mainGlobals mg->mg d.name=some (.ref fa) ->
     ∃ fd:FuncData,(∀ (s:Shared) (u:Value),BindsTo s fd ⟨[u],[]⟩ [("_law_script",u)])/\∀ base:Heap,(K w.params).In base->base.Ns mainGlobals mg->FnOk l.prog w (K w.params) mg base CX0 7 fa fd ["_law_script"] (spM (K w.params) 1 zmC)) :
   FW q loose XP YP l.row.toRowW d [] (fun f vs=>Fz f vs) :=
 L2.walk_of (n:=63) (k:=7) (x:="_law_script") (CX:=fun _=>CX0) (sp:=fun w=>spM (K w.params) 1 zmC) hn (by decide) hdf ⟨rfl,by decide,by decide,rfl⟩ hY F (fun _ _ a ns hl hO hS=>zo3 hl hO hS) fun _ _ _ _ _ z=>z
end L2.MP.stickytiles_k55_box_beds
open PySem PySem.W PyProof.Rows
set_option maxRecDepth 100000 in
set_option maxHeartbeats 0 in
theorem PySem.Challenge.cw_stickytiles_k55_box_beds_holds : PySem.Challenge.rw_stickytiles_k55_box_beds.Holds := by
 w_on;o_law;k_head;(case hw=>w_witness2)
 k_fill
 refine L2.MP.stickytiles_k55_box_beds.walk (l:=PySem.Challenge.rw_stickytiles_k55_box_beds) rfl rfl (fun w h Y=>PySem.W.kIn_of Y) ?F
 case F =>
   intro w mg fa h KX G hmg;refine' L2.MP.stickytiles_k55_box_beds.all_mk KX G hmg (L2.MP.zcy ?a0 ?l0 ?c0 ?k0) (L2.MP.zcy ?a1 ?l1 ?c1 ?k1) (L2.MP.zcy ?a2 ?l2 ?c2 ?k2) (L2.MP.zcy ?a3 ?l3 ?c3 ?k3) (L2.MP.zcy ?a4 ?l4 ?c4 ?k4) (L2.MP.zcy ?a5 ?l5 ?c5 ?k5) (L2.MP.zcy ?a6 ?l6 ?c6 ?k6) (L2.MP.zcy ?a7 ?l7 ?c7 ?k7) (L2.MP.zcy ?a8 ?l8 ?c8 ?k8) (L2.MP.zcy ?a9 ?l9 ?c9 ?k9) (L2.MP.zcy ?a10 ?l10 ?c10 ?k10) (L2.MP.zcy ?a11 ?l11 ?c11 ?k11) (L2.MP.zcy ?a12 ?l12 ?c12 ?k12) (L2.MP.zcy ?a13 ?l13 ?c13 ?k13) (L2.MP.zcy ?a14 ?l14 ?c14 ?k14) (L2.MP.zcy ?a15 ?l15 ?c15 ?k15) (L2.MP.zcy ?a16 ?l16 ?c16 ?k16) (L2.MP.zcy ?a17 ?l17 ?c17 ?k17) (L2.MP.zcy ?a18 ?l18 ?c18 ?k18) (L2.MP.zcy ?a19 ?l19 ?c19 ?k19) (L2.MP.zcy ?a20 ?l20 ?c20 ?k20) (L2.MP.zcy ?a21 ?l21 ?c21 ?k21) (L2.MP.zcy ?a22 ?l22 ?c22 ?k22) (L2.MP.zcy ?a23 ?l23 ?c23 ?k23) (L2.MP.zcy ?a24 ?l24 ?c24 ?k24) (L2.MP.zcy ?a25 ?l25 ?c25 ?k25) (L2.MP.zcy ?a26 ?l26 ?c26 ?k26) (L2.MP.zcy ?a27 ?l27 ?c27 ?k27) (L2.MP.zcy ?a28 ?l28 ?c28 ?k28) ?z0 ?z1 ?z2 ?z3 ?z4 ?z5 ?z6 ?z7 ?z8 ?z9 ?z10 ?z11 ?z12 ?y0 ?y1
   (case a0=>k_is);(case l0=>k_is);(case c0=>k_is);(case k0=>k_is)
   (case a1=>k_is);(case l1=>k_is);(case c1=>k_is);(case k1=>k_is)
   (case a2=>k_is);(case l2=>k_is);(case c2=>k_is);(case k2=>k_is)
   (case a3=>k_is);(case l3=>k_is);(case c3=>k_is);(case k3=>k_is)
   (case a4=>k_is);(case l4=>k_is);(case c4=>k_is);(case k4=>k_is)
   (case a5=>k_is);(case l5=>k_is);(case c5=>k_is);(case k5=>k_is)
   (case a6=>k_is);(case l6=>k_is);(case c6=>k_is);(case k6=>k_is)
   (case a7=>k_is);(case l7=>k_is);(case c7=>k_is);(case k7=>k_is)
   (case a8=>k_is);(case l8=>k_is);(case c8=>k_is);(case k8=>k_is)
   (case a9=>k_is);(case l9=>k_is);(case c9=>k_is);(case k9=>k_is)
   (case a10=>k_is);(case l10=>k_is);(case c10=>k_is);(case k10=>k_is)
   (case a11=>k_is);(case l11=>k_is);(case c11=>k_is);(case k11=>k_is)
   (case a12=>k_is);(case l12=>k_is);(case c12=>k_is);(case k12=>k_is)
   (case a13=>k_is);(case l13=>k_is);(case c13=>k_is);(case k13=>k_is)
   (case a14=>k_is);(case l14=>k_is);(case c14=>k_is);(case k14=>k_is)
   (case a15=>k_is);(case l15=>k_is);(case c15=>k_is);(case k15=>k_is)
   (case a16=>k_is);(case l16=>k_is);(case c16=>k_is);(case k16=>k_is)
   (case a17=>k_is);(case l17=>k_is);(case c17=>k_is);(case k17=>k_is)
   (case a18=>k_is);(case l18=>k_is);(case c18=>k_is);(case k18=>k_is)
   (case a19=>k_is);(case l19=>k_is);(case c19=>k_is);(case k19=>k_is)
   (case a20=>k_is);(case l20=>k_is);(case c20=>k_is);(case k20=>k_is)
   (case a21=>k_is);(case l21=>k_is);(case c21=>k_is);(case k21=>k_is)
   (case a22=>k_is);(case l22=>k_is);(case c22=>k_is);(case k22=>k_is)
   (case a23=>k_is);(case l23=>k_is);(case c23=>k_is);(case k23=>k_is)
   (case a24=>k_is);(case l24=>k_is);(case c24=>k_is);(case k24=>k_is)
   (case a25=>k_is);(case l25=>k_is);(case c25=>k_is);(case k25=>k_is)
   (case a26=>k_is);(case l26=>k_is);(case c26=>k_is);(case k26=>k_is)
   (case a27=>k_is);(case l27=>k_is);(case c27=>k_is);(case k27=>k_is)
   (case a28=>k_is);(case l28=>k_is);(case c28=>k_is);(case k28=>k_is)
   (case z0=>k_is);(case z1=>k_is);(case z2=>k_is);(case z3=>k_is);(case z4=>k_is);(case z5=>k_is);(case z6=>k_is);(case z7=>k_is);(case z8=>k_is);(case z9=>k_is);(case z10=>k_is);(case z11=>k_is);(case z12=>k_is);(case y0=>k_is);(case y1=>k_is)
