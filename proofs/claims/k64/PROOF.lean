import PyProof.Rows.All
import Wide.All
import OpenK.AllK
import Wide.FinOn
import Lean
import PyProof.EqAt
import PyProof.EqKinds
import PyProof.TupleCall
import KE.KRevSl
import PyProof.AttrMissHeap
import KE.KDictOf
import PyProof.StrWalks
import PyProof.ListStr
import PyProof.EnumMake
import PyProof.Rows.Range3
import PyProof.Rows.StrIndexOr
import KE.KRevIter
import PyProof.SumWalk
import PyProof.ReprRoads
import PyProof.DictWalks
import PyProof.FitsBits
import PyProof.CallStr
import PyProof.Rows.FStr
import PyProof.Rows.StrNews
import KE.KIntText
import PyProof.Rows.MinMaxN
import PyProof.StrCalls
import KE.KDictList
import PyProof.RulesTry
import PyProof.Rows.RuleIs
import KE.KDictSum
import PyProof.DictTruth
import PyProof.MinMaxWalk
import PyProof.Rows.SetFrom
import PyProof.ListMulRoad
import PyProof.FactsAll.tuple_2
import PyProof.TupleOfStr
import PyProof.WalkInts
import PyProof.WalksMore
import PyProof.RowDictHeap
import KE.KItemsList
import PyProof.Draws
import PyProof.SetScanFacts
import PyProof.TupleKey
import PyProof.IsRules
import PyProof.StrLawsIn
import PyProof.Rows.StrLawsPart
import PyProof.StrLawsChain
import PyProof.Rows.StrIntSpec
import PyProof.StrLawsTight
import PyProof.Rows.ReprOcc
import PySem.Challenge.RW_stickytiles_k64_what_is_framed
set_option maxHeartbeats 8000000
set_option maxRecDepth 100000
open PySem renaming wpAny_bind→Aa,wpAny_pure→Ae,mem_of_lookup→AM,wpAny_newObj_type→A8,wpAny_holding→A9,wpAny_call_entry→Bo,wpAny_mono→Bp,wpAny_callSpecial?_slot→Br,wpAny_truthy_bool→BC,wpAny_typeNameOfWhole_keyiter→BE,wpAny_passesOwn→BP,wpAny_getItem_str_slice→B2,wpAny_pyIter_list→B6,wpAny_setState_of→B9,wpAny_field→Cq,post_val_or_str→Cu,tupleKind_room_in1→Cy,wpAny_execs_nil→CT,codeAny_mono→CU,pushCells_keeps→CV,codeAny_builtin→C1,wpAny_seqItems→Dc,wpAny_setField→De,wpAny_Call_Name_kw→Dj,wpAny_standAt→Do,wpAny_newList→Ds,wpAny_dictEntries→Dw,wpAny_typeOf→DK,wpAny_forIn_list→DS,wpAny_dictEpoch→D0,sizeLine_eq→D4,wpAny_isTrue_Compare1→Ee,wpAny_isOneOf_keyiter→El,wpAny_eqIsQuiet_tuple→En,strKind→ED,seqIndex_neg→ET,wpAny_assign_Name→EW,wpAny_sequenceKey→EZ,wpAny_pyIter_enum→Fe,wpAny_storeSet_of→Fg,fits_of_scanBound→Fh,seqIndex_of→Fm,wpAny_of_eq→Fo,wpAny_Name→Fv,typeIs_str→Fx,call_meets→Fy,call→Fz
open Option renaming bind_some→Ab,map_some→Aq,isSome_map→Du,getD_some→DL,isSome_some→ER,getD_none→Fp,bind→F9
open PySem.W renaming Frag→Ac,mg_none_of→AK,nsIn→A1,fnOf→BJ,keepIn→BW,codeIn→CG,methodObj→Dt,OpenLaw→DX,cellsFrom_some→D5,KitAt→EA,kitx_list→E4,kitx_dict→Fb,kat_kind→Fs,kas_ask→FD,kitOne→FO,WalkO→FS,mg_of→FV
open List renaming length_map→Ad,mem_cons_of_mem→Af,mem_cons_self→Ag,getElem?_eq_getElem→Aj,getElem?_append_left→Ak,size_toArray→Ao,append_assoc→Ap,range→Ar,append_nil→As,map_cons→Au,getElem?_map→Av,getD_eq_getElem?_getD→Ax,getElem?_set_ne→AB,length_append→AF,mem_append_right→AI,getElem?_append_right→AO,length_cons→AW,all_eq_true→AX,mem_of_getElem?→AY,getElem_mem→AZ,map_map→A0,lookup_cons→Be,map_append→Bg,mem_append_left→Bj,length_take→Bk,replicate→Bl,length_set→Bt,getElem?_set_self→Bv,length_replicate→Bw,find?_cons→BA,map_nil→BB,eq_nil_of_length_eq_zero→BD,length_drop→BG,nodup_range→BI,toArray→BM,length_singleton→BQ,length_erase_of_mem→BZ,getElem?_replicate→B1,mem_cons→B3,length_range→B7,getElem?_toArray→Cg,mem_erase_of_ne→Ck,getElem?_of_mem→Cm,cons_append→Cn,any_cons→Co,mergeSort_perm→Cr,mem_singleton→CD,pairwise_map→CK,length_pos_of_mem→CN,not_mem_nil→CP,take_length→CS,getElem?_zipIdx→CY,nil_append→C3,filterMap_cons→C4,getElem_of_mem→C6,getElem?_range→C7,map_congr_left→C8,flatMap_append→C9,drop_zero→Da,zip_cons_cons→Dl,getElem?_set→Dv,getElem_take→Dy,any_eq_false→Dz,drop_eq_getElem_cons→DA,pairwise_iff_getElem→DB,Nodup→DE,mem_or_eq_of_mem_set→DF,getElem_map→DN,filter_cons→DP,filterMap_cons_some→DR,pairwise_mergeSort→DU,getElem?_cons_succ→DV,of_mem_zip→DW,nodup_cons→DY,mem_append→D3,drop_eq_nil_of_le→D9,take_of_length_le→Ec,drop_of_length_le→Ed,forIn_nil→Ef,countP_mono_left→Eg,nodup_nil→Ej,mem_range→Em,length_filter_le→Eo,pairwise_flatMap→Ep,mem_of_mem_drop→Ex,mem_of_mem_take→Ey,all_cons→EB,map_take→EC,take_succ_cons→EI,drop_succ_cons→EJ,replicate_succ→EK,take_sublist→EY,nodup_append→E3,take_add_one→Fj,length→Fk,countP_cons→Fq,any_eq_true→Ft,filter_nil→FH,foldl_cons→FJ,range_succ→FM,map_drop→FX,all_nil→F0,mem_map→F3,map_id'→F4
open Nat renaming le_refl→Ah,lt_of_lt_of_le→AC,ne_of_lt→AG,le_trans→AH,lt_irrefl→AR,zero_le→AU,le_succ→Bz,le_of_succ_le→BS,le_of_lt→Ca,succ_le_succ→Cj,not_lt_zero→Cw,sub_self→CA,lt_succ_of_lt→CJ,le_add_right→CQ,add_le_add_left→C5,mul_le_mul→Dh,lt_of_le_of_lt→Dk,le_of_lt_succ→Dx,min_le_right→DJ,lt_succ_self→DM,add_zero→DO,succ_pos→DQ,mod_lt→Ew,ne_of_gt→EO,min_eq_right→Fu,min_le_left→FA,strongRecOn→FI,min_eq_left→FL
open PySem.Heap renaming get?_push_of_some→Ai,lt_size→Am,get?_push_size→Az,size_push→Bx,SameBut→Cb,get?_update_self→Cd,get?_update_other→D8,ExtBut→Fn
open Or renaming inr→Al,inl→An
open Option.some renaming inj→Aw,injEq→EV
open Bool renaming false_eq_true→Ay,and_eq_true→AA,eq_iff_iff→Bb,false_ne_true→Bi,not_eq_true'→Bm,or_eq_true→Bu,and_false→Cf,not_true→CO,not_false→Dg,false_and→FN,false_or→FR,and_true→FT,true_and→FY
open Array renaming getElem?_toList→AD,getElem?_eq_getElem→AL,length_toList→AQ,getD_eq_getD_getElem?→BL,getD→DD,getElem?_eq_none→Eb,forIn_toList→EU,replicate→FK,toList→FZ
open PySem.NameKind renaming free→AE,cell→AN
open PySem.Value renaming ref→AJ,none→Bf,bool→B4,type→Er,int→EM,str→EN,isStrOf→FQ,isInt→F7
open Int renaming toNat_natCast→AS,eq_ofNat_of_zero_le→Bs,emod_lt_of_pos→BN,le_refl→BV,emod_nonneg→B5,le_trans→CZ,le_of_lt→C0,toNat_of_nonneg→EG,le_antisymm→FC
open Ne renaming symm→AV
open PySem.PyData renaming eqv→Ba,canLay0→BH,strOk→BK,canLayAll0→B8,eqvAll→Cp,depth→CB,depthAll→DZ,str→FG,int→Gc
open PySem.PassesOwn renaming never→Bc
open PySem.Builtin.SmallTypes renaming nextOf→Bn
open PySem.Obj renaming mapSeq→Bq,data_mapFields→CC,isFreed_of_fields→Ei,putSet→Ez,cls_mapFields→Fd,mapFields→FU
open PyProof.Rows renaming slot_tuple_getitem→By,callWith_type1→Ci,slot_tupleiter_next→Cs,assignInOrder_cons→Di,listUpdate_at→Dr,subscriptTail_builtinR→D7,seqEpoch_at→Ea,entry_tupleiter_next→Eu,entry_tuple_getitem→EE,args_tupleiter_next→EH,args_tuple_getitem→ES,assignInOrder_nil→EX,Subscript_→Fw
open PySem.Heap.SameBut renaming update→BF
open PyProof.Rows.F renaming plain_set_update_loop→BO,entry_set_update_loop→CF
open PySem.Paired renaming length→BR,snoc→F8
open PySem.Builtin.Slice renaming slicePlaces→BU,sliceAdjust→Ct,sliceApplied→Dp
open PySem.Builtin.Tuple renaming tupleExact→BX,tupleItemsOf→Dq
open PySem.AutoSeq1 renaming wpAny_loadPart'→BY
open PySem.Builtin.Str renaming occurrences→B0
open PySem.Str renaming ofString→Cc
open Array.Perm renaming refl→Cv
open PySem.Builtin.List renaming listTooLong→Cz
open PySem.F renaming plainAttrs_list→CH,args_tuple_add_2→DI,entry_tuple_add→DT,slot_tuple_add→D6
open List.Pairwise renaming nil→CI,imp→Fi
open Prod.mk renaming inj→CL
open ForInStep renaming yield→CW
open PySem.Around renaming under_plainId→C2
open PySem.Builtin.Dict_items renaming ownsTuple→Df
open PySem.Calls renaming Name_function_global→Dm,call_function_entry→DC
open Sum renaming inl→DG,inr→DH
open PySem.W.Looks renaming of_pure→Eh
open PySem.Builtin.Dict renaming showsAll→Ek
open True renaming intro→Es
open PySem.W.KasFin renaming intro→Et
open PySem.Builtin.Int renaming intBits→EF
open List.Perm renaming nodup_iff→EL
open PySem.W.UpdF renaming head→Fc
open PySem.Walks renaming list→FB
open StateT renaming run_pure→FE
open PySem.Builtin.Frozenset renaming updateFrom→FP,newClass→FW
open Nat.succ renaming inj→F1
open PySem.W.KatTups renaming cons→Ga,nil→Gd
open PyProof.Rows.SortSt renaming mk'→Gb
open PySem.Heap.IsSliceOf renaming new→Ge
open PySem.Heap.IsListIter renaming «at»→Gf
set_option Elab.async false
set_option linter.all false
namespace L2
open PySem PySem.Spec PyProof.Rows
noncomputable abbrev Key:=Sum Int Str
noncomputable def zlp:Key->Value->Bool
 | .inl k,v=>F7 k v
 | .inr x,v=>FQ x v
noncomputable def keyH(w:World):Key->Int
 | .inl k=>hashInt k
 | .inr x=>hashStr w x
theorem za2:∀ {k:Key} {v:Value},zlp k v=true->(∃ i t,k=DG i/\v=EM i t)\/(∃ x t,k=DH x/\v=EN x t)
 | .inl i,v,h=>by
   obtain⟨t,e⟩:=Value.isInt_shape (k:=i) (v:=v) h;exact .inl ⟨i,t,rfl,e⟩
 | .inr x,v,h=>by
   obtain⟨t,e⟩:=Value.isStrOf_shape (x:=x) (v:=v) h;exact .inr ⟨x,t,rfl,e⟩
theorem zi8(i:Int)(t:Tok):zlp (.inl i) (.int i t)=true:=by simp[zlp,F7]
theorem zi7(x:Str)(t:Tok):zlp (.inr x) (.str x t)=true:=by simp[zlp,FQ]
theorem zoa(a b:Int):decide ((DG a:Key)=DG b)=(a==b):=by
 by_cases e:a=b
 . subst e;simp
 . have h:¬ (DG a:Key)=DG b:=fun q=>e (Sum.inl.inj q);rw[decide_eq_false h];exact (beq_eq_false_iff_ne.mpr e).symm
theorem zn7(a b:Str):decide ((DH a:Key)=DH b)=decide (a=b):=by
 by_cases e:a=b
 . subst e;simp
 . have h:¬ (DH a:Key)=DH b:=fun q=>e (Sum.inr.inj q);rw[decide_eq_false h,decide_eq_false e]
theorem zn9(a:Int)(b:Str):decide ((DG a:Key)=DH b)=false:=decide_eq_false (fun q=>nomatch q)
theorem zn8(a:Str)(b:Int):decide ((DH a:Key)=DG b)=false:=decide_eq_false (fun q=>nomatch q)
noncomputable def zbx(prog:Program)(w:World):PySem.KeyKind prog w Key where
 is:=zlp
 hash:=keyH w
 inj:=fun v a b ha hb=>by
   rcases za2 ha with ⟨i,t,rfl,rfl⟩ | ⟨x,t,rfl,rfl⟩
   . rcases za2 hb with ⟨j,u,rfl,e⟩ | ⟨y,u,rfl,e⟩
     . injection e with e1 _;rw[e1]
     . exact nomatch e
   . rcases za2 hb with ⟨j,u,rfl,e⟩ | ⟨y,u,rfl,e⟩
     . exact nomatch e
     . injection e with e1 _;rw[e1]
 byValue:=fun k v h=>by
   rcases za2 h with ⟨i,t,rfl,rfl⟩ | ⟨x,t,rfl,rfl⟩ <;> rfl
 pyHash:=fun hv h=>by
   rcases za2 hv with ⟨i,t,rfl,rfl⟩ | ⟨x,t,rfl,rfl⟩
   . exact wpAny_pyHash_int h
   . exact wpAny_pyHash_str h
 eqBool:=fun hu hv h=>by
   rcases za2 hu with ⟨i,t,rfl,rfl⟩ | ⟨x,t,rfl,rfl⟩
   . rcases za2 hv with ⟨j,u,rfl,rfl⟩ | ⟨y,u,rfl,rfl⟩
     . rw[zoa] at h;exact wpAny_eqBool_int h
     . rw[zn9] at h;exact SeqAt.EqAt.int_str i t y u _ _ _ _ h
   . rcases za2 hv with ⟨j,u,rfl,rfl⟩ | ⟨y,u,rfl,rfl⟩
     . rw[zn8] at h;exact SeqAt.EqAt.str_int x t j u _ _ _ _ h
     . rw[zn7] at h;exact wpAny_eqBool_str h
 «strs»:=fun k x t v h=>by
   rcases za2 h with ⟨i,u,rfl,e⟩ | ⟨y,u,rfl,e⟩
   . exact nomatch e
   . injection e with e1 _
     subst e1
     cases v <;> rfl
theorem zgF(prog:Program)(w:World)(i:Int)(t:Tok):(zbx prog w).is (.inl i) (.int i t)=true:=zi8 i t
theorem zgE(prog:Program)(w:World)(x:Str)(t:Tok):(zbx prog w).is (.inr x) (.str x t)=true:=zi7 x t
inductive V where
 | non | bl (b:Bool) | int (i:Int) | str (x:Str) | byt (b:Array UInt8) | flt (b:UInt64) | ref (a:Addr) | ty (n:String)
 deriving DecidableEq
noncomputable def RelV:V->Value->Prop
 | .non,u=>u=Bf
 | .bl b,u=>u=B4 b
 | .int i,u=>∃ t,u=EM i t
 | .str x,u=>∃ t,u=EN x t
 | .byt b,u=>∃ t,u=Value.bytes b t
 | .flt b,u=>∃ t,u=Value.float b t
 | .ref a,u=>u=AJ a
 | .ty n,u=>u=Er n
noncomputable abbrev Vals:List V->List Value->Prop:=Paired RelV
theorem Vals.length{xs:List V}{us:List Value}(r:Vals xs us):xs.length=us.length:=BR r
theorem Vals.get:∀ {xs:List V} {us:List Value} {i:Nat} {x:V},Vals xs us->xs[i]?=some x->∃ u,us[i]?=some u/\RelV x u
 | _,_,_,_,.nil,e=>by simp at e
 | _,_,0,_,.cons r _,e=>by simp at e;subst e;exact⟨_,rfl,r⟩
 | _,_,i+1,x,.cons _ t,e=>by
   obtain⟨u,h1,h2⟩:=Vals.get (i:=i) (x:=x) t (by simpa using e);exact⟨u,by simpa using h1,h2⟩
theorem Vals.set{x:V}{u:Value}(r:RelV x u):∀ {xs:List V} {us:List Value} (i:Nat),Vals xs us->Vals (xs.set i x) (us.set i u)
 | _,_,_,.nil=>.nil
 | _,_,0,.cons _ t=>.cons r t
 | _,_,i+1,.cons q t=>.cons q (Vals.set r i t)
theorem Vals.append:∀ {xs ys:List V} {us ws:List Value},Vals xs us->Vals ys ws->Vals (xs++ys) (us++ws)
 | _,_,_,_,.nil,s=>s
 | _,_,_,_,.cons r t,s=>.cons r (Vals.append t s)
theorem Vals.take:∀ {xs:List V} {us:List Value} (n:Nat),Vals xs us->Vals (xs.take n) (us.take n)
 | _,_,0,_=>.nil
 | _,_,_+1,.nil=>.nil
 | _,_,n+1,.cons r t=>.cons r (Vals.take n t)
theorem Vals.drop:∀ {xs:List V} {us:List Value} (n:Nat),Vals xs us->Vals (xs.drop n) (us.drop n)
 | _,_,0,r=>r
 | _,_,_+1,.nil=>.nil
 | _,_,n+1,.cons _ t=>Vals.drop n t
noncomputable def RelO:Option V->Option Value->Prop
 | some v,some u=>RelV v u
 | none,none=>True
 | _,_=>False
noncomputable def KV{κ:Type}:List (κ×V)->List (κ×Value)->Prop:=Paired fun (p:κ×V) (q:κ×Value)=>p.1=q.1/\RelV p.2 q.2
noncomputable def kV:Key->V
 | .inl i=>.int i
 | .inr x=>.str x
inductive HO where
  | lst (xs:List V)
  | tup (xs:List V)
  | dK (kvs:List (Key×V)) | dT (kvs:List (List Key×V))
  | set (S:Int->Bool) (n:Nat)
  | ins (C dx:Addr) (fs:List (Str×V))
  | own (x:Addr)
  | xd (fs:List (Str×V))
  | met (f x:Addr)
  | rng (lo hi:Int)
  | frz (o:Obj) (u:HO)
  | tbl (ps:Array Value)
  | ext (φ:Heap->Prop)
noncomputable abbrev Hp:=Addr->Option HO
noncomputable def upd(H:Hp)(a:Addr)(o:HO):Hp:=fun b=>if b=a then some o else H b
theorem zbY{H:Hp}{a:Addr}{o:HO}:upd H a o a=some o:=by unfold upd;rw[if_pos rfl]
theorem zaP{H:Hp}{a b:Addr}{o:HO}(h:b≠a):upd H a o b=H b:=by unfold upd;rw[if_neg h]
theorem zn3{H:Hp}{a b:Addr}{o u:HO}(h:H a=some o)(h':H b=some u)(d:o≠u):a≠b:=by
 intro e;subst e;rw[h] at h';exact d (Aw h')
theorem zao{H:Hp}{a b:Addr}{o:HO}(h:H a=some o)(h':H b=none):a≠b:=by
 intro e;subst e;rw[h] at h';cases h'
def zfn(h:Heap)(a:Addr)(items:Array Value):Prop:=∃ o,h.get? a=some o/\o.cls=.type "tuple"/\o.dict=none/\∃ n,o.data=.seq items n
theorem zfn.t{h:Heap}{a:Addr}{items:Array Value}(x:zfn h a items):IsTup h a items:=let ⟨o,ho,hc,_,r⟩:=x;⟨o,ho,hc,r⟩
theorem zfn.new(h:Heap)(items:Array Value):zfn (h.push { cls:=.type "tuple",data:=.seq items }) h.objs.size items:=⟨_,Az _ rfl,rfl,rfl,0,rfl⟩
section
variable (P:Program) (w:World)
noncomputable def zdk(H:Hp)(h:Heap)(a:Addr):HO->Prop
 | .lst xs=>xs.length<=sizeLine/\∃ (its:List Value) (n:Nat),Vals xs its/\h.get? a=some { cls:=.type "list",data:=.seq its.toArray n }
 | .tup xs=>xs.length<=sizeLine/\∃ its:List Value,Vals xs its/\zfn h a its.toArray
 | .dK kvs=>kvs.length<=sizeLine/\(a==sysModules)=false/\∃ vs,KV kvs vs/\h.DictOf (zbx P w) a vs
 | .dT kvs=>kvs.length<=sizeLine/\(a==sysModules)=false/\∃ xs:List (List Key×Addr×Value),
     Paired (fun (p:List Key×V) (q:List Key×Addr×Value)=>p.1=q.1/\H q.2.1=some (.tup (p.1.map kV))/\RelV p.2 q.2.2) kvs xs /\
     ∃ o es ep,h.get? a=some o/\o.ExactDict/\o.data=.dict es ep/\es.toList=xs.map (entryOfKey (tupleKind (zbx P w)))/\(xs.map (·.1)).Nodup
 | .set S n=>h.SetOf (intKind P w) a S n
 | .ins C dx fs=>H dx=some (.own a)/\fs.length<=1000/\dx≠a/\h.get? a=some (PySem.W.instObj C dx) /\
     ∃ mA,h.Ns1 dx mA/\(∀ f,RelO (fs.lookup f) (mA f))/\PySem.Within mA (fs.map (·.1))
 | .own _=>∃ o,h.get? a=some o
 | .xd fs=>∃ mA,h.Ns1 a mA/\∀ f,RelO (fs.lookup f) (mA f)
 | .rng lo hi=>∃ t u v,h.get? a=some { cls:=.type "range",data:=.fields #[.int lo t,.int hi u,.int 1 v] }
 | .frz o u=>h.get? a=some o/\zdk H h a u
 | .tbl ps=>h.get? a=some { cls:=.none,data:=.fields ps }
 | .met f x=>h.get? a=some (Dt (.ref f) (.ref x))
 | .ext φ=>φ h/\(∃ o,h.get? a=some o)/\∀ h1 h2:Heap,φ h1->(∀ o,h1.get? a=some o->h2.get? a=some o)->φ h2
def HOk(H:Hp)(h:Heap):Prop:=∀ a o,H a=some o->zdk P w H h a o
end
section
variable {P:Program} {w:World} {H H':Hp} {h h':Heap} {a:Addr} {o:HO}
theorem zdk.lt(x:zdk P w H h a o):a < h.objs.size:=by
 cases o with
 | lst xs=>obtain⟨_,_,_,_,e⟩:=x;exact Am e
 | tup xs=>obtain⟨_,_,_,p⟩:=x;exact p.t.lt
 | dK kvs=>obtain⟨_,_,_,_,o,_,_,e,_⟩:=x;exact Am e
 | dT kvs=>obtain⟨_,_,_,_,o,_,_,e,_⟩:=x;exact Am e
 | set S n=>obtain⟨o,_,_,_,e,_⟩:=x;exact Am e
 | ins C dx fs=>obtain⟨_,_,_,e,_⟩:=x;exact Am e
 | own y=>obtain⟨_,e⟩:=x;exact Am e
 | xd fs=>obtain⟨_,⟨_,_,_,e,_⟩,_⟩:=x;exact Am e
 | rng lo hi=>obtain⟨_,_,_,e⟩:=x;exact Am e
 | frz ob u=>obtain⟨e,_⟩:=x;exact Am e
 | tbl ps=>exact Am (show h.get? a=some _ from x)
 | met f y=>exact Am (show h.get? a=some _ from x)
 | ext φ=>obtain⟨_,⟨_,e⟩,_⟩:=x;exact Am e
theorem Paired.mapP{α β:Type}{F G:α->β->Prop}:∀ {l₁:List α} {l₂:List β},Paired F l₁ l₂->(∀ a b,F a b->G a b)->Paired G l₁ l₂
 | _,_,.nil,_=>.nil
 | _,_,.cons r t,f=>.cons (f _ _ r) (Paired.mapP t f)
theorem zdk.stay(x:zdk P w H h a o)(k:∀ b u,(b=a\/H b=some (.own a))->h.get? b=some u->h'.get? b=some u)
   (ho:∀ b,H b=some (.own a)->H' b=some (.own a)) (ht:∀ b xs,H b=some (.tup xs)->H' b=some (.tup xs)):zdk P w H' h' a o:=by
 induction o with
 | lst xs=>obtain⟨z,its,n,r,e⟩:=x;exact⟨z,its,n,r,k _ _ (.inl rfl) e⟩
 | tup xs=>obtain⟨z,its,r,ob,e,c⟩:=x;exact⟨z,its,r,ob,k _ _ (.inl rfl) e,c⟩
 | dK kvs=>obtain⟨z,y,vs,r,ob,es,ep,e,c⟩:=x;exact⟨z,y,vs,r,ob,es,ep,k _ _ (.inl rfl) e,c⟩
 | dT kvs =>
   obtain⟨z,y,xs,r,ob,es,ep,e,c⟩:=x;exact⟨z,y,xs,Paired.mapP r fun p q z=>⟨z.1,ht _ _ z.2.1,z.2.2⟩,ob,es,ep,k _ _ (.inl rfl) e,c⟩
 | set S n=>obtain⟨ob,es,ep,t,e,c⟩:=x;exact⟨ob,es,ep,t,k _ _ (.inl rfl) e,c⟩
 | ins C dx fs =>
   obtain⟨d,z,ne,e,mA,⟨od,es,ep,e2,c⟩,r⟩:=x;exact⟨ho _ d,z,ne,k _ _ (.inl rfl) e,mA,⟨od,es,ep,k _ _ (.inr d) e2,c⟩,r⟩
 | own y=>obtain⟨ob,e⟩:=x;exact⟨ob,k _ _ (.inl rfl) e⟩
 | xd fs=>obtain⟨mA,⟨od,es,ep,e,c⟩,r⟩:=x;exact⟨mA,⟨od,es,ep,k _ _ (.inl rfl) e,c⟩,r⟩
 | rng lo hi=>obtain⟨t,u,v,e⟩:=x;exact⟨t,u,v,k _ _ (.inl rfl) e⟩
 | frz ob u ih=>obtain⟨e,q⟩:=x;exact⟨k _ _ (.inl rfl) e,ih q⟩
 | tbl ps =>
   have e:h.get? a=some { cls:=.none,data:=.fields ps }:=x;show h'.get? a=some { cls:=.none,data:=.fields ps };exact k a _ (.inl rfl) e
 | met f y =>
   have e:h.get? a=some (Dt (.ref f) (.ref y)):=x;show h'.get? a=some (Dt (.ref f) (.ref y));exact k a _ (.inl rfl) e
 | ext φ=>obtain⟨p,⟨o,e⟩,st⟩:=x;exact⟨st _ _ p fun o q=>k _ _ (.inl rfl) q,⟨o,k _ _ (.inl rfl) e⟩,st⟩
theorem HOk.lt(x:HOk P w H h)(e:H a=some o):a < h.objs.size:=(x a o e).lt
theorem HOk.fresh(x:HOk P w H h)(e:h.objs.size<=a):H a=none:=by
 cases q:H a with
 | none=>rfl
 | some u=>exact absurd (AC (x.lt q) e) (AR _)
theorem HOk.kept(x:HOk P w H h)(k:∀ b u,h.get? b=some u->h'.get? b=some u):HOk P w H h':=fun a o e =>
 (x a o e).stay (fun b u _ q=>k b u q) (fun _ q=>q) fun _ _ q=>q
theorem HOk.laid(x:HOk P w H h)(k:∀ b u,h.get? b=some u->h'.get? b=some u)(hp:h.objs.size<=a)(new:zdk P w (upd H a o) h' a o):HOk P w (upd H a o) h':=fun b u e=>by
 have hn:=x.fresh hp
 by_cases hb:b=a
 . subst hb;rw[zbY] at e;cases e;exact new
 . rw[zaP hb] at e;exact (x b u e).stay (fun c v _ q=>k c v q) (fun c q=>by rw[zaP (zao q hn)];exact q) fun c xs q=>by rw[zaP (zao q hn)];exact q
end
def Rd(H:Hp)(a:Addr)(u:HO):Prop:=H a=some u\/∃ o,H a=some (.frz o u)
theorem Rd.ok{P:Program}{w:World}{H:Hp}{h:Heap}{a:Addr}{u:HO}(r:Rd H a u)(x:HOk P w H h):zdk P w H h a u:=by
 rcases r with r | ⟨o,r⟩
 . exact x a u r
 . obtain⟨_,q⟩:=x a _ r;exact q
noncomputable def Mut:Option HO->Prop
 | some (.lst _)=>True
 | some (.dK _)=>True
 | some (.dT _)=>True
 | some (.set _ _)=>True
 | some (.ins _ _ _)=>True
 | some (.ext _)=>True
 | _=>False
section
variable {P:Program} {w:World} {H:Hp} {h h':Heap} {x e:Addr} {o':HO}
theorem HOk.write(ok:HOk P w H h)(mu:Mut (H x))(he:e=x\/H e=some (.own x))(k:∀ b u,b≠e->h.get? b=some u->h'.get? b=some u)(heo:∃ u,h'.get? e=some u)
   (new:zdk P w (upd H x o') h' x o'):HOk P w (upd H x o') h':=fun b u q=>by
 have nown:∀ c y,H c=some (.own y)->c≠x:=fun c y r z=>by subst z;rw[r] at mu;exact mu
 have ntup:∀ c xs,H c=some (.tup xs)->c≠x:=fun c xs r z=>by subst z;rw[r] at mu;exact mu
 by_cases hb:b=x
 . subst hb;rw[zbY] at q;cases q;exact new
 . rw[zaP hb] at q
   by_cases hbe:b=e
   . have q':H b=some (.own x):=by
       rcases he with z | z
       . exact absurd (hbe.trans z) hb
       . rw[hbe];exact z
     rw[q] at q';cases q';obtain⟨v,hv⟩:=heo;exact⟨v,by rw[hbe];exact hv⟩
   . refine (ok b u q).stay (fun c v hc r=>k c v ?_ r) (fun c r=>by rw[zaP (nown c b r)];exact r) fun c xs r=>by rw[zaP (ntup c xs r)];exact r
     rcases hc with rfl | hc
     . exact hbe
     . rintro rfl
       rcases he with z | z
       . exact nown c b hc z
       . rw[hc] at z;cases z;exact hb rfl
end
structure Un(fs ex:List Addr)(H H':Hp)(h h':Heap):Prop where
 keep:∀ b o,h.get? b=some o->H b=none->b ∉ fs->b ∉ ex->h'.get? b=some o
 slot:∀ b o,h.get? b=some o->H b=none->b∈fs->b ∉ ex->∃ sl,h'.get? b=some { o with slots:=sl }
 free:∀ b o,h.get? b=some o->H b=none->b ∉ ex->H' b=none
 there:∀ b o,h.get? b=some o->b ∉ ex->∃ o',h'.get? b=some o'
 tups:∀ b xs,H b=some (.tup xs)->H' b=some (.tup xs)
 frzs:∀ b o u,H b=some (.frz o u)->H' b=some (.frz o u)
 tbls:∀ b ps,H b=some (.tbl ps)->∃ more,H' b=some (.tbl (ps++more))
section
variable {fs fs' ex ex':List Addr} {H H1 H2:Hp} {h h1 h2 h':Heap} {a x e:Addr} {o:HO}
theorem Un.any(u:Un fs ex H H1 h h1){b:Addr}{ob:Obj}(q:h.get? b=some ob)(n:H b=none)(hx:b ∉ ex):∃ sl,h1.get? b=some { ob with slots:=sl }:=by
 by_cases hb:b∈fs
 . exact u.slot b ob q n hb hx
 . exact⟨ob.slots,u.keep b ob q n hb hx⟩
theorem Un.kept(k:∀ b u,h.get? b=some u->h'.get? b=some u):Un fs ex H H h h' :=
 ⟨fun b ob q _ _ _=>k b ob q,fun b ob q _ _ _=>⟨ob.slots,k b ob q⟩,fun _ _ _ n _=>n,fun b ob q _=>⟨ob,k b ob q⟩,fun _ _ q=>q,fun _ _ _ q=>q,fun _ ps q=>⟨#[],by rw[q];simp⟩⟩
theorem Un.refl:Un fs ex H H h h:=Un.kept fun _ _ q=>q
theorem Un.laid(k:∀ b u,h.get? b=some u->h'.get? b=some u)(hp:h.objs.size<=a)(hn:H a=none):Un fs ex H (upd H a o) h h' where
 keep:=fun b u q _ _ _=>k b u q
 slot:=fun b u q _ _ _=>⟨u.slots,k b u q⟩
 free:=fun b u q n _=>by rw[zaP (AG (AC (Am q) hp))];exact n
 there:=fun b u q _=>⟨u,k b u q⟩
 tups:=fun b xs q=>by rw[zaP (zao q hn)];exact q
 frzs:=fun b u xs q=>by rw[zaP (zao q hn)];exact q
 tbls:=fun b ps q=>⟨#[],by rw[zaP (zao q hn),q];simp⟩
theorem Un.write(mu:Mut (H x))(he:e=x\/H e=some (.own x))(k:∀ b u,b≠e->h.get? b=some u->h'.get? b=some u)(heo:∃ u,h'.get? e=some u):Un fs ex H (upd H x o) h h':=by
 have hx:∀ b,H b=none->b≠x:=fun b n z=>by subst z;rw[n] at mu;exact mu
 have hb:∀ b,H b=none->b≠e:=fun b n z=>by
   subst z
   rcases he with r | r
   . exact hx b n r
   . rw[n] at r;cases r
 have hm:∀ b u,H b=some u->¬ Mut (some u)->b≠x:=fun b u q nm z=>by subst z;rw[q] at mu;exact nm mu
 refine⟨fun b u q n _ _=>k b u (hb b n) q,fun b u q n _ _=>⟨u.slots,k b u (hb b n) q⟩,fun b u q n _=>by rw[zaP (hx b n)];exact n,fun b u q _=>?_,
   fun b xs q=>by rw[zaP (hm b _ q fun z=>z)];exact q,fun b u xs q=>by rw[zaP (hm b _ q fun z=>z)];exact q,fun b ps q=>⟨#[],by rw[zaP (hm b _ q fun z=>z),q];simp⟩⟩
 by_cases hbe:b=e
 . subst hbe;exact heo
 . exact⟨u,k b u hbe q⟩
end
noncomputable def trk(h:Heap)(H:Hp):List Addr:=(Ar h.objs.size).filter fun a=>(H a).isSome
noncomputable def hidT(h:Heap)(H:Hp):Heap:=PySem.W.hideAll h (trk h H)
theorem zjb(h:Heap)(H:Hp):(hidT h H).objs.size=h.objs.size:=PySem.W.hideAll_size _ _
theorem zkW{h:Heap}{H:Hp}{b:Addr}{o:Obj}(e:h.get? b=some o)(n:H b=none):(hidT h H).get? b=some o :=
 PySem.W.hideAll_get _ e fun hm=>by
   have q:(H b).isSome=true:=(List.mem_filter.mp hm).2;rw[n] at q;simp at q
theorem zmv{h:Heap}{H:Hp}{b:Addr}{o:Obj}(e:(hidT h H).get? b=some o):h.get? b=some o/\H b=none:=by
 have e':h.get? b=some o:=PySem.W.of_hideAll (trk h H) e;refine⟨e',?_⟩
 cases q:H b with
 | none=>rfl
 | some x =>
   have hm:b∈trk h H:=List.mem_filter.mpr ⟨List.mem_range.mpr (Am e'),by simp[q]⟩;have z:(hidT h H).get? b=none:=PySem.W.hideAll_none (trk h H) hm;rw[z] at e;cases e
noncomputable def zdF(g h:Heap)(L:Addr):List (Addr×Obj):=(Ar h.objs.size).filterMap fun a=>if a=L\/(g.get? a).isSome=true then none else (h.get? a).map fun o=>(a,o)
theorem zdb{g h:Heap}{L a:Addr}{o:Obj}(h1:a≠L)(h2:g.get? a=none)(h3:h.get? a=some o):(a,o)∈zdF g h L :=
 List.mem_filterMap.mpr ⟨a,List.mem_range.mpr (Am h3),by simp[h1,h2,h3]⟩
theorem zeA{g h:Heap}{L:Addr}{p:Addr×Obj}(hp:p∈zdF g h L):p.1≠L/\g.get? p.1=none/\h.get? p.1=some p.2:=by
 obtain⟨b,_,e⟩:=List.mem_filterMap.mp hp
 split at e
 . cases e
 . rename_i hn
   cases q:h.get? b with
   | none=>rw[q] at e;simp at e
   | some u =>
     rw[q] at e;simp only[Aq,EV] at e;subst e;refine⟨fun z=>hn (.inl z),?_,q⟩;show g.get? b=none
     cases r:g.get? b with
     | none=>rfl
     | some v=>exact (hn (.inr (by simp[r]))).elim
theorem zfI{g h:Heap}{L:Addr}:News g L h (zdF g h L):=fun p hp=>let ⟨a,b,c⟩:=zeA hp;⟨c,a,b⟩
structure Mod(K:Ac)(mg:Str->Option Value)(base:Heap):Prop where
 kin:K.In base
 glob:base.Ns mainGlobals mg
 blt:∃ mb,base.Ns builtinsNs mb/\∀ x:Str,x≠"__name__"->mb x=bootBuiltins x
 nolimit:base.NoLimit
structure Cx where
 prog:Program
 w:World
 K:Ac
 mg:Str->Option Value
 base:Heap
 A:Around
 N:List Str
 s₀:Shared
 H₀:Hp
 env:Env
 outer:List Env
 stack:List Env
 ex:List Addr
 fn:Str->Bool
 calm:Bool
 pn:List (Addr×Obj)
 xe:Value->Shared->Prop
noncomputable def frs(l:List Env):List Addr:=l.filterMap (·.frame)
noncomputable abbrev Cx.fs (X:Cx):List Addr:=frs X.outer
def Vis(sc:Scope)(x:Str):Prop:=sc.names.lookup x=some .local\/sc.names.lookup x=some .cell\/sc.names.lookup x=some .free
def Loc(sc:Scope)(x:Str):Prop:=sc.names.lookup x=some .local\/sc.names.lookup x=some .cell
def Look(env:Env)(h:Heap)(m:Str->Option Value)(x:Str)(u:Value):Prop :=
 (env.kindOf x=some .local/\m x=some u)\/((env.kindOf x=some .cell\/env.kindOf x=some .free)/\∃ c,env.cells.lookup x=some c/\h.IsCell c (some u))
structure Cx.Ok(X:Cx):Prop where
 mod:Mod X.K X.mg X.base
 kind:X.env.scope.kind=.function
 glob:X.env.globals=mainGlobals
 blt:X.env.builtins=builtinsNs
 above:X.s₀.heap.objs.size<=X.env.locals
 inj:∀ x y c,X.env.cells.lookup x=some c->X.env.cells.lookup y=some c->x=y
 has:∀ x,(X.env.kindOf x=some .cell\/X.env.kindOf x=some .free)->∃ c,X.env.cells.lookup x=some c
 cab:∀ x c,X.fn x=true->X.env.cells.lookup x=some c->X.s₀.heap.objs.size<=c
 hd:X.calm=true->X.A.handled=none
 frames:X.A.frames=some X.stack
 stk:X.stack=X.outer\/(X.stack=X.env::X.outer/\X.env.frame=some X.env.locals)
 exf:∀ b∈X.ex,b≠X.env.locals/\∀ x c,X.env.cells.lookup x=some c->c≠b
 bs:∀ b o,X.base.get? b=some o->X.s₀.heap.get? b=some o/\X.H₀ b=none
 bsz:X.base.objs.size<=X.s₀.heap.objs.size
 noex:∀ b o,X.base.get? b=some o->b ∉ X.ex
 exfs:∀ b∈X.ex,b ∉ X.fs
 funs:X.s₀.heap.FunFrames X.base X.outer
 frf:∀ b∈X.fs,X.H₀ b=none
structure Inv(X:Cx)(pins:List (Addr×Obj))(σ:List (Option V))(H:Hp)(s:Shared):Prop where
 ok:X.Ok
 os:s.os=X.s₀.os
 bare:AllBare s.gens
 base:Un X.fs X.ex X.H₀ H X.s₀.heap s.heap
 loc:∃ m,s.heap.Ns X.env.locals m/\∀ (i:Nat) (x:Str) (v:V),X.N[i]?=some x->σ[i]?=some (some v)->Vis X.env.scope x->∃ u,RelV v u/\Look X.env s.heap m x u
 cell:∀ x c,X.env.cells.lookup x=some c->∃ v,s.heap.IsCell c v
 free:H X.env.locals=none
 freeC:∀ x c,X.env.cells.lookup x=some c->H c=none
 pin:∀ p∈X.pn++pins,s.heap.get? p.1=some p.2/\H p.1=none/\p.1≠X.env.locals/\p.1 ∉ X.fs/\∀ v,p.2.data≠.cell v
 hok:HOk X.prog X.w H s.heap
 len:σ.length=X.N.length
section
variable {X:Cx} {pins:List (Addr×Obj)} {σ:List (Option V)} {H H':Hp} {s:Shared} {h':Heap}
theorem Cx.Ok.nofr(ok:X.Ok){b:Addr}{o:Obj}(e:X.base.get? b=some o):b ∉ X.fs:=fun hb=>by
 have:=(ok.funs.mem hb).1;rw[e] at this;cases this
theorem Inv.bs(I:Inv X pins σ H s):∀ b o,X.base.get? b=some o->s.heap.get? b=some o/\H b=none:=fun b o e =>
 ⟨I.base.keep b o (I.ok.bs b o e).1 (I.ok.bs b o e).2 (I.ok.nofr e) (I.ok.noex b o e),I.base.free b o (I.ok.bs b o e).1 (I.ok.bs b o e).2 (I.ok.noex b o e)⟩
theorem Inv.bk(I:Inv X pins σ H s):∀ b o,X.base.get? b=some o->s.heap.get? b=some o:=fun b o e=>(I.bs b o e).1
theorem Inv.mod(I:Inv X pins σ H s):Mod X.K X.mg X.base:=I.ok.mod
theorem Inv.kIn(I:Inv X pins σ H s):X.K.In s.heap:=I.ok.mod.kin.keeps I.bk
theorem Inv.fr(I:Inv X pins σ H s):∃ m,Fr X.base X.env.locals s.heap m :=
 let ⟨m,hn,_⟩:=I.loc
 ⟨m,hn,I.bk,AH I.ok.bsz I.ok.above⟩
theorem Inv.lt(I:Inv X pins σ H s):X.env.locals < s.heap.objs.size:=let ⟨_,hn,_⟩:=I.loc;hn.lt
theorem Inv.sz(I:Inv X pins σ H s):X.s₀.heap.objs.size<=s.heap.objs.size:=AH I.ok.above (Ca I.lt)
theorem Inv.nofs(I:Inv X pins σ H s){a:Addr}(h:s.heap.objs.size<=a):a ∉ X.fs:=fun hb=>by
 obtain⟨_,o,ho,_⟩:=I.ok.funs.mem hb;exact absurd (AC (Am ho) (AH I.sz h)) (AR _)
theorem Inv.cne(I:Inv X pins σ H s):∀ x c,X.env.cells.lookup x=some c->c≠X.env.locals:=fun x c e z=>by
 obtain⟨v,o,ho,hd⟩:=I.cell x c e;obtain⟨m,⟨o',es,ep,ho',hd',_⟩,_⟩:=I.loc;rw[z,ho'] at ho;cases ho;rw[hd'] at hd;cases hd
theorem Inv.funs(I:Inv X pins σ H s):s.heap.FunFrames X.base X.outer:=by
 have all:∀ (l:List Env),(∀ b∈frs l,b∈X.fs)->X.s₀.heap.FunFrames X.base l->s.heap.FunFrames X.base l:=by
   intro l
   induction l with
   | nil=>intro _ _;trivial
   | cons env r ih =>
     intro hs hl;obtain⟨hk,⟨L,o,hf,hn,ho,hd⟩,hr⟩:=hl;have hL:L∈X.fs:=hs L (by unfold frs;rw[C4,hf];exact Ag);obtain⟨sl,e⟩:=I.base.slot L o ho (I.ok.frf L hL) hL fun z=>I.ok.exfs L z hL;exact⟨hk,⟨L,_,hf,hn,e,hd⟩,ih (fun b hb=>hs b (by unfold frs;rw[C4,hf];exact Af _ hb)) hr⟩
 exact all X.outer (fun _ hb=>hb) I.ok.funs
theorem Inv.stack(I:Inv X pins σ H s):s.heap.FunFrames X.base X.stack:=by
 rcases I.ok.stk with e | ⟨e,hf⟩
 . rw[e];exact I.funs
 . rw[e];obtain⟨m,hn,_⟩:=I.loc;refine .cons (by rw[I.ok.kind];decide) hf hn ?_ I.funs;exact Heap.get?_none_of_le (AH I.ok.bsz I.ok.above)
theorem Inv.stkSub(I:Inv X pins σ H s):∀ b∈frs X.stack,b∈X.env.locals::X.fs:=fun b hb=>by
 rcases I.ok.stk with e | ⟨e,hf⟩
 . rw[e] at hb;exact Af _ hb
 . rw[e] at hb;unfold frs at hb;rw[C4,hf] at hb;exact hb
theorem Inv.stkFree(I:Inv X pins σ H s):∀ b∈frs X.stack,H b=none:=fun b hb=>by
 rcases List.mem_cons.mp (I.stkSub b hb) with e | hb
 . rw[e];exact I.free
 . obtain⟨_,o,ho,_⟩:=I.ok.funs.mem hb;exact I.base.free b o ho (I.ok.frf b hb) fun z=>I.ok.exfs b z hb
theorem Inv.step{g':Array GenState}{t':Nat}{d':Drawn}{ch:List Addr}(I:Inv X pins σ H s)
   (hch:∀ b∈ch,(b∈X.ex\/X.s₀.heap.objs.size<=b)/\b≠X.env.locals/\(∀ x c,X.env.cells.lookup x=some c->c≠b)/\∀ p∈X.pn++pins,p.1≠b)
   (keep:∀ b o,b≠X.env.locals->b ∉ X.fs->b ∉ ch->s.heap.get? b=some o->H b=none->h'.get? b=some o)
   (slot:∀ b o,b≠X.env.locals->b∈X.fs->b ∉ ch->s.heap.get? b=some o->H b=none->∃ sl,h'.get? b=some { o with slots:=sl }) (free:∀ b o,b ∉ ch->s.heap.get? b=some o->H b=none->H' b=none)
   (there:∀ b o,b ∉ ch->s.heap.get? b=some o->∃ o',h'.get? b=some o')
   (tups:∀ b xs,H b=some (.tup xs)->H' b=some (.tup xs)) (frzs:∀ b o u,H b=some (.frz o u)->H' b=some (.frz o u)) (tbls:∀ b ps,H b=some (.tbl ps)->∃ more,H' b=some (.tbl (ps++more)))
   (ns:∀ m,s.heap.Ns X.env.locals m->h'.Ns X.env.locals m) (hok:HOk X.prog X.w H' h') (hg:AllBare g') :
   Inv X pins σ H' { s with heap:=h',gens:=g',drawn:=d',toks:=t' }:=by
 have neL:∀ b o,X.s₀.heap.get? b=some o->b≠X.env.locals:=fun b o e=>AG (AC (Am e) I.ok.above);have neC:∀ b o,X.s₀.heap.get? b=some o->b ∉ X.ex->b ∉ ch:=fun b o e hx hb=>by
   rcases (hch b hb).1 with z | z
   . exact hx z
   . exact absurd (AC (Am e) z) (AR _)
 have cellK:∀ x c,X.env.cells.lookup x=some c->∀ v,s.heap.IsCell c v->h'.IsCell c v:=by
   rintro x c e v ⟨o,ho,hd⟩;have nch:c ∉ ch:=fun z=>(hch c z).2.2.1 x c e rfl
   by_cases hc:c∈X.fs
   . obtain⟨sl,q⟩:=slot c o (I.cne x c e) hc nch ho (I.freeC x c e);exact⟨_,q,hd⟩
   . exact⟨o,keep c o (I.cne x c e) hc nch ho (I.freeC x c e),hd⟩
 refine⟨I.ok,I.os,hg,⟨fun b o e n hb hx=>?_,fun b o e n hb hx=>?_,fun b o e n hx=>?_,fun b o e hx=>?_,fun b xs e=>tups b xs (I.base.tups b xs e),fun b o xs e=>frzs b o xs (I.base.frzs b o xs e),fun b ps e=>?_⟩,?_,fun x c e=>?_,?_,fun x c e=>?_,fun p hp=>?_,hok,I.len⟩
 . exact keep b o (neL b o e) hb (neC b o e hx) (I.base.keep b o e n hb hx) (I.base.free b o e n hx)
 . obtain⟨sl,e1⟩:=I.base.slot b o e n hb hx;obtain⟨sl',e2⟩:=slot b _ (neL b o e) hb (neC b o e hx) e1 (I.base.free b o e n hx);exact⟨sl',e2⟩
 . obtain⟨o',e1⟩:=I.base.there b o e hx;exact free b o' (neC b o e hx) e1 (I.base.free b o e n hx)
 . obtain⟨o',e1⟩:=I.base.there b o e hx;exact there b o' (neC b o e hx) e1
 . obtain⟨m1,e1⟩:=I.base.tbls b ps e;obtain⟨m2,e2⟩:=tbls b _ e1;exact⟨m1++m2,by rw[e2,Array.append_assoc]⟩
 . obtain⟨m,hn,hl⟩:=I.loc;refine⟨m,ns m hn,fun i x v e1 e2 e3=>?_⟩;obtain⟨u,r,l⟩:=hl i x v e1 e2 e3;refine⟨u,r,?_⟩
   rcases l with l | ⟨k,c,e,z⟩
   . exact .inl l
   . exact .inr ⟨k,c,e,cellK x c e _ z⟩
 . obtain⟨v,z⟩:=I.cell x c e;exact⟨v,cellK x c e v z⟩
 . obtain⟨m,⟨o,_,_,ho,_⟩,_⟩:=I.loc;exact free _ o (fun z=>(hch _ z).2.1 rfl) ho I.free
 . obtain⟨v,o,ho,hd⟩:=I.cell x c e;exact free c o (fun z=>(hch c z).2.2.1 x c e rfl) ho (I.freeC x c e)
 . obtain⟨e,n,ne,nf,d⟩:=I.pin p hp;have nch:p.1 ∉ ch:=fun z=>(hch p.1 z).2.2.2 p hp rfl;exact⟨keep p.1 p.2 ne nf nch e n,free p.1 p.2 nch e n,ne,nf,d⟩
theorem Inv.un{t':Nat}(I:Inv X pins σ H s)(u:Un X.fs [] H H' s.heap h')(hok:HOk X.prog X.w H' h'):Inv X pins σ H' { s with heap:=h',toks:=t' }:=by
 obtain⟨m,⟨o,es,ep,ho,r⟩,_⟩:=id I.loc;obtain⟨sl,hL⟩:=u.any ho I.free (by simp);exact I.step (g':=s.gens) (d':=s.drawn) (ch:=[]) (fun _ z=>nomatch z) (fun b o _ hb _ e n=>u.keep b o e n hb (by simp)) (fun b o _ hb _ e n=>u.slot b o e n hb (by simp)) (fun b o _ e n=>u.free b o e n (by simp)) (fun b o _ e=>u.there b o e (by simp)) u.tups u.frzs u.tbls (fun m' hm=>by
   obtain⟨o',es',ep',ho',r'⟩:=hm;rw[ho] at ho';cases ho';exact⟨_,es',ep',hL,r'⟩) hok I.bare
theorem Inv.call{g':Array GenState}{t':Nat}{d':Drawn}{ch:List Addr}(I:Inv X pins σ H s)(u:Un (frs X.stack) ch H H' s.heap h')(hok:HOk X.prog X.w H' h')(hg:AllBare g')
   (hch:∀ b∈ch,(b∈X.ex\/X.s₀.heap.objs.size<=b)/\b≠X.env.locals/\(∀ x c,X.env.cells.lookup x=some c->c≠b)/\∀ p∈X.pn++pins,p.1≠b) :
   Inv X pins σ H' { s with heap:=h',gens:=g',drawn:=d',toks:=t' }:=by
 obtain⟨m,⟨o,es,ep,ho,r⟩,_⟩:=id I.loc;obtain⟨sl,hL⟩:=u.any ho I.free fun z=>(hch _ z).2.1 rfl;exact I.step (ch:=ch) hch (fun b o hL hb hc e n=>u.keep b o e n (fun z=>(List.mem_cons.mp (I.stkSub b z)).elim hL hb) hc) (fun b o _ _ hc e n=>u.any e n hc) (fun b o hc e n=>u.free b o e n hc) (fun b o hc e=>u.there b o e hc) u.tups u.frzs u.tbls (fun m' hm=>by
   obtain⟨o',es',ep',ho',r'⟩:=hm;rw[ho] at ho';cases ho';exact⟨_,es',ep',hL,r'⟩) hok hg
theorem Inv.turned{t':Nat}{it:Addr}(I:Inv X pins σ H s)(k:∀ b o,b≠it->s.heap.get? b=some o->h'.get? b=some o)(hn:H it=none)(hL:it≠X.env.locals)
   (h1:it∈X.ex\/X.s₀.heap.objs.size<=it) (h2:∀ x c,X.env.cells.lookup x=some c->c≠it) (h3:∀ p∈X.pn++pins,p.1≠it):Inv X pins σ H { s with heap:=h',toks:=t' }:=by
 have nit:∀ b u,H b=some u->b≠it:=fun b u e z=>by rw[z,hn] at e;cases e
 refine I.step (g':=s.gens) (d':=s.drawn) (ch:=[it]) (fun b hb=>?_) (fun b o _ _ hc e _=>k b o (fun z=>hc (by simp[z])) e) (fun b o _ _ hc e _=>⟨o.slots,k b o (fun z=>hc (by simp[z])) e⟩) (fun _ _ _ _ n=>n)
   (fun b o hc e=>⟨o,k b o (fun z=>hc (by simp[z])) e⟩) (fun _ _ e=>e) (fun _ _ _ e=>e) (fun b ps e=>⟨#[],by rw[e];simp⟩) (fun m hm=>?_) (fun b u e=>?_) I.bare
 . have e:b=it:=by simpa using hb
   subst e;exact⟨h1,hL,h2,h3⟩
 . obtain⟨o,es,ep,ho,r⟩:=hm;exact⟨o,es,ep,k _ o (AV hL) ho,r⟩
 . refine (I.hok b u e).stay (fun c v hc q=>k c v ?_ q) (fun _ q=>q) fun _ _ q=>q
   rcases hc with z | z
   . rw[z];exact nit b u e
   . exact nit c _ z
theorem Inv.tok(I:Inv X pins σ H s)(t:Nat):Inv X pins σ H { s with toks:=t }:=I.un (h':=s.heap) (t':=t) Un.refl I.hok
theorem Inv.kept{t':Nat}(I:Inv X pins σ H s)(k:∀ b u,s.heap.get? b=some u->h'.get? b=some u):Inv X pins σ H { s with heap:=h',toks:=t' }:=I.un (Un.kept k) (I.hok.kept k)
theorem Inv.laid{a:Addr}{o:HO}{t':Nat}(I:Inv X pins σ H s)(k:∀ b u,s.heap.get? b=some u->h'.get? b=some u)(hp:s.heap.objs.size<=a)(new:zdk X.prog X.w (upd H a o) h' a o) :
   Inv X pins σ (upd H a o) { s with heap:=h',toks:=t' }:=I.un (Un.laid k hp (I.hok.fresh hp)) (I.hok.laid k hp new)
theorem Inv.write{x e:Addr}{o:HO}{t':Nat}(I:Inv X pins σ H s)(mu:Mut (H x))(he:e=x\/H e=some (.own x))(k:∀ b u,b≠e->s.heap.get? b=some u->h'.get? b=some u)(heo:∃ u,h'.get? e=some u)
   (new:zdk X.prog X.w (upd H x o) h' x o):Inv X pins σ (upd H x o) { s with heap:=h',toks:=t' }:=I.un (Un.write mu he k heo) (I.hok.write mu he k heo new)
theorem Inv.pins_of{pins':List (Addr×Obj)}(I:Inv X pins σ H s)(h:∀ p∈pins',s.heap.get? p.1=some p.2/\H p.1=none/\p.1≠X.env.locals/\p.1 ∉ X.fs/\∀ v,p.2.data≠.cell v):Inv X pins' σ H s :=
 ⟨I.ok,I.os,I.bare,I.base,I.loc,I.cell,I.free,I.freeC,fun p hp=>(List.mem_append.mp hp).elim (fun z=>I.pin p (Bj _ z)) (h p),I.hok,I.len⟩
theorem zhq{N:List Str}(hN:N.Nodup){i j:Nat}{x:Str}(a:N[i]?=some x)(b:N[j]?=some x):i=j:=by
 obtain⟨h1,e1⟩:=List.getElem?_eq_some_iff.mp a;obtain⟨h2,e2⟩:=List.getElem?_eq_some_iff.mp b;exact (List.getElem_inj hN).mp (e1.trans e2.symm)
theorem zfW{M:Model}{A:Around}{E:Value->Shared->Prop}{i:Nat}{x:Str}{v:V}{u:Value}{Q:Unit->Shared->Prop}(I:Inv X pins σ H s)(hN:X.N.Nodup)(hi:X.N[i]?=some x)(hx:Loc X.env.scope x)(r:RelV v u)
   (h:∀ s',Inv X pins (σ.set i (some v)) H s'->(∃ a,Cb a s.heap s'.heap/\(a=X.env.locals\/X.env.cells.lookup x=some a))->Q () s') (hf:X.fn x=true\/X.env.scope.names.lookup x=some .local:=by first | exact .inl rfl | exact .inr rfl | assumption):wpAny M A (storeName X.env x u) Q E s:=by
 obtain⟨m,hn,hl⟩:=id I.loc;have hcls:(X.env.scope.kind==.class || (X.env.scope.kind==.module&&X.env.locals != X.env.globals))=false:=by rw[I.ok.kind];rfl
 have hiσ:i < σ.length:=by rw[I.len];exact (List.getElem?_eq_some_iff.mp hi).1
 have cne:=I.cne;have tracked:∀ {a:Addr} {h':Heap},(∃ o,s.heap.get? a=some o/\H a=none)->Cb a s.heap h'->HOk X.prog X.w H h':=fun {a h'} ha hs b ob e=>by
   obtain⟨_,_,hfree⟩:=ha;refine (I.hok b ob e).stay (fun c w' hc q=>(hs.2 c ?_).trans q) (fun _ q=>q) fun _ _ q=>q;rintro rfl
   rcases hc with rfl | hc
   . rw[hfree] at e;cases e
   . rw[hfree] at hc;cases hc
 rcases hx with hk | hk
 . refine wpAny_storeName_local hk hn (fun h' hn' hs=>?_) hcls;obtain⟨oL,_,_,hoL,_⟩:=id hn;refine h _ ⟨I.ok,I.os,I.bare,⟨fun b o e n hb hx=>?_,fun b o e n hb hx=>?_,I.base.free,fun b o e hx=>?_,I.base.tups,I.base.frzs,I.base.tbls⟩,⟨_,hn',fun j y v' e1 e2 e3=>?_⟩,fun y c e=>?_,I.free,I.freeC,fun p hp=>?_,tracked ⟨oL,hoL,I.free⟩ hs,by simpa using I.len⟩ ⟨_,hs,.inl rfl⟩
   . exact (hs.2 b (AG (AC (Am e) I.ok.above))).trans (I.base.keep b o e n hb hx)
   . obtain⟨sl,e1⟩:=I.base.slot b o e n hb hx;exact⟨sl,(hs.2 b (AG (AC (Am e) I.ok.above))).trans e1⟩
   . obtain⟨o',e1⟩:=I.base.there b o e hx;exact⟨o',(hs.2 b (AG (AC (Am e) I.ok.above))).trans e1⟩
   . by_cases hj:j=i
     . subst hj;rw[hi] at e1;cases e1;rw[Bv hiσ] at e2;cases e2;exact⟨u,r,.inl ⟨hk,by simp⟩⟩
     . rw[AB (AV hj)] at e2;obtain⟨u',r',q⟩:=hl j y v' e1 e2 e3;refine⟨u',r',?_⟩
       rcases q with ⟨k,e⟩ | ⟨k,c,e,z⟩
       . refine .inl ⟨k,?_⟩;have:y≠x:=fun e=>hj (zhq hN e1 (e ▸ hi));simp[this,e]
       . exact .inr ⟨k,c,e,z.sameBut hs (cne y c e)⟩
   . obtain⟨w',z⟩:=I.cell y c e;exact⟨w',z.sameBut hs (cne y c e)⟩
   . obtain⟨e,n,ne,nf,d⟩:=I.pin p hp;exact⟨(hs.2 p.1 ne).trans e,n,ne,nf,d⟩
 . have hfn:X.fn x=true:=by
     rcases hf with z | z
     . exact z
     . rw[z] at hk;cases hk
   obtain⟨c,hc⟩:=I.ok.has x (.inl hk);obtain⟨w',z⟩:=I.cell x c hc;refine wpAny_storeName_cell I.ok.kind hk hc z (fun h' hc' hs=>?_);obtain⟨oc,hoc,hocd⟩:=id z;refine h { s with heap:=h' } ⟨I.ok,I.os,I.bare,⟨fun b o e n hb hx=>?_,fun b o e n hb hx=>?_,I.base.free,fun b o e hx=>?_,I.base.tups,I.base.frzs,I.base.tbls⟩,⟨m,hn.sameBut hs (AV (cne x c hc)),fun j y v' e1 e2 e3=>?_⟩,fun y c' e=>?_,I.free,I.freeC,fun p hp=>?_,tracked ⟨oc,hoc,I.freeC x c hc⟩ hs,by simpa using I.len⟩ ⟨c,hs,.inr hc⟩
   . exact (hs.2 b (AG (AC (Am e) (I.ok.cab x c hfn hc)))).trans (I.base.keep b o e n hb hx)
   . obtain⟨sl,e1⟩:=I.base.slot b o e n hb hx;exact⟨sl,(hs.2 b (AG (AC (Am e) (I.ok.cab x c hfn hc)))).trans e1⟩
   . obtain⟨o',e1⟩:=I.base.there b o e hx;exact⟨o',(hs.2 b (AG (AC (Am e) (I.ok.cab x c hfn hc)))).trans e1⟩
   . by_cases hj:j=i
     . subst hj;rw[hi] at e1;cases e1;rw[Bv hiσ] at e2;cases e2;exact⟨u,r,.inr ⟨.inl hk,c,hc,hc'⟩⟩
     . rw[AB (AV hj)] at e2;obtain⟨u',r',q⟩:=hl j y v' e1 e2 e3;refine⟨u',r',?_⟩
       rcases q with q | ⟨k,c',e,z'⟩
       . exact .inl q
       . refine .inr ⟨k,c',e,z'.sameBut hs ?_⟩;rintro rfl;exact hj (zhq hN e1 (I.ok.inj _ _ _ e hc ▸ hi))
   . by_cases hcc:c'=c
     . subst hcc;exact⟨_,hc'⟩
     . obtain⟨w2,z2⟩:=I.cell y c' e;exact⟨w2,z2.sameBut hs hcc⟩
   . obtain⟨e,n,ne,nf,d⟩:=I.pin p hp;refine⟨(hs.2 p.1 ?_).trans e,n,ne,nf,d⟩;intro q;rw[q,hoc] at e;have q':oc=p.2:=Aw e;exact d w' (by rw[<-q'];exact hocd)
theorem zek{M:Model}{A:Around}{E:Value->Shared->Prop}{i:Nat}{x:Str}{v:V}{u:Value}{Q:Unit->Shared->Prop}(I:Inv X pins σ H s)(hN:X.N.Nodup)(hi:X.N[i]?=some x)(hx:Loc X.env.scope x)(r:RelV v u)
   (h:∀ s',Inv X pins (σ.set i (some v)) H s'->Q () s') (hf:X.fn x=true\/X.env.scope.names.lookup x=some .local:=by first | exact .inl rfl | exact .inr rfl | assumption):wpAny M A (storeName X.env x u) Q E s :=
 zfW I hN hi hx r (fun s' I' _=>h s' I') hf
theorem Inv.call'{s':Shared}{ch:List Addr}(I:Inv X pins σ H s)(ho:s'.os=s.os)(u:Un (frs X.stack) ch H H' s.heap s'.heap)(hok:HOk X.prog X.w H' s'.heap)(hg:AllBare s'.gens)
   (hch:∀ b∈ch,(b∈X.ex\/X.s₀.heap.objs.size<=b)/\b≠X.env.locals/\(∀ x c,X.env.cells.lookup x=some c->c≠b)/\∀ p∈X.pn++pins,p.1≠b):Inv X pins σ H' s':=by
 obtain⟨h',g',d',t',o'⟩:=s';have e:o'=s.os:=ho;subst e;exact I.call (g':=g') (t':=t') (d':=d') u hok hg hch
end
noncomputable abbrev XK:=Value->Option Addr->Hp->Prop
noncomputable abbrev St:=List (Option V)
noncomputable abbrev VK:=V->Hp->Prop
noncomputable abbrev TE:=St->Hp->VK->Prop
noncomputable abbrev TT:=St->Hp->(Bool->Hp->Prop)->Prop
noncomputable abbrev TA:=St->Hp->(List V->Hp->Prop)->Prop
structure Ends where
 nx:St->Hp->Prop
 rt:VK
 bk:St->Hp->Prop:=fun _ _=>False
 ct:St->Hp->Prop:=fun _ _=>False
noncomputable abbrev TS:=Ends->St->Hp->Prop
def EP(X:Cx)(pins:List (Addr×Obj))(σ:St)(Q:VK)(u:Value)(s':Shared):Prop:=∃ v H',Inv X pins σ H' s'/\RelV v u/\Q v H'
def TP(X:Cx)(pins:List (Addr×Obj))(σ:St)(Q:Bool->Hp->Prop)(b:Bool)(s':Shared):Prop:=∃ H',Inv X pins σ H' s'/\Q b H'
def AP(X:Cx)(pins:List (Addr×Obj))(σ:St)(Q:List V->Hp->Prop)(us:List Value)(s':Shared):Prop:=∃ vs H',Inv X pins σ H' s'/\Vals vs us/\Q vs H'
def SP(X:Cx)(pins:List (Addr×Obj))(D:Ends)(f:Flow)(s':Shared):Prop :=
 match f with
 | .next=>∃ σ' H',Inv X pins σ' H' s'/\D.nx σ' H'
 | .brk=>∃ σ' H',Inv X pins σ' H' s'/\D.bk σ' H'
 | .cont=>∃ σ' H',Inv X pins σ' H' s'/\D.ct σ' H'
 | .ret u=>∃ v σ' H',Inv X pins σ' H' s'/\RelV v u/\D.rt v H'
def PE(X:Cx)(e:Expr)(t:TE):Prop :=
 ∀ (pins:List (Addr×Obj)) (s:Shared) (σ:St) (H:Hp) (Q:VK),Inv X pins σ H s->t σ H Q->wpAny (model X.prog X.w) X.A (eval e X.env) (EP X pins σ Q) X.xe s
def PT(X:Cx)(e:Expr)(t:TT):Prop :=
 ∀ (pins:List (Addr×Obj)) (s:Shared) (σ:St) (H:Hp) (Q:Bool->Hp->Prop),Inv X pins σ H s->t σ H Q->wpAny (model X.prog X.w) X.A (isTrue e X.env (eval e X.env)) (TP X pins σ Q) X.xe s
def PW(X:Cx)(e:Expr)(t:TT):Prop :=
 ∀ (whole:Sem Value) (pins:List (Addr×Obj)) (s:Shared) (σ:St) (H:Hp) (Q:Bool->Hp->Prop),Inv X pins σ H s->t σ H Q->wpAny (model X.prog X.w) X.A (isTrue e X.env whole) (TP X pins σ Q) X.xe s
theorem PW.pt{X:Cx}{e:Expr}{t:TT}(h:PW X e t):PT X e t:=h _
def PA(X:Cx)(es:List Expr)(t:TA):Prop :=
 ∀ (pos:Pos) (pins:List (Addr×Obj)) (s:Shared) (σ:St) (H:Hp) (Q:List V->Hp->Prop),Inv X pins σ H s->t σ H Q->wpAny (model X.prog X.w) X.A (spliced (backTo pos (starEach es X.env))) (AP X pins σ Q) X.xe s
def PS(X:Cx)(st:Stmt)(t:TS):Prop :=
 ∀ (pins:List (Addr×Obj)) (s:Shared) (σ:St) (H:Hp) (D:Ends),Inv X pins σ H s->t D σ H->wpAny (model X.prog X.w) X.A (exec st X.env) (SP X pins D) X.xe s
def PSs(X:Cx)(st:List Stmt)(t:TS):Prop :=
 ∀ (pins:List (Addr×Obj)) (s:Shared) (σ:St) (H:Hp) (D:Ends),Inv X pins σ H s->t D σ H->wpAny (model X.prog X.w) X.A (execs st X.env) (SP X pins D) X.xe s
theorem thn{α:Type}{t:Sem α}{Q Q':α->Shared->Prop}{M:Model}{A:Around}{E:Value->Shared->Prop}{s:Shared}(h:wpAny M A t Q E s)(hQ:∀ a s,Q a s->Q' a s):wpAny M A t Q' E s:=Bp h hQ fun _ _ x=>x
section
variable {X:Cx}
noncomputable def tVar(i:Nat):TE:=fun σ H Q=>∃ v,σ[i]?=some (some v)/\Q v H
noncomputable def tC(v:V):TE:=fun _ H Q=>Q v H
theorem znP{i:Nat}{x:Str}{pos:Pos}(hN:X.N[i]?=some x)(hv:Vis X.env.scope x)(hd:(x==("__debug__":Str))=false:=by decide)(hcd:(x==("__classdict__":Str))=false:=by decide):PE X (.Name x pos) (tVar i):=by
 intro pins s σ H Q I h;obtain⟨v,e,h⟩:=h;obtain⟨m,hn,hl⟩:=I.loc;obtain⟨u,r,l⟩:=hl i x v hN e hv;have fin:EP X pins σ Q u s:=⟨v,H,I,r,h⟩
 rcases l with ⟨hk,hm⟩ | ⟨hk,c,hc,hcell⟩
 . exact Fv (wpAny_loadName_local I.ok.kind hk hn hm fin) hd
 . rcases hk with hk | hk
   . exact Fv (wpAny_loadName_cell I.ok.kind hk hc hcell fin) hd
   . exact Fv (wpAny_loadName_free I.ok.kind hk hc hcell fin hcd) hd
theorem znT{i j pos}:PE X (.Constant (.int i) j pos) (tC (.int i)):=fun _ _ _ H _ I h=>wpAny_Constant_int ⟨.int i,H,I.tok _,⟨_,rfl⟩,h⟩
theorem zo4{b j pos}:PE X (.Constant (.bool b) j pos) (tC (.bl b)):=fun _ _ _ H _ I h=>Constant_bool ⟨.bl b,H,I,rfl,h⟩
theorem znR{x j pos}:PE X (.Constant (.str x) j pos) (tC (.str x)):=fun _ _ _ H _ I h=>Calls.Constant_str ⟨.str x,H,I.tok _,⟨_,rfl⟩,h⟩
def Gl(X:Cx)(x:Str):Prop:=X.env.kindOf x=some .globalImplicit
theorem zmI{E:Value->Shared->Prop}{pins:List (Addr×Obj)}{s:Shared}{σ:St}{H:Hp}{x:Str}{u:Value}{pos:Pos}{Q:Value->Shared->Prop}(I:Inv X pins σ H s)(hg:Gl X x)(hm:X.mg x=some u)(h:Q u s)
   (hd:(x==("__debug__":Str))=false:=by decide):wpAny (model X.prog X.w) X.A (eval (.Name x pos) X.env) Q E s :=
 Dm I.ok.kind hg (Calls.loadGlobal_global (by rw[I.ok.glob];exact I.mod.glob.keeps I.bk) hm h) hd
theorem zhC{E:Value->Shared->Prop}{pins:List (Addr×Obj)}{s:Shared}{σ:St}{H:Hp}{x:Str}{u:Value}{pos:Pos}{Q:Value->Shared->Prop}(I:Inv X pins σ H s)(hg:Gl X x)(hm:X.mg x=none)(hv:bootBuiltins x=some u)(h:Q u s)
   (hn:x≠"__name__":=by decide) (hd:(x==("__debug__":Str))=false:=by decide):wpAny (model X.prog X.w) X.A (eval (.Name x pos) X.env) Q E s:=by
 obtain⟨mb,h1,h2⟩:=I.mod.blt;exact Dm I.ok.kind hg (Calls.loadGlobal_builtin (by rw[I.ok.glob];exact I.mod.glob.keeps I.bk) hm (by rw[I.ok.blt];exact h1.keeps I.bk) ((h2 x hn).trans hv) h) hd
theorem zmk{x:Str}{v:V}{u:Value}{pos:Pos}(hg:Gl X x)(hm:X.mg x=none)(hv:bootBuiltins x=some u)(r:RelV v u)(hn:x≠"__name__":=by decide)(hd:(x==("__debug__":Str))=false:=by decide):PE X (.Name x pos) (tC v) :=
 fun _ _ _ H _ I h=>zhC I hg hm hv ⟨v,H,I,r,h⟩ hn hd
variable {a b:Expr} {ta tb:TE} {pos:Pos}
def PC(X:Cx)(op:CmpOp)(a b:Expr)(t:TE):Prop :=
 ∀ (pins:List (Addr×Obj)) (s:Shared) (σ:St) (H:Hp) (Q:VK),Inv X pins σ H s->t σ H Q ->
   wpAny (model X.prog X.w) X.A (eval a X.env) (fun v s₁=>wpAny (model X.prog X.w) X.A (eval b X.env) (fun u s₂=>wpAny (model X.prog X.w) X.A (compareOp op v u) (EP X pins σ Q) X.xe s₂) X.xe s₁) X.xe s
noncomputable def tB(t:TE):TT:=fun σ H Q=>t σ H fun x H1=>∃ c,x=.bl c/\Q c H1
theorem znU{op:CmpOp}{t:TE}(h:PC X op a b t)(h1:behindInMarks op b=false:=by first | exact nobehind _ (by decide) (by decide) | rfl):PE X (.Compare a [op] [b] pos) t:=fun pins s σ H Q I hw=>wpAny_Compare1 (h pins s σ H Q I hw) h1
theorem zl4{op:CmpOp}{t:TE}(h:PC X op a b t)(h1:behindInMarks op b=false:=by first | exact nobehind _ (by decide) (by decide) | rfl):PT X (.Compare a [op] [b] pos) (tB t):=by
 intro pins s σ H Q I hw;refine Ee (thn (h pins s σ H _ I hw) fun v s1 h1=>thn h1 fun u s2 h2=>thn h2 ?_) h1;rintro c s3 ⟨x,H1,I1,r1,q1⟩;obtain⟨d,rfl,q⟩:=q1;cases r1;exact BC ⟨H1,I1,q⟩
variable {tA tB':TT} {rest:List Expr}
noncomputable def tAnd(t u:TT):TT:=fun σ H Q=>t σ H fun c H1=>if c=true then u σ H1 Q else Q false H1
noncomputable def tOr(t u:TT):TT:=fun σ H Q=>t σ H fun c H1=>if c=true then Q true H1 else u σ H1 Q
noncomputable def tNot(t:TT):TT:=fun σ H Q=>t σ H fun c H1=>Q (!c) H1
theorem pw_and1(ha:PT X a tA):PW X (.BoolOp .And [a] pos) tA:=by
 intro wh pins s σ H Q I h;refine isTrue_and (thn (ha pins s σ H Q I h) fun c s1 e=>?_)
 cases c with
 | true=>exact isTrue_and_nil e
 | false=>exact e
theorem pw_or1(ha:PT X a tA):PW X (.BoolOp .Or [a] pos) tA:=by
 intro wh pins s σ H Q I h;refine isTrue_or (thn (ha pins s σ H Q I h) fun c s1 e=>?_)
 cases c with
 | false=>exact isTrue_or_nil e
 | true=>exact e
theorem pw_and(ha:PT X a tA)(hb:PW X (.BoolOp .And (b::rest) pos) tB'):PW X (.BoolOp .And (a::b::rest) pos) (tAnd tA tB'):=by
 intro wh pins s σ H Q I h;refine isTrue_and (thn (ha pins s σ H _ I h) ?_);rintro c s1 ⟨H1,I1,q1⟩
 cases c with
 | true=>exact hb wh pins s1 σ H1 Q I1 q1
 | false=>exact⟨H1,I1,q1⟩
theorem pw_or(ha:PT X a tA)(hb:PW X (.BoolOp .Or (b::rest) pos) tB'):PW X (.BoolOp .Or (a::b::rest) pos) (tOr tA tB'):=by
 intro wh pins s σ H Q I h;refine isTrue_or (thn (ha pins s σ H _ I h) ?_);rintro c s1 ⟨H1,I1,q1⟩
 cases c with
 | true=>exact⟨H1,I1,q1⟩
 | false=>exact hb wh pins s1 σ H1 Q I1 q1
theorem znE(ha:PT X a tA):PT X (.UnaryOp .Not a pos) (tNot tA):=by
 intro pins s σ H Q I h;exact isTrue_not (ha pins s σ H (fun c H1=>Q (!c) H1) I h)
noncomputable def zoR(ta tb:TE):TE:=fun σ H Q=>ta σ H fun x H1=>∃ c,x=.bl c/\if c=true then tb σ H1 Q else Q (.bl false) H1
noncomputable def tOrV(ta tb:TE):TE:=fun σ H Q=>ta σ H fun x H1=>∃ c,x=.bl c/\if c=true then Q (.bl true) H1 else tb σ H1 Q
theorem zmg{op}{t:TE}(h:PE X a t):PE X (.BoolOp op [a] pos) t:=fun pins s σ H Q I hw=>BoolOp_one (h pins s σ H Q I hw)
theorem znV(ha:PE X a ta)(hb:PE X (.BoolOp .And (b::rest) pos) tb):PE X (.BoolOp .And (a::b::rest) pos) (zoR ta tb):=by
 intro pins s σ H Q I h;refine BoolOp_and (thn (ha pins s σ H _ I h) ?_);rintro v s1 ⟨x,H1,I1,r1,q1⟩;obtain⟨c,rfl,q1⟩:=q1;cases r1;refine BC ?_
 cases c with
 | true=>exact hb pins s1 σ H1 Q I1 q1
 | false=>exact⟨.bl false,H1,I1,rfl,q1⟩
theorem zo1(ha:PE X a ta)(hb:PE X (.BoolOp .Or (b::rest) pos) tb):PE X (.BoolOp .Or (a::b::rest) pos) (tOrV ta tb):=by
 intro pins s σ H Q I h;refine BoolOp_or (thn (ha pins s σ H _ I h) ?_);rintro v s1 ⟨x,H1,I1,r1,q1⟩;obtain⟨c,rfl,q1⟩:=q1;cases r1;refine BC ?_
 cases c with
 | false=>exact hb pins s1 σ H1 Q I1 q1
 | true=>exact⟨.bl true,H1,I1,rfl,q1⟩
noncomputable def tIf(t:TT)(ta tb:TE):TE:=fun σ H Q=>t σ H fun c H1=>if c=true then ta σ H1 Q else tb σ H1 Q
theorem zkr{c:Expr}(hc:PT X c tA)(ha:PE X a ta)(hb:PE X b tb):PE X (.IfExp c a b pos) (tIf tA ta tb):=by
 intro pins s σ H Q I h;refine wpAny_IfExp (thn (hc pins s σ H _ I h) ?_);rintro d s1 ⟨H1,I1,q1⟩
 cases d with
 | true=>exact ha pins s1 σ H1 Q I1 q1
 | false=>exact hb pins s1 σ H1 Q I1 q1
end
def SqL(K:Ac)(H:Hp)(a:Addr)(xs:List V):Prop :=
 Rd H a (.lst xs) \/
   ∃ (o:Obj) (its:Array Value) (n:Nat),K.lookup a=some o/\o.cls=.type "list"/\o.dict=none/\o.data=.seq its n/\its.size<=sizeLine/\Vals xs its.toList
def SqT(K:Ac)(H:Hp)(a:Addr)(xs:List V):Prop :=
 Rd H a (.tup xs) \/
   ∃ (o:Obj) (its:Array Value) (n:Nat),K.lookup a=some o/\o.cls=.type "tuple"/\o.data=.seq its n/\its.size<=sizeLine/\Vals xs its.toList
noncomputable def absV:Value->Option V
 | .none=>some .non
 | .bool b=>some (.bl b)
 | .int i _=>some (.int i)
 | .str x _=>some (.str x)
 | .bytes b _=>some (.byt b)
 | .float b _=>some (.flt b)
 | .ref a=>some (.ref a)
 | .type n=>some (.ty n)
 | _=>none
theorem RelV.abs{x:V}{u:Value}(r:RelV x u):absV u=some x:=by
 cases x with
 | non=>cases r;rfl
 | bl _=>cases r;rfl
 | int _=>obtain⟨t,rfl⟩:=r;rfl
 | str _=>obtain⟨t,rfl⟩:=r;rfl
 | byt _=>obtain⟨t,rfl⟩:=r;rfl
 | flt _=>obtain⟨t,rfl⟩:=r;rfl
 | ref _=>cases r;rfl
 | ty _=>cases r;rfl
theorem RelV.inj{x y:V}{u:Value}(r:RelV x u)(q:RelV y u):x=y:=Aw (r.abs.symm.trans q.abs)
theorem Vals.inj:∀ {xs ys:List V} {us:List Value},Vals xs us->Vals ys us->xs=ys
 | _,_,_,.nil,.nil=>rfl
 | _,_,_,.cons r t,.cons r' t'=>by rw[r.inj r',Vals.inj t t']
section
variable {X:Cx} {pins:List (Addr×Obj)} {σ:St} {H:Hp} {s:Shared} {a:Addr} {xs ys:List V}
theorem SqL.of{K:Ac}(h:H a=some (.lst xs)):SqL K H a xs:=.inl (.inl h)
theorem SqT.of{K:Ac}(h:H a=some (.tup xs)):SqT K H a xs:=.inl (.inl h)
theorem Inv.list(I:Inv X pins σ H s)(h:SqL X.K H a xs):∃ its:List Value,Vals xs its/\PlainL s.heap a its.toArray/\xs.length<=sizeLine:=by
 rcases h with h | ⟨o,its,n,hk,hc,hd,hs,hz,r⟩
 . obtain⟨z,its,n,r,e⟩:=h.ok I.hok;exact⟨its,r,⟨_,n,e,rfl,rfl,rfl⟩,z⟩
 . refine⟨its.toList,r,⟨o,n,I.kIn a o hk,hc,hd,by simpa using hs⟩,?_⟩;have e:=r.length;simp only[AQ] at e;omega
theorem Inv.tuple(I:Inv X pins σ H s)(h:SqT X.K H a xs):∃ its:List Value,Vals xs its/\IsTup s.heap a its.toArray/\xs.length<=sizeLine:=by
 rcases h with h | ⟨o,its,n,hk,hc,hs,hz,r⟩
 . obtain⟨z,its,r,p⟩:=h.ok I.hok;exact⟨its,r,p.t,z⟩
 . refine⟨its.toList,r,⟨o,I.kIn a o hk,hc,n,by simpa using hs⟩,?_⟩;have e:=r.length;simp only[AQ] at e;omega
theorem Inv.list_inj(I:Inv X pins σ H s)(h:SqL X.K H a xs)(h':SqL X.K H a ys):xs=ys:=by
 obtain⟨its,r,⟨o,n,e,_,_,d⟩,_⟩:=I.list h;obtain⟨its',r',⟨o',n',e',_,_,d'⟩,_⟩:=I.list h';rw[e] at e';cases e';rw[d] at d';injection d' with d1 _
 have:its=its':=by simpa using congrArg FZ d1
 subst this;exact r.inj r'
theorem Inv.tuple_inj(I:Inv X pins σ H s)(h:SqT X.K H a xs)(h':SqT X.K H a ys):xs=ys:=by
 obtain⟨its,r,⟨o,e,_,n,d⟩,_⟩:=I.tuple h;obtain⟨its',r',⟨o',e',_,n',d'⟩,_⟩:=I.tuple h';rw[e] at e';cases e';rw[d] at d';injection d' with d1 _
 have:its=its':=by simpa using congrArg FZ d1
 subst this;exact r.inj r'
end
noncomputable abbrev Cx.wish (X:Cx) (E:Value->Shared->Prop):Cx:={ X with xe:=E }
noncomputable abbrev Cx.nox (X:Cx):Cx:=X.wish fun _ _=>False
theorem Cx.Ok.wish{X:Cx}(ok:X.Ok)(E:Value->Shared->Prop):(X.wish E).Ok :=
 ⟨ok.mod,ok.kind,ok.glob,ok.blt,ok.above,ok.inj,ok.has,ok.cab,ok.hd,ok.frames,ok.stk,ok.exf,ok.bs,ok.bsz,ok.noex,ok.exfs,ok.funs,ok.frf⟩
theorem Cx.Ok.unwish{X:Cx}{E:Value->Shared->Prop}(ok:(X.wish E).Ok):X.Ok :=
 ⟨ok.mod,ok.kind,ok.glob,ok.blt,ok.above,ok.inj,ok.has,ok.cab,ok.hd,ok.frames,ok.stk,ok.exf,ok.bs,ok.bsz,ok.noex,ok.exfs,ok.funs,ok.frf⟩
section
variable {X:Cx} {pins:List (Addr×Obj)} {σ:St} {H:Hp} {s:Shared} {E:Value->Shared->Prop}
theorem Inv.wish(I:Inv X pins σ H s)(E:Value->Shared->Prop):Inv (X.wish E) pins σ H s:=⟨I.ok.wish E,I.os,I.bare,I.base,I.loc,I.cell,I.free,I.freeC,I.pin,I.hok,I.len⟩
theorem Inv.unwish(I:Inv (X.wish E) pins σ H s):Inv X pins σ H s:=⟨I.ok.unwish,I.os,I.bare,I.base,I.loc,I.cell,I.free,I.freeC,I.pin,I.hok,I.len⟩
theorem SP.unwish{D:Ends}{f:Flow}{s':Shared}(h:SP (X.wish E) pins D f s'):SP X pins D f s':=by
 cases f with
 | next=>obtain⟨σ',H',I,q⟩:=h;exact⟨σ',H',I.unwish,q⟩
 | brk=>obtain⟨σ',H',I,q⟩:=h;exact⟨σ',H',I.unwish,q⟩
 | cont=>obtain⟨σ',H',I,q⟩:=h;exact⟨σ',H',I.unwish,q⟩
 | ret u=>obtain⟨v,σ',H',I,r,q⟩:=h;exact⟨v,σ',H',I.unwish,r,q⟩
theorem PSs.nox{st:List Stmt}{t:TS}(h:PSs X.nox st t):PSs X st t:=fun pins s σ H D I hw =>
 Bp (h pins s σ H D (I.wish _) hw) (fun _ _ q=>q.unwish) fun _ _ z=>False.elim z
end
section
variable {X:Cx} {st:Stmt} {rest:List Stmt} {t u:TS} {e:Expr} {te:TE} {pos:Pos}
noncomputable def zoM:TS:=fun D σ H=>D.nx σ H
noncomputable def tSeq(t u:TS):TS:=fun D σ H=>t { D with nx:=u D } σ H
theorem zl6:PSs X [] zoM:=fun _ _ σ H _ I h=>CT ⟨σ,H,I,h⟩
theorem zkn(h1:PS X st t)(h2:PSs X rest u):PSs X (st::rest) (tSeq t u):=by
 intro pins s σ H D I h;refine wpAny_execs_cons (thn (h1 pins s σ H { D with nx:=u D } I h) fun f s1 q=>?_)
 cases f with
 | next =>
   obtain⟨σ',H',I',q⟩:=q;exact h2 pins s1 σ' H' D I' q
 | ret v=>exact q
 | brk=>exact q
 | cont=>exact q
theorem zl5(h1:PS X st t):PSs X [st] t:=by
 intro pins s σ H D I h;refine wpAny_execs_cons (thn (h1 pins s σ H D I h) fun f s1 q=>?_)
 cases f with
 | next=>exact CT q
 | ret v=>exact q
 | brk=>exact q
 | cont=>exact q
theorem Inv.quiet{pins:List (Addr×Obj)}{σ:St}{H:Hp}{s:Shared}(I:Inv X pins σ H s):interactive X.env=false:=by simp[interactive,I.ok.kind]
noncomputable def zoN(te:TE):TS:=fun D σ H=>te σ H fun _ H1=>D.nx σ H1
theorem zl7(he:PE X e te)(hs:swapsWith e none pos.line X.env=pure false:=by rfl):PS X (.Expr e pos) (zoN te):=by
 intro pins s σ H D I h;exact wpAny_Expr_any (thn (he pins s σ H _ I h) fun v s1 ⟨x,H1,I1,r1,q1⟩=>⟨σ,H1,I1,q1⟩) I.quiet hs
noncomputable def tRet(te:TE):TS:=fun D σ H=>te σ H D.rt
theorem znG(he:PE X e te):PS X (.Return (some e) pos) (tRet te):=by
 intro pins s σ H D I h;exact wpAny_Return_some (thn (he pins s σ H _ I h) fun v s1 ⟨x,H1,I1,r1,q1⟩=>⟨x,σ,H1,I1,r1,q1⟩)
noncomputable def tIfS(c:TT)(t u:TS):TS:=fun D σ H=>c σ H fun b H1=>if b=true then t D σ H1 else u D σ H1
theorem zoZ{c:Expr}{a b:List Stmt}{tc:TT}(hc:PT X c tc)(ha:PSs X a t)(hb:PSs X b u):PS X (.If c a b pos) (tIfS tc t u):=by
 intro pins s σ H D I h;refine wpAny_If (thn (hc pins s σ H _ I h) ?_);rintro d s1 ⟨H1,I1,q1⟩
 cases d with
 | true=>exact ha pins s1 σ H1 D I1 q1
 | false=>exact hb pins s1 σ H1 D I1 q1
end
noncomputable abbrev TG:=V->St->Hp->(St->Hp->Prop)->Prop
noncomputable abbrev TGs:=List V->St->Hp->(St->Hp->Prop)->Prop
def PG(X:Cx)(target:Expr)(t:TG):Prop :=
 ∀ (pins:List (Addr×Obj)) (s:Shared) (σ:St) (H:Hp) (v:V) (u:Value) (Q:St->Hp->Prop),Inv X pins σ H s->RelV v u->t v σ H Q ->
   wpAny (model X.prog X.w) X.A (assign target X.env u) (fun _ s'=>∃ σ' H',Inv X pins σ' H' s'/\Q σ' H') X.xe s
def PGs(X:Cx)(ts:List Expr)(t:TGs):Prop :=
 ∀ (pins:List (Addr×Obj)) (s:Shared) (σ:St) (H:Hp) (vs:List V) (us:List Value) (Q:St->Hp->Prop),Inv X pins σ H s->Vals vs us->t vs σ H Q ->
   wpAny (model X.prog X.w) X.A (assignInOrder ((assignEach ts X.env).map (·.2)) us) (fun _ s'=>∃ σ' H',Inv X pins σ' H' s'/\Q σ' H') X.xe s
noncomputable abbrev TSet:=V->V->V->Hp->(Hp->Prop)->Prop
def PSet(X:Cx)(t:TSet):Prop :=
 ∀ (pins:List (Addr×Obj)) (s:Shared) (σ:St) (H:Hp) (o i v:V) (ov iv u:Value) (Q:Hp->Prop),Inv X pins σ H s->RelV o ov->RelV i iv->RelV v u->t o i v H Q ->
   wpAny (model X.prog X.w) X.A (setItem ov iv u) (fun _ s'=>∃ H',Inv X pins σ H' s'/\Q H') X.xe s
section
variable {X:Cx} {pos:Pos}
noncomputable def zoG(i:Nat):TG:=fun v σ H Q=>Q (σ.set i (some v)) H
theorem zmf{i:Nat}{x:Str}(hN:X.N.Nodup)(hi:X.N[i]?=some x)(hx:Loc X.env.scope x)(hf:X.fn x=true\/X.env.scope.names.lookup x=some .local:=by first | exact .inl rfl | exact .inr rfl | assumption):PG X (.Name x pos) (zoG i):=by
 intro pins s σ H v u Q I r h;exact EW (zek I hN hi hx r (fun s' I'=>⟨_,H,I',h⟩) hf)
noncomputable def gNil:TGs:=fun vs σ H Q=>vs=[]/\Q σ H
noncomputable def zpg(t:TG)(u:TGs):TGs:=fun vs σ H Q=>∃ v r,vs=v::r/\t v σ H fun σ' H'=>u r σ' H' Q
theorem zme:PGs X [] gNil:=by
 intro pins s σ H vs us Q I r h;obtain⟨e,h⟩:=h;subst e;cases r;exact EX ⟨σ,H,I,h⟩
theorem zkq{e:Expr}{es:List Expr}{t:TG}{u:TGs}(h1:PG X e t)(h2:PGs X es u)
   (hs:(assignEach (e::es) X.env).map (·.2)=assign e X.env::(assignEach es X.env).map (·.2):=by rfl):PGs X (e::es) (zpg t u):=by
 intro pins s σ H vs us Q I r h;obtain⟨v,vr,e1,h⟩:=h;subst e1
 cases r with
 | cons r rr =>
   rw[hs];refine Di (thn (h1 pins s σ H _ _ _ I r h) ?_);rintro _ s1 ⟨σ1,H1,I1,q1⟩;exact h2 pins s1 σ1 H1 _ _ Q I1 rr q1
noncomputable def gTup(K:Ac)(n:Nat)(t:TGs):TG:=fun v σ H Q=>∃ a xs,v=.ref a/\SqT K H a xs/\xs.length=n/\t xs σ H Q
theorem znN{es:List Expr}{k:Nat}{t:TGs}{n:Nat}(hc:X.calm=true)(h:PGs X es t)
   (hn:(assignEach es X.env).length=n:=by rfl) (hst:(assignEach es X.env).findIdx? (·.1)=none:=by rfl):PG X (.Tuple es k pos) (gTup X.K n t):=by
 intro pins s σ H v u Q I r hw;obtain⟨a,xs,e1,hq,hl,hw⟩:=hw;subst e1;cases r;obtain⟨its,rv,ht,hz⟩:=I.tuple hq;refine assign_Tuple_tuple (I.ok.hd hc) ht (by simp[hn,<-hl,rv.length]) hst fun h' hx=>?_;have I1:Inv X pins σ H { s with heap:=h' }:=I.kept (t':=s.toks) fun b o e=>hx b o (AG (Am e)) e;exact h pins _ σ H xs _ Q I1 (by simpa using rv) hw
noncomputable def gSub(to ti:TE)(t:TSet):TG:=fun v σ H Q=>to σ H fun o H1=>ti σ H1 fun i H2=>t o i v H2 fun H3=>Q σ H3
theorem znO{o i:Expr}{to ti:TE}{t:TSet}(ho:PE X o to)(hi:PE X i ti)(hs:PSet X t)
   (ha:∀ v,assign (.Subscript o i pos) X.env v=(do
     let ov <-holding [v] (eval o X.env)
     let iv <-holding [v,ov] (eval i X.env)
     standAt pos
     holding [v,ov,iv] (setItem ov iv v)
     release [v,ov,iv] []):=by intro _;rfl):PG X (.Subscript o i pos) (gSub to ti t):=by
 intro pins s σ H v u Q I r h;rw[ha];refine Aa (A9 (thn (ho pins s σ H _ I h) ?_));rintro ov s1 ⟨x,H1,I1,r1,q1⟩;refine Aa (A9 (thn (hi pins s1 σ H1 _ I1 q1) ?_));rintro iv s2 ⟨y,H2,I2,r2,q2⟩;refine Aa (Do (Aa (A9 (thn (hs pins s2 σ H2 x y v ov iv u _ I2 r1 r2 r q2) ?_))));rintro _ s3 ⟨H3,I3,q3⟩;exact wpAny_release ⟨σ,H3,I3,q3⟩
noncomputable def tAsg(te:TE)(g:TG):TS:=fun D σ H=>te σ H fun x H1=>g x σ H1 D.nx
theorem znJ{tg e:Expr}{te:TE}{g:TG}(he:PE X e te)(hg:PG X tg g)(hs:swapsWithSole [tg] e pos.line X.env=pure false:=by rfl)(hw:swappedStores [tg] e X.env=pure none:=by rfl)
   (h1:(assignEach [tg] X.env).map (·.2)=[assign tg X.env]:=by rfl):PS X (.Assign [tg] e pos) (tAsg te g):=by
 intro pins s σ H D I h;refine wpAny_Assign_stores (thn (he pins s σ H _ I h) ?_) hs hw;rintro v s1 ⟨x,H1,I1,r1,q1⟩;rw[h1];exact thn (hg pins s1 σ H1 x v _ I1 r1 q1) fun _ s2 q=>q
theorem znF{i:Nat}{x:Str}{e:Expr}{te:TE}{pos':Pos}(hN:X.N.Nodup)(hi:X.N[i]?=some x)(hx:Loc X.env.scope x)(he:PE X e te)(hs:swapsWith e (some (.Name x pos')) pos.line X.env=pure false:=by rfl)(hf:X.fn x=true\/X.env.scope.names.lookup x=some .local:=by first | exact .inl rfl | exact .inr rfl | assumption) :
   PS X (.Assign [.Name x pos'] e pos) (tAsg te (zoG i)):=by
 intro pins s σ H D I h;refine wpAny_Assign_Name (thn (he pins s σ H _ I h) ?_) hs;rintro v s1 ⟨y,H1,I1,r1,q1⟩;exact zek I1 hN hi hx r1 (fun s2 I2=>⟨_,H1,I2,q1⟩) hf
noncomputable def tPar(i j:Nat)(ta:TA):TS:=fun D σ H=>ta σ H fun vs H1=>∃ v w,vs=[v,w]/\D.nx ((σ.set i (some v)).set j (some w)) H1
theorem znH{i j:Nat}{x y:Str}{a b:Expr}{ta:TA}{px py pt:Pos}{kt k2 pt2}(hc:X.calm=true)(hN:X.N.Nodup)(hi:X.N[i]?=some x)(hj:X.N[j]?=some y)(hij:i≠j)
   (hx:X.env.scope.names.lookup x=some .local) (hy:X.env.scope.names.lookup y=some .local) (ha:PA X [a,b] ta)
   (hw:swappedStores [.Tuple [.Name x px,.Name y py] kt pt] (.Tuple [a,b] k2 pt2) X.env=pure (some [x,y]))
   (hs:swapsWithSole [.Tuple [.Name x px,.Name y py] kt pt] (.Tuple [a,b] k2 pt2) pos.line X.env=pure false:=by rfl) :
   PS X (.Assign [.Tuple [.Name x px,.Name y py] kt pt] (.Tuple [a,b] k2 pt2) pos) (tPar i j ta):=by
 intro pins s σ H D I h;rw[exec_Assign_arm];refine Aa (Do ?_);rw[hs];refine Aa (Ae ?_);rw[if_neg (by decide)];refine Aa (Tuple_ (thn (ha _ pins s σ H _ I h) ?_));rintro us s1 ⟨vs,H1,I1,r1,q1⟩;obtain⟨v,w,e1,q1⟩:=q1;subst e1;obtain⟨u1,u2,rfl,rv,rw'⟩:∃ u1 u2,us=[u1,u2]/\RelV v u1/\RelV w u2:=by
   cases r1 with
   | cons p q =>
     cases q with
     | cons p' q' =>
       cases q';exact⟨_,_,rfl,p,p'⟩
 refine A8 ?_ (by show 2<=sizeLine;decide);have I2:Inv X pins σ H1 { s1 with heap:=s1.heap.push { cls:=.type "tuple",data:=.seq [u1,u2].toArray } }:=I1.kept (t':=s1.toks) fun b o e=>Ai _ e;rw[hw];refine Aa (Ae ?_);show wpAny (model X.prog X.w) X.A (do rule "assign.swapped-stores";let items <-unpackItems (.ref s1.heap.objs.size) 2 none;assignInOrder [fun v=>bindName X.env y v,fun v=>bindName X.env x v] items.reverse;pure Flow.next) _ _ _;refine Aa (wpAny_rule (Aa (unpackItems_tuple (items:=#[u1,u2]) (I.ok.hd hc) (IsTup.new s1.heap _) fun h' hx'=>?_)));have I3:=I2.kept (h':=h') (t':=s1.toks) fun b o e=>hx' b o (AG (Am e)) e;show wpAny _ _ (assignInOrder [fun v=>bindName X.env y v,fun v=>bindName X.env x v] [u2,u1] >>= fun _=>pure Flow.next) _ _ _;refine Aa (Di (wpAny_bindName (zek I3 hN hj (.inl hy) rw' (fun s2 I4=>?_) (.inr hy))));refine Di (wpAny_bindName (zek I4 hN hi (.inl hx) rv (fun s3 I5=>EX (Ae ?_)) (.inr hx)));rw[List.set_comm _ _ (AV hij)] at I5;exact⟨_,H1,I5,q1⟩
end
section
variable {X:Cx} {pos:Pos}
noncomputable def znh(c:TT)(tb:TS):TS:=fun D σ H=>∃ W:Nat->St->Hp->Prop,(∃ m,W m σ H)/\∀ m σ H,W m σ H ->
 c σ H fun b H1=>if b=true then ∃ N:St->Hp->Prop,(∀ σ' H',N σ' H'->∃ m',m' < m/\W m' σ' H')/\tb { D with nx:=N,ct:=N,bk:=D.nx } σ H1 else D.nx σ H1
theorem zko{c:Expr}{body:List Stmt}{tc:TT}{tb:TS}(hp:PassesOwn (model X.prog X.w) X.A X.env X.xe)(hc:PT X c tc)(hb:PSs X body tb):PS X (.While c body [] pos) (znh tc tb):=by
 intro pins s σ H D I h;obtain⟨W,⟨m0,w0⟩,turn⟩:=h;refine wpAny_While (codeAny_whileLoop (fun n s'=>∃ σ' H',Inv X pins σ' H' s'/\W n σ' H') ?_ m0 ⟨σ,H,I,w0⟩);rintro n s1 ⟨σ1,H1,I1,w1⟩;refine BP hp (thn (hc pins s1 σ1 H1 _ I1 (turn n σ1 H1 w1)) ?_);rintro b s2 ⟨H2,I2,q2⟩
 cases b with
 | true =>
   obtain⟨N,hN,q2⟩:=q2;rw[if_pos rfl];refine BP hp (thn (hb pins s2 σ1 H2 _ I2 q2) fun f s3 q3=>?_)
   cases f with
   | next =>
     obtain⟨σ3,H3,I3,n3⟩:=q3;obtain⟨m',hm,w3⟩:=hN σ3 H3 n3;exact⟨m',hm,σ3,H3,I3,w3⟩
   | cont =>
     obtain⟨σ3,H3,I3,n3⟩:=q3;obtain⟨m',hm,w3⟩:=hN σ3 H3 n3;exact⟨m',hm,σ3,H3,I3,w3⟩
   | brk=>exact q3
   | ret v=>exact q3
 | false =>
   rw[if_neg Bi];exact CT ⟨σ1,H2,I2,q2⟩
end
structure It where
 go:Nat->Hp->Prop
 yld:Nat->Hp->V->Hp->Prop
 stop:Nat->Hp->Prop
def FpOk(X:Cx)(pins:List (Addr×Obj))(H:Hp)(b:Addr):Prop :=
 H b=none/\b≠X.env.locals/\b ∉ X.fs/\(b∈X.ex\/X.s₀.heap.objs.size<=b)/\(∀ x c,X.env.cells.lookup x=some c->c≠b)/\∀ p∈X.pn++pins,p.1≠b
theorem Inv.fpOk{X:Cx}{pins:List (Addr×Obj)}{σ:St}{H H':Hp}{s:Shared}{b:Addr}(I:Inv X pins σ H s)(hb:s.heap.objs.size<=b)(hn:H' b=none):FpOk X pins H' b:=by
 refine⟨hn,EO (AC I.lt hb),I.nofs hb,.inr (AH I.sz hb),fun x c e z=>?_,fun p hp z=>?_⟩
 . obtain⟨v,q⟩:=I.cell x c e;exact absurd (AC q.lt (by rw[z];exact hb)) (AR _)
 . exact absurd (AC (Am (I.pin p hp).1) (by rw[z];exact hb)) (AR _)
structure Turn(P:Program)(w:World)(K:Ac)(tg:Expr)(J:It)(fp:List Addr)(it:Addr)(tn:Nat->Heap->Prop):Prop where
 mem:it∈fp
 obj:∀ i h,tn i h->∀ b∈fp,∃ o,h.get? b=some o/\∀ v,o.data≠.cell v
 keep:∀ i h h',tn i h->(∀ b∈fp,∀ o,h.get? b=some o->h'.get? b=some o)->tn i h'
 item:∀ (X:Cx),X.prog=P->X.w=w->X.K=K->X.calm=true->∀ (i:Nat) (pins:List (Addr×Obj)) (s:Shared) (σ:St) (H:Hp) (E:Value->Shared->Prop),Inv X pins σ H s->(∀ b∈fp,FpOk X pins H b)->tn i s.heap->J.go i H ->
   wpAny (model P w) X.A (pyNext (.ref it)) (fun r s1=>∃ u,r=some u /\
     wpAny (model P w) X.A (letOwnedTupleGo tg (.ref it) u) (fun _ s2=>∃ x H',Inv X pins σ H' s2/\RelV x u/\J.yld i H x H'/\tn (i+1) s2.heap/\∀ b∈fp,H' b=none) E s1) E s
 done:∀ (X:Cx),X.prog=P->X.w=w->X.K=K->X.calm=true->∀ (i:Nat) (pins:List (Addr×Obj)) (s:Shared) (σ:St) (H:Hp) (E:Value->Shared->Prop),Inv X pins σ H s->(∀ b∈fp,FpOk X pins H b)->tn i s.heap->J.stop i H ->
   wpAny (model P w) X.A (pyNext (.ref it)) (fun r s1=>r=none/\Inv X pins σ H s1) E s
 self:∀ (A:Around) (i:Nat) (s:Shared) (Q:Value->Shared->Prop) (E:Value->Shared->Prop),tn i s.heap->Q (.ref it) s->wpAny (model P w) A (pyIter (.ref it)) Q E s
noncomputable abbrev TI:=St->Hp->(It->Hp->Prop)->Prop
def PIE(X:Cx)(pins:List (Addr×Obj))(σ:St)(tg:Expr)(R:It->Hp->Prop)(itv:Value)(s2:Shared):Prop :=
 ∃ (it:Addr) (fp:List Addr) (tn:Nat->Heap->Prop) (J:It) (H':Hp),itv=.ref it/\Inv X pins σ H' s2/\Turn X.prog X.w X.K tg J fp it tn/\tn 0 s2.heap/\(∀ b∈fp,FpOk X pins H' b)/\R J H'
def PI(X:Cx)(tg iter:Expr)(wi:TI):Prop :=
 ∀ (pins:List (Addr×Obj)) (s:Shared) (σ:St) (H:Hp) (R:It->Hp->Prop),Inv X pins σ H s->wi σ H R ->
   wpAny (model X.prog X.w) X.A (eval iter X.env) (fun v s1=>wpAny (model X.prog X.w) X.A (pyIter v) (PIE X pins σ tg R) X.xe s1) X.xe s
theorem zna{M:Model}{A:Around}{E:Value->Shared->Prop}{s:Shared}{tg:Expr}{it:Addr}{u:Value}{o:Obj}{n:String}{vs:Array Value}{Q:Unit->Shared->Prop}(ho:s.heap.get? it=some o)(hc:o.cls=.type n)(hd:o.data=.fields vs)
   (hn:["enumerate","zip","dict_itemiterator","dict_reverseitemiterator","odict_iterator","itertools.zip_longest","itertools.pairwise"].contains n=false) (hQ:Q () s):wpAny M A (letOwnedTupleGo tg (.ref it) u) Q E s:=by
 unfold letOwnedTupleGo
 cases tg <;> first
   | exact Ae hQ
   | (cases u <;> first
       | exact Ae hQ
       | (refine Aa (wpAny_load ho ?_)
          rw[hc,hd];show wpAny M A (if (["enumerate","zip","dict_itemiterator","dict_reverseitemiterator","odict_iterator","itertools.zip_longest","itertools.pairwise"].contains n&&vs[0]?==some (rawInt _))=true then _ else _) Q E s;rw[if_neg (by intro h;rw[hn,FN] at h;cases h)];exact Ae hQ))
noncomputable def Itl(K:Ac)(a:Addr):It :=
 ⟨fun i H=>∃ xs x,SqL K H a xs/\xs[i]?=some x,fun i H x H'=>H'=H/\∀ xs,SqL K H a xs->xs[i]?=some x,fun i H=>∃ xs,SqL K H a xs/\xs.length<=i⟩
noncomputable def Itt(K:Ac)(a:Addr):It :=
 ⟨fun i H=>∃ xs x,SqT K H a xs/\xs[i]?=some x,fun i H x H'=>H'=H/\∀ xs,SqT K H a xs->xs[i]?=some x,fun i H=>∃ xs,SqT K H a xs/\xs.length<=i⟩
noncomputable def Itr(lo:Int)(n:Nat):It:=⟨fun i _=>i < n,fun i H x H'=>H'=H/\x=.int (lo+i),fun i _=>n<=i⟩
theorem zil{P:Program}{w:World}{K:Ac}{tg:Expr}(a it:Addr):Turn P w K tg (Itl K a) [it] it (fun i h=>h.IsListIter it a i) where
 mem:=by simp
 obj:=fun i h st b hb=>by
   have e:b=it:=by simpa using hb
   subst e;obtain⟨o,e,c,d⟩:=st;exact⟨o,e,fun v z=>by rw[d] at z;cases z⟩
 keep:=fun i h h' st k=>st.at fun o e=>k it (by simp) o e
 item:=by
   intro X hP hw hK hc i pins s σ H E I hf st hg;subst hP hw hK;obtain⟨xs,x,hq,hx⟩:=hg;obtain⟨its,rv,p,hz⟩:=I.list hq;obtain⟨u,hu,ru⟩:=rv.get hx;obtain⟨f0,f1,f2,f3,f4,f5⟩:=hf it (by simp);refine wpAny_pyNext_list_item st p.isList (x:=u) (by simpa using hu) fun h' st' sb=>?_;have I1:Inv X pins σ H { s with heap:=h' }:=I.turned (t':=s.toks) (fun b o hb e=>(sb.2 b hb).trans e) f0 f1 f3 f4 f5;obtain⟨o,e,c,d⟩:=id st';exact⟨u,rfl,zna (s:={ s with heap:=h' }) e c d (by decide) ⟨x,H,I1,ru,⟨rfl,fun ys hy=>by rw[I.list_inj hy hq];exact hx⟩,st',fun b hb=>(hf b hb).1⟩⟩
 done:=by
   intro X hP hw hK hc i pins s σ H E I hf st hg;subst hP hw hK;obtain⟨xs,hq,hx⟩:=hg;obtain⟨its,rv,p,hz⟩:=I.list hq;obtain⟨f0,f1,f2,f3,f4,f5⟩:=hf it (by simp);have hl:=rv.length;exact wpAny_pyNext_list_end (I.ok.hd hc) st p.isList (by simp;omega) fun h' eb=>⟨rfl,I.turned (t':=s.toks) (fun b o hb e=>eb b o hb e) f0 f1 f3 f4 f5⟩
 self:=fun _ _ _ _ _ st h=>wpAny_pyIter_listiter st h
theorem zgU{P:Program}{w:World}{K:Ac}{tg:Expr}(a it:Addr):Turn P w K tg (Itt K a) [it] it (fun i h=>h.IsTupleIter it a i) where
 mem:=by simp
 obj:=fun i h st b hb=>by
   have e:b=it:=by simpa using hb
   subst e;obtain⟨o,e,c,d⟩:=st;exact⟨o,e,fun v z=>by rw[d] at z;cases z⟩
 keep:=fun i h h' st k=>st.at fun o e=>k it (by simp) o e
 item:=by
   intro X hP hw hK hc i pins s σ H E I hf st hg;subst hP hw hK;obtain⟨xs,x,hq,hx⟩:=hg;obtain⟨its,rv,p,hz⟩:=I.tuple hq;obtain⟨u,hu,ru⟩:=rv.get hx;obtain⟨f0,f1,f2,f3,f4,f5⟩:=hf it (by simp);refine wpAny_pyNext_tuple_item st (show s.heap.IsTuple a its.toArray from p) (x:=u) (by simpa using hu) fun h' st' sb=>?_;have I1:Inv X pins σ H { s with heap:=h' }:=I.turned (t':=s.toks) (fun b o hb e=>(sb.2 b hb).trans e) f0 f1 f3 f4 f5;obtain⟨o,e,c,d⟩:=id st';exact⟨u,rfl,zna (s:={ s with heap:=h' }) e c d (by decide) ⟨x,H,I1,ru,⟨rfl,fun ys hy=>by rw[I.tuple_inj hy hq];exact hx⟩,st',fun b hb=>(hf b hb).1⟩⟩
 done:=by
   intro X hP hw hK hc i pins s σ H E I hf st hg;subst hP hw hK;obtain⟨xs,hq,hx⟩:=hg;obtain⟨its,rv,p,hz⟩:=I.tuple hq;obtain⟨f0,f1,f2,f3,f4,f5⟩:=hf it (by simp);have hl:=rv.length;exact wpAny_pyNext_tuple_end (I.ok.hd hc) st (show s.heap.IsTuple a its.toArray from p) (by simp;omega) fun h' eb=>⟨rfl,I.turned (t':=s.toks) (fun b o hb e=>eb b o hb e) f0 f1 f3 f4 f5⟩
 self:=fun _ _ _ _ _ st h=>wpAny_pyIter_tupleiter st h
theorem zgV{P:Program}{w:World}{K:Ac}{tg:Expr}(it:Addr)(lo:Int)(n:Nat):Turn P w K tg (Itr lo n) [it] it (fun i h=>IsRangeIter h it (lo+(i:Nat)*1) ((n:Int) - (i:Nat)) 1) where
 mem:=by simp
 obj:=fun i h st b hb=>by
   have e:b=it:=by simpa using hb
   subst e;exact⟨_,st,fun v z=>by
     have z':Data.fields _=Data.cell v:=z;cases z'⟩
 keep:=fun i h h' st k=>k it (by simp) _ st
 item:=by
   intro X hP hw hK hc i pins s σ H E I hf st hg;subst hP hw hK;obtain⟨f0,f1,f2,f3,f4,f5⟩:=hf it (by simp);have W:=Walks.range (prog:=X.prog) (w:=X.w) (I.ok.hd hc) it lo 1 n;refine W.item i s _ _ hg st fun v h' tk hv st' kk=>?_;obtain⟨t,rfl⟩:=hv;have I1:Inv X pins σ H { s with heap:=h',toks:=tk }:=I.turned (fun b o hb e=>kk b o (by simpa using hb) e) f0 f1 f3 f4 f5;refine⟨_,rfl,zna (s:={ s with heap:=h',toks:=tk }) (n:="range_iterator") st' rfl rfl (by decide) ⟨.int (lo+i),H,I1,⟨t,?_⟩,⟨rfl,rfl⟩,st',fun b hb=>(hf b hb).1⟩⟩;rw[Int.mul_one]
 done:=by
   intro X hP hw hK hc i pins s σ H E I hf st hg;subst hP hw hK;obtain⟨f0,f1,f2,f3,f4,f5⟩:=hf it (by simp);exact wpAny_pyNext_range_end (I.ok.hd hc) st (by have:n<=i:=hg;omega) fun h' eb=>⟨rfl,I.turned (t':=s.toks) (fun b o hb e=>eb b o hb e) f0 f1 f3 f4 f5⟩
 self:=fun _ _ _ _ _ st h=>wpAny_pyIter_rangeiter st h
section
variable {X:Cx} {tg:Expr}
noncomputable def zpf(K:Ac)(tl:TE):TI:=fun σ H R=>tl σ H fun x H1=>∃ a,x=.ref a/\(∃ xs,SqL K H1 a xs)/\R (Itl K a) H1
noncomputable def iTup(K:Ac)(tl:TE):TI:=fun σ H R=>tl σ H fun x H1=>∃ a,x=.ref a/\(∃ xs,SqT K H1 a xs)/\R (Itt K a) H1
theorem zmd{l:Expr}{tl:TE}(hl:PE X l tl):PI X tg l (zpf X.K tl):=by
 intro pins s σ H R I h;refine thn (hl pins s σ H _ I h) ?_;rintro v s1 ⟨x,H1,I1,r1,q1⟩;obtain⟨a,e,⟨xs,hq⟩,q⟩:=q1;subst e;cases r1;obtain⟨its,rv,p,hz⟩:=I1.list hq;refine B6 p.isList ?_;refine⟨s1.heap.objs.size,[s1.heap.objs.size],_,_,H1,rfl,I1.kept (t':=s1.toks) fun b o e=>Ai _ e,zil a _,⟨_,Az _ rfl,rfl,rfl⟩,fun b hb=>?_,q⟩;have e:b=s1.heap.objs.size:=by simpa using hb
 subst e;exact I1.fpOk (Ah _) (I1.hok.fresh (Ah _))
theorem znL{l:Expr}{tl:TE}(hl:PE X l tl):PI X tg l (iTup X.K tl):=by
 intro pins s σ H R I h;refine thn (hl pins s σ H _ I h) ?_;rintro v s1 ⟨x,H1,I1,r1,q1⟩;obtain⟨a,e,⟨xs,hq⟩,q⟩:=q1;subst e;cases r1;obtain⟨its,rv,p,hz⟩:=I1.tuple hq;refine wpAny_pyIter_tuple (show s1.heap.IsTuple a its.toArray from p) ?_;refine⟨s1.heap.objs.size,[s1.heap.objs.size],_,_,H1,rfl,I1.kept (t':=s1.toks) fun b o e=>Ai _ e,zgU a _,⟨_,Az _ rfl,rfl,rfl⟩,fun b hb=>?_,q⟩;have e:b=s1.heap.objs.size:=by simpa using hb
 subst e;exact I1.fpOk (Ah _) (I1.hok.fresh (Ah _))
theorem zkk{pins:List (Addr×Obj)}{σ:St}{H:Hp}{s:Shared}{R:It->Hp->Prop}{E:Value->Shared->Prop}{lo hi:Int}{t u v:Tok}{tk:Nat}(I:Inv X pins σ H s)(h1:-(2 ^ 62)<=lo)(h2:lo < 2 ^ 62)(h3:-(2 ^ 62)<=hi)(h4:hi < 2 ^ 62)
   (q:R (Itr lo (hi - lo).toNat) H):wpAny (model X.prog X.w) X.A (pyIter (.ref s.heap.objs.size)) (PIE X pins σ tg R) E { s with heap:=s.heap.push { cls:=.type "range",data:=.fields #[.int lo t,.int hi u,.int 1 v] },toks:=tk }:=by
 refine wpAny_pyIter_range (IsRange.new ..) (small_one h1 h2 h3 h4) ?_;have I1:Inv X pins σ H { s with heap:=s.heap.push { cls:=.type "range",data:=.fields #[.int lo t,.int hi u,.int 1 v] },toks:=tk }:=I.kept fun b o e=>Ai _ e;refine⟨(s.heap.push { cls:=.type "range",data:=.fields #[.int lo t,.int hi u,.int 1 v] }).objs.size,[(s.heap.push { cls:=.type "range",data:=.fields #[.int lo t,.int hi u,.int 1 v] }).objs.size],_,_,H,rfl,
   I1.kept (t':=tk) fun b o e=>Ai _ e,zgV _ lo (hi - lo).toNat,?_,fun b hb=>?_,q⟩
 . have e1:lo+((0:Nat):Int)*1=lo:=by simp
   have e2:(((hi - lo).toNat:Nat):Int) - ((0:Nat):Int)=Builtin.Range.rangeSize lo hi 1:=by rw[rangeSize_one];split <;> omega
   show IsRangeIter _ _ (lo+((0:Nat):Int)*1) ((((hi - lo).toNat:Nat):Int) - ((0:Nat):Int)) 1;rw[e1,e2];exact Az _ rfl
 . have e:b=(s.heap.push { cls:=.type "range",data:=.fields #[.int lo t,.int hi u,.int 1 v] }).objs.size:=by simpa using hb
   subst e;exact I1.fpOk (Ah _) (I1.hok.fresh (Ah _))
noncomputable def zpe(ta:TA):TI:=fun σ H R=>ta σ H fun vs H1=>∃ j:Int,vs=[.int j]/\-(2 ^ 62)<=j/\j < 2 ^ 62/\R (Itr 0 j.toNat) H1
theorem ziM{a:Expr}{ta:TA}{p pos:Pos}(hg:Gl X "range")(hm:X.mg "range"=none)(ha:PA X [a] ta)(hs:starEach [a] X.env=[(false,eval a X.env)]:=by rfl):PI X tg (.Call (.Name "range" p) [a] [] pos) (zpe ta):=by
 intro pins s σ H R I h;refine Call_ (zhC I hg hm boot_range (Ci (thn (ha pos pins s σ H _ I h) ?_) hs rfl));rintro us s1 ⟨vs,H1,I1,r1,q1⟩;obtain⟨j,e,q1,q2,q⟩:=q1;subst e
 cases r1 with
 | cons r rr =>
   cases rr;obtain⟨t,rfl⟩:=r;exact call_range_1 (zkk I1 (by omega) (by omega) q1 q2 (by simpa using q))
noncomputable def tFor(wi:TI)(g:TG)(tb:TS):TS:=fun D σ H=>wi σ H fun J H1=>∃ W:Nat->Nat->St->Hp->Prop,(∃ m,W 0 m σ H1)/\∀ i m σ H,W i m σ H ->
 (J.stop i H/\D.nx σ H)\/(J.go i H/\∃ N:St->Hp->Prop,(∀ σ' H',N σ' H'->∃ m',m' < m/\W (i+1) m' σ' H')/\∀ x H',J.yld i H x H'->g x σ H' fun σ2 H2=>tb { D with nx:=N,ct:=N,bk:=D.nx } σ2 H2)
noncomputable def zhc(fp:List Addr)(h:Heap):List (Addr×Obj):=fp.filterMap fun b=>(h.get? b).map fun o=>(b,o)
theorem zcV{fp:List Addr}{h:Heap}{b:Addr}{o:Obj}(hb:b∈fp)(e:h.get? b=some o):(b,o)∈zhc fp h:=List.mem_filterMap.mpr ⟨b,hb,by rw[e];rfl⟩
theorem ziS{fp:List Addr}{h:Heap}{p:Addr×Obj}(hp:p∈zhc fp h):p.1∈fp/\h.get? p.1=some p.2:=by
 obtain⟨b,hb,e⟩:=List.mem_filterMap.mp hp
 cases q:h.get? b with
 | none=>rw[q] at e;cases e
 | some o =>
   rw[q] at e;have e':(b,o)=p:=Aw e;subst e';exact⟨hb,q⟩
theorem Inv.pinned{pins:List (Addr×Obj)}{σ:St}{H:Hp}{s:Shared}{fp:List Addr}(I:Inv X pins σ H s)(hf:∀ b∈fp,FpOk X pins H b)(ho:∀ b∈fp,∃ o,s.heap.get? b=some o/\∀ v,o.data≠.cell v):Inv X (pins++zhc fp s.heap) σ H s :=
 I.pins_of fun p hp=>(List.mem_append.mp hp).elim (fun z=>I.pin p (AI _ z)) fun z=>by
   obtain⟨hb,e⟩:=ziS z;obtain⟨f0,f1,f2,_⟩:=hf p.1 hb;obtain⟨o,e',d⟩:=ho p.1 hb;rw[e] at e';cases e';exact⟨e,f0,f1,f2,d⟩
theorem Inv.unpinned{pins pl:List (Addr×Obj)}{σ:St}{H:Hp}{s:Shared}(I:Inv X (pins++pl) σ H s):Inv X pins σ H s:=I.pins_of fun p hp=>I.pin p (AI _ (Bj _ hp))
theorem znI{iter:Expr}{body:List Stmt}{wi:TI}{g:TG}{tb:TS}{pos:Pos}(hp:PassesOwn (model X.prog X.w) X.A X.env X.xe)(hc:X.calm=true)(hi:PI X tg iter wi)(hg:PG X tg g)(hb:PSs X body tb)
   (hs:∀ x,foldedSetIterable iter X.env x=pure x:=by intro _;rfl):PS X (.For tg iter body [] pos) (tFor wi g tb):=by
 intro pins s σ H D I h;refine wpAny_For (thn (hi pins s σ H _ I h) fun v s1 h1=>thn h1 fun itv s2 h2=>?_) hs;obtain⟨it,fp,tn,J,H2,e,I2,T,st2,f2,W,⟨m0,w0⟩,turn⟩:=h2;subst e
 -- what stays true of the iterator's objects through the loop
 have stat:∀ {H':Hp},(∀ b∈fp,H' b=none)->∀ b∈fp,FpOk X pins H' b:=fun hn b hb=>⟨hn b hb,(f2 b hb).2⟩
 refine codeAny_forLoop_any (fun n s'=>∃ i σ' H',Inv X pins σ' H' s'/\tn i s'.heap/\(∀ b∈fp,H' b=none)/\W i n σ' H') ?_ m0 ⟨0,σ,H2,I2,st2,fun b hb=>(f2 b hb).1,w0⟩;rintro n s3 ⟨i,σ3,H3,I3,st3,fr3,w3⟩
 rcases turn i n σ3 H3 w3 with ⟨stop,qn⟩ | ⟨go,N,hN,step⟩
 . refine BP hp (thn (T.done X rfl rfl rfl hc i pins s3 σ3 H3 X.xe I3 (stat fr3) st3 stop) ?_);rintro r s4 ⟨hr,I4⟩;subst hr;exact CT ⟨σ3,H3,I4,qn⟩
 . refine BP hp (thn (T.item X rfl rfl rfl hc i pins s3 σ3 H3 X.xe I3 (stat fr3) st3 go) ?_);rintro r s4 ⟨u,hr,h4⟩;subst hr;refine BP hp (thn h4 ?_);rintro _ s5 ⟨x,H5,I5,r5,y5,st5,fr5⟩;have I5':=I5.pinned (stat fr5) (T.obj _ _ st5);refine BP hp (thn (hg _ s5 σ3 H5 x u _ I5' r5 (step x H5 y5)) ?_);rintro _ s6 ⟨σ6,H6,I6,q6⟩;refine BP hp (thn (hb _ s6 σ6 H6 _ I6 q6) fun f s7 q7=>?_);have again:∀ {σ7:St} {H7:Hp},Inv X (pins++zhc fp s5.heap) σ7 H7 s7->N σ7 H7->∃ m,m < n/\∃ i σ' H',Inv X pins σ' H' s7/\tn i s7.heap/\(∀ b∈fp,H' b=none)/\W i m σ' H':=fun {σ7 H7} I7 n7=>by
     obtain⟨m',hm,w7⟩:=hN σ7 H7 n7;refine⟨m',hm,i+1,σ7,H7,I7.unpinned,T.keep _ _ _ st5 fun b hb o e=>(I7.pin (b,o) (AI _ (AI _ (zcV hb e)))).1,fun b hb=>?_,w7⟩;obtain⟨o,e,d⟩:=T.obj _ _ st5 b hb;exact (I7.pin (b,o) (AI _ (AI _ (zcV hb e)))).2.1
   cases f with
   | next=>obtain⟨σ7,H7,I7,n7⟩:=q7;exact again I7 n7
   | cont=>obtain⟨σ7,H7,I7,n7⟩:=q7;exact again I7 n7
   | brk=>obtain⟨σ7,H7,I7,q7⟩:=q7;exact⟨σ7,H7,I7.unpinned,q7⟩
   | ret v=>obtain⟨x7,σ7,H7,I7,r7,q7⟩:=q7;exact⟨x7,σ7,H7,I7.unpinned,r7,q7⟩
end
noncomputable abbrev R2:=V->V->Hp->VK->Prop
def OpR(X:Cx)(f:Value->Value->Sem Value)(r:R2):Prop :=
 ∀ (pins:List (Addr×Obj)) (s:Shared) (σ:St) (H:Hp) (x y:V) (v u:Value) (Q:VK),Inv X pins σ H s->RelV x v->RelV y u->r x y H Q ->
   wpAny (model X.prog X.w) X.A (f v u) (EP X pins σ Q) X.xe s
def zif(X:Cx)(f:Value)(r:List V->Hp->VK->Prop):Prop :=
 ∀ (pins:List (Addr×Obj)) (s:Shared) (σ:St) (H:Hp) (xs:List V) (us:List Value) (Q:VK),Inv X pins σ H s->Vals xs us->r xs H Q ->
   wpAny (model X.prog X.w) X.A (call f us) (EP X pins σ Q) X.xe s
def TruR(X:Cx)(r:V->Hp->(Bool->Hp->Prop)->Prop):Prop :=
 ∀ (pins:List (Addr×Obj)) (s:Shared) (σ:St) (H:Hp) (x:V) (v:Value) (Q:Bool->Hp->Prop),Inv X pins σ H s->RelV x v->r x H Q ->
   wpAny (model X.prog X.w) X.A (truthy v) (TP X pins σ Q) X.xe s
noncomputable def tOp(r:R2)(ta tb:TE):TE:=fun σ H Q=>ta σ H fun x H1=>tb σ H1 fun y H2=>r x y H2 Q
noncomputable def rI(C:Int->Int->Prop)(g:Int->Int->V):R2:=fun x y H Q=>∃ i j,x=.int i/\y=.int j/\C i j/\Q (g i j) H
noncomputable def rI0(g:Int->Int->V):R2:=fun x y H Q=>∃ i j,x=.int i/\y=.int j/\Q (g i j) H
section
variable {X:Cx} {a b c:Expr} {ta tb tc:TE} {pos:Pos}
theorem binT(ha:PE X a ta)(hb:PE X b tb){pins:List (Addr×Obj)}{s:Shared}{σ:St}{H:Hp}{R:V->V->Hp->Prop}(I:Inv X pins σ H s)
   (h:ta σ H fun x H1=>tb σ H1 fun y H2=>R x y H2) {Q:Value->Shared->Prop} {f:Value->Value->Sem Value}
   (hf:∀ v u s2 x y H2,Inv X pins σ H2 s2->RelV x v->RelV y u->R x y H2->wpAny (model X.prog X.w) X.A (f v u) Q X.xe s2) :
   wpAny (model X.prog X.w) X.A (eval a X.env) (fun v s₁=>wpAny (model X.prog X.w) X.A (eval b X.env) (fun u s₂=>wpAny (model X.prog X.w) X.A (f v u) Q X.xe s₂) X.xe s₁) X.xe s:=by
 refine thn (ha pins s σ H _ I h) ?_;rintro v s1 ⟨x,H1,I1,r1,q1⟩;refine thn (hb pins s1 σ H1 _ I1 q1) ?_;rintro u s2 ⟨y,H2,I2,r2,q2⟩;exact hf v u s2 x y H2 I2 r1 r2 q2
theorem zo2{op:Operator}{r:R2}(ho:OpR X (binaryOp op) r)(ha:PE X a ta)(hb:PE X b tb):PE X (.BinOp a op b pos) (tOp r ta tb):=by
 intro pins s σ H Q I h;exact wpAny_BinOp (binT ha hb I h fun v u s2 x y H2 I2 rx ry q=>ho pins s2 σ H2 x y v u Q I2 rx ry q)
theorem opI{f:Value->Value->Sem Value}{C:Int->Int->Prop}{g:Int->Int->Int}
   (rule:∀ (i j:Int) (t u:Tok) (s:Shared) (Q:Value->Shared->Prop) (E:Value->Shared->Prop),C i j->Q (.int (g i j) s.toks) { s with toks:=s.toks+1 }->wpAny (model X.prog X.w) X.A (f (.int i t) (.int j u)) Q E s) :
   OpR X f (rI C fun i j=>.int (g i j)):=by
 intro pins s σ H x y v u Q I rx ry h;obtain⟨i,j,rfl,rfl,hc,q⟩:=h;obtain⟨t,rfl⟩:=rx;obtain⟨t',rfl⟩:=ry;exact rule i j t t' s _ _ hc ⟨.int (g i j),H,I.tok _,⟨_,rfl⟩,q⟩
theorem opI0{f:Value->Value->Sem Value}{g:Int->Int->Int}
   (rule:∀ (i j:Int) (t u:Tok) (s:Shared) (Q:Value->Shared->Prop) (E:Value->Shared->Prop),Q (.int (g i j) s.toks) { s with toks:=s.toks+1 }->wpAny (model X.prog X.w) X.A (f (.int i t) (.int j u)) Q E s) :
   OpR X f (rI0 fun i j=>.int (g i j)):=by
 intro pins s σ H x y v u Q I rx ry h;obtain⟨i,j,rfl,rfl,q⟩:=h;obtain⟨t,rfl⟩:=rx;obtain⟨t',rfl⟩:=ry;exact rule i j t t' s _ _ ⟨.int (g i j),H,I.tok _,⟨_,rfl⟩,q⟩
theorem opB0{f:Value->Value->Sem Value}{g:Int->Int->Bool}
   (rule:∀ (i j:Int) (t u:Tok) (s:Shared) (Q:Value->Shared->Prop) (E:Value->Shared->Prop),Q (.bool (g i j)) s->wpAny (model X.prog X.w) X.A (f (.int i t) (.int j u)) Q E s) :
   OpR X f (rI0 fun i j=>.bl (g i j)):=by
 intro pins s σ H x y v u Q I rx ry h;obtain⟨i,j,rfl,rfl,q⟩:=h;obtain⟨t,rfl⟩:=rx;obtain⟨t',rfl⟩:=ry;exact rule i j t t' s _ _ ⟨.bl (g i j),H,I,rfl,q⟩
def CMul(i j:Int):Prop:=(-(2 ^ 64) < i/\i < 2 ^ 64)\/(-(2 ^ 64) < j/\j < 2 ^ 64)
theorem CMul.ok{i j:Int}(h:CMul i j):IntMulOk i j:=by
 rcases h with ⟨h1,h2⟩ | ⟨h1,h2⟩
 . exact .of_left (intBits_le_64 h1 h2)
 . exact .of_right (intBits_le_64 h1 h2)
theorem zn1:OpR X (binaryOp .Add) (rI0 fun i j=>.int (i+j)):=opI0 fun _ _ _ _ _ _ _ q=>add_int q
theorem znW:OpR X (binaryOp .Sub) (rI0 fun i j=>.int (i - j)):=opI0 fun _ _ _ _ _ _ _ q=>sub_int q
theorem znX:OpR X (binaryOp .Mult) (rI CMul fun i j=>.int (i*j)):=opI fun _ _ _ _ _ _ _ hc q=>mul_int q hc.ok
theorem znY:OpR X (binaryOp .Mod) (rI (fun _ j=>0 < j) fun i j=>.int (i % j)):=opI fun i j _ _ _ _ _ hc q=>by
 have h1:(0:Int) < j:=hc;exact mod_int' (by omega) (by rw[Int.fmod_eq_emod_of_nonneg i (by omega)];exact q)
end
section
variable {X:Cx} {a b c:Expr} {ta tb tc:TE} {pos:Pos}
theorem zk1{pins:List (Addr×Obj)}{σ:St}{H:Hp}{s:Shared}{Q:VK}{k k':Bool}(I:Inv X pins σ H s)(q:Q (.bl k) H)(e:k=k'):EP X pins σ Q (.bool k') s:=by
 subst e;exact⟨.bl k,H,I,rfl,q⟩
theorem zo6:OpR X (compareOp .Lt) (rI0 fun i j=>.bl (decide (i < j))):=opB0 fun _ _ _ _ _ _ _ q=>lt_int q
theorem zo7:OpR X (compareOp .GtE) (rI0 fun i j=>.bl (decide (j<=i))):=opB0 fun _ _ _ _ _ _ _ q=>ge_int q
theorem ziQ:OpR X (compareOp .In) (fun x y H Q=>∃ i j,x=.str i/\y=.str j/\Q (.bl (!(B0 j i 0 j.length 1).isEmpty)) H):=by
 intro pins s σ H x y v u Q I rx ry h;obtain⟨i,j,rfl,rfl,q⟩:=h;obtain⟨t,rfl⟩:=rx;obtain⟨t',rfl⟩:=ry;exact in_str (zk1 I q rfl)
theorem zmq:OpR X (compareOp .IsNot) (fun x y H Q=>y=.non/\Q (.bl (!decide (x=.non))) H):=by
 intro pins s σ H x y v u Q I rx ry h;obtain⟨rfl,q⟩:=h;cases ry;refine isnot_none_gen (zk1 I q ?_)
 cases x <;> first
   | (cases rx;rfl)
   | (obtain⟨t,rfl⟩:=rx;rfl)
theorem zfF:OpR X (compareOp .NotIn) (fun x y H Q=>∃ i j,x=.str i/\y=.str j/\Q (.bl (!(!(B0 j i 0 j.length 1).isEmpty))) H):=by
 intro pins s σ H x y v u Q I rx ry h;obtain⟨i,j,rfl,rfl,q⟩:=h;obtain⟨t,rfl⟩:=rx;obtain⟨t',rfl⟩:=ry;exact notIn_str (zk1 I q rfl)
theorem zmi{op:CmpOp}{r:R2}(ho:OpR X (compareOp op) r)(ha:PE X a ta)(hb:PE X b tb)(hm:behindInMarks op b=false):PE X (.Compare a [op] [b] pos) (tOp r ta tb):=by
 intro pins s σ H Q I h;exact wpAny_Compare1 (binT ha hb I h fun v u s2 x y H2 I2 rx ry q=>ho pins s2 σ H2 x y v u Q I2 rx ry q) hm
noncomputable def zoK(t:TE):TT:=fun σ H Q=>t σ H fun x H'=>∃ k,x=.bl k/\Q k H'
theorem zl3{op:CmpOp}{r:R2}(ho:OpR X (compareOp op) r)(ha:PE X a ta)(hb:PE X b tb)(hm:behindInMarks op b=false):PT X (.Compare a [op] [b] pos) (zoK (tOp r ta tb)):=by
 intro pins s σ H Q I h;refine Ee (thn (ha pins s σ H _ I h) fun v s1 ⟨x,H1,I1,r1,q1⟩=>thn (hb pins s1 σ H1 _ I1 q1) fun u s2 ⟨y,H2,I2,r2,q2⟩ =>
   thn (ho pins s2 σ H2 x y v u _ I2 r1 r2 q2) fun c s3 ⟨z,H3,I3,r3,k,e,q3⟩=>?_) hm
 subst e;cases r3;exact BC ⟨H3,I3,q3⟩
def TruV(K:Ac)(x:V)(H:Hp)(k:Bool):Prop :=
 match x with
 | .non=>k=false
 | .bl b=>k=b
 | .int i=>k=(i != 0)
 | .str y=>y.length<=sizeLine/\k=((y.length:Int) != 0)
 | .byt y=>y.size<=sizeLine/\k=((y.size:Int) != 0)
 | .ref p=>(∃ xs,SqL K H p xs/\k=!xs.isEmpty)\/(∃ xs,SqT K H p xs/\k=!xs.isEmpty)\/∃ kvs,H p=some (.dK kvs)/\k=!kvs.isEmpty
 | _=>False
theorem zhH{κ:Type}{kvs:List (κ×V)}{vs:List (κ×Value)}(r:KV kvs vs):(!vs.isEmpty)=!kvs.isEmpty:=by
 cases r <;> rfl
theorem zfb{xs:List V}{its:List Value}(r:Vals xs its):(!its.toArray.isEmpty)=!xs.isEmpty:=by
 cases r <;> simp
theorem zfK:(sizeLine:Nat) < 2 ^ 63:=by rw[D4];decide
theorem znf:TruR X (fun x H Q=>∃ k,TruV X.K x H k/\Q k H):=by
 intro pins s σ H x v Q I rx h;obtain⟨k,e,q⟩:=h;have hl:=zfK;have hs:sizeLine=16777216:=D4
 cases x with
 | non =>
   cases rx;have e':k=false:=e;subst e';exact truthy_none ⟨H,I,q⟩
 | bl b =>
   cases rx;have e':k=b:=e;subst e';exact BC ⟨H,I,q⟩
 | int i =>
   obtain⟨t,rfl⟩:=rx;have e':k=(i != 0):=e;subst e';exact PySem.P.truthy_int ⟨H,I,q⟩
 | str y =>
   obtain⟨t,rfl⟩:=rx;obtain⟨hy,e'⟩:y.length<=sizeLine/\k=((y.length:Int) != 0):=e;subst e';exact PySem.P.truthy_str (by omega) ⟨H,I.tok _,q⟩
 | byt y =>
   obtain⟨t,rfl⟩:=rx;obtain⟨hy,e'⟩:y.size<=sizeLine/\k=((y.size:Int) != 0):=e;subst e';exact PySem.W.truthy_bytes (by omega) ⟨H,I.tok _,q⟩
 | ref p =>
   cases rx;have e':(∃ xs,SqL X.K H p xs/\k=!xs.isEmpty)\/(∃ xs,SqT X.K H p xs/\k=!xs.isEmpty)\/∃ kvs,H p=some (.dK kvs)/\k=!kvs.isEmpty:=e
   rcases e' with ⟨xs,hx,e'⟩ | ⟨xs,hx,e'⟩ | ⟨kvs,hx,e'⟩
   . subst e';obtain⟨its,r,pl,hz⟩:=I.list hx;have hlen:=r.length;exact wpAny_truthy_list pl.isList (by simp only[Ao];omega) ⟨H,I.tok _,by rw[zfb r];exact q⟩
   . subst e';obtain⟨its,r,pl,hz⟩:=I.tuple hx;have hlen:=r.length;exact truthy_tuple pl (by simp only[Ao];omega) ⟨H,I.tok _,by rw[zfb r];exact q⟩
   . subst e';obtain⟨hz,hS,vs,r,m⟩:kvs.length<=sizeLine/\(p==sysModules)=false/\∃ vs,KV kvs vs/\s.heap.DictOf (zbx X.prog X.w) p vs:=I.hok p _ hx;have hlen:kvs.length=vs.length:=BR r;exact wpAny_truthy_dict hS m (by omega) ⟨H,I.tok _,by rw[zhH r];exact q⟩
 | _=>exact (show False from e).elim
theorem zkm(ha:PE X a ta)(he:∀ whole,isTrue a X.env whole=(do let v <-whole;standAt a.pos;holding [v] (truthy v))) :
   PT X a (fun σ H Q=>ta σ H fun x H'=>∃ k,TruV X.K x H' k/\Q k H'):=by
 intro pins s σ H Q I h;exact isTrue_plain (thn (ha pins s σ H _ I h) fun v s1 ⟨x,H1,I1,r1,q1⟩=>znf pins s1 σ H1 x v Q I1 r1 q1) (he _)
theorem zhn:OpR X (binaryOp .Add) (fun x y H Q=>∃ i j,x=.str i/\y=.str j/\i.length+j.length<=sizeLine/\Q (.str (i++j)) H):=by
 intro pins s σ H x y v u Q I rx ry h;obtain⟨i,j,rfl,rfl,hz,q⟩:=h;obtain⟨t,rfl⟩:=rx;obtain⟨t',rfl⟩:=ry;exact add_str (fun t' tk=>⟨.str (i++j),H,I.tok _,⟨_,rfl⟩,q⟩) hz
theorem vals1{x:V}{us:List Value}(r:Vals [x] us):∃ u,us=[u]/\RelV x u:=by
 cases r with
 | cons r1 r2=>cases r2;exact⟨_,rfl,r1⟩
theorem vals2{x y:V}{us:List Value}(r:Vals [x,y] us):∃ u w',us=[u,w']/\RelV x u/\RelV y w':=by
 cases r with
 | cons r1 r2 =>
   cases r2 with
   | cons r3 r4=>cases r4;exact⟨_,_,rfl,r1,r3⟩
theorem zlc:zif X (.builtin "abs") (fun xs H Q=>∃ i,xs=[.int i]/\Q (.int (if i < 0 then -i else i)) H):=by
 intro pins s σ H xs us Q I r h;obtain⟨i,rfl,q⟩:=h;obtain⟨u,rfl,t,rfl⟩:=vals1 r;exact call_abs_int fun u tk=>⟨.int (if i < 0 then -i else i),H,I.tok _,⟨_,rfl⟩,q⟩
theorem zjl(hc:X.calm=true):zif X (.builtin "min") (fun xs H Q=>∃ i j,xs=[.int i,.int j]/\Q (.int (if j < i then j else i)) H):=by
 intro pins s σ H xs us Q I r h;obtain⟨i,j,rfl,q⟩:=h;obtain⟨u,w',rfl,⟨t,rfl⟩,⟨t',rfl⟩⟩:=vals2 r;refine min_two_ints (I.ok.hd hc) fun h' tk k=>⟨_,H,I.kept k,?_,q⟩
 by_cases hj:j < i
 . rw[if_pos hj,if_pos hj];exact⟨_,rfl⟩
 . rw[if_neg hj,if_neg hj];exact⟨_,rfl⟩
theorem zgm:zif X (.type "int") (fun xs H Q=>(∃ i,xs=[.int i]/\Q (.int i) H)\/∃ k,xs=[.bl k]/\Q (.int (if k then 1 else 0)) H):=by
 intro pins s σ H xs us Q I r h
 rcases h with ⟨i,rfl,q⟩ | ⟨k,rfl,q⟩
 . obtain⟨u,rfl,t,rfl⟩:=vals1 r;exact call_int_int ⟨.int i,H,I,⟨_,rfl⟩,q⟩
 . obtain⟨u,rfl,r1⟩:=vals1 r;cases r1;exact call_int_bool ⟨.int (if k then 1 else 0),H,I.tok _,⟨_,rfl⟩,q⟩
end
theorem RelO.some_of{v:V}{o:Option Value}(r:RelO (some v) o):∃ u,o=some u/\RelV v u:=by
 cases o with
 | none=>exact (show False from r).elim
 | some u=>exact⟨u,rfl,r⟩
structure Room(k:Nat)(A:Around):Prop where
 hd:A.handled=none
 dp:A.depth+3*k+5 < recursionLimit
 un:A.units+16*k+200 < cLine
 gd:A.guards=some []
theorem Room.mono{j k:Nat}{A:Around}(r:Room k A)(h:j<=k):Room j A:=⟨r.hd,by have:=r.dp;omega,by have:=r.un;omega,r.gd⟩
theorem Room.deeper{k:Nat}{A:Around}(r:Room (k+1) A)(env:Env):Room k (A.deeper env) :=
 ⟨r.hd,by have:=r.dp;show A.depth+1+3*k+5 < _;omega,by have:=r.un;show A.units+3+16*k+200 < _;omega,r.gd⟩
theorem Room.depth{k:Nat}{A:Around}(r:Room k A):A.depth < recursionLimit:=by have:=r.dp;omega
theorem Room.units{k:Nat}{A:Around}(r:Room k A):A.units+64 < cLine:=by have:=r.un;omega
noncomputable def tNil:TA:=fun _ H Q=>Q [] H
noncomputable def zoP(ta:TE)(tr:TA):TA:=fun σ H Q=>ta σ H fun x H1=>tr σ H1 fun xs H2=>Q (x::xs) H2
section
variable {X:Cx} {e:Expr} {es:List Expr} {te:TE} {t:TA} {pos:Pos}
theorem zmn:PA X [] tNil:=fun _ _ _ _ H Q I h=>Calls.spliced_nil ⟨[],H,I,.nil,h⟩
theorem zhf(ha:PE X e te)(hr:PA X es t)(hs:starEach (e::es) X.env=(false,eval e X.env)::starEach es X.env:=by rfl):PA X (e::es) (zoP te t):=by
 intro pos pins s σ H Q I h;rw[hs];show wpAny _ _ (spliced ((false,eval e X.env)::backTo pos (starEach es X.env))) _ _ s;refine Calls.spliced_cons (thn (ha pins s σ H _ I h) ?_);rintro u s1 ⟨x,H1,I1,r1,q1⟩;exact thn (hr pos pins s1 σ H1 _ I1 q1) fun us s2 ⟨xs,H2,I2,r2,q2⟩=>⟨x::xs,H2,I2,.cons r1 r2,q2⟩
noncomputable def tTup(t:TA):TE:=fun σ H Q=>t σ H fun xs H1=>xs.length<=sizeLine/\∀ p,H1 p=none->Q (.ref p) (upd H1 p (.tup xs))
noncomputable def tLst(t:TA):TE:=fun σ H Q=>t σ H fun xs H1=>xs.length<=sizeLine/\∀ p,H1 p=none->Q (.ref p) (upd H1 p (.lst xs))
theorem znQ{x1}(h:PA X es t):PE X (.Tuple es x1 pos) (tTup t):=by
 intro pins s σ H Q I hq;refine wpAny_Tuple_spliced (thn (h pos pins s σ H _ I hq) fun us s1 ⟨xs,H1,I1,r,z,q⟩=>⟨by rw[<-r.length];exact z,?_⟩);have hf:H1 s1.heap.objs.size=none:=I1.hok.fresh (Ah _);refine⟨.ref s1.heap.objs.size,upd H1 s1.heap.objs.size (.tup xs),I1.laid (t':=s1.toks) (fun b u e=>Ai _ e) (Ah _) ?_,rfl,q _ hf⟩;exact⟨z,us,r,⟨_,Az _ rfl,rfl,rfl,_,rfl⟩⟩
theorem znS(h:PA X es t):PE X (.List es pos) (tLst t):=by
 intro pins s σ H Q I hq;refine wpAny_List_spliced (thn (h pos pins s σ H _ I hq) fun us s1 ⟨xs,H1,I1,r,z,q⟩=>⟨by rw[<-r.length];exact z,?_⟩);have hf:H1 s1.heap.objs.size=none:=I1.hok.fresh (Ah _);refine⟨.ref s1.heap.objs.size,upd H1 s1.heap.objs.size (.lst xs),I1.laid (t':=s1.toks) (fun b u e=>Ai _ e) (Ah _) ?_,rfl,q _ hf⟩;exact⟨z,us,0,r,Az _ rfl⟩
end
noncomputable abbrev Sp:=List V->Hp->VK->XK->Prop
noncomputable abbrev CXT:=List Env->Hp->Shared->XK->Value->Shared->Prop
structure Env0(P:Program)(w:World)(K:Ac)(mg:Str->Option Value)(base:Heap)(A:Around)(outer:List Env)(s:Shared)(H:Hp):Prop where
 frames:A.frames=some outer
 mod:Mod K mg base
 bs:∀ b o,base.get? b=some o->s.heap.get? b=some o/\H b=none
 bsz:base.objs.size<=s.heap.objs.size
 funs:s.heap.FunFrames base outer
 frf:∀ b∈frs outer,H b=none
 hok:HOk P w H s.heap
 bare:AllBare s.gens
def CE(outer:List Env)(P:Program)(w:World)(H:Hp)(s:Shared)(Q:VK)(u:Value)(s':Shared):Prop :=
 ∃ v H',s'.os=s.os/\AllBare s'.gens/\Un (frs outer) [] H H' s.heap s'.heap/\HOk P w H' s'.heap/\RelV v u/\Q v H'
def CR(CX:CXT)(outer:List Env)(P:Program)(w:World)(H:Hp)(s:Shared)(Q:VK)(E:XK)(r:Result)(s':Shared):Prop :=
 match r with
 | .ok (.ret u)=>CE outer P w H s Q u s'
 | .ok _=>False
 | .error e=>CX outer H s E e s'
structure FnOk(P:Program)(w:World)(K:Ac)(mg:Str->Option Value)(base:Heap)(CX:CXT)(k:Nat)(f:Addr)(fd:FuncData)(ps:List Str)(sp:Sp):Prop where
 len:∀ vs H Q E,sp vs H Q E->vs.length=ps.length
 run:∀ (A:Around) (outer:List Env) (s:Shared) (H:Hp) (args:Args) (us:List Value) (vs:List V) (Q:VK) (E:XK),Room k A->Env0 P w K mg base A outer s H->BindsTo s fd args (ps.zip us)->Vals vs us->sp vs H Q E ->
   codeAny (model P w) A (.call (.ref f) args) (CR CX outer P w H s Q E) s
section
variable {X:Cx} {pins:List (Addr×Obj)} {σ:St} {H:Hp} {s s':Shared}
theorem Inv.env0(I:Inv X pins σ H s):Env0 X.prog X.w X.K X.mg X.base X.A X.stack s H :=
 ⟨I.ok.frames,I.ok.mod,I.bs,AH I.ok.bsz I.sz,I.stack,I.stkFree,I.hok,I.bare⟩
theorem Inv.after{Q:VK}{u:Value}(I:Inv X pins σ H s)(h:CE X.stack X.prog X.w H s Q u s'):EP X pins σ Q u s':=by
 obtain⟨v,H',os,bare,un,hok,r,q⟩:=h;obtain⟨hh,g,d,t,os'⟩:=s';obtain rfl:os'=s.os:=os;exact⟨v,H',I.call (h':=hh) (g':=g) (d':=d) (t':=t) (ch:=[]) un hok bare (fun b z=>absurd z (by simp)),r,q⟩
end
noncomputable def zoQ(sp:Sp)(dvs:List V)(E:XK)(t:TA):TE:=fun σ H Q=>t σ H fun vs H1=>sp (vs++dvs) H1 Q E
def Binds(K:Ac)(fd:FuncData)(ps:List Str)(ds:List Value):Prop :=
 ∀ (s:Shared) (us:List Value),K.In s.heap->(us++ds).length=ps.length->BindsTo s fd ⟨us,[]⟩ (ps.zip (us++ds))
theorem Binds.all{K:Ac}{fd:FuncData}{ps:List Str}(h:∀ us:List Value,us.length=ps.length->bindArgs fd ⟨us,[]⟩=pure (ps.zip us)):Binds K fd ps []:=fun s us _ hl=>by
 rw[As] at hl ⊢;exact .of_eq (h us hl)
def Passes(CX:CXT)(X:Cx)(E:XK):Prop:=∀ (pins:List (Addr×Obj)) (σ:St) (H:Hp) (s:Shared) (e:Value) (s':Shared),Inv X pins σ H s->CX X.stack H s E e s'->X.xe e s'
section
variable {X:Cx} {CX:CXT} {k:Nat} {f C:Addr} {fd:FuncData} {ps:List Str} {sp:Sp} {dvs:List V} {ds:List Value} {E:XK} {x m:Str} {p pos apos:Pos} {e o:Expr} {es:List Expr} {ta:TE} {t:TA}
theorem znz{pins:List (Addr×Obj)}{σ:St}{H:Hp}{s:Shared}{Q:VK}{us:List Value}{vs:List V}(F:FnOk X.prog X.w X.K X.mg X.base CX k f fd ps sp)(hr:Room k X.A)(hb:Binds X.K fd ps ds)(hd:Vals dvs ds)(hx:Passes CX X E)
   (I:Inv X pins σ H s) (r:Vals vs us) (h:sp (vs++dvs) H Q E):wpAny (model X.prog X.w) X.A (call (.ref f) us) (EP X pins σ Q) X.xe s:=by
 have r2:Vals (vs++dvs) (us++ds):=r.append hd;have hl:(us++ds).length=ps.length:=by rw[<-r2.length];exact F.len _ _ _ _ h
 refine wpAny_call (CU (F.run X.A X.stack s H ⟨us,[]⟩ (us++ds) (vs++dvs) Q E hr I.env0 (hb s us I.kIn hl) r2 h) fun r s' hq=>?_)
 cases r with
 | error e=>exact hx pins σ H s e s' I hq
 | ok fl =>
   cases fl with
   | ret u=>exact I.after hq
   | next=>exact False.elim hq
   | brk=>exact False.elim hq
   | cont=>exact False.elim hq
theorem zmj(F:FnOk X.prog X.w X.K X.mg X.base CX k f fd ps sp)(hr:Room k X.A)(hg:Gl X x)(hm:X.mg x=some (.ref f))(hk:BW X.K (.ref f)=true)(hb:Binds X.K fd ps ds)(hd:Vals dvs ds)(hx:Passes CX X E)
   (ha:PA X (e::es) t) (hdb:(x==("__debug__":Str))=false:=by decide) (he:starEach (e::es) X.env=(false,eval e X.env)::starEach es X.env:=by rfl) (hpl:(backTo pos (starEach es X.env)).any (·.1)=false:=by rfl) :
   PE X (.Call (.Name x p) (e::es) [] pos) (zoQ sp dvs E t):=by
 intro pins s σ H Q I h;refine Dj (zmI I hg hm ?_ hdb);refine PySem.W.callWith_K (h₀:=X.base) I.ok.mod.kin hk (thn (ha pos pins s σ H _ I h) fun us s1 ⟨vs,H1,I1,r,q⟩=>⟨I1.kIn,?_⟩) he hpl;exact znz F hr hb hd hx I1 r q
end
structure FnScope(N P:List Str)(sc:Scope):Prop where
 kind:sc.kind=.function
 co:sc.isCoroutine=false
 gen:sc.isGenerator=false
 nd:N.Nodup
 pre:N.take P.length=P
 par:∀ x∈P,sc.names.lookup x=some .local\/sc.names.lookup x=some .cell
 nofree:∀ y∈sc.names,y.2≠.free
theorem zgp{kindOf:Str->Option NameKind}{x:Str}:∀ {binds:List (Str×Value)} {m:Str->Option Value},(∀ v,(x,v) ∉ binds)->bindL kindOf binds m x=m x
 | [],_,_=>rfl
 | (n,v)::r,m,h=>by
   unfold bindL;rw[zgp fun w hw=>h w (Af _ hw)]
   split
   . have:x≠n:=by rintro rfl;exact h v Ag
     simp[this]
   . rfl
theorem zgr{kindOf:Str->Option NameKind}{x:Str}:∀ {binds:List (Str×Value)} {m:Str->Option Value},(∀ v,(x,v) ∉ binds)->bindC kindOf binds m x=m x
 | [],_,_=>rfl
 | (n,v)::r,m,h=>by
   unfold bindC;rw[zgr fun w hw=>h w (Af _ hw)]
   split
   . rfl
   . have:x≠n:=by rintro rfl;exact h v Ag
     simp[this]
theorem zgq{kindOf:Str->Option NameKind}{x:Str}{v:Value}:∀ {P:List Str} {vs:List Value} {i:Nat} {m:Str->Option Value},P.Nodup->P[i]?=some x->vs[i]?=some v->kindOf x=some .local ->
   bindL kindOf (P.zip vs) m x=some v
 | [],_,_,_,_,h,_,_=>by simp at h
 | _::_,[],_,_,_,_,h,_=>by simp at h
 | p::P,w::vs,0,m,nd,h1,h2,hk=>by
   simp at h1 h2;subst h1;subst h2;show bindL kindOf ((p,w)::P.zip vs) m p=_;unfold bindL;rw[zgp fun v hv=>(List.nodup_cons.mp nd).1 (DW hv).1,if_pos hk];simp
 | p::P,w::vs,i+1,m,nd,h1,h2,hk=>by
   show bindL kindOf ((p,w)::P.zip vs) m x=_;unfold bindL;exact zgq (i:=i) (List.nodup_cons.mp nd).2 (by simpa using h1) (by simpa using h2) hk
theorem zgs{kindOf:Str->Option NameKind}{x:Str}{v:Value}:∀ {P:List Str} {vs:List Value} {i:Nat} {m:Str->Option Value},P.Nodup->P[i]?=some x->vs[i]?=some v->kindOf x≠some .local ->
   bindC kindOf (P.zip vs) m x=some v
 | [],_,_,_,_,h,_,_=>by simp at h
 | _::_,[],_,_,_,_,h,_=>by simp at h
 | p::P,w::vs,0,m,nd,h1,h2,hk=>by
   simp at h1 h2;subst h1;subst h2;show bindC kindOf ((p,w)::P.zip vs) m p=_;unfold bindC;rw[zgr fun v hv=>(List.nodup_cons.mp nd).1 (DW hv).1,if_neg hk];simp
 | p::P,w::vs,i+1,m,nd,h1,h2,hk=>by
   show bindC kindOf ((p,w)::P.zip vs) m x=_;unfold bindC;exact zgs (i:=i) (List.nodup_cons.mp nd).2 (by simpa using h1) (by simpa using h2) hk
noncomputable def start(N:List Str)(vs:List V):St:=vs.map some++Bl (N.length - vs.length) none
noncomputable def cxOf(CX:CXT)(P:Program)(w:World)(K:Ac)(mg:Str->Option Value)(base:Heap)(N:List Str)(qual:Str)(scope:Scope)(f:Addr)(cd:Value)(A:Around)(outer:List Env)(s:Shared)(H:Hp)(E:XK):Cx where
 prog:=P
 w:=w
 K:=K
 mg:=mg
 base:=base
 A:=A.deeper (envOfC qual scope s.heap.objs.size f cd)
 N:=N
 s₀:=s
 H₀:=H
 env:=envOfC qual scope s.heap.objs.size f cd
 outer:=outer
 stack:=envOfC qual scope s.heap.objs.size f cd::outer
 ex:=[]
 calm:=true
 fn:=fun _=>true
 pn:=[]
 xe:=fun e s'=>wpAny (model P w) (A.deeper (envOfC qual scope s.heap.objs.size f cd)) (leaving (envOfC qual scope s.heap.objs.size f cd) e) (fun _ s''=>CX outer H s E e s'') (fun e' s''=>CX outer H s E e' s'') s'
theorem zh0{sc:Scope}{n:Nat}{x:Str}(h:sc.names.lookup x=some .cell):∃ c,(cellsFrom n sc.names []).lookup x=some c:=by
 have q:=D5 sc.names n [] (.inl h);exact Option.isSome_iff_exists.mp q
theorem zi9{CX:CXT}{P:Program}{w:World}{K:Ac}{mg:Str->Option Value}{base:Heap}{N ps:List Str}{qual:Str}{scope:Scope}{f:Addr}{cd:Value}{A:Around}{outer:List Env}{s s1:Shared}{H:Hp}{E:XK}{us:List Value}{vs:List V}
   (S:FnScope N ps scope) (hd:A.handled=none) (e0:Env0 P w K mg base A outer s H) (hl:vs.length=ps.length) (r:Vals vs us)
   (x:InCallC s s.heap.objs.size (bindL (envOfC qual scope s.heap.objs.size f cd).kindOf (ps.zip us) fun _=>none) (cellsFrom (s.heap.objs.size+1) scope.names []) (bindC (envOfC qual scope s.heap.objs.size f cd).kindOf (ps.zip us) fun _=>none) s1) :
   Inv (cxOf CX P w K mg base N qual scope f cd A outer s H E) [] (start N vs) H s1:=by
 have hpl:ps.length<=N.length:=by have:=congrArg Fk S.pre;rw[Bk] at this;omega
 obtain⟨h1,tk,rfl,hk⟩:=x.done;have noA:∀ b:Addr,b ∉ (cxOf CX P w K mg base N qual scope f cd A outer s H E).ex:=fun b z=>absurd (show b∈([]:List Addr) from z) (by simp);refine⟨⟨e0.mod,S.kind,rfl,rfl,Ah _,fun y z c h1 h2=>?_,fun y hy=>?_,fun y c _ h=>?_,fun _=>hd,Around.frames_deeper e0.frames,.inr ⟨rfl,rfl⟩,fun b z=>absurd z (noA b),e0.bs,e0.bsz,fun b _ _=>noA b,fun b z=>absurd z (noA b),e0.funs,e0.frf⟩,
   rfl,e0.bare,Un.kept hk,⟨_,x.toInCall.ns,fun i y v h1 h2 h3=>?_⟩,fun y c h=>⟨_,x.cell y c h⟩,e0.hok.fresh (Ah _),fun y c h=>?_,fun p hp=>absurd (show p∈([]:List (Addr×Obj)) from hp) (by simp),e0.hok.kept hk,?_⟩
 . exact name_of_addr x.apart (AM h1) (AM h2)
 . have hy:scope.names.lookup y=some .cell\/scope.names.lookup y=some .free:=hy
   rcases hy with hy | hy
   . exact zh0 hy
   . exact absurd rfl (S.nofree _ (AM hy))
 . exact Ca (x.above y c (AM h))
 . have hi:i < vs.length:=by
     unfold start at h2
     by_cases hi:i < vs.length
     . exact hi
     . rw[AO (by simpa using hi)] at h2;rw[B1] at h2
       split at h2 <;> cases h2
   have ha:vs[i]?=some v:=by
     unfold start at h2;rw[Ak (by simpa using hi),Av] at h2
     cases e:vs[i]? with
     | none=>rw[e] at h2;cases h2
     | some a=>rw[e] at h2;cases h2;rfl
   obtain⟨u,hu,rv⟩:=r.get ha;have hp:ps[i]?=some y:=by
     rw[<-S.pre,List.getElem?_take_of_lt (by omega)];exact h1
   have ndP:ps.Nodup:=by rw[<-S.pre];exact S.nd.sublist (EY _ _)
   refine⟨u,rv,?_⟩
   rcases S.par y (AY hp) with k | k
   . exact .inl ⟨k,zgq ndP hp hu k⟩
   . obtain⟨c,e⟩:=zh0 (n:=s.heap.objs.size+1) k;refine .inr ⟨.inl k,c,e,?_⟩;have q:=x.cell y c e;rw[zgs ndP hp hu (by show scope.names.lookup y≠_;rw[k];decide)] at q;exact q
 . exact e0.hok.fresh (Ca (x.above y c (AM h)))
 . unfold start;show _=N.length;rw[AF,Ad,Bw];omega
theorem zpi{CX:CXT}{P:Program}{w:World}{K:Ac}{mg:Str->Option Value}{base:Heap}{k:Nat}{f:Addr}{name qual:Str}{params:Arguments}{body:List Stmt}{scope:Scope}{dV kV doc pm cdv ct oc:Value}{an od:Option Addr}
   {osl:Array (Option Value)} {N ps:List Str} {sp:Sp} (lk:K.lookup f=some ⟨oc,od,.func (BJ name qual params body scope dV kV doc pm an cdv ct),osl⟩) (hcd:CG K cdv qual=true) (S:FnScope N ps scope)
   (len:∀ vs H Q E,sp vs H Q E->vs.length=ps.length)
   (hbody:∀ (A:Around) (outer:List Env) (s:Shared) (H:Hp) (vs:List V) (Q:VK) (E:XK),Room k (A.deeper (envOfC qual scope s.heap.objs.size f cdv))->sp vs H Q E ->
     ∃ t,PSs (cxOf CX P w K mg base N qual scope f cdv A outer s H E) body t/\t { nx:=fun _ H'=>Q .non H',rt:=Q } (start N vs) H) :
   FnOk P w K mg base CX (k+1) f (BJ name qual params body scope dV kV doc pm an cdv ct) ps sp:=by
 refine⟨len,fun A outer s H args us vs Q E hr e0 hb r hsp=>?_⟩;have hl:=len _ _ _ _ hsp;have KX:K.In s.heap:=e0.mod.kin.keeps fun b o e=>(e0.bs b o e).1;have lim:s.heap.NoLimit:=e0.mod.nolimit.keeps fun b o e=>(e0.bs b o e).1;have hkind:∀ y∈ps.zip us,scope.names.lookup y.1=some .local\/(scope.names.lookup y.1=some .cell/\((cellsFrom (s.heap.objs.size+1) scope.names []).lookup y.1).isSome=true):=by
   rintro ⟨n,v⟩ hy
   rcases S.par n (DW hy).1 with q | q
   . exact .inl q
   . exact .inr ⟨q,D5 _ _ _ (.inl q)⟩
 refine codeAny_call_function hr.depth (KX _ _ lk) rfl S.co S.gen rfl (PySem.W.codeRec_of KX hcd) (hb _ _ _ _ ?_);refine wpAny_newFunctionEnv_cells S.kind hkind fun env he s1 x=>?_;subst he;refine⟨lim.keeps x.toInCall.keep,codeAny_func ?_⟩;obtain⟨t,ht,hq⟩:=hbody A outer s H vs Q E (hr.deeper _) hsp;have I:Inv (cxOf CX P w K mg base N qual scope f cdv A outer s H E) [] (start N vs) H s1:=zi9 S hr.hd e0 hl r x;refine Bp (ht [] s1 (start N vs) H _ I hq) (fun fl s' hs=>?_) fun e s' hs=>hs;have fin:∀ {σ':St} {H':Hp} {v:V} {u:Value},Inv (cxOf CX P w K mg base N qual scope f cdv A outer s H E) [] σ' H' s'->RelV v u->Q v H'->CE outer P w H s Q u s' :=
   fun {σ' H' v u} J rv q=>⟨v,H',J.os,J.bare,J.base,J.hok,rv,q⟩
 cases fl with
 | ret u =>
   obtain⟨v,σ',H',J,rv,q⟩:=hs;exact fin J rv q
 | next =>
   obtain⟨σ',H',J,q⟩:=hs;exact fin (v:=V.non) (u:=Bf) J rfl q
 | brk =>
   obtain⟨_,_,_,q⟩:=hs;exact False.elim q
 | cont =>
   obtain⟨_,_,_,q⟩:=hs;exact False.elim q
section
variable {X:Cx} {x:Str} {p pos:Pos} {e:Expr} {es:List Expr} {t:TA} {id T:String} {r:List V->Hp->VK->Prop}
noncomputable def tCB(r:List V->Hp->VK->Prop)(t:TA):TE:=fun σ H Q=>t σ H fun vs H1=>r vs H1 Q
theorem zhe(hc:zif X (.builtin id) r)(hg:Gl X x)(hm:X.mg x=none)(hv:bootBuiltins x=some (.builtin id))(ha:PA X (e::es) t)(hn:x≠"__name__":=by decide)(hdb:(x==("__debug__":Str))=false:=by decide)
   (he:starEach (e::es) X.env=(false,eval e X.env)::starEach es X.env:=by rfl) (hpl:(backTo pos (starEach es X.env)).any (·.1)=false:=by rfl):PE X (.Call (.Name x p) (e::es) [] pos) (tCB r t):=by
 intro pins s σ H Q I h;refine Dj (zhC I hg hm hv ?_ hn hdb);exact PyProof.Rows.callWith_builtin1 (thn (ha pos pins s σ H _ I h) fun us s1 ⟨vs,H1,I1,r1,q1⟩=>hc pins s1 σ H1 vs us Q I1 r1 q1) he hpl
theorem ziN(hc:zif X (.type T) r)(hg:Gl X x)(hm:X.mg x=none)(hv:bootBuiltins x=some (.type T))(ha:PA X (e::es) t)(hn:x≠"__name__":=by decide)(hdb:(x==("__debug__":Str))=false:=by decide)
   (he:starEach (e::es) X.env=(false,eval e X.env)::starEach es X.env:=by rfl) (hpl:(backTo pos (starEach es X.env)).any (·.1)=false:=by rfl):PE X (.Call (.Name x p) (e::es) [] pos) (tCB r t):=by
 intro pins s σ H Q I h;refine Dj (zhC I hg hm hv ?_ hn hdb);exact Ci (thn (ha pos pins s σ H _ I h) fun us s1 ⟨vs,H1,I1,r1,q1⟩=>hc pins s1 σ H1 vs us Q I1 r1 q1) he hpl
end
section
variable {κ:Type} [DecidableEq κ]
noncomputable def valV(kvs:List (κ×V))(k:κ):Option V:=(kvs.find? fun kv=>decide (kv.1=k)).map (·.2)
noncomputable def putK(kvs:List (κ×V))(k:κ)(v:V):List (κ×V) :=
 if (kvs.any fun kv=>decide (kv.1=k))=true then kvs.map (fun kv=>if kv.1=k then (kv.1,v) else kv) else kvs++[(k,v)]
theorem zfo{p:κ×V}{r:List (κ×V)}{k:κ}(e:p.1=k):valV (p::r) k=some p.2:=by simp[valV,BA,e]
theorem zfp{p:κ×V}{r:List (κ×V)}{k:κ}(e:¬ p.1=k):valV (p::r) k=valV r k:=by simp[valV,BA,e]
theorem zgS(k:κ):∀ kvs:List (κ×V),(kvs.any fun kv=>decide (kv.1=k))=(valV kvs k).isSome
 | []=>rfl
 | p::r=>by
   rw[Co]
   by_cases e:p.1=k
   . simp only[zfo e,decide_eq_true e,Bool.true_or,ER]
   . rw[zfp e,decide_eq_false e,FR];exact zgS k r
theorem zeb(kvs:List (κ×V))(k:κ)(v:V):(putK kvs k v).length<=kvs.length+1:=by
 unfold putK
 split
 . rw[Ad];omega
 . rw[AF,AW,List.length_nil];omega
theorem RelO.isSome_eq{o:Option V}{u:Option Value}(r:RelO o u):o.isSome=u.isSome:=by
 cases o with
 | none=>cases u with
   | none=>rfl
   | some _=>exact (show False from r).elim
 | some _=>cases u with
   | none=>exact (show False from r).elim
   | some _=>rfl
theorem KV.val{kvs:List (κ×V)}{vs:List (κ×Value)}(r:KV kvs vs)(k:κ):RelO (valV kvs k) (valueAt vs k):=by
 unfold KV at r
 induction r with
 | nil=>exact Es
 | @cons p q ps qs h t ih =>
   obtain⟨h1,h2⟩:=h
   by_cases e:p.1=k
   . have e':q.1=k:=h1.symm.trans e;have b:valueAt (q::qs) k=some q.2:=by simp[valueAt,BA,e']
     rw[zfo e,b];exact h2
   . have e':¬ q.1=k:=fun z=>e (h1.trans z);have b:valueAt (q::qs) k=valueAt qs k:=by simp[valueAt,BA,e']
     rw[zfp e,b];exact ih
theorem KV.any{kvs:List (κ×V)}{vs:List (κ×Value)}(r:KV kvs vs)(k:κ):(kvs.any fun kv=>decide (kv.1=k))=vs.any fun kv=>decide (kv.1=k):=by
 unfold KV at r
 induction r with
 | nil=>rfl
 | cons h t ih=>rw[Co,Co,ih,h.1]
theorem KV.repl{kvs:List (κ×V)}{vs:List (κ×Value)}(r:KV kvs vs)(k:κ){y:V}{u:Value}(ry:RelV y u) :
   KV (kvs.map fun kv=>if kv.1=k then (kv.1,y) else kv) (vs.map fun kv=>if kv.1=k then (kv.1,u) else kv):=by
 unfold KV at r ⊢
 induction r with
 | nil=>exact .nil
 | @cons p q ps qs h t ih =>
   rw[Au,Au];refine .cons ?_ ih;obtain⟨h1,h2⟩:=h
   by_cases e:p.1=k
   . rw[if_pos e,if_pos (h1.symm.trans e)];exact⟨h1,ry⟩
   . rw[if_neg e,if_neg (fun z=>e (h1.trans z))];exact⟨h1,h2⟩
theorem KV.put{kvs:List (κ×V)}{vs:List (κ×Value)}(r:KV kvs vs)(k:κ){y:V}{u:Value}(ry:RelV y u):KV (putK kvs k y) (stored vs k u):=by
 unfold putK stored;rw[r.any k]
 by_cases e:(vs.any fun kv=>decide (kv.1=k))=true
 . rw[if_pos e,if_pos e];exact r.repl k ry
 . rw[if_neg e,if_neg e];exact F8 r ⟨rfl,ry⟩
theorem KV.length{kvs:List (κ×V)}{vs:List (κ×Value)}(r:KV kvs vs):kvs.length=vs.length:=BR r
end
theorem zmK{P:Program}{w:World}{k:Key}{u:Value}(r:RelV (kV k) u):(zbx P w).is k u=true:=by
 cases k with
 | inl i=>obtain⟨t,e⟩:=(show ∃ t,u=EM i t from r);subst e;exact zgF P w i t
 | inr x=>obtain⟨t,e⟩:=(show ∃ t,u=EN x t from r);subst e;exact zgE P w x t
theorem zgh{P:Program}{w:World}:∀ {ks:List Key} {us:List Value},Vals (ks.map kV) us->ItemsAre (zbx P w) ks us
 | [],_,r=>by rw[BB] at r;cases r;exact .nil
 | k::ks,_,r=>by
   rw[Au] at r
   cases r with
   | cons h t=>exact .cons (zmK h) (zgh t)
noncomputable abbrev KT (H:Hp):List (List Key×V)->List (List Key×Addr×Value)->Prop:=Paired fun p q=>p.1=q.1/\H q.2.1=some (.tup (p.1.map kV))/\RelV p.2 q.2.2
theorem KT.val{H:Hp}{kvs:List (List Key×V)}{xs:List (List Key×Addr×Value)}(r:KT H kvs xs)(k:List Key):RelO (valV kvs k) ((atKey xs k).map (·.2)):=by
 induction r with
 | nil=>exact Es
 | @cons p q ps qs h t ih =>
   obtain⟨h1,_,h2⟩:=h
   by_cases e:p.1=k
   . have e':q.1=k:=h1.symm.trans e;have b:atKey (q::qs) k=some q.2:=by simp[atKey,BA,e']
     rw[zfo e,b];exact h2
   . have e':¬ q.1=k:=fun z=>e (h1.trans z);have b:atKey (q::qs) k=atKey qs k:=by simp[atKey,BA,e']
     rw[zfp e,b];exact ih
theorem KT.repl{H:Hp}{kvs:List (List Key×V)}{xs:List (List Key×Addr×Value)}(r:KT H kvs xs)(k:List Key){y:V}{u:Value}(ry:RelV y u) :
   KT H (kvs.map fun kv=>if kv.1=k then (kv.1,y) else kv) (xs.map (putAt k u)):=by
 induction r with
 | nil=>exact .nil
 | @cons p q ps qs h t ih =>
   rw[Au,Au];refine .cons ?_ ih;obtain⟨h1,h2,h3⟩:=h;unfold putAt
   by_cases e:p.1=k
   . rw[if_pos e,if_pos (h1.symm.trans e)];exact⟨h1,h2,ry⟩
   . rw[if_neg e,if_neg (fun z=>e (h1.trans z))];exact⟨h1,h2,h3⟩
theorem KT.put{H:Hp}{kvs:List (List Key×V)}{xs:List (List Key×Addr×Value)}(r:KT H kvs xs)(k:List Key){b:Addr}{y:V}{u:Value}(hb:H b=some (.tup (k.map kV)))(ry:RelV y u) :
   KT H (putK kvs k y) (storedH xs k b u):=by
 have e:(kvs.any fun kv=>decide (kv.1=k))=(atKey xs k).isSome:=by
   rw[zgS,(r.val k).isSome_eq,Du]
 unfold putK storedH;rw[e]
 by_cases q:(atKey xs k).isSome=true
 . rw[if_pos q,if_pos q];exact r.repl k ry
 . rw[if_neg q,if_neg q];exact F8 r ⟨rfl,hb,ry⟩
theorem KT.keeps{H H':Hp}{kvs:List (List Key×V)}{xs:List (List Key×Addr×Value)}(r:KT H kvs xs)(ht:∀ b ys,H b=some (.tup ys)->H' b=some (.tup ys)):KT H' kvs xs :=
 Paired.mapP r fun _ _ z=>⟨z.1,ht _ _ z.2.1,z.2.2⟩
section
variable {P:Program} {w:World} {H:Hp} {h:Heap} {a:Addr}
theorem zox{u:HO}(ok:HOk P w H h)(e:Rd H a u):zdk P w H h a u:=e.ok ok
theorem zlr{kvs:List (Key×V)}(ok:HOk P w H h)(e:Rd H a (.dK kvs)):kvs.length<=sizeLine/\(a==sysModules)=false/\∃ vs,KV kvs vs/\h.DictOf (zbx P w) a vs :=
 show zdk P w H h a (.dK kvs) from zox ok e
theorem zpm{kvs:List (Key×V)}(ok:HOk P w H h)(e:H a=some (.dK kvs)):kvs.length<=sizeLine/\(a==sysModules)=false/\∃ vs,KV kvs vs/\h.DictOf (zbx P w) a vs:=zlr ok (.inl e)
theorem zhE{ks:List Key}(ok:HOk P w H h)(e:H a=some (.tup (ks.map kV))):(tupleKind (zbx P w)).is h ks a:=by
 obtain⟨_,its,r,o,h1,h2,_,n,h3⟩:=(show zdk P w H h a (.tup (ks.map kV)) from ok a _ e)
 exact⟨o,its.toArray,n,h1,h2,h3,by simpa using zgh r⟩
theorem zlq{kvs:List (List Key×V)}(ok:HOk P w H h)(e:Rd H a (.dT kvs)):kvs.length<=sizeLine/\(a==sysModules)=false /\
   ∃ xs,KT H kvs xs/\h.DictOfH (tupleKind (zbx P w)) a xs:=by
 obtain⟨z,y,xs,r,o,es,ep,h1,h2,h3,h4,h5⟩:=(show zdk P w H h a (.dT kvs) from zox ok e)
 refine⟨z,y,xs,r,o,es,ep,h1,h2,h3,h4,fun x hx=>?_,h5⟩;have all:∀ {l:List (List Key×V)} {m:List (List Key×Addr×Value)},KT H l m->∀ x∈m,(tupleKind (zbx P w)).is h x.1 x.2.1:=by
   intro l m q
   induction q with
   | nil=>intro x hx;exact nomatch hx
   | @cons p q ps qs hq t ih =>
     intro x hx
     rcases List.mem_cons.mp hx with e | hx
     . subst e;exact zhE ok (by rw[<-hq.1];exact hq.2.1)
     . exact ih x hx
 exact all r x hx
theorem zpl{kvs:List (List Key×V)}(ok:HOk P w H h)(e:H a=some (.dT kvs)):kvs.length<=sizeLine/\(a==sysModules)=false /\
   ∃ xs,KT H kvs xs/\h.DictOfH (tupleKind (zbx P w)) a xs:=zlq ok (.inl e)
end
def DGet(H:Hp)(a:Addr)(y:V)(r:Option V):Prop :=
 (∃ kvs k,Rd H a (.dK kvs)/\y=kV k/\r=valV kvs k)\/∃ kvs k b,Rd H a (.dT kvs)/\y=.ref b/\H b=some (.tup (k.map kV))/\r=valV kvs k
def DPut(H:Hp)(a:Addr)(y v:V)(H':Hp):Prop :=
 (∃ kvs k,H a=some (.dK kvs)/\y=kV k/\kvs.length < sizeLine/\H'=upd H a (.dK (putK kvs k v))) \/
 ∃ kvs k b,H a=some (.dT kvs)/\y=.ref b/\H b=some (.tup (k.map kV))/\kvs.length < sizeLine/\H'=upd H a (.dT (putK kvs k v))
theorem DGet.k{H:Hp}{a:Addr}{kvs:List (Key×V)}{k:Key}(e:H a=some (.dK kvs)):DGet H a (kV k) (valV kvs k):=.inl ⟨kvs,k,.inl e,rfl,rfl⟩
theorem DGet.t{H:Hp}{a b:Addr}{kvs:List (List Key×V)}{k:List Key}(e:H a=some (.dT kvs))(eb:H b=some (.tup (k.map kV))):DGet H a (.ref b) (valV kvs k):=.inr ⟨kvs,k,b,.inl e,rfl,eb,rfl⟩
theorem DPut.k{H:Hp}{a:Addr}{kvs:List (Key×V)}{k:Key}{v:V}(e:H a=some (.dK kvs))(hl:kvs.length < sizeLine):DPut H a (kV k) v (upd H a (.dK (putK kvs k v))):=.inl ⟨kvs,k,e,rfl,hl,rfl⟩
theorem DPut.t{H:Hp}{a b:Addr}{kvs:List (List Key×V)}{k:List Key}{v:V}(e:H a=some (.dT kvs))(eb:H b=some (.tup (k.map kV)))(hl:kvs.length < sizeLine) :
   DPut H a (.ref b) v (upd H a (.dT (putK kvs k v))):=.inr ⟨kvs,k,b,e,rfl,eb,hl,rfl⟩
section
variable {X:Cx} {pins:List (Addr×Obj)} {σ:St} {H:Hp} {s:Shared} {a:Addr} {y v:V} {u r:Value} {o:Option V} {A:Around} {E:Value->Shared->Prop}
theorem zjh{Q:Value->Shared->Prop}(hu:A.units+1 < cLine)(I:Inv X pins σ H s)(g:DGet H a y (some v))(ry:RelV y u)(h:∀ w' s',Inv X pins σ H s'->RelV v w'->Q w' s') :
   wpAny (model X.prog X.w) A (getItem (.ref a) u) Q E s:=by
 rcases g with ⟨kvs,k,e,ey,l⟩ | ⟨kvs,k,b,e,ey,eb,l⟩
 . subst ey;obtain⟨z,hd,vs,rel,dd⟩:=zlr I.hok e;obtain⟨w',hw,rw'⟩:=RelO.some_of (v:=v) (o:=valueAt vs k) (by rw[l];exact rel.val k);exact wpAny_getItem_of (zmK ry) dd.mapOf hw (h w' _ (I.tok _) rw')
 . subst ey
   cases (show u=AJ b from ry)
   obtain⟨z,hd,xs,rel,dd⟩:=zlq I.hok e;obtain⟨w',hw,rw'⟩:=RelO.some_of (v:=v) (o:=(atKey xs k).map (·.2)) (by rw[l];exact rel.val k);obtain⟨p,hp,hp2⟩:=Option.map_eq_some_iff.mp hw;refine wpAny_getItem_heap (Cy hu) (zhE I.hok eb) dd hp ?_;rw[hp2];exact h w' _ (I.tok _) rw'
theorem d_in{Q:Value->Shared->Prop}(hu:A.units+1 < cLine)(I:Inv X pins σ H s)(g:DGet H a y o)(ry:RelV y u)(h:∀ s',Inv X pins σ H s'->Q (.bool o.isSome) s') :
   wpAny (model X.prog X.w) A (compareOp .In u (.ref a)) Q E s:=by
 rcases g with ⟨kvs,k,e,ey,l⟩ | ⟨kvs,k,b,e,ey,eb,l⟩
 . subst ey;obtain⟨z,hd,vs,rel,dd⟩:=zlr I.hok e;refine wpAny_in_of (zmK ry) hd dd.mapOf ?_;rw[<-(rel.val k).isSome_eq,<-l];exact h _ (I.tok _)
 . subst ey
   cases (show u=AJ b from ry)
   obtain⟨z,hd,xs,rel,dd⟩:=zlq I.hok e;refine wpAny_in_heap (Cy hu) (zhE I.hok eb) hd dd ?_;have q:=(rel.val k).isSome_eq;rw[Du] at q;rw[<-q,<-l];exact h _ (I.tok _)
theorem zmP{Q:Value->Shared->Prop}(hu:A.units+1 < cLine)(I:Inv X pins σ H s)(g:DGet H a y o)(ry:RelV y u)(h:∀ s',Inv X pins σ H s'->Q (.bool (!o.isSome)) s') :
   wpAny (model X.prog X.w) A (compareOp .NotIn u (.ref a)) Q E s:=by
 rcases g with ⟨kvs,k,e,ey,l⟩ | ⟨kvs,k,b,e,ey,eb,l⟩
 . subst ey;obtain⟨z,hd,vs,rel,dd⟩:=zlr I.hok e;refine wpAny_notIn_of (zmK ry) hd dd.mapOf ?_;rw[<-(rel.val k).isSome_eq,<-l];exact h _ (I.tok _)
 . subst ey
   cases (show u=AJ b from ry)
   obtain⟨z,hd,xs,rel,dd⟩:=zlq I.hok e;refine wpAny_notIn_heap (Cy hu) (zhE I.hok eb) hd dd ?_;have q:=(rel.val k).isSome_eq;rw[Du] at q;rw[<-q,<-l];exact h _ (I.tok _)
theorem zjT{h':Heap}{t':Nat}{ob:HO}(I:Inv X pins σ H s)(mu:Mut (H a))(hs:Cb a s.heap h')(he:∃ q,h'.get? a=some q)(new:zdk X.prog X.w (upd H a ob) h' a ob) :
   Inv X pins σ (upd H a ob) { s with heap:=h',toks:=t' } :=
 I.write (x:=a) (e:=a) mu (.inl rfl) (fun b q hb z=>(hs.2 b hb).trans z) he new
theorem zok{P:Program}{w:World}{H':Hp}{h':Heap}{kvs:List (Key×V)}{vs:List (Key×Value)}(z:kvs.length<=sizeLine)(hd:(a==sysModules)=false)(rel:KV kvs vs)(dd:h'.DictOf (zbx P w) a vs) :
   zdk P w H' h' a (.dK kvs):=⟨z,hd,vs,rel,dd⟩
theorem zjg{H':Hp}{Q:Unit->Shared->Prop}(hu:A.units+1 < cLine)(I:Inv X pins σ H s)(g:DPut H a y v H')(ry:RelV y u)(rv:RelV v r)(h:∀ s',Inv X pins σ H' s'->Q () s') :
   wpAny (model X.prog X.w) A (setItem (.ref a) u r) Q E s:=by
 rcases g with ⟨kvs,k,e,ey,l,eH⟩ | ⟨kvs,k,b,e,ey,eb,l,eH⟩
 . subst ey eH;obtain⟨z,hd,vs,rel,dd⟩:=zpm I.hok e;have hz:vs.length<=sizeLine:=by rw[<-rel.length];exact z
   have hl:(putK kvs k v).length<=sizeLine:=by have:=zeb kvs k v;omega
   refine wpAny_setItem_pairs (hsz:=hz) (zmK ry) dd fun h' dd' hs=>h _ ?_;have he:∃ q,h'.get? a=some q:=let ⟨q,_,_,hq,_⟩:=dd';⟨q,hq⟩
   exact zjT I (by rw[e];exact Es) hs he (zok hl hd (rel.put k rv) dd')
 . subst ey eH
   cases (show u=AJ b from ry)
   obtain⟨z,hd,xs,rel,dd⟩:=zpl I.hok e;have hz:xs.length<=sizeLine:=by rw[<-BR rel];exact z
   have hl:(putK kvs k v).length<=sizeLine:=by have:=zeb kvs k v;omega
   refine wpAny_setItem_heap (hsz:=hz) (Cy hu) (zhE I.hok eb) dd fun h' dd' hs=>h _ ?_;obtain⟨q,es,ep,hq,h2,h3,h4,_,h5⟩:=dd';refine zjT I (by rw[e];exact Es) hs ⟨q,hq⟩ ⟨hl,hd,_,(rel.put k eb rv).keeps fun c ys ec=>?_,q,es,ep,hq,h2,h3,h4,h5⟩;rw[zaP (zn3 ec e (fun z=>nomatch z))];exact ec
end
def NoSl(i:Expr):Prop:=∀ ov iv,subscripted i false ov iv=operate [ov,iv] (getItem ov iv)
theorem zlA{prog:Program}{w:World}{A:Around}{E:Value->Shared->Prop}{s:Shared}{env:Env}{value slice:Expr}{pos:Pos}{T id:String}{Q:Value->Shared->Prop}
   (hl:typeLookup (.type T) "__getitem__"=pure (some (.builtin id))) (hs:NoSl slice)
   (h:wpAny (model prog w) A (eval value env) (fun o s₁=>wpAny (model prog w) A (eval slice env) (fun i s₂=>s₂.TypeIs o T/\wpAny (model prog w) A (getItem o i) Q E s₂) E s₁) E s) :
   wpAny (model prog w) A (eval (.Subscript value slice pos) env) Q E s:=by
 refine Fw (Bp h (fun o s₁ h₁=>Bp h₁ (fun i s₂ h₂=>?_) fun _ _ x=>x) fun _ _ x=>x);obtain⟨hT,h₂⟩:=h₂;unfold subscriptTail;refine Aa ?_;rw[getitemInPython_of_ne hT.not_modules];refine Aa (wpAny_specialOf hT hl ?_);have fin:wpAny (model prog w) A (subscripted slice false o i) (fun r s₃=>wpAny (model prog w) A (letTemporaryGo value o r >>= fun _=>pure r) Q E s₃) E s₂:=by
   rw[hs o i];exact wpAny_operating (Bp h₂ (fun r s₃ h₃=>Aa (wpAny_letTemporaryGo (Ae h₃))) fun _ _ x=>x)
 first
   | exact Ae (Aa fin)
   | exact Aa (Ae (Aa fin))
   | exact Aa fin
theorem zgJ{X:Cx}{pins:List (Addr×Obj)}{σ:St}{H:Hp}{s:Shared}{a:Addr}{y:V}{o:Option V}(I:Inv X pins σ H s)(g:DGet H a y o):s.TypeIs (.ref a) "dict":=by
 rcases g with ⟨kvs,k,e,_,_⟩ | ⟨kvs,k,b,e,_,_,_⟩
 . obtain⟨_,_,vs,_,dd⟩:=zlr I.hok e;exact dd.typeIs
 . obtain⟨_,_,xs,_,dd⟩:=zlq I.hok e;exact dd.typeIs
noncomputable def zoO(td ty:TE):TE:=fun σ H Q=>td σ H fun x H1=>ty σ H1 fun y H2=>∃ a v,x=.ref a/\DGet H2 a y (some v)/\Q v H2
noncomputable def tDIn(ty td:TE):TE:=fun σ H Q=>ty σ H fun y H1=>td σ H1 fun x H2=>∃ a o,x=.ref a/\DGet H2 a y o/\Q (.bl o.isSome) H2
noncomputable def zly(ty td:TE):TE:=fun σ H Q=>ty σ H fun y H1=>td σ H1 fun x H2=>∃ a o,x=.ref a/\DGet H2 a y o/\Q (.bl (!o.isSome)) H2
noncomputable def zoV(td ty tv:TE):TS:=fun D σ H=>tv σ H fun v H1=>td σ H1 fun x H2=>ty σ H2 fun y H3=>∃ a H4,x=.ref a/\DPut H3 a y v H4/\D.nx σ H4
section
variable {X:Cx} {o i e value:Expr} {pos pos' tpos:Pos} {td ty tv:TE}
theorem zmh(hu:X.A.units+1 < cLine)(ho:PE X o td)(hi:PE X i ty)(hs:NoSl i):PE X (.Subscript o i pos) (zoO td ty):=by
 intro pins s σ H Q I h;refine zlA PySem.F.slot_dict_getitem.lookup hs (thn (ho pins s σ H _ I h) fun u s1 ⟨x,H1,I1,rx,q1⟩=>thn (hi pins s1 σ H1 _ I1 q1) ?_);rintro iv s2 ⟨y,H2,I2,ry,a,v,ex,g,q2⟩;subst ex;obtain rfl:u=AJ a:=rx;exact⟨zgJ I2 g,zjh hu I2 g ry fun w' s3 I3 rw'=>⟨v,H2,I3,rw',q2⟩⟩
theorem zml(hu:X.A.units+1 < cLine)(hi:PE X i ty)(ho:PE X o td):PC X .In i o (tDIn ty td):=by
 intro pins s σ H Q I h;refine thn (hi pins s σ H _ I h) fun iv s1 ⟨y,H1,I1,ry,q1⟩=>thn (ho pins s1 σ H1 _ I1 q1) ?_;rintro u s2 ⟨x,H2,I2,rx,a,ov,ex,g,q2⟩;subst ex;obtain rfl:u=AJ a:=rx;exact d_in hu I2 g ry fun s3 I3=>⟨.bl ov.isSome,H2,I3,rfl,q2⟩
theorem ziO(hu:X.A.units+1 < cLine)(hi:PE X i ty)(ho:PE X o td):PC X .NotIn i o (zly ty td):=by
 intro pins s σ H Q I h;refine thn (hi pins s σ H _ I h) fun iv s1 ⟨y,H1,I1,ry,q1⟩=>thn (ho pins s1 σ H1 _ I1 q1) ?_;rintro u s2 ⟨x,H2,I2,rx,a,ov,ex,g,q2⟩;subst ex;obtain rfl:u=AJ a:=rx;exact zmP hu I2 g ry fun s3 I3=>⟨.bl (!ov.isSome),H2,I3,rfl,q2⟩
theorem zl8(hu:X.A.units+1 < cLine)(ho:PE X o td)(hi:PE X i ty)(hv:PE X value tv)(hs:swapsWith value (some (.Subscript o i pos')) pos.line X.env=pure false) :
   PS X (.Assign [.Subscript o i pos'] value pos) (zoV td ty tv):=by
 intro pins s σ H D I h;refine wpAny_Assign_Subscript (thn (hv pins s σ H _ I h) fun r s1 ⟨v,H1,I1,rv,q1⟩=>thn (ho pins s1 σ H1 _ I1 q1) fun u s2 ⟨x,H2,I2,rx,q2⟩=>thn (hi pins s2 σ H2 _ I2 q2) ?_) hs;rintro iv s3 ⟨y,H3,I3,ry,a,H4,ex,g,q3⟩;subst ex;obtain rfl:u=AJ a:=rx;exact zjg hu I3 g ry rv fun s4 I4=>⟨σ,H4,I4,q3⟩
end
def IsD(H:Hp)(a:Addr):Prop:=(∃ kvs,Rd H a (.dK kvs))\/∃ kvs,Rd H a (.dT kvs)
theorem zof{X:Cx}{pins:List (Addr×Obj)}{σ:St}{H:Hp}{s:Shared}{a:Addr}(I:Inv X pins σ H s)(d:IsD H a) :
   s.TypeIs (.ref a) "dict"/\(∀ b,AJ a=.ref b->∃ ob,s.heap.get? b=some ob/\ob.dict=none)/\(a==sysModules)=false:=by
 rcases d with ⟨kvs,e⟩ | ⟨kvs,e⟩
 . obtain⟨_,hd,vs,_,dd⟩:=zlr I.hok e;refine⟨dd.typeIs,fun b q=>?_,hd⟩;cases q;obtain⟨ob,_,_,h1,h2,_⟩:=dd;exact⟨ob,h1,h2.2.1⟩
 . obtain⟨_,hd,xs,_,dd⟩:=zlq I.hok e;refine⟨dd.typeIs,fun b q=>?_,hd⟩;cases q;obtain⟨ob,_,_,h1,h2,_⟩:=dd;exact⟨ob,h1,h2.2.1⟩
end L2
namespace HT
open PySem PyProof.Rows
noncomputable def lexLt:List Int->List Int->Bool
 | [],[]=>false
 | [],_::_=>true
 | _::_,[]=>false
 | x::xs,y::ys=>if x=y then lexLt xs ys else decide (x < y)
theorem lexLt_cons(x y:Int)(xs ys:List Int):lexLt (x::xs) (y::ys)=if x=y then lexLt xs ys else decide (x < y):=rfl
theorem lexLt_nil_nil:lexLt [] []=false:=rfl
theorem lexLt_nil_cons(y:Int)(ys:List Int):lexLt [] (y::ys)=true:=rfl
theorem lexLt_cons_nil(x:Int)(xs:List Int):lexLt (x::xs) []=false:=rfl
section
open PySem.SeqAt
open PySem.MeetsSeq PySem.MeetsSeq2 PySem.MeetsSeq3
end
section
variable {prog:Program} {w:World} {A:Around} {E:Value->Shared->Prop} {s:Shared}
theorem cat_tup{t b:Addr}{vs ws:List Value}{Q:Value->Shared->Prop}(ht:IsTup s.heap t vs.toArray)(hb:IsTup s.heap b ws.toArray)(hv:vs≠[])
   (h1:ws=[]->Q (.ref t) s) (h2:ws≠[]->Q (.ref s.heap.objs.size) { s with heap:=s.heap.push { cls:=.type "tuple",data:=.seq (vs++ws).toArray } })
   (hsz:vs.length+ws.length<=sizeLine):wpAny (model prog w) A (binaryOp .Add (.ref t) (.ref b)) Q E s:=by
 obtain⟨⟨cls,dd,data,sl⟩,ho,hc,n,hd⟩:=id ht;obtain⟨⟨cls2,dd2,data2,sl2⟩,ho2,hc2,n2,hd2⟩:=id hb;simp only at hc hd hc2 hd2;subst hc hd hc2 hd2;have e:vs.toArray++ws.toArray=(vs++ws).toArray:=by simp
 by_cases hw:ws=[]
 . exact concat_meets ⟨_,ho,rfl⟩ ⟨_,ho2,rfl⟩ noFill_tuple_add seq_tuple_add D6 DT (DI _ _)
     (tuple_addW1 t b vs.toArray ws.toArray n n2 dd dd2 sl sl2 (by simpa using hv) (by simp[hw])) ⟨ho,ho2,h1 hw⟩
 . refine concat_meets ⟨_,ho,rfl⟩ ⟨_,ho2,rfl⟩ noFill_tuple_add seq_tuple_add D6 DT (DI _ _)
     (tuple_addW2 t b vs.toArray ws.toArray n n2 dd dd2 sl sl2 (by simpa using hv) (by simpa using hw) (by rw[Ao,Ao];exact hsz)) ⟨ho,ho2,?_⟩
   rw[e];exact h2 hw
noncomputable def sIx(n d:Nat):Option Int->Nat
 | none=>d
 | some v=>if v < 0 then (v+(n:Int)).toNat else min v.toNat n
theorem sIx_none(n d:Nat):sIx n d none=d:=rfl
theorem sIx_nat(n d k:Nat):sIx n d (some (k:Int))=min k n:=by
 show (if (k:Int) < 0 then ((k:Int)+(n:Int)).toNat else min (k:Int).toNat n)=min k n;rw[if_neg (by omega),AS]
theorem znx(n d:Nat)(hd:d<=n)(o:Option Int):sIx n d o<=n:=by
 cases o with
 | none=>exact hd
 | some v =>
   show (if v < 0 then (v+(n:Int)).toNat else min v.toNat n)<=n
   by_cases hv:v < 0
   . rw[if_pos hv];omega
   . rw[if_neg hv];exact DJ _ _
theorem zjU(v:Int)(n d:Nat):(if v < 0 then max (v+(n:Int)) 0 else min v (n:Int))=((sIx n d (some v):Nat):Int):=by
 show (if v < 0 then max (v+(n:Int)) 0 else min v (n:Int))=(((if v < 0 then (v+(n:Int)).toNat else min v.toNat n):Nat):Int)
 by_cases hv:v < 0
 . simp only[if_pos hv];omega
 . simp only[if_neg hv];omega
theorem zid(lo hi:Option Int)(n:Nat):Ct lo hi 1 (n:Int)=(((sIx n 0 lo:Nat):Int),((sIx n n hi:Nat):Int)):=by
 have h1:¬ ((1:Int) < 0):=by omega
 unfold Ct;simp only[h1,if_false];refine Prod.ext ?_ ?_
 . cases lo with
   | none=>rfl
   | some v=>exact zjU v n 0
 . cases hi with
   | none=>rfl
   | some v=>exact zjU v n n
theorem zha(i j:Nat):BU (i:Int) (j:Int) 1=j - i:=by
 unfold BU;have h1:(1:Int) > 0:=by omega
 simp only[h1,if_true,Int.ediv_one]
 split <;> omega
theorem zeV{v:Value}{o:Option Int}{Q:Option Int->Shared->Prop}(p:IsPart v o)(h:Q o s):wpAny (model prog w) A (Builtin.Slice.slicePartIndex v) Q E s:=by
 cases p with
 | none=>exact slicePart_none h
 | int i t=>exact slicePart_int h
theorem sliceApplied_gen{sl:Addr}{vl vu:Value}{lo hi:Option Int}{n:Nat}{Q:Int×Int×Nat->Shared->Prop}(hs:s.heap.IsSliceOf sl vl vu .none)(pl:IsPart vl lo)(pu:IsPart vu hi)
   (h:Q (((sIx n 0 lo:Nat):Int),1,sIx n n hi - sIx n 0 lo) s):wpAny (model prog w) A (Dp (.ref sl) (pure (n:Int))) Q E s:=by
 obtain⟨os,hos,hcs,hds⟩:=id hs;unfold Dp Builtin.Slice.sliceFields;refine Aa (Aa (Cq hos hds (x:=vl) rfl (Aa (Cq hos hds (x:=vu) rfl (Aa (Cq hos hds (x:=.none) rfl (Ae ?_)))))));refine Aa (slicePart_none ?_);show wpAny _ _ (if ((1:Int)==0)=true then _ else _) _ _ s;rw[if_neg (by decide)];refine Aa (zeV pl (Aa (zeV pu (Aa (Ae ?_)))));show wpAny _ _ (match Ct lo hi 1 (n:Int) with | (lo,hi)=>pure (lo,(1:Int),BU lo hi 1)) _ _ s;rw[zid lo hi n];show wpAny _ _ (pure (((sIx n 0 lo:Nat):Int),(1:Int),BU ((sIx n 0 lo:Nat):Int) ((sIx n n hi:Nat):Int) 1)) _ _ s;rw[zha];exact Ae h
theorem zkp(xs:Array Value)(i k:Nat):((Ar k).filterMap fun (m:Nat)=>xs[((i:Int)+(m:Int)*1).toNat]?).toArray=((xs.toList.drop i).take k).toArray:=by
 have e:(fun (m:Nat)=>xs[((i:Int)+(m:Int)*1).toNat]?)=fun m=>xs[i+m]?:=by
   funext m
   have:((i:Int)+(m:Int)*1).toNat=i+m:=by omega
   rw[this]
 rw[e];have:=pick_run xs i k;rw[List.filterMap_map] at this;have e2:((fun x=>xs[x]?) ∘ fun x=>i+x)=fun m=>xs[i+m]?:=rfl;rw[e2] at this;rw[this]
theorem getItem_tuple_cut{t sl:Addr}{items:Array Value}{vl vu:Value}{lo hi:Option Int}{Q:Value->Shared->Prop}(ht:IsTup s.heap t items)(hs:s.heap.IsSliceOf sl vl vu .none)(pl:IsPart vl lo)(pu:IsPart vu hi)
   (hw:¬ (sIx items.size 0 lo=0/\sIx items.size items.size hi=items.size))
   (h:Q (.ref s.heap.objs.size) { s with heap:=s.heap.push { cls:=.type "tuple",data:=.seq ((items.toList.drop (sIx items.size 0 lo)).take (sIx items.size items.size hi - sIx items.size 0 lo)).toArray } })
   (hsz:items.size<=sizeLine):wpAny (model prog w) A (getItem (.ref t) (.ref sl)) Q E s:=by
 have htake:sizeOk (.seq ((items.toList.drop (sIx items.size 0 lo)).take (sIx items.size items.size hi - sIx items.size 0 lo)).toArray):=by
   show ((items.toList.drop (sIx items.size 0 lo)).take (sIx items.size items.size hi - sIx items.size 0 lo)).toArray.size<=sizeLine;rw[Ao,Bk,BG,AQ];omega
 have hj:sIx items.size items.size hi<=items.size:=znx _ _ (Ah _) hi;obtain⟨os,hos,hcs,hds⟩:=id hs;have hTs:s.TypeIs (.ref sl) "slice":=⟨os,hos,hcs⟩
 unfold getItem
 try with_reducible refine A9 ?_
 first | refine Aa (Ae ?_) | skip
 refine Aa (EZ ht.typeIs (by decide) ?_);refine Aa (Br (name:=Cc "__getitem__") ht.typeIs By
   (Bo By ht.typeIs EE ?_ (ES _ _)))
 show wpAny _ _ (Dq (.ref t) >>= _) _ _ s;refine Aa (tupleItemsOf_ ht ?_);refine Aa (DK hTs ?_);rw[if_pos (by decide)];refine Aa (sliceApplied_gen hs pl pu ?_);have hno:¬ ((((sIx items.size 0 lo:Nat):Int)==0&&(1:Int)==1&&(sIx items.size items.size hi - sIx items.size 0 lo)==items.size)=true):=by
   intro q;rw[AA,AA] at q;have q1:((sIx items.size 0 lo:Nat):Int)=0:=eq_of_beq q.1.1;have q2:sIx items.size items.size hi - sIx items.size 0 lo=items.size:=eq_of_beq q.2;exact hw ⟨by omega,by omega⟩
 show wpAny _ _ (if (((sIx items.size 0 lo:Nat):Int)==0&&(1:Int)==1&&(sIx items.size items.size hi - sIx items.size 0 lo)==items.size)=true then _ else _) _ _ s;rw[if_neg hno,zkp]
 first
   | exact Aa (m:=BX _) (A8 (Ae ⟨_,rfl,Ae h⟩) htake)
   | exact Aa (m:=BX _) (A8 (Aa (Ae (Ae ⟨_,rfl,Ae h⟩))) htake)
   | exact Aa (Aa (m:=BX _) (A8 (Ae (Ae ⟨_,rfl,Ae h⟩)) htake))
   | exact Aa (Aa (m:=BX _) (A8 (Ae ⟨_,rfl,Ae h⟩) htake))
end
end HT
namespace L2
open PySem PySem.Spec PyProof.Rows
noncomputable abbrev TO:=St->Hp->(Option Int->Hp->Prop)->Prop
def PO(X:Cx)(e:Option Expr)(t:TO):Prop :=
 ∀ (pins:List (Addr×Obj)) (s:Shared) (σ:St) (H:Hp) (Q:Option Int->Hp->Prop),Inv X pins σ H s->t σ H Q ->
   wpAny (model X.prog X.w) X.A (evalPart e X.env) (fun u s'=>∃ o H',Inv X pins σ H' s'/\IsPart u o/\Q o H') X.xe s
noncomputable def zlx:TO:=fun _ H Q=>Q none H
noncomputable def zoL(t:TE):TO:=fun σ H Q=>t σ H fun x H1=>∃ i,x=.int i/\Q (some i) H1
section
variable {X:Cx} {e:Expr} {te:TE} {lo hi:Option Expr} {tl th:TO} {pos p2:Pos}
theorem zmb:PO X none zlx:=by
 intro pins s σ H Q I h;rw[evalPart_none];exact Ae ⟨none,H,I,.none,h⟩
theorem zma(h:PE X e te):PO X (some e) (zoL te):=by
 intro pins s σ H Q I hw;rw[evalPart_some];refine thn (h pins s σ H _ I hw) ?_;rintro u s1 ⟨x,H1,I1,r1,q1⟩;obtain⟨i,rfl,q⟩:=q1;obtain⟨t,rfl⟩:=r1;exact⟨some i,H1,I1,.int i t,q⟩
def SlR(X:Cx)(r:V->Option Int->Option Int->Hp->VK->Prop):Prop :=
 ∀ (pins:List (Addr×Obj)) (s:Shared) (σ:St) (H:Hp) (x:V) (v vl vu:Value) (lo hi:Option Int) (sl:Addr) (Q:VK),Inv X pins σ H s->RelV x v->s.heap.IsSliceOf sl vl vu .none->IsPart vl lo->IsPart vu hi->r x lo hi H Q ->
   ∃ T id,typeLookup (.type T) "__getitem__"=pure (some (.builtin id))/\s.TypeIs v T/\wpAny (model X.prog X.w) X.A (getItem v (.ref sl)) (EP X pins σ Q) X.xe s
noncomputable def tSl(r:V->Option Int->Option Int->Hp->VK->Prop)(te:TE)(tl th:TO):TE:=fun σ H Q=>te σ H fun x H1=>tl σ H1 fun l H2=>th σ H2 fun u H3=>r x l u H3 Q
theorem zeu{r:V->Option Int->Option Int->Hp->VK->Prop}(hr:SlR X r)(he:PE X e te)(hl:PO X lo tl)(hu:PO X hi th):PE X (.Subscript e (.Slice lo hi none p2) pos) (tSl r te tl th):=by
 intro pins s σ H Q I h;refine Fw (thn (he pins s σ H _ I h) ?_);rintro v s1 ⟨x,H1,I1,r1,q1⟩;refine wpAny_Slice (thn (hl pins s1 σ H1 _ I1 q1) fun vl s2 ⟨l,H2,I2,pl,q2⟩=>thn (hu pins s2 σ H2 _ I2 q2) ?_);rintro vu s3 ⟨u,H3,I3,pu,q3⟩;rw[evalPart_none];refine Ae ?_;have I4:Inv X pins σ H3 { s3 with heap:=s3.heap.push { cls:=.type "slice",data:=.fields #[vl,vu,.none] } }:=I3.kept (t':=s3.toks) fun b ob q=>Ai _ q;obtain⟨T,id,hT,ht,hg⟩:=hr pins { s3 with heap:=s3.heap.push { cls:=.type "slice",data:=.fields #[vl,vu,.none] } } σ H3 x v vl vu l u s3.heap.objs.size Q I4 r1 (Ge ..) pl pu q3;show wpAny (model X.prog X.w) X.A (subscriptTail e (.Slice lo hi none p2) v (.ref s3.heap.objs.size)) (EP X pins σ Q) X.xe { s3 with heap:=s3.heap.push { cls:=.type "slice",data:=.fields #[vl,vu,.none] } };exact tail_any (ops:=[.ref s3.heap.objs.size,v]) ht hT hg (by with_unfolding_all rfl)
noncomputable def cutV(xs:List V)(lo hi:Option Int):List V:=(xs.drop (HT.sIx xs.length 0 lo)).take (HT.sIx xs.length xs.length hi - HT.sIx xs.length 0 lo)
theorem zeg(xs:List V)(lo hi:Option Int):(cutV xs lo hi).length<=xs.length:=by
 unfold cutV;rw[Bk,BG];omega
noncomputable def rSlT(K:Ac):V->Option Int->Option Int->Hp->VK->Prop:=fun x lo hi H Q=>∃ a xs,x=.ref a/\SqT K H a xs /\
 ¬ (HT.sIx xs.length 0 lo=0/\HT.sIx xs.length xs.length hi=xs.length)/\∀ p,H p=none->Q (.ref p) (upd H p (.tup (cutV xs lo hi)))
theorem znm:SlR X (rSlT X.K):=by
 intro pins s σ H x v vl vu lo hi sl Q I rx hs pl pu h;obtain⟨a,xs,rfl,hx,hw,q⟩:=h;cases rx;obtain⟨its,r,ht,hz⟩:=I.tuple hx;have hlen:its.toArray.size=xs.length:=by rw[Ao];exact r.length.symm
 refine⟨"tuple",_,PyProof.Rows.slot_tuple_getitem.lookup,ht.typeIs,?_⟩;refine HT.getItem_tuple_cut ht hs pl pu (by rw[hlen];exact hw) ?_ (by rw[hlen];exact hz);rw[hlen];refine⟨.ref s.heap.objs.size,_,I.laid (t':=s.toks) (o:=.tup (cutV xs lo hi)) (fun b ob q=>Ai _ q) (Ah _) ?_,rfl,q _ (I.hok.fresh (Ah _))⟩;exact⟨AH (zeg xs lo hi) hz,_,(r.drop (HT.sIx xs.length 0 lo)).take (HT.sIx xs.length xs.length hi - HT.sIx xs.length 0 lo),zfn.new _ _⟩
noncomputable def zoX(K:Ac):R2:=fun x y H Q=>∃ a b xs ys,x=.ref a/\y=.ref b/\SqT K H a xs/\SqT K H b ys/\xs≠[]/\xs.length+ys.length<=sizeLine /\
 (ys=[]->Q (.ref a) H)/\(ys≠[]->∀ p,H p=none->Q (.ref p) (upd H p (.tup (xs++ys))))
theorem Vals.nil_iff{xs:List V}{us:List Value}(r:Vals xs us):us=[] ↔ xs=[]:=by
 cases r with
 | nil=>simp
 | cons _ _=>simp
theorem zmt:OpR X (binaryOp .Add) (zoX X.K):=by
 intro pins s σ H x y v u Q I rx ry h;obtain⟨a,b,xs,ys,rfl,rfl,ha,hb,hx,hz,q1,q2⟩:=h;cases rx;cases ry;obtain⟨its,r1,p1,_⟩:=I.tuple ha;obtain⟨its2,r2,p2,_⟩:=I.tuple hb;refine HT.cat_tup p1 p2 (fun z=>hx (r1.nil_iff.mp z)) (fun z=>⟨.ref a,H,I,rfl,q1 (r2.nil_iff.mp z)⟩) (fun z=>?_) (by rw[<-r1.length,<-r2.length];exact hz);refine⟨.ref s.heap.objs.size,_,I.laid (t':=s.toks) (o:=.tup (xs++ys)) (fun b ob q=>Ai _ q) (Ah _) ?_,rfl,q2 (fun w=>z (r2.nil_iff.mpr w)) _ (I.hok.fresh (Ah _))⟩;exact⟨by rw[AF];exact hz,_,r1.append r2,zfn.new _ _⟩
end
noncomputable def ixN(n:Nat)(i:Int):Option Nat:=if 0<=i then (if i < n then some i.toNat else none) else if -(n:Int)<=i then some (i+n).toNat else none
noncomputable def atI{α:Type}(xs:List α)(i:Int):Option α:=(ixN xs.length i).bind fun j=>xs[j]?
theorem zjN{n:Nat}{i:Int}{j:Nat}(h:ixN n i=some j):seqIndex? i n=some j/\j < n/\-(n:Int)<=i/\i < n:=by
 unfold ixN at h
 by_cases h0:0<=i
 . rw[if_pos h0] at h
   by_cases h1:i < n
   . rw[if_pos h1] at h;have e:i.toNat=j:=Aw h;exact⟨by rw[Fm h0 h1,e],by omega,by omega,h1⟩
   . rw[if_neg h1] at h;cases h
 . rw[if_neg h0] at h
   by_cases h1:-(n:Int)<=i
   . rw[if_pos h1] at h;have e:(i+n).toNat=j:=Aw h;exact⟨by rw[ET (by omega) h1,e],by omega,h1,by omega⟩
   . rw[if_neg h1] at h;cases h
theorem zib{α:Type}{xs:List α}{i:Int}{v:α}(h:atI xs i=some v):∃ j,seqIndex? i xs.length=some j/\xs[j]?=some v/\j < xs.length/\-(xs.length:Int)<=i/\i < xs.length:=by
 unfold atI at h
 cases e:ixN xs.length i with
 | none=>rw[e] at h;cases h
 | some j =>
   rw[e] at h;obtain⟨h1,h2,h3,h4⟩:=zjN e;exact⟨j,h1,h,h2,h3,h4⟩
def zie(b:Expr):Prop:=∀ o i,subscripted b false o i=operate [o,i] (getItem o i)
def IxR(X:Cx)(r:R2):Prop :=
 ∀ (value slice:Expr) (pins:List (Addr×Obj)) (s:Shared) (σ:St) (H:Hp) (x y:V) (v u:Value) (Q:VK),Inv X pins σ H s->RelV x v->RelV y u->r x y H Q ->
   subscripted slice false v u=operate [v,u] (getItem v u)->wpAny (model X.prog X.w) X.A (subscriptTail value slice v u) (EP X pins σ Q) X.xe s
def MtR(X:Cx)(id:String)(r:V->List V->Hp->VK->Prop):Prop :=
 ∀ (pins:List (Addr×Obj)) (s:Shared) (σ:St) (H:Hp) (x:V) (xs:List V) (v:Value) (us:List Value) (Q:VK),Inv X pins σ H s->RelV x v->Vals xs us->r x xs H Q ->
   wpAny (model X.prog X.w) X.A (call (.builtin id) (v::us)) (EP X pins σ Q) X.xe s
section
variable {X:Cx} {a b:Expr} {ta tb:TE} {pos:Pos}
theorem zo3{r:R2}(hr:IxR X r)(ha:PE X a ta)(hb:PE X b tb)(hs:zie b):PE X (.Subscript a b pos) (tOp r ta tb):=by
 intro pins s σ H Q I h;exact Fw (binT ha hb I h fun v u s2 x y H2 I2 rx ry q=>hr a b pins s2 σ H2 x y v u Q I2 rx ry q (hs _ _))
noncomputable def rIxL(K:Ac):R2:=fun x y H Q=>∃ p xs i v,x=.ref p/\y=.int i/\SqL K H p xs/\atI xs i=some v/\Q v H
noncomputable def rIxT(K:Ac):R2:=fun x y H Q=>∃ p xs i v,x=.ref p/\y=.int i/\SqT K H p xs/\atI xs i=some v/\Q v H
noncomputable def rIxS:R2:=fun x y H Q=>∃ z i c,x=.str z/\y=.int i/\z.length<=sizeLine/\atI z.cps.toList i=some c/\Q (.str ⟨#[c]⟩) H
theorem zjM:IxR X (rIxL X.K):=by
 intro value slice pins s σ H x y v u Q I rx ry h hs;obtain⟨p,xs,i,z,rfl,rfl,hq,he,q⟩:=h;cases rx;obtain⟨t,rfl⟩:=ry;obtain⟨its,r,pl,hz⟩:=I.list hq;obtain⟨j,h1,h2,h3,h4,h5⟩:=zib he;obtain⟨w,ew,rw'⟩:=r.get h2;have hl:=r.length;have hn:=zfK;have fin:EP X pins σ Q w s:=⟨z,H,I,rw',q⟩
 by_cases h0:0<=i
 . have hj:i.toNat=j:=by
     rw[Fm h0 h5] at h1;exact Aw h1
   exact item_listR pl.isList h0 (by omega) (by rw[hj];simpa using ew) fin hs
 . have hj:(i+(its.toArray.size:Int)).toNat=j:=by
     rw[ET (by omega) h4] at h1;rw[Ao,<-hl];exact Aw h1
   exact D7 (x:=w) pl.isList.typeIs slot_list_getitem.lookup
     (wpAny_getItem_list_neg (Q:=fun r s'=>r=w/\EP X pins σ Q r s') pl.isList (by omega) (by rw[Ao] <;> omega) (by omega) (by rw[hj];simpa using ew) ⟨rfl,fin⟩) hs
theorem zbF:IxR X (rIxT X.K):=by
 intro value slice pins s σ H x y v u Q I rx ry h hs;obtain⟨p,xs,i,z,rfl,rfl,hq,he,q⟩:=h;cases rx;obtain⟨t,rfl⟩:=ry;obtain⟨its,r,pl,hz⟩:=I.tuple hq;obtain⟨j,h1,h2,h3,h4,h5⟩:=zib he;obtain⟨w,ew,rw'⟩:=r.get h2;have hl:=r.length;have hn:=zfK;have fin:EP X pins σ Q w s:=⟨z,H,I,rw',q⟩
 exact D7 (x:=w) pl.typeIs slot_tuple_getitem.lookup
   (getItem_tuple (j:=j) (Q:=fun r s'=>r=w/\EP X pins σ Q r s') pl (by omega) (by omega) (by rw[Ao,<-hl];exact h1) (by simpa using ew) ⟨rfl,fin⟩) hs
theorem zgG:IxR X rIxS:=by
 intro value slice pins s σ H x y v u Q I rx ry h hs;obtain⟨z,i,c,rfl,rfl,hz,he,q⟩:=h;obtain⟨t,rfl⟩:=rx;obtain⟨t',rfl⟩:=ry;obtain⟨j,h1,h2,h3,h4,h5⟩:=zib he;have hl:z.cps.toList.length=z.length:=by simp[Str.length]
 rw[hl] at h1 h4 h5;have hn:=zfK;exact tail_any (Fx s z t) slot_str_getitem.lookup (getItem_str (c:=c) (by
   have e1:decide (i < -(2 ^ 63:Int))=false:=decide_eq_false (by omega);have e2:decide (i ≥ 2 ^ 63)=false:=decide_eq_false (by omega);rw[e1,e2,Bool.or_false]) (by rw[h1];simpa using h2) ⟨.str ⟨#[c]⟩,H,I.tok _,⟨_,rfl⟩,q⟩) hs
theorem zhy(its:List Value)(n j:Nat)(u:Value):Bq (·.setIfInBounds j u) { cls:=.type "list",data:=.seq its.toArray n }={ cls:=.type "list",data:=.seq (its.set j u).toArray n }:=by
 simp[Bq]
theorem Inv.lst{pins:List (Addr×Obj)}{σ:St}{H:Hp}{s:Shared}{p:Addr}{xs:List V}(I:Inv X pins σ H s)(h:H p=some (.lst xs)) :
   ∃ (its:List Value) (n:Nat),Vals xs its/\s.heap.get? p=some { cls:=.type "list",data:=.seq its.toArray n }/\xs.length<=sizeLine:=by
 obtain⟨z,its,n,r,e⟩:=I.hok p _ h;exact⟨its,n,r,e,z⟩
theorem Inv.lstUpd{pins:List (Addr×Obj)}{σ:St}{H:Hp}{s:Shared}{p:Addr}{xs ys:List V}{its its':List Value}{n n':Nat}{f:Obj->Obj}(I:Inv X pins σ H s)(h:H p=some (.lst xs))
   (ho:s.heap.get? p=some { cls:=.type "list",data:=.seq its.toArray n }) (hf:f { cls:=.type "list",data:=.seq its.toArray n }={ cls:=.type "list",data:=.seq its'.toArray n' }) (r:Vals ys its') (hz:ys.length<=sizeLine) (t:Nat) :
   Inv X pins σ (upd H p (.lst ys)) { s with heap:=s.heap.update p f,toks:=t }:=by
 have e:(s.heap.update p f).get? p=some { cls:=.type "list",data:=.seq its'.toArray n' }:=by
   rw[Cd f ho (by rw[hf] <;> rfl),hf]
 refine I.write (x:=p) (e:=p) (by rw[h];trivial) (.inl rfl) (fun b u hb q=>(D8 _ _ (AV hb)).trans q) ⟨_,e⟩ ?_;exact⟨hz,its',n',r,e⟩
noncomputable def zoW:V->V->V->Hp->(Hp->Prop)->Prop:=fun o i v H Q=>∃ p xs k j,o=.ref p/\i=.int k/\H p=some (.lst xs)/\ixN xs.length k=some j/\Q (upd H p (.lst (xs.set j v)))
theorem set_list:PSet X zoW:=by
 intro pins s σ H o i v ov iv u Q I ro ri rv h;obtain⟨p,xs,k,j,rfl,rfl,hp,hj,q⟩:=h;cases ro;obtain⟨t,rfl⟩:=ri;obtain⟨its,n,r,ho,hz⟩:=I.lst hp;obtain⟨h1,h2,h3,h4⟩:=zjN hj;have hl:=r.length;have hn:=zfK;have I':Inv X pins σ (upd H p (.lst (xs.set j v))) { s with heap:=s.heap.update p (Bq (·.setIfInBounds j u)) } :=
   I.lstUpd hp ho (zhy its n j u) (r.set rv j) (by rw[Bt];exact hz) s.toks
 by_cases h0:0<=k
 . have hk:k.toNat=j:=by
     rw[Fm h0 h4] at h1;exact Aw h1
   exact PySem.W.ki_setAt ho h0 (by omega) (by rw[Ao,<-hl];exact h4) (by rw[hk];exact⟨_,I',q⟩)
 . have hk:(k+(its.toArray.size:Int)).toNat=j:=by
     rw[ET (by omega) h3] at h1;rw[Ao,<-hl];exact Aw h1
   exact PySem.W.ki_setBack ho (by omega) (by rw[Ao,<-hl];exact h3) (by omega) (by rw[hk];exact⟨_,I',q⟩)
theorem zfx(lo hi:Option Int)(n:Nat):(sliceBounds lo hi none n).1=((HT.sIx n 0 lo:Nat):Int)/\(sliceBounds lo hi none n).2.1=((HT.sIx n n hi:Nat):Int)/\(sliceBounds lo hi none n).2.2=1:=by
 refine⟨?_,?_,rfl⟩
 . cases lo with
   | none=>simp[sliceBounds,HT.sIx]
   | some i =>
     simp only[sliceBounds,HT.sIx,Fp,show (1:Int) > 0 by decide,if_true]
     by_cases h:i < 0
     . simp only[h,if_true] <;> omega
     . simp only[h,if_false] <;> omega
 . cases hi with
   | none=>simp[sliceBounds,HT.sIx]
   | some i =>
     simp only[sliceBounds,HT.sIx,Fp,show (1:Int) > 0 by decide,if_true]
     by_cases h:i < 0
     . simp only[h,if_true] <;> omega
     . simp only[h,if_false] <;> omega
theorem zeU(its:List Value)(lo hi:Option Int):slicePick its.toArray lo hi none=((its.drop (HT.sIx its.length 0 lo)).take (HT.sIx its.length its.length hi - HT.sIx its.length 0 lo)).toArray:=by
 obtain⟨h1,h2,h3⟩:=zfx lo hi its.toArray.size;unfold slicePick;rw[h1,h2,h3];simp only[sliceRange_one,pick_run,Ao] <;> rfl
noncomputable def rSlL(K:Ac):V->Option Int->Option Int->Hp->VK->Prop:=fun x lo hi H Q=>∃ a xs,x=.ref a/\SqL K H a xs/\∀ p,H p=none->Q (.ref p) (upd H p (.lst (cutV xs lo hi)))
theorem zjx:SlR X (rSlL X.K):=by
 intro pins s σ H x v vl vu lo hi sl Q I rx hs pl pu h;obtain⟨a,xs,rfl,hx,q⟩:=h;cases rx;obtain⟨its,r,ht,hz⟩:=I.list hx;have hlen:=r.length;refine⟨"list",_,slot_list_getitem.lookup,ht.isList.typeIs,?_⟩;refine wpAny_getItem_list_slice ht.isList hs pl pu .none (by simp) ?_ (by rw[Ao] <;> omega);rw[zeU,<-hlen];refine⟨.ref s.heap.objs.size,_,I.laid (t':=s.toks) (o:=.lst (cutV xs lo hi)) (fun b ob q=>Ai _ q) (Ah _) ?_,rfl,q _ (I.hok.fresh (Ah _))⟩;exact⟨AH (zeg xs lo hi) hz,_,0,(r.drop (HT.sIx xs.length 0 lo)).take (HT.sIx xs.length xs.length hi - HT.sIx xs.length 0 lo),Az _ rfl⟩
theorem zcL:zif X (.builtin "len") (fun xs H Q=>∃ p ys,xs=[.ref p]/\(SqL X.K H p ys\/SqT X.K H p ys)/\Q (.int ys.length) H):=by
 intro pins s σ H xs us Q I r h;obtain⟨p,ys,rfl,hq,q⟩:=h;obtain⟨u,rfl,rx⟩:=vals1 r;cases rx;have hn:=zfK
 rcases hq with hq | hq
 . obtain⟨its,r',pl,hz⟩:=I.list hq;have hlen:=r'.length;exact Calls.call_len_list pl.isList (by simp only[Ao] <;> omega) ⟨.int ys.length,H,I.tok _,⟨s.toks+1,by rw[Ao,hlen]⟩,q⟩
 . obtain⟨its,r',pl,hz⟩:=I.tuple hq;have hlen:=r'.length;exact len_tuple pl (by simp only[Ao] <;> omega) ⟨.int ys.length,H,I.tok _,⟨s.toks+1,by rw[Ao,hlen]⟩,q⟩
theorem zfP:zif X (.builtin "len") (fun xs H Q=>∃ z,xs=[.str z]/\z.length<=sizeLine/\Q (.int z.length) H):=by
 intro pins s σ H xs us Q I r h;obtain⟨z,rfl,hz,q⟩:=h;obtain⟨u,rfl,t,rfl⟩:=vals1 r;have hn:=zfK;exact len_str (by omega) ⟨.int z.length,H,I.tok _,⟨_,rfl⟩,q⟩
theorem zcK:zif X (.type "list") (fun xs H Q=>∃ p ys,xs=[.ref p]/\(SqL X.K H p ys\/SqT X.K H p ys)/\∀ l,H l=none->Q (.ref l) (upd H l (.lst ys))):=by
 intro pins s σ H xs us Q I r h;obtain⟨p,ys,rfl,hq,q⟩:=h;obtain⟨u,rfl,rx⟩:=vals1 r;cases rx;have fin:∀ (its:List Value),Vals ys its->ys.length<=sizeLine->∀ (h':Heap) (c':Nat),(∀ b o',s.heap.get? b=some o'->h'.get? b=some o') ->
     h'.get? s.heap.objs.size=some { cls:=.type "list",dict:=none,data:=.seq its.toArray c',slots:=#[] }->EP X pins σ Q (.ref s.heap.objs.size) { s with heap:=h' }:=fun its r' hz h' c' kp e =>
   ⟨.ref s.heap.objs.size,_,I.laid (t':=s.toks) kp (Ah _) (show zdk X.prog X.w _ h' _ (.lst ys) from ⟨hz,its,c',r',e⟩),rfl,q _ (I.hok.fresh (Ah _))⟩
 rcases hq with hq | hq
 . obtain⟨its,r',pl,hz⟩:=I.list hq;have hlen:=r'.length;obtain⟨o,ho,hc,n,hd⟩:=pl.isList;exact call_list_seq p (.inl rfl) ho hc hd (fun h' c' kp e=>fin its r' hz h' c' kp e) (by simp only[Ao] <;> omega)
 . obtain⟨its,r',pl,hz⟩:=I.tuple hq;have hlen:=r'.length;obtain⟨o,ho,hc,n,hd⟩:=pl;exact call_list_seq p (.inr rfl) ho hc hd (fun h' c' kp e=>fin its r' hz h' c' kp e) (by simp only[Ao] <;> omega)
theorem zdj:zif X (.type "tuple") (fun xs H Q=>∃ p ys,xs=[.ref p]/\((SqL X.K H p ys/\∀ l,H l=none->Q (.ref l) (upd H l (.tup ys)))\/(SqT X.K H p ys/\Q (.ref p) H))):=by
 intro pins s σ H xs us Q I r h;obtain⟨p,ys,rfl,h⟩:=h;obtain⟨u,rfl,rx⟩:=vals1 r;cases rx
 rcases h with ⟨hq,q⟩ | ⟨hq,q⟩
 . obtain⟨its,r',pl,hz⟩:=I.list hq;have hlen:=r'.length;refine call_tuple_list pl.isList (fun h' kp=>?_) (by simp only[Ao] <;> omega);have I1:Inv X pins σ H { s with heap:=h' }:=I.kept (t':=s.toks) kp;have I2:Inv X pins σ (upd H h'.objs.size (.tup ys)) { s with heap:=h'.push { cls:=.type "tuple",data:=.seq its.toArray } } :=
     I1.laid (t':=s.toks) (fun b o e=>Ai _ e) (Ah _) (show zdk X.prog X.w _ _ _ (.tup ys) from ⟨hz,its,r',zfn.new _ _⟩)
   exact⟨.ref h'.objs.size,_,I2,rfl,q _ (I1.hok.fresh (Ah _))⟩
 . obtain⟨its,r',pl,hz⟩:=I.tuple hq;exact call_tuple_same pl ⟨.ref p,H,I,rfl,q⟩
def tyV(K:Ac)(T:String)(x:V)(H:Hp):Prop:=match x with
 | .str _=>T="str"
 | .int _=>T="int"
 | .ref p=>(T="list"/\∃ xs,SqL K H p xs)\/(T="tuple"/\∃ o,K.lookup p=some o/\o.cls=.type "tuple"/\o.dict=none) \/
     (T="dict"/\((∃ kvs,H p=some (.dK kvs))\/∃ kvs,H p=some (.dT kvs)))\/(T="set"/\∃ S n,H p=some (.set S n))
 | _=>False
theorem znd{pins:List (Addr×Obj)}{σ:St}{H:Hp}{s:Shared}{T:String}{x:V}{v:Value}(I:Inv X pins σ H s)(r:RelV x v)(ty:tyV X.K T x H) :
   s.TypeIs v T/\∀ a,v=.ref a->∃ ob,s.heap.get? a=some ob/\ob.dict=none:=by
 cases x with
 | str z =>
   obtain⟨t,rfl⟩:=r
   cases (show T="str" from ty)
   exact⟨Fx s z t,fun _ e=>nomatch e⟩
 | int i =>
   obtain⟨t,rfl⟩:=r
   cases (show T="int" from ty)
   exact⟨typeIs_int s i t,fun _ e=>nomatch e⟩
 | ref p =>
   cases r
   rcases ty with ⟨rfl,xs,hq⟩ | ⟨rfl,o,hk,hc,hd⟩ | ⟨rfl,hk⟩ | ⟨rfl,S,n,hk⟩
   . obtain⟨its,_,pl,_⟩:=I.list hq;refine⟨pl.isList.typeIs,fun a e=>?_⟩;cases e;obtain⟨o,n,e,c,hd,_⟩:=pl;exact⟨o,e,hd⟩
   . refine⟨⟨o,I.kIn p o hk,hc⟩,fun a e=>?_⟩;cases e;exact⟨o,I.kIn _ o hk,hd⟩
   . have z:∃ o,s.heap.get? p=some o/\o.ExactDict:=by
       rcases hk with ⟨kvs,hk⟩ | ⟨kvs,hk⟩
       . obtain⟨_,_,_,_,o,_,_,e,ex,_⟩:=I.hok p _ hk;exact⟨o,e,ex⟩
       . obtain⟨_,_,_,_,o,_,_,e,ex,_⟩:=I.hok p _ hk;exact⟨o,e,ex⟩
     obtain⟨o,e,ex⟩:=z;refine⟨⟨o,e,ex.1⟩,fun a e2=>?_⟩;cases e2;exact⟨o,e,ex.2.1⟩
   . obtain⟨o,_,_,_,e,ex,_⟩:=I.hok p _ hk;refine⟨⟨o,e,ex.1⟩,fun a e2=>?_⟩;cases e2;exact⟨o,e,ex.2.1⟩
 | _=>exact False.elim ty
noncomputable def tBM(K:Ac)(T:String)(r:V->List V->Hp->VK->Prop)(to:TE)(t:TA):TE:=fun σ H Q=>to σ H fun x H1=>tyV K T x H1/\t σ H1 fun xs H2=>r x xs H2 Q
variable {o e:Expr} {es:List Expr} {to:TE} {t:TA} {name:Str} {apos cpos:Pos} {T id:String} {r:V->List V->Hp->VK->Prop}
theorem zm6(pa:PlainAttrs T)(slot:Slot T name id)(hty:typeOf (.builtin id)=pure (.type "method_descriptor"))(hm:MtR X id r)(ho:PE X o to)(ha:PA X (e::es) t)
   (hbase:attributeBase o name X.env (eval o X.env)=eval o X.env:=by rfl)
   (hfew:((backTo cpos (starEach (e::es) X.env)).all (fun x=>!x.1)&&(backToKw cpos (keywordEach [] X.env)).all (fun x=>x.1.isSome)
    &&decide ((e::es).length+([]:List Keyword).length+(if ([]:List Keyword).isEmpty then 0 else 1) < 30))=true:=by rfl)
   (hline:(apos.endLine==cpos.line)=true:=by rfl) (hs:starEach (e::es) X.env=(false,eval e X.env)::starEach es X.env:=by rfl) (hplain:(backTo cpos (starEach es X.env)).any (·.1)=false:=by rfl) :
   PE X (.Call (.Attribute o name apos) (e::es) [] cpos) (tBM X.K T r to t):=by
 intro pins s σ H Q I h;refine wpAny_Call_method_late hbase hfew hline rfl (thn (ho pins s σ H _ I h) ?_);rintro v s1 ⟨x,H1,I1,r1,ty,q1⟩;obtain⟨h1,h2⟩:=znd I1 r1 ty;refine⟨T,id,pa,slot,hty,h1,h2,?_⟩;have hA:=ha cpos pins s1 σ H1 _ I1 q1;rw[hs] at hA ⊢;refine Calls.callWith_builtin (by show (false || (backTo cpos (starEach es X.env)).any (·.1))=false;rw[hplain] <;> rfl) (Calls.evalArgs_plain ?_);exact thn hA fun us s2 ⟨vs,H2,I2,r2,q2⟩=>hm pins s2 σ H2 x vs v us Q I2 r1 r2 q2
end
def MtM(X:Cx)(id:String)(r:V->List V->Hp->VK->Prop):Prop :=
 ∀ (pins:List (Addr×Obj)) (s:Shared) (σ:St) (H:Hp) (x:V) (xs:List V) (v:Value) (us:List Value) (Q:VK),Inv X pins σ H s->RelV x v->Vals xs us->r x xs H Q ->
   wpAny (model X.prog X.w) X.A (call (.builtin id) (v::us)) (EP X pins σ Q) X.xe s
theorem Vals.one:∀ {x:V} {us:List Value},Vals [x] us->∃ u,us=[u]/\RelV x u
 | _,_,.cons r .nil=>⟨_,rfl,r⟩
theorem Vals.two{x y:V}{us:List Value}(h:Vals [x,y] us):∃ u v,us=[u,v]/\RelV x u/\RelV y v:=by
 cases h with
 | cons r t =>
   cases t with
   | cons q t =>
     cases t;exact⟨_,_,rfl,r,q⟩
theorem Vals.eraseIdx:∀ {xs:List V} {us:List Value} (i:Nat),Vals xs us->Vals (xs.eraseIdx i) (us.eraseIdx i)
 | _,_,_,.nil=>.nil
 | _,_,0,.cons _ t=>t
 | _,_,i+1,.cons r t=>.cons r (Vals.eraseIdx i t)
theorem zgf{α:Type}:∀ (l:List α) (i:Nat),(l.eraseIdx i).length<=l.length
 | [],_=>Ah _
 | _::_,0=>Bz _
 | _::r,i+1=>Cj (zgf r i)
section
variable {X:Cx} {pins:List (Addr×Obj)} {σ:St} {H:Hp} {s:Shared} {l b:Addr} {xs ys zs:List V}
theorem Inv.lset{its its':List Value}{n:Nat}{f:Array Value->Array Value}{t':Nat}(I:Inv X pins σ H s)(hH:H l=some (.lst xs))
   (e:s.heap.get? l=some { cls:=.type "list",data:=.seq its.toArray n }) (hf:f its.toArray=its'.toArray) (hv:Vals ys its') (hz:ys.length<=sizeLine) :
   Inv X pins σ (upd H l (.lst ys)) { s with heap:=s.heap.update l (Bq f),toks:=t' }:=by
 have q:=PySem.IsL.update e f;rw[hf] at q;refine I.write (x:=l) (e:=l) (by rw[hH];exact trivial) (.inl rfl) (fun b' u hb hu=>(D8 s.heap (Bq f) (AV hb)).trans hu) ⟨_,q⟩ ?_;exact⟨hz,its',_,hv,q⟩
theorem Inv.lnew{its:List Value}{t':Nat}(I:Inv X pins σ H s)(hv:Vals ys its)(hz:ys.length<=sizeLine) :
   Inv X pins σ (upd H s.heap.objs.size (.lst ys)) { s with heap:=s.heap.push { cls:=.type "list",data:=.seq its.toArray },toks:=t' } :=
 I.laid (fun _ _ q=>Ai _ q) (Ah _) ⟨hz,its,0,hv,Az _ rfl⟩
theorem Inv.fresh(I:Inv X pins σ H s):H s.heap.objs.size=none:=I.hok.fresh (Ah _)
theorem Inv.lstM(I:Inv X pins σ H s)(hH:H l=some (.lst xs)):xs.length<=sizeLine/\∃ (its:List Value) (n:Nat),Vals xs its/\xs.length=its.length/\s.heap.get? l=some { cls:=.type "list",data:=.seq its.toArray n }:=by
 obtain⟨z,its,n,r,e⟩:=I.hok l _ hH;exact⟨z,its,n,r,r.length,e⟩
theorem zkw{n:Nat}(h:n<=sizeLine):Cz n=false:=by
 unfold Cz;exact decide_eq_false (by omega)
end
section
variable {X:Cx}
noncomputable def zl2:V->List V->Hp->VK->Prop:=fun x vs H Q=>∃ l xs y,x=.ref l/\vs=[y]/\H l=some (.lst xs)/\xs.length < sizeLine/\Q .non (upd H l (.lst (xs++[y])))
theorem zgc:MtM X "list.append" zl2:=by
 intro pins s σ H x vs v us Q I rx rv h;obtain⟨l,xs,y,rfl,rfl,hH,hz,q⟩:=h;cases rx;obtain⟨u,rfl,ru⟩:=rv.one;obtain⟨z,its,n,r,hl,e⟩:=I.lstM hH;refine Fy F.slot_list_append ⟨_,e,rfl⟩ F.entry_list_append (F.args_list_append_2 _ _) (PySem.list_append l its.toArray n u (by rw[Ao];omega)) ⟨e,?_⟩;refine⟨.non,_,I.lset (its':=its++[u]) hH e (by simp) (r.append (.cons ru .nil)) ?_,rfl,q⟩;rw[AF,BQ];omega
noncomputable def zl1:V->List V->Hp->VK->Prop:=fun x vs H Q=>∃ l b xs zs,x=.ref l/\vs=[.ref b]/\H l=some (.lst xs)/\H b=some (.lst zs)/\xs.length+zs.length<=sizeLine/\Q .non (upd H l (.lst (xs++zs)))
theorem ziZ:MtM X "list.extend" zl1:=by
 intro pins s σ H x vs v us Q I rx rv h;obtain⟨l,b,xs,zs,rfl,rfl,hH,hB,hz,q⟩:=h;cases rx;obtain⟨u,rfl,ru⟩:=rv.one;cases ru;obtain⟨z,its,n,r,hl,e⟩:=I.lstM hH;obtain⟨z2,its2,n2,r2,hl2,e2⟩:=I.lstM hB;have hsz:its.toArray.size+its2.toArray.size<=sizeLine:=by rw[Ao,Ao];omega
 have hlong:¬ (!its.toArray.isEmpty&&Cz (its.toArray.size+its2.toArray.size))=true:=by
   rw[zkw hsz,Cf];exact Bi
 refine Fy F.slot_list_extend ⟨_,e,rfl⟩ F.entry_list_extend (F.args_list_extend_2 _ _)
   (AutoSeq1.list_extend_list_list_0 l its.toArray n b its2.toArray n2 hlong (by rw[Ao];omega) (by omega)) ⟨e,e2,?_⟩
 refine⟨.non,_,I.lset (its':=its++its2) hH e (by simp) (r.append r2) ?_,rfl,q⟩;rw[AF];omega
noncomputable def znD:V->List V->Hp->VK->Prop:=fun x vs H Q=>∃ l xs i k y,x=.ref l/\vs=[.int i]/\H l=some (.lst xs)/\-(2 ^ 63)<=i/\i < 2 ^ 63/\seqIndex? i xs.length=some k/\xs[k]?=some y/\Q y (upd H l (.lst (xs.eraseIdx k)))
theorem zkB:MtM X "list.pop" znD:=by
 intro pins s σ H x vs v us Q I rx rv h;obtain⟨l,xs,i,k,y,rfl,rfl,hH,h1,h2,hk,hy,q⟩:=h;cases rx;obtain⟨u,rfl,ru⟩:=rv.one;obtain⟨t,rfl⟩:=ru;obtain⟨z,its,n,r,hl,e⟩:=I.lstM hH;obtain⟨w,hw,rw'⟩:=r.get hy;refine Fy F.slot_list_pop ⟨_,e,rfl⟩ F.entry_list_pop (F.args_list_pop_2 _ _)
   (MeetsSeq.list_pop_at l its.toArray n i t k w (fitsIndex_both h1 h2) (by rw[Ao,<-hl];exact hk) (by rw[<-AD];exact hw) (by rw[Ao];omega)) ⟨e,?_⟩
 refine⟨y,_,I.lset (its':=its.eraseIdx k) hH e ?_ (r.eraseIdx k) ?_,rw',q⟩
 . show its.toArray.eraseIdxIfInBounds k=(its.eraseIdx k).toArray;rw[List.eraseIdxIfInBounds_toArray]
 . have:=zgf xs k;omega
noncomputable def rCat:R2:=fun x y H Q=>∃ l b xs zs,x=.ref l/\y=.ref b/\H l=some (.lst xs)/\H b=some (.lst zs)/\xs.length+zs.length<=sizeLine/\∀ p,H p=none->Q (.ref p) (upd H p (.lst (xs++zs)))
theorem zn0:OpR X (binaryOp .Add) rCat:=by
 intro pins s σ H x y v u Q I rx ry h;obtain⟨l,b,xs,zs,rfl,rfl,hH,hB,hz,q⟩:=h;cases rx;cases ry;obtain⟨z,its,n,r,hl,e⟩:=I.lstM hH;obtain⟨z2,its2,n2,r2,hl2,e2⟩:=I.lstM hB;refine PySem.P.add_list e e2 ?_ (by rw[Ao,Ao];omega);have ea:its.toArray++its2.toArray=(its++its2).toArray:=by simp
 rw[ea];exact⟨.ref _,_,I.lnew (t':=s.toks) (r.append r2) (by rw[AF];omega),rfl,q _ I.fresh⟩
end
section
variable {prog:Program} {w:World} {A:Around} {E:Value->Shared->Prop} {s:Shared}
set_option maxRecDepth 100000 in
end
end L2
namespace Att
open PySem PySem.W PySem.Calls PyProof.Rows
theorem zdM{P:Params}{h:Heap}:∀ (ns:List Int) (vs:List Value),WellAll P h vs (ns.map WData.int)->IntsAre vs ns:=by
 intro ns
 induction ns with
 | nil =>
   intro vs w;rw[BB] at w;cases w;exact .nil
 | cons n ns ih =>
   intro vs w;rw[Au] at w
   cases w with
   | cons a b =>
     cases a;exact .cons _ _ (ih _ b)
theorem ziB{l:OpenLaw}{n:Nat}(hn:l.most=some n){P:Params}{h:Heap}{args:List WData}{vals:List Value}
   (hpre:l.row.toRowW.claim.pre args=true) (hwl:WellAll P h vals args) :
   ∃ a vs ns,vals=[AJ a]/\args=[WData.list (ns.map WData.int)]/\h.get? a=some { cls:=.type "list",data:=.seq vs.toArray }/\IntsAre vs ns/\ns.length<=n:=by
 have hsh:WShape.hasAll [] args [.list .int]=true:=(pre_splitW hpre).1;have hc:l.pre.holds [] { args:=args }=true:=(pre_splitW hpre).2;obtain⟨d,r,rfl,h1,h2⟩:=hasAllW_cons hsh;obtain rfl:=hasAllW_nil h2;obtain⟨xs,rfl,h3⟩:=hasW_list h1;obtain⟨ns,rfl⟩:=items_int h3;have hlen:ns.length<=n:=by
   unfold OpenLaw.pre at hc;have h4:(WTm.not (.lt (.lit (.int (n:Int))) (.len (.arg 0)))).holds [] { args:=[.list (ns.map .int)] }=true:=by
     have h4:=(holds_andW hc).1;rw[hn] at h4;exact h4
   have h5:=condW_of h4 (w_not (w_lt w_lit (w_len_list (w_arg rfl))));rw[Ad] at h5;refine Nat.le_of_not_lt fun q=>?_;have q':(n:Int) < ((ns.length:Nat):Int):=by omega
   first
     | (rw[decide_eq_true q'] at h5;exact absurd h5 (by decide))
     | (simp at h5;omega)
 cases hwl with
 | cons w1 w2 =>
   cases w2
   cases w1 with
   | list ho hall=>exact⟨_,_,ns,rfl,rfl,ho,zdM ns _ hall,hlen⟩
theorem ziK(l:OpenLaw)(args:List WData):l.row.toRowW.claim.post args (.bool true) args=true :=
 postW_of (r:=l.row.toRowW) (X:=(true==true))
   (show WShape.has [] (.bool true) .bool=true by first | rfl | decide | simp[WShape.has,WShape.arms,WShape.armsAll])
   (show (WTm.eq .res (.lit (.bool true))).value [] { args:=args,res:=some (.bool true),after:=args }=some (.bool (true==true)) from w_eq_bool (w_res rfl) w_lit) rfl
theorem attach_call{l:OpenLaw}{n:Nat}{q:Program}{loose:List Str}{XP:(Str->Option Value)->Heap->Prop}{YP:World->Heap->Prop}{d:DefRec}
   (hn:l.most=some n) (hdf:d.params.defaults=[])
   (call:∀ (w:World) (s₀ s₁:Shared) (mg mb:Str->Option Value) (fa:Addr) (o:Obj) (pm cd doc:Value) (a:Addr) (vs:List Value) (ns:List Int),
     Ground q loose [] XP w s₀ mg mb s₁.heap->YP w s₁.heap ->
     s₁.heap.get? fa=some o->o.data=.func (docDef d.name d.params d.body d.scope pm cd doc)->s₁.heap.CodeRec cd d.name->mg d.name=some (.ref fa) ->
     s₁.heap.get? a=some { cls:=.type "list",data:=.seq vs.toArray }->IntsAre vs ns->ns.length<=n->s₁.gens=#[] ->
     codeAny (model l.prog w) callerA (.call (.ref fa) ⟨[.ref a],[]⟩) (fun r s'=>r=.ok (.ret (.bool true))/\OldK s₁.heap s'.heap/\s'.os=s₁.os/\AllBare s'.gens) s₁) :
   WalkO q loose XP YP l.row.toRowW d [] (fun f vs=>Fz f vs):=by
 intro w s₀ s₁ mg mb G Y fa o pm cd doc dV kV ho hd hcd hD hmg hg args vals as hpre hlay hrd hwl hlo;obtain rfl:dV=.none:=Dflts.none hD hdf;obtain rfl:kV=.none:=Dflts.noKw hD;obtain⟨a,vs,ns,rfl,rfl,hobj,hints,hlen⟩:=ziB hn hpre hwl;refine enter_call (CU (call w s₀ s₁ mg mb fa o pm cd doc a vs ns G Y ho (fd_plain hd) hcd hmg hobj hints hlen hg) fun r s' hq=>?_);obtain⟨rfl,h2,h3,h4⟩:=hq;exact⟨.inl ⟨.bool true,.bool true,[],rfl,fun _=>rfl,.bool true,ziK l _,fun _=>⟨CI,fun _ hm=>(nomatch hm)⟩⟩,h2,h3,h4⟩
end Att
namespace L2
open PySem PySem.Spec PyProof.Rows
theorem zfS:∀ {vs:List Value} {ns:List Int},IntsAre vs ns->Vals (ns.map V.int) vs
 | _,_,.nil=>.nil
 | _,_,.cons n t h=>.cons ⟨t,rfl⟩ (zfS h)
def Only(H:Hp):Prop:=∀ b,H b=none\/∃ o xs,H b=some (.frz o (.lst xs))
theorem zkO{P:Program}{w:World}{K:Ac}{mg mb:Str->Option Value}{CX:CXT}{k:Nat}{fa a:Addr}{fd:FuncData}{x:Str}{sp:Sp}{s₁:Shared}{vs:List Value}{ns:List Int}
   (KX:K.In s₁.heap) (hns:s₁.heap.Ns mainGlobals mg) (hb:s₁.heap.Ns builtinsNs mb) (hbb:∀ x:Str,x≠"__name__"->mb x=bootBuiltins x) (hlim:s₁.heap.NoLimit) (hg:s₁.gens=#[])
   (ha:s₁.heap.get? a=some { cls:=.type "list",data:=.seq vs.toArray }) (hi:IntsAre vs ns) (hl:ns.length<=sizeLine) (hr:Room k callerA)
   (F:∀ base:Heap,K.In base->base.Ns mainGlobals mg->FnOk P w K mg base CX k fa fd [x] sp) (hbind:∀ (s:Shared) (u:Value),BindsTo s fd ⟨[u],[]⟩ [(x,u)])
   (hsp:∀ H:Hp,Only H->SqL K H a (ns.map V.int)->sp [.ref a] H (fun v _=>v=.bl true) fun _ _ _=>False)
   (hCX:∀ H e s',CX [] H s₁ (fun _ _ _=>False) e s'->False) :
   codeAny (model P w) callerA (.call (.ref fa) ⟨[.ref a],[]⟩) (fun r s'=>r=.ok (.ret (.bool true))/\OldK s₁.heap s'.heap/\s'.os=s₁.os/\AllBare s'.gens) s₁:=by
 have rv:=zfS hi;have lenV:=hi.length
 -- from an abstract heap in which nothing but the script may be tracked
 have core:∀ H:Hp,Only H->SqL K H a (ns.map V.int)->HOk P w H s₁.heap->(∀ b,H b≠none->b=a)->(H a≠none->K.lookup a=none) ->
     codeAny (model P w) callerA (.call (.ref fa) ⟨[.ref a],[]⟩) (fun r s'=>r=.ok (.ret (.bool true))/\OldK s₁.heap s'.heap/\s'.os=s₁.os/\AllBare s'.gens) s₁:=by
   intro H hO hS hok hA hK;have base_of:∀ {b:Addr} {o:Obj},s₁.heap.get? b=some o->H b=none->(hidT s₁.heap H).get? b=some o:=fun e n=>zkW e n;have noA:∀ {b:Addr} {o:Obj} {es:Array DictEntry} {ep:Nat},s₁.heap.get? b=some o->o.data=.dict es ep->H b=none:=fun {b o es ep} e d=>by
     cases q:H b with
     | none=>rfl
     | some u =>
       have e':b=a:=hA b (by rw[q];simp);subst e';rw[ha] at e;cases e;have d':Data.seq vs.toArray _=Data.dict es ep:=d;cases d'
   have nsK:∀ {b:Addr} {m:Str->Option Value},s₁.heap.Ns b m->(hidT s₁.heap H).Ns b m:=fun {b m} ⟨o,es,ep,e,d,r⟩=>⟨o,es,ep,base_of e (noA e d),d,r⟩
   have hKb:K.In (hidT s₁.heap H):=fun b o e=>base_of (KX b o e) (by
     cases q:H b with
     | none=>rfl
     | some u =>
       have e':b=a:=hA b (by rw[q];simp);subst e';rw[hK (by rw[q];simp)] at e;cases e)
   have hM:Mod K mg (hidT s₁.heap H):=⟨hKb,nsK hns,⟨mb,nsK hb,hbb⟩,let ⟨mc,h1,h2⟩:=hlim;⟨mc,nsK h1,h2⟩⟩
   have e0:Env0 P w K mg (hidT s₁.heap H) callerA [] s₁ H:=⟨rfl,hM,fun b o e=>zmv e,Nat.le_of_eq (zjb _ _),trivial,fun b hb=>absurd (show b∈([]:List Addr) from hb) (by simp),hok,.of_eq hg⟩
   refine CU ((F _ hKb (nsK hns)).run callerA [] s₁ H ⟨[.ref a],[]⟩ [.ref a] [.ref a] _ _ hr e0 (hbind s₁ (.ref a)) (.cons rfl .nil) (hsp H hO hS)) fun r s' h=>?_
   cases r with
   | error e=>exact (hCX H e s' h).elim
   | ok fl =>
     cases fl with
     | next=>exact False.elim h
     | brk=>exact False.elim h
     | cont=>exact False.elim h
     | ret u =>
       obtain⟨v,H',os,bare,un,hok',r',q⟩:=h;have q':v=.bl true:=q;subst q';obtain rfl:u=B4 true:=r';refine⟨rfl,OldK.of_keep fun b o e=>?_,os,bare⟩
       cases q:H b with
       | none=>exact un.keep b o e q (by intro z;exact absurd (show b∈([]:List Addr) from z) (by simp)) (by simp)
       | some u =>
         rcases hO b with z | ⟨ob,xs,z⟩
         . rw[q] at z;cases z
         . have z2:=un.frzs b ob _ z;obtain⟨e1,_⟩:=hok b _ z;obtain⟨e2,_⟩:=hok' b _ z2;rw[e] at e1;cases e1;exact e2
 cases hk:K.lookup a with
 | some o =>
   -- the script is one of the module's own objects
   have e:=KX a o hk;rw[ha] at e;cases e;refine core (fun _=>none) (fun _=>.inl rfl) (.inr ⟨_,vs.toArray,_,hk,rfl,rfl,rfl,by rw[Ao,lenV];exact hl,by simpa using rv⟩) (fun b u z=>by have z':(none:Option HO)=some u:=z;cases z') (fun b z=>absurd rfl z) fun z=>absurd rfl z
 | none =>
   refine core (fun b=>if b=a then some (.frz { cls:=.type "list",data:=.seq vs.toArray } (.lst (ns.map V.int))) else none) (fun b=>?_) (.inl (.inr ⟨{ cls:=.type "list",data:=.seq vs.toArray },if_pos rfl⟩)) (fun b u z=>?_) (fun b z=>?_) fun _=>hk
   . by_cases hb:b=a
     . exact .inr ⟨_,_,if_pos hb⟩
     . exact .inl (if_neg hb)
   . by_cases hb:b=a
     . have z':=(if_pos hb).symm.trans z;cases z';subst hb;exact⟨ha,by rw[Ad];exact hl,vs,_,rv,ha⟩
     . have z':=(if_neg hb).symm.trans z;cases z'
   . by_cases hb:b=a
     . exact hb
     . exact absurd (if_neg hb) z
theorem walk_of{l:DX}{n k:Nat}{q:Program}{loose:List Str}{XP:(Str->Option Value)->Heap->Prop}{YP:World->Heap->Prop}{d:DefRec}{K:Params->Ac}{CX:World->CXT}{sp:World->Sp}{x:Str}
   (hn:l.most=some n) (hn2:n<=sizeLine) (hdf:d.params.defaults=[]) (hr:Room k callerA)
   (hY:∀ (w:World) (h:Heap),YP w h->(K w.params).In h)
   (F:∀ (w:World) (mg:Str->Option Value) (fa:Addr) (h:Heap),(K w.params).In h->h.Ns mainGlobals mg->mg d.name=some (.ref fa) ->
     ∃ fd:FuncData,(∀ (s:Shared) (u:Value),BindsTo s fd ⟨[u],[]⟩ [(x,u)]) /\
       ∀ base:Heap,(K w.params).In base->base.Ns mainGlobals mg->FnOk l.prog w (K w.params) mg base (CX w) k fa fd [x] (sp w))
   (hsp:∀ (w:World) (H:Hp) (a:Addr) (ns:List Int),ns.length<=n->Only H->SqL (K w.params) H a (ns.map V.int)->sp w [.ref a] H (fun v _=>v=.bl true) fun _ _ _=>False)
   (hCX:∀ (w:World) (H:Hp) (s:Shared) (e:Value) (s':Shared),CX w [] H s (fun _ _ _=>False) e s'->False) :
   FS q loose XP YP l.row.toRowW d [] (fun f vs=>Fz f vs):=by
 refine Att.attach_call hn hdf fun w s₀ s₁ mg mb fa o pm cd doc a vs ns G Y ho hd hcd hmg hobj hints hlen hg=>?_;have KX:=hY w _ Y;obtain⟨fd,hb,hF⟩:=F w mg fa _ KX G.T.g hmg;exact zkO KX G.T.g G.T.b G.T.builtins G.T.nolimit hg hobj hints (AH hlen hn2) hr hF hb (fun H hO hS=>hsp w H a ns hlen hO hS) fun H e s'=>hCX w H s₁ e s'
noncomputable def zdz(s:Stmt):Arguments:=match s with
 | .FunctionDef _ a _ _ _ _ _ _ _ _=>a
 | _=>{ posonlyargs:=[],args:=[],vararg:=none,kwonlyargs:=[],kw_defaults:=[],kwarg:=none,defaults:=[] }
noncomputable def zcD(s:Stmt):List Stmt:=match s with
 | .FunctionDef _ _ b _ _ _ _ _ _ _=>b
 | _=>[]
noncomputable def zaz(s:Stmt):Scope:=match s with
 | .FunctionDef _ _ _ _ _ _ sc _ _ _=>sc
 | _=>{ kind:=.function,names:=[],isGenerator:=false,isCoroutine:=false }
noncomputable abbrev CX0:CXT:=fun _ _ _ _ _ _=>False
noncomputable abbrev E0:XK:=fun _ _ _=>False
theorem zo5{X:Cx}:Passes CX0 X E0:=fun _ _ _ _ _ _ _ h=>h.elim
structure Fun(K:Ac)(x qual:Str)(st:Stmt)(f:Addr)(fd:FuncData):Prop where
 ex:∃ (oc:Value) (od:Option Addr) (kV doc pm:Value) (an:Option Addr) (cdv ct:Value) (osl:Array (Option Value)),
   fd=BJ x qual (zdz st) (zcD st) (zaz st) .none kV doc pm an cdv ct/\K.lookup f=some ⟨oc,od,.func fd,osl⟩/\CG K cdv qual=true
 kp:BW K (.ref f)=true
section
variable {P:Program} {w:World} {K:Ac} {mg:Str->Option Value} {base:Heap}
theorem Fun.ok{x qual:Str}{st:Stmt}{f:Addr}{fd:FuncData}{N ps:List Str}{k:Nat}{sp:Sp}(F:Fun K x qual st f fd)(S:FnScope N ps (zaz st))(len:∀ vs H Q E,sp vs H Q E->vs.length=ps.length)
   (hbody:∀ (cdv:Value) (A:Around) (outer:List Env) (s:Shared) (H:Hp) (vs:List V) (Q:VK) (E:XK),Room k (A.deeper (envOfC qual (zaz st) s.heap.objs.size f cdv))->sp vs H Q E ->
     ∃ t,PSs (cxOf CX0 P w K mg base N qual (zaz st) f cdv A outer s H E).nox (zcD st) t/\t { nx:=fun _ H'=>Q .non H',rt:=Q } (start N vs) H):FnOk P w K mg base CX0 (k+1) f fd ps sp:=by
 obtain⟨oc,od,kV,doc,pm,an,cdv,ct,osl,rfl,lk,hcd⟩:=F.ex;refine zpi lk hcd S len fun A outer s H vs Q E hr hsp=>?_;obtain⟨t,h,q⟩:=hbody cdv A outer s H vs Q E hr hsp;exact⟨t,h.nox,q⟩
theorem Fun.binds{x qual:Str}{st:Stmt}{f:Addr}{fd:FuncData}{ps:List Str}(F:Fun K x qual st f fd)
   (h:∀ (kV doc pm:Value) (an:Option Addr) (cdv ct:Value) (us:List Value),us.length=ps.length->bindArgs (BJ x qual (zdz st) (zcD st) (zaz st) .none kV doc pm an cdv ct) ⟨us,[]⟩=pure (ps.zip us)):Binds K fd ps []:=by
 obtain⟨oc,od,kV,doc,pm,an,cdv,ct,osl,rfl,lk,hcd⟩:=F.ex;exact .all (h kV doc pm an cdv ct)
theorem zkZ{x qual:Str}{st:Stmt}{f:Addr}{oc:Value}{od an:Option Addr}{osl:Array (Option Value)}{kV doc pm cdv ct:Value}(l:K.lookup f=some ⟨oc,od,.func (BJ x qual (zdz st) (zcD st) (zaz st) .none kV doc pm an cdv ct),osl⟩)
   (c:CG K cdv qual=true) (k:BW K (.ref f)=true):Fun K x qual st f (BJ x qual (zdz st) (zcD st) (zaz st) .none kV doc pm an cdv ct):=⟨⟨oc,od,kV,doc,pm,an,cdv,ct,osl,rfl,l,c⟩,k⟩
end
theorem zbs{A:Around}{k:Nat}(hr:Room k A):A.units+1 < cLine:=Dk (C5 (by decide:1<=64) _) hr.units
end L2
namespace L2.MP
open PySem PySem.Spec PyProof.Rows
inductive D where
 | non | bl (b:Bool) | int (i:Int) | str (x:Str) | tup (xs:List D) | ref (n:Nat) | kl (xs:List D)
inductive O where
 | lst (xs:List D) | fz (xs:List D) | dk (kvs:List (Key×D)) | dt (kvs:List (List Key×D)) | fk (kvs:List (Key×D)) | ft (kvs:List (List Key×D)) | ob (C:Addr) (fs:List (Str×D)) | sz (n:Nat)
noncomputable abbrev Sto:=List O
noncomputable abbrev Rho:=List (Option D)
structure Kp(H H':Hp):Prop where
 tup:∀ a xs,H a=some (.tup xs)->H' a=some (.tup xs)
 frz:∀ a o u,H a=some (.frz o u)->H' a=some (.frz o u)
def SqF(K:Ac)(H:Hp)(a:Addr)(xs:List V):Prop :=
 (∃ o,H a=some (.frz o (.lst xs)))\/∃ (o:Obj) (its:Array Value) (n:Nat),K.lookup a=some o/\o.cls=.type "list"/\o.dict=none/\o.data=.seq its n/\its.size<=sizeLine/\Vals xs its.toList
theorem SqF.sq{K:Ac}{H:Hp}{a:Addr}{xs:List V}(h:SqF K H a xs):SqL K H a xs:=by
 rcases h with h | h
 . exact .inl (.inr h)
 . exact .inr h
theorem SqF.kp{K:Ac}{H H':Hp}{a:Addr}{xs:List V}(T:Kp H H')(h:SqF K H a xs):SqF K H' a xs:=by
 rcases h with ⟨o,h⟩ | h
 . exact .inl ⟨o,T.frz _ _ _ h⟩
 . exact .inr h
mutual
noncomputable def Rep(K:Ac)(H:Hp)(io:List Addr):V->D->Prop
 | v,.non=>v=.non
 | v,.bl b=>v=.bl b
 | v,.int i=>v=.int i
 | v,.str x=>v=.str x
 | v,.tup ds=>∃ a xs,v=.ref a/\H a=some (.tup xs)/\Reps K H io xs ds
 | v,.ref n=>∃ a,v=.ref a/\io[n]?=some a
 | v,.kl ds=>∃ a xs,v=.ref a/\SqF K H a xs/\Reps K H io xs ds
noncomputable def Reps(K:Ac)(H:Hp)(io:List Addr):List V->List D->Prop
 | xs,[]=>xs=[]
 | xs,d::ds=>∃ y ys,xs=y::ys/\Rep K H io y d/\Reps K H io ys ds
end
mutual
theorem Rep.mono{K:Ac}{H H':Hp}{io ka:List Addr}(T:Kp H H'):∀ {v:V} {d:D},Rep K H io v d->Rep K H' (io++ka) v d
 | _,.non,h=>h
 | _,.bl _,h=>h
 | _,.int _,h=>h
 | _,.str _,h=>h
 | _,.tup ds,h=>by
   obtain⟨a,xs,e,q,r⟩:=h;exact⟨a,xs,e,T.tup a xs q,Reps.mono T r⟩
 | _,.ref n,h=>by
   obtain⟨a,e,q⟩:=h;exact⟨a,e,by rw[Ak (List.getElem?_eq_some_iff.mp q).1];exact q⟩
 | _,.kl ds,h=>by
   obtain⟨a,xs,e,q,r⟩:=h;exact⟨a,xs,e,q.kp T,Reps.mono T r⟩
theorem Reps.mono{K:Ac}{H H':Hp}{io ka:List Addr}(T:Kp H H'):∀ {xs:List V} {ds:List D},Reps K H io xs ds->Reps K H' (io++ka) xs ds
 | _,[],h=>h
 | _,d::ds,h=>by
   obtain⟨y,ys,e,r,rs⟩:=h;exact⟨y,ys,e,Rep.mono T r,Reps.mono T rs⟩
end
section
variable {K:Ac} {H H' H1 H2:Hp} {io ka kb:List Addr} {st st':Sto} {xs ys:List V} {ds es:List D}
theorem Reps.length:∀ {xs:List V} {ds:List D},Reps K H io xs ds->xs.length=ds.length
 | _,[],h=>by rw[show _=[] from h];rfl
 | _,d::ds,h=>by
   obtain⟨y,ys,e,_,rs⟩:=h;rw[e,AW,AW,Reps.length rs]
theorem Reps.get:∀ {xs:List V} {ds:List D} {i:Nat} {d:D},Reps K H io xs ds->ds[i]?=some d->∃ v,xs[i]?=some v/\Rep K H io v d
 | _,[],_,_,_,e=>by simp at e
 | _,a::ds,0,d,h,e=>by
   obtain⟨y,ys,rfl,r,_⟩:=h;have e':a=d:=by simpa using e
   subst e';exact⟨y,rfl,r⟩
 | _,a::ds,i+1,d,h,e=>by
   obtain⟨y,ys,rfl,_,rs⟩:=h;exact Reps.get (i:=i) rs (by simpa using e)
theorem Reps.append:∀ {xs ys:List V} {ds es:List D},Reps K H io xs ds->Reps K H io ys es->Reps K H io (xs++ys) (ds++es)
 | _,_,[],_,h,q=>by rw[show _=[] from h];exact q
 | _,_,d::ds,_,h,q=>by
   obtain⟨y,ys,rfl,r,rs⟩:=h;exact⟨y,_,rfl,r,Reps.append rs q⟩
theorem Reps.set:∀ {xs:List V} {ds:List D} {v:V} {d:D} (i:Nat),Reps K H io xs ds->Rep K H io v d->Reps K H io (xs.set i v) (ds.set i d)
 | _,[],_,_,_,h,_=>by rw[show _=[] from h];exact rfl
 | _,a::ds,v,d,0,h,q=>by
   obtain⟨y,ys,rfl,_,rs⟩:=h;exact⟨v,ys,rfl,q,rs⟩
 | _,a::ds,v,d,i+1,h,q=>by
   obtain⟨y,ys,rfl,r,rs⟩:=h;exact⟨y,_,rfl,r,Reps.set i rs q⟩
theorem Reps.take:∀ {xs:List V} {ds:List D} (n:Nat),Reps K H io xs ds->Reps K H io (xs.take n) (ds.take n)
 | _,[],n,h=>by rw[show _=[] from h];simp[Reps]
 | _,_::_,0,_=>by simp[Reps]
 | _,d::ds,n+1,h=>by
   obtain⟨y,ys,rfl,r,rs⟩:=h;exact⟨y,_,rfl,r,Reps.take n rs⟩
theorem Reps.drop:∀ {xs:List V} {ds:List D} (n:Nat),Reps K H io xs ds->Reps K H io (xs.drop n) (ds.drop n)
 | _,[],n,h=>by rw[show _=[] from h];simp[Reps]
 | _,_::_,0,h=>h
 | _,d::ds,n+1,h=>by
   obtain⟨y,ys,rfl,r,rs⟩:=h;exact Reps.drop n rs
theorem Reps.nil:Reps K H io [] []:=rfl
theorem Reps.cons{v:V}{d:D}(r:Rep K H io v d)(rs:Reps K H io xs ds):Reps K H io (v::xs) (d::ds):=⟨v,xs,rfl,r,rs⟩
theorem Reps.one{d:D}(r:Reps K H io xs [d]):∃ v,xs=[v]/\Rep K H io v d:=by
 obtain⟨y,ys,rfl,r,e⟩:=r
 cases (show ys=[] from e)
 exact⟨y,rfl,r⟩
theorem Reps.two{d e:D}(r:Reps K H io xs [d,e]):∃ v u,xs=[v,u]/\Rep K H io v d/\Rep K H io u e:=by
 obtain⟨y,ys,rfl,r,q⟩:=r;obtain⟨v,rfl,q'⟩:=q.one;exact⟨y,v,rfl,r,q'⟩
noncomputable abbrev KR (κ:Type) (K:Ac) (H:Hp) (io:List Addr):List (κ×V)->List (κ×D)->Prop:=Paired fun (p:κ×V) (q:κ×D)=>p.1=q.1/\Rep K H io p.2 q.2
def SetZ(a:Addr)(n:Nat)(h:Heap):Prop:=∃ o es ep t,h.get? a=some o/\o.ExactSet/\o.data=.set es ep t/\es.size < scanBound/\t.fits es.size=true/\es.size=n
noncomputable def OR(K:Ac)(H:Hp)(io:List Addr)(a:Addr):O->Prop
 | .lst ds=>∃ xs,H a=some (.lst xs)/\Reps K H io xs ds
 | .fz ds=>∃ o xs,H a=some (.frz o (.lst xs))/\Reps K H io xs ds
 | .dk kvs=>∃ ps,H a=some (.dK ps)/\KR Key K H io ps kvs
 | .dt kvs=>∃ ps,H a=some (.dT ps)/\KR (List Key) K H io ps kvs
 | .fk kvs=>∃ o ps,H a=some (.frz o (.dK ps))/\KR Key K H io ps kvs
 | .ft kvs=>∃ o ps,H a=some (.frz o (.dT ps))/\KR (List Key) K H io ps kvs
 | .ob C fs=>∃ dx ps,H a=some (.ins C dx ps)/\KR Str K H io ps fs
 | .sz n=>H a=some (.ext (SetZ a n))
structure StR(K:Ac)(H:Hp)(io:List Addr)(st:Sto):Prop where
 len:io.length=st.length
 nd:io.Nodup
 ob:∀ (n:Nat) (a:Addr) (o:O),io[n]?=some a->st[n]?=some o->OR K H io a o
structure EnvR(K:Ac)(H:Hp)(io:List Addr)(σ:St)(ρ:Rho):Prop where
 len:σ.length=ρ.length
 at_:∀ (i:Nat) (d:D),ρ[i]?=some (some d)->∃ v,σ[i]?=some (some v)/\Rep K H io v d
structure Ext(io ka:List Addr)(H H':Hp):Prop where
 keep:∀ b o,H b=some o->b ∉ io->H' b=some o
 fresh:∀ b,b∈ka->H b=none
 frz:∀ b o u,H b=some (.frz o u)->H' b=some (.frz o u)
theorem OR.stands{a:Addr}{o:O}(h:OR K H io a o):∃ u,H a=some u/\∀ xs,u≠.tup xs/\∀ ob,u≠.frz ob (.tup xs):=by
 cases o with
 | lst ds=>obtain⟨xs,e,_⟩:=h;exact⟨_,e,fun _=>⟨by simp,by simp⟩⟩
 | fz ds=>obtain⟨ob,xs,e,_⟩:=h;exact⟨_,e,fun _=>⟨by simp,by simp⟩⟩
 | dk kvs=>obtain⟨xs,e,_⟩:=h;exact⟨_,e,fun _=>⟨by simp,by simp⟩⟩
 | dt kvs=>obtain⟨xs,e,_⟩:=h;exact⟨_,e,fun _=>⟨by simp,by simp⟩⟩
 | fk kvs=>obtain⟨ob,xs,e,_⟩:=h;exact⟨_,e,fun _=>⟨by simp,by simp⟩⟩
 | ft kvs=>obtain⟨ob,xs,e,_⟩:=h;exact⟨_,e,fun _=>⟨by simp,by simp⟩⟩
 | ob C fs=>obtain⟨dx,xs,e,_⟩:=h;exact⟨_,e,fun _=>⟨by simp,by simp⟩⟩
 | sz n=>exact⟨_,h,fun _=>⟨by simp,by simp⟩⟩
theorem StR.mem(S:StR K H io st){a:Addr}(h:a∈io):∃ u,H a=some u/\∀ xs,u≠.tup xs/\∀ ob,u≠.frz ob (.tup xs):=by
 obtain⟨n,hn,e⟩:=C6 h;have h1:io[n]?=some a:=by rw[Aj hn,e]
 have h2:n < st.length:=by rw[<-S.len];exact hn
 exact (S.ob n a _ h1 (Aj h2)).stands
theorem Ext.sqT(S:StR K H io st)(E:Ext io ka H H'):∀ a xs,H a=some (.tup xs)->H' a=some (.tup xs):=by
 intro a xs h;refine E.keep _ _ h fun m=>?_;obtain⟨u,e,q⟩:=S.mem m;rw[h] at e;exact (q xs).1 (Aw e).symm
theorem Ext.kp(S:StR K H io st)(E:Ext io ka H H'):Kp H H':=⟨E.sqT S,E.frz⟩
theorem Ext.refl:Ext io [] H H:=⟨fun _ _ h _=>h,fun _ h=>absurd h (by simp),fun _ _ _ h=>h⟩
theorem Ext.trans(S1:StR K H1 (io++ka) st)(E1:Ext io ka H H1)(E2:Ext (io++ka) kb H1 H2):Ext io (ka++kb) H H2 where
 keep:=fun b o h n=>E2.keep b o (E1.keep b o h n) fun m=>by
   rcases List.mem_append.mp m with m | m
   . exact n m
   . rw[E1.fresh b m] at h;cases h
 fresh:=fun b m=>by
   rcases List.mem_append.mp m with m | m
   . exact E1.fresh b m
   . have h1:=E2.fresh b m
     cases e:H b with
     | none=>rfl
     | some o =>
       by_cases hb:b∈io
       . obtain⟨u,e',_⟩:=S1.mem (Bj _ hb);rw[e'] at h1;cases h1
       . rw[E1.keep b o e hb] at h1;cases h1
 frz:=fun b o u h=>E2.frz b o u (E1.frz b o u h)
theorem Ext.app(E:Ext io (ka++[]) H H'):Ext io ka H H':=by rw[As] at E;exact E
theorem Rep.ext{v:V}{d:D}(S:StR K H io st)(E:Ext io ka H H')(h:Rep K H io v d):Rep K H' (io++ka) v d:=Rep.mono (E.kp S) h
theorem Reps.ext(S:StR K H io st)(E:Ext io ka H H')(h:Reps K H io xs ds):Reps K H' (io++ka) xs ds:=Reps.mono (E.kp S) h
theorem EnvR.ext{σ:St}{ρ:Rho}(h:EnvR K H io σ ρ)(S:StR K H io st)(E:Ext io ka H H'):EnvR K H' (io++ka) σ ρ :=
 ⟨h.len,fun i d e=>let ⟨v,q,r⟩:=h.at_ i d e;⟨v,q,r.ext S E⟩⟩
theorem EnvR.set{σ:St}{ρ:Rho}{v:V}{d:D}(i:Nat)(h:EnvR K H io σ ρ)(r:Rep K H io v d):EnvR K H io (σ.set i (some v)) (ρ.set i (some d)):=by
 refine⟨by rw[Bt,Bt];exact h.len,fun j e q=>?_⟩
 by_cases hij:i=j
 . subst hij;rw[Dv] at q;rw[if_pos rfl] at q
   split at q
   . rename_i hl
     cases (Aw (Aw q))
     exact⟨v,by rw[Dv,if_pos rfl,if_pos (by rw[h.len];exact hl)],r⟩
   . cases q
 . rw[AB hij] at q;obtain⟨u,q',r'⟩:=h.at_ j e q;exact⟨u,by rw[AB hij];exact q',r'⟩
theorem StR.nil(S:StR K H io st):StR K H (io++[]) st:=by rw[As];exact S
theorem KR.mono{κ:Type}{ps:List (κ×V)}{kvs:List (κ×D)}(T:Kp H H')(h:KR κ K H io ps kvs):KR κ K H' (io++ka) ps kvs:=Paired.mapP h fun _ _ z=>⟨z.1,Rep.mono T z.2⟩
theorem OR.mono{a:Addr}{o:O}(T:Kp H H')(e:H' a=H a)(h:OR K H io a o):OR K H' (io++ka) a o:=by
 cases o with
 | lst ds=>obtain⟨xs,q,r⟩:=h;exact⟨xs,e.trans q,Reps.mono T r⟩
 | fz ds=>obtain⟨ob,xs,q,r⟩:=h;exact⟨ob,xs,e.trans q,Reps.mono T r⟩
 | dk kvs=>obtain⟨xs,q,r⟩:=h;exact⟨xs,e.trans q,KR.mono T r⟩
 | dt kvs=>obtain⟨xs,q,r⟩:=h;exact⟨xs,e.trans q,KR.mono T r⟩
 | fk kvs=>obtain⟨ob,xs,q,r⟩:=h;exact⟨ob,xs,e.trans q,KR.mono T r⟩
 | ft kvs=>obtain⟨ob,xs,q,r⟩:=h;exact⟨ob,xs,e.trans q,KR.mono T r⟩
 | ob C fs=>obtain⟨dx,xs,q,r⟩:=h;exact⟨dx,xs,e.trans q,KR.mono T r⟩
 | sz n=>exact e.trans h
theorem zhu{p:Addr}{o:HO}(S:StR K H io st)(hp:H p=none):Ext io [] H (upd H p o)/\StR K (upd H p o) (io++[]) st:=by
 have E:Ext io [] H (upd H p o):=⟨fun b u h _=>by rw[zaP (zao h hp)];exact h,fun _ h=>absurd h (by simp),fun b u v h=>by rw[zaP (zao h hp)];exact h⟩
 refine⟨E,?_⟩;refine⟨by rw[As];exact S.len,by rw[As];exact S.nd,fun n a ob h1 h2=>?_⟩;rw[As] at h1;obtain⟨u,hu,_⟩:=(S.ob n a ob h1 h2).stands;exact OR.mono (E.kp S) (zaP (zao hu hp)) (S.ob n a ob h1 h2)
theorem zmy{p:Addr}{o:HO}{ob:O}(S:StR K H io st)(hp:H p=none)(new:∀ H',Kp H H'->H' p=some o->OR K H' (io++[p]) p ob):Ext io [p] H (upd H p o)/\StR K (upd H p o) (io++[p]) (st++[ob]):=by
 have E:Ext io [p] H (upd H p o):=⟨fun b u h _=>by rw[zaP (zao h hp)];exact h,fun b h=>by rw[List.mem_singleton.mp h];exact hp,fun b u v h=>by rw[zaP (zao h hp)];exact h⟩
 have np:p ∉ io:=fun m=>by
   obtain⟨u,hu,_⟩:=S.mem m;rw[hp] at hu;cases hu
 refine⟨E,by simp[S.len],?_,fun n a ob' h1 h2=>?_⟩
 . rw[E3];refine⟨S.nd,by simp,fun a ha b hb=>?_⟩;rw[List.mem_singleton.mp hb];rintro rfl;exact np ha
 . by_cases hn:n < io.length
   . rw[Ak hn] at h1;rw[Ak (by rw[<-S.len];exact hn)] at h2;obtain⟨u,hu,_⟩:=(S.ob n a ob' h1 h2).stands;exact OR.mono (E.kp S) (zaP (zao hu hp)) (S.ob n a ob' h1 h2)
   . have hl:n < (io++[p]).length:=(List.getElem?_eq_some_iff.mp h1).1;rw[AF,BQ] at hl;have e:n=io.length:=by omega
     subst e;rw[AO (Ah _),CA] at h1;rw[S.len,AO (Ah _),CA] at h2
     cases (Aw h1)
     cases (Aw h2)
     exact new _ (E.kp S) zbY
theorem zgC{p:Addr}{n:Nat}{o:HO}{ob old:O}(S:StR K H io st)(hn:io[n]?=some p)(ho:st[n]?=some old)(nf:∀ o u,H p≠some (.frz o u))(new:∀ H',Kp H H'->H' p=some o->OR K H' (io++[]) p ob):Ext io [] H (upd H p o)/\StR K (upd H p o) (io++[]) (st.set n ob):=by
 have hp:p∈io:=AY hn;have E:Ext io [] H (upd H p o):=⟨fun b u h nb=>by rw[zaP (fun e=>nb (by rw[e];exact hp))];exact h,fun b h=>absurd h (by simp),fun b u v h=>by
   by_cases hb:b=p
   . subst hb;exact absurd h (nf u v)
   . rw[zaP hb];exact h⟩
 refine⟨E,by simp[S.len],by rw[As];exact S.nd,fun m a ob' h1 h2=>?_⟩;rw[As] at h1
 by_cases hm:m=n
 . subst hm;rw[hn] at h1
   cases (Aw h1)
   rw[Dv,if_pos rfl] at h2
   split at h2
   . cases (Aw h2)
     exact new _ (E.kp S) zbY
   . cases h2
 . rw[AB (fun e=>hm e.symm)] at h2;have hap:a≠p:=fun e=>by
     subst e;exact hm ((List.getElem?_inj (List.getElem?_eq_some_iff.mp h1).1 S.nd).mp (h1.trans hn.symm))
   exact OR.mono (E.kp S) (zaP hap) (S.ob m a ob' h1 h2)
end
noncomputable abbrev ME:=Rho->Sto->Option (D×Sto)
noncomputable abbrev MT:=Rho->Sto->Option (Bool×Sto)
noncomputable abbrev MA:=Rho->Sto->Option (List D×Sto)
inductive Fl where
 | nx (ρ:Rho) | rt (d:D) | bk (ρ:Rho) | ct (ρ:Rho)
noncomputable abbrev MS:=Rho->Sto->Option (Fl×Sto)
noncomputable abbrev MG:=D->Rho->Sto->Option (Rho×Sto)
noncomputable abbrev MGs:=List D->Rho->Sto->Option (Rho×Sto)
def Bh(K:Ac)(io:List Addr)(H:Hp)(st':Sto)(d:D)(Q:VK):Prop:=∀ v H' ka,Ext io ka H H'->StR K H' (io++ka) st'->Rep K H' (io++ka) v d->Q v H'
inductive tE (K:Ac) (m:ME) (σ:L2.St) (H:Hp) (Q:VK):Prop
 | mk (ρ:Rho) (st:Sto) (io:List Addr) (d:D) (st':Sto) (h1:EnvR K H io σ ρ) (h2:StR K H io st) (h3:m ρ st=some (d,st')) (h4:Bh K io H st' d Q)
inductive tT (K:Ac) (m:MT) (σ:L2.St) (H:Hp) (Q:Bool->Hp->Prop):Prop
 | mk (ρ:Rho) (st:Sto) (io:List Addr) (b:Bool) (st':Sto) (h1:EnvR K H io σ ρ) (h2:StR K H io st) (h3:m ρ st=some (b,st')) (h4:∀ H' ka,Ext io ka H H'->StR K H' (io++ka) st'->Q b H')
inductive tA (K:Ac) (m:MA) (σ:L2.St) (H:Hp) (Q:List V->Hp->Prop):Prop
 | mk (ρ:Rho) (st:Sto) (io:List Addr) (ds:List D) (st':Sto) (h1:EnvR K H io σ ρ) (h2:StR K H io st) (h3:m ρ st=some (ds,st')) (h4:∀ vs H' ka,Ext io ka H H'->StR K H' (io++ka) st'->Reps K H' (io++ka) vs ds->Q vs H')
noncomputable def tS(K:Ac)(m:MS):TS:=fun N σ H=>∃ ρ st io f st',EnvR K H io σ ρ/\StR K H io st/\m ρ st=some (f,st') /\
 match f with
 | .nx ρ'=>∀ σ' H' ka,Ext io ka H H'->StR K H' (io++ka) st'->EnvR K H' (io++ka) σ' ρ'->N.nx σ' H'
 | .bk ρ'=>∀ σ' H' ka,Ext io ka H H'->StR K H' (io++ka) st'->EnvR K H' (io++ka) σ' ρ'->N.bk σ' H'
 | .ct ρ'=>∀ σ' H' ka,Ext io ka H H'->StR K H' (io++ka) st'->EnvR K H' (io++ka) σ' ρ'->N.ct σ' H'
 | .rt d=>Bh K io H st' d N.rt
inductive tG (K:Ac) (m:MG) (v:V) (σ:L2.St) (H:Hp) (Q:L2.St->Hp->Prop):Prop
 | mk (d:D) (ρ:Rho) (st:Sto) (io:List Addr) (ρ':Rho) (st':Sto) (h0:Rep K H io v d) (h1:EnvR K H io σ ρ) (h2:StR K H io st) (h3:m d ρ st=some (ρ',st')) (h4:∀ σ' H' ka,Ext io ka H H'->StR K H' (io++ka) st'->EnvR K H' (io++ka) σ' ρ'->Q σ' H')
inductive tGs (K:Ac) (m:MGs) (vs:List V) (σ:L2.St) (H:Hp) (Q:L2.St->Hp->Prop):Prop
 | mk (ds:List D) (ρ:Rho) (st:Sto) (io:List Addr) (ρ':Rho) (st':Sto) (h0:Reps K H io vs ds) (h1:EnvR K H io σ ρ) (h2:StR K H io st) (h3:m ds ρ st=some (ρ',st')) (h4:∀ σ' H' ka,Ext io ka H H'->StR K H' (io++ka) st'->EnvR K H' (io++ka) σ' ρ'->Q σ' H')
def SE(X:Cx)(e:Expr)(m:ME):Prop:=PE X e (tE X.K m)
def SB(X:Cx)(e:Expr)(m:MT):Prop:=PT X e (tT X.K m)
def SA(X:Cx)(es:List Expr)(m:MA):Prop:=PA X es (tA X.K m)
def SS(X:Cx)(s:Stmt)(m:MS):Prop:=PS X s (tS X.K m)
def SSs(X:Cx)(s:List Stmt)(m:MS):Prop:=PSs X s (tS X.K m)
def SG(X:Cx)(e:Expr)(m:MG):Prop:=PG X e (tG X.K m)
def SGs(X:Cx)(e:List Expr)(m:MGs):Prop:=PGs X e (tGs X.K m)
section
variable {X:Cx} {e a b c:Expr} {es:List Expr} {st1 st2:Stmt} {rest body orelse:List Stmt} {pos:Pos} {m ma mb mc:ME} {mt mu:MT} {mm:MA} {ms mq mr:MS} {mg:MG} {mgs:MGs}
theorem PE.imp{t u:TE}(h:PE X e t)(k:∀ σ H Q,u σ H Q->t σ H Q):PE X e u:=fun pins s σ H Q I q=>h pins s σ H Q I (k σ H Q q)
theorem PT.imp{t u:TT}(h:PT X e t)(k:∀ σ H Q,u σ H Q->t σ H Q):PT X e u:=fun pins s σ H Q I q=>h pins s σ H Q I (k σ H Q q)
theorem PA.imp{t u:TA}(h:PA X es t)(k:∀ σ H Q,u σ H Q->t σ H Q):PA X es u:=fun p pins s σ H Q I q=>h p pins s σ H Q I (k σ H Q q)
theorem PS.imp{t u:TS}(h:PS X st1 t)(k:∀ N σ H,u N σ H->t N σ H):PS X st1 u:=fun pins s σ H N I q=>h pins s σ H N I (k N σ H q)
theorem PSs.imp{t u:TS}(h:PSs X rest t)(k:∀ N σ H,u N σ H->t N σ H):PSs X rest u:=fun pins s σ H N I q=>h pins s σ H N I (k N σ H q)
theorem PG.imp{t u:TG}(h:PG X e t)(k:∀ v σ H Q,u v σ H Q->t v σ H Q):PG X e u:=fun pins s σ H v w Q I r q=>h pins s σ H v w Q I r (k v σ H Q q)
theorem PGs.imp{t u:TGs}(h:PGs X es t)(k:∀ v σ H Q,u v σ H Q->t v σ H Q):PGs X es u:=fun pins s σ H v w Q I r q=>h pins s σ H v w Q I r (k v σ H Q q)
theorem zad{α β:Type}{x:Option α}{f:α->Option β}{y:β}(h:x.bind f=some y):∃ z,x=some z/\f z=some y:=by
 cases x with
 | none=>cases h
 | some z=>exact⟨z,rfl,h⟩
variable {K:Ac} {H H1 H2:Hp} {io ka kb:List Addr} {st st':Sto}
theorem Bh.now{d:D}{Q:VK}{v:V}(h:Bh K io H st d Q)(S:StR K H io st)(r:Rep K H io v d):Q v H:=h v H [] Ext.refl S.nil (by rw[As];exact r)
theorem Bh.on{d:D}{Q:VK}(h:Bh K io H st' d Q)(S1:StR K H1 (io++ka) st)(E:Ext io ka H H1):Bh K (io++ka) H1 st' d Q:=fun v H' kb E' S' r =>
 h v H' (ka++kb) (E.trans S1 E') (by rw[<-Ap];exact S') (by rw[<-Ap];exact r)
noncomputable def mVar(i:Nat):ME:=fun ρ st=>match ρ[i]? with
 | some (some d)=>some (d,st)
 | _=>none
theorem zab(i:Nat){x:Str}{pos:Pos}(hN:X.N[i]?=some x:=by rfl)(hv:Vis X.env.scope x:=by first | exact An rfl | exact Al (An rfl) | exact Al (Al rfl))(hd:(x==("__debug__":Str))=false:=by decide)
   (hcd:(x==("__classdict__":Str))=false:=by decide):SE X (.Name x pos) (mVar i):=PE.imp (znP hN hv hd hcd) <| by
 rintro σ H Q ⟨ρ,st,io,d,st',E,S,e,k⟩;unfold mVar at e
 split at e
 . rename_i d' he;cases e;obtain⟨v,hv,r⟩:=E.at_ i _ he;exact⟨v,hv,k.now S r⟩
 . cases e
noncomputable def mCon(d:D):ME:=fun _ st=>some (d,st)
theorem zaf{i j pos}:SE X (.Constant (.int i) j pos) (mCon (.int i)):=PE.imp znT <| by
 rintro σ H Q ⟨ρ,st,io,d,st',E,S,e,k⟩
 cases e;exact k.now S rfl
theorem zgP{b j pos}:SE X (.Constant (.bool b) j pos) (mCon (.bl b)):=PE.imp zo4 <| by
 rintro σ H Q ⟨ρ,st,io,d,st',E,S,e,k⟩
 cases e;exact k.now S rfl
theorem zfy{x j pos}:SE X (.Constant (.str x) j pos) (mCon (.str x)):=PE.imp znR <| by
 rintro σ H Q ⟨ρ,st,io,d,st',E,S,e,k⟩
 cases e;exact k.now S rfl
noncomputable abbrev G2:=D->D->Sto->Option (D×Sto)
inductive r2M (K:Ac) (g:G2) (x y:V) (H:Hp) (Q:VK):Prop
 | mk (dx dy:D) (st:Sto) (io:List Addr) (d:D) (st':Sto) (h0:Rep K H io x dx) (h1:Rep K H io y dy) (h2:StR K H io st) (h3:g dx dy st=some (d,st')) (h4:Bh K io H st' d Q)
def OpM(X:Cx)(f:Value->Value->Sem Value)(g:G2):Prop:=OpR X f (r2M X.K g)
noncomputable def mBin(g:G2)(ma mb:ME):ME:=fun ρ st=>(ma ρ st).bind fun (x,s1)=>(mb ρ s1).bind fun (y,s2)=>g x y s2
theorem zdp{g:G2}{σ:L2.St}{H:Hp}{Q:VK}(h:tE K (mBin g ma mb) σ H Q):tOp (r2M K g) (tE K ma) (tE K mb) σ H Q:=by
 obtain⟨ρ,st,io,d,st',E,S,e,k⟩:=h;obtain⟨⟨x,s1⟩,e1,e⟩:=zad e;obtain⟨⟨y,s2⟩,e2,e3⟩:=zad e;refine⟨ρ,st,io,x,s1,E,S,e1,fun v1 H1 k1 X1 S1 R1=>?_⟩;refine⟨ρ,s1,io++k1,y,s2,E.ext S X1,S1,e2,fun v2 H2 k2 X2 S2 R2=>?_⟩;exact⟨x,y,s2,(io++k1)++k2,d,st',R1.ext S1 X2,R2,S2,e3,(k.on S1 X1).on S2 X2⟩
theorem zaB{op:Operator}{g:G2}(ho:OpM X (binaryOp op) g)(ha:SE X a ma)(hb:SE X b mb):SE X (.BinOp a op b pos) (mBin g ma mb):=PE.imp (zo2 ho ha hb) fun _ _ _ h=>zdp h
theorem zeX{op:CmpOp}{g:G2}(ho:OpM X (compareOp op) g)(ha:SE X a ma)(hb:SE X b mb)(hm:behindInMarks op b=false):SE X (.Compare a [op] [b] pos) (mBin g ma mb):=PE.imp (zmi ho ha hb hm) fun _ _ _ h=>zdp h
noncomputable def mTst(m:ME):MT:=fun ρ st=>(m ρ st).bind fun (x,s1)=>match x with
 | .bl b=>some (b,s1)
 | _=>none
theorem zin{ρ:Rho}{b:Bool}(e:mTst m ρ st=some (b,st')):m ρ st=some (.bl b,st'):=by
 obtain⟨⟨x,s1⟩,e1,e⟩:=zad e;dsimp only at e
 split at e
 . cases e;exact e1
 . cases e
theorem zdn{σ:L2.St}{H:Hp}{Q:Bool->Hp->Prop}(h:tT K (mTst m) σ H Q):tE K m σ H fun x H'=>∃ b,x=.bl b/\Q b H':=by
 obtain⟨ρ,st,io,b,st',E,S,e,k⟩:=h;exact⟨ρ,st,io,_,st',E,S,zin e,fun v H' ka X' S' R'=>⟨b,R',k H' ka X' S'⟩⟩
theorem zbh{op:CmpOp}{g:G2}(ho:OpM X (compareOp op) g)(ha:SE X a ma)(hb:SE X b mb)(hm:behindInMarks op b=false):SB X (.Compare a [op] [b] pos) (mTst (mBin g ma mb)) :=
 PT.imp (zl3 ho ha hb hm) fun σ H Q h=>zdp (zdn h)
theorem znv(h:SE X a m)(he:∀ whole,isTrue a X.env whole=(do let v <-whole;standAt a.pos;holding [v] (truthy v)):=by intro _;rfl):SB X a (mTst m) :=
 PT.imp (zkm h he) fun σ H Q h=>by
   obtain⟨ρ,st,io,b,st',E,S,e,k⟩:=zdn h;refine⟨ρ,st,io,b,st',E,S,e,fun v H' ka X' S' R'=>?_⟩;obtain⟨c,hc,q⟩:=k v H' ka X' S' R';subst hc;exact⟨c,rfl,q⟩
noncomputable def zlo(m:MT):MT:=fun ρ st=>(m ρ st).map fun (b,s)=>(!b,s)
theorem zlY(h:SB X a mt):SB X (.UnaryOp .Not a pos) (zlo mt):=PT.imp (znE h) <| by
 rintro σ H Q ⟨ρ,st,io,b,st',E,S,e,k⟩;unfold zlo at e
 cases e1:mt ρ st with
 | none=>rw[e1] at e;cases e
 | some p=>rw[e1] at e;cases e;exact⟨ρ,st,io,_,_,E,S,e1,fun H' ka X' S'=>k H' ka X' S'⟩
noncomputable def zmB(m n:MT):MT:=fun ρ st=>(m ρ st).bind fun (b,s)=>if b=true then n ρ s else some (false,s)
noncomputable def mOrT(m n:MT):MT:=fun ρ st=>(m ρ st).bind fun (b,s)=>if b=true then some (true,s) else n ρ s
def SW(X:Cx)(e:Expr)(m:MT):Prop:=PW X e (tT X.K m)
theorem PW.imp{t u:TT}(h:PW X e t)(k:∀ σ H Q,u σ H Q->t σ H Q):PW X e u:=fun w pins s σ H Q I q=>h w pins s σ H Q I (k σ H Q q)
theorem SW.sb(h:SW X a mt):SB X a mt:=PW.pt h
theorem zjw(ha:SB X a mt):SW X (.BoolOp .And [a] pos) mt:=pw_and1 ha
theorem zg0(ha:SB X a mt):SW X (.BoolOp .Or [a] pos) mt:=pw_or1 ha
theorem zhp{n:MT}{σ:L2.St}{ρ:Rho}{Q:Bool->Hp->Prop}{b:Bool}{s1:Sto}(E:EnvR K H io σ ρ)(S:StR K H io st)(X1:Ext io ka H H1)(S1:StR K H1 (io++ka) s1)(e:n ρ s1=some (b,st'))(k:∀ H' ka,Ext io ka H H'->StR K H' (io++ka) st'->Q b H'):tT K n σ H1 Q :=
 ⟨ρ,s1,io++ka,b,st',E.ext S X1,S1,e,fun H' kb X' S'=>k H' (ka++kb) (X1.trans S1 X') (by rw[<-Ap];exact S')⟩
theorem zlz{rs:List Expr}(ha:SB X a mt)(hb:SW X (.BoolOp .And (b::rs) pos) mu):SW X (.BoolOp .And (a::b::rs) pos) (zmB mt mu):=PW.imp (pw_and ha hb) <| by
 rintro σ H Q ⟨ρ,st,io,v,st',E,S,e,k⟩;obtain⟨⟨x,s1⟩,e1,e⟩:=zad e;refine⟨ρ,st,io,x,s1,E,S,e1,fun H1 k1 X1 S1=>?_⟩
 cases x with
 | true=>rw[if_pos rfl];exact zhp E S X1 S1 e k
 | false =>
   rw[if_neg (by decide)];have e':some (false,s1)=some (v,st'):=e;cases e';exact k H1 k1 X1 S1
theorem zll{rs:List Expr}(ha:SB X a mt)(hb:SW X (.BoolOp .Or (b::rs) pos) mu):SW X (.BoolOp .Or (a::b::rs) pos) (mOrT mt mu):=PW.imp (pw_or ha hb) <| by
 rintro σ H Q ⟨ρ,st,io,v,st',E,S,e,k⟩;obtain⟨⟨x,s1⟩,e1,e⟩:=zad e;refine⟨ρ,st,io,x,s1,E,S,e1,fun H1 k1 X1 S1=>?_⟩
 cases x with
 | false=>rw[if_neg (by decide)];exact zhp E S X1 S1 e k
 | true =>
   rw[if_pos rfl];have e':some (true,s1)=some (v,st'):=e;cases e';exact k H1 k1 X1 S1
noncomputable def zkG(m n:ME):ME:=fun ρ st=>(mTst m ρ st).bind fun (b,s)=>if b=true then n ρ s else some (.bl false,s)
noncomputable def mOrV(m n:ME):ME:=fun ρ st=>(mTst m ρ st).bind fun (b,s)=>if b=true then some (.bl true,s) else n ρ s
theorem ziR{n:ME}{σ:L2.St}{ρ:Rho}{Q:VK}{d:D}{s1:Sto}(E:EnvR K H io σ ρ)(S:StR K H io st)(X1:Ext io ka H H1)(S1:StR K H1 (io++ka) s1)(e:n ρ s1=some (d,st'))(k:Bh K io H st' d Q):tE K n σ H1 Q :=
 ⟨ρ,s1,io++ka,d,st',E.ext S X1,S1,e,k.on S1 X1⟩
theorem zlX(ha:SE X a ma):SE X (.BoolOp .And [a] pos) ma:=zmg ha
theorem zlR(ha:SE X a ma):SE X (.BoolOp .Or [a] pos) ma:=zmg ha
theorem znt{rs:List Expr}(ha:SE X a ma)(hb:SE X (.BoolOp .And (b::rs) pos) mb):SE X (.BoolOp .And (a::b::rs) pos) (zkG ma mb):=PE.imp (znV ha hb) <| by
 rintro σ H Q ⟨ρ,st,io,v,st',E,S,e,k⟩;obtain⟨⟨x,s1⟩,e1,e⟩:=zad e;refine⟨ρ,st,io,.bl x,s1,E,S,zin e1,fun v1 H1 k1 X1 S1 R1=>⟨x,R1,?_⟩⟩
 cases x with
 | true=>rw[if_pos rfl];exact ziR E S X1 S1 e k
 | false =>
   rw[if_neg (by decide)];have e':some (D.bl false,s1)=some (v,st'):=e;cases e';exact k _ H1 k1 X1 S1 rfl
theorem zow{rs:List Expr}(ha:SE X a ma)(hb:SE X (.BoolOp .Or (b::rs) pos) mb):SE X (.BoolOp .Or (a::b::rs) pos) (mOrV ma mb):=PE.imp (zo1 ha hb) <| by
 rintro σ H Q ⟨ρ,st,io,v,st',E,S,e,k⟩;obtain⟨⟨x,s1⟩,e1,e⟩:=zad e;refine⟨ρ,st,io,.bl x,s1,E,S,zin e1,fun v1 H1 k1 X1 S1 R1=>⟨x,R1,?_⟩⟩
 cases x with
 | false=>rw[if_neg (by decide)];exact ziR E S X1 S1 e k
 | true =>
   rw[if_pos rfl];have e':some (D.bl true,s1)=some (v,st'):=e;cases e';exact k _ H1 k1 X1 S1 rfl
noncomputable def mIte(c:MT)(m n:ME):ME:=fun ρ st=>(c ρ st).bind fun (b,s)=>if b=true then m ρ s else n ρ s
theorem zlT(hc:SB X c mt)(ha:SE X a ma)(hb:SE X b mb):SE X (.IfExp c a b pos) (mIte mt ma mb):=PE.imp (zkr hc ha hb) <| by
 rintro σ H Q ⟨ρ,st,io,v,st',E,S,e,k⟩;obtain⟨⟨x,s1⟩,e1,e⟩:=zad e;refine⟨ρ,st,io,x,s1,E,S,e1,fun H1 k1 X1 S1=>?_⟩
 cases x with
 | true=>rw[if_pos rfl];exact ziR E S X1 S1 e k
 | false=>rw[if_neg (by decide)];exact ziR E S X1 S1 e k
end
end L2.MP
set_option linter.unusedVariables false
namespace L2.MP
open PySem PySem.Spec PyProof.Rows
section
variable {X:Cx} {e a b c:Expr} {es:List Expr} {st1 st2:Stmt} {rest body orelse:List Stmt} {pos:Pos} {m ma mb mc:ME} {mt mu:MT} {mm:MA} {ms mq mr:MS} {mg:MG} {mgs:MGs}
variable {K:Ac} {H H1 H2:Hp} {io ka kb:List Addr} {st st':Sto}
noncomputable def mNil:MA:=fun _ st=>some ([],st)
noncomputable def zae(m:ME)(mm:MA):MA:=fun ρ st=>(m ρ st).bind fun (x,s1)=>(mm ρ s1).bind fun (xs,s2)=>some (x::xs,s2)
theorem zag:SA X [] mNil:=PA.imp zmn <| by
 rintro σ H Q ⟨ρ,st,io,ds,st',E,S,e,k⟩
 cases e;exact k [] H [] Ext.refl S.nil Reps.nil
theorem zaa(ha:SE X e m)(hr:SA X es mm)(hs:starEach (e::es) X.env=(false,eval e X.env)::starEach es X.env:=by rfl):SA X (e::es) (zae m mm):=PA.imp (zhf ha hr hs) <| by
 rintro σ H Q ⟨ρ,st,io,ds,st',E,S,e,k⟩;obtain⟨⟨x,s1⟩,e1,e⟩:=zad e;obtain⟨⟨xs,s2⟩,e2,e⟩:=zad e;cases e;refine⟨ρ,st,io,x,s1,E,S,e1,fun v1 H1 k1 X1 S1 R1=>⟨ρ,s1,io++k1,xs,_,E.ext S X1,S1,e2,fun vs H2 k2 X2 S2 R2=>?_⟩⟩;exact k _ H2 (k1++k2) (X1.trans S1 X2) (by rw[<-Ap];exact S2) (by rw[<-Ap];exact Reps.cons (R1.ext S1 X2) R2)
noncomputable def fits(n:Nat):Bool:=decide (n<=sizeLine)
noncomputable def mTup(mm:MA):ME:=fun ρ st=>(mm ρ st).bind fun (xs,s)=>if fits xs.length=true then some (.tup xs,s) else none
noncomputable def mLst(mm:MA):ME:=fun ρ st=>(mm ρ st).bind fun (xs,s)=>if fits xs.length=true then some (.ref s.length,s++[.lst xs]) else none
theorem zal{α:Type}{c:Prop}[Decidable c]{x:Option α}{y:α}(h:(if c then x else none)=some y):c/\x=some y:=by
 by_cases hc:c
 . rw[if_pos hc] at h;exact⟨hc,h⟩
 . rw[if_neg hc] at h;cases h
theorem Bh.tup{ds:List D}{vs:List V}{Q:VK}{p:Addr}(k:Bh K io H st (.tup ds) Q)(S:StR K H io st)(R:Reps K H io vs ds)(hp:H p=none):Q (.ref p) (upd H p (.tup vs)):=by
 obtain⟨E,S'⟩:=zhu (o:=.tup vs) S hp;refine k _ _ [] E S' ⟨p,vs,rfl,zbY,R.ext S E⟩
theorem getElem?_len{α:Type}(l:List α)(x:α):(l++[x])[l.length]?=some x:=by
 rw[AO (Ah _),CA];rfl
theorem Bh.lst{ds:List D}{vs:List V}{Q:VK}{p:Addr}(k:Bh K io H (st++[.lst ds]) (.ref st.length) Q)(S:StR K H io st)(R:Reps K H io vs ds)(hp:H p=none):Q (.ref p) (upd H p (.lst vs)):=by
 obtain⟨E,S'⟩:=zmy (o:=.lst vs) (ob:=.lst ds) S hp fun H' T e=>⟨vs,e,Reps.mono T R⟩
 exact k _ _ [p] E S' ⟨p,rfl,by rw[<-S.len];exact getElem?_len io p⟩
theorem za7{x1}(h:SA X es mm):SE X (.Tuple es x1 pos) (mTup mm):=PE.imp (znQ h) <| by
 rintro σ H Q ⟨ρ,st,io,d,st',E,S,e,k⟩;obtain⟨⟨xs,s1⟩,e1,e⟩:=zad e;obtain⟨hf,e⟩:=zal e;cases e;refine⟨ρ,st,io,xs,_,E,S,e1,fun vs H1 k1 X1 S1 R1=>⟨by rw[R1.length];exact of_decide_eq_true hf,fun p hp=>(k.on S1 X1).tup S1 R1 hp⟩⟩
theorem zcB(h:SA X es mm):SE X (.List es pos) (mLst mm):=PE.imp (znS h) <| by
 rintro σ H Q ⟨ρ,st,io,d,st',E,S,e,k⟩;obtain⟨⟨xs,s1⟩,e1,e⟩:=zad e;obtain⟨hf,e⟩:=zal e;cases e;refine⟨ρ,st,io,xs,_,E,S,e1,fun vs H1 k1 X1 S1 R1=>⟨by rw[R1.length];exact of_decide_eq_true hf,fun p hp=>(k.on S1 X1).lst S1 R1 hp⟩⟩
noncomputable abbrev GN:=List D->Sto->Option (D×Sto)
inductive rNM (K:Ac) (g:GN) (xs:List V) (H:Hp) (Q:VK):Prop
 | mk (ds:List D) (st:Sto) (io:List Addr) (d:D) (st':Sto) (h1:Reps K H io xs ds) (h2:StR K H io st) (h3:g ds st=some (d,st')) (h4:Bh K io H st' d Q)
def zdl(X:Cx)(f:Value)(g:GN):Prop:=zif X f (rNM X.K g)
noncomputable def zap(g:GN)(mm:MA):ME:=fun ρ st=>(mm ρ st).bind fun (xs,s)=>g xs s
theorem zfg{g:GN}{σ:L2.St}{Q:VK}(h:tE K (zap g mm) σ H Q):tCB (rNM K g) (tA K mm) σ H Q:=by
 obtain⟨ρ,st,io,d,st',E,S,e,k⟩:=h;obtain⟨⟨xs,s1⟩,e1,e⟩:=zad e;exact⟨ρ,st,io,xs,s1,E,S,e1,fun vs H1 k1 X1 S1 R1=>⟨xs,s1,io++k1,d,st',R1,S1,e,k.on S1 X1⟩⟩
theorem zaE{x:Str}{p:Pos}{id:String}{g:GN}(hc:zdl X (.builtin id) g)(hg:Gl X x)(hm:X.mg x=none)(hv:bootBuiltins x=some (.builtin id))(ha:SA X (e::es) mm)(hn:x≠"__name__":=by decide)(hdb:(x==("__debug__":Str))=false:=by decide)
   (he:starEach (e::es) X.env=(false,eval e X.env)::starEach es X.env:=by rfl) (hpl:(backTo pos (starEach es X.env)).any (·.1)=false:=by rfl):SE X (.Call (.Name x p) (e::es) [] pos) (zap g mm) :=
 PE.imp (zhe hc hg hm hv ha hn hdb he hpl) fun _ _ _ h=>zfg h
theorem zbR{x:Str}{p:Pos}{T:String}{g:GN}(hc:zdl X (.type T) g)(hg:Gl X x)(hm:X.mg x=none)(hv:bootBuiltins x=some (.type T))(ha:SA X (e::es) mm)(hn:x≠"__name__":=by decide)(hdb:(x==("__debug__":Str))=false:=by decide)
   (he:starEach (e::es) X.env=(false,eval e X.env)::starEach es X.env:=by rfl) (hpl:(backTo pos (starEach es X.env)).any (·.1)=false:=by rfl):SE X (.Call (.Name x p) (e::es) [] pos) (zap g mm) :=
 PE.imp (ziN hc hg hm hv ha hn hdb he hpl) fun _ _ _ h=>zfg h
noncomputable def spM(K:Ac)(n:Nat)(g:GN):Sp:=fun vs H Q _=>∃ ds st io d st',vs.length=n/\Reps K H io vs ds/\StR K H io st/\g ds st=some (d,st')/\Bh K io H st' d Q
theorem zlW{x:Str}{p:Pos}{k:Nat}{f:Addr}{fd:FuncData}{ps:List Str}{n:Nat}{g:GN}(F:FnOk X.prog X.w X.K X.mg X.base CX0 k f fd ps (spM X.K n g))(hr:Room k X.A)(hg:Gl X x)(hm:X.mg x=some (.ref f))(hk:BW X.K (.ref f)=true)(hb:Binds X.K fd ps [])
   (ha:SA X (e::es) mm) (hdb:(x==("__debug__":Str))=false:=by decide) (he:starEach (e::es) X.env=(false,eval e X.env)::starEach es X.env:=by rfl) (hpl:(backTo pos (starEach es X.env)).any (·.1)=false:=by rfl) (hn:(e::es).length=n:=by rfl)
   (hl:∀ ρ st xs s,mm ρ st=some (xs,s)->xs.length=n) :
   SE X (.Call (.Name x p) (e::es) [] pos) (zap g mm):=PE.imp (zmj F hr hg hm hk hb .nil zo5 ha hdb he hpl) <| by
 rintro σ H Q ⟨ρ,st,io,d,st',E,S,e,k⟩;obtain⟨⟨xs,s1⟩,e1,e⟩:=zad e;refine⟨ρ,st,io,xs,s1,E,S,e1,fun vs H1 k1 X1 S1 R1=>⟨xs,s1,io++k1,d,st',?_,?_,S1,e,k.on S1 X1⟩⟩
 . rw[As,R1.length];exact hl _ _ _ _ e1
 . rw[As];exact R1
theorem zkF{ρ:Rho}{st:Sto}{xs:List D}{s:Sto}(h:mNil ρ st=some (xs,s)):xs.length=0:=by cases h;rfl
theorem zi0{ρ:Rho}{st:Sto}{xs:List D}{s:Sto}{n:Nat}(hr:∀ ρ st xs s,mm ρ st=some (xs,s)->xs.length=n)(h:zae m mm ρ st=some (xs,s)):xs.length=n+1:=by
 obtain⟨⟨x,s1⟩,e1,e⟩:=zad h;obtain⟨⟨ys,s2⟩,e2,e⟩:=zad e;cases e;rw[AW,hr _ _ _ _ e2]
noncomputable def Wn(K:Ac)(io:List Addr)(H:Hp)(st':Sto)(N:Ends):Fl->Prop
 | .nx ρ'=>∀ σ' H' ka,Ext io ka H H'->StR K H' (io++ka) st'->EnvR K H' (io++ka) σ' ρ'->N.nx σ' H'
 | .bk ρ'=>∀ σ' H' ka,Ext io ka H H'->StR K H' (io++ka) st'->EnvR K H' (io++ka) σ' ρ'->N.bk σ' H'
 | .ct ρ'=>∀ σ' H' ka,Ext io ka H H'->StR K H' (io++ka) st'->EnvR K H' (io++ka) σ' ρ'->N.ct σ' H'
 | .rt d=>Bh K io H st' d N.rt
inductive tSi (K:Ac) (m:MS) (N:Ends) (σ:L2.St) (H:Hp):Prop
 | mk (ρ:Rho) (st:Sto) (io:List Addr) (f:Fl) (st':Sto) (h1:EnvR K H io σ ρ) (h2:StR K H io st) (h3:m ρ st=some (f,st')) (h4:Wn K io H st' N f)
theorem zcQ{N:Ends}{σ:L2.St}{H:Hp}:tS K ms N σ H ↔ tSi K ms N σ H:=by
 constructor
 . rintro ⟨ρ,st,io,f,st',E,S,e,k⟩;exact⟨ρ,st,io,f,st',E,S,e,by cases f <;> exact k⟩
 . rintro ⟨ρ,st,io,f,st',E,S,e,k⟩;exact⟨ρ,st,io,f,st',E,S,e,by cases f <;> exact k⟩
theorem ze4{P:L2.St->Hp->Prop}{ρ':Rho}(h:∀ σ' H' ka,Ext io ka H H'->StR K H' (io++ka) st'->EnvR K H' (io++ka) σ' ρ'->P σ' H')(X1:Ext io ka H H1)(S1:StR K H1 (io++ka) st) :
   ∀ σ' H' kb,Ext (io++ka) kb H1 H'->StR K H' ((io++ka)++kb) st'->EnvR K H' ((io++ka)++kb) σ' ρ'->P σ' H':=fun σ' H' kb E' S' R' =>
 h σ' H' (ka++kb) (X1.trans S1 E') (by rw[<-Ap];exact S') (by rw[<-Ap];exact R')
theorem Wn.on{N:Ends}{f:Fl}(h:Wn K io H st' N f)(X1:Ext io ka H H1)(S1:StR K H1 (io++ka) st):Wn K (io++ka) H1 st' N f:=by
 cases f with
 | nx ρ'=>exact ze4 h X1 S1
 | bk ρ'=>exact ze4 h X1 S1
 | ct ρ'=>exact ze4 h X1 S1
 | rt d=>exact Bh.on h S1 X1
theorem zj1{N:Ends}{σ:L2.St}{ρ:Rho}{f:Fl}(E:EnvR K H io σ ρ)(S:StR K H io st)(e:ms ρ st=some (f,st'))(w:Wn K io H st' N f):tS K ms N σ H:=zcQ.mpr ⟨ρ,st,io,f,st',E,S,e,w⟩
theorem zne{N:Ends}{σ:L2.St}{ρ:Rho}{f:Fl}{s1:Sto}(X1:Ext io ka H H1)(S1:StR K H1 (io++ka) s1)(E:EnvR K H1 (io++ka) σ ρ)(e:ms ρ s1=some (f,st'))(w:Wn K io H st' N f):tS K ms N σ H1 :=
 zj1 E S1 e (w.on X1 S1)
noncomputable def zcp:MS:=fun ρ st=>some (.nx ρ,st)
theorem zlF:SSs X [] zcp:=PSs.imp zl6 fun N σ H h=>by
 obtain⟨ρ,st,io,f,st',E,S,e,w⟩:=zcQ.mp h;cases e;exact w σ H [] Ext.refl S.nil (by rw[As];exact E)
noncomputable def mSeq(m n:MS):MS:=fun ρ st=>(m ρ st).bind fun (f,s)=>match f with
 | .nx ρ1=>n ρ1 s
 | f=>some (f,s)
theorem zj5(h1:SS X st1 ms)(h2:SSs X rest mq):SSs X (st1::rest) (mSeq ms mq):=PSs.imp (zkn h1 h2) fun N σ H h=>by
 obtain⟨ρ,st,io,f,st',E,S,e,w⟩:=zcQ.mp h;obtain⟨⟨f1,s1⟩,e1,e⟩:=zad e;refine zj1 E S e1 ?_
 cases f1 with
 | nx ρ1=>exact fun σ' H' ka X' S' R'=>zne X' S' R' e w
 | bk ρ1=>cases e;exact w
 | ct ρ1=>cases e;exact w
 | rt d=>cases e;exact w
theorem zlE(h1:SS X st1 ms):SSs X [st1] ms:=zl5 h1
noncomputable def mExp(m:ME):MS:=fun ρ st=>(m ρ st).map fun (_,s)=>(.nx ρ,s)
noncomputable def mRet(m:ME):MS:=fun ρ st=>(m ρ st).map fun (d,s)=>(.rt d,s)
theorem zai{α β:Type}{x:Option α}{f:α->β}{y:β}(h:x.map f=some y):∃ z,x=some z/\f z=y:=by
 cases x with
 | none=>cases h
 | some z=>exact⟨z,rfl,Aw h⟩
theorem zeQ(he:SE X e m)(hs:swapsWith e none pos.line X.env=pure false:=by rfl):SS X (.Expr e pos) (mExp m):=PS.imp (zl7 he hs) fun N σ H h=>by
 obtain⟨ρ,st,io,f,st',E,S,e,w⟩:=zcQ.mp h;obtain⟨⟨d,s1⟩,e1,e⟩:=zai e;cases e;exact⟨ρ,st,io,d,_,E,S,e1,fun v H' ka X' S' R'=>w σ H' ka X' S' (E.ext S X')⟩
theorem zbm(he:SE X e m):SS X (.Return (some e) pos) (mRet m):=PS.imp (znG he) fun N σ H h=>by
 obtain⟨ρ,st,io,f,st',E,S,e,w⟩:=zcQ.mp h;obtain⟨⟨d,s1⟩,e1,e⟩:=zai e;cases e;exact⟨ρ,st,io,d,_,E,S,e1,w⟩
noncomputable def mIf(c:MT)(m n:MS):MS:=fun ρ st=>(c ρ st).bind fun (b,s)=>if b=true then m ρ s else n ρ s
theorem zoS(hc:SB X c mt)(h1:SSs X body ms)(h2:SSs X orelse mq):SS X (.If c body orelse pos) (mIf mt ms mq):=PS.imp (zoZ hc h1 h2) fun N σ H h=>by
 obtain⟨ρ,st,io,f,st',E,S,e,w⟩:=zcQ.mp h;obtain⟨⟨x,s1⟩,e1,e⟩:=zad e;refine⟨ρ,st,io,x,s1,E,S,e1,fun H1 k1 X1 S1=>?_⟩
 cases x with
 | true=>rw[if_pos rfl];exact zne X1 S1 (E.ext S X1) e w
 | false=>rw[if_neg (by decide)];exact zne X1 S1 (E.ext S X1) e w
noncomputable def gNm(i:Nat):MG:=fun d ρ st=>some (ρ.set i (some d),st)
theorem zam{i:Nat}{x:Str}(hN:X.N.Nodup)(hi:X.N[i]?=some x)(hx:Loc X.env.scope x)(hf:X.fn x=true\/X.env.scope.names.lookup x=some .local:=by first | exact .inl rfl | exact .inr rfl | assumption):SG X (.Name x pos) (gNm i) :=
 PG.imp (zmf hN hi hx hf) <| by
   rintro v σ H Q ⟨d,ρ,st,io,ρ',st',R,E,S,e,k⟩;cases e;exact k _ H [] Ext.refl S.nil (by rw[As];exact E.set i R)
noncomputable def gN0:MGs:=fun ds ρ st=>match ds with
 | []=>some (ρ,st)
 | _=>none
noncomputable def gC(g:MG)(h:MGs):MGs:=fun ds ρ st=>match ds with
 | d::r=>(g d ρ st).bind fun (ρ1,s1)=>h r ρ1 s1
 | []=>none
theorem zcc:SGs X [] gN0:=PGs.imp zme <| by
 rintro v σ H Q ⟨ds,ρ,st,io,ρ',st',R,E,S,e,k⟩
 cases ds with
 | nil=>cases e;exact⟨R,k σ H [] Ext.refl S.nil (by rw[As];exact E)⟩
 | cons d r=>cases e
theorem zat(h1:SG X e mg)(h2:SGs X es mgs)(hs:(assignEach (e::es) X.env).map (·.2)=assign e X.env::(assignEach es X.env).map (·.2):=by rfl):SGs X (e::es) (gC mg mgs) :=
 PGs.imp (zkq h1 h2 hs) <| by
   rintro v σ H Q ⟨ds,ρ,st,io,ρ',st',R,E,S,e,k⟩
   cases ds with
   | nil=>cases e
   | cons d r =>
     obtain⟨y,ys,rfl,r1,rs⟩:=R;obtain⟨⟨ρ1,s1⟩,e1,e⟩:=zad e;refine⟨y,ys,rfl,d,ρ,st,io,ρ1,s1,r1,E,S,e1,fun σ1 H1 k1 X1 S1 E1=>?_⟩;exact⟨r,ρ1,s1,io++k1,ρ',st',rs.ext S X1,E1,S1,e,ze4 k X1 S1⟩
noncomputable def gTp(n:Nat)(h:MGs):MG:=fun d ρ st=>match d with
 | .tup ds=>if ds.length=n then h ds ρ st else none
 | _=>none
theorem zc6{k:Nat}{n:Nat}(hc:X.calm=true)(h:SGs X es mgs)(hn:(assignEach es X.env).length=n:=by rfl)(hst:(assignEach es X.env).findIdx? (·.1)=none:=by rfl):SG X (.Tuple es k pos) (gTp n mgs) :=
 PG.imp (znN hc h hn hst) <| by
   rintro v σ H Q ⟨d,ρ,st,io,ρ',st',R,E,S,e,k⟩
   cases d with
   | tup ds =>
     obtain⟨a,xs,rfl,hq,rs⟩:=R;obtain⟨hl,e⟩:=zal e;exact⟨a,xs,rfl,SqT.of hq,by rw[rs.length];exact hl,ds,ρ,st,io,ρ',st',rs,E,S,e,k⟩
   | _=>cases e
noncomputable abbrev G3:=D->D->D->Sto->Option Sto
inductive tSetM (K:Ac) (g:G3) (o i v:V) (H:Hp) (Q:Hp->Prop):Prop
 | mk (d1 d2 d3:D) (st:Sto) (io:List Addr) (st':Sto) (h0:Rep K H io o d1) (h1:Rep K H io i d2) (h2:Rep K H io v d3) (h3:StR K H io st) (h4:g d1 d2 d3 st=some st') (h5:∀ H' ka,Ext io ka H H'->StR K H' (io++ka) st'->Q H')
def SetM(X:Cx)(g:G3):Prop:=PSet X (tSetM X.K g)
noncomputable def gSb(g:G3)(mo mi:ME):MG:=fun d ρ st=>(mo ρ st).bind fun (o,s1)=>(mi ρ s1).bind fun (i,s2)=>(g o i d s2).map fun s3=>(ρ,s3)
theorem znq{o i:Expr}{mo mi:ME}{g:G3}(ho:SE X o mo)(hi:SE X i mi)(hs:SetM X g)
   (ha:∀ v,assign (.Subscript o i pos) X.env v=(do
     let ov <-holding [v] (eval o X.env)
     let iv <-holding [v,ov] (eval i X.env)
     standAt pos
     holding [v,ov,iv] (setItem ov iv v)
     release [v,ov,iv] []):=by intro _;rfl):SG X (.Subscript o i pos) (gSb g mo mi) :=
 PG.imp (znO ho hi hs ha) <| by
   rintro v σ H Q ⟨d,ρ,st,io,ρ',st',R,E,S,e,k⟩;obtain⟨⟨x,s1⟩,e1,e⟩:=zad e;obtain⟨⟨y,s2⟩,e2,e⟩:=zad e;obtain⟨s3,e3,e⟩:=zai e;cases e;refine⟨ρ,st,io,x,s1,E,S,e1,fun v1 H1 k1 X1 S1 R1=>⟨ρ,s1,io++k1,y,s2,E.ext S X1,S1,e2,fun v2 H2 k2 X2 S2 R2=>?_⟩⟩;have X12:=X1.trans S1 X2;refine⟨x,y,d,s2,(io++k1)++k2,_,R1.ext S1 X2,R2,(R.ext S X1).ext S1 X2,S2,e3,fun H3 k3 X3 S3=>?_⟩;rw[Ap] at X3 S2;rw[Ap,Ap] at S3;refine k σ H3 ((k1++k2)++k3) (X12.trans S2 X3) (by simpa using S3) ?_;have E2:EnvR X.K H2 (io++(k1++k2)) σ ρ:=E.ext S X12;have:=E2.ext S2 X3;simpa using this
noncomputable def mAsg(m:ME)(g:MG):MS:=fun ρ st=>(m ρ st).bind fun (d,s1)=>(g d ρ s1).map fun (ρ',s2)=>(.nx ρ',s2)
theorem zjp{N:Ends}{σ:L2.St}{H:Hp}(h:tS K (mAsg m mg) N σ H):tAsg (tE K m) (tG K mg) N σ H:=by
 obtain⟨ρ,st,io,f,st',E,S,e,w⟩:=zcQ.mp h;obtain⟨⟨x,s1⟩,e1,e⟩:=zad e;obtain⟨⟨ρ',s2⟩,e2,e⟩:=zai e;cases e;exact⟨ρ,st,io,x,s1,E,S,e1,fun v1 H1 k1 X1 S1 R1=>⟨x,ρ,s1,io++k1,ρ',_,R1,E.ext S X1,S1,e2,ze4 w X1 S1⟩⟩
theorem zgv{tg:Expr}(he:SE X e m)(hg:SG X tg mg)(hs:swapsWithSole [tg] e pos.line X.env=pure false:=by rfl)(hw:swappedStores [tg] e X.env=pure none:=by rfl)
   (h1:(assignEach [tg] X.env).map (·.2)=[assign tg X.env]:=by rfl):SS X (.Assign [tg] e pos) (mAsg m mg):=PS.imp (znJ he hg hs hw h1) fun _ _ _ h=>zjp h
theorem zbg{i:Nat}{x:Str}{pos':Pos}(hN:X.N.Nodup)(hi:X.N[i]?=some x)(hx:Loc X.env.scope x)(he:SE X e m)(hs:swapsWith e (some (.Name x pos')) pos.line X.env=pure false:=by rfl)(hf:X.fn x=true\/X.env.scope.names.lookup x=some .local:=by first | exact .inl rfl | exact .inr rfl | assumption) :
   SS X (.Assign [.Name x pos'] e pos) (mAsg m (gNm i)):=PS.imp (znF hN hi hx he hs hf) fun N σ H h=>by
 obtain⟨ρ,st,io,f,st',E,S,e,w⟩:=zcQ.mp h;obtain⟨⟨x,s1⟩,e1,e⟩:=zad e;obtain⟨⟨ρ',s2⟩,e2,e⟩:=zai e;cases e;cases e2;exact⟨ρ,st,io,x,_,E,S,e1,fun v1 H1 k1 X1 S1 R1=>w _ H1 k1 X1 S1 ((E.ext S X1).set i R1)⟩
structure Wk where
 ds:List D
 g:List (Nat×List D)
def stays(W:Wk)(st:Sto):Prop:=∀ p,p∈W.g->st[p.1]?=some (.lst p.2)\/st[p.1]?=some (.fz p.2)
structure ItOk(K:Ac)(H0:Hp)(io:List Addr)(W:Wk)(J:It):Prop where
 go:∀ i d H ka st,W.ds[i]?=some d->Ext io ka H0 H->StR K H (io++ka) st->stays W st->J.go i H/\∀ x H',J.yld i H x H'->Ext (io++ka) [] H H'/\StR K H' (io++ka) st/\Rep K H' (io++ka) x d
 stop:∀ H ka st,Ext io ka H0 H->StR K H (io++ka) st->stays W st->J.stop W.ds.length H
 stop':∀ H ka st i,W.ds.length<=i->Ext io ka H0 H->StR K H (io++ka) st->stays W st->J.stop i H
noncomputable abbrev MI:=Rho->Sto->Option (Wk×Sto)
inductive tI (K:Ac) (m:MI) (σ:L2.St) (H:Hp) (R:It->Hp->Prop):Prop
 | mk (ρ:Rho) (st:Sto) (io:List Addr) (W:Wk) (st':Sto) (h1:EnvR K H io σ ρ) (h2:StR K H io st) (h3:m ρ st=some (W,st')) (h4:∀ J H' ka,Ext io ka H H'->StR K H' (io++ka) st'->ItOk K H' (io++ka) W J->R J H')
def SI(X:Cx)(tg iter:Expr)(m:MI):Prop:=PI X tg iter (tI X.K m)
theorem PI.imp{tg iter:Expr}{t u:TI}(h:PI X tg iter t)(k:∀ σ H R,u σ H R->t σ H R):PI X tg iter u:=fun pins s σ H R I q=>h pins s σ H R I (k σ H R q)
end
mutual
noncomputable def D.eqb:D->D->Bool
 | .non,.non=>true
 | .bl a,.bl b=>a==b
 | .int a,.int b=>decide (a=b)
 | .str a,.str b=>decide (a=b)
 | .tup a,.tup b=>D.eqbs a b
 | .ref a,.ref b=>decide (a=b)
 | .kl a,.kl b=>D.eqbs a b
 | _,_=>false
noncomputable def D.eqbs:List D->List D->Bool
 | [],[]=>true
 | a::as,b::bs=>D.eqb a b&&D.eqbs as bs
 | _,_=>false
end
mutual
theorem D.eqb_refl:∀ a:D,D.eqb a a=true
 | .non=>rfl
 | .bl a=>by simp[D.eqb]
 | .int a=>by simp[D.eqb]
 | .str a=>by simp[D.eqb]
 | .tup a=>by rw[D.eqb];exact D.eqbs_refl a
 | .ref a=>by simp[D.eqb]
 | .kl a=>by rw[D.eqb];exact D.eqbs_refl a
theorem D.eqbs_refl:∀ a:List D,D.eqbs a a=true
 | []=>rfl
 | a::as=>by rw[D.eqbs,D.eqb_refl a,D.eqbs_refl as];rfl
end
mutual
theorem D.eq_of:∀ {a b:D},D.eqb a b=true->a=b
 | .non,b,h=>by cases b <;> simp[D.eqb] at h ⊢
 | .bl a,b,h=>by cases b <;> simp[D.eqb] at h ⊢;exact h
 | .int a,b,h=>by cases b <;> simp[D.eqb] at h ⊢;exact h
 | .str a,b,h=>by cases b <;> simp[D.eqb] at h ⊢;exact h
 | .tup a,.tup b,h=>by rw[D.eqb] at h;rw[D.eqs_of h]
 | .tup a,.non,h=>by simp[D.eqb] at h
 | .tup a,.bl _,h=>by simp[D.eqb] at h
 | .tup a,.int _,h=>by simp[D.eqb] at h
 | .tup a,.str _,h=>by simp[D.eqb] at h
 | .tup a,.ref _,h=>by simp[D.eqb] at h
 | .tup a,.kl _,h=>by simp[D.eqb] at h
 | .kl a,.kl b,h=>by rw[D.eqb] at h;rw[D.eqs_of h]
 | .kl a,.non,h=>by simp[D.eqb] at h
 | .kl a,.bl _,h=>by simp[D.eqb] at h
 | .kl a,.int _,h=>by simp[D.eqb] at h
 | .kl a,.str _,h=>by simp[D.eqb] at h
 | .kl a,.ref _,h=>by simp[D.eqb] at h
 | .kl a,.tup _,h=>by simp[D.eqb] at h
 | .ref a,b,h=>by cases b <;> simp[D.eqb] at h ⊢;exact h
theorem D.eqs_of:∀ {a b:List D},D.eqbs a b=true->a=b
 | [],[],_=>rfl
 | [],_::_,h=>by simp[D.eqbs] at h
 | _::_,[],h=>by simp[D.eqbs] at h
 | a::as,b::bs,h=>by
   rw[D.eqbs,AA] at h;rw[D.eq_of h.1,D.eqs_of h.2]
end
noncomputable instance:DecidableEq D:=fun a b=>if h:D.eqb a b=true then .isTrue (D.eq_of h) else .isFalse fun e=>h (by rw[e];exact D.eqb_refl b)
noncomputable def zhK(st:Sto)(n:Nat)(ds:List D):Bool:=match st[n]? with
 | some (.lst xs)=>D.eqbs xs ds
 | some (.fz xs)=>D.eqbs xs ds
 | _=>false
theorem zja{st:Sto}{n:Nat}{ds:List D}(h:zhK st n ds=true):st[n]?=some (.lst ds)\/st[n]?=some (.fz ds):=by
 unfold zhK at h
 split at h
 . rename_i xs e;rw[D.eqs_of h] at e;exact .inl e
 . rename_i xs e;rw[D.eqs_of h] at e;exact .inr e
 . cases h
theorem zhJ{st:Sto}{n:Nat}{ds:List D}(h:st[n]?=some (.lst ds)):zhK st n ds=true:=by unfold zhK;rw[h];exact D.eqbs_refl ds
section
variable {X:Cx} {e a b c:Expr} {es:List Expr} {st1 st2:Stmt} {rest body orelse:List Stmt} {pos:Pos} {m ma mb mc:ME} {mt mu:MT} {mm:MA} {ms mq mr:MS} {mg:MG} {mgs:MGs} {mi:MI}
variable {K:Ac} {H H1 H2:Hp} {io ka kb:List Addr} {st st':Sto}
noncomputable def walked(W:Wk)(st:Sto):Bool:=W.g.all fun p=>zhK st p.1 p.2
theorem zcO{W:Wk}(h:walked W st=true):stays W st:=fun p hp=>zja (List.all_eq_true.mp h p hp)
noncomputable def zeM(W:Wk)(g:MG)(m:MS):List D->Rho->Sto->Option (Fl×Sto)
 | [],ρ,st=>if walked W st=true then some (.nx ρ,st) else none
 | d::ds,ρ,st=>if walked W st=true then (g d ρ st).bind fun (ρ1,s1)=>(m ρ1 s1).bind fun (f,s2)=>match f with
   | .nx ρ2=>zeM W g m ds ρ2 s2
   | .ct ρ2=>zeM W g m ds ρ2 s2
   | .bk ρ2=>some (.nx ρ2,s2)
   | .rt d=>some (.rt d,s2) else none
noncomputable def mFor(mi:MI)(g:MG)(m:MS):MS:=fun ρ st=>(mi ρ st).bind fun (W,s)=>zeM W g m W.ds ρ s
theorem znj{tg iter:Expr}(hp:PassesOwn (model X.prog X.w) X.A X.env X.xe)(hc:X.calm=true)(hi:SI X tg iter mi)(hg:SG X tg mg)(hb:SSs X body ms)
   (hs:∀ x,foldedSetIterable iter X.env x=pure x:=by intro _;rfl):SS X (.For tg iter body [] pos) (mFor mi mg ms):=PS.imp (znI hp hc hi hg hb hs) fun N σ H h=>by
 obtain⟨ρ,st,io,f,st',E,S,e,w⟩:=zcQ.mp h;obtain⟨⟨W,s1⟩,e1,e⟩:=zad e;refine⟨ρ,st,io,W,s1,E,S,e1,fun J H1 k1 X1 S1 IO=>?_⟩;refine⟨fun i n σ2 H2=>n=W.ds.length - i/\∃ ρ2 s2 k2,Ext (io++k1) k2 H1 H2/\StR X.K H2 ((io++k1)++k2) s2/\EnvR X.K H2 ((io++k1)++k2) σ2 ρ2/\zeM W mg ms (W.ds.drop i) ρ2 s2=some (f,st'),
   ⟨_,rfl,ρ,s1,[],Ext.refl,by rw[As];exact S1,by rw[As];exact E.ext S X1,by rw[Da];exact e⟩,?_⟩
 rintro i n σ2 H2 ⟨rfl,ρ2,s2,k2,X2,S2,E2,e2⟩;have w2:Wn X.K ((io++k1)++k2) H2 st' N f:=(w.on X1 S1).on X2 S2
 cases hd:W.ds[i]? with
 | none =>
   have hl:W.ds.length<=i:=List.getElem?_eq_none_iff.mp hd;rw[D9 hl] at e2;obtain⟨hw,e2⟩:=zal e2;cases e2;refine .inl ⟨?_,w2 σ2 H2 [] Ext.refl S2.nil (by rw[As];exact E2)⟩
   -- the end may lie behind
   by_cases hi:i=W.ds.length
   . rw[hi];exact IO.stop H2 k2 _ X2 S2 (zcO hw)
   . exact IO.stop' H2 k2 _ i hl X2 S2 (zcO hw)
 | some d =>
   have hl:i < W.ds.length:=(List.getElem?_eq_some_iff.mp hd).1;have hdr:W.ds.drop i=d::W.ds.drop (i+1):=by
     rw[DA hl,(List.getElem?_eq_some_iff.mp hd).2]
   rw[hdr] at e2;obtain⟨hw,e2⟩:=zal e2;obtain⟨⟨ρ3,s3⟩,e3,e2⟩:=zad e2;obtain⟨⟨f4,s4⟩,e4,e2⟩:=zad e2;obtain⟨go,yl⟩:=IO.go i d H2 k2 s2 hd X2 S2 (zcO hw);refine .inr ⟨go,fun σ5 H5=>∃ ρ5 s5 k5,Ext (io++k1) k5 H1 H5/\StR X.K H5 ((io++k1)++k5) s5/\EnvR X.K H5 ((io++k1)++k5) σ5 ρ5/\zeM W mg ms (W.ds.drop (i+1)) ρ5 s5=some (f,st'),
     fun σ5 H5 h5=>⟨W.ds.length - (i+1),by omega,rfl,h5⟩,fun x H' y=>?_⟩
   obtain⟨X3,S3,R3⟩:=yl x H' y;have X23:Ext (io++k1) k2 H1 H':=(X2.trans S2 X3).app;refine⟨d,ρ2,s2,(io++k1)++k2,ρ3,s3,R3,?_,S3,e3,fun σ6 H6 k6 X6 S6 E6=>?_⟩
   . have:=E2.ext S2 X3;rw[As] at this;exact this
   . refine zj1 E6 S6 e4 ?_;have X26:=X23.trans S3 X6;have S6':StR X.K H6 ((io++k1)++(k2++k6)) s3:=by rw[<-Ap];exact S6
     have fin:∀ {ρ7:Rho},zeM W mg ms (W.ds.drop (i+1)) ρ7 s4=some (f,st')->∀ σ7 H7 k7,Ext ((io++k1)++k2++k6) k7 H6 H7->StR X.K H7 ((io++k1)++k2++k6++k7) s4->EnvR X.K H7 ((io++k1)++k2++k6++k7) σ7 ρ7 ->
         ∃ ρ5 s5 k5,Ext (io++k1) k5 H1 H7/\StR X.K H7 ((io++k1)++k5) s5/\EnvR X.K H7 ((io++k1)++k5) σ7 ρ5/\zeM W mg ms (W.ds.drop (i+1)) ρ5 s5=some (f,st'):=by
       intro ρ7 e7 σ7 H7 k7 X7 S7 E7;rw[Ap (io++k1)] at X7;rw[Ap (io++k1),Ap (io++k1)] at S7 E7;exact⟨ρ7,s4,(k2++k6)++k7,X26.trans S6' X7,S7,E7,e7⟩
     cases f4 with
     | nx ρ7=>exact fin e2
     | ct ρ7=>exact fin e2
     | bk ρ7 =>
       cases e2;exact ((w.on X1 S1).on X23 S3).on X6 S6
     | rt dd =>
       cases e2;exact ((w.on X1 S1).on X23 S3).on X6 S6
end
section
variable {X:Cx} {e a b c:Expr} {es:List Expr} {st1 st2:Stmt} {rest body orelse:List Stmt} {pos:Pos} {m ma mb mc:ME} {mt mu:MT} {mm:MA} {ms mq mr:MS} {mg:MG} {mgs:MGs} {mi:MI}
variable {K:Ac} {H H1 H2:Hp} {io ka kb:List Addr} {st st':Sto}
theorem zhz{ρ:Rho}{x:D}{xs:List D}{s s1 s2:Sto}(h1:m ρ s=some (x,s1))(h2:mm ρ s1=some (xs,s2)):zae m mm ρ s=some (x::xs,s2):=by
 unfold zae;rw[h1];show F9 (mm ρ s1) _=_;rw[h2];rfl
noncomputable def za9(st:Sto)(n:Nat):Option (List D):=match st[n]? with
 | some (.lst ds)=>some ds
 | some (.fz ds)=>some ds
 | _=>none
theorem zaU{n:Nat}{p:Addr}{ds:List D}(S:StR K H io st)(hn:io[n]?=some p)(h:za9 st n=some ds):∃ xs,SqL K H p xs/\Reps K H io xs ds:=by
 unfold za9 at h
 split at h
 . rename_i o he;cases h;obtain⟨xs,e,r⟩:=S.ob n p _ hn he;exact⟨xs,SqL.of e,r⟩
 . rename_i o he;cases h;obtain⟨ob,xs,e,r⟩:=S.ob n p _ hn he;exact⟨xs,.inl (.inr ⟨ob,e⟩),r⟩
 . cases h
theorem zdc{n:Nat}{ds:List D}{W:Wk}(hm:(n,ds)∈W.g)(h:stays W st):za9 st n=some ds:=by
 unfold za9
 rcases h _ hm with h | h
 . have h:st[n]?=some (.lst ds):=h;rw[h]
 . have h:st[n]?=some (.fz ds):=h;rw[h]
noncomputable def mWL(m:ME):MI:=fun ρ st=>(m ρ st).bind fun (d,s)=>match d with
 | .ref n=>(za9 s n).map fun ds=>(⟨ds,[(n,ds)]⟩,s)
 | _=>none
noncomputable def mWT(m:ME):MI:=fun ρ st=>(m ρ st).bind fun (d,s)=>match d with
 | .tup ds=>some (⟨ds,[]⟩,s)
 | _=>none
theorem zbG{io ka:List Addr}{n:Nat}{p:Addr}(h:io[n]?=some p):(io++ka)[n]?=some p:=by
 rw[Ak (List.getElem?_eq_some_iff.mp h).1];exact h
theorem zoe{n:Nat}{p:Addr}{ds:List D}(hn:io[n]?=some p):ItOk K H io ⟨ds,[(n,ds)]⟩ (Itl K p) where
 go:=fun i d H1 k1 s hd X1 S1 hs=>by
   obtain⟨xs,hx,r⟩:=zaU S1 (zbG hn) (zdc Ag hs);obtain⟨v,hv,rv⟩:=r.get hd;refine⟨⟨xs,v,hx,hv⟩,fun x H' y=>?_⟩;obtain⟨rfl,y⟩:=y;have e:=y xs hx;rw[hv] at e;cases e;exact⟨Ext.refl,S1,rv⟩
 stop:=fun H1 k1 s X1 S1 hs=>by
   obtain⟨xs,hx,r⟩:=zaU S1 (zbG hn) (zdc Ag hs);exact⟨xs,hx,by rw[r.length];exact Ah _⟩
 stop':=fun H1 k1 s i hi X1 S1 hs=>by
   obtain⟨xs,hx,r⟩:=zaU S1 (zbG hn) (zdc Ag hs);exact⟨xs,hx,by rw[r.length];exact hi⟩
theorem zlK{tg l:Expr}(hl:SE X l m):SI X tg l (mWL m):=PI.imp (zmd hl) <| by
 rintro σ H R ⟨ρ,st,io,W,st',E,S,e,k⟩;obtain⟨⟨d,s1⟩,e1,e⟩:=zad e;dsimp only at e
 split at e
 . rename_i n;obtain⟨ds,e2,e⟩:=zai e;cases e;refine⟨ρ,st,io,_,_,E,S,e1,fun v H1 k1 X1 S1 R1=>?_⟩;obtain⟨p,rfl,hn⟩:=R1;obtain⟨xs,hx,r⟩:=zaU S1 hn e2;exact⟨p,rfl,⟨xs,hx⟩,k _ H1 k1 X1 S1 (zoe hn)⟩
 . cases e
theorem zoc{st:Sto}{p:Addr}{xs:List V}{ds:List D}(S:StR K H io st)(hp:H p=some (.tup xs))(r:Reps K H io xs ds):ItOk K H io ⟨ds,[]⟩ (Itt K p) where
 go:=fun i d H1 k1 s hd X1 S1 hs=>by
   obtain⟨v,hv,rv⟩:=(r.ext S X1).get hd;have hx:SqT K H1 p xs:=SqT.of (X1.sqT S p xs hp);refine⟨⟨xs,v,hx,hv⟩,fun x H' y=>?_⟩;obtain⟨rfl,y⟩:=y;have e:=y xs hx;rw[hv] at e;cases e;exact⟨Ext.refl,S1,rv⟩
 stop:=fun H1 k1 s X1 S1 hs=>⟨xs,SqT.of (X1.sqT S p xs hp),by rw[r.length];exact Ah _⟩
 stop':=fun H1 k1 s i hi X1 S1 hs=>⟨xs,SqT.of (X1.sqT S p xs hp),by rw[r.length];exact hi⟩
theorem zno{tg l:Expr}(hl:SE X l m):SI X tg l (mWT m):=PI.imp (znL hl) <| by
 rintro σ H R ⟨ρ,st,io,W,st',E,S,e,k⟩;obtain⟨⟨d,s1⟩,e1,e⟩:=zad e;dsimp only at e
 split at e
 . rename_i ds;cases e;refine⟨ρ,st,io,_,_,E,S,e1,fun v H1 k1 X1 S1 R1=>?_⟩;obtain⟨p,xs,rfl,hp,r⟩:=R1;exact⟨p,rfl,⟨xs,SqT.of hp⟩,k _ H1 k1 X1 S1 (zoc S1 hp r)⟩
 . cases e
noncomputable def run(lo:Int)(n:Nat):List D:=(Ar n).map fun (k:Nat)=>D.int (lo+(k:Int))
theorem zcS(lo:Int)(n:Nat):(run lo n).length=n:=by unfold run;rw[Ad,B7]
theorem run_get{lo:Int}{n i:Nat}{d:D}(h:(run lo n)[i]?=some d):i < n/\d=.int (lo+(i:Int)):=by
 have hi:i < n:=by
   have q:=(List.getElem?_eq_some_iff.mp h).1
   rwa [zcS] at q
 unfold run at h;rw[Av,C7 hi] at h;exact⟨hi,(Aw h).symm⟩
theorem zod(lo:Int)(n:Nat):ItOk K H io ⟨run lo n,[]⟩ (Itr lo n) where
 go:=fun i d H1 k1 s hd X1 S1 hs=>by
   obtain⟨hi,rfl⟩:=run_get hd;refine⟨hi,fun x H' y=>?_⟩;obtain⟨rfl,rfl⟩:=y;exact⟨Ext.refl,S1,rfl⟩
 stop:=fun H1 k1 s X1 S1 hs=>by
   show n<=_;rw[zcS];exact Ah _
 stop':=fun H1 k1 s i hi X1 S1 hs=>by
   show n<=i;have hi:(run lo n).length<=i:=hi
   rwa [zcS] at hi
noncomputable def small(j:Int):Bool:=decide (-(2 ^ 62)<=j)&&decide (j < 2 ^ 62)
theorem zfw{j:Int}(h:small j=true):-(2 ^ 62)<=j/\j < 2 ^ 62:=by
 unfold small at h;rw[AA] at h;exact⟨of_decide_eq_true h.1,of_decide_eq_true h.2⟩
noncomputable def mR1(m:ME):MI:=fun ρ st=>(m ρ st).bind fun (d,s)=>match d with
 | .int j=>if small j=true then some (⟨run 0 j.toNat,[]⟩,s) else none
 | _=>none
theorem zbf{tg a:Expr}{p pos:Pos}(hg:Gl X "range")(hm:X.mg "range"=none)(ha:SE X a m)(hs:starEach [a] X.env=[(false,eval a X.env)]:=by rfl):SI X tg (.Call (.Name "range" p) [a] [] pos) (mR1 m) :=
 PI.imp (ziM hg hm (zaa ha zag hs) hs) <| by
   rintro σ H R ⟨ρ,st,io,W,st',E,S,e,k⟩;obtain⟨⟨d,s1⟩,e1,e⟩:=zad e;dsimp only at e
   split at e
   . rename_i j;obtain⟨hj,e⟩:=zal e;cases e;refine⟨ρ,st,io,[.int j],_,E,S,(zhz e1 rfl),fun vs H1 k1 X1 S1 R1=>?_⟩;obtain⟨v,rfl,rfl⟩:=R1.one;exact⟨j,rfl,(zfw hj).1,(zfw hj).2,k _ H1 k1 X1 S1 (zod 0 _)⟩
   . cases e
end
noncomputable def rho(n:Nat)(ds:List D):Rho:=ds.map some++Bl (n - ds.length) none
noncomputable def fnM(n:Nat)(m:MS):GN:=fun ds st=>(m (rho n ds) st).bind fun (f,s)=>match f with
 | .rt d=>some (d,s)
 | .nx _=>some (.non,s)
 | _=>none
theorem zjf{K:Ac}{H:Hp}{io:List Addr}{N:List Str}{vs:List V}{ds:List D}(R:Reps K H io vs ds):EnvR K H io (start N vs) (rho N.length ds):=by
 have hl:=R.length;refine⟨by unfold start rho;simp[hl],fun i d h=>?_⟩;unfold rho at h;unfold start
 by_cases hi:i < ds.length
 . rw[Ak (by simpa using hi),Av] at h
   cases e:ds[i]? with
   | none=>rw[e] at h;cases h
   | some d' =>
     rw[e] at h
     cases (Aw (Aw h))
     obtain⟨v,hv,r⟩:=R.get e;exact⟨v,by rw[Ak (by simpa[hl] using hi),Av,hv];rfl,r⟩
 . rw[AO (by simpa using hi),B1] at h
   split at h <;> cases h
section
variable {P:Program} {w:World} {K:Ac} {mg:Str->Option Value} {base:Heap}
theorem fn_m{x qual:Str}{st:Stmt}{f:Addr}{fd:FuncData}{N ps:List Str}{k:Nat}{m:MS}(F:Fun K x qual st f fd)(S:FnScope N ps (zaz st))
   (hbody:∀ (cdv:Value) (A:Around) (outer:List Env) (s:Shared) (H:Hp) (E:XK),Room k (A.deeper (envOfC qual (zaz st) s.heap.objs.size f cdv)) ->
     SSs (cxOf CX0 P w K mg base N qual (zaz st) f cdv A outer s H E).nox (zcD st) m):FnOk P w K mg base CX0 (k+1) f fd ps (spM K ps.length (fnM N.length m)):=by
 refine F.ok S (fun vs H Q E ⟨_,_,_,_,_,h,_⟩=>h) fun cdv A outer s H vs Q E hr h=>?_;obtain⟨ds,st0,io,d,st',hl,R,SR,e,k'⟩:=h;refine⟨_,hbody cdv A outer s H E hr,?_⟩;obtain⟨⟨fl,s1⟩,e1,e⟩:=zad e;refine zj1 (zjf R) SR e1 ?_
 cases fl with
 | rt dd=>cases e;exact k'
 | nx ρ=>cases e;exact fun σ' H' ka X' S' E'=>k' .non H' ka X' S' rfl
 | bk ρ=>cases e
 | ct ρ=>cases e
end
noncomputable def clOf(cells:List (Str×Addr)):List (Str×NameKind)->List (Str×Addr)->List (Str×Addr)
 | [],acc=>acc
 | (n,k)::r,acc=>if k==.free then clOf cells r ((n,(cells.lookup n).getD 0)::acc) else clOf cells r acc
theorem zdA{env:Env}(f:Str×NameKind->List (Str×Addr)->Sem (ForInStep (List (Str×Addr))))
   (hf:∀ n k acc,f (n,k) acc=if k==.free then (do let c <-cellOf env n;pure (.yield ((n,c)::acc))) else pure (.yield acc)) :
   ∀ (names:List (Str×NameKind)) (acc:List (Str×Addr)),(∀ n,(n,AE)∈names->∃ c,env.cells.lookup n=some c)->(forIn names acc f:Sem (List (Str×Addr)))=pure (clOf env.cells names acc)
 | [],acc,_=>by rw[Ef];rfl
 | (n,k)::r,acc,h=>by
   rw[List.forIn_cons,hf];unfold clOf
   cases hk:k==AE with
   | false =>
     rw[if_neg (by simp),if_neg (by simp)];have:=zdA f hf r acc fun m hm=>h m (Af _ hm);rw[<-this];rfl
   | true =>
     rw[if_pos rfl,if_pos rfl];have hk':k=AE:=by simpa using hk
     obtain⟨c,hc⟩:=h n (by rw[hk'];exact Ag);have:=zdA f hf r ((n,c)::acc) fun m hm=>h m (Af _ hm);rw[hc,DL,<-this];unfold cellOf;rw[hc];rfl
theorem zhX{env:Env}{scope:Scope}(h:∀ n,(n,AE)∈scope.names->∃ c,env.cells.lookup n=some c):closureFor scope env=pure (clOf env.cells scope.names []):=by
 unfold closureFor;have:=zdA (env:=env) (fun x acc=>(match x with | (n,k)=>if k==.free then (do let c <-cellOf env n;pure (.yield ((n,c)::acc))) else pure (.yield acc))) (fun _ _ _=>rfl) scope.names [] h;refine Eq.trans ?_ this;simp only[bind_pure]
theorem zfN{cells:List (Str×Addr)}:∀ {names:List (Str×NameKind)} {acc:List (Str×Addr)} {p:Str×Addr},p∈clOf cells names acc->p∈acc\/((p.1,AE)∈names/\p.2=(cells.lookup p.1).getD 0)
 | [],acc,p,h=>.inl h
 | (n,k)::r,acc,p,h=>by
   unfold clOf at h
   cases hk:k==AE with
   | false =>
     rw[hk,if_neg (by simp)] at h
     rcases zfN h with h | h
     . exact .inl h
     . exact .inr ⟨Af _ h.1,h.2⟩
   | true =>
     rw[hk,if_pos rfl] at h;have hk':k=AE:=by simpa using hk
     rcases zfN h with h | h
     . rcases List.mem_cons.mp h with h | h
       . subst h;exact .inr ⟨by rw[hk'];exact Ag,rfl⟩
       . exact .inl h
     . exact .inr ⟨Af _ h.1,h.2⟩
theorem zeI{cells:List (Str×Addr)}:∀ {names:List (Str×NameKind)} {acc:List (Str×Addr)} {x:Str},((x,AE)∈names\/(acc.lookup x).isSome=true)->((clOf cells names acc).lookup x).isSome=true
 | [],acc,x,h=>by
   rcases h with h | h
   . exact absurd h (by simp)
   . exact h
 | (n,k)::r,acc,x,h=>by
   unfold clOf
   cases hk:k==AE with
   | false =>
     rw[if_neg (by simp)];refine zeI ?_
     rcases h with h | h
     . rcases List.mem_cons.mp h with h | h
       . have:k=AE:=(CL h).2.symm;rw[this] at hk;exact absurd hk (by decide)
       . exact .inl h
     . exact .inr h
   | true =>
     rw[if_pos rfl];refine zeI ?_
     by_cases hx:x=n
     . subst hx;exact .inr (by simp)
     . rcases h with h | h
       . rcases List.mem_cons.mp h with h | h
         . exact absurd (CL h).1 hx
         . exact .inl h
       . refine .inr ?_;rw[Be];have:(x==n)=false:=by simpa using hx
         rw[this];exact h
theorem zex:∀ {names:List (Str×NameKind)} {n:Nat} {acc:List (Str×Addr)} {p:Str×Addr},p∈cellsFrom n names acc->p∈acc\/n<=p.2
 | [],_,_,_,h=>.inl h
 | (x,k)::r,n,acc,p,h=>by
   unfold cellsFrom at h
   split at h
   . rcases zex h with h | h
     . rcases List.mem_cons.mp h with h | h
       . subst h;exact .inr (Ah _)
       . exact .inl h
     . exact .inr (BS h)
   . exact zex h
theorem zde:∀ {names:List (Str×NameKind)} {n:Nat} {acc:List (Str×Addr)},(acc.Pairwise fun x y=>x.2≠y.2)->(∀ p∈acc,p.2 < n)->(cellsFrom n names acc).Pairwise fun x y=>x.2≠y.2
 | [],_,_,h,_=>h
 | (x,k)::r,n,acc,h,hl=>by
   unfold cellsFrom
   split
   . refine zde (List.pairwise_cons.mpr ⟨fun y hy e=>?_,h⟩) fun p hp=>?_
     . have q:=hl y hy;have e':n=y.2:=e;rw[<-e'] at q;exact AR _ q
     . rcases List.mem_cons.mp hp with rfl | hp
       . exact DM _
       . exact CJ (hl p hp)
   . exact zde h hl
theorem zhg:∀ {names:List (Str×NameKind)} {n:Nat} {acc:List (Str×Addr)} {x:Str},((x,AN)∈names\/(acc.lookup x).isSome=true)->((cellsFrom n names acc).lookup x).isSome=true
 | [],n,acc,x,h=>by
   rcases h with h | h
   . exact absurd h (by simp)
   . exact h
 | (m,k)::r,n,acc,x,h=>by
   unfold cellsFrom
   cases hk:k==AN with
   | false =>
     rw[if_neg (by simp)];refine zhg ?_
     rcases h with h | h
     . rcases List.mem_cons.mp h with h | h
       . have:k=AN:=(CL h).2.symm;rw[this] at hk;exact absurd hk (by decide)
       . exact .inl h
     . exact .inr h
   | true =>
     rw[if_pos rfl];refine zhg ?_
     by_cases hx:x=m
     . subst hx;exact .inr (by simp)
     . rcases h with h | h
       . rcases List.mem_cons.mp h with h | h
         . exact absurd (CL h).1 hx
         . exact .inl h
       . refine .inr ?_;rw[Be];have:(x==m)=false:=by simpa using hx
         rw[this];exact h
theorem zew:∀ {names:List (Str×NameKind)} {n:Nat} {acc:List (Str×Addr)} {x:Str},(x,AN) ∉ names->(cellsFrom n names acc).lookup x=acc.lookup x
 | [],_,_,_,_=>rfl
 | (m,k)::r,n,acc,x,h=>by
   unfold cellsFrom
   cases hk:k==AN with
   | false=>rw[if_neg (by simp)];exact zew fun q=>h (Af _ q)
   | true =>
     rw[if_pos rfl,zew fun q=>h (Af _ q),Be];have hk':k=AN:=by simpa using hk
     have:(x==m)=false:=by
       cases e:x==m with
       | false=>rfl
       | true=>exact absurd (by rw[hk',show x=m by simpa using e];exact Ag) h
     rw[this]
theorem zhh:∀ {names:List (Str×NameKind)} {n:Nat} {acc:List (Str×Addr)} {x:Str} {c:Addr},(x,AN)∈names->(cellsFrom n names acc).lookup x=some c->n<=c
 | [],_,_,_,_,h,_=>absurd h (by simp)
 | (m,k)::r,n,acc,x,c,h,e=>by
   unfold cellsFrom at e
   cases hk:k==AN with
   | false =>
     rw[hk,if_neg (by simp)] at e
     rcases List.mem_cons.mp h with h | h
     . have:k=AN:=(CL h).2.symm;rw[this] at hk;exact absurd hk (by decide)
     . exact zhh h e
   | true =>
     rw[hk,if_pos rfl] at e
     by_cases hr:(x,AN)∈r
     . exact BS (zhh hr e)
     . rw[zew hr] at e
       rcases List.mem_cons.mp h with h | h
       . have hx:x=m:=(CL h).1;subst hx;rw[List.lookup_cons_self] at e;exact Nat.le_of_eq (Aw e)
       . exact absurd h hr
theorem zes:∀ {names:List (Str×NameKind)} {h:Heap} {acc:List (Str×Addr)} {p:Str×Addr},p∈cellsFrom h.objs.size names acc->p∈acc\/(pushCells h names).IsCell p.2 none
 | [],_,_,_,h=>.inl h
 | (x,k)::r,h,acc,p,e=>by
   unfold cellsFrom at e;unfold pushCells
   split at e
   . rename_i hk;rw[if_pos hk];have sz:(h.push { cls:=.type "cell",data:=.cell none }).objs.size=h.objs.size+1:=Bx ..;rw[<-sz] at e
     rcases zes e with q | q
     . rcases List.mem_cons.mp q with q | q
       . subst q;exact .inr ⟨_,CV _ _ _ _ (Az _ rfl),rfl⟩
       . exact .inl q
     . exact .inr q
   . rename_i hk;rw[if_neg hk];exact zes e
noncomputable def zcY(X:Cx)(scope:Scope)(N':List Str)(cells:List (Str×Addr))(C:Addr)(s0:Shared)(H0:Hp)(ex:List Addr):Cx :=
 { X with N:=N',s₀:=s0,H₀:=H0,env:=compEnvC scope cells C X.env,outer:=X.stack,ex:=ex,fn:=fun x=>scope.names.any fun p=>p.1==x&&p.2==.cell,pn:=[],xe:=fun _ _=>False }
structure CompS(X:Cx)(scope:Scope)(N':List Str)(nt:Nat)(fr:List Nat):Prop where
 kind:scope.kind=.function
 nd:(scope.names.map (·.1)).Nodup
 len:N'.length=nt+fr.length
 cap:∀ (i j:Nat) (x:Str),fr[i]?=some j->N'[nt+i]?=some x->X.N[j]?=some x/\(x,AE)∈scope.names
 out:∀ x,(x,AE)∈scope.names->X.env.kindOf x=some .cell\/X.env.kindOf x=some .free
theorem lookup_mem:∀ {l:List (Str×NameKind)} {x:Str} {k:NameKind},(l.map (·.1)).Nodup->(x,k)∈l->l.lookup x=some k
 | [],_,_,_,h=>absurd h (by simp)
 | (n,j)::r,x,k,nd,h=>by
   rw[Au,DY] at nd;rw[Be]
   rcases List.mem_cons.mp h with h | h
   . cases h;simp
   . have:x≠n:=fun e=>nd.1 (by rw[<-e];exact List.mem_map.mpr ⟨_,h,rfl⟩);have:(x==n)=false:=by simpa using this
     rw[this];exact lookup_mem nd.2 h
theorem zby{env:Env}:∀ {l:List (Str×NameKind)} {x:Str} {k:NameKind},(l.map fun (n,k)=>if (k==AE&&env.scope.kind==.function&&env.kindOf n==some .cell) then (n,AN) else (n,k)).lookup x=some k ->
   ∃ k',l.lookup x=some k'/\(k'=k\/k'=.free)
 | [],_,_,h=>by simp at h
 | (n,j)::r,x,k,h=>by
   rw[Au] at h;dsimp only at h
   by_cases hc:(j==AE&&env.scope.kind==.function&&env.kindOf n==some .cell)=true
   . rw[if_pos hc,Be] at h;rw[Be]
     cases hx:x==n with
     | true =>
       have:j=.free:=by
         rw[AA,AA] at hc;simpa using hc.1.1
       exact⟨j,rfl,.inr this⟩
     | false=>rw[hx] at h;exact zby h
   . rw[if_neg hc,Be] at h;rw[Be]
     cases hx:x==n with
     | true=>rw[hx] at h;cases h;exact⟨j,rfl,.inl rfl⟩
     | false=>rw[hx] at h;exact zby h
theorem zcH{env:Env}:∀ {l:List (Str×NameKind)} {x:Str},l.lookup x=some .free ->
   (l.map fun (n,k)=>if (k==AE&&env.scope.kind==.function&&env.kindOf n==some .cell) then (n,AN) else (n,k)).lookup x=some .cell \/
   (l.map fun (n,k)=>if (k==AE&&env.scope.kind==.function&&env.kindOf n==some .cell) then (n,AN) else (n,k)).lookup x=some .free
 | [],_,h=>by simp at h
 | (n,j)::r,x,h=>by
   rw[Au];dsimp only;rw[Be] at h
   by_cases hc:(j==AE&&env.scope.kind==.function&&env.kindOf n==some .cell)=true
   . rw[if_pos hc,Be]
     cases hx:x==n with
     | true=>exact .inl rfl
     | false=>rw[hx] at h;exact zcH h
   . rw[if_neg hc,Be]
     cases hx:x==n with
     | true=>rw[hx] at h;cases h;exact .inr rfl
     | false=>rw[hx] at h;exact zcH h
section
variable {X:Cx} {scope:Scope} {N':List Str} {nt:Nat} {fr:List Nat} {pins:List (Addr×Obj)} {σ:L2.St} {H:Hp} {s:Shared}
noncomputable abbrev clX (X:Cx) (scope:Scope):List (Str×Addr):=clOf X.env.cells scope.names []
noncomputable abbrev zcZ (X:Cx) (scope:Scope) (C:Nat):List (Str×Addr):=cellsFrom (C+1) scope.names (clX X scope)
theorem zhY(Z:CompS X scope N' nt fr)(ok:X.Ok){p:Str×Addr}(h:p∈clX X scope):(p.1,AE)∈scope.names/\X.env.cells.lookup p.1=some p.2:=by
 rcases zfN h with h | ⟨h1,h2⟩
 . exact absurd h (by simp)
 . obtain⟨c,hc⟩:=ok.has p.1 (Z.out p.1 h1);rw[hc,DL] at h2;exact⟨h1,by rw[hc,h2]⟩
theorem zjj(Z:CompS X scope N' nt fr)(ok:X.Ok){x:Str}(h:(x,AE)∈scope.names):∃ c,X.env.cells.lookup x=some c/\∀ C,(zcZ X scope C).lookup x=some c:=by
 obtain⟨c,hc⟩:=ok.has x (Z.out x h);refine⟨c,hc,fun C=>?_⟩;have no:(x,AN) ∉ scope.names:=fun q=>by
   have a:=lookup_mem Z.nd h;have b:=lookup_mem Z.nd q;rw[a] at b;cases b
 rw[zew no];have q:=zeI (cells:=X.env.cells) (acc:=[]) (.inl h);obtain⟨c',e⟩:=Option.isSome_iff_exists.mp q;have:=(zhY Z ok (AM e)).2;have this:X.env.cells.lookup x=some c':=this;rw[hc] at this;rw[e,this]
theorem zla(Z:CompS X scope N' nt fr)(ok:X.Ok):(clX X scope).Pairwise fun x y=>x.2≠y.2:=by
 have gen:∀ (names:List (Str×NameKind)) (acc:List (Str×Addr)),(∀ n,(n,AE)∈names->∃ c,X.env.cells.lookup n=some c)->(names.map (·.1)).Nodup->(∀ p∈acc,p.1 ∉ names.map (·.1)/\X.env.cells.lookup p.1=some p.2)->(acc.Pairwise fun x y=>x.2≠y.2) ->
     (clOf X.env.cells names acc).Pairwise fun x y=>x.2≠y.2:=by
   intro names
   induction names with
   | nil=>intro acc _ _ _ h;exact h
   | cons p r ih =>
     intro acc hf nd ha hp;obtain⟨n,k⟩:=p;rw[Au,DY] at nd;unfold clOf
     cases hk:k==AE with
     | false =>
       rw[if_neg (by simp)];exact ih acc (fun m hm=>hf m (Af _ hm)) nd.2 (fun q hq=>⟨fun z=>(ha q hq).1 (by rw[Au];exact Af _ z),(ha q hq).2⟩) hp
     | true =>
       rw[if_pos rfl];have hk':k=AE:=by simpa using hk
       obtain⟨c,hc⟩:=hf n (by rw[hk'];exact Ag);refine ih _ (fun m hm=>hf m (Af _ hm)) nd.2 (fun q hq=>?_) (List.pairwise_cons.mpr ⟨fun y hy e=>?_,hp⟩)
       . rcases List.mem_cons.mp hq with rfl | hq
         . exact⟨nd.1,by rw[hc];rfl⟩
         . exact⟨fun z=>(ha q hq).1 (by rw[Au];exact Af _ z),(ha q hq).2⟩
       . have e1:(X.env.cells.lookup n).getD 0=y.2:=e;rw[hc,DL] at e1;have e2:=(ha y hy).2;rw[<-e1] at e2;have:=ok.inj _ _ _ e2 hc;exact (ha y hy).1 (by rw[this,Au];exact Ag)
 exact gen scope.names [] (fun n hn=>ok.has n (Z.out n hn)) Z.nd (fun p hp=>absurd hp (by simp)) CI
theorem zk8{M:Model}{A:Around}{E:Value->Shared->Prop}{env:Env}{cl:List (Str×Addr)}{Q:Env->Shared->Prop}
   (h:Q { scope:=scope,locals:=s.heap.objs.size,globals:=env.globals,cells:=cellsFrom (s.heap.objs.size+1) scope.names cl,qual:=env.qual,func:=none,code:=env.code,frame:=env.frame,builtins:=env.builtins }
     { s with heap:=pushCells (s.heap.push { cls:=.type "dict",data:=.dict #[] }) scope.names }) :
   wpAny M A (newFunctionEnv scope env.globals cl [] env.qual none .none (some env)) Q E s:=by
 simp only[newFunctionEnv,ER,if_true];refine Aa (wpAny_alloc ?_);refine Aa (wpAny_layCells _ (fun name kind cells=>by cases hkc:kind==AN <;> simp[hkc]) _ _ _ _ ?_);rw[show ({ s with heap:=s.heap.push { cls:=.type "dict",data:=.dict #[] } }:Shared).heap.objs.size=s.heap.objs.size+1 from Bx ..];rw[Ef];exact Aa (Ae (Ae h))
noncomputable def zji(σ:L2.St)(nt:Nat)(fr:List Nat):L2.St:=Bl nt none++fr.map fun (j:Nat)=>(σ[j]?).join
theorem zkU{fp:List Addr}(Z:CompS X scope N' nt fr)(I:Inv X pins σ H s)(hf:∀ b∈fp,FpOk X pins H b)(hlt:∀ b∈fp,b < s.heap.objs.size) :
   Inv (zcY X scope N' (zcZ X scope s.heap.objs.size) s.heap.objs.size s H fp) [] (zji σ nt fr) H { s with heap:=pushCells (s.heap.push { cls:=.type "dict",data:=.dict #[] }) scope.names }:=by
 have ok:=I.ok;have kp:∀ b o,s.heap.get? b=some o->(pushCells (s.heap.push { cls:=.type "dict",data:=.dict #[] }) scope.names).get? b=some o:=fun b o e=>CV _ _ b o (Ai _ e);have clt:∀ p∈clX X scope,p.2 < s.heap.objs.size:=fun p hp=>by
   obtain⟨_,e⟩:=zhY Z ok hp;obtain⟨v,q⟩:=I.cell p.1 p.2 e;exact q.lt
 have sz:(s.heap.push { cls:=.type "dict",data:=.dict #[] }).objs.size=s.heap.objs.size+1:=Bx ..;have cells:∀ x c,(zcZ X scope s.heap.objs.size).lookup x=some c->(X.env.cells.lookup x=some c)\/(s.heap.objs.size+1<=c/\(pushCells (s.heap.push { cls:=.type "dict",data:=.dict #[] }) scope.names).IsCell c none):=fun x c e=>by
   have m:=AM e
   rcases zex m with h | h
   . exact .inl (zhY Z ok h).2
   . refine .inr ⟨h,?_⟩;have m':(x,c)∈cellsFrom (s.heap.push { cls:=.type "dict",data:=.dict #[] }).objs.size scope.names (clX X scope):=by rw[sz];exact m
     rcases zes m' with q | q
     . have l:=clt _ q;exact absurd (AC l (BS h)) (AR _)
     . exact q
 refine⟨⟨ok.mod,Z.kind,ok.glob,ok.blt,Ah _,fun x y c h1 h2=>?_,fun x hx=>?_,fun x c h1 h2=>?_,ok.hd,ok.frames,.inl rfl,fun b hb=>?_,I.bs,AH ok.bsz I.sz,fun b o e hb=>?_,fun b hb=>?_,I.stack,I.stkFree⟩,
   rfl,I.bare,Un.kept kp,⟨fun _=>none,?_,fun i x v h1 h2 h3=>?_⟩,fun x c e=>?_,I.hok.fresh (Ah _),fun x c e=>?_,fun p hp=>absurd hp (by simp[zcY]),I.hok.kept kp,?_⟩
 . exact name_of_addr (zde (zla Z ok) fun p hp=>CJ (clt p hp)) (AM h1) (AM h2)
 . have hx:(relabel scope X.env).names.lookup x=some .cell\/(relabel scope X.env).names.lookup x=some .free:=hx;have q:(x,AN)∈scope.names\/(x,AE)∈scope.names:=by
     rcases hx with hx | hx
     . obtain⟨k',e,z | z⟩:=zby hx
       . subst z;exact .inl (AM e)
       . subst z;exact .inr (AM e)
     . obtain⟨k',e,z | z⟩:=zby hx
       . subst z;exact .inr (AM e)
       . subst z;exact .inr (AM e)
   refine Option.isSome_iff_exists.mp (zhg (n:=s.heap.objs.size+1) (acc:=clX X scope) ?_)
   rcases q with q | q
   . exact .inl q
   . exact .inr (zeI (.inl q))
 . have h1:(scope.names.any fun p=>p.1==x&&p.2==AN)=true:=h1;obtain⟨p,hp,e⟩:=List.any_eq_true.mp h1;rw[AA] at e;have e1:p.1=x:=by simpa using e.1
   have e2:p.2=AN:=by simpa using e.2
   have hm:(x,AN)∈scope.names:=by rw[<-e1,<-e2];exact hp
   exact BS (zhh hm h2)
 . refine⟨AG (hlt b hb),fun x c e z=>?_⟩
   rcases cells x c e with q | ⟨q,_⟩
   . exact (hf b hb).2.2.2.2.1 x c q z
   . have l:=hlt b hb;rw[<-z] at l;exact absurd (AC l (BS q)) (AR _)
 . rcases (hf b hb).2.2.2.1 with z | z
   . exact ok.noex b o e z
   . exact absurd (AC (Am e) (AH ok.bsz z)) (AR _)
 . intro hs
   rcases List.mem_cons.mp (I.stkSub b hs) with e | e
   . exact (hf b hb).2.1 e
   . exact (hf b hb).2.2.1 e
 . exact (Heap.Ns.new s.heap (.type "dict")).keeps (CV _ _)
 . -- a captured name
   have hi:nt<=i:=by
     by_cases hi:i < nt
     . unfold zji at h2;rw[Ak (by simpa using hi),B1,if_pos hi] at h2;cases h2
     . omega
   obtain⟨i',rfl⟩:∃ i',i=nt+i':=⟨i - nt,by omega⟩
   unfold zji at h2;rw[AO (by simp),Bw,Nat.add_sub_cancel_left,Av] at h2
   cases ej:fr[i']? with
   | none=>rw[ej] at h2;cases h2
   | some j =>
     rw[ej] at h2;have h2:(σ[j]?).join=some v:=Aw h2;have h2:σ[j]?=some (some v):=by
       cases q:σ[j]? with
       | none=>rw[q] at h2;cases h2
       | some w=>rw[q] at h2;cases w with
         | none=>cases h2
         | some w=>cases h2;rfl
     obtain⟨hN,hfree⟩:=Z.cap i' j x ej h1;obtain⟨c,hc,hcc⟩:=zjj Z ok hfree;have ho:=Z.out x hfree;obtain⟨m,hn,hl⟩:=I.loc;obtain⟨u,r,l⟩:=hl j x v hN h2 (ho.elim (fun z=>.inr (.inl z)) fun z=>.inr (.inr z));refine⟨u,r,.inr ⟨?_,c,hcc _,?_⟩⟩
     . exact zcH (lookup_mem Z.nd hfree)
     . rcases l with ⟨k,_⟩ | ⟨_,c',e',z⟩
       . rcases ho with q | q
         . rw[k] at q;cases q
         . rw[k] at q;cases q
       . rw[hc] at e';cases e';exact z.keeps kp
 . rcases cells x c e with q | ⟨_,q⟩
   . obtain⟨v,z⟩:=I.cell x c q;exact⟨v,z.keeps kp⟩
   . exact⟨none,q⟩
 . rcases cells x c e with q | ⟨q,_⟩
   . exact I.freeC x c q
   . exact I.hok.fresh (BS q)
 . show _=N'.length;unfold zji;rw[Z.len,AF,Bw,Ad]
end
noncomputable abbrev FF:Value->Shared->Prop:=fun _ _=>False
theorem zgK{prog:Program}{w:World}{A:Around}{R:Result->Shared->Prop}{s:Shared}{elt target iter:Expr}{ifs:List Expr}{scope:Scope}{pos:Pos}{it acc:Value}{env:Env}(I:Nat->Shared->Prop)
   (turn:∀ n s,I n s->wpAny (model prog w) A (pyNext it) (fun r s1=>match r with
     | none=>R (.ok .next) s1
     | some v=>wpAny (model prog w) A (letOwnedTupleGo target it v) (fun _ s1=>wpAny (model prog w) A (assign target env v) (fun _ s2 =>
         wpAny (model prog w) A (forIn ifs true fun c r=>if r=true then do let ok <-isTrue c env (eval c env);pure (CW ok) else pure (CW r)) (fun ok s3 =>
           if ok=true then wpAny (model prog w) A (eval elt env) (fun x s4 =>
             wpAny (model prog w) A (call (.builtin "list.append") [acc,x]) (fun _ s5=>∃ m,m < n/\I m s5) FF s4) FF s3
           else ∃ m,m < n/\I m s3) FF s2) FF s1) FF s1) FF s)
   (n:Nat) (h:I n s) :
   codeAny (model prog w) A (.compLoop (.ListComp elt [⟨target,iter,ifs,0⟩] scope pos) 0 it acc env) R s:=by
 refine codeAny_loop rfl I (fun n s hI=>?_) n h;show wpAny _ A ((compTurn (.ListComp elt [⟨target,iter,ifs,0⟩] scope pos) 0 it acc env).onRaise (fun x=>do noteFrame x env;theTreesLotGoes x)) _ _ s;refine wpAny_noted ?_;rw[compTurn_list];refine Aa (Do (Aa (Bp (turn n s hI) (fun r s₁ h₁=>?_) fun _ _ h'=>False.elim h')))
 cases r with
 | none=>exact Ae h₁
 | some v =>
   refine Aa (Bp h₁ (fun _ s₂ h₂=>?_) fun _ _ h'=>False.elim h');refine Aa (Bp h₂ (fun _ s₂ h₂=>Aa (Bp h₂ (fun ok s₃ h₃=>?_) fun _ _ h'=>False.elim h')) fun _ _ h'=>False.elim h')
   cases ok with
   | false=>exact Ae ⟨rfl,h₃⟩
   | true =>
     exact Aa (Aa (Bp h₃ (fun x s₄ h₄=>Aa (Bp h₄ (fun _ s₅ h₅=>Ae (Ae ⟨rfl,h₅⟩)) fun _ _ h'=>False.elim h')) fun _ _ h'=>False.elim h'))
noncomputable def mCI(W:Wk)(g:MG)(c:MT)(m:ME):List D->Rho->Sto->Option (List D×Sto)
 | [],ρ,st=>if walked W st=true then some ([],st) else none
 | d::ds,ρ,st=>if walked W st=true then (g d ρ st).bind fun (ρ1,s1)=>(c ρ1 s1).bind fun (b,s2) =>
     if b=true then (m ρ1 s2).bind fun (x,s3)=>(mCI W g c m ds ρ1 s3).map fun (xs,s4)=>(x::xs,s4) else mCI W g c m ds ρ1 s2 else none
noncomputable def rho0(ρ:Rho)(nt:Nat)(fr:List Nat):Rho:=Bl nt none++fr.map fun (j:Nat)=>(ρ[j]?).join
noncomputable def zbT(mi:MI)(nt:Nat)(fr:List Nat)(g:MG)(c:MT)(m:ME):ME:=fun ρ st=>(mi ρ st).bind fun (W,s1)=>(mCI W g c m W.ds (rho0 ρ nt fr) s1).bind fun (xs,s2) =>
 if fits xs.length=true then some (.ref s2.length,s2++[.lst xs]) else none
noncomputable def zb1:MT:=fun _ st=>some (true,st)
def SC(X:Cx)(ifs:List Expr)(m:MT):Prop:=∀ (pins:List (Addr×Obj)) (s:Shared) (σ:L2.St) (H:Hp) (Q:Bool->Hp->Prop),Inv X pins σ H s->tT X.K m σ H Q ->
 wpAny (model X.prog X.w) X.A (forIn ifs true fun c r=>if r=true then do let ok <-isTrue c X.env (eval c X.env);pure (CW ok) else pure (CW r)) (TP X pins σ Q) X.xe s
theorem zc8{X:Cx}:SC X [] zb1:=by
 rintro pins s σ H Q I ⟨ρ,st,io,b,st',E,S,e,k⟩;cases e;rw[Ef];exact Ae ⟨H,I,k H [] Ext.refl S.nil⟩
theorem zkg{X:Cx}{c:Expr}{m:MT}(h:SB X c m):SC X [c] m:=fun pins s σ H Q I q=>PySem.wpAny_tests_one (h pins s σ H Q I q)
section
variable {K:Ac} {H H1:Hp} {io ka:List Addr} {st:Sto} {σ:L2.St} {ρ:Rho}
theorem zk3{nt:Nat}{fr:List Nat}(h:EnvR K H io σ ρ):EnvR K H io (zji σ nt fr) (rho0 ρ nt fr):=by
 refine⟨by unfold zji rho0;simp,fun i d e=>?_⟩;unfold rho0 at e;unfold zji
 by_cases hi:i < nt
 . rw[Ak (by simpa using hi),B1,if_pos hi] at e;cases e
 . rw[AO (by simpa using hi),Bw,Av] at e ⊢
   cases ej:fr[i - nt]? with
   | none=>rw[ej] at e;cases e
   | some j =>
     rw[ej] at e;have e:(ρ[j]?).join=some d:=Aw e;have e:ρ[j]?=some (some d):=by
       cases q:ρ[j]? with
       | none=>rw[q] at e;cases e
       | some w=>rw[q] at e;cases w with
         | none=>cases e
         | some w=>cases e;rfl
     obtain⟨v,hv,r⟩:=h.at_ j d e;exact⟨v,by simp[hv],r⟩
theorem adopt{p:Addr}{xs:List V}{ds:List D}(S:StR K H io st)(hp:H p=some (.lst xs))(np:p ∉ io)(R:Reps K H io xs ds):StR K H (io++[p]) (st++[.lst ds]):=by
 refine⟨by simp[S.len],?_,fun n a ob h1 h2=>?_⟩
 . rw[E3];refine⟨S.nd,by simp,fun a ha b hb=>?_⟩;rw[List.mem_singleton.mp hb];rintro rfl;exact np ha
 . by_cases hn:n < io.length
   . rw[Ak hn] at h1;rw[Ak (by rw[<-S.len];exact hn)] at h2;exact OR.mono ⟨fun _ _ h=>h,fun _ _ _ h=>h⟩ rfl (S.ob n a ob h1 h2)
   . have hl:n < (io++[p]).length:=(List.getElem?_eq_some_iff.mp h1).1;rw[AF,BQ] at hl;have e:n=io.length:=by omega
     subst e;rw[AO (Ah _),CA] at h1;rw[S.len,AO (Ah _),CA] at h2
     cases (Aw h1)
     cases (Aw h2)
     exact⟨xs,hp,Reps.mono ⟨fun _ _ h=>h,fun _ _ _ h=>h⟩ R⟩
end
section
variable {X:Cx} {scope:Scope} {N':List Str} {nt:Nat} {fr:List Nat} {elt tg iter:Expr} {ifs:List Expr} {pos:Pos} {mi:MI} {g:MG} {c:MT} {m:ME}
structure CompEnd(X:Cx)(pins:List (Addr×Obj))(σ:L2.St)(H:Hp)(io:List Addr)(d:D)(st':Sto)(Dd C:Addr)(H5:Hp)(s6:Shared):Prop where
 inv:Inv X pins σ H5 s6
 ns:∃ m,s6.heap.Ns C m
 free:H5 C=none
 ne:C≠X.env.locals
 young:X.s₀.heap.objs.size<=C
 cells:∀ x c,X.env.cells.lookup x=some c->c≠C
 pin:∀ p∈X.pn++pins,p.1≠C
 val:∃ ka,Ext io ka H H5/\StR X.K H5 (io++ka) st'/\Rep X.K H5 (io++ka) (.ref Dd) d
inductive CompI (X Y:Cx) (W:Wk) (tn:Nat->Heap->Prop) (fp io:List Addr) (H1:Hp) (Dd:Addr) (g:MG) (c:MT) (m:ME) (t2:Sto) (xs:List D) (n:Nat) (s5:Shared):Prop
 | mk (i:Nat) (σ5:L2.St) (H5:Hp) (ρ5:Rho) (st5:Sto) (k5:List Addr) (ac rs:List D) (h0:n=W.ds.length - i) (h1:Inv Y [] σ5 H5 s5) (h2:tn i s5.heap) (h3:∀ b∈fp,H5 b=none) (h4:Ext io k5 H1 H5) (h5:Dd ∉ k5) (h6:StR X.K H5 (io++k5) st5) (h7:EnvR X.K H5 (io++k5) σ5 ρ5) (h8:∃ vs,H5 Dd=some (.lst vs)/\Reps X.K H5 (io++k5) vs ac) (h9:mCI W g c m (W.ds.drop i) ρ5 st5=some (rs,t2)) (h10:xs=ac++rs)
theorem zhW(hx:X.xe=FF)(hc:X.calm=true)(Z:CompS X scope N' nt fr)(hi:SI X tg iter mi)
   (hg:∀ C s0 H0 fp,SG (zcY X scope N' (zcZ X scope C) C s0 H0 fp) tg g) (ht:∀ C s0 H0 fp,SC (zcY X scope N' (zcZ X scope C) C s0 H0 fp) ifs c) (he:∀ C s0 H0 fp,SE (zcY X scope N' (zcZ X scope C) C s0 H0 fp) elt m)
   (hs:∀ x,foldedSetIterable iter X.env x=pure x) {pins:List (Addr×Obj)} {s:Shared} {σ:L2.St} {H:Hp} {ρ:Rho} {st st':Sto} {io:List Addr} {d:D} {use:Option (Value->Sem Unit)} {Qf:Value->Shared->Prop} {ps:Pos}
   (I:Inv X pins σ H s) (E:EnvR X.K H io σ ρ) (S:StR X.K H io st) (e:zbT mi nt fr g c m ρ st=some (d,st'))
   (kf:∀ Dd C H5 s6,CompEnd X pins σ H io d st' Dd C H5 s6->compPost (model X.prog X.w) X.A X.xe use Qf (.ref Dd) C (.ok .next) s6) :
   wpAny (model X.prog X.w) X.A (comprehension (.ListComp elt [⟨tg,iter,ifs,0⟩] scope pos) scope X.env ps (newList []) false (eval iter X.env) use) Qf X.xe s:=by
 obtain⟨⟨W,t1⟩,e1,e⟩:=zad e;obtain⟨⟨xs,t2⟩,e2,e⟩:=zad e;obtain⟨hfit,e⟩:=zal e;cases e;refine wpAny_comprehension_free (use:=use) rfl hs (zhX fun n hn=>I.ok.has n (Z.out n hn)) Z.kind (fun x hx hl=>by
   obtain⟨n,k⟩:=x
   cases (show k=.local from hl)
   exact lookup_mem Z.nd hx) ?_
 refine thn (hi pins s σ H (fun J H1=>∃ ka,Ext io ka H H1/\StR X.K H1 (io++ka) t1/\ItOk X.K H1 (io++ka) W J) I ⟨ρ,st,io,W,t1,E,S,e1,fun J H' ka X' S' O'=>⟨ka,X',S',O'⟩⟩) fun v sa ha=>?_;refine thn ha ?_;rintro itv s2 ⟨it,fp,tn,J,H1,eit,I1,T,tn0,fpok,k1,X1,S1,IO⟩;subst eit;refine A8 ?_
 -- the new list
 have hD:H1 s2.heap.objs.size=none:=I1.hok.fresh (Ah _);have I3:Inv X pins σ (upd H1 s2.heap.objs.size (.lst [])) { s2 with heap:=s2.heap.push { cls:=.type "list",data:=.seq ([]:List Value).toArray },toks:=s2.toks }:=I1.lnew .nil (AU _);obtain⟨X2,S2a⟩:=zhu (o:=.lst []) S1 hD;rw[As] at S2a;have S2:StR X.K (upd H1 s2.heap.objs.size (.lst [])) (io++k1) t1:=S2a;clear S2a;generalize hH3:upd H1 s2.heap.objs.size (.lst [])=H3 at I3 X2 S2;have H3D:H3 s2.heap.objs.size=some (.lst []):=by rw[<-hH3];exact zbY
 generalize hD':s2.heap.objs.size=Dd at hD I3 X2 S2 hH3 H3D ⊢;generalize hs3:({ s2 with heap:=s2.heap.push { cls:=.type "list",data:=.seq ([]:List Value).toArray },toks:=s2.toks }:Shared)=s3 at I3;have fplt:∀ b∈fp,b < s3.heap.objs.size:=fun b hb=>by
   obtain⟨o,ho,_⟩:=T.obj 0 _ tn0 b hb;rw[<-hs3];exact AC (Am ho) (by show _<=(s2.heap.push _).objs.size;rw[Bx];exact Bz _)
 have fpD:∀ b∈fp,b≠Dd:=fun b hb z=>by
   obtain⟨o,ho,_⟩:=T.obj 0 _ tn0 b hb;have:=Am ho;rw[z,<-hD'] at this;exact AR _ this
 have fp3:∀ b∈fp,FpOk X pins H3 b:=fun b hb=>⟨by rw[<-hH3,zaP (fpD b hb)];exact (fpok b hb).1,(fpok b hb).2⟩
 have tn3:tn 0 s3.heap:=T.keep 0 _ _ tn0 fun b _ o ho=>by rw[<-hs3];exact Ai _ ho
 refine zk8 ?_;have I4:=zkU (fp:=fp) Z I3 fp3 fplt;have tn4:tn 0 (pushCells (s3.heap.push { cls:=.type "dict",data:=.dict #[] }) scope.names):=T.keep 0 _ _ tn3 fun b _ o ho=>CV _ _ _ _ (Ai _ ho);generalize hs4:({ s3 with heap:=pushCells (s3.heap.push { cls:=.type "dict",data:=.dict #[] }) scope.names }:Shared)=s4 at I4;have tn4:tn 0 s4.heap:=by rw[<-hs4];exact tn4
 show codeAny (model X.prog X.w) X.A (.compStart (.ListComp elt [⟨tg,iter,ifs,0⟩] scope pos) 0 (.ref it) (.ref Dd) (zcY X scope N' (zcZ X scope s3.heap.objs.size) s3.heap.objs.size s3 H3 fp).env) _ _;generalize hY:zcY X scope N' (zcZ X scope s3.heap.objs.size) s3.heap.objs.size s3 H3 fp=Y at I4;have yP:Y.prog=X.prog:=by rw[<-hY];rfl
 have yW:Y.w=X.w:=by rw[<-hY];rfl
 have yK:Y.K=X.K:=by rw[<-hY];rfl
 have yC:Y.calm=true:=by rw[<-hY];exact hc
 have yA:Y.A=X.A:=by rw[<-hY];rfl
 have yx:Y.xe=FF:=by rw[<-hY];rfl
 have hg:=hg s3.heap.objs.size s3 H3 fp;have ht:=ht s3.heap.objs.size s3 H3 fp;have he:=he s3.heap.objs.size s3 H3 fp;rw[hY] at hg ht he;have yex:Y.ex=fp:=by rw[<-hY];rfl
 have yfs:∀ b∈fp,b ∉ Y.fs:=fun b hb hs=>by
   rw[<-hY] at hs;have hs:b∈frs X.stack:=hs
   rcases List.mem_cons.mp (I3.stkSub b hs) with z | z
   . exact (fp3 b hb).2.1 z
   . exact (fp3 b hb).2.2.1 z
 have yL:Y.env.locals=s3.heap.objs.size:=by rw[<-hY];rfl
 -- the loop
 have hio:Dd ∉ io++k1:=fun hm=>by
   obtain⟨u,hu,_⟩:=S1.mem hm;rw[hD] at hu;cases hu
 have start:∀ {H':Hp} {sx:Shared} {σ':L2.St},Inv Y [] σ' H' sx->(∀ b∈fp,H' b=none)->∀ b∈fp,FpOk Y [] H' b:=fun {H' sx σ'} I' hn b hb=>by
   refine⟨hn b hb,fun z=>?_,yfs b hb,.inl (by rw[yex];exact hb),fun x cc e z=>?_,fun p hp=>absurd hp (by rw[<-hY];simp[zcY])⟩
   . rw[yL] at z;exact absurd (fplt b hb) (by rw[z];exact AR _)
   . exact (I'.ok.exf b (by rw[yex];exact hb)).2 x cc e z
 have loop:∀ sx:Shared,Inv Y [] (zji σ nt fr) H3 sx->tn 0 sx.heap->codeAny (model X.prog X.w) X.A (.compLoop (.ListComp elt [⟨tg,iter,ifs,0⟩] scope pos) 0 (.ref it) (.ref Dd) Y.env) (compPost (model X.prog X.w) X.A X.xe use Qf (.ref Dd) s3.heap.objs.size) sx:=by
   intro sx Ix tnx;refine zgK (CompI X Y W tn fp (io++k1) H1 Dd g c m t2 xs) ?_ (W.ds.length - 0)
     ⟨0,zji σ nt fr,H3,rho0 ρ nt fr,t1,[],[],xs,rfl,Ix,tnx,fun b hb=>(fp3 b hb).1,X2,by simp,S2.nil,by rw[As];exact zk3 (by have:=(E.ext S X1).ext S1 X2;rw[As] at this;exact this),⟨[],H3D,rfl⟩,by rw[Da];exact e2,rfl⟩
   rintro n s5 ⟨i,σ5,H5,ρ5,st5,k5,ac,rs,rfl,I5,tn5,fr5,X25,nk5,S5,E5,⟨vs,hvs,Rvs⟩,e5,exs⟩;have nD:∀ {kk:List Addr},Dd ∉ kk->Dd ∉ (io++k1)++kk:=fun {kk} hk hm=>(List.mem_append.mp hm).elim hio hk;have nF:∀ {kk jj:List Addr} {Ha Hb:Hp} {vv:List V},Ext jj kk Ha Hb->Ha Dd=some (.lst vv)->Dd ∉ kk:=fun {kk jj Ha Hb vv} Xx hv hm=>by
     have q:=Xx.fresh Dd hm;rw[hv] at q;cases q
   cases hd:W.ds[i]? with
   | none =>
     have hl:W.ds.length<=i:=List.getElem?_eq_none_iff.mp hd;rw[D9 hl] at e5;obtain⟨hw,e5⟩:=zal e5;cases e5;have:=T.done Y yP yW yK yC i [] s5 σ5 H5 FF I5 (start I5 fr5) tn5 (IO.stop' H5 k5 _ i hl X25 S5 (zcO hw));rw[yA] at this;refine thn this ?_;rintro r s6 ⟨hr,I6⟩;subst hr;obtain⟨mm,hn,_⟩:=id I6.loc;rw[yL] at hn
     -- back in the frame
     have base:Un (frs X.stack) fp H3 H5 s3.heap s6.heap:=by
       have b:=I6.base;rw[<-hY] at b;exact b
     have os:s6.os=s3.os:=by
       have b:=I6.os;rw[<-hY] at b;exact b
     have free:H5 s3.heap.objs.size=none:=by
       have b:=I6.free;rw[yL] at b;exact b
     have hok:HOk X.prog X.w H5 s6.heap:=by
       have b:=I6.hok;rw[yP,yW] at b;exact b
     have I7:Inv X pins σ H5 s6:=Inv.call' (s':=s6) (ch:=fp) I3 os base hok I6.bare fun b hb=>⟨(fp3 b hb).2.2.2.1,(fp3 b hb).2.1,(fp3 b hb).2.2.2.2.1,(fp3 b hb).2.2.2.2.2⟩
     have np:Dd ∉ (io++k1)++k5:=nD nk5;rw[As] at exs;subst exs;have SA:=adopt S5 hvs np Rvs;have X6:Ext io (k1++k5) H H5:=X1.trans S1 X25;have lt3:X.env.locals < s3.heap.objs.size:=I3.lt;refine kf Dd s3.heap.objs.size H5 s6 ⟨I7,⟨mm,hn⟩,free,EO lt3,I3.sz,fun x cc e z=>?_,fun p hp z=>?_,?_⟩
     . obtain⟨vv,q⟩:=I3.cell x cc e;have:=q.lt;rw[z] at this;exact AR _ this
     . have:=Am (I3.pin p hp).1;rw[z] at this;exact AR _ this
     refine⟨(k1++k5)++[Dd],⟨fun b o hb nb=>X6.keep b o hb nb,fun b hb=>?_,X6.frz⟩,(by simpa using SA),⟨Dd,rfl,?_⟩⟩
     . rcases List.mem_append.mp hb with hb | hb
       . exact X6.fresh b hb
       . rw[List.mem_singleton.mp hb]
         cases q:H Dd with
         | none=>rfl
         | some o =>
           by_cases hb:Dd∈io
           . exact absurd (Bj _ hb) hio
           . have:=X1.keep Dd o q hb;rw[hD] at this;cases this
     . have:=getElem?_len ((io++k1)++k5) Dd;rw[<-S5.len];simpa using this
   | some dd =>
     have hl:i < W.ds.length:=(List.getElem?_eq_some_iff.mp hd).1;have hdr:W.ds.drop i=dd::W.ds.drop (i+1):=by
       rw[DA hl,(List.getElem?_eq_some_iff.mp hd).2]
     rw[hdr] at e5;obtain⟨hw,e5⟩:=zal e5;obtain⟨⟨ρ6,t6⟩,e6,e5⟩:=zad e5;obtain⟨⟨b7,t7⟩,e7,e5⟩:=zad e5;obtain⟨go,yl⟩:=IO.go i dd H5 k5 st5 hd X25 S5 (zcO hw);have hit:=T.item Y yP yW yK yC i [] s5 σ5 H5 FF I5 (start I5 fr5) tn5 go;rw[yA] at hit;refine thn hit ?_;rintro r s6 ⟨u,hr,h6⟩;subst hr;refine thn h6 ?_;rintro _ s7 ⟨x,H7,I7,r7,y7,tn7,fr7⟩;obtain⟨X7,S7,R7⟩:=yl x H7 y7;have X57:Ext (io++k1) k5 H1 H7:=(X25.trans S5 X7).app;have hv7:H7 Dd=some (.lst vs):=X7.keep _ _ hvs (nD nk5);have E7:EnvR X.K H7 ((io++k1)++k5) σ5 ρ5:=by
       have:=E5.ext S5 X7;rw[As] at this;exact this
     have R7v:Reps X.K H7 ((io++k1)++k5) vs ac:=by
       have:=Rvs.ext S5 X7;rw[As] at this;exact this
     have I7p:=I7.pinned (start I7 fr7) (T.obj _ _ tn7);rw[<-yA,<-yP,<-yW];rw[<-yx];refine thn (hg _ s7 σ5 H7 x u (fun σ8 H8=>∃ k8,Ext ((io++k1)++k5) k8 H7 H8/\StR X.K H8 (((io++k1)++k5)++k8) t6/\EnvR X.K H8 (((io++k1)++k5)++k8) σ8 ρ6) I7p r7 (by rw[yK];exact⟨dd,ρ5,st5,(io++k1)++k5,ρ6,t6,R7,E7,S7,e6,fun σ8 H8 k8 X8 S8 E8=>⟨k8,X8,S8,E8⟩⟩)) ?_;rintro _ s8 ⟨σ8,H8,I8,k8,X8,S8,E8⟩;have S8':StR X.K H8 ((io++k1)++(k5++k8)) t6:=by rw[<-Ap];exact S8
     have E8':EnvR X.K H8 ((io++k1)++(k5++k8)) σ8 ρ6:=by rw[<-Ap];exact E8
     have X38:Ext (io++k1) (k5++k8) H1 H8:=X57.trans S7 X8;have nk8:Dd ∉ k5++k8:=fun hm=>(List.mem_append.mp hm).elim nk5 (nF X8 hv7);refine thn (ht _ s8 σ8 H8 (fun b H9=>b=b7/\∃ k9,Ext ((io++k1)++(k5++k8)) k9 H8 H9/\StR X.K H9 (((io++k1)++(k5++k8))++k9) t7) I8 (by rw[yK];exact⟨ρ6,t6,(io++k1)++(k5++k8),b7,t7,E8',S8',e7,fun H9 k9 X9 S9=>⟨rfl,k9,X9,S9⟩⟩)) ?_;rintro ok s9 ⟨H9,I9,eb,k9,X9,S9⟩;subst eb;have X39:Ext (io++k1) ((k5++k8)++k9) H1 H9:=X38.trans S8' X9;have S9':StR X.K H9 ((io++k1)++((k5++k8)++k9)) t7:=by rw[<-Ap];exact S9
     have E9:EnvR X.K H9 ((io++k1)++((k5++k8)++k9)) σ8 ρ6:=by
       have:=E8'.ext S8' X9;rw[Ap] at this;exact this
     have hv8:H8 Dd=some (.lst vs):=X8.keep _ _ hv7 (nD nk5);have hv9:H9 Dd=some (.lst vs):=X9.keep _ _ hv8 (nD nk8);have nk9:Dd ∉ (k5++k8)++k9:=fun hm=>(List.mem_append.mp hm).elim nk8 (nF X9 hv8);have R8v:Reps X.K H8 ((io++k1)++(k5++k8)) vs ac:=by
       have:=R7v.ext S7 X8;rw[Ap] at this;exact this
     have R9v:Reps X.K H9 ((io++k1)++((k5++k8)++k9)) vs ac:=by
       have:=R8v.ext S8' X9;rw[Ap] at this;exact this
     have back:∀ {Hx:Hp} {sx:Shared} {σx:L2.St},Inv Y ([]++zhc fp s7.heap) σx Hx sx->Inv Y [] σx Hx sx/\tn (i+1) sx.heap/\∀ b∈fp,Hx b=none:=fun {Hx sx σx} Ix=>by
       refine⟨Ix.unpinned,T.keep _ _ _ tn7 fun b hb o e=>(Ix.pin (b,o) (AI _ (AI _ (zcV hb e)))).1,fun b hb=>?_⟩;obtain⟨o,e,dn⟩:=T.obj _ _ tn7 b hb;exact (Ix.pin (b,o) (AI _ (AI _ (zcV hb e)))).2.1
     cases ok with
     | false =>
       rw[if_neg (by decide)];have e5:mCI W g c m (W.ds.drop (i+1)) ρ6 t7=some (rs,t2):=e5;obtain⟨Ib,tnb,frb⟩:=back I9;exact⟨W.ds.length - (i+1),by omega,i+1,σ8,H9,ρ6,t7,(k5++k8)++k9,ac,rs,rfl,Ib,tnb,frb,X39,nk9,S9',E9,⟨vs,hv9,R9v⟩,e5,exs⟩
     | true =>
       rw[if_pos rfl];have e5:((m ρ6 t7).bind fun (x,s3)=>(mCI W g c m (W.ds.drop (i+1)) ρ6 s3).map fun (xs,s4)=>(x::xs,s4))=some (rs,t2):=e5;obtain⟨⟨x10,t10⟩,e10,e5⟩:=zad e5;obtain⟨⟨rs',t11⟩,e11,e5⟩:=zai e5;cases e5;refine thn (he _ s9 σ8 H9 (fun v H10=>∃ k10,Ext ((io++k1)++((k5++k8)++k9)) k10 H9 H10/\StR X.K H10 (((io++k1)++((k5++k8)++k9))++k10) t10/\Rep X.K H10 (((io++k1)++((k5++k8)++k9))++k10) v x10) I9
         (by rw[yK];exact⟨ρ6,t7,(io++k1)++((k5++k8)++k9),x10,t10,E9,S9',e10,fun v H10 k10 X10 S10 R10=>⟨k10,X10,S10,R10⟩⟩)) fun u10 s10 ⟨v10,H10,I10,r10,k10,X10,S10,R10⟩=>?_
       have X310:Ext (io++k1) (((k5++k8)++k9)++k10) H1 H10:=X39.trans S9' X10;have nk10:Dd ∉ ((k5++k8)++k9)++k10:=fun hm=>(List.mem_append.mp hm).elim nk9 (nF X10 hv9);have S10':StR X.K H10 ((io++k1)++(((k5++k8)++k9)++k10)) t10:=by rw[<-Ap];exact S10
       have hv10:H10 Dd=some (.lst vs):=X10.keep _ _ hv9 (nD nk9);have E10:EnvR X.K H10 ((io++k1)++(((k5++k8)++k9)++k10)) σ8 ρ6:=by
         have:=E9.ext S9' X10;rw[Ap] at this;exact this
       have R10v:Reps X.K H10 ((io++k1)++(((k5++k8)++k9)++k10)) (vs++[v10]) (ac++[x10]):=by
         have a:=R9v.ext S9' X10;rw[Ap] at a;rw[Ap] at R10;exact a.append (Reps.cons R10 Reps.nil)
       have hlen:vs.length < sizeLine:=by
         rw[R9v.length];have:=of_decide_eq_true hfit;rw[exs] at this;simp at this;omega
       refine thn (zgc _ s10 σ8 H10 (.ref Dd) [v10] (.ref Dd) [u10] (fun _ H11=>H11=upd H10 Dd (.lst (vs++[v10]))) I10 rfl (.cons r10 .nil) ⟨Dd,vs,v10,rfl,rfl,hv10,hlen,rfl⟩) ?_;rintro _ s11 ⟨_,H11,I11,_,e11'⟩;subst e11';have nD10:=nD nk10
       -- the new list is written: nothing of the store
       have XU:∀ b o,H10 b=some o->b≠Dd->upd H10 Dd (.lst (vs++[v10])) b=some o:=fun b o hb hn=>by rw[zaP hn];exact hb
       have TU:Kp H10 (upd H10 Dd (.lst (vs++[v10]))):=⟨fun a ys hb=>XU a _ hb (zn3 hb hv10 (by simp)),fun a o u hb=>XU a _ hb (zn3 hb hv10 (by simp))⟩
       have S11:StR X.K (upd H10 Dd (.lst (vs++[v10]))) ((io++k1)++(((k5++k8)++k9)++k10)) t10:=by
         refine⟨S10'.len,S10'.nd,fun n a ob h1 h2=>?_⟩;have hne:a≠Dd:=fun z=>nD10 (by rw[<-z];exact AY h1);have:=OR.mono (ka:=[]) TU (zaP hne) (S10'.ob n a ob h1 h2);rw[As] at this;exact this
       have mono0:∀ {v:V} {d:D},Rep X.K H10 ((io++k1)++(((k5++k8)++k9)++k10)) v d->Rep X.K (upd H10 Dd (.lst (vs++[v10]))) ((io++k1)++(((k5++k8)++k9)++k10)) v d:=fun {v d} h=>by
         have:=Rep.mono (ka:=[]) TU h;rw[As] at this;exact this
       have mono1:∀ {v:List V} {d:List D},Reps X.K H10 ((io++k1)++(((k5++k8)++k9)++k10)) v d->Reps X.K (upd H10 Dd (.lst (vs++[v10]))) ((io++k1)++(((k5++k8)++k9)++k10)) v d:=fun {v d} h=>by
         have:=Reps.mono (ka:=[]) TU h;rw[As] at this;exact this
       obtain⟨Ib,tnb,frb⟩:=back I11;refine⟨W.ds.length - (i+1),by omega,i+1,σ8,upd H10 Dd (.lst (vs++[v10])),ρ6,t10,((k5++k8)++k9)++k10,ac++[x10],rs',rfl,Ib,tnb,frb,⟨fun b o hb nb=>XU b o (X310.keep b o hb nb) (fun z=>by rw[z,hD] at hb;cases hb),X310.fresh,fun b o u hb=>XU b _ (X310.frz b o u hb) (fun z=>by rw[z,hD] at hb;cases hb)⟩,nk10,S11,⟨E10.len,fun j dj hj=>?_⟩,⟨_,zbY,mono1 R10v⟩,e11,by rw[exs,Ap];rfl⟩;obtain⟨v,q,r⟩:=E10.at_ j dj hj;exact⟨v,q,mono0 r⟩
 have l4:=loop s4 I4 tn4;exact codeAny_compStart_list l4 (T.self _ 0 _ _ _ tn4 l4)
theorem zbE(hx:X.xe=FF)(hc:X.calm=true)(Z:CompS X scope N' nt fr)(hi:SI X tg iter mi)
   (hg:∀ C s0 H0 fp,SG (zcY X scope N' (zcZ X scope C) C s0 H0 fp) tg g) (ht:∀ C s0 H0 fp,SC (zcY X scope N' (zcZ X scope C) C s0 H0 fp) ifs c) (he:∀ C s0 H0 fp,SE (zcY X scope N' (zcZ X scope C) C s0 H0 fp) elt m)
   (hs:∀ x,foldedSetIterable iter X.env x=pure x:=by intro _;rfl):SE X (.ListComp elt [⟨tg,iter,ifs,0⟩] scope pos) (zbT mi nt fr g c m):=by
 rintro pins s σ H Q I ⟨ρ,st,io,d,st',E,S,e,k⟩;rw[eval_ListComp];refine zhW (use:=none) hx hc Z hi hg ht he hs I E S e fun Dd C H5 s6 R=>?_;obtain⟨m5,hn⟩:=R.ns;refine⟨m5,hn,fun h' hsb=>?_⟩;obtain⟨ka,X5,S5,R5⟩:=R.val;exact⟨.ref Dd,H5,R.inv.turned (t':=s6.toks) (it:=C) (fun b o hb q=>(hsb.2 b hb).trans q) R.free R.ne (.inr R.young) R.cells R.pin,rfl,k _ _ ka X5 S5 R5⟩
theorem zgu{i:Nat}{x:Str}{pos' spos:Pos}(hx:X.xe=FF)(hc:X.calm=true)(Z:CompS X scope N' nt fr)(hi:SI X tg iter mi)
   (hg:∀ C s0 H0 fp,SG (zcY X scope N' (zcZ X scope C) C s0 H0 fp) tg g) (ht:∀ C s0 H0 fp,SC (zcY X scope N' (zcZ X scope C) C s0 H0 fp) ifs c) (he:∀ C s0 H0 fp,SE (zcY X scope N' (zcZ X scope C) C s0 H0 fp) elt m)
   (hN:X.N.Nodup) (hi':X.N[i]?=some x) (hl:X.env.scope.names.lookup x=some .local)
   (hsw:swapsWith (.ListComp elt [⟨tg,iter,ifs,0⟩] scope pos) (some (.Name x pos')) spos.line X.env=pure true:=by rfl)
   (hs:∀ x,foldedSetIterable iter X.env x=pure x:=by intro _;rfl):SS X (.Assign [.Name x pos'] (.ListComp elt [⟨tg,iter,ifs,0⟩] scope pos) spos) (mAsg (zbT mi nt fr g c m) (gNm i)):=by
 intro pins s σ H N I h;obtain⟨ρ,st,io,f,st',E,S,e,w⟩:=zcQ.mp h;obtain⟨⟨d,s1⟩,e1,e⟩:=zad e;obtain⟨⟨ρ',s2⟩,e2,e⟩:=zai e;cases e;cases e2;rw[exec_Assign_Name_used _ _ _ _ hsw];refine Aa (Do (Aa ?_));show wpAny _ X.A (do let _ <-comprehension (.ListComp elt [⟨tg,iter,ifs,0⟩] scope pos) scope X.env _ (newList []) false (eval iter X.env) (some (assign (.Name x pos') X.env))) _ _ s;refine Aa (thn (zhW (use:=some (assign (.Name x pos') X.env)) (Qf:=fun _ s'=>SP X pins N .next s') hx hc Z hi hg ht he hs I E S e1 fun Dd C H5 s6 R=>?_) fun _ s' hq=>Ae (Ae hq));obtain⟨m5,hn⟩:=R.ns;obtain⟨ka,X5,S5,R5⟩:=R.val;show wpAny _ _ (assign (.Name x pos') X.env (.ref Dd)) _ _ _;refine EW (zfW (v:=.ref Dd) R.inv hN hi' (.inl hl) rfl (?_) (.inr hl));rintro s7 I7 ⟨a,sb,ha⟩;have hCa:C≠a:=fun z=>by
   rcases ha with q | q
   . exact R.ne (z.trans q)
   . exact R.cells _ _ q z.symm
 refine⟨m5,hn.sameBut sb hCa,fun h' hsb=>?_⟩;refine⟨_,H5,I7.turned (t':=s7.toks) (it:=C) (fun b o hb q=>(hsb.2 b hb).trans q) R.free R.ne (.inr R.young) R.cells R.pin,?_⟩;exact w _ _ ka X5 S5 ((E.ext S X5).set i R5)
end
section
variable {X:Cx} {e a b c:Expr} {es:List Expr} {pos:Pos} {m ma mb mc:ME} {mm:MA}
variable {K:Ac} {H:Hp} {io ka:List Addr} {st st':Sto}
noncomputable def addD:G2
 | .int i,.int j,st=>some (.int (i+j),st)
 | .str a,.str b,st=>if fits (a.length+b.length)=true then some (.str (a++b),st) else none
 | .tup a,.tup b,st=>if (!a.isEmpty&&fits (a.length+b.length))=true then some (.tup (a++b),st) else none
 | .ref a,.ref b,st=>match st[a]?,st[b]? with
   | some (.lst x),some (.lst y)=>if fits (x.length+y.length)=true then some (.ref st.length,st++[.lst (x++y)]) else none
   | _,_=>none
 | _,_,_=>none
theorem zaQ:OpM X (binaryOp .Add) addD:=by
 rintro pins s σ H x y v u Q I rx ry ⟨dx,dy,st,io,d,st',Rx,Ry,S,e,k⟩
 cases dx with
 | int i =>
   cases dy with
   | int j=>cases e;exact zn1 pins s σ H x y v u Q I rx ry ⟨i,j,Rx,Ry,k.now S rfl⟩
   | _=>cases e
 | str i =>
   cases dy with
   | str j =>
     obtain⟨hf,e⟩:=zal e
     cases e;exact zhn pins s σ H x y v u Q I rx ry ⟨i,j,Rx,Ry,of_decide_eq_true hf,k.now S rfl⟩
   | _=>cases e
 | tup i =>
   cases dy with
   | tup j =>
     obtain⟨hf,e⟩:=zal e;cases e;rw[AA] at hf;obtain⟨p,xs,ex,hp,r1⟩:=Rx;obtain⟨q,ys,ey,hq,r2⟩:=Ry;refine zmt pins s σ H x y v u Q I rx ry ⟨p,q,xs,ys,ex,ey,SqT.of hp,SqT.of hq,fun z=>?_,by rw[r1.length,r2.length];exact of_decide_eq_true hf.2,fun z=>?_,fun z p hp=>k.tup S (r1.append r2) hp⟩
     . have:=r1.length;rw[z] at this;have:i=[]:=BD this.symm;rw[this] at hf;exact absurd hf.1 (by decide)
     . have:=r2.length;rw[z] at this;have:j=[]:=BD this.symm;subst this;rw[As] at k;exact k.now S ⟨p,xs,rfl,hp,r1⟩
   | _=>cases e
 | ref i =>
   cases dy with
   | ref j =>
     unfold addD at e;dsimp only at e
     split at e
     . rename_i l1 l2 e1 e2;obtain⟨hf,e⟩:=zal e;cases e;obtain⟨p,ex,hp⟩:=Rx;obtain⟨q,ey,hq⟩:=Ry;obtain⟨xs,h1,r1⟩:=S.ob i p _ hp e1;obtain⟨ys,h2,r2⟩:=S.ob j q _ hq e2;exact zn0 pins s σ H x y v u Q I rx ry ⟨p,q,xs,ys,ex,ey,h1,h2,by rw[r1.length,r2.length];exact of_decide_eq_true hf,fun p hp=>k.lst S (r1.append r2) hp⟩
     . cases e
   | _=>cases e
 | _=>cases e
noncomputable def intD(c:Int->Int->Bool)(g:Int->Int->D):G2
 | .int i,.int j,st=>if c i j=true then some (g i j,st) else none
 | _,_,_=>none
theorem ze3{f:Value->Value->Sem Value}{C:Int->Int->Prop}{c:Int->Int->Bool}{g:Int->Int->Int}(h:OpR X f (rI C fun i j=>.int (g i j)))(hc:∀ i j,c i j=true->C i j):OpM X f (intD c fun i j=>.int (g i j)):=by
 rintro pins s σ H x y v u Q I rx ry ⟨dx,dy,st,io,d,st',Rx,Ry,S,e,k⟩
 cases dx with
 | int i =>
   cases dy with
   | int j =>
     obtain⟨hf,e⟩:=zal e
     cases e;exact h pins s σ H x y v u Q I rx ry ⟨i,j,Rx,Ry,hc i j hf,k.now S rfl⟩
   | _=>cases e
 | _=>cases e
noncomputable def tt2:Int->Int->Bool:=fun _ _=>true
noncomputable def subD:G2:=intD tt2 fun i j=>.int (i - j)
theorem zf9:OpM X (binaryOp .Sub) subD:=ze3 (C:=fun _ _=>True) (fun pins s σ H x y v u Q I rx ry ⟨i,j,h1,h2,_,q⟩=>znW pins s σ H x y v u Q I rx ry ⟨i,j,h1,h2,q⟩) fun _ _ _=>trivial
noncomputable def in64(i:Int):Bool:=decide (-(2 ^ 64) < i)&&decide (i < 2 ^ 64)
noncomputable def mulD:G2:=intD (fun i j=>in64 i || in64 j) fun i j=>.int (i*j)
theorem zmr:OpM X (binaryOp .Mult) mulD:=ze3 znX fun i j h=>by
 rw[Bu] at h;unfold in64 at h;rw[AA,AA] at h
 rcases h with h | h
 . exact .inl ⟨of_decide_eq_true h.1,of_decide_eq_true h.2⟩
 . exact .inr ⟨of_decide_eq_true h.1,of_decide_eq_true h.2⟩
noncomputable def modD:G2:=intD (fun _ j=>decide (0 < j)) fun i j=>.int (i % j)
theorem zdi:OpM X (binaryOp .Mod) modD:=ze3 znY fun i j h=>of_decide_eq_true h
noncomputable def cmpD(g:Int->Int->Bool):G2
 | .int i,.int j,st=>some (.bl (g i j),st)
 | _,_,_=>none
theorem zjE{f:Value->Value->Sem Value}{g:Int->Int->Bool}(h:OpR X f (rI0 fun i j=>.bl (g i j))):OpM X f (cmpD g):=by
 rintro pins s σ H x y v u Q I rx ry ⟨dx,dy,st,io,d,st',Rx,Ry,S,e,k⟩
 cases dx with
 | int i =>
   cases dy with
   | int j=>cases e;exact h pins s σ H x y v u Q I rx ry ⟨i,j,Rx,Ry,k.now S rfl⟩
   | _=>cases e
 | _=>cases e
noncomputable def ltD:G2:=cmpD fun i j=>decide (i < j)
noncomputable def leD:G2:=cmpD fun i j=>decide (i<=j)
noncomputable def gtD:G2:=cmpD fun i j=>decide (j < i)
noncomputable def geD:G2:=cmpD fun i j=>decide (j<=i)
theorem zku:OpM X (compareOp .Lt) ltD:=zjE zo6
theorem znZ:OpM X (compareOp .GtE) geD:=zjE zo7
noncomputable def zoF:D->Bool
 | .non=>true
 | _=>false
noncomputable def zoy:G2:=fun x y st=>match y with
 | .non=>some (.bl !zoF x,st)
 | _=>none
theorem zl0{v:V}{d:D}(h:Rep K H io v d):decide (v=.non)=zoF d:=by
 cases d with
 | non=>cases (show v=.non from h);rfl
 | bl b=>cases (show v=.bl b from h);rfl
 | int b=>cases (show v=.int b from h);rfl
 | str b=>cases (show v=.str b from h);rfl
 | tup b=>obtain⟨a,xs,rfl,_⟩:=h;rfl
 | ref b=>obtain⟨a,rfl,_⟩:=h;rfl
 | kl b=>obtain⟨a,xs,rfl,_⟩:=h;rfl
theorem zks:OpM X (compareOp .IsNot) zoy:=by
 rintro pins s σ H x y v u Q I rx ry ⟨dx,dy,st,io,d,st',Rx,Ry,S,e,k⟩
 cases dy with
 | non =>
   cases e;refine zmq pins s σ H x y v u Q I rx ry ⟨Ry,?_⟩;rw[zl0 Rx];exact k.now S rfl
 | _=>cases e
noncomputable def idxD:G2
 | .tup ds,.int i,st=>(atI ds i).map fun d=>(d,st)
 | .ref n,.int i,st=>(za9 st n).bind fun ds=>(atI ds i).map fun d=>(d,st)
 | .kl ds,.int i,st=>(atI ds i).map fun d=>(d,st)
 | .str z,.int i,st=>if fits z.length=true then (atI z.cps.toList i).map fun c=>(.str ⟨#[c]⟩,st) else none
 | _,_,_=>none
theorem zia{xs:List V}{ds:List D}{i:Int}{d:D}(r:Reps K H io xs ds)(h:atI ds i=some d):∃ v,atI xs i=some v/\Rep K H io v d:=by
 unfold atI at h ⊢;rw[r.length];obtain⟨j,hj,h⟩:=zad h;obtain⟨v,hv,rv⟩:=r.get h;exact⟨v,by rw[hj];exact hv,rv⟩
theorem ix_M:IxR X (r2M X.K idxD):=by
 rintro value slice pins s σ H x y v u Q I rx ry ⟨dx,dy,st,io,d,st',Rx,Ry,S,e,k⟩ hs
 cases dy with
 | int i =>
   cases dx with
   | tup ds =>
     obtain⟨d',e1,e⟩:=zai e;cases e;obtain⟨p,xs,ex,hp,r⟩:=Rx;obtain⟨w,hw,rw'⟩:=zia r e1;exact zbF value slice pins s σ H x y v u Q I rx ry ⟨p,xs,i,w,ex,Ry,SqT.of hp,hw,k.now S rw'⟩ hs
   | ref n =>
     obtain⟨ds,e0,e⟩:=zad e;obtain⟨d',e1,e⟩:=zai e;cases e;obtain⟨p,ex,hp⟩:=Rx;obtain⟨xs,hx,r⟩:=zaU S hp e0;obtain⟨w,hw,rw'⟩:=zia r e1;exact zjM value slice pins s σ H x y v u Q I rx ry ⟨p,xs,i,w,ex,Ry,hx,hw,k.now S rw'⟩ hs
   | kl ds =>
     obtain⟨d',e1,e⟩:=zai e;cases e;obtain⟨p,xs,ex,hx,r⟩:=Rx;obtain⟨w,hw,rw'⟩:=zia r e1;exact zjM value slice pins s σ H x y v u Q I rx ry ⟨p,xs,i,w,ex,Ry,hx.sq,hw,k.now S rw'⟩ hs
   | str z =>
     obtain⟨hf,e⟩:=zal e;obtain⟨d',e1,e⟩:=zai e;cases e;exact zgG value slice pins s σ H x y v u Q I rx ry ⟨z,i,d',Rx,Ry,of_decide_eq_true hf,e1,k.now S rfl⟩ hs
   | _=>cases e
 | _=>cases dx <;> cases e
theorem zoU(ha:SE X a ma)(hb:SE X b mb)(hs:zie b:=by intro _ _;rfl):SE X (.Subscript a b pos) (mBin idxD ma mb):=PE.imp (zo3 ix_M ha hb hs) fun _ _ _ h=>zdp h
noncomputable def lenD:GN
 | [.tup ds],st=>some (.int ds.length,st)
 | [.ref n],st=>(za9 st n).map fun ds=>(.int ds.length,st)
 | [.kl ds],st=>some (.int ds.length,st)
 | [.str z],st=>if fits z.length=true then some (.int z.length,st) else none
 | _,_=>none
theorem zaV:zdl X (.builtin "len") lenD:=by
 rintro pins s σ H xs us Q I r ⟨ds,st,io,d,st',R,S,e,k⟩
 cases ds with
 | nil=>cases e
 | cons d0 r0 =>
 cases r0 with
 | cons d1 r1=>cases d0 <;> cases e
 | nil =>
 cases d0 with
 | tup ts =>
   cases e;obtain⟨v,rfl,p,ys,rfl,hp,r1⟩:=R.one;refine zcL pins s σ H _ us Q I r ⟨p,ys,rfl,.inr (SqT.of hp),?_⟩;rw[r1.length];exact k.now S rfl
 | ref n =>
   obtain⟨ts,e0,e⟩:=zai e;cases e;obtain⟨v,rfl,p,rfl,hp⟩:=R.one;obtain⟨ys,hx,r1⟩:=zaU S hp e0;refine zcL pins s σ H _ us Q I r ⟨p,ys,rfl,.inl hx,?_⟩;rw[r1.length];exact k.now S rfl
 | kl ts =>
   cases e;obtain⟨v,rfl,p,ys,rfl,hx,r1⟩:=R.one;refine zcL pins s σ H _ us Q I r ⟨p,ys,rfl,.inl hx.sq,?_⟩;rw[r1.length];exact k.now S rfl
 | str z =>
   obtain⟨hf,e⟩:=zal e;cases e;obtain⟨v,rfl,rfl⟩:=R.one;exact zfP pins s σ H _ us Q I r ⟨z,rfl,of_decide_eq_true hf,k.now S rfl⟩
 | _=>cases e
noncomputable def intC:GN
 | [.int i],st=>some (.int i,st)
 | [.bl b],st=>some (.int (if b then 1 else 0),st)
 | _,_=>none
theorem zjn:zdl X (.type "int") intC:=by
 rintro pins s σ H xs us Q I r ⟨ds,st,io,d,st',R,S,e,k⟩
 cases ds with
 | nil=>cases e
 | cons d0 r0 =>
 cases r0 with
 | cons d1 r1=>cases d0 <;> cases e
 | nil =>
 cases d0 with
 | int i =>
   cases e;obtain⟨v,rfl,rfl⟩:=R.one;exact zgm pins s σ H _ us Q I r (.inl ⟨i,rfl,k.now S rfl⟩)
 | bl b =>
   cases e;obtain⟨v,rfl,rfl⟩:=R.one;exact zgm pins s σ H _ us Q I r (.inr ⟨b,rfl,k.now S rfl⟩)
 | _=>cases e
noncomputable def absC:GN
 | [.int i],st=>some (.int (if i < 0 then -i else i),st)
 | _,_=>none
theorem zgo:zdl X (.builtin "abs") absC:=by
 rintro pins s σ H xs us Q I r ⟨ds,st,io,d,st',R,S,e,k⟩
 cases ds with
 | nil=>cases e
 | cons d0 r0 =>
 cases r0 with
 | cons d1 r1=>cases d0 <;> cases e
 | nil =>
 cases d0 with
 | int i =>
   cases e;obtain⟨v,rfl,rfl⟩:=R.one;exact zlc pins s σ H _ us Q I r ⟨i,rfl,k.now S rfl⟩
 | _=>cases e
noncomputable def zih:GN
 | [.int i,.int j],st=>some (.int (if j < i then j else i),st)
 | _,_=>none
theorem zeK(hc:X.calm=true):zdl X (.builtin "min") zih:=by
 rintro pins s σ H xs us Q I r ⟨ds,st,io,d,st',R,S,e,k⟩;unfold zih at e
 split at e
 . rename_i i j;cases e;obtain⟨v,u,rfl,rfl,rfl⟩:=R.two;exact zjl hc pins s σ H _ us Q I r ⟨i,j,rfl,k.now S rfl⟩
 . cases e
noncomputable def zn5:GN
 | [.tup ds],st=>if fits ds.length=true then some (.ref st.length,st++[.lst ds]) else none
 | [.ref n],st=>(za9 st n).bind fun ds=>if fits ds.length=true then some (.ref st.length,st++[.lst ds]) else none
 | [.kl ds],st=>if fits ds.length=true then some (.ref st.length,st++[.lst ds]) else none
 | _,_=>none
theorem zh2:zdl X (.type "list") zn5:=by
 rintro pins s σ H xs us Q I r ⟨ds,st,io,d,st',R,S,e,k⟩
 cases ds with
 | nil=>cases e
 | cons d0 r0 =>
 cases r0 with
 | cons d1 r1=>cases d0 <;> cases e
 | nil =>
 cases d0 with
 | tup ts =>
   obtain⟨hf,e⟩:=zal e;cases e;obtain⟨v,rfl,p,ys,rfl,hp,r1⟩:=R.one;exact zcK pins s σ H _ us Q I r ⟨p,ys,rfl,.inr (SqT.of hp),fun l hl=>k.lst S r1 hl⟩
 | ref n =>
   obtain⟨ts,e0,e⟩:=zad e;obtain⟨hf,e⟩:=zal e;cases e;obtain⟨v,rfl,p,rfl,hp⟩:=R.one;obtain⟨ys,hx,r1⟩:=zaU S hp e0;exact zcK pins s σ H _ us Q I r ⟨p,ys,rfl,.inl hx,fun l hl=>k.lst S r1 hl⟩
 | kl ts =>
   obtain⟨hf,e⟩:=zal e;cases e;obtain⟨v,rfl,p,ys,rfl,hx,r1⟩:=R.one;exact zcK pins s σ H _ us Q I r ⟨p,ys,rfl,.inl hx.sq,fun l hl=>k.lst S r1 hl⟩
 | _=>cases e
noncomputable def zcP:GN
 | [.tup ds],st=>some (.tup ds,st)
 | [.ref n],st=>(za9 st n).map fun ds=>(.tup ds,st)
 | _,_=>none
theorem zcd:zdl X (.type "tuple") zcP:=by
 rintro pins s σ H xs us Q I r ⟨ds,st,io,d,st',R,S,e,k⟩
 cases ds with
 | nil=>cases e
 | cons d0 r0 =>
 cases r0 with
 | cons d1 r1=>cases d0 <;> cases e
 | nil =>
 cases d0 with
 | tup ts =>
   cases e;obtain⟨v,rfl,p,ys,rfl,hp,r1⟩:=R.one;exact zdj pins s σ H _ us Q I r ⟨p,ys,rfl,.inr ⟨SqT.of hp,k.now S ⟨p,ys,rfl,hp,r1⟩⟩⟩
 | ref n =>
   obtain⟨ts,e0,e⟩:=zai e;cases e;obtain⟨v,rfl,p,rfl,hp⟩:=R.one;obtain⟨ys,hx,r1⟩:=zaU S hp e0;exact zdj pins s σ H _ us Q I r ⟨p,ys,rfl,.inl ⟨hx,fun l hl=>k.tup S r1 hl⟩⟩
 | _=>cases e
end
noncomputable def toPs(f:D->Option PyData):List D->Option (List PyData)
 | []=>some []
 | d::ds=>(f d).bind fun p=>(toPs f ds).map fun ps=>p::ps
noncomputable def toP:Nat->Sto->D->Option PyData
 | 0,_,_=>none
 | n+1,st,d=>match d with
   | .non=>some .none
   | .bl b=>some (.bool b)
   | .int i=>some (.int i)
   | .str x=>if BK x=true then some (.str x) else none
   | .tup ds=>(toPs (toP n st) ds).map .tuple
   | .ref k=>(za9 st k).bind fun ds=>(toPs (toP n st) ds).map .list
   | .kl _=>none
theorem zdd{n:Nat}:∀ {ps:List PyData},(∀ p∈ps,p.depth<=n)->DZ ps<=n
 | [],_=>by rw[DZ];exact AU _
 | p::ps,h=>by
   rw[DZ];exact Nat.max_le.mpr ⟨h p Ag,zdd fun q hq=>h q (Af _ hq)⟩
theorem zdC{ps:List PyData}:(∀ p∈ps,p.canLay0=true)->B8 ps=true:=by
 induction ps with
 | nil=>intro _;simp only[B8]
 | cons p ps ih =>
   intro h;simp only[B8];rw[h p Ag,ih fun q hq=>h q (Af _ hq)];rfl
theorem zfs{f:D->Option PyData}:∀ {ds:List D} {ps:List PyData},toPs f ds=some ps->∀ p∈ps,∃ d,f d=some p
 | [],ps,h,p,hp=>by cases h;exact absurd hp (by simp)
 | d::ds,ps,h,p,hp=>by
   obtain⟨q,e1,h⟩:=zad h;obtain⟨qs,e2,h⟩:=zai h;subst h
   rcases List.mem_cons.mp hp with rfl | hp
   . exact⟨d,e1⟩
   . exact zfs e2 p hp
theorem zdI:∀ {n:Nat} {st:Sto} {d:D} {p:PyData},toP n st d=some p->p.canLay0=true/\p.depth<=n
 | 0,_,_,_,h=>by cases h
 | n+1,st,d,p,h=>by
   cases d with
   | non=>cases h;exact⟨by simp only[BH],by simp only[CB];exact AU _⟩
   | bl b=>cases h;exact⟨by simp only[BH],by simp only[CB];exact AU _⟩
   | int b=>cases h;exact⟨by simp only[BH],by simp only[CB];exact AU _⟩
   | str b =>
     obtain⟨hs,h⟩:=zal h
     cases h;exact⟨by simp only[BH];exact hs,by simp only[CB];exact AU _⟩
   | tup ds =>
     obtain⟨ps,e,h⟩:=zai h;subst h;have q:∀ p∈ps,p.canLay0=true/\p.depth<=n:=fun p hp=>let ⟨d,hd⟩:=zfs e p hp;zdI hd
     exact⟨by simp only[BH];exact zdC fun p hp=>(q p hp).1,by simp only[CB];exact Cj (zdd fun p hp=>(q p hp).2)⟩
   | kl ds=>cases h
   | ref k =>
     obtain⟨ds,e0,h⟩:=zad h;obtain⟨ps,e,h⟩:=zai h;subst h;have q:∀ p∈ps,p.canLay0=true/\p.depth<=n:=fun p hp=>let ⟨d,hd⟩:=zfs e p hp;zdI hd
     exact⟨by simp only[BH];exact zdC fun p hp=>(q p hp).1,by simp only[CB];exact Cj (zdd fun p hp=>(q p hp).2)⟩
section
variable {X:Cx} {a b:Expr} {pos:Pos} {ma mb:ME} {pins:List (Addr×Obj)} {σ:L2.St} {H:Hp} {s:Shared} {io:List Addr} {st:Sto}
theorem zc9{f:D->Option PyData}(hf:∀ {v:V} {u:Value} {d:D} {p:PyData},Rep X.K H io v d->RelV v u->f d=some p->∃ as,Reads s.heap u p as) :
   ∀ {xs:List V} {us:List Value} {ds:List D} {ps:List PyData},Reps X.K H io xs ds->Vals xs us->toPs f ds=some ps->∃ as,ReadsAll s.heap us ps as
 | _,_,[],ps,h,r,e=>by
   cases (show _=[] from h)
   cases r;cases e;exact⟨_,.nil⟩
 | _,_,d::ds,ps,h,r,e=>by
   obtain⟨y,ys,rfl,h1,h2⟩:=h
   cases r with
   | cons r1 r2 =>
     obtain⟨q,e1,e⟩:=zad e;obtain⟨qs,e2,e⟩:=zai e;subst e;obtain⟨as,ra⟩:=hf h1 r1 e1;obtain⟨bs,rb⟩:=zc9 hf h2 r2 e2;exact⟨_,.cons ra rb⟩
theorem zbZ(I:Inv X pins σ H s)(S:StR X.K H io st):∀ {n:Nat} {v:V} {u:Value} {d:D} {p:PyData},Rep X.K H io v d->RelV v u->toP n st d=some p->∃ as,Reads s.heap u p as
 | 0,_,_,_,_,_,_,h=>by cases h
 | n+1,v,u,d,p,h,r,e=>by
   cases d with
   | non=>cases e;cases (show v=.non from h);cases r;exact⟨_,.none⟩
   | bl b=>cases e;cases (show v=.bl b from h);cases r;exact⟨_,.bool _⟩
   | int b=>cases e;cases (show v=.int b from h);obtain⟨t,rfl⟩:=r;exact⟨_,.int _ _⟩
   | str b =>
     obtain⟨hs,e⟩:=zal e
     cases e;cases (show v=.str b from h);obtain⟨t,rfl⟩:=r;exact⟨_,.str _ _⟩
   | tup ds =>
     obtain⟨ps,e',q⟩:=zai e;subst q;obtain⟨a,xs,rfl,ha,rs⟩:=h;cases r;obtain⟨its,rv,⟨o,ho,hc,k,hd⟩,hz⟩:=I.tuple (SqT.of ha);obtain⟨as,ra⟩:=zc9 (f:=toP n st) (fun h r e=>zbZ I S h r e) rs rv e';exact⟨_,.tuple ho hc hd (by simpa using ra)⟩
   | kl ds=>cases e
   | ref k =>
     obtain⟨ds,e0,e⟩:=zad e;obtain⟨ps,e',q⟩:=zai e;subst q;obtain⟨a,rfl,ha⟩:=h;cases r;obtain⟨xs,hx,rs⟩:=zaU S ha e0;obtain⟨its,rv,⟨o,k,ho,hc,_,hd⟩,hz⟩:=I.list hx;obtain⟨as,ra⟩:=zc9 (f:=toP n st) (fun h r e=>zbZ I S h r e) rs rv e';exact⟨_,.list ho hc hd (by simpa using ra)⟩
noncomputable def eqD:G2:=fun x y st=>(toP 100 st x).bind fun p=>(toP 100 st y).map fun q=>(.bl (Ba p q),st)
noncomputable def neD:G2:=fun x y st=>(toP 100 st x).bind fun p=>(toP 100 st y).map fun q=>(.bl !PyData.eqv p q,st)
theorem zci(hu:X.A.units+100 < cLine):OpM X (compareOp .Eq) eqD:=by
 rintro pins s σ H x y v u Q I rx ry ⟨dx,dy,st,io,d,st',Rx,Ry,S,e,k⟩;obtain⟨p,e1,e⟩:=zad e;obtain⟨q,e2,e⟩:=zai e;cases e;obtain⟨as,ra⟩:=zbZ I S Rx rx e1;obtain⟨bs,rb⟩:=zbZ I S Ry ry e2;have h1:=zdI e1;have h2:=zdI e2;exact PySem.SeqAt.compareEq_reads ra rb h1.1 h2.1 (Dk (C5 (AH (FA _ _) h1.2) _) hu) ⟨.bl _,H,I,rfl,k.now S rfl⟩
theorem zdK(hu:X.A.units+100 < cLine):OpM X (compareOp .NotEq) neD:=by
 rintro pins s σ H x y v u Q I rx ry ⟨dx,dy,st,io,d,st',Rx,Ry,S,e,k⟩;obtain⟨p,e1,e⟩:=zad e;obtain⟨q,e2,e⟩:=zai e;cases e;obtain⟨as,ra⟩:=zbZ I S Rx rx e1;obtain⟨bs,rb⟩:=zbZ I S Ry ry e2;have h1:=zdI e1;have h2:=zdI e2;exact PySem.SeqAt.compareNe_reads ra rb h1.1 h2.1 (Dk (C5 (AH (FA _ _) h1.2) _) hu) ⟨.bl _,H,I,rfl,k.now S rfl⟩
theorem zaC{k:Nat}{A:Around}(hr:Room k A):A.units+100 < cLine:=by have:=hr.un;omega
end
section
variable {X:Cx} {pins:List (Addr×Obj)} {σ:L2.St} {H:Hp} {s:Shared} {h':Heap}
theorem Inv.turnNew{t':Nat}{fp:List Addr}{p:Addr}{o:HO}(I:Inv X pins σ H s)(hf:∀ b∈fp,FpOk X pins H b)(k:∀ b ob,b ∉ fp->s.heap.get? b=some ob->h'.get? b=some ob)(hp:s.heap.objs.size<=p)
   (hfp:∀ b∈fp,∀ ob,s.heap.get? b=some ob->∃ ob',h'.get? b=some ob') (new:zdk X.prog X.w (upd H p o) h' p o):Inv X pins σ (upd H p o) { s with heap:=h',toks:=t' }:=by
 have hpn:=I.hok.fresh hp;have nlt:∀ b ob,s.heap.get? b=some ob->b≠p:=fun b ob e=>AG (AC (Am e) hp);refine Inv.step (ch:=fp) (g':=s.gens) (d':=s.drawn) I (fun b hb=>⟨(hf b hb).2.2.2.1,(hf b hb).2.1,(hf b hb).2.2.2.2.1,(hf b hb).2.2.2.2.2⟩) (fun b ob _ _ hc e _=>k b ob hc e) (fun b ob _ _ hc e _=>⟨ob.slots,k b ob hc e⟩)
   (fun b ob hc e n=>by rw[zaP (nlt b ob e)];exact n) (fun b ob hc e=>⟨ob,k b ob hc e⟩) (fun b xs e=>by rw[zaP (zao e hpn)];exact e) (fun b ob u e=>by rw[zaP (zao e hpn)];exact e)
   (fun b ps e=>⟨#[],by rw[zaP (zao e hpn),e];simp⟩) (fun m hm=>?_) (fun b u e=>?_) I.bare
 . obtain⟨ob,es,ep,ho,r⟩:=hm;exact⟨ob,es,ep,k _ ob (fun z=>(hf _ z).2.1 rfl) ho,r⟩
 . by_cases hb:b=p
   . subst hb;rw[zbY] at e;cases e;exact new
   . rw[zaP hb] at e;refine (I.hok b u e).stay (fun c v hc q=>k c v (fun z=>?_) q) (fun c q=>by rw[zaP (zao q hpn)];exact q) fun c xs q=>by rw[zaP (zao q hpn)];exact q
     have hz:=(hf c z).1
     rcases hc with rfl | hc
     . rw[hz] at e;cases e
     . rw[hz] at hc;cases hc
theorem Inv.turnAll{t':Nat}{fp:List Addr}(I:Inv X pins σ H s)(hf:∀ b∈fp,FpOk X pins H b)(k:∀ b ob,b ∉ fp->s.heap.get? b=some ob->h'.get? b=some ob):Inv X pins σ H { s with heap:=h',toks:=t' }:=by
 refine Inv.step (ch:=fp) (g':=s.gens) (d':=s.drawn) I (fun b hb=>⟨(hf b hb).2.2.2.1,(hf b hb).2.1,(hf b hb).2.2.2.2.1,(hf b hb).2.2.2.2.2⟩) (fun b ob _ _ hc e _=>k b ob hc e) (fun b ob _ _ hc e _=>⟨ob.slots,k b ob hc e⟩)
   (fun b ob hc e n=>n) (fun b ob hc e=>⟨ob,k b ob hc e⟩) (fun b xs e=>e) (fun b ob u e=>e)
   (fun b ps e=>⟨#[],by rw[e];simp⟩) (fun m hm=>?_) (fun b u e=>?_) I.bare
 . obtain⟨ob,es,ep,ho,r⟩:=hm;exact⟨ob,es,ep,k _ ob (fun z=>(hf _ z).2.1 rfl) ho,r⟩
 . refine (I.hok b u e).stay (fun c v hc q=>k c v (fun z=>?_) q) (fun c q=>q) fun c xs q=>q;have hz:=(hf c z).1
   rcases hc with rfl | hc
   . rw[hz] at e;cases e
   . rw[hz] at hc;cases hc
end
section
variable {X:Cx} {m:ME}
theorem boot_enumerate:bootBuiltins "enumerate"=some (.type "enumerate"):=by decide +kernel
noncomputable def pairs(ds:List D):List D:=(ds.zipIdx).map fun (d,k)=>.tup [.int (k:Nat),d]
theorem zf8{ds:List D}{i:Nat}{d:D}(h:(pairs ds)[i]?=some d):∃ e,ds[i]?=some e/\d=.tup [.int (i:Nat),e]:=by
 unfold pairs at h;rw[Av,CY] at h
 cases e:ds[i]? with
 | none=>rw[e] at h;cases h
 | some x =>
   rw[e] at h;simp at h;exact⟨x,rfl,h.symm⟩
theorem pairs_len(ds:List D):(pairs ds).length=ds.length:=by unfold pairs;simp
end
section
variable {κ:Type} [DecidableEq κ] {K:Ac} {H:Hp} {io:List Addr}
noncomputable def valD(kvs:List (κ×D))(k:κ):Option D:=(kvs.find? fun kv=>decide (kv.1=k)).map (·.2)
noncomputable def putD(kvs:List (κ×D))(k:κ)(d:D):List (κ×D) :=
 if (kvs.any fun kv=>decide (kv.1=k))=true then kvs.map (fun kv=>if kv.1=k then (kv.1,d) else kv) else kvs++[(k,d)]
theorem KR.any{ps:List (κ×V)}{kvs:List (κ×D)}(r:KR κ K H io ps kvs)(k:κ):(ps.any fun kv=>decide (kv.1=k))=(kvs.any fun kv=>decide (kv.1=k)):=by
 induction r with
 | nil=>rfl
 | cons z t ih=>rw[Co,Co,ih,z.1]
theorem KR.length{ps:List (κ×V)}{kvs:List (κ×D)}(r:KR κ K H io ps kvs):ps.length=kvs.length:=BR r
theorem KR.val{ps:List (κ×V)}{kvs:List (κ×D)}(r:KR κ K H io ps kvs)(k:κ):(valD kvs k=none/\valV ps k=none)\/∃ d v,valD kvs k=some d/\valV ps k=some v/\Rep K H io v d:=by
 induction r with
 | nil=>exact .inl ⟨rfl,rfl⟩
 | @cons p q l1 l2 z t ih =>
   unfold valD valV at *;rw[BA,BA,z.1]
   by_cases e:q.1=k
   . rw[decide_eq_true e];exact .inr ⟨q.2,p.2,rfl,rfl,z.2⟩
   . rw[decide_eq_false e];exact ih
theorem KR.append{ps qs:List (κ×V)}{kvs lvs:List (κ×D)}(r:KR κ K H io ps kvs)(r':KR κ K H io qs lvs):KR κ K H io (ps++qs) (kvs++lvs):=by
 induction r with
 | nil=>exact r'
 | cons z t ih=>exact .cons z ih
theorem KR.put{ps:List (κ×V)}{kvs:List (κ×D)}(r:KR κ K H io ps kvs)(k:κ){v:V}{d:D}(rv:Rep K H io v d):KR κ K H io (putK ps k v) (putD kvs k d):=by
 unfold putK putD;rw[KR.any r k]
 by_cases e:(kvs.any fun kv=>decide (kv.1=k))=true
 . rw[if_pos e,if_pos e]
   induction r with
   | nil=>exact .nil
   | @cons p q l1 l2 z t ih =>
     rw[Au,Au];have hrest:KR κ K H io (l1.map fun kv=>if kv.1=k then (kv.1,v) else kv) (l2.map fun kv=>if kv.1=k then (kv.1,d) else kv):=by
       clear ih e
       induction t with
       | nil=>exact .nil
       | @cons p q l1 l2 z t ih =>
         rw[Au,Au];refine .cons ?_ ih;rw[z.1]
         by_cases e:q.1=k
         . rw[if_pos e,if_pos e];exact⟨rfl,rv⟩
         . rw[if_neg e,if_neg e];exact z
     refine .cons ?_ hrest;rw[z.1]
     by_cases e:q.1=k
     . rw[if_pos e,if_pos e];exact⟨rfl,rv⟩
     . rw[if_neg e,if_neg e];exact z
 . rw[if_neg e,if_neg e];exact KR.append r (.cons ⟨rfl,rv⟩ .nil)
end
noncomputable def keyOf:D->Option Key
 | .int i=>some (.inl i)
 | .str x=>some (.inr x)
 | _=>none
noncomputable def keysOf:List D->Option (List Key)
 | []=>some []
 | d::ds=>(keyOf d).bind fun k=>(keysOf ds).map fun ks=>k::ks
section
variable {X:Cx} {K:Ac} {H:Hp} {io:List Addr} {st st':Sto} {a b e:Expr} {es:List Expr} {ma mb m:ME} {mm:MA} {pos:Pos}
theorem zeE{v:V}{d:D}{k:Key}(h:Rep K H io v d)(e:keyOf d=some k):v=kV k:=by
 cases d with
 | int i=>cases e;exact h
 | str i=>cases e;exact h
 | _=>cases e
theorem zdw:∀ {xs:List V} {ds:List D} {ks:List Key},Reps K H io xs ds->keysOf ds=some ks->xs=ks.map kV
 | _,[],ks,h,e=>by cases e;exact h
 | _,d::ds,ks,h,e=>by
   obtain⟨y,ys,rfl,h1,h2⟩:=h;obtain⟨k,e1,e⟩:=zad e;obtain⟨ks',e2,e⟩:=zai e;subst e;rw[zeE h1 e1,zdw h2 e2];rfl
noncomputable def look(st:Sto)(n:Nat)(k:D):Option (Option D):=match st[n]? with
 | some (.dk kvs)=>(keyOf k).map fun q=>valD kvs q
 | some (.dt kvs)=>match k with
   | .tup ds=>(keysOf ds).map fun q=>valD kvs q
   | _=>none
 | _=>none
theorem zhB{n:Nat}{p:Addr}{k:D}{y:V}{r:Option D}(S:StR K H io st)(hp:io[n]?=some p)(ry:Rep K H io y k)(h:look st n k=some r):∃ o,DGet H p y o/\((r=none/\o=none)\/∃ d v,r=some d/\o=some v/\Rep K H io v d):=by
 unfold look at h
 split at h
 . rename_i kvs e;obtain⟨q,e1,h⟩:=zai h;subst h;obtain⟨ps,hH,r⟩:=S.ob n p _ hp e;have ey:=zeE ry e1;subst ey;refine⟨_,DGet.k hH,?_⟩
   rcases KR.val r q with ⟨h1,h2⟩ | ⟨d,v,h1,h2,h3⟩
   . exact .inl ⟨h1,h2⟩
   . exact .inr ⟨d,v,h1,h2,h3⟩
 . rename_i kvs e
   split at h
   . rename_i ds;obtain⟨q,e1,h⟩:=zai h;subst h;obtain⟨ps,hH,r⟩:=S.ob n p _ hp e;obtain⟨b,xs,rfl,hb,rs⟩:=ry;have ex:=zdw rs e1;subst ex;refine⟨_,DGet.t hH hb,?_⟩
     rcases KR.val r q with ⟨h1,h2⟩ | ⟨d,v,h1,h2,h3⟩
     . exact .inl ⟨h1,h2⟩
     . exact .inr ⟨d,v,h1,h2,h3⟩
   . cases h
 . cases h
noncomputable def zoD(md mk:ME):ME:=fun ρ st=>(md ρ st).bind fun (d,s1)=>(mk ρ s1).bind fun (k,s2)=>match d with
 | .ref n=>(look s2 n k).bind fun r=>r.map fun v=>(v,s2)
 | _=>none
theorem zlV{o i:Expr}{md mk:ME}(hu:X.A.units+1 < cLine)(ho:SE X o md)(hi:SE X i mk)(hs:NoSl i:=by intro _ _;rfl):SE X (.Subscript o i pos) (zoD md mk):=PE.imp (zmh hu ho hi hs) <| by
 rintro σ H Q ⟨ρ,st,io,d,st',E,S,e,k⟩;obtain⟨⟨x,s1⟩,e1,e⟩:=zad e;obtain⟨⟨y,s2⟩,e2,e⟩:=zad e
 cases x with
 | ref n =>
   obtain⟨r,e3,e⟩:=zad e;obtain⟨w,e4,e⟩:=zai e;cases e;subst e4;refine⟨ρ,st,io,_,s1,E,S,e1,fun v1 H1 k1 X1 S1 R1=>⟨ρ,s1,io++k1,y,_,E.ext S X1,S1,e2,fun v2 H2 k2 X2 S2 R2=>?_⟩⟩;obtain⟨p,rfl,hp⟩:=R1;obtain⟨o,g,⟨z,_⟩ | ⟨d',v,hd,hv,rv⟩⟩:=zhB S2 (zbG hp) R2 e3
   . cases z
   . cases hd;subst hv;exact⟨p,v,rfl,g,((k.on S1 X1).on S2 X2).now S2 rv⟩
 | _=>cases e
noncomputable def mDIn(neg:Bool)(mk md:ME):ME:=fun ρ st=>(mk ρ st).bind fun (k,s1)=>(md ρ s1).bind fun (d,s2)=>match d with
 | .ref n=>(look s2 n k).map fun r=>(.bl (if neg then !r.isSome else r.isSome),s2)
 | _=>none
theorem zeH{neg:Bool}{mk md:ME}{σ:L2.St}{Q:VK}(h:tE K (mDIn neg mk md) σ H Q):tE K mk σ H fun y H1=>tE K md σ H1 fun x H2=>∃ a o,x=.ref a/\DGet H2 a y o/\Q (.bl (if neg then !o.isSome else o.isSome)) H2:=by
 obtain⟨ρ,st,io,d,st',E,S,e,k⟩:=h;obtain⟨⟨y,s1⟩,e1,e⟩:=zad e;obtain⟨⟨x,s2⟩,e2,e⟩:=zad e
 cases x with
 | ref n =>
   obtain⟨r,e3,e⟩:=zai e;cases e;refine⟨ρ,st,io,y,s1,E,S,e1,fun v1 H1 k1 X1 S1 R1=>⟨ρ,s1,io++k1,_,_,E.ext S X1,S1,e2,fun v2 H2 k2 X2 S2 R2=>?_⟩⟩;obtain⟨p,rfl,hp⟩:=R2;obtain⟨o,g,z⟩:=zhB S2 hp (R1.ext S1 X2) e3;have:o.isSome=r.isSome:=by
     rcases z with ⟨a,b⟩ | ⟨d',v,a,b,_⟩
     . rw[a,b];rfl
     . rw[a,b];rfl
   exact⟨p,o,rfl,g,by rw[this];exact ((k.on S1 X1).on S2 X2).now S2 rfl⟩
 | _=>cases e
theorem zns{o i:Expr}{md mk:ME}(hu:X.A.units+1 < cLine)(hi:SE X i mk)(ho:SE X o md)(hm:behindInMarks .In o=false:=by rfl):SE X (.Compare i [.In] [o] pos) (mDIn false mk md):=PE.imp (znU (zml hu hi ho) hm) fun σ H Q h=>zeH h
end
section
variable {X:Cx} {K:Ac} {H:Hp} {io:List Addr} {st st':Sto} {a b c e:Expr} {es:List Expr} {ma mb mc m:ME} {mm:MA} {pos:Pos}
theorem znw{o i:Expr}{md mk:ME}(hu:X.A.units+1 < cLine)(hi:SE X i mk)(ho:SE X o md)(hm:behindInMarks .In o=false:=by rfl):SB X (.Compare i [.In] [o] pos) (mTst (mDIn false mk md)) :=
 PT.imp (zl4 (zml hu hi ho) hm) fun σ H Q h=>zeH (zdn h)
theorem ziE{o i:Expr}{md mk:ME}(hu:X.A.units+1 < cLine)(hi:SE X i mk)(ho:SE X o md)(hm:behindInMarks .NotIn o=false:=by rfl):SB X (.Compare i [.NotIn] [o] pos) (mTst (mDIn true mk md)) :=
 PT.imp (zl4 (ziO hu hi ho) hm) fun σ H Q h=>zeH (zdn h)
noncomputable def dput(st:Sto)(n:Nat)(k d:D):Option Sto:=match st[n]? with
 | some (.dk kvs)=>(keyOf k).bind fun q=>if decide (kvs.length < sizeLine)=true then some (st.set n (.dk (putD kvs q d))) else none
 | some (.dt kvs)=>match k with
   | .tup ds=>(keysOf ds).bind fun q=>if decide (kvs.length < sizeLine)=true then some (st.set n (.dt (putD kvs q d))) else none
   | _=>none
 | _=>none
theorem zk4{n:Nat}{p:Addr}{k d:D}{y v:V}(S:StR K H io st)(hp:io[n]?=some p)(ry:Rep K H io y k)(rv:Rep K H io v d)(h:dput st n k d=some st'):∃ H',DPut H p y v H'/\Ext io [] H H'/\StR K H' (io++[]) st':=by
 unfold dput at h
 split at h
 . rename_i kvs e;obtain⟨q,e1,h⟩:=zad h;obtain⟨hl,h⟩:=zal h;cases h;obtain⟨ps,hH,r⟩:=S.ob n p _ hp e;have ey:=zeE ry e1;subst ey;have:=KR.length r;refine⟨_,DPut.k hH (by rw[this];exact of_decide_eq_true hl),?_⟩;exact zgC S hp e (fun o u z=>by rw[hH] at z;cases z) fun H' T e'=>⟨_,e',KR.put (KR.mono T r) q (Rep.mono T rv)⟩
 . rename_i kvs e
   split at h
   . rename_i ds;obtain⟨q,e1,h⟩:=zad h;obtain⟨hl,h⟩:=zal h;cases h;obtain⟨ps,hH,r⟩:=S.ob n p _ hp e;obtain⟨b,xs,rfl,hb,rs⟩:=ry;have ex:=zdw rs e1;subst ex;have:=KR.length r;refine⟨_,DPut.t hH hb (by rw[this];exact of_decide_eq_true hl),?_⟩;exact zgC S hp e (fun o u z=>by rw[hH] at z;cases z) fun H' T e'=>⟨_,e',KR.put (KR.mono T r) q (Rep.mono T rv)⟩
   . cases h
 . cases h
noncomputable def zn4(md mk mv:ME):MS:=fun ρ st=>(mv ρ st).bind fun (v,s1)=>(md ρ s1).bind fun (d,s2)=>(mk ρ s2).bind fun (k,s3)=>match d with
 | .ref n=>(dput s3 n k v).map fun s4=>(.nx ρ,s4)
 | _=>none
theorem zlH{o i value:Expr}{md mk mv:ME}{pos':Pos}(hu:X.A.units+1 < cLine)(ho:SE X o md)(hi:SE X i mk)(hv:SE X value mv)(hs:swapsWith value (some (.Subscript o i pos')) pos.line X.env=pure false:=by rfl) :
   SS X (.Assign [.Subscript o i pos'] value pos) (zn4 md mk mv):=PS.imp (zl8 hu ho hi hv hs) fun N σ H h=>by
 obtain⟨ρ,st,io,f,st',E,S,e,w⟩:=zcQ.mp h;obtain⟨⟨v,s1⟩,e1,e⟩:=zad e;obtain⟨⟨d,s2⟩,e2,e⟩:=zad e;obtain⟨⟨k,s3⟩,e3,e⟩:=zad e
 cases d with
 | ref n =>
   obtain⟨s4,e4,e⟩:=zai e;cases e;refine⟨ρ,st,io,v,s1,E,S,e1,fun v1 H1 k1 X1 S1 R1=>⟨ρ,s1,io++k1,_,s2,E.ext S X1,S1,e2,fun v2 H2 k2 X2 S2 R2=>⟨ρ,s2,(io++k1)++k2,k,s3,(E.ext S X1).ext S1 X2,S2,e3,fun v3 H3 k3 X3 S3 R3=>?_⟩⟩⟩;obtain⟨p,rfl,hp⟩:=R2;obtain⟨H4,g,X4,S4⟩:=zk4 S3 (zbG hp) R3 ((R1.ext S1 X2).ext S2 X3) e4;refine⟨p,H4,rfl,g,?_⟩;have w3:∀ σ' H' kb,Ext (((io++k1)++k2)++k3) kb H3 H'->_:=ze4 (ze4 (ze4 w X1 S1) X2 S2) X3 S3;exact w3 σ H4 [] X4 S4 ((((E.ext S X1).ext S1 X2).ext S2 X3).ext S3 X4)
 | _=>cases e
inductive mtM (K:Ac) (g:D->List D->Sto->Option (D×Sto)) (x:V) (xs:List V) (H:Hp) (Q:VK):Prop
 | mk (dx:D) (ds:List D) (st:Sto) (io:List Addr) (d:D) (st':Sto) (h0:Rep K H io x dx) (h1:Reps K H io xs ds) (h2:StR K H io st) (h3:g dx ds st=some (d,st')) (h4:Bh K io H st' d Q)
noncomputable def zcE:D->List D->Sto->Option (D×Sto):=fun x xs st=>match x,xs with
 | .ref n,[d]=>match st[n]? with
   | some (.lst ds)=>if decide (ds.length < sizeLine)=true then some (.non,st.set n (.lst (ds++[d]))) else none
   | _=>none
 | _,_=>none
theorem append_in{n:Nat}{d:D}{ds:List D}{xs:List D}(h:zcE (.ref n) xs st=some (d,st')):∃ ds x,st[n]?=some (.lst ds)/\xs=[x]/\ds.length < sizeLine/\d=.non/\st'=st.set n (.lst (ds++[x])):=by
 unfold zcE at h
 match xs,h with
 | [x],h =>
   dsimp only at h
   split at h
   . rename_i ds e;obtain⟨hl,h⟩:=zal h;cases h;exact⟨ds,x,e,rfl,of_decide_eq_true hl,rfl,rfl⟩
   . cases h
 | [],h=>cases h
 | _::_::_,h=>cases h
theorem zhx:MtR X "list.append" (mtM X.K zcE):=by
 rintro pins s σ H x xs v us Q I rx rs ⟨dx,ds,st,io,d,st',Rx,Rs,S,e,k⟩
 cases dx with
 | ref n =>
   obtain⟨l,y,e1,rfl,hl,rfl,rfl⟩:=append_in (ds:=[]) e;obtain⟨p,rfl,hp⟩:=Rx;obtain⟨w,rfl,Rw⟩:=Rs.one;obtain⟨ys,hH,r⟩:=S.ob n p _ hp e1;refine zgc pins s σ H _ _ v us Q I rx rs ⟨p,ys,w,rfl,rfl,hH,by rw[r.length];exact hl,?_⟩;obtain⟨E',S'⟩:=zgC (o:=.lst (ys++[w])) (ob:=.lst (l++[y])) S hp e1 (fun o u z=>by rw[hH] at z;cases z) fun H' T e'=>⟨_,e',(Reps.mono T r).append (Reps.cons (Rep.mono T Rw) Reps.nil)⟩
   exact k _ _ [] E' S' rfl
 | _=>unfold zcE at e;cases ds <;> cases e
theorem zfq{n:Nat}{v:V}{l:List D}(R:Rep K H io v (.ref n))(S:StR K H io st)(h:za9 st n=some l):tyV K "list" v H:=by
 obtain⟨p,rfl,hp⟩:=R;obtain⟨xs,hx,_⟩:=zaU S hp h;exact .inl ⟨rfl,xs,hx⟩
noncomputable def mApp(m:ME)(mm:MA):ME:=fun ρ st=>(m ρ st).bind fun (x,s1)=>match x with
 | .ref n=>(za9 s1 n).bind fun _=>(mm ρ s1).bind fun (xs,s2)=>zcE x xs s2
 | _=>none
theorem zf4{o:Expr}{apos cpos:Pos}(ho:SE X o m)(ha:SA X (e::es) mm)
   (hbase:attributeBase o "append" X.env (eval o X.env)=eval o X.env:=by rfl)
   (hfew:((backTo cpos (starEach (e::es) X.env)).all (fun x=>!x.1)&&(backToKw cpos (keywordEach [] X.env)).all (fun x=>x.1.isSome)
    &&decide ((e::es).length+([]:List Keyword).length+(if ([]:List Keyword).isEmpty then 0 else 1) < 30))=true:=by rfl)
   (hline:(apos.endLine==cpos.line)=true:=by rfl) (hs:starEach (e::es) X.env=(false,eval e X.env)::starEach es X.env:=by rfl) (hplain:(backTo cpos (starEach es X.env)).any (·.1)=false:=by rfl) :
   SE X (.Call (.Attribute o "append" apos) (e::es) [] cpos) (mApp m mm) :=
 PE.imp (zm6 CH PySem.F.slot_list_append PySem.F.type_list_append zhx ho ha hbase hfew hline hs hplain) <| by
   rintro σ H Q ⟨ρ,st,io,d,st',E,S,e,k⟩;obtain⟨⟨x,s1⟩,e1,e⟩:=zad e
   cases x with
   | ref n =>
     obtain⟨l,e0,e⟩:=zad e;obtain⟨⟨xs,s2⟩,e2,e⟩:=zad e;refine⟨ρ,st,io,_,s1,E,S,e1,fun v1 H1 k1 X1 S1 R1=>⟨zfq R1 S1 e0,ρ,s1,io++k1,xs,s2,E.ext S X1,S1,e2,fun vs H2 k2 X2 S2 R2=>?_⟩⟩;exact⟨_,xs,s2,(io++k1)++k2,d,st',R1.ext S1 X2,R2,S2,e,(k.on S1 X1).on S2 X2⟩
   | _=>cases e
noncomputable abbrev MO:=Rho->Sto->Option (Option Int×Sto)
inductive tOm (K:Ac) (m:MO) (σ:L2.St) (H:Hp) (Q:Option Int->Hp->Prop):Prop
 | mk (ρ:Rho) (st:Sto) (io:List Addr) (d:Option Int) (st':Sto) (h1:EnvR K H io σ ρ) (h2:StR K H io st) (h3:m ρ st=some (d,st')) (h4:∀ H' ka,Ext io ka H H'->StR K H' (io++ka) st'->Q d H')
def SO(X:Cx)(e:Option Expr)(m:MO):Prop:=PO X e (tOm X.K m)
noncomputable def zc5:MO:=fun _ st=>some (none,st)
noncomputable def zcn(m:ME):MO:=fun ρ st=>(m ρ st).bind fun (d,s)=>match d with
 | .int i=>some (some i,s)
 | _=>none
theorem zbw:SO X none zc5:=fun pins s σ H Q I ⟨ρ,st,io,d,st',E,S,e,k⟩=>zmb pins s σ H Q I (by cases e;exact k H [] Ext.refl S.nil)
theorem za3(h:SE X e m):SO X (some e) (zcn m):=fun pins s σ H Q I ⟨ρ,st,io,d,st',E,S,e,k⟩=>zma h pins s σ H Q I (by
 obtain⟨⟨x,s1⟩,e1,e⟩:=zad e
 cases x with
 | int i =>
   cases e;exact⟨ρ,st,io,_,_,E,S,e1,fun v1 H1 k1 X1 S1 R1=>⟨i,R1,k H1 k1 X1 S1⟩⟩
 | _=>cases e)
noncomputable def cutD(xs:List D)(lo hi:Option Int):List D:=(xs.drop (HT.sIx xs.length 0 lo)).take (HT.sIx xs.length xs.length hi - HT.sIx xs.length 0 lo)
theorem zhV{xs:List V}{ds:List D}(r:Reps K H io xs ds)(lo hi:Option Int):Reps K H io (cutV xs lo hi) (cutD ds lo hi):=by
 unfold cutV cutD;rw[r.length];exact (r.drop _).take _
noncomputable def slD:D->Option Int->Option Int->Sto->Option (D×Sto):=fun x lo hi st=>match x with
 | .tup ds=>if (decide (HT.sIx ds.length 0 lo=0)&&decide (HT.sIx ds.length ds.length hi=ds.length))=true then none else some (.tup (cutD ds lo hi),st)
 | .ref n=>(za9 st n).map fun ds=>(.ref st.length,st++[.lst (cutD ds lo hi)])
 | _=>none
noncomputable def mSl(m:ME)(l h:MO):ME:=fun ρ st=>(m ρ st).bind fun (x,s1)=>(l ρ s1).bind fun (lo,s2)=>(h ρ s2).bind fun (hi,s3)=>slD x lo hi s3
noncomputable def rSlM(K:Ac):V->Option Int->Option Int->Hp->VK->Prop:=fun x lo hi H Q=>rSlT K x lo hi H Q\/rSlL K x lo hi H Q
theorem sl_M:SlR X (rSlM X.K):=by
 intro pins s σ H x v vl vu lo hi sl Q I rx hs pl pu h
 rcases h with h | h
 . exact znm pins s σ H x v vl vu lo hi sl Q I rx hs pl pu h
 . exact zjx pins s σ H x v vl vu lo hi sl Q I rx hs pl pu h
theorem zkf{lo hi:Option Expr}{ml mh:MO}{p2:Pos}(he:SE X e m)(hl:SO X lo ml)(hu:SO X hi mh):SE X (.Subscript e (.Slice lo hi none p2) pos) (mSl m ml mh):=PE.imp (zeu sl_M he hl hu) <| by
 rintro σ H Q ⟨ρ,st,io,d,st',E,S,e,k⟩;obtain⟨⟨x,s1⟩,e1,e⟩:=zad e;obtain⟨⟨lo',s2⟩,e2,e⟩:=zad e;obtain⟨⟨hi',s3⟩,e3,e⟩:=zad e;refine⟨ρ,st,io,x,s1,E,S,e1,fun v1 H1 k1 X1 S1 R1=>⟨ρ,s1,io++k1,lo',s2,E.ext S X1,S1,e2,fun H2 k2 X2 S2=>⟨ρ,s2,(io++k1)++k2,hi',s3,(E.ext S X1).ext S1 X2,S2,e3,fun H3 k3 X3 S3=>?_⟩⟩⟩;have R3:=(R1.ext S1 X2).ext S2 X3;have k':=((k.on S1 X1).on S2 X2).on S3 X3
 cases x with
 | tup ds =>
   have e:(if (decide (HT.sIx ds.length 0 lo'=0)&&decide (HT.sIx ds.length ds.length hi'=ds.length))=true then none else some (D.tup (cutD ds lo' hi'),s3))=some (d,st'):=e
   by_cases hw:(decide (HT.sIx ds.length 0 lo'=0)&&decide (HT.sIx ds.length ds.length hi'=ds.length))=true
   . rw[if_pos hw] at e;cases e
   . rw[if_neg hw] at e;cases e;obtain⟨p,xs,rfl,hp,r⟩:=R3;refine .inl ⟨p,xs,rfl,SqT.of hp,fun z=>hw ?_,fun q hq=>k'.tup S3 (zhV r _ _) hq⟩;rw[r.length] at z;rw[AA];exact⟨decide_eq_true z.1,decide_eq_true z.2⟩
 | ref n =>
   obtain⟨ds,e0,e⟩:=zai e;cases e;obtain⟨p,rfl,hp⟩:=R3;obtain⟨xs,hx,r⟩:=zaU S3 hp e0;exact .inr ⟨p,xs,rfl,hx,fun q hq=>k'.lst S3 (zhV r _ _) hq⟩
 | _=>cases e
noncomputable def zk2:G2:=intD (fun _ j=>decide (0 < j)&&decide (j < 2 ^ 128)) fun i j=>.int (i / j)
theorem zhm:OpM X (binaryOp .FloorDiv) zk2:=ze3 (C:=fun i j=>0 < j/\j < 2 ^ 128) (opI fun i j _ _ _ _ _ hc q=>by
 refine floordiv_int (by omega) (by rw[Int.fdiv_eq_ediv_of_nonneg i (by omega)];exact q) (.inl (PyProof.noPylong_of_log2 ?_));have h0:j.natAbs≠0:=by omega
 have h1:j.natAbs < 2 ^ 128:=by omega
 exact Nat.lt_trans ((Nat.log2_lt h0).mpr h1) (by decide)) fun i j h=>by
   rw[AA] at h;exact⟨of_decide_eq_true h.1,of_decide_eq_true h.2⟩
noncomputable def powB:G2:=intD (fun i j=>decide (0<=j)&&decide ((EF i:Int)*j<=2 ^ 27)) fun i j=>.int (i ^ j.toNat)
theorem zmp:OpM X (binaryOp .Pow) powB:=ze3 (C:=fun i j=>0<=j/\(EF i:Int)*j<=2 ^ 27) (opI fun i j _ _ _ _ _ hc q=>pow_int hc.1 hc.2 q) fun i j h=>by
   rw[AA] at h;exact⟨of_decide_eq_true h.1,of_decide_eq_true h.2⟩
end
noncomputable def subT(t T:String):Bool:=t==T || (t=="bool"&&T=="int")
noncomputable def sorts:List String:=["NoneType","bool","int","str","tuple","list","dict"]
noncomputable def kinds:List String:=["bool","int","str","tuple","list","dict"]
theorem zmJ{K:Ac}{t T:String}(ht:t∈sorts)(hT:T∈kinds):FO K (.type t) (.type T)=some (subT t T):=by
 have all:∀ t∈sorts,∀ T∈kinds,FO K (.type t) (.type T)=some (subT t T):=by
   intro t ht T hT;simp only[sorts,kinds,B3,CP,or_false] at ht hT
   rcases ht with rfl | rfl | rfl | rfl | rfl | rfl | rfl <;> rcases hT with rfl | rfl | rfl | rfl | rfl | rfl <;> rfl
 exact all t ht T hT
noncomputable def tyName(st:Sto):D->Option String
 | .non=>some "NoneType"
 | .bl _=>some "bool"
 | .int _=>some "int"
 | .str _=>some "str"
 | .tup _=>some "tuple"
 | .ref n=>match st[n]? with
   | some (.lst _)=>some "list"
   | some (.fz _)=>some "list"
   | some (.dk _)=>some "dict"
   | some (.dt _)=>some "dict"
   | _=>none
 | .kl _=>none
section
variable {X:Cx} {K:Ac} {H:Hp} {io:List Addr} {st st':Sto} {a:Expr} {m:ME} {pos:Pos} {pins:List (Addr×Obj)} {σ:L2.St} {s:Shared}
theorem zhD{xs:List V}{p:Addr}(I:Inv X pins σ H s)(h:SqL X.K H p xs):EA p "list" s.heap:=by
 obtain⟨its,_,⟨o,n,e,c,_,_⟩,_⟩:=I.list h;exact⟨o,e,c⟩
theorem zi2{ps:List (Key×V)}{p:Addr}(I:Inv X pins σ H s)(h:H p=some (.dK ps)):EA p "dict" s.heap:=by
 obtain⟨_,_,_,_,o,_,_,e,ex,_⟩:=I.hok p _ h;exact⟨o,e,ex.1⟩
theorem zi1{ps:List (List Key×V)}{p:Addr}(I:Inv X pins σ H s)(h:H p=some (.dT ps)):EA p "dict" s.heap:=by
 obtain⟨_,_,_,_,o,_,_,e,ex,_⟩:=I.hok p _ h;exact⟨o,e,ex.1⟩
theorem zmM{d:D}{v:V}{u:Value}{t T:String}{Q:Value->Shared->Prop}{E:Value->Shared->Prop}(I:Inv X pins σ H s)(S:StR X.K H io st)(R:Rep X.K H io v d)(r:RelV v u)(ht:tyName st d=some t)(hT:T∈kinds)
   (q:∀ tk,Q (.bool (subT t T)) { s with toks:=tk }):wpAny (model X.prog X.w) X.A (call (.builtin "isinstance") [u,.type T]) Q E s:=by
 have k:=fun {x:Value} {HH:Heap->Prop} (hs:t∈sorts) (Z:PySem.W.KitX X.K x (.type t) HH) (p:HH s.heap) (hx:x≠.builtin "__main__.__loader__#opaque")=>PySem.W.kia_one (prog:=X.prog) (w:=X.w) (A:=X.A) (E:=E) Z I.kIn p (zmJ hs hT) hx q
 cases d with
 | non=>cases ht;cases (show v=.non from R);cases r;exact k (by decide) PySem.W.kitx_none trivial (by intro e;cases e)
 | bl b=>cases ht;cases (show v=.bl b from R);cases r;exact k (by decide) PySem.W.kitx_bool trivial (by intro e;cases e)
 | int b=>cases ht;cases (show v=.int b from R);obtain⟨t,rfl⟩:=r;exact k (by decide) PySem.W.kitx_int trivial (by intro e;cases e)
 | str b=>cases ht;cases (show v=.str b from R);obtain⟨t,rfl⟩:=r;exact k (by decide) PySem.W.kitx_str trivial (by intro e;cases e)
 | tup ds =>
   cases ht;obtain⟨p,xs,rfl,hp,_⟩:=R;cases r;obtain⟨its,_,⟨o,e,c,_⟩,_⟩:=I.tuple (SqT.of hp);exact k (by decide) PySem.W.kitx_tuple ⟨o,e,c⟩ (by intro e;cases e)
 | ref n =>
   obtain⟨p,rfl,hp⟩:=R;cases r;unfold tyName at ht;dsimp only at ht
   split at ht
   . rename_i o e;cases ht;obtain⟨xs,hH,_⟩:=S.ob n p _ hp e;exact k (by decide) E4 (zhD I (SqL.of hH)) (by intro e;cases e)
   . rename_i o e;cases ht;obtain⟨ob,xs,hH,_⟩:=S.ob n p _ hp e;exact k (by decide) E4 (zhD I (.inl (.inr ⟨ob,hH⟩))) (by intro e;cases e)
   . rename_i o e;cases ht;obtain⟨xs,hH,_⟩:=S.ob n p _ hp e;exact k (by decide) Fb (zi2 I hH) (by intro e;cases e)
   . rename_i o e;cases ht;obtain⟨xs,hH,_⟩:=S.ob n p _ hp e;exact k (by decide) Fb (zi1 I hH) (by intro e;cases e)
   . cases ht
 | kl ds=>cases ht
noncomputable def rIsi(K:Ac)(T:String):List V->Hp->VK->Prop:=fun xs H Q=>∃ x d st io t,xs=[x,.ty T]/\Rep K H io x d/\StR K H io st/\tyName st d=some t/\Q (.bl (subT t T)) H
theorem zlb{T:String}(hT:T∈kinds):zif X (.builtin "isinstance") (rIsi X.K T):=by
 rintro pins s σ H xs us Q I r ⟨x,d,st,io,t,e,R,S,ht,q⟩;subst e;obtain⟨u,w,rfl,ru,rw'⟩:=r.two;cases rw';exact zmM I S R ru ht hT fun tk=>⟨.bl _,H,I.tok tk,rfl,q⟩
noncomputable def mIsi(T:String)(m:ME):ME:=fun ρ st=>(m ρ st).bind fun (x,s)=>(tyName s x).map fun t=>(.bl (subT t T),s)
theorem znr{T:String}{x y:Str}{p p2:Pos}(hT:T∈kinds)(hg:Gl X "isinstance")(hm:X.mg "isinstance"=none)(ha:SE X a m)(hgy:Gl X y)(hmy:X.mg y=none)(hvy:bootBuiltins y=some (.type T))(hny:y≠"__name__":=by decide)(hdy:(y==("__debug__":Str))=false:=by decide)
   (hs:starEach [a,.Name y p2] X.env=(false,eval a X.env)::starEach [.Name y p2] X.env:=by rfl) (hs2:starEach [.Name y p2] X.env=[(false,eval (.Name y p2) X.env)]:=by rfl) (hpl:(backTo pos (starEach [.Name y p2] X.env)).any (·.1)=false:=by rfl) :
   SE X (.Call (.Name "isinstance" p) [a,.Name y p2] [] pos) (mIsi T m) :=
 PE.imp (zhe (zlb hT) hg hm (by decide +kernel) (zhf ha (zhf (zmk (v:=.ty T) hgy hmy hvy rfl hny hdy) zmn hs2) hs) (by decide) (by decide) hs hpl) <| by
   rintro σ H Q ⟨ρ,st,io,d,st',E,S,e,k⟩;obtain⟨⟨x,s1⟩,e1,e⟩:=zad e;obtain⟨t,e2,e⟩:=zai e;cases e;exact⟨ρ,st,io,x,_,E,S,e1,fun v1 H1 k1 X1 S1 R1=>⟨v1,x,_,io++k1,t,rfl,R1,S1,e2,k _ H1 k1 X1 S1 rfl⟩⟩
end
theorem zdt{α:Type}{le:α->α->Prop}:∀ {l1 l2:List α},l1.Perm l2->l1.Pairwise le->l2.Pairwise le->(∀ a∈l1,∀ b∈l1,le a b->le b a->a=b)->l1=l2
 | [],l2,p,_,_,_=>(List.Perm.nil_eq p)
 | a::l1,[],p,_,_,_=>absurd p.symm (by intro h;have:=h.length_eq;simp at this)
 | a::l1,b::l2,p,h1,h2,an=>by
   obtain⟨ha,h1'⟩:=List.pairwise_cons.mp h1;obtain⟨hb,h2'⟩:=List.pairwise_cons.mp h2;have e:a=b:=by
     have m1:a∈b::l2:=p.mem_iff.mp Ag;have m2:b∈a::l1:=p.mem_iff.mpr Ag
     rcases List.mem_cons.mp m1 with q | q
     . exact q
     . rcases List.mem_cons.mp m2 with r | r
       . exact r.symm
       . exact an a Ag b (Af _ r) (ha b r) (hb a q)
   subst e;rw[zdt ((List.perm_cons a).mp p) h1' h2' fun x hx y hy=>an x (Af _ hx) y (Af _ hy)]
noncomputable def sle(a b:Str):Bool:=!decide (b.cps.toList < a.cps.toList)
noncomputable def zdh(ss:List Str):List Str:=ss.mergeSort sle
theorem zlC{a b:Str}(h:a.cps.toList=b.cps.toList):a=b:=by
 obtain⟨x⟩:=a;obtain⟨y⟩:=b;have:x=y:=by
   have h':x.toList=y.toList:=h;exact Array.toList_inj.mp h'
 rw[this]
theorem zit(a b:Str):(sle a b || sle b a)=true:=by
 unfold sle;rw[Bu,Bm,Bm,decide_eq_false_iff_not,decide_eq_false_iff_not]
 by_cases h:b.cps.toList < a.cps.toList
 . exact .inr (List.lt_asymm h)
 . exact .inl h
theorem zf2(a b c:Str)(h1:sle a b=true)(h2:sle b c=true):sle a c=true:=by
 unfold sle at *;rw[Bm,decide_eq_false_iff_not] at *;have h1:a.cps.toList<=b.cps.toList:=h1;have h2:b.cps.toList<=c.cps.toList:=h2;exact List.le_trans h1 h2
theorem zkc{a b:Str}(h1:sle a b=true)(h2:sle b a=true):a=b:=by
 unfold sle at *;rw[Bm,decide_eq_false_iff_not] at *;exact zlC (List.le_antisymm h1 h2)
theorem zd5:∀ {ss:List Str} {p:Str},risingS p ss=true->(p::ss).Pairwise fun a b=>sle a b=true
 | [],p,_=>by simp
 | s::ss,p,h=>by
   have h':(!ltCps s.cps.toList p.cps.toList&&risingS s ss)=true:=h;rw[AA] at h';have ih:=zd5 h'.2;have hps:sle p s=true:=by
     have:=h'.1;rw[ltCps_eq] at this;exact this
   refine List.pairwise_cons.mpr ⟨fun x hx=>?_,ih⟩
   rcases List.mem_cons.mp hx with rfl | hx
   . exact hps
   . exact zf2 _ _ _ hps ((List.pairwise_cons.mp ih).1 x hx)
theorem zeS{ss ss':List Str}(p:ss'.Perm ss)(h:sortedS ss'=true):ss'=zdh ss:=by
 have hp:ss'.Pairwise fun a b=>sle a b=true:=by
   cases ss' with
   | nil=>exact CI
   | cons x r=>exact zd5 h
 refine zdt (p.trans (Cr ss sle).symm) hp (DU (fun a b c=>zf2 a b c) zit ss) fun a _ b _=>zkc
section
variable {X:Cx} {K:Ac} {H:Hp} {io:List Addr} {st st':Sto} {a b c e:Expr} {es:List Expr} {ma mb mc m:ME} {mm:MA} {pos:Pos} {pins:List (Addr×Obj)} {σ:L2.St} {s:Shared}
noncomputable def strsOf:List D->Option (List Str)
 | []=>some []
 | .str x::r=>(strsOf r).map fun xs=>x::xs
 | _=>none
theorem zd3{d:D}{r:List D}{ss:List Str}(h:strsOf (d::r)=some ss):∃ x xs,d=.str x/\strsOf r=some xs/\ss=x::xs:=by
 cases d with
 | str x =>
   obtain⟨xs,e,h⟩:=zai h;exact⟨x,xs,rfl,e,h.symm⟩
 | _=>cases h
theorem zds(ss:List Str):strsOf (ss.map D.str)=some ss:=by
 induction ss with
 | nil=>rfl
 | cons x r ih=>show (strsOf (r.map D.str)).map _=_;rw[ih];rfl
theorem zfu:∀ {xs:List V} {us:List Value} {ds:List D} {ss:List Str},Reps K H io xs ds->Vals xs us->strsOf ds=some ss->StrsAre us ss
 | _,_,[],ss,h,r,e=>by
   cases (show _=[] from h);cases r;cases e;exact .nil
 | _,_,d::ds,ss,h,r,e=>by
   obtain⟨y,ys,rfl,h1,h2⟩:=h;obtain⟨x,rest,rfl,e2,rfl⟩:=zd3 e
   cases r with
   | cons r1 r2 =>
     cases (show y=.str x from h1)
     obtain⟨t,rfl⟩:=r1;exact .cons x t (zfu h2 r2 e2)
theorem zej:∀ {us:List Value} {ss:List Str},StrsAre us ss->Vals (ss.map V.str) us
 | _,_,.nil=>.nil
 | _,_,.cons y t r=>.cons ⟨t,rfl⟩ (zej r)
theorem ziq(ss:List Str):Reps K H io (ss.map V.str) (ss.map D.str):=by
 induction ss with
 | nil=>exact rfl
 | cons x r ih=>exact Reps.cons rfl ih
theorem lt64{n:Nat}(h:n < 64):n<=sizeLine:=AH (Ca h) (by decide)
noncomputable def zcG:GN
 | [.ref n],st=>(za9 st n).bind fun ds=>(strsOf ds).bind fun ss=>if decide (ss.length < 64)=true then some (.ref st.length,st++[.lst ((zdh ss).map D.str)]) else none
 | _,_=>none
theorem zfj:zdl X (.builtin "sorted") zcG:=by
 rintro pins s σ H xs us Q I r ⟨ds,st,io,d,st',R,S,e,k⟩;unfold zcG at e
 split at e
 . rename_i n;obtain⟨ts,e0,e⟩:=zad e;obtain⟨ss,e1,e⟩:=zad e;obtain⟨hl,e⟩:=zal e;cases e;have hl:=of_decide_eq_true hl;obtain⟨v,rfl,p,rfl,hp⟩:=R.one;obtain⟨u,rfl,ru⟩:=r.one;cases ru;obtain⟨ys,hx,r1⟩:=zaU S hp e0;obtain⟨its,rv,pl,hz⟩:=I.list hx;have hS:=zfu r1 rv e1;have hlen:its.length=ss.length:=by
     have h1:=rv.length;have h2:=(zej hS).length;rw[Ad] at h2;omega
   refine sorted_strs pl.isList hS (by omega) fun out ss' a1 a2 a3=>?_;have es:=zeS a2 a3;obtain⟨ep,hat⟩:=sortedAll_at s.heap its out;have hv:=zej a1;have hfree:H (s.heap.objs.size+1)=none:=I.hok.fresh (Bz _);have hlen':(ss'.map V.str).length<=sizeLine:=by rw[Ad,a2.length_eq];exact lt64 hl
   refine⟨.ref (s.heap.objs.size+1),upd H (s.heap.objs.size+1) (.lst (ss'.map V.str)),I.laid (t':=s.toks) (a:=s.heap.objs.size+1) (fun b o q=>sortedAll_old q) (Bz _) ⟨hlen',out.toList,ep,hv,by simpa using hat⟩,rfl,?_⟩;rw[es] at *;exact k.lst S (ziq _) hfree
 . cases e
noncomputable def zkT:D->List D->Sto->Option (D×Sto):=fun x xs st=>match x,xs with
 | .str z,[.ref n]=>(za9 st n).bind fun ds=>(strsOf ds).bind fun ss=>if decide ((ss.map (·.length)).sum+ss.length*z.length<=16777216)=true then some (.str (Txt.join z ss),st) else none
 | _,_=>none
theorem zkC:MtR X "str.join" (mtM X.K zkT):=by
 rintro pins s σ H x xs v us Q I rx rs ⟨dx,ds,st,io,d,st',Rx,Rs,S,e,k⟩;unfold zkT at e
 split at e
 . rename_i z n;obtain⟨ts,e0,e⟩:=zad e;obtain⟨ss,e1,e⟩:=zad e;obtain⟨hl,e⟩:=zal e;cases e
   cases (show x=.str z from Rx)
   obtain⟨t,rfl⟩:=rx;obtain⟨w,rfl,p,rfl,hp⟩:=Rs.one;obtain⟨u,rfl,ru⟩:=rs.one;cases ru;obtain⟨ys,hx,r1⟩:=zaU S hp e0;obtain⟨its,rv,pl,hz⟩:=I.list hx;exact join_list pl.isList (zfu r1 rv e1) (of_decide_eq_true hl) fun t' k'=>⟨.str _,H,I.tok k',⟨t',rfl⟩,k.now S rfl⟩
 . cases e
noncomputable def zm8(m:ME)(mm:MA):ME:=fun ρ st=>(m ρ st).bind fun (x,s1)=>match x with
 | .str _=>(mm ρ s1).bind fun (xs,s2)=>zkT x xs s2
 | _=>none
theorem zlS{o:Expr}{apos cpos:Pos}(ho:SE X o m)(ha:SA X (e::es) mm)
   (hbase:attributeBase o "join" X.env (eval o X.env)=eval o X.env:=by rfl)
   (hfew:((backTo cpos (starEach (e::es) X.env)).all (fun x=>!x.1)&&(backToKw cpos (keywordEach [] X.env)).all (fun x=>x.1.isSome)
    &&decide ((e::es).length+([]:List Keyword).length+(if ([]:List Keyword).isEmpty then 0 else 1) < 30))=true:=by rfl)
   (hline:(apos.endLine==cpos.line)=true:=by rfl) (hs:starEach (e::es) X.env=(false,eval e X.env)::starEach es X.env:=by rfl) (hplain:(backTo cpos (starEach es X.env)).any (·.1)=false:=by rfl) :
   SE X (.Call (.Attribute o "join" apos) (e::es) [] cpos) (zm8 m mm) :=
 PE.imp (zm6 PySem.F.plainAttrs_str PySem.F.slot_str_join PySem.F.type_str_join zkC ho ha hbase hfew hline hs hplain) <| by
   rintro σ H Q ⟨ρ,st,io,d,st',E,S,e,k⟩;obtain⟨⟨x,s1⟩,e1,e⟩:=zad e
   cases x with
   | str z =>
     obtain⟨⟨xs,s2⟩,e2,e⟩:=zad e;refine⟨ρ,st,io,_,s1,E,S,e1,fun v1 H1 k1 X1 S1 R1=>⟨by cases (show v1=.str z from R1);rfl,ρ,s1,io++k1,xs,s2,E.ext S X1,S1,e2,fun vs H2 k2 X2 S2 R2=>?_⟩⟩;exact⟨_,xs,s2,(io++k1)++k2,d,st',R1.ext S1 X2,R2,S2,e,(k.on S1 X1).on S2 X2⟩
   | _=>cases e
noncomputable def rSlS:V->Option Int->Option Int->Hp->VK->Prop:=fun x lo hi H Q=>∃ z,x=.str z/\z.length<=sizeLine/\Q (.str (Txt.slice z lo hi)) H
theorem znn:SlR X rSlS:=by
 rintro pins s σ H x v vl vu lo hi sl Q I rx hs pl pu ⟨z,e,hz,q⟩;subst e;obtain⟨t,rfl⟩:=rx;refine⟨"str",_,F.slot_str_getitem.lookup,Fx _ _ _,?_⟩;have fin:∀ t' k,EP X pins σ Q (.str (Txt.slice z lo hi) t') { s with toks:=k }:=fun t' k=>⟨.str _,H,I.tok k,⟨t',rfl⟩,q⟩
 cases pl with
 | none =>
   cases pu with
   | none=>exact B2 (l:=none) (u:=none) (st:=none) hs rfl (Cu ⟨AH (Txt.slice_le z _ _) hz,fin⟩)
   | int j tj=>exact B2 (l:=none) (u:=some (j,tj)) (st:=none) hs rfl (Cu ⟨AH (Txt.slice_le z _ _) hz,fin⟩)
 | int i ti =>
   cases pu with
   | none=>exact B2 (l:=some (i,ti)) (u:=none) (st:=none) hs rfl (Cu ⟨AH (Txt.slice_le z _ _) hz,fin⟩)
   | int j tj=>exact B2 (l:=some (i,ti)) (u:=some (j,tj)) (st:=none) hs rfl (Cu ⟨AH (Txt.slice_le z _ _) hz,fin⟩)
noncomputable def slS:D->Option Int->Option Int->Sto->Option (D×Sto):=fun x lo hi st=>match x with
 | .str z=>if fits z.length=true then some (.str (Txt.slice z lo hi),st) else none
 | _=>none
noncomputable def mSlS(m:ME)(l h:MO):ME:=fun ρ st=>(m ρ st).bind fun (x,s1)=>(l ρ s1).bind fun (lo,s2)=>(h ρ s2).bind fun (hi,s3)=>slS x lo hi s3
theorem ziz{lo hi:Option Expr}{ml mh:MO}{p2:Pos}(he:SE X e m)(hl:SO X lo ml)(hu:SO X hi mh):SE X (.Subscript e (.Slice lo hi none p2) pos) (mSlS m ml mh):=PE.imp (zeu znn he hl hu) <| by
 rintro σ H Q ⟨ρ,st,io,d,st',E,S,e,k⟩;obtain⟨⟨x,s1⟩,e1,e⟩:=zad e;obtain⟨⟨lo',s2⟩,e2,e⟩:=zad e;obtain⟨⟨hi',s3⟩,e3,e⟩:=zad e;refine⟨ρ,st,io,x,s1,E,S,e1,fun v1 H1 k1 X1 S1 R1=>⟨ρ,s1,io++k1,lo',s2,E.ext S X1,S1,e2,fun H2 k2 X2 S2=>⟨ρ,s2,(io++k1)++k2,hi',s3,(E.ext S X1).ext S1 X2,S2,e3,fun H3 k3 X3 S3=>?_⟩⟩⟩;have k':=((k.on S1 X1).on S2 X2).on S3 X3
 cases x with
 | str z =>
   obtain⟨hf,e⟩:=zal e;cases e;exact⟨z,R1,of_decide_eq_true hf,k'.now S3 rfl⟩
 | _=>cases e
noncomputable def repS(x:Str)(n:Int):Str:=if n < 1 then Str.empty else if (n==1 || x.length==0)=true then x else ⟨(Bl n.toNat x.cps).foldl (·++·) #[]⟩
noncomputable def zm7:G2
 | .str x,.int n,st=>if (decide (-(2 ^ 62)<=n)&&decide (n < 2 ^ 20)&&decide (x.length*n.toNat<=sizeLine)&&decide ((repS x n).length<=sizeLine))=true then some (.str (repS x n),st) else none
 | _,_,_=>none
theorem zkt:OpM X (binaryOp .Mult) zm7:=by
 rintro pins s σ H x y v u Q I rx ry ⟨dx,dy,st,io,d,st',Rx,Ry,S,e,k⟩;unfold zm7 at e
 split at e
 . rename_i z n;obtain⟨hc,e⟩:=zal e;cases e;rw[AA,AA,AA] at hc;obtain⟨⟨⟨h1,h2⟩,h3⟩,h4⟩:=hc;have h1:=of_decide_eq_true h1;have h2:=of_decide_eq_true h2;have h3:=of_decide_eq_true h3;have h4:=of_decide_eq_true h4
   cases (show x=.str z from Rx)
   cases (show y=.int n from Ry)
   obtain⟨t,rfl⟩:=rx;obtain⟨t2,rfl⟩:=ry;have fin:∀ t' k',EP X pins σ Q (.str (repS z n) t') { s with toks:=k' }:=fun t' k'=>⟨.str _,H,I.tok k',⟨t',rfl⟩,k.now S rfl⟩
   refine PySem.P.mul_str (by rw[decide_eq_false (by omega),decide_eq_false (by omega)];rfl) (fun hn _=>?_) (fun hn _=>?_) ?_
   . have hs:sizeLine=16777216:=D4;have hnn:((n.toNat:Nat):Int)=n:=EG (by omega);have hm:(z.length:Int)*n<=2 ^ 63 - 1:=by
       rw[<-hnn,<-Int.natCast_mul];omega
     have:=Int.le_ediv_of_mul_le (by omega:0 < n) hm;omega
   . unfold Builtin.Str.tooLong;exact decide_eq_false (by omega)
   . unfold repS at fin h4
     by_cases hn:n < 1
     . rw[if_pos hn] at fin h4 ⊢;exact⟨h4,fin s.toks (s.toks+1)⟩
     . rw[if_neg hn] at fin h4 ⊢;exact Cu ⟨h4,fin⟩
 . cases e
end
section
variable {X:Cx} {K:Ac} {H:Hp} {io:List Addr} {st st':Sto} {a b c e:Expr} {es:List Expr} {ma mb mc m:ME} {mm:MA} {pos:Pos} {pins:List (Addr×Obj)} {σ:L2.St} {s:Shared}
noncomputable def memP(p:PyData):PyData->Option Bool
 | .list xs=>some (xs.any fun y=>Ba y p)
 | .tuple xs=>some (xs.any fun y=>Ba y p)
 | _=>none
noncomputable def inD(neg:Bool):G2:=fun x y st=>(toP 50 st x).bind fun p=>(toP 50 st y).bind fun q=>(memP p q).map fun b=>(.bl (if neg then !b else b),st)
theorem zeh{xs:List PyData}(h:(PyData.list xs).canLay0=true):B8 xs=true:=by simpa only [BH] using h
theorem zdB{xs:List PyData}(h:(PyData.tuple xs).canLay0=true):B8 xs=true:=by simpa only [BH] using h
theorem zms(hu:X.A.units+100 < cLine):OpM X (compareOp .In) (inD false):=by
 rintro pins s σ H x y v u Q I rx ry ⟨dx,dy,st,io,d,st',Rx,Ry,S,e,k⟩;obtain⟨p,e1,e⟩:=zad e;obtain⟨q,e2,e⟩:=zad e;obtain⟨r,e3,e⟩:=zai e;cases e;obtain⟨as,ra⟩:=zbZ I S Rx rx e1;obtain⟨bs,rb⟩:=zbZ I S Ry ry e2;have h1:=zdI e1;have h2:=zdI e2;have hb:∀ n,X.A.units+1+min n p.depth < cLine:=fun n=>by have:=DJ n p.depth;omega
 cases q with
 | list xs=>cases e3;exact PySem.SeqAt.in_list_reads rb ra (zeh h2.1) h1.1 (hb _) ⟨.bl _,H,I,rfl,k.now S rfl⟩
 | tuple xs=>cases e3;exact PySem.SeqAt.in_tuple_reads rb ra (zdB h2.1) h1.1 (hb _) ⟨.bl _,H,I,rfl,k.now S rfl⟩
 | _=>cases e3
theorem ziP(hu:X.A.units+100 < cLine):OpM X (compareOp .NotIn) (inD true):=by
 rintro pins s σ H x y v u Q I rx ry ⟨dx,dy,st,io,d,st',Rx,Ry,S,e,k⟩;obtain⟨p,e1,e⟩:=zad e;obtain⟨q,e2,e⟩:=zad e;obtain⟨r,e3,e⟩:=zai e;cases e;obtain⟨as,ra⟩:=zbZ I S Rx rx e1;obtain⟨bs,rb⟩:=zbZ I S Ry ry e2;have h1:=zdI e1;have h2:=zdI e2;have hb:∀ n,X.A.units+1+min n p.depth < cLine:=fun n=>by have:=DJ n p.depth;omega
 cases q with
 | list xs=>cases e3;exact PySem.SeqAt.notIn_list_reads rb ra (zeh h2.1) h1.1 (hb _) ⟨.bl _,H,I,rfl,k.now S rfl⟩
 | tuple xs=>cases e3;exact PySem.SeqAt.notIn_tuple_reads rb ra (zdB h2.1) h1.1 (hb _) ⟨.bl _,H,I,rfl,k.now S rfl⟩
 | _=>cases e3
noncomputable def inSD:G2
 | .str i,.str j,st=>some (.bl (!(B0 j i 0 j.length 1).isEmpty),st)
 | _,_,_=>none
theorem zjD:OpM X (compareOp .In) inSD:=by
 rintro pins s σ H x y v u Q I rx ry ⟨dx,dy,st,io,d,st',Rx,Ry,S,e,k⟩;unfold inSD at e
 split at e
 . rename_i i j
   cases e;exact ziQ pins s σ H x y v u Q I rx ry ⟨i,j,Rx,Ry,k.now S rfl⟩
 . cases e
noncomputable def zjW:List D->Option (List Bool)
 | []=>some []
 | .bl x::r=>(zjW r).map fun xs=>x::xs
 | _=>none
theorem zh9{d:D}{r:List D}{ss:List Bool}(h:zjW (d::r)=some ss):∃ x xs,d=.bl x/\zjW r=some xs/\ss=x::xs:=by
 cases d with
 | bl x =>
   obtain⟨xs,e,h⟩:=zai h;exact⟨x,xs,rfl,e,h.symm⟩
 | _=>cases h
theorem zh8:∀ {xs:List V} {us:List Value} {ds:List D} {ss:List Bool},Reps K H io xs ds->Vals xs us->zjW ds=some ss->us=ss.map B4
 | _,_,[],ss,h,r,e=>by
   cases (show _=[] from h);cases r;cases e;rfl
 | _,_,d::ds,ss,h,r,e=>by
   obtain⟨y,ys,rfl,h1,h2⟩:=h;obtain⟨x,rest,rfl,e2,rfl⟩:=zh9 e
   cases r with
   | cons r1 r2 =>
     cases (show y=.bl x from h1)
     cases r1;rw[zh8 h2 r2 e2];rfl
noncomputable def allC:GN
 | [.ref n],st=>(za9 st n).bind fun ds=>(zjW ds).map fun bs=>(.bl (bs.all id),st)
 | _,_=>none
theorem range_all(bs:List Bool):((Ar bs.length).all fun i=>bs.getD i false)=bs.all id:=by
 rw[Bb,AX,AX]
 constructor
 . intro h b hb;obtain⟨i,hi,e⟩:=C6 hb;have:=h i (List.mem_range.mpr hi);rw[Ax,Aj hi,e] at this;exact this
 . intro h i hi;have hi:=List.mem_range.mp hi;rw[Ax,Aj hi];exact h _ (AZ hi)
theorem zgn(hc:X.calm=true):zdl X (.builtin "all") allC:=by
 rintro pins s σ H xs us Q I r ⟨ds,st,io,d,st',R,S,e,k⟩;unfold allC at e
 split at e
 . rename_i n;obtain⟨ts,e0,e⟩:=zad e;obtain⟨bs,e1,e⟩:=zai e;cases e;obtain⟨v,rfl,p,rfl,hp⟩:=R.one;obtain⟨u,rfl,ru⟩:=r.one;cases ru;obtain⟨ys,hx,r1⟩:=zaU S hp e0;obtain⟨its,rv,pl,hz⟩:=I.list hx;have hb:=zh8 r1 rv e1;subst hb;refine call_all_walk (B6 pl.isList ?_);have hlt:p < s.heap.objs.size:=by
     obtain⟨o,_,e,_⟩:=pl;exact Am e
   refine⟨_,_,_,_,_,_,fun i=>bs.getD i false,rfl,FB (A:=X.A.in1) (I.ok.hd hc) s.heap.objs.size p (AG hlt) (bs.map B4).toArray,⟨⟨_,Az _ rfl,rfl,rfl⟩,?_⟩,?_,fun h' tk hk=>?_⟩
   . obtain⟨o,nn,e,c,dd,sq⟩:=pl;exact⟨o,Ai _ e,c,nn,sq⟩
   . intro i v s' Q' E' hv hq;have hv:((bs.map B4).toArray)[i]?=some v:=hv;rw[Cg,Av] at hv
     cases ei:bs[i]? with
     | none=>rw[ei] at hv;cases hv
     | some bb =>
       rw[ei] at hv;cases hv;refine BC ?_;have hg:bs.getD i false=bb:=by rw[Ax,ei];rfl
       have hq:Q' (bs.getD i false) s':=hq;rw[hg] at hq;exact hq
   . refine⟨.bl _,H,I.kept (t':=tk) fun b o q=>hk b o ?_ (Ai _ q),rfl,?_⟩
     . simp;exact AG (Am q)
     . have:((Ar (bs.map B4).toArray.size).all fun i=>bs.getD i false)=bs.all id:=by simpa using range_all bs
       rw[this];exact k.now S rfl
 . cases e
end
end L2.MP
namespace Srt
open PySem PySem.W PyProof.Rows
noncomputable def Hd(n:Nat)(r:Nat->Int){α:Type}:KasT α->(α->Prop)->Prop
 | .ret a,Q=>Q a
 | .ask i j k,Q=>(i < n/\j < n)/\Hd n r (k (decide (r i < r j))) Q
section
variable {n:Nat} {r:Nat->Int} {α β:Type}
theorem Hd.bind{f:α->KasT β}{Q:β->Prop}:∀ {t:KasT α},Hd n r t (fun a=>Hd n r (f a) Q)->Hd n r (t.bind f) Q
 | .ret _,h=>h
 | .ask i j k,h=>⟨h.1,Hd.bind (t:=k _) h.2⟩
theorem Hd.mono{P Q:α->Prop}(k:∀ a,P a->Q a):∀ {t:KasT α},Hd n r t P->Hd n r t Q
 | .ret a,h=>k a h
 | .ask i j f,h=>⟨h.1,Hd.mono k (t:=f _) h.2⟩
theorem zhL{c:Prop}[Decidable c]{A B:KasT α}{Q:α->Prop}(hc:c)(h:Hd n r A Q):Hd n r (if decide c=true then A else B) Q:=by
 rw[decide_eq_true hc,if_pos rfl];exact h
theorem zhM{c:Prop}[Decidable c]{A B:KasT α}{Q:α->Prop}(hc:¬ c)(h:Hd n r B Q):Hd n r (if decide c=true then A else B) Q:=by
 rw[decide_eq_false hc,if_neg Bi];exact h
def Bel(n:Nat)(p:Array Nat):Prop:=∀ k,p.getD k 0 < n
noncomputable def R(r:Nat->Int)(p:Array Nat)(k:Nat):Int:=r (p.getD k 0)
def Up(r:Nat->Int)(p:Array Nat)(m:Nat):Prop:=∀ i j,i<=j->j < m->R r p i<=R r p j
def Dn(r:Nat->Int)(p:Array Nat)(m:Nat):Prop:=∀ i j,i<=j->j < m->R r p j<=R r p i
theorem getD_eq{p q:Array Nat}{i j:Nat}(h:p[i]?=q[j]?):p.getD i 0=q.getD j 0:=by
 rw[BL,BL,h]
theorem zf6{p:Array Nat}{i j:Nat}(hj:j<=p.size)(k:Nat):(kas_rev p i j).getD k 0=if i<=k/\k < j then p.getD (i+j - 1 - k) 0 else p.getD k 0:=by
 have e:=getElem?_mirror_all (i:=i) hj k;unfold kas_rev
 by_cases h:i<=k/\k < j
 . rw[if_pos h] at e ⊢;exact getD_eq e
 . rw[if_neg h] at e ⊢;exact getD_eq e
theorem zjV{p:Array Nat}{src d:Nat}(hs:src < p.size)(hd:d<=src)(k:Nat):(bubble p src d).getD k 0=if k=src - d then p.getD src 0 else if src - d < k/\k<=src then p.getD (k - 1) 0 else p.getD k 0:=by
 have e:=getElem?_bubble hs d hd k
 by_cases h1:k=src - d
 . rw[if_pos h1] at e ⊢;exact getD_eq e
 . rw[if_neg h1] at e ⊢
   by_cases h2:src - d < k/\k<=src
   . rw[if_pos h2] at e ⊢;exact getD_eq e
   . rw[if_neg h2] at e ⊢;exact getD_eq e
theorem ze2{p:Array Nat}{i j:Nat}(hj:j<=p.size)(h:Bel n p):Bel n (kas_rev p i j):=fun k=>by
 rw[zf6 hj];split
 . exact h _
 . exact h _
theorem zmS{p:Array Nat}{src d:Nat}(hs:src < p.size)(hd:d<=src)(h:Bel n p):Bel n (bubble p src d):=fun k=>by
 rw[zjV hs hd]
 by_cases h1:k=src - d
 . rw[if_pos h1];exact h _
 . rw[if_neg h1]
   by_cases h2:src - d < k/\k<=src
   . rw[if_pos h2];exact h _
   . rw[if_neg h2];exact h _
theorem zkj(p:Array Nat)(i j:Nat):(kas_rev p i j).size=p.size:=mirror_size _ _ _ _
theorem ziI(p:Array Nat)(i j:Nat):(kas_rev p i j).Perm p:=mirror_perm _ _ _ _
theorem Up.more{p:Array Nat}{m:Nat}(h:Up r p m)(hl:m=0\/R r p (m - 1)<=R r p m):Up r p (m+1):=fun i j hij hj=>by
 by_cases hm:j < m
 . exact h i j hij hm
 . have e:j=m:=by omega
   subst e
   by_cases hi:i=j
   . rw[hi];exact BV _
   . rcases hl with hl | hl
     . omega
     . exact CZ (h i (j - 1) (by omega) (by omega)) hl
theorem Dn.more{p:Array Nat}{m:Nat}(h:Dn r p m)(hl:m=0\/R r p m<=R r p (m - 1)):Dn r p (m+1):=fun i j hij hj=>by
 by_cases hm:j < m
 . exact h i j hij hm
 . have e:j=m:=by omega
   subst e
   by_cases hi:i=j
   . rw[hi];exact BV _
   . rcases hl with hl | hl
     . omega
     . exact CZ hl (h i (j - 1) (by omega) (by omega))
theorem zlf{p:Array Nat}(hb:Bel n p):∀ (f m:Nat),1<=m->Up r p m->Hd n r (kas_asc p f m) fun m'=>m<=m'/\m'<=m+f/\Up r p m'/\(m' < m+f->R r p m' < R r p (m' - 1))
 | 0,m,h1,h=>⟨Ah _,Ah _,h,fun z=>absurd z (AR _)⟩
 | f+1,m,h1,h=>by
   refine⟨⟨hb _,hb _⟩,?_⟩
   by_cases c:r (p.getD m 0) < r (p.getD (m - 1) 0)
   . refine zhL c ?_;exact⟨Ah _,CQ _ _,h,fun _=>c⟩
   . refine zhM c ?_;refine Hd.mono (fun m' h'=>?_) (zlf hb f (m+1) (by omega) (h.more (.inr (Int.not_lt.mp c))));exact⟨by omega,by omega,h'.2.2.1,fun z=>h'.2.2.2 (by omega)⟩
def Eqs(r:Nat->Int)(p:Array Nat)(i j:Nat):Prop:=∀ k,i<=k->k < j->R r p k=R r p (j - 1)
theorem zg8{p:Array Nat}{i j:Nat}(hj:j<=p.size)(h:Eqs r p i j)(k:Nat):R r (kas_rev p i j) k=R r p k:=by
 unfold R;rw[zf6 hj]
 split
 . rename_i hk;have h1:=h (i+j - 1 - k) (by omega) (by omega);have h2:=h k hk.1 hk.2;exact h1.trans h2.symm
 . rfl
theorem Dn.same{p p':Array Nat}{m:Nat}(h:Dn r p m)(e:∀ k,R r p' k=R r p k):Dn r p' m:=fun i j a b=>by rw[e,e];exact h i j a b
theorem znC{p:Array Nat}{m:Nat}(hm:m<=p.size)(h:Dn r p m):Up r (kas_rev p 0 m) m:=fun i j hij hj=>by
 unfold R;rw[zf6 hm,zf6 hm,if_pos (by omega),if_pos (by omega)];exact h (0+m - 1 - j) (0+m - 1 - i) (by omega) (by omega)
theorem zgl{N:Nat}:∀ (f:Nat) (p:Array Nat) (m q:Nat),Bel n p->p.size=N->1<=m->m+f<=N->q+1<=m->Dn r p m->Eqs r p (m - (q+1)) m ->
   Hd n r (kas_desc f p m q) fun t=>Bel n t.1/\t.1.Perm p/\m<=t.2.1/\t.2.1<=m+f/\t.2.2+1<=t.2.1/\Dn r t.1 t.2.1/\Eqs r t.1 (t.2.1 - (t.2.2+1)) t.2.1
 | 0,p,m,q,hb,hs,h1,h2,h3,hd,he=>⟨hb,Cv _,Ah _,Ah _,h3,hd,he⟩
 | f+1,p,m,q,hb,hs,h1,h2,h3,hd,he=>by
   refine⟨⟨hb _,hb _⟩,?_⟩
   by_cases c:r (p.getD m 0) < r (p.getD (m - 1) 0)
   . refine zhL c ?_;have one:∀ p':Array Nat,Eqs r p' (m+1 - (0+1)) (m+1):=fun p' k h1 h2=>by
       have e:k=m+1 - 1:=by omega
       subst e;rfl
     by_cases hq:q > 0
     . rw[if_pos hq];have hz:m<=p.size:=by omega
       have e:=zg8 hz he;refine Hd.mono (fun t ht=>?_) (zgl f (kas_rev p (m - (q+1)) m) (m+1) 0 (ze2 hz hb) ((zkj _ _ _).trans hs) (by omega) (by omega) (by omega) ((hd.more (.inr (C0 c))).same e) (one _));exact⟨ht.1,ht.2.1.trans (ziI _ _ _),by omega,by omega,ht.2.2.2.2⟩
     . rw[if_neg hq];refine Hd.mono (fun t ht=>?_) (zgl f p (m+1) 0 hb hs (by omega) (by omega) (by omega) (hd.more (.inr (C0 c))) (one _));exact⟨ht.1,ht.2.1,by omega,by omega,ht.2.2.2.2⟩
   . refine zhM c ?_;refine⟨⟨hb _,hb _⟩,?_⟩
     by_cases d:r (p.getD (m - 1) 0) < r (p.getD m 0)
     . refine zhL d ?_;exact⟨hb,Cv _,Ah _,CQ _ _,h3,hd,he⟩
     . refine zhM d ?_;have eq:R r p m=R r p (m - 1):=FC (Int.not_lt.mp d) (Int.not_lt.mp c);refine Hd.mono (fun t ht=>?_) (zgl f p (m+1) (q+1) hb hs (by omega) (by omega) (by omega) (hd.more (.inr (Int.not_lt.mp d))) fun k k1 k2=>?_)
       . exact⟨ht.1,ht.2.1,by omega,by omega,ht.2.2.2.2⟩
       . show R r p k=R r p (m+1 - 1)
         by_cases hk:k=m
         . rw[hk];rfl
         . rw[Nat.add_sub_cancel,eq];exact he k (by omega) (by omega)
def zor(n N:Nat)(r:Nat->Int)(p:Array Nat)(t:Nat×Array Nat):Prop:=Bel n t.2/\t.2.Perm p/\1<=t.1/\t.1<=N/\Up r t.2 t.1
theorem zgZ{N m:Nat}{p:Array Nat}(hb:Bel n p)(hs:p.size=N)(h1:1<=m)(h2:m<=N)(hd:Dn r p m):Hd n r (kas_tail3 m N p) (zor n N r p):=by
 unfold kas_tail3;have hz:m<=p.size:=by omega
 refine Hd.bind (Hd.mono (fun m' h'=>?_) (zlf (ze2 hz hb) (N - m) m h1 (znC hz hd)));exact⟨ze2 hz hb,ziI _ _ _,by omega,by omega,h'.2.2.1⟩
theorem zef{N m:Nat}{p:Array Nat}(hb:Bel n p)(hs:p.size=N)(h1:1<=m)(h2:m+1<=N)(hd:Dn r p (m+1)):Hd n r (kas_descPart m N p) (zor n N r p):=by
 unfold kas_descPart;refine Hd.bind (Hd.mono (fun t ht=>?_) (zgl (N:=N) (N - (m+1)) p (m+1) 0 hb hs (by omega) (by omega) (by omega) hd fun k k1 k2=>by
   have:k=m+1 - 1:=by omega
   rw[this]))
 obtain⟨t1,t2,t3,t4,t5,t6,t7⟩:=ht;have hsz:t.1.size=N:=t2.size_eq.trans hs
 by_cases hq:t.2.2 > 0
 . rw[if_pos hq];have hz:t.2.1<=t.1.size:=by omega
   refine Hd.mono (fun u hu=>?_) (zgZ (ze2 hz t1) ((zkj _ _ _).trans hsz) (by omega) (by omega) (t6.same (zg8 hz t7)));exact⟨hu.1,(hu.2.1.trans (ziI _ _ _)).trans t2,hu.2.2⟩
 . rw[if_neg hq];refine Hd.mono (fun u hu=>?_) (zgZ t1 hsz (by omega) (by omega) t6);exact⟨hu.1,hu.2.1.trans t2,hu.2.2⟩
theorem zk7{N:Nat}{p:Array Nat}(hb:Bel n p)(hs:p.size=N)(hN:1<=N):Hd n r (kas_count N p) (zor n N r p):=by
 unfold kas_count;have up1:Up r p 1:=fun i j a b=>by
   have:i=j:=by omega
   rw[this];exact BV _
 refine Hd.bind (Hd.mono (fun m hm=>?_) (zlf hb (N - 1) 1 (Ah _) up1));obtain⟨m1,m2,m3,m4⟩:=hm
 by_cases e:(m==N)=true
 . rw[if_pos e];exact⟨hb,Cv _,m1,by omega,m3⟩
 . rw[if_neg e];have ne:m≠N:=fun z=>e (by simp[z]);have lt:=m4 (by omega)
   by_cases g:m > 1
   . rw[if_pos g];refine⟨⟨hb _,hb _⟩,?_⟩
     by_cases c:r (p.getD 0 0) < r (p.getD (m - 1) 0)
     . refine zhL c ?_;exact⟨hb,Cv _,m1,by omega,m3⟩
     . refine zhM c ?_;have hz:m<=p.size:=by omega
       have all:∀ k,k < m->R r p k=R r p (m - 1):=fun k hk=>FC (m3 k (m - 1) (by omega) (by omega)) (CZ (Int.not_lt.mp c) (m3 0 k (by omega) hk));have e:=zg8 (i:=0) hz fun k _ hk=>all k hk;have dn:Dn r p m:=fun i j a b=>by rw[all i (by omega),all j b];exact BV _
       refine Hd.mono (fun u hu=>?_) (zef (ze2 (i:=0) hz hb) ((zkj _ _ _).trans hs) m1 (by omega) ((dn.more (.inr (C0 lt))).same e));exact⟨hu.1,hu.2.1.trans (ziI _ _ _),hu.2.2⟩
   . rw[if_neg g];have m1':m=1:=by omega
     subst m1';have dn:Dn r p 1:=fun i j a b=>by
       have:i=j:=by omega
       rw[this];exact BV _
     exact zef hb hs (Ah _) (by omega) (dn.more (.inr (C0 lt)))
theorem zfB{p:Array Nat}{k:Nat}(hb:Bel n p)(hu:Up r p k):∀ (f a b:Nat),a<=b->b<=k->b<=a+f->(∀ x,x < a->R r p x<=R r p k)->(∀ x,b<=x->x < k->R r p k<=R r p x) ->
   Hd n r (kas_place p k f a b) fun l=>l<=k/\(∀ x,x < l->R r p x<=R r p k)/\∀ x,l<=x->x < k->R r p k<=R r p x
 | 0,a,b,h1,h2,h3,hl,hr=>by
   have:a=b:=by omega
   subst this;exact⟨h2,hl,hr⟩
 | f+1,a,b,h1,h2,h3,hl,hr=>by
   unfold kas_place
   by_cases g:a ≥ b
   . rw[if_pos g];have:a=b:=by omega
     subst this;exact⟨h2,hl,hr⟩
   . rw[if_neg g];refine⟨⟨hb _,hb _⟩,?_⟩
     by_cases c:r (p.getD k 0) < r (p.getD ((a+b) / 2) 0)
     . refine zhL c ?_;refine zfB hb hu f a ((a+b) / 2) (by omega) (by omega) (by omega) hl fun x x1 x2=>?_;exact CZ (C0 c) (hu ((a+b) / 2) x x1 x2)
     . refine zhM c ?_;refine zfB hb hu f ((a+b) / 2+1) b (by omega) h2 (by omega) (fun x hx=>?_) hr;exact CZ (hu x ((a+b) / 2) (by omega) (by omega)) (Int.not_lt.mp c)
theorem zmY{N:Nat}:∀ (f:Nat) (p:Array Nat) (k:Nat),Bel n p->p.size=N->k+f=N->Up r p k->Hd n r (kas_bin f p k) fun q=>q.Perm p/\Up r q N
 | 0,p,k,hb,hs,hk,hu=>⟨Cv _,by rw[<-hk];exact hu⟩
 | f+1,p,k,hb,hs,hk,hu=>by
   unfold kas_bin;refine Hd.bind (Hd.mono (fun l hl=>?_) (zfB hb hu k 0 k (AU _) (Ah _) (by omega) (fun x hx=>absurd hx (Cw _)) fun x a b=>absurd (AC b a) (AR _)));obtain⟨l1,l2,l3⟩:=hl;have hks:k < p.size:=by omega
   refine Hd.mono (fun q hq=>⟨hq.1.trans (bubble_perm _ _ _),hq.2⟩) (zmY f (bubble p k (k - l)) (k+1) (zmS hks (by omega) hb) ((bubble_size _ _ _).trans hs) (by omega) fun i j hij hj=>?_);have g:∀ x,R r (bubble p k (k - l)) x=if x=l then R r p k else if l < x/\x<=k then R r p (x - 1) else R r p x:=fun x=>by
     unfold R;rw[zjV hks (by omega)];have e:k - (k - l)=l:=by omega
     rw[e]
     by_cases a1:x=l
     . rw[if_pos a1,if_pos a1]
     . rw[if_neg a1,if_neg a1]
       by_cases a2:l < x/\x<=k
       . rw[if_pos a2,if_pos a2]
       . rw[if_neg a2,if_neg a2]
   rw[g i,g j]
   by_cases h1:i=l
   . rw[if_pos h1]
     by_cases h2:j=l
     . rw[if_pos h2];exact BV _
     . rw[if_neg h2,if_pos (by omega)];exact l3 (j - 1) (by omega) (by omega)
   . rw[if_neg h1]
     by_cases h2:j=l
     . rw[if_pos h2,if_neg (by omega)];exact l2 i (by omega)
     . rw[if_neg h2]
       by_cases h3:l < i/\i<=k
       . rw[if_pos h3,if_pos (by omega)];exact hu (i - 1) (j - 1) (by omega) (by omega)
       . rw[if_neg h3]
         by_cases h4:l < j/\j<=k
         . rw[if_pos h4];exact hu i (j - 1) (by omega) (by omega)
         . rw[if_neg h4];exact hu i j hij (by omega)
theorem ziJ{n:Nat}(hn:1<=n):Bel n (BM (Ar n)):=fun k=>by
 rw[BL,Cg]
 by_cases h:k < n
 . rw[C7 h];exact h
 . rw[List.getElem?_eq_none_iff.mpr (by rw[B7];omega)];exact hn
theorem sort_ok(hn:1<=n):Hd n r (kas_sort n) fun q=>q.Perm (BM (Ar n))/\Up r q n:=by
 unfold kas_sort;have hs:(BM (Ar n)).size=n:=by simp
 refine Hd.bind (Hd.mono (fun t ht=>?_) (zk7 (ziJ hn) hs hn));obtain⟨t1,t2,t3,t4,t5⟩:=ht
 by_cases h:t.1 < n
 . rw[if_pos h];have e:max t.1 1=t.1:=Nat.max_eq_left t3;rw[e];refine Hd.mono (fun q hq=>⟨hq.1.trans t2,hq.2⟩) (zmY (N:=n) (n - t.1) t.2 t.1 t1 (t2.size_eq.trans hs) (by omega) t5)
 . rw[if_neg h];have e:t.1=n:=by omega
   exact⟨t2,by rw[<-e];exact t5⟩
end
end Srt
namespace L2.MP
open PySem PySem.Spec PyProof.Rows
theorem zmC:∀ a:List Int,HT.lexLt a a=false
 | []=>rfl
 | x::r=>by rw[HT.lexLt_cons,if_pos rfl];exact zmC r
theorem zjL:∀ {a b:List Int},HT.lexLt a b=false->HT.lexLt b a=false->a=b
 | [],[],_,_=>rfl
 | [],_::_,h,_=>by rw[HT.lexLt_nil_cons] at h;cases h
 | _::_,[],_,h=>by rw[HT.lexLt_nil_cons] at h;cases h
 | x::a,y::b,h1,h2=>by
   rw[HT.lexLt_cons] at h1 h2
   by_cases e:x=y
   . subst e;rw[if_pos rfl] at h1 h2;rw[zjL h1 h2]
   . rw[if_neg e] at h1;rw[if_neg (AV e)] at h2;have a1:=of_decide_eq_false h1;have a2:=of_decide_eq_false h2;omega
theorem zhA:∀ {a b c:List Int},HT.lexLt b a=false->HT.lexLt c b=false->HT.lexLt c a=false
 | a,[],c,_,h2=>by
   cases c with
   | nil =>
     cases a with
     | nil=>rfl
     | cons x a=>rename_i h1;rw[HT.lexLt_nil_cons] at h1;cases h1
   | cons z c =>
     cases a with
     | nil=>exact HT.lexLt_cons_nil _ _
     | cons x a=>rename_i h1;rw[HT.lexLt_nil_cons] at h1;cases h1
 | a,y::b,[],_,h2=>by rw[HT.lexLt_nil_cons] at h2;cases h2
 | [],y::b,z::c,_,_=>HT.lexLt_cons_nil _ _
 | x::a,y::b,z::c,h1,h2=>by
   rw[HT.lexLt_cons] at h1 h2 ⊢
   by_cases e1:y=x
   . subst e1;rw[if_pos rfl] at h1
     by_cases e2:z=y
     . subst e2;rw[if_pos rfl] at h2 ⊢;exact zhA h1 h2
     . rw[if_neg e2] at h2 ⊢;exact h2
   . rw[if_neg e1] at h1;have a1:=of_decide_eq_false h1
     by_cases e2:z=y
     . subst e2;rw[if_neg e1];exact h1
     . rw[if_neg e2] at h2;have a2:=of_decide_eq_false h2;rw[if_neg (by omega)];exact decide_eq_false (by omega)
theorem zjK{a b:List Int}(h:HT.lexLt a b=true):HT.lexLt b a=false:=by
 cases e:HT.lexLt b a with
 | false=>rfl
 | true =>
   -- b < a and a < b: then not (a < a) breaks
   exfalso;have:∀ {a b:List Int},HT.lexLt a b=true->HT.lexLt b a=true->False:=by
     intro a
     induction a with
     | nil=>intro b h1 h2;cases b with
       | nil=>rw[HT.lexLt_nil_nil] at h1;cases h1
       | cons y b=>rw[HT.lexLt_cons_nil] at h2;cases h2
     | cons x a ih=>intro b h1 h2;cases b with
       | nil=>rw[HT.lexLt_cons_nil] at h1;cases h1
       | cons y b =>
         rw[HT.lexLt_cons] at h1 h2
         by_cases q:x=y
         . subst q;rw[if_pos rfl] at h1 h2;exact ih h1 h2
         . rw[if_neg q] at h1;rw[if_neg (AV q)] at h2;have a1:=of_decide_eq_true h1;have a2:=of_decide_eq_true h2;omega
   exact this h e
noncomputable def tle(a b:List Int):Bool:=!HT.lexLt b a
noncomputable def zg2(ts:List (List Int)):List (List Int):=ts.mergeSort tle
theorem zei(a b c:List Int)(h1:tle a b=true)(h2:tle b c=true):tle a c=true:=by
 unfold tle at *;rw[Bm] at *;exact zhA h1 h2
theorem zio(a b:List Int):(tle a b || tle b a)=true:=by
 unfold tle
 cases e:HT.lexLt b a with
 | false=>rfl
 | true=>rw[zjK e];rfl
theorem zj2{a b:List Int}(h1:tle a b=true)(h2:tle b a=true):a=b:=by
 unfold tle at *;rw[Bm] at *;exact zjL h2 h1
noncomputable def rank(ts:List (List Int))(i:Nat):Int:=((ts.countP fun t=>HT.lexLt t (ts.getD i [])):Nat)
theorem zjC{ts:List (List Int)}{i j:Nat}(hi:i < ts.length):(decide (rank ts i < rank ts j))=HT.lexLt (ts.getD i []) (ts.getD j []):=by
 unfold rank
 cases e:HT.lexLt (ts.getD i []) (ts.getD j []) with
 | true =>
   refine decide_eq_true ?_;have le:ts.countP (fun t=>HT.lexLt t (ts.getD i [])) < ts.countP (fun t=>HT.lexLt t (ts.getD j [])):=by
     have hm:ts.getD i []∈ts:=by rw[Ax,Aj hi];exact AZ hi
     generalize ha:ts.getD i []=a at *;generalize hb:ts.getD j []=b at *;clear ha hb hi;have sub:∀ t,HT.lexLt t a=true->HT.lexLt t b=true:=fun t ht=>by
       cases q:HT.lexLt t b with
       | true=>rfl
       | false =>
         exfalso
         -- b<=t,t < a,a < b
         have h1:HT.lexLt a t=false:=zjK ht;have:HT.lexLt a b=false:=by
           have h2:tle b t=true:=by unfold tle;rw[q];rfl
           have h3:tle t a=true:=by unfold tle;rw[h1];rfl
           have:=zei b t a h2 h3;unfold tle at this;rw[Bm] at this;exact this
         rw[e] at this;cases this
     induction ts with
     | nil=>exact absurd hm (by simp)
     | cons t r ih =>
       rw[Fq,Fq]
       rcases List.mem_cons.mp hm with q | q
       . subst q;rw[zmC,e];have:r.countP (fun t=>HT.lexLt t a)<=r.countP (fun t=>HT.lexLt t b):=Eg fun t _ ht=>sub t ht;simp only[Ay,if_false,if_true];omega
       . have:=ih q
         by_cases c:HT.lexLt t a=true
         . rw[if_pos c,if_pos (sub t c)];omega
         . rw[if_neg c];split <;> omega
   omega
 | false =>
   refine decide_eq_false ?_;have le:ts.countP (fun t=>HT.lexLt t (ts.getD j []))<=ts.countP (fun t=>HT.lexLt t (ts.getD i [])):=Eg fun t _ ht=>by
     cases q:HT.lexLt t (ts.getD i []) with
     | true=>rfl
     | false =>
       exfalso;have h2:tle (ts.getD j []) (ts.getD i [])=true:=by unfold tle;rw[e];rfl
       have h3:tle (ts.getD i []) t=true:=by unfold tle;rw[q];rfl
       have h4:=zei _ _ _ h2 h3;unfold tle at h4;rw[ht] at h4;cases h4
   omega
theorem zog{n:Nat}{r:Nat->Int}{α:Type}{P:α->Prop}{Q:α->Shared->Prop}{s:Shared}{cmp:Nat->Nat->(Bool->Shared->Prop)->Shared->Prop}(hc:∀ i j,i < n->j < n->∀ C:Bool->Shared->Prop,C (decide (r i < r j)) s->cmp i j C s)(hq:∀ a,P a->Q a s) :
   ∀ {t:PySem.W.KasT α},Srt.Hd n r t P->t.kasWp cmp Q s
 | .ret a,h=>hq a h
 | .ask i j k,h=>hc i j h.1.1 h.1.2 _ (zog hc hq (t:=k _) h.2)
section
variable {prog:Program} {w:World} {A:Around} {E:Value->Shared->Prop} {s:Shared}
theorem zed{Q:Bool->Shared->Prop}:∀ {xs ys:List Int} {us ws:List Value} (i:Nat),Vals (xs.map V.int) us->Vals (ys.map V.int) ws->Q (HT.lexLt xs ys) s->PySem.W.KatLex prog w A true (decide (us.length < ws.length)) Q (us.zip ws) i s
 | [],[],_,_,i,.nil,.nil,h=>h
 | [],y::ys,_,_,i,.nil,.cons r t,h=>by
   show Q (decide (_ < _)) s;rw[decide_eq_true (by simp)];exact h
 | x::xs,[],_,_,i,.cons r t,.nil,h=>by
   show Q (decide (_ < _)) s;rw[decide_eq_false (by simp)];exact h
 | x::xs,y::ys,_,_,i,.cons r1 t1,.cons r2 t2,h=>by
   obtain⟨a1,rfl⟩:=r1;obtain⟨a2,rfl⟩:=r2;rw[HT.lexLt_cons] at h;refine SeqAt.EqAt.int_int x a1 y a2 prog w _ _ ?_
   by_cases e:x=y
   . subst e;rw[if_pos rfl] at h;rw[beq_self_eq_true,if_pos rfl];have:=zed (Q:=Q) (i+1) t1 t2 h;rw[AW,AW];have e2:∀ a b:Nat,decide (a+1 < b+1)=decide (a < b):=fun a b=>by
       by_cases q:a < b
       . rw[decide_eq_true q,decide_eq_true (by omega)]
       . rw[decide_eq_false q,decide_eq_false (by omega)]
     rw[e2];exact this
   . rw[if_neg e] at h;have hb:(x==y)=false:=by simpa using e
     rw[hb,if_neg Bi]
     by_cases hi:i=0
     . subst hi;exact oneLt_int h
     . have:(true&&i==0)=false:=by simpa using hi
       rw[this];exact PySem.W.kat_one _ _ (lt_int h)
end
section
variable {X:Cx} {pins:List (Addr×Obj)} {σ:L2.St} {H:Hp} {s:Shared}
noncomputable def zgO(H:Hp):List V->List (List Int)->Prop:=Paired fun v t=>∃ a,v=.ref a/\H a=some (.tup (t.map V.int))/\t≠[]
theorem zfr:∀ {xs:List V} {ts:List (List Int)} {i:Nat},zgO H xs ts->i < ts.length->∃ a,xs[i]?=some (.ref a)/\H a=some (.tup ((ts.getD i []).map V.int))/\ts.getD i []≠[]
 | _,[],i,_,hi=>absurd hi (by simp)
 | _,t::ts,0,.cons r q,_=>by
   obtain⟨a,rfl,ha,hn⟩:=r;exact⟨a,rfl,ha,hn⟩
 | _,t::ts,i+1,.cons r q,hi=>by
   have:=zfr (i:=i) q (by simpa using hi);simpa using this
theorem zmZ{A:Around}{xs:List V}{us:List Value}{ts:List (List Int)}{s':Shared}(I:Inv X pins σ H s)(hk:∀ b o,H b≠none->s.heap.get? b=some o->s'.heap.get? b=some o)(T:zgO H xs ts)(r:Vals xs us){i j:Nat}(hi:i < ts.length)(hj:j < ts.length)(C:Bool->Shared->Prop)
   (h:C (decide (rank ts i < rank ts j)) s'):FD X.prog X.w A (PyProof.Rows.tuples' true) us i j C s':=by
 rw[zjC hi] at h;obtain⟨a,ea,ha,_⟩:=zfr T hi;obtain⟨b,eb,hb,_⟩:=zfr T hj;obtain⟨u,eu,ru⟩:=r.get ea;obtain⟨u2,eu2,ru2⟩:=r.get eb;cases ru;cases ru2;obtain⟨ia,va,⟨oa,ga,ca,na,da⟩,_⟩:=I.tuple (SqT.of (K:=X.K) ha);obtain⟨ib,vb,⟨ob,gb,cb,nb,db⟩,_⟩:=I.tuple (SqT.of (K:=X.K) hb);unfold FD;rw[Ax,Ax,eu,eu2];refine PySem.W.kat_lt (hk _ _ (by rw[ha];simp) ga) da (hk _ _ (by rw[hb];simp) gb) db ?_;have:=zed (prog:=X.prog) (w:=X.w) (A:=A) (Q:=C) (s:=s') 0 va vb h;simpa using this
end
section
variable {X:Cx} {pins:List (Addr×Obj)} {σ:L2.St} {H:Hp} {s:Shared}
theorem zfM{h':Heap}(I:Inv X pins σ H s)(hk:∀ b o,H b≠none->s.heap.get? b=some o->h'.get? b=some o):∀ {xs:List V} {us:List Value} {ts:List (List Int)},zgO H xs ts->Vals xs us ->
   ∃ fs:List Value,PySem.W.KatTups h' us fs/\fs.length=us.length/\∀ v∈fs,∃ i t,v=EM i t
 | _,_,[],.nil,.nil=>⟨[],Gd,rfl,fun v hv=>absurd hv (by simp)⟩
 | _,_,t::ts,.cons r q,.cons rv rvs=>by
   obtain⟨a,rfl,ha,hn⟩:=r;cases rv;obtain⟨fs,h1,h2,h3⟩:=zfM I hk q rvs;obtain⟨its,va,⟨o,g,c,n,d⟩,_⟩:=I.tuple (SqT.of (K:=X.K) ha)
   cases t with
   | nil=>exact absurd rfl hn
   | cons x t =>
     cases va with
     | @cons _ u _ us' ru rus =>
       obtain⟨tk,rfl⟩:=ru;refine⟨.int x tk::fs,Ga (hk _ _ (by rw[ha];simp) g) c d (by simp) h1,by rw[AW,AW,h2],fun v hv=>?_⟩
       rcases List.mem_cons.mp hv with rfl | hv
       . exact⟨x,tk,rfl⟩
       . exact h3 v hv
end
theorem zga{P:Program}{w:World}{H:Hp}{h:Heap}{a:Addr}{o:HO}(x:zdk P w H h a o):∃ u,h.get? a=some u:=by
 cases o with
 | lst xs=>obtain⟨_,_,_,_,e⟩:=x;exact⟨_,e⟩
 | tup xs=>obtain⟨_,_,_,o,e,_⟩:=x;exact⟨_,e⟩
 | dK kvs=>obtain⟨_,_,_,_,o,_,_,e,_⟩:=x;exact⟨_,e⟩
 | dT kvs=>obtain⟨_,_,_,_,o,_,_,e,_⟩:=x;exact⟨_,e⟩
 | set S n=>obtain⟨o,_,_,_,e,_⟩:=x;exact⟨_,e⟩
 | ins C dx fs=>obtain⟨_,_,_,e,_⟩:=x;exact⟨_,e⟩
 | own y=>exact x
 | xd fs=>obtain⟨_,⟨_,_,_,e,_⟩,_⟩:=x;exact⟨_,e⟩
 | rng lo hi=>obtain⟨_,_,_,e⟩:=x;exact⟨_,e⟩
 | frz ob u=>obtain⟨e,_⟩:=x;exact⟨_,e⟩
 | tbl ps=>exact⟨_,x⟩
 | met f y=>exact⟨_,x⟩
 | ext φ=>obtain⟨_,e,_⟩:=x;exact e
theorem zmw{h:Heap}{a:Addr}{m m':Str->Option Value}(x:h.Ns a m)(y:h.Ns a m'):m=m':=by
 obtain⟨o,es,ep,ho,hd,_,hm⟩:=x;obtain⟨o',es',ep',ho',hd',_,hm'⟩:=y;rw[ho] at ho';cases ho';rw[hd] at hd';cases hd'
 funext n
 rw[<-hm n,hm' n]
section
variable {X:Cx} {pins:List (Addr×Obj)} {σ:L2.St} {H:Hp} {s:Shared}
theorem Inv.laidAt{h':Heap}{m:Str->Option Value}{a:Addr}{o:HO}(I:Inv X pins σ H s)(k:∀ b u,b≠X.env.locals->s.heap.get? b=some u->h'.get? b=some u)(ns:∀ m,s.heap.Ns X.env.locals m->h'.Ns X.env.locals m)(hL:∃ u,h'.get? X.env.locals=some u)
   (ha:s.heap.get? a=none) (hH:H a=none) (haL:a≠X.env.locals) (new:zdk X.prog X.w (upd H a o) h' a o):Inv X pins σ (upd H a o) { s with heap:=h' }:=by
 have na:∀ b u,s.heap.get? b=some u->b≠a:=fun b u e z=>by rw[z,ha] at e;cases e
 refine Inv.step (t':=s.toks) (ch:=[]) (g':=s.gens) (d':=s.drawn) I (fun b hb=>absurd hb (by simp)) (fun b u h1 _ _ e _=>k b u h1 e) (fun b u h1 _ _ e _=>⟨u.slots,k b u h1 e⟩) (fun b u _ e n=>by rw[zaP (na b u e)];exact n) (fun b u _ e=>?_)
   (fun b xs e=>by rw[zaP (zao e hH)];exact e) (fun b u v e=>by rw[zaP (zao e hH)];exact e) (fun b ps e=>⟨#[],by rw[zaP (zao e hH),e];simp⟩) ns (fun b u e=>?_) I.bare
 . by_cases hb:b=X.env.locals
   . rw[hb];exact hL
   . exact⟨u,k b u hb e⟩
 . by_cases hb:b=a
   . subst hb;rw[zbY] at e;cases e;exact new
   . rw[zaP hb] at e;refine (I.hok b u e).stay (fun c v hc q=>k c v (fun z=>?_) q) (fun c q=>by rw[zaP (zao q hH)];exact q) fun c xs q=>by rw[zaP (zao q hH)];exact q
     subst z
     rcases hc with rfl | hc
     . rw[I.free] at e;cases e
     . rw[I.free] at hc;cases hc
theorem zgw{xs:List V}{ts:List (List Int)}{l:Addr}{Q:VK}(I:Inv X pins σ H s)(hl:SqL X.K H l xs)(T:zgO H xs ts)(h2:2<=ts.length)(h64:ts.length < 64)
   (h:∀ (q:Array Nat) (p:Addr),q.Perm (BM (Ar ts.length))->Srt.Up (rank ts) q ts.length->H p=none->Q (.ref p) (upd H p (.lst (q.toList.map fun i=>xs.getD i .non)))) :
   wpAny (model X.prog X.w) X.A (call (.builtin "sorted") [.ref l]) (EP X pins σ Q) X.xe s:=by
 obtain⟨its,rv,pl,hz⟩:=I.list hl;have hlen:its.length=ts.length:=by
   have a:=rv.length;have b:=BR T;omega
 obtain⟨m,F⟩:=I.fr;have trkL:∀ b,H b≠none->b≠X.env.locals:=fun b hb z=>hb (by rw[z];exact I.free);have trkB:∀ b,H b≠none->X.base.get? b=none:=fun b hb=>by
   cases e:X.base.get? b with
   | none=>rfl
   | some o=>exact absurd (I.bs b o e).2 hb
 refine PySem.W.kat_sorted F (zfI (g:=X.base) (h:=s.heap) (L:=X.env.locals)) pl.isList (by omega) (by omega) fun D e1 h' F' N' hlt=>?_;have keep:∀ {h2:Heap} {o:Obj},Fr X.base X.env.locals h2 m->News X.base X.env.locals h2 ((D,o)::zdF X.base s.heap X.env.locals)->∀ b u,b≠X.env.locals->s.heap.get? b=some u->h2.get? b=some u:=fun {h2 o} F2 N2 b u hb e=>by
   cases q:X.base.get? b with
   | some v =>
     have z:=(I.bs b v q).1;rw[e] at z;cases z;exact F2.keep b _ q
   | none=>exact (N2 (b,u) (Af _ (zdb hb q e))).1
 have hk:∀ b o,H b≠none->s.heap.get? b=some o->h'.get? b=some o:=fun b o hb e=>keep F' N' b o (trkL b hb) e;have hDD:=N' _ Ag;have hsD:s.heap.get? D=none:=by
   cases e:s.heap.get? D with
   | none=>rfl
   | some u=>exact absurd (hlt _ (zdb hDD.2.1 hDD.2.2 e)) (AR _)
 have hHD:H D=none:=by
   cases e:H D with
   | none=>rfl
   | some o =>
     obtain⟨u,hu⟩:=zga (I.hok D o e);rw[hsD] at hu;cases hu
 obtain⟨fs,k1,k2,k3⟩:=zfM (h':=h') I hk T rv;refine Fs (s:={ s with heap:=h' }) (T:=.type "int") k1 (by omega) (fun v hv=>?_) rfl ?_
 . obtain⟨i,t,rfl⟩:=k3 v hv;exact Eh rfl
 have ok:=Srt.sort_ok (n:=its.length) (r:=rank ts) (by omega);refine zog (n:=its.length) (r:=rank ts) (s:={ s with heap:=h' }) (fun i j hi hj C hC=>zmZ (s':={ s with heap:=h' }) I hk T rv (by omega) (by omega) C hC) (fun q hq=>?_) ok;refine Et F' N' (Fc fun p hp=>AG (hlt p hp)) fun h2 c F2 N2=>?_;have hD2:=(N2 _ Ag).1;rw[hlen] at hq;have vals:Vals (q.toList.map fun i=>xs.getD i .non) (q.toList.map fun i=>its.getD i Bf):=by
   have hmem:∀ i∈q.toList,i < xs.length:=fun i hi=>by
     have:i∈(BM (Ar ts.length)).toList:=(Array.perm_iff_toList_perm.mp hq.1).mem_iff.mp hi;have hr:=rv.length;simp at this;omega
   generalize q.toList=ql at hmem
   induction ql with
   | nil=>exact .nil
   | cons i r ih =>
     refine .cons ?_ (ih fun j hj=>hmem j (Af _ hj));have hi:=hmem i Ag;obtain⟨u,eu,ru⟩:=rv.get (Aj hi);show RelV (xs.getD i V.non) (its.getD i Bf);rw[Ax,Ax,Aj hi,eu];exact ru
 have hql:q.toList.length=ts.length:=by
   have:=(Array.perm_iff_toList_perm.mp hq.1).length_eq;simpa using this
 have J:Inv X pins σ (upd H D (.lst (q.toList.map fun i=>xs.getD i .non))) { s with heap:=h2 } :=
   Inv.laidAt (m:=m) I (keep F2 N2) (fun m' hm'=>by rw[zmw hm' F.ns];exact F2.ns) (let ⟨o,_,_,e,_⟩:=F2.ns;⟨o,e⟩) hsD hHD hDD.2.1 ⟨by rw[Ad,hql];exact lt64 h64,_,c,vals,hD2⟩
 exact⟨.ref D,_,J,rfl,h q D hq.1 hq.2 hHD⟩
end
theorem zeC{α:Type}(ts:List α)(d:α):(Ar ts.length).map (fun i=>ts.getD i d)=ts:=by
 apply List.ext_getElem
 . simp
 . intro i h1 h2;simp[Ax,Aj h2]
theorem zd6{ts:List (List Int)}{q:Array Nat}(hp:q.Perm (BM (Ar ts.length)))(hu:Srt.Up (rank ts) q ts.length):q.toList.map (fun i=>ts.getD i [])=zg2 ts:=by
 have hl:=Array.perm_iff_toList_perm.mp hp;have hl:q.toList.Perm (Ar ts.length):=by simpa using hl
 have hsz:q.toList.length=ts.length:=by rw[hl.length_eq,B7]
 have p1:(q.toList.map fun i=>ts.getD i []).Perm ts:=by
   have:=hl.map fun i=>ts.getD i [];rw[zeC] at this;exact this
 refine zdt (le:=fun a b=>tle a b=true) (p1.trans (Cr ts tle).symm) ?_ (DU (fun a b c=>zei a b c) zio ts) fun a _ b _=>zj2;rw[DB];intro i j hi hj hij;rw[DN,DN];rw[Ad] at hi hj;have hu:=hu i j (Ca hij) (by omega);have gi:∀ (k:Nat) (hk:k < q.toList.length),q.getD k 0=q.toList[k]:=fun k hk=>by
   rw[BL,<-AD,Aj hk];rfl
 unfold Srt.R at hu;rw[gi i hi,gi j hj] at hu;have lt:∀ k∈q.toList,k < ts.length:=fun k hk=>List.mem_range.mp (hl.mem_iff.mp hk);have e:=zjC (ts:=ts) (i:=q.toList[j]) (j:=q.toList[i]) (lt _ (AZ hj));rw[decide_eq_false (by omega)] at e;unfold tle;rw[<-e];rfl
noncomputable def intsOf:List D->Option (List Int)
 | []=>some []
 | .int i::r=>(intsOf r).map fun is=>i::is
 | _=>none
theorem zgH{d:D}{r:List D}{ss:List Int}(h:intsOf (d::r)=some ss):∃ x xs,d=.int x/\intsOf r=some xs/\ss=x::xs:=by
 cases d with
 | int x =>
   obtain⟨xs,e,h⟩:=zai h;exact⟨x,xs,rfl,e,h.symm⟩
 | _=>cases h
noncomputable def rowOf:D->Option (List Int)
 | .tup ds=>(intsOf ds).bind fun t=>if (!t.isEmpty)=true then some t else none
 | _=>none
noncomputable def rowsOf:List D->Option (List (List Int))
 | []=>some []
 | d::r=>(rowOf d).bind fun t=>(rowsOf r).map fun ts=>t::ts
noncomputable def tupD(t:List Int):D:=.tup (t.map D.int)
section
variable {X:Cx} {K:Ac} {H:Hp} {io:List Addr} {st st':Sto}
theorem ints_rep:∀ {xs:List V} {ds:List D} {t:List Int},Reps K H io xs ds->intsOf ds=some t->xs=t.map V.int/\ds=t.map D.int
 | _,[],t,h,e=>by cases e;exact⟨h,rfl⟩
 | _,d::ds,t,h,e=>by
   obtain⟨y,ys,rfl,h1,h2⟩:=h;obtain⟨x,rest,rfl,e2,rfl⟩:=zgH e;obtain⟨a,b⟩:=ints_rep h2 e2
   cases (show y=.int x from h1)
   rw[a,b];exact⟨rfl,rfl⟩
theorem zg7:∀ {xs:List V} {ds:List D} {ts:List (List Int)},Reps K H io xs ds->rowsOf ds=some ts->zgO H xs ts/\ds=ts.map tupD
 | _,[],ts,h,e=>by
   cases e;cases (show _=[] from h);exact⟨.nil,rfl⟩
 | _,d::ds,ts,h,e=>by
   obtain⟨y,ys,rfl,h1,h2⟩:=h;obtain⟨t,e1,e⟩:=zad e;obtain⟨us,e2,e⟩:=zai e;subst e;obtain⟨a,b⟩:=zg7 h2 e2
   cases d with
   | tup zs =>
     obtain⟨t',f1,f2⟩:=zad e1;obtain⟨hn,f2⟩:=zal f2;cases f2;obtain⟨p,vs,rfl,hp,rs⟩:=h1;obtain⟨q1,q2⟩:=ints_rep rs f1;subst q1;refine⟨.cons ⟨p,rfl,hp,fun z=>?_⟩ a,?_⟩
     . rw[z] at hn;exact absurd hn (by decide)
     . rw[b,q2];rfl
   | _=>cases e1
noncomputable def zen:GN
 | [.ref n],st=>(za9 st n).bind fun ds=>(rowsOf ds).bind fun ts=>if (decide (2<=ts.length)&&decide (ts.length < 64))=true then some (.ref st.length,st++[.lst ((zg2 ts).map tupD)]) else none
 | _,_=>none
theorem zet{xs:List V}{ts:List (List Int)}(r:Reps K H io xs (ts.map tupD)):∀ {q:List Nat},(∀ i∈q,i < ts.length)->Reps K H io (q.map fun i=>xs.getD i .non) ((q.map fun i=>ts.getD i []).map tupD)
 | [],_=>rfl
 | i::q,h=>by
   have hi:=h i Ag;have hg:(ts.map tupD)[i]?=some (tupD (ts.getD i [])):=by
     rw[Av,Aj hi,Ax,Aj hi];rfl
   obtain⟨v,hv,rv⟩:=r.get hg;refine⟨_,_,rfl,?_,zet r fun j hj=>h j (Af _ hj)⟩;show Rep K H io (xs.getD i .non) _;rw[Ax,hv];exact rv
theorem zfi:zdl X (.builtin "sorted") zen:=by
 rintro pins s σ H xs us Q I r ⟨ds,st,io,d,st',R,S,e,k⟩;unfold zen at e
 split at e
 . rename_i n;obtain⟨zs,e0,e⟩:=zad e;obtain⟨ts,e1,e⟩:=zad e;obtain⟨hl,e⟩:=zal e;cases e;rw[AA] at hl;obtain⟨v,rfl,p,rfl,hp⟩:=R.one;obtain⟨u,rfl,ru⟩:=r.one;cases ru;obtain⟨ys,hx,r1⟩:=zaU S hp e0;obtain⟨T,hd⟩:=zg7 r1 e1;subst hd;refine zgw I hx T (of_decide_eq_true hl.1) (of_decide_eq_true hl.2) fun q p' hq hu hf=>?_;have hm:∀ i∈q.toList,i < ts.length:=fun i hi=>by
     have:=(Array.perm_iff_toList_perm.mp hq).mem_iff.mp hi;simpa using this
   have rr:=zet r1 hm;rw[zd6 hq hu] at rr;exact k.lst S rr hf
 . cases e
end
section
variable {X:Cx} {K:Ac} {H:Hp} {io:List Addr} {st st':Sto} {a b c e:Expr} {es:List Expr} {ma mb mc m:ME} {mm:MA} {pos:Pos} {pins:List (Addr×Obj)} {σ:L2.St} {s:Shared}
noncomputable def orO{α:Type}:Option α->Option α->Option α
 | some x,_=>some x
 | none,y=>y
theorem zch{α:Type}{x y:Option α}{z:α}(h:orO x y=some z):x=some z\/y=some z:=by
 cases x with
 | none=>exact .inr h
 | some w=>exact .inl h
noncomputable def orG(g h:G2):G2:=fun x y st=>orO (g x y st) (h x y st)
noncomputable def orN(g h:GN):GN:=fun xs st=>orO (g xs st) (h xs st)
theorem zhj{f:Value->Value->Sem Value}{g h:G2}(p:OpM X f g)(q:OpM X f h):OpM X f (orG g h):=by
 rintro pins s σ H x y v u Q I rx ry ⟨dx,dy,st,io,d,st',Rx,Ry,S,e,k⟩
 rcases zch e with e | e
 . exact p pins s σ H x y v u Q I rx ry ⟨dx,dy,st,io,d,st',Rx,Ry,S,e,k⟩
 . exact q pins s σ H x y v u Q I rx ry ⟨dx,dy,st,io,d,st',Rx,Ry,S,e,k⟩
theorem zdf{f:Value}{g h:GN}(p:zdl X f g)(q:zdl X f h):zdl X f (orN g h):=by
 rintro pins s σ H xs us Q I r ⟨ds,st,io,d,st',R,S,e,k⟩
 rcases zch e with e | e
 . exact p pins s σ H xs us Q I r ⟨ds,st,io,d,st',R,S,e,k⟩
 . exact q pins s σ H xs us Q I r ⟨ds,st,io,d,st',R,S,e,k⟩
theorem zgd{g:G2}{ρ:Rho}{x y:D}{s0 s1 s2:Sto}{r:D×Sto}(h1:ma ρ s0=some (x,s1))(h2:mb ρ s1=some (y,s2))(h3:g x y s2=some r):mBin g ma mb ρ s0=some r:=by
 unfold mBin;rw[h1];show F9 (mb ρ s1) _=_;rw[h2];exact h3
theorem zlQ{g h:G2}(p:SE X e (mBin g ma mb))(q:SE X e (mBin h ma mb)):SE X e (mBin (orG g h) ma mb):=by
 rintro pins s σ H Q I ⟨ρ,st,io,d,st',E,S,e,k⟩;obtain⟨⟨x,s1⟩,e1,e⟩:=zad e;obtain⟨⟨y,s2⟩,e2,e⟩:=zad e
 rcases zch e with e | e
 . exact p pins s σ H Q I ⟨ρ,st,io,d,st',E,S,zgd e1 e2 e,k⟩
 . exact q pins s σ H Q I ⟨ρ,st,io,d,st',E,S,zgd e1 e2 e,k⟩
theorem zkh{g h:G2}(p:SB X e (mTst (mBin g ma mb)))(q:SB X e (mTst (mBin h ma mb))):SB X e (mTst (mBin (orG g h) ma mb)):=by
 rintro pins s σ H Q I ⟨ρ,st,io,d,st',E,S,e,k⟩;have e:=zin e;obtain⟨⟨x,s1⟩,e1,e⟩:=zad e;obtain⟨⟨y,s2⟩,e2,e⟩:=zad e
 rcases zch e with e | e
 . exact p pins s σ H Q I ⟨ρ,st,io,d,st',E,S,by unfold mTst;rw[zgd e1 e2 e];rfl,k⟩
 . exact q pins s σ H Q I ⟨ρ,st,io,d,st',E,S,by unfold mTst;rw[zgd e1 e2 e];rfl,k⟩
noncomputable def zpn:G2:=fun d k st=>match d with
 | .ref n=>(look st n k).bind fun r=>r.map fun v=>(v,st)
 | _=>none
noncomputable def ixA:G2:=orG idxD zpn
theorem zaA(hu:X.A.units+1 < cLine)(ha:SE X a ma)(hb:SE X b mb)(hs:zie b:=by intro _ _;rfl)(hs':NoSl b:=by intro _ _;rfl):SE X (.Subscript a b pos) (mBin ixA ma mb) :=
 zlQ (zoU ha hb hs) (show SE X (.Subscript a b pos) (zoD ma mb) from zlV hu ha hb hs')
noncomputable def dinD(neg:Bool):G2:=fun k d st=>match d with
 | .ref n=>(look st n k).map fun r=>(.bl (if neg then !r.isSome else r.isSome),st)
 | _=>none
noncomputable def inA:G2:=orG (orG (inD false) inSD) (dinD false)
noncomputable def zkx:G2:=orG (inD true) (dinD true)
theorem zlU(hu:X.A.units+100 < cLine)(ha:SE X a ma)(hb:SE X b mb)(hm:behindInMarks .In b=false:=by rfl):SE X (.Compare a [.In] [b] pos) (mBin inA ma mb) :=
 zlQ (zeX (zhj (zms hu) zjD) ha hb hm) (show SE X _ (mDIn false ma mb) from zns (by omega) ha hb hm)
theorem zlZ(hu:X.A.units+100 < cLine)(ha:SE X a ma)(hb:SE X b mb)(hm:behindInMarks .In b=false:=by rfl):SB X (.Compare a [.In] [b] pos) (mTst (mBin inA ma mb)) :=
 zkh (zbh (zhj (zms hu) zjD) ha hb hm) (show SB X _ (mTst (mDIn false ma mb)) from znw (by omega) ha hb hm)
theorem ziD(hu:X.A.units+100 < cLine)(ha:SE X a ma)(hb:SE X b mb)(hm:behindInMarks .NotIn b=false:=by rfl):SB X (.Compare a [.NotIn] [b] pos) (mTst (mBin zkx ma mb)) :=
 zkh (zbh (ziP hu) ha hb hm) (show SB X _ (mTst (mDIn true ma mb)) from ziE (by omega) ha hb hm)
noncomputable def slA:D->Option Int->Option Int->Sto->Option (D×Sto):=fun x lo hi st=>orO (slD x lo hi st) (slS x lo hi st)
noncomputable def mSlA(m:ME)(l h:MO):ME:=fun ρ st=>(m ρ st).bind fun (x,s1)=>(l ρ s1).bind fun (lo,s2)=>(h ρ s2).bind fun (hi,s3)=>slA x lo hi s3
theorem ziA{lo hi:Option Expr}{ml mh:MO}{p2:Pos}(he:SE X e m)(hl:SO X lo ml)(hu:SO X hi mh):SE X (.Subscript e (.Slice lo hi none p2) pos) (mSlA m ml mh):=by
 rintro pins s σ H Q I ⟨ρ,st,io,d,st',E,S,e0,k⟩;obtain⟨⟨x,s1⟩,e1,e0⟩:=zad e0;obtain⟨⟨lo',s2⟩,e2,e0⟩:=zad e0;obtain⟨⟨hi',s3⟩,e3,e0⟩:=zad e0
 rcases zch e0 with e0 | e0
 . exact zkf he hl hu pins s σ H Q I ⟨ρ,st,io,d,st',E,S,by simp only[mSl,e1,e2,e3,Ab];exact e0,k⟩
 . exact ziz he hl hu pins s σ H Q I ⟨ρ,st,io,d,st',E,S,by simp only[mSlS,e1,e2,e3,Ab];exact e0,k⟩
noncomputable def zij:D->Sto->Option (Wk×Sto)
 | .ref n,s=>(za9 s n).map fun ds=>(⟨ds,[(n,ds)]⟩,s)
 | .tup ds,s=>some (⟨ds,[]⟩,s)
 | _,_=>none
noncomputable def mW(m:ME):MI:=fun ρ st=>(m ρ st).bind fun (d,s)=>zij d s
theorem zlJ{tg l:Expr}(hl:SE X l m):SI X tg l (mW m):=by
 rintro pins s σ H R I ⟨ρ,st,io,W,st',E,S,e0,k⟩;obtain⟨⟨d,s1⟩,e1,e0⟩:=zad e0
 cases d with
 | ref n=>exact zlK hl pins s σ H R I ⟨ρ,st,io,W,st',E,S,by unfold mWL;rw[e1];exact e0,k⟩
 | tup ds=>exact zno hl pins s σ H R I ⟨ρ,st,io,W,st',E,S,by unfold mWT;rw[e1];exact e0,k⟩
 | _=>cases e0
noncomputable def setD:G3:=fun o i v st=>match o,i with
 | .ref n,.int k=>match st[n]? with
   | some (.lst ds)=>(ixN ds.length k).map fun j=>st.set n (.lst (ds.set j v))
   | _=>none
 | _,_=>none
theorem zoT:SetM X setD:=by
 rintro pins s σ H o i v ov iv u Q I ro ri rv ⟨d1,d2,d3,st,io,st',R1,R2,R3,S,e,k⟩
 cases d1 with
 | ref n =>
   cases d2 with
   | int j =>
     unfold setD at e;dsimp only at e
     split at e
     . rename_i ds e0;obtain⟨q,e1,e⟩:=zai e;cases e;obtain⟨p,rfl,hp⟩:=R1;obtain⟨ys,hH,r⟩:=S.ob n p _ hp e0;refine set_list pins s σ H _ _ v ov iv u Q I ro ri rv ⟨p,ys,j,q,rfl,R2,hH,by rw[r.length];exact e1,?_⟩;obtain⟨E',S'⟩:=zgC (o:=.lst (ys.set q v)) (ob:=.lst (ds.set q d3)) S hp e0 (fun o u z=>by rw[hH] at z;cases z) fun H' T e'=>⟨_,e',(Reps.mono T r).set q (Rep.mono T R3)⟩
       exact k _ [] E' S'
     . cases e
   | _=>cases e
 | _=>cases d2 <;> cases e
noncomputable def putA(mo mi mv:ME):MS:=fun ρ st=>orO (mAsg mv (gSb setD mo mi) ρ st) (zn4 mo mi mv ρ st)
theorem zlG{o i value:Expr}{mo mi mv:ME}{pos':Pos}(hu:X.A.units+1 < cLine)(ho:SE X o mo)(hi:SE X i mi)(hv:SE X value mv)(hs:swapsWith value (some (.Subscript o i pos')) pos.line X.env=pure false:=by rfl)
   (ha:∀ v,assign (.Subscript o i pos') X.env v=(do
     let ov <-holding [v] (eval o X.env)
     let iv <-holding [v,ov] (eval i X.env)
     standAt pos'
     holding [v,ov,iv] (setItem ov iv v)
     release [v,ov,iv] []):=by intro _;rfl)
   (hs2:swapsWithSole [.Subscript o i pos'] value pos.line X.env=pure false:=by rfl) (hw:swappedStores [.Subscript o i pos'] value X.env=pure none:=by rfl)
   (h1:(assignEach [.Subscript o i pos'] X.env).map (·.2)=[assign (.Subscript o i pos') X.env]:=by rfl):SS X (.Assign [.Subscript o i pos'] value pos) (putA mo mi mv):=by
 intro pins s σ H N I h;obtain⟨ρ,st,io,f,st',E,S,e,w⟩:=zcQ.mp h
 rcases zch e with e | e
 . exact zgv hv (znq ho hi zoT ha) hs2 hw h1 pins s σ H N I (zj1 E S e w)
 . exact zlH hu ho hi hv hs pins s σ H N I (zj1 E S e w)
noncomputable def mPar(i j:Nat)(mm:MA):MS:=fun ρ st=>(mm ρ st).bind fun (xs,s)=>match xs with
 | [x,y]=>some (.nx ((ρ.set i (some x)).set j (some y)),s)
 | _=>none
theorem zni{i j:Nat}{x y:Str}{px py pt:Pos}{kt k2 pt2}(hc:X.calm=true)(hN:X.N.Nodup)(hi:X.N[i]?=some x)(hj:X.N[j]?=some y)(hij:i≠j)
   (hx:X.env.scope.names.lookup x=some .local) (hy:X.env.scope.names.lookup y=some .local) (ha:SA X [a,b] mm)
   (hw:swappedStores [.Tuple [.Name x px,.Name y py] kt pt] (.Tuple [a,b] k2 pt2) X.env=pure (some [x,y]):=by rfl)
   (hs:swapsWithSole [.Tuple [.Name x px,.Name y py] kt pt] (.Tuple [a,b] k2 pt2) pos.line X.env=pure false:=by rfl) :
   SS X (.Assign [.Tuple [.Name x px,.Name y py] kt pt] (.Tuple [a,b] k2 pt2) pos) (mPar i j mm):=PS.imp (znH hc hN hi hj hij hx hy ha hw hs) fun N σ H h=>by
 obtain⟨ρ,st,io,f,st',E,S,e,w⟩:=zcQ.mp h;obtain⟨⟨xs,s1⟩,e1,e⟩:=zad e
 match xs,e,e1 with
 | [u,v],e,e1 =>
   cases e;refine⟨ρ,st,io,_,_,E,S,e1,fun vs H1 k1 X1 S1 R1=>?_⟩;obtain⟨p,q,rfl,r1,r2⟩:=R1.two;exact⟨p,q,rfl,w _ H1 k1 X1 S1 (((E.ext S X1).set i r1).set j r2)⟩
def zdg(P:Program)(w:World)(K:Ac)(mg:Str->Option Value)(base:Heap)(k:Nat)(x:Str)(n:Nat)(g:GN):Prop :=
 ∃ f fd ps,FnOk P w K mg base CX0 k f fd ps (spM K n g)/\mg x=some (.ref f)/\BW K (.ref f)=true/\Binds K fd ps []
def zan(n:Nat)(mm:MA):Prop:=∀ ρ st xs s,mm ρ st=some (xs,s)->xs.length=n
theorem zan.nil:zan 0 mNil:=fun _ _ _ _ h=>zkF h
theorem zan.cons{n:Nat}(h:zan n mm):zan (n+1) (zae m mm):=fun _ _ _ _ q=>zi0 h q
theorem zaj{x:Str}{p:Pos}{k n:Nat}{g:GN}(F:zdg X.prog X.w X.K X.mg X.base k x n g)(hr:Room k X.A)(hg:Gl X x)(ha:SA X (e::es) mm)(hl:zan n mm)(hdb:(x==("__debug__":Str))=false:=by decide)
   (he:starEach (e::es) X.env=(false,eval e X.env)::starEach es X.env:=by rfl) (hpl:(backTo pos (starEach es X.env)).any (·.1)=false:=by rfl) (hn:(e::es).length=n:=by rfl) :
   SE X (.Call (.Name x p) (e::es) [] pos) (zap g mm):=by
 obtain⟨f,fd,ps,F,hm,hk,hb⟩:=F;exact zlW F hr hg hm hk hb ha hdb he hpl hn hl
def Laid(K:Ac)(mg:Str->Option Value)(x:Str)(st:Stmt)(ps:List Str):Prop:=∃ f fd,Fun K x x st f fd/\mg x=some (.ref f)/\Binds K fd ps []
theorem zdW{P:Program}{w:World}{mg:Str->Option Value}{base:Heap}{x:Str}{st:Stmt}{N ps:List Str}{k:Nat}{m:MS}(L:Laid K mg x st ps)(S:FnScope N ps (zaz st))
   (hbody:∀ (f:Addr) (cdv:Value) (A:Around) (outer:List Env) (s:Shared) (H:Hp) (E:XK),Room k (A.deeper (envOfC x (zaz st) s.heap.objs.size f cdv)) ->
     SSs (cxOf CX0 P w K mg base N x (zaz st) f cdv A outer s H E).nox (zcD st) m):zdg P w K mg base (k+1) x ps.length (fnM N.length m):=by
 obtain⟨f,fd,F,hm,hb⟩:=L;exact⟨f,fd,ps,fn_m F S (hbody f),hm,F.kp,hb⟩
end
section
variable {prog:Program} {w:World} {A:Around} {E:Value->Shared->Prop} {s:Shared}
theorem zis{at_:Addr}{v:Value}{k:Nat}{R:PySem.Fin->Shared->Prop}(g0:s.heap.get? at_=some (seqObj "list" #[v] k))(fin:R (.done (.ret .none)) { s with heap:=sortedHeap s.heap at_ [v] #[v] }) :
   wpAny (model prog w) A (Builtin.«list.sort» ⟨[.ref at_],[]⟩) R E s:=by
 have lt0:=Am g0;obtain⟨ep,g1⟩:∃ ep,(s.heap.update at_ (Bq fun _=>(#[]:Array Value))).get? at_=some (seqObj "list" #[] ep):=⟨_,get?_update_seq g0 fun _=>#[]⟩
 have g2:(((s.heap.update at_ (Bq fun _=>(#[]:Array Value))).push (seqObj "tuple" #[v] 0)).push (seqObj "list" #[] 0)).get? at_=some (seqObj "list" #[] ep):=Ai _ (Ai _ g1);rw[list_sort_plain];refine Aa (listItems_at g0 rfl (Aa (Dr g0 rfl (Aa (Ea g1 rfl (Aa (wpAny_newTuple (Aa (Ds (A9 ?_))))))))));show wpAny (model prog w) A _ R E { s with heap:=((s.heap.update at_ (Bq fun _=>(#[]:Array Value))).push (seqObj "tuple" #[v] 0)).push (seqObj "list" #[] 0) };have two:(#[v]:Array Value).size < 2:=by show 1 < 2;decide
 have same:(arrOf (Gb general' ((#[v]:Array Value).zip #[v]) #[] 7 none)).map (·.2)=#[v]:=by
   show (((#[v]:Array Value).zip #[v]).map (·.2))=#[v];simp
 dsimp only;rw[if_pos two,if_pos two];refine Aa (Ae ?_);rw[FE];refine Aa (Ae ?_);dsimp only;rw[same];refine Aa (Ea g2 rfl (Aa (Dr g2 rfl ?_)));simp only[bne_self_eq_false,Ay,if_false];exact Ae fin
theorem zgx{l:Addr}{v:Value}{R:Value->Shared->Prop}(hl:s.heap.IsList l [v].toArray)(fin:R (.ref (s.heap.objs.size+1)) { s with heap:=sortedAll s.heap [v] #[v] }) :
   wpAny (model prog w) A (call (.builtin "sorted") [.ref l]) R E s:=by
 have sz:((s.heap.push (seqObj "list" #[] 0)).update s.heap.objs.size (Bq (·++[v].toArray))).objs.size=s.heap.objs.size+1:=(Heap.size_update ..).trans (size_push' ..);have g0:(((s.heap.push (seqObj "list" #[] 0)).update s.heap.objs.size (Bq (·++[v].toArray))).push (seqObj "list" [v].toArray 0)).get? (s.heap.objs.size+1)=some (seqObj "list" [v].toArray 0):=by
   rw[<-sz];exact Az _ rfl
 refine DC kind_sorted plain_sorted entry_sorted (args_sorted1 _) ?_;unfold Builtin.«sorted»;refine Aa (m:=checkCount "sorted" 1 1 _) (Ae (Aa (collect_list hl (Aa (Ds ?_)))));show wpAny _ _ _ _ _ { s with heap:=((s.heap.push (seqObj "list" #[] 0)).update s.heap.objs.size (Bq (·++[v].toArray))).push (seqObj "list" [v].toArray 0) };rw[sz];exact Aa (A9 (Bo slot_list_sort ⟨_,g0,rfl⟩ entry_list_sort (zis g0 ⟨_,rfl,Ae ⟨_,rfl,fin⟩⟩) (args_list_sort _)))
end
section
variable {X:Cx} {K:Ac} {H:Hp} {io:List Addr} {st st':Sto}
noncomputable def zdu:GN
 | [.ref n],st=>(za9 st n).bind fun ds=>if decide (ds.length=1)=true then some (.ref st.length,st++[.lst ds]) else none
 | _,_=>none
theorem zfk:zdl X (.builtin "sorted") zdu:=by
 rintro pins s σ H xs us Q I r ⟨ds,st,io,d,st',R,S,e,k⟩;unfold zdu at e
 split at e
 . rename_i n;obtain⟨zs,e0,e⟩:=zad e;obtain⟨hl,e⟩:=zal e;cases e;obtain⟨y,rfl⟩:=List.length_eq_one_iff.mp (of_decide_eq_true hl);obtain⟨v,rfl,p,rfl,hp⟩:=R.one;obtain⟨u,rfl,ru⟩:=r.one;cases ru;obtain⟨ys,hx,r1⟩:=zaU S hp e0;obtain⟨its,rv,pl,hz⟩:=I.list hx;obtain⟨y',rfl,ry⟩:=r1.one;obtain⟨i,rfl,ri⟩:=rv.one;refine zgx pl.isList ?_;obtain⟨ep,hat⟩:=sortedAll_at s.heap [i] #[i];have hfree:H (s.heap.objs.size+1)=none:=I.hok.fresh (Bz _);refine⟨.ref (s.heap.objs.size+1),upd H (s.heap.objs.size+1) (.lst [y']),I.laid (t':=s.toks) (a:=s.heap.objs.size+1) (fun b o q=>sortedAll_old q) (Bz _) ⟨by show 1<=sizeLine;decide,[i],ep,rv,by simpa using hat⟩,rfl,?_⟩;exact k.lst S r1 hfree
 . cases e
noncomputable def zcR:GN:=orN zcG (orN zdu zen)
theorem zfO:zdl X (.builtin "sorted") zcR:=zdf zfj (zdf zfk zfi)
end
theorem zk5{P:Program}{w:World}{H:Hp}{h:Heap}{d:Addr}{o:Obj}{ps:List (List Key×V)}{es:Array DictEntry}{ep:Nat}(x:zdk P w H h d (.frz o (.dT ps)))(dd:o.data=.dict es ep) :
   h.get? d=some o/\es.size=ps.length/\∀ (i:Nat) (k:List Key) (v:V),ps[i]?=some (k,v)->∃ (en:DictEntry) (b:Addr),es[i]?=some en/\en.key=.ref b/\H b=some (.tup (k.map kV))/\RelV v en.val:=by
 obtain⟨g,z,y,xs,r,o',es',ep',g',ex,dd',et,nd⟩:=x;rw[g] at g';cases g';rw[dd] at dd';cases dd';have hl:es.size=ps.length:=by
   have h1:=congrArg Fk et;have h2:=BR r;simp at h1;omega
 refine⟨g,hl,fun i k v hi=>?_⟩;have get:∀ {l:List (List Key×V)} {m:List (List Key×Addr×Value)} {i:Nat},Paired (fun (p:List Key×V) (q:List Key×Addr×Value)=>p.1=q.1/\H q.2.1=some (.tup (p.1.map kV))/\RelV p.2 q.2.2) l m->l[i]?=some (k,v)->∃ q,m[i]?=some q/\H q.2.1=some (.tup (k.map kV))/\RelV v q.2.2:=by
   intro l m i q
   induction q generalizing i with
   | nil=>intro e;simp at e
   | cons h t ih =>
     cases i with
     | zero =>
       intro e;simp at e;subst e;exact⟨_,rfl,h.2.1,h.2.2⟩
     | succ j=>intro e;exact ih (by simpa using e)
 obtain⟨q,hq,h1,h2⟩:=get r hi;have he:es[i]?=some (entryOfKey (tupleKind (zbx P w)) q):=by
   have:es.toList[i]?=some (entryOfKey (tupleKind (zbx P w)) q):=by rw[et,Av,hq];rfl
   simpa using this
 exact⟨_,q.2.1,he,rfl,h1,h2⟩
section
variable {X:Cx} {K:Ac} {H:Hp} {io:List Addr} {m:ME} {st st':Sto}
noncomputable def keyD:Key->D
 | .inl i=>.int i
 | .inr x=>.str x
theorem zfL:∀ (ks:List Key),Reps K H io (ks.map kV) (ks.map keyD)
 | []=>rfl
 | .inl i::r=>⟨_,_,rfl,rfl,zfL r⟩
 | .inr x::r=>⟨_,_,rfl,rfl,zfL r⟩
end
inductive Sr where
 | l (a:Addr) | t (a:Addr)
noncomputable def Sr.ad:Sr->Addr
 | .l a=>a
 | .t a=>a
noncomputable def Sr.ob:Sr->Obj
 | .l a=>{ cls:=.type "list_iterator",data:=.fields #[.ref a,.int 0 0] }
 | .t a=>{ cls:=.type "tuple_iterator",data:=.fields #[.ref a,.int 0 0] }
noncomputable def Sr.is(h:Heap)(xs:Array Value):Sr->Prop
 | .l a=>h.IsList a xs
 | .t a=>IsTup h a xs
noncomputable def Sr.at_(h:Heap)(i:Addr)(k:Nat):Sr->Prop
 | .l a=>h.IsListIter i a k
 | .t a=>IsTupIter h i a k
theorem Sr.is_keep{h h':Heap}{xs:Array Value}{x:Sr}(q:x.is h xs)(k:∀ u,h.get? x.ad=some u->h'.get? x.ad=some u):x.is h' xs:=by
 cases x with
 | l a=>exact Heap.IsList.at q k
 | t a=>obtain⟨o,g,c⟩:=q;exact⟨o,k o g,c⟩
theorem Sr.at_keep{h h':Heap}{i:Addr}{n:Nat}{x:Sr}(q:x.at_ h i n)(k:∀ u,h.get? i=some u->h'.get? i=some u):x.at_ h' i n:=by
 cases x with
 | l a=>exact Gf q k
 | t a=>obtain⟨o,g,c⟩:=q;exact⟨o,k o g,c⟩
theorem Sr.at_get{h:Heap}{i:Addr}{n:Nat}{x:Sr}(q:x.at_ h i n):∃ o vs,h.get? i=some o/\o.data=.fields vs:=by
 cases x with
 | l a=>obtain⟨o,g,c,d⟩:=q;exact⟨o,_,g,d⟩
 | t a=>obtain⟨o,g,c,d⟩:=q;exact⟨o,_,g,d⟩
section
variable {prog:Program} {w:World} {A:Around} {E:Value->Shared->Prop} {s:Shared}
theorem Sr.iter{x:Sr}{xs:Array Value}{R:Value->Shared->Prop}(h:x.is s.heap xs)(k:R (.ref s.heap.objs.size) { s with heap:=s.heap.push x.ob }):wpAny (model prog w) A (pyIter (.ref x.ad)) R E s:=by
 cases x with
 | l a=>exact B6 h k
 | t a=>exact iter_tuple h k
theorem zht{it a:Addr}{i:Nat}{xs:Array Value}{v:Value}{R:Value->Shared->Prop}(hit:IsTupIter s.heap it a i)(ht:IsTup s.heap a xs)(hx:xs[i]?=some v)
   (k:∀ h',IsTupIter h' it a (i+1)->Cb it s.heap h'->R v { s with heap:=h' }):wpAny (model prog w) A (Bn (.ref it)) R E s:=by
 obtain⟨ro,rg,rc,rd⟩:=id hit;obtain⟨to,tg,_,tn,td⟩:=ht;unfold Bn;refine Aa (Br (name:=Cc "__next__") hit.typeIs Cs (Bo Cs hit.typeIs Eu ?_ (EH _)));show wpAny _ _ (field (.ref it) 0 >>= _) _ _ s;refine Aa (Cq rg rd (x:=.ref a) rfl ?_);show wpAny _ _ (if (AJ a==Bf)=true then _ else _) _ _ s;rw[if_neg (show ¬ (AJ a==Bf)=true from fun z=>Bi z)];show wpAny _ _ (field (.ref it) 1 >>= _) _ _ s;refine Aa (Cq rg rd (x:=.int i 0) rfl ?_);show wpAny _ _ (seqItems? (.ref a) >>= _) _ _ s;refine Aa (Dc tg td ?_);simp only[AS,hx];refine Aa (De rg rd (by simp) (Ae ⟨v,rfl,Ae (k _ ⟨_,Cd _ rg (Ei (CC rd _)),(Fd ..).trans rc,?_⟩ (BF ..))⟩));rw[CC rd];simp[rawInt]
theorem zeB{it a:Addr}{i:Nat}{xs:Array Value}{R:Value->Shared->Prop}(hh:A.handled=none)(hit:IsTupIter s.heap it a i)(ht:IsTup s.heap a xs)(hx:xs[i]?=none)
   (k:∀ h' e,Fn it s.heap h'->(∃ o,h'.get? e=some o/\o.cls=.type "StopIteration")->E (.ref e) { s with heap:=h' }):wpAny (model prog w) A (Bn (.ref it)) R E s:=by
 obtain⟨ro,rg,rc,rd⟩:=id hit;obtain⟨to,tg,_,tn,td⟩:=ht;unfold Bn;refine Aa (Br (name:=Cc "__next__") hit.typeIs Cs (Bo Cs hit.typeIs Eu ?_ (EH _)));show wpAny _ _ (field (.ref it) 0 >>= _) _ _ s;refine Aa (Cq rg rd (x:=.ref a) rfl ?_);show wpAny _ _ (if (AJ a==Bf)=true then _ else _) _ _ s;rw[if_neg (show ¬ (AJ a==Bf)=true from fun z=>Bi z)];show wpAny _ _ (field (.ref it) 1 >>= _) _ _ s;refine Aa (Cq rg rd (x:=.int i 0) rfl ?_);show wpAny _ _ (seqItems? (.ref a) >>= _) _ _ s;refine Aa (Dc tg td ?_);simp only[AS,hx];refine Aa (wpAny_rule (Aa (De rg rd (by simp) ?_)));show wpAny _ _ (newExc (.type "StopIteration") [] >>= _) _ _ _;simp only[newExc,newTuple];refine Aa (Aa (A8 (Aa (m:=firstArgMember _ _) (Fo (a:=Bf) (by first | rfl | (simp only[firstArgMember];rfl)) (A8 ?_ (by size_fits)))) (by size_fits)));simp only[raiseNew];refine Aa (wpAny_handled ?_)
 first | rw[show A.in1.handled=none from hh] | rw[hh]
 refine Aa (Ae (wpAny_throw ?_));exact k _ _ (((BF ..).extBut.push _).push _) ⟨_,Az _ rfl,rfl⟩
theorem Sr.next{x:Sr}{it:Addr}{i:Nat}{xs:Array Value}{v:Value}{R:Value->Shared->Prop}(hit:x.at_ s.heap it i)(h:x.is s.heap xs)(hx:xs[i]?=some v)(k:∀ h',x.at_ h' it (i+1)->Cb it s.heap h'->R v { s with heap:=h' }) :
   wpAny (model prog w) A (Bn (.ref it)) R E s:=by
 cases x with
 | l a=>exact wpAny_nextOf_list_item hit h hx k
 | t a=>exact zht hit h hx k
theorem Sr.stop{x:Sr}{it:Addr}{i:Nat}{xs:Array Value}{R:Value->Shared->Prop}(hh:A.handled=none)(hit:x.at_ s.heap it i)(h:x.is s.heap xs)(hx:xs[i]?=none)
   (k:∀ h' e,Fn it s.heap h'->(∃ o,h'.get? e=some o/\o.cls=.type "StopIteration")->E (.ref e) { s with heap:=h' }):wpAny (model prog w) A (Bn (.ref it)) R E s:=by
 cases x with
 | l a=>exact wpAny_nextOf_list_end hh hit h hx k
 | t a=>exact zeB hh hit h hx k
end
theorem Sr.at_new{h:Heap}{x:Sr}{i:Addr}(g:h.get? i=some x.ob):x.at_ h i 0:=by
 cases x with
 | l a=>exact⟨_,g,rfl,rfl⟩
 | t a=>exact⟨_,g,rfl,rfl⟩
noncomputable def Sr.sq(H:Hp)(xs:List V):Sr->Prop
 | .l a=>H a=some (.lst xs)\/∃ o,H a=some (.frz o (.lst xs))
 | .t a=>H a=some (.tup xs)
theorem Sr.sq_ne{H:Hp}{xs:List V}{x:Sr}{b:Addr}(h:x.sq H xs)(hb:H b=none):x.ad≠b:=by
 cases x with
 | l a=>rcases h with h | ⟨o,h⟩ <;> exact zao h hb
 | t a=>exact zao (show H a=some (.tup xs) from h) hb
theorem Sr.sq_inj{H:Hp}{xs ys:List V}{x:Sr}(h:x.sq H xs)(h':x.sq H ys):xs=ys:=by
 cases x with
 | l a=>rcases h with h | ⟨o,h⟩ <;> rcases h' with h' | ⟨o',h'⟩ <;> rw[h] at h' <;> cases h' <;> rfl
 | t a =>
   have h:H a=some (.tup xs):=h;have h':H a=some (.tup ys):=h';rw[h] at h';cases h';rfl
theorem Sr.sq_is{X:Cx}{pins:List (Addr×Obj)}{σ:L2.St}{H:Hp}{s:Shared}{xs:List V}{x:Sr}(I:Inv X pins σ H s)(h:x.sq H xs):∃ its:List Value,Vals xs its/\x.is s.heap its.toArray:=by
 cases x with
 | l a =>
   obtain⟨its,rv,p,_⟩:=I.list (show SqL X.K H a xs from .inl h);exact⟨its,rv,p.isList⟩
 | t a =>
   obtain⟨its,rv,p,_⟩:=I.tuple (SqT.of (K:=X.K) h);exact⟨its,rv,p⟩
section
variable {X:Cx} {K:Ac} {H:Hp} {io:List Addr} {ma mb:ME} {st st':Sto}
noncomputable def seqD(s:Sto):D->Option (List D×List (Nat×List D))
 | .ref n=>(za9 s n).map fun ds=>(ds,[(n,ds)])
 | .tup ds=>some (ds,[])
 | _=>none
theorem zlM{d:D}{v:V}{ds:List D}{g:List (Nat×List D)}(S:StR K H io st)(R:Rep K H io v d)(h:seqD st d=some (ds,g)):∃ x:Sr,v=.ref x.ad/\(∃ xs,x.sq H xs) /\
   ∀ H1 ka s1,Ext io ka H H1->StR K H1 (io++ka) s1->(∀ p,p∈g->s1[p.1]?=some (.lst p.2)\/s1[p.1]?=some (.fz p.2))->∃ xs,x.sq H1 xs/\Reps K H1 (io++ka) xs ds:=by
 cases d with
 | ref n =>
   obtain⟨l,e,q⟩:=zai h;cases q;obtain⟨p,rfl,hp⟩:=R;refine⟨.l p,rfl,?_,fun H1 ka s1 X1 S1 hs=>?_⟩
   . unfold za9 at e
     split at e
     . rename_i o he;cases e;obtain⟨xs,q,_⟩:=S.ob n p _ hp he;exact⟨xs,.inl q⟩
     . rename_i o he;cases e;obtain⟨ob,xs,q,_⟩:=S.ob n p _ hp he;exact⟨xs,.inr ⟨ob,q⟩⟩
     . cases e
   . rcases hs (n,ds) Ag with q | q
     . obtain⟨xs,q',r⟩:=S1.ob n p _ (zbG hp) q;exact⟨xs,.inl q',r⟩
     . obtain⟨ob,xs,q',r⟩:=S1.ob n p _ (zbG hp) q;exact⟨xs,.inr ⟨ob,q'⟩,r⟩
 | tup ts =>
   cases h;obtain⟨p,xs,rfl,hp,r⟩:=R;exact⟨.t p,rfl,⟨xs,hp⟩,fun H1 ka s1 X1 S1 _=>⟨xs,X1.sqT S p xs hp,r.ext S X1⟩⟩
 | _=>cases h
end
noncomputable def Caps(X:Cx)(fs:List Str):List Nat->List Str->Prop
 | [],[]=>True
 | j::js,x::xs=>(X.N[j]?=some x/\x∈fs)/\Caps X fs js xs
 | _,_=>False
noncomputable def Outs(X:Cx):List Str->Prop
 | []=>True
 | x::xs=>(X.env.kindOf x=some .cell\/X.env.kindOf x=some .free)/\Outs X xs
theorem Outs.get{X:Cx}:∀ {fs:List Str} {x:Str},Outs X fs->x∈fs->X.env.kindOf x=some .cell\/X.env.kindOf x=some .free
 | [],_,_,m=>nomatch m
 | y::ys,x,h,m=>by
   rcases List.mem_cons.mp m with rfl | m
   . exact h.1
   . exact Outs.get h.2 m
theorem Caps.get{X:Cx}{fs:List Str}:∀ {fr:List Nat} {xs:List Str} {i j:Nat} {x:Str},Caps X fs fr xs->fr[i]?=some j->xs[i]?=some x->X.N[j]?=some x/\x∈fs
 | [],[],i,j,x,_,h,_=>by simp at h
 | [],_::_,i,j,x,h,_,_=>h.elim
 | _::_,[],i,j,x,h,_,_=>h.elim
 | k::ks,y::ys,0,j,x,h,h1,h2=>by
   simp at h1 h2;subst h1 h2;exact h.1
 | k::ks,y::ys,i+1,j,x,h,h1,h2=>Caps.get (i:=i) h.2 (by simpa using h1) (by simpa using h2)
theorem za8{X:Cx}{scope:Scope}{N':List Str}{nt:Nat}{fr:List Nat}(fs:List Str)(kind:scope.kind=.function)(nd:(scope.names.map (·.1)).Nodup)(hf:scope.names.all (fun p=>!(p.2==AE) || fs.contains p.1)=true)
   (hb:fs.all (fun x=>scope.names.contains (x,AE))=true) (len:N'.length=nt+fr.length) (cap:Caps X fs fr (N'.drop nt)) (out:Outs X fs):CompS X scope N' nt fr:=by
 refine⟨kind,nd,len,fun i j x h1 h2=>?_,fun x hx=>?_⟩
 . have h2':(N'.drop nt)[i]?=some x:=by rw[List.getElem?_drop];exact h2
   obtain⟨a,b⟩:=cap.get h1 h2';refine⟨a,?_⟩;have:=List.all_eq_true.mp hb x b;simpa using this
 . have:=List.all_eq_true.mp hf _ hx;have hm:x∈fs:=by simpa using this
   exact out.get hm
theorem zc0:bootBuiltins "len"=some (.builtin "len"):=by decide +kernel
theorem zmW:bootBuiltins "abs"=some (.builtin "abs"):=by decide +kernel
theorem zle:bootBuiltins "min"=some (.builtin "min"):=by decide +kernel
theorem zeL:bootBuiltins "sorted"=some (.builtin "sorted"):=by decide +kernel
theorem zmV:bootBuiltins "all"=some (.builtin "all"):=by decide +kernel
theorem zom:bootBuiltins "int"=some (.type "int"):=by decide +kernel
theorem zmU:bootBuiltins "bool"=some (.type "bool"):=by decide +kernel
theorem zmT:bootBuiltins "list"=some (.type "list"):=by decide +kernel
theorem zdD:bootBuiltins "tuple"=some (.type "tuple"):=by decide +kernel
noncomputable def mulA:G2:=orG mulD zm7
theorem zd7{X:Cx}:OpM X (binaryOp .Mult) mulA:=zhj zmr zkt
theorem zjO{K:Ac}{H:Hp}{io:List Addr}:∀ (ns:List Int),Reps K H io (ns.map V.int) (ns.map D.int)
 | []=>rfl
 | n::ns=>⟨_,_,rfl,rfl,zjO ns⟩
theorem zj8{K:Ac}{H:Hp}{a:Addr}{ns:List Int}{g:GN}{st:Sto}{E:XK}(hO:Only H)(hS:SqL K H a (ns.map V.int))(e:g [.kl (ns.map D.int)] []=some (.bl true,st)):spM K 1 g [.ref a] H (fun v _=>v=.bl true) E:=by
 have hF:SqF K H a (ns.map V.int):=by
   rcases hS with (h | h) | h
   . rcases hO a with z | ⟨o,xs,z⟩
     . rw[z] at h;cases h
     . rw[z] at h;cases h
   . exact .inl h
   . exact .inr h
 refine⟨_,[],[],_,_,rfl,Reps.cons (show Rep K H [] (.ref a) (.kl (ns.map D.int)) from ⟨a,_,rfl,hF,zjO ns⟩) Reps.nil,⟨rfl,Ej,fun n b o h=>by simp at h⟩,e,fun v H' ka E' S' R'=>R'⟩
end L2.MP
namespace L2.MP
open PySem
structure Gr(st st':Sto):Prop where
 len:st.length<=st'.length
 old:∀ k,k < st.length->st'[k]?=st[k]?
theorem Gr.refl(st:Sto):Gr st st:=⟨Ah _,fun _ _=>rfl⟩
theorem Gr.trans{a b c:Sto}(h:Gr a b)(h':Gr b c):Gr a c:=⟨AH h.len h'.len,fun k hk=>(h'.old k (AC hk h.len)).trans (h.old k hk)⟩
theorem Gr.app(st:Sto)(l:List O):Gr st (st++l):=⟨by simp,fun k hk=>Ak hk⟩
theorem getElem?_lt{α:Type}{l:List α}{n:Nat}{x:α}(h:l[n]?=some x):n < l.length:=(List.getElem?_eq_some_iff.mp h).1
theorem zaS(st:Sto)(o:O):(st++[o])[st.length]?=some o:=getElem?_len st o
theorem zcW{W:Wk}{g:MG}{m:MS}:∀ {ds:List D} {Inv:Nat->Rho->Sto->Prop} {ρ:Rho} {st:Sto},Inv 0 ρ st->(∀ k ρ s,k<=ds.length->Inv k ρ s->walked W s=true) ->
   (∀ k d ρ s,ds[k]?=some d->Inv k ρ s->∃ ρ1 s1 ρ2 s2,g d ρ s=some (ρ1,s1)/\m ρ1 s1=some (.nx ρ2,s2)/\Inv (k+1) ρ2 s2)->∃ ρ' s',zeM W g m ds ρ st=some (.nx ρ',s')/\Inv ds.length ρ' s'
 | [],Inv,ρ,st,h0,wk,step=>⟨ρ,st,by unfold zeM;rw[if_pos (wk 0 ρ st (Ah _) h0)],h0⟩
 | d::ds,Inv,ρ,st,h0,wk,step=>by
   obtain⟨ρ1,s1,ρ2,s2,e1,e2,h1⟩:=step 0 d ρ st rfl h0;obtain⟨ρ',s',e,h⟩:=zcW (W:=W) (g:=g) (m:=m) (ds:=ds) (Inv:=fun k=>Inv (k+1)) h1 (fun k ρ s hk h=>wk (k+1) ρ s (Cj hk) h) (fun k d ρ s hd h=>step (k+1) d ρ s (by simpa using hd) h);refine⟨ρ',s',?_,h⟩;unfold zeM;rw[if_pos (wk 0 ρ st (AU _) h0),e1];simp only[Ab,e2];exact e
theorem znb{W:Wk}{g:MG}{c:MT}{m:ME}:∀ {ds:List D} {Inv:Nat->List D->Rho->Sto->Prop} {acc:List D} {ρ:Rho} {st:Sto},Inv 0 acc ρ st->(∀ k a ρ s,k<=ds.length->Inv k a ρ s->walked W s=true) ->
   (∀ k d a ρ s,ds[k]?=some d->Inv k a ρ s->∃ ρ1 s1 b s2,g d ρ s=some (ρ1,s1)/\c ρ1 s1=some (b,s2)/\((b=true/\∃ x s3,m ρ1 s2=some (x,s3)/\Inv (k+1) (a++[x]) ρ1 s3)\/(b=false/\Inv (k+1) a ρ1 s2))) ->
   ∃ xs ρ' s',mCI W g c m ds ρ st=some (xs,s')/\Inv ds.length (acc++xs) ρ' s'
 | [],Inv,acc,ρ,st,h0,wk,step=>⟨[],ρ,st,by unfold mCI;rw[if_pos (wk 0 acc ρ st (Ah _) h0)],by rw[As];exact h0⟩
 | d::ds,Inv,acc,ρ,st,h0,wk,step=>by
   obtain⟨ρ1,s1,b,s2,e1,e2,h1⟩:=step 0 d acc ρ st rfl h0;have wk':∀ k a ρ s,k<=ds.length->Inv (k+1) a ρ s->walked W s=true:=fun k a ρ s hk h=>wk (k+1) a ρ s (Cj hk) h;have st':∀ k d a ρ s,ds[k]?=some d->Inv (k+1) a ρ s->∃ ρ1 s1 b s2,g d ρ s=some (ρ1,s1)/\c ρ1 s1=some (b,s2)/\((b=true/\∃ x s3,m ρ1 s2=some (x,s3)/\Inv (k+1+1) (a++[x]) ρ1 s3)\/(b=false/\Inv (k+1+1) a ρ1 s2)):=fun k d a ρ s hd h=>step (k+1) d a ρ s (by simpa using hd) h
   rcases h1 with ⟨rfl,x,s3,e3,h1⟩ | ⟨rfl,h1⟩
   . obtain⟨xs,ρ',s',e,h⟩:=znb (W:=W) (g:=g) (c:=c) (m:=m) (ds:=ds) (Inv:=fun k=>Inv (k+1)) h1 wk' st';refine⟨x::xs,ρ',s',?_,by simpa using h⟩;unfold mCI;rw[if_pos (wk 0 acc ρ st (AU _) h0),e1];simp only[Ab,e2,if_true,e3,e,Aq]
   . obtain⟨xs,ρ',s',e,h⟩:=znb (W:=W) (g:=g) (c:=c) (m:=m) (ds:=ds) (Inv:=fun k=>Inv (k+1)) h1 wk' st';refine⟨xs,ρ',s',?_,h⟩;unfold mCI;rw[if_pos (wk 0 acc ρ st (AU _) h0),e1];simp only[Ab,e2,Ay,if_false,e]
theorem zhZ{W:Wk}{g:MG}{c:MT}{m:ME}{α:Type}{f h:α->D}{R:Rho->Prop}:∀ {as:List α} {ρ:Rho} {st:Sto},R ρ->walked W st=true->(∀ a∈as,∀ ρ,R ρ->∃ ρ1,g (f a) ρ st=some (ρ1,st)/\c ρ1 st=some (true,st)/\m ρ1 st=some (h a,st)/\R ρ1) ->
   mCI W g c m (as.map f) ρ st=some (as.map h,st)
 | [],ρ,st,r,wk,_=>by unfold mCI;rw[BB];simp only[wk,if_true,BB]
 | a::as,ρ,st,r,wk,hs=>by
   obtain⟨ρ1,e1,e2,e3,r1⟩:=hs a Ag ρ r;have e:=zhZ (W:=W) (g:=g) (c:=c) (m:=m) (f:=f) (h:=h) (R:=R) (as:=as) r1 wk fun b hb=>hs b (Af _ hb);rw[Au];unfold mCI;rw[if_pos wk,e1];simp only[Ab,e2,if_true,e3,e,Aq,Au]
theorem zcq{ds xs:List D}{n:Nat}{s:Sto}(h:s[n]?=some (.lst xs)):walked ⟨ds,[(n,xs)]⟩ s=true:=by
 unfold walked;simp only[EB,F0,FT];exact zhJ h
theorem zax{n:Nat}(h:n<=10000):fits n=true:=by
 unfold fits;exact decide_eq_true (AH h (by decide))
end L2.MP
namespace L2.MP
@[simp] theorem zb0{α:Type}(x:α)(y:Option α):orO (some x) y=some x:=rfl
@[simp] theorem zcT{α:Type}(y:Option α):orO none y=y:=rfl
end L2.MP
namespace L2.MP.Hn
open PySem L2.MP
end L2.MP.Hn
namespace L2.MP
open PySem
section
variable {ρ ρ1:Rho} {st s1:Sto} {m n ma mb:ME} {mm:MA} {ms mq:MS} {mt mu:MT} {g:G2} {gn:GN} {d:D} {i j:Nat} {ds:List D} {mg:MG} {mgs:MGs} {ml mh:MO}
@[simp] theorem zbP:mVar i ρ st=match ρ[i]? with
 | some (some d)=>some (d,st)
 | _=>none:=rfl
@[simp] theorem zb9:mCon d ρ st=some (d,st):=rfl
@[simp] theorem zbl:mBin g ma mb ρ st=(ma ρ st).bind fun p=>(mb ρ p.2).bind fun q=>g p.1 q.1 q.2:=rfl
@[simp] theorem zbH:mTst m ρ st=(m ρ st).bind fun p=>match p.1 with
 | .bl b=>some (b,p.2)
 | _=>none:=rfl
@[simp] theorem za5:zlo mt ρ st=(mt ρ st).map fun p=>(!p.1,p.2):=rfl
@[simp] theorem zbc:zmB mt mu ρ st=(mt ρ st).bind fun p=>if p.1=true then mu ρ p.2 else some (false,p.2):=rfl
@[simp] theorem zbJ:mOrT mt mu ρ st=(mt ρ st).bind fun p=>if p.1=true then some (true,p.2) else mu ρ p.2:=rfl
@[simp] theorem zaX:zkG m n ρ st=(mTst m ρ st).bind fun p=>if p.1=true then n ρ p.2 else some (.bl false,p.2):=rfl
theorem zbv:mOrV m n ρ st=(mTst m ρ st).bind fun p=>if p.1=true then some (.bl true,p.2) else n ρ p.2:=rfl
@[simp] theorem zaR:zap gn mm ρ st=(mm ρ st).bind fun p=>gn p.1 p.2:=rfl
@[simp] theorem zaJ:zae m mm ρ st=(m ρ st).bind fun p=>(mm ρ p.2).bind fun q=>some (p.1::q.1,q.2):=rfl
@[simp] theorem zbr:mNil ρ st=some ([],st):=rfl
@[simp] theorem zb3:mTup mm ρ st=(mm ρ st).bind fun p=>if fits p.1.length=true then some (.tup p.1,p.2) else none:=rfl
@[simp] theorem zbQ:mLst mm ρ st=(mm ρ st).bind fun p=>if fits p.1.length=true then some (.ref p.2.length,p.2++[.lst p.1]) else none:=rfl
@[simp] theorem zbI:mRet m ρ st=(m ρ st).map fun p=>(.rt p.1,p.2):=rfl
@[simp] theorem zbK:mExp m ρ st=(m ρ st).map fun p=>(.nx ρ,p.2):=rfl
@[simp] theorem zbi:mAsg m mg ρ st=(m ρ st).bind fun p=>(mg p.1 ρ p.2).map fun q=>(.nx q.1,q.2):=rfl
@[simp] theorem zd1:gNm i d ρ st=some (ρ.set i (some d),st):=rfl
@[simp] theorem za4:zcp ρ st=some (.nx ρ,st):=rfl
@[simp] theorem zdq:mIf mt ms mq ρ st=(mt ρ st).bind fun p=>if p.1=true then ms ρ p.2 else mq ρ p.2:=rfl
@[simp] theorem zb5:putA ma mb m ρ st=orO (mAsg m (gSb setD ma mb) ρ st) (zn4 ma mb m ρ st):=rfl
@[simp] theorem zdY{g3:G3}:gSb g3 ma mb d ρ st=(ma ρ st).bind fun p=>(mb ρ p.2).bind fun q=>(g3 p.1 q.1 d q.2).map fun s=>(ρ,s):=rfl
@[simp] theorem zdX:gTp i mgs d ρ st=match d with
 | .tup ds=>if ds.length=i then mgs ds ρ st else none
 | _=>none:=rfl
@[simp] theorem zb8:gN0 [] ρ st=some (ρ,st):=rfl
@[simp] theorem zd2:gC mg mgs (d::ds) ρ st=(mg d ρ st).bind fun p=>mgs ds p.1 p.2:=rfl
theorem ap_w:mW m ρ st=(m ρ st).bind fun p=>zij p.1 p.2:=rfl
@[simp] theorem zdE:mR1 m ρ st=(m ρ st).bind fun p=>match p.1 with
 | .int j=>if small j=true then some (⟨run 0 j.toNat,[]⟩,p.2) else none
 | _=>none:=rfl
@[simp] theorem zba:zb1 ρ st=some (true,st):=rfl
theorem zaG{mi:MI}{k:Nat}{fr:List Nat}:zbT mi k fr mg mt m ρ st=(mi ρ st).bind fun p=>(mCI p.1 mg mt m p.1.ds (rho0 ρ k fr) p.2).bind fun q=>if fits q.1.length=true then some (.ref q.2.length,q.2++[.lst q.1]) else none:=rfl
@[simp] theorem zbb{mi:MI}:mFor mi mg ms ρ st=(mi ρ st).bind fun p=>zeM p.1 mg ms p.1.ds ρ p.2:=rfl
theorem zb4:mSlA m ml mh ρ st=(m ρ st).bind fun p=>(ml ρ p.2).bind fun q=>(mh ρ q.2).bind fun r=>slA p.1 q.1 r.1 r.2:=rfl
@[simp] theorem zd0:zc5 ρ st=some (none,st):=rfl
@[simp] theorem zdZ:zcn m ρ st=(m ρ st).bind fun p=>match p.1 with
 | .int i=>some (some i,p.2)
 | _=>none:=rfl
@[simp] theorem zb7{T:String}:mIsi T m ρ st=(m ρ st).bind fun p=>(tyName p.2 p.1).map fun t=>(.bl (subT t T),p.2):=rfl
theorem za6:zm8 m mm ρ st=(m ρ st).bind fun p=>match p.1 with
 | .str _=>(mm ρ p.2).bind fun q=>zkT p.1 q.1 q.2
 | _=>none:=rfl
@[simp] theorem zca:mApp m mm ρ st=(m ρ st).bind fun p=>match p.1 with
 | .ref n=>(za9 p.2 n).bind fun _=>(mm ρ p.2).bind fun q=>zcE p.1 q.1 q.2
 | _=>none:=rfl
@[simp] theorem zb6:mPar i j mm ρ st=(mm ρ st).bind fun p=>match p.1 with
 | [x,y]=>some (.nx ((ρ.set i (some x)).set j (some y)),p.2)
 | _=>none:=rfl
theorem zak{r:Option (Fl×Sto)}(h:ms ρ st=some (.nx ρ1,s1))(k:mq ρ1 s1=r):mSeq ms mq ρ st=r:=by
 unfold mSeq;rw[h];exact k
theorem zco{s:Sto}(h:ms ρ st=some (.rt d,s)):mSeq ms mq ρ st=some (.rt d,s):=by
 unfold mSeq;rw[h];rfl
theorem zcX{N:Nat}{s:Sto}(h:ms (rho N ds) st=some (.rt d,s)):fnM N ms ds st=some (d,s):=by
 unfold fnM;rw[h];rfl
theorem zck{k:Nat}(h:k<=10000:=by decide):fits k=true:=zax h
@[simp] theorem zdV:fits 0=true:=zck
@[simp] theorem zdU:fits 1=true:=zck
@[simp] theorem zdT:fits 2=true:=zck
@[simp] theorem zdS:fits 3=true:=zck
@[simp] theorem zdR:fits 4=true:=zck
@[simp] theorem zdQ:fits 5=true:=zck
@[simp] theorem zdP:fits 6=true:=zck
@[simp] theorem zdO:fits 7=true:=zck
@[simp] theorem zdN:fits 8=true:=zck
theorem zeo{k:Int}(h0:0<=k)(h1:k<=1000000):small k=true:=by
 unfold small;simp;omega
theorem zcw{n:Nat}{ds:List D}{k:Int}{x:D}(h:st[n]?=some (.lst ds))(h0:0<=k)(hx:ds[k.toNat]?=some x):ixA (.ref n) (.int k) st=some (x,st):=by
 have hl:=getElem?_lt hx;have h1:k < ds.length:=by omega
 simp[ixA,orG,idxD,za9,h,atI,ixN,h0,h1,zb0];exact (List.getElem?_eq_some_iff.mp hx).2
theorem zbF{ds:List D}{k:Int}{x:D}(h0:0<=k)(hx:ds[k.toNat]?=some x):ixA (.tup ds) (.int k) st=some (x,st):=by
 have hl:=getElem?_lt hx;have h1:k < ds.length:=by omega
 simp[ixA,orG,idxD,atI,ixN,h0,h1,zb0];exact (List.getElem?_eq_some_iff.mp hx).2
theorem zgG{z:Str}{k:Int}{c:Nat}(hz:z.length<=10000)(h0:0<=k)(hx:z.cps[k.toNat]?=some c):ixA (.str z) (.int k) st=some (.str ⟨#[c]⟩,st):=by
 have hl:k.toNat < z.cps.size:=(Array.getElem?_eq_some_iff.mp hx).1;have h1:k < z.cps.size:=by omega
 have hf:fits z.length=true:=zax hz;simp[ixA,orG,idxD,atI,ixN,h0,h1,zb0,hf];exact (Array.getElem?_eq_some_iff.mp hx).2
theorem ze9{n:Nat}(h:st[n]?=some (.lst ds)):lenD [.ref n] st=some (.int ds.length,st):=by simp[lenD,za9,h]
theorem zec:lenD [.tup ds] st=some (.int ds.length,st):=rfl
theorem zfT{n:Nat}(h:st[n]?=some (.lst ds)):zcP [.ref n] st=some (.tup ds,st):=by simp[zcP,za9,h]
@[simp] theorem add_int(a b:Int):addD (.int a) (.int b) st=some (.int (a+b),st):=rfl
@[simp] theorem sub_int(a b:Int):subD (.int a) (.int b) st=some (.int (a - b),st):=rfl
theorem mul_int{a b:Int}(h:-1000000<=a/\a<=1000000):mulA (.int a) (.int b) st=some (.int (a*b),st):=by
 have:in64 a=true:=by unfold in64;simp;omega
 simp[mulA,orG,mulD,intD,this,zb0]
theorem zfl{a b:List D}(ha:a≠[])(h:a.length+b.length<=10000):addD (.tup a) (.tup b) st=some (.tup (a++b),st):=by
 have:fits (a.length+b.length)=true:=zax h
 cases a with
 | nil=>exact absurd rfl ha
 | cons x a=>simp[addD,this] at *
theorem zm4{a b:Nat}{x y:List D}(ha:st[a]?=some (.lst x))(hb:st[b]?=some (.lst y))(h:x.length+y.length<=10000):addD (.ref a) (.ref b) st=some (.ref st.length,st++[.lst (x++y)]):=by
 have:fits (x.length+y.length)=true:=zax h;simp[addD,ha,hb,this]
theorem add_str{a b:Str}(h:a.length+b.length<=10000):addD (.str a) (.str b) st=some (.str (a++b),st):=by
 have:fits (a.length+b.length)=true:=zax h;simp[addD,this]
end
end L2.MP
set_option linter.unusedSimpArgs false
namespace L2.MP.Hn
open PySem L2.MP
end L2.MP.Hn
namespace L2.MP
open PySem PySem.Builtin PySem.Builtin.Str
theorem join_nil:∀ cs:List Nat,(Str.join ("":Str) (cs.map fun c=>⟨#[c]⟩)).cps.toList=cs
 | []=>rfl
 | [c]=>rfl
 | c::d::cs=>by
   have ih:=join_nil (d::cs);show ((⟨#[c]⟩++("":Str)++Str.join ("":Str) ((d::cs).map fun c=>⟨#[c]⟩):Str)).cps.toList=_;have e:∀ a b:Str,(a++b).cps.toList=a.cps.toList++b.cps.toList:=fun a b=>by
     show (a.cps++b.cps).toList=_;simp
   rw[e,e,ih];rfl
theorem app_list(a b:Str):(a++b).cps.toList=a.cps.toList++b.cps.toList:=by
 show (a.cps++b.cps).toList=_;simp
theorem len_list(a:Str):a.length=a.cps.toList.length:=rfl
end L2.MP
namespace L2.MP
open PySem
theorem zfU{f:D->Option PyData}(hf:∀ x:Str,BK x=true->f (.str x)=some (.str x)):∀ {ss:List Str},(∀ x∈ss,BK x=true)->toPs f (ss.map D.str)=some (ss.map FG)
 | [],_=>rfl
 | x::ss,h=>by
   rw[Au,toPs,hf x (h x Ag),Ab,zfU hf fun y hy=>h y (Af _ hy)];rfl
theorem zju{n:Nat}{st:Sto}{x:Str}(h:BK x=true):toP (n+1) st (.str x)=some (.str x):=by
 rw[toP];simp[h]
theorem zgX{n:Nat}{st:Sto}{k:Nat}{ss:List Str}(hk:st[k]?=some (.lst (ss.map D.str)))(h:∀ x∈ss,BK x=true):toP (n+2) st (.ref k)=some (.list (ss.map FG)):=by
 rw[toP];simp only[za9,hk,Ab];rw[zfU (fun x hx=>zju hx) h];rfl
theorem ne_nil{st:Sto}{f g:Nat}{ss:List Str}(hf:st[f]?=some (.lst (ss.map D.str)))(hg:st[g]?=some (.lst []))(h:∀ x∈ss,BK x=true):neD (.ref f) (.ref g) st=some (.bl (!ss.isEmpty),st):=by
 unfold neD;rw[zgX (n:=98) hf h,zgX (n:=98) (ss:=[]) hg (by simp)]
 cases ss <;> rfl
theorem eq_int(a b:Int)(st:Sto):eqD (.int a) (.int b) st=some (.bl (a==b),st):=by
 unfold eqD;rw[toP,toP];simp[Ba]
end L2.MP
namespace L2.MP.Hn
open PySem L2.MP
noncomputable abbrev zav:Str:="abcdefghijklmnopqrstuvwxyz"
theorem zcu:∀ k:Nat,k < 26->zav.cps[k]?=some (97+k):=by decide +kernel
theorem zd4:∀ cs:List Nat,((cs.map fun c=>(⟨#[c]⟩:Str)).map (·.length)).sum=cs.length
 | []=>rfl
 | c::cs=>by
   have ih:=zd4 cs;simp only[Au,List.sum_cons,AW];rw[ih];show 1+_=_;omega
theorem joined{cs:List Nat}{st:Sto}{l:Nat}(hl:st[l]?=some (.lst (cs.map fun c=>.str ⟨#[c]⟩)))(hc:cs.length<=1000):∃ z:Str,zkT (.str "") [.ref l] st=some (.str z,st)/\z.cps.toList=cs:=by
 refine⟨Txt.join "" (cs.map fun c=>⟨#[c]⟩),?_,?_⟩
 . have e:cs.map (fun c=>D.str ⟨#[c]⟩)=(cs.map fun c=>(⟨#[c]⟩:Str)).map D.str:=by simp
   unfold zkT;simp only[za9,hl,Ab];rw[e,zds];simp only[Ab];rw[if_pos];apply decide_eq_true;have h0:(("":Str)).length=0:=by decide
   rw[h0,Nat.mul_zero,DO];rw[zd4];omega
 . show (Builtin.Str.glued "" _).cps.toList=cs;rw[StrLaws.glued_eq_join];exact join_nil cs
end L2.MP.Hn
namespace L2.MP
open PySem
noncomputable def za1(p:Str×Int):D:=.tup [.str p.1,.int p.2]
end L2.MP
namespace L2.MP.Hn
open PySem L2.MP
theorem zem{st:Sto}{l:Nat}{ss:List Str}(hl:st[l]?=some (.lst (ss.map D.str)))(h:ss.length < 64):zcR [.ref l] st=some (.ref st.length,st++[.lst ((zdh ss).map D.str)]):=by
 simp[zcR,orN,zcG,za9,hl,zds,h,zb0]
end L2.MP.Hn
namespace L2.MP
open PySem
theorem zfc:∀ t:List Int,intsOf (t.map D.int)=some t
 | []=>rfl
 | x::t=>by rw[Au,intsOf,zfc t];rfl
theorem ze1:∀ {rows:List (List Int)},(∀ r∈rows,r≠[])->rowsOf (rows.map tupD)=some rows
 | [],_=>rfl
 | r::rows,h=>by
   have hr:rowOf (tupD r)=some r:=by
     unfold rowOf tupD;simp only[zfc,Ab];have:r.isEmpty=false:=by
       cases r with
       | nil=>exact absurd rfl (h [] Ag)
       | cons a b=>rfl
     simp[this]
   rw[Au,rowsOf,hr,Ab,ze1 fun q hq=>h q (Af _ hq)];rfl
theorem zg1{st:Sto}{l:Nat}{rows:List (List Int)}(hl:st[l]?=some (.lst (rows.map tupD)))(h:∀ r∈rows,r≠[])(h64:rows.length < 64):zcR [.ref l] st=some (.ref st.length,st++[.lst ((zg2 rows).map tupD)]):=by
 match rows,hl,h,h64 with
 | [],hl,h,h64=>simp[zcR,orN,zcG,za9,hl,strsOf,zdh,zg2,zb0]
 | [r],hl,h,h64 =>
   have e:strsOf [tupD r]=none:=rfl;simp[zcR,orN,zcG,zdu,za9,hl,e,zg2,zb0,zcT]
 | r::q::rows,hl,h,h64 =>
   have e:strsOf (tupD r::tupD q::rows.map tupD)=none:=rfl;have e2:=ze1 h;simp only[Au] at e2;simp at h64;have h2:rows.length+1+1 < 64:=by omega
   simp[zcR,orN,zcG,zdu,zen,za9,hl,e,e2,zb0,zcT,h2]
theorem zeT(rows:List (List Int)):(zg2 rows).Perm rows:=Cr _ _
noncomputable abbrev Tl:=Int×Int×Int
noncomputable def rowT(t:Tl):List Int:=[t.1,t.2.1,t.2.2]
noncomputable def zgB(a b:Tl):Bool:=decide (a.1=b.1)&&decide (a.2.1=b.2.1)
def PlNd(l:List Tl):Prop:=l.Pairwise fun a b=>zgB a b=false
theorem zgA(a b:Tl):zgB a b=zgB b a:=by
 unfold zgB
 by_cases h1:a.1=b.1 <;> by_cases h2:a.2.1=b.2.1 <;> simp[h1,h2,eq_comm]
end L2.MP
namespace L2.MP.Hn
open PySem L2.MP
noncomputable def zar(ts:List Tl):D:=.tup (ts.map fun t=>tupD (rowT t))
noncomputable def zoo(r:List Int):Tl:=(r.getD 0 0,r.getD 1 0,r.getD 2 0)
noncomputable def srtT(l:List Tl):List Tl:=(zg2 (l.map rowT)).map zoo
theorem zel(l:List Tl):(srtT l).Perm l:=by
 have:=(zeT (l.map rowT)).map zoo;rw[A0] at this;have e:zoo ∘ rowT=id:=by funext t;rfl
 rw[e,List.map_id] at this;exact this
theorem zir(l:List Tl):(srtT l).map rowT=zg2 (l.map rowT):=by
 unfold srtT;rw[A0]
 conv=>rhs;rw[<-List.map_id (zg2 (l.map rowT))]
 apply C8;intro r hr;obtain⟨t,_,rfl⟩:=List.mem_map.mp ((zeT _).mem_iff.mp hr);rfl
theorem zcF{st:Sto}{l:Nat}{ts:List Tl}(hl:st[l]?=some (.lst (ts.map fun t=>tupD (rowT t))))(h64:ts.length < 64):zcR [.ref l] st=some (.ref st.length,st++[.lst ((srtT ts).map fun t=>tupD (rowT t))]):=by
 have hl':st[l]?=some (.lst ((ts.map rowT).map tupD)):=by rw[A0];exact hl
 have e:=zg1 hl' (fun r hr=>by obtain⟨t,_,rfl⟩:=List.mem_map.mp hr;simp[rowT]) (by rw[Ad];exact h64);rw[<-zir,A0] at e;exact e
end L2.MP.Hn
namespace L2.MP
open PySem PySem.Spec PyProof.Rows
section
variable {X:Cx} {K:Ac} {H:Hp} {io:List Addr} {st st':Sto} {a b c e:Expr} {es:List Expr} {ma mb mc m:ME} {mm:MA} {pos:Pos}
noncomputable def zdy:D->List D->Sto->Option (D×Sto):=fun x xs st=>match x,xs with
 | .ref n,[.ref k]=>match st[n]?,st[k]? with
   | some (.lst ds),some (.lst zs)=>if fits (ds.length+zs.length)=true then some (.non,st.set n (.lst (ds++zs))) else none
   | _,_=>none
 | _,_=>none
theorem extend_in{x:D}{xs:List D}{d:D}(h:zdy x xs st=some (d,st')):∃ n k ds zs,x=.ref n/\xs=[.ref k]/\st[n]?=some (.lst ds)/\st[k]?=some (.lst zs)/\ds.length+zs.length<=sizeLine/\d=.non/\st'=st.set n (.lst (ds++zs)):=by
 unfold zdy at h
 split at h
 . rename_i n k
   split at h
   . rename_i ds zs e1 e2;obtain⟨hf,h⟩:=zal h;cases h;exact⟨n,k,ds,zs,rfl,rfl,e1,e2,of_decide_eq_true hf,rfl,rfl⟩
   . cases h
 . cases h
theorem zhw:MtR X "list.extend" (mtM X.K zdy):=by
 rintro pins s σ H x xs v us Q I rx rs ⟨dx,ds,st,io,d,st',Rx,Rs,S,e,k⟩;obtain⟨n,j,l,zs,rfl,rfl,e1,e2,hl,rfl,rfl⟩:=extend_in e;obtain⟨p,rfl,hp⟩:=Rx;obtain⟨w,rfl,Rw⟩:=Rs.one;obtain⟨q,rfl,hq⟩:=Rw;obtain⟨ys,hH,r⟩:=S.ob n p _ hp e1;obtain⟨ws,hB,r2⟩:=S.ob j q _ hq e2;refine ziZ pins s σ H _ _ v us Q I rx rs ⟨p,q,ys,ws,rfl,rfl,hH,hB,by rw[r.length,r2.length];exact hl,?_⟩;obtain⟨E',S'⟩:=zgC (o:=.lst (ys++ws)) (ob:=.lst (l++zs)) S hp e1 (fun o u z=>by rw[hH] at z;cases z) fun H' T e'=>⟨_,e',(Reps.mono T r).append (Reps.mono T r2)⟩
 exact k _ _ [] E' S' rfl
noncomputable def mExt(m:ME)(mm:MA):ME:=fun ρ st=>(m ρ st).bind fun (x,s1)=>match x with
 | .ref n=>(za9 s1 n).bind fun _=>(mm ρ s1).bind fun (xs,s2)=>zdy x xs s2
 | _=>none
theorem zf3{o:Expr}{apos cpos:Pos}(ho:SE X o m)(ha:SA X (e::es) mm)
   (hbase:attributeBase o "extend" X.env (eval o X.env)=eval o X.env:=by rfl)
   (hfew:((backTo cpos (starEach (e::es) X.env)).all (fun x=>!x.1)&&(backToKw cpos (keywordEach [] X.env)).all (fun x=>x.1.isSome)
    &&decide ((e::es).length+([]:List Keyword).length+(if ([]:List Keyword).isEmpty then 0 else 1) < 30))=true:=by rfl)
   (hline:(apos.endLine==cpos.line)=true:=by rfl) (hs:starEach (e::es) X.env=(false,eval e X.env)::starEach es X.env:=by rfl) (hplain:(backTo cpos (starEach es X.env)).any (·.1)=false:=by rfl) :
   SE X (.Call (.Attribute o "extend" apos) (e::es) [] cpos) (mExt m mm) :=
 PE.imp (zm6 CH PySem.F.slot_list_extend PySem.F.type_list_extend zhw ho ha hbase hfew hline hs hplain) <| by
   rintro σ H Q ⟨ρ,st,io,d,st',E,S,e,k⟩;obtain⟨⟨x,s1⟩,e1,e⟩:=zad e
   cases x with
   | ref n =>
     obtain⟨l,e0,e⟩:=zad e;obtain⟨⟨xs,s2⟩,e2,e⟩:=zad e;refine⟨ρ,st,io,_,s1,E,S,e1,fun v1 H1 k1 X1 S1 R1=>⟨zfq R1 S1 e0,ρ,s1,io++k1,xs,s2,E.ext S X1,S1,e2,fun vs H2 k2 X2 S2 R2=>?_⟩⟩;exact⟨_,xs,s2,(io++k1)++k2,d,st',R1.ext S1 X2,R2,S2,e,(k.on S1 X1).on S2 X2⟩
   | _=>cases e
theorem zm2{ρ:Rho}:mExt m mm ρ st=(m ρ st).bind fun p=>match p.1 with
 | .ref n=>(za9 p.2 n).bind fun _=>(mm ρ p.2).bind fun q=>zdy p.1 q.1 q.2
 | _=>none:=rfl
end
end L2.MP
namespace L2.MP
open PySem
theorem zeJ{W:Wk}{g:MG}{c:MT}{m:ME}{α:Type}{f h:α->D}{p:α->Bool}{R:Rho->Prop}:∀ {as:List α} {ρ:Rho} {st:Sto},R ρ->walked W st=true->(∀ a∈as,∀ ρ,R ρ->∃ ρ1,g (f a) ρ st=some (ρ1,st)/\c ρ1 st=some (p a,st)/\(p a=true->m ρ1 st=some (h a,st))/\R ρ1) ->
   mCI W g c m (as.map f) ρ st=some ((as.filter p).map h,st)
 | [],ρ,st,r,wk,_=>by unfold mCI;rw[BB];simp only[wk,if_true,FH,BB]
 | a::as,ρ,st,r,wk,hs=>by
   obtain⟨ρ1,e1,e2,e3,r1⟩:=hs a Ag ρ r;have e:=zeJ (W:=W) (g:=g) (c:=c) (m:=m) (f:=f) (h:=h) (p:=p) (R:=R) (as:=as) r1 wk fun b hb=>hs b (Af _ hb);rw[Au];unfold mCI;rw[if_pos wk,e1]
   cases hp:p a with
   | true =>
     rw[hp] at e2;simp only[Ab,e2,if_true,e3 hp,e,Aq,DP,hp,Au]
   | false =>
     rw[hp] at e2;simp only[Ab,e2,Ay,if_false,e,DP,hp]
end L2.MP
namespace L2.MP.Hn
open PySem L2.MP
theorem zgj{st:Sto}{n k:Nat}{ds zs:List D}(h:st[n]?=some (.lst ds))(h':st[k]?=some (.lst zs))(hl:ds.length+zs.length<=10000):zdy (.ref n) [.ref k] st=some (.non,st.set n (.lst (ds++zs))):=by
 have:fits (ds.length+zs.length)=true:=zax hl;simp[zdy,h,h',this]
end L2.MP.Hn
namespace L2.MP
open PySem PySem.Spec PyProof.Rows
section
theorem zhT(x:Sr)(o:Obj)(xs:Array Value):Meets (Builtin.«enumerate.__new__» ⟨[.type "enumerate",.ref x.ad],[]⟩) (fun _ R s=>s.heap.get? x.ad=some o/\x.is s.heap xs /\
     R (.ok (.ret (.ref (s.heap.push x.ob).objs.size))) { s with heap:=(s.heap.push x.ob).push { cls:=.type "enumerate",data:=.fields #[.none,.bool false,.ref s.heap.objs.size,rawInt 0,.none,.none] } }) :=
 .of_wp fun prog w A R s h=>by
   obtain⟨hp,g,d,tk,os⟩:=s;obtain⟨h1,h2,h⟩:=h;have hsub:=sub_enumerate;have hx:x.is (Shared.heap ⟨hp,g,d,tk,os⟩) xs:=h2
   wp_walk using BY h1
   refine wpAny_stack_any fun sk=>Ae ?_
   split
   . rename_i c _ _ _ _ _
     cases (c==Er "enumerate")
     . wp_walk using BY h1,Sr.iter hx
       exact⟨_,rfl,h⟩
     . wp_walk using BY h1,Sr.iter hx
       exact⟨_,rfl,h⟩
   . wp_walk using BY h1,Sr.iter hx
     exact⟨_,rfl,h⟩
end
section
variable {prog:Program} {w:World} {A:Around} {E:Value->Shared->Prop} {s:Shared}
theorem Sr.is_get{h:Heap}{xs:Array Value}{x:Sr}(q:x.is h xs):∃ o,h.get? x.ad=some o:=by
 cases x with
 | l a=>obtain⟨o,g,_⟩:=q;exact⟨o,g⟩
 | t a=>obtain⟨o,g,_⟩:=q;exact⟨o,g⟩
theorem zh6{x:Sr}{xs:Array Value}{R:Value->Shared->Prop}(hx:x.is s.heap xs)(k:∀ h',IsEnum h' (s.heap.objs.size+1) s.heap.objs.size 0 .none->x.at_ h' s.heap.objs.size 0->(∀ c u,s.heap.get? c=some u->h'.get? c=some u)->R (.ref (s.heap.objs.size+1)) { s with heap:=h' }) :
   wpAny (model prog w) A (call (.type "enumerate") [.ref x.ad]) R E s:=by
 obtain⟨o,g⟩:=Sr.is_get hx;refine callType_new F.called_enumerate (by decide) (F.typeCall_enumerate_1 _) (F.newCall_enumerate_1 _) (fun obj=>F.args_object_init_2 obj _) F.entry_enumerate_new (zhT x o xs) ⟨g,hx,?_⟩;have z1:(s.heap.push x.ob).objs.size=s.heap.objs.size+1:=Bx ..;have f2:((s.heap.push x.ob).push { cls:=.type "enumerate",data:=.fields #[.none,.bool false,.ref s.heap.objs.size,rawInt 0,.none,.none] }).get? (s.heap.push x.ob).objs.size=some { cls:=.type "enumerate",data:=.fields #[.none,.bool false,.ref s.heap.objs.size,rawInt 0,.none,.none] }:=Az _ rfl;have f1:((s.heap.push x.ob).push { cls:=.type "enumerate",data:=.fields #[.none,.bool false,.ref s.heap.objs.size,rawInt 0,.none,.none] }).get? s.heap.objs.size=some x.ob:=Ai _ (Az _ (by cases x <;> rfl));show _/\_;rw[z1] at f2 ⊢;exact⟨⟨_,f2,rfl⟩,k _ f2 (Sr.at_new f1) fun c u q=>Ai _ (Ai _ q)⟩
end
theorem Sr.draws{prog:Program}{w:World}{A:Around}(hh:A.handled=none)(it:Addr)(x:Sr)(hne:x.ad≠it)(items:Array Value):Draws prog w A it [it,x.ad] items.size (fun i v=>items[i]?=some v) (fun i h=>x.at_ h it i/\x.is h items) where
 live:=fun _ _ q=>let ⟨o,_,g,_⟩:=Sr.at_get q.1;⟨o,g⟩
 frame:=fun _ _ _ q k=>⟨Sr.at_keep q.1 fun o e=>k it (by simp) o e,Sr.is_keep q.2 fun o e=>k x.ad (by simp) o e⟩
 item:=fun i s Q E hi q k=>by
   refine Sr.next q.1 q.2 (v:=items[i]) (by simp[hi]) fun h' a b=>?_;exact k _ h' s.toks (by simp[hi]) ⟨a,Sr.is_keep q.2 fun o e=>b.extBut _ _ hne e⟩ b
 done:=fun s Q E q k=>Sr.stop hh q.1 q.2 (by simp) k
theorem Sr.drawsEnd{prog:Program}{w:World}{A:Around}(hh:A.handled=none)(it:Addr)(x:Sr)(items:Array Value)(n:Nat)(hn:items[n]?=none):Draws prog w A it [it,x.ad] n (fun _ _=>True) (fun j h=>j=n/\x.at_ h it n/\x.is h items) where
 live:=fun _ _ q=>let ⟨o,_,g,_⟩:=Sr.at_get q.2.1;⟨o,g⟩
 frame:=fun _ _ _ q k=>⟨q.1,Sr.at_keep q.2.1 fun o e=>k it (by simp) o e,Sr.is_keep q.2.2 fun o e=>k x.ad (by simp) o e⟩
 item:=fun i s Q E hi q k=>absurd q.1 (AG hi)
 done:=fun s Q E q k=>Sr.stop hh q.2.1 q.2.2 hn k
noncomputable def Itn(x:Sr):It :=
 ⟨fun i H=>∃ xs v,x.sq H xs/\xs[i]?=some v,fun i H r H'=>∃ p v,H p=none/\H'=upd H p (.tup [.int (i:Nat),v])/\r=.ref p/\∀ xs,x.sq H xs->xs[i]?=some v,fun i H=>∃ xs,x.sq H xs/\xs.length<=i⟩
theorem zgW{P:Program}{w:World}{K:Ac}{elts:List Expr}{x1}{pos:Pos}(x:Sr)(it e:Addr)(hne:e≠it) :
   Turn P w K (.Tuple elts x1 pos) (Itn x) [e,it] e (fun i h=>(∃ old,IsEnum h e it (i:Nat) old)/\x.at_ h it i) where
 mem:=by simp
 obj:=fun i h st b hb=>by
   obtain⟨⟨old,he⟩,hi⟩:=st
   rcases List.mem_cons.mp hb with rfl | hb
   . exact⟨_,he,fun v z=>by cases z⟩
   . rw[List.mem_singleton.mp hb];obtain⟨o,vs,g,d⟩:=Sr.at_get hi;exact⟨o,g,fun v z=>by rw[d] at z;cases z⟩
 keep:=fun i h h' st k=>by
   obtain⟨⟨old,he⟩,hi⟩:=st;exact⟨⟨old,k e (by simp) _ he⟩,Sr.at_keep hi fun o q=>k it (by simp) o q⟩
 item := by
   intro X hP hw hK hc i pins s σ H E I hf st hg;subst hP hw hK;obtain⟨xs,v,hx,hv⟩:=hg;obtain⟨⟨old,he⟩,hi⟩:=st;obtain⟨its,rx,ix⟩:=Sr.sq_is I hx;obtain⟨v',gv,rv⟩:=rx.get hv;have fit:=(hf it (by simp)).1;have fe:=(hf e (by simp)).1;have hlt:i < its.toArray.size:=by have:=(List.getElem?_eq_some_iff.mp gv).1;simpa using this
   refine wpAny_pyNext_enum_itemD (Sr.draws (A:=X.A.in1) (I.ok.hd hc) it x (Sr.sq_ne hx fit) its.toArray) he ⟨hi,ix⟩ hlt hne (by
     simp only[B3,CP,or_false,not_or];exact⟨hne,fun z=>Sr.sq_ne hx fe z.symm⟩) fun y h1 tk hy he1 st1 t1 z1 k1=>?_
   have ey:y=v':=by
     have:its[i]?=some y:=by simpa using hy
     rw[gv] at this;exact (Aw this).symm
   subst ey;refine⟨_,rfl,wpAny_letOwnedTupleGo_enum (s:={ s with heap:=h1,toks:=tk+1 }) he1 fun h2 he2 hb2=>?_⟩;have k2:∀ b o,b ∉ [e,it]->s.heap.get? b=some o->h2.get? b=some o:=fun b o hb q=>by
     have n1:b≠e:=fun z=>hb (by simp[z]);have n2:b≠it:=fun z=>hb (by simp[z]);exact (hb2.2 b n1).trans (k1 b o n1 n2 q)
   have hsz:e≠s.heap.objs.size:=AG (Am he);have t2:h2.get? s.heap.objs.size=some { cls:=.type "tuple",data:=.seq #[.int i tk,y] }:=(hb2.2 _ hsz.symm).trans t1;have hi2:x.at_ h2 it (i+1):=Sr.at_keep st1.1 fun o q=>(hb2.2 it hne.symm).trans q;refine⟨.ref s.heap.objs.size,upd H s.heap.objs.size (.tup [.int (i:Nat),v]),?_,rfl,⟨_,v,I.hok.fresh (Ah _),rfl,rfl,fun ys hy=>by rw[Sr.sq_inj hy hx];exact hv⟩,⟨⟨_,by exact_mod_cast he2⟩,hi2⟩,fun b hb=>?_⟩
   . exact Inv.turnNew (s:=s) (h':=h2) (t':=tk+1) I hf k2 (Ah _) (fun b hb ob q=>by
       rcases List.mem_cons.mp hb with rfl | hb
       . exact⟨_,he2⟩
       . rw[List.mem_singleton.mp hb];obtain⟨o,vs,g,d⟩:=Sr.at_get hi2;exact⟨o,g⟩) ⟨by show 2<=sizeLine;decide,[.int i tk,y],.cons ⟨_,rfl⟩ (.cons rv .nil),⟨_,t2,rfl,rfl,_,rfl⟩⟩
   . rw[zaP (fun z=>?_)]
     . exact (hf b hb).1
     . rcases List.mem_cons.mp hb with q | hb
       . exact hsz (q.symm.trans z)
       . have q:=List.mem_singleton.mp hb;obtain⟨o,vs,g,d⟩:=Sr.at_get hi;exact (AG (Am g)) (q.symm.trans z)
 done:=by
   intro X hP hw hK hc i pins s σ H E I hf st hg;subst hP hw hK;obtain⟨xs,hx,hl⟩:=hg;obtain⟨⟨old,he⟩,hi⟩:=st;obtain⟨its,rx,ix⟩:=Sr.sq_is I hx;have l1:=rx.length;exact wpAny_pyNext_enum_endD (Sr.drawsEnd (A:=X.A.in1) (I.ok.hd hc) it x its.toArray i (by simp;omega)) he ⟨rfl,hi,ix⟩ fun h' eb=>⟨rfl,Inv.turnAll (t':=s.toks) I hf fun b o hb q=>eb b o (fun z=>hb (by simp[z])) q⟩
 self:=fun _ _ _ _ _ st h=>by
   obtain⟨⟨old,he⟩,_⟩:=st;exact Fe he h
section
variable {X:Cx} {K:Ac} {H:Hp} {io:List Addr} {m:ME} {st st':Sto}
noncomputable def zoj(x:D)(s:Sto):Option (Wk×Sto):=(seqD s x).map fun (a,f)=>(⟨pairs a,f⟩,s)
noncomputable def zjJ(m:ME):MI:=fun ρ st=>(m ρ st).bind fun (x,s1)=>zoj x s1
theorem zjA{elts:List Expr}{x1}{tp:Pos}{a:Expr}{p pos:Pos}(hg:Gl X "enumerate")(hm:X.mg "enumerate"=none)(ha:SE X a m)(hs:starEach [a] X.env=[(false,eval a X.env)]:=by rfl) :
   SI X (.Tuple elts x1 tp) (.Call (.Name "enumerate" p) [a] [] pos) (zjJ m):=by
 rintro pins s σ H R I ⟨ρ,st,io,W,st',E,S,e,k⟩;obtain⟨⟨x,s1⟩,e1,e⟩:=zad e;obtain⟨⟨as,f⟩,e3,e⟩:=zai e;cases e;refine Call_ (zhC I hg hm boot_enumerate (Ci (thn (zaa ha zag hs pos pins s σ H (fun vs H'=>∃ ka,Ext io ka H H'/\StR X.K H' (io++ka) st'/\Reps X.K H' (io++ka) vs [x]) I ⟨ρ,st,io,[x],st',E,S,zhz e1 rfl,fun vs H1 k1 X1 S1 R1=>⟨k1,X1,S1,R1⟩⟩) ?_) hs rfl));rintro us t1 ⟨vs,H1,I1,r1,k1,X1,S1,R1⟩;obtain⟨v,rfl,Rx⟩:=R1.one;obtain⟨v',rfl,rv⟩:=r1.one;obtain⟨xx,rfl,⟨xs,hx⟩,kx⟩:=zlM S1 Rx e3;cases rv;obtain⟨its,vx,ix⟩:=Sr.sq_is I1 hx;refine zh6 ix fun h' he hi kk=>Fe he ?_;refine⟨_,_,_,_,H1,rfl,I1.kept (t':=t1.toks) kk,zgW xx t1.heap.objs.size (t1.heap.objs.size+1) (Nat.succ_ne_self _),⟨⟨_,he⟩,hi⟩,fun b hb=>?_,?_⟩
 . have hle:t1.heap.objs.size<=b:=by
     rcases List.mem_cons.mp hb with q | hb
     . rw[q];exact Bz _
     . rw[List.mem_singleton.mp hb];exact Ah _
   exact I1.fpOk hle (I1.hok.fresh hle)
 . refine k _ H1 k1 X1 S1 ?_;refine⟨fun i d H2 k2 s3 hd X2 S2 hs=>?_,fun H2 k2 s3 X2 S2 hs=>?_,fun H2 k2 s3 i hi X2 S2 hs=>?_⟩
   . obtain⟨xs2,qx,rx⟩:=kx H2 k2 s3 X2 S2 hs;obtain⟨dx,g1,rfl⟩:=zf8 hd;obtain⟨u1,gu,ru⟩:=rx.get g1;refine⟨⟨xs2,u1,qx,gu⟩,fun r H' yl=>?_⟩;obtain⟨q,u2,hq,rfl,rfl,yu⟩:=yl;have e5:=yu xs2 qx;rw[gu] at e5;cases e5;obtain⟨E',S'⟩:=zhu (o:=.tup [.int (i:Nat),u1]) S2 hq;rw[As] at S';refine⟨E',S',⟨q,_,rfl,zbY,?_⟩⟩;have r2:=ru.ext S2 E';rw[As] at r2;exact Reps.cons rfl (Reps.cons r2 Reps.nil)
   . obtain⟨xs2,qx,rx⟩:=kx H2 k2 s3 X2 S2 hs;exact⟨xs2,qx,by show xs2.length<=(pairs as).length;rw[pairs_len,rx.length];exact Ah _⟩
   . obtain⟨xs2,qx,rx⟩:=kx H2 k2 s3 X2 S2 hs;have hi:(pairs as).length<=i:=hi;rw[pairs_len] at hi;exact⟨xs2,qx,by rw[rx.length];exact hi⟩
end
section
variable {X:Cx} {K:Ac} {H:Hp} {io:List Addr} {m:ME} {st st':Sto}
@[simp] theorem zm3{ρ:Rho}:zjJ m ρ st=(m ρ st).bind fun p=>zoj p.1 p.2:=rfl
end
noncomputable def Itw(n:Nat)(f:Nat->Option V):It:=⟨fun i _=>i < n,fun i H v H'=>H'=H/\f i=some v,fun i _=>n<=i⟩
noncomputable def zhF:List String:=["enumerate","zip","dict_itemiterator","dict_reverseitemiterator","odict_iterator","itertools.zip_longest","itertools.pairwise"]
theorem zgT{P:Program}{w:World}{K:Ac}{tg:Expr}(it:Addr)(n:Nat)(f:Nat->Option V){R:Nat->Value->Prop}{T:Nat->Heap->Prop}(W:∀ A:Around,A.handled=none->Walks P w A it [it] [it] n R T)
   (hr:∀ i v,R i v->∃ x,f i=some x/\RelV x v) (hob:∀ i h,T i h->∃ o nm vs,h.get? it=some o/\o.cls=.type nm/\o.data=.fields vs/\zhF.contains nm=false)
   (hself:∀ (A:Around) (i:Nat) (s:Shared) (Q:Value->Shared->Prop) (E:Value->Shared->Prop),T i s.heap->Q (.ref it) s->wpAny (model P w) A (pyIter (.ref it)) Q E s) :
   Turn P w K tg (Itw n f) [it] it (fun i h=>i<=n/\T i h) where
 mem:=by simp
 obj:=fun i h st b hb=>by
   have e:b=it:=by simpa using hb
   subst e;obtain⟨o,nm,vs,e,c,d,_⟩:=hob i h st.2;exact⟨o,e,fun v z=>by rw[d] at z;cases z⟩
 keep:=fun i h h' st k=>⟨st.1,(W {} rfl).frame i h h' st.2 k⟩
 item:=by
   intro X hP hw hK hc i pins s σ H E I hf st hg;subst hP hw hK;obtain⟨f0,f1,f2,f3,f4,f5⟩:=hf it (by simp);refine (W X.A (I.ok.hd hc)).item i s _ _ hg st.2 fun v h' tk hv st' kk=>?_;obtain⟨x,hx,rx⟩:=hr i v hv;have I1:Inv X pins σ H { s with heap:=h',toks:=tk }:=I.turned (fun b o hb e=>kk b o (by simpa using hb) e) f0 f1 f3 f4 f5;obtain⟨o,nm,vs,e,c,d,hn⟩:=hob (i+1) h' st';exact⟨_,rfl,zna (s:={ s with heap:=h',toks:=tk }) e c d hn ⟨x,H,I1,rx,⟨rfl,hx⟩,⟨hg,st'⟩,fun b hb=>(hf b hb).1⟩⟩
 done:=by
   intro X hP hw hK hc i pins s σ H E I hf st hg;subst hP hw hK;obtain⟨f0,f1,f2,f3,f4,f5⟩:=hf it (by simp);have e:i=n:=Nat.le_antisymm st.1 hg;subst e;exact (W X.A (I.ok.hd hc)).done s _ _ st.2 fun h' tk kk=>⟨rfl,I.turned (fun b o hb e=>kk b o (by simpa using hb) e) f0 f1 f3 f4 f5⟩
 self:=fun A i s Q E st h=>hself A i s Q E st.2 h
theorem zob{K:Ac}{H:Hp}{io:List Addr}{ds:List D}{n:Nat}{f:Nat->Option V}(hn:n=ds.length)(hf:∀ i d,ds[i]?=some d->∃ v,f i=some v/\∀ H io,Rep K H io v d):ItOk K H io ⟨ds,[]⟩ (Itw n f) where
 go:=fun i d H1 k1 s hd X1 S1 hs=>by
   have hi:i < ds.length:=(List.getElem?_eq_some_iff.mp hd).1;refine⟨by show i < n;omega,fun x H' y=>?_⟩;obtain⟨rfl,y⟩:=y;obtain⟨v,hv,rv⟩:=hf i d hd;rw[hv] at y;cases y;exact⟨Ext.refl,S1,rv _ _⟩
 stop:=fun H1 k1 s X1 S1 hs=>by show n<=ds.length;omega
 stop':=fun H1 k1 s i hi X1 S1 hs=>by
   show n<=i;have hi:ds.length<=i:=hi;omega
section
variable {X:Cx} {K:Ac} {H:Hp} {io:List Addr} {st st':Sto} {a b c e:Expr} {es:List Expr} {ma mb mc m:ME} {mm:MA} {mt:MT} {ms:MS} {pos:Pos} {tg:Expr} {body:List Stmt}
noncomputable def signs(z:Str):List D:=z.cps.toList.map fun c=>D.str ⟨#[c]⟩
noncomputable def zlm(z:Str)(i:Nat):Option V:=z.cps[i]?.map fun c=>V.str ⟨#[c]⟩
theorem zii{P:Program}{w:World}{A:Around}(hh:A.handled=none)(I:Addr)(x:Str)(t:Tok):Walks P w A I [I] [I] x.cps.size (SignAt x) (fun i h=>h.IsStrIter I (strIterType x) x t i):=by
 unfold strIterType
 cases x.cps.all (· < 128)
 . exact Walks.strWide hh I x t
 . exact Walks.strAscii hh I x t
theorem zj0{P:Program}{w:World}{K:Ac}{tg:Expr}(it:Addr)(x:Str)(t:Tok):Turn P w K tg (Itw x.cps.size (zlm x)) [it] it (fun i h=>i<=x.cps.size/\h.IsStrIter it (strIterType x) x t i) :=
 zgT it x.cps.size (zlm x) (fun A hA=>zii hA it x t) (fun i v ⟨c,u,hc,hv⟩=>⟨.str ⟨#[c]⟩,by unfold zlm;rw[hc];rfl,u,hv⟩)
   (fun i h ⟨o,e,c,d⟩=>⟨o,_,_,e,c,d,by unfold strIterType;split <;> decide⟩) fun A i s Q E st h=>by
     unfold strIterType at st
     split at st
     . exact wpAny_pyIter_striter_ascii st h
     . exact wpAny_pyIter_striter_wide st h
noncomputable def iStr(tl:TE):TI:=fun σ H R=>tl σ H fun x H1=>∃ z,x=.str z/\R (Itw z.cps.size (zlm z)) H1
theorem znM{l:Expr}{tl:TE}(hl:PE X l tl):PI X tg l (iStr tl):=by
 intro pins s σ H R I h;refine thn (hl pins s σ H _ I h) ?_;rintro v s1 ⟨x,H1,I1,r1,q1⟩;obtain⟨z,e,q⟩:=q1;subst e;obtain⟨t,rfl⟩:=r1;refine wpAny_pyIter_strU ?_;refine⟨s1.heap.objs.size,[s1.heap.objs.size],_,_,H1,rfl,I1.kept (t':=s1.toks) fun b o e=>Ai _ e,zj0 _ z t,⟨AU _,_,Az _ rfl,rfl,rfl⟩,fun b hb=>?_,q⟩;have e:b=s1.heap.objs.size:=by simpa using hb
 subst e;exact I1.fpOk (Ah _) (I1.hok.fresh (Ah _))
theorem signs_get{z:Str}{i:Nat}{d:D}(h:(signs z)[i]?=some d):∃ v,zlm z i=some v/\∀ H io,Rep K H io v d:=by
 unfold signs at h;rw[Av] at h;obtain⟨c,hc,e⟩:=zai h;subst e;refine⟨.str ⟨#[c]⟩,?_,fun H io=>rfl⟩;unfold zlm;rw[AD] at hc;rw[hc];rfl
theorem ziu(z:Str):z.cps.size=(signs z).length:=by unfold signs;rw[Ad,AQ]
noncomputable def mWS(m:ME):MI:=fun ρ st=>(m ρ st).bind fun (d,s)=>match d with
 | .str z=>some (⟨signs z,[]⟩,s)
 | _=>none
theorem znp{l:Expr}(hl:SE X l m):SI X tg l (mWS m):=PI.imp (znM hl) <| by
 rintro σ H R ⟨ρ,st,io,W,st',E,S,e,k⟩;obtain⟨⟨d,s1⟩,e1,e⟩:=zad e;dsimp only at e
 split at e
 . rename_i z;cases e;refine⟨ρ,st,io,_,_,E,S,e1,fun v H1 k1 X1 S1 R1=>?_⟩;exact⟨z,R1,k _ H1 k1 X1 S1 (zob (ziu z) fun i d h=>signs_get h)⟩
 . cases e
noncomputable def mWA(m:ME):MI:=fun ρ st=>(m ρ st).bind fun (d,s)=>orO (zij d s) (match d with | .str z=>some (⟨signs z,[]⟩,s) | _=>none)
theorem zbt{l:Expr}(hl:SE X l m):SI X tg l (mWA m):=by
 rintro pins s σ H R I ⟨ρ,st,io,W,st',E,S,e0,k⟩;obtain⟨⟨d,s1⟩,e1,e0⟩:=zad e0
 rcases zch e0 with e0 | e0
 . exact zlJ hl pins s σ H R I ⟨ρ,st,io,W,st',E,S,by unfold mW;rw[e1];exact e0,k⟩
 . exact znp hl pins s σ H R I ⟨ρ,st,io,W,st',E,S,by unfold mWS;rw[e1];exact e0,k⟩
end
section
variable {X:Cx} {K:Ac} {H:Hp} {io:List Addr} {st st':Sto} {a b c e:Expr} {es:List Expr} {ma mb mc m:ME} {mm:MA} {mt:MT} {ms:MS} {pos:Pos} {tg:Expr} {body:List Stmt}
noncomputable def mWhF(c:MT)(m:MS):Nat->MS
 | 0=>fun _ _=>none
 | n+1=>fun ρ st=>(c ρ st).bind fun (b,s)=>if b=true then (m ρ s).bind fun (f,s2)=>match f with
     | .nx ρ2=>mWhF c m n ρ2 s2
     | .ct ρ2=>mWhF c m n ρ2 s2
     | .bk ρ2=>some (.nx ρ2,s2)
     | .rt d=>some (.rt d,s2)
   else some (.nx ρ,s)
theorem zj6{n:Nat}{c:Expr}(hp:PassesOwn (model X.prog X.w) X.A X.env X.xe)(hc:SB X c mt)(hb:SSs X body ms):SS X (.While c body [] pos) (mWhF mt ms n):=PS.imp (zko hp hc hb) fun N σ H h=>by
 obtain⟨ρ,st,io,f,st',E,S,e,w⟩:=zcQ.mp h;refine⟨fun k σ2 H2=>∃ ρ2 s2 k2,Ext io k2 H H2/\StR X.K H2 (io++k2) s2/\EnvR X.K H2 (io++k2) σ2 ρ2/\mWhF mt ms k ρ2 s2=some (f,st'),⟨n,ρ,st,[],Ext.refl,S.nil,by rw[As];exact E,e⟩,?_⟩;rintro k σ2 H2 ⟨ρ2,s2,k2,X2,S2,E2,e2⟩;have w2:Wn X.K (io++k2) H2 st' N f:=w.on X2 S2
 cases k with
 | zero=>cases e2
 | succ k =>
   obtain⟨⟨b,s3⟩,e3,e2⟩:=zad e2;refine⟨ρ2,s2,io++k2,b,s3,E2,S2,e3,fun H3 k3 X3 S3=>?_⟩;have X23:=X2.trans S2 X3;have S3':StR X.K H3 (io++(k2++k3)) s3:=by rw[<-Ap];exact S3
   dsimp only
   cases b with
   | false =>
     rw[if_neg (by decide)];have e2:some (Fl.nx ρ2,s3)=some (f,st'):=e2;cases e2;exact w2 σ2 H3 k3 X3 S3 (E2.ext S2 X3)
   | true =>
     rw[if_pos rfl];obtain⟨⟨f4,s4⟩,e4,e2⟩:=zad (show (ms ρ2 s3).bind _=some (f,st') from e2);refine⟨fun σ5 H5=>∃ ρ5 s5 k5,Ext io k5 H H5/\StR X.K H5 (io++k5) s5/\EnvR X.K H5 (io++k5) σ5 ρ5/\mWhF mt ms k ρ5 s5=some (f,st'),fun σ5 H5 h5=>⟨k,DM k,h5⟩,?_⟩;refine zj1 (E2.ext S2 X3) S3 e4 ?_;have fin:∀ {ρ7:Rho},mWhF mt ms k ρ7 s4=some (f,st')->∀ σ7 H7 k7,Ext (io++k2++k3) k7 H3 H7->StR X.K H7 (io++k2++k3++k7) s4->EnvR X.K H7 (io++k2++k3++k7) σ7 ρ7 ->
         ∃ ρ5 s5 k5,Ext io k5 H H7/\StR X.K H7 (io++k5) s5/\EnvR X.K H7 (io++k5) σ7 ρ5/\mWhF mt ms k ρ5 s5=some (f,st'):=by
       intro ρ7 e7 σ7 H7 k7 X7 S7 E7;rw[Ap io] at X7;rw[Ap io,Ap io] at S7 E7;exact⟨ρ7,s4,(k2++k3)++k7,X23.trans S3' X7,S7,E7,e7⟩
     cases f4 with
     | nx ρ7=>exact fin e2
     | ct ρ7=>exact fin e2
     | bk ρ7 =>
       cases e2;exact w2.on X3 S3
     | rt dd =>
       cases e2;exact w2.on X3 S3
theorem Reps.erase:∀ {xs:List V} {ds:List D} (k:Nat),Reps K H io xs ds->Reps K H io (xs.eraseIdx k) (ds.eraseIdx k)
 | _,[],k,h=>by rw[show _=[] from h];simp[Reps]
 | _,d::ds,0,h=>by
   obtain⟨y,ys,rfl,_,rs⟩:=h;exact rs
 | _,d::ds,k+1,h=>by
   obtain⟨y,ys,rfl,r,rs⟩:=h;exact⟨y,_,rfl,r,Reps.erase k rs⟩
noncomputable def popD:D->List D->Sto->Option (D×Sto):=fun x xs st=>match x,xs with
 | .ref n,[.int i]=>match st[n]? with
   | some (.lst ds)=>if small i=true then (seqIndex? i ds.length).bind fun k=>(ds[k]?).map fun d=>(d,st.set n (.lst (ds.eraseIdx k))) else none
   | _=>none
 | _,_=>none
theorem zmz:MtR X "list.pop" (mtM X.K popD):=by
 rintro pins s σ H x xs v us Q I rx rs ⟨dx,ds,st,io,d,st',Rx,Rs,S,e,k⟩;unfold popD at e
 split at e
 . rename_i n i
   split at e
   . rename_i l e1;obtain⟨hi,e⟩:=zal e;obtain⟨q,e2,e⟩:=zad e;obtain⟨dd,e3,e⟩:=zai e;cases e;obtain⟨p,rfl,hp⟩:=Rx;obtain⟨w,rfl,Rw⟩:=Rs.one
     cases (show w=.int i from Rw)
     obtain⟨ys,hH,r⟩:=S.ob n p _ hp e1;obtain⟨y,hy,ry⟩:=r.get e3;have hsm:=zfw hi;refine zkB pins s σ H _ _ v us Q I rx rs ⟨p,ys,i,q,y,rfl,rfl,hH,by omega,by omega,by rw[r.length];exact e2,hy,?_⟩;obtain⟨E',S'⟩:=zgC (o:=.lst (ys.eraseIdx q)) (ob:=.lst (l.eraseIdx q)) S hp e1 (fun o u z=>by rw[hH] at z;cases z) fun H' T e'=>⟨_,e',(Reps.mono T r).erase q⟩
     exact k _ _ [] E' S' (ry.ext S E')
   . cases e
 . cases e
noncomputable def mPop(m:ME)(mm:MA):ME:=fun ρ st=>(m ρ st).bind fun (x,s1)=>match x with
 | .ref n=>(za9 s1 n).bind fun _=>(mm ρ s1).bind fun (xs,s2)=>popD x xs s2
 | _=>none
theorem zlP{o:Expr}{apos cpos:Pos}(ho:SE X o m)(ha:SA X (e::es) mm)
   (hbase:attributeBase o "pop" X.env (eval o X.env)=eval o X.env:=by rfl)
   (hfew:((backTo cpos (starEach (e::es) X.env)).all (fun x=>!x.1)&&(backToKw cpos (keywordEach [] X.env)).all (fun x=>x.1.isSome)
    &&decide ((e::es).length+([]:List Keyword).length+(if ([]:List Keyword).isEmpty then 0 else 1) < 30))=true:=by rfl)
   (hline:(apos.endLine==cpos.line)=true:=by rfl) (hs:starEach (e::es) X.env=(false,eval e X.env)::starEach es X.env:=by rfl) (hplain:(backTo cpos (starEach es X.env)).any (·.1)=false:=by rfl) :
   SE X (.Call (.Attribute o "pop" apos) (e::es) [] cpos) (mPop m mm) :=
 PE.imp (zm6 CH PySem.F.slot_list_pop PySem.F.type_list_pop zmz ho ha hbase hfew hline hs hplain) <| by
   rintro σ H Q ⟨ρ,st,io,d,st',E,S,e,k⟩;obtain⟨⟨x,s1⟩,e1,e⟩:=zad e
   cases x with
   | ref n =>
     obtain⟨l,e0,e⟩:=zad e;obtain⟨⟨xs,s2⟩,e2,e⟩:=zad e;refine⟨ρ,st,io,_,s1,E,S,e1,fun v1 H1 k1 X1 S1 R1=>⟨zfq R1 S1 e0,ρ,s1,io++k1,xs,s2,E.ext S X1,S1,e2,fun vs H2 k2 X2 S2 R2=>?_⟩⟩;exact⟨_,xs,s2,(io++k1)++k2,d,st',R1.ext S1 X2,R2,S2,e,(k.on S1 X1).on S2 X2⟩
   | _=>cases e
noncomputable def zkL:GN
 | [.str z],st=>if fits z.cps.size=true then some (.ref st.length,st++[.lst (signs z)]) else none
 | _,_=>none
theorem zg4{z:Str}{acc:Array Value}(h:ItemsOf (SignAt z) acc z.cps.size):Vals (z.cps.toList.map fun c=>V.str ⟨#[c]⟩) acc.toList:=by
 have aux:∀ (l:List Nat) (vs:List Value),vs.length=l.length->(∀ (j:Nat) (v:Value),vs[j]?=some v->∃ (c:Nat) (u:Tok),l[j]?=some c/\v=EN ⟨#[c]⟩ u)->Vals (l.map fun c=>V.str ⟨#[c]⟩) vs:=by
   intro l
   induction l with
   | nil=>intro vs hl _;cases (BD hl);exact .nil
   | cons c l ih =>
     intro vs hl hv
     cases vs with
     | nil=>simp at hl
     | cons v vs =>
       obtain⟨c',u,hc,rfl⟩:=hv 0 v rfl
       cases (show c=c' by simpa using hc)
       exact .cons ⟨u,rfl⟩ (ih vs (by simpa using hl) fun j v h=>by simpa using hv (j+1) v (by simpa using h))
 refine aux _ _ (by rw[AQ,h.1,AQ]) fun j v hj=>?_;obtain⟨c,u,hc,hv⟩:=h.2 j v (by rw[<-AD];exact hj);exact⟨c,u,by rw[AD];exact hc,hv⟩
theorem zg5(z:Str):Reps K H io (z.cps.toList.map fun c=>V.str ⟨#[c]⟩) (signs z):=by
 unfold signs;generalize z.cps.toList=l
 induction l with
 | nil=>exact rfl
 | cons c l ih=>exact Reps.cons rfl ih
theorem zgL(hc:X.calm=true):zdl X (.type "list") zkL:=by
 rintro pins s σ H xs us Q I r ⟨ds,st,io,d,st',R,S,e,k⟩;unfold zkL at e
 split at e
 . rename_i z;obtain⟨hf,e⟩:=zal e;cases e;obtain⟨v,rfl,rfl⟩:=R.one;obtain⟨u,rfl,ru⟩:=r.one;obtain⟨t,rfl⟩:=ru;have hz:z.cps.size<=sizeLine:=of_decide_eq_true hf;refine call_list_str (hn:=hz) (I.ok.hd hc) z t fun h' tk acc c' hk hat hacc=>?_;refine⟨.ref s.heap.objs.size,upd H s.heap.objs.size (.lst (z.cps.toList.map fun c=>V.str ⟨#[c]⟩)),I.laid (t':=tk) (fun b o q=>hk b o q) (Ah _) ⟨by rw[Ad,AQ];exact hz,acc.toList,c',zg4 hacc,by simpa using hat⟩,rfl,?_⟩;exact k.lst S (zg5 z) (I.hok.fresh (Ah _))
 . cases e
noncomputable def zn6:GN:=orN zn5 zkL
theorem zh4(hc:X.calm=true):zdl X (.type "list") zn6:=zdf zh2 (zgL hc)
noncomputable def slK:D->Option Int->Option Int->Sto->Option (D×Sto):=fun x lo hi st=>match x with
 | .kl ds=>some (.ref st.length,st++[.lst (cutD ds lo hi)])
 | _=>none
noncomputable def slB:D->Option Int->Option Int->Sto->Option (D×Sto):=fun x lo hi st=>orO (slA x lo hi st) (slK x lo hi st)
noncomputable def mSlB(m:ME)(l h:MO):ME:=fun ρ st=>(m ρ st).bind fun (x,s1)=>(l ρ s1).bind fun (lo,s2)=>(h ρ s2).bind fun (hi,s3)=>slB x lo hi s3
theorem zep{lo hi:Option Expr}{ml mh:MO}{p2:Pos}(he:SE X e m)(hl:SO X lo ml)(hu:SO X hi mh):SE X (.Subscript e (.Slice lo hi none p2) pos) (mSlB m ml mh):=by
 rintro pins s σ H Q I ⟨ρ,st,io,d,st',E,S,e0,k⟩;obtain⟨⟨x,s1⟩,e1,e0⟩:=zad e0;obtain⟨⟨lo',s2⟩,e2,e0⟩:=zad e0;obtain⟨⟨hi',s3⟩,e3,e0⟩:=zad e0
 rcases zch e0 with e0 | e0
 . exact ziA he hl hu pins s σ H Q I ⟨ρ,st,io,d,st',E,S,by simp only[mSlA,e1,e2,e3,Ab];exact e0,k⟩
 . refine zeu zjx he hl hu pins s σ H Q I ?_;refine⟨ρ,st,io,x,s1,E,S,e1,fun v1 H1 k1 X1 S1 R1=>⟨ρ,s1,io++k1,lo',s2,E.ext S X1,S1,e2,fun H2 k2 X2 S2=>⟨ρ,s2,(io++k1)++k2,hi',s3,(E.ext S X1).ext S1 X2,S2,e3,fun H3 k3 X3 S3=>?_⟩⟩⟩;have R3:=(R1.ext S1 X2).ext S2 X3;have k':=((k.on S1 X1).on S2 X2).on S3 X3
   cases x with
   | kl ds =>
     cases e0;obtain⟨p,xs,rfl,hx,r⟩:=R3;exact⟨p,xs,rfl,hx.sq,fun q hq=>k'.lst S3 (zhV r _ _) hq⟩
   | _=>cases e0
noncomputable def zjF:G2
 | .str i,.str j,st=>some (.bl (!(!(B0 j i 0 j.length 1).isEmpty)),st)
 | _,_,_=>none
theorem zhk:OpM X (compareOp .NotIn) zjF:=by
 rintro pins s σ H x y v u Q I rx ry ⟨dx,dy,st,io,d,st',Rx,Ry,S,e,k⟩
 cases dx with
 | str i =>
   cases dy with
   | str j=>cases e;exact zfF pins s σ H x y v u Q I rx ry ⟨i,j,Rx,Ry,k.now S rfl⟩
   | _=>cases e
 | _=>cases e
noncomputable def ziT:G2:=orG zkx zjF
theorem ziC(hu:X.A.units+100 < cLine)(ha:SE X a ma)(hb:SE X b mb)(hm:behindInMarks .NotIn b=false:=by rfl):SB X (.Compare a [.NotIn] [b] pos) (mTst (mBin ziT ma mb)) :=
 zkh (ziD hu ha hb hm) (zbh zhk ha hb hm)
end
end L2.MP
namespace PySem.F
end PySem.F
namespace PySem
open Builtin
end PySem
namespace L2.MP
open PySem PySem.Spec PyProof.Rows
section
variable {ρ ρ1:Rho} {st s1:Sto} {m n o ma mb:ME} {mm:MA} {ms mq:MS} {mt mu:MT} {d:D} {ml mh:MO}
@[simp] theorem zpo:mWA m ρ st=(m ρ st).bind fun p=>orO (zij p.1 p.2) (match p.1 with | .str z=>some (⟨signs z,[]⟩,p.2) | _=>none):=rfl
theorem zm1:mPop m mm ρ st=(m ρ st).bind fun p=>match p.1 with
 | .ref n=>(za9 p.2 n).bind fun _=>(mm ρ p.2).bind fun q=>popD p.1 q.1 q.2
 | _=>none:=rfl
@[simp] theorem zm0:mSlB m ml mh ρ st=(m ρ st).bind fun p=>(ml ρ p.2).bind fun q=>(mh ρ q.2).bind fun r=>slB p.1 q.1 r.1 r.2:=rfl
end
theorem zon:bootBuiltins "any"=some (.builtin "any"):=by decide +kernel
section
variable {prog:Program} {w:World} {A:Around} {E:Value->Shared->Prop} {s:Shared}
theorem zi6{d:Addr}{o:Obj}{es:Array DictEntry}{ep:Nat}{R:Value->Shared->Prop}(ty:s.TypeIs (.ref d) "dict")(hd:(d==sysModules)=false)(g:s.heap.get? d=some o)(dd:o.data=.dict es ep)
   (k:R (.ref s.heap.objs.size) { s with heap:=s.heap.push { cls:=.type "dict_keyiterator",data:=.fields #[.ref d,.int 0 0,.int es.size 0,.int ep 0] } }):wpAny (model prog w) A (pyIter (.ref d)) R E s:=by
 refine wpAny_pyIter_slot ty F.slot_dict_iter (Bo F.slot_dict_iter ty F.entry_dict_iter ?go (F.args_dict_iter_1 _));unfold Builtin.«dict.__iter__»;refine Aa ?_;unfold Builtin.Dict.dictSlotNone;refine Aa (wpAny_notOrdered_dict ty ?_);show wpAny _ _ (pure (AJ d)) _ _ s;refine Ae ?_;show wpAny _ _ (Ek d >>= _) _ _ s;unfold Ek;rw[if_neg (by rw[hd];exact Bi)];refine Aa (Ae (Aa (Dw g dd (Aa (D0 g dd ?_)))));refine Aa (A8 (Ae ⟨_,rfl,"dict_keyiterator",_,⟨_,Az _ rfl,rfl⟩,F.slot_dict_keyiterator_next.lookup,?_⟩));simpa[rawInt] using k
theorem zi5{it d:Addr}{i ep:Nat}{o:Obj}{es:Array DictEntry}{en:DictEntry}{R:Option Value->Shared->Prop}(hit:s.heap.IsKeyIter it d i es.size ep)(g:s.heap.get? d=some o)(dd:o.data=.dict es ep)(hx:es[i]?=some en)
   (k:∀ h',h'.IsKeyIter it d (i+1) es.size ep->Cb it s.heap h'->R (some en.key) { s with heap:=h' }):wpAny (model prog w) A (pyNext (.ref it)) R E s:=by
 obtain⟨io,ig,ic,idt⟩:=id hit;have own:Df "dict_keyiterator"=false:=by decide
 unfold pyNext;refine Aa (wpAny_attempt (Br (name:=Cc "__next__") hit.typeIs F.slot_dict_keyiterator_next (Bo F.slot_dict_keyiterator_next hit.typeIs F.entry_dict_keyiterator_next ?_ (F.args_dict_keyiterator_next_1 _))));refine Aa (Ae (Aa (Aa ?_)));refine Aa (BE hit.typeIs (Ae (Aa (wpAny_fieldsOf ig idt ?_))));simp only[own,Ay,if_false];show wpAny _ _ (if (AJ d==Bf)=true then _ else _) _ _ s;rw[if_neg (show ¬ (AJ d==Bf)=true from fun z=>Bi z)];refine Aa (Ae (Aa (Dw g dd ?_)));rw[if_neg (by simp)];refine Aa (Ae (Aa (D0 g dd ?_)));rw[if_neg (by simp)];refine Ae ?_;have ni:¬ ((i:Int) < 0):=by omega
 simp only[ni,if_false,AS,hx];refine Aa (Aa (BE hit.typeIs (Ae (Aa (El hit.typeIs ?_)))));show wpAny _ _ (setField (.ref it) 1 (rawInt ((i:Int)+1)) >>= _) _ _ s;refine Aa (De ig idt (by simp) ?_);have h2:(s.heap.update it (FU (·.setIfInBounds 1 (rawInt ((i:Int)+1))))).IsKeyIter it d (i+1) es.size ep:=⟨_,Cd _ ig (Ei (CC idt _)),(Fd ..).trans ic,by rw[CC idt];simp[rawInt]⟩
 refine Aa (A9 (Aa (El (s:={ s with heap:=s.heap.update it (FU (·.setIfInBounds 1 (rawInt ((i:Int)+1)))) }) h2.typeIs ?_)));show wpAny _ _ (pure en.key) _ _ _;exact Ae (Ae ⟨_,rfl,Ae (k _ h2 (BF ..))⟩)
theorem zi4{it d:Addr}{i ep:Nat}{o:Obj}{es:Array DictEntry}{R:Option Value->Shared->Prop}(hh:A.handled=none)(hit:s.heap.IsKeyIter it d i es.size ep)(g:s.heap.get? d=some o)(dd:o.data=.dict es ep)(hx:es[i]?=none)
   (k:∀ h',Fn it s.heap h'->R none { s with heap:=h' }):wpAny (model prog w) A (pyNext (.ref it)) R E s:=by
 obtain⟨io,ig,ic,idt⟩:=id hit;have own:Df "dict_keyiterator"=false:=by decide
 unfold pyNext;refine Aa (wpAny_attempt (Br (name:=Cc "__next__") hit.typeIs F.slot_dict_keyiterator_next (Bo F.slot_dict_keyiterator_next hit.typeIs F.entry_dict_keyiterator_next ?_ (F.args_dict_keyiterator_next_1 _))));refine Aa (Ae (Aa (Aa ?_)));refine Aa (BE hit.typeIs (Ae (Aa (wpAny_fieldsOf ig idt ?_))));simp only[own,Ay,if_false];show wpAny _ _ (if (AJ d==Bf)=true then _ else _) _ _ s;rw[if_neg (show ¬ (AJ d==Bf)=true from fun z=>Bi z)];refine Aa (Ae (Aa (Dw g dd ?_)));rw[if_neg (by simp)];refine Aa (Ae (Aa (D0 g dd ?_)));rw[if_neg (by simp)];refine Ae ?_;have ni:¬ ((i:Int) < 0):=by omega
 simp only[ni,if_false,AS,hx];refine Aa (Aa (BE hit.typeIs (Ae ?_)));show wpAny _ _ (setField (.ref it) 0 .none >>= _) _ _ s;refine Aa (De ig idt (by simp) ?_);show wpAny _ _ (newExc (.type "StopIteration") [] >>= _) _ _ _;simp only[newExc,newTuple];refine Aa (Aa (A8 (Aa (m:=firstArgMember _ _) (Fo (a:=Bf) (by first | rfl | (simp only[firstArgMember];rfl)) (A8 ?_ (by size_fits)))) (by size_fits)));simp only[raiseNew];refine Aa (wpAny_handled ?_);rw[show A.in1.handled=none from hh];refine Aa (Ae (wpAny_throw ?_));refine Aa (wpAny_isInstance (T:="StopIteration") (b:=true) ⟨_,Az _ rfl,rfl⟩ isSubtype_stop (Ae ?_));exact k _ (((BF ..).extBut.push _).push _)
end
section
variable {X:Cx} {K:Ac} {H:Hp} {io:List Addr} {m:ME} {st st':Sto} {tg:Expr}
noncomputable def zoE(kvs:List (List Key×D)):List D:=kvs.map fun p=>.tup (p.1.map keyD)
end
end L2.MP
namespace L2.MP
section
open PySem PySem.Spec PyProof.Rows PySem.Builtin PySem.Builtin.Str
variable {prog:Program} {w:World} {A:Around} {E:Value->Shared->Prop} {s:Shared} {z y:Str} {t u:Tok} {Q:Value->Shared->Prop}
end
section
open PySem PySem.Spec PyProof.Rows
variable {X:Cx} {K:Ac} {H:Hp} {io:List Addr} {st st':Sto} {a b c e:Expr} {es:List Expr} {ma mb mc m:ME} {mm:MA} {pos:Pos}
end
end L2.MP
namespace L2.MP
open PySem
theorem zic{c:MT}{m n:ME}{ρ:Rho}{st:Sto}:mIte c m n ρ st=(c ρ st).bind fun p=>if p.1=true then m ρ p.2 else n ρ p.2:=rfl
theorem zmE{W:Wk}{g:MG}{m:MS}{d r:D}{ds:List D}{ρ ρ1:Rho}{st s1 s2:Sto}(wk:walked W st=true)(e1:g d ρ st=some (ρ1,s1))(e2:m ρ1 s1=some (.rt r,s2)):zeM W g m (d::ds) ρ st=some (.rt r,s2):=by
 unfold zeM;rw[if_pos wk,e1];simp only[Ab,e2]
theorem zmF{W:Wk}{g:MG}{m:MS}{d:D}{ds:List D}{ρ ρ1 ρ2:Rho}{st s1 s2:Sto}(wk:walked W st=true)(e1:g d ρ st=some (ρ1,s1))(e2:m ρ1 s1=some (.nx ρ2,s2)):zeM W g m (d::ds) ρ st=zeM W g m ds ρ2 s2:=by
 conv=>lhs;unfold zeM
 rw[if_pos wk,e1];simp only[Ab,e2]
end L2.MP
namespace L2.MP
open PySem PySem.Spec PyProof.Rows
@[irreducible] def JSs (X:Cx) (s:List Stmt) (m:MS):Prop:=SSs X s m
@[irreducible] def JS (X:Cx) (s:Stmt) (m:MS):Prop:=SS X s m
@[irreducible] def JA (X:Cx) (es:List Expr) (m:MA):Prop:=SA X es m
section
variable {X:Cx} {e a b c:Expr} {es:List Expr} {st1 st2:Stmt} {rest body orelse:List Stmt} {pos:Pos} {m ma mb mc:ME} {mt mu:MT} {mm:MA} {ms mq mr:MS} {mg:MG} {mi:MI}
theorem JSs.out(h:JSs X body ms):SSs X body ms:=by unfold JSs at h;exact h
theorem JSs.mk(h:SSs X body ms):JSs X body ms:=by unfold JSs;exact h
theorem JS.out(h:JS X st1 ms):SS X st1 ms:=by unfold JS at h;exact h
theorem JS.mk(h:SS X st1 ms):JS X st1 ms:=by unfold JS;exact h
theorem JA.out(h:JA X es mm):SA X es mm:=by unfold JA at h;exact h
theorem JA.mk(h:SA X es mm):JA X es mm:=by unfold JA;exact h
theorem zbk:JSs X [] zcp:=.mk zlF
theorem zas(h:JS X st1 ms):JSs X [st1] ms:=.mk (zlE h.out)
theorem zah(h:JS X st1 ms)(h2:JSs X rest mq):JSs X (st1::rest) (mSeq ms mq):=.mk (zj5 h.out h2.out)
theorem zee(hc:SB X c mt)(h1:JSs X body ms)(h2:JSs X orelse mq):JS X (.If c body orelse pos) (mIf mt ms mq):=.mk (zoS hc h1.out h2.out)
theorem zdx{tg iter:Expr}(hp:PassesOwn (model X.prog X.w) X.A X.env X.xe)(hc:X.calm=true)(hi:SI X tg iter mi)(hg:SG X tg mg)(hb:JSs X body ms)(hs:∀ x,foldedSetIterable iter X.env x=pure x:=by intro _;rfl):JS X (.For tg iter body [] pos) (mFor mi mg ms):=.mk (znj hp hc hi hg hb.out hs)
theorem zkS{n:Nat}(hp:PassesOwn (model X.prog X.w) X.A X.env X.xe)(hc:SB X c mt)(hb:JSs X body ms):JS X (.While c body [] pos) (mWhF mt ms n):=.mk (zj6 hp hc hb.out)
theorem zmL:JA X [] mNil:=.mk zag
theorem zcv(ha:SE X e m)(hr:JA X es mm)(hs:∀ q,starEach (e::q) X.env=(false,eval e X.env)::starEach q X.env:=by intro _;rfl):JA X (e::es) (zae m mm):=.mk (zaa ha hr.out (hs _))
end
section
variable {prog:Program} {w:World} {A:Around}
theorem zgR(hh:A.handled=none)(it d:Addr)(hne:d≠it){o:Obj}{es:Array DictEntry}{ep:Nat}(dd:o.data=.dict es ep) :
   Walks prog w A it [it,d] [it] es.size (fun i v=>∃ en,es[i]?=some en/\v=en.key) (fun i h=>h.IsKeyIter it d i es.size ep/\h.get? d=some o) where
 sub:=fun b hb=>by simp at hb;simp[hb]
 frame:=fun _ _ _ st hk=>⟨st.1.at fun o e=>hk it (by simp) o e,hk d (by simp) o st.2⟩
 item:=fun i s Q E hi st hQ=>by
   have hx:es[i]?=some es[i]:=AL hi;refine zi5 st.1 st.2 dd hx fun h' st' sb=>?_;exact hQ _ h' s.toks ⟨_,hx,rfl⟩ ⟨st',(sb.2 d hne).trans st.2⟩ fun b ob hb e=>(sb.2 b (fun z=>hb (by simp[z]))).trans e
 done:=fun s Q E st hQ=>zi4 hh st.1 st.2 dd (by simp) fun h' eb=>hQ h' s.toks fun b ob hb e=>eb b ob (fun z=>hb (by simp[z])) e
 self:=fun _ _ _ _ st hQ=>wpAny_pyIter_keyiter st.1 hQ
theorem zj7{d:Addr}{o:Obj}{es:Array DictEntry}{ep:Nat}(dd:o.data=.dict es ep)(hd:(d==sysModules)=false)(ty:∀ s:Shared,s.heap.get? d=some o->s.TypeIs (.ref d) "dict") :
   PySem.W.KdlSrc prog w "dict" d d es.size (fun i v=>∃ en,es[i]?=some en/\v=en.key) (fun h=>h.get? d=some o) where
 type:=ty
 there:=fun _ g=>⟨Am g,Am g⟩
 keep:=fun _ _ g hk=>hk d (.inl rfl) o g
 notList:=by decide
 notTuple:=by decide
 hint:=fun _ _ s _ g hq=>PySem.W.kdl_hint_dict (ty s g) hq
 iter:=fun A' s hh g=>⟨_,_,fun _ _ hq=>zi6 (ty s g) hd g dd hq,zgR hh _ d (AG (Am g)) dd,⟨⟨_,Az _ rfl,rfl,rfl⟩,Ai _ g⟩⟩
end
section
variable {X:Cx} {K:Ac} {H:Hp} {io:List Addr} {st st':Sto}
theorem zgg{K:Ac}{H:Hp}{io:List Addr}:∀ {vs:List Value} {ps:List (List Key×V)} {kvs:List (List Key×D)},KR (List Key) K H io ps kvs->vs.length=ps.length->(∀ (j:Nat) (v:Value) (p:List Key×V),vs[j]?=some v->ps[j]?=some p->∃ b,v=.ref b/\H b=some (.tup (p.1.map kV)))->∃ ys,Vals ys vs/\Reps K H io ys (zoE kvs)
 | [],_,_,.nil,_,_=>⟨[],.nil,rfl⟩
 | [],_::_,_,.cons _ _,hl,_=>by simp at hl
 | v::vs,_,_,.nil,hl,_=>by simp at hl
 | v::vs,p::ps,q::kvs,.cons h t,hl,hv=>by
   obtain⟨b,rfl,hb⟩:=hv 0 v p rfl rfl;obtain⟨ys,r1,r2⟩:=zgg (vs:=vs) t (by simpa using hl) fun j v p e1 e2=>hv (j+1) v p (by simpa using e1) (by simpa using e2);refine⟨.ref b::ys,.cons rfl r1,Reps.cons ⟨b,_,rfl,hb,?_⟩ r2⟩;rw[h.1];exact zfL _
noncomputable def zkM:GN
 | [.ref n],st=>match st[n]? with
   | some (.dt kvs)=>if fits kvs.length=true then some (.ref st.length,st++[.lst (zoE kvs)]) else none
   | _=>none
 | _,_=>none
theorem zgM(hc:X.calm=true):zdl X (.type "list") zkM:=by
 rintro pins s σ H xs us Q I r ⟨ds,st,io,d,st',R,S,e,k⟩;unfold zkM at e
 split at e
 . rename_i n
   split at e
   . rename_i kvs en;obtain⟨hf,e⟩:=zal e;cases e;obtain⟨v,rfl,p,rfl,hp⟩:=R.one;obtain⟨u,rfl,ru⟩:=r.one;cases ru;obtain⟨ps,hH,rk⟩:=S.ob n p _ hp en;obtain⟨t1,t2,hs⟩:=zof I (.inr ⟨ps,.inl hH⟩);obtain⟨z,y,xs,r0,o,es,ep,g,ex,dd,et,nd⟩:=I.hok p _ hH;have x:=I.hok p _ hH;have fz:zdk X.prog X.w H s.heap p (.frz o (.dT ps)):=⟨g,x⟩
     obtain⟨g',hl,ent⟩:=zk5 fz dd;have hsz:es.size<=sizeLine:=by
       rw[hl,KR.length rk];exact of_decide_eq_true hf
     refine PySem.W.kdl_call (zj7 (prog:=X.prog) (w:=X.w) dd hs (fun s' g'=>?_)) (I.ok.hd hc) g hsz fun h' tk acc c' hk hat hacc=>?_
     . obtain⟨o',ho',hc'⟩:=t1;rw[g] at ho';cases ho';exact⟨o,g',hc'⟩
     . obtain⟨ys,rv,rr⟩:=zgg (vs:=acc.toList) rk (by rw[AQ,hacc.1,hl]) fun j v q e1 e2=>by
         obtain⟨en',h1,h2⟩:=hacc.2 j v (by rw[<-AD];exact e1);obtain⟨en2,b,h3,h4,h5,_⟩:=ent j q.1 q.2 e2;rw[h1] at h3;cases h3;exact⟨b,by rw[h2,h4],h5⟩
       have hyl:ys.length<=sizeLine:=by rw[rv.length,AQ,hacc.1];exact hsz
       refine⟨.ref s.heap.objs.size,upd H s.heap.objs.size (.lst ys),I.laid (t':=tk) (fun b o q=>hk b o q) (Ah _) ⟨hyl,acc.toList,c',rv,by simpa using hat⟩,rfl,?_⟩;exact k.lst S rr (I.hok.fresh (Ah _))
   . cases e
 . cases e
noncomputable def zmH:GN:=orN zn6 zkM
theorem zh3(hc:X.calm=true):zdl X (.type "list") zmH:=zdf (zh4 hc) (zgM hc)
end
section
variable {X:Cx} {K:Ac} {H:Hp} {io:List Addr} {st st':Sto} {body:List Stmt} {ms:MS} {pos:Pos}
noncomputable def zmx:G2:=orG zoy fun x y st=>match x,y with
 | .bl a,.bl b=>some (.bl (a != b),st)
 | _,_=>none
theorem zhl:OpM X (compareOp .IsNot) zmx:=zhj zks (by
 rintro pins s σ H x y v u Q I rx ry ⟨dx,dy,st,io,d,st',Rx,Ry,S,e,k⟩
 (try dsimp only at e)
 split at e
 . cases e
   cases (show x=_ from Rx)
   cases (show y=_ from Ry)
   cases rx;cases ry;exact PyProof.Rows.isnot_bool ⟨.bl _,H,I,rfl,k.now S rfl⟩
 . cases e)
end
section
variable {prog:Program} {w:World} {A:Around} {E:Value->Shared->Prop} {s:Shared}
theorem zfZ{l:Addr}{vs:List Value}{R:Value->Shared->Prop}(ht:IsTup s.heap l vs.toArray)(hz:vs.length<=sizeLine)
   (go:∀ D h',(∀ b o,s.heap.get? b=some o->h'.get? b=some o)->s.heap.get? D=none->h'.get? D=some (seqObj "list" vs.toArray 0)->wpAny (model prog w) A.in1.in1 (Builtin.«list.sort» ⟨[.ref D],[]⟩) (fun f s'=>f=.done (.ret .none)/\R (.ref D) s') (fun _ _=>False) { s with heap:=h' }) :
   wpAny (model prog w) A (call (.builtin "sorted") [.ref l]) R E s:=by
 obtain⟨o,g,c,n,d⟩:=ht;refine DC kind_sorted plain_sorted entry_sorted (args_sorted1 _) ?_;unfold Builtin.«sorted»;refine Aa (m:=checkCount "sorted" 1 1 _) (Ae (Aa (PySem.wpAny_collect_seq l (.inr rfl) g c d (fun h1 k1=>Aa (Ds ?_ (by simpa using hz))) (by simpa using hz))));have g0:(h1.push (seqObj "list" vs.toArray 0)).get? h1.objs.size=some (seqObj "list" vs.toArray 0):=Az _ rfl;have fr:s.heap.get? h1.objs.size=none:=by
   cases e:s.heap.get? h1.objs.size with
   | none=>rfl
   | some u=>exact absurd (Am (k1 _ _ e)) (AR _)
 refine Aa (A9 (Bo slot_list_sort ⟨_,g0,rfl⟩ entry_list_sort (Bp (go _ _ (fun b u e=>Ai _ (k1 b u e)) fr g0) (fun f s' ⟨e,r⟩=>?_) fun _ _ x=>x.elim) (args_list_sort _)));subst e;exact⟨_,rfl,Ae ⟨_,rfl,r⟩⟩
theorem zkb{at_:Addr}{vs:List Value}{k:Nat}{R:PySem.Fin->Shared->Prop}(hv:vs.length < 2)(g0:s.heap.get? at_=some (seqObj "list" vs.toArray k))(fin:R (.done (.ret .none)) { s with heap:=sortedHeap s.heap at_ vs vs.toArray }) :
   wpAny (model prog w) A (Builtin.«list.sort» ⟨[.ref at_],[]⟩) R E s:=by
 have lt0:=Am g0;have hz:vs.length<=sizeLine:=AH (Ca hv) (by decide);obtain⟨ep,g1⟩:∃ ep,(s.heap.update at_ (Bq fun _=>(#[]:Array Value))).get? at_=some (seqObj "list" #[] ep):=⟨_,get?_update_seq g0 fun _=>#[]⟩
 have g2:(((s.heap.update at_ (Bq fun _=>(#[]:Array Value))).push (seqObj "tuple" vs.toArray 0)).push (seqObj "list" #[] 0)).get? at_=some (seqObj "list" #[] ep):=Ai _ (Ai _ g1);rw[list_sort_plain];refine Aa (listItems_at g0 rfl (Aa (Dr g0 rfl (Aa (Ea g1 rfl (Aa (wpAny_newTuple (Aa (Ds (A9 ?_))) (by simpa using hz))))) (by simpa using hz))));show wpAny (model prog w) A _ R E { s with heap:=((s.heap.update at_ (Bq fun _=>(#[]:Array Value))).push (seqObj "tuple" vs.toArray 0)).push (seqObj "list" #[] 0) };have two:vs.toArray.size < 2:=by simpa using hv
 have same:(arrOf (Gb general' (vs.toArray.zip vs.toArray) #[] 7 none)).map (·.2)=vs.toArray:=by
   show ((vs.toArray.zip vs.toArray).map (·.2))=vs.toArray;simp;clear two g2 g1 g0 hz fin hv
   induction vs with
   | nil=>rfl
   | cons a r ih=>simpa using ih
 dsimp only;rw[if_pos two,if_pos two];refine Aa (Ae ?_);rw[FE];refine Aa (Ae ?_);dsimp only;rw[same];refine Aa (Ea g2 rfl (Aa (Dr g2 rfl ?_ (hsz2:=by simp;omega))));simp only[bne_self_eq_false,Ay,if_false];exact Ae fin
end
section
variable {X:Cx} {pins:List (Addr×Obj)} {σ:L2.St} {H:Hp} {s:Shared}
theorem Inv.notL(I:Inv X pins σ H s){D:Addr}(h:s.heap.get? D=none):D≠X.env.locals/\X.base.get? D=none/\H D=none:=by
 refine⟨fun z=>?_,?_,?_⟩
 . obtain⟨m,⟨o,_,_,e,_⟩,_⟩:=I.loc;rw[<-z,h] at e;cases e
 . cases e:X.base.get? D with
   | none=>rfl
   | some u=>rw[(I.bs D u e).1] at h;cases h
 . cases e:H D with
   | none=>rfl
   | some o =>
     obtain⟨u,hu⟩:=zga (I.hok D o e);rw[h] at hu;cases hu
theorem zka{xs:List V}{its:List Value}{D:Addr}{h':Heap}{Q:VK}(I:Inv X pins σ H s)(rv:Vals xs its)(h2:xs.length < 2)(k:∀ b o,s.heap.get? b=some o->h'.get? b=some o)(hD:s.heap.get? D=none)(gD:h'.get? D=some (seqObj "list" its.toArray 0))(h:∀ p,H p=none->Q (.ref p) (upd H p (.lst xs))) :
   wpAny (model X.prog X.w) X.A.in1.in1 (Builtin.«list.sort» ⟨[.ref D],[]⟩) (fun f s'=>f=.done (.ret .none)/\EP X pins σ Q (.ref D) s') (fun _ _=>False) { s with heap:=h' }:=by
 have hlen:=rv.length;have hz:xs.length<=sizeLine:=AH (Ca h2) (by decide);refine zkb (by omega) gD ⟨rfl,?_⟩;obtain⟨n1,n2,n3⟩:=Inv.notL I hD;obtain⟨ep,e⟩:=sortedHeap_at (out:=its.toArray) gD;have kk:∀ b u,s.heap.get? b=some u->(sortedHeap h' D its its.toArray).get? b=some u:=fun b u q=>by
   have hb:b≠D:=fun z=>by rw[z,hD] at q;cases q
   rw[sortedHeap_old hb (Am (k b u q))];exact k b u q
 have J:Inv X pins σ (upd H D (.lst xs)) { s with heap:=sortedHeap h' D its its.toArray }:=by
   obtain⟨m,F⟩:=I.fr;refine Inv.laidAt (m:=m) I (fun b u _=>kk b u) (fun m' ⟨o,a1,a2,q,a3⟩=>⟨o,a1,a2,kk _ _ q,a3⟩) (let ⟨m',⟨o,_,_,q,_⟩,_⟩:=I.loc;⟨o,kk _ _ q⟩) hD n3 n1 ⟨hz,its,ep,rv,e⟩
 exact⟨.ref D,_,J,rfl,h D n3⟩
theorem zj9{xs:List V}{its:List Value}{ts:List (List Int)}{D:Addr}{h0:Heap}{Q:VK}(I:Inv X pins σ H s)(rv:Vals xs its)(T:zgO H xs ts)(h2:2<=ts.length)(h64:ts.length < 64)(k0:∀ b o,s.heap.get? b=some o->h0.get? b=some o)(hsD:s.heap.get? D=none)(gD:h0.get? D=some (seqObj "list" its.toArray 0))
   (h:∀ (q:Array Nat) (p:Addr),q.Perm (BM (Ar ts.length))->Srt.Up (rank ts) q ts.length->H p=none->Q (.ref p) (upd H p (.lst (q.toList.map fun i=>xs.getD i .non)))) :
   wpAny (model X.prog X.w) X.A.in1.in1 (Builtin.«list.sort» ⟨[.ref D],[]⟩) (fun f s'=>f=.done (.ret .none)/\EP X pins σ Q (.ref D) s') (fun _ _=>False) { s with heap:=h0 }:=by
 have hlen:its.length=ts.length:=by
   have a:=rv.length;have b:=BR T;omega
 obtain⟨m,F⟩:=I.fr;have trkL:∀ b,H b≠none->b≠X.env.locals:=fun b hb z=>hb (by rw[z];exact I.free);obtain⟨n1,n2,hHD⟩:=Inv.notL I hsD;have nD:∀ p∈zdF X.base s.heap X.env.locals,p.1≠D:=fun p hp z=>by
   have q:=(zfI (g:=X.base) (h:=s.heap) (L:=X.env.locals) p hp).1;rw[z,hsD] at q;cases q
 refine PySem.W.kat_list_sort (s:={ s with heap:=h0 }) (news:=zdF X.base s.heap X.env.locals) (F.kept k0) ((zfI (g:=X.base) (h:=s.heap) (L:=X.env.locals)).grown k0) gD n1 n2 nD (by omega) (by omega) fun e1 h' F' N'=>?_;have keep:∀ {h2:Heap} {o:Obj},PyProof.Rows.Fr X.base X.env.locals h2 m->News X.base X.env.locals h2 ((D,o)::zdF X.base s.heap X.env.locals)->∀ b u,b≠X.env.locals->s.heap.get? b=some u->h2.get? b=some u:=fun {h2 o} F2 N2 b u hb e=>by
   cases q:X.base.get? b with
   | some v =>
     have z:=(I.bs b v q).1;rw[e] at z;cases z;exact F2.keep b _ q
   | none=>exact (N2 (b,u) (Af _ (zdb hb q e))).1
 have hk:∀ b o,H b≠none->s.heap.get? b=some o->h'.get? b=some o:=fun b o hb e=>keep F' N' b o (trkL b hb) e;obtain⟨fs,k1,k2,k3⟩:=zfM (h':=h') I hk T rv;refine Fs (s:={ s with heap:=h' }) (T:=.type "int") k1 (by omega) (fun v hv=>?_) rfl ?_
 . obtain⟨i,t,rfl⟩:=k3 v hv;exact Eh rfl
 have ok:=Srt.sort_ok (n:=its.length) (r:=rank ts) (by omega);refine zog (n:=its.length) (r:=rank ts) (s:={ s with heap:=h' }) (fun i j hi hj C hC=>zmZ (s':={ s with heap:=h' }) I hk T rv (by omega) (by omega) C hC) (fun q hq=>?_) ok;refine Et F' N' (Fc nD) fun h2 c F2 N2=>⟨rfl,?_⟩
 have hD2:=(N2 _ Ag).1;rw[hlen] at hq;have vals:Vals (q.toList.map fun i=>xs.getD i .non) (q.toList.map fun i=>its.getD i Bf):=by
   have hmem:∀ i∈q.toList,i < xs.length:=fun i hi=>by
     have:i∈(BM (Ar ts.length)).toList:=(Array.perm_iff_toList_perm.mp hq.1).mem_iff.mp hi;have hr:=rv.length;simp at this;omega
   generalize q.toList=ql at hmem
   induction ql with
   | nil=>exact .nil
   | cons i r ih =>
     refine .cons ?_ (ih fun j hj=>hmem j (Af _ hj));have hi:=hmem i Ag;obtain⟨u,eu,ru⟩:=rv.get (Aj hi);show RelV (xs.getD i V.non) (its.getD i Bf);rw[Ax,Ax,Aj hi,eu];exact ru
 have hql:q.toList.length=ts.length:=by
   have:=(Array.perm_iff_toList_perm.mp hq.1).length_eq;simpa using this
 have J:Inv X pins σ (upd H D (.lst (q.toList.map fun i=>xs.getD i .non))) { s with heap:=h2 } :=
   Inv.laidAt (m:=m) I (keep F2 N2) (fun m' hm'=>by rw[zmw hm' F.ns];exact F2.ns) (let ⟨o,_,_,e,_⟩:=F2.ns;⟨o,e⟩) hsD hHD n1 ⟨by rw[Ad,hql];exact lt64 h64,_,c,vals,hD2⟩
 exact⟨.ref D,_,J,rfl,h q D hq.1 hq.2 hHD⟩
end
section
variable {X:Cx} {K:Ac} {H:Hp} {io:List Addr} {st st':Sto}
theorem zgy{Q:VK}{xs:List V}{ts:List (List Int)}{p:Addr}{q:Array Nat}(S:StR K H io st)(r1:Reps K H io xs (ts.map tupD))(hq:q.Perm (BM (Ar ts.length)))(hu:Srt.Up (rank ts) q ts.length)(hf:H p=none)(k:Bh K io H (st++[.lst ((zg2 ts).map tupD)]) (.ref st.length) Q):Q (.ref p) (upd H p (.lst (q.toList.map fun i=>xs.getD i .non))):=by
 have hm:∀ i∈q.toList,i < ts.length:=fun i hi=>by
   have:=(Array.perm_iff_toList_perm.mp hq).mem_iff.mp hi;simpa using this
 have rr:=zet r1 hm;rw[zd6 hq hu] at rr;exact k.lst S rr hf
noncomputable def zfv:GN
 | [.tup ds],st=>if decide (ds.length < 2)=true then some (.ref st.length,st++[.lst ds]) else (rowsOf ds).bind fun ts=>if (decide (2<=ts.length)&&decide (ts.length < 64))=true then some (.ref st.length,st++[.lst ((zg2 ts).map tupD)]) else none
 | _,_=>none
theorem zfh:zdl X (.builtin "sorted") zfv:=by
 rintro pins s σ H xs us Q I r ⟨ds,st,io,d,st',R,S,e,k⟩;unfold zfv at e
 split at e
 . rename_i zs;obtain⟨v,rfl,p,ys,rfl,hp,r1⟩:=R.one;obtain⟨u,rfl,ru⟩:=r.one;cases ru;have hx:SqT X.K H p ys:=.inl (.inl hp)
   split at e
   . rename_i hl;cases e;have e2:=r1.length;obtain⟨its,rv,pl,hz⟩:=I.tuple hx;exact zfZ pl (by have:=rv.length;omega) fun D h' k0 hD gD=>zka I rv (by rw[e2];exact of_decide_eq_true hl) k0 hD gD fun q hf=>k.lst S r1 hf
   . obtain⟨ts,e1,e⟩:=zad e;obtain⟨hl,e⟩:=zal e;cases e;rw[AA] at hl;obtain⟨T,hd⟩:=zg7 r1 e1;subst hd;obtain⟨its,rv,pl,hz⟩:=I.tuple hx;refine zfZ pl (by have:=rv.length;omega) fun D h' k0 hD gD=>zj9 I rv T (of_decide_eq_true hl.1) (of_decide_eq_true hl.2) k0 hD gD fun q p' hq hu hf=>zgy S r1 hq hu hf k
 . cases e
noncomputable def zcs:GN:=orN zcR zfv
theorem zcJ:zdl X (.builtin "sorted") zcs:=zdf zfO zfh
noncomputable def znc:G2
 | .tup a,.tup b,st=>if (a.isEmpty&&fits b.length)=true then some (.tup b,st) else none
 | _,_,_=>none
theorem zkv:OpM X (binaryOp .Add) znc:=by
 rintro pins s σ H x y v u Q I rx ry ⟨dx,dy,st,io,d,st',Rx,Ry,S,e,k⟩;unfold znc at e
 split at e
 . rename_i i j;obtain⟨hf,e⟩:=zal e;cases e;rw[AA] at hf;obtain⟨p,xs,rfl,hp,r1⟩:=Rx;obtain⟨q,ys,rfl,hq,r2⟩:=id Ry;cases rx;cases ry;obtain⟨m,F⟩:=I.fr;obtain⟨its,w1,p1,_⟩:=I.tuple (SqT.of hp);obtain⟨its2,w2,p2,_⟩:=I.tuple (SqT.of hq);have e0:its=[]:=by
     have a:=r1.length;have b:=w1.length;have c:i=[]:=by simpa using hf.1
     rw[c] at a;exact BD (by have a':xs.length=0:=a;omega)
   have hz:its2.length<=sizeLine:=by
     have a:=r2.length;have b:=w2.length;have c:=of_decide_eq_true hf.2;omega
   exact PyProof.Rows.add_tuples F (news:=[]) (fun p hp=>nomatch hp) p1 p2 (fun _=>⟨.ref q,H,I,rfl,k.now S Ry⟩) (fun z _=>absurd e0 z) (fun z _=>absurd e0 z) (by rw[e0];simpa using hz)
 . cases e
noncomputable def addE:G2:=orG addD znc
theorem zd8:OpM X (binaryOp .Add) addE:=zhj zaQ zkv
end
end L2.MP
namespace L2.MP
open PySem PySem.Spec PyProof.Rows PySem.SeqAt PySem.MeetsSeq PySem.MeetsSeq2 PySem.MeetsSeq3
section
variable {prog:Program} {w:World} {A:Around} {E:Value->Shared->Prop} {s:Shared}
theorem zfe{t sl:Addr}{items:Array Value}{vl vu:Value}{lo hi:Option Int}{Q:Value->Shared->Prop}(ht:IsTup s.heap t items)(hs:s.heap.IsSliceOf sl vl vu .none)(pl:IsPart vl lo)(pu:IsPart vu hi)
   (h0:HT.sIx items.size 0 lo=0) (h1:HT.sIx items.size items.size hi=items.size) (h:Q (.ref t) s):wpAny (model prog w) A (getItem (.ref t) (.ref sl)) Q E s:=by
 obtain⟨os,hos,hcs,hds⟩:=id hs;have hTs:s.TypeIs (.ref sl) "slice":=⟨os,hos,hcs⟩
 unfold getItem
 try with_reducible refine A9 ?_
 first | refine Aa (Ae ?_) | skip
 refine Aa (EZ ht.typeIs (by decide) (Aa (Br (name:=Cc "__getitem__") ht.typeIs By (Bo By ht.typeIs EE ?_ (ES _ _)))));show wpAny _ _ (Dq (.ref t) >>= _) _ _ s;refine Aa (tupleItemsOf_ ht (Aa (DK hTs ?_)));rw[if_pos (by decide)];refine Aa (HT.sliceApplied_gen hs pl pu ?_);rw[h0,h1];have yes:((((0:Nat):Int)==0&&(1:Int)==1&&(items.size - 0)==items.size)=true):=by simp
 show wpAny _ _ (if (((0:Nat):Int)==0&&(1:Int)==1&&(items.size - 0)==items.size)=true then _ else _) _ _ s;rw[if_pos yes];refine Aa (m:=Builtin.Tuple.tupleIsExact _) (Aa (DK ht.typeIs (Ae ?_)));rw[if_pos (by decide)];exact Aa (m:=(pure (Fin.done (Flow.ret (AJ t))):Sem Fin)) (Ae (Ae ⟨_,rfl,Ae h⟩))
end
section
variable {X:Cx} {K:Ac} {H:Hp} {io:List Addr} {st st':Sto} {e:Expr} {m:ME} {pos:Pos}
noncomputable def rSlW(K:Ac):V->Option Int->Option Int->Hp->VK->Prop:=fun x lo hi H Q=>∃ a xs,x=.ref a/\SqT K H a xs/\HT.sIx xs.length 0 lo=0/\HT.sIx xs.length xs.length hi=xs.length/\Q (.ref a) H
theorem zkd:SlR X (rSlW X.K):=by
 intro pins s σ H x v vl vu lo hi sl Q I rx hs pl pu h;obtain⟨a,xs,rfl,hx,h0,h1,q⟩:=h;cases rx;obtain⟨its,r,ht,hz⟩:=I.tuple hx;have hlen:its.toArray.size=xs.length:=by rw[Ao];exact r.length.symm
 exact⟨"tuple",_,PyProof.Rows.slot_tuple_getitem.lookup,ht.typeIs,zfe ht hs pl pu (by rw[hlen];exact h0) (by rw[hlen];exact h1) ⟨.ref a,H,I,rfl,q⟩⟩
noncomputable def slW:D->Option Int->Option Int->Sto->Option (D×Sto):=fun x lo hi st=>match x with
 | .tup ds=>if (decide (HT.sIx ds.length 0 lo=0)&&decide (HT.sIx ds.length ds.length hi=ds.length))=true then some (.tup ds,st) else none
 | _=>none
noncomputable def slC:D->Option Int->Option Int->Sto->Option (D×Sto):=fun x lo hi st=>orO (slB x lo hi st) (slW x lo hi st)
noncomputable def mSlC(m:ME)(l h:MO):ME:=fun ρ st=>(m ρ st).bind fun (x,s1)=>(l ρ s1).bind fun (lo,s2)=>(h ρ s2).bind fun (hi,s3)=>slC x lo hi s3
theorem zaI{lo hi:Option Expr}{ml mh:MO}{p2:Pos}(he:SE X e m)(hl:SO X lo ml)(hu:SO X hi mh):SE X (.Subscript e (.Slice lo hi none p2) pos) (mSlC m ml mh):=by
 rintro pins s σ H Q I ⟨ρ,st,io,d,st',E,S,e0,k⟩;obtain⟨⟨x,s1⟩,e1,e0⟩:=zad e0;obtain⟨⟨lo',s2⟩,e2,e0⟩:=zad e0;obtain⟨⟨hi',s3⟩,e3,e0⟩:=zad e0
 rcases zch e0 with e0 | e0
 . exact zep he hl hu pins s σ H Q I ⟨ρ,st,io,d,st',E,S,by simp only[mSlB,e1,e2,e3,Ab];exact e0,k⟩
 . refine zeu zkd he hl hu pins s σ H Q I ?_;refine⟨ρ,st,io,x,s1,E,S,e1,fun v1 H1 k1 X1 S1 R1=>⟨ρ,s1,io++k1,lo',s2,E.ext S X1,S1,e2,fun H2 k2 X2 S2=>⟨ρ,s2,(io++k1)++k2,hi',s3,(E.ext S X1).ext S1 X2,S2,e3,fun H3 k3 X3 S3=>?_⟩⟩⟩;have R3:=(R1.ext S1 X2).ext S2 X3;have k':=((k.on S1 X1).on S2 X2).on S3 X3;unfold slW at e0
   split at e0
   . rename_i ds;obtain⟨hw,e0⟩:=zal e0;cases e0;rw[AA] at hw;obtain⟨p,xs,rfl,hp,r⟩:=id R3;exact⟨p,xs,rfl,SqT.of hp,by rw[r.length];exact of_decide_eq_true hw.1,by rw[r.length];exact of_decide_eq_true hw.2,k'.now S3 R3⟩
   . cases e0
end
end L2.MP
namespace L2.MP
open PySem L2 PySem.Spec PyProof.Rows
section
variable {K:Ac} {x:Str} {st:Stmt} {f:Addr}
structure FdIn(K:Ac)(x:Str)(st:Stmt)(f:Addr):Prop where
 ex:∃ (oc:Value) (od:Option Addr) (kV dc pm:Value) (an:Option Addr) (cd ct:Value) (sl:Array (Option Value)),K.lookup f=some ⟨oc,od,.func (BJ x x (zdz st) (zcD st) (zaz st) .none kV dc pm an cd ct),sl⟩/\CG K cd x=true
 ns:A1 K mainGlobals x=some (some (.ref f))
 kp:BW K (.ref f)=true
theorem zhR{oc kV dc pm cd ct:Value}{od an:Option Addr}{sl:Array (Option Value)}(a:A1 K mainGlobals x=some (some (.ref f)))(l:K.lookup f=some ⟨oc,od,.func (BJ x x (zdz st) (zcD st) (zaz st) .none kV dc pm an cd ct),sl⟩)(c:CG K cd x=true)(k:BW K (.ref f)=true):FdIn K x st f :=
 ⟨⟨oc,od,kV,dc,pm,an,cd,ct,sl,l,c⟩,a,k⟩
theorem zcC{h:Heap}{mg:Str->Option Value}{ps:List Str}(F:FdIn K x st f)(X:K.In h)(G:h.Ns mainGlobals mg)(b:∀ (kV doc pm:Value) (an:Option Addr) (cdv ct:Value) (us:List Value),us.length=ps.length->bindArgs (BJ x x (zdz st) (zcD st) (zaz st) .none kV doc pm an cdv ct) ⟨us,[]⟩=pure (ps.zip us)):Laid K mg x st ps:=by
 obtain⟨⟨oc,od,kV,dc,pm,an,cd,ct,sl,l,c⟩,a,k⟩:=F;exact⟨_,_,zkZ l c k,FV X G a,(zkZ l c k).binds b⟩
end
theorem len1{α:Type}{P:List α->Prop}(h:∀ a,P [a])(l:List α)(e:l.length=1):P l:=by
 rcases l with _ | ⟨a,_ | ⟨b,l⟩⟩
 . cases e
 . exact h a
 . cases e
theorem len2{α:Type}{P:List α->Prop}(h:∀ a b,P [a,b])(l:List α)(e:l.length=2):P l:=by
 rcases l with _ | ⟨a,l⟩
 . cases e
 . exact len1 (P:=fun l=>P (a::l)) (h a) l (F1 e)
theorem len3{α:Type}{P:List α->Prop}(h:∀ a b c,P [a,b,c])(l:List α)(e:l.length=3):P l:=by
 rcases l with _ | ⟨a,l⟩
 . cases e
 . exact len2 (P:=fun l=>P (a::l)) (h a) l (F1 e)
end L2.MP
namespace L2.MP
open PySem PySem.Spec PyProof.Rows
end L2.MP
namespace L2.MP
open PySem L2 PySem.Spec PyProof.Rows
end L2.MP
namespace L2.MP
open PySem PySem.Spec PyProof.Rows
end L2.MP
namespace L2.MP
open PySem PySem.Spec
section
variable {κ:Type} [DecidableEq κ]
noncomputable def met(val:Nat->κ):Nat->List κ
 | 0=>[]
 | i+1=>if val i∈met val i then met val i else met val i++[val i]
theorem ze8(val:Nat->κ):∀ i,(met val i).length<=i
 | 0=>Ah _
 | i+1=>by
   have ih:=ze8 val i;unfold met
   split
   . omega
   . rw[AF,BQ];omega
theorem zmA(val:Nat->κ)(i:Nat)(x:κ):decide (x∈met val (i+1))=(decide (x∈met val i) || decide (x=val i)):=by
 rw[Bb,Bu,decide_eq_true_iff,decide_eq_true_iff,decide_eq_true_iff];rw[met]
 split
 . rename_i h
   constructor
   . exact .inl
   . rintro (z | z)
     . exact z
     . rw[z];exact h
 . rw[D3,CD]
end
section
variable {prog:Program} {w:World} {A:Around} {E:Value->Shared->Prop} {s:Shared} {κ:Type} [DecidableEq κ] {knd:KeyKind prog w κ}
noncomputable def zhr(led:Bool):Obj:={ cls:=.type "set",dict:=none,data:=.set #[] 0 (.fresh 0 0 led) }
end
end L2.MP
namespace L2.MP
open PySem PySem.Spec PyProof.Rows
section
variable {X:Cx} {K:Ac} {H:Hp} {io:List Addr} {st st':Sto}
theorem zol:bootBuiltins "set"=some (.type "set"):=by decide +kernel
theorem Bh.sz{n:Nat}{Q:VK}{p:Addr}(k:Bh K io H (st++[.sz n]) (.ref st.length) Q)(S:StR K H io st)(hp:H p=none):Q (.ref p) (upd H p (.ext (SetZ p n))):=by
 obtain⟨E,S'⟩:=zmy (o:=.ext (SetZ p n)) (ob:=.sz n) S hp fun H' T e=>e;exact k _ _ [p] E S' ⟨p,rfl,by rw[<-S.len];exact getElem?_len io p⟩
theorem zlL{P:Program}{w:World}{H:Hp}{h:Heap}{a:Addr}{n:Nat}(x:SetZ a n h):zdk P w H h a (.ext (SetZ a n)):=by
 have y:=x;obtain⟨o,es,ep,t,h1,_⟩:=y;refine⟨x,⟨o,h1⟩,?_⟩;rintro g1 g2 ⟨o,es,ep,t,h1,r⟩ k;exact⟨o,es,ep,t,k o h1,r⟩
noncomputable def zm9:GN
 | [.ref n],st=>match st[n]? with
   | some (.sz m)=>some (.int m,st)
   | _=>none
 | _,_=>none
theorem zh5:zdl X (.builtin "len") zm9:=by
 rintro pins s σ H xs us Q I r ⟨ds,st,io,d,st',R,S,e,k⟩;unfold zm9 at e
 split at e
 . rename_i n
   split at e
   . rename_i m en;cases e;obtain⟨v,rfl,p,rfl,hp⟩:=R.one;obtain⟨u,rfl,ru⟩:=r.one;cases ru;have hH:=S.ob n p _ hp en;obtain⟨⟨o,es,ep,t,h1,h2,h3,h4,h5,h6⟩,_,_⟩:=I.hok p _ hH;have hs:es.size < 4096:=h4;refine PySem.call_len_set h1 h2 h3 h5 (by omega) ?_;subst h6;exact⟨.int es.size,H,I.tok _,⟨_,rfl⟩,k.now S rfl⟩
   . cases e
 . cases e
noncomputable def lenE:GN:=orN lenD zm9
theorem zjm:zdl X (.builtin "len") lenE:=zdf zaV zh5
end
section
variable {κ:Type} [DecidableEq κ]
theorem zkE(val:Nat->κ):∀ {i:Nat} {x:κ},x∈met val i ↔ ∃ j,j < i/\val j=x
 | 0,x=>by simp[met]
 | i+1,x=>by
   have:=zmA val i x;rw[Bb,Bu,decide_eq_true_iff,decide_eq_true_iff,decide_eq_true_iff] at this;rw[this,zkE val]
   constructor
   . rintro (⟨j,h,e⟩ | e)
     . exact⟨j,by omega,e⟩
     . exact⟨i,by omega,e.symm⟩
   . rintro ⟨j,h,e⟩
     by_cases q:j=i
     . subst q;exact .inr e.symm
     . exact .inl ⟨j,by omega,e⟩
theorem zjI(val:Nat->κ):∀ n,(met val n).length=n ↔ ∀ i j,i < j->j < n->val i≠val j
 | 0=>by simp[met]
 | n+1=>by
   have ih:=zjI val n;have hl:=ze8 val n;rw[met]
   split
   . rename_i h;obtain⟨i,hi,e⟩:=(zkE val).mp h
     constructor
     . intro q;omega
     . intro q;exact absurd e (q i n hi (by omega))
   . rename_i h;rw[AF,BQ]
     constructor
     . intro q i j hij hj
       by_cases hjn:j=n
       . subst hjn;exact fun e=>h ((zkE val).mpr ⟨i,hij,e⟩)
       . exact ih.mp (by omega) i j hij (by omega)
     . intro q;have:=ih.mpr fun i j hij hj=>q i j hij (by omega);omega
end
end L2.MP
namespace L2.MP
open PySem PySem.Spec
end L2.MP
namespace L2.MP
open PySem PySem.Spec PyProof.Rows
section
variable {X:Cx} {K:Ac} {H:Hp} {io:List Addr} {m:ME} {st st':Sto} {tg:Expr}
end
end L2.MP
namespace L2.MP
open PySem PySem.Spec
end L2.MP
namespace L2.MP
open PySem PySem.Spec PyProof.Rows
end L2.MP
namespace L2.MP
open PySem PySem.Spec
section
variable {prog:Program} {w:World} {A:Around} {E:Value->Shared->Prop} {s:Shared}
theorem zke(a:Value){Q₁:Value->Shared->Prop}(h:Q₁ (.ref s.heap.objs.size) { s with heap:=s.heap.push (zhr (!w.params.followText "set-order")) }):codeAny (model prog w) A (.call (.builtin "set.__new__") ⟨[.type "set",a],[]⟩) (wants Q₁ E) s:=by
 refine codeAny_of_tree ?_;show wpAny _ A.in1 (checkBuiltinCall "set.__new__" ⟨[.type "set",a],[]⟩ >>= fun _=>again (.builtin "set.__new__" ⟨[.type "set",a],[]⟩)) _ _ s;refine Aa (Fo (F.newCall_set_1 a) (Ae ⟨plainId_quiet F.plain_set_new _,C1 F.entry_set_new ?_⟩));rw[C2 F.plain_set_new _];unfold Builtin.«set.__new__» FW;have hsub:=sub_set_self;obtain⟨hp,g,d,tk,os⟩:=s;dsimp only at h ⊢
 wp_walk
 refine wpAny_askSetting (Ae ?_);dsimp only;simp only[newObj];exact Aa (wpAny_alloc (Ae (Ae h)))
end
end L2.MP
namespace L2.MP
open PySem PySem.Spec PyProof.Rows
theorem zfE{α:Type}[DecidableEq α]:∀ {m l:List α},m.Nodup->(∀ x∈m,x∈l)->l.length=m.length->l.Perm m
 | [],l,_,_,e=>by
   have:l=[]:=List.length_eq_zero_iff.mp e;rw[this]
 | x::r,l,nd,h,e=>by
   have hx:=h x Ag;obtain⟨n1,n2⟩:=List.nodup_cons.mp nd;refine (List.perm_cons_erase hx).trans (List.Perm.cons x (zfE n2 (fun y hy=>(Ck (fun z:y=x=>n1 (z ▸ hy))).mpr (h y (Af _ hy))) ?_));rw[BZ hx,e];rfl
section
variable {X:Cx} {K:Ac} {H:Hp} {io:List Addr} {st st':Sto} {pos:Pos} {m:ME}
theorem zf7:∀ {xs:List V} {ds:List D} {ss:List Str},Reps K H io xs ds->strsOf ds=some ss->xs=ss.map V.str
 | xs,[],ss,r,e=>by
   cases e;exact r
 | xs,d::ds,ss,r,e=>by
   obtain⟨x,zs,rfl,e1,rfl⟩:=zd3 e;obtain⟨v,vs,rfl,r1,r2⟩:=r;cases r1;rw[zf7 r2 e1];rfl
end
variable {X:Cx} {pos:Pos}
end L2.MP
namespace L2.MP
open PySem PySem.Spec PyProof.Rows
end L2.MP
namespace L2.MP.ST
open PySem PySem.SetTable
def Rise(xs:Array Nat):Prop:=∀ i j,i < j->j < xs.size->xs.getD i 0 < xs.getD j 0
theorem getD_in{xs:Array Nat}{i a b:Nat}(h:i < xs.size):xs.getD i a=xs.getD i b:=by
 simp[DD,h]
theorem zfQ{xs:Array Nat}{j:Nat}(R:Rise xs):∀ (f lo hi:Nat),hi - lo<=f->lo<=hi->hi<=xs.size->(∀ i,i < lo->xs.getD i 0 < j)->(∀ i,hi<=i->i < xs.size->j<=xs.getD i 0) ->
   below.go xs j f lo hi<=xs.size/\(∀ i,i < below.go xs j f lo hi->xs.getD i 0 < j)/\∀ i,below.go xs j f lo hi<=i->i < xs.size->j<=xs.getD i 0
 | 0,lo,hi,hf,h1,h2,h3,h4=>by
   have:lo=hi:=by omega
   subst this;exact⟨h2,h3,h4⟩
 | f+1,lo,hi,hf,h1,h2,h3,h4=>by
   unfold below.go
   by_cases c:lo < hi
   . rw[if_pos c];dsimp only;have hm:(lo+hi) / 2 < xs.size:=by omega
     rw[getD_in (b:=0) hm]
     by_cases d:xs.getD ((lo+hi) / 2) 0 < j
     . rw[if_pos d];refine zfQ R f _ hi (by omega) (by omega) h2 (fun i hi'=>?_) h4
       by_cases e:i=(lo+hi) / 2
       . rw[e];exact d
       . exact Nat.lt_trans (R i ((lo+hi) / 2) (by omega) hm) d
     . rw[if_neg d];refine zfQ R f lo _ (by omega) (by omega) (by omega) h3 fun i hi' hs=>?_
       by_cases e:i=(lo+hi) / 2
       . rw[e];omega
       . have:=R ((lo+hi) / 2) i (by omega) hs;omega
   . rw[if_neg c];have:lo=hi:=by omega
     subst this;exact⟨h2,h3,h4⟩
theorem zc1{xs:Array Nat}{j:Nat}(R:Rise xs):below xs j<=xs.size/\(∀ i,i < below xs j->xs.getD i 0 < j)/\∀ i,below xs j<=i->i < xs.size->j<=xs.getD i 0 :=
 zfQ R xs.size 0 xs.size (by omega) (AU _) (Ah _) (fun i h=>by omega) fun i h1 h2=>by omega
theorem below_at{xs:Array Nat}{i j:Nat}(R:Rise xs)(h:xs[i]?=some j):below xs j=i:=by
 obtain⟨b1,b2,b3⟩:=zc1 (j:=j) R;have hi:i < xs.size:=by
   by_cases c:i < xs.size
   . exact c
   . rw[Eb (by omega)] at h;cases h
 have hv:xs.getD i 0=j:=by simp[h]
 generalize below xs j=r at *
 by_cases c:i < r
 . have:=b2 i c;omega
 . by_cases d:r < i
   . have:=R r i d hi;have:=b3 r (Ah _) (by omega);omega
   . omega
theorem slot_live{t:SetTable}{i j:Nat}(R:Rise t.place)(h:t.place[i]?=some j):t.slot j=.live i:=by
 unfold SetTable.slot;dsimp only;rw[below_at R h,h];simp
theorem zg3{t:SetTable}{j:Nat}(hd:t.dummies=#[])(h:j ∉ t.place.toList):t.slot j=.empty:=by
 unfold SetTable.slot;dsimp only;have h1:(t.place[below t.place j]?==some j)=false:=by
   apply beq_false_of_ne;intro e;exact h (by rw[<-AD] at e;exact AY e)
 have h2:has t.dummies j=false:=by
   rw[hd];unfold has;simp
 rw[h1,h2];rfl
noncomputable def adv(mask:Nat)(p:Probe):Probe :=
 if p.more > 0 then { p with j:=p.j+1,more:=p.more - 1 } else
 { p with j:=(leap mask p.i p.perturb).1,more:=runEnd mask (leap mask p.i p.perturb).1 - (leap mask p.i p.perturb).1,i:=(leap mask p.i p.perturb).1,perturb:=(leap mask p.i p.perturb).2 }
noncomputable def at_(mask i pb:Nat):Probe:={ j:=i,more:=runEnd mask i - i,i:=i,perturb:=pb,dummy:=none }
noncomputable def pr(mask:Nat)(h:Int):Nat->Probe
 | 0=>at_ mask (bits h % (mask+1)) (bits h)
 | k+1=>adv mask (pr mask h k)
noncomputable def tI(mask:Nat)(h:Int):Nat->Nat×Nat
 | 0=>(bits h % (mask+1),bits h)
 | r+1=>leap mask (tI mask h r).1 (tI mask h r).2
noncomputable def tK(mask:Nat)(h:Int):Nat->Nat
 | 0=>0
 | r+1=>tK mask h r+(runEnd mask (tI mask h r).1 - (tI mask h r).1)+1
theorem zny(mask i:Nat):runEnd mask i - i<=9:=by unfold runEnd;split <;> omega
theorem zos(mask:Nat)(h:Int):∀ r,tK mask h r<=10*r
 | 0=>Ah _
 | r+1=>by
   have:=zos mask h r;have:=zny mask (tI mask h r).1;unfold tK;omega
theorem zlh{mask:Nat}{p:Probe}(h:0 < p.more):adv mask p={ p with j:=p.j+1,more:=p.more - 1 }:=by
 unfold adv;rw[if_pos h]
theorem zli{mask i pb j:Nat}:adv mask { j:=j,more:=0,i:=i,perturb:=pb,dummy:=none }=at_ mask (leap mask i pb).1 (leap mask i pb).2:=rfl
theorem zhI{mask:Nat}{h:Int}{r:Nat}(h0:pr mask h (tK mask h r)=at_ mask (tI mask h r).1 (tI mask h r).2):∀ c,c<=runEnd mask (tI mask h r).1 - (tI mask h r).1 ->
   pr mask h (tK mask h r+c)={ j:=(tI mask h r).1+c,more:=runEnd mask (tI mask h r).1 - (tI mask h r).1 - c,i:=(tI mask h r).1,perturb:=(tI mask h r).2,dummy:=none }
 | 0,_=>h0
 | c+1,hc=>by
   have ih:=zhI h0 c (by omega);show adv mask (pr mask h (tK mask h r+c))=_;rw[ih,zlh (by dsimp only;omega)];dsimp only
   congr 1
theorem zjs(mask:Nat)(h:Int):∀ r,pr mask h (tK mask h r)=at_ mask (tI mask h r).1 (tI mask h r).2
 | 0=>rfl
 | r+1=>by
   have e:=zhI (zjs mask h r) _ (Ah _);show adv mask (pr mask h (tK mask h r+(runEnd mask (tI mask h r).1 - (tI mask h r).1)))=_;rw[e,CA,zli];rfl
theorem zim(mask:Nat)(h:Int)(r c:Nat)(hc:c<=runEnd mask (tI mask h r).1 - (tI mask h r).1):(pr mask h (tK mask h r+c)).j=(tI mask h r).1+c:=by rw[zhI (zjs mask h r) c hc]
noncomputable def it(n:Nat):Nat->Nat->Nat
 | 0,i=>i
 | s+1,i=>it n s ((i*5+1) % n)
theorem zhG(n:Nat):∀ a b i,it n (a+b) i=it n b (it n a i)
 | 0,b,i=>by rw[Nat.zero_add];rfl
 | a+1,b,i=>by
   rw[Nat.add_right_comm];show it n (a+b) _=it n b (it n a _);exact zhG n a b _
noncomputable def orb(n:Nat):Nat->Nat->List Nat
 | 0,_=>[]
 | k+1,i=>i::orb n k ((i*5+1) % n)
theorem zmo(n:Nat):∀ k i e,e∈orb n k i->∃ s,s < k/\it n s i=e
 | 0,i,e,h=>by simp[orb] at h
 | k+1,i,e,h=>by
   rcases List.mem_cons.mp h with rfl | h
   . exact⟨0,by omega,rfl⟩
   . obtain⟨s,hs,e1⟩:=zmo n k _ e h;exact⟨s+1,by omega,e1⟩
def Siz(n:Nat):Prop:=n=8\/n=32\/n=128
theorem zph{n:Nat}(h:Siz n):it n n 0=0/\∀ e,e < n->∃ s,s < n/\it n s 0=e:=by
 have key:∀ n,(it n n 0==0&&(Ar n).all fun e=>(orb n n 0).contains e)=true->it n n 0=0/\∀ e,e < n->∃ s,s < n/\it n s 0=e:=fun n hn=>by
   rw[AA,AX] at hn;exact⟨by simpa using hn.1,fun e he=>zmo n n 0 e (by simpa using hn.2 e (List.mem_range.mpr he))⟩
 rcases h with rfl | rfl | rfl
 . exact key 8 (by decide +kernel)
 . exact key 32 (by decide +kernel)
 . exact key 128 (by decide +kernel)
theorem full{n i e:Nat}(h:Siz n)(hi:i < n)(he:e < n):∃ s,s < n/\it n s i=e:=by
 obtain⟨z,f⟩:=zph h;obtain⟨a,ha,ea⟩:=f i hi;obtain⟨b,hb,eb⟩:=f e he
 by_cases c:a<=b
 . refine⟨b - a,by omega,?_⟩;rw[<-ea,<-zhG,show a+(b - a)=b from by omega];exact eb
 . refine⟨b+n - a,by omega,?_⟩;rw[<-ea,<-zhG,show a+(b+n - a)=n+b from by omega,zhG,z];exact eb
theorem zot(mask:Nat)(h:Int):∀ r,(tI mask h r).2=bits h / 32 ^ r
 | 0=>by simp[tI]
 | r+1=>by
   show (tI mask h r).2 / 32=_;rw[zot mask h r,Nat.div_div_eq_div_mul,Nat.pow_succ]
theorem zmX(h:Int):bits h < 2 ^ 64:=by
 unfold bits;have h1:=B5 h (b:=(2 ^ 64:Int)) (by decide);have h2:=BN h (b:=(2 ^ 64:Int)) (by decide);omega
theorem zmm(mask:Nat)(h:Int)(s:Nat):(tI mask h (13+s)).2=0:=by
 rw[zot];refine Nat.div_eq_of_lt ?_;have h1:=zmX h;have h2:(32:Nat) ^ 13<=32 ^ (13+s):=Nat.pow_le_pow_right (by decide) (by omega);have h3:(2:Nat) ^ 64 < 32 ^ 13:=by decide
 omega
theorem zov(mask:Nat)(h:Int):∀ s,(tI mask h (13+s)).1=it (mask+1) s (tI mask h 13).1
 | 0=>rfl
 | s+1=>by
   have e:=zhG (mask+1) s 1 (tI mask h 13).1;rw[e,<-zov mask h s];show ((tI mask h (13+s)).1*5+1+(tI mask h (13+s)).2 / 32) % (mask+1)=_;rw[zmm];rfl
theorem zou(mask:Nat)(h:Int):∀ r,(tI mask h r).1 < mask+1
 | 0=>Ew _ (DQ _)
 | r+1=>Ew _ (DQ _)
theorem reach{mask:Nat}(hs:Siz (mask+1))(h:Int){e:Nat}(he:e<=mask):∃ r,r < mask+14/\(tI mask h r).1=e:=by
 obtain⟨s,h1,h2⟩:=full hs (zou mask h 13) (Nat.lt_succ_of_le he);exact⟨13+s,by omega,by rw[zov];exact h2⟩
theorem getD_list{xs:Array Nat}{i:Nat}(h:i < xs.toList.length):xs.getD i 0=xs.toList[i]:=by
 have:i < xs.size:=by simpa using h
 simp[DD,this]
theorem zfA{xs:Array Nat}:Rise xs ↔ xs.toList.Pairwise (· < ·):=by
 rw[DB]
 constructor
 . intro R i j hi hj h;have:=R i j h (by simpa using hj);rw[getD_list hi,getD_list hj] at this;exact this
 . intro R i j h hj;have hj':j < xs.toList.length:=by simpa using hj
   have hi':i < xs.toList.length:=by omega
   rw[getD_list hi',getD_list hj'];exact R i j hi' hj' h
theorem zmc:∀ (n:Nat) (l:List Nat),(∀ e,e < n->e∈l)->n<=l.length
 | 0,l,_=>AU _
 | n+1,l,h=>by
   have hn:=h n (by omega);have:=zmc n (l.erase n) fun e he=>(Ck (by omega)).mpr (h e (by omega));rw[BZ hn] at this;have:=CN hn;omega
theorem left{n:Nat}{l:List Nat}(h:l.length < n):∃ e,e < n/\e ∉ l:=by
 by_cases c:∃ e,e < n/\e ∉ l
 . exact c
 . exfalso;have:=zmc n l fun e he=>by
     by_cases d:e∈l
     . exact d
     . exact absurd ⟨e,he,d⟩ c
   omega
theorem least{P:Nat->Prop}:∀ (n:Nat),P n->∃ k,k<=n/\P k/\∀ j,j < k->¬ P j:=by
 intro n
 induction n using FI with
 | ind n ih =>
   intro h
   by_cases c:∃ j,j < n/\P j
   . obtain⟨j,hj,hp⟩:=c;obtain⟨k,h1,h2,h3⟩:=ih j hj hp;exact⟨k,by omega,h2,h3⟩
   . exact⟨n,Ah _,h,fun j hj hp=>c ⟨j,hj,hp⟩⟩
theorem znK(mask:Nat)(h:Int):∀ k,(pr mask h k).j+(pr mask h k).more<=mask/\(pr mask h k).dummy=none
 | 0=>by
   have hb:bits h % (mask+1) < mask+1:=Ew _ (DQ _);refine⟨?_,rfl⟩;show bits h % (mask+1)+(runEnd mask (bits h % (mask+1)) - bits h % (mask+1))<=mask;unfold runEnd
   split <;> omega
 | k+1=>by
   have ih:=znK mask h k;show (adv mask (pr mask h k)).j+(adv mask (pr mask h k)).more<=mask/\(adv mask (pr mask h k)).dummy=none;generalize pr mask h k=p at *;unfold adv
   by_cases c:p.more > 0
   . rw[if_pos c];dsimp only;exact⟨by omega,ih.2⟩
   . rw[if_neg c];dsimp only;refine⟨?_,ih.2⟩;have hb:(leap mask p.i p.perturb).1 < mask+1:=Ew _ (DQ _);unfold runEnd
     split <;> omega
def zlj(mask:Nat)(occ:List Nat)(h:Int)(p:Nat):Prop:=∃ k,(pr mask h k).j=p/\∀ k',k' < k->(pr mask h k').j∈occ
structure Good(t:SetTable)(hs:List Int):Prop where
 size:t.place.size=hs.length
 dum:t.dummies=#[]
 rise:Rise t.place
 top:∀ p∈t.place.toList,p<=t.mask
 siz:Siz (t.mask+1)
 room:t.place.size<=t.mask
 road:∀ q∈t.place.toList.zip hs,zlj t.mask t.place.toList q.2 q.1
structure Free(t:SetTable)(h:Int)(K:Nat):Prop where
 few:K < 10*turns t.mask
 none:(pr t.mask h K).j ∉ t.place.toList
 full:∀ k,k < K->(pr t.mask h k).j∈t.place.toList
theorem Good.free{t:SetTable}{hs:List Int}(G:Good t hs)(h:Int):∃ K,Free t h K:=by
 obtain⟨e,he,hn⟩:=left (n:=t.mask+1) (l:=t.place.toList) (by have:=G.room;simp;omega);obtain⟨r,hr,er⟩:=reach G.siz h (Dx he);have ej:=zim t.mask h r 0 (AU _);rw[DO,DO,er] at ej;have hk:=zos t.mask h r;obtain⟨K,k1,k2,k3⟩:=least (P:=fun k=>(pr t.mask h k).j ∉ t.place.toList) (tK t.mask h r) (by rw[ej];exact hn);refine⟨K,by unfold turns;omega,k2,fun k hk=>?_⟩
 by_cases c:(pr t.mask h k).j∈t.place.toList
 . exact c
 . exact absurd c (k3 k hk)
theorem zjZ{α β:Type}:∀ {a:List α} {b:List β} {i:Nat} {x:α} {y:β},a[i]?=some x->b[i]?=some y->(x,y)∈a.zip b
 | [],b,i,x,y,h,_=>by simp at h
 | _::_,[],i,x,y,_,h=>by simp at h
 | a::as,b::bs,0,x,y,h,h'=>by
   simp at h h';subst h;subst h';exact Ag
 | a::as,b::bs,i+1,x,y,h,h'=>by
   rw[DV] at h h';exact Af _ (zjZ h h')
theorem zjQ{t:SetTable}{hs:List Int}{hashAt:Nat->Int}{h:Int}{K:Nat}(G:Good t hs)(hH:∀ i x,hs[i]?=some x->hashAt i=x)(F:Free t h K):∀ (d k fuel:Nat),k+d=K->d < fuel ->
   (probe.go t hashAt h fuel (pr t.mask h k)=some (.empty (pr t.mask h K).j none)/\∀ k',k<=k'->k' < K->∀ i:Nat,t.place[i]?=some (pr t.mask h k').j->hs[i]?≠some h) \/
   ∃ k1 i,k<=k1/\k1 < K/\t.place[i]?=some (pr t.mask h k1).j/\hs[i]?=some h/\probe.go t hashAt h fuel (pr t.mask h k)=some (.candidate (pr t.mask h k1).j i (pr t.mask h (k1+1)))/\∀ k',k<=k'->k' < k1->∀ i:Nat,t.place[i]?=some (pr t.mask h k').j->hs[i]?≠some h
 | 0,k,0,e,hf=>by omega
 | 0,k,fuel+1,e,hf=>by
   have:k=K:=by omega
   subst this;refine .inl ⟨?_,fun k' h1 h2=>by omega⟩;unfold probe.go;rw[zg3 G.dum F.none];dsimp only;rw[(znK t.mask h k).2]
 | d+1,k,0,e,hf=>by omega
 | d+1,k,fuel+1,e,hf=>by
   have hm:=F.full k (by omega);obtain⟨i,hi⟩:=Cm hm;rw[AD] at hi;have hil:i < hs.length:=by
     rw[<-G.size]
     by_cases c:i < t.place.size
     . exact c
     . rw[Eb (by omega)] at hi;cases hi
   have hv:=Aj hil;have uniq:∀ i',t.place[i']?=some (pr t.mask h k).j->i'=i:=fun i' hi'=>by
     rw[<-below_at G.rise hi',below_at G.rise hi]
   by_cases c:hs[i]=h
   . refine .inr ⟨k,i,Ah _,by omega,hi,by rw[hv,c],?_,fun k' h1 h2=>by omega⟩;unfold probe.go;rw[slot_live G.rise hi];dsimp only;rw[hH i _ hv,c,if_pos (by simp)];rfl
   . have stp:probe.go t hashAt h (fuel+1) (pr t.mask h k)=probe.go t hashAt h fuel (pr t.mask h (k+1)):=by
       conv=>lhs;unfold probe.go
       rw[slot_live G.rise hi];dsimp only;rw[hH i _ hv,if_neg (by simpa using c)];rfl
     rw[stp];have here:∀ i':Nat,t.place[i']?=some (pr t.mask h k).j->hs[i']?≠some h:=fun i' hi'=>by
       rw[uniq i' hi',hv];intro z;exact c (Aw z)
     rcases zjQ G hH F d (k+1) fuel (by omega) (by omega) with ⟨e1,e2⟩ | ⟨k1,i1,a1,a2,a3,a4,a5,a6⟩
     . refine .inl ⟨e1,fun k' h1 h2=>?_⟩
       by_cases q:k'=k
       . rw[q];exact here
       . exact e2 k' (by omega) h2
     . refine .inr ⟨k1,i1,by omega,a2,a3,a4,a5,fun k' h1 h2=>?_⟩
       by_cases q:k'=k
       . rw[q];exact here
       . exact a6 k' (by omega) h2
theorem probe_step{t:SetTable}{hs:List Int}{hashAt:Nat->Int}{h:Int}{K k:Nat}(G:Good t hs)(hH:∀ i x,hs[i]?=some x->hashAt i=x)(F:Free t h K)(hk:k<=K) :
   (t.probe hashAt h (pr t.mask h k)=some (.empty (pr t.mask h K).j none)/\∀ k',k<=k'->k' < K->∀ i:Nat,t.place[i]?=some (pr t.mask h k').j->hs[i]?≠some h) \/
   ∃ k1 i,k<=k1/\k1 < K/\t.place[i]?=some (pr t.mask h k1).j/\hs[i]?=some h/\t.probe hashAt h (pr t.mask h k)=some (.candidate (pr t.mask h k1).j i (pr t.mask h (k1+1)))/\∀ k',k<=k'->k' < k1->∀ i:Nat,t.place[i]?=some (pr t.mask h k').j->hs[i]?≠some h :=
 zjQ G hH F (K - k) k (10*turns t.mask) (by omega) (by have:=F.few;omega)
theorem Good.before{t:SetTable}{hs:List Int}{h:Int}{K i:Nat}(G:Good t hs)(F:Free t h K)(hi:hs[i]?=some h):∃ k,k < K/\t.place[i]?=some (pr t.mask h k).j:=by
 have hil:i < t.place.size:=by rw[G.size];exact (List.getElem?_eq_some_iff.mp hi).1
 have hp:t.place.toList[i]?=some t.place[i]:=by rw[AD,AL hil]
 obtain⟨k,e,f⟩:=G.road _ (zjZ hp hi);dsimp only at e f;refine⟨k,?_,by rw[AL hil,e]⟩
 by_cases c:k < K
 . exact c
 . exfalso
   by_cases d:K < k
   . exact F.none (f K d)
   . have:k=K:=by omega
     subst this;exact F.none (by rw[e];simp)
theorem zlw{xs:Array Nat}{j c:Nat}(R:Rise xs)(h:c∈xs.toList.take (below xs j)):c < j:=by
 obtain⟨b1,b2,b3⟩:=zc1 (j:=j) R;obtain⟨i,hi,rfl⟩:=List.mem_iff_getElem.mp h;rw[Bk] at hi;rw[Dy];rw[<-getD_list];exact b2 i (by omega)
theorem zjS{xs:Array Nat}{j c:Nat}(R:Rise xs)(h:c∈xs.toList.drop (below xs j)):j<=c:=by
 obtain⟨b1,b2,b3⟩:=zc1 (j:=j) R;obtain⟨i,hi,rfl⟩:=List.mem_iff_getElem.mp h;rw[BG] at hi;rw[List.getElem_drop];rw[<-getD_list];exact b3 _ (by omega) (by simp at hi;omega)
theorem zjr{α β:Type}{x:α}{y:β}:∀ {a:List α} {b:List β} {p:Nat} {q:α×β},a.length=b.length->q∈(a.take p++x::a.drop p).zip (b.take p++y::b.drop p)->q=(x,y)\/q∈a.zip b
 | [],[],p,q,_,hq=>by
   simp at hq;exact .inl hq
 | [],b::bs,p,q,h,_=>by simp at h
 | a::as,[],p,q,h,_=>by simp at h
 | a::as,b::bs,0,q,h,hq=>by
   rcases List.mem_cons.mp hq with hq | hq
   . exact .inl hq
   . exact .inr hq
 | a::as,b::bs,p+1,q,h,hq=>by
   rw[EI,EI,EJ,EJ,Cn,Cn,Dl] at hq
   rcases List.mem_cons.mp hq with hq | hq
   . exact .inr (by rw[hq];exact Ag)
   . rcases zjr (by simpa using h) hq with e | e
     . exact .inl e
     . exact .inr (Af _ e)
theorem zkV{α:Type}{xs:Array α}{p:Nat}{x:α}(h:p<=xs.size):(insertAt xs p x).toList=xs.toList.take p++x::xs.toList.drop p:=by
 rw[SetTable.toList_insertAt]
theorem Good.put{t:SetTable}{hs:List Int}{h:Int}{K:Nat}(G:Good t hs)(F:Free t h K)(hr:t.place.size+1<=t.mask):Good (t.put (pr t.mask h K).j).1 (hs.take (t.put (pr t.mask h K).j).2++h::hs.drop (t.put (pr t.mask h K).j).2):=by
 obtain⟨b1,b2,b3⟩:=zc1 (j:=(pr t.mask h K).j) G.rise;have hin:=(znK t.mask h K).1;have hd:(if has t.dummies (pr t.mask h K).j=true then eraseAt t.dummies (below t.dummies (pr t.mask h K).j) else t.dummies)=#[]:=by
   rw[G.dum];have:has #[] (pr t.mask h K).j=false:=by unfold has;simp
   rw[this];rfl
 have hl:(insertAt t.place (below t.place (pr t.mask h K).j) (pr t.mask h K).j).toList=t.place.toList.take (below t.place (pr t.mask h K).j)++(pr t.mask h K).j::t.place.toList.drop (below t.place (pr t.mask h K).j):=zkV b1;have hn:=F.none;have hs1:t.place.toList.length=hs.length:=by simpa using G.size
 have sub:∀ c,c∈t.place.toList->c∈(insertAt t.place (below t.place (pr t.mask h K).j) (pr t.mask h K).j).toList:=fun c hc=>by
   rw[hl];rw[<-List.take_append_drop (below t.place (pr t.mask h K).j) t.place.toList] at hc
   rcases List.mem_append.mp hc with hc | hc
   . exact Bj _ hc
   . exact AI _ (Af _ hc)
 have len:(insertAt t.place (below t.place (pr t.mask h K).j) (pr t.mask h K).j).size=t.place.size+1:=by
   rw[<-AQ,hl];simp;omega
 unfold SetTable.put;dsimp only;rw[hd];refine⟨?_,rfl,?_,?_,G.siz,?_,?_⟩
 . show (insertAt t.place (below t.place (pr t.mask h K).j) (pr t.mask h K).j).size=_;rw[len,G.size];have:below t.place (pr t.mask h K).j<=hs.length:=by rw[<-G.size];exact b1
   simp;omega
 . show Rise (insertAt t.place (below t.place (pr t.mask h K).j) (pr t.mask h K).j);have R:=zfA.mp G.rise;rw[zfA,hl];refine List.pairwise_append.mpr ⟨R.sublist (EY _ _),List.pairwise_cons.mpr ⟨fun c hc=>?_,R.sublist (List.drop_sublist _ _)⟩,fun a ha b hb=>?_⟩
   . have h1:=zjS G.rise hc;have h2:c≠(pr t.mask h K).j:=fun e=>hn (e ▸ Ex hc);omega
   . have h1:=zlw G.rise ha
     rcases List.mem_cons.mp hb with rfl | hb
     . exact h1
     . have:=zjS G.rise hb;omega
 . intro c hc;have hc':c∈(insertAt t.place (below t.place (pr t.mask h K).j) (pr t.mask h K).j).toList:=hc;rw[hl] at hc'
   rcases List.mem_append.mp hc' with hc | hc
   . exact G.top c (Ey hc)
   . rcases List.mem_cons.mp hc with rfl | hc
     . show (pr t.mask h K).j<=t.mask;omega
     . exact G.top c (Ex hc)
 . show (insertAt t.place (below t.place (pr t.mask h K).j) (pr t.mask h K).j).size<=t.mask;rw[len];exact hr
 . intro q hq;have hq':q∈(insertAt t.place (below t.place (pr t.mask h K).j) (pr t.mask h K).j).toList.zip (hs.take (below t.place (pr t.mask h K).j)++h::hs.drop (below t.place (pr t.mask h K).j)):=hq;rw[hl] at hq'
   rcases zjr hs1 hq' with rfl | hq
   . exact⟨K,rfl,fun k' hk'=>sub _ (F.full k' hk')⟩
   . obtain⟨k,e,f⟩:=G.road q hq;exact⟨k,e,fun k' hk'=>sub _ (f k' hk')⟩
structure Lay(mask:Nat)(owner:Array (Option Nat))(hs:List Int)(ps:List Nat):Prop where
 size:owner.size=mask+1
 len:ps.length=hs.length
 nd:ps.Nodup
 top:∀ p∈ps,p<=mask
 at_:∀ (j q:Nat),owner[j]?=some (some q) ↔ ps[q]?=some j
 road:∀ q∈ps.zip hs,zlj mask ps q.2 q.1
theorem Lay.none_iff{mask:Nat}{owner:Array (Option Nat)}{hs:List Int}{ps:List Nat}(L:Lay mask owner hs ps){j:Nat}(hj:j<=mask):(owner.getD j (some 0)).isNone=true ↔ j ∉ ps:=by
 have hlt:j < owner.size:=by rw[L.size];omega
 have e:owner.getD j (some 0)=owner[j]:=by simp[DD,hlt]
 have e2:owner[j]?=some owner[j]:=AL hlt;rw[e]
 cases ho:owner[j] with
 | none =>
   refine⟨fun _ hm=>?_,fun _=>rfl⟩;obtain⟨q,hq⟩:=Cm hm;have:=(L.at_ j q).mpr hq;rw[e2,ho] at this;cases this
 | some q =>
   refine⟨fun z=>(by cases z),fun hn=>?_⟩;exact absurd (AY ((L.at_ j q).mp (by rw[e2,ho]))) hn
theorem ziG{mask i:Nat}(h:i<=mask):runEnd mask i<=mask:=by unfold runEnd;split <;> omega
theorem ziH{mask i:Nat}:i<=runEnd mask i:=by unfold runEnd;split <;> omega
theorem zgi{mask:Nat}{owner:Array (Option Nat)}{hs:List Int}{ps:List Nat}{h:Int}(L:Lay mask owner hs ps):∀ (fuel r:Nat),(∀ k',k' < tK mask h r->(pr mask h k').j∈ps)->(∃ r',r<=r'/\r' < r+fuel/\(tI mask h r').1 ∉ ps) ->
   ∃ j,layClean.free mask owner fuel (tI mask h r).1 (tI mask h r).2=some j/\j ∉ ps/\j<=mask/\zlj mask ps h j
 | 0,r,_,⟨r',h1,h2,_⟩=>by omega
 | fuel+1,r,hb,⟨r',h1,h2,h3⟩=>by
   have hi:(tI mask h r).1<=mask:=Dx (zou mask h r);have re:=ziG hi;have rg:=ziH (mask:=mask) (i:=(tI mask h r).1);unfold layClean.free
   cases hf:(Ar (runEnd mask (tI mask h r).1+1 - (tI mask h r).1)).find? fun k=>(owner.getD ((tI mask h r).1+k) (some 0)).isNone with
   | some k =>
     obtain⟨f1,f2,f3⟩:=List.find?_range_eq_some.mp hf;rw[Em] at f2;refine⟨(tI mask h r).1+k,rfl,(L.none_iff (by omega)).mp f1,by omega,tK mask h r+k,zim mask h r k (by omega),fun k' hk'=>?_⟩
     by_cases c:k' < tK mask h r
     . exact hb k' c
     . obtain⟨c',rfl⟩:∃ c',k'=tK mask h r+c':=⟨k' - tK mask h r,by omega⟩
       rw[zim mask h r c' (by omega)];have:=f3 c' (by omega)
       by_cases d:(tI mask h r).1+c'∈ps
       . exact d
       . rw[(L.none_iff (by omega)).mpr d] at this;cases this
   | none =>
     have fn:=List.find?_range_eq_none.mp hf;have all:∀ c,c<=runEnd mask (tI mask h r).1 - (tI mask h r).1->(tI mask h r).1+c∈ps:=fun c hc=>by
       have:=fn c (by omega)
       by_cases d:(tI mask h r).1+c∈ps
       . exact d
       . rw[(L.none_iff (by omega)).mpr d] at this;cases this
     have ne:r'≠r:=fun e=>by
       have:=all 0 (AU _);rw[DO] at this;exact h3 (e ▸ this)
     exact zgi L fuel (r+1) (fun k' hk'=>by
       have ek:tK mask h (r+1)=tK mask h r+(runEnd mask (tI mask h r).1 - (tI mask h r).1)+1:=rfl
       by_cases c:k' < tK mask h r
       . exact hb k' c
       . obtain⟨c',rfl⟩:∃ c',k'=tK mask h r+c':=⟨k' - tK mask h r,by omega⟩
         rw[zim mask h r c' (by omega)];exact all c' (by omega)) ⟨r',by omega,by omega,h3⟩
theorem zgQ{α β:Type}{x:α}{y:β}:∀ {a:List α} {b:List β} {q:α×β},a.length=b.length->q∈(a++[x]).zip (b++[y])->q=(x,y)\/q∈a.zip b
 | [],[],q,_,hq=>by simp at hq;exact .inl hq
 | [],b::bs,q,h,_=>by simp at h
 | a::as,[],q,h,_=>by simp at h
 | a::as,b::bs,q,h,hq=>by
   rw[Cn,Cn,Dl] at hq
   rcases List.mem_cons.mp hq with hq | hq
   . exact .inr (by rw[hq];exact Ag)
   . rcases zgQ (by simpa using h) hq with e | e
     . exact .inl e
     . exact .inr (Af _ e)
theorem Lay.more{mask:Nat}{owner:Array (Option Nat)}{hs:List Int}{ps:List Nat}{h:Int}(hz:Siz (mask+1))(L:Lay mask owner hs ps)(hr:ps.length<=mask):∃ j,layClean.free mask owner (turns mask) (bits h % (mask+1)) (bits h)=some j/\Lay mask (owner.setIfInBounds j (some ps.length)) (hs++[h]) (ps++[j]):=by
 obtain⟨e,he,hn⟩:=left (n:=mask+1) (l:=ps) (by omega);obtain⟨r,hr1,er⟩:=reach hz h (Dx he);obtain⟨j,f1,f2,f3,f4⟩:=zgi (h:=h) L (turns mask) 0 (fun k' hk'=>absurd hk' (by simp[tK])) ⟨r,AU _,by unfold turns;omega,by rw[er];exact hn⟩;have hjs:j < owner.size:=by rw[L.size];omega
 refine⟨j,f1,by rw[Array.size_setIfInBounds];exact L.size,by simp[L.len],List.nodup_append.mpr ⟨L.nd,by simp,fun a ha b hb e=>f2 (by rw[List.mem_singleton.mp hb] at e;exact e ▸ ha)⟩,fun p hp=>?_,fun j' q=>?_,fun q hq=>?_⟩
 . rcases List.mem_append.mp hp with hp | hp
   . exact L.top p hp
   . rw[List.mem_singleton.mp hp];exact f3
 . by_cases c:j'=j
   . subst c;rw[Array.getElem?_setIfInBounds_self_of_lt hjs]
     constructor
     . intro e;have:q=ps.length:=by
         have:=Aw (Aw e);exact this.symm
       subst this;simp
     . intro e
       by_cases d:q < ps.length
       . rw[Ak d] at e;exact absurd (AY e) f2
       . have hq:=(List.getElem?_eq_some_iff.mp e).1;simp at hq;have:q=ps.length:=by omega
         rw[this]
   . rw[Array.getElem?_setIfInBounds_ne (fun z=>c z.symm),L.at_]
     by_cases d:q < ps.length
     . rw[Ak d]
     . constructor
       . intro e;exact absurd (List.getElem?_eq_some_iff.mp e).1 d
       . intro e;have hq:=(List.getElem?_eq_some_iff.mp e).1;simp at hq;have:q=ps.length:=by omega
         rw[this] at e;simp at e;exact absurd e.symm c
 . rcases zgQ L.len hq with rfl | hq
   . obtain⟨k,e1,e2⟩:=f4;exact⟨k,e1,fun k' hk'=>Bj _ (e2 k' hk')⟩
   . obtain⟨k,e1,e2⟩:=L.road q hq;exact⟨k,e1,fun k' hk'=>Bj _ (e2 k' hk')⟩
noncomputable def zm5(mask:Nat)(acc:Option (Array (Option Nat)×Nat))(h:Int):Option (Array (Option Nat)×Nat):=do
 let (owner,k) <-acc
 let j <-layClean.free mask owner (turns mask) (bits h % (mask+1)) (bits h)
 pure (owner.setIfInBounds j (some k),k+1)
theorem zjR{mask:Nat}(hz:Siz (mask+1)):∀ (rest:List Int) (owner:Array (Option Nat)) (hs:List Int) (ps:List Nat),Lay mask owner hs ps->hs.length+rest.length<=mask->∃ owner' ps',rest.foldl (zm5 mask) (some (owner,ps.length))=some (owner',ps'.length)/\Lay mask owner' (hs++rest) ps'
 | [],owner,hs,ps,L,_=>⟨owner,ps,rfl,by rw[As];exact L⟩
 | h::rest,owner,hs,ps,L,hr=>by
   simp at hr;obtain⟨j,e,L'⟩:=L.more (h:=h) hz (by rw[L.len];omega);obtain⟨o',ps',e',L''⟩:=zjR hz rest _ _ _ L' (by simp;omega);refine⟨o',ps',?_,by rw[Ap] at L'';exact L''⟩;rw[FJ];have:zm5 mask (some (owner,ps.length)) h=some (owner.setIfInBounds j (some ps.length),(ps++[j]).length):=by
     unfold zm5;simp[e]
   rw[this];exact e'
theorem zk9{mask:Nat}(hz:Siz (mask+1))(hs:Array Int)(hr:hs.size<=mask):∃ owner ps,layClean mask hs=some owner/\Lay mask owner hs.toList ps:=by
 have L0:Lay mask (FK (mask+1) none) [] []:=⟨by simp,rfl,Ej,by simp,fun j q=>by
   constructor
   . intro e;rw[Array.getElem?_replicate] at e
     split at e
     . cases e
     . cases e
   . intro e;simp at e,by simp⟩
 obtain⟨o,ps,e,L⟩:=zjR hz hs.toList _ _ _ L0 (by simpa using hr);refine⟨o,ps,?_,by simpa using L⟩;unfold layClean;rw[<-Array.foldl_toList];show (hs.toList.foldl (zm5 mask) (some (FK (mask+1) none,0))).map _=_;rw[show (0:Nat)=([]:List Nat).length from rfl,e];rfl
theorem zfH{α:Type}[DecidableEq α]:∀ {l m:List α},l.Nodup->(∀ x∈l,x∈m)->l.length<=m.length
 | [],m,_,_=>AU _
 | x::r,m,nd,h=>by
   obtain⟨n1,n2⟩:=List.nodup_cons.mp nd;have hx:=h x Ag;have:=zfH (m:=m.erase x) n2 fun y hy=>(Ck (fun z:y=x=>n1 (z ▸ hy))).mpr (h y (Af _ hy));rw[BZ hx] at this;have:=CN hx;simp;omega
theorem zfD{es:Array (Int×Value)}:∀ {l:List (Nat×Nat)},(∀ x∈l,x.2 < es.size)->((l.map (·.2)).filterMap (es[·]?)).length=l.length
 | [],_=>rfl
 | x::l,h=>by
   have hx:=h x Ag;rw[Au,DR (AL hx),AW,AW,zfD fun y hy=>h y (Af _ hy)]
theorem zhd{es:Array (Int×Value)}:∀ {l:List (Nat×Nat)} {q:Nat×Int},(∀ x∈l,x.2 < es.size)->q∈(l.map (·.1)).zip (((l.map (·.2)).filterMap (es[·]?)).map (·.1))->∃ x∈l,q.1=x.1/\∃ e,es[x.2]?=some e/\q.2=e.1
 | [],q,_,hq=>by simp at hq
 | x::l,q,h,hq=>by
   have hx:=h x Ag;rw[Au,Au,DR (AL hx),Au,Dl] at hq
   rcases List.mem_cons.mp hq with rfl | hq
   . exact⟨x,Ag,rfl,es[x.2],AL hx,rfl⟩
   . obtain⟨y,hy,e⟩:=zhd (fun y hy=>h y (Af _ hy)) hq;exact⟨y,Af _ hy,e⟩
theorem laid_ok{mask finger moves:Nat}{led plain:Bool}(hz:Siz (mask+1))(es:Array (Int×Value))(hr:es.size<=mask) :
   ∃ t' order,laid mask finger moves led plain (es.map (·.1))=some (t',order)/\t'.mask=mask/\t'.led=led/\t'.plain=plain/\(order.filterMap (es[·]?)).size=es.size/\(order.filterMap (es[·]?)).toList.Perm es.toList/\Good t' ((order.filterMap (es[·]?)).toList.map (·.1)):=by
 obtain⟨owner,ps,ec,L⟩:=zk9 hz (es.map (·.1)) (by simpa using hr);have hn:ps.length=es.size:=by rw[L.len];simp
 generalize hlive:(Ar (mask+1)).filterMap (fun j=>(owner.getD j none).map (j,·))=live;have mem:∀ x:Nat×Nat,x∈live ↔ ps[x.2]?=some x.1:=fun x=>by
   rw[<-hlive,List.mem_filterMap]
   constructor
   . rintro ⟨j,hj,e⟩;rw[Em] at hj
     cases ho:owner.getD j none with
     | none=>rw[ho] at e;cases e
     | some q =>
       rw[ho] at e;cases e;refine (L.at_ j q).mp ?_;have hlt:j < owner.size:=by rw[L.size];exact hj
       simp[DD,hlt] at ho;rw[AL hlt,ho]
   . intro h;have hj:x.1<=mask:=L.top x.1 (AY h);have hlt:x.1 < owner.size:=by rw[L.size];omega
     have ho:=(L.at_ x.1 x.2).mpr h;refine⟨x.1,List.mem_range.mpr (by omega),?_⟩;have:owner.getD x.1 none=some x.2:=by
       rw[AL hlt] at ho;simp[DD,hlt];exact Aw ho
     rw[this];rfl
 have inn:∀ x∈live,x.2 < es.size:=fun x hx=>by
   rw[<-hn];exact (List.getElem?_eq_some_iff.mp ((mem x).mp hx)).1
 have pw:(live.map (·.1)).Pairwise (· < ·):=by
   rw[CK,<-hlive,List.pairwise_filterMap];refine List.pairwise_lt_range.imp ?_;intro a b hab x hx y hy
   cases ha:owner.getD a none with
   | none=>rw[ha] at hx;cases hx
   | some q =>
     cases hb:owner.getD b none with
     | none=>rw[hb] at hy;cases hy
     | some q' =>
       rw[ha] at hx;rw[hb] at hy;cases hx;cases hy;exact hab
 have memL:∀ j,j∈live.map (·.1) ↔ j∈ps:=fun j=>by
   constructor
   . intro h;obtain⟨x,hx,rfl⟩:=List.mem_map.mp h;exact AY ((mem x).mp hx)
   . intro h;obtain⟨q,hq⟩:=Cm h;exact List.mem_map.mpr ⟨(j,q),(mem (j,q)).mpr hq,rfl⟩
 have ndL:(live.map (·.1)).Nodup:=pw.imp fun h=>AG h;have lenL:live.length=es.size:=by
   have h1:=zfH ndL fun x hx=>(memL x).mp hx;have h2:=zfH L.nd fun x hx=>(memL x).mpr hx;rw[Ad] at h1 h2;omega
 have ordP:(live.map (·.2)).Perm (Ar es.size):=zfE BI (fun q hq=>by
   rw[Em,<-hn] at hq;exact List.mem_map.mpr ⟨(ps[q],q),(mem (ps[q],q)).mpr (Aj hq),rfl⟩) (by rw[Ad,B7,lenL])
 have el:((live.map (·.2)).toArray.filterMap (es[·]?)).toList=(live.map (·.2)).filterMap (es[·]?):=by rw[Array.toList_filterMap]
 refine⟨{ mask:=mask,place:=(live.map (·.1)).toArray,dummies:=#[],finger:=finger,led:=led,moves:=moves,plain:=plain },(live.map (·.2)).toArray,?_,rfl,rfl,rfl,?_,?_,?_⟩
 . unfold laid;rw[ec];show some _=_;rw[hlive]
 . rw[<-AQ,el,zfD inn,lenL]
 . rw[el];have:=ordP.filterMap (fun i=>es[i]?);rw[filterMap_getElem?_range] at this;exact this
 . rw[el];refine⟨?_,rfl,?_,?_,hz,?_,?_⟩
   . rw[Ad,zfD inn];simp
   . rw[zfA];simpa using pw
   . intro p hp;have hp':p∈live.map (·.1):=by simpa using hp
     exact L.top p ((memL p).mp hp')
   . show (live.map (·.1)).toArray.size<=mask;rw[Ao,Ad,lenL];exact hr
   . intro q hq;have hq':q∈(live.map (·.1)).zip (((live.map (·.2)).filterMap (es[·]?)).map (·.1)):=by simpa using hq
     obtain⟨x,hx,e1,e,e2,e3⟩:=zhd inn hq';have hps:=(mem x).mp hx;have hhs:(es.map (·.1)).toList[x.2]?=some e.1:=by
       rw[AD,Array.getElem?_map,e2];rfl
     obtain⟨k,k1,k2⟩:=L.road _ (zjZ hps hhs);dsimp only at k1 k2;refine⟨k,by rw[e3,e1];exact k1,fun k' hk'=>?_⟩;have:=(memL _).mpr (k2 k' hk');rw[e3];simpa using this
end L2.MP.ST
namespace L2.MP
open PySem PySem.Spec PyProof.Rows
section
variable {prog:Program} {w:World} {A:Around} {E:Value->Shared->Prop} {s:Shared} {κ:Type} [DecidableEq κ] {knd:KeyKind prog w κ}
theorem zmR{v:Value}(h:carriedByValue v=true)(n:Nat):ofAClassStatement n v=pure false:=by
 cases v with
 | ref a=>simp[carriedByValue] at h
 | _=>first | rfl | (unfold ofAClassStatement;rfl)
theorem zld{v:Value}(h:carriedByValue v=true)(n:Nat):∃ c,hashByValue n v=pure c:=by
 cases v with
 | ref a=>simp[carriedByValue] at h
 | _=>first | exact⟨_,rfl⟩ | exact⟨_,by unfold hashByValue;rfl⟩
theorem zjt{ks:List κ}{b:Addr}{Q:Bool->Shared->Prop}(hk:IsTupleKey knd s.heap ks b)(h:Q false s):wpAny (model prog w) A (ofAClassStatement 8 (.ref b)) Q E s:=by
 have hT:=hk.typeIs;obtain⟨o,items,n,ho,_,hd,hi⟩:=hk;unfold ofAClassStatement;refine Aa (DK hT ?_);dsimp only;refine Aa (Ae ?_);simp only[CO,Ay,if_false];refine Aa (Dc ho hd ?_);dsimp only;refine Aa ?_;rw[<-EU];refine DS _ (fun rest r s'=>r.1=none/\s'=s/\∀ v∈rest,carriedByValue v=true) _ ?_ ?_ _ _ ⟨rfl,rfl,hi.byValue⟩
 . rintro v rest r s' ⟨hr,rfl,hall⟩;rw[zmR (hall v Ag)];refine Aa (Ae ?_);simp only[Ay,if_false];exact Ae ⟨rfl,rfl,fun u hu'=>hall u (Af _ hu')⟩
 . rintro ⟨r1,r2⟩ s' ⟨hr,rfl,_⟩;simp only at hr;subst hr;exact Ae h
theorem zlu{ks:List κ}{b:Addr}{Q:Bool->Shared->Prop}(hk:IsTupleKey knd s.heap ks b)(h:∀ c,Q c s):wpAny (model prog w) A (hashByValue 8 (.ref b)) Q E s:=by
 have hT:=hk.typeIs;obtain⟨o,items,n,ho,_,hd,hi⟩:=hk;unfold hashByValue;refine Aa (wpAny_specialOf hT F.slot_tuple_hash.lookup ?_);dsimp only;refine Aa (Dc ho hd ?_);dsimp only[Option.getD];refine Aa ?_;rw[<-EU];refine Bp (DS _ (fun rest r s'=>r.1=none/\s'=s/\∀ v∈rest,carriedByValue v=true) (fun r s'=>s'=s/\(r.1=none\/r.1=some false)) ?t ?f _ _ ⟨rfl,rfl,hi.byValue⟩) ?m (fun _ _ e=>e)
 case t =>
   rintro v rest r s' ⟨hr,rfl,hall⟩;obtain⟨c,hc⟩:=zld (hall v Ag) 7;rw[hc];refine Aa (Ae ?_)
   cases c with
   | true =>
     simp only[CO,Ay,if_false];exact Ae ⟨rfl,rfl,fun u hu'=>hall u (Af _ hu')⟩
   | false =>
     simp only[Dg,if_true];exact Ae ⟨rfl,.inr rfl⟩
 case f =>
   rintro r s' ⟨hr,rfl,_⟩;exact⟨rfl,.inl hr⟩
 case m =>
   rintro ⟨r1,r2⟩ s' ⟨rfl,hr⟩;simp only at hr
   rcases hr with rfl | rfl
   . exact Ae (h true)
   . exact Ae (h false)
def EntT(knd:KeyKind prog w κ)(h:Heap)(e:Int×Value)(k:List κ):Prop:=e.1=tupleKeyHash knd k/\∃ b,e.2=.ref b/\IsTupleKey knd h k b
theorem EntT.inj{h:Heap}{e:Int×Value}{k k':List κ}(x:EntT knd h e k)(y:EntT knd h e k'):k=k':=by
 obtain⟨_,b,e2,i⟩:=x;obtain⟨_,b',e2',i'⟩:=y;rw[e2] at e2';cases e2';exact i.inj i'
theorem zlN{k:List κ}{b:Addr}{ys:List Value}{Q:Bool->Shared->Prop}(hk:IsTupleKey knd s.heap k b)(hy:∀ y∈ys,∃ k' b',y=.ref b'/\IsTupleKey knd s.heap k' b')(h:Q false s):wpAny (model prog w) A (searchCouldBeSeen (.ref b) ys) Q E s:=by
 unfold searchCouldBeSeen;refine Aa ?_;refine DS _ (fun rest r s'=>r.1=none/\s'=s/\∀ y∈rest,∃ k' b',y=.ref b'/\IsTupleKey knd s.heap k' b') _ ?_ ?_ _ _ ⟨rfl,rfl,hy⟩
 . rintro v rest r s' ⟨hr,rfl,hall⟩;obtain⟨k',b',rfl,hk'⟩:=hall v Ag;have rst:∀ y∈rest,∃ k' b',y=.ref b'/\IsTupleKey knd s'.heap k' b':=fun u hu'=>hall u (Af _ hu');dsimp only;refine wpAny_ite_split (fun _=>Ae ⟨rfl,rfl,rst⟩) (fun _=>?_);refine Aa (En hk ?_);simp only[CO,Ay,if_false];refine Aa (En hk' ?_);simp only[CO,Ay,if_false];refine Aa (zjt hk ?_);simp only[Ay,if_false];refine Aa (zjt hk' ?_);simp only[Ay,if_false];exact Ae ⟨rfl,rfl,rst⟩
 . rintro ⟨r1,r2⟩ s' ⟨hr,rfl,_⟩;simp only at hr;subst hr;exact Ae h
end
section
variable {prog:Program} {w:World} {A:Around} {E:Value->Shared->Prop} {s:Shared} {κ:Type} [DecidableEq κ] {knd:KeyKind prog w κ}
theorem zdo{t:SetTable}{es:Array (Int×Value)}(G:ST.Good t (es.toList.map (·.1))):t.fits es.size=true:=by
 have h1:=G.size;have h2:=G.room;unfold SetTable.fits SetTable.fill;rw[G.dum];simp at h1 ⊢;omega
theorem zkY{t:SetTable}{hs:List Int}(G:ST.Good t hs):t.gaveWay=false:=by
 unfold SetTable.gaveWay;have:=G.siz;apply beq_false_of_ne
 rcases this with h | h | h <;> omega
theorem zjc{es:Array (Int×Value)}{i:Nat}{x:Int}(h:(es.toList.map (·.1))[i]?=some x):((es[i]?.map (·.1)).getD 0)=x:=by
 rw[Av,AD] at h;rw[h];rfl
theorem ziy{a:Addr}{o:Obj}{es:Array (Int×Value)}{ep:Nat}{t:SetTable}{k:List κ}{b:Addr}{K:Nat}{Q:SetFound->Shared->Prop}(hu:A.units < cLine)(ho:s.heap.get? a=some o)(hd:o.data=.set es ep t)(G:ST.Good t (es.toList.map (·.1)))(el:∀ e∈es.toList,∃ k,EntT knd s.heap e k)(hk:IsTupleKey knd s.heap k b)(F:ST.Free t (tupleKeyHash knd k) K)
   (yes:(∃ e∈es.toList,EntT knd s.heap e k)->Q (.there none) s) (no:(¬ ∃ e∈es.toList,EntT knd s.heap e k)->Q (.free (ST.pr t.mask (tupleKeyHash knd k) K).j false) s) :
   ∀ (d fuel kk:Nat) (stand:Option SetTable.Probe),kk+d=K->d < fuel->stand.getD (t.probeStart (tupleKeyHash knd k))=ST.pr t.mask (tupleKeyHash knd k) kk->(∀ k',k' < kk->∀ i:Nat,t.place[i]?=some (ST.pr t.mask (tupleKeyHash knd k) k').j->∀ e,es[i]?=some e->¬ EntT knd s.heap e k) ->
     wpAny (model prog w) A (setSearchFrom a (.ref b) (tupleKeyHash knd k) true fuel stand) Q E s:=by
 have hf:=zdo G;intro d
 induction d using FI with
 | ind d ih =>
   intro fuel kk stand hkk hfu hst hbe;obtain⟨fuel,rfl⟩:∃ f,fuel=f+1:=⟨fuel - 1,by omega⟩
   unfold setSearchFrom;refine Aa (B9 ho hd hf ?_);dsimp only;rw[zkY G];simp only[Ay,if_false];rw[hst]
   rcases ST.probe_step (k:=kk) (hashAt:=fun i=>(es[i]?.map (·.1)).getD 0) G (fun i x h=>zjc h) F (by omega) with ⟨e1,e2⟩ | ⟨k1,i,a1,a2,a3,a4,a5,a6⟩
   . have e1':t.probe _ (tupleKeyHash knd k) (ST.pr t.mask (tupleKeyHash knd k) kk)=_:=e1
     first | rw[e1'] | erw[e1']
     dsimp only;refine Ae (no ?_);rintro ⟨e,he,hE⟩;obtain⟨i,hi⟩:=Cm he;rw[AD] at hi;have hh:(es.toList.map (·.1))[i]?=some (tupleKeyHash knd k):=by rw[Av,AD,hi,<-hE.1];rfl
     obtain⟨k',hk',hp⟩:=G.before F hh
     by_cases c:k' < kk
     . exact hbe k' c i hp e hi hE
     . exact e2 k' (by omega) hk' i hp hh
   · first | rw[a5] | erw[a5]
     dsimp only;rw[Av,AD] at a4;obtain⟨⟨hy,y⟩,hes,hyh⟩:=zai a4;have hmem:(hy,y)∈es.toList:=by rw[<-AD] at hes;exact AY hes
     obtain⟨ky,hEy⟩:=el _ hmem;obtain⟨hh,b',hb',hkb⟩:=id hEy;dsimp only at hb';subst hb';have cont:wpAny (model prog w) A (do
         let some (_,y):=es[i]? | unsupported "internal:set-entry"
         let equal <-holding [y] (eqBool y (.ref b))
         let (es',_,t') <-setState a
         if true&&equal then return .there none
         let some same:=t'.sameMemory t.moves t.mask | unsupported "set.changed-during-lookup:is-the-new-block-at-the-old-address"
         let still <-match (if same then t'.slot (ST.pr t.mask (tupleKeyHash knd k) k1).j else .empty) with
           | .live i'=>match es'[i']? with
             | some (_,y')=>do pure (if <-isSame y' y then some i' else none)
             | none=>pure none
           | _=>pure none
         match still with
         | none=>rule "set.search.anew";setSearchFrom a (.ref b) (tupleKeyHash knd k) true fuel none
         | some i'=>if equal then return .there (some i') else setSearchFrom a (.ref b) (tupleKeyHash knd k) true fuel (some (ST.pr t.mask (tupleKeyHash knd k) (k1+1)))) Q E s:=by
       rw[hes];dsimp only;refine Aa (A9 (wpAny_eqBool_tuple hu hkb hk ?_));refine Aa (B9 ho hd hf ?_);dsimp only
       by_cases c:ky=k
       . rw[decide_eq_true c];simp only[FT,if_true];exact Ae (yes ⟨_,hmem,c ▸ hEy⟩)
       . rw[decide_eq_false c];simp only[Cf,Ay,if_false];have sm:t.sameMemory t.moves t.mask=some true:=by unfold SetTable.sameMemory;rw[if_pos (by simp)]
         rw[sm];dsimp only;rw[if_pos rfl,ST.slot_live G.rise a3];dsimp only;rw[hes];dsimp only;refine Aa (wpAny_isSame_ref_self ?_);refine Aa (Ae ?_);simp only[if_true];refine ih (K - (k1+1)) (by omega) fuel (k1+1) _ (by omega) (by omega) rfl fun k' hk' i' hp' e' he' hE'=>?_
         by_cases q:k' < kk
         . exact hbe k' q i' hp' e' he' hE'
         . by_cases q2:k'=k1
           . subst q2;have:i'=i:=by rw[<-ST.below_at G.rise hp',ST.below_at G.rise a3]
             subst this;rw[hes] at he';cases he';exact c (hEy.inj hE')
           . refine a6 k' (by omega) (by omega) i' hp' ?_;rw[Av,AD,he',<-hE'.1];rfl
     cases hl:t.led with
     | true =>
       simp only[CO,Ay,if_false];exact cont
     | false =>
       simp only[Dg,if_true];refine Aa (zlN hk (fun y hy=>?_) ?_)
       . obtain⟨e,he,rfl⟩:=List.mem_map.mp hy;have he':e∈es.toList:=by
           have:=he;simp at this;exact this.1 |> fun z=>by simpa using z
         obtain⟨k2,_,b2,e2,i2⟩:=el e he';exact⟨k2,b2,e2,i2⟩
       . simp only[Ay,if_false];exact cont
end
section
variable {prog:Program} {w:World} {A:Around} {E:Value->Shared->Prop} {s:Shared} {κ:Type} [DecidableEq κ] {knd:KeyKind prog w κ}
def SetT(knd:KeyKind prog w κ)(src:Value->Prop)(g h:Heap)(a:Addr)(ms:List (List κ)):Prop :=
 ∃ o es ep t,h.get? a=some o/\o.ExactSet/\o.data=.set es ep t/\(∀ e∈es.toList,∃ k,EntT knd g e k)/\(∀ k,k∈ms ↔ ∃ e∈es.toList,EntT knd g e k)/\es.size=ms.length/\ST.Good t (es.toList.map (·.1))/\t.place.size*5 < t.mask*3/\(w.params.followText "set-order"=true\/t.led=true)/\∀ e∈es.toList,src e.2
theorem zhN{t:SetTable}{hs:List Int}{p:Bool}(G:ST.Good t hs):ST.Good { t with plain:=p } hs:=⟨G.size,G.dum,G.rise,G.top,G.siz,G.room,G.road⟩
theorem zkl{t:SetTable}{j:Nat}:(t.put j).1.mask=t.mask/\(t.put j).1.led=t.led/\(t.put j).1.plain=t.plain:=⟨rfl,rfl,rfl⟩
theorem zeP{h:Heap}{a:Addr}{o:Obj}{es es2:Array (Int×Value)}{ep:Nat}{t t2:SetTable}(g:h.get? a=some o)(gd:o.data=.set es ep t):(h.update a (Ez es2 t2)).get? a=some { o with data:=.set es2 (ep+1) t2 }:=by
 have:=Cd (Ez es2 t2) g (by rw[putSet_of es2 t2 gd];rfl);rw[putSet_of es2 t2 gd] at this;exact this
theorem EntT.up{g h:Heap}{e:Int×Value}{k:List κ}(sub:∀ b o,g.get? b=some o->h.get? b=some o)(x:EntT knd g e k):EntT knd h e k:=by
 obtain⟨e1,b,e2,o',items,n,gg,r⟩:=x;exact⟨e1,b,e2,o',items,n,sub _ _ gg,r⟩
theorem zkR{g h:Heap}{k:List κ}{b:Addr}(sub:∀ b o,g.get? b=some o->h.get? b=some o)(x:IsTupleKey knd g k b):IsTupleKey knd h k b:=by
 obtain⟨o',items,n,gg,r⟩:=x;exact⟨o',items,n,sub _ _ gg,r⟩
theorem zkX{n m:Nat}(hz:ST.Siz (m+1))(h1:n*5 < m*3)(h2:(n+1)*5 ≥ m*3)(h3:n+1 < 64):∃ m',SetTable.sizeAbove (SetTable.grown (n+1)) - 1=m'/\ST.Siz (m'+1)/\n+1<=m'/\(n+1)*5 < m'*3/\SetTable.sizeAbove (SetTable.grown (n+1))<=1000:=by
 rcases hz with h | h | h
 . have:n=4:=by omega
   subst this;exact⟨31,by decide +kernel,.inr (.inl rfl),by decide,by decide,by decide +kernel⟩
 . have:n=18:=by omega
   subst this;exact⟨127,by decide +kernel,.inr (.inr rfl),by decide,by decide,by decide +kernel⟩
 . omega
theorem add_tuple{a:Addr}{ms:List (List κ)}{k:List κ}{b:Addr}{Q:Bool->Shared->Prop}{src:Value->Prop}{G0:Heap}(hu:A.units < cLine)(sub:∀ b o,G0.get? b=some o->s.heap.get? b=some o)(x:SetT knd src G0 s.heap a ms)(hk:IsTupleKey knd G0 k b)(hsr:src (.ref b))(room:ms.length+1 < 64)
   (q:∀ c h',Cb a s.heap h'->SetT knd src G0 h' a (if k∈ms then ms else ms++[k])->Q c { s with heap:=h' }) :
   wpAny (model prog w) A (setAddHashed a (.ref b) (tupleKeyHash knd k)) Q E s:=by
 obtain⟨o,es,ep,t,g,gx,gd,k1,k2,k3,k4,k5,k7,k9⟩:=id x;have hf:=zdo k4;obtain⟨K,F⟩:=k4.free (tupleKeyHash knd k);have few:K < 100000:=by
   have h1:=F.few;have h2:=k4.siz;unfold SetTable.turns at h1
   rcases h2 with h | h | h <;> omega
 have szs:t.place.size=es.size:=by have:=k4.size;simpa using this
 unfold setAddHashed;refine A9 ?_;show wpAny _ _ (setAddHashedIn a (.ref b) (tupleKeyHash knd k) (99999+1)) _ _ _;unfold setAddHashedIn;refine Aa (B9 g gd hf ?_);dsimp only;have bs:byScan (.ref b) es=false:=rfl;rw[bs];simp only[Ay,if_false];have dn:(∃ e∈es.toList,EntT knd s.heap e k)->∃ e∈es.toList,EntT knd G0 e k:=fun⟨e,he,y⟩=>by
   obtain⟨k',hk'⟩:=k1 e he;have:=(hk'.up sub).inj y;subst this;exact⟨e,he,hk'⟩
 unfold setSearch;refine Aa (ziy hu g gd k4 (fun e he=>(k1 e he).elim fun k' y=>⟨k',y.up sub⟩) (zkR sub hk) F (fun yes=>?_) (fun no=>?_) K 100000 0 none (by omega) few rfl fun k' hk'=>by omega)
 . dsimp only;refine Ae ?_;have hm:=(k2 k).mpr (dn yes);have es0:s={ s with heap:=s.heap }:=by cases s;rfl
   rw[es0];refine q false s.heap (Heap.SameBut.refl a s.heap) ?_;rw[if_pos hm];exact x
 . dsimp only;refine Aa (B9 g gd hf ?_);dsimp only;have hm:k ∉ ms:=fun z=>no (((k2 k).mp z).elim fun e y=>⟨e,y.1,y.2.up sub⟩);have Gp:=k4.put F (by rw[szs] at k5 ⊢;rcases k4.siz with h | h | h <;> omega);obtain⟨pm,pl,pp⟩:=zkl (t:=t) (j:=(ST.pr t.mask (tupleKeyHash knd k) K).j);generalize t.put (ST.pr t.mask (tupleKeyHash knd k) K).j=pt at Gp pm pl pp;obtain⟨t1,p⟩:=pt;dsimp only at Gp pm pl pp ⊢;have el:(SetTable.insertAt es p (tupleKeyHash knd k,AJ b)).toList=es.toList.take p++(tupleKeyHash knd k,AJ b)::es.toList.drop p:=SetTable.toList_insertAt _ _ _;have ep1:(SetTable.insertAt es p (tupleKeyHash knd k,AJ b)).toList.Perm (es.toList++[(tupleKeyHash knd k,AJ b)]):=by
     have:=SetTable.insertAt_perm es p (tupleKeyHash knd k,AJ b);rw[Array.toList_push] at this;exact this
   have eh:(SetTable.insertAt es p (tupleKeyHash knd k,AJ b)).toList.map (·.1)=(es.toList.map (·.1)).take p++tupleKeyHash knd k::(es.toList.map (·.1)).drop p:=by
     rw[el,Bg,Au,EC,FX]
   rw[<-eh] at Gp;generalize SetTable.insertAt es p (tupleKeyHash knd k,AJ b)=es1 at Gp ep1;have sz1:es1.size=es.size+1:=by
     rw[<-AQ,ep1.length_eq];simp
   have new:EntT knd G0 (tupleKeyHash knd k,AJ b) k:=⟨rfl,b,rfl,hk⟩
   have m1:∀ e∈es1.toList,∃ k,EntT knd G0 e k:=fun e he=>by
     rcases List.mem_append.mp (ep1.mem_iff.mp he) with he | he
     . exact k1 e he
     . rw[List.mem_singleton.mp he];exact⟨k,new⟩
   have m2:∀ k',k'∈ms++[k] ↔ ∃ e∈es1.toList,EntT knd G0 e k':=fun k'=>by
     rw[D3,CD,k2 k']
     constructor
     . rintro (⟨e,he,x⟩ | rfl)
       . exact⟨e,ep1.mem_iff.mpr (Bj _ he),x⟩
       . exact⟨_,ep1.mem_iff.mpr (AI _ Ag),new⟩
     . rintro ⟨e,he,x⟩
       rcases List.mem_append.mp (ep1.mem_iff.mp he) with he | he
       . exact .inl ⟨e,he,x⟩
       . rw[List.mem_singleton.mp he] at x;exact .inr (x.inj new)
   have m9:∀ e∈es1.toList,src e.2:=fun e he=>by
     rcases List.mem_append.mp (ep1.mem_iff.mp he) with he | he
     . exact k9 e he
     . rw[List.mem_singleton.mp he];exact hsr
   have m3:es1.size=(ms++[k]).length:=by rw[sz1,k3];simp
   have ps1:t1.place.size=es1.size:=by have:=Gp.size;simpa using this
   have bound:es1.size < 4096:=by rw[m3];simp;omega
   have tail:∀ (t2:SetTable),ST.Good t2 (es1.toList.map (·.1))->t2.mask=t.mask->t2.led=t.led->wpAny (model prog w) A (do
       storeSet a es1 t2
       if (!false&&t2.tooFull)=true then do
           setRelay a (SetTable.grown (es.size+1))
           pure true
         else pure true) Q E s:=fun t2 G2 e1 e2=>by
     rw[<-e2] at k7;have ps2:t2.place.size=es1.size:=by have:=G2.size;simpa using this
     refine Aa (Fg g gd ?_ (Fh bound));have g1:=zeP (es2:=es1) (t2:=t2) g gd;have b1:=BF s.heap a (Ez es1 t2);generalize s.heap.update a (Ez es1 t2)=h1 at g1 b1;have full:t2.tooFull=decide ((es.size+1)*5 ≥ t.mask*3):=by
       unfold SetTable.tooFull SetTable.fill;rw[G2.dum,ps2,sz1,e1];rfl
     rw[full]
     by_cases c:(es.size+1)*5 ≥ t.mask*3
     . rw[decide_eq_true c];simp only[Dg,Bool.and_self,if_true];obtain⟨m',hm',z1,z2,z3,z4⟩:=zkX (n:=es.size) k4.siz (by rw[<-szs];exact k5) c (by rw[k3];exact room);obtain⟨t3,order,el3,l1,l2,l3,l4,l5,l6⟩:=ST.laid_ok (mask:=m') (finger:=t2.finger) (moves:=t2.movedTo m') (led:=t2.led) (plain:=t2.plain) z1 es1 (by rw[sz1];exact z2);have er:t2.relaid (es1.map (·.1)) (SetTable.grown (es.size+1))=some (t3,order):=by
         unfold SetTable.relaid;rw[hm'];exact el3
       unfold setRelay;refine Aa (Aa (B9 (s:={ s with heap:=h1 }) g1 rfl (zdo G2) ?_));dsimp only;have hs:sizeLine=16777216:=by decide
       rw[if_neg (by omega),er];refine Aa (show wpAny _ _ (if ((order.filterMap (es1[·]?)).size != es1.size)=true then unsupported "internal:set-table-lost-an-element" else pure (order.filterMap (es1[·]?),t3)) _ _ _ from ?_);rw[l4];simp only[bne_self_eq_false,Ay,if_false];refine Ae ?_;dsimp only;generalize order.filterMap (es1[·]?)=es3 at l4 l5 l6;refine Fg (s:={ s with heap:=h1 }) g1 rfl ?_ (Fh (by rw[l4];exact bound));have w1:∀ e∈es3.toList,∃ k,EntT knd G0 e k:=fun e he=>m1 e (l5.mem_iff.mp he);have w2:∀ k',k'∈ms++[k] ↔ ∃ e∈es3.toList,EntT knd G0 e k':=fun k'=>(m2 k').trans ⟨fun⟨e,he,u⟩=>⟨e,l5.mem_iff.mpr he,u⟩,fun⟨e,he,u⟩=>⟨e,l5.mem_iff.mp he,u⟩⟩;have k8:w.params.followText "set-order"=true\/t3.led=true:=by rw[l2];exact k7
       have gx1:Obj.ExactSet { o with data:=.set es1 (ep+1) t2 }:=gx;have g3:=zeP (h:=h1) (es2:=es3) (t2:=t3) g1 rfl;refine Ae (q true _ (b1.trans (BF _ a _)) ?_);rw[if_neg hm];have ps3:t3.place.size=es3.size:=by have:=l6.size;simpa using this
       exact⟨_,es3,_,t3,g3,gx,rfl,w1,w2,l4.trans m3,l6,by rw[ps3,l4,sz1,l1];exact z3,k8,fun e he=>m9 e (l5.mem_iff.mp he)⟩
     . rw[decide_eq_false c];simp only[Dg,Cf,Ay,if_false];refine Ae (q true _ b1 ?_);rw[if_neg hm];exact⟨_,es1,_,t2,g1,gx,rfl,m1,m2,m3,G2,by rw[ps2,sz1,e1];omega,k7,m9⟩
   have fin:∀ c:Bool,wpAny (model prog w) A (do
       storeSet a es1 (if c=true then t1 else { t1 with plain:=false })
       if (!false&&(if c=true then t1 else { t1 with plain:=false }).tooFull)=true then do
           setRelay a (SetTable.grown (es.size+1))
           pure true
         else pure true) Q E s:=fun c=>by
     cases c with
     | true=>exact tail t1 Gp pm pl
     | false=>exact tail { t1 with plain:=false } (zhN Gp) pm pl
   cases hp:t1.plain with
   | true =>
     simp only[if_true];exact Aa (zlu (zkR sub hk) fun c=>fin c)
   | false =>
     simp only[Ay,if_false];exact Aa (Ae (fin true))
end
end L2.MP
namespace L2.MP
open PySem PySem.Spec
theorem zhP(led:Bool):ST.Good (SetTable.fresh 0 0 led) []:=by
 refine⟨rfl,rfl,fun i j _ h=>?_,fun p hp=>?_,.inl rfl,AU _,fun q hq=>?_⟩
 . exact absurd (show j < 0 from h) (Cw _)
 . exact absurd (show p∈([]:List Nat) from hp) (by simp)
 . exact absurd (show q∈([]:List (Nat×Int)) from hq) (by simp)
theorem zhO(led:Bool):(SetTable.fresh 0 0 led).place.size*5 < (SetTable.fresh 0 0 led).mask*3:=by
 show 0*5 < 7*3
 decide
theorem zkD{κ:Type}[DecidableEq κ](val:Nat->κ)(i:Nat):met val (i+1)=if val i∈met val i then met val i else met val i++[val i]:=by rw[met]
section
variable {prog:Program} {w:World} {A:Around} {R:Result->Shared->Prop} {I:Addr} {fp wr:List Addr} {G:Array GenState->Array GenState->Prop} {n:Nat} {P:Nat->Value->Prop} {St:Nat->Shared->Prop} {κ:Type} [DecidableEq κ] {knd:KeyKind prog w κ}
theorem ziv(W:WalksS prog w A.in1 I fp wr G n P St)(Z:Addr)(hZ:Z ∉ fp)(val:Nat->List κ){src:Value->Prop}{G0:Heap}(hu:A.in1.units < cLine)(hv:∀ i v,P i v->∃ b,v=.ref b/\IsTupleKey knd G0 (val i) b/\src v)(hwr:∀ b∈Z::wr,G0.get? b=none)(hb:n < 63) :
   ∀ (k i:Nat) (s:Shared),n - i=k->i<=n->St i s->(∀ b o,G0.get? b=some o->s.heap.get? b=some o)->SetT knd src G0 s.heap Z (met val i) ->
     (∀ s',Moved (Z::wr) G s s'->SetT knd src G0 s'.heap Z (met val n)->R (.ok (.ret .none)) s') ->
     codeAny (model prog w) A (.builtin "set.update.loop" ⟨[.ref Z,.ref I],[]⟩) R s:=by
 have hw:Z ∉ wr:=fun q=>hZ (W.sub _ q);have up:∀ b∈wr,b∈Z::wr:=fun b q=>Af _ q;have keep:∀ {s s':Shared} {ms:List (List κ)},Moved wr G s s'->SetT knd src G0 s.heap Z ms->SetT knd src G0 s'.heap Z ms:=fun hm x=>by
   obtain⟨o,es,ep,t,ho,r⟩:=x;exact⟨o,es,ep,t,hm.heap Z _ hw ho,r⟩
 have base:∀ {s s':Shared},Moved wr G s s'->(∀ b o,G0.get? b=some o->s.heap.get? b=some o)->∀ b o,G0.get? b=some o->s'.heap.get? b=some o:=fun hm x b o e=>hm.heap b o (fun q=>by rw[hwr b (up b q)] at e;cases e) (x b o e);intro k
 induction k with
 | zero =>
   intro i s hk hi hs sub x go;have e:i=n:=by omega
   subst e;refine C1 CF ?_;rw[C2 BO _];show wpAny _ A.in1 (pyNext (.ref I) >>= _) _ _ s;refine Aa (W.done s _ _ hs fun s' hm=>?_);exact Ae (go s' (hm.mono up) (keep hm x))
 | succ k ih =>
   intro i s hk hi hs sub x go;have lt:i < n:=by omega
   refine C1 CF ?_;rw[C2 BO _];show wpAny _ A.in1 (pyNext (.ref I) >>= _) _ _ s;refine Aa (W.item i s _ _ lt hs fun v s1 hP hs1 hm=>?_);obtain⟨b,rfl,v1,v9⟩:=hv i v hP;have x1:=keep hm x;have sub1:=base hm sub;show wpAny _ A.in1 (holding [_] (setAdd Z _) >>= _) _ _ s1;refine Aa (A9 ?_);unfold setAdd;refine A9 (Aa (wpAny_pyHash_tuple hu (zkR sub1 v1) ?_));have room:(met val i).length+1 < 64:=by have:=ze8 val i;omega
   refine add_tuple (s:={ s1 with toks:=s1.toks+((val i).length+1) }) hu sub1 x1 v1 v9 room fun c h' sb x2=>?_;have x3:SetT knd src G0 h' Z (met val (i+1)):=by
     rw[zkD]
     by_cases q:val i∈met val i
     . rw[if_pos q] at x2 ⊢;exact x2
     . rw[if_neg q] at x2 ⊢;exact x2
   have zn:G0.get? Z=none:=hwr Z Ag;refine Ae ⟨plainId_quiet BO _,ih (i+1) _ (by omega) lt (W.frame _ s1 _ _ hs1 (CQ _ _) fun b hb o e=>?_) (fun b o e=>?_) x3 fun s2 hm2 x4=>?_⟩
   . rw[sb.2 b (fun q:b=Z=>hZ (by rw[<-q];exact hb))];exact e
   . rw[sb.2 b (fun q:b=Z=>by rw[q,zn] at e;cases e)];exact sub1 b o e
   . refine go s2 (Moved.trans W.gtrans ((hm.mono up).then_heap (CQ _ _) fun b o hb e=>?_) hm2) x4;rw[sb.2 b (fun q:b=Z=>hb (by rw[q];exact Ag))];exact e
end
section
variable {prog:Program} {w:World} {A:Around} {E:Value->Shared->Prop} {s:Shared}
theorem ziw{κ:Type}[DecidableEq κ]{knd:KeyKind prog w κ}{l:Addr}{its:Array Value}{val:Nat->List κ}{src:Value->Prop}{Q:Value->Shared->Prop}(hh:A.handled=none)(hu:A.units+100 < cLine)(hl:s.heap.IsList l its)(hv:∀ (i:Nat) (v:Value),its[i]?=some v->∃ b,v=.ref b/\IsTupleKey knd s.heap (val i) b/\src v)(hb:its.size < 63)
   (go:∀ (h':Heap) (tk:Nat),SetT knd src s.heap h' s.heap.objs.size (met val its.size)->(∀ b o,b < s.heap.objs.size->s.heap.get? b=some o->h'.get? b=some o)->Q (.ref s.heap.objs.size) { s with heap:=h',toks:=tk }) :
   wpAny (model prog w) A (call (.type "set") [.ref l]) Q E s:=by
 obtain⟨c,tl,hmro⟩:=F.called_set.mro;have q1:=F.called_set.made;have q2:=F.called_set.sub;refine wpAny_call (codeAny_of_tree ?_);show wpAny _ _ (callAny (.type "set") _) _ _ _;refine Ae ⟨Code.quiet_builtin _ (by decide +kernel),C1 F.entry_type_call ?_⟩;rw[Around.under_plain (weight_type_call_type "set" [.ref l] []) rfl];have q3:=F.called_set.notType;have q4:=F.called_set.canCreate;have q5:=F.typeCall_set_1 (.ref l)
 repeat (any_goals (first | assumption | wp_step))
 refine CU (zke (.ref l) (E:=E) (Q₁:=fun obj s₁=>∃ led:Bool,led=(!w.params.followText "set-order")/\obj=.ref s.heap.objs.size/\s₁={ s with heap:=s.heap.push (zhr led) }) ⟨_,rfl,rfl,rfl⟩) fun r s1 hr=>?_
 cases r with
 | error e=>exact hr
 | ok fl =>
   cases fl with
   | ret obj =>
     obtain⟨led,hled,rfl,rfl⟩:=hr;have at0:(s.heap.push (zhr led)).get? s.heap.objs.size=some (zhr led):=Az _ rfl;have ty:Shared.TypeIs { s with heap:=s.heap.push (zhr led) } (.ref s.heap.objs.size) "set":=⟨_,at0,rfl⟩
     have q6:=F.called_set.init.lookup;have q7:=F.called_set.init.bind (.ref s.heap.objs.size)
     repeat (any_goals (first | assumption | wp_step))
     refine CU (codeAny_call_builtin (R:=wants (fun r s₂=>r=.none/\∃ h' tk,s₂={ s with heap:=h',toks:=tk }/\SetT knd src s.heap h' s.heap.objs.size (met val its.size)/\(∀ b o,b < s.heap.objs.size->s.heap.get? b=some o->h'.get? b=some o)) E) F.called_set.init.plain F.entry_set_init (check_set_init_1 ty ?_)) fun r2 s2 hr2=>?_
     . obtain⟨u,hu,hc,m,hd⟩:=hl;obtain⟨uc,ud,ux,us⟩:=u;simp only at hc hd;subst hc;subst hd;have at1:(s.heap.push (zhr led)).get? l=some { cls:=.type "list",dict:=ud,data:=.seq its m,slots:=us }:=Ai _ hu;have l1:(s.heap.push (zhr led)).IsList l its:=⟨_,at1,rfl,m,rfl⟩
       have z1:=F.sub_list_set;have z2:=F.sub_list_frozenset;have z3:(Er "list"==Er "dict")=false:=by decide
       unfold Builtin.«set.__init__» noKeywords FP;generalize hPI:pyIter=PI
       wp_walk
       subst hPI;refine B6 l1 (Aa (wpAny_runValue ?_));have ll:l < s.heap.objs.size:=Am hu;have h3:A.in1.in1.in1.handled=none:=by simp[hh]
       have n1:l≠(s.heap.push (zhr led)).objs.size:=by rw[Bx];exact AG (CJ ll)
       have n2:s.heap.objs.size ∉ [(s.heap.push (zhr led)).objs.size,l]:=by
         rw[Bx,B3,CD];rintro (z | z)
         . exact absurd z (AG (DM _))
         . exact absurd z (EO ll)
       refine ziv (G0:=s.heap) ((FB h3 _ l n1 its).toS) s.heap.objs.size n2 val (by simp only[PyProof.Rows.units_in1];omega) hv ?wr hb (its.size - 0) 0 _ (by omega) (AU _) ⟨⟨_,Az _ rfl,rfl,rfl⟩,(l1.push _)⟩ (fun b o e=>Ai _ (Ai _ e)) ?first ?rest
       case wr =>
         intro b hb;have hsz:s.heap.objs.size<=b:=by
           rcases List.mem_cons.mp hb with rfl | hb
           . exact Ah _
           . rw[List.mem_singleton.mp hb,Bx];exact Bz _
         cases e:s.heap.get? b with
         | none=>rfl
         | some u=>exact absurd (Am e) (Nat.not_lt.mpr hsz)
       case first =>
         have g:((s.heap.push (zhr led)).push { cls:=.type "list_iterator",data:=.fields #[.ref l,.int 0 0] }).get? s.heap.objs.size=some (zhr led):=Ai _ at0;exact⟨_,#[],0,_,g,⟨rfl,rfl,rfl⟩,rfl,fun e he=>(by simp at he),fun k=>(by simp[met]),rfl,zhP led,zhO led,(by rw[hled];cases w.params.followText "set-order";exact .inr rfl;exact .inl rfl),fun e he=>(by simp at he)⟩
       case rest =>
         intro s' hm x;obtain⟨h',g',d',tk',os'⟩:=s';have eg:g'=s.gens:=hm.gens;have ed:d'=s.drawn:=hm.drawn;have eo:os'=s.os:=hm.os;subst eg;subst ed;subst eo;show wpAny _ _ _ _ _ _;refine Ae ?_;show wpAny _ _ (ret Bf) _ _ _;refine Ae ⟨rfl,h',tk',rfl,x,fun b o hb e=>?_⟩;refine hm.heap b o ?_ (Ai _ (Ai _ e));rw[Bx,B3,CD];rintro (z | z)
         . exact absurd z (AG hb)
         . exact absurd z (AG (CJ hb))
     . cases r2 with
       | error e=>exact hr2
       | ok fl2 =>
         cases fl2 with
         | ret r =>
           obtain⟨rfl,h',tk,rfl,x,k⟩:=hr2
           repeat (any_goals (first | assumption | wp_step))
           exact go _ _ x k
         | _=>exact hr2.elim
   | _=>exact hr.elim
end
end L2.MP
namespace L2.MP
open PySem PySem.Spec PyProof.Rows
section
variable {X:Cx} {K:Ac} {H:Hp} {io:List Addr} {st st':Sto}
noncomputable def anyB:GN
 | [.ref n],st=>(za9 st n).bind fun ds=>(zjW ds).map fun bs=>(.bl (bs.any id),st)
 | _,_=>none
theorem range_any(bs:List Bool):((Ar bs.length).any fun i=>bs.getD i false)=bs.any id:=by
 rw[Bb,Ft,Ft]
 constructor
 . rintro ⟨i,hi,h⟩;have hi:=List.mem_range.mp hi;rw[Ax,Aj hi] at h;exact⟨_,AZ hi,h⟩
 . rintro ⟨b,hb,h⟩;obtain⟨i,hi,e⟩:=C6 hb;refine⟨i,List.mem_range.mpr hi,?_⟩;rw[Ax,Aj hi,e];exact h
theorem zjo(hc:X.calm=true):zdl X (.builtin "any") anyB:=by
 rintro pins s σ H xs us Q I r ⟨ds,st,io,d,st',R,S,e,k⟩;unfold anyB at e
 split at e
 . rename_i n;obtain⟨ts,e0,e⟩:=zad e;obtain⟨bs,e1,e⟩:=zai e;cases e;obtain⟨v,rfl,p,rfl,hp⟩:=R.one;obtain⟨u,rfl,ru⟩:=r.one;cases ru;obtain⟨ys,hx,r1⟩:=zaU S hp e0;obtain⟨its,rv,pl,hz⟩:=I.list hx;have hb:=zh8 r1 rv e1;subst hb;refine call_any_walk (B6 pl.isList ?_);have hlt:p < s.heap.objs.size:=by
     obtain⟨o,_,e,_⟩:=pl;exact Am e
   refine⟨_,_,_,_,_,_,fun i=>bs.getD i false,rfl,FB (A:=X.A.in1) (I.ok.hd hc) s.heap.objs.size p (AG hlt) (bs.map B4).toArray,⟨⟨_,Az _ rfl,rfl,rfl⟩,?_⟩,?_,fun h' tk hk=>?_⟩
   . obtain⟨o,nn,e,c,dd,sq⟩:=pl;exact⟨o,Ai _ e,c,nn,sq⟩
   . intro i v s' Q' E' hv hq;have hv:((bs.map B4).toArray)[i]?=some v:=hv;rw[Cg,Av] at hv
     cases ei:bs[i]? with
     | none=>rw[ei] at hv;cases hv
     | some bb =>
       rw[ei] at hv;cases hv;refine BC ?_;have hg:bs.getD i false=bb:=by rw[Ax,ei];rfl
       have hq:Q' (bs.getD i false) s':=hq;rw[hg] at hq;exact hq
   . refine⟨.bl _,H,I.kept (t':=tk) fun b o q=>hk b o ?_ (Ai _ q),rfl,?_⟩
     . simp;exact AG (Am q)
     . have:((Ar (bs.map B4).toArray.size).any fun i=>bs.getD i false)=bs.any id:=by simpa using range_any bs
       rw[this];exact k.now S rfl
 . cases e
noncomputable def znk:D->Option (List Str)
 | .tup ds=>strsOf ds
 | _=>none
noncomputable def zeR:List D->Option (List (List Str))
 | []=>some []
 | d::r=>(znk d).bind fun t=>(zeR r).map fun ts=>t::ts
noncomputable def zd9(ts:List (List Str)):List (List Str):=met (fun i=>ts.getD i []) ts.length
theorem zfa{P:Program}{w:World}:∀ {t:List Str} {its:List Value},Vals (t.map V.str) its->ItemsAre (ED P w) t its
 | [],its,h=>by cases h;exact .nil
 | z::t,its,h=>by
   cases h with
   | cons h1 h2 =>
     obtain⟨tk,rfl⟩:=h1;exact .cons (PySem.strKind_is _ _ _ _) (zfa h2)
theorem zfY:∀ {xs:List V} {ds:List D} {ts:List (List Str)},Reps K H io xs ds->zeR ds=some ts->xs.length=ts.length/\∀ i,i < ts.length->∃ b,xs[i]?=some (.ref b)/\H b=some (.tup ((ts.getD i []).map V.str))
 | xs,[],ts,r,e=>by
   cases e
   cases (show xs=[] from r)
   exact⟨rfl,fun i hi=>absurd hi (Cw i)⟩
 | xs,d::ds,ts,r,e=>by
   obtain⟨y,ys,rfl,h1,h2⟩:=r;obtain⟨t,e1,e⟩:=zad e;obtain⟨us,e2,e⟩:=zai e;subst e;obtain⟨hl,hg⟩:=zfY h2 e2;refine⟨by simp[hl],fun i hi=>?_⟩
   cases i with
   | zero =>
     cases d with
     | tup zs =>
       obtain⟨p,vs,rfl,hp,r⟩:=h1;rw[zf7 r e1] at hp;exact⟨p,rfl,hp⟩
     | _=>cases e1
   | succ i =>
     obtain⟨b,q1,q2⟩:=hg i (by simpa using hi);exact⟨b,q1,q2⟩
theorem zj3{pins:List (Addr×Obj)}{σ:List (Option V)}{s:Shared}(I:Inv X pins σ H s){b:Addr}{t:List Str}(h:H b=some (.tup (t.map V.str))):IsTupleKey (ED X.prog X.w) s.heap t b:=by
 obtain⟨_,its,rv,o,g,c,_,n,d⟩:=I.hok b _ h;exact⟨o,its.toArray,n,g,c,d,zfa rv⟩
noncomputable def zln:GN
 | [.ref n],st=>(za9 st n).bind fun ds=>(zeR ds).bind fun ts=>if decide (ts.length < 63)=true then some (.ref st.length,st++[.sz (zd9 ts).length]) else none
 | _,_=>none
theorem zjk(hc:X.calm=true)(hu:X.A.units+100 < cLine):zdl X (.type "set") zln:=by
 rintro pins s σ H xs us Q I r ⟨ds,st,io,d,st',R,S,e,k⟩;unfold zln at e
 split at e
 . rename_i n;obtain⟨zs,e0,e⟩:=zad e;obtain⟨ts,e1,e⟩:=zad e;obtain⟨hlen,e⟩:=zal e;have hlen:=of_decide_eq_true hlen;cases e;obtain⟨v,rfl,p,rfl,hp⟩:=R.one;obtain⟨u,rfl,ru⟩:=r.one;cases ru;obtain⟨ys,hx,r1⟩:=zaU S hp e0;obtain⟨its,rv,pl,hz⟩:=I.list hx;obtain⟨hyl,hg⟩:=zfY r1 e1;have hl:its.length=ts.length:=by rw[<-hyl];exact rv.length.symm
   have sz:its.toArray.size=ts.length:=by rw[Ao];exact hl
   refine ziw (knd:=ED X.prog X.w) (val:=fun i=>ts.getD i []) (src:=fun _=>True) (I.ok.hd hc) hu pl.isList (fun i v e=>?_) (by rw[sz];exact hlen) fun h' tk hs hk=>?_
   . rw[Cg] at e;have hi:i < ts.length:=by rw[<-hl];exact (List.getElem?_eq_some_iff.mp e).1
     obtain⟨b,q1,q2⟩:=hg i hi;obtain⟨y,hy,ry⟩:=rv.get q1;rw[e] at hy;cases hy;cases ry;exact⟨b,rfl,zj3 I q2,trivial⟩
   . rw[sz] at hs;obtain⟨o,es,ep,t,g,gx,gd,k1,k2,k3,k4,k5,k7,k9⟩:=hs;have hm:=ze8 (fun i=>ts.getD i []) ts.length;have z:SetZ s.heap.objs.size (zd9 ts).length h':=⟨o,es,ep,t,g,gx,gd,by rw[k3];unfold scanBound;omega,zdo k4,k3⟩
     refine⟨.ref s.heap.objs.size,upd H s.heap.objs.size (.ext (SetZ s.heap.objs.size (zd9 ts).length)),I.laid (t':=tk) (fun b o q=>hk b o (Am q) q) (Ah _) (zlL z),rfl,?_⟩;exact k.sz S (I.hok.fresh (Ah _))
 . cases e
end
end L2.MP
namespace L2.MP.Hb
open PySem L2.MP
noncomputable def zcb:MS:=mAsg (mBin modD (mBin addD (mBin addD (mBin addD (mBin mulA (mVar 1) (mCon (.int 1000003))) (mBin modD (mVar 3) (mCon (.int 2305843009213693951)))) (mBin mulA (mCon (.int 31)) (mVar 2))) (mCon (.int 7))) (mCon (.int 2305843009213693951))) (gNm 1)
noncomputable def zbe:ME:=zap absC (zae (mVar 0) (mNil))
noncomputable def zbd:MT:=mTst (mBin geD (zap absC (zae (mVar 0) (mNil))) (mBin powB (mCon (.int 10)) (mCon (.int 18))))
noncomputable def zdm:MS:=mSeq (mAsg (mCon (.int 17)) (gNm 1)) (mSeq (mFor (zjJ (mSlB (mVar 0) (zc5) (zcn (mCon (.int 63))))) (gTp 2 (gC (gNm 2) (gC (gNm 3) (gN0)))) (zcb)) (mRet (mLst (zae (zbT (mWA (mSlB (mVar 0) (zc5) (zcn (mCon (.int 63))))) 1 [] (gNm 0) (zbd) (zbe)) (zae (mVar 1) (mNil))))))
noncomputable def zbU:GN:=fnM 4 zdm
noncomputable def zaL:MT:=zmB (mTst (mBin neD (mBin ixA (mVar 0) (mCon (.int 0))) (mLst (mNil)))) (mTst (mBin eqD (mBin ixA (mBin ixA (mVar 0) (mCon (.int 0))) (mCon (.int 0))) (mCon (.int 0))))
noncomputable def zbz:MS:=mExp (mPop (mBin ixA (mVar 0) (mCon (.int 0))) (zae (mCon (.int 0)) (mNil)))
noncomputable def zcN:MS:=mSeq (mWhF (zaL) (zbz) 100) (mSeq (mIf (mTst (mBin neD (mBin ixA (mVar 0) (mCon (.int 0))) (mLst (mNil)))) (mSeq (mAsg (mBin modD (mBin ixA (mBin ixA (mVar 0) (mCon (.int 0))) (mCon (.int 0))) (mVar 1)) (gNm 2)) (mSeq (putA (mBin ixA (mVar 0) (mCon (.int 0))) (mCon (.int 0)) (mBin zk2 (mBin ixA (mBin ixA (mVar 0) (mCon (.int 0))) (mCon (.int 0))) (mVar 1))) (mRet (mVar 2)))) (zcp)) (mSeq (putA (mVar 0) (mCon (.int 1)) (mBin modD (mBin addD (mBin mulA (mBin ixA (mVar 0) (mCon (.int 1))) (mCon (.int 6364136223846793005))) (mCon (.int 1442695040888963407))) (mCon (.int 2305843009213693951)))) (mRet (mBin modD (mBin zk2 (mBin modD (mBin mulA (mBin ixA (mVar 0) (mCon (.int 1))) (mBin addD (mBin modD (mBin ixA (mVar 0) (mCon (.int 1))) (mCon (.int 1000003))) (mCon (.int 48271)))) (mCon (.int 2305843009213693951))) (mCon (.int 4099))) (mVar 1)))))
noncomputable def zac:GN:=fnM 3 zcN
end L2.MP.Hb
namespace L2.MP
open PySem
theorem zfV{f:D->Option PyData}(hf:∀ x:Int,f (.int x)=some (.int x)):∀ as:List Int,toPs f (as.map D.int)=some (as.map Gc)
 | []=>rfl
 | x::as=>by
   rw[Au,toPs,hf x,Ab,zfV hf as];rfl
theorem zgY{n:Nat}{st:Sto}{k:Nat}{as:List Int}(hk:st[k]?=some (.lst (as.map D.int))):toP (n+2) st (.ref k)=some (.list (as.map Gc)):=by
 rw[toP];simp only[za9,hk,Ab];rw[zfV (fun x=>by rw[toP])];rfl
theorem zjG{st:Sto}{f g:Nat}{as:List Int}(hf:st[f]?=some (.lst (as.map D.int)))(hg:st[g]?=some (.lst [])):neD (.ref f) (.ref g) st=some (.bl (!as.isEmpty),st):=by
 unfold neD;rw[zgY (n:=98) hf,zgY (n:=98) (as:=[]) hg]
 cases as <;> rfl
end L2.MP
namespace L2.MP.Hb
open PySem L2.MP
def PotB(n q:Nat)(st:Sto):Prop:=∃ (as:List Int) (b:Int),st[n]?=some (.lst [.ref q,.int b])/\st[q]?=some (.lst (as.map D.int))/\q≠n/\(∀ a∈as,0<=a)/\as.length<=63/\0<=b/\b < 2305843009213693951
structure FrB(n q:Nat)(st st':Sto):Prop where
 len:st.length<=st'.length
 old:∀ k,k < st.length->k≠n->k≠q->st'[k]?=st[k]?
theorem FrB.refl(n q:Nat)(st:Sto):FrB n q st st:=⟨Ah _,fun _ _ _ _=>rfl⟩
theorem FrB.trans{n q:Nat}{a b c:Sto}(h:FrB n q a b)(h':FrB n q b c):FrB n q a c:=⟨AH h.len h'.len,fun k hk n1 n2=>(h'.old k (AC hk h.len) n1 n2).trans (h.old k hk n1 n2)⟩
theorem FrB.app(n q:Nat)(st:Sto)(l:List O):FrB n q st (st++l):=⟨by simp,fun k hk _ _=>Ak hk⟩
theorem FrB.setN(n q:Nat)(st:Sto)(o:O):FrB n q st (st.set n o):=⟨by simp,fun k _ h1 h2=>by rw[AB (fun h=>h1 h.symm)]⟩
theorem FrB.setQ(n q:Nat)(st:Sto)(o:O):FrB n q st (st.set q o):=⟨by simp,fun k _ h1 h2=>by rw[AB (fun h=>h2 h.symm)]⟩
theorem FrB.of{n q:Nat}{a b:Sto}(h:Gr a b):FrB n q a b:=⟨h.len,fun k hk _ _=>h.old k hk⟩
theorem PotB.gr{n q:Nat}{st st':Sto}(h:PotB n q st)(g:Gr st st'):PotB n q st':=by
 obtain⟨as,b,e1,e2,r⟩:=h;exact⟨as,b,by rw[g.old n (getElem?_lt e1)];exact e1,by rw[g.old q (getElem?_lt e2)];exact e2,r⟩
theorem PotB.lt{n q:Nat}{st:Sto}(h:PotB n q st):n < st.length/\q < st.length:=by
 obtain⟨as,b,e1,e2,r⟩:=h;exact⟨getElem?_lt e1,getElem?_lt e2⟩
theorem zjz{n q:Nat}{b many:Int}{v:Option D}(hqn:q≠n):∀ (as:List Int) (st:Sto) (k:Nat),st[n]?=some (.lst [.ref q,.int b])->st[q]?=some (.lst (as.map D.int))->as.length < k ->
   ∃ (as':List Int) (st':Sto),mWhF zaL zbz k [some (.ref n),some (.int many),v] st=some (.nx [some (.ref n),some (.int many),v],st')/\st'[n]?=some (.lst [.ref q,.int b])/\st'[q]?=some (.lst (as'.map D.int))/\(∀ a∈as',a∈as)/\as'.length<=as.length/\FrB n q st st'
 | as,st,0,_,_,h=>absurd h (Cw _)
 | as,st,k+1,h1,h2,hk=>by
   have i0:ixA (.ref n) (.int 0) st=some (.ref q,st):=zcw h1 (by decide) rfl;have e1:=zjG (st:=st++[.lst []]) (f:=q) (g:=st.length) (as:=as) (by rw[Ak (getElem?_lt h2)];exact h2) (zaS st _);have h1':(st++[O.lst []])[n]?=some (.lst [.ref q,.int b]):=by rw[Ak (getElem?_lt h1)];exact h1
   have h2':(st++[O.lst []])[q]?=some (.lst (as.map D.int)):=by rw[Ak (getElem?_lt h2)];exact h2
   have i0':ixA (.ref n) (.int 0) (st++[.lst []])=some (.ref q,st++[.lst []]):=zcw h1' (by decide) rfl;generalize hs:st++[O.lst []]=s1 at e1 h1' h2' i0';have f1:FrB n q st s1:=by rw[<-hs];exact FrB.app _ _ _ _
   cases as with
   | nil =>
     refine⟨[],s1,?_,h1',h2',by simp,by simp,f1⟩;have et:zaL [some (.ref n),some (.int many),v] st=some (false,s1):=by
       unfold zaL;simp[rho,zbP,zb9,zbl,zbH,za5,zbc,zbJ,zaX,zbv,zaR,zaJ,zbr,zb3,zbQ,zbI,zbK,zbi,zd1,za4,zdq,zb5,zdY,zdX,zb8,zd2,ap_w,zdE,zba,zaG,zbb,zb4,zd0,zdZ,zb7,za6,zca,zb6,zb0,zcT,zdV,zdU,zdT,zdS,zdR,zdQ,zdP,zdO,zdN,Ab,Aq,add_int,sub_int,ltD,leD,gtD,geD,cmpD,intC,rho0,i0,hs,e1]
     rw[mWhF];simp[et]
   | cons a as =>
     have i1:ixA (.ref q) (.int 0) s1=some (.int a,s1):=zcw h2' (by decide) rfl
     by_cases ha:a=0
     . subst ha;have et:zaL [some (.ref n),some (.int many),v] st=some (true,s1):=by
         unfold zaL;simp[rho,zbP,zb9,zbl,zbH,za5,zbc,zbJ,zaX,zbv,zaR,zaJ,zbr,zb3,zbQ,zbI,zbK,zbi,zd1,za4,zdq,zb5,zdY,zdX,zb8,zd2,ap_w,zdE,zba,zaG,zbb,zb4,zd0,zdZ,zb7,za6,zca,zb6,zb0,zcT,zdV,zdU,zdT,zdS,zdR,zdQ,zdP,zdO,zdN,Ab,Aq,add_int,sub_int,ltD,leD,gtD,geD,cmpD,intC,rho0,i0,hs,e1,i0',i1,eq_int]
       have hl:zbz [some (.ref n),some (.int many),v] s1=some (.nx [some (.ref n),some (.int many),v],s1.set q (.lst (as.map D.int))):=by
         unfold zbz;have:seqIndex? 0 ((0:Int)::as).length=some 0:=by
           unfold seqIndex?;simp
         simp[rho,zbP,zb9,zbl,zbH,za5,zbc,zbJ,zaX,zbv,zaR,zaJ,zbr,zb3,zbQ,zbI,zbK,zbi,zd1,za4,zdq,zb5,zdY,zdX,zb8,zd2,ap_w,zdE,zba,zaG,zbb,zb4,zd0,zdZ,zb7,za6,zca,zb6,zb0,zcT,zdV,zdU,zdT,zdS,zdR,zdQ,zdP,zdO,zdN,Ab,Aq,add_int,sub_int,ltD,leD,gtD,geD,cmpD,intC,rho0,zm1,i0',za9,h2',popD,show small 0=true by decide];simp at this;rw[this];simp
       obtain⟨as',s',e,g1,g2,g3,g4,g5⟩:=zjz (n:=n) (q:=q) (b:=b) (many:=many) (v:=v) hqn as (s1.set q (.lst (as.map D.int))) k (by rw[AB hqn];exact h1') (by simp[getElem?_lt h2']) (by simp at hk;omega);refine⟨as',s',?_,g1,g2,fun x hx=>Af _ (g3 x hx),by simp;omega,(f1.trans (FrB.setQ _ _ _ _)).trans g5⟩;rw[mWhF];simp[et,hl,e]
     . refine⟨a::as,s1,?_,h1',h2',by simp,by simp,f1⟩;have et:zaL [some (.ref n),some (.int many),v] st=some (false,s1):=by
         unfold zaL;simp[rho,zbP,zb9,zbl,zbH,za5,zbc,zbJ,zaX,zbv,zaR,zaJ,zbr,zb3,zbQ,zbI,zbK,zbi,zd1,za4,zdq,zb5,zdY,zdX,zb8,zd2,ap_w,zdE,zba,zaG,zbb,zb4,zd0,zdZ,zb7,za6,zca,zb6,zb0,zcT,zdV,zdU,zdT,zdS,zdR,zdQ,zdP,zdO,zdN,Ab,Aq,add_int,sub_int,ltD,leD,gtD,geD,cmpD,intC,rho0,i0,hs,e1,i0',i1,eq_int,ha]
       rw[mWhF];simp[et]
theorem zaF{n q:Nat}{st:Sto}{many:Int}(h:PotB n q st)(h1:0 < many)(h2:many < 18446744073709551616):∃ (r:Int) (st':Sto),zac [.ref n,.int many] st=some (.int r,st')/\0<=r/\r < many/\PotB n q st'/\FrB n q st st':=by
 obtain⟨as0,b,en,eq0,hqn,hpos0,hlen0,hb,hb2⟩:=h;have hm2:many < 340282366920938463463374607431768211456:=by omega
 obtain⟨as,s1,ew,en1,eq1,hsub,hlen,f1⟩:=zjz (n:=n) (q:=q) (b:=b) (many:=many) (v:=none) hqn as0 st 100 en eq0 (by omega);have hpos:∀ a∈as,0<=a:=fun a ha=>hpos0 a (hsub a ha);have i0:ixA (.ref n) (.int 0) s1=some (.ref q,s1):=zcw en1 (by decide) rfl;have e1:=zjG (st:=s1++[.lst []]) (f:=q) (g:=s1.length) (as:=as) (by rw[Ak (getElem?_lt eq1)];exact eq1) (zaS s1 _);have en2:(s1++[O.lst []])[n]?=some (.lst [.ref q,.int b]):=by rw[Ak (getElem?_lt en1)];exact en1
 have eq2:(s1++[O.lst []])[q]?=some (.lst (as.map D.int)):=by rw[Ak (getElem?_lt eq1)];exact eq1
 generalize hs:s1++[O.lst []]=s2 at e1 en2 eq2;have f2:FrB n q st s2:=f1.trans (by rw[<-hs];exact FrB.app _ _ _ _);have j0:ixA (.ref n) (.int 0) s2=some (.ref q,s2):=zcw en2 (by decide) rfl;have hn2:=getElem?_lt en2;have hq2:=getElem?_lt eq2
 cases as with
 | cons a as =>
   have j1:ixA (.ref q) (.int 0) s2=some (.int a,s2):=zcw eq2 (by decide) rfl;have ha:=hpos a Ag;refine⟨a % many,s2.set q (.lst ((a / many::as).map D.int)),zcX ?_,B5 _ (by omega),BN _ h1,⟨a / many::as,b,by rw[AB hqn];exact en2,by simp[hq2],hqn,?_,by simp at hlen ⊢;omega,hb,hb2⟩,f2.trans (FrB.setQ _ _ _ _)⟩
   . unfold zcN;refine zak ew ?_;refine zco ?_;have hset:setD (.ref q) (.int 0) (.int (a / many)) s2=some (s2.set q (.lst ((a / many::as).map D.int))):=by
       simp[setD,eq2,ixN]
     have st1:mAsg (mBin modD (mBin ixA (mBin ixA (mVar 0) (mCon (.int 0))) (mCon (.int 0))) (mVar 1)) (gNm 2) [some (.ref n),some (.int many),none] s2=some (.nx [some (.ref n),some (.int many),some (.int (a % many))],s2):=by
       simp[rho,zbP,zb9,zbl,zbH,za5,zbc,zbJ,zaX,zbv,zaR,zaJ,zbr,zb3,zbQ,zbI,zbK,zbi,zd1,za4,zdq,zb5,zdY,zdX,zb8,zd2,ap_w,zdE,zba,zaG,zbb,zb4,zd0,zdZ,zb7,za6,zca,zb6,zb0,zcT,zdV,zdU,zdT,zdS,zdR,zdQ,zdP,zdO,zdN,Ab,Aq,add_int,sub_int,ltD,leD,gtD,geD,cmpD,intC,rho0,j0,j1,modD,intD,h1]
     have st2:putA (mBin ixA (mVar 0) (mCon (.int 0))) (mCon (.int 0)) (mBin zk2 (mBin ixA (mBin ixA (mVar 0) (mCon (.int 0))) (mCon (.int 0))) (mVar 1)) [some (.ref n),some (.int many),some (.int (a % many))] s2=some (.nx [some (.ref n),some (.int many),some (.int (a % many))],s2.set q (.lst ((a / many::as).map D.int))):=by
       simp only[rho,zbP,zb9,zbl,zbH,za5,zbc,zbJ,zaX,zbv,zaR,zaJ,zbr,zb3,zbQ,zbI,zbK,zbi,zd1,za4,zdq,zb5,zdY,zdX,zb8,zd2,ap_w,zdE,zba,zaG,zbb,zb4,zd0,zdZ,zb7,za6,zca,zb6,zb0,zcT,zdV,zdU,zdT,zdS,zdR,zdQ,zdP,zdO,zdN,Ab,Aq,add_int,sub_int,ltD,leD,gtD,geD,cmpD,intC,rho0,zk2,intD];simp[rho,zbP,zb9,zbl,zbH,za5,zbc,zbJ,zaX,zbv,zaR,zaJ,zbr,zb3,zbQ,zbI,zbK,zbi,zd1,za4,zdq,zb5,zdY,zdX,zb8,zd2,ap_w,zdE,zba,zaG,zbb,zb4,zd0,zdZ,zb7,za6,zca,zb6,zb0,zcT,zdV,zdU,zdT,zdS,zdR,zdQ,zdP,zdO,zdN,Ab,Aq,add_int,sub_int,ltD,leD,gtD,geD,cmpD,intC,rho0,j0,j1,h1,hm2,hset]
     have key:mSeq (mAsg (mBin modD (mBin ixA (mBin ixA (mVar 0) (mCon (.int 0))) (mCon (.int 0))) (mVar 1)) (gNm 2)) (mSeq (putA (mBin ixA (mVar 0) (mCon (.int 0))) (mCon (.int 0)) (mBin zk2 (mBin ixA (mBin ixA (mVar 0) (mCon (.int 0))) (mCon (.int 0))) (mVar 1))) (mRet (mVar 2))) [some (.ref n),some (.int many),none] s2=some (.rt (.int (a % many)),s2.set q (.lst ((a / many::as).map D.int))) :=
       zak st1 (zak st2 (by simp[rho,zbP,zb9,zbl,zbH,za5,zbc,zbJ,zaX,zbv,zaR,zaJ,zbr,zb3,zbQ,zbI,zbK,zbi,zd1,za4,zdq,zb5,zdY,zdX,zb8,zd2,ap_w,zdE,zba,zaG,zbb,zb4,zd0,zdZ,zb7,za6,zca,zb6,zb0,zcT,zdV,zdU,zdT,zdS,zdR,zdQ,zdP,zdO,zdN,Ab,Aq,add_int,sub_int,ltD,leD,gtD,geD,cmpD,intC,rho0]))
     have et:mTst (mBin neD (mBin ixA (mVar 0) (mCon (.int 0))) (mLst (mNil))) [some (.ref n),some (.int many),none] s1=some (true,s2):=by simp[rho,zbP,zb9,zbl,zbH,za5,zbc,zbJ,zaX,zbv,zaR,zaJ,zbr,zb3,zbQ,zbI,zbK,zbi,zd1,za4,zdq,zb5,zdY,zdX,zb8,zd2,ap_w,zdE,zba,zaG,zbb,zb4,zd0,zdZ,zb7,za6,zca,zb6,zb0,zcT,zdV,zdU,zdT,zdS,zdR,zdQ,zdP,zdO,zdN,Ab,Aq,add_int,sub_int,ltD,leD,gtD,geD,cmpD,intC,rho0,i0,hs,e1]
     rw[zdq,et];exact key
   . intro x hx
     rcases List.mem_cons.mp hx with rfl | hx
     . exact Int.ediv_nonneg ha (by omega)
     . exact hpos x (Af _ hx)
 | nil =>
   have q0:0<=(b*6364136223846793005+1442695040888963407) % 2305843009213693951:=B5 _ (by decide);have q1:(b*6364136223846793005+1442695040888963407) % 2305843009213693951 < 2305843009213693951:=BN _ (by decide);generalize hc:(b*6364136223846793005+1442695040888963407) % 2305843009213693951=c at q0 q1;have i1:in64 b=true:=by unfold in64;simp;omega
   have i2:in64 c=true:=by unfold in64;simp;omega
   have hset:setD (.ref n) (.int 1) (.int c) s2=some (s2.set n (.lst [.ref q,.int c])):=by
     simp[setD,en2,ixN]
   have en3:(s2.set n (.lst [.ref q,.int c]))[n]?=some (.lst [.ref q,.int c]):=by simp[hn2]
   have j2:ixA (.ref n) (.int 1) s2=some (.int b,s2):=zcw en2 (by decide) rfl;have j3:ixA (.ref n) (.int 1) (s2.set n (.lst [.ref q,.int c]))=some (.int c,s2.set n (.lst [.ref q,.int c])):=zcw en3 (by decide) rfl;generalize hs3:s2.set n (.lst [.ref q,.int c])=s3 at hset en3 j3;have f3:FrB n q st s3:=f2.trans (by rw[<-hs3];exact FrB.setN _ _ _ _);have eq3:s3[q]?=some (.lst (([]:List Int).map D.int)):=by rw[<-hs3,AB (fun h=>hqn h.symm)];exact eq2
   generalize hX:c*(c % 1000003+48271) % 2305843009213693951 / 4099=X;refine⟨X % many,s3,zcX ?_,B5 _ (by omega),BN _ h1,⟨[],c,en3,eq3,hqn,by simp,by simp,q0,q1⟩,f3⟩;unfold zcN;refine zak ew ?_;have et:mTst (mBin neD (mBin ixA (mVar 0) (mCon (.int 0))) (mLst (mNil))) [some (.ref n),some (.int many),none] s1=some (false,s2):=by simp[rho,zbP,zb9,zbl,zbH,za5,zbc,zbJ,zaX,zbv,zaR,zaJ,zbr,zb3,zbQ,zbI,zbK,zbi,zd1,za4,zdq,zb5,zdY,zdX,zb8,zd2,ap_w,zdE,zba,zaG,zbb,zb4,zd0,zdZ,zb7,za6,zca,zb6,zb0,zcT,zdV,zdU,zdT,zdS,zdR,zdQ,zdP,zdO,zdN,Ab,Aq,add_int,sub_int,ltD,leD,gtD,geD,cmpD,intC,rho0,i0,hs,e1]
   refine zak (ρ1:=[some (.ref n),some (.int many),none]) (s1:=s2) (by rw[zdq,et];rfl) ?_;refine zak (ρ1:=[some (.ref n),some (.int many),none]) (s1:=s3) (by simp[rho,zbP,zb9,zbl,zbH,za5,zbc,zbJ,zaX,zbv,zaR,zaJ,zbr,zb3,zbQ,zbI,zbK,zbi,zd1,za4,zdq,zb5,zdY,zdX,zb8,zd2,ap_w,zdE,zba,zaG,zbb,zb4,zd0,zdZ,zb7,za6,zca,zb6,zb0,zcT,zdV,zdU,zdT,zdS,zdR,zdQ,zdP,zdO,zdN,Ab,Aq,add_int,sub_int,ltD,leD,gtD,geD,cmpD,intC,rho0,j2,mulA,orG,mulD,intD,i1,modD,hc,hset]) ?_;simp[rho,zbP,zb9,zbl,zbH,za5,zbc,zbJ,zaX,zbv,zaR,zaJ,zbr,zb3,zbQ,zbI,zbK,zbi,zd1,za4,zdq,zb5,zdY,zdX,zb8,zd2,ap_w,zdE,zba,zaG,zbb,zb4,zd0,zdZ,zb7,za6,zca,zb6,zb0,zcT,zdV,zdU,zdT,zdS,zdR,zdQ,zdP,zdO,zdN,Ab,Aq,add_int,sub_int,ltD,leD,gtD,geD,cmpD,intC,rho0,j3,mulA,orG,mulD,intD,i2,modD,zk2,hX,h1]
theorem zk6(ns:List Int)(lo hi:Option Int):∃ ms:List Int,cutD (ns.map D.int) lo hi=ms.map D.int/\ms.length<=ns.length:=by
 unfold cutD;refine⟨(ns.drop (HT.sIx (ns.map D.int).length 0 lo)).take (HT.sIx (ns.map D.int).length (ns.map D.int).length hi - HT.sIx (ns.map D.int).length 0 lo),by simp,?_⟩;rw[Bk,BG];omega
theorem zlI{ds:List D}{lo hi:Option Int}{st:Sto}:slB (.kl ds) lo hi st=some (.ref st.length,st++[.lst (cutD ds lo hi)]):=by
 simp[slB,slA,slD,slS,slK,zcT]
theorem zo0(st:Sto):powB (.int 10) (.int 18) st=some (.int 1000000000000000000,st):=rfl
theorem zj4{ns:List Int}(st:Sto)(hl:ns.length<=63):∃ (n q:Nat) (st':Sto),zbU [.kl (ns.map D.int)] st=some (.ref n,st')/\PotB n q st'/\Gr st st':=by
 obtain⟨ms,hms,hml⟩:=zk6 ns none (some 63);have e1:=zlI (ds:=ns.map D.int) (lo:=none) (hi:=some 63) (st:=st);rw[hms] at e1;have a1:(st++[O.lst (ms.map D.int)])[st.length]?=some (.lst (ms.map D.int)):=zaS _ _;generalize hs1:st++[O.lst (ms.map D.int)]=s1 at e1 a1;have g1:Gr st s1:=by rw[<-hs1];exact Gr.app _ _
 have key:=zcW (W:=⟨pairs (ms.map D.int),[(st.length,ms.map D.int)]⟩) (g:=gTp 2 (gC (gNm 2) (gC (gNm 3) (gN0)))) (m:=zcb) (ds:=pairs (ms.map D.int)) (ρ:=[some (.kl (ns.map D.int)),some (.int 17),none,none]) (st:=s1)
   (Inv:=fun k ρ s=>∃ (b:Int) (x y:Option D),ρ=[some (.kl (ns.map D.int)),some (.int b),x,y]/\0<=b/\b < 2305843009213693951/\s=s1)
   ⟨17,none,none,rfl,by decide,by decide,rfl⟩ (fun k ρ s hk hI=>by obtain⟨b,x,y,_,_,_,rfl⟩:=hI;exact zcq a1) (fun k d ρ s hd hI=>by
     obtain⟨b,x,y,rfl,hb0,hb1,rfl⟩:=hI;obtain⟨z,hz,rfl⟩:=zf8 hd;rw[Av] at hz;obtain⟨c,hc,rfl⟩:=zai hz;have hk:k < ms.length:=getElem?_lt hc;have i1:in64 b=true:=by unfold in64;simp;omega
     have i31:in64 31=true:=by decide
     refine⟨[some (.kl (ns.map D.int)),some (.int b),some (.int (k:Nat)),some (.int c)],s,[some (.kl (ns.map D.int)),some (.int ((b*1000003+c % 2305843009213693951+31*(k:Int)+7) % 2305843009213693951)),some (.int (k:Nat)),some (.int c)],s,by simp[rho,zbP,zb9,zbl,zbH,za5,zbc,zbJ,zaX,zbv,zaR,zaJ,zbr,zb3,zbQ,zbI,zbK,zbi,zd1,za4,zdq,zb5,zdY,zdX,zb8,zd2,ap_w,zdE,zba,zaG,zbb,zb4,zd0,zdZ,zb7,za6,zca,zb6,zb0,zcT,zdV,zdU,zdT,zdS,zdR,zdQ,zdP,zdO,zdN,Ab,Aq,add_int,sub_int,ltD,leD,gtD,geD,cmpD,intC,rho0],?_,_,_,_,rfl,B5 _ (by decide),BN _ (by decide),rfl⟩;unfold zcb;simp[rho,zbP,zb9,zbl,zbH,za5,zbc,zbJ,zaX,zbv,zaR,zaJ,zbr,zb3,zbQ,zbI,zbK,zbi,zd1,za4,zdq,zb5,zdY,zdX,zb8,zd2,ap_w,zdE,zba,zaG,zbb,zb4,zd0,zdZ,zb7,za6,zca,zb6,zb0,zcT,zdV,zdU,zdT,zdS,zdR,zdQ,zdP,zdO,zdN,Ab,Aq,add_int,sub_int,ltD,leD,gtD,geD,cmpD,intC,rho0,mulA,orG,mulD,intD,i1,i31,modD])
 obtain⟨ρ',s',el,b,x,y,rfl,hb0,hb1,rfl⟩:=key;have e2:=zlI (ds:=ns.map D.int) (lo:=none) (hi:=some 63) (st:=s');rw[hms] at e2;have a2:(s'++[O.lst (ms.map D.int)])[s'.length]?=some (.lst (ms.map D.int)):=zaS _ _;generalize hs2:s'++[O.lst (ms.map D.int)]=s2 at e2 a2;have g2:Gr s' s2:=by rw[<-hs2];exact Gr.app _ _
 have key2:=znb (W:=⟨ms.map D.int,[(s'.length,ms.map D.int)]⟩) (g:=gNm 0) (c:=zbd) (m:=zbe) (ds:=ms.map D.int) (acc:=[]) (st:=s2) (ρ:=[none])
   (Inv:=fun k a ρ s=>(∃ z,ρ=[z])/\(∃ as:List Int,a=as.map D.int/\(∀ c∈as,0<=c)/\as.length<=k)/\s=s2) ⟨⟨_,rfl⟩,⟨[],rfl,by simp,by simp⟩,rfl⟩ (fun k a ρ s hk hI=>by obtain⟨_,_,rfl⟩:=hI;exact zcq a2) (fun k d a ρ s hd hI=>by
     obtain⟨⟨z,rfl⟩,⟨as,rfl,ha,hal⟩,rfl⟩:=hI;rw[Av] at hd;obtain⟨c,hc,rfl⟩:=zai hd;have habs:0<=(if c < 0 then -c else c):=by split <;> omega
     have ec:zbe [some (.int c)] s=some (.int (if c < 0 then -c else c),s):=by unfold zbe;simp[rho,zbP,zb9,zbl,zbH,za5,zbc,zbJ,zaX,zbv,zaR,zaJ,zbr,zb3,zbQ,zbI,zbK,zbi,zd1,za4,zdq,zb5,zdY,zdX,zb8,zd2,ap_w,zdE,zba,zaG,zbb,zb4,zd0,zdZ,zb7,za6,zca,zb6,zb0,zcT,zdV,zdU,zdT,zdS,zdR,zdQ,zdP,zdO,zdN,Ab,Aq,add_int,sub_int,ltD,leD,gtD,geD,cmpD,intC,rho0,absC]
     have et:zbd [some (.int c)] s=some (decide (1000000000000000000<=(if c < 0 then -c else c)),s):=by unfold zbd;simp[rho,zbP,zb9,zbl,zbH,za5,zbc,zbJ,zaX,zbv,zaR,zaJ,zbr,zb3,zbQ,zbI,zbK,zbi,zd1,za4,zdq,zb5,zdY,zdX,zb8,zd2,ap_w,zdE,zba,zaG,zbb,zb4,zd0,zdZ,zb7,za6,zca,zb6,zb0,zcT,zdV,zdU,zdT,zdS,zdR,zdQ,zdP,zdO,zdN,Ab,Aq,add_int,sub_int,ltD,leD,gtD,geD,cmpD,intC,rho0,absC,zo0]
     refine⟨[some (.int c)],s,_,s,by simp[rho,zbP,zb9,zbl,zbH,za5,zbc,zbJ,zaX,zbv,zaR,zaJ,zbr,zb3,zbQ,zbI,zbK,zbi,zd1,za4,zdq,zb5,zdY,zdX,zb8,zd2,ap_w,zdE,zba,zaG,zbb,zb4,zd0,zdZ,zb7,za6,zca,zb6,zb0,zcT,zdV,zdU,zdT,zdS,zdR,zdQ,zdP,zdO,zdN,Ab,Aq,add_int,sub_int,ltD,leD,gtD,geD,cmpD,intC,rho0],et,?_⟩
     by_cases hq:1000000000000000000<=(if c < 0 then -c else c)
     . refine .inl ⟨decide_eq_true hq,_,s,ec,⟨_,rfl⟩,⟨as++[if c < 0 then -c else c],by simp,?_,by simp;omega⟩,rfl⟩;intro w hw
       rcases List.mem_append.mp hw with hw | hw
       . exact ha w hw
       . rw[List.mem_singleton.mp hw];exact habs
     . exact .inr ⟨decide_eq_false hq,⟨_,rfl⟩,⟨as,rfl,ha,by omega⟩,rfl⟩)
 obtain⟨xs,ρ2,s3,ec,_,⟨as,hx,hpos,hal⟩,rfl⟩:=key2;rw[C3] at hx;subst hx;rw[Ad] at hal;have fl:fits (as.map D.int).length=true:=zax (by rw[Ad];omega);refine⟨s3.length+1,s3.length,s3++[.lst (as.map D.int)]++[.lst [.ref s3.length,.int b]],zcX ?_,⟨as,b,?_,?_,by omega,hpos,by omega,hb0,hb1⟩,((g1.trans g2).trans (Gr.app _ _)).trans (Gr.app _ _)⟩
 . unfold zdm;refine zak (ρ1:=[some (.kl (ns.map D.int)),some (.int 17),none,none]) (s1:=st) (by simp[rho,zbP,zb9,zbl,zbH,za5,zbc,zbJ,zaX,zbv,zaR,zaJ,zbr,zb3,zbQ,zbI,zbK,zbi,zd1,za4,zdq,zb5,zdY,zdX,zb8,zd2,ap_w,zdE,zba,zaG,zbb,zb4,zd0,zdZ,zb7,za6,zca,zb6,zb0,zcT,zdV,zdU,zdT,zdS,zdR,zdQ,zdP,zdO,zdN,Ab,Aq,add_int,sub_int,ltD,leD,gtD,geD,cmpD,intC,rho0]) ?_;refine zak (ρ1:=[some (.kl (ns.map D.int)),some (.int b),x,y]) (s1:=s') (by
     have ee:zjJ (mSlB (mVar 0) (zc5) (zcn (mCon (.int 63)))) [some (.kl (ns.map D.int)),some (.int 17),none,none] st=some (⟨pairs (ms.map D.int),[(st.length,ms.map D.int)]⟩,s'):=by
       rw[zm3];simp[rho,zbP,zb9,zbl,zbH,za5,zbc,zbJ,zaX,zbv,zaR,zaJ,zbr,zb3,zbQ,zbI,zbK,zbi,zd1,za4,zdq,zb5,zdY,zdX,zb8,zd2,ap_w,zdE,zba,zaG,zbb,zb4,zd0,zdZ,zb7,za6,zca,zb6,zb0,zcT,zdV,zdU,zdT,zdS,zdR,zdQ,zdP,zdO,zdN,Ab,Aq,add_int,sub_int,ltD,leD,gtD,geD,cmpD,intC,rho0,zm0,e1,zoj,seqD,za9,a1]
     rw[zbb,ee];exact el) ?_
   have ew:mWA (mSlB (mVar 0) (zc5) (zcn (mCon (.int 63)))) [some (.kl (ns.map D.int)),some (.int b),x,y] s'=some (⟨ms.map D.int,[(s'.length,ms.map D.int)]⟩,s3):=by
     rw[zpo];simp[rho,zbP,zb9,zbl,zbH,za5,zbc,zbJ,zaX,zbv,zaR,zaJ,zbr,zb3,zbQ,zbI,zbK,zbi,zd1,za4,zdq,zb5,zdY,zdX,zb8,zd2,ap_w,zdE,zba,zaG,zbb,zb4,zd0,zdZ,zb7,za6,zca,zb6,zb0,zcT,zdV,zdU,zdT,zdS,zdR,zdQ,zdP,zdO,zdN,Ab,Aq,add_int,sub_int,ltD,leD,gtD,geD,cmpD,intC,rho0,zm0,e2,zij,za9,a2]
   have el2:zbT (mWA (mSlB (mVar 0) (zc5) (zcn (mCon (.int 63))))) 1 [] (gNm 0) (zbd) (zbe) [some (.kl (ns.map D.int)),some (.int b),x,y] s'=some (.ref s3.length,s3++[.lst (as.map D.int)]):=by
     rw[zaG,ew];simp only[Ab];rw[show rho0 [some (.kl (ns.map D.int)),some (.int b),x,y] 1 []=[none] from rfl,ec];simp only[Ab,fl,if_true]
   rw[zbI,zbQ,zaJ,el2];simp[rho,zbP,zb9,zbl,zbH,za5,zbc,zbJ,zaX,zbv,zaR,zaJ,zbr,zb3,zbQ,zbI,zbK,zbi,zd1,za4,zdq,zb5,zdY,zdX,zb8,zd2,ap_w,zdE,zba,zaG,zbb,zb4,zd0,zdZ,zb7,za6,zca,zb6,zb0,zcT,zdV,zdU,zdT,zdS,zdR,zdQ,zdP,zdO,zdN,Ab,Aq,add_int,sub_int,ltD,leD,gtD,geD,cmpD,intC,rho0]
 . have:=zaS (s3++[.lst (as.map D.int)]) (.lst [.ref s3.length,.int b]);simpa using this
 . rw[Ak (by simp)];exact zaS _ _
noncomputable abbrev sgD (c:Nat):D:=.str ⟨#[c]⟩
theorem pop_at{l:Nat}{ds:List D}{d:D}{r:Int}{st:Sto}(h:st[l]?=some (.lst ds))(h0:0<=r)(h1:r<=1000000)(hd:ds[r.toNat]?=some d):popD (.ref l) [.int r] st=some (d,st.set l (.lst (ds.eraseIdx r.toNat))):=by
 have hl:=getElem?_lt hd;have hs:small r=true:=zeo h0 h1;have hi:seqIndex? r ds.length=some r.toNat:=by
   have q1:¬ r < 0:=by omega
   have q2:r < (ds.length:Int):=by omega
   simp[seqIndex?,q1,h0,q2]
 simp[popD,h,hs,hi,hd]
theorem zgk{α β:Type}(f:α->β):∀ (l:List α) (k:Nat),(l.map f).eraseIdx k=(l.eraseIdx k).map f
 | [],_=>by simp
 | a::l,0=>by simp
 | a::l,k+1=>by simp[zgk f l k]
theorem zff{α:Type}:∀ (l:List α) (k:Nat) (h:k < l.length),(l[k]::l.eraseIdx k).Perm l
 | [],_,h=>absurd h (Cw _)
 | a::l,0,_=>by simp
 | a::l,k+1,h=>by
   have:=zff l k (by simpa using h);simp only[List.getElem_cons_succ,List.eraseIdx_cons_succ];exact (List.Perm.swap _ _ _).trans (this.cons a)
theorem PotB.ne{n q:Nat}{st:Sto}(h:PotB n q st):n≠st.length/\q≠st.length:=by
 have:=h.lt;omega
theorem PotB.set{n q l:Nat}{st:Sto}{o:O}(h:PotB n q st)(h1:l≠n)(h2:l≠q):PotB n q (st.set l o):=by
 obtain⟨as,b,e1,e2,r⟩:=h;exact⟨as,b,by rw[AB h1];exact e1,by rw[AB h2];exact e2,r⟩
theorem zh1(c:Nat):∀ (k:Nat) (a:Array Nat),((Bl k #[c]).foldl (·++·) a).toList=a.toList++Bl k c
 | 0,a=>by simp
 | k+1,a=>by
   rw[EK,FJ,zh1 c k (a++#[c])];simp[EK]
theorem zg9{c:Nat}{n:Int}(h1:1<=n):(repS ⟨#[c]⟩ n).cps.toList=Bl n.toNat c:=by
 unfold repS;rw[if_neg (by omega)]
 by_cases hn:n=1
 . subst hn;rfl
 . rw[if_neg]
   . exact zh1 c n.toNat #[]
   . simp[hn];show ¬ ((⟨#[c]⟩:Str).length=0);show ¬ (1=0)
     decide
theorem zea{c:Nat}{n:Int}{st:Sto}(h1:1<=n)(h2:n<=1000):mulA (sgD c) (.int n) st=some (.str (repS ⟨#[c]⟩ n),st):=by
 have hl:(repS ⟨#[c]⟩ n).length=n.toNat:=by rw[len_list,zg9 h1,Bw]
 have e1:(⟨#[c]⟩:Str).length=1:=rfl;have hz:sizeLine=16777216:=D4;have:(decide (-(2 ^ 62)<=n)&&decide (n < 2 ^ 20)&&decide ((⟨#[c]⟩:Str).length*n.toNat<=sizeLine)&&decide ((repS ⟨#[c]⟩ n).length<=sizeLine))=true:=by
   rw[hl,e1,hz];rw[decide_eq_true (show -(2 ^ 62)<=n by omega),decide_eq_true (show n < 2 ^ 20 by omega),decide_eq_true (show 1*n.toNat<=16777216 by omega),decide_eq_true (show n.toNat<=16777216 by omega)];rfl
 show mulA (.str ⟨#[c]⟩) (.int n) st=_;unfold mulA orG mulD intD;dsimp only;rw[zcT];unfold zm7;dsimp only;rw[if_pos this]
theorem ne_int(a b:Int)(st:Sto):neD (.int a) (.int b) st=some (.bl (!(a==b)),st):=by
 unfold neD;rw[toP,toP];simp[Ba]
end L2.MP.Hb
namespace L2.MP.Hd
open PySem L2.MP
end L2.MP.Hd
namespace L2.MP
open PySem
@[simp] theorem zpk(n:Nat)(ds:List D):rho n ds=ds.map some++Bl (n - ds.length) none:=rfl
@[simp] theorem zoH(ρ:Rho)(n:Nat)(l:List Nat):rho0 ρ n l=Bl n none++l.map fun (j:Nat)=>(ρ[j]?).join:=rfl
@[simp] theorem zpp{a b:Int}{st:Sto}:ltD (.int a) (.int b) st=some (.bl (decide (a < b)),st):=rfl
@[simp] theorem zpq{a b:Int}{st:Sto}:leD (.int a) (.int b) st=some (.bl (decide (a<=b)),st):=rfl
@[simp] theorem zpt{a b:Int}{st:Sto}:gtD (.int a) (.int b) st=some (.bl (decide (b < a)),st):=rfl
@[simp] theorem zpu{a b:Int}{st:Sto}:geD (.int a) (.int b) st=some (.bl (decide (b<=a)),st):=rfl
@[simp] theorem zps{a:Int}{st:Sto}:intC [.int a] st=some (.int a,st):=rfl
@[simp] theorem zpr{b:Bool}{st:Sto}:intC [.bl b] st=some (.int (if b then 1 else 0),st):=rfl
end L2.MP
namespace L2.MP.Hd
open PySem L2.MP
theorem zic{c:MT}{m n:ME}{ρ:Rho}{st:Sto}:mIte c m n ρ st=(c ρ st).bind fun p=>if p.1=true then m ρ p.2 else n ρ p.2:=rfl
end L2.MP.Hd
namespace L2.MP.Hd
open PySem L2.MP
open L2.MP.Hb (zea zg9 sgD)
theorem zdv{m:ME}{ρ:Rho}{st s1:Sto}{k:Nat}{M:Int}(hM:M=(k:Int))(e:m ρ st=some (.int M,s1))(hk:k<=1000):mR1 m ρ st=some (⟨run 0 k,[]⟩,s1):=by
 have sm:small M=true:=zeo (by omega) (by omega);rw[zdE,e,Ab];simp only[sm,if_true];rw[hM,AS]
theorem run_map(k:Nat):run 0 k=(Ar k).map fun (i:Nat)=>D.int (i:Int):=by
 unfold run;apply C8;intro i _;rw[Int.zero_add]
theorem ziF{j k:Nat}{d:D}(h:(run 0 j)[k]?=some d):k < j/\d=.int (k:Int):=by
 have hk:=getElem?_lt h;rw[zcS] at hk;rw[run_map,Av,C7 hk] at h;exact⟨hk,by cases h;rfl⟩
end L2.MP.Hd
namespace L2.MP.Hd
open PySem L2.MP
open L2.MP.Hb (sgD)
end L2.MP.Hd
namespace L2.MP.Hd
open PySem L2.MP
open L2.MP.Hn (zar zcF srtT zel)
end L2.MP.Hd
namespace L2.MP.Hd
open PySem L2.MP
open L2.MP.Hn (zar)
end L2.MP.Hd
namespace L2.MP
open PySem
theorem zoI{W:Wk}{g:MG}{c:MT}{m:ME}{α:Type}{f h:α->D}{R:Rho->Prop}:∀ {as:List α} {ρ:Rho} {st:Sto},R ρ->(∀ s,Gr st s->walked W s=true)->(∀ a∈as,∀ ρ s,R ρ->Gr st s->∃ ρ1 s1,g (f a) ρ s=some (ρ1,s)/\c ρ1 s=some (true,s)/\m ρ1 s=some (h a,s1)/\Gr s s1/\R ρ1) ->
   ∃ s',mCI W g c m (as.map f) ρ st=some (as.map h,s')/\Gr st s'
 | [],ρ,st,r,wk,_=>⟨st,by unfold mCI;rw[BB];simp only[wk st (Gr.refl st),if_true,BB],Gr.refl st⟩
 | a::as,ρ,st,r,wk,hs=>by
   obtain⟨ρ1,s1,e1,e2,e3,g1,r1⟩:=hs a Ag ρ st r (Gr.refl st);obtain⟨s',e,g'⟩:=zoI (W:=W) (g:=g) (c:=c) (m:=m) (f:=f) (h:=h) (R:=R) (as:=as) (st:=s1) r1 (fun s q=>wk s (g1.trans q)) fun b hb ρ s q z=>hs b (Af _ hb) ρ s q (g1.trans z);refine⟨s',?_,g1.trans g'⟩;rw[Au];unfold mCI;rw[if_pos (wk st (Gr.refl st)),e1];simp only[Ab,e2,if_true,e3,e,Aq,Au]
end L2.MP
namespace L2.MP.Ce
open PySem L2.MP
theorem zh7{α:Type}(f:α->Bool):∀ as:List α,zjW (as.map fun a=>D.bl (f a))=some (as.map f)
 | []=>rfl
 | a::as=>by
   show (zjW (as.map fun a=>D.bl (f a))).map _=_;rw[zh7 f as];rfl
theorem all_ev{α:Type}{f:α->Bool}{as:List α}{n:Nat}{st:Sto}(h:st[n]?=some (.lst (as.map fun a=>D.bl (f a)))):allC [.ref n] st=some (.bl (as.all f),st):=by
 unfold allC;simp only[za9,h,Ab,zh7,Aq,List.all_map];rfl
theorem ifB{t:MT}{a:MS}{ρ:Rho}{st s1:Sto}{b:Bool}(h:t ρ st=some (b,s1)):mIf t a zcp ρ st=if b=true then a ρ s1 else some (.nx ρ,s1):=by
 simp only[zdq,h,Ab,za4]
theorem ifT{t:MT}{a:MS}{ρ:Rho}{st s1:Sto}{r:Option (Fl×Sto)}(h:t ρ st=some (true,s1))(k:a ρ s1=r):mIf t a zcp ρ st=r:=by rw[ifB h,if_pos rfl];exact k
theorem ifF{t:MT}{a:MS}{ρ:Rho}{st s1:Sto}(h:t ρ st=some (false,s1)):mIf t a zcp ρ st=some (.nx ρ,s1):=by rw[ifB h,if_neg (by decide)]
theorem tstB{m:ME}{ρ:Rho}{st s1:Sto}{b:Bool}(h:m ρ st=some (.bl b,s1)):mTst m ρ st=some (b,s1):=by simp only[zbH,h,Ab]
theorem notB{m:ME}{ρ:Rho}{st s1:Sto}{b:Bool}(h:m ρ st=some (.bl b,s1)):zlo (mTst m) ρ st=some (!b,s1):=by simp only[za5,zbH,h,Ab,Aq]
theorem orL{a b:MT}{ρ:Rho}{st s1:Sto}(h1:a ρ st=some (true,s1)):mOrT a b ρ st=some (true,s1):=by simp only[zbJ,h1,Ab,if_true]
theorem orR{a b:MT}{ρ:Rho}{st s1:Sto}{r:Option (Bool×Sto)}(h1:a ρ st=some (false,s1))(h2:b ρ s1=r):mOrT a b ρ st=r:=by simp only[zbJ,h1,Ab,Ay,if_false,h2]
theorem andL{a b:ME}{ρ:Rho}{st s1:Sto}(h1:a ρ st=some (.bl false,s1)):zkG a b ρ st=some (.bl false,s1):=by simp[zaX,h1]
theorem andR{a b:ME}{ρ:Rho}{st s1:Sto}{r:Option (D×Sto)}(h1:a ρ st=some (.bl true,s1))(h2:b ρ s1=r):zkG a b ρ st=r:=by simp[zaX,h1,h2]
theorem zbO{m:ME}{ρ:Rho}{st s:Sto}{d:D}(h:m ρ st=some (d,s)):mRet m ρ st=some (.rt d,s):=by rw[zbI,h];rfl
noncomputable def slT(ds:List D)(lo hi:Option Int):List D:=if (decide (HT.sIx ds.length 0 lo=0)&&decide (HT.sIx ds.length ds.length hi=ds.length))=true then ds else cutD ds lo hi
theorem zct{ds:List D}{lo hi:Option Int}{st:Sto}:slC (.tup ds) lo hi st=some (.tup (slT ds lo hi),st):=by
 unfold slC slB slA slD slS slK slW slT
 by_cases h:(decide (HT.sIx ds.length 0 lo=0)&&decide (HT.sIx ds.length ds.length hi=ds.length))=true
 . simp only[h,if_true,zcT]
 . simp only[h,if_false,zb0,Ay]
theorem zeW{ds:List D}{lo hi:Option Int}:slT ds lo hi=cutD ds lo hi:=by
 unfold slT
 split
 . rename_i h;rw[AA,decide_eq_true_eq,decide_eq_true_eq] at h;unfold cutD;rw[h.1,h.2,Da,Nat.sub_zero,CS]
 . rfl
theorem zcM{a b:List D}{st:Sto}(h:a.length+b.length<=10000):addE (.tup a) (.tup b) st=some (.tup (a++b),st):=by
 unfold addE orG
 cases a with
 | nil =>
   have e1:addD (.tup []) (.tup b) st=none:=rfl;have hf:fits b.length=true:=zax (by simpa using h);rw[e1,zcT];simp[znc,hf]
 | cons x a=>rw[zfl (by simp) h,zb0]
theorem zge{ds:List D}{s:Sto}(h:ds.length<=10000):zmH [.tup ds] s=some (.ref s.length,s++[.lst ds]):=by
 have:fits ds.length=true:=zax h;simp[zmH,orN,zn6,zn5,this,zb0]
theorem zop{α:Type}{f:α->Bool}{as:List α}{n:Nat}{st:Sto}(h:st[n]?=some (.lst (as.map fun a=>D.bl (f a)))):anyB [.ref n] st=some (.bl (as.any f),st):=by
 unfold anyB;simp only[za9,h,Ab,zh7,Aq,List.any_map];rfl
section
variable {α:Type} {mi:MI} {f h:α->D} {b:α->Bool} {as:List α} {fr:List Nat} {m:ME} {ρ0 ρ:Rho} {st:Sto} {gd:List (Nat×List D)}
theorem zcI(hw:mi ρ st=some (⟨as.map f,gd⟩,st))(hg:∀ s,Gr st s->walked ⟨as.map f,gd⟩ s=true)(hρ:rho0 ρ 1 fr=none::ρ0)(hl:as.length<=10000)
   (H:∀ a∈as,∀ s,Gr st s->∃ s1,m (some (f a)::ρ0) s=some (h a,s1)/\Gr s s1) :
   ∃ s1,zbT mi 1 fr (gNm 0) zb1 m ρ st=some (.ref s1.length,s1++[.lst (as.map h)])/\Gr st s1:=by
 obtain⟨s1,e,g⟩:=zoI (W:=⟨as.map f,gd⟩) (g:=gNm 0) (c:=zb1) (m:=m) (f:=f) (h:=h) (R:=fun r=>∃ x,r=x::ρ0) (as:=as) (ρ:=none::ρ0) (st:=st) ⟨none,rfl⟩ hg (fun a ha r s hr gs=>by
   obtain⟨x,rfl⟩:=hr;obtain⟨s1,e,g⟩:=H a ha s gs;exact⟨some (f a)::ρ0,s1,rfl,rfl,e,g,_,rfl⟩)
 have fl:fits (as.map h).length=true:=zax (by rw[Ad];exact hl);refine⟨s1,?_,g⟩;rw[zaG,hw];simp only[Ab];rw[hρ,e];simp only[Ab,fl,if_true]
theorem zjY(hw:mi ρ st=some (⟨as.map f,gd⟩,st))(hg:∀ s,Gr st s->walked ⟨as.map f,gd⟩ s=true)(hρ:rho0 ρ 1 fr=none::ρ0)(hl:as.length<=10000)
   (H:∀ a∈as,∀ s,Gr st s->∃ s1,m (some (f a)::ρ0) s=some (.bl (b a),s1)/\Gr s s1) :
   ∃ st',zap allC (zae (zbT mi 1 fr (gNm 0) zb1 m) mNil) ρ st=some (.bl (as.all b),st')/\Gr st st':=by
 obtain⟨s1,ec,g⟩:=zcI (h:=fun a=>D.bl (b a)) hw hg hρ hl H;refine⟨_,?_,g.trans (Gr.app s1 [.lst (as.map fun a=>D.bl (b a))])⟩;simp only[zaR,zaJ,zbr,ec,Ab];exact all_ev (zaS s1 _)
theorem zjX(hw:mi ρ st=some (⟨as.map f,gd⟩,st))(hg:∀ s,Gr st s->walked ⟨as.map f,gd⟩ s=true)(hρ:rho0 ρ 1 fr=none::ρ0)(hl:as.length<=10000)
   (H:∀ a∈as,∀ s,Gr st s->∃ s1,m (some (f a)::ρ0) s=some (.bl (b a),s1)/\Gr s s1) :
   ∃ st',zap anyB (zae (zbT mi 1 fr (gNm 0) zb1 m) mNil) ρ st=some (.bl (as.any b),st')/\Gr st st':=by
 obtain⟨s1,ec,g⟩:=zcI (h:=fun a=>D.bl (b a)) hw hg hρ hl H;refine⟨_,?_,g.trans (Gr.app s1 [.lst (as.map fun a=>D.bl (b a))])⟩;simp only[zaR,zaJ,zbr,ec,Ab];exact zop (zaS s1 _)
end
section
variable {α:Type} {st:Sto} {f:α->D} {p:α->PyData}
theorem zcr{g:D->Option PyData}:∀ {as:List α},(∀ a∈as,g (f a)=some (p a))->toPs g (as.map f)=some (as.map p)
 | [],_=>rfl
 | a::as,h=>by
   rw[Au,toPs,h a Ag,Ab,zcr fun x hx=>h x (Af _ hx)];rfl
theorem any_gen[DecidableEq α](hp:∀ a b,Ba (p a) (p b)=decide (a=b))(x:α):∀ as:List α,(as.map p).any (fun y=>Ba y (p x))=decide (x∈as)
 | []=>rfl
 | y::as=>by
   rw[Au,Co,any_gen hp x as,hp,Bb,Bu,decide_eq_true_iff,decide_eq_true_iff,decide_eq_true_iff,B3];exact⟨fun h=>h.imp Eq.symm id,fun h=>h.imp Eq.symm id⟩
theorem zfd[DecidableEq α](hp:∀ a b,Ba (p a) (p b)=decide (a=b)){x:α}{as:List α}(hx:toP 50 st (f x)=some (p x))(h:∀ a∈as,toP 49 st (f a)=some (p a)):inA (f x) (.tup (as.map f)) st=some (.bl (decide (x∈as)),st):=by
 have e:toP 50 st (.tup (as.map f))=some (.tuple (as.map p)):=by rw[toP,zcr h];rfl
 unfold inA orG inD;rw[hx,e];simp only[Ab,memP,Aq,any_gen hp,zb0];rfl
theorem zeF[DecidableEq α](hp:∀ a b,Ba (p a) (p b)=decide (a=b)){x:α}{as:List α}{l:Nat}(hl:st[l]?=some (.lst (as.map f)))(hx:toP 50 st (f x)=some (p x))(h:∀ a∈as,toP 49 st (f a)=some (p a)):inA (f x) (.ref l) st=some (.bl (decide (x∈as)),st):=by
 have e:toP 50 st (.ref l)=some (.list (as.map p)):=by
   rw[toP];simp only[za9,hl,Ab];rw[zcr h];rfl
 unfold inA orG inD;rw[hx,e];simp only[Ab,memP,Aq,any_gen hp,zb0];rfl
theorem zbS[DecidableEq α](hp:∀ a b,Ba (p a) (p b)=decide (a=b)){x:α}{as:List α}{l:Nat}(hl:st[l]?=some (.lst (as.map f)))(hx:toP 50 st (f x)=some (p x))(h:∀ a∈as,toP 49 st (f a)=some (p a)):ziT (f x) (.ref l) st=some (.bl (!decide (x∈as)),st):=by
 have e:toP 50 st (.ref l)=some (.list (as.map p)):=by
   rw[toP];simp only[za9,hl,Ab];rw[zcr h];rfl
 unfold ziT zkx orG inD;rw[hx,e];simp only[Ab,memP,Aq,any_gen hp,zb0];rfl
end
theorem zb2{α:Type}{W:Wk}{g:MG}{m:MS}{f:α->D}{b:α->Bool}{R:Rho->Prop}:∀ {as:List α} {ρ:Rho} {st:Sto},R ρ->(∀ s,Gr st s->walked W s=true) ->
   (∀ a∈as,∀ ρ s,R ρ->Gr st s->∃ ρ1 ρ2 s',g (f a) ρ s=some (ρ1,s)/\Gr s s'/\(m ρ1 s=if b a=true then some (.nx ρ2,s') else some (.rt (.bl false),s'))/\R ρ2) ->
   ∃ ρ' s',Gr st s'/\R ρ'/\zeM W g m (as.map f) ρ st=if as.all b=true then some (.nx ρ',s') else some (.rt (.bl false),s')
 | [],ρ,st,r,wk,_=>⟨ρ,st,Gr.refl st,r,by unfold zeM;rw[BB];simp only[wk st (Gr.refl st),if_true,F0]⟩
 | a::as,ρ,st,r,wk,hs=>by
   obtain⟨ρ1,ρ2,s1,e1,g1,e2,r2⟩:=hs a Ag ρ st r (Gr.refl st)
   cases hb:b a with
   | false =>
     rw[hb] at e2;refine⟨ρ,s1,g1,r,?_⟩;rw[EB,hb];exact zmE (wk st (Gr.refl st)) e1 e2
   | true =>
     rw[hb] at e2;obtain⟨ρ',s',g2,r',e3⟩:=zb2 (W:=W) (g:=g) (m:=m) (f:=f) (b:=b) (R:=R) (as:=as) r2 (fun s gs=>wk s (g1.trans gs)) (fun x hx ρ s hr gs=>hs x (Af _ hx) ρ s hr (g1.trans gs));refine⟨ρ',s',g1.trans g2,r',?_⟩;rw[EB,hb,FY,<-e3];exact zmF (wk st (Gr.refl st)) e1 e2
theorem zcg{α:Type}(f:α->D)(as:List α):pairs (as.map f)=as.zipIdx.map fun p=>D.tup [.int (p.2:Nat),f p.1]:=by
 unfold pairs;rw[List.zipIdx_map,A0];rfl
end L2.MP.Ce
namespace L2.MP.stickytiles_k64_what_is_framed
open PySem L2.MP L2.MP.Hb
noncomputable def zbj:ME:=mOrV (mBin eqD (mVar 1) (mCon (.int 0))) (mBin eqD (mVar 0) (mBin subD (mVar 3) (mCon (.int 1))))
noncomputable def zdH:MS:=mSeq (mAsg (mBin ixA (mVar 0) (mCon (.int 0))) (gNm 2)) (mRet (zkG (mBin eqD (zap lenD (zae (mVar 1) (mNil))) (mBin subD (mBin addD (mVar 2) (mBin ixA (mVar 0) (mCon (.int 1)))) (mCon (.int 1)))) (zap allC (zae (zbT (mWA (mVar 1)) 3 [2] (gTp 3 (gC (gNm 0) (gC (gNm 1) (gC (gNm 2) (gN0))))) (zb1) (zbj)) (mNil)))))
noncomputable def zc2:GN:=fnM 3 zdH
noncomputable def zcy:ME:=mBin eqD (mBin ixA (mVar 0) (mCon (.int 1))) (mCon (.int 1))
noncomputable def zcx:ME:=mBin inA (mCon (.str "")) (mSlC (mVar 0) (zcn (mCon (.int 1))) (zc5))
noncomputable def zbX:ME:=mTup (zae (mBin ixA (mVar 0) (mCon (.int 3))) (zae (mBin ixA (mVar 0) (mCon (.int 2))) (mNil)))
noncomputable def zbD:MS:=mSeq (mAsg (mBin ixA (mVar 0) (mCon (.int 0))) (gNm 1)) (mSeq (mIf (mOrT (mTst (mBin neD (mBin ixA (mVar 1) (mCon (.int 0))) (mCon (.int 2)))) (zlo (mTst (zap allC (zae (zbT (mWA (mBin ixA (mVar 1) (mCon (.int 1)))) 1 [] (gNm 0) (zb1) (zcy)) (mNil)))))) (mRet (mCon (.bl false))) (zcp)) (mSeq (mIf (mTst (zap anyB (zae (zbT (mWA (mBin ixA (mVar 1) (mCon (.int 2)))) 1 [] (gNm 0) (zb1) (zcx)) (mNil)))) (mRet (mCon (.bl false))) (zcp)) (mSeq (mIf (mTst (mBin ltD (zap lenE (zae (zap zln (zae (zbT (mWA (mBin ixA (mVar 1) (mCon (.int 2)))) 1 [] (gNm 0) (zb1) (zbX)) (mNil))) (mNil))) (zap lenD (zae (mBin ixA (mVar 1) (mCon (.int 2))) (mNil))))) (mRet (mCon (.bl false))) (zcp)) (mRet (zap zc2 (zae (mBin ixA (mVar 0) (mCon (.int 1))) (zae (mBin ixA (mVar 0) (mCon (.int 2))) (mNil))))))))
noncomputable def zbu:GN:=fnM 2 zbD
noncomputable def zaT:ME:=mBin ixA (mVar 1) (zap zac (zae (mVar 2) (zae (mCon (.int 26)) (mNil))))
noncomputable def zaO:ME:=mBin mulA (mBin ixA (mVar 1) (mVar 2)) (mBin addD (mVar 0) (mCon (.int 1)))
noncomputable def zaN:ME:=mBin addD (mBin addE (mSlC (mVar 1) (zc5) (zcn (mVar 2))) (mBin ixA (mVar 3) (mBin modD (mBin addD (mVar 4) (mBin mulA (mVar 5) (mVar 0))) (mCon (.int 26))))) (mSlC (mVar 1) (zcn (mVar 2)) (zc5))
noncomputable def zcz:MS:=mSeq (mAsg (mCon (.str "abcdefghijklmnopqrstuvwxyz")) (gNm 2)) (mSeq (mAsg (mTup (zae (zap zac (zae (mVar 0) (zae (mCon (.int 26)) (mNil)))) (zae (mBin ixA (mLst (zae (mCon (.int 1)) (zae (mCon (.int 3)) (zae (mCon (.int 5)) (zae (mCon (.int 7)) (zae (mCon (.int 9)) (zae (mCon (.int 11)) (mNil)))))))) (zap zac (zae (mVar 0) (zae (mCon (.int 6)) (mNil))))) (mNil)))) (gTp 2 (gC (gNm 3) (gC (gNm 4) (gN0))))) (mSeq (mAsg (zap zac (zae (mVar 0) (zae (mCon (.int 8)) (mNil)))) (gNm 5)) (mSeq (mAsg (zm8 (mCon (.str "")) (zae (zbT (mR1 (mVar 5)) 1 [2,0] (gNm 0) (zb1) (zaT)) (mNil))) (gNm 6)) (mSeq (mAsg (zap zac (zae (mVar 0) (zae (mBin addD (mVar 5) (mCon (.int 1))) (mNil)))) (gNm 7)) (mSeq (mIf (zmB (mTst (mBin ltD (mVar 1) (mCon (.int 9)))) (mTst (mBin eqD (zap zac (zae (mVar 0) (zae (mCon (.int 4)) (mNil)))) (mCon (.int 0))))) (mRet (zap zcs (zae (zbT (mR1 (mVar 1)) 1 [2,3] (gNm 0) (zb1) (zaO)) (mNil)))) (zcp)) (mRet (zap zcs (zae (zbT (mR1 (mVar 1)) 1 [6,7,2,3,4] (gNm 0) (zb1) (zaN)) (mNil)))))))))
noncomputable def zbV:GN:=fnM 8 zcz
noncomputable def zbM:ME:=mTup (zae (mVar 1) (zae (mVar 0) (mNil)))
noncomputable def za0:MS:=mExp (mExt (mVar 5) (zae (zbT (mWA (mVar 3)) 1 [6] (gNm 0) (zb1) (zbM)) (mNil)))
noncomputable def zaZ:MS:=mSeq (mAsg (mPop (mVar 5) (zae (zap zac (zae (mVar 0) (zae (zap lenD (zae (mVar 5) (mNil))) (mNil)))) (mNil))) (gTp 2 (gC (gNm 6) (gC (gNm 10) (gN0))))) (mSeq (mAsg (mBin ixA (mLst (zae (mCon (.str "")) (zae (mBin ixA (mVar 7) (zap zac (zae (mVar 0) (zae (mCon (.int 36)) (mNil))))) (mNil)))) (zap zac (zae (mVar 0) (zae (mCon (.int 2)) (mNil))))) (gNm 11)) (mExp (mApp (mVar 8) (zae (mTup (zae (mVar 11) (zae (mBin ixA (mVar 3) (zap zac (zae (mVar 0) (zae (mVar 4) (mNil))))) (zae (mVar 10) (zae (mVar 6) (zae (mBin ixA (mVar 3) (zap zac (zae (mVar 0) (zae (mVar 4) (mNil))))) (mNil))))))) (mNil)))))
noncomputable def zbq:MS:=mIf (mOrT (mTst (mBin eqD (mVar 16) (mCon (.int 0)))) (mTst (mBin eqD (mVar 15) (mBin subD (mVar 12) (mCon (.int 1)))))) (mExp (mApp (mVar 14) (zae (mTup (zae (mVar 15) (zae (mVar 16) (zae (zap zac (zae (mVar 0) (zae (zap lenD (zae (mVar 8) (mNil))) (mNil)))) (mNil))))) (mNil)))) (zcp)
noncomputable def zaY:MS:=mFor (mR1 (mVar 13)) (gNm 16) (zbq)
noncomputable def zbL:ME:=mTup (zae (mVar 0) (zae (mCon (.int 1)) (mNil)))
noncomputable def zc4:MS:=mSeq (mAsg (zap zbV (zae (mVar 0) (zae (mBin addD (mCon (.int 1)) (zap zac (zae (mVar 0) (zae (mCon (.int 4)) (mNil))))) (mNil)))) (gNm 3)) (mSeq (mAsg (zap lenD (zae (mVar 3) (mNil))) (gNm 4)) (mSeq (mAsg (mLst (mNil)) (gNm 5)) (mSeq (mFor (mWA (mVar 3)) (gNm 6) (za0)) (mSeq (mAsg (mCon (.str "abcdefghijklmnopqrstuvwxyz0123456789")) (gNm 7)) (mSeq (mAsg (mLst (mNil)) (gNm 8)) (mSeq (mFor (mR1 (zap zih (zae (zap lenD (zae (mVar 5) (mNil))) (zae (mBin addD (mCon (.int 1)) (zap zac (zae (mVar 0) (zae (mVar 2) (mNil))))) (mNil))))) (gNm 9) (zaZ)) (mSeq (mPar 12 13 (zae (mBin addD (mCon (.int 1)) (zap zac (zae (mVar 0) (zae (mVar 1) (mNil))))) (zae (mBin addD (mCon (.int 1)) (zap zac (zae (mVar 0) (zae (mVar 1) (mNil))))) (mNil)))) (mSeq (mAsg (mLst (mNil)) (gNm 14)) (mSeq (mFor (mR1 (mVar 12)) (gNm 15) (zaY)) (mRet (mTup (zae (mTup (zae (mCon (.int 2)) (zae (zap zcP (zae (zbT (mWA (mVar 3)) 1 [] (gNm 0) (zb1) (zbL)) (mNil))) (zae (zap zcP (zae (mVar 8) (mNil))) (mNil))))) (zae (mTup (zae (mVar 12) (zae (mVar 13) (mNil)))) (zae (zap zcP (zae (mVar 14) (mNil))) (mNil)))))))))))))))
noncomputable def zbB:GN:=fnM 17 zc4
noncomputable def zbC:ME:=mVar 0
noncomputable def zbn:MT:=mTst (mBin neD (mVar 1) (mCon (.int 1)))
noncomputable def zcm:ME:=mSlC (mVar 0) (zcn (mCon (.int 2))) (zcn (mCon (.int 4)))
noncomputable def zbp:MS:=mIf (mOrT (mTst (mBin inA (mCon (.str "")) (mSlC (mVar 8) (zcn (mCon (.int 1))) (zc5)))) (mTst (mBin inA (mSlC (mVar 8) (zcn (mCon (.int 2))) (zcn (mCon (.int 4)))) (zbT (mWA (mSlC (mVar 3) (zc5) (zcn (mVar 7)))) 1 [] (gNm 0) (zb1) (zcm))))) (mRet (mCon (.bl false))) (zcp)
noncomputable def zc3:ME:=mSlC (mVar 0) (zc5) (zcn (mCon (.int 2)))
noncomputable def zbA:MS:=mIf (mTst (mBin neD (mBin inA (mTup (zae (mVar 10) (zae (mVar 11) (mNil)))) (mVar 9)) (mOrV (mBin eqD (mVar 11) (mCon (.int 0))) (mBin eqD (mVar 10) (mBin subD (mVar 4) (mCon (.int 1))))))) (mRet (mCon (.bl false))) (zcp)
noncomputable def zbo:MS:=mFor (mR1 (mVar 5)) (gNm 11) (zbA)
noncomputable def zbN:MS:=mSeq (mAsg (mVar 0) (gTp 3 (gC (gTp 3 (gC (gNm 1) (gC (gNm 2) (gC (gNm 3) (gN0))))) (gC (gTp 2 (gC (gNm 4) (gC (gNm 5) (gN0)))) (gC (gNm 6) (gN0)))))) (mSeq (mIf (mOrT (mTst (mBin neD (mVar 1) (mCon (.int 2)))) (mTst (mBin neD (zbT (mWA (mVar 2)) 2 [] (gTp 2 (gC (gNm 0) (gC (gNm 1) (gN0)))) (zbn) (zbC)) (mLst (mNil))))) (mRet (mCon (.bl false))) (zcp)) (mSeq (mFor (zjJ (mVar 3)) (gTp 2 (gC (gNm 7) (gC (gNm 8) (gN0)))) (zbp)) (mSeq (mAsg (zbT (mWA (mVar 6)) 1 [] (gNm 0) (zb1) (zc3)) (gNm 9)) (mSeq (mFor (mR1 (mVar 4)) (gNm 10) (zbo)) (mRet (mCon (.bl true)))))))
noncomputable def zcl:GN:=fnM 12 zbN
noncomputable def zdG:MS:=mRet (mBin addD (mBin addE (mSlC (mVar 0) (zc5) (zcn (mVar 1))) (mTup (zae (mVar 2) (mNil)))) (mSlC (mVar 0) (zcn (mBin addD (mVar 1) (mCon (.int 1)))) (zc5)))
noncomputable def zau:GN:=fnM 3 zdG
noncomputable def zaD:ME:=mVar 0
noncomputable def zaq:MS:=mSeq (mAsg (mVar 1) (gTp 3 (gC (gNm 2) (gC (gNm 3) (gC (gNm 4) (gN0)))))) (mSeq (mAsg (zap zac (zae (mVar 0) (zae (mCon (.int 5)) (mNil)))) (gNm 5)) (mSeq (mAsg (zap zac (zae (mVar 0) (zae (zap lenD (zae (mVar 4) (mNil))) (mNil)))) (gNm 6)) (mSeq (mIf (mTst (mBin eqD (mVar 5) (mCon (.int 0)))) (mRet (mTup (zae (mBin ixA (mLst (zae (mCon (.int 1)) (zae (mCon (.int 3)) (zae (mCon (.int 4)) (mNil))))) (zap zac (zae (mVar 0) (zae (mCon (.int 3)) (mNil))))) (zae (mVar 3) (zae (mVar 4) (mNil)))))) (zcp)) (mSeq (mIf (mTst (mBin eqD (mVar 5) (mCon (.int 1)))) (mSeq (mAsg (zap zac (zae (mVar 0) (zae (zap lenD (zae (mVar 3) (mNil))) (mNil)))) (gNm 7)) (mRet (mTup (zae (mVar 2) (zae (zap zau (zae (mVar 3) (zae (mVar 7) (zae (mTup (zae (mBin ixA (mBin ixA (mVar 3) (mVar 7)) (mCon (.int 0))) (zae (mBin addD (mCon (.int 1)) (zap zac (zae (mVar 0) (zae (mCon (.int 4)) (mNil))))) (mNil)))) (mNil))))) (zae (mVar 4) (mNil))))))) (zcp)) (mSeq (mIf (mTst (mBin eqD (mVar 5) (mCon (.int 2)))) (mSeq (mAsg (mBin ixA (mBin addD (mTup (zae (mCon (.str "")) (mNil))) (zap zcP (zae (zbT (mWA (mVar 3)) 2 [] (gTp 2 (gC (gNm 0) (gC (gNm 1) (gN0)))) (zb1) (zaD)) (mNil)))) (zap zac (zae (mVar 0) (zae (mBin addD (zap lenD (zae (mVar 3) (mNil))) (mCon (.int 1))) (mNil))))) (gNm 8)) (mRet (mTup (zae (mVar 2) (zae (mVar 3) (zae (zap zau (zae (mVar 4) (zae (mVar 6) (zae (zap zau (zae (mBin ixA (mVar 4) (mVar 6)) (zae (mBin addD (mCon (.int 1)) (zap zac (zae (mVar 0) (zae (mCon (.int 4)) (mNil))))) (zae (mVar 8) (mNil))))) (mNil))))) (mNil))))))) (zcp)) (mSeq (mAsg (mBin ixA (mVar 4) (zap zac (zae (mVar 0) (zae (zap lenD (zae (mVar 4) (mNil))) (mNil))))) (gNm 9)) (mSeq (mIf (mTst (mBin eqD (mVar 5) (mCon (.int 3)))) (mRet (mTup (zae (mVar 2) (zae (mVar 3) (zae (mBin addD (mVar 4) (mTup (zae (mVar 9) (mNil)))) (mNil)))))) (zcp)) (mRet (mTup (zae (mVar 2) (zae (mVar 3) (zae (zap zau (zae (mVar 4) (zae (mVar 6) (zae (mBin addD (mBin addE (mSlC (mBin ixA (mVar 4) (mVar 6)) (zc5) (zcn (mCon (.int 2)))) (mSlC (mVar 9) (zcn (mCon (.int 2))) (zcn (mCon (.int 4))))) (mSlC (mBin ixA (mVar 4) (mVar 6)) (zcn (mCon (.int 4))) (zc5))) (mNil))))) (mNil)))))))))))))
noncomputable def zay:GN:=fnM 10 zaq
noncomputable def zbW:ME:=mSlC (mVar 0) (zc5) (zcn (mCon (.int 2)))
noncomputable def zaW:ME:=mTup (zae (mVar 1) (zae (mVar 0) (mNil)))
noncomputable def zaK:MT:=mTst (mBin ziT (mTup (zae (mVar 1) (zae (mVar 0) (mNil)))) (mVar 2))
noncomputable def zaM:MS:=mExp (mExt (mVar 9) (zae (zbT (mR1 (mVar 4)) 1 [10,8] (gNm 0) (zaK) (zaW)) (mNil)))
noncomputable def zaH:MS:=mSeq (mAsg (mVar 1) (gTp 3 (gC (gNm 2) (gC (gTp 2 (gC (gNm 3) (gC (gNm 4) (gN0)))) (gC (gNm 5) (gN0)))))) (mSeq (mAsg (zap zac (zae (mVar 0) (zae (mCon (.int 8)) (mNil)))) (gNm 6)) (mSeq (mIf (mTst (mBin ltD (mVar 6) (mCon (.int 4)))) (mRet (mTup (zae (zap zay (zae (mVar 0) (zae (mVar 2) (mNil)))) (zae (mBin ixA (mVar 1) (mCon (.int 1))) (zae (mVar 5) (mNil)))))) (zcp)) (mSeq (mAsg (zap zac (zae (mVar 0) (zae (zap lenD (zae (mVar 5) (mNil))) (mNil)))) (gNm 7)) (mSeq (mIf (mTst (mBin eqD (mVar 6) (mCon (.int 4)))) (mRet (mTup (zae (mVar 2) (zae (mBin ixA (mVar 1) (mCon (.int 1))) (zae (mBin addE (mSlC (mVar 5) (zc5) (zcn (mVar 7))) (mSlC (mVar 5) (zcn (mBin addD (mVar 7) (mCon (.int 1)))) (zc5))) (mNil)))))) (zcp)) (mSeq (mIf (mTst (mBin eqD (mVar 6) (mCon (.int 5)))) (mRet (mTup (zae (mVar 2) (zae (mBin ixA (mVar 1) (mCon (.int 1))) (zae (zap zau (zae (mVar 5) (zae (mVar 7) (zae (mBin addE (mSlC (mBin ixA (mVar 5) (mVar 7)) (zc5) (zcn (mCon (.int 2)))) (mTup (zae (zap zac (zae (mVar 0) (zae (zap lenD (zae (mBin ixA (mVar 2) (mCon (.int 2))) (mNil))) (mNil)))) (mNil)))) (mNil))))) (mNil)))))) (zcp)) (mSeq (mIf (mTst (mBin eqD (mVar 6) (mCon (.int 6)))) (mSeq (mAsg (zbT (mWA (mVar 5)) 1 [] (gNm 0) (zb1) (zbW)) (gNm 8)) (mSeq (mAsg (mLst (mNil)) (gNm 9)) (mSeq (mFor (mR1 (mVar 3)) (gNm 10) (zaM)) (mSeq (mAsg (mIte (mTst (mBin neD (mVar 9) (mLst (mNil)))) (mLst (zae (mBin addE (mBin ixA (mVar 9) (zap zac (zae (mVar 0) (zae (zap lenD (zae (mVar 9) (mNil))) (mNil))))) (mTup (zae (mCon (.int 0)) (mNil)))) (mNil))) (mLst (mNil))) (gNm 11)) (mRet (mTup (zae (mVar 2) (zae (mBin ixA (mVar 1) (mCon (.int 1))) (zae (zap zcP (zae (zap zcs (zae (mBin addD (zap zmH (zae (mVar 5) (mNil))) (mVar 11)) (mNil))) (mNil))) (mNil)))))))))) (zcp)) (mRet (mTup (zae (mVar 2) (zae (mBin ixA (mLst (zae (mTup (zae (zap zih (zae (mCon (.int 12)) (zae (mBin addD (mVar 3) (mCon (.int 1))) (mNil)))) (zae (mVar 4) (mNil)))) (zae (mTup (zae (mVar 3) (zae (zap zih (zae (mCon (.int 12)) (zae (mBin addD (mVar 4) (mCon (.int 1))) (mNil)))) (mNil)))) (mNil)))) (zap zac (zae (mVar 0) (zae (mCon (.int 2)) (mNil))))) (zae (mVar 5) (mNil))))))))))))
noncomputable def zaw:GN:=fnM 12 zaH
noncomputable def zfm:MS:=mSeq (mAsg (zap zaw (zae (mVar 1) (zae (mVar 3) (mNil)))) (gNm 5)) (mSeq (mIf (mTst (mBin eqD (zap zac (zae (mVar 1) (zae (mCon (.int 4)) (mNil)))) (mCon (.int 0)))) (mAsg (mIte (mTst (mBin neD (mBin ixA (mVar 5) (mCon (.int 2))) (mTup (mNil)))) (zap zaw (zae (mVar 1) (zae (mVar 5) (mNil)))) (mVar 5)) (gNm 5)) (zcp)) (mSeq (mAsg (zap zbu (zae (mVar 5) (mNil))) (gNm 6)) (mIf (mOrT (mTst (mBin zmx (zap zbu (zae (mVar 3) (mNil))) (mCon (.bl true)))) (mOrT (zlo (mTst (mIsi "bool" (mVar 6)))) (mTst (mBin neD (mVar 6) (zap zcl (zae (mVar 5) (mNil))))))) (mRet (mCon (.bl false))) (zcp))))
noncomputable def zgt:MS:=mSeq (mAsg (zap zbB (zae (mVar 1) (zae (mBin ixA (mLst (zae (mCon (.int 4)) (zae (mCon (.int 12)) (mNil)))) (zap intC (zae (mBin eqD (zap zac (zae (mVar 1) (zae (mCon (.int 4)) (mNil)))) (mCon (.int 0))) (mNil)))) (zae (mCon (.int 9)) (mNil))))) (gNm 3)) (mSeq (mFor (mR1 (mCon (.int 10))) (gNm 4) (zfm)) (mIf (mTst (mBin zmx (zap zbu (zae (mTup (zae (mBin ixA (mVar 3) (mCon (.int 0))) (zae (mBin ixA (mVar 3) (mCon (.int 1))) (zae (mTup (mNil)) (mNil))))) (mNil))) (mCon (.bl false)))) (mRet (mCon (.bl false))) (zcp)))
noncomputable def zoJ:MS:=mSeq (mAsg (zap zbU (zae (mVar 0) (mNil))) (gNm 1)) (mSeq (mFor (mR1 (mCon (.int 3))) (gNm 2) (zgt)) (mRet (mCon (.bl true))))
noncomputable def zlk:GN:=fnM 7 zoJ
end L2.MP.stickytiles_k64_what_is_framed
namespace L2.MP.stickytiles_k64_what_is_framed
open PySem L2 L2.MP L2.MP.Hb PySem.Spec PyProof.Rows
noncomputable def top(i:Nat):Stmt:=PySem.Challenge.pw_stickytiles_k64_what_is_framed.main.body.getD i (.Pass ⟨0,0,0,0⟩)
section
variable {P:Program} {w:World} {K:Ac} {mg:Str->Option Value} {base:Heap}
theorem nd_0:(["floor","seed","wide"]:List Str).Nodup:=by decide +kernel
theorem nd_1:(["x","y","kind","wide"]:List Str).Nodup:=by decide +kernel
theorem nd_2:(["bed","house"]:List Str).Nodup:=by decide +kernel
theorem nd_3:(["stick"]:List Str).Nodup:=by decide +kernel
theorem nd_4:(["kind"]:List Str).Nodup:=by decide +kernel
theorem nd_5:(["_law_script","_law_seed","_law_k","_law_cell"]:List Str).Nodup:=by decide +kernel
theorem nd_6:(["_law_cell"]:List Str).Nodup:=by decide +kernel
theorem nd_7:(["_law_state","_law_many","_law_digit"]:List Str).Nodup:=by decide +kernel
theorem nd_8:(["_law_state","_law_many","_law_letters","_law_first","_law_step","_law_size","_law_stem","_law_at"]:List Str).Nodup:=by decide +kernel
theorem nd_9:(["_law_k","_law_letters","_law_state"]:List Str).Nodup:=by decide +kernel
theorem zpd:(["_law_k","_law_letters","_law_first"]:List Str).Nodup:=by decide +kernel
theorem zpc:(["_law_k","_law_stem","_law_at","_law_letters","_law_first","_law_step"]:List Str).Nodup:=by decide +kernel
theorem zgb:(["_law_state","_law_most","_law_kinds_most","_law_names_here","_law_many","_law_twos","_law_south","_law_signs","_law_kinds","_law_turn","_law_east","_law_face","_law_wide","_law_high","_law_seed","_law_x","_law_y"]:List Str).Nodup:=by decide +kernel
theorem zpb:(["_law_east","_law_south"]:List Str).Nodup:=by decide +kernel
theorem zpa:(["_law_name"]:List Str).Nodup:=by decide +kernel
theorem zhv:(["_law_bed","_law_enough","_law_sticks","_law_kinds","_law_wide","_law_high","_law_seed","_law_at","_law_kind","_law_places","_law_x","_law_y"]:List Str).Nodup:=by decide +kernel
theorem zoC:(["_law_name","_law_strength"]:List Str).Nodup:=by decide +kernel
theorem zo9:(["_law_other"]:List Str).Nodup:=by decide +kernel
theorem zoB:(["_law_tile"]:List Str).Nodup:=by decide +kernel
theorem zjH:(["_law_state","_law_house","_law_enough","_law_sticks","_law_kinds","_law_way","_law_at","_law_stick","_law_name","_law_other"]:List Str).Nodup:=by decide +kernel
theorem zoA:(["_law_one","_law_strength"]:List Str).Nodup:=by decide +kernel
theorem zig:(["_law_state","_law_bed","_law_house","_law_wide","_law_high","_law_seed","_law_way","_law_at","_law_lies","_law_free","_law_x","_law_some"]:List Str).Nodup:=by decide +kernel
theorem zo8:(["_law_y","_law_x","_law_lies"]:List Str).Nodup:=by decide +kernel
theorem zkz:(["_law_script","_law_state","_law_turn","_law_bed","_law_k","_law_other","_law_found"]:List Str).Nodup:=by decide +kernel
theorem zgz:FnScope ["floor","seed","wide"] ["floor","seed"] (zaz (top 1)):=⟨rfl,rfl,rfl,by decide +kernel,rfl,by decide +kernel,by decide +kernel⟩
theorem zgD(L:Laid K mg "is_frame" (top 1) ["floor","seed"])(b_len:mg "len"=none)(b_all:mg "all"=none):zdg P w K mg base 1 "is_frame" 2 zc2 :=
 zdW (k:=0) L zgz fun f cdv A outer s H E hr=>JSs.out (zah (JS.mk (zbg (i:=2) nd_0 rfl (by first | exact An rfl | exact Al rfl) (zaA (zbs hr) (zab 0) (zaf)))) (zas (JS.mk (zbm (znt (zeX (zci (zaC hr)) (zaE zaV rfl b_len zc0 (zaa (zab 1) (zag))) (zaB zf9 (zaB zaQ (zab 2) (zaA (zbs hr) (zab 0) (zaf))) (zaf)) rfl) (zlX (zaE (zgn rfl) rfl b_all zmV (zaa (zbE rfl rfl (za8 (N':=["x","y","kind","wide"]) (nt:=3) (fr:=[2]) ["wide"] rfl (by decide +kernel) (by decide +kernel) (by decide +kernel) rfl ⟨⟨rfl,by decide⟩,trivial⟩ ⟨by first | exact An rfl | exact Al rfl,trivial⟩) (zbt (zab 1)) (fun C s0 H0 fp=>zc6 rfl (zat (zam (i:=0) nd_1 rfl (by first | exact An rfl | exact Al rfl)) (zat (zam (i:=1) nd_1 rfl (by first | exact An rfl | exact Al rfl)) (zat (zam (i:=2) nd_1 rfl (by first | exact An rfl | exact Al rfl)) (zcc))))) (fun C s0 H0 fp=>zc8) (fun C s0 H0 fp=>zow (zeX (zci (zaC hr)) (zab 1) (zaf) rfl) (zlR (zeX (zci (zaC hr)) (zab 0) (zaB zf9 (zab 3) (zaf)) rfl)))) (zag)))))))))
theorem zfz:FnScope ["bed","house"] ["bed"] (zaz (top 2)):=⟨rfl,rfl,rfl,by decide +kernel,rfl,by decide +kernel,by decide +kernel⟩
theorem zfG(L:Laid K mg "is_framed" (top 2) ["bed"])(b_all:mg "all"=none)(b_any:mg "any"=none)(b_set:mg "set"=none)(b_len:mg "len"=none)(h_is_frame:zdg P w K mg base 1 "is_frame" 2 zc2):zdg P w K mg base 2 "is_framed" 1 zbu :=
 zdW (k:=1) L zfz fun f cdv A outer s H E hr=>JSs.out (zah (JS.mk (zbg (i:=1) nd_2 rfl (by first | exact An rfl | exact Al rfl) (zaA (zbs hr) (zab 0) (zaf)))) (zah (zee (SW.sb (zll (zbh (zdK (zaC hr)) (zaA (zbs hr) (zab 1) (zaf)) (zaf) rfl) (zg0 (zlY (znv (zaE (zgn rfl) rfl b_all zmV (zaa (zbE rfl rfl (za8 (N':=["stick"]) (nt:=1) (fr:=[]) [] rfl (by decide +kernel) (by decide +kernel) (by decide +kernel) rfl trivial trivial) (zbt (zaA (zbs hr) (zab 1) (zaf))) (fun C s0 H0 fp=>zam (i:=0) nd_3 rfl (by first | exact An rfl | exact Al rfl)) (fun C s0 H0 fp=>zc8) (fun C s0 H0 fp=>zeX (zci (zaC hr)) (zaA (zbs hr) (zab 0) (zaf)) (zaf) rfl)) (zag)))))))) (zas (JS.mk (zbm (zgP)))) (zbk)) (zah (zee (znv (zaE (zjo rfl) rfl b_any zon (zaa (zbE rfl rfl (za8 (N':=["kind"]) (nt:=1) (fr:=[]) [] rfl (by decide +kernel) (by decide +kernel) (by decide +kernel) rfl trivial trivial) (zbt (zaA (zbs hr) (zab 1) (zaf))) (fun C s0 H0 fp=>zam (i:=0) nd_4 rfl (by first | exact An rfl | exact Al rfl)) (fun C s0 H0 fp=>zc8) (fun C s0 H0 fp=>zlU (zaC hr) (zfy) (zaI (zab 0) (za3 (zaf)) (zbw)))) (zag)))) (zas (JS.mk (zbm (zgP)))) (zbk)) (zah (zee (zbh zku (zaE zjm rfl b_len zc0 (zaa (zbR (zjk rfl (zaC hr)) rfl b_set zol (zaa (zbE rfl rfl (za8 (N':=["kind"]) (nt:=1) (fr:=[]) [] rfl (by decide +kernel) (by decide +kernel) (by decide +kernel) rfl trivial trivial) (zbt (zaA (zbs hr) (zab 1) (zaf))) (fun C s0 H0 fp=>zam (i:=0) nd_4 rfl (by first | exact An rfl | exact Al rfl)) (fun C s0 H0 fp=>zc8) (fun C s0 H0 fp=>za7 (zaa (zaA (zbs hr) (zab 0) (zaf)) (zaa (zaA (zbs hr) (zab 0) (zaf)) (zag))))) (zag))) (zag))) (zaE zaV rfl b_len zc0 (zaa (zaA (zbs hr) (zab 1) (zaf)) (zag))) rfl) (zas (JS.mk (zbm (zgP)))) (zbk)) (zas (JS.mk (zbm (zaj h_is_frame (hr.mono (by decide)) rfl (zaa (zaA (zbs hr) (zab 0) (zaf)) (zaa (zaA (zbs hr) (zab 0) (zaf)) (zag))) (zan.cons (zan.cons zan.nil))))))))))
theorem zeq:FnScope ["_law_script","_law_seed","_law_k","_law_cell"] ["_law_script"] (zaz (top 4)):=⟨rfl,rfl,rfl,by decide +kernel,rfl,by decide +kernel,by decide +kernel⟩
theorem zey(L:Laid K mg "_law_start" (top 4) ["_law_script"])(b_enumerate:mg "enumerate"=none)(b_abs:mg "abs"=none):zdg P w K mg base 1 "_law_start" 1 zbU :=
 zdW (k:=0) L zeq fun f cdv A outer s H E hr=>JSs.out (zah (JS.mk (zbg (i:=1) nd_5 rfl (by first | exact An rfl | exact Al rfl) (zaf))) (zah (zdx Bc rfl (zjA rfl b_enumerate (zep (zab 0) (zbw) (za3 (zaf)))) (zc6 rfl (zat (zam (i:=2) nd_5 rfl (by first | exact An rfl | exact Al rfl)) (zat (zam (i:=3) nd_5 rfl (by first | exact An rfl | exact Al rfl)) (zcc)))) (zas (JS.mk (zbg (i:=1) nd_5 rfl (by first | exact An rfl | exact Al rfl) (zaB zdi (zaB zaQ (zaB zaQ (zaB zaQ (zaB zd7 (zab 1) (zaf)) (zaB zdi (zab 3) (zaf))) (zaB zd7 (zaf) (zab 2))) (zaf)) (zaf)))))) (zas (JS.mk (zbm (zcB (zaa (zbE rfl rfl (za8 (N':=["_law_cell"]) (nt:=1) (fr:=[]) [] rfl (by decide +kernel) (by decide +kernel) (by decide +kernel) rfl trivial trivial) (zbt (zep (zab 0) (zbw) (za3 (zaf)))) (fun C s0 H0 fp=>zam (i:=0) nd_6 rfl (by first | exact An rfl | exact Al rfl)) (fun C s0 H0 fp=>zkg (zbh znZ (zaE zgo rfl b_abs zmW (zaa (zab 0) (zag))) (zaB zmp (zaf) (zaf)) rfl)) (fun C s0 H0 fp=>zaE zgo rfl b_abs zmW (zaa (zab 0) (zag)))) (zaa (zab 1) (zag)))))))))
theorem zeZ:FnScope ["_law_state","_law_many","_law_digit"] ["_law_state","_law_many"] (zaz (top 5)):=⟨rfl,rfl,rfl,by decide +kernel,rfl,by decide +kernel,by decide +kernel⟩
theorem ze6(L:Laid K mg "_law_next" (top 5) ["_law_state","_law_many"]):zdg P w K mg base 1 "_law_next" 2 zac :=
 zdW (k:=0) L zeZ fun f cdv A outer s H E hr=>JSs.out (zah (zkS Bc (SW.sb (zlz (zbh (zdK (zaC hr)) (zaA (zbs hr) (zab 0) (zaf)) (zcB (zag)) rfl) (zjw (zbh (zci (zaC hr)) (zaA (zbs hr) (zaA (zbs hr) (zab 0) (zaf)) (zaf)) (zaf) rfl)))) (zas (JS.mk (zeQ (zlP (zaA (zbs hr) (zab 0) (zaf)) (zaa (zaf) (zag))))))) (zah (zee (zbh (zdK (zaC hr)) (zaA (zbs hr) (zab 0) (zaf)) (zcB (zag)) rfl) (zah (JS.mk (zbg (i:=2) nd_7 rfl (by first | exact An rfl | exact Al rfl) (zaB zdi (zaA (zbs hr) (zaA (zbs hr) (zab 0) (zaf)) (zaf)) (zab 1)))) (zah (JS.mk (zlG (zbs hr) (zaA (zbs hr) (zab 0) (zaf)) (zaf) (zaB zhm (zaA (zbs hr) (zaA (zbs hr) (zab 0) (zaf)) (zaf)) (zab 1)))) (zas (JS.mk (zbm (zab 2)))))) (zbk)) (zah (JS.mk (zlG (zbs hr) (zab 0) (zaf) (zaB zdi (zaB zaQ (zaB zd7 (zaA (zbs hr) (zab 0) (zaf)) (zaf)) (zaf)) (zaf)))) (zas (JS.mk (zbm (zaB zdi (zaB zhm (zaB zdi (zaB zd7 (zaA (zbs hr) (zab 0) (zaf)) (zaB zaQ (zaB zdi (zaA (zbs hr) (zab 0) (zaf)) (zaf)) (zaf))) (zaf)) (zaf)) (zab 1))))))))
theorem zer:FnScope ["_law_state","_law_many","_law_letters","_law_first","_law_step","_law_size","_law_stem","_law_at"] ["_law_state","_law_many"] (zaz (top 6)):=⟨rfl,rfl,rfl,by decide +kernel,rfl,by decide +kernel,by decide +kernel⟩
theorem zez(L:Laid K mg "_law_names" (top 6) ["_law_state","_law_many"])(b_range:mg "range"=none)(b_sorted:mg "sorted"=none)(h_q_law_next:zdg P w K mg base 1 "_law_next" 2 zac):zdg P w K mg base 2 "_law_names" 2 zbV :=
 zdW (k:=1) L zer fun f cdv A outer s H E hr=>JSs.out (zah (JS.mk (zbg (i:=2) nd_8 rfl (by first | exact An rfl | exact Al rfl) (zfy))) (zah (JS.mk (zgv (za7 (zaa (zaj h_q_law_next (hr.mono (by decide)) rfl (zaa (zab 0) (zaa (zaf) (zag))) (zan.cons (zan.cons zan.nil))) (zaa (zaA (zbs hr) (zcB (JA.out (zcv (zaf) (zcv (zaf) (zcv (zaf) (zcv (zaf) (zcv (zaf) (zcv (zaf) (zmL))))))))) (zaj h_q_law_next (hr.mono (by decide)) rfl (zaa (zab 0) (zaa (zaf) (zag))) (zan.cons (zan.cons zan.nil)))) (zag)))) (zc6 rfl (zat (zam (i:=3) nd_8 rfl (by first | exact An rfl | exact Al rfl)) (zat (zam (i:=4) nd_8 rfl (by first | exact An rfl | exact Al rfl)) (zcc)))))) (zah (JS.mk (zbg (i:=5) nd_8 rfl (by first | exact An rfl | exact Al rfl) (zaj h_q_law_next (hr.mono (by decide)) rfl (zaa (zab 0) (zaa (zaf) (zag))) (zan.cons (zan.cons zan.nil))))) (zah (JS.mk (zbg (i:=6) nd_8 rfl (by first | exact An rfl | exact Al rfl) (zlS (zfy) (zaa (zbE rfl rfl (za8 (N':=["_law_k","_law_letters","_law_state"]) (nt:=1) (fr:=[2,0]) ["_law_letters","_law_state"] rfl (by decide +kernel) (by decide +kernel) (by decide +kernel) rfl ⟨⟨rfl,by decide⟩,⟨⟨rfl,by decide⟩,trivial⟩⟩ ⟨by first | exact An rfl | exact Al rfl,⟨by first | exact An rfl | exact Al rfl,trivial⟩⟩) (zbf rfl b_range (zab 5)) (fun C s0 H0 fp=>zam (i:=0) nd_9 rfl (by first | exact An rfl | exact Al rfl)) (fun C s0 H0 fp=>zc8) (fun C s0 H0 fp=>zaA (zbs hr) (zab 1) (zaj h_q_law_next (hr.mono (by decide)) rfl (zaa (zab 2) (zaa (zaf) (zag))) (zan.cons (zan.cons zan.nil))))) (zag))))) (zah (JS.mk (zbg (i:=7) nd_8 rfl (by first | exact An rfl | exact Al rfl) (zaj h_q_law_next (hr.mono (by decide)) rfl (zaa (zab 0) (zaa (zaB zaQ (zab 5) (zaf)) (zag))) (zan.cons (zan.cons zan.nil))))) (zah (zee (SW.sb (zlz (zbh zku (zab 1) (zaf) rfl) (zjw (zbh (zci (zaC hr)) (zaj h_q_law_next (hr.mono (by decide)) rfl (zaa (zab 0) (zaa (zaf) (zag))) (zan.cons (zan.cons zan.nil))) (zaf) rfl)))) (zas (JS.mk (zbm (zaE zcJ rfl b_sorted zeL (zaa (zbE rfl rfl (za8 (N':=["_law_k","_law_letters","_law_first"]) (nt:=1) (fr:=[2,3]) ["_law_letters","_law_first"] rfl (by decide +kernel) (by decide +kernel) (by decide +kernel) rfl ⟨⟨rfl,by decide⟩,⟨⟨rfl,by decide⟩,trivial⟩⟩ ⟨by first | exact An rfl | exact Al rfl,⟨by first | exact An rfl | exact Al rfl,trivial⟩⟩) (zbf rfl b_range (zab 1)) (fun C s0 H0 fp=>zam (i:=0) zpd rfl (by first | exact An rfl | exact Al rfl)) (fun C s0 H0 fp=>zc8) (fun C s0 H0 fp=>zaB zd7 (zaA (zbs hr) (zab 1) (zab 2)) (zaB zaQ (zab 0) (zaf)))) (zag)))))) (zbk)) (zas (JS.mk (zbm (zaE zcJ rfl b_sorted zeL (zaa (zbE rfl rfl (za8 (N':=["_law_k","_law_stem","_law_at","_law_letters","_law_first","_law_step"]) (nt:=1) (fr:=[6,7,2,3,4]) ["_law_stem","_law_at","_law_letters","_law_first","_law_step"] rfl (by decide +kernel) (by decide +kernel) (by decide +kernel) rfl ⟨⟨rfl,by decide⟩,⟨⟨rfl,by decide⟩,⟨⟨rfl,by decide⟩,⟨⟨rfl,by decide⟩,⟨⟨rfl,by decide⟩,trivial⟩⟩⟩⟩⟩ ⟨by first | exact An rfl | exact Al rfl,⟨by first | exact An rfl | exact Al rfl,⟨by first | exact An rfl | exact Al rfl,⟨by first | exact An rfl | exact Al rfl,⟨by first | exact An rfl | exact Al rfl,trivial⟩⟩⟩⟩⟩) (zbf rfl b_range (zab 1)) (fun C s0 H0 fp=>zam (i:=0) zpc rfl (by first | exact An rfl | exact Al rfl)) (fun C s0 H0 fp=>zc8) (fun C s0 H0 fp=>zaB zaQ (zaB zd8 (zaI (zab 1) (zbw) (za3 (zab 2))) (zaA (zbs hr) (zab 3) (zaB zdi (zaB zaQ (zab 4) (zaB zd7 (zab 5) (zab 0))) (zaf)))) (zaI (zab 1) (za3 (zab 2)) (zbw)))) (zag))))))))))))
theorem zdJ:FnScope ["_law_state","_law_most","_law_kinds_most","_law_names_here","_law_many","_law_twos","_law_south","_law_signs","_law_kinds","_law_turn","_law_east","_law_face","_law_wide","_law_high","_law_seed","_law_x","_law_y"] ["_law_state","_law_most","_law_kinds_most"] (zaz (top 7)):=⟨rfl,rfl,rfl,by decide +kernel,rfl,by decide +kernel,by decide +kernel⟩
theorem zdL(L:Laid K mg "_law_framed" (top 7) ["_law_state","_law_most","_law_kinds_most"])(b_len:mg "len"=none)(b_min:mg "min"=none)(b_range:mg "range"=none)(b_tuple:mg "tuple"=none)(h_q_law_next:zdg P w K mg base 1 "_law_next" 2 zac)(h_q_law_names:zdg P w K mg base 2 "_law_names" 2 zbV):zdg P w K mg base 3 "_law_framed" 3 zbB :=
 zdW (k:=2) L zdJ fun f cdv A outer s H E hr=>JSs.out (zah (JS.mk (zbg (i:=3) zgb rfl (by first | exact An rfl | exact Al rfl) (zaj h_q_law_names (hr.mono (by decide)) rfl (zaa (zab 0) (zaa (zaB zaQ (zaf) (zaj h_q_law_next (hr.mono (by decide)) rfl (zaa (zab 0) (zaa (zaf) (zag))) (zan.cons (zan.cons zan.nil)))) (zag))) (zan.cons (zan.cons zan.nil))))) (zah (JS.mk (zbg (i:=4) zgb rfl (by first | exact An rfl | exact Al rfl) (zaE zaV rfl b_len zc0 (zaa (zab 3) (zag))))) (zah (JS.mk (zbg (i:=5) zgb rfl (by first | exact An rfl | exact Al rfl) (zcB (zag)))) (zah (zdx Bc rfl (zbt (zab 3)) (zam (i:=6) zgb rfl (by first | exact An rfl | exact Al rfl)) (zas (JS.mk (zeQ (zf3 (zab 5) (zaa (zbE rfl rfl (za8 (N':=["_law_east","_law_south"]) (nt:=1) (fr:=[6]) ["_law_south"] rfl (by decide +kernel) (by decide +kernel) (by decide +kernel) rfl ⟨⟨rfl,by decide⟩,trivial⟩ ⟨by first | exact An rfl | exact Al rfl,trivial⟩) (zbt (zab 3)) (fun C s0 H0 fp=>zam (i:=0) zpb rfl (by first | exact An rfl | exact Al rfl)) (fun C s0 H0 fp=>zc8) (fun C s0 H0 fp=>za7 (zaa (zab 1) (zaa (zab 0) (zag))))) (zag))))))) (zah (JS.mk (zbg (i:=7) zgb rfl (by first | exact An rfl | exact Al rfl) (zfy))) (zah (JS.mk (zbg (i:=8) zgb rfl (by first | exact An rfl | exact Al rfl) (zcB (zag)))) (zah (zdx Bc rfl (zbf rfl b_range (zaE (zeK rfl) rfl b_min zle (zaa (zaE zaV rfl b_len zc0 (zaa (zab 5) (zag))) (zaa (zaB zaQ (zaf) (zaj h_q_law_next (hr.mono (by decide)) rfl (zaa (zab 0) (zaa (zab 2) (zag))) (zan.cons (zan.cons zan.nil)))) (zag))))) (zam (i:=9) zgb rfl (by first | exact An rfl | exact Al rfl)) (zah (JS.mk (zgv (zlP (zab 5) (zaa (zaj h_q_law_next (hr.mono (by decide)) rfl (zaa (zab 0) (zaa (zaE zaV rfl b_len zc0 (zaa (zab 5) (zag))) (zag))) (zan.cons (zan.cons zan.nil))) (zag))) (zc6 rfl (zat (zam (i:=6) zgb rfl (by first | exact An rfl | exact Al rfl)) (zat (zam (i:=10) zgb rfl (by first | exact An rfl | exact Al rfl)) (zcc)))))) (zah (JS.mk (zbg (i:=11) zgb rfl (by first | exact An rfl | exact Al rfl) (zaA (zbs hr) (zcB (zaa (zfy) (zaa (zaA (zbs hr) (zab 7) (zaj h_q_law_next (hr.mono (by decide)) rfl (zaa (zab 0) (zaa (zaf) (zag))) (zan.cons (zan.cons zan.nil)))) (zag)))) (zaj h_q_law_next (hr.mono (by decide)) rfl (zaa (zab 0) (zaa (zaf) (zag))) (zan.cons (zan.cons zan.nil)))))) (zas (JS.mk (zeQ (zf4 (zab 8) (zaa (za7 (JA.out (zcv (zab 11) (zcv (zaA (zbs hr) (zab 3) (zaj h_q_law_next (hr.mono (by decide)) rfl (zaa (zab 0) (zaa (zab 4) (zag))) (zan.cons (zan.cons zan.nil)))) (zcv (zab 10) (zcv (zab 6) (zcv (zaA (zbs hr) (zab 3) (zaj h_q_law_next (hr.mono (by decide)) rfl (zaa (zab 0) (zaa (zab 4) (zag))) (zan.cons (zan.cons zan.nil)))) (zmL)))))))) (zag))))))))) (zah (JS.mk (zni (i:=12) (j:=13) rfl zgb rfl rfl (by decide) rfl rfl (zaa (zaB zaQ (zaf) (zaj h_q_law_next (hr.mono (by decide)) rfl (zaa (zab 0) (zaa (zab 1) (zag))) (zan.cons (zan.cons zan.nil)))) (zaa (zaB zaQ (zaf) (zaj h_q_law_next (hr.mono (by decide)) rfl (zaa (zab 0) (zaa (zab 1) (zag))) (zan.cons (zan.cons zan.nil)))) (zag))))) (zah (JS.mk (zbg (i:=14) zgb rfl (by first | exact An rfl | exact Al rfl) (zcB (zag)))) (zah (zdx Bc rfl (zbf rfl b_range (zab 12)) (zam (i:=15) zgb rfl (by first | exact An rfl | exact Al rfl)) (zas (zdx Bc rfl (zbf rfl b_range (zab 13)) (zam (i:=16) zgb rfl (by first | exact An rfl | exact Al rfl)) (zas (zee (SW.sb (zll (zbh (zci (zaC hr)) (zab 16) (zaf) rfl) (zg0 (zbh (zci (zaC hr)) (zab 15) (zaB zf9 (zab 12) (zaf)) rfl)))) (zas (JS.mk (zeQ (zf4 (zab 14) (zaa (za7 (zaa (zab 15) (zaa (zab 16) (zaa (zaj h_q_law_next (hr.mono (by decide)) rfl (zaa (zab 0) (zaa (zaE zaV rfl b_len zc0 (zaa (zab 8) (zag))) (zag))) (zan.cons (zan.cons zan.nil))) (zag))))) (zag)))))) (zbk)))))) (zas (JS.mk (zbm (za7 (zaa (za7 (zaa (zaf) (zaa (zbR zcd rfl b_tuple zdD (zaa (zbE rfl rfl (za8 (N':=["_law_name"]) (nt:=1) (fr:=[]) [] rfl (by decide +kernel) (by decide +kernel) (by decide +kernel) rfl trivial trivial) (zbt (zab 3)) (fun C s0 H0 fp=>zam (i:=0) zpa rfl (by first | exact An rfl | exact Al rfl)) (fun C s0 H0 fp=>zc8) (fun C s0 H0 fp=>za7 (zaa (zab 0) (zaa (zaf) (zag))))) (zag))) (zaa (zbR zcd rfl b_tuple zdD (zaa (zab 8) (zag))) (zag))))) (zaa (za7 (zaa (zab 12) (zaa (zab 13) (zag)))) (zaa (zbR zcd rfl b_tuple zdD (zaa (zab 14) (zag))) (zag))))))))))))))))))
theorem ze0:FnScope ["_law_bed","_law_enough","_law_sticks","_law_kinds","_law_wide","_law_high","_law_seed","_law_at","_law_kind","_law_places","_law_x","_law_y"] ["_law_bed"] (zaz (top 8)):=⟨rfl,rfl,rfl,by decide +kernel,rfl,by decide +kernel,by decide +kernel⟩
theorem ze7(L:Laid K mg "_law_look" (top 8) ["_law_bed"])(b_enumerate:mg "enumerate"=none)(b_range:mg "range"=none):zdg P w K mg base 1 "_law_look" 1 zcl :=
 zdW (k:=0) L ze0 fun f cdv A outer s H E hr=>JSs.out (zah (JS.mk (zgv (zab 0) (zc6 rfl (zat (zc6 rfl (zat (zam (i:=1) zhv rfl (by first | exact An rfl | exact Al rfl)) (zat (zam (i:=2) zhv rfl (by first | exact An rfl | exact Al rfl)) (zat (zam (i:=3) zhv rfl (by first | exact An rfl | exact Al rfl)) (zcc))))) (zat (zc6 rfl (zat (zam (i:=4) zhv rfl (by first | exact An rfl | exact Al rfl)) (zat (zam (i:=5) zhv rfl (by first | exact An rfl | exact Al rfl)) (zcc)))) (zat (zam (i:=6) zhv rfl (by first | exact An rfl | exact Al rfl)) (zcc))))))) (zah (zee (SW.sb (zll (zbh (zdK (zaC hr)) (zab 1) (zaf) rfl) (zg0 (zbh (zdK (zaC hr)) (zbE rfl rfl (za8 (N':=["_law_name","_law_strength"]) (nt:=2) (fr:=[]) [] rfl (by decide +kernel) (by decide +kernel) (by decide +kernel) rfl trivial trivial) (zbt (zab 2)) (fun C s0 H0 fp=>zc6 rfl (zat (zam (i:=0) zoC rfl (by first | exact An rfl | exact Al rfl)) (zat (zam (i:=1) zoC rfl (by first | exact An rfl | exact Al rfl)) (zcc)))) (fun C s0 H0 fp=>zkg (zbh (zdK (zaC hr)) (zab 1) (zaf) rfl)) (fun C s0 H0 fp=>zab 0)) (zcB (zag)) rfl)))) (zas (JS.mk (zbm (zgP)))) (zbk)) (zah (zdx Bc rfl (zjA rfl b_enumerate (zab 3)) (zc6 rfl (zat (zam (i:=7) zhv rfl (by first | exact An rfl | exact Al rfl)) (zat (zam (i:=8) zhv rfl (by first | exact An rfl | exact Al rfl)) (zcc)))) (zas (zee (SW.sb (zll (zlZ (zaC hr) (zfy) (zaI (zab 8) (za3 (zaf)) (zbw))) (zg0 (zlZ (zaC hr) (zaI (zab 8) (za3 (zaf)) (za3 (zaf))) (zbE rfl rfl (za8 (N':=["_law_other"]) (nt:=1) (fr:=[]) [] rfl (by decide +kernel) (by decide +kernel) (by decide +kernel) rfl trivial trivial) (zbt (zaI (zab 3) (zbw) (za3 (zab 7)))) (fun C s0 H0 fp=>zam (i:=0) zo9 rfl (by first | exact An rfl | exact Al rfl)) (fun C s0 H0 fp=>zc8) (fun C s0 H0 fp=>zaI (zab 0) (za3 (zaf)) (za3 (zaf)))))))) (zas (JS.mk (zbm (zgP)))) (zbk)))) (zah (JS.mk (zgu (i:=9) rfl rfl (za8 (N':=["_law_tile"]) (nt:=1) (fr:=[]) [] rfl (by decide +kernel) (by decide +kernel) (by decide +kernel) rfl trivial trivial) (zbt (zab 6)) (fun C s0 H0 fp=>zam (i:=0) zoB rfl (by first | exact An rfl | exact Al rfl)) (fun C s0 H0 fp=>zc8) (fun C s0 H0 fp=>zaI (zab 0) (zbw) (za3 (zaf))) zhv rfl rfl)) (zah (zdx Bc rfl (zbf rfl b_range (zab 4)) (zam (i:=10) zhv rfl (by first | exact An rfl | exact Al rfl)) (zas (zdx Bc rfl (zbf rfl b_range (zab 5)) (zam (i:=11) zhv rfl (by first | exact An rfl | exact Al rfl)) (zas (zee (zbh (zdK (zaC hr)) (zlU (zaC hr) (za7 (zaa (zab 10) (zaa (zab 11) (zag)))) (zab 9)) (zow (zeX (zci (zaC hr)) (zab 11) (zaf) rfl) (zlR (zeX (zci (zaC hr)) (zab 10) (zaB zf9 (zab 4) (zaf)) rfl))) rfl) (zas (JS.mk (zbm (zgP)))) (zbk)))))) (zas (JS.mk (zbm (zgP)))))))))
theorem zeY:FnScope ["_law_things","_law_at","_law_thing"] ["_law_things","_law_at","_law_thing"] (zaz (top 9)):=⟨rfl,rfl,rfl,by decide +kernel,rfl,by decide +kernel,by decide +kernel⟩
theorem ze5(L:Laid K mg "_law_with" (top 9) ["_law_things","_law_at","_law_thing"]):zdg P w K mg base 1 "_law_with" 3 zau :=
 zdW (k:=0) L zeY fun f cdv A outer s H E hr=>JSs.out (zas (JS.mk (zbm (zaB zaQ (zaB zd8 (zaI (zab 0) (zbw) (za3 (zab 1))) (za7 (zaa (zab 2) (zag)))) (zaI (zab 0) (za3 (zaB zaQ (zab 1) (zaf))) (zbw))))))
theorem zcf:FnScope ["_law_state","_law_house","_law_enough","_law_sticks","_law_kinds","_law_way","_law_at","_law_stick","_law_name","_law_other"] ["_law_state","_law_house"] (zaz (top 10)):=⟨rfl,rfl,rfl,by decide +kernel,rfl,by decide +kernel,by decide +kernel⟩
theorem zcj(L:Laid K mg "_law_house_otherwise" (top 10) ["_law_state","_law_house"])(b_len:mg "len"=none)(b_tuple:mg "tuple"=none)(h_q_law_next:zdg P w K mg base 1 "_law_next" 2 zac)(h_q_law_with:zdg P w K mg base 1 "_law_with" 3 zau):zdg P w K mg base 2 "_law_house_otherwise" 2 zay :=
 zdW (k:=1) L zcf fun f cdv A outer s H E hr=>JSs.out (zah (JS.mk (zgv (zab 1) (zc6 rfl (zat (zam (i:=2) zjH rfl (by first | exact An rfl | exact Al rfl)) (zat (zam (i:=3) zjH rfl (by first | exact An rfl | exact Al rfl)) (zat (zam (i:=4) zjH rfl (by first | exact An rfl | exact Al rfl)) (zcc))))))) (zah (JS.mk (zbg (i:=5) zjH rfl (by first | exact An rfl | exact Al rfl) (zaj h_q_law_next (hr.mono (by decide)) rfl (zaa (zab 0) (zaa (zaf) (zag))) (zan.cons (zan.cons zan.nil))))) (zah (JS.mk (zbg (i:=6) zjH rfl (by first | exact An rfl | exact Al rfl) (zaj h_q_law_next (hr.mono (by decide)) rfl (zaa (zab 0) (zaa (zaE zaV rfl b_len zc0 (zaa (zab 4) (zag))) (zag))) (zan.cons (zan.cons zan.nil))))) (zah (zee (zbh (zci (zaC hr)) (zab 5) (zaf) rfl) (zas (JS.mk (zbm (za7 (zaa (zaA (zbs hr) (zcB (zaa (zaf) (zaa (zaf) (zaa (zaf) (zag))))) (zaj h_q_law_next (hr.mono (by decide)) rfl (zaa (zab 0) (zaa (zaf) (zag))) (zan.cons (zan.cons zan.nil)))) (zaa (zab 3) (zaa (zab 4) (zag)))))))) (zbk)) (zah (zee (zbh (zci (zaC hr)) (zab 5) (zaf) rfl) (zah (JS.mk (zbg (i:=7) zjH rfl (by first | exact An rfl | exact Al rfl) (zaj h_q_law_next (hr.mono (by decide)) rfl (zaa (zab 0) (zaa (zaE zaV rfl b_len zc0 (zaa (zab 3) (zag))) (zag))) (zan.cons (zan.cons zan.nil))))) (zas (JS.mk (zbm (za7 (zaa (zab 2) (zaa (zaj h_q_law_with (hr.mono (by decide)) rfl (zaa (zab 3) (zaa (zab 7) (zaa (za7 (zaa (zaA (zbs hr) (zaA (zbs hr) (zab 3) (zab 7)) (zaf)) (zaa (zaB zaQ (zaf) (zaj h_q_law_next (hr.mono (by decide)) rfl (zaa (zab 0) (zaa (zaf) (zag))) (zan.cons (zan.cons zan.nil)))) (zag)))) (zag)))) (zan.cons (zan.cons (zan.cons zan.nil)))) (zaa (zab 4) (zag))))))))) (zbk)) (zah (zee (zbh (zci (zaC hr)) (zab 5) (zaf) rfl) (zah (JS.mk (zbg (i:=8) zjH rfl (by first | exact An rfl | exact Al rfl) (zaA (zbs hr) (zaB zaQ (za7 (zaa (zfy) (zag))) (zbR zcd rfl b_tuple zdD (zaa (zbE rfl rfl (za8 (N':=["_law_one","_law_strength"]) (nt:=2) (fr:=[]) [] rfl (by decide +kernel) (by decide +kernel) (by decide +kernel) rfl trivial trivial) (zbt (zab 3)) (fun C s0 H0 fp=>zc6 rfl (zat (zam (i:=0) zoA rfl (by first | exact An rfl | exact Al rfl)) (zat (zam (i:=1) zoA rfl (by first | exact An rfl | exact Al rfl)) (zcc)))) (fun C s0 H0 fp=>zc8) (fun C s0 H0 fp=>zab 0)) (zag)))) (zaj h_q_law_next (hr.mono (by decide)) rfl (zaa (zab 0) (zaa (zaB zaQ (zaE zaV rfl b_len zc0 (zaa (zab 3) (zag))) (zaf)) (zag))) (zan.cons (zan.cons zan.nil)))))) (zas (JS.mk (zbm (za7 (zaa (zab 2) (zaa (zab 3) (zaa (zaj h_q_law_with (hr.mono (by decide)) rfl (zaa (zab 4) (zaa (zab 6) (zaa (zaj h_q_law_with (hr.mono (by decide)) rfl (zaa (zaA (zbs hr) (zab 4) (zab 6)) (zaa (zaB zaQ (zaf) (zaj h_q_law_next (hr.mono (by decide)) rfl (zaa (zab 0) (zaa (zaf) (zag))) (zan.cons (zan.cons zan.nil)))) (zaa (zab 8) (zag)))) (zan.cons (zan.cons (zan.cons zan.nil)))) (zag)))) (zan.cons (zan.cons (zan.cons zan.nil)))) (zag))))))))) (zbk)) (zah (JS.mk (zbg (i:=9) zjH rfl (by first | exact An rfl | exact Al rfl) (zaA (zbs hr) (zab 4) (zaj h_q_law_next (hr.mono (by decide)) rfl (zaa (zab 0) (zaa (zaE zaV rfl b_len zc0 (zaa (zab 4) (zag))) (zag))) (zan.cons (zan.cons zan.nil)))))) (zah (zee (zbh (zci (zaC hr)) (zab 5) (zaf) rfl) (zas (JS.mk (zbm (za7 (zaa (zab 2) (zaa (zab 3) (zaa (zaB zaQ (zab 4) (za7 (zaa (zab 9) (zag)))) (zag)))))))) (zbk)) (zas (JS.mk (zbm (za7 (zaa (zab 2) (zaa (zab 3) (zaa (zaj h_q_law_with (hr.mono (by decide)) rfl (zaa (zab 4) (zaa (zab 6) (zaa (zaB zaQ (zaB zd8 (zaI (zaA (zbs hr) (zab 4) (zab 6)) (zbw) (za3 (zaf))) (zaI (zab 9) (za3 (zaf)) (za3 (zaf)))) (zaI (zaA (zbs hr) (zab 4) (zab 6)) (za3 (zaf)) (zbw))) (zag)))) (zan.cons (zan.cons (zan.cons zan.nil)))) (zag))))))))))))))))
theorem zc7:FnScope ["_law_state","_law_bed","_law_house","_law_wide","_law_high","_law_seed","_law_way","_law_at","_law_lies","_law_free","_law_x","_law_some"] ["_law_state","_law_bed"] (zaz (top 11)):=⟨rfl,rfl,rfl,by decide +kernel,rfl,by decide +kernel,by decide +kernel⟩
theorem zda(L:Laid K mg "_law_otherwise" (top 11) ["_law_state","_law_bed"])(b_len:mg "len"=none)(b_range:mg "range"=none)(b_list:mg "list"=none)(b_sorted:mg "sorted"=none)(b_tuple:mg "tuple"=none)(b_min:mg "min"=none)(h_q_law_next:zdg P w K mg base 1 "_law_next" 2 zac)(h_q_law_house_otherwise:zdg P w K mg base 2 "_law_house_otherwise" 2 zay)(h_q_law_with:zdg P w K mg base 1 "_law_with" 3 zau):zdg P w K mg base 3 "_law_otherwise" 2 zaw :=
 zdW (k:=2) L zc7 fun f cdv A outer s H E hr=>JSs.out (zah (JS.mk (zgv (zab 1) (zc6 rfl (zat (zam (i:=2) zig rfl (by first | exact An rfl | exact Al rfl)) (zat (zc6 rfl (zat (zam (i:=3) zig rfl (by first | exact An rfl | exact Al rfl)) (zat (zam (i:=4) zig rfl (by first | exact An rfl | exact Al rfl)) (zcc)))) (zat (zam (i:=5) zig rfl (by first | exact An rfl | exact Al rfl)) (zcc))))))) (zah (JS.mk (zbg (i:=6) zig rfl (by first | exact An rfl | exact Al rfl) (zaj h_q_law_next (hr.mono (by decide)) rfl (zaa (zab 0) (zaa (zaf) (zag))) (zan.cons (zan.cons zan.nil))))) (zah (zee (zbh zku (zab 6) (zaf) rfl) (zas (JS.mk (zbm (za7 (zaa (zaj h_q_law_house_otherwise (hr.mono (by decide)) rfl (zaa (zab 0) (zaa (zab 2) (zag))) (zan.cons (zan.cons zan.nil))) (zaa (zaA (zbs hr) (zab 1) (zaf)) (zaa (zab 5) (zag)))))))) (zbk)) (zah (JS.mk (zbg (i:=7) zig rfl (by first | exact An rfl | exact Al rfl) (zaj h_q_law_next (hr.mono (by decide)) rfl (zaa (zab 0) (zaa (zaE zaV rfl b_len zc0 (zaa (zab 5) (zag))) (zag))) (zan.cons (zan.cons zan.nil))))) (zah (zee (zbh (zci (zaC hr)) (zab 6) (zaf) rfl) (zas (JS.mk (zbm (za7 (zaa (zab 2) (zaa (zaA (zbs hr) (zab 1) (zaf)) (zaa (zaB zd8 (zaI (zab 5) (zbw) (za3 (zab 7))) (zaI (zab 5) (za3 (zaB zaQ (zab 7) (zaf))) (zbw))) (zag)))))))) (zbk)) (zah (zee (zbh (zci (zaC hr)) (zab 6) (zaf) rfl) (zas (JS.mk (zbm (za7 (zaa (zab 2) (zaa (zaA (zbs hr) (zab 1) (zaf)) (zaa (zaj h_q_law_with (hr.mono (by decide)) rfl (zaa (zab 5) (zaa (zab 7) (zaa (zaB zd8 (zaI (zaA (zbs hr) (zab 5) (zab 7)) (zbw) (za3 (zaf))) (za7 (zaa (zaj h_q_law_next (hr.mono (by decide)) rfl (zaa (zab 0) (zaa (zaE zaV rfl b_len zc0 (zaa (zaA (zbs hr) (zab 2) (zaf)) (zag))) (zag))) (zan.cons (zan.cons zan.nil))) (zag)))) (zag)))) (zan.cons (zan.cons (zan.cons zan.nil)))) (zag)))))))) (zbk)) (zah (zee (zbh (zci (zaC hr)) (zab 6) (zaf) rfl) (zah (JS.mk (zbg (i:=8) zig rfl (by first | exact An rfl | exact Al rfl) (zbE rfl rfl (za8 (N':=["_law_tile"]) (nt:=1) (fr:=[]) [] rfl (by decide +kernel) (by decide +kernel) (by decide +kernel) rfl trivial trivial) (zbt (zab 5)) (fun C s0 H0 fp=>zam (i:=0) zoB rfl (by first | exact An rfl | exact Al rfl)) (fun C s0 H0 fp=>zc8) (fun C s0 H0 fp=>zaI (zab 0) (zbw) (za3 (zaf)))))) (zah (JS.mk (zbg (i:=9) zig rfl (by first | exact An rfl | exact Al rfl) (zcB (zag)))) (zah (zdx Bc rfl (zbf rfl b_range (zab 3)) (zam (i:=10) zig rfl (by first | exact An rfl | exact Al rfl)) (zas (JS.mk (zeQ (zf3 (zab 9) (zaa (zbE rfl rfl (za8 (N':=["_law_y","_law_x","_law_lies"]) (nt:=1) (fr:=[10,8]) ["_law_x","_law_lies"] rfl (by decide +kernel) (by decide +kernel) (by decide +kernel) rfl ⟨⟨rfl,by decide⟩,⟨⟨rfl,by decide⟩,trivial⟩⟩ ⟨by first | exact An rfl | exact Al rfl,⟨by first | exact An rfl | exact Al rfl,trivial⟩⟩) (zbf rfl b_range (zab 4)) (fun C s0 H0 fp=>zam (i:=0) zo8 rfl (by first | exact An rfl | exact Al rfl)) (fun C s0 H0 fp=>zkg (ziC (zaC hr) (za7 (zaa (zab 1) (zaa (zab 0) (zag)))) (zab 2))) (fun C s0 H0 fp=>za7 (zaa (zab 1) (zaa (zab 0) (zag))))) (zag))))))) (zah (JS.mk (zbg (i:=11) zig rfl (by first | exact An rfl | exact Al rfl) (zlT (zbh (zdK (zaC hr)) (zab 9) (zcB (zag)) rfl) (zcB (zaa (zaB zd8 (zaA (zbs hr) (zab 9) (zaj h_q_law_next (hr.mono (by decide)) rfl (zaa (zab 0) (zaa (zaE zaV rfl b_len zc0 (zaa (zab 9) (zag))) (zag))) (zan.cons (zan.cons zan.nil)))) (za7 (zaa (zaf) (zag)))) (zag))) (zcB (zag))))) (zas (JS.mk (zbm (za7 (zaa (zab 2) (zaa (zaA (zbs hr) (zab 1) (zaf)) (zaa (zbR zcd rfl b_tuple zdD (zaa (zaE zcJ rfl b_sorted zeL (zaa (zaB zaQ (zbR (zh3 rfl) rfl b_list zmT (zaa (zab 5) (zag))) (zab 11)) (zag))) (zag))) (zag)))))))))))) (zbk)) (zas (JS.mk (zbm (za7 (zaa (zab 2) (zaa (zaA (zbs hr) (zcB (zaa (za7 (zaa (zaE (zeK rfl) rfl b_min zle (zaa (zaf) (zaa (zaB zaQ (zab 3) (zaf)) (zag)))) (zaa (zab 4) (zag)))) (zaa (za7 (zaa (zab 3) (zaa (zaE (zeK rfl) rfl b_min zle (zaa (zaf) (zaa (zaB zaQ (zab 4) (zaf)) (zag)))) (zag)))) (zag)))) (zaj h_q_law_next (hr.mono (by decide)) rfl (zaa (zab 0) (zaa (zaf) (zag))) (zan.cons (zan.cons zan.nil)))) (zaa (zab 5) (zag)))))))))))))))
theorem znu:FnScope ["_law_script","_law_state","_law_turn","_law_bed","_law_k","_law_other","_law_found"] ["_law_script"] (zaz (top 12)):=⟨rfl,rfl,rfl,by decide +kernel,rfl,by decide +kernel,by decide +kernel⟩
theorem zoh{f:Addr}{fd:FuncData}(F:Fun K "law" "law" (top 12) f fd)(b_range:mg "range"=none)(b_int:mg "int"=none)(b_isinstance:mg "isinstance"=none)(b_bool:mg "bool"=none)(h_q_law_start:zdg P w K mg base 1 "_law_start" 1 zbU)(h_q_law_next:zdg P w K mg base 1 "_law_next" 2 zac)(h_q_law_framed:zdg P w K mg base 3 "_law_framed" 3 zbB)(h_q_law_otherwise:zdg P w K mg base 3 "_law_otherwise" 2 zaw)(h_is_framed:zdg P w K mg base 2 "is_framed" 1 zbu)(h_q_law_look:zdg P w K mg base 1 "_law_look" 1 zcl):FnOk P w K mg base CX0 4 f fd ["_law_script"] (spM K 1 zlk) :=
 fn_m (k:=3) F znu fun cdv A outer s H E hr=>JSs.out (zah (JS.mk (zbg (i:=1) zkz rfl (by first | exact An rfl | exact Al rfl) (zaj h_q_law_start (hr.mono (by decide)) rfl (zaa (zab 0) (zag)) (zan.cons zan.nil)))) (zah (zdx Bc rfl (zbf rfl b_range (zaf)) (zam (i:=2) zkz rfl (by first | exact An rfl | exact Al rfl)) (zah (JS.mk (zbg (i:=3) zkz rfl (by first | exact An rfl | exact Al rfl) (zaj h_q_law_framed (hr.mono (by decide)) rfl (zaa (zab 1) (zaa (zaA (zbs hr) (zcB (zaa (zaf) (zaa (zaf) (zag)))) (zbR zjn rfl b_int zom (zaa (zeX (zci (zaC hr)) (zaj h_q_law_next (hr.mono (by decide)) rfl (zaa (zab 1) (zaa (zaf) (zag))) (zan.cons (zan.cons zan.nil))) (zaf) rfl) (zag)))) (zaa (zaf) (zag)))) (zan.cons (zan.cons (zan.cons zan.nil)))))) (zah (zdx Bc rfl (zbf rfl b_range (zaf)) (zam (i:=4) zkz rfl (by first | exact An rfl | exact Al rfl)) (zah (JS.mk (zbg (i:=5) zkz rfl (by first | exact An rfl | exact Al rfl) (zaj h_q_law_otherwise (hr.mono (by decide)) rfl (zaa (zab 1) (zaa (zab 3) (zag))) (zan.cons (zan.cons zan.nil))))) (zah (zee (zbh (zci (zaC hr)) (zaj h_q_law_next (hr.mono (by decide)) rfl (zaa (zab 1) (zaa (zaf) (zag))) (zan.cons (zan.cons zan.nil))) (zaf) rfl) (zas (JS.mk (zbg (i:=5) zkz rfl (by first | exact An rfl | exact Al rfl) (zlT (zbh (zdK (zaC hr)) (zaA (zbs hr) (zab 5) (zaf)) (za7 (zag)) rfl) (zaj h_q_law_otherwise (hr.mono (by decide)) rfl (zaa (zab 1) (zaa (zab 5) (zag))) (zan.cons (zan.cons zan.nil))) (zab 5))))) (zbk)) (zah (JS.mk (zbg (i:=6) zkz rfl (by first | exact An rfl | exact Al rfl) (zaj h_is_framed (hr.mono (by decide)) rfl (zaa (zab 5) (zag)) (zan.cons zan.nil)))) (zas (zee (SW.sb (zll (zbh zhl (zaj h_is_framed (hr.mono (by decide)) rfl (zaa (zab 3) (zag)) (zan.cons zan.nil)) (zgP) rfl) (zll (zlY (znv (znr (T:="bool") (x:="isinstance") (by decide) rfl b_isinstance (zab 6) rfl b_bool zmU))) (zg0 (zbh (zdK (zaC hr)) (zab 6) (zaj h_q_law_look (hr.mono (by decide)) rfl (zaa (zab 5) (zag)) (zan.cons zan.nil)) rfl))))) (zas (JS.mk (zbm (zgP)))) (zbk))))))) (zas (zee (zbh zhl (zaj h_is_framed (hr.mono (by decide)) rfl (zaa (za7 (zaa (zaA (zbs hr) (zab 3) (zaf)) (zaa (zaA (zbs hr) (zab 3) (zaf)) (zaa (za7 (zag)) (zag))))) (zag)) (zan.cons zan.nil)) (zgP) rfl) (zas (JS.mk (zbm (zgP)))) (zbk)))))) (zas (JS.mk (zbm (zgP))))))
end
theorem zoq{P:Program}{w:World}{K:Ac}{mg:Str->Option Value}{base:Heap}{f:Addr}{fd:FuncData}(b_len:mg "len"=none)(b_all:mg "all"=none)(b_any:mg "any"=none)(b_set:mg "set"=none)(b_enumerate:mg "enumerate"=none)(b_abs:mg "abs"=none)(b_range:mg "range"=none)(b_sorted:mg "sorted"=none)(b_min:mg "min"=none)(b_tuple:mg "tuple"=none)(b_list:mg "list"=none)(b_int:mg "int"=none)(b_isinstance:mg "isinstance"=none)(b_bool:mg "bool"=none)(L_is_frame:Laid K mg "is_frame" (top 1) ["floor","seed"])(L_is_framed:Laid K mg "is_framed" (top 2) ["bed"])(L_q_law_start:Laid K mg "_law_start" (top 4) ["_law_script"])(L_q_law_next:Laid K mg "_law_next" (top 5) ["_law_state","_law_many"])(L_q_law_names:Laid K mg "_law_names" (top 6) ["_law_state","_law_many"])(L_q_law_framed:Laid K mg "_law_framed" (top 7) ["_law_state","_law_most","_law_kinds_most"])(L_q_law_look:Laid K mg "_law_look" (top 8) ["_law_bed"])(L_q_law_with:Laid K mg "_law_with" (top 9) ["_law_things","_law_at","_law_thing"])(L_q_law_house_otherwise:Laid K mg "_law_house_otherwise" (top 10) ["_law_state","_law_house"])(L_q_law_otherwise:Laid K mg "_law_otherwise" (top 11) ["_law_state","_law_bed"])(F:Fun K "law" "law" (top 12) f fd):FnOk P w K mg base CX0 4 f fd ["_law_script"] (spM K 1 zlk):=by
 have h_is_frame:=zgD (P:=P) (w:=w) (base:=base) L_is_frame  b_len b_all;have h_is_framed:=zfG (P:=P) (w:=w) (base:=base) L_is_framed  b_all b_any b_set b_len  h_is_frame;have h_q_law_start:=zey (P:=P) (w:=w) (base:=base) L_q_law_start  b_enumerate b_abs;have h_q_law_next:=ze6 (P:=P) (w:=w) (base:=base) L_q_law_next;have h_q_law_names:=zez (P:=P) (w:=w) (base:=base) L_q_law_names  b_range b_sorted  h_q_law_next;have h_q_law_framed:=zdL (P:=P) (w:=w) (base:=base) L_q_law_framed  b_len b_min b_range b_tuple  h_q_law_next h_q_law_names;have h_q_law_look:=ze7 (P:=P) (w:=w) (base:=base) L_q_law_look  b_enumerate b_range;have h_q_law_with:=ze5 (P:=P) (w:=w) (base:=base) L_q_law_with;have h_q_law_house_otherwise:=zcj (P:=P) (w:=w) (base:=base) L_q_law_house_otherwise  b_len b_tuple  h_q_law_next h_q_law_with;have h_q_law_otherwise:=zda (P:=P) (w:=w) (base:=base) L_q_law_otherwise  b_len b_range b_list b_sorted b_tuple b_min  h_q_law_next h_q_law_house_otherwise h_q_law_with;exact zoh F b_range b_int b_isinstance b_bool h_q_law_start h_q_law_next h_q_law_framed h_q_law_otherwise h_is_framed h_q_law_look
theorem all_mk{l:DX}{w:World}{K:Ac}{h:Heap}{mg:Str->Option Value}{fa:Addr}(X:K.In h)(G:h.Ns mainGlobals mg)(hfa:mg "law"=some (.ref fa)){f0 f1 f2 f3 f4 f5 f6 f7 f8 f9 f10:Addr}
   (a0:FdIn K "is_frame" (top 1) f0)
   (a1:FdIn K "is_framed" (top 2) f1)
   (a2:FdIn K "_law_start" (top 4) f2)
   (a3:FdIn K "_law_next" (top 5) f3)
   (a4:FdIn K "_law_names" (top 6) f4)
   (a5:FdIn K "_law_framed" (top 7) f5)
   (a6:FdIn K "_law_look" (top 8) f6)
   (a7:FdIn K "_law_with" (top 9) f7)
   (a8:FdIn K "_law_house_otherwise" (top 10) f8)
   (a9:FdIn K "_law_otherwise" (top 11) f9)
   (a10:FdIn K "law" (top 12) f10)
   (z0:A1 K mainGlobals "len"=some none)
   (z1:A1 K mainGlobals "all"=some none)
   (z2:A1 K mainGlobals "any"=some none)
   (z3:A1 K mainGlobals "set"=some none)
   (z4:A1 K mainGlobals "enumerate"=some none)
   (z5:A1 K mainGlobals "abs"=some none)
   (z6:A1 K mainGlobals "range"=some none)
   (z7:A1 K mainGlobals "sorted"=some none)
   (z8:A1 K mainGlobals "min"=some none)
   (z9:A1 K mainGlobals "tuple"=some none)
   (z10:A1 K mainGlobals "list"=some none)
   (z11:A1 K mainGlobals "int"=some none)
   (z12:A1 K mainGlobals "isinstance"=some none)
   (z13:A1 K mainGlobals "bool"=some none) :
   ∃ fd:FuncData,(∀ (s:Shared) (v:Value),BindsTo s fd ⟨[v],[]⟩ [("_law_script",v)])/\∀ base:Heap,K.In base->base.Ns mainGlobals mg->FnOk l.prog w K mg base CX0 4 fa fd ["_law_script"] (spM K 1 zlk):=by
 obtain⟨⟨oc,od,kV,dc,pm,an,cd,ct,sl,l,c⟩,n,k⟩:=a10;have e:=hfa.symm.trans (FV X G n);cases e;exact⟨_,fun s v=>.of_eq rfl,fun base _ _=>zoq (AK X G z0) (AK X G z1) (AK X G z2) (AK X G z3) (AK X G z4) (AK X G z5) (AK X G z6) (AK X G z7) (AK X G z8) (AK X G z9) (AK X G z10) (AK X G z11) (AK X G z12) (AK X G z13)
   (zcC (ps:=["floor","seed"]) a0 X G fun _ _ _ _ _ _=>len2 fun _ _=>rfl)
   (zcC (ps:=["bed"]) a1 X G fun _ _ _ _ _ _=>len1 fun _=>rfl)
   (zcC (ps:=["_law_script"]) a2 X G fun _ _ _ _ _ _=>len1 fun _=>rfl)
   (zcC (ps:=["_law_state","_law_many"]) a3 X G fun _ _ _ _ _ _=>len2 fun _ _=>rfl)
   (zcC (ps:=["_law_state","_law_many"]) a4 X G fun _ _ _ _ _ _=>len2 fun _ _=>rfl)
   (zcC (ps:=["_law_state","_law_most","_law_kinds_most"]) a5 X G fun _ _ _ _ _ _=>len3 fun _ _ _=>rfl)
   (zcC (ps:=["_law_bed"]) a6 X G fun _ _ _ _ _ _=>len1 fun _=>rfl)
   (zcC (ps:=["_law_things","_law_at","_law_thing"]) a7 X G fun _ _ _ _ _ _=>len3 fun _ _ _=>rfl)
   (zcC (ps:=["_law_state","_law_house"]) a8 X G fun _ _ _ _ _ _=>len2 fun _ _=>rfl)
   (zcC (ps:=["_law_state","_law_bed"]) a9 X G fun _ _ _ _ _ _=>len2 fun _ _=>rfl)
   (zkZ (st:=top 12) l c k)⟩
end L2.MP.stickytiles_k64_what_is_framed
namespace L2.MP.stickytiles_k64_what_is_framed
open PySem L2.MP L2.MP.Hb
noncomputable abbrev zav:Str:=Hn.zav
theorem zcu:∀ k:Nat,k < 26->zav.cps[k]?=some (97+k):=Hn.zcu
theorem run_map(k:Nat):run 0 k=(Ar k).map fun (i:Nat)=>D.int (i:Int):=by
 unfold run;apply C8;intro i _;rw[Int.zero_add]
theorem zgN{m:ME}{ml mh:MO}{ρ:Rho}{st:Sto}:mSlC m ml mh ρ st=(m ρ st).bind fun p=>(ml ρ p.2).bind fun q=>(mh ρ q.2).bind fun r=>slC p.1 q.1 r.1 r.2:=rfl
theorem zjy{z:Str}{lo hi:Option Int}{st:Sto}(h:z.cps.toList.length<=1000):slC (.str z) lo hi st=some (.str (Txt.slice z lo hi),st):=by
 have:fits z.length=true:=zax (by rw[len_list];omega);unfold slC slB slA slD slS;simp only[this,if_true,zcT,zb0]
theorem zf0{z:Str}{lo hi:Option Int}{c:Nat}(h:c∈(Txt.slice z lo hi).cps.toList):c∈z.cps.toList:=by
 unfold Txt.slice at h
 split at h
 . exact h
 . have h':c∈(Builtin.Str.strSliceIndices lo hi 1 z.length).filterMap (z.cps[·]?):=by simpa using h
   obtain⟨i,_,e⟩:=List.mem_filterMap.mp h';rw[<-AD] at e;exact AY e
theorem zf1{z:Str}{lo hi:Option Int}:(Txt.slice z lo hi).cps.toList.length<=z.cps.toList.length:=by
 have:=Txt.slice_le z lo hi;rw[len_list,len_list] at this;exact this
def Pln(z:Str):Prop:=∀ c∈z.cps.toList,c < 128
theorem Pln.ok{z:Str}(h:Pln z):BK z=true:=by
 unfold BK;rw[<-Array.all_toList,AX];intro c hc;have:=h c hc;simp;omega
theorem Pln.app{a b:Str}(h:Pln a)(h':Pln b):Pln (a++b):=fun c hc=>by
 rw[app_list] at hc
 rcases List.mem_append.mp hc with hc | hc
 . exact h c hc
 . exact h' c hc
structure NamesOk(ss:List Str)(m:Nat):Prop where
 len:ss.length=m
 nd:ss.Nodup
 ne:∀ z∈ss,z≠""
 pl:∀ z∈ss,Pln z
theorem zlD{n q:Nat}{st:Sto}{v:Option D}(h:PotB n q st)(j:Nat)(hj:j<=1000):∃ (cs:List Nat) (st':Sto),mCI ⟨run 0 j,[]⟩ (gNm 0) zb1 zaT (run 0 j) [v,some (.str zav),some (.ref n)] st=some (cs.map sgD,st')/\cs.length=j/\(∀ c∈cs,c < 128)/\PotB n q st'/\FrB n q st st':=by
 have key:=znb (W:=⟨run 0 j,[]⟩) (g:=gNm 0) (c:=zb1) (m:=zaT) (ds:=run 0 j) (acc:=[]) (st:=st) (ρ:=[v,some (.str zav),some (.ref n)])
   (Inv:=fun k a ρ s=>(∃ x,ρ=[x,some (.str zav),some (.ref n)])/\(∃ cs:List Nat,a=cs.map sgD/\cs.length=k/\∀ c∈cs,c < 128)/\PotB n q s/\FrB n q st s)
   ⟨⟨v,rfl⟩,⟨[],rfl,rfl,by simp⟩,h,FrB.refl _ _ _⟩ (fun _ _ _ _ _ _=>rfl) (fun k d a ρ s hd hI=>by
     obtain⟨⟨x,rfl⟩,⟨cs,rfl,hl,hc⟩,hp,hf⟩:=hI;obtain⟨r,s1,e1,r0,r1,p1,f1⟩:=zaF (many:=26) hp (by decide) (by decide);have hk:r.toNat < 26:=by omega
     have ex:ixA (.str zav) (.int r) s1=some (sgD (97+r.toNat),s1):=zgG (by decide) r0 (zcu _ hk);refine⟨[some d,some (.str zav),some (.ref n)],s,true,s,by simp,rfl,.inl ⟨rfl,sgD (97+r.toNat),s1,?_,⟨_,rfl⟩,⟨cs++[97+r.toNat],by simp,by simp[hl],fun c hm=>?_⟩,p1,hf.trans f1⟩⟩
     . unfold zaT;simp[e1,ex]
     . rcases List.mem_append.mp hm with hm | hm
       . exact hc c hm
       . rw[List.mem_singleton.mp hm];omega)
 obtain⟨xs,ρ',s',ec,_,⟨cs,hx,hl,hc⟩,hp,hf⟩:=key;rw[C3] at hx;subst hx;exact⟨cs,s',ec,by rw[hl,zcS],hc,hp,hf⟩
theorem ziX{x r1:Int}{c:Nat}{st:Sto}{y:D}(ix1:∀ s:Sto,ixA (.str zav) (.int r1) s=some (sgD c,s))(em:mulA (sgD c) (.int (x+1)) st=some (y,st)):zaO [some (.int x),some (.str zav),some (.int r1)] st=some (y,st):=by
 unfold zaO;simp[ix1,em]
theorem zlB{z:Str}(h:z.cps.toList≠[]):z≠"":=fun e=>h (by rw[e];rfl)
theorem zcA{α β:Type}{f:α->β}{l:List α}(h:∀ a∈l,∀ b∈l,f a=f b->a=b)(nd:l.Nodup):(l.map f).Nodup:=by
 induction l with
 | nil=>exact Ej
 | cons a l ih =>
   have nd:=List.nodup_cons.mp nd;rw[Au,DY];refine⟨fun hm=>?_,ih (fun x hx y hy=>h x (Af _ hx) y (Af _ hy)) nd.2⟩;obtain⟨b,hb,e⟩:=List.mem_map.mp hm;rw[h b (Af _ hb) a Ag e] at hb;exact nd.1 hb
theorem ziY{m:Nat}{r1:Int}{st:Sto}(hm:m<=8)(r10:0<=r1)(r11:r1 < 26):∃ ts:List Str,NamesOk ts m/\mCI ⟨run 0 m,[]⟩ (gNm 0) zb1 zaO (run 0 m) [none,some (.str zav),some (.int r1)] st=some (ts.map D.str,st):=by
 have ix1:∀ s:Sto,ixA (.str zav) (.int r1) s=some (sgD (97+r1.toNat),s):=fun s=>zgG (by decide) r10 (zcu _ (by omega));have hc:97+r1.toNat < 128:=by omega
 generalize 97+r1.toNat=c at ix1 hc;have hrep:∀ i:Nat,(repS ⟨#[c]⟩ ((i:Int)+1)).cps.toList=Bl (i+1) c:=fun i=>by
   rw[zg9 (by omega)];have:((i:Int)+1).toNat=i+1:=by omega
   rw[this]
 refine⟨(Ar m).map fun (i:Nat)=>repS ⟨#[c]⟩ ((i:Int)+1),⟨by simp,?_,?_,?_⟩,?_⟩
 . refine zcA (fun a _ b _ e=>?_) BI;have e:=congrArg (fun z:Str=>z.cps.toList.length) e;simp only[hrep,Bw] at e;omega
 . intro z hz;obtain⟨i,_,rfl⟩:=List.mem_map.mp hz;exact zlB (by rw[hrep];simp)
 . intro z hz;obtain⟨i,_,rfl⟩:=List.mem_map.mp hz;intro d hd;rw[hrep] at hd;rw[List.eq_of_mem_replicate hd];exact hc
 have:∀ W:Wk,walked W st=true->mCI W (gNm 0) zb1 zaO (run 0 m) [none,some (.str zav),some (.int r1)] st=some (((Ar m).map fun (i:Nat)=>repS ⟨#[c]⟩ ((i:Int)+1)).map D.str,st):=by
   intro W hW;rw[run_map,A0];refine zhZ (R:=fun ρ=>∃ x,ρ=[x,some (.str zav),some (.int r1)]) ⟨none,rfl⟩ hW fun i hi ρ hρ=>?_;obtain⟨x,rfl⟩:=hρ;have hi:=List.mem_range.mp hi;have em:=zea (c:=c) (n:=(i:Int)+1) (st:=st) (by omega) (by omega);exact⟨[some (.int (i:Int)),some (.str zav),some (.int r1)],by simp,rfl,ziX ix1 em,⟨_,rfl⟩⟩
 exact this _ rfl
noncomputable def lt3(r1 w:Int)(i:Nat):Nat:=97+((r1+w*(i:Int)) % 26).toNat
theorem zmD{r1 w:Int}(hw:w=1\/w=3\/w=5\/w=7\/w=9\/w=11){i j:Nat}(hi:i < 8)(hj:j < 8)(e:lt3 r1 w i=lt3 r1 w j):i=j:=by
 unfold lt3 at e
 rcases hw with rfl | rfl | rfl | rfl | rfl | rfl <;> omega
theorem ziV{z u1 u2:Str}{r7 r1 w x y:Int}{c:Nat}{st:Sto}(c1:slC (.str z) none (some r7) st=some (.str u1,st))(c2:slC (.str z) (some r7) none st=some (.str u2,st))(em:mulA (.int w) (.int x) st=some (.int y,st))(ed:modD (.int (r1+y)) (.int 26) st=some (.int ((r1+y) % 26),st))(ek:ixA (.str zav) (.int ((r1+y) % 26)) st=some (sgD c,st))
   (ea:addE (.str u1) (sgD c) st=some (.str (u1++⟨#[c]⟩),st)) (eb:addD (.str (u1++⟨#[c]⟩)) (.str u2) st=some (.str ((u1++⟨#[c]⟩)++u2),st)) :
   zaN [some (.int x),some (.str z),some (.int r7),some (.str zav),some (.int r1),some (.int w)] st=some (.str ((u1++⟨#[c]⟩)++u2),st):=by
 unfold zaN;simp[zgN,c1,c2,em,ed,ek,ea,eb]
theorem ziW{m:Nat}{r1 r7 w:Int}{z:Str}{st:Sto}(hm:m<=8)(hzl:z.cps.toList.length<=7)(hz:Pln z)(hw:w=1\/w=3\/w=5\/w=7\/w=9\/w=11):∃ ts:List Str,NamesOk ts m/\mCI ⟨run 0 m,[]⟩ (gNm 0) zb1 zaN (run 0 m) [none,some (.str z),some (.int r7),some (.str zav),some (.int r1),some (.int w)] st=some (ts.map D.str,st):=by
 have c1:=zjy (z:=z) (lo:=none) (hi:=some r7) (st:=st) (by omega);have c2:=zjy (z:=z) (lo:=some r7) (hi:=none) (st:=st) (by omega);have l1:=zf1 (z:=z) (lo:=none) (hi:=some r7);have l2:=zf1 (z:=z) (lo:=some r7) (hi:=none);have h1:Pln (Txt.slice z none (some r7)):=fun c hc=>hz c (zf0 hc);have h2:Pln (Txt.slice z (some r7) none):=fun c hc=>hz c (zf0 hc);generalize Txt.slice z none (some r7)=u1 at c1 l1 h1;generalize Txt.slice z (some r7) none=u2 at c2 l2 h2;have hlt:∀ i:Nat,lt3 r1 w i < 128/\ixA (.str zav) (.int ((r1+w*(i:Int)) % 26)) st=some (sgD (lt3 r1 w i),st):=fun i=>by
   have h1:=BN (r1+w*(i:Int)) (show (0:Int) < 26 by decide);have h2:=B5 (r1+w*(i:Int)) (show (26:Int)≠0 by decide);unfold lt3;generalize (r1+w*(i:Int)) % 26=x at h1 h2;exact⟨by omega,zgG (by decide) h2 (zcu _ (by omega))⟩
 have hl:∀ i:Nat,(((u1++⟨#[lt3 r1 w i]⟩:Str)++u2).cps.toList)=u1.cps.toList++[lt3 r1 w i]++u2.cps.toList:=fun i=>by
   rw[app_list,app_list]
 refine⟨(Ar m).map fun (i:Nat)=>(u1++⟨#[lt3 r1 w i]⟩)++u2,⟨by simp,?_,?_,?_⟩,?_⟩
 . refine zcA (fun a ha b hb e=>?_) BI;have e:=congrArg (fun z:Str=>z.cps.toList) e;simp only[hl,Ap,List.append_cancel_left_eq,Cn,C3,List.cons.injEq,and_true] at e;exact zmD hw (by have:=List.mem_range.mp ha;omega) (by have:=List.mem_range.mp hb;omega) e
 . intro x hx;obtain⟨i,_,rfl⟩:=List.mem_map.mp hx;exact zlB (by rw[hl];simp)
 . intro x hx;obtain⟨i,_,rfl⟩:=List.mem_map.mp hx;refine (h1.app ?_).app h2;intro c hc;have:c=lt3 r1 w i:=by simpa using hc
   rw[this];exact (hlt i).1
 have:∀ W:Wk,walked W st=true->mCI W (gNm 0) zb1 zaN (run 0 m) [none,some (.str z),some (.int r7),some (.str zav),some (.int r1),some (.int w)] st=some (((Ar m).map fun (i:Nat)=>(u1++⟨#[lt3 r1 w i]⟩)++u2).map D.str,st):=by
   intro W hW;rw[run_map,A0];refine zhZ (R:=fun ρ=>∃ x,ρ=[x,some (.str z),some (.int r7),some (.str zav),some (.int r1),some (.int w)]) ⟨none,rfl⟩ hW fun i hi ρ hρ=>?_;obtain⟨x,rfl⟩:=hρ;have hi:=List.mem_range.mp hi;have em:mulA (.int w) (.int (i:Int)) st=some (.int (w*(i:Int)),st):=mul_int (by omega);have ed:modD (.int (r1+w*(i:Int))) (.int 26) st=some (.int ((r1+w*(i:Int)) % 26),st):=by simp[modD,intD]
   obtain⟨_,ek⟩:=hlt i;have one:(⟨#[lt3 r1 w i]⟩:Str).length=1:=rfl;have l3:(u1++⟨#[lt3 r1 w i]⟩:Str).length=u1.length+1:=by rw[len_list,app_list,AF,len_list];rfl
   rw[<-len_list] at l1 l2;have hzl':z.length<=7:=hzl;have ea:addE (.str u1) (sgD (lt3 r1 w i)) st=some (.str (u1++⟨#[lt3 r1 w i]⟩),st):=by
     have:addD (.str u1) (sgD (lt3 r1 w i)) st=some (.str (u1++⟨#[lt3 r1 w i]⟩),st):=add_str (by omega);unfold addE orG;rw[this,zb0]
   have eb:addD (.str (u1++⟨#[lt3 r1 w i]⟩)) (.str u2) st=some (.str ((u1++⟨#[lt3 r1 w i]⟩)++u2),st):=add_str (by omega);exact⟨[some (.int (i:Int)),some (.str z),some (.int r7),some (.str zav),some (.int r1),some (.int w)],by simp,rfl,ziV c1 c2 em ed ek ea eb,⟨_,rfl⟩⟩
 exact this _ rfl
theorem zkA{n q:Nat}{st:Sto}{m:Nat}{M:Int}(hM:M=(m:Int))(h:PotB n q st)(h1:m<=8):∃ (ss:List Str) (l:Nat) (st':Sto),zbV [.ref n,.int M] st=some (.ref l,st')/\st'[l]?=some (.lst (ss.map D.str))/\NamesOk ss m/\l≠n/\l≠q/\PotB n q st'/\FrB n q st st':=by
 obtain⟨r1,s1,e1,r10,r11,p1,f1⟩:=zaF (many:=26) h (by decide) (by decide);have p2:=p1.gr (Gr.app s1 [.lst [.int 1,.int 3,.int 5,.int 7,.int 9,.int 11]]);have f2:=FrB.app n q s1 [.lst [.int 1,.int 3,.int 5,.int 7,.int 9,.int 11]];have a2:=zaS s1 (.lst [.int 1,.int 3,.int 5,.int 7,.int 9,.int 11]);obtain⟨hn2,hq2⟩:=p1.ne;generalize hs2:s1++[O.lst [.int 1,.int 3,.int 5,.int 7,.int 9,.int 11]]=s2 at p2 f2 a2;obtain⟨r3,s3,e3,r30,r31,p3,f3⟩:=zaF (many:=6) p2 (by decide) (by decide);have a3:=(f3.old _ (getElem?_lt a2) (AV hn2) (AV hq2)).trans a2;obtain⟨w,hw,hwm⟩:∃ w:Int,[D.int 1,.int 3,.int 5,.int 7,.int 9,.int 11][r3.toNat]?=some (.int w)/\(w=1\/w=3\/w=5\/w=7\/w=9\/w=11):=by
   have:r3=0\/r3=1\/r3=2\/r3=3\/r3=4\/r3=5:=by omega
   rcases this with rfl | rfl | rfl | rfl | rfl | rfl <;> exact⟨_,rfl,by simp⟩
 have i3:ixA (.ref s1.length) (.int r3) s3=some (.int w,s3):=zcw a3 r30 hw;obtain⟨r4,s4,e4,r40,r41,p4,f4⟩:=zaF (many:=8) p3 (by decide) (by decide);obtain⟨cs,s5,e5,hcs,hcc,p5,f5⟩:=zlD (v:=none) p4 r4.toNat (by omega);have p6:=p5.gr (Gr.app s5 [.lst (cs.map sgD)]);have f6:=FrB.app n q s5 [.lst (cs.map sgD)];obtain⟨z,ez,hz⟩:=Hn.joined (zaS s5 (.lst (cs.map sgD))) (by omega);have hzl:z.cps.toList.length<=7:=by rw[hz];omega
 have hzp:Pln z:=by unfold Pln;rw[hz];exact hcc
 generalize hs6:s5++[O.lst (cs.map sgD)]=s6 at p6 f6 ez;have ez:zkT (.str "") [.ref s5.length] s6=some (.str z,s6):=ez;obtain⟨r7,s7,e7,r70,r71,p7,f7⟩:=zaF (many:=r4+1) p6 (by omega) (by omega);have f17:FrB n q st s7:=((f1.trans f2).trans (f3.trans f4)).trans ((f5.trans f6).trans f7);obtain⟨r8,s8,e8,r80,r81,p8,f8⟩:=zaF (many:=4) p7 (by decide) (by decide);have sm4:small r4=true:=zeo r40 (by omega);have fc:fits (cs.map sgD).length=true:=zax (by rw[Ad];omega);have g1:mAsg (mTup (zae (zap zac (zae (mVar 0) (zae (mCon (.int 26)) (mNil)))) (zae (mBin ixA (mLst (zae (mCon (.int 1)) (zae (mCon (.int 3)) (zae (mCon (.int 5)) (zae (mCon (.int 7)) (zae (mCon (.int 9)) (zae (mCon (.int 11)) (mNil)))))))) (zap zac (zae (mVar 0) (zae (mCon (.int 6)) (mNil))))) (mNil)))) (gTp 2 (gC (gNm 3) (gC (gNm 4) (gN0))))
     [some (.ref n),some (.int M),some (.str zav),none,none,none,none,none] st=some (.nx [some (.ref n),some (.int M),some (.str zav),some (.int r1),some (.int w),none,none,none],s3):=by
   simp[e1,hs2,e3,i3]
 have g3:mAsg (zm8 (mCon (.str "")) (zae (zbT (mR1 (mVar 5)) 1 [2,0] (gNm 0) (zb1) (zaT)) (mNil))) (gNm 6) [some (.ref n),some (.int M),some (.str zav),some (.int r1),some (.int w),some (.int r4),none,none] s4
    =some (.nx [some (.ref n),some (.int M),some (.str zav),some (.int r1),some (.int w),some (.int r4),some (.str z),none],s6):=by
   have ecm:zbT (mR1 (mVar 5)) 1 [2,0] (gNm 0) (zb1) (zaT) [some (.ref n),some (.int M),some (.str zav),some (.int r1),some (.int w),some (.int r4),none,none] s4=some (.ref s5.length,s6):=by
     rw[zaG,zdE];simp only[zbP,Ab,List.getElem?_cons_zero,DV,sm4,if_true];rw[show rho0 [some (.ref n),some (.int M),some (.str zav),some (.int r1),some (.int w),some (.int r4),none,none] 1 [2,0]=[none,some (.str zav),some (.ref n)] from rfl,e5];simp only[Ab,fc,if_true,hs6]
   simp[za6,ecm,ez]
 have pre:∀ {R:Option (Fl×Sto)},mSeq (mIf (zmB (mTst (mBin ltD (mVar 1) (mCon (.int 9)))) (mTst (mBin eqD (zap zac (zae (mVar 0) (zae (mCon (.int 4)) (mNil)))) (mCon (.int 0))))) (mRet (zap zcs (zae (zbT (mR1 (mVar 1)) 1 [2,3] (gNm 0) (zb1) (zaO)) (mNil)))) (zcp)) (mRet (zap zcs (zae (zbT (mR1 (mVar 1)) 1 [6,7,2,3,4] (gNm 0) (zb1) (zaN)) (mNil))))
     [some (.ref n),some (.int M),some (.str zav),some (.int r1),some (.int w),some (.int r4),some (.str z),some (.int r7)] s7=R->zcz (rho 8 [.ref n,.int M]) st=R:=fun hR=>by
   unfold zcz;refine zak (ρ1:=[some (.ref n),some (.int M),some (.str zav),none,none,none,none,none]) (s1:=st) (by simp) ?_;refine zak g1 ?_;refine zak (ρ1:=[some (.ref n),some (.int M),some (.str zav),some (.int r1),some (.int w),some (.int r4),none,none]) (s1:=s4) (by simp[e4]) ?_;refine zak g3 ?_;exact zak (ρ1:=[some (.ref n),some (.int M),some (.str zav),some (.int r1),some (.int w),some (.int r4),some (.str z),some (.int r7)]) (s1:=s7) (by simp[e7]) hR
 have lt9:M < 9:=by omega
 have fin:∀ (ts:List Str),NamesOk ts m->∃ (ss:List Str) (l:Nat) (st':Sto),zcs [.ref s8.length] (s8++[.lst (ts.map D.str)])=some (.ref l,st')/\st'[l]?=some (.lst (ss.map D.str))/\NamesOk ss m/\l≠n/\l≠q/\PotB n q st'/\FrB n q st st':=fun ts ht=>by
   have p9:=p8.gr (Gr.app s8 [.lst (ts.map D.str)]);have es:=Hn.zem (zaS s8 (.lst (ts.map D.str))) (by have:=ht.len;omega);have f9:=FrB.app n q s8 [.lst (ts.map D.str)];generalize s8++[O.lst (ts.map D.str)]=s9 at p9 es f9;have pm:(zdh ts).Perm ts:=Cr _ _;have es':zcs [.ref s8.length] s9=some (.ref s9.length,s9++[.lst ((zdh ts).map D.str)]):=by
     unfold zcs orN;rw[es,zb0]
   exact⟨zdh ts,s9.length,s9++[.lst ((zdh ts).map D.str)],es',zaS _ _,⟨by rw[<-ht.len];exact pm.length_eq,(EL pm).mpr ht.nd,fun z hz=>ht.ne z (pm.mem_iff.mp hz),fun z hz=>ht.pl z (pm.mem_iff.mp hz)⟩,AV p9.ne.1,AV p9.ne.2,p9.gr (Gr.app _ _),((f17.trans f8).trans f9).trans (FrB.app _ _ _ _)⟩
 by_cases hr:r8=0
 . subst hr;obtain⟨ts,ht,ec⟩:=ziY (st:=s8) h1 r10 r11;obtain⟨ss,l,st',f1',f2',f3',f4',f5',f6',f7'⟩:=fin ts ht;have fl:fits (ts.map D.str).length=true:=zax (by rw[Ad,ht.len];omega);generalize ts.map D.str=A at ec f1' fl;refine⟨ss,l,st',zcX (pre (zco ?_)),f2',f3',f4',f5',f6',f7'⟩;have ecm:zbT (mR1 (mVar 1)) 1 [2,3] (gNm 0) (zb1) (zaO) [some (.ref n),some (.int M),some (.str zav),some (.int r1),some (.int w),some (.int r4),some (.str z),some (.int r7)] s8=some (.ref s8.length,s8++[.lst A]):=by
     rw[zaG,Hd.zdv (k:=m) (s1:=s8) hM (by simp) (by omega)];simp only[Ab];rw[show rho0 [some (.ref n),some (.int M),some (.str zav),some (.int r1),some (.int w),some (.int r4),some (.str z),some (.int r7)] 1 [2,3]=[none,some (.str zav),some (.int r1)] from rfl,ec];simp only[Ab,fl,if_true]
   simp[lt9,e8,eq_int,ecm,f1']
 . obtain⟨ts,ht,ec⟩:=ziW (r1:=r1) (r7:=r7) (st:=s8) h1 hzl hzp hwm;obtain⟨ss,l,st',f1',f2',f3',f4',f5',f6',f7'⟩:=fin ts ht;have fl:fits (ts.map D.str).length=true:=zax (by rw[Ad,ht.len];omega);generalize ts.map D.str=A at ec f1' fl;refine⟨ss,l,st',zcX (pre ?_),f2',f3',f4',f5',f6',f7'⟩;refine zak (ρ1:=[some (.ref n),some (.int M),some (.str zav),some (.int r1),some (.int w),some (.int r4),some (.str z),some (.int r7)]) (s1:=s8) (by simp[lt9,e8,eq_int,hr]) ?_;have ecm:zbT (mR1 (mVar 1)) 1 [6,7,2,3,4] (gNm 0) (zb1) (zaN) [some (.ref n),some (.int M),some (.str zav),some (.int r1),some (.int w),some (.int r4),some (.str z),some (.int r7)] s8=some (.ref s8.length,s8++[.lst A]):=by
     rw[zaG,Hd.zdv (k:=m) (s1:=s8) hM (by simp) (by omega)];simp only[Ab];rw[show rho0 [some (.ref n),some (.int M),some (.str zav),some (.int r1),some (.int w),some (.int r4),some (.str z),some (.int r7)] 1 [6,7,2,3,4]=[none,some (.str z),some (.int r7),some (.str zav),some (.int r1),some (.int w)] from rfl,ec];simp only[Ab,fl,if_true]
   simp[ecm,f1']
end L2.MP.stickytiles_k64_what_is_framed
namespace L2.MP.stickytiles_k64_what_is_framed
open PySem L2.MP L2.MP.Hb
open L2.MP.Ce (zjY zjX zcI zfd zeF zbS ifT ifF tstB notB orL orR andL andR zbO)
open L2.MP.Hn (zar)
structure Kd where
 f:Str
 n:Str
 e:Str
 s:Str
 w:Str
noncomputable def kD(k:Kd):D:=.tup [.str k.f,.str k.n,.str k.e,.str k.s,.str k.w]
noncomputable def Kd.sides(k:Kd):List Str:=[k.n,k.e,k.s,k.w]
structure Kd.Ok(k:Kd):Prop where
 n:Pln k.n
 e:Pln k.e
 s:Pln k.s
 w:Pln k.w
structure Bd where
 en:Int
 sk:List (Str×Int)
 ks:List Kd
 w:Int
 h:Int
 ts:List Tl
noncomputable def Bd.hd(b:Bd):D:=.tup [.int b.en,.tup (b.sk.map za1),.tup (b.ks.map kD)]
noncomputable def Bd.fl(b:Bd):D:=.tup [.int b.w,.int b.h]
noncomputable def Bd.d(b:Bd):D:=.tup [b.hd,b.fl,zar b.ts]
structure Bd.Ok(b:Bd)(m:Nat):Prop where
 sk1:1<=b.sk.length
 sk2:b.sk.length<=8
 skp:∀ p∈b.sk,Pln p.1
 kd1:1<=b.ks.length
 kd2:b.ks.length<=9+m
 kdp:∀ k∈b.ks,k.Ok
 w1:1<=b.w
 w2:b.w<=12
 h1:1<=b.h
 h2:b.h<=12
 tsn:PlNd b.ts
 tsp:∀ t∈b.ts,0<=t.1/\t.1 < b.w/\0<=t.2.1/\t.2.1 < b.h
 tsl:b.ts.length<=23+m
noncomputable def zcU(k:Kd):Bool:=decide (("":Str)∈k.sides)
noncomputable def pr(k:Kd):List Str:=[k.s,k.e]
noncomputable def frP(w:Int)(t:Tl):Bool:=t.2.1==0 || t.1==w - 1
noncomputable def Bd.fr(b:Bd):Bool:=(b.en==2&&b.sk.all fun p=>p.2==1)&&(!b.ks.any zcU&&(decide ((zd9 (b.ks.map pr)).length=b.ks.length)&&((b.ts.length:Int)==b.w+b.h - 1&&b.ts.all (frP b.w))))
theorem zhS(a b:Str):Ba (.str a) (.str b)=decide (a=b):=by rw[Ba];rfl
theorem zft{n:Nat}{st:Sto}{z:Str}(h:Pln z):toP (n+1) st (.str z)=some (.str z):=zju h.ok
theorem zhb:Pln "":=fun c hc=>by cases hc
theorem zjP{k:Kd}{st:Sto}(h:k.Ok):inA (.str "") (.tup [.str k.n,.str k.e,.str k.s,.str k.w]) st=some (.bl (zcU k),st) :=
 zfd (f:=D.str) (p:=FG) (as:=k.sides) zhS (zft zhb) fun a ha=>by
   unfold Kd.sides at ha;simp only[B3,CP,or_false] at ha
   rcases ha with rfl | rfl | rfl | rfl
   . exact zft h.n
   . exact zft h.e
   . exact zft h.s
   . exact zft h.w
theorem zfX:∀ ts:List (List Str),zeR (ts.map fun t=>D.tup (t.map D.str))=some ts
 | []=>rfl
 | t::ts=>by
   rw[Au,zeR,zfX ts];show (strsOf (t.map D.str)).bind _=_;rw[zds];rfl
theorem zce{me:ME}{ρ:Rho}{st:Sto}{ds:List D}(e:me ρ st=some (.tup ds,st)):mWA me ρ st=some (⟨ds,[]⟩,st):=by
 unfold mWA;simp[e,zij,zb0]
section
variable {b:Bd} {m:Nat} {st:Sto}
theorem zk0(hb:b.Ok m)(hm:m<=10):∃ st',zc2 [b.fl,zar b.ts] st=some (.bl ((b.ts.length:Int)==b.w+b.h - 1&&b.ts.all (frP b.w)),st')/\Gr st st':=by
 have i0:∀ s:Sto,ixA b.fl (.int 0) s=some (.int b.w,s):=fun s=>zbF (by decide) rfl;have i1:∀ s:Sto,ixA b.fl (.int 1) s=some (.int b.h,s):=fun s=>zbF (by decide) rfl;have hl:=hb.tsl;have el:lenD [zar b.ts] st=some (.int (b.ts.length:Int),st):=by unfold zar;rw[zec,Ad]
 have hρ:rho0 [some b.fl,some (zar b.ts),some (.int b.w)] 3 [2]=[none,none,none,some (.int b.w)]:=rfl;have ec:=zhZ (W:=⟨b.ts.map fun t=>tupD (rowT t),[]⟩) (g:=gTp 3 (gC (gNm 0) (gC (gNm 1) (gC (gNm 2) (gN0))))) (c:=zb1) (m:=zbj) (f:=fun t:Tl=>tupD (rowT t)) (h:=fun t:Tl=>D.bl (frP b.w t)) (R:=fun r=>∃ x y z,r=[x,y,z,some (.int b.w)]) (as:=b.ts) (ρ:=[none,none,none,some (.int b.w)]) (st:=st) ⟨_,_,_,rfl⟩ rfl (fun t ht r hr=>by
   obtain⟨x,y,z,rfl⟩:=hr;refine⟨[some (.int t.1),some (.int t.2.1),some (.int t.2.2),some (.int b.w)],rfl,rfl,?_,_,_,_,rfl⟩;unfold zbj frP;have q1:=eq_int t.2.1 0 st;have q2:=eq_int t.1 (b.w - 1) st
   cases h0:t.2.1==0 with
   | true=>rw[h0] at q1;simp[zbv,q1]
   | false=>rw[h0] at q1;simp[zbv,q1,q2])
 have fl:fits (b.ts.map fun t:Tl=>D.bl (frP b.w t)).length=true:=zax (by rw[Ad];omega);have ecm:zbT (mWA (mVar 1)) 3 [2] (gTp 3 (gC (gNm 0) (gC (gNm 1) (gC (gNm 2) (gN0))))) (zb1) (zbj) [some b.fl,some (zar b.ts),some (.int b.w)] st=some (.ref st.length,st++[.lst (b.ts.map fun t=>D.bl (frP b.w t))]):=by
   rw[zaG,zce (ds:=b.ts.map fun t=>tupD (rowT t)) rfl];simp only[Ab];rw[hρ,ec];simp only[Ab,fl,if_true]
 have ea:zap allC (zae (zbT (mWA (mVar 1)) 3 [2] (gTp 3 (gC (gNm 0) (gC (gNm 1) (gC (gNm 2) (gN0))))) (zb1) (zbj)) mNil) [some b.fl,some (zar b.ts),some (.int b.w)] st=some (.bl (b.ts.all (frP b.w)),st++[.lst (b.ts.map fun t=>D.bl (frP b.w t))]):=by
   simp only[zaR,zaJ,zbr,ecm,Ab];exact Ce.all_ev (zaS st _)
 have q:=eq_int (b.ts.length:Int) (b.w+b.h - 1) st;have es:mSeq (mAsg (mBin ixA (mVar 0) (mCon (.int 0))) (gNm 2)) (mRet (zkG (mBin eqD (zap lenD (zae (mVar 1) (mNil))) (mBin subD (mBin addD (mVar 2) (mBin ixA (mVar 0) (mCon (.int 1)))) (mCon (.int 1)))) (zap allC (zae (zbT (mWA (mVar 1)) 3 [2] (gTp 3 (gC (gNm 0) (gC (gNm 1) (gC (gNm 2) (gN0))))) (zb1) (zbj)) (mNil))))) [some b.fl,some (zar b.ts),none] st=mRet (zkG (mBin eqD (zap lenD (zae (mVar 1) (mNil))) (mBin subD (mBin addD (mVar 2) (mBin ixA (mVar 0) (mCon (.int 1)))) (mCon (.int 1)))) (zap allC (zae (zbT (mWA (mVar 1)) 3 [2] (gTp 3 (gC (gNm 0) (gC (gNm 1) (gC (gNm 2) (gN0))))) (zb1) (zbj)) (mNil)))) [some b.fl,some (zar b.ts),some (.int b.w)] st :=
   zak (ρ1:=[some b.fl,some (zar b.ts),some (.int b.w)]) (s1:=st) (by simp[i0]) rfl
 have eq1:mBin eqD (zap lenD (zae (mVar 1) (mNil))) (mBin subD (mBin addD (mVar 2) (mBin ixA (mVar 0) (mCon (.int 1)))) (mCon (.int 1))) [some b.fl,some (zar b.ts),some (.int b.w)] st=some (.bl ((b.ts.length:Int)==b.w+b.h - 1),st):=by
   generalize zar b.ts=S at *;generalize b.fl=F at *;simp[el,i1,q]
 cases hc:((b.ts.length:Int)==b.w+b.h - 1) with
 | false =>
   rw[hc] at eq1;refine⟨st,zcX ?_,Gr.refl st⟩;unfold zdH;exact es.trans (zbO (andL eq1))
 | true =>
   rw[hc] at eq1;refine⟨_,zcX ?_,Gr.app st [.lst (b.ts.map fun t=>D.bl (frP b.w t))]⟩;unfold zdH;rw[FY];exact es.trans (zbO (andR eq1 ea))
theorem zeG(hb:b.Ok m)(hm:m<=10):∃ st',zbu [b.d] st=some (.bl b.fr,st')/\Gr st st':=by
 have i0:∀ s:Sto,ixA b.d (.int 0) s=some (b.hd,s):=fun s=>zbF (by decide) rfl;have i1:∀ s:Sto,ixA b.d (.int 1) s=some (b.fl,s):=fun s=>zbF (by decide) rfl;have i2:∀ s:Sto,ixA b.d (.int 2) s=some (zar b.ts,s):=fun s=>zbF (by decide) rfl;have j0:∀ s:Sto,ixA b.hd (.int 0) s=some (.int b.en,s):=fun s=>zbF (by decide) rfl;have j1:∀ s:Sto,ixA b.hd (.int 1) s=some (.tup (b.sk.map za1),s):=fun s=>zbF (by decide) rfl;have j2:∀ s:Sto,ixA b.hd (.int 2) s=some (.tup (b.ks.map kD),s):=fun s=>zbF (by decide) rfl;have hk2:=hb.kd2;have hs2:=hb.sk2;have el:∀ s:Sto,lenD [.tup (b.ks.map kD)] s=some (.int (b.ks.length:Int),s):=fun s=>by rw[zec,Ad]
 have n2:=ne_int b.en 2 st;have v1:∀ s:Sto,mBin ixA (mVar 1) (mCon (.int 1)) [some b.d,some b.hd] s=some (.tup (b.sk.map za1),s):=fun s=>by
   have:=j1 s;generalize b.hd=Hh at *;simp[this]
 have v2:∀ s:Sto,mBin ixA (mVar 1) (mCon (.int 2)) [some b.d,some b.hd] s=some (.tup (b.ks.map kD),s):=fun s=>by
   have:=j2 s;generalize b.hd=Hh at *;simp[this]
 obtain⟨s1,e1,g1⟩:=zjY (mi:=mWA (mBin ixA (mVar 1) (mCon (.int 1)))) (f:=za1) (b:=fun p:Str×Int=>p.2==1) (as:=b.sk) (fr:=[]) (m:=zcy) (ρ0:=[]) (ρ:=[some b.d,some b.hd]) (st:=st) (gd:=[]) (zce (v1 st)) (fun _ _=>rfl) rfl (by omega) (fun p hp s g=>by
   refine⟨s,?_,Gr.refl s⟩;have x1:ixA (za1 p) (.int 1) s=some (.int p.2,s):=zbF (by decide) rfl;have q:=eq_int p.2 1 s;unfold zcy;simp[x1,q])
 obtain⟨s2,e2,g2⟩:=zjX (mi:=mWA (mBin ixA (mVar 1) (mCon (.int 2)))) (f:=kD) (b:=zcU) (as:=b.ks) (fr:=[]) (m:=zcx) (ρ0:=[]) (ρ:=[some b.d,some b.hd]) (st:=s1) (gd:=[]) (zce (v2 s1)) (fun _ _=>rfl) rfl (by omega) (fun k hk s g=>by
   refine⟨s,?_,Gr.refl s⟩;have x1:mSlC (mVar 0) (zcn (mCon (.int 1))) (zc5) [some (kD k)] s=some (.tup [.str k.n,.str k.e,.str k.s,.str k.w],s):=rfl;have q:=zjP (st:=s) (hb.kdp k hk);have c1:mCon (.str "") [some (kD k)] s=some (.str "",s):=rfl;unfold zcx;rw[zbl,c1,Ab,x1];exact q)
 obtain⟨s3,e3,g3⟩:=zcI (mi:=mWA (mBin ixA (mVar 1) (mCon (.int 2)))) (f:=kD) (h:=fun k:Kd=>D.tup ((pr k).map D.str)) (as:=b.ks) (fr:=[]) (m:=zbX) (ρ0:=[]) (ρ:=[some b.d,some b.hd]) (st:=s2) (gd:=[]) (zce (v2 s2)) (fun _ _=>rfl) rfl (by omega) (fun k hk s g=>by
   refine⟨s,?_,Gr.refl s⟩;have x3:ixA (kD k) (.int 3) s=some (.str k.s,s):=zbF (by decide) rfl;have x2:ixA (kD k) (.int 2) s=some (.str k.e,s):=zbF (by decide) rfl;unfold zbX;generalize kD k=KK at *;simp[x3,x2,pr])
 have b3:=zaS s3 (.lst (b.ks.map fun k:Kd=>D.tup ((pr k).map D.str)));have g4:=Gr.app s3 [.lst (b.ks.map fun k:Kd=>D.tup ((pr k).map D.str))];generalize hs4:s3++[O.lst (b.ks.map fun k:Kd=>D.tup ((pr k).map D.str))]=s4 at e3 b3 g4;have hlen:(b.ks.map pr).length < 63:=by rw[Ad];omega
 have e5:zln [.ref s3.length] s4=some (.ref s4.length,s4++[.sz (zd9 (b.ks.map pr)).length]):=by
   have:b.ks.map (fun k:Kd=>D.tup ((pr k).map D.str))=(b.ks.map pr).map fun t=>D.tup (t.map D.str):=by rw[A0];rfl
   unfold zln;simp only[za9,b3,Ab,this,zfX,decide_eq_true hlen,if_true]
 have b5:=zaS s4 (.sz (zd9 (b.ks.map pr)).length);have g5:=Gr.app s4 [.sz (zd9 (b.ks.map pr)).length];generalize hs5:s4++[O.sz (zd9 (b.ks.map pr)).length]=s5 at e5 b5 g5;have e6:lenE [.ref s4.length] s5=some (.int ((zd9 (b.ks.map pr)).length:Int),s5):=by
   have e0:lenD [.ref s4.length] s5=none:=by
     unfold lenD;simp[za9,b5]
   unfold lenE orN;rw[e0,zcT];unfold zm9;simp[b5]
 have hle:(zd9 (b.ks.map pr)).length<=b.ks.length:=by
   unfold zd9;have:=ze8 (fun i=>(b.ks.map pr).getD i []) (b.ks.map pr).length;rw[Ad] at this ⊢;exact this
 have elt:mTst (mBin ltD (zap lenE (zae (zap zln (zae (zbT (mWA (mBin ixA (mVar 1) (mCon (.int 2)))) 1 [] (gNm 0) (zb1) (zbX)) (mNil))) (mNil))) (zap lenD (zae (mBin ixA (mVar 1) (mCon (.int 2))) (mNil)))) [some b.d,some b.hd] s2=some (!decide ((zd9 (b.ks.map pr)).length=b.ks.length),s5):=by
   refine tstB ?_;have v5:=v2 s5;have l5:=el s5;rw[zbl];simp only[zaR,zaJ,zbr,e3,e5,e6,v5,l5,Ab];generalize (zd9 (b.ks.map pr)).length=a at *;generalize b.ks.length=c at *
   by_cases hac:a=c
   . subst hac;simp[ltD,cmpD]
   . have:(a:Int) < (c:Int):=by omega
     simp[ltD,cmpD,hac,this]
 obtain⟨s6,e7,g6⟩:=zk0 (st:=s5) hb hm;have t0:mTst (mBin neD (mBin ixA (mVar 1) (mCon (.int 0))) (mCon (.int 2))) [some b.d,some b.hd] st=some (!(b.en==2),st):=by
   refine tstB ?_;have:=j0 st;generalize b.hd=Hh at *;simp[this,n2]
 have es:∀ C,mSeq (mAsg (mBin ixA (mVar 0) (mCon (.int 0))) (gNm 1)) C [some b.d,none] st=C [some b.d,some b.hd] st:=fun C=>zak (ρ1:=[some b.d,some b.hd]) (s1:=st) (by
   have:=i0 st;generalize b.d=Dd at *;simp[this]) rfl
 unfold Bd.fr
 cases h1:b.en==2 with
 | false =>
   rw[h1] at t0;refine⟨st,zcX ?_,Gr.refl st⟩;unfold zbD;exact (es _).trans (zco (ifT (orL t0) rfl))
 | true =>
   rw[h1] at t0
   cases h2:b.sk.all fun p=>p.2==1 with
   | false =>
     rw[h2] at e1;refine⟨s1,zcX ?_,g1⟩;unfold zbD;exact (es _).trans (zco (ifT (orR t0 (notB e1)) rfl))
   | true =>
     rw[h2] at e1;have i1':=ifF (a:=mRet (mCon (.bl false))) (orR t0 (notB e1))
     cases h3:b.ks.any zcU with
     | true =>
       rw[h3] at e2;refine⟨s2,zcX ?_,g1.trans g2⟩;unfold zbD;exact (es _).trans (zak i1' (zco (ifT (tstB e2) rfl)))
     | false =>
       rw[h3] at e2;have i2':=ifF (a:=mRet (mCon (.bl false))) (tstB e2)
       cases h4:decide ((zd9 (b.ks.map pr)).length=b.ks.length) with
       | false =>
         rw[h4] at elt;refine⟨s5,zcX ?_,(g1.trans g2).trans (g3.trans (g4.trans g5))⟩;unfold zbD;exact (es _).trans (zak i1' (zak i2' (zco (ifT elt rfl))))
       | true =>
         rw[h4] at elt;refine⟨s6,zcX ?_,((g1.trans g2).trans (g3.trans (g4.trans g5))).trans g6⟩;unfold zbD;refine (es _).trans (zak i1' (zak i2' (zak (ifF elt) (zbO ?_))));have k1:=i1 s5;have k2:=i2 s5;generalize b.d=Dd at *;generalize zar b.ts=Ss at *;generalize b.fl=Ff at *;simp[k1,k2,e7]
end
end L2.MP.stickytiles_k64_what_is_framed
namespace L2.MP.stickytiles_k64_what_is_framed
open PySem L2.MP L2.MP.Hb
open L2.MP.Ce (zjY zjX zcI zfd zeF zbS ifT ifF ifB tstB notB orL orR andL andR zbO zb2 zcg zct slT zeW)
open L2.MP.Hn (zar)
noncomputable def pr2(k:Kd):Str×Str:=(k.e,k.s)
noncomputable def pD2(p:Str×Str):D:=.tup [.str p.1,.str p.2]
noncomputable def pP2(p:Str×Str):PyData:=.tuple [.str p.1,.str p.2]
theorem zoi(a b:Str×Str):Ba (pP2 a) (pP2 b)=decide (a=b):=by
 unfold pP2;rw[Ba,Cp,Cp,Cp,zhS,zhS,Bb];obtain⟨a1,a2⟩:=a;obtain⟨b1,b2⟩:=b;simp
theorem zlv{n:Nat}{st:Sto}{p:Str×Str}(h1:Pln p.1)(h2:Pln p.2):toP (n+2) st (pD2 p)=some (pP2 p):=by
 show toP (n+2) st (.tup [.str p.1,.str p.2])=_;rw[toP];simp only[toPs,zft h1,zft h2,Ab,Aq];rfl
noncomputable def kOk(ks:List Kd)(p:Kd×Nat):Bool:=!(zcU p.1 || decide (pr2 p.1∈(ks.take p.2).map pr2))
noncomputable abbrev Pl:=Int×Int
noncomputable def plD(p:Pl):D:=.tup [.int p.1,.int p.2]
noncomputable def plP(p:Pl):PyData:=.tuple [.int p.1,.int p.2]
theorem zmO(a b:Pl):Ba (plP a) (plP b)=decide (a=b):=by
 unfold plP;rw[Ba,Cp,Cp,Cp,Ba,Ba,Bb];obtain⟨a1,a2⟩:=a;obtain⟨b1,b2⟩:=b;simp
theorem zeO{n:Nat}{st:Sto}(p:Pl):toP (n+2) st (plD p)=some (plP p):=by
 show toP (n+2) st (.tup [.int p.1,.int p.2])=_;rw[toP];simp only[toPs,toP,Ab,Aq];rfl
noncomputable def plOf(t:Tl):Pl:=(t.1,t.2.1)
noncomputable def atP(ts:List Tl)(w:Int)(x y:Nat):Bool:=decide (((x:Int),(y:Int))∈ts.map plOf)==((y:Int)==0 || (x:Int)==w - 1)
noncomputable def Bd.lk(b:Bd):Bool:=(b.en==2&&b.sk.all fun p=>p.2==1)&&(b.ks.zipIdx.all (kOk b.ks)&&(Ar b.w.toNat).all fun x=>(Ar b.h.toNat).all (atP b.ts b.w x))
theorem zoz(a b:Bool)(st:Sto):neD (.bl a) (.bl b) st=some (.bl (!(a==b)),st):=by cases a <;> cases b <;> rfl
theorem zmQ{α:Type}(f:α->D)(as:List α)(i:Nat):slT (as.map f) none (some (i:Int))=(as.take i).map f:=by
 rw[zeW];unfold cutD;rw[show HT.sIx (as.map f).length (as.map f).length (some (i:Int))=min i (as.map f).length from HT.sIx_nat _ _ _,HT.sIx_none,Da,Nat.sub_zero,<-EC,Ad]
 rcases Nat.le_total i as.length with h | h
 . rw[FL h]
 . rw[Fu h,Ec h,CS]
noncomputable def r12(b:Bd)(x7 x8 x9 x10 x11:Option D):Rho:=[some b.d,some (.int b.en),some (.tup (b.sk.map za1)),some (.tup (b.ks.map kD)),some (.int b.w),some (.int b.h),some (zar b.ts),x7,x8,x9,x10,x11]
section
variable {b:Bd} {m:Nat} {st:Sto}
theorem zkK(hb:b.Ok m)(hm:m<=10){x9 x10 x11:Option D}{p:Kd×Nat}(hp:p∈b.ks.zipIdx):∃ s',Gr st s'/\zbp (r12 b (some (.int (p.2:Nat))) (some (kD p.1)) x9 x10 x11) st=if kOk b.ks p=true then some (.nx (r12 b (some (.int (p.2:Nat))) (some (kD p.1)) x9 x10 x11),s') else some (.rt (.bl false),s'):=by
 obtain⟨k,i⟩:=p;have hk:k∈b.ks:=List.fst_mem_of_mem_zipIdx hp;have hko:=hb.kdp k hk;have x1:mSlC (mVar 8) (zcn (mCon (.int 1))) (zc5) (r12 b (some (.int (i:Nat))) (some (kD k)) x9 x10 x11) st=some (.tup [.str k.n,.str k.e,.str k.s,.str k.w],st):=rfl;have q1:=zjP (st:=st) hko;have t1:mTst (mBin inA (mCon (.str "")) (mSlC (mVar 8) (zcn (mCon (.int 1))) (zc5))) (r12 b (some (.int (i:Nat))) (some (kD k)) x9 x10 x11) st=some (zcU k,st):=by
   refine tstB ?_;have c1:mCon (.str "") (r12 b (some (.int (i:Nat))) (some (kD k)) x9 x10 x11) st=some (.str "",st):=rfl;rw[zbl,c1,Ab,x1];exact q1
 unfold zbp kOk
 cases hn:zcU k with
 | true =>
   rw[hn] at t1;exact⟨st,Gr.refl st,ifT (orL t1) rfl⟩
 | false =>
   rw[hn] at t1;have hw:mWA (mSlC (mVar 3) (zc5) (zcn (mVar 7))) (r12 b (some (.int (i:Nat))) (some (kD k)) x9 x10 x11) st=some (⟨(b.ks.take i).map kD,[]⟩,st):=by
     refine zce ?_;have v3:mVar 3 (r12 b (some (.int (i:Nat))) (some (kD k)) x9 x10 x11) st=some (.tup (b.ks.map kD),st):=rfl;have o7:(zcn (mVar 7)) (r12 b (some (.int (i:Nat))) (some (kD k)) x9 x10 x11) st=some (some (i:Int),st):=rfl;have on:zc5 (r12 b (some (.int (i:Nat))) (some (kD k)) x9 x10 x11) st=some (none,st):=rfl;rw[zgN,v3,Ab,on,Ab,o7,Ab,zct,zmQ]
   have hk2:=hb.kd2;obtain⟨s1,e1,g1⟩:=zcI (mi:=mWA (mSlC (mVar 3) (zc5) (zcn (mVar 7)))) (f:=kD) (h:=fun k=>pD2 (pr2 k)) (as:=b.ks.take i) (fr:=[]) (m:=zcm) (ρ0:=[]) (ρ:=r12 b (some (.int (i:Nat))) (some (kD k)) x9 x10 x11) (st:=st) (gd:=[]) hw (fun _ _=>rfl) rfl (by rw[Bk];omega) (fun z hz s g=>⟨s,rfl,Gr.refl s⟩);have b1:=zaS s1 (.lst ((b.ks.take i).map fun k=>pD2 (pr2 k)));have g2:=Gr.app s1 [.lst ((b.ks.take i).map fun k=>pD2 (pr2 k))];generalize s1++[O.lst ((b.ks.take i).map fun k=>pD2 (pr2 k))]=s2 at e1 b1 g2;have b1':s2[s1.length]?=some (.lst (((b.ks.take i).map pr2).map pD2)):=by rw[A0];exact b1
   have q2:=zeF (f:=pD2) (p:=pP2) (x:=pr2 k) zoi b1' (zlv hko.e hko.s) (fun a ha=>by
     obtain⟨z,hz,rfl⟩:=List.mem_map.mp ha;have hzo:=hb.kdp z (Ey hz);exact zlv hzo.e hzo.s)
   have t2:mTst (mBin inA (mSlC (mVar 8) (zcn (mCon (.int 2))) (zcn (mCon (.int 4)))) (zbT (mWA (mSlC (mVar 3) (zc5) (zcn (mVar 7)))) 1 [] (gNm 0) (zb1) (zcm))) (r12 b (some (.int (i:Nat))) (some (kD k)) x9 x10 x11) st=some (decide (pr2 k∈(b.ks.take i).map pr2),s2):=by
     refine tstB ?_;have x2:mSlC (mVar 8) (zcn (mCon (.int 2))) (zcn (mCon (.int 4))) (r12 b (some (.int (i:Nat))) (some (kD k)) x9 x10 x11) st=some (pD2 (pr2 k),st):=rfl;rw[zbl,x2,Ab,e1,Ab];exact q2.trans (congrArg (fun c=>some (D.bl c,s2)) (decide_eq_decide.mpr Iff.rfl))
   refine⟨s2,g1.trans g2,?_⟩;rw[FR]
   cases hd:decide (pr2 k∈(b.ks.take i).map pr2) with
   | true=>rw[hd] at t2;exact ifT (orR t1 t2) rfl
   | false=>rw[hd] at t2;exact ifF (orR t1 t2)
theorem zkJ{l:Nat}{x7 x8:Option D}{x y:Nat}(hl:st[l]?=some (.lst ((b.ts.map plOf).map plD))):zbA (r12 b x7 x8 (some (.ref l)) (some (.int (x:Nat))) (some (.int (y:Nat)))) st=if atP b.ts b.w x y=true then some (.nx (r12 b x7 x8 (some (.ref l)) (some (.int (x:Nat))) (some (.int (y:Nat)))),st) else some (.rt (.bl false),st):=by
 have q:=zeF (f:=plD) (p:=plP) (x:=((x:Int),(y:Int))) zmO hl (zeO _) (fun a _=>zeO a);have q0:=eq_int (y:Int) 0 st;have q1:=eq_int (x:Int) (b.w - 1) st;have e1:mBin inA (mTup (zae (mVar 10) (zae (mVar 11) (mNil)))) (mVar 9) (r12 b x7 x8 (some (.ref l)) (some (.int (x:Nat))) (some (.int (y:Nat)))) st=some (.bl (decide (((x:Int),(y:Int))∈b.ts.map plOf)),st):=by
   have a1:mTup (zae (mVar 10) (zae (mVar 11) (mNil))) (r12 b x7 x8 (some (.ref l)) (some (.int (x:Nat))) (some (.int (y:Nat)))) st=some (plD ((x:Int),(y:Int)),st):=rfl;have a2:mVar 9 (r12 b x7 x8 (some (.ref l)) (some (.int (x:Nat))) (some (.int (y:Nat)))) st=some (.ref l,st):=rfl;rw[zbl,a1,Ab,a2,Ab];exact q.trans (congrArg (fun c=>some (D.bl c,st)) (decide_eq_decide.mpr Iff.rfl))
 have e2:mOrV (mBin eqD (mVar 11) (mCon (.int 0))) (mBin eqD (mVar 10) (mBin subD (mVar 4) (mCon (.int 1)))) (r12 b x7 x8 (some (.ref l)) (some (.int (x:Nat))) (some (.int (y:Nat)))) st=some (.bl ((y:Int)==0 || (x:Int)==b.w - 1),st):=by
   unfold r12;generalize b.d=Dd at *;generalize D.tup (b.ks.map kD)=Ks at *;generalize D.tup (b.sk.map za1)=Sk at *;generalize zar b.ts=Ss at *
   cases h0:(y:Int)==0 with
   | true=>rw[h0] at q0;simp[zbv,q0]
   | false=>rw[h0] at q0;simp[zbv,q0,q1]
 unfold zbA atP;have t:mTst (mBin neD (mBin inA (mTup (zae (mVar 10) (zae (mVar 11) (mNil)))) (mVar 9)) (mOrV (mBin eqD (mVar 11) (mCon (.int 0))) (mBin eqD (mVar 10) (mBin subD (mVar 4) (mCon (.int 1)))))) (r12 b x7 x8 (some (.ref l)) (some (.int (x:Nat))) (some (.int (y:Nat)))) st=some (!(decide (((x:Int),(y:Int))∈b.ts.map plOf)==((y:Int)==0 || (x:Int)==b.w - 1)),st):=by
   refine tstB ?_;rw[zbl,e1,Ab,e2,Ab];exact zoz _ _ _
 generalize (decide (((x:Int),(y:Int))∈b.ts.map plOf)==((y:Int)==0 || (x:Int)==b.w - 1))=c at *
 cases c with
 | true=>exact ifF t
 | false=>exact ifT t rfl
theorem zkI{l:Nat}{x7 x8:Option D}{x:Nat}{x11:Option D}(hb:b.Ok m)(hl:st[l]?=some (.lst ((b.ts.map plOf).map plD))):∃ y11 s',Gr st s'/\zbo (r12 b x7 x8 (some (.ref l)) (some (.int (x:Nat))) x11) st=if (Ar b.h.toNat).all (atP b.ts b.w x)=true then some (.nx (r12 b x7 x8 (some (.ref l)) (some (.int (x:Nat))) y11),s') else some (.rt (.bl false),s'):=by
 have hh1:=hb.h1;have hh2:=hb.h2;have er:mR1 (mVar 5) (r12 b x7 x8 (some (.ref l)) (some (.int (x:Nat))) x11) st=some (⟨run 0 b.h.toNat,[]⟩,st):=Hd.zdv (k:=b.h.toNat) (M:=b.h) (by omega) rfl (by omega);obtain⟨ρ',s',g,⟨y,rfl⟩,e⟩:=zb2 (W:=⟨run 0 b.h.toNat,[]⟩) (g:=gNm 11) (m:=zbA) (f:=fun i:Nat=>D.int (i:Int)) (b:=atP b.ts b.w x) (R:=fun ρ=>∃ y,ρ=r12 b x7 x8 (some (.ref l)) (some (.int (x:Nat))) y) (as:=Ar b.h.toNat) (ρ:=r12 b x7 x8 (some (.ref l)) (some (.int (x:Nat))) x11) (st:=st) ⟨_,rfl⟩ (fun _ _=>rfl) (fun i _ ρ s hr gs=>by
   obtain⟨y,rfl⟩:=hr;exact⟨r12 b x7 x8 (some (.ref l)) (some (.int (x:Nat))) (some (.int (i:Nat))),r12 b x7 x8 (some (.ref l)) (some (.int (x:Nat))) (some (.int (i:Nat))),s,rfl,Gr.refl s,zkJ ((gs.old _ (getElem?_lt hl)).trans hl),_,rfl⟩)
 refine⟨y,s',g,?_⟩;unfold zbo;rw[<-run_map] at e;rw[zbb,er];exact e
theorem zmG(hb:b.Ok m)(hm:m<=10):∃ st',zcl [b.d] st=some (.bl b.lk,st')/\Gr st st':=by
 have hs2:=hb.sk2;have hk2:=hb.kd2;have hw1:=hb.w1;have hw2:=hb.w2;have htl:=hb.tsl;have es:∀ C,mSeq (mAsg (mVar 0) (gTp 3 (gC (gTp 3 (gC (gNm 1) (gC (gNm 2) (gC (gNm 3) (gN0))))) (gC (gTp 2 (gC (gNm 4) (gC (gNm 5) (gN0)))) (gC (gNm 6) (gN0)))))) C [some b.d,none,none,none,none,none,none,none,none,none,none,none] st=C (r12 b none none none none none) st:=fun C=>zak (ρ1:=r12 b none none none none none) (s1:=st) rfl rfl;have n2:=ne_int b.en 2 st;have t0:mTst (mBin neD (mVar 1) (mCon (.int 2))) (r12 b none none none none none) st=some (!(b.en==2),st):=by
   refine tstB ?_;exact n2
 -- names of other strengths
 have ec:=zeJ (W:=⟨b.sk.map za1,[]⟩) (g:=gTp 2 (gC (gNm 0) (gC (gNm 1) (gN0)))) (c:=zbn) (m:=zbC) (f:=za1) (h:=fun p:Str×Int=>D.str p.1) (p:=fun p:Str×Int=>!(p.2==1)) (R:=fun r=>∃ x y,r=[x,y]) (as:=b.sk) (ρ:=[none,none]) (st:=st) ⟨_,_,rfl⟩ rfl (fun p hp r hr=>by
   obtain⟨x,y,rfl⟩:=hr;refine⟨[some (.str p.1),some (.int p.2)],rfl,?_,fun _=>rfl,_,_,rfl⟩;unfold zbn;exact tstB (ne_int p.2 1 st))
 have hfl:(b.sk.filter fun p:Str×Int=>!(p.2==1)).length<=8:=AH (Eo _ _) hs2;have hfp:∀ x∈(b.sk.filter fun p:Str×Int=>!(p.2==1)).map (·.1),BK x=true:=fun x hx=>by
   obtain⟨p,hp,rfl⟩:=List.mem_map.mp hx;exact (hb.skp p (List.mem_filter.mp hp).1).ok
 have hfe:(b.sk.filter fun p:Str×Int=>!(p.2==1)).isEmpty=b.sk.all fun p=>p.2==1:=by
   rw[Bb,List.isEmpty_iff,List.filter_eq_nil_iff,AX]
   constructor
   . intro h p hp;have:=h p hp;simpa using this
   . intro h p hp;have:=h p hp;simpa using this
 generalize (b.sk.filter fun p:Str×Int=>!(p.2==1))=F at ec hfl hfp hfe;have fl:fits (F.map fun p:Str×Int=>D.str p.1).length=true:=zax (by rw[Ad];omega);have ecm:zbT (mWA (mVar 2)) 2 [] (gTp 2 (gC (gNm 0) (gC (gNm 1) (gN0)))) (zbn) (zbC) (r12 b none none none none none) st=some (.ref st.length,st++[.lst (F.map fun p:Str×Int=>D.str p.1)]):=by
   rw[zaG,zce (ds:=b.sk.map za1) rfl];simp only[Ab];rw[show rho0 (r12 b none none none none none) 2 []=[none,none] from rfl,ec];simp only[Ab,fl,if_true]
 have b1:=zaS st (.lst (F.map fun p:Str×Int=>D.str p.1));have g1:=Gr.app st [.lst (F.map fun p:Str×Int=>D.str p.1)];generalize hs1:st++[O.lst (F.map fun p:Str×Int=>D.str p.1)]=s1 at ecm b1 g1;have a2:=zaS s1 (.lst []);have g2:=Gr.app s1 [.lst []];have b2:(s1++[O.lst []])[st.length]?=some (.lst ((F.map (·.1)).map D.str)):=by rw[A0,Ak (getElem?_lt b1)];exact b1
 have em:mLst mNil (r12 b none none none none none) s1=some (.ref s1.length,s1++[.lst []]):=rfl;generalize hs2':s1++[O.lst []]=s2 at a2 g2 b2 em;have nn:=ne_nil b2 a2 hfp;have t1:mTst (mBin neD (zbT (mWA (mVar 2)) 2 [] (gTp 2 (gC (gNm 0) (gC (gNm 1) (gN0)))) (zbn) (zbC)) (mLst (mNil))) (r12 b none none none none none) st=some (!(b.sk.all fun p=>p.2==1),s2):=by
   refine tstB ?_;rw[zbl,ecm,Ab,em,Ab,nn];have:(F.map (·.1)).isEmpty=F.isEmpty:=by cases F <;> rfl
   rw[this,hfe]
 have g12:=g1.trans g2;unfold Bd.lk
 cases h1:b.en==2 with
 | false =>
   rw[h1] at t0;refine⟨st,zcX ?_,Gr.refl st⟩;unfold zbN;exact (es _).trans (zco (ifT (orL t0) rfl))
 | true =>
   rw[h1] at t0
   cases h2:b.sk.all fun p=>p.2==1 with
   | false =>
     rw[h2] at t1;refine⟨s2,zcX ?_,g12⟩;unfold zbN;exact (es _).trans (zco (ifT (orR t0 t1) rfl))
   | true =>
     rw[h2] at t1;have i1:=ifF (a:=mRet (mCon (.bl false))) (orR t0 t1)
     -- the kinds
     have ew:zjJ (mVar 3) (r12 b none none none none none) s2=some (⟨b.ks.zipIdx.map fun p=>D.tup [.int (p.2:Nat),kD p.1],[]⟩,s2):=by
       have:zjJ (mVar 3) (r12 b none none none none none) s2=some (⟨pairs (b.ks.map kD),[]⟩,s2):=rfl;rw[this,zcg]
     obtain⟨ρ',s3,g3,⟨x7,x8,rfl⟩,e3⟩:=zb2 (W:=⟨b.ks.zipIdx.map fun p=>D.tup [.int (p.2:Nat),kD p.1],[]⟩) (g:=gTp 2 (gC (gNm 7) (gC (gNm 8) (gN0)))) (m:=zbp) (f:=fun p:Kd×Nat=>D.tup [.int (p.2:Nat),kD p.1]) (b:=kOk b.ks) (R:=fun ρ=>∃ x7 x8,ρ=r12 b x7 x8 none none none) (as:=b.ks.zipIdx) (ρ:=r12 b none none none none none) (st:=s2) ⟨_,_,rfl⟩ (fun _ _=>rfl) (fun p hp ρ s hr gs=>by
       obtain⟨x7,x8,rfl⟩:=hr;obtain⟨s',g',e'⟩:=zkK (st:=s) hb hm (x9:=none) (x10:=none) (x11:=none) hp;exact⟨r12 b (some (.int (p.2:Nat))) (some (kD p.1)) none none none,_,s',rfl,g',e',_,_,rfl⟩)
     have ef:mFor (zjJ (mVar 3)) (gTp 2 (gC (gNm 7) (gC (gNm 8) (gN0)))) (zbp) (r12 b none none none none none) s2=if b.ks.zipIdx.all (kOk b.ks)=true then some (.nx (r12 b x7 x8 none none none),s3) else some (.rt (.bl false),s3):=by
       rw[zbb,ew];exact e3
     cases h3:b.ks.zipIdx.all (kOk b.ks) with
     | false =>
       rw[h3] at ef;refine⟨s3,zcX ?_,g12.trans g3⟩;unfold zbN;exact (es _).trans (zak i1 (zco ef))
     | true =>
       rw[h3] at ef;obtain⟨s4,e4,g4⟩:=zcI (mi:=mWA (mVar 6)) (f:=fun t:Tl=>tupD (rowT t)) (h:=fun t=>plD (plOf t)) (as:=b.ts) (fr:=[]) (m:=zc3) (ρ0:=[]) (ρ:=r12 b x7 x8 none none none) (st:=s3) (gd:=[]) (zce rfl) (fun _ _=>rfl) rfl (by omega) (fun z hz s g=>⟨s,rfl,Gr.refl s⟩);have b4:(s4++[O.lst (b.ts.map fun t=>plD (plOf t))])[s4.length]?=some (.lst ((b.ts.map plOf).map plD)):=by rw[A0];exact zaS s4 _
       have g5:=Gr.app s4 [.lst (b.ts.map fun t=>plD (plOf t))];generalize s4++[O.lst (b.ts.map fun t=>plD (plOf t))]=s5 at e4 b4 g5;have er:mR1 (mVar 4) (r12 b x7 x8 (some (.ref s4.length)) none none) s5=some (⟨run 0 b.w.toNat,[]⟩,s5):=Hd.zdv (k:=b.w.toNat) (M:=b.w) (by omega) rfl (by omega);obtain⟨ρ2,s6,g6,⟨y,z,rfl⟩,e6⟩:=zb2 (W:=⟨run 0 b.w.toNat,[]⟩) (g:=gNm 10) (m:=zbo) (f:=fun i:Nat=>D.int (i:Int)) (b:=fun x=>(Ar b.h.toNat).all (atP b.ts b.w x)) (R:=fun ρ=>∃ y z,ρ=r12 b x7 x8 (some (.ref s4.length)) y z) (as:=Ar b.w.toNat) (ρ:=r12 b x7 x8 (some (.ref s4.length)) none none) (st:=s5) ⟨_,_,rfl⟩ (fun _ _=>rfl) (fun i _ ρ s hr gs=>by
         obtain⟨y,z,rfl⟩:=hr;obtain⟨y11,s',g',e'⟩:=zkI (x7:=x7) (x8:=x8) (x:=i) (x11:=z) hb ((gs.old _ (getElem?_lt b4)).trans b4);exact⟨r12 b x7 x8 (some (.ref s4.length)) (some (.int (i:Nat))) z,_,s',rfl,g',e',_,_,rfl⟩)
       have ef2:mFor (mR1 (mVar 4)) (gNm 10) (zbo) (r12 b x7 x8 (some (.ref s4.length)) none none) s5=if ((Ar b.w.toNat).all fun x=>(Ar b.h.toNat).all (atP b.ts b.w x))=true then some (.nx (r12 b x7 x8 (some (.ref s4.length)) y z),s6) else some (.rt (.bl false),s6):=by
         rw[<-run_map] at e6;rw[zbb,er];exact e6
       refine⟨s6,zcX ?_,(g12.trans g3).trans (g4.trans (g5.trans g6))⟩;unfold zbN;refine (es _).trans (zak i1 (zak ef (zak (ρ1:=r12 b x7 x8 (some (.ref s4.length)) none none) (s1:=s5) (by rw[zbi,e4];rfl) ?_)))
       cases h4:(Ar b.w.toNat).all fun x=>(Ar b.h.toNat).all (atP b.ts b.w x) with
       | false=>rw[h4] at ef2;exact zco ef2
       | true=>rw[h4] at ef2;exact zak ef2 rfl
end
end L2.MP.stickytiles_k64_what_is_framed
namespace L2.MP.stickytiles_k64_what_is_framed
open PySem L2.MP L2.MP.Hb
theorem zl9{a b:Kd}:pr a=pr b ↔ pr2 a=pr2 b:=by
 unfold pr pr2;simp[and_comm]
theorem zho(ks:List Kd):(zd9 (ks.map pr)).length=ks.length ↔ ∀ i j (hi:i < ks.length) (hj:j < ks.length),i < j->pr2 ks[i]≠pr2 ks[j]:=by
 have h:=zjI (fun i=>(ks.map pr).getD i []) (ks.map pr).length;have hv:∀ i (hi:i < ks.length),(ks.map pr).getD i []=pr ks[i]:=fun i hi=>by
   rw[Ax,Av,Aj hi];rfl
 unfold zd9;rw[Ad] at h ⊢;rw[h]
 constructor
 . intro q i j hi hj hij e;refine q i j hij hj ?_;show (ks.map pr).getD i []=(ks.map pr).getD j [];rw[hv i hi,hv j hj];exact zl9.mpr e
 . intro q i j hij hj e;have e:(ks.map pr).getD i []=(ks.map pr).getD j []:=e;rw[hv i (by omega),hv j hj] at e;exact q i j (by omega) hj hij (zl9.mp e)
theorem zkQ(ks:List Kd):ks.zipIdx.all (kOk ks)=(!ks.any zcU&&decide ((zd9 (ks.map pr)).length=ks.length)):=by
 rw[Bb,AX,AA,decide_eq_true_iff,zho];have hz:∀ i (hi:i < ks.length),(ks[i],i)∈ks.zipIdx:=fun i hi=>by
   rw[List.mem_iff_getElem?];exact⟨i,by rw[CY,Aj hi];simp⟩
 have hk:∀ k i,kOk ks (k,i)=true ↔ zcU k=false/\pr2 k ∉ (ks.take i).map pr2:=fun k i=>by
   unfold kOk
   cases zcU k <;> simp
 constructor
 . intro h;refine⟨?_,fun i j hi hj hij e=>?_⟩
   . rw[Bm,Dz];intro k hkm;obtain⟨i,hi,rfl⟩:=List.mem_iff_getElem.mp hkm;have:=((hk _ _).mp (h _ (hz i hi))).1;rw[this]
     decide
   . refine ((hk _ _).mp (h _ (hz j hj))).2 ?_;rw[<-e];refine List.mem_map.mpr ⟨ks[i],?_,rfl⟩;rw[List.mem_iff_getElem];exact⟨i,by rw[Bk];omega,by rw[Dy]⟩
 . rintro ⟨h1,h2⟩ ⟨k,i⟩ hm;rw[Bm,Dz] at h1;obtain⟨j,hj⟩:=List.mem_iff_getElem?.mp hm;rw[CY] at hj
   cases hg:ks[j]? with
   | none=>rw[hg] at hj;cases hj
   | some x =>
     rw[hg] at hj;simp only[Aq,EV,Prod.mk.injEq,Nat.zero_add] at hj;obtain⟨rfl,rfl⟩:=hj;obtain⟨hjl,hge⟩:=List.getElem?_eq_some_iff.mp hg;refine (hk _ _).mpr ⟨?_,fun hmm=>?_⟩
     . have:=h1 x (by rw[<-hge];exact AZ hjl);simpa using this
     . obtain⟨y,hy,e⟩:=List.mem_map.mp hmm;obtain⟨i',hi',rfl⟩:=List.mem_iff_getElem.mp hy;rw[Bk] at hi';rw[Dy] at e;refine h2 i' j (by omega) hjl (by omega) ?_;rw[e,hge]
noncomputable def rim(w h:Nat):List Pl:=((Ar w).map fun (x:Nat)=>((x:Int),(0:Int)))++(Ar (h - 1)).map fun (y:Nat)=>((w:Int) - 1,(y:Int)+1)
theorem zjB(w h:Nat):(rim w h).length=w+(h - 1):=by unfold rim;simp
theorem znA(w h:Nat):(rim w h).Nodup:=by
 unfold rim;refine List.nodup_append.mpr ⟨zcA (fun a _ b _ e=>by simp at e;omega) BI,zcA (fun a _ b _ e=>by simp at e;omega) BI,?_⟩;intro p hp q hq e;obtain⟨x,_,rfl⟩:=List.mem_map.mp hp;obtain⟨y,_,rfl⟩:=List.mem_map.mp hq;simp at e;omega
theorem zf5{w h:Nat}{x y:Int}(x0:0<=x)(x1:x < w)(y0:0<=y)(y1:y < h):(x,y)∈rim w h ↔ (y=0\/x=w - 1):=by
 unfold rim;rw[D3,F3,F3]
 constructor
 . rintro (⟨a,_,e⟩ | ⟨a,_,e⟩)
   . simp at e;exact .inl e.2.symm
   . simp at e;exact .inr e.1.symm
 . rintro (rfl | rfl)
   . exact .inl ⟨x.toNat,List.mem_range.mpr (by omega),by rw[EG x0]⟩
   . by_cases hy:y=0
     . subst hy;exact .inl ⟨w - 1,List.mem_range.mpr (by omega),by simp;omega⟩
     . exact .inr ⟨(y - 1).toNat,List.mem_range.mpr (by omega),by simp;omega⟩
theorem znB{w h:Nat}{p:Pl}(hw:1<=w)(hh:1<=h)(hp:p∈rim w h):0<=p.1/\p.1 < w/\0<=p.2/\p.2 < h/\(p.2=0\/p.1=w - 1):=by
 unfold rim at hp
 rcases List.mem_append.mp hp with hp | hp
 . obtain⟨x,hx,rfl⟩:=List.mem_map.mp hp;have:=List.mem_range.mp hx;exact⟨by show (0:Int)<=x;omega,by show (x:Int) < w;omega,BV _,by show (0:Int) < h;omega,.inl rfl⟩
 . obtain⟨y,hy,rfl⟩:=List.mem_map.mp hp;have:=List.mem_range.mp hy;exact⟨by show (0:Int)<=w - 1;omega,by show (w:Int) - 1 < w;omega,by show (0:Int)<=y+1;omega,by show (y:Int)+1 < h;omega,.inr rfl⟩
theorem zfC{ts:List Tl}(h:PlNd ts):(ts.map plOf).Nodup:=by
 unfold DE;rw[CK];refine Fi (fun {a b} hs e=>?_) h;unfold zgB at hs;unfold plOf at e;simp at e;simp[e.1,e.2] at hs
theorem sub_len{α:Type}[DecidableEq α]:∀ {m l:List α},m.Nodup->(∀ x∈m,x∈l)->m.length<=l.length
 | [],l,_,_=>AU _
 | x::r,l,nd,h=>by
   have nd:=List.nodup_cons.mp nd;have hx:=h x Ag;have:=sub_len (m:=r) (l:=l.erase x) nd.2 fun y hy=>by
     have:y≠x:=fun e=>nd.1 (e ▸ hy);exact (Ck this).mpr (h y (Af _ hy))
   rw[BZ hx] at this;have:0 < l.length:=CN hx;rw[AW];omega
theorem zhQ{b:Bd}{m:Nat}(hb:b.Ok m):((Ar b.w.toNat).all fun x=>(Ar b.h.toNat).all (atP b.ts b.w x))=((b.ts.length:Int)==b.w+b.h - 1&&b.ts.all (frP b.w)):=by
 have hw1:=hb.w1;have hh1:=hb.h1;obtain⟨W,hW⟩:∃ W:Nat,b.w=(W:Int):=⟨b.w.toNat,by omega⟩
 obtain⟨Hh,hH⟩:∃ Hh:Nat,b.h=(Hh:Int):=⟨b.h.toNat,by omega⟩
 have tsp:=hb.tsp;have tsn:=zfC hb.tsn;rw[hW,hH] at tsp ⊢;rw[AS,AS];generalize b.ts=ts at *;have hP:∀ p∈ts.map plOf,0<=p.1/\p.1 < W/\0<=p.2/\p.2 < Hh:=fun p hp=>by
   obtain⟨t,ht,rfl⟩:=List.mem_map.mp hp;exact tsp t ht
 have hfr:ts.all (frP W)=true ↔ ∀ p∈ts.map plOf,p∈rim W Hh:=by
   rw[AX]
   constructor
   . intro h p hp;obtain⟨t,ht,rfl⟩:=List.mem_map.mp hp;have q:=h t ht;have r:=tsp t ht;unfold frP at q;rw[Bu,beq_iff_eq,beq_iff_eq] at q;exact (zf5 r.1 r.2.1 r.2.2.1 r.2.2.2).mpr q
   . intro h t ht;have r:=tsp t ht;have q:=(zf5 r.1 r.2.1 r.2.2.1 r.2.2.2).mp (h _ (List.mem_map.mpr ⟨t,ht,rfl⟩));unfold frP;rw[Bu,beq_iff_eq,beq_iff_eq];exact q
 have hat:∀ x y:Nat,x < W->y < Hh->(atP ts W x y=true ↔ ((((x:Int),(y:Int))∈ts.map plOf) ↔ ((x:Int),(y:Int))∈rim W Hh)):=fun x y hx hy=>by
   rw[zf5 (by omega) (by omega) (by omega) (by omega)];unfold atP;rw[beq_iff_eq,Bb,decide_eq_true_iff,Bu,beq_iff_eq,beq_iff_eq]
 have hl:=zjB W Hh;have lm:(ts.map plOf).length=ts.length:=Ad _;rw[Bb,AX,AA,beq_iff_eq,hfr]
 constructor
 . intro h;have h':∀ x y:Nat,x < W->y < Hh->((((x:Int),(y:Int))∈ts.map plOf) ↔ ((x:Int),(y:Int))∈rim W Hh):=fun x y hx hy=>by
     have q:=h x (List.mem_range.mpr hx);rw[AX] at q;exact (hat x y hx hy).mp (q y (List.mem_range.mpr hy))
   have s1:∀ p∈ts.map plOf,p∈rim W Hh:=fun p hp=>by
     have r:=hP p hp;obtain⟨x,y⟩:=p;obtain⟨X,rfl⟩:=Bs r.1;obtain⟨Y,rfl⟩:=Bs r.2.2.1;exact (h' X Y (by have:=r.2.1;omega) (by have:=r.2.2.2;omega)).mp hp
   have s2:∀ p∈rim W Hh,p∈ts.map plOf:=fun p hp=>by
     have r:=znB (by omega) (by omega) hp;obtain⟨x,y⟩:=p;obtain⟨X,rfl⟩:=Bs r.1;obtain⟨Y,rfl⟩:=Bs r.2.2.1;exact (h' X Y (by have:=r.2.1;omega) (by have:=r.2.2.2.1;omega)).mpr hp
   have a1:=sub_len tsn s1;have a2:=sub_len (znA W Hh) s2;exact⟨by omega,s1⟩
 . rintro ⟨h1,h2⟩ x hx;have hx:=List.mem_range.mp hx;rw[AX];intro y hy;have hy:=List.mem_range.mp hy;have pm:=zfE tsn h2 (by omega);exact (hat x y hx hy).mpr pm.mem_iff.symm
theorem zkH{b:Bd}{m:Nat}(hb:b.Ok m):b.lk=b.fr:=by
 unfold Bd.lk Bd.fr;rw[zkQ,zhQ hb]
 cases b.en==2&&b.sk.all fun p=>p.2==1 with
 | false=>rfl
 | true =>
   cases !b.ks.any zcU with
   | false=>rfl
   | true=>rfl
end L2.MP.stickytiles_k64_what_is_framed
namespace L2.MP.stickytiles_k64_what_is_framed
open PySem L2.MP L2.MP.Hb
open L2.MP.Ce (zjY zjX zcI zfd zeF zbS ifT ifF ifB tstB notB orL orR andL andR zbO zb2 zcg zct slT zeW)
open L2.MP.Hn (zar)
noncomputable def sg36:Str:="abcdefghijklmnopqrstuvwxyz0123456789"
noncomputable def r17(n:Nat)(most km:Int)(l:Nat)(many:Int)(t:Nat)(a6 a7 a8 a9 a10 a11 a12 a13 a14 a15 a16:Option D):Rho:=[some (.ref n),some (.int most),some (.int km),some (.ref l),some (.int many),some (.ref t),a6,a7,a8,a9,a10,a11,a12,a13,a14,a15,a16]
theorem FrB.set'{n q t:Nat}{st s:Sto}{o:O}(f:FrB n q st s)(ht:st.length<=t):FrB n q st (s.set t o):=⟨by rw[Bt];exact f.len,fun k hk n1 n2=>by rw[AB (by omega)];exact f.old k hk n1 n2⟩
section
variable {n q l t:Nat} {most km many:Int} {ss:List Str} {a6 a7 a8 a9 a10 a11 a12 a13 a14 a15 a16:Option D}
structure Two(n q l t:Nat)(ss:List Str)(tw:List (Str×Str))(s0 s:Sto):Prop where
 tw:s[t]?=some (.lst (tw.map pD2))
 nm:s[l]?=some (.lst (ss.map D.str))
 pot:PotB n q s
 fr:FrB n q s0 s
 tn:t≠n
 tq:t≠q
 tl:t≠l
 ln:l≠n
 lq:l≠q
 t0:s0.length<=t
theorem Two.to{tw:List (Str×Str)}{s0 s s':Sto}(h:Two n q l t ss tw s0 s)(p:PotB n q s')(f:FrB n q s s'):Two n q l t ss tw s0 s':=⟨(f.old _ (getElem?_lt h.tw) h.tn h.tq).trans h.tw,(f.old _ (getElem?_lt h.nm) h.ln h.lq).trans h.nm,p,h.fr.trans f,h.tn,h.tq,h.tl,h.ln,h.lq,h.t0⟩
theorem Two.gr{tw:List (Str×Str)}{s0 s s':Sto}(h:Two n q l t ss tw s0 s)(g:Gr s s'):Two n q l t ss tw s0 s':=h.to (h.pot.gr g) (FrB.of g)
theorem Two.put{tw tw':List (Str×Str)}{s0 s:Sto}(h:Two n q l t ss tw s0 s):Two n q l t ss tw' s0 (s.set t (.lst (tw'.map pD2))):=⟨Bv (getElem?_lt h.tw),by rw[AB h.tl];exact h.nm,h.pot.set h.tn h.tq,FrB.set' h.fr h.t0,h.tn,h.tq,h.tl,h.ln,h.lq,h.t0⟩
theorem zik{tw:List (Str×Str)}{s0 s:Sto}{z:Str}(h:Two n q l t ss tw s0 s)(hs:ss.length<=8)(ht:tw.length<=100):∃ s',za0 (r17 n most km l many t (some (.str z)) a7 a8 a9 a10 a11 a12 a13 a14 a15 a16) s=some (.nx (r17 n most km l many t (some (.str z)) a7 a8 a9 a10 a11 a12 a13 a14 a15 a16),s')/\Two n q l t ss (tw++ss.map fun e=>(z,e)) s0 s':=by
 have hw:mWA (mVar 3) (r17 n most km l many t (some (.str z)) a7 a8 a9 a10 a11 a12 a13 a14 a15 a16) s=some (⟨ss.map D.str,[(l,ss.map D.str)]⟩,s):=by
   unfold mWA r17;simp[zij,za9,h.nm,zb0]
 obtain⟨s1,e1,g1⟩:=zcI (mi:=mWA (mVar 3)) (f:=D.str) (h:=fun e=>pD2 (z,e)) (as:=ss) (fr:=[6]) (m:=zbM) (ρ0:=[some (.str z)]) (ρ:=r17 n most km l many t (some (.str z)) a7 a8 a9 a10 a11 a12 a13 a14 a15 a16) (st:=s) (gd:=[(l,ss.map D.str)]) hw (fun s' g=>zcq ((g.old _ (getElem?_lt h.nm)).trans h.nm)) rfl (by omega) (fun e he s' g=>⟨s',rfl,Gr.refl s'⟩);have h1:=h.gr g1;have h2:=h1.gr (Gr.app s1 [.lst (ss.map fun e=>pD2 (z,e))]);have b2:=zaS s1 (.lst (ss.map fun e=>pD2 (z,e)));generalize s1++[O.lst (ss.map fun e=>pD2 (z,e))]=s2 at e1 h2 b2;have ee:=Hn.zgj h2.tw b2 (by rw[Ad,Ad];omega);have em:(tw.map pD2++ss.map fun e=>pD2 (z,e))=(tw++ss.map fun e=>(z,e)).map pD2:=by rw[Bg,A0];rfl
 rw[em] at ee;refine⟨_,?_,h2.put⟩;have tl:za9 s t=some (tw.map pD2):=by unfold za9;simp only[h.tw]
 unfold za0;have ex:mExt (mVar 5) (zae (zbT (mWA (mVar 3)) 1 [6] (gNm 0) (zb1) (zbM)) (mNil)) (r17 n most km l many t (some (.str z)) a7 a8 a9 a10 a11 a12 a13 a14 a15 a16) s=some (.non,s2.set t (.lst ((tw++ss.map fun e=>(z,e)).map pD2))):=by
   have v5:mVar 5 (r17 n most km l many t (some (.str z)) a7 a8 a9 a10 a11 a12 a13 a14 a15 a16) s=some (.ref t,s):=rfl;rw[zm2,v5];simp only[Ab,tl,zaJ,zbr,e1,ee]
 rw[zbK,ex];rfl
noncomputable def zfR(ss:List Str)(i:Nat):List (Str×Str):=(ss.take i).flatMap fun z=>ss.map fun e=>(z,e)
theorem zdr(ss:List Str):∀ i,i<=ss.length->(zfR ss i).length=i*ss.length
 | 0,_=>by simp[zfR]
 | i+1,h=>by
   have ih:=zdr ss i (by omega);unfold zfR at ih ⊢;rw[Fj,Aj (by omega),C9,AF,ih];simp;rw[Nat.succ_mul]
theorem zls{s0 s:Sto}(h:Two n q l t ss [] s0 s)(hs:ss.length<=8):∃ b6 s',mFor (mWA (mVar 3)) (gNm 6) (za0) (r17 n most km l many t a6 a7 a8 a9 a10 a11 a12 a13 a14 a15 a16) s=some (.nx (r17 n most km l many t b6 a7 a8 a9 a10 a11 a12 a13 a14 a15 a16),s')/\Two n q l t ss (zfR ss ss.length) s0 s':=by
 have key:=zcW (W:=⟨ss.map D.str,[(l,ss.map D.str)]⟩) (g:=gNm 6) (m:=za0) (ds:=ss.map D.str) (ρ:=r17 n most km l many t a6 a7 a8 a9 a10 a11 a12 a13 a14 a15 a16) (st:=s)
   (Inv:=fun i ρ s'=>(∃ x,ρ=r17 n most km l many t x a7 a8 a9 a10 a11 a12 a13 a14 a15 a16)/\Two n q l t ss (zfR ss i) s0 s') ⟨⟨_,rfl⟩,h⟩ (fun _ _ _ _ hI=>zcq hI.2.nm) (fun i d ρ s' hd hI=>by
     obtain⟨⟨x,rfl⟩,hT⟩:=hI;rw[Av] at hd;obtain⟨z,hz,rfl⟩:=zai hd;have hi:=getElem?_lt hz;have hal:=zdr ss i (by omega);have hm:i*ss.length<=8*8:=Dh (by omega) hs;obtain⟨s2,e2,T2⟩:=zik (most:=most) (km:=km) (many:=many) (z:=z) (a7:=a7) (a8:=a8) (a9:=a9) (a10:=a10) (a11:=a11) (a12:=a12) (a13:=a13) (a14:=a14) (a15:=a15) (a16:=a16) hT hs (by omega);refine⟨r17 n most km l many t (some (.str z)) a7 a8 a9 a10 a11 a12 a13 a14 a15 a16,s',_,s2,rfl,e2,⟨_,rfl⟩,?_⟩;have:zfR ss (i+1)=zfR ss i++ss.map fun e=>(z,e):=by
       unfold zfR;rw[Fj,hz,C9];simp
     rw[this];exact T2)
 obtain⟨ρ',s',el,⟨x,rfl⟩,hT⟩:=key;rw[Ad] at hT;refine⟨x,s',?_,hT⟩;have hw:mWA (mVar 3) (r17 n most km l many t a6 a7 a8 a9 a10 a11 a12 a13 a14 a15 a16) s=some (⟨ss.map D.str,[(l,ss.map D.str)]⟩,s):=by
   unfold mWA r17;simp[zij,za9,h.nm,zb0]
 rw[zbb,hw];exact el
theorem zlg(nd:ss.Nodup):(zfR ss ss.length).Nodup:=by
 unfold zfR;rw[CS];unfold DE at nd ⊢;rw[Ep];refine⟨fun a _=>?_,nd.imp fun {a b} hab x hx y hy e=>?_⟩
 . exact zcA (fun x _ y _ e=>by simpa using e) nd
 . obtain⟨c,_,rfl⟩:=List.mem_map.mp hx;obtain⟨d,_,rfl⟩:=List.mem_map.mp hy;simp at e;exact hab e.1
theorem zjq{p:Str×Str}(h:p∈zfR ss ss.length):p.1∈ss/\p.2∈ss:=by
 unfold zfR at h;rw[CS] at h;obtain⟨a,ha,h⟩:=List.mem_flatMap.mp h;obtain⟨c,hc,rfl⟩:=List.mem_map.mp h;exact⟨ha,hc⟩
structure Kn(n q l t k:Nat)(ss:List Str)(tw:List (Str×Str))(ks:List Kd)(s0 s:Sto):Prop where
 two:Two n q l t ss tw s0 s
 at_:s[k]?=some (.lst (ks.map kD))
 kn:k≠n
 kq:k≠q
 kl:k≠l
 kt:k≠t
 k0:s0.length<=k
 mem:∀ x∈ks,x.n∈ss/\x.e∈ss/\x.s∈ss/\x.w∈ss
 prm:(ks.map (fun x=>(x.s,x.e))++tw).Perm (zfR ss ss.length)
theorem Kn.to{k:Nat}{tw:List (Str×Str)}{ks:List Kd}{s0 s s':Sto}(h:Kn n q l t k ss tw ks s0 s)(p:PotB n q s')(f:FrB n q s s'):Kn n q l t k ss tw ks s0 s':=⟨h.two.to p f,(f.old _ (getElem?_lt h.at_) h.kn h.kq).trans h.at_,h.kn,h.kq,h.kl,h.kt,h.k0,h.mem,h.prm⟩
theorem zi3{k:Nat}{tw:List (Str×Str)}{ks:List Kd}{s0 s:Sto}(h:Kn n q l t k ss tw ks s0 s)(hs:ss.length<=8)(hs1:1<=ss.length)(hm:many=(ss.length:Int))(htw:tw≠[])(hk:ks.length<=50):∃ b6 b10 b11 tw' x s',zaZ (r17 n most km l many t a6 (some (.str sg36)) (some (.ref k)) a9 a10 a11 a12 a13 a14 a15 a16) s=some (.nx (r17 n most km l many t b6 (some (.str sg36)) (some (.ref k)) a9 b10 b11 a12 a13 a14 a15 a16),s')/\Kn n q l t k ss tw' (ks++[x]) s0 s'/\tw'.length+1=tw.length:=by
 have hpl:=h.prm.length_eq;rw[AF,zdr ss _ (Ah _)] at hpl;have hm8:ss.length*ss.length<=8*8:=Dh hs hs;have hpos:0 < tw.length:=List.length_pos_iff.mpr htw;obtain⟨r,s1,e1,r0,r1,p1,f1⟩:=zaF (many:=(tw.length:Int)) h.two.pot (by omega) (by omega);have h1:=h.to p1 f1;have el:=ze9 h.two.tw;rw[Ad] at el;have hr:r.toNat < tw.length:=by omega
 have hg:(tw.map pD2)[r.toNat]?=some (pD2 tw[r.toNat]):=by rw[Av,Aj hr];rfl
 have ep:=pop_at h1.two.tw r0 (by omega) hg;rw[zgk] at ep;have pm:=L2.MP.Hb.zff tw r.toNat hr;have hle:(tw.eraseIdx r.toNat).length+1=tw.length:=by have:=pm.length_eq;simpa using this
 generalize hp0:tw[r.toNat]=p0 at ep pm;generalize htw':tw.eraseIdx r.toNat=tw' at ep pm hle;obtain⟨so,ea⟩:=p0;have h2:Kn n q l t k ss tw' ks s0 (s1.set t (.lst (tw'.map pD2)))->True:=fun _=>trivial;have T2:=h1.two.put (tw':=tw');have A2:(s1.set t (O.lst (tw'.map pD2)))[k]?=some (.lst (ks.map kD)):=by rw[AB (AV h.kt)];exact h1.at_
 generalize hs2:s1.set t (O.lst (tw'.map pD2))=s2 at ep T2 A2;obtain⟨r3,s3,e3,r30,r31,p3,f3⟩:=zaF (many:=36) T2.pot (by decide) (by decide);have T3:=T2.to p3 f3;have A3:=(f3.old _ (getElem?_lt A2) h.kn h.kq).trans A2;have hc:r3.toNat < sg36.cps.size:=by
   have:sg36.cps.size=36:=by decide +kernel
   omega
 have ix3:ixA (.str sg36) (.int r3) s3=some (.str ⟨#[sg36.cps[r3.toNat]]⟩,s3):=zgG (by decide +kernel) r30 (AL hc);generalize sg36.cps[r3.toNat]=c3 at ix3;have T4:=T3.gr (Gr.app s3 [.lst [.str "",.str ⟨#[c3]⟩]]);have A4:(s3++[O.lst [.str "",.str ⟨#[c3]⟩]])[k]?=some (.lst (ks.map kD)):=by rw[Ak (getElem?_lt A3)];exact A3
 have a4:=zaS s3 (.lst [.str "",.str ⟨#[c3]⟩]);obtain⟨hn3,hq3⟩:=p3.ne;generalize hs4:s3++[O.lst [.str "",.str ⟨#[c3]⟩]]=s4 at T4 A4 a4;obtain⟨r5,s5,e5,r50,r51,p5,f5⟩:=zaF (many:=2) T4.pot (by decide) (by decide);have T5:=T4.to p5 f5;have A5:=(f5.old _ (getElem?_lt A4) h.kn h.kq).trans A4;have a5:=(f5.old _ (getElem?_lt a4) (AV hn3) (AV hq3)).trans a4;obtain⟨fc,hfc⟩:∃ fc:Str,[D.str "",.str ⟨#[c3]⟩][r5.toNat]?=some (.str fc):=by
   have:r5=0\/r5=1:=by omega
   rcases this with rfl | rfl <;> exact⟨_,rfl⟩
 have ix5:=zcw a5 r50 hfc;obtain⟨r6,s6,e6,r60,r61,p6,f6⟩:=zaF (many:=many) p5 (by omega) (by omega);have T6:=T5.to p6 f6;have A6:=(f6.old _ (getElem?_lt A5) h.kn h.kq).trans A5;have h6:r6.toNat < ss.length:=by omega
 have ix6:ixA (.ref l) (.int r6) s6=some (.str ss[r6.toNat],s6):=zcw T6.nm r60 (by rw[Av,Aj h6];rfl);have m6:=AZ h6;generalize ss[r6.toNat]=n6 at ix6 m6;obtain⟨r7,s7,e7,r70,r71,p7,f7⟩:=zaF (many:=many) p6 (by omega) (by omega);have T7:=T6.to p7 f7;have A7:=(f7.old _ (getElem?_lt A6) h.kn h.kq).trans A6;have h7:r7.toNat < ss.length:=by omega
 have ix7:ixA (.ref l) (.int r7) s7=some (.str ss[r7.toNat],s7):=zcw T7.nm r70 (by rw[Av,Aj h7];rfl);have m7:=AZ h7;generalize ss[r7.toNat]=n7 at ix7 m7;have hlk:za9 s5 k=some (ks.map kD):=by unfold za9;simp only[A5]
 have hap:zcE (.ref k) [.tup [.str fc,.str n6,.str ea,.str so,.str n7]] s7=some (.non,s7.set k (.lst ((ks++[(⟨fc,n6,ea,so,n7⟩:Kd)]).map kD))):=by
   have hsl:sizeLine=16777216:=by decide
   unfold zcE;simp only[A7];rw[if_pos (decide_eq_true (by rw[Ad];omega)),Bg];rfl
 refine⟨some (.str so),some (.str ea),some (.str fc),tw',⟨fc,n6,ea,so,n7⟩,_,?_,⟨⟨?_,?_,T7.pot.set h.kn h.kq,FrB.set' T7.fr h.k0,T7.tn,T7.tq,T7.tl,T7.ln,T7.lq,T7.t0⟩,Bv (getElem?_lt A7),h.kn,h.kq,h.kl,h.kt,h.k0,?_,?_⟩,hle⟩
 . unfold zaZ;refine zak (ρ1:=r17 n most km l many t (some (.str so)) (some (.str sg36)) (some (.ref k)) a9 (some (.str ea)) a11 a12 a13 a14 a15 a16) (s1:=s2) ?_ ?_
   . have tl:za9 s t=some (tw.map pD2):=by unfold za9;simp only[h.two.tw]
     have ex:mPop (mVar 5) (zae (zap zac (zae (mVar 0) (zae (zap lenD (zae (mVar 5) (mNil))) (mNil)))) (mNil)) (r17 n most km l many t a6 (some (.str sg36)) (some (.ref k)) a9 a10 a11 a12 a13 a14 a15 a16) s=some (pD2 (so,ea),s2):=by
       have v5:mVar 5 (r17 n most km l many t a6 (some (.str sg36)) (some (.ref k)) a9 a10 a11 a12 a13 a14 a15 a16) s=some (.ref t,s):=rfl;have v0:mVar 0 (r17 n most km l many t a6 (some (.str sg36)) (some (.ref k)) a9 a10 a11 a12 a13 a14 a15 a16) s=some (.ref n,s):=rfl;rw[zm1,v5];simp only[Ab,tl,zaJ,zbr,zaR,v0,v5,el,e1,ep]
     rw[zbi,ex];rfl
   refine zak (ρ1:=r17 n most km l many t (some (.str so)) (some (.str sg36)) (some (.ref k)) a9 (some (.str ea)) (some (.str fc)) a12 a13 a14 a15 a16) (s1:=s5) ?_ ?_
   . unfold r17;generalize sg36=SG at *;simp[e3,ix3,hs4,e5,ix5]
   . unfold r17;generalize sg36=SG at *;simp[hlk,e6,ix6,e7,ix7,hap]
 . rw[AB h.kt];exact T7.tw
 . rw[AB h.kl];exact T7.nm
 . intro x hx
   rcases List.mem_append.mp hx with hx | hx
   . exact h.mem x hx
   . have hin:(so,ea)∈zfR ss ss.length:=h.prm.mem_iff.mp (AI _ (pm.mem_iff.mp Ag));have:=zjq hin;rw[List.mem_singleton.mp hx];exact⟨m6,this.2,this.1,m7⟩
 . refine List.Perm.trans ?_ h.prm;rw[Bg,Ap];exact List.Perm.append_left _ pm
end
section
variable {n q l t k sd:Nat} {most km many:Int} {ss:List Str} {a6 a7 a8 a9 a10 a11 a12 a13 a14 a15 a16:Option D}
theorem zkP{tw:List (Str×Str)}{s0 s:Sto}(h:Kn n q l t k ss tw [] s0 s)(hs:ss.length<=8)(hs1:1<=ss.length)(hm:many=(ss.length:Int))(hkm:km=9):∃ b6 b9 b10 b11 tw' ks s',mFor (mR1 (zap zih (zae (zap lenD (zae (mVar 5) (mNil))) (zae (mBin addD (mCon (.int 1)) (zap zac (zae (mVar 0) (zae (mVar 2) (mNil))))) (mNil))))) (gNm 9) (zaZ) (r17 n most km l many t a6 (some (.str sg36)) (some (.ref k)) a9 a10 a11 a12 a13 a14 a15 a16) s=some (.nx (r17 n most km l many t b6 (some (.str sg36)) (some (.ref k)) b9 b10 b11 a12 a13 a14 a15 a16),s')/\Kn n q l t k ss tw' ks s0 s'/\1<=ks.length/\ks.length<=9:=by
 have hpl:=h.prm.length_eq;rw[BB,C3,zdr ss _ (Ah _)] at hpl;have hm8:ss.length*ss.length<=8*8:=Dh hs hs;have hm1:1*1<=ss.length*ss.length:=Dh hs1 hs1;have el:=ze9 h.two.tw;rw[Ad] at el;obtain⟨r,s1,e1,r0,r1,p1,f1⟩:=zaF (many:=km) h.two.pot (by omega) (by omega);have h1:=h.to p1 f1;obtain⟨M,hM,hM1,hM2,hM3⟩:∃ M:Nat,(if 1+r < (tw.length:Int) then 1+r else (tw.length:Int))=(M:Int)/\1<=M/\M<=9/\M<=tw.length:=by
   refine⟨(if 1+r < (tw.length:Int) then 1+r else (tw.length:Int)).toNat,?_,?_,?_,?_⟩ <;> split <;> omega
 have er:mR1 (zap zih (zae (zap lenD (zae (mVar 5) (mNil))) (zae (mBin addD (mCon (.int 1)) (zap zac (zae (mVar 0) (zae (mVar 2) (mNil))))) (mNil)))) (r17 n most km l many t a6 (some (.str sg36)) (some (.ref k)) a9 a10 a11 a12 a13 a14 a15 a16) s=some (⟨run 0 M,[]⟩,s1):=by
   refine Hd.zdv (s1:=s1) (k:=M) hM ?_ (by omega);unfold r17;generalize (tw.length:Int)=TL at *;generalize sg36=SG at *;simp[el,e1,zih]
 have key:=zcW (W:=⟨run 0 M,[]⟩) (g:=gNm 9) (m:=zaZ) (ds:=run 0 M) (ρ:=r17 n most km l many t a6 (some (.str sg36)) (some (.ref k)) a9 a10 a11 a12 a13 a14 a15 a16) (st:=s1)
   (Inv:=fun i ρ s'=>∃ b6 b9 b10 b11 tw' ks,ρ=r17 n most km l many t b6 (some (.str sg36)) (some (.ref k)) b9 b10 b11 a12 a13 a14 a15 a16/\Kn n q l t k ss tw' ks s0 s'/\ks.length=i/\tw'.length+i=tw.length) ⟨_,_,_,_,tw,[],rfl,h1,rfl,rfl⟩ (fun _ _ _ _ _=>rfl) (fun i d ρ s' hd hI=>by
     obtain⟨b6,b9,b10,b11,tw',ks,rfl,hK,hkl,htl⟩:=hI;obtain⟨hi,_⟩:=Hd.ziF hd;obtain⟨c6,c10,c11,tw2,x,s2,e2,K2,l2⟩:=zi3 (most:=most) (km:=km) (a6:=b6) (a9:=some d) (a10:=b10) (a11:=b11) (a12:=a12) (a13:=a13) (a14:=a14) (a15:=a15) (a16:=a16) hK hs hs1 hm (by intro e;rw[e] at htl;simp at htl;omega) (by omega);exact⟨r17 n most km l many t b6 (some (.str sg36)) (some (.ref k)) (some d) b10 b11 a12 a13 a14 a15 a16,s',_,s2,rfl,e2,c6,some d,c10,c11,tw2,ks++[x],rfl,K2,by simp[hkl],by omega⟩)
 obtain⟨ρ',s',el2,b6,b9,b10,b11,tw',ks,rfl,hK,hkl,htl⟩:=key;rw[zcS] at hkl;refine⟨b6,b9,b10,b11,tw',ks,s',?_,hK,by omega,by omega⟩;rw[zbb,er];exact el2
structure Sd(n q l k sd:Nat)(ss:List Str)(ks:List Kd)(ts:List Tl)(s0 s:Sto):Prop where
 nm:s[l]?=some (.lst (ss.map D.str))
 kd:s[k]?=some (.lst (ks.map kD))
 at_:s[sd]?=some (.lst (ts.map fun t=>tupD (rowT t)))
 pot:PotB n q s
 fr:FrB n q s0 s
 ln:l≠n
 lq:l≠q
 kn:k≠n
 kq:k≠q
 dn:sd≠n
 dq:sd≠q
 dl:sd≠l
 dk:sd≠k
 d0:s0.length<=sd
theorem Sd.to{ks:List Kd}{ts:List Tl}{s0 s s':Sto}(h:Sd n q l k sd ss ks ts s0 s)(p:PotB n q s')(f:FrB n q s s'):Sd n q l k sd ss ks ts s0 s':=⟨(f.old _ (getElem?_lt h.nm) h.ln h.lq).trans h.nm,(f.old _ (getElem?_lt h.kd) h.kn h.kq).trans h.kd,(f.old _ (getElem?_lt h.at_) h.dn h.dq).trans h.at_,p,h.fr.trans f,h.ln,h.lq,h.kn,h.kq,h.dn,h.dq,h.dl,h.dk,h.d0⟩
theorem Sd.put{ks:List Kd}{ts ts':List Tl}{s0 s:Sto}(h:Sd n q l k sd ss ks ts s0 s):Sd n q l k sd ss ks ts' s0 (s.set sd (.lst (ts'.map fun t=>tupD (rowT t)))):=⟨by rw[AB h.dl];exact h.nm,by rw[AB h.dk];exact h.kd,Bv (getElem?_lt h.at_),h.pot.set h.dn h.dq,FrB.set' h.fr h.d0,h.ln,h.lq,h.kn,h.kq,h.dn,h.dq,h.dl,h.dk,h.d0⟩
noncomputable def frQ(w:Int)(p:Pl):Bool:=p.2==0 || p.1==w - 1
noncomputable def rw_(w:Int)(x j:Nat):List Pl:=((Ar j).map fun (y:Nat)=>((x:Int),(y:Int))).filter (frQ w)
noncomputable def fl_(w:Int)(h i:Nat):List Pl:=(Ar i).flatMap fun x=>rw_ w x h
theorem zix{ks:List Kd}{ts:List Tl}{s0 s:Sto}{w h x y:Int}(hS:Sd n q l k sd ss ks ts s0 s)(hk1:1<=ks.length)(hk2:ks.length<=100)(htl:ts.length<=1000):∃ ts' s',zbq (r17 n most km l many t a6 a7 (some (.ref k)) a9 a10 a11 (some (.int w)) (some (.int h)) (some (.ref sd)) (some (.int x)) (some (.int y))) s=some (.nx (r17 n most km l many t a6 a7 (some (.ref k)) a9 a10 a11 (some (.int w)) (some (.int h)) (some (.ref sd)) (some (.int x)) (some (.int y))),s')/\Sd n q l k sd ss ks ts' s0 s'/\ts'.map plOf=ts.map plOf++(if frQ w (x,y)=true then [(x,y)] else []):=by
 have q0:=eq_int y 0 s;have q1:=eq_int x (w - 1) s;have tt:mOrT (mTst (mBin eqD (mVar 16) (mCon (.int 0)))) (mTst (mBin eqD (mVar 15) (mBin subD (mVar 12) (mCon (.int 1))))) (r17 n most km l many t a6 a7 (some (.ref k)) a9 a10 a11 (some (.int w)) (some (.int h)) (some (.ref sd)) (some (.int x)) (some (.int y))) s=some (frQ w (x,y),s):=by
   unfold r17 frQ
   cases h0:y==0 with
   | true=>rw[h0] at q0;simp[q0]
   | false=>rw[h0] at q0;simp[q0,q1]
 unfold zbq
 cases hf:frQ w (x,y) with
 | false =>
   rw[hf] at tt;exact⟨ts,s,ifF tt,hS,by simp⟩
 | true =>
   rw[hf] at tt;have el:=ze9 hS.kd;rw[Ad] at el;obtain⟨r,s1,e1,r0,r1,p1,f1⟩:=zaF (many:=(ks.length:Int)) hS.pot (by omega) (by omega);have S1:=hS.to p1 f1;have hls:za9 s sd=some (ts.map fun t=>tupD (rowT t)):=by unfold za9;simp only[hS.at_]
   have hap:zcE (.ref sd) [.tup [.int x,.int y,.int r]] s1=some (.non,s1.set sd (.lst ((ts++[((x,y,r):Tl)]).map fun t=>tupD (rowT t)))):=by
     have hsl:sizeLine=16777216:=by decide
     unfold zcE;simp only[S1.at_];rw[if_pos (decide_eq_true (by rw[Ad];omega)),Bg];rfl
   refine⟨ts++[(x,y,r)],_,ifT tt ?_,S1.put,by simp[plOf]⟩;unfold r17;generalize (ks.length:Int)=KL at *;generalize (ts.map fun t=>tupD (rowT t))=TT at *;simp[hls,el,e1,hap]
theorem zg6{ks:List Kd}{ts:List Tl}{s0 s:Sto}{w:Int}{h x:Nat}(hS:Sd n q l k sd ss ks ts s0 s)(hk1:1<=ks.length)(hk2:ks.length<=100)(htl:ts.length<=500)(hh:h<=12):∃ b16 ts' s',zaY (r17 n most km l many t a6 a7 (some (.ref k)) a9 a10 a11 (some (.int w)) (some (.int (h:Int))) (some (.ref sd)) (some (.int (x:Int))) a16) s=some (.nx (r17 n most km l many t a6 a7 (some (.ref k)) a9 a10 a11 (some (.int w)) (some (.int (h:Int))) (some (.ref sd)) (some (.int (x:Int))) b16),s')/\Sd n q l k sd ss ks ts' s0 s'/\ts'.map plOf=ts.map plOf++rw_ w x h/\ts'.length<=ts.length+h:=by
 have key:=zcW (W:=⟨run 0 h,[]⟩) (g:=gNm 16) (m:=zbq) (ds:=run 0 h) (ρ:=r17 n most km l many t a6 a7 (some (.ref k)) a9 a10 a11 (some (.int w)) (some (.int (h:Int))) (some (.ref sd)) (some (.int (x:Int))) a16) (st:=s)
   (Inv:=fun j ρ s'=>∃ b16 ts',ρ=r17 n most km l many t a6 a7 (some (.ref k)) a9 a10 a11 (some (.int w)) (some (.int (h:Int))) (some (.ref sd)) (some (.int (x:Int))) b16/\Sd n q l k sd ss ks ts' s0 s'/\ts'.map plOf=ts.map plOf++rw_ w x j/\ts'.length<=ts.length+j) ⟨_,ts,rfl,hS,by simp[rw_],Ah _⟩ (fun _ _ _ _ _=>rfl) (fun j d ρ s' hd hI=>by
     obtain⟨b16,ts',rfl,S',hp,hl⟩:=hI;obtain⟨hj,rfl⟩:=Hd.ziF hd;obtain⟨ts2,s2,e2,S2,hp2⟩:=zix (t:=t) (most:=most) (km:=km) (many:=many) (a6:=a6) (a7:=a7) (a9:=a9) (a10:=a10) (a11:=a11) (w:=w) (h:=(h:Int)) (x:=(x:Int)) (y:=(j:Int)) S' hk1 hk2 (by omega);refine⟨r17 n most km l many t a6 a7 (some (.ref k)) a9 a10 a11 (some (.int w)) (some (.int (h:Int))) (some (.ref sd)) (some (.int (x:Int))) (some (.int (j:Int))),s',_,s2,rfl,e2,_,ts2,rfl,S2,?_,?_⟩
     . rw[hp2,hp,Ap]
       congr 1
       unfold rw_;rw[FM,Bg,List.filter_append]
       congr 1
       rw[List.map_singleton,DP,FH]
     . have:=congrArg Fk hp2;rw[AF,Ad,Ad] at this
       split at this <;> simp at this <;> omega)
 obtain⟨ρ',s',el,b16,ts',rfl,S',hp,hl⟩:=key;rw[zcS] at hp hl;refine⟨b16,ts',s',?_,S',hp,hl⟩;unfold zaY;have er:mR1 (mVar 13) (r17 n most km l many t a6 a7 (some (.ref k)) a9 a10 a11 (some (.int w)) (some (.int (h:Int))) (some (.ref sd)) (some (.int (x:Int))) a16) s=some (⟨run 0 h,[]⟩,s):=Hd.zdv (s1:=s) (k:=h) (M:=(h:Int)) rfl rfl (by omega);rw[zbb,er];exact el
theorem zlO{ks:List Kd}{s0 s:Sto}{w h:Nat}(hS:Sd n q l k sd ss ks [] s0 s)(hk1:1<=ks.length)(hk2:ks.length<=100)(hw:w<=12)(hh:h<=12):∃ b15 b16 ts' s',mFor (mR1 (mVar 12)) (gNm 15) (zaY) (r17 n most km l many t a6 a7 (some (.ref k)) a9 a10 a11 (some (.int (w:Int))) (some (.int (h:Int))) (some (.ref sd)) a15 a16) s=some (.nx (r17 n most km l many t a6 a7 (some (.ref k)) a9 a10 a11 (some (.int (w:Int))) (some (.int (h:Int))) (some (.ref sd)) b15 b16),s')/\Sd n q l k sd ss ks ts' s0 s'/\ts'.map plOf=fl_ w h w:=by
 have key:=zcW (W:=⟨run 0 w,[]⟩) (g:=gNm 15) (m:=zaY) (ds:=run 0 w) (ρ:=r17 n most km l many t a6 a7 (some (.ref k)) a9 a10 a11 (some (.int (w:Int))) (some (.int (h:Int))) (some (.ref sd)) a15 a16) (st:=s)
   (Inv:=fun j ρ s'=>∃ b15 b16 ts',ρ=r17 n most km l many t a6 a7 (some (.ref k)) a9 a10 a11 (some (.int (w:Int))) (some (.int (h:Int))) (some (.ref sd)) b15 b16/\Sd n q l k sd ss ks ts' s0 s'/\ts'.map plOf=fl_ w h j/\ts'.length<=j*12) ⟨_,_,[],rfl,hS,rfl,Ah _⟩ (fun _ _ _ _ _=>rfl) (fun j d ρ s' hd hI=>by
     obtain⟨b15,b16,ts',rfl,S',hp,hl⟩:=hI;obtain⟨hj,rfl⟩:=Hd.ziF hd;obtain⟨c16,ts2,s2,e2,S2,hp2,hl2⟩:=zg6 (t:=t) (most:=most) (km:=km) (many:=many) (a6:=a6) (a7:=a7) (a9:=a9) (a10:=a10) (a11:=a11) (a16:=b16) (w:=(w:Int)) (h:=h) (x:=j) S' hk1 hk2 (by omega) hh;refine⟨r17 n most km l many t a6 a7 (some (.ref k)) a9 a10 a11 (some (.int (w:Int))) (some (.int (h:Int))) (some (.ref sd)) (some (.int (j:Int))) b16,s',_,s2,rfl,e2,_,_,ts2,rfl,S2,?_,by omega⟩;rw[hp2,hp];unfold fl_;rw[FM,C9];simp)
 obtain⟨ρ',s',el,b15,b16,ts',rfl,S',hp,hl⟩:=key;rw[zcS] at hp;refine⟨b15,b16,ts',s',?_,S',hp⟩;have er:mR1 (mVar 12) (r17 n most km l many t a6 a7 (some (.ref k)) a9 a10 a11 (some (.int (w:Int))) (some (.int (h:Int))) (some (.ref sd)) a15 a16) s=some (⟨run 0 w,[]⟩,s):=Hd.zdv (s1:=s) (k:=w) (M:=(w:Int)) rfl rfl (by omega);rw[zbb,er];exact el
end
theorem zmN{w:Int}{h i:Nat}{p:Pl}:p∈fl_ w h i ↔ (0<=p.1/\p.1 < i/\0<=p.2/\p.2 < h)/\frQ w p=true:=by
 unfold fl_ rw_;rw[List.mem_flatMap]
 constructor
 . rintro ⟨x,hx,hp⟩;obtain⟨hp,hf⟩:=List.mem_filter.mp hp;obtain⟨y,hy,rfl⟩:=List.mem_map.mp hp;have:=List.mem_range.mp hx;have:=List.mem_range.mp hy;exact⟨⟨by show (0:Int)<=x;omega,by show (x:Int) < i;omega,by show (0:Int)<=y;omega,by show (y:Int) < h;omega⟩,hf⟩
 . rintro ⟨⟨x0,x1,y0,y1⟩,hf⟩;obtain⟨x,y⟩:=p;obtain⟨X,rfl⟩:=Bs x0;obtain⟨Y,rfl⟩:=Bs y0;exact⟨X,List.mem_range.mpr (by have:=x1;omega),List.mem_filter.mpr ⟨List.mem_map.mpr ⟨Y,List.mem_range.mpr (by have:=y1;omega),rfl⟩,hf⟩⟩
theorem zpj(w:Int)(h i:Nat):(fl_ w h i).Nodup:=by
 unfold fl_ rw_ DE;rw[Ep];refine⟨fun a _=>List.Pairwise.filter _ (zcA (fun x _ y _ e=>by simp at e;omega) BI),(BI (n:=i)).imp fun {a b} hab x hx y hy e=>?_⟩;obtain⟨c,_,rfl⟩:=List.mem_map.mp (List.mem_filter.mp hx).1;obtain⟨d,_,rfl⟩:=List.mem_map.mp (List.mem_filter.mp hy).1;simp at e;exact hab (by omega)
theorem zfJ{ts:List Tl}(h:(ts.map plOf).Nodup):PlNd ts:=by
 unfold DE at h;rw[CK] at h;refine Fi (fun {a b} hs=>?_) h;unfold zgB
 cases hc:decide (a.1=b.1)&&decide (a.2.1=b.2.1) with
 | false=>rfl
 | true =>
   rw[AA,decide_eq_true_iff,decide_eq_true_iff] at hc;exact absurd (show plOf a=plOf b by unfold plOf;rw[hc.1,hc.2]) hs
theorem zmu{ks:List Kd}(h:(ks.map fun x=>(x.s,x.e)).Nodup):(zd9 (ks.map pr)).length=ks.length:=by
 rw[zho];intro i j hi hj hij e;unfold DE at h;rw[CK] at h;refine (List.pairwise_iff_getElem.mp h) i j hi hj hij ?_;unfold pr2 at e;simp at e;simp[e.1,e.2]
theorem zje{n q:Nat}{st:Sto}{most:Int}(h:PotB n q st)(m1:1<=most)(m2:most<=12):∃ (b:Bd) (st':Sto),zbB [.ref n,.int most,.int 9] st=some (b.d,st')/\b.Ok 0/\b.fr=true/\PotB n q st'/\FrB n q st st':=by
 obtain⟨r1,s1,e1,r10,r11,p1,f1⟩:=zaF (many:=4) h (by decide) (by decide);obtain⟨ss,l,s2,e2,nm2,ok2,ln,lq,p2,f2⟩:=zkA (m:=(1+r1).toNat) (M:=1+r1) (by omega) p1 (by omega);have hsl:=ok2.len;have hs8:ss.length<=8:=by omega
 have hs1:1<=ss.length:=by omega
 have el:=ze9 nm2;rw[Ad] at el;obtain⟨hn2,hq2⟩:=p2.ne;have g3:=Gr.app s2 [.lst []];have a3:=zaS s2 (.lst []);have p3:=p2.gr g3;have f3:=FrB.of (n:=n) (q:=q) g3;have em3:∀ ρ,mLst mNil ρ s2=some (.ref s2.length,s2++[.lst []]):=fun ρ=>rfl;have nm3:=(g3.old _ (getElem?_lt nm2)).trans nm2;have hl2:=getElem?_lt nm2;have f13:=(f1.trans f2).trans f3;have f12:=(f1.trans f2).len;generalize hs3:s2++[O.lst []]=s3 at *;have T3:Two n q l s2.length ss [] st s3:=⟨a3,nm3,p3,f13,AV hn2,AV hq2,by omega,ln,lq,f12⟩
 obtain⟨b6,s4,e4,T4⟩:=zls (most:=most) (km:=9) (many:=(ss.length:Int)) (a6:=none) (a7:=none) (a8:=none) (a9:=none) (a10:=none) (a11:=none) (a12:=none) (a13:=none) (a14:=none) (a15:=none) (a16:=none) T3 hs8;obtain⟨hn4,hq4⟩:=T4.pot.ne;have g5:=Gr.app s4 [.lst []];have a5:=zaS s4 (.lst []);have T5:=T4.gr g5;have em5:∀ ρ,mLst mNil ρ s4=some (.ref s4.length,s4++[.lst []]):=fun ρ=>rfl;have hl4:=getElem?_lt T4.nm;have ht4:=getElem?_lt T4.tw;generalize hs5:s4++[O.lst []]=s5 at *;have K5:Kn n q l s2.length s4.length ss (zfR ss ss.length) [] st s5:=⟨T5,a5,AV hn4,AV hq4,by omega,by omega,T4.fr.len,by simp,by simp⟩
 obtain⟨c6,c9,c10,c11,tw',ks,s6,e6,K6,kl1,kl9⟩:=zkP (most:=most) (km:=9) (many:=(ss.length:Int)) (a6:=b6) (a9:=none) (a10:=none) (a11:=none) (a12:=none) (a13:=none) (a14:=none) (a15:=none) (a16:=none) K5 hs8 hs1 rfl rfl;obtain⟨r7,s7,e7,r70,r71,p7,f7⟩:=zaF (many:=most) K6.two.pot (by omega) (by omega);obtain⟨r8,s8,e8,r80,r81,p8,f8⟩:=zaF (many:=most) p7 (by omega) (by omega);have K8:=(K6.to p7 f7).to p8 f8;obtain⟨w,hw⟩:∃ w:Nat,1+r7=(w:Int):=⟨(1+r7).toNat,by omega⟩
 obtain⟨hh,hhe⟩:∃ w:Nat,1+r8=(w:Int):=⟨(1+r8).toNat,by omega⟩
 obtain⟨hn8,hq8⟩:=p8.ne;have g9:=Gr.app s8 [.lst []];have a9:=zaS s8 (.lst []);have em9:∀ ρ,mLst mNil ρ s8=some (.ref s8.length,s8++[.lst []]):=fun ρ=>rfl;have hl8:=getElem?_lt K8.two.nm;have hk8:=getElem?_lt K8.at_;have K9:=K8.to (p8.gr g9) (FrB.of g9);generalize hs9:s8++[O.lst []]=s9 at *;have S9:Sd n q l s4.length s8.length ss ks [] st s9:=⟨K9.two.nm,K9.at_,a9,K9.two.pot,K9.two.fr,ln,lq,K9.kn,K9.kq,AV hn8,AV hq8,by omega,by omega,K8.two.fr.len⟩
 obtain⟨b15,b16,ts,s10,e10,S10,hpl⟩:=zlO (t:=s2.length) (most:=most) (km:=9) (many:=(ss.length:Int)) (a6:=c6) (a7:=some (.str sg36)) (a9:=c9) (a10:=c10) (a11:=c11) (a15:=none) (a16:=none) (w:=w) (h:=hh) S9 kl1 (by omega) (by omega) (by omega)
 -- the bed
 obtain⟨s11,e11,g11⟩:=zcI (mi:=mWA (mVar 3)) (f:=D.str) (h:=fun z=>za1 (z,1)) (as:=ss) (fr:=[]) (m:=zbL) (ρ0:=[]) (ρ:=r17 n most 9 l (ss.length:Int) s2.length c6 (some (.str sg36)) (some (.ref s4.length)) c9 c10 c11 (some (.int (w:Int))) (some (.int (hh:Int))) (some (.ref s8.length)) b15 b16) (st:=s10) (gd:=[(l,ss.map D.str)]) (by
   unfold mWA r17;simp[zij,za9,S10.nm,zb0]) (fun s' g=>zcq ((g.old _ (getElem?_lt S10.nm)).trans S10.nm)) rfl (by omega) (fun e he s' g=>⟨s',rfl,Gr.refl s'⟩)
 have a12:=zaS s11 (.lst (ss.map fun z=>za1 (z,1)));have g12:=Gr.app s11 [.lst (ss.map fun z=>za1 (z,1))];have kd12:=((g11.trans g12).old _ (getElem?_lt S10.kd)).trans S10.kd;have sd12:=((g11.trans g12).old _ (getElem?_lt S10.at_)).trans S10.at_;have p12:=S10.pot.gr (g11.trans g12);have f12':=S10.fr.trans (FrB.of (g11.trans g12));generalize hs12:s11++[O.lst (ss.map fun z=>za1 (z,1))]=s12 at *;have tc1:zcP [.ref s11.length] s12=some (.tup (ss.map fun z=>za1 (z,1)),s12):=by
   unfold zcP;simp[za9,a12]
 have tc2:zcP [.ref s4.length] s12=some (.tup (ks.map kD),s12):=by
   unfold zcP;simp[za9,kd12]
 have tc3:zcP [.ref s8.length] s12=some (zar ts,s12):=by
   unfold zcP zar;simp[za9,sd12]
 have hpm:∀ x∈ks,x.Ok:=fun x hx=>by
   obtain⟨h1,h2,h3,h4⟩:=K6.mem x hx;exact⟨ok2.pl _ h1,ok2.pl _ h2,ok2.pl _ h3,ok2.pl _ h4⟩
 have hnd:(ts.map plOf).Nodup:=by rw[hpl];exact zpj _ _ _
 have htm:∀ t∈ts,(0<=t.1/\t.1 < w/\0<=t.2.1/\t.2.1 < hh)/\frQ (w:Int) (plOf t)=true:=fun t ht=>by
   have:plOf t∈fl_ w hh w:=by rw[<-hpl];exact List.mem_map.mpr ⟨t,ht,rfl⟩
   exact zmN.mp this
 have hrim:∀ p∈ts.map plOf,p∈rim w hh:=fun p hp=>by
   obtain⟨t,ht,rfl⟩:=List.mem_map.mp hp;obtain⟨⟨x0,x1,y0,y1⟩,hf⟩:=htm t ht;refine (zf5 x0 x1 y0 y1).mpr ?_;unfold frQ at hf;rw[Bu,beq_iff_eq,beq_iff_eq] at hf;exact hf
 have hts:ts.length<=23:=by
   have:=sub_len hnd hrim;rw[Ad,zjB] at this;omega
 have hOk:Bd.Ok ⟨2,ss.map fun z=>(z,1),ks,(w:Int),(hh:Int),ts⟩ 0:=⟨by simpa using hs1,by simpa using hs8,fun p hp=>by
     obtain⟨z,hz,rfl⟩:=List.mem_map.mp hp;exact ok2.pl z hz,kl1,kl9,hpm,by show (1:Int)<=w;omega,by show (w:Int)<=12;omega,by show (1:Int)<=hh;omega,by show (hh:Int)<=12;omega,zfJ hnd,fun t ht=>(htm t ht).1,hts⟩
 refine⟨⟨2,ss.map fun z=>(z,1),ks,(w:Int),(hh:Int),ts⟩,s12,zcX ?_,hOk,?_,p12,f12'⟩
 . unfold zc4;show mSeq _ _ [some (.ref n),some (.int most),some (.int 9),none,none,none,none,none,none,none,none,none,none,none,none,none,none] st=_;refine zak (ρ1:=[some (.ref n),some (.int most),some (.int 9),some (.ref l),none,none,none,none,none,none,none,none,none,none,none,none,none]) (s1:=s2) (by simp[e1,e2]) ?_;refine zak (ρ1:=[some (.ref n),some (.int most),some (.int 9),some (.ref l),some (.int (ss.length:Int)),none,none,none,none,none,none,none,none,none,none,none,none]) (s1:=s2) (by
     generalize (ss.length:Int)=SL at *;simp[el]) ?_
   refine zak (ρ1:=r17 n most 9 l (ss.length:Int) s2.length none none none none none none none none none none none) (s1:=s3) (by rw[zbi,em3];rfl) ?_;refine zak e4 ?_;refine zak (ρ1:=r17 n most 9 l (ss.length:Int) s2.length b6 (some (.str sg36)) none none none none none none none none none) (s1:=s4) rfl ?_;refine zak (ρ1:=r17 n most 9 l (ss.length:Int) s2.length b6 (some (.str sg36)) (some (.ref s4.length)) none none none none none none none none) (s1:=s5) (by rw[zbi,em5];rfl) ?_;refine zak e6 ?_;refine zak (ρ1:=r17 n most 9 l (ss.length:Int) s2.length c6 (some (.str sg36)) (some (.ref s4.length)) c9 c10 c11 (some (.int (w:Int))) (some (.int (hh:Int))) none none none) (s1:=s8) (by
     rw[<-hw,<-hhe];unfold r17;generalize sg36=SG at *;generalize (ss.length:Int)=SL at *;simp[e7,e8]) ?_
   refine zak (ρ1:=r17 n most 9 l (ss.length:Int) s2.length c6 (some (.str sg36)) (some (.ref s4.length)) c9 c10 c11 (some (.int (w:Int))) (some (.int (hh:Int))) (some (.ref s8.length)) none none) (s1:=s9) (by rw[zbi,em9];rfl) ?_;refine zak e10 (zbO ?_);have hmm:(ss.map fun z=>(z,(1:Int))).map za1=ss.map fun z=>za1 (z,1):=by rw[A0];rfl
   unfold Bd.d Bd.hd Bd.fl;rw[hmm];generalize zbT (mWA (mVar 3)) 1 [] (gNm 0) (zb1) (zbL)=CM at *;unfold r17 at *;generalize sg36=SG at *;generalize (ss.length:Int)=SL at *;generalize D.tup (ss.map fun z=>za1 (z,1))=XX at *;generalize D.tup (ks.map kD)=YY at *;generalize zar ts=ZZ at *;simp[e11,tc1,tc2,tc3]
 . have hfe:=zhQ hOk;unfold Bd.fr;have h1:((ss.map fun z=>(z,(1:Int))).all fun p=>p.2==1)=true:=by
     rw[AX];intro p hp;obtain⟨z,_,rfl⟩:=List.mem_map.mp hp;rfl
   have h2:ks.any zcU=false:=by
     rw[Dz];intro x hx;obtain⟨h1,h2,h3,h4⟩:=K6.mem x hx;unfold zcU Kd.sides;rw[decide_eq_true_iff];intro hm;simp only[B3,CP,or_false] at hm
     rcases hm with e | e | e | e
     . exact ok2.ne _ h1 e.symm
     . exact ok2.ne _ h2 e.symm
     . exact ok2.ne _ h3 e.symm
     . exact ok2.ne _ h4 e.symm
   have h3:(zd9 (ks.map pr)).length=ks.length:=by
     refine zmu ?_;have:=(EL K6.prm).mpr (zlg ok2.nd);exact (List.nodup_append.mp this).1
   have h4:((Ar (w:Int).toNat).all fun x=>(Ar (hh:Int).toNat).all (atP ts (w:Int) x))=true:=by
     rw[AS,AS,AX];intro x hx;have hx:=List.mem_range.mp hx;rw[AX];intro y hy;have hy:=List.mem_range.mp hy;unfold atP;rw[hpl,beq_iff_eq,Bb,decide_eq_true_iff,zmN]
     constructor
     . exact fun z=>z.2
     . exact fun z=>⟨⟨by show (0:Int)<=x;omega,by show (x:Int) < w;omega,by show (0:Int)<=y;omega,by show (y:Int) < hh;omega⟩,z⟩
   have hfe:((Ar (w:Int).toNat).all fun x=>(Ar (hh:Int).toNat).all (atP ts (w:Int) x))=((ts.length:Int)==(w:Int)+(hh:Int) - 1&&ts.all (frP (w:Int))):=hfe;rw[h4] at hfe;show ((((2:Int)==2)&&((ss.map fun z=>(z,(1:Int))).all fun p=>p.2==1))&&(!ks.any zcU&&(decide ((zd9 (ks.map pr)).length=ks.length)&&((ts.length:Int)==(w:Int)+(hh:Int) - 1&&ts.all (frP (w:Int))))))=true;rw[h1,h2,decide_eq_true h3,<-hfe];rfl
end L2.MP.stickytiles_k64_what_is_framed
namespace L2.MP.stickytiles_k64_what_is_framed
open PySem L2.MP L2.MP.Hb
open L2.MP.Ce (zjY zjX zcI zfd zeF zbS ifT ifF ifB tstB notB orL orR andL andR zbO zb2 zcg zct slT zeW zcM)
open L2.MP.Hn (zar)
theorem zjv{ds:List D}{i:Nat}:slT ds none (some (i:Int))=ds.take i:=by
 have:=zmQ (fun d:D=>d) ds i
 rwa [F4,F4] at this
theorem zhU{ds:List D}{i:Nat}:slT ds (some ((i:Int)+1)) none=ds.drop (i+1):=by
 rw[zeW];unfold cutD;rw[show HT.sIx ds.length 0 (some ((i:Int)+1))=min (i+1) ds.length from HT.sIx_nat _ _ (i+1),HT.sIx_none]
 rcases Nat.le_total (i+1) ds.length with h | h
 . rw[FL h,Ec (by rw[BG];omega)]
 . rw[Fu h,Ed h,Ed (Ah _),List.take_nil]
theorem zeN{ds:List D}{i:Nat}{x:D}{I:Int}{st:Sto}(hI:I=(i:Int))(h:i < ds.length)(hl:ds.length<=1000):zau [.tup ds,.int I,x] st=some (.tup (ds.set i x),st):=by
 subst hI;have e1:slC (.tup ds) none (some (i:Int)) st=some (.tup (ds.take i),st):=by rw[zct,zjv]
 have e2:slC (.tup ds) (some ((i:Int)+1)) none st=some (.tup (ds.drop (i+1)),st):=by rw[zct,zhU]
 have l1:(ds.take i).length=i:=by rw[Bk];omega
 have l2:(ds.drop (i+1)).length=ds.length - (i+1):=BG;have e3:addE (.tup (ds.take i)) (.tup [x]) st=some (.tup (ds.take i++[x]),st):=zcM (by simp;omega);have e4:addD (.tup (ds.take i++[x])) (.tup (ds.drop (i+1))) st=some (.tup (ds.take i++[x]++ds.drop (i+1)),st):=zfl (by simp) (by simp;omega);have e5:ds.take i++[x]++ds.drop (i+1)=ds.set i x:=by rw[List.set_eq_take_append_cons_drop,if_pos h];simp
 rw[e5] at e4;refine zcX ?_;unfold zdG;show mRet _ [some (.tup ds),some (.int (i:Int)),some x] st=_;generalize ds.set i x=Y at *;generalize D.tup (ds.take i++[x])=Z at *;generalize D.tup (ds.take i)=U at *;generalize D.tup (ds.drop (i+1))=V at *;generalize D.tup ds=W at *;generalize (i:Int)=J at *;simp[zgN,e1,e2,e3,e4]
noncomputable def hdD(en:Int)(sk:List (Str×Int))(ks:List Kd):D:=.tup [.int en,.tup (sk.map za1),.tup (ks.map kD)]
structure HsOk(sk:List (Str×Int))(ks:List Kd)(m:Nat):Prop where
 sk1:1<=sk.length
 sk2:sk.length<=8
 skp:∀ p∈sk,Pln p.1
 kd1:1<=ks.length
 kd2:ks.length<=m
 kdp:∀ k∈ks,k.Ok
theorem HsOk.up{sk:List (Str×Int)}{ks:List Kd}{m k:Nat}(h:HsOk sk ks m)(hk:m<=k):HsOk sk ks k:=⟨h.sk1,h.sk2,h.skp,h.kd1,AH h.kd2 hk,h.kdp⟩
theorem HsOk.kset{sk:List (Str×Int)}{ks:List Kd}{m:Nat}(h:HsOk sk ks m)(i:Nat){x:Kd}(hx:x.Ok):HsOk sk (ks.set i x) m:=⟨h.sk1,h.sk2,h.skp,by rw[Bt];exact h.kd1,by rw[Bt];exact h.kd2,fun k hk=>by
 rcases DF hk with hk | rfl
 . exact h.kdp k hk
 . exact hx⟩
noncomputable def zhs(sk:List (Str×Int)):List Str:=Cc ""::sk.map (·.1)
theorem ziU(sk:List (Str×Int)):(zhs sk).length=sk.length+1:=by unfold zhs;rw[AW,Ad]
noncomputable def r10(n:Nat)(en:Int)(sk:List (Str×Int))(ks:List Kd)(way at_:Int)(a7 a8 a9:Option D):Rho:=[some (.ref n),some (hdD en sk ks),some (.int en),some (.tup (sk.map za1)),some (.tup (ks.map kD)),some (.int way),some (.int at_),a7,a8,a9]
noncomputable def Kd.put(k:Kd)(j:Nat)(z:Str):Kd:=match j with
 | 1=>{ k with n:=z }
 | 2=>{ k with e:=z }
 | 3=>{ k with s:=z }
 | _=>{ k with w:=z }
theorem Kd.put_ok{k:Kd}{j:Nat}{z:Str}(h:k.Ok)(hz:Pln z):(k.put j z).Ok:=by
 unfold Kd.put
 split
 . exact⟨hz,h.e,h.s,h.w⟩
 . exact⟨h.n,hz,h.s,h.w⟩
 . exact⟨h.n,h.e,hz,h.w⟩
 . exact⟨h.n,h.e,h.s,hz⟩
theorem zoY{k:Kd}{j:Nat}{z:Str}(h1:1<=j)(h2:j<=4):[D.str k.f,.str k.n,.str k.e,.str k.s,.str k.w].set j (.str z)=[D.str (k.put j z).f,.str (k.put j z).n,.str (k.put j z).e,.str (k.put j z).s,.str (k.put j z).w]:=by
 have:j=1\/j=2\/j=3\/j=4:=by omega
 rcases this with rfl | rfl | rfl | rfl <;> rfl
theorem zeD{α:Type}(f:α->D)(as:List α)(i:Nat)(x:α):(as.map f).set i (f x)=(as.set i x).map f:=List.map_set.symm
theorem zgI{n q:Nat}{st:Sto}{en:Int}{sk:List (Str×Int)}{ks:List Kd}{m:Nat}(hp:PotB n q st)(h:HsOk sk ks m)(hm:m<=50):∃ en' sk' ks' st',zay [.ref n,hdD en sk ks] st=some (hdD en' sk' ks',st')/\HsOk sk' ks' (m+1)/\PotB n q st'/\FrB n q st st':=by
 have hs1:=h.sk1;have hs2:=h.sk2;have hk1:=h.kd1;have hk2:=h.kd2;obtain⟨way,s1,e1,w0,w1,p1,f1⟩:=zaF (many:=5) hp (by decide) (by decide);obtain⟨at_,s2,e2,a0,a1,p2,f2⟩:=zaF (many:=(ks.length:Int)) p1 (by omega) (by omega);have f12:=f1.trans f2;have elk:∀ s:Sto,lenD [.tup (ks.map kD)] s=some (.int (ks.length:Int),s):=fun s=>by rw[zec,Ad]
 have els:∀ s:Sto,lenD [.tup (sk.map za1)] s=some (.int (sk.length:Int),s):=fun s=>by rw[zec,Ad]
 obtain⟨A,hA⟩:∃ A:Nat,at_=(A:Int):=⟨at_.toNat,by omega⟩
 have hAl:A < ks.length:=by omega
 have hAm:A < (ks.map kD).length:=by rw[Ad];exact hAl
 have xk:∀ (i:Nat) (hi:i < ks.length) (s:Sto),ixA (.tup (ks.map kD)) (.int (i:Int)) s=some (kD ks[i],s):=fun i hi s=>zbF (by omega) (by rw[AS,Av,Aj hi];rfl);have hkA:=h.kdp _ (AZ hAl);have tw:∀ (i:Int) (c7 c8 c9:Option D) (s:Sto),mTst (mBin eqD (mVar 5) (mCon (.int i))) (r10 n en sk ks way at_ c7 c8 c9) s=some (way==i,s):=fun i c7 c8 c9 s=>tstB (show _=_ from eq_int way i s);have pre:∀ {R:Option (Fl×Sto)} (C:MS),C (r10 n en sk ks way at_ none none none) s2=R->mSeq (mAsg (mVar 1) (gTp 3 (gC (gNm 2) (gC (gNm 3) (gC (gNm 4) (gN0)))))) (mSeq (mAsg (zap zac (zae (mVar 0) (zae (mCon (.int 5)) (mNil)))) (gNm 5)) (mSeq (mAsg (zap zac (zae (mVar 0) (zae (zap lenD (zae (mVar 4) (mNil))) (mNil)))) (gNm 6)) C)) [some (.ref n),some (hdD en sk ks),none,none,none,none,none,none,none,none] st=R:=fun C hR=>by
   have l1:=elk s1;refine zak (ρ1:=[some (.ref n),some (hdD en sk ks),some (.int en),some (.tup (sk.map za1)),some (.tup (ks.map kD)),none,none,none,none,none]) (s1:=st) rfl ?_;refine zak (ρ1:=[some (.ref n),some (hdD en sk ks),some (.int en),some (.tup (sk.map za1)),some (.tup (ks.map kD)),some (.int way),none,none,none,none]) (s1:=s1) (by simp[e1]) ?_;exact zak (ρ1:=r10 n en sk ks way at_ none none none) (s1:=s2) (by simp[r10,l1,e2]) hR
 by_cases h0:way=0
 . -- another enough
   obtain⟨hn,hq⟩:=p2.ne;have a3:=zaS s2 (.lst [.int 1,.int 3,.int 4]);have p3:=p2.gr (Gr.app s2 [.lst [.int 1,.int 3,.int 4]]);have f3:=FrB.app n q s2 [.lst [.int 1,.int 3,.int 4]];generalize hs3:s2++[O.lst [.int 1,.int 3,.int 4]]=s3 at *;obtain⟨r,s4,e4,r0,r1,p4,f4⟩:=zaF (many:=3) p3 (by decide) (by decide);have a4:=(f4.old _ (getElem?_lt a3) (AV hn) (AV hq)).trans a3;obtain⟨x,hx⟩:∃ x:Int,[D.int 1,.int 3,.int 4][r.toNat]?=some (.int x):=by
     have:r=0\/r=1\/r=2:=by omega
     rcases this with rfl | rfl | rfl <;> exact⟨_,rfl⟩
   have i4:=zcw a4 r0 hx;refine⟨x,sk,ks,s4,zcX ?_,h.up (Bz m),p4,(f12.trans f3).trans f4⟩;unfold zaq;refine pre _ (zco (ifT ((tw 0 none none none s2).trans (by rw[h0];rfl)) (zbO ?_)));unfold hdD;simp[r10,hs3,e4,i4]
 have t0:∀ s,mIf (mTst (mBin eqD (mVar 5) (mCon (.int 0)))) (mRet (mTup (zae (mBin ixA (mLst (zae (mCon (.int 1)) (zae (mCon (.int 3)) (zae (mCon (.int 4)) (mNil))))) (zap zac (zae (mVar 0) (zae (mCon (.int 3)) (mNil))))) (zae (mVar 3) (zae (mVar 4) (mNil)))))) (zcp) (r10 n en sk ks way at_ none none none) s=some (.nx (r10 n en sk ks way at_ none none none),s):=fun s=>ifF ((tw 0 none none none s).trans (by rw[beq_false_of_ne h0]))
 by_cases h1:way=1
 . -- another strength
   obtain⟨r,s3,e3,r0,r1,p3,f3⟩:=zaF (many:=(sk.length:Int)) p2 (by omega) (by omega);obtain⟨r4,s4,e4,r40,r41,p4,f4⟩:=zaF (many:=4) p3 (by decide) (by decide);obtain⟨B,hB⟩:∃ B:Nat,r=(B:Int):=⟨r.toNat,by omega⟩
   have hBl:B < sk.length:=by omega
   have xs:ixA (.tup (sk.map za1)) (.int r) s3=some (za1 sk[B],s3):=by rw[hB];exact zbF (by omega) (by rw[AS,Av,Aj hBl];rfl)
   have x0:ixA (za1 sk[B]) (.int 0) s3=some (.str sk[B].1,s3):=zbF (by decide) rfl;have hpB:=h.skp _ (AZ hBl);have ew:zau [.tup (sk.map za1),.int r,.tup [.str sk[B].1,.int (1+r4)]] s4=some (.tup ((sk.set B (sk[B].1,1+r4)).map za1),s4):=by
     rw[zeN hB (by rw[Ad];exact hBl) (by rw[Ad];omega)];rw[<-zeD za1];rfl
   refine⟨en,sk.set B (sk[B].1,1+r4),ks,s4,zcX ?_,⟨by rw[Bt];exact hs1,by rw[Bt];exact hs2,fun p hp'=>?_,hk1,by omega,h.kdp⟩,p4,(f12.trans f3).trans f4⟩
   . unfold zaq;refine pre _ (zak (t0 s2) (zco (ifT ((tw 1 none none none s2).trans (by rw[h1];rfl)) ?_)));refine zak (ρ1:=r10 n en sk ks way at_ (some (.int r)) none none) (s1:=s3) (by simp[r10,els,e3]) (zbO ?_);unfold hdD;generalize (sk.set B (sk[B].1,1+r4)).map za1=SK' at *;generalize za1 sk[B]=SB at *;generalize sk[B].1=NB at *;simp[r10,xs,x0,e4,ew]
   . rcases DF hp' with hp' | rfl
     . exact h.skp p hp'
     . exact hpB
 have t1:∀ (a:MS) s,mIf (mTst (mBin eqD (mVar 5) (mCon (.int 1)))) a (zcp) (r10 n en sk ks way at_ none none none) s=some (.nx (r10 n en sk ks way at_ none none none),s):=fun a s=>ifF ((tw 1 none none none s).trans (by rw[beq_false_of_ne h1]))
 by_cases h2:way=2
 . -- another side
   have ec:=zhZ (W:=⟨sk.map za1,[]⟩) (g:=gTp 2 (gC (gNm 0) (gC (gNm 1) (gN0)))) (c:=zb1) (m:=zaD) (f:=za1) (h:=fun p:Str×Int=>D.str p.1) (R:=fun r=>∃ x y,r=[x,y]) (as:=sk) (ρ:=[none,none]) (st:=s2) ⟨_,_,rfl⟩ rfl (fun p hp r hr=>by
     obtain⟨x,y,rfl⟩:=hr;exact⟨[some (.str p.1),some (.int p.2)],rfl,rfl,rfl,_,_,rfl⟩)
   have fl:fits (sk.map fun p:Str×Int=>D.str p.1).length=true:=zax (by rw[Ad];omega);have ecm:zbT (mWA (mVar 3)) 2 [] (gTp 2 (gC (gNm 0) (gC (gNm 1) (gN0)))) (zb1) (zaD) (r10 n en sk ks way at_ none none none) s2=some (.ref s2.length,s2++[.lst (sk.map fun p:Str×Int=>D.str p.1)]):=by
     rw[zaG,zce (ds:=sk.map za1) rfl];simp only[Ab];rw[show rho0 (r10 n en sk ks way at_ none none none) 2 []=[none,none] from rfl,ec];simp only[Ab,fl,if_true]
   have a3:=zaS s2 (.lst (sk.map fun p:Str×Int=>D.str p.1));have p3:=p2.gr (Gr.app s2 [.lst (sk.map fun p:Str×Int=>D.str p.1)]);have f3:=FrB.app n q s2 [.lst (sk.map fun p:Str×Int=>D.str p.1)];generalize hs3:s2++[O.lst (sk.map fun p:Str×Int=>D.str p.1)]=s3 at *;have tc:=zfT a3;have ea:addD (.tup [.str ""]) (.tup (sk.map fun p:Str×Int=>D.str p.1)) s3=some (.tup ((zhs sk).map D.str),s3):=by
     rw[zfl (by simp) (by simp;omega)];unfold zhs;rw[Au,A0];rfl
   obtain⟨r,s4,e4,r0,r1,p4,f4⟩:=zaF (many:=(sk.length:Int)+1) p3 (by omega) (by omega);have hrl:r.toNat < (zhs sk).length:=by rw[ziU];omega
   have xz:ixA (.tup ((zhs sk).map D.str)) (.int r) s4=some (.str ((zhs sk)[r.toNat]),s4):=zbF r0 (by rw[Av,Aj hrl];rfl);have hz:Pln ((zhs sk)[r.toNat]):=by
     have hm':=AZ hrl;generalize (zhs sk)[r.toNat]=z at hm'
     rcases List.mem_cons.mp hm' with rfl | hm'
     . exact zhb
     . obtain⟨p,hp',rfl⟩:=List.mem_map.mp hm';exact h.skp p hp'
   generalize (zhs sk)[r.toNat]=z at xz hz;obtain⟨r5,s5,e5,r50,r51,p5,f5⟩:=zaF (many:=4) p4 (by decide) (by decide);obtain⟨J,hJ⟩:∃ J:Nat,1+r5=(J:Int):=⟨(1+r5).toNat,by omega⟩
   have xa:=xk A hAl s4;rw[<-hA] at xa;have ew1:zau [kD ks[A],.int (1+r5),.str z] s5=some (kD (ks[A].put J z),s5):=by
     show zau [.tup [.str ks[A].f,.str ks[A].n,.str ks[A].e,.str ks[A].s,.str ks[A].w],.int (1+r5),.str z] s5=_;rw[zeN hJ (by simp;omega) (by simp),zoY (by omega) (by omega)];rfl
   have ew2:zau [.tup (ks.map kD),.int at_,kD (ks[A].put J z)] s5=some (.tup ((ks.set A (ks[A].put J z)).map kD),s5):=by
     rw[zeN hA hAm (by rw[Ad];omega),zeD kD]
   refine⟨en,sk,ks.set A (ks[A].put J z),s5,zcX ?_,(h.kset A (Kd.put_ok hkA hz)).up (Bz m),p5,((f12.trans f3).trans f4).trans f5⟩;unfold zaq;refine pre _ (zak (t0 s2) (zak (t1 _ s2) (zco (ifT ((tw 2 none none none s2).trans (by rw[h2];rfl)) ?_))));refine zak (ρ1:=r10 n en sk ks way at_ none (some (.str z)) none) (s1:=s4) ?_ (zbO ?_)
   . have l3:=els s3;generalize zbT (mWA (mVar 3)) 2 [] (gTp 2 (gC (gNm 0) (gC (gNm 1) (gN0)))) (zb1) (zaD)=CM at *;generalize D.tup ((zhs sk).map D.str)=NN at *;generalize D.tup (sk.map fun p:Str×Int=>D.str p.1)=NS at *;unfold r10 at *;generalize (sk.length:Int)=SL at *;simp[ecm,tc,ea,l3,e4,xz]
   . unfold hdD;generalize D.tup ((ks.set A (ks[A].put J z)).map kD)=KS' at *;generalize kD (ks[A].put J z)=KJ at *;generalize kD ks[A]=KA at *;simp[r10,xa,e5,ew1,ew2]
 have t2:∀ (a:MS) s,mIf (mTst (mBin eqD (mVar 5) (mCon (.int 2)))) a (zcp) (r10 n en sk ks way at_ none none none) s=some (.nx (r10 n en sk ks way at_ none none none),s):=fun a s=>ifF ((tw 2 none none none s).trans (by rw[beq_false_of_ne h2]));obtain⟨r,s3,e3,r0,r1,p3,f3⟩:=zaF (many:=(ks.length:Int)) p2 (by omega) (by omega);obtain⟨B,hB⟩:∃ B:Nat,r=(B:Int):=⟨r.toNat,by omega⟩
 have hBl:B < ks.length:=by omega
 have hkB:=h.kdp _ (AZ hBl);have xb:=xk B hBl s3;rw[<-hB] at xb;have t9:mAsg (mBin ixA (mVar 4) (zap zac (zae (mVar 0) (zae (zap lenD (zae (mVar 4) (mNil))) (mNil))))) (gNm 9) (r10 n en sk ks way at_ none none none) s2=some (.nx (r10 n en sk ks way at_ none none (some (kD ks[B]))),s3):=by
   have l2:=elk s2;generalize kD ks[B]=KB at *;unfold r10;generalize (ks.length:Int)=KL at *;simp[l2,e3,xb]
 by_cases h3:way=3
 . -- a kind twice
   have ea:addD (.tup (ks.map kD)) (.tup [kD ks[B]]) s3=some (.tup ((ks++[ks[B]]).map kD),s3):=by
     rw[zfl (by intro e;rw[List.map_eq_nil_iff] at e;rw[e] at hk1;simp at hk1) (by simp;omega),Bg];rfl
   refine⟨en,sk,ks++[ks[B]],s3,zcX ?_,⟨hs1,hs2,h.skp,by simp,by simp;omega,fun k hk=>?_⟩,p3,f12.trans f3⟩
   . unfold zaq;refine pre _ (zak (t0 s2) (zak (t1 _ s2) (zak (t2 _ s2) (zak t9 (zco (ifT ((tw 3 none none (some (kD ks[B])) s3).trans (by rw[h3];rfl)) (zbO ?_)))))));unfold hdD;generalize D.tup ((ks++[ks[B]]).map kD)=KS' at *;generalize kD ks[B]=KB at *;simp[r10,ea]
   . rcases List.mem_append.mp hk with hk | hk
     . exact h.kdp k hk
     . rw[List.mem_singleton.mp hk];exact hkB
 . -- the south and east of another one
   have xa:=xk A hAl s3;rw[<-hA] at xa;have hsl1:∀ k:Kd,slC (kD k) none (some 2) s3=some (.tup [.str k.f,.str k.n],s3):=fun k=>rfl;have hsl2:∀ k:Kd,slC (kD k) (some 2) (some 4) s3=some (.tup [.str k.e,.str k.s],s3):=fun k=>rfl;have hsl3:∀ k:Kd,slC (kD k) (some 4) none s3=some (.tup [.str k.w],s3):=fun k=>rfl;have ea1:addE (.tup [.str ks[A].f,.str ks[A].n]) (.tup [.str ks[B].e,.str ks[B].s]) s3=some (.tup [.str ks[A].f,.str ks[A].n,.str ks[B].e,.str ks[B].s],s3):=zcM (by simp);have ea2:addD (.tup [.str ks[A].f,.str ks[A].n,.str ks[B].e,.str ks[B].s]) (.tup [.str ks[A].w]) s3=some (kD ⟨ks[A].f,ks[A].n,ks[B].e,ks[B].s,ks[A].w⟩,s3):=zfl (by simp) (by simp);have ew:zau [.tup (ks.map kD),.int at_,kD ⟨ks[A].f,ks[A].n,ks[B].e,ks[B].s,ks[A].w⟩] s3=some (.tup ((ks.set A ⟨ks[A].f,ks[A].n,ks[B].e,ks[B].s,ks[A].w⟩).map kD),s3):=by
     rw[zeN hA hAm (by rw[Ad];omega),zeD kD]
   have hq1:=hsl1 ks[A];have hq2:=hsl2 ks[B];have hq3:=hsl3 ks[A];have hnew:Kd.Ok ⟨ks[A].f,ks[A].n,ks[B].e,ks[B].s,ks[A].w⟩:=⟨hkA.n,hkB.e,hkB.s,hkA.w⟩
   refine⟨en,sk,ks.set A ⟨ks[A].f,ks[A].n,ks[B].e,ks[B].s,ks[A].w⟩,s3,zcX ?_,(h.kset A hnew).up (Bz m),p3,f12.trans f3⟩;unfold zaq;refine pre _ (zak (t0 s2) (zak (t1 _ s2) (zak (t2 _ s2) (zak t9 (zak (ifF ((tw 3 none none (some (kD ks[B])) s3).trans (by rw[beq_false_of_ne h3]))) (zbO ?_))))));unfold hdD;generalize D.tup ((ks.set A ⟨ks[A].f,ks[A].n,ks[B].e,ks[B].s,ks[A].w⟩).map kD)=KS' at *;generalize kD ⟨ks[A].f,ks[A].n,ks[B].e,ks[B].s,ks[A].w⟩=KN at *;generalize kD ks[A]=KA at *;generalize kD ks[B]=KB at *;generalize D.tup [.str ks[A].f,.str ks[A].n,.str ks[B].e,.str ks[B].s]=U1 at *;generalize D.tup [.str ks[A].f,.str ks[A].n]=U2 at *;generalize D.tup [.str ks[B].e,.str ks[B].s]=U3 at *;generalize D.tup [.str ks[A].w]=U4 at *;simp[r10,zgN,xa,hq1,hq2,hq3,ea1,ea2,ew]
end L2.MP.stickytiles_k64_what_is_framed
namespace L2.MP.stickytiles_k64_what_is_framed
open PySem L2.MP L2.MP.Hb
open L2.MP.Ce (zjY zjX zcI zfd zeF zbS ifT ifF ifB tstB notB orL orR andL andR zbO zb2 zcg zct slT zeW zcM zge zcr)
open L2.MP.Hn (zar srtT zel zcF)
noncomputable def ro(n:Nat)(b:Bd)(way:Int)(a7 a8 a9 a10 a11:Option D):Rho:=[some (.ref n),some b.d,some b.hd,some (.int b.w),some (.int b.h),some (zar b.ts),some (.int way),a7,a8,a9,a10,a11]
theorem zn2{st:Sto}{l k:Nat}{ps:List Pl}(hl:st[l]?=some (.lst (ps.map plD)))(hk:st[k]?=some (.lst [])):neD (.ref l) (.ref k) st=some (.bl (!ps.isEmpty),st):=by
 have e1:toP 100 st (.ref l)=some (.list (ps.map plP)):=by
   rw[toP];simp only[za9,hl,Ab];rw[zcr (f:=plD) (p:=plP) fun a _=>zeO a];rfl
 have e2:toP 100 st (.ref k)=some (.list []):=by
   rw[toP];simp only[za9,hk,Ab];rfl
 unfold neD;rw[e1,e2]
 cases ps <;> rfl
structure Fre(n q lies fr:Nat)(b:Bd)(ps:List Pl)(s0 s:Sto):Prop where
 li:s[lies]?=some (.lst ((b.ts.map plOf).map plD))
 at_:s[fr]?=some (.lst (ps.map plD))
 ne:fr≠lies
 pot:PotB n q s
 f:FrB n q s0 s
 fn:fr≠n
 fq:fr≠q
 f0:s0.length<=fr
 ok:∀ p∈ps,(0<=p.1/\p.1 < b.w/\0<=p.2/\p.2 < b.h)/\p ∉ b.ts.map plOf
section
variable {n q lies fr:Nat} {b:Bd} {m:Nat} {a7 a8 a9 a10 a11:Option D} {way:Int}
theorem zjd{ps:List Pl}{s0 s:Sto}{x:Nat}(h:Fre n q lies fr b ps s0 s)(hb:b.Ok m)(hx:(x:Int) < b.w)(hl:ps.length<=1000):∃ ps' s',zaM (ro n b way a7 (some (.ref lies)) (some (.ref fr)) (some (.int (x:Int))) a11) s=some (.nx (ro n b way a7 (some (.ref lies)) (some (.ref fr)) (some (.int (x:Int))) a11),s')/\Fre n q lies fr b ps' s0 s'/\ps'.length<=ps.length+12:=by
 have hh1:=hb.h1;have hh2:=hb.h2;obtain⟨H,hH⟩:∃ H:Nat,b.h=(H:Int):=⟨b.h.toNat,by omega⟩
 have ec:=zeJ (W:=⟨run 0 H,[]⟩) (g:=gNm 0) (c:=zaK) (m:=zaW) (f:=fun y:Nat=>D.int (y:Int)) (h:=fun y:Nat=>plD ((x:Int),(y:Int))) (p:=fun y:Nat=>!decide (((x:Int),(y:Int))∈b.ts.map plOf)) (R:=fun r=>∃ z,r=[z,some (.int (x:Int)),some (.ref lies)]) (as:=Ar H) (ρ:=[none,some (.int (x:Int)),some (.ref lies)]) (st:=s) ⟨_,rfl⟩ rfl (fun y hy r hr=>by
   obtain⟨z,rfl⟩:=hr;refine⟨[some (.int (y:Int)),some (.int (x:Int)),some (.ref lies)],rfl,?_,fun _=>rfl,_,rfl⟩;have q:=zbS (f:=plD) (p:=plP) (x:=((x:Int),(y:Int))) zmO h.li (zeO _) (fun a _=>zeO a);unfold zaK;refine tstB ?_;have a1:mTup (zae (mVar 1) (zae (mVar 0) (mNil))) [some (.int (y:Int)),some (.int (x:Int)),some (.ref lies)] s=some (plD ((x:Int),(y:Int)),s):=rfl;have a2:mVar 2 [some (.int (y:Int)),some (.int (x:Int)),some (.ref lies)] s=some (.ref lies,s):=rfl;rw[zbl,a1,Ab,a2,Ab];exact q.trans (congrArg (fun c=>some (D.bl (!c),s)) (decide_eq_decide.mpr Iff.rfl)))
 rw[<-run_map] at ec;have hfl:((Ar H).filter fun y:Nat=>!decide (((x:Int),(y:Int))∈b.ts.map plOf)).length<=12:=AH (Eo _ _) (by rw[B7];omega);have hfm:∀ y∈(Ar H).filter fun y:Nat=>!decide (((x:Int),(y:Int))∈b.ts.map plOf),y < H/\((x:Int),(y:Int)) ∉ b.ts.map plOf:=fun y hy=>by
   obtain⟨h1,h2⟩:=List.mem_filter.mp hy;exact⟨List.mem_range.mp h1,by simpa using h2⟩
 generalize (Ar H).filter (fun y:Nat=>!decide (((x:Int),(y:Int))∈b.ts.map plOf))=ys at ec hfl hfm;have em:ys.map (fun y:Nat=>plD ((x:Int),(y:Int)))=(ys.map fun y:Nat=>(((x:Int),(y:Int)):Pl)).map plD:=by rw[A0];rfl
 rw[em] at ec;have fl:fits ((ys.map fun y:Nat=>(((x:Int),(y:Int)):Pl)).map plD).length=true:=zax (by rw[Ad,Ad];omega);have er:mR1 (mVar 4) (ro n b way a7 (some (.ref lies)) (some (.ref fr)) (some (.int (x:Int))) a11) s=some (⟨run 0 H,[]⟩,s):=Hd.zdv (s1:=s) (k:=H) (M:=b.h) hH rfl (by omega);have ecm:zbT (mR1 (mVar 4)) 1 [10,8] (gNm 0) (zaK) (zaW) (ro n b way a7 (some (.ref lies)) (some (.ref fr)) (some (.int (x:Int))) a11) s=some (.ref s.length,s++[.lst ((ys.map fun y:Nat=>(((x:Int),(y:Int)):Pl)).map plD)]):=by
   rw[zaG,er];simp only[Ab];rw[show rho0 (ro n b way a7 (some (.ref lies)) (some (.ref fr)) (some (.int (x:Int))) a11) 1 [10,8]=[none,some (.int (x:Int)),some (.ref lies)] from rfl,ec];simp only[Ab,fl,if_true]
 have g1:=Gr.app s [.lst ((ys.map fun y:Nat=>(((x:Int),(y:Int)):Pl)).map plD)];have b1:=zaS s (.lst ((ys.map fun y:Nat=>(((x:Int),(y:Int)):Pl)).map plD));have li1:=(g1.old _ (getElem?_lt h.li)).trans h.li;have at1:=(g1.old _ (getElem?_lt h.at_)).trans h.at_;have p1:=h.pot.gr g1;have f1:=h.f.trans (FrB.of g1);generalize s++[O.lst ((ys.map fun y:Nat=>(((x:Int),(y:Int)):Pl)).map plD)]=s1 at *;have ee:=Hn.zgj at1 b1 (by rw[Ad,Ad,Ad];omega);rw[<-Bg] at ee;refine⟨ps++ys.map fun y:Nat=>(((x:Int),(y:Int)):Pl),_,?_,⟨by rw[AB h.ne];exact li1,Bv (getElem?_lt at1),h.ne,p1.set h.fn h.fq,FrB.set' f1 h.f0,h.fn,h.fq,h.f0,fun p hp=>?_⟩,by rw[AF,Ad];omega⟩
 . unfold zaM;have tl:za9 s fr=some (ps.map plD):=by unfold za9;simp only[h.at_]
   have v9:mVar 9 (ro n b way a7 (some (.ref lies)) (some (.ref fr)) (some (.int (x:Int))) a11) s=some (.ref fr,s):=rfl;have ex:mExt (mVar 9) (zae (zbT (mR1 (mVar 4)) 1 [10,8] (gNm 0) (zaK) (zaW)) (mNil)) (ro n b way a7 (some (.ref lies)) (some (.ref fr)) (some (.int (x:Int))) a11) s=some (.non,s1.set fr (.lst ((ps++ys.map fun y:Nat=>(((x:Int),(y:Int)):Pl)).map plD))):=by
     rw[zm2,v9];simp only[Ab,tl,zaJ,zbr,ecm,ee]
   rw[zbK,ex];rfl
 . rcases List.mem_append.mp hp with hp | hp
   . exact h.ok p hp
   . obtain⟨y,hy,rfl⟩:=List.mem_map.mp hp;obtain⟨h1,h2⟩:=hfm y hy;exact⟨⟨by show (0:Int)<=x;omega,hx,by show (0:Int)<=y;omega,by show (y:Int) < b.h;omega⟩,h2⟩
theorem zgi{s0 s:Sto}(h:Fre n q lies fr b [] s0 s)(hb:b.Ok m):∃ b10 ps s',mFor (mR1 (mVar 3)) (gNm 10) (zaM) (ro n b way a7 (some (.ref lies)) (some (.ref fr)) a10 a11) s=some (.nx (ro n b way a7 (some (.ref lies)) (some (.ref fr)) b10 a11),s')/\Fre n q lies fr b ps s0 s'/\ps.length<=200:=by
 have hw1:=hb.w1;have hw2:=hb.w2;obtain⟨W,hW⟩:∃ W:Nat,b.w=(W:Int):=⟨b.w.toNat,by omega⟩
 have key:=zcW (W:=⟨run 0 W,[]⟩) (g:=gNm 10) (m:=zaM) (ds:=run 0 W) (ρ:=ro n b way a7 (some (.ref lies)) (some (.ref fr)) a10 a11) (st:=s)
   (Inv:=fun i ρ s'=>∃ b10 ps,ρ=ro n b way a7 (some (.ref lies)) (some (.ref fr)) b10 a11/\Fre n q lies fr b ps s0 s'/\ps.length<=i*12) ⟨_,[],rfl,h,Ah _⟩ (fun _ _ _ _ _=>rfl) (fun i d ρ s' hd hI=>by
     obtain⟨b10,ps,rfl,hF,hl⟩:=hI;obtain⟨hi,rfl⟩:=Hd.ziF hd;obtain⟨ps2,s2,e2,F2,l2⟩:=zjd (way:=way) (a7:=a7) (a11:=a11) (x:=i) hF hb (by omega) (by omega);exact⟨ro n b way a7 (some (.ref lies)) (some (.ref fr)) (some (.int (i:Int))) a11,s',_,s2,rfl,e2,_,ps2,rfl,F2,by omega⟩)
 obtain⟨ρ',s',el,b10,ps,rfl,hF,hl⟩:=key;rw[zcS] at hl;refine⟨b10,ps,s',?_,hF,by omega⟩;have er:mR1 (mVar 3) (ro n b way a7 (some (.ref lies)) (some (.ref fr)) a10 a11) s=some (⟨run 0 W,[]⟩,s):=Hd.zdv (s1:=s) (k:=W) (M:=b.w) hW rfl (by omega);rw[zbb,er];exact el
end
theorem ziL{a b:List Tl}(p:a.Perm b)(h:PlNd b):PlNd a:=(p.pairwise_iff (fun {x y} q=>by rw[zgA];exact q)).mpr h
theorem Bd.Ok.hs{b:Bd}{m:Nat}(h:b.Ok m):HsOk b.sk b.ks (9+m):=⟨h.sk1,h.sk2,h.skp,h.kd1,h.kd2,h.kdp⟩
theorem zhi{n q:Nat}{st:Sto}{b:Bd}{m:Nat}(hp:PotB n q st)(hb:b.Ok m)(hm:m<=5)(hne:b.ts≠[]):∃ (b':Bd) (st':Sto),zaw [.ref n,b.d] st=some (b'.d,st')/\b'.Ok (m+1)/\PotB n q st'/\FrB n q st st':=by
 have hw1:=hb.w1;have hw2:=hb.w2;have hh1:=hb.h1;have hh2:=hb.h2;have htl:=hb.tsl;have hkl:=hb.kd2;have hk1:=hb.kd1;have htp:0 < b.ts.length:=List.length_pos_iff.mpr hne;obtain⟨way,s1,e1,w0,w1,p1,f1⟩:=zaF (many:=8) hp (by decide) (by decide);have i1:∀ s:Sto,ixA b.d (.int 1) s=some (b.fl,s):=fun s=>zbF (by decide) rfl;have elt:∀ s:Sto,lenD [zar b.ts] s=some (.int (b.ts.length:Int),s):=fun s=>by unfold zar;rw[zec,Ad]
 have pre:∀ {R:Option (Fl×Sto)} (C:MS),C (ro n b way none none none none none) s1=R->mSeq (mAsg (mVar 1) (gTp 3 (gC (gNm 2) (gC (gTp 2 (gC (gNm 3) (gC (gNm 4) (gN0)))) (gC (gNm 5) (gN0)))))) (mSeq (mAsg (zap zac (zae (mVar 0) (zae (mCon (.int 8)) (mNil)))) (gNm 6)) C) [some (.ref n),some b.d,none,none,none,none,none,none,none,none,none,none] st=R:=fun C hR=>by
   refine zak (ρ1:=[some (.ref n),some b.d,some b.hd,some (.int b.w),some (.int b.h),some (zar b.ts),none,none,none,none,none,none]) (s1:=st) rfl ?_;exact zak (ρ1:=ro n b way none none none none none) (s1:=s1) (by simp[ro,e1]) hR
 by_cases h4:way < 4
 . -- the house
   obtain⟨en',sk',ks',s2,e2,ok2,p2,f2⟩:=zgI (en:=b.en) p1 hb.hs (by omega);refine⟨⟨en',sk',ks',b.w,b.h,b.ts⟩,s2,zcX ?_,⟨ok2.sk1,ok2.sk2,ok2.skp,ok2.kd1,ok2.kd2,ok2.kdp,hw1,hw2,hh1,hh2,hb.tsn,hb.tsp,by show b.ts.length<=23+(m+1);omega⟩,p2,f1.trans f2⟩;unfold zaH;refine pre _ (zco (ifT (s1:=s1) ?_ (zbO ?_)))
   . unfold ro;simp[h4]
   . have e2:zay [.ref n,b.hd] s1=some (hdD en' sk' ks',s2):=e2;have k1:=i1 s2;show _=some (D.tup [hdD en' sk' ks',b.fl,zar b.ts],s2);unfold ro;generalize hdD en' sk' ks'=H2 at *;generalize b.d=Dd at *;generalize b.hd=Hh at *;generalize b.fl=Ff at *;generalize zar b.ts=Ss at *;simp[e2,k1]
 have t4:∀ a,mIf (mTst (mBin ltD (mVar 6) (mCon (.int 4)))) a zcp (ro n b way none none none none none) s1=some (.nx (ro n b way none none none none none),s1):=fun a=>ifF (by
   unfold ro;simp[h4])
 obtain⟨at_,s2,e2,a0,a1,p2,f2⟩:=zaF (many:=(b.ts.length:Int)) p1 (by omega) (by omega);have f12:=f1.trans f2;obtain⟨A,hA⟩:∃ A:Nat,at_=(A:Int):=⟨at_.toNat,by omega⟩
 have hAl:A < b.ts.length:=by omega
 have t7:mAsg (zap zac (zae (mVar 0) (zae (zap lenD (zae (mVar 5) (mNil))) (mNil)))) (gNm 7) (ro n b way none none none none none) s1=some (.nx (ro n b way (some (.int at_)) none none none none),s2):=by
   have l1:=elt s1;unfold ro;generalize zar b.ts=Ss at *;generalize (b.ts.length:Int)=TL at *;simp[l1,e2]
 have tw:∀ (i:Int) (c8 c9 c10 c11:Option D) (s:Sto),mTst (mBin eqD (mVar 6) (mCon (.int i))) (ro n b way (some (.int at_)) c8 c9 c10 c11) s=some (way==i,s):=fun i c8 c9 c10 c11 s=>tstB (show _=_ from eq_int way i s);have pre2:∀ {R:Option (Fl×Sto)} (a:MS) (C:MS),C (ro n b way (some (.int at_)) none none none none) s2=R->mSeq (mIf (mTst (mBin ltD (mVar 6) (mCon (.int 4)))) a zcp) (mSeq (mAsg (zap zac (zae (mVar 0) (zae (zap lenD (zae (mVar 5) (mNil))) (mNil)))) (gNm 7)) C) (ro n b way none none none none none) s1=R:=fun a C hR=>zak (t4 a) (zak t7 hR);have hAm:A < (b.ts.map fun t=>tupD (rowT t)).length:=by rw[Ad];exact hAl
 by_cases h5:way=4
 . -- a tile taken away
   have c1:slC (zar b.ts) none (some at_) s2=some (.tup ((b.ts.take A).map fun t=>tupD (rowT t)),s2):=by rw[hA];unfold zar;rw[zct,zjv,EC]
   have c2:slC (zar b.ts) (some (at_+1)) none s2=some (.tup ((b.ts.drop (A+1)).map fun t=>tupD (rowT t)),s2):=by rw[hA];unfold zar;rw[zct,zhU,FX]
   have l1:(b.ts.take A).length<=100:=by rw[Bk];omega
   have l2:(b.ts.drop (A+1)).length<=100:=by rw[BG];omega
   have c3:addE (.tup ((b.ts.take A).map fun t=>tupD (rowT t))) (.tup ((b.ts.drop (A+1)).map fun t=>tupD (rowT t))) s2=some (zar (b.ts.eraseIdx A),s2):=by
     rw[zcM (by rw[Ad,Ad];omega),<-Bg,List.eraseIdx_eq_take_drop_succ];rfl
   have sb:(b.ts.eraseIdx A).Sublist b.ts:=List.eraseIdx_sublist _ _;refine⟨⟨b.en,b.sk,b.ks,b.w,b.h,b.ts.eraseIdx A⟩,s2,zcX ?_,⟨hb.sk1,hb.sk2,hb.skp,hk1,by show b.ks.length<=9+(m+1);omega,hb.kdp,hw1,hw2,hh1,hh2,hb.tsn.sublist sb,fun t ht=>hb.tsp t (sb.mem ht),by show (b.ts.eraseIdx A).length<=_;have:=sb.length_le;omega⟩,p2,f12⟩;unfold zaH;refine pre _ (pre2 _ _ (zco (ifT ((tw 4 none none none none s2).trans (by rw[h5];rfl)) (zbO ?_))));have k1:=i1 s2;show _=some (D.tup [b.hd,b.fl,zar (b.ts.eraseIdx A)],s2);generalize zar (b.ts.eraseIdx A)=S2 at *;unfold ro;generalize D.tup ((b.ts.take A).map fun t=>tupD (rowT t))=U1 at *;generalize D.tup ((b.ts.drop (A+1)).map fun t=>tupD (rowT t))=U2 at *;generalize b.d=Dd at *;generalize b.hd=Hh at *;generalize b.fl=Ff at *;generalize zar b.ts=Ss at *;simp[zgN,c1,c2,c3,k1]
 have t5:∀ a s,mIf (mTst (mBin eqD (mVar 6) (mCon (.int 4)))) a zcp (ro n b way (some (.int at_)) none none none none) s=some (.nx (ro n b way (some (.int at_)) none none none none),s):=fun a s=>ifF ((tw 4 none none none none s).trans (by rw[beq_false_of_ne h5]))
 by_cases h6:way=5
 . -- another kind
   obtain⟨r,s3,e3,r0,r1,p3,f3⟩:=zaF (many:=(b.ks.length:Int)) p2 (by omega) (by omega);have xa:ixA (zar b.ts) (.int at_) s2=some (tupD (rowT b.ts[A]),s2):=by rw[hA];exact zbF (by omega) (by rw[AS,Av,Aj hAl];rfl)
   have c1:slC (tupD (rowT b.ts[A])) none (some 2) s2=some (plD (plOf b.ts[A]),s2):=rfl;have j2:ixA b.hd (.int 2) s2=some (.tup (b.ks.map kD),s2):=zbF (by decide) rfl;have lk:lenD [.tup (b.ks.map kD)] s2=some (.int (b.ks.length:Int),s2):=by rw[zec,Ad]
   have c2:addE (plD (plOf b.ts[A])) (.tup [.int r]) s3=some (tupD (rowT (b.ts[A].1,b.ts[A].2.1,r)),s3):=zcM (by simp);have ew:zau [zar b.ts,.int at_,tupD (rowT (b.ts[A].1,b.ts[A].2.1,r))] s3=some (zar (b.ts.set A (b.ts[A].1,b.ts[A].2.1,r)),s3):=by
     unfold zar;rw[zeN hA hAm (by rw[Ad];omega),zeD (fun t:Tl=>tupD (rowT t))]
   have hpe:(b.ts.set A (b.ts[A].1,b.ts[A].2.1,r)).map plOf=b.ts.map plOf:=by
     rw[List.map_set];have:plOf (b.ts[A].1,b.ts[A].2.1,r)=(b.ts.map plOf)[A]'(by rw[Ad];exact hAl):=by rw[DN];rfl
     rw[this,List.set_getElem_self]
   refine⟨⟨b.en,b.sk,b.ks,b.w,b.h,b.ts.set A (b.ts[A].1,b.ts[A].2.1,r)⟩,s3,zcX ?_,⟨hb.sk1,hb.sk2,hb.skp,hk1,by show b.ks.length<=9+(m+1);omega,hb.kdp,hw1,hw2,hh1,hh2,zfJ (by rw[hpe];exact zfC hb.tsn),fun t ht=>?_,by show (b.ts.set A _).length<=_;rw[Bt];omega⟩,p3,f12.trans f3⟩
   . unfold zaH;refine pre _ (pre2 _ _ (zak (t5 _ s2) (zco (ifT ((tw 5 none none none none s2).trans (by rw[h6];rfl)) (zbO ?_)))));have k1:=i1 s2;show _=some (D.tup [b.hd,b.fl,zar (b.ts.set A (b.ts[A].1,b.ts[A].2.1,r))],s3);generalize zar (b.ts.set A (b.ts[A].1,b.ts[A].2.1,r))=S2 at *;unfold ro;generalize tupD (rowT (b.ts[A].1,b.ts[A].2.1,r))=U1 at *;generalize tupD (rowT b.ts[A])=U2 at *;generalize plD (plOf b.ts[A])=U3 at *;generalize D.tup (b.ks.map kD)=Ks at *;generalize (b.ks.length:Int)=KL at *;generalize b.d=Dd at *;generalize b.hd=Hh at *;generalize b.fl=Ff at *;generalize zar b.ts=Ss at *;simp[zgN,xa,c1,j2,lk,e3,c2,ew,k1]
   . have hmm:plOf t∈b.ts.map plOf:=by rw[<-hpe];exact List.mem_map.mpr ⟨t,ht,rfl⟩
     obtain⟨t',ht',e⟩:=List.mem_map.mp hmm;have:=hb.tsp t' ht';unfold plOf at e;simp at e;rw[<-e.1,<-e.2];exact this
 have t6:∀ a s,mIf (mTst (mBin eqD (mVar 6) (mCon (.int 5)))) a zcp (ro n b way (some (.int at_)) none none none none) s=some (.nx (ro n b way (some (.int at_)) none none none none),s):=fun a s=>ifF ((tw 5 none none none none s).trans (by rw[beq_false_of_ne h6]))
 by_cases h7:way=6
 . -- one more tile
   obtain⟨s3,e3,g3⟩:=zcI (mi:=mWA (mVar 5)) (f:=fun t:Tl=>tupD (rowT t)) (h:=fun t=>plD (plOf t)) (as:=b.ts) (fr:=[]) (m:=zbW) (ρ0:=[]) (ρ:=ro n b way (some (.int at_)) none none none none) (st:=s2) (gd:=[]) (zce rfl) (fun _ _=>rfl) rfl (by omega) (fun z hz s g=>⟨s,rfl,Gr.refl s⟩);have g4:=Gr.app s3 [.lst (b.ts.map fun t=>plD (plOf t))];have b4:(s3++[O.lst (b.ts.map fun t=>plD (plOf t))])[s3.length]?=some (.lst ((b.ts.map plOf).map plD)):=by rw[A0];exact zaS s3 _
   generalize hs4:s3++[O.lst (b.ts.map fun t=>plD (plOf t))]=s4 at *;have g5:=Gr.app s4 [.lst []];have a5:=zaS s4 (.lst []);have em5:∀ ρ,mLst mNil ρ s4=some (.ref s4.length,s4++[.lst []]):=fun ρ=>rfl;have b5:=(g5.old _ (getElem?_lt b4)).trans b4;have p4:=(p2.gr g3).gr g4;obtain⟨hn4,hq4⟩:=p4.ne;have l4:=getElem?_lt b4;have f4:=f12.trans (FrB.of (g3.trans g4));generalize hs5:s4++[O.lst []]=s5 at *;have F5:Fre n q s3.length s4.length b [] st s5:=⟨b5,a5,by omega,p4.gr g5,f4.trans (FrB.of g5),AV hn4,AV hq4,f4.len,by simp⟩
   obtain⟨b10,ps,s6,e6,F6,l6⟩:=zgi (way:=way) (a7:=some (.int at_)) (a10:=none) (a11:=none) F5 hb
   -- the list of none or one
   have g7:=Gr.app s6 [.lst []];have a7:=zaS s6 (.lst []);have at7:=(g7.old _ (getElem?_lt F6.at_)).trans F6.at_;have em7:∀ ρ,mLst mNil ρ s6=some (.ref s6.length,s6++[.lst []]):=fun ρ=>rfl;have p7:=F6.pot.gr g7;have f7:=F6.f.trans (FrB.of g7);generalize hs7:s6++[O.lst []]=s7 at *;have nn:=zn2 at7 a7;have tn:mTst (mBin neD (mVar 9) (mLst (mNil))) (ro n b way (some (.int at_)) (some (.ref s3.length)) (some (.ref s4.length)) b10 none) s6=some (!ps.isEmpty,s7):=by
     refine tstB ?_;have v9:mVar 9 (ro n b way (some (.int at_)) (some (.ref s3.length)) (some (.ref s4.length)) b10 none) s6=some (.ref s4.length,s6):=rfl;rw[zbl,v9,Ab,em7,Ab];exact nn
   have some_ok:∃ (xs:List Tl) (l8:Nat) (s8:Sto),mIte (mTst (mBin neD (mVar 9) (mLst (mNil)))) (mLst (zae (mBin addE (mBin ixA (mVar 9) (zap zac (zae (mVar 0) (zae (zap lenD (zae (mVar 9) (mNil))) (mNil))))) (mTup (zae (mCon (.int 0)) (mNil)))) (mNil))) (mLst (mNil)) (ro n b way (some (.int at_)) (some (.ref s3.length)) (some (.ref s4.length)) b10 none) s6=some (.ref l8,s8)/\s8[l8]?=some (.lst (xs.map fun t=>tupD (rowT t)))/\PotB n q s8/\FrB n q st s8/\xs.length<=1/\PlNd (b.ts++xs)/\∀ t∈xs,0<=t.1/\t.1 < b.w/\0<=t.2.1/\t.2.1 < b.h:=by
     cases hps:ps with
     | nil =>
       subst hps;have g8:=Gr.app s7 [.lst []];refine⟨[],s7.length,s7++[.lst []],?_,zaS _ _,p7.gr g8,f7.trans (FrB.of g8),by simp,by rw[As];exact hb.tsn,by simp⟩;rw[zic,tn];rfl
     | cons p0 pr0 =>
       have hpl:0 < ps.length:=by rw[hps];simp
       have el7:=ze9 at7;rw[Ad] at el7;obtain⟨r,s8,e8,r0,r1,p8,f8⟩:=zaF (many:=(ps.length:Int)) p7 (by omega) (by omega);have at8:=(f8.old _ (getElem?_lt at7) F6.fn F6.fq).trans at7;have hr:r.toNat < ps.length:=by omega
       have x8:ixA (.ref s4.length) (.int r) s8=some (plD ps[r.toNat],s8):=zcw at8 r0 (by rw[Av,Aj hr];rfl);obtain⟨hin,hout⟩:=F6.ok _ (AZ hr);generalize ps[r.toNat]=pp at x8 hin hout;have ad:addE (plD pp) (.tup [.int 0]) s8=some (tupD (rowT (pp.1,pp.2,0)),s8):=zcM (by simp);have g9:=Gr.app s8 [.lst [tupD (rowT (pp.1,pp.2,0))]];refine⟨[(pp.1,pp.2,0)],s8.length,s8++[.lst [tupD (rowT (pp.1,pp.2,0))]],?_,zaS _ _,p8.gr g9,(f7.trans f8).trans (FrB.of g9),by simp,?_,?_⟩
       . have hne:(!ps.isEmpty)=true:=by rw[hps];rfl
         rw[hne] at tn;rw[zic,tn,Ab];show mLst _ _ s7=_;unfold ro;generalize tupD (rowT (pp.1,pp.2,0))=U1 at *;generalize plD pp=U2 at *;generalize b.d=Dd at *;generalize b.hd=Hh at *;generalize zar b.ts=Ss at *;generalize (ps.length:Int)=PL at *;simp[el7,e8,x8,ad]
       . refine zfJ ?_;rw[Bg];refine List.nodup_append.mpr ⟨zfC hb.tsn,by simp,fun x hx y hy e=>?_⟩;rw[List.mem_singleton.mp hy] at e;subst e;exact hout hx
       . intro t ht;rw[List.mem_singleton.mp ht];exact hin
   obtain⟨xs,l8,s8,e8,at8,p8,f8,lx,ndx,inx⟩:=some_ok;have hlb:=zge (ds:=b.ts.map fun t=>tupD (rowT t)) (s:=s8) (by rw[Ad];omega);have g9:=Gr.app s8 [.lst (b.ts.map fun t=>tupD (rowT t))];have a9:=zaS s8 (.lst (b.ts.map fun t=>tupD (rowT t)));have at9:=(g9.old _ (getElem?_lt at8)).trans at8;generalize hs9:s8++[O.lst (b.ts.map fun t=>tupD (rowT t))]=s9 at *;have ad:=zm4 a9 at9 (by rw[Ad,Ad];omega);rw[<-Bg] at ad;have g10:=Gr.app s9 [.lst ((b.ts++xs).map fun t=>tupD (rowT t))];have a10:=zaS s9 (.lst ((b.ts++xs).map fun t=>tupD (rowT t)));generalize hs10:s9++[O.lst ((b.ts++xs).map fun t=>tupD (rowT t))]=s10 at *;have es:=zcF a10 (by rw[AF];omega);have es':zcs [.ref s9.length] s10=some (.ref s10.length,s10++[.lst ((srtT (b.ts++xs)).map fun t=>tupD (rowT t))]):=by
     unfold zcs orN;rw[es,zb0]
   have g11:=Gr.app s10 [.lst ((srtT (b.ts++xs)).map fun t=>tupD (rowT t))];have a11:=zaS s10 (.lst ((srtT (b.ts++xs)).map fun t=>tupD (rowT t)));generalize hs11:s10++[O.lst ((srtT (b.ts++xs)).map fun t=>tupD (rowT t))]=s11 at *;have tc:=zfT a11;have pm:=zel (b.ts++xs);have G:=(g9.trans g10).trans g11;refine⟨⟨b.en,b.sk,b.ks,b.w,b.h,srtT (b.ts++xs)⟩,s11,zcX ?_,⟨hb.sk1,hb.sk2,hb.skp,hk1,by show b.ks.length<=9+(m+1);omega,hb.kdp,hw1,hw2,hh1,hh2,ziL pm ndx,fun t ht=>?_,by show (srtT (b.ts++xs)).length<=_;rw[pm.length_eq,AF];omega⟩,p8.gr G,f8.trans (FrB.of G)⟩
   . unfold zaH;refine pre _ (pre2 _ _ (zak (t5 _ s2) (zak (t6 _ s2) (zco (ifT ((tw 6 none none none none s2).trans (by rw[h7];rfl)) ?_)))));refine zak (ρ1:=ro n b way (some (.int at_)) (some (.ref s3.length)) none none none) (s1:=s4) (by rw[zbi,e3];rfl) ?_;refine zak (ρ1:=ro n b way (some (.int at_)) (some (.ref s3.length)) (some (.ref s4.length)) none none) (s1:=s5) (by rw[zbi,em5];rfl) ?_;refine zak e6 ?_;refine zak (ρ1:=ro n b way (some (.int at_)) (some (.ref s3.length)) (some (.ref s4.length)) b10 (some (.ref l8))) (s1:=s8) (by rw[zbi,e8];rfl) (zbO ?_);have k1:=i1 s8;have hlb':zmH [zar b.ts] s8=some (.ref s8.length,s9):=hlb;show _=some (D.tup [b.hd,b.fl,.tup ((srtT (b.ts++xs)).map fun t=>tupD (rowT t))],s11);generalize D.tup ((srtT (b.ts++xs)).map fun t=>tupD (rowT t))=S2 at *;unfold ro;generalize b.d=Dd at *;generalize b.hd=Hh at *;generalize b.fl=Ff at *;generalize zar b.ts=Ss at *;simp[k1,hlb',ad,es',tc]
   . rcases List.mem_append.mp (pm.mem_iff.mp ht) with ht | ht
     . exact hb.tsp t ht
     . exact inx t ht
 . -- a greater floor
   have t7':∀ a s,mIf (mTst (mBin eqD (mVar 6) (mCon (.int 6)))) a zcp (ro n b way (some (.int at_)) none none none none) s=some (.nx (ro n b way (some (.int at_)) none none none none),s):=fun a s=>ifF ((tw 6 none none none none s).trans (by rw[beq_false_of_ne h7]));obtain⟨W,hW,hW1,hW2⟩:∃ W:Int,(if b.w+1 < 12 then b.w+1 else 12)=W/\b.w<=W/\W<=12:=⟨_,rfl,by split <;> omega,by split <;> omega⟩
   obtain⟨Hh',hH,hH1,hH2⟩:∃ W:Int,(if b.h+1 < 12 then b.h+1 else 12)=W/\b.h<=W/\W<=12:=⟨_,rfl,by split <;> omega,by split <;> omega⟩
   have m1:zih [.int 12,.int (b.w+1)] s2=some (.int W,s2):=by rw[<-hW];rfl
   have m2:zih [.int 12,.int (b.h+1)] s2=some (.int Hh',s2):=by rw[<-hH];rfl
   obtain⟨hn,hq⟩:=p2.ne;have a3:=zaS s2 (.lst [.tup [.int W,.int b.h],.tup [.int b.w,.int Hh']]);have p3:=p2.gr (Gr.app s2 [.lst [.tup [.int W,.int b.h],.tup [.int b.w,.int Hh']]]);have f3:=FrB.app n q s2 [.lst [.tup [.int W,.int b.h],.tup [.int b.w,.int Hh']]];generalize hs3:s2++[O.lst [.tup [.int W,.int b.h],.tup [.int b.w,.int Hh']]]=s3 at *;obtain⟨r,s4,e4,r0,r1,p4,f4⟩:=zaF (many:=2) p3 (by decide) (by decide);have a4:=(f4.old _ (getElem?_lt a3) (AV hn) (AV hq)).trans a3;obtain⟨w',h',hx,hw',hw2',hh',hh2'⟩:∃ w' h':Int,[D.tup [.int W,.int b.h],.tup [.int b.w,.int Hh']][r.toNat]?=some (.tup [.int w',.int h'])/\b.w<=w'/\w'<=12/\b.h<=h'/\h'<=12:=by
     have:r=0\/r=1:=by omega
     rcases this with rfl | rfl
     . exact⟨_,_,rfl,hW1,hW2,BV _,hh2⟩
     . exact⟨_,_,rfl,BV _,hw2,hH1,hH2⟩
   have i4:=zcw a4 r0 hx;refine⟨⟨b.en,b.sk,b.ks,w',h',b.ts⟩,s4,zcX ?_,⟨hb.sk1,hb.sk2,hb.skp,hk1,by show b.ks.length<=9+(m+1);omega,hb.kdp,by show 1<=w';omega,hw2',by show 1<=h';omega,hh2',hb.tsn,fun t ht=>?_,by show b.ts.length<=23+(m+1);omega⟩,p4,(f12.trans f3).trans f4⟩
   . unfold zaH;refine pre _ (pre2 _ _ (zak (t5 _ s2) (zak (t6 _ s2) (zak (t7' _ s2) (zbO ?_)))));show _=some (D.tup [b.hd,.tup [.int w',.int h'],zar b.ts],s4);generalize D.tup [.int w',.int h']=F2 at *;unfold ro;generalize b.d=Dd at *;generalize b.hd=Hh at *;generalize zar b.ts=Ss at *;simp[m1,m2,hs3,e4,i4]
   . obtain⟨x0,x1,y0,y1⟩:=hb.tsp t ht;exact⟨x0,by show t.1 < w';omega,y0,by show t.2.1 < h';omega⟩
end L2.MP.stickytiles_k64_what_is_framed
namespace L2.MP.stickytiles_k64_what_is_framed
open PySem L2.MP L2.MP.Hb
open L2.MP.Ce (ifT ifF ifB tstB notB orL orR zbO zcr)
open L2.MP.Hn (zar)
noncomputable def tlP(t:Tl):PyData:=.tuple [.int t.1,.int t.2.1,.int t.2.2]
theorem zng{n:Nat}{st:Sto}(t:Tl):toP (n+2) st (tupD (rowT t))=some (tlP t):=by
 show toP (n+2) st (.tup [.int t.1,.int t.2.1,.int t.2.2])=_;rw[toP];simp only[toPs,toP,Ab,Aq];rfl
theorem zky{st:Sto}{ts:List Tl}:neD (zar ts) (.tup []) st=some (.bl (!ts.isEmpty),st):=by
 have e1:toP 100 st (zar ts)=some (.tuple (ts.map tlP)):=by
   unfold zar;rw[toP,zcr (f:=fun t:Tl=>tupD (rowT t)) (p:=tlP) fun a _=>zng a];rfl
 have e2:toP 100 st (.tup [])=some (.tuple []):=rfl;unfold neD;rw[e1,e2]
 cases ts <;> rfl
noncomputable def r7(ns:List D)(n:Nat)(x2:Option D)(b:Bd)(x4 x5 x6:Option D):Rho:=[some (.kl ns),some (.ref n),x2,some b.d,x4,x5,x6]
section
variable {ns:List D} {n q:Nat} {b:Bd} {x2 x4 x5 x6:Option D}
theorem zlt{st:Sto}(hp:PotB n q st)(hb:b.Ok 0)(hf:b.fr=true)(hne:b.ts≠[]):∃ y5 y6 st',zfm (r7 ns n x2 b x4 x5 x6) st=some (.nx (r7 ns n x2 b x4 y5 y6),st')/\PotB n q st':=by
 obtain⟨b1,s1,e1,ok1,p1,f1⟩:=zhi hp hb (by decide) hne;obtain⟨r,s2,e2,r0,r1,p2,f2⟩:=zaF (many:=4) p1 (by decide) (by decide);have ec:mTst (mBin eqD (zap zac (zae (mVar 1) (zae (mCon (.int 4)) (mNil)))) (mCon (.int 0))) (r7 ns n x2 b x4 (some b1.d) x6) s1=some (r==0,s2):=by
   refine tstB ?_;have q:=eq_int r 0 s2;unfold r7;generalize b.d=Dd at *;generalize b1.d=D1 at *;simp[e2,q]
 have i2:∀ (c:Bd) (s:Sto),ixA c.d (.int 2) s=some (zar c.ts,s):=fun c s=>zbF (by decide) rfl;have mid:∃ (b2:Bd) (s3:Sto),mIf (mTst (mBin eqD (zap zac (zae (mVar 1) (zae (mCon (.int 4)) (mNil)))) (mCon (.int 0)))) (mAsg (mIte (mTst (mBin neD (mBin ixA (mVar 5) (mCon (.int 2))) (mTup (mNil)))) (zap zaw (zae (mVar 1) (zae (mVar 5) (mNil)))) (mVar 5)) (gNm 5)) (zcp) (r7 ns n x2 b x4 (some b1.d) x6) s1=some (.nx (r7 ns n x2 b x4 (some b2.d) x6),s3)/\b2.Ok 2/\PotB n q s3:=by
   have up:b1.Ok 2:=⟨ok1.sk1,ok1.sk2,ok1.skp,ok1.kd1,by have:=ok1.kd2;omega,ok1.kdp,ok1.w1,ok1.w2,ok1.h1,ok1.h2,ok1.tsn,ok1.tsp,by have:=ok1.tsl;omega⟩
   cases hr:r==0 with
   | false =>
     rw[hr] at ec;exact⟨b1,s2,ifF ec,up,p2⟩
   | true =>
     rw[hr] at ec;have tn:mTst (mBin neD (mBin ixA (mVar 5) (mCon (.int 2))) (mTup (mNil))) (r7 ns n x2 b x4 (some b1.d) x6) s2=some (!b1.ts.isEmpty,s2):=by
       refine tstB ?_;have k2:=i2 b1 s2;have nn:=zky (st:=s2) (ts:=b1.ts);unfold r7;generalize zar b1.ts=S1 at *;generalize b.d=Dd at *;generalize b1.d=D1 at *;simp[k2,nn]
     cases hts:b1.ts.isEmpty with
     | true =>
       rw[hts] at tn;refine⟨b1,s2,ifT ec ?_,up,p2⟩;rw[zbi,Hd.zic,tn];rfl
     | false =>
       rw[hts] at tn;obtain⟨b2,s3,e3,ok2,p3,f3⟩:=zhi p2 ok1 (by decide) (fun e=>by rw[e] at hts;cases hts);refine⟨b2,s3,ifT ec ?_,ok2,p3⟩;have ev:zap zaw (zae (mVar 1) (zae (mVar 5) (mNil))) (r7 ns n x2 b x4 (some b1.d) x6) s2=some (b2.d,s3):=by
         unfold r7;generalize b.d=Dd at *;generalize b1.d=D1 at *;simp[e3]
       rw[zbi,Hd.zic,tn,Ab];show (zap zaw (zae (mVar 1) (zae (mVar 5) (mNil))) (r7 ns n x2 b x4 (some b1.d) x6) s2).bind _=_;rw[ev];rfl
 obtain⟨b2,s3,e3,ok2,p3⟩:=mid;obtain⟨s4,e4,g4⟩:=zeG (st:=s3) ok2 (by decide);obtain⟨s5,e5,g5⟩:=zeG (st:=s4) hb (by decide);obtain⟨s6,e6,g6⟩:=zmG (st:=s5) ok2 (by decide);rw[zkH ok2] at e6;rw[hf] at e5;have n1:=zoz b2.fr b2.fr s6;rw[beq_self_eq_true] at n1;have nt:zmx (.bl true) (.bl true) s5=some (.bl false,s5):=rfl;refine⟨some b2.d,some (.bl b2.fr),s6,?_,((p3.gr g4).gr g5).gr g6⟩;unfold zfm;refine zak (ρ1:=r7 ns n x2 b x4 (some b1.d) x6) (s1:=s1) (by
   unfold r7;generalize b.d=Dd at *;generalize b1.d=D1 at *;simp[e1]) ?_
 refine zak e3 ?_;refine zak (ρ1:=r7 ns n x2 b x4 (some b2.d) (some (.bl b2.fr))) (s1:=s4) (by
   unfold r7;generalize b.d=Dd at *;generalize b2.d=D2 at *;simp[e4]) ?_
 have tb:tyName s5 (.bl b2.fr)=some "bool":=rfl;unfold r7;generalize b2.fr=c at *;generalize b.d=Dd at *;generalize b2.d=D2 at *;simp[e5,nt,tb,subT,e6,n1]
theorem zki{st:Sto}{a3:Option D}(hp:PotB n q st):∃ (y2 y3 y4 y5 y6:Option D) (st':Sto),zgt [some (.kl ns),some (.ref n),x2,a3,x4,x5,x6] st=some (.nx [some (.kl ns),some (.ref n),y2,y3,y4,y5,y6],st')/\PotB n q st':=by
 have a1:=zaS st (.lst [.int 4,.int 12]);obtain⟨hn,hq⟩:=hp.ne;have p1:=hp.gr (Gr.app st [.lst [.int 4,.int 12]]);have f1:=FrB.app n q st [.lst [.int 4,.int 12]];generalize hs1:st++[O.lst [.int 4,.int 12]]=s1 at *;obtain⟨r,s2,e2,r0,r1,p2,f2⟩:=zaF (many:=4) p1 (by decide) (by decide);have a2:=(f2.old _ (getElem?_lt a1) (AV hn) (AV hq)).trans a1;have qe:=eq_int r 0 s2;obtain⟨most,hmo,hm1,hm2⟩:∃ most:Int,mBin ixA (mLst (zae (mCon (.int 4)) (zae (mCon (.int 12)) (mNil)))) (zap intC (zae (mBin eqD (zap zac (zae (mVar 1) (zae (mCon (.int 4)) (mNil)))) (mCon (.int 0))) (mNil))) [some (.kl ns),some (.ref n),x2,a3,x4,x5,x6] st=some (.int most,s2)/\1<=most/\most<=12:=by
   cases hr:r==0 with
   | true =>
     rw[hr] at qe;have i2:ixA (.ref st.length) (.int 1) s2=some (.int 12,s2):=zcw a2 (by decide) rfl;exact⟨12,by simp[hs1,e2,qe,intC,i2],by decide,by decide⟩
   | false =>
     rw[hr] at qe;have i2:ixA (.ref st.length) (.int 0) s2=some (.int 4,s2):=zcw a2 (by decide) rfl;exact⟨4,by simp[hs1,e2,qe,intC,i2],by decide,by decide⟩
 obtain⟨b,s3,e3,ok3,hf,p3,f3⟩:=zje p2 hm1 hm2;have hw1:=ok3.w1;have hh1:=ok3.h1;have hne:b.ts≠[]:=by
   intro e;unfold Bd.fr at hf;rw[e] at hf;have z0:((([]:List Tl).length:Int)==b.w+b.h - 1)=false:=beq_false_of_ne (by show (0:Int)≠_;omega);rw[z0] at hf;simp at hf
 have key:=zcW (W:=⟨run 0 10,[]⟩) (g:=gNm 4) (m:=zfm) (ds:=run 0 10) (ρ:=r7 ns n x2 b x4 x5 x6) (st:=s3)
   (Inv:=fun i ρ s'=>∃ y4 y5 y6,ρ=r7 ns n x2 b y4 y5 y6/\PotB n q s') ⟨_,_,_,rfl,p3⟩ (fun _ _ _ _ _=>rfl) (fun i d ρ s' hd hI=>by
     obtain⟨y4,y5,y6,rfl,h1⟩:=hI;obtain⟨z5,z6,s2,e2,h2⟩:=zlt (ns:=ns) (x2:=x2) (x4:=some d) (x5:=y5) (x6:=y6) h1 ok3 hf hne;exact⟨r7 ns n x2 b (some d) y5 y6,s',_,s2,rfl,e2,_,_,_,rfl,h2⟩)
 obtain⟨ρ',s4,el,y4,y5,y6,rfl,p4⟩:=key;have er:mR1 (mCon (.int 10)) (r7 ns n x2 b x4 x5 x6) s3=some (⟨run 0 10,[]⟩,s3):=Hd.zdv (s1:=s3) (k:=10) (M:=10) rfl rfl (by decide);have ef:mFor (mR1 (mCon (.int 10))) (gNm 4) (zfm) (r7 ns n x2 b x4 x5 x6) s3=some (.nx (r7 ns n x2 b y4 y5 y6),s4):=by rw[zbb,er];exact el
 -- without a seed
 have ok0:Bd.Ok ⟨b.en,b.sk,b.ks,b.w,b.h,[]⟩ 0:=⟨ok3.sk1,ok3.sk2,ok3.skp,ok3.kd1,ok3.kd2,ok3.kdp,ok3.w1,ok3.w2,ok3.h1,ok3.h2,CI,by simp,by simp⟩
 obtain⟨s5,e5,g5⟩:=zeG (st:=s4) ok0 (by decide);have hff:Bd.fr ⟨b.en,b.sk,b.ks,b.w,b.h,[]⟩=false:=by
   unfold Bd.fr;have z0:((([]:List Tl).length:Int)==b.w+b.h - 1)=false:=beq_false_of_ne (by show (0:Int)≠_;omega);show (_&&(_&&(_&&(((([]:List Tl).length:Int)==b.w+b.h - 1)&&_))))=false;rw[z0,FN,Cf,Cf,Cf]
 rw[hff] at e5;have nt:zmx (.bl false) (.bl false) s5=some (.bl false,s5):=rfl;have i0:ixA b.d (.int 0) s4=some (b.hd,s4):=zbF (by decide) rfl;have i1:ixA b.d (.int 1) s4=some (b.fl,s4):=zbF (by decide) rfl;refine⟨x2,some b.d,y4,y5,y6,s5,?_,p4.gr g5⟩;unfold zgt;refine zak (ρ1:=r7 ns n x2 b x4 x5 x6) (s1:=s3) ?_ (zak ef ?_)
 . generalize mBin ixA (mLst (zae (mCon (.int 4)) (zae (mCon (.int 12)) (mNil)))) (zap intC (zae (mBin eqD (zap zac (zae (mVar 1) (zae (mCon (.int 4)) (mNil)))) (mCon (.int 0))) (mNil)))=MM at *;unfold r7;generalize b.d=Dd at *;simp[hmo,e3]
 . have e5:zbu [.tup [b.hd,b.fl,.tup []]] s4=some (.bl false,s5):=e5;unfold r7;generalize b.d=Dd at *;generalize b.hd=Hh at *;generalize b.fl=Ff at *;simp[i0,i1,e5,nt]
end
theorem zkN(ns:List Int)(hl:ns.length<=63):∃ st,zlk [.kl (ns.map D.int)] []=some (.bl true,st):=by
 obtain⟨n,q,s1,e1,p1,g1⟩:=zj4 (ns:=ns) [] hl;generalize ns.map D.int=NS at *;have key:=zcW (W:=⟨run 0 3,[]⟩) (g:=gNm 2) (m:=zgt) (ds:=run 0 3) (ρ:=[some (.kl NS),some (.ref n),none,none,none,none,none]) (st:=s1)
   (Inv:=fun i ρ s=>(∃ a b c d e,ρ=[some (.kl NS),some (.ref n),a,b,c,d,e])/\PotB n q s) ⟨⟨_,_,_,_,_,rfl⟩,p1⟩ (fun _ _ _ _ _=>rfl) (fun i dd ρ s hd hI=>by
     obtain⟨⟨a,b,c,d,e,rfl⟩,hp⟩:=hI;obtain⟨y2,y3,y4,y5,y6,s',e',p'⟩:=zki (ns:=NS) (x2:=some dd) (x4:=c) (x5:=d) (x6:=e) (a3:=b) hp;exact⟨[some (.kl NS),some (.ref n),some dd,b,c,d,e],s,_,s',rfl,e',⟨_,_,_,_,_,rfl⟩,p'⟩)
 obtain⟨ρ',s2,el,⟨a,b,c,d,e,rfl⟩,_⟩:=key;refine⟨s2,zcX ?_⟩;unfold zoJ;show mSeq _ _ [some (.kl NS),none,none,none,none,none,none] []=_;refine zak (ρ1:=[some (.kl NS),some (.ref n),none,none,none,none,none]) (s1:=s1) (by simp[e1]) ?_;have er:mR1 (mCon (.int 3)) [some (.kl NS),some (.ref n),none,none,none,none,none] s1=some (⟨run 0 3,[]⟩,s1):=Hd.zdv (s1:=s1) (k:=3) (M:=3) rfl rfl (by decide);refine zak (ρ1:=[some (.kl NS),some (.ref n),a,b,c,d,e]) (s1:=s2) (by rw[zbb,er];exact el) ?_;simp
end L2.MP.stickytiles_k64_what_is_framed
namespace L2.MP.stickytiles_k64_what_is_framed
open PySem L2 L2.MP PySem.Spec PyProof.Rows
theorem znl{K:Ac}{H:Hp}{a:Addr}{ns:List Int}(hl:ns.length<=63)(hO:Only H)(hS:SqL K H a (ns.map V.int)):spM K 1 zlk [.ref a] H (fun v _=>v=.bl true) fun _ _ _=>False:=by
 obtain⟨st,e⟩:=zkN ns hl;exact zj8 hO hS e
theorem walk{l:DX}{q:Program}{loose:List Str}{XP:(Str->Option Value)->Heap->Prop}{YP:World->Heap->Prop}{d:DefRec}{K:Params->Ac}(hn:l.most=some 63)(hdf:d.params.defaults=[])
   (hY:∀ (w:World) (h:Heap),YP w h->(K w.params).In h)
   (F:∀ (w:World) (mg:Str->Option Value) (fa:Addr) (h:Heap),(K w.params).In h->h.Ns mainGlobals mg->mg d.name=some (.ref fa) ->
     ∃ fd:FuncData,(∀ (s:Shared) (u:Value),BindsTo s fd ⟨[u],[]⟩ [("_law_script",u)])/\∀ base:Heap,(K w.params).In base->base.Ns mainGlobals mg->FnOk l.prog w (K w.params) mg base CX0 4 fa fd ["_law_script"] (spM (K w.params) 1 zlk)) :
   FS q loose XP YP l.row.toRowW d [] (fun f vs=>Fz f vs) :=
 L2.walk_of (n:=63) (k:=4) (x:="_law_script") (CX:=fun _=>CX0) (sp:=fun w=>spM (K w.params) 1 zlk) hn (by decide) hdf ⟨rfl,by decide,by decide,rfl⟩ hY F (fun _ _ a ns hl hO hS=>znl hl hO hS) fun _ _ _ _ _ z=>z
end L2.MP.stickytiles_k64_what_is_framed
open PySem PySem.W PyProof.Rows
set_option maxRecDepth 100000 in
set_option maxHeartbeats 0 in
theorem PySem.Challenge.cw_stickytiles_k64_what_is_framed_holds : PySem.Challenge.rw_stickytiles_k64_what_is_framed.Holds := by
 w_on;o_law;k_head;(case hw=>w_witness2)
 k_fill
 refine L2.MP.stickytiles_k64_what_is_framed.walk (l:=PySem.Challenge.rw_stickytiles_k64_what_is_framed) rfl rfl (fun w h Y=>PySem.W.kIn_of Y) ?F
 case F =>
   intro w mg fa h KX G hmg;refine' L2.MP.stickytiles_k64_what_is_framed.all_mk KX G hmg (L2.MP.zhR ?a0 ?l0 ?c0 ?k0) (L2.MP.zhR ?a1 ?l1 ?c1 ?k1) (L2.MP.zhR ?a2 ?l2 ?c2 ?k2) (L2.MP.zhR ?a3 ?l3 ?c3 ?k3) (L2.MP.zhR ?a4 ?l4 ?c4 ?k4) (L2.MP.zhR ?a5 ?l5 ?c5 ?k5) (L2.MP.zhR ?a6 ?l6 ?c6 ?k6) (L2.MP.zhR ?a7 ?l7 ?c7 ?k7) (L2.MP.zhR ?a8 ?l8 ?c8 ?k8) (L2.MP.zhR ?a9 ?l9 ?c9 ?k9) (L2.MP.zhR ?a10 ?l10 ?c10 ?k10) ?z0 ?z1 ?z2 ?z3 ?z4 ?z5 ?z6 ?z7 ?z8 ?z9 ?z10 ?z11 ?z12 ?z13
   (case a0=>k_is);(case l0=>k_is);(case c0=>k_is);(case k0=>k_is)
   (case a1=>k_is);(case l1=>k_is);(case c1=>k_is);(case k1=>k_is)
   (case a2=>k_is);(case l2=>k_is);(case c2=>k_is);(case k2=>k_is)
   (case a3=>k_is);(case l3=>k_is);(case c3=>k_is);(case k3=>k_is)
   (case a4=>k_is);(case l4=>k_is);(case c4=>k_is);(case k4=>k_is)
   (case a5=>k_is);(case l5=>k_is);(case c5=>k_is);(case k5=>k_is)
   (case a6=>k_is);(case l6=>k_is);(case c6=>k_is);(case k6=>k_is)
   (case a7=>k_is);(case l7=>k_is);(case c7=>k_is);(case k7=>k_is)
   (case a8=>k_is);(case l8=>k_is);(case c8=>k_is);(case k8=>k_is)
   (case a9=>k_is);(case l9=>k_is);(case c9=>k_is);(case k9=>k_is)
   (case a10=>k_is);(case l10=>k_is);(case c10=>k_is);(case k10=>k_is)
   (case z0=>k_is);(case z1=>k_is);(case z2=>k_is);(case z3=>k_is);(case z4=>k_is);(case z5=>k_is);(case z6=>k_is);(case z7=>k_is);(case z8=>k_is);(case z9=>k_is);(case z10=>k_is);(case z11=>k_is);(case z12=>k_is);(case z13=>k_is)
