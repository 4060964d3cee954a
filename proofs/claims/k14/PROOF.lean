import PyProof.Rows.All
import Wide.All
import OpenK.AllK
import Wide.FinOn
import Lean
import PyProof.EqAt
import PyProof.EqKinds
import PyProof.TupleCall
import KE.KRevSl
import PyProof.AttrMissHeap
import KE.KDictOf
import PyProof.StrWalks
import PyProof.ListStr
import PyProof.EnumMake
import PyProof.Rows.Range3
import PyProof.Rows.StrIndexOr
import KE.KRevIter
import PyProof.SumWalk
import PyProof.ReprRoads
import PyProof.DictWalks
import PyProof.FitsBits
import PyProof.CallStr
import PyProof.Rows.FStr
import PyProof.Rows.StrNews
import KE.KIntText
import PyProof.Rows.MinMaxN
import PyProof.StrCalls
import KE.KDictList
import PyProof.RulesTry
import PyProof.Rows.RuleIs
import KE.KDictSum
import PyProof.DictTruth
import PyProof.MinMaxWalk
import PyProof.Rows.SetFrom
import PyProof.ListMulRoad
import PyProof.FactsAll.tuple_2
import PyProof.TupleOfStr
import PyProof.WalkInts
import PyProof.WalksMore
import PyProof.RowDictHeap
import KE.KItemsList
import PyProof.SetScanFacts
import PyProof.Draws
import PyProof.TupleKey
import PyProof.IsRules
import PyProof.FString5
import PyProof.NeKinds
import PyProof.FactsAll.dict_2
import PyProof.StrLawsIn
import PyProof.Rows.StrLawsPart
import PyProof.StrLawsChain
import PyProof.Rows.StrIntSpec
import PyProof.StrLawsTight
import PyProof.Rows.ReprOcc
import PySem.Challenge.RW_stickytiles_k14_rows_of_anything
set_option maxHeartbeats 8000000
set_option maxRecDepth 100000
open PySem renaming wpAny_bind→Aa,wpAny_pure→Ac,wpAny_holding→AI,wpAny_newObj_type→AJ,mem_of_lookup→AL,wpAny_call_entry→AV,wpAny_callSpecial?_slot→AX,wpAny_field→A0,wpAny_truthy_bool→Bd,wpAny_mono→Bj,wpAny_typeNameOfWhole_keyiter→Bv,wpAny_seqItems→By,wpAny_setField_rec→BH,wpAny_getItem_str_slice→BW,wpAny_rule→BX,tupleKind_room_in1→BY,wpAny_typeOf→B4,wpAny_passesOwn→Cd,post_val_or_str→Cf,wpAny_pyIter_list→Cp,wpAny_dictEntries→Cs,wpAny_pyNext_list_item→Ct,wpAny_standAt→Cy,plainId_quiet→Cz,wpAny_pyNext_list_end→CD,wpAny_notOrdered_dict→CH,pushCells_keeps→CL,wpAny_updateSeq_pair→CQ,codeAny_builtin→CS,wpAny_ite_split→CT,wpAny_loadPart'→CU,wpAny_setField→C3,sizeLine_eq→C4,wpAny_Call_Name_kw→C6,wpAny_newList→Df,wpAny_attempt→Dg,wpAny_onRaise→Dh,wpAny_sequenceKey→Dk,call_meets→Dp,wpAny_pyNext_tuple_item→Dx,wpAny_execs_nil→DD,wpAny_specialOf→DE,wpAny_dictEpoch→DH,wpAny_pyNext_tuple_end→DK,wpAny_isTrue_Compare1→DT,wpAny_newTuple→DX,builtinLookup_eq_fast→D0,wpAny_isOneOf_keyiter→D1,wpAny_pyIter_keyiter→D8,evalPart_none→Eb,wpAny_dictSet_pairs→Eg,codeAny_mono→Em,seqIndex_neg→Es,sub_AttributeError→Ew,wpAny_assign_Name→Ex,wpAny_pyIter_enum→EE,seqIndex_of→EG,wpAny_letGo→EH,wpAny_Name→ES,typeIs_str→ET,call→EU
open PySem.W renaming Frag→Ab,fnOf→BC,keepIn→BP,codeIn→Cn,KitAt→Dc,methodObj→Dj,kitx_dict→Do,cellsFrom_some→DL,nsIn→Et,kitx_list→EB,kat_kind→EN,kas_ask→E4,kitOne→Fm
open PySem.Heap renaming get?_push_of_some→Ad,lt_size→Ai,get?_push_size→Am,size_push→Bm,SameBut→BA,get?_update_self→B5,get?_update_other→DQ,ExtBut→DS
open Option renaming bind_some→Ae,map_some→A1,isSome_map→B0,getD_some→CA,isNone_none→C8,isSome_some→Eo,getD_none→EK,map_none→Fg,bind→Fz
open Nat renaming le_refl→Af,ne_of_lt→Ar,lt_of_lt_of_le→Az,le_trans→AC,lt_irrefl→AK,zero_le→A3,lt_trans→BE,le_of_succ_le→BL,le_add_right→BR,lt_of_le_of_lt→BZ,le_of_lt→B3,sub_self→B6,ne_of_gt→Cj,le_succ→Cv,succ_le_succ→CB,add_le_add_left→CY,lt_succ_of_lt→Dm,min_le_right→Dt,mul_le_mul→D3,add_mul→EI,lt_succ_self→EL,min_le_left→EX,not_lt_zero→EZ
open List renaming length_map→Ag,getElem?_eq_getElem→Ah,mem_cons_of_mem→Aj,mem_cons_self→Ak,append_assoc→An,append_nil→Ao,getElem?_append_left→Ap,getD_eq_getElem?_getD→Aq,size_toArray→Au,getElem?_map→Av,map_cons→Aw,range→Ax,getElem?_set_ne→AA,length_cons→AB,getElem?_append_right→AE,not_mem_nil→AF,mem_of_getElem?→AG,mem_cons→AN,mem_append_right→AO,find?_cons→AQ,getElem_mem→AS,lookup_cons→AW,getElem?_set_self→AY,length_append→AZ,map_map→A6,getElem?_cons_succ→A9,getElem?_cons_zero→Ba,length_take→Bb,length_nil→Be,replicate→Bk,map_append→Bn,length_replicate→Bp,length_filter_le→Br,eq_nil_of_length_eq_zero→Bu,filterMap_cons→Bw,take_length→Bz,map_nil→BD,toArray→BG,length_set→BI,take_add_one→BM,mem_append_left→BN,forIn_nil→BQ,getElem?_replicate→BV,length_range→B1,mem_of_mem_take→B8,any_cons→B9,mergeSort_perm→Cb,nil_append→Ci,reverse_cons→Cr,drop_eq_nil_of_le→Cu,all_eq_true→CC,length_singleton→CG,of_mem_zip→CJ,forIn_cons→CK,range_succ→CV,getElem_of_mem→CZ,getElem?_range→C0,map_congr_left→C1,filter_append→C9,getElem?_set→Dl,drop_eq_getElem_cons→Dq,filter_cons→Dv,pairwise_mergeSort→DA,foldl_cons→DI,mem_append→DJ,getElem?_toArray→DU,countP_mono_left→DV,all_cons→Ec,length_reverse→Eh,replicate_succ→Ei,flatten_append→Ej,filterMap_map→Ep,nodup_append→EA,foldl_append→EF,length_drop→EJ,countP_cons→EM,getElem_map→EO,zipIdx_cons→ER,nodup_cons→EV,zipIdx_nil→Fc,length_zip→Fd,filter_nil→Ff,mem_filter→Fh,nodup_nil→Fj,drop_zero→Fk,mem_range→Fn,sum_cons→Fs,mem_map→Fw
open Bool renaming and_eq_true→Al,false_eq_true→A8,false_ne_true→Bi,not_eq_true'→Bt,and_comm→Di,not_false→D2,or_eq_true→EW,and_true→Fq
open Option.some renaming inj→Ay
open PySem.NameKind renaming free→AD,cell→AM
open PySem.Value renaming ref→AH,none→A7,bool→CI,int→DC,builtin→Ed,str→Ek,isStrOf→Fp,isInt→Fx
open PySem.PassesOwn renaming never→AR
open PySem.PyData renaming strOk→AU,canLay0→Bx,canLayAll0→B2,depth→Ck,eqv→CN,depthAll→DG,int→FC
open Array renaming length_toList→A2,getD_eq_getD_getElem?→BF,getElem?_toList→BJ,toList→Fv
open Int renaming toNat_natCast→A4,emod_lt_of_pos→Bq,emod_nonneg→BK,le_refl→Cw,le_trans→CO,le_of_lt→CP,toNat_of_nonneg→Ee,le_antisymm→EY
open PyProof.Rows renaming slot_tuple_getitem→A5,callWith_type1→BB,slot_tupleiter_next→Cc,entry_tuple_getitem→CW,assignInOrder_cons→C5,args_tuple_getitem→C7,listUpdate_at→De,subscriptTail_builtinR→DP,seqEpoch_at→DR,Subscript_→D4,entry_tupleiter_next→D7,tupleItemsOf_→Ea,args_tupleiter_next→Ef,assignInOrder_nil→Ey
open PySem.Paired renaming length→Bc,snoc→Fy
open Or renaming inr→Bf,inl→Bg
open PySem.Obj renaming mapSeq→Bl,data_mapFields→Cm,isFreed_of_fields→DZ,data_mapDictKeys→D9,cls_mapFields→ED,mapFields→Ft
open Ne renaming symm→Bo
open PySem.Str renaming ofString→Bs
open Prod.mk renaming inj→BO
open PySem.AutoSeq1 renaming wpAny_loadPart'→BS
open PySem.Heap.SameBut renaming update→BU
open PySem.Around renaming under_plainId→B7
open Sum renaming inl→Ca,inr→C2
open Array.Perm renaming refl→Cg
open True renaming intro→Co
open List.Pairwise renaming nil→Cq
open PySem.F renaming slot_dict_get→CF,args_tuple_add_2→Ds,args_dict_get_2→Dy,entry_tuple_add→Dz,entry_dict_get→DM,slot_tuple_add→DO
open ForInStep renaming yield→CM
open PySem.Calls renaming Name_function_global→Da,call_function_entry→Dr,callWith_builtin→DN,evalArgs_plain→D5,spliced_cons→El,spliced_nil→Ez
open PySem.Txt renaming slice_le→Du,slice→Fo
open Nat.succ renaming inj→Dw
open PySem.pyHashByItsType renaming reduced→DB
open PySem.Heap.DictOf renaming new→DF
open PySem.W.Looks renaming of_pure→DW
open PySem.Heap.IsList renaming «at»→DY
open PySem.W.KasFin renaming intro→D6
open PySem.Heap.IsSliceOf renaming new→Er
open PySem.Heap.IsListIter renaming «at»→Eu
open PySem.W.UpdF renaming head→EC
open StateT renaming run_pure→Fb
open PyProof.Rows.Fr renaming set→Fe
open PySem.SeqAt.RcNeAt renaming list_tuple→Fi,tuples→Fu
open PySem.W.KatTups renaming cons→FA,nil→FD
open PyProof.Rows.SortSt renaming mk'→FB
set_option Elab.async false
set_option linter.all false
noncomputable section
namespace L2
open PySem PySem.Spec PyProof.Rows
noncomputable abbrev Key:=Sum Int Str
def zmG:Key->Value->Bool
 | .inl k,v=>Fx k v
 | .inr x,v=>Fp x v
def keyH(w:World):Key->Int
 | .inl k=>hashInt k
 | .inr x=>hashStr w x
def za1:∀ {k:Key} {v:Value},zmG k v=true->(∃ i t,k=Ca i/\v=DC i t)\/(∃ x t,k=C2 x/\v=Ek x t)
 | .inl i,v,h=>by obtain⟨t,e⟩:=Value.isInt_shape (k:=i) (v:=v) h;exact .inl ⟨i,t,rfl,e⟩
 | .inr x,v,h=>by obtain⟨t,e⟩:=Value.isStrOf_shape (x:=x) (v:=v) h;exact .inr ⟨x,t,rfl,e⟩
def zjT(i:Int)(t:Tok):zmG (.inl i) (.int i t)=true:=by simp[zmG,Fx]
def zjS(x:Str)(t:Tok):zmG (.inr x) (.str x t)=true:=by simp[zmG,Fp]
def zp0(a b:Int):decide ((Ca a:Key)=Ca b)=(a==b):=by
 by_cases e:a=b
 . subst e;simp
 have h:¬ (Ca a:Key)=Ca b:=fun q=>e<|Sum.inl.inj q;rw[decide_eq_false h];exact (beq_eq_false_iff_ne.mpr e).symm
def zpX(a b:Str):decide ((C2 a:Key)=C2 b)=decide (a=b):=by
 by_cases e:a=b
 . subst e;simp
 have h:¬ (C2 a:Key)=C2 b:=fun q=>e<|Sum.inr.inj q;rw[decide_eq_false h,decide_eq_false e]
def zpZ(a:Int)(b:Str):decide ((Ca a:Key)=C2 b)=false:=decide_eq_false fun q=>nomatch q
def zpY(a:Str)(b:Int):decide ((C2 a:Key)=Ca b)=false:=decide_eq_false fun q=>nomatch q
def zat(prog:Program)(w:World):PySem.KeyKind prog w Key where
 is:=zmG
 hash:=keyH w
 inj:=fun v a b ha hb=>by
   rcases za1 ha with ⟨i,t,rfl,rfl⟩ | ⟨x,t,rfl,rfl⟩
   . rcases za1 hb with ⟨j,u,rfl,e⟩ | ⟨y,u,rfl,e⟩
     . injection e with e1 _;rw[e1]
     exact nomatch e
   . rcases za1 hb with ⟨j,u,rfl,e⟩ | ⟨y,u,rfl,e⟩
     . exact nomatch e
     injection e with e1 _;rw[e1]
 byValue:=fun k v h=>by rcases za1 h with ⟨i,t,rfl,rfl⟩ | ⟨x,t,rfl,rfl⟩ <;> rfl
 pyHash:=fun hv h=>by
   rcases za1 hv with ⟨i,t,rfl,rfl⟩ | ⟨x,t,rfl,rfl⟩
   . exact wpAny_pyHash_int h
   exact wpAny_pyHash_str h
 eqBool:=fun hu hv h=>by
   rcases za1 hu with ⟨i,t,rfl,rfl⟩ | ⟨x,t,rfl,rfl⟩
   . rcases za1 hv with ⟨j,u,rfl,rfl⟩ | ⟨y,u,rfl,rfl⟩
     . rw[zp0] at h;exact wpAny_eqBool_int h
     rw[zpZ] at h;exact SeqAt.EqAt.int_str i t y u _ _ _ _ h
   . rcases za1 hv with ⟨j,u,rfl,rfl⟩ | ⟨y,u,rfl,rfl⟩
     . rw[zpY] at h;exact SeqAt.EqAt.str_int x t j u _ _ _ _ h
     rw[zpX] at h;exact wpAny_eqBool_str h
 «strs»:=fun k x t v h=>by
   rcases za1 h with ⟨i,u,rfl,e⟩ | ⟨y,u,rfl,e⟩
   . exact nomatch e
   . injection e with e1 _
     subst e1
     cases v <;> rfl
def zg2(prog:Program)(w:World)(i:Int)(t:Tok):(zat prog w).is (.inl i) (.int i t)=true:=zjT i t
def zg1(prog:Program)(w:World)(x:Str)(t:Tok):(zat prog w).is (.inr x) (.str x t)=true:=zjS x t
inductive V where
 | non | bl (b:Bool) | int (i:Int) | str (x:Str) | byt (b:Array UInt8) | flt (b:UInt64) | ref (a:Addr) | ty (n:String)
 deriving DecidableEq
def RelV:V->Value->Prop
 | .non,u=>u=A7
 | .bl b,u=>u=CI b
 | .int i,u=>∃ t,u=DC i t
 | .str x,u=>∃ t,u=Ek x t
 | .byt b,u=>∃ t,u=Value.bytes b t
 | .flt b,u=>∃ t,u=Value.float b t
 | .ref a,u=>u=AH a
 | .ty n,u=>u=Value.type n
noncomputable abbrev Vals:List V->List Value->Prop:=Paired RelV
variable {us:List Value}
def Vals.length{xs:List V}{us:List Value}(r:Vals xs us):xs.length=us.length:=Bc r
def Vals.get:∀ {xs:List V} {us:List Value} {i:Nat} {x:V},Vals xs us->xs[i]?=some x->∃ u,us[i]?=some u/\RelV x u
 | _,_,_,_,.nil,e=>by simp at e
 | _,_,0,_,.cons r _,e=>by simp at e;subst e;exact⟨_,rfl,r⟩
 | _,_,i+1,x,.cons _ t,e=>by obtain⟨u,h1,h2⟩:=Vals.get (i:=i) (x:=x) t (by simpa using e);exact⟨u,by simpa using h1,h2⟩
variable {u:Value}
def Vals.set{x:V}{u:Value}(r:RelV x u):∀ {xs:List V} {us:List Value} (i:Nat),Vals xs us->Vals (xs.set i x) (us.set i u)
 | _,_,_,.nil=>.nil
 | _,_,0,.cons _ t=>.cons r t
 | _,_,i+1,.cons q t=>.cons q<|Vals.set r i t
def Vals.append:∀ {xs ys:List V} {us ws:List Value},Vals xs us->Vals ys ws->Vals (xs++ys) (us++ws)
 | _,_,_,_,.nil,s=>s
 | _,_,_,_,.cons r t,s=>.cons r<|Vals.append t s
def Vals.take:∀ {xs:List V} {us:List Value} (n:Nat),Vals xs us->Vals (xs.take n) (us.take n)
 | _,_,0,_=>.nil
 | _,_,_+1,.nil=>.nil
 | _,_,n+1,.cons r t=>.cons r<|Vals.take n t
def Vals.drop:∀ {xs:List V} {us:List Value} (n:Nat),Vals xs us->Vals (xs.drop n) (us.drop n)
 | _,_,0,r=>r
 | _,_,_+1,.nil=>.nil
 | _,_,n+1,.cons _ t=>Vals.drop n t
def RelO:Option V->Option Value->Prop
 | some v,some u=>RelV v u
 | none,none=>True
 | _,_=>False
variable {κ:Type}
def KV:List (κ×V)->List (κ×Value)->Prop:=Paired fun (p:κ×V) (q:κ×Value)=>p.1=q.1/\RelV p.2 q.2
def kV:Key->V
 | .inl i=>.int i
 | .inr x=>.str x
inductive HO where
  | lst (xs:List V)
  | tup (xs:List V)
  | dK (kvs:List (Key×V)) | dT (kvs:List (List Key×V))
  | set (S:Int->Bool) (n:Nat)
  | ins (C dx:Addr) (fs:List (Str×V))
  | own (x:Addr)
  | xd (fs:List (Str×V))
  | met (f x:Addr)
  | rng (lo hi:Int)
  | frz (o:Obj) (u:HO)
  | tbl (ps:Array Value)
  | ext (φ:Heap->Prop)
noncomputable abbrev Hp:=Addr->Option HO
def upd(H:Hp)(a:Addr)(o:HO):Hp:=fun b=>if b=a then some o else H b
variable {H:Hp}{a:Addr}{o:HO}
def zbg:upd H a o a=some o:=by unfold upd;rw[if_pos rfl]
variable {b:Addr}
def zax(h:b≠a):upd H a o b=H b:=by unfold upd;rw[if_neg h]
def zpO{u:HO}(h:H a=some o)(h':H b=some u)(d:o≠u):a≠b:=by intro e;subst e;rw[h] at h';exact d<|Ay h'
def zaq(h:H a=some o)(h':H b=none):a≠b:=by intro e;subst e;rw[h] at h';cases h'
def zcy(h:Heap)(a:Addr)(items:Array Value):Prop:=∃ o,h.get? a=some o/\o.cls=.type "tuple"/\o.dict=none/\∃ n,o.data=.seq items n
variable {h:Heap}{items:Array Value}
def zcy.t(x:zcy h a items):IsTup h a items:=let ⟨o,ho,hc,_,r⟩:=x;⟨o,ho,hc,r⟩
variable {h':Heap}
def zcy.keeps(x:zcy h a items)(hk:∀ b o,h.get? b=some o->h'.get? b=some o):zcy h' a items:=let ⟨o,ho,r⟩:=x;⟨o,hk a o ho,r⟩
def zcy.new(h:Heap)(items:Array Value):zcy (h.push { cls:=.type "tuple",data:=.seq items }) h.objs.size items:=⟨_,Am _ rfl,rfl,rfl,0,rfl⟩
section
variable (P:Program) (w:World)
def zcx(H:Hp)(h:Heap)(a:Addr):HO->Prop
 | .lst xs=>xs.length<=sizeLine/\∃ (its:List Value) (n:Nat),Vals xs its/\h.get? a=some { cls:=.type "list",data:=.seq its.toArray n }
 | .tup xs=>xs.length<=sizeLine/\∃ its:List Value,Vals xs its/\zcy h a its.toArray
 | .dK kvs=>kvs.length<=sizeLine/\(a==sysModules)=false/\∃ vs,KV kvs vs/\h.DictOf (zat P w) a vs
 | .dT kvs=>kvs.length<=sizeLine/\(a==sysModules)=false/\∃ xs:List (List Key×Addr×Value),
     Paired (fun (p:List Key×V) (q:List Key×Addr×Value)=>p.1=q.1/\H q.2.1=some (.tup<|p.1.map kV)/\RelV p.2 q.2.2) kvs xs /\
     ∃ o es ep,h.get? a=some o/\o.ExactDict/\o.data=.dict es ep/\es.toList=xs.map (entryOfKey<|tupleKind<|zat P w)/\(xs.map (·.1)).Nodup
 | .set S n=>h.SetOf (intKind P w) a S n
 | .ins C dx fs=>H dx=some (.own a)/\fs.length<=1000/\dx≠a/\h.get? a=some (PySem.W.instObj C dx) /\
     ∃ mA,h.Ns1 dx mA/\(∀ f,RelO (fs.lookup f) (mA f))/\PySem.Within mA (fs.map (·.1))
 | .own _=>∃ o,h.get? a=some o
 | .xd fs=>∃ mA,h.Ns1 a mA/\∀ f,RelO (fs.lookup f) (mA f)
 | .rng lo hi=>∃ t u v,h.get? a=some { cls:=.type "range",data:=.fields #[.int lo t,.int hi u,.int 1 v] }
 | .frz o u=>h.get? a=some o/\zcx H h a u
 | .tbl ps=>h.get? a=some { cls:=.none,data:=.fields ps }
 | .met f x=>h.get? a=some (Dj (.ref f)<|.ref x)
 | .ext φ=>φ h/\(∃ o,h.get? a=some o)/\∀ h1 h2:Heap,φ h1->(∀ o,h1.get? a=some o->h2.get? a=some o)->φ h2
def HOk(H:Hp)(h:Heap):Prop:=∀ a o,H a=some o->zcx P w H h a o
end
variable {P:Program}{w:World}{H':Hp}{α:Type}
def zcx.lt(x:zcx P w H h a o):a < h.objs.size:=by
 cases o with
 | lst xs=>obtain⟨_,_,_,_,e⟩:=x;exact Ai e
 | tup xs=>obtain⟨_,_,_,p⟩:=x;exact p.t.lt
 | dK kvs=>obtain⟨_,_,_,_,o,_,_,e,_⟩:=x;exact Ai e
 | dT kvs=>obtain⟨_,_,_,_,o,_,_,e,_⟩:=x;exact Ai e
 | set S n=>obtain⟨o,_,_,_,e,_⟩:=x;exact Ai e
 | ins C dx fs=>obtain⟨_,_,_,e,_⟩:=x;exact Ai e
 | own y=>obtain⟨_,e⟩:=x;exact Ai e
 | xd fs=>obtain⟨_,⟨_,_,_,e,_⟩,_⟩:=x;exact Ai e
 | rng lo hi=>obtain⟨_,_,_,e⟩:=x;exact Ai e
 | frz ob u=>obtain⟨e,_⟩:=x;exact Ai e
 | tbl ps=>exact Ai (show h.get? a=some _ from x)
 | met f y=>exact Ai (show h.get? a=some _ from x)
 | ext φ=>obtain⟨_,⟨_,e⟩,_⟩:=x;exact Ai e
def Paired.mapP{α β:Type}{F G:α->β->Prop}:∀ {l₁:List α} {l₂:List β},Paired F l₁ l₂->(∀ a b,F a b->G a b)->Paired G l₁ l₂
 | _,_,.nil,_=>.nil
 | _,_,.cons r t,f=>.cons (f _ _ r)<|Paired.mapP t f
def zcx.stay(x:zcx P w H h a o)(k:∀ b u,(b=a\/H b=some (.own a))->h.get? b=some u->h'.get? b=some u)
   (ho:∀ b,H b=some (.own a)->H' b=some (.own a)) (ht:∀ b xs,H b=some (.tup xs)->H' b=some (.tup xs)):zcx P w H' h' a o:=by
 induction o with
 | lst xs=>obtain⟨z,its,n,r,e⟩:=x;exact⟨z,its,n,r,k _ _ (.inl rfl) e⟩
 | tup xs=>obtain⟨z,its,r,ob,e,c⟩:=x;exact⟨z,its,r,ob,k _ _ (.inl rfl) e,c⟩
 | dK kvs=>obtain⟨z,y,vs,r,ob,es,ep,e,c⟩:=x;exact⟨z,y,vs,r,ob,es,ep,k _ _ (.inl rfl) e,c⟩
 | dT kvs =>
   obtain⟨z,y,xs,r,ob,es,ep,e,c⟩:=x;exact⟨z,y,xs,Paired.mapP r fun p q z=>⟨z.1,ht _ _ z.2.1,z.2.2⟩,ob,es,ep,k _ _ (.inl rfl) e,c⟩
 | set S n=>obtain⟨ob,es,ep,t,e,c⟩:=x;exact⟨ob,es,ep,t,k _ _ (.inl rfl) e,c⟩
 | ins C dx fs =>
   obtain⟨d,z,ne,e,mA,⟨od,es,ep,e2,c⟩,r⟩:=x;exact⟨ho _ d,z,ne,k _ _ (.inl rfl) e,mA,⟨od,es,ep,k _ _ (.inr d) e2,c⟩,r⟩
 | own y=>obtain⟨ob,e⟩:=x;exact⟨ob,k _ _ (.inl rfl) e⟩
 | xd fs=>obtain⟨mA,⟨od,es,ep,e,c⟩,r⟩:=x;exact⟨mA,⟨od,es,ep,k _ _ (.inl rfl) e,c⟩,r⟩
 | rng lo hi=>obtain⟨t,u,v,e⟩:=x;exact⟨t,u,v,k _ _ (.inl rfl) e⟩
 | frz ob u ih=>obtain⟨e,q⟩:=x;exact⟨k _ _ (.inl rfl) e,ih q⟩
 | tbl ps =>
   have e:h.get? a=some { cls:=.none,data:=.fields ps }:=x;show h'.get? a=some { cls:=.none,data:=.fields ps };exact k a _ (.inl rfl) e
 | met f y =>
   have e:h.get? a=some (Dj (.ref f)<|.ref y):=x;show h'.get? a=some (Dj (.ref f)<|.ref y);exact k a _ (.inl rfl) e
 | ext φ=>obtain⟨p,⟨o,e⟩,st⟩:=x;exact⟨st _ _ p fun o q=>k _ _ (.inl rfl) q,⟨o,k _ _ (.inl rfl) e⟩,st⟩
def HOk.lt(x:HOk P w H h)(e:H a=some o):a < h.objs.size:=(x a o e).lt
def HOk.fresh(x:HOk P w H h)(e:h.objs.size<=a):H a=none:=by
 cases q:H a with
 | none=>rfl
 | some u=>exact absurd (Az (x.lt q) e)<|AK _
def HOk.kept(x:HOk P w H h)(k:∀ b u,h.get? b=some u->h'.get? b=some u):HOk P w H h':=fun a o e =>
 (x a o e).stay (fun b u _ q=>k b u q) (fun _ q=>q) fun _ _ q=>q
def HOk.laid(x:HOk P w H h)(k:∀ b u,h.get? b=some u->h'.get? b=some u)(hp:h.objs.size<=a)(new:zcx P w (upd H a o) h' a o):HOk P w (upd H a o) h':=fun b u e=>by
 have hn:=x.fresh hp
 by_cases hb:b=a
 . subst hb;rw[zbg] at e;cases e;exact new
 rw[zax hb] at e;exact (x b u e).stay (fun c v _ q=>k c v q) (fun c q=>by rw[zax (zaq q hn)];exact q) fun c xs q=>by rw[zax (zaq q hn)];exact q
def Rd(H:Hp)(a:Addr)(u:HO):Prop:=H a=some u\/∃ o,H a=some (.frz o u)
def Rd.ok{u:HO}(r:Rd H a u)(x:HOk P w H h):zcx P w H h a u:=by
 rcases r with r | ⟨o,r⟩
 . exact x a u r
 obtain⟨_,q⟩:=x a _ r;exact q
def Mut:Option HO->Prop
 | some (.lst _)=>True
 | some (.dK _)=>True
 | some (.dT _)=>True
 | some (.set _ _)=>True
 | some (.ins _ _ _)=>True
 | some (.ext _)=>True
 | _=>False
section
variable {x e:Addr} {o':HO}
def HOk.write(ok:HOk P w H h)(mu:Mut (H x))(he:e=x\/H e=some (.own x))(k:∀ b u,b≠e->h.get? b=some u->h'.get? b=some u)(heo:∃ u,h'.get? e=some u)
   (new:zcx P w (upd H x o') h' x o'):HOk P w (upd H x o') h':=fun b u q=>by
 have nown:∀ c y,H c=some (.own y)->c≠x:=fun c y r z=>by subst z;rw[r] at mu;exact mu
 have ntup:∀ c xs,H c=some (.tup xs)->c≠x:=fun c xs r z=>by subst z;rw[r] at mu;exact mu
 by_cases hb:b=x
 . subst hb;rw[zbg] at q;cases q;exact new
 . rw[zax hb] at q
   by_cases hbe:b=e
   . have q':H b=some (.own x):=by
       rcases he with z | z
       . exact absurd (hbe.trans z) hb
       rw[hbe];exact z
     rw[q] at q';cases q';obtain⟨v,hv⟩:=heo;exact⟨v,by rw[hbe];exact hv⟩
   . refine (ok b u q).stay (fun c v hc r=>k c v ?_ r) (fun c r=>by rw[zax (nown c b r)];exact r) fun c xs r=>by rw[zax (ntup c xs r)];exact r
     rcases hc with rfl | hc
     . exact hbe
     . rintro rfl
       rcases he with z | z
       . exact nown c b hc z
       rw[hc] at z;cases z;exact hb rfl
end
structure Un(fs ex:List Addr)(H H':Hp)(h h':Heap):Prop where
 keep:∀ b o,h.get? b=some o->H b=none->b ∉ fs->b ∉ ex->h'.get? b=some o
 slot:∀ b o,h.get? b=some o->H b=none->b∈fs->b ∉ ex->∃ sl,h'.get? b=some { o with slots:=sl }
 free:∀ b o,h.get? b=some o->H b=none->b ∉ ex->H' b=none
 there:∀ b o,h.get? b=some o->b ∉ ex->∃ o',h'.get? b=some o'
 tups:∀ b xs,H b=some (.tup xs)->H' b=some (.tup xs)
 frzs:∀ b o u,H b=some (.frz o u)->H' b=some (.frz o u)
 tbls:∀ b ps,H b=some (.tbl ps)->∃ more,H' b=some (.tbl (ps++more))
section
variable {fs fs' ex ex':List Addr} {H1 H2:Hp} {h1 h2:Heap} {x e:Addr}
def Un.any(u:Un fs ex H H1 h h1){ob:Obj}(q:h.get? b=some ob)(n:H b=none)(hx:b ∉ ex):∃ sl,h1.get? b=some { ob with slots:=sl }:=by
 by_cases hb:b∈fs
 . exact u.slot b ob q n hb hx
 exact⟨ob.slots,u.keep b ob q n hb hx⟩
def Un.kept(k:∀ b u,h.get? b=some u->h'.get? b=some u):Un fs ex H H h h' :=
 ⟨fun b ob q _ _ _=>k b ob q,fun b ob q _ _ _=>⟨ob.slots,k b ob q⟩,fun _ _ _ n _=>n,fun b ob q _=>⟨ob,k b ob q⟩,fun _ _ q=>q,fun _ _ _ q=>q,fun _ ps q=>⟨#[],by rw[q];simp⟩⟩
def Un.refl:Un fs ex H H h h:=Un.kept fun _ _ q=>q
def Un.laid(k:∀ b u,h.get? b=some u->h'.get? b=some u)(hp:h.objs.size<=a)(hn:H a=none):Un fs ex H (upd H a o) h h' where
 keep:=fun b u q _ _ _=>k b u q
 slot:=fun b u q _ _ _=>⟨u.slots,k b u q⟩
 free:=fun b u q n _=>by rw[zax (Ar<|Az (Ai q) hp)];exact n
 there:=fun b u q _=>⟨u,k b u q⟩
 tups:=fun b xs q=>by rw[zax (zaq q hn)];exact q
 frzs:=fun b u xs q=>by rw[zax (zaq q hn)];exact q
 tbls:=fun b ps q=>⟨#[],by rw[zax (zaq q hn),q];simp⟩
def Un.write(mu:Mut (H x))(he:e=x\/H e=some (.own x))(k:∀ b u,b≠e->h.get? b=some u->h'.get? b=some u)(heo:∃ u,h'.get? e=some u):Un fs ex H (upd H x o) h h':=by
 have hx:∀ b,H b=none->b≠x:=fun b n z=>by subst z;rw[n] at mu;exact mu
 have hb:∀ b,H b=none->b≠e:=fun b n z=>by
   subst z
   rcases he with r | r
   . exact hx b n r
   rw[n] at r;cases r
 have hm:∀ b u,H b=some u->¬ Mut (some u)->b≠x:=fun b u q nm z=>by subst z;rw[q] at mu;exact nm mu
 refine⟨fun b u q n _ _=>k b u (hb b n) q,fun b u q n _ _=>⟨u.slots,k b u (hb b n) q⟩,fun b u q n _=>by rw[zax (hx b n)];exact n,fun b u q _=>?_,
   fun b xs q=>by rw[zax (hm b _ q fun z=>z)];exact q,fun b u xs q=>by rw[zax (hm b _ q fun z=>z)];exact q,fun b ps q=>⟨#[],by rw[zax (hm b _ q fun z=>z),q];simp⟩⟩
 by_cases hbe:b=e
 . subst hbe;exact heo
 exact⟨u,k b u hbe q⟩
end
def trk(h:Heap)(H:Hp):List Addr:=(Ax h.objs.size).filter fun a=>(H a).isSome
def hidT(h:Heap)(H:Hp):Heap:=PySem.W.hideAll h<|trk h H
def zjW(h:Heap)(H:Hp):(hidT h H).objs.size=h.objs.size:=PySem.W.hideAll_size _ _
def zmf{o:Obj}(e:h.get? b=some o)(n:H b=none):(hidT h H).get? b=some o :=
 PySem.W.hideAll_get _ e fun hm=>by have q:(H b).isSome=true:=(List.mem_filter.mp hm).2;rw[n] at q;simp at q
def znL{o:Obj}(e:(hidT h H).get? b=some o):h.get? b=some o/\H b=none:=by
 have e':h.get? b=some o:=PySem.W.of_hideAll (trk h H) e;refine⟨e',?_⟩
 cases q:H b with
 | none=>rfl
 | some x =>
   have hm:b∈trk h H:=List.mem_filter.mpr ⟨List.mem_range.mpr<|Ai e',by simp[q]⟩;have z:(hidT h H).get? b=none:=PySem.W.hideAll_none (trk h H) hm;rw[z] at e;cases e
def zdF(g h:Heap)(L:Addr):List (Addr×Obj):=(Ax h.objs.size).filterMap fun a=>if a=L\/(g.get? a).isSome=true then none else (h.get? a).map fun o=>(a,o)
variable {g:Heap}{L:Addr}
def zcX{o:Obj}(h1:a≠L)(h2:g.get? a=none)(h3:h.get? a=some o):(a,o)∈zdF g h L :=
 List.mem_filterMap.mpr ⟨a,List.mem_range.mpr<|Ai h3,by simp[h1,h2,h3]⟩
def zeD{p:Addr×Obj}(hp:p∈zdF g h L):p.1≠L/\g.get? p.1=none/\h.get? p.1=some p.2:=by
 obtain⟨b,_,e⟩:=List.mem_filterMap.mp hp
 split at e
 . cases e
 . rename_i hn
   cases q:h.get? b with
   | none=>rw[q] at e;simp at e
   | some u =>
     rw[q] at e;simp only[A1,Option.some.injEq] at e;subst e;refine⟨fun z=>hn (.inl z),?_,q⟩;show g.get? b=none
     cases r:g.get? b with
     | none=>rfl
     | some v=>exact (hn<|.inr<|by simp[r]).elim
def zfN:News g L h (zdF g h L):=fun p hp=>let ⟨a,b,c⟩:=zeD hp;⟨c,a,b⟩
structure Mod(K:Ab)(mg:Str->Option Value)(base:Heap):Prop where
 kin:K.In base
 glob:base.Ns mainGlobals mg
 blt:∃ mb,base.Ns builtinsNs mb/\∀ x:Str,x≠"__name__"->mb x=bootBuiltins x
 nolimit:base.NoLimit
structure Cx where
 prog:Program
 w:World
 K:Ab
 mg:Str->Option Value
 base:Heap
 A:Around
 N:List Str
 s₀:Shared
 H₀:Hp
 env:Env
 outer:List Env
 stack:List Env
 ex:List Addr
 fn:Str->Bool
 calm:Bool
 pn:List (Addr×Obj)
 xe:Value->Shared->Prop
def frs(l:List Env):List Addr:=l.filterMap (·.frame)
noncomputable abbrev Cx.fs (X:Cx):List Addr:=frs X.outer
def Vis(sc:Scope)(x:Str):Prop:=sc.names.lookup x=some .local\/sc.names.lookup x=some .cell\/sc.names.lookup x=some .free
def Loc(sc:Scope)(x:Str):Prop:=sc.names.lookup x=some .local\/sc.names.lookup x=some .cell
def Look(env:Env)(h:Heap)(m:Str->Option Value)(x:Str)(u:Value):Prop :=
 (env.kindOf x=some .local/\m x=some u)\/((env.kindOf x=some .cell\/env.kindOf x=some .free)/\∃ c,env.cells.lookup x=some c/\h.IsCell c (some u))
structure Cx.Ok(X:Cx):Prop where
 mod:Mod X.K X.mg X.base
 kind:X.env.scope.kind=.function
 glob:X.env.globals=mainGlobals
 blt:X.env.builtins=builtinsNs
 above:X.s₀.heap.objs.size<=X.env.locals
 inj:∀ x y c,X.env.cells.lookup x=some c->X.env.cells.lookup y=some c->x=y
 has:∀ x,(X.env.kindOf x=some .cell\/X.env.kindOf x=some .free)->∃ c,X.env.cells.lookup x=some c
 cab:∀ x c,X.fn x=true->X.env.cells.lookup x=some c->X.s₀.heap.objs.size<=c
 hd:X.calm=true->X.A.handled=none
 frames:X.A.frames=some X.stack
 stk:X.stack=X.outer\/(X.stack=X.env::X.outer/\X.env.frame=some X.env.locals)
 exf:∀ b∈X.ex,b≠X.env.locals/\∀ x c,X.env.cells.lookup x=some c->c≠b
 bs:∀ b o,X.base.get? b=some o->X.s₀.heap.get? b=some o/\X.H₀ b=none
 bsz:X.base.objs.size<=X.s₀.heap.objs.size
 noex:∀ b o,X.base.get? b=some o->b ∉ X.ex
 exfs:∀ b∈X.ex,b ∉ X.fs
 funs:X.s₀.heap.FunFrames X.base X.outer
 frf:∀ b∈X.fs,X.H₀ b=none
structure Inv(X:Cx)(pins:List (Addr×Obj))(M:List (Option V))(H:Hp)(s:Shared):Prop where
 ok:X.Ok
 os:s.os=X.s₀.os
 bare:AllBare s.gens
 base:Un X.fs X.ex X.H₀ H X.s₀.heap s.heap
 loc:∃ m,s.heap.Ns X.env.locals m/\∀ (i:Nat) (x:Str) (v:V),X.N[i]?=some x->M[i]?=some (some v)->Vis X.env.scope x->∃ u,RelV v u/\Look X.env s.heap m x u
 cell:∀ x c,X.env.cells.lookup x=some c->∃ v,s.heap.IsCell c v
 free:H X.env.locals=none
 freeC:∀ x c,X.env.cells.lookup x=some c->H c=none
 pin:∀ p∈X.pn++pins,s.heap.get? p.1=some p.2/\H p.1=none/\p.1≠X.env.locals/\p.1 ∉ X.fs/\∀ v,p.2.data≠.cell v
 hok:HOk X.prog X.w H s.heap
 len:M.length=X.N.length
variable {x:Str}{X:Cx}{pins:List (Addr×Obj)}{s s':Shared}{g':Array GenState}{t' i j:Nat}{d':Drawn}{ch:List Addr}{it:Addr}{N:List Str}{Mq:Model}{A:Around}{E:Value->Shared->Prop}{v:V}
section
variable {M:List (Option V)}
def Cx.Ok.nofr(ok:X.Ok){o:Obj}(e:X.base.get? b=some o):b ∉ X.fs:=fun hb=>by have:=(ok.funs.mem hb).1;rw[e] at this;cases this
def Inv.bs(I:Inv X pins M H s):∀ b o,X.base.get? b=some o->s.heap.get? b=some o/\H b=none:=fun b o e =>
 ⟨I.base.keep b o (I.ok.bs b o e).1 (I.ok.bs b o e).2 (I.ok.nofr e)<|I.ok.noex b o e,I.base.free b o (I.ok.bs b o e).1 (I.ok.bs b o e).2<|I.ok.noex b o e⟩
def Inv.bk(I:Inv X pins M H s):∀ b o,X.base.get? b=some o->s.heap.get? b=some o:=fun b o e=>(I.bs b o e).1
def Inv.mod(I:Inv X pins M H s):Mod X.K X.mg X.base:=I.ok.mod
def Inv.kIn(I:Inv X pins M H s):X.K.In s.heap:=I.ok.mod.kin.keeps I.bk
def Inv.fr(I:Inv X pins M H s):∃ m,Fr X.base X.env.locals s.heap m :=
 let ⟨m,hn,_⟩:=I.loc
 ⟨m,hn,I.bk,AC I.ok.bsz I.ok.above⟩
def Inv.lt(I:Inv X pins M H s):X.env.locals < s.heap.objs.size:=let ⟨_,hn,_⟩:=I.loc;hn.lt
def Inv.sz(I:Inv X pins M H s):X.s₀.heap.objs.size<=s.heap.objs.size:=AC I.ok.above<|B3 I.lt
def Inv.nofs(I:Inv X pins M H s)(h:s.heap.objs.size<=a):a ∉ X.fs:=fun hb=>by obtain⟨_,o,ho,_⟩:=I.ok.funs.mem hb;exact absurd (Az (Ai ho)<|AC I.sz h)<|AK _
def Inv.cne(I:Inv X pins M H s):∀ x c,X.env.cells.lookup x=some c->c≠X.env.locals:=fun x c e z=>by obtain⟨v,o,ho,hd⟩:=I.cell x c e;obtain⟨m,⟨o',es,ep,ho',hd',_⟩,_⟩:=I.loc;rw[z,ho'] at ho;cases ho;rw[hd'] at hd;cases hd
def Inv.funs(I:Inv X pins M H s):s.heap.FunFrames X.base X.outer:=by
 have all:∀ (l:List Env),(∀ b∈frs l,b∈X.fs)->X.s₀.heap.FunFrames X.base l->s.heap.FunFrames X.base l:=by
   intro l
   induction l with
   | nil=>intro _ _;trivial
   | cons env r ih =>
     intro hs hl;obtain⟨hk,⟨L,o,hf,hn,ho,hd⟩,hr⟩:=hl;have hL:L∈X.fs:=hs L (by unfold frs;rw[Bw,hf];exact Ak);obtain⟨sl,e⟩:=I.base.slot L o ho (I.ok.frf L hL) hL fun z=>I.ok.exfs L z hL;exact⟨hk,⟨L,_,hf,hn,e,hd⟩,ih (fun b hb=>hs b (by unfold frs;rw[Bw,hf];exact Aj _ hb)) hr⟩
 exact all X.outer (fun _ hb=>hb) I.ok.funs
def Inv.stack(I:Inv X pins M H s):s.heap.FunFrames X.base X.stack:=by
 rcases I.ok.stk with e | ⟨e,hf⟩
 . rw[e];exact I.funs
 rw[e];obtain⟨m,hn,_⟩:=I.loc;refine .cons (by rw[I.ok.kind];decide) hf hn ?_ I.funs;exact Heap.get?_none_of_le<|AC I.ok.bsz I.ok.above
def Inv.stkSub(I:Inv X pins M H s):∀ b∈frs X.stack,b∈X.env.locals::X.fs:=fun b hb=>by
 rcases I.ok.stk with e | ⟨e,hf⟩
 . rw[e] at hb;exact Aj _ hb
 rw[e] at hb;unfold frs at hb;rw[Bw,hf] at hb;exact hb
def Inv.stkFree(I:Inv X pins M H s):∀ b∈frs X.stack,H b=none:=fun b hb=>by
 rcases List.mem_cons.mp (I.stkSub b hb) with e | hb
 . rw[e];exact I.free
 obtain⟨_,o,ho,_⟩:=I.ok.funs.mem hb;exact I.base.free b o ho (I.ok.frf b hb) fun z=>I.ok.exfs b z hb
def Inv.step{ch:List Addr}(I:Inv X pins M H s)
   (hch:∀ b∈ch,(b∈X.ex\/X.s₀.heap.objs.size<=b)/\b≠X.env.locals/\(∀ x c,X.env.cells.lookup x=some c->c≠b)/\∀ p∈X.pn++pins,p.1≠b)
   (keep:∀ b o,b≠X.env.locals->b ∉ X.fs->b ∉ ch->s.heap.get? b=some o->H b=none->h'.get? b=some o)
   (slot:∀ b o,b≠X.env.locals->b∈X.fs->b ∉ ch->s.heap.get? b=some o->H b=none->∃ sl,h'.get? b=some { o with slots:=sl }) (free:∀ b o,b ∉ ch->s.heap.get? b=some o->H b=none->H' b=none)
   (there:∀ b o,b ∉ ch->s.heap.get? b=some o->∃ o',h'.get? b=some o')
   (tups:∀ b xs,H b=some (.tup xs)->H' b=some (.tup xs)) (frzs:∀ b o u,H b=some (.frz o u)->H' b=some (.frz o u)) (tbls:∀ b ps,H b=some (.tbl ps)->∃ more,H' b=some (.tbl<|ps++more))
   (ns:∀ m,s.heap.Ns X.env.locals m->h'.Ns X.env.locals m) (hok:HOk X.prog X.w H' h') (hg:AllBare g') :
   Inv X pins M H' { s with heap:=h',gens:=g',drawn:=d',toks:=t' }:=by
 have neL:∀ b o,X.s₀.heap.get? b=some o->b≠X.env.locals:=fun b o e=>Ar<|Az (Ai e) I.ok.above;have neC:∀ b o,X.s₀.heap.get? b=some o->b ∉ X.ex->b ∉ ch:=fun b o e hx hb=>by
   rcases (hch b hb).1 with z | z
   . exact hx z
   exact absurd (Az (Ai e) z)<|AK _
 have cellK:∀ x c,X.env.cells.lookup x=some c->∀ v,s.heap.IsCell c v->h'.IsCell c v:=by
   rintro x c e v ⟨o,ho,hd⟩;have nch:c ∉ ch:=fun z=>(hch c z).2.2.1 x c e rfl
   by_cases hc:c∈X.fs
   . obtain⟨sl,q⟩:=slot c o (I.cne x c e) hc nch ho<|I.freeC x c e;exact⟨_,q,hd⟩
   exact⟨o,keep c o (I.cne x c e) hc nch ho<|I.freeC x c e,hd⟩
 refine⟨I.ok,I.os,hg,⟨fun b o e n hb hx=>?_,fun b o e n hb hx=>?_,fun b o e n hx=>?_,fun b o e hx=>?_,fun b xs e=>tups b xs (I.base.tups b xs e),fun b o xs e=>frzs b o xs (I.base.frzs b o xs e),fun b ps e=>?_⟩,?_,fun x c e=>?_,?_,fun x c e=>?_,fun p hp=>?_,hok,I.len⟩
 . exact keep b o (neL b o e) hb (neC b o e hx) (I.base.keep b o e n hb hx)<|I.base.free b o e n hx
 . obtain⟨sl,e1⟩:=I.base.slot b o e n hb hx;obtain⟨sl',e2⟩:=slot b _ (neL b o e) hb (neC b o e hx) e1<|I.base.free b o e n hx;exact⟨sl',e2⟩
 . obtain⟨o',e1⟩:=I.base.there b o e hx;exact free b o' (neC b o e hx) e1<|I.base.free b o e n hx
 . obtain⟨o',e1⟩:=I.base.there b o e hx;exact there b o' (neC b o e hx) e1
 . obtain⟨m1,e1⟩:=I.base.tbls b ps e;obtain⟨m2,e2⟩:=tbls b _ e1;exact⟨m1++m2,by rw[e2,Array.append_assoc]⟩
 . obtain⟨m,hn,hl⟩:=I.loc;refine⟨m,ns m hn,fun i x v e1 e2 e3=>?_⟩;obtain⟨u,r,l⟩:=hl i x v e1 e2 e3;refine⟨u,r,?_⟩
   rcases l with l | ⟨k,c,e,z⟩
   . exact .inl l
   exact .inr ⟨k,c,e,cellK x c e _ z⟩
 . obtain⟨v,z⟩:=I.cell x c e;exact⟨v,cellK x c e v z⟩
 . obtain⟨m,⟨o,_,_,ho,_⟩,_⟩:=I.loc;exact free _ o (fun z=>(hch _ z).2.1 rfl) ho I.free
 . obtain⟨v,o,ho,hd⟩:=I.cell x c e;exact free c o (fun z=>(hch c z).2.2.1 x c e rfl) ho<|I.freeC x c e
 obtain⟨e,n,ne,nf,d⟩:=I.pin p hp;have nch:p.1 ∉ ch:=fun z=>(hch p.1 z).2.2.2 p hp rfl;exact⟨keep p.1 p.2 ne nf nch e n,free p.1 p.2 nch e n,ne,nf,d⟩
def Inv.un(I:Inv X pins M H s)(u:Un X.fs [] H H' s.heap h')(hok:HOk X.prog X.w H' h'):Inv X pins M H' { s with heap:=h',toks:=t' }:=by
 obtain⟨m,⟨o,es,ep,ho,r⟩,_⟩:=id I.loc;obtain⟨sl,hL⟩:=u.any ho I.free (by simp);exact I.step (g':=s.gens) (d':=s.drawn) (ch:=[]) (fun _ z=>nomatch z) (fun b o _ hb _ e n=>u.keep b o e n hb (by simp)) (fun b o _ hb _ e n=>u.slot b o e n hb (by simp)) (fun b o _ e n=>u.free b o e n (by simp)) (fun b o _ e=>u.there b o e (by simp)) u.tups u.frzs u.tbls (fun m' hm=>by obtain⟨o',es',ep',ho',r'⟩:=hm;rw[ho] at ho';cases ho';exact⟨_,es',ep',hL,r'⟩) hok I.bare
def Inv.call{ch:List Addr}(I:Inv X pins M H s)(u:Un (frs X.stack) ch H H' s.heap h')(hok:HOk X.prog X.w H' h')(hg:AllBare g')
   (hch:∀ b∈ch,(b∈X.ex\/X.s₀.heap.objs.size<=b)/\b≠X.env.locals/\(∀ x c,X.env.cells.lookup x=some c->c≠b)/\∀ p∈X.pn++pins,p.1≠b) :
   Inv X pins M H' { s with heap:=h',gens:=g',drawn:=d',toks:=t' }:=by
 obtain⟨m,⟨o,es,ep,ho,r⟩,_⟩:=id I.loc;obtain⟨sl,hL⟩:=u.any ho I.free fun z=>(hch _ z).2.1 rfl;exact I.step (ch:=ch) hch (fun b o hL hb hc e n=>u.keep b o e n (fun z=>(List.mem_cons.mp<|I.stkSub b z).elim hL hb) hc) (fun b o _ _ hc e n=>u.any e n hc) (fun b o hc e n=>u.free b o e n hc) (fun b o hc e=>u.there b o e hc) u.tups u.frzs u.tbls (fun m' hm=>by obtain⟨o',es',ep',ho',r'⟩:=hm;rw[ho] at ho';cases ho';exact⟨_,es',ep',hL,r'⟩) hok hg
def Inv.turned(I:Inv X pins M H s)(k:∀ b o,b≠it->s.heap.get? b=some o->h'.get? b=some o)(hn:H it=none)(hL:it≠X.env.locals)
   (h1:it∈X.ex\/X.s₀.heap.objs.size<=it) (h2:∀ x c,X.env.cells.lookup x=some c->c≠it) (h3:∀ p∈X.pn++pins,p.1≠it):Inv X pins M H { s with heap:=h',toks:=t' }:=by
 have nit:∀ b u,H b=some u->b≠it:=fun b u e z=>by rw[z,hn] at e;cases e
 refine I.step (g':=s.gens) (d':=s.drawn) (ch:=[it]) (fun b hb=>?_) (fun b o _ _ hc e _=>k b o (fun z=>hc (by simp[z])) e) (fun b o _ _ hc e _=>⟨o.slots,k b o (fun z=>hc (by simp[z])) e⟩) (fun _ _ _ _ n=>n)
   (fun b o hc e=>⟨o,k b o (fun z=>hc (by simp[z])) e⟩) (fun _ _ e=>e) (fun _ _ _ e=>e) (fun b ps e=>⟨#[],by rw[e];simp⟩) (fun m hm=>?_) (fun b u e=>?_) I.bare
 . have e:b=it:=by simpa using hb
   subst e;exact⟨h1,hL,h2,h3⟩
 . obtain⟨o,es,ep,ho,r⟩:=hm;exact⟨o,es,ep,k _ o (Bo hL) ho,r⟩
 . refine (I.hok b u e).stay (fun c v hc q=>k c v ?_ q) (fun _ q=>q) fun _ _ q=>q
   rcases hc with z | z
   . rw[z];exact nit b u e
   exact nit c _ z
def Inv.tok(I:Inv X pins M H s)(t:Nat):Inv X pins M H { s with toks:=t }:=I.un (h':=s.heap) (t':=t) Un.refl I.hok
def Inv.kept{t':Nat}(I:Inv X pins M H s)(k:∀ b u,s.heap.get? b=some u->h'.get? b=some u):Inv X pins M H { s with heap:=h',toks:=t' }:=I.un (Un.kept k)<|I.hok.kept k
def Inv.laid{a:Addr}{o:HO}{t':Nat}(I:Inv X pins M H s)(k:∀ b u,s.heap.get? b=some u->h'.get? b=some u)(hp:s.heap.objs.size<=a)(new:zcx X.prog X.w (upd H a o) h' a o) :
   Inv X pins M (upd H a o) { s with heap:=h',toks:=t' }:=I.un (Un.laid k hp<|I.hok.fresh hp) (I.hok.laid k hp new)
def Inv.write{x e:Addr}{o:HO}{t':Nat}(I:Inv X pins M H s)(mu:Mut (H x))(he:e=x\/H e=some (.own x))(k:∀ b u,b≠e->s.heap.get? b=some u->h'.get? b=some u)(heo:∃ u,h'.get? e=some u)
   (new:zcx X.prog X.w (upd H x o) h' x o):Inv X pins M (upd H x o) { s with heap:=h',toks:=t' }:=I.un (Un.write mu he k heo) (I.hok.write mu he k heo new)
def Inv.pins_of{pins':List (Addr×Obj)}(I:Inv X pins M H s)(h:∀ p∈pins',s.heap.get? p.1=some p.2/\H p.1=none/\p.1≠X.env.locals/\p.1 ∉ X.fs/\∀ v,p.2.data≠.cell v):Inv X pins' M H s :=
 ⟨I.ok,I.os,I.bare,I.base,I.loc,I.cell,I.free,I.freeC,fun p hp=>(List.mem_append.mp hp).elim (fun z=>I.pin p (BN _ z)) (h p),I.hok,I.len⟩
def zh3(hN:N.Nodup)(a:N[i]?=some x)(b:N[j]?=some x):i=j:=by obtain⟨h1,e1⟩:=List.getElem?_eq_some_iff.mp a;obtain⟨h2,e2⟩:=List.getElem?_eq_some_iff.mp b;exact (List.getElem_inj hN).mp<|e1.trans e2.symm
def zf7{Q:Unit->Shared->Prop}(I:Inv X pins M H s)(hN:X.N.Nodup)(hi:X.N[i]?=some x)(hx:Loc X.env.scope x)(r:RelV v u)
   (h:∀ s',Inv X pins (M.set i<|some v) H s'->(∃ a,BA a s.heap s'.heap/\(a=X.env.locals\/X.env.cells.lookup x=some a))->Q () s') (hf:X.fn x=true\/X.env.scope.names.lookup x=some .local:=by first | exact .inl rfl | exact .inr rfl | assumption):wpAny Mq A (storeName X.env x u) Q E s:=by
 obtain⟨m,hn,hl⟩:=id I.loc;have hcls:(X.env.scope.kind==.class || (X.env.scope.kind==.module&&X.env.locals != X.env.globals))=false:=by rw[I.ok.kind];rfl
 have hiM:i < M.length:=by rw[I.len];exact (List.getElem?_eq_some_iff.mp hi).1
 have cne:=I.cne;have tracked:∀ {a:Addr} {h':Heap},(∃ o,s.heap.get? a=some o/\H a=none)->BA a s.heap h'->HOk X.prog X.w H h':=fun {a h'} ha hs b ob e=>by
   obtain⟨_,_,hfree⟩:=ha;refine (I.hok b ob e).stay (fun c w' hc q=>(hs.2 c ?_).trans q) (fun _ q=>q) fun _ _ q=>q;rintro rfl
   rcases hc with rfl | hc
   . rw[hfree] at e;cases e
   rw[hfree] at hc;cases hc
 rcases hx with hk | hk
 . refine wpAny_storeName_local hk hn (fun h' hn' hs=>?_) hcls;obtain⟨oL,_,_,hoL,_⟩:=id hn;refine h _ ⟨I.ok,I.os,I.bare,⟨fun b o e n hb hx=>?_,fun b o e n hb hx=>?_,I.base.free,fun b o e hx=>?_,I.base.tups,I.base.frzs,I.base.tbls⟩,⟨_,hn',fun j y v' e1 e2 e3=>?_⟩,fun y c e=>?_,I.free,I.freeC,fun p hp=>?_,tracked ⟨oL,hoL,I.free⟩ hs,by simpa using I.len⟩ ⟨_,hs,.inl rfl⟩
   . exact (hs.2 b<|Ar<|Az (Ai e) I.ok.above).trans<|I.base.keep b o e n hb hx
   . obtain⟨sl,e1⟩:=I.base.slot b o e n hb hx;exact⟨sl,(hs.2 b<|Ar<|Az (Ai e) I.ok.above).trans e1⟩
   . obtain⟨o',e1⟩:=I.base.there b o e hx;exact⟨o',(hs.2 b<|Ar<|Az (Ai e) I.ok.above).trans e1⟩
   . by_cases hj:j=i
     . subst hj;rw[hi] at e1;cases e1;rw[AY hiM] at e2;cases e2;exact⟨u,r,.inl ⟨hk,by simp⟩⟩
     . rw[AA (Bo hj)] at e2;obtain⟨u',r',q⟩:=hl j y v' e1 e2 e3;refine⟨u',r',?_⟩
       rcases q with ⟨k,e⟩ | ⟨k,c,e,z⟩
       . refine .inl ⟨k,?_⟩;have:y≠x:=fun e=>hj<|zh3 hN e1<|e ▸ hi;simp[this,e]
       exact .inr ⟨k,c,e,z.sameBut hs<|cne y c e⟩
   . obtain⟨w',z⟩:=I.cell y c e;exact⟨w',z.sameBut hs<|cne y c e⟩
   obtain⟨e,n,ne,nf,d⟩:=I.pin p hp;exact⟨(hs.2 p.1 ne).trans e,n,ne,nf,d⟩
 . have hfn:X.fn x=true:=by
     rcases hf with z | z
     . exact z
     rw[z] at hk;cases hk
   obtain⟨c,hc⟩:=I.ok.has x<|.inl hk;obtain⟨w',z⟩:=I.cell x c hc;refine wpAny_storeName_cell I.ok.kind hk hc z fun h' hc' hs=>?_;obtain⟨oc,hoc,hocd⟩:=id z;refine h { s with heap:=h' } ⟨I.ok,I.os,I.bare,⟨fun b o e n hb hx=>?_,fun b o e n hb hx=>?_,I.base.free,fun b o e hx=>?_,I.base.tups,I.base.frzs,I.base.tbls⟩,⟨m,hn.sameBut hs<|Bo<|cne x c hc,fun j y v' e1 e2 e3=>?_⟩,fun y c' e=>?_,I.free,I.freeC,fun p hp=>?_,tracked ⟨oc,hoc,I.freeC x c hc⟩ hs,by simpa using I.len⟩ ⟨c,hs,.inr hc⟩
   . exact (hs.2 b<|Ar<|Az (Ai e)<|I.ok.cab x c hfn hc).trans<|I.base.keep b o e n hb hx
   . obtain⟨sl,e1⟩:=I.base.slot b o e n hb hx;exact⟨sl,(hs.2 b<|Ar<|Az (Ai e)<|I.ok.cab x c hfn hc).trans e1⟩
   . obtain⟨o',e1⟩:=I.base.there b o e hx;exact⟨o',(hs.2 b<|Ar<|Az (Ai e)<|I.ok.cab x c hfn hc).trans e1⟩
   . by_cases hj:j=i
     . subst hj;rw[hi] at e1;cases e1;rw[AY hiM] at e2;cases e2;exact⟨u,r,.inr ⟨.inl hk,c,hc,hc'⟩⟩
     . rw[AA (Bo hj)] at e2;obtain⟨u',r',q⟩:=hl j y v' e1 e2 e3;refine⟨u',r',?_⟩
       rcases q with q | ⟨k,c',e,z'⟩
       . exact .inl q
       refine .inr ⟨k,c',e,z'.sameBut hs ?_⟩;rintro rfl;exact hj<|zh3 hN e1<|I.ok.inj _ _ _ e hc ▸ hi
   . by_cases hcc:c'=c
     . subst hcc;exact⟨_,hc'⟩
     obtain⟨w2,z2⟩:=I.cell y c' e;exact⟨w2,z2.sameBut hs hcc⟩
   obtain⟨e,n,ne,nf,d⟩:=I.pin p hp;refine⟨(hs.2 p.1 ?_).trans e,n,ne,nf,d⟩;intro q;rw[q,hoc] at e;have q':oc=p.2:=Ay e;exact d w' (by rw[<-q'];exact hocd)
def zei{Q:Unit->Shared->Prop}(I:Inv X pins M H s)(hN:X.N.Nodup)(hi:X.N[i]?=some x)(hx:Loc X.env.scope x)(r:RelV v u)
   (h:∀ s',Inv X pins (M.set i<|some v) H s'->Q () s') (hf:X.fn x=true\/X.env.scope.names.lookup x=some .local:=by first | exact .inl rfl | exact .inr rfl | assumption):wpAny Mq A (storeName X.env x u) Q E s :=
 zf7 I hN hi hx r (fun s' I' _=>h s' I') hf
def Inv.call'{ch:List Addr}(I:Inv X pins M H s)(ho:s'.os=s.os)(u:Un (frs X.stack) ch H H' s.heap s'.heap)(hok:HOk X.prog X.w H' s'.heap)(hg:AllBare s'.gens)
   (hch:∀ b∈ch,(b∈X.ex\/X.s₀.heap.objs.size<=b)/\b≠X.env.locals/\(∀ x c,X.env.cells.lookup x=some c->c≠b)/\∀ p∈X.pn++pins,p.1≠b):Inv X pins M H' s':=by
 obtain⟨h',g',d',t',o'⟩:=s';have e:o'=s.os:=ho;subst e;exact I.call (g':=g') (t':=t') (d':=d') u hok hg hch
end
noncomputable abbrev XK:=Value->Option Addr->Hp->Prop
noncomputable abbrev St:=List (Option V)
noncomputable abbrev VK:=V->Hp->Prop
noncomputable abbrev TE:=St->Hp->VK->Prop
noncomputable abbrev TT:=St->Hp->(Bool->Hp->Prop)->Prop
noncomputable abbrev TA:=St->Hp->(List V->Hp->Prop)->Prop
structure Ends where
 nx:St->Hp->Prop
 rt:VK
 bk:St->Hp->Prop:=fun _ _=>False
 ct:St->Hp->Prop:=fun _ _=>False
noncomputable abbrev TS:=Ends->St->Hp->Prop
def EP(X:Cx)(pins:List (Addr×Obj))(M:St)(Q:VK)(u:Value)(s':Shared):Prop:=∃ v H',Inv X pins M H' s'/\RelV v u/\Q v H'
def TP(X:Cx)(pins:List (Addr×Obj))(M:St)(Q:Bool->Hp->Prop)(b:Bool)(s':Shared):Prop:=∃ H',Inv X pins M H' s'/\Q b H'
def AP(X:Cx)(pins:List (Addr×Obj))(M:St)(Q:List V->Hp->Prop)(us:List Value)(s':Shared):Prop:=∃ vs H',Inv X pins M H' s'/\Vals vs us/\Q vs H'
def SP(X:Cx)(pins:List (Addr×Obj))(D:Ends)(f:Flow)(s':Shared):Prop :=
 match f with
 | .next=>∃ M' H',Inv X pins M' H' s'/\D.nx M' H'
 | .brk=>∃ M' H',Inv X pins M' H' s'/\D.bk M' H'
 | .cont=>∃ M' H',Inv X pins M' H' s'/\D.ct M' H'
 | .ret u=>∃ v M' H',Inv X pins M' H' s'/\RelV v u/\D.rt v H'
def PE(X:Cx)(e:Expr)(t:TE):Prop :=
 ∀ (pins:List (Addr×Obj)) (s:Shared) (M:St) (H:Hp) (Q:VK),Inv X pins M H s->t M H Q->wpAny (model X.prog X.w) X.A (eval e X.env) (EP X pins M Q) X.xe s
def PT(X:Cx)(e:Expr)(t:TT):Prop :=
 ∀ (pins:List (Addr×Obj)) (s:Shared) (M:St) (H:Hp) (Q:Bool->Hp->Prop),Inv X pins M H s->t M H Q->wpAny (model X.prog X.w) X.A (isTrue e X.env<|eval e X.env) (TP X pins M Q) X.xe s
def PW(X:Cx)(e:Expr)(t:TT):Prop :=
 ∀ (whole:Sem Value) (pins:List (Addr×Obj)) (s:Shared) (M:St) (H:Hp) (Q:Bool->Hp->Prop),Inv X pins M H s->t M H Q->wpAny (model X.prog X.w) X.A (isTrue e X.env whole) (TP X pins M Q) X.xe s
variable {e:Expr}
def PW.pt{t:TT}(h:PW X e t):PT X e t:=h _
def PA(X:Cx)(es:List Expr)(t:TA):Prop :=
 ∀ (pos:Pos) (pins:List (Addr×Obj)) (s:Shared) (M:St) (H:Hp) (Q:List V->Hp->Prop),Inv X pins M H s->t M H Q->wpAny (model X.prog X.w) X.A (spliced<|backTo pos<|starEach es X.env) (AP X pins M Q) X.xe s
def PS(X:Cx)(st:Stmt)(t:TS):Prop :=
 ∀ (pins:List (Addr×Obj)) (s:Shared) (M:St) (H:Hp) (D:Ends),Inv X pins M H s->t D M H->wpAny (model X.prog X.w) X.A (exec st X.env) (SP X pins D) X.xe s
def PSs(X:Cx)(st:List Stmt)(t:TS):Prop :=
 ∀ (pins:List (Addr×Obj)) (s:Shared) (M:St) (H:Hp) (D:Ends),Inv X pins M H s->t D M H->wpAny (model X.prog X.w) X.A (execs st X.env) (SP X pins D) X.xe s
def thn{t:Sem α}{Q Q':α->Shared->Prop}{s:Shared}(h:wpAny Mq A t Q E s)(hQ:∀ a s,Q a s->Q' a s):wpAny Mq A t Q' E s:=Bj h hQ fun _ _ x=>x
variable {M:St}{Q:Value->Shared->Prop}{pos:Pos}{ta tb:TE}{op:CmpOp}{c:Expr}
section
def tVar(i:Nat):TE:=fun M H Q=>∃ v,M[i]?=some (some v)/\Q v H
def tC(v:V):TE:=fun _ H Q=>Q v H
def zps(hN:X.N[i]?=some x)(hv:Vis X.env.scope x)(hd:(x==("__debug__":Str))=false:=by decide)(hcd:(x==("__classdict__":Str))=false:=by decide):PE X (.Name x pos) (tVar i):=by
 intro pins s M H Q I h;obtain⟨v,e,h⟩:=h;obtain⟨m,hn,hl⟩:=I.loc;obtain⟨u,r,l⟩:=hl i x v hN e hv;have fin:EP X pins M Q u s:=⟨v,H,I,r,h⟩
 rcases l with ⟨hk,hm⟩ | ⟨hk,c,hc,hcell⟩
 . exact ES (wpAny_loadName_local I.ok.kind hk hn hm fin) hd
 . rcases hk with hk | hk
   . exact ES (wpAny_loadName_cell I.ok.kind hk hc hcell fin) hd
   exact ES (wpAny_loadName_free I.ok.kind hk hc hcell fin hcd) hd
def zpz{i j pos}:PE X (.Constant (.int i) j pos) (tC<|.int i):=fun _ _ _ H _ I h=>wpAny_Constant_int ⟨.int i,H,I.tok _,⟨_,rfl⟩,h⟩
def zri{b j pos}:PE X (.Constant (.bool b) j pos) (tC<|.bl b):=fun _ _ _ H _ I h=>Constant_bool ⟨.bl b,H,I,rfl,h⟩
def zpx{j pos}:PE X (.Constant .none j pos) (tC .non):=fun _ _ _ H _ I h=>Constant_none ⟨.non,H,I,rfl,h⟩
def zpu{x j pos}:PE X (.Constant (.str x) j pos) (tC<|.str x):=fun _ _ _ H _ I h=>Calls.Constant_str ⟨.str x,H,I.tok _,⟨_,rfl⟩,h⟩
def Gl(X:Cx)(x:Str):Prop:=X.env.kindOf x=some .globalImplicit
def znX(I:Inv X pins M H s)(hg:Gl X x)(hm:X.mg x=some u)(h:Q u s)
   (hd:(x==("__debug__":Str))=false:=by decide):wpAny (model X.prog X.w) X.A (eval (.Name x pos) X.env) Q E s :=
 Da I.ok.kind hg (Calls.loadGlobal_global (by rw[I.ok.glob];exact I.mod.glob.keeps I.bk) hm h) hd
def zg3(I:Inv X pins M H s)(hg:Gl X x)(hm:X.mg x=none)(hv:bootBuiltins x=some u)(h:Q u s)
   (hn:x≠"__name__":=by decide) (hd:(x==("__debug__":Str))=false:=by decide):wpAny (model X.prog X.w) X.A (eval (.Name x pos) X.env) Q E s:=by
 obtain⟨mb,h1,h2⟩:=I.mod.blt;exact Da I.ok.kind hg (Calls.loadGlobal_builtin (by rw[I.ok.glob];exact I.mod.glob.keeps I.bk) hm (by rw[I.ok.blt];exact h1.keeps I.bk) ((h2 x hn).trans hv) h) hd
def znD(hg:Gl X x)(hm:X.mg x=none)(hv:bootBuiltins x=some u)(r:RelV v u)(hn:x≠"__name__":=by decide)(hd:(x==("__debug__":Str))=false:=by decide):PE X (.Name x pos) (tC v) :=
 fun _ _ _ H _ I h=>zg3 I hg hm hv ⟨v,H,I,r,h⟩ hn hd
variable {a b:Expr}
def PC(X:Cx)(op:CmpOp)(a b:Expr)(t:TE):Prop :=
 ∀ (pins:List (Addr×Obj)) (s:Shared) (M:St) (H:Hp) (Q:VK),Inv X pins M H s->t M H Q ->
   wpAny (model X.prog X.w) X.A (eval a X.env) (fun v s₁=>wpAny (model X.prog X.w) X.A (eval b X.env) (fun u s₂=>wpAny (model X.prog X.w) X.A (compareOp op v u) (EP X pins M Q) X.xe s₂) X.xe s₁) X.xe s
def tB(t:TE):TT:=fun M H Q=>t M H fun x H1=>∃ c,x=.bl c/\Q c H1
def znp{t:TE}(h:PC X op a b t)(h1:behindInMarks op b=false:=by first | exact nobehind _ (by decide) (by decide) | rfl):PT X (.Compare a [op] [b] pos) (tB t):=by intro pins s M H Q I hw;refine DT (thn (h pins s M H _ I hw) fun v s1 h1=>thn h1 fun u s2 h2=>thn h2 ?_) h1;rintro c s3 ⟨x,H1,I1,r1,q1⟩;obtain⟨d,rfl,q⟩:=q1;cases r1;exact Bd ⟨H1,I1,q⟩
variable {tA tB':TT} {rest:List Expr}
def tAnd(t u:TT):TT:=fun M H Q=>t M H fun c H1=>if c=true then u M H1 Q else Q false H1
def tOr(t u:TT):TT:=fun M H Q=>t M H fun c H1=>if c=true then Q true H1 else u M H1 Q
def tNot(t:TT):TT:=fun M H Q=>t M H fun c H1=>Q (!c) H1
def pw_and1(ha:PT X a tA):PW X (.BoolOp .And [a] pos) tA:=by
 intro wh pins s M H Q I h;refine isTrue_and<|thn (ha pins s M H Q I h) fun c s1 e=>?_
 cases c with
 | true=>exact isTrue_and_nil e
 | false=>exact e
def pw_or1(ha:PT X a tA):PW X (.BoolOp .Or [a] pos) tA:=by
 intro wh pins s M H Q I h;refine isTrue_or<|thn (ha pins s M H Q I h) fun c s1 e=>?_
 cases c with
 | false=>exact isTrue_or_nil e
 | true=>exact e
def pw_and(ha:PT X a tA)(hb:PW X (.BoolOp .And (b::rest) pos) tB'):PW X (.BoolOp .And (a::b::rest) pos) (tAnd tA tB'):=by
 intro wh pins s M H Q I h;refine isTrue_and<|thn (ha pins s M H _ I h) ?_;rintro c s1 ⟨H1,I1,q1⟩
 cases c with
 | true=>exact hb wh pins s1 M H1 Q I1 q1
 | false=>exact⟨H1,I1,q1⟩
def pw_or(ha:PT X a tA)(hb:PW X (.BoolOp .Or (b::rest) pos) tB'):PW X (.BoolOp .Or (a::b::rest) pos) (tOr tA tB'):=by
 intro wh pins s M H Q I h;refine isTrue_or<|thn (ha pins s M H _ I h) ?_;rintro c s1 ⟨H1,I1,q1⟩
 cases c with
 | true=>exact⟨H1,I1,q1⟩
 | false=>exact hb wh pins s1 M H1 Q I1 q1
def zpi(ha:PT X a tA):PT X (.UnaryOp .Not a pos) (tNot tA):=by intro pins s M H Q I h;exact isTrue_not<|ha pins s M H (fun c H1=>Q (!c) H1) I h
def zq5(ta tb:TE):TE:=fun M H Q=>ta M H fun x H1=>∃ c,x=.bl c/\if c=true then tb M H1 Q else Q (.bl false) H1
def zqY(ta:TE):TE:=fun M H Q=>ta M H fun x H1=>∃ c,x=.bl c/\Q (.bl<|!c) H1
def zpv{op}{t:TE}(h:PE X a t):PE X (.BoolOp op [a] pos) t:=fun pins s M H Q I hw=>BoolOp_one<|h pins s M H Q I hw
def zpA(ha:PE X a ta)(hb:PE X (.BoolOp .And (b::rest) pos) tb):PE X (.BoolOp .And (a::b::rest) pos) (zq5 ta tb):=by
 intro pins s M H Q I h;refine BoolOp_and<|thn (ha pins s M H _ I h) ?_;rintro v s1 ⟨x,H1,I1,r1,q1⟩;obtain⟨c,rfl,q1⟩:=q1;cases r1;refine Bd ?_
 cases c with
 | true=>exact hb pins s1 M H1 Q I1 q1
 | false=>exact⟨.bl false,H1,I1,rfl,q1⟩
def zpw(ha:PE X a ta):PE X (.UnaryOp .Not a pos) (zqY ta):=by intro pins s M H Q I h;refine UnaryOp_<|thn (ha pins s M H _ I h) ?_;rintro v s1 ⟨x,H1,I1,r1,q1⟩;obtain⟨c,rfl,q1⟩:=q1;cases r1;exact not_of<|Bd ⟨.bl<|!c,H1,I1,rfl,q1⟩
def tIf(t:TT)(ta tb:TE):TE:=fun M H Q=>t M H fun c H1=>if c=true then ta M H1 Q else tb M H1 Q
def zlA(hc:PT X c tA)(ha:PE X a ta)(hb:PE X b tb):PE X (.IfExp c a b pos) (tIf tA ta tb):=by
 intro pins s M H Q I h;refine wpAny_IfExp<|thn (hc pins s M H _ I h) ?_;rintro d s1 ⟨H1,I1,q1⟩
 cases d with
 | true=>exact ha pins s1 M H1 Q I1 q1
 | false=>exact hb pins s1 M H1 Q I1 q1
end
def SqL(K:Ab)(H:Hp)(a:Addr)(xs:List V):Prop :=
 Rd H a (.lst xs) \/
   ∃ (o:Obj) (its:Array Value) (n:Nat),K.lookup a=some o/\o.cls=.type "list"/\o.dict=none/\o.data=.seq its n/\its.size<=sizeLine/\Vals xs its.toList
def SqT(K:Ab)(H:Hp)(a:Addr)(xs:List V):Prop :=
 Rd H a (.tup xs) \/
   ∃ (o:Obj) (its:Array Value) (n:Nat),K.lookup a=some o/\o.cls=.type "tuple"/\o.data=.seq its n/\its.size<=sizeLine/\Vals xs its.toList
def absV:Value->Option V
 | .none=>some .non
 | .bool b=>some<|.bl b
 | .int i _=>some<|.int i
 | .str x _=>some<|.str x
 | .bytes b _=>some<|.byt b
 | .float b _=>some<|.flt b
 | .ref a=>some<|.ref a
 | .type n=>some<|.ty n
 | _=>none
def RelV.abs{x:V}(r:RelV x u):absV u=some x:=by
 cases x with
 | non=>cases r;rfl
 | bl _=>cases r;rfl
 | int _=>obtain⟨t,rfl⟩:=r;rfl
 | str _=>obtain⟨t,rfl⟩:=r;rfl
 | byt _=>obtain⟨t,rfl⟩:=r;rfl
 | flt _=>obtain⟨t,rfl⟩:=r;rfl
 | ref _=>cases r;rfl
 | ty _=>cases r;rfl
variable {y:V}
def RelV.inj{x:V}(r:RelV x u)(q:RelV y u):x=y:=Ay<|r.abs.symm.trans q.abs
def Vals.inj:∀ {xs ys:List V} {us:List Value},Vals xs us->Vals ys us->xs=ys
 | _,_,_,.nil,.nil=>rfl
 | _,_,_,.cons r t,.cons r' t'=>by rw[r.inj r',Vals.inj t t']
variable {K:Ab}
section
variable {xs ys:List V}
def SqL.of(h:H a=some (.lst xs)):SqL K H a xs:=.inl<|.inl h
def SqT.of(h:H a=some (.tup xs)):SqT K H a xs:=.inl<|.inl h
def Inv.list(I:Inv X pins M H s)(h:SqL X.K H a xs):∃ its:List Value,Vals xs its/\PlainL s.heap a its.toArray/\xs.length<=sizeLine:=by
 rcases h with h | ⟨o,its,n,hk,hc,hd,hs,hz,r⟩
 . obtain⟨z,its,n,r,e⟩:=h.ok I.hok;exact⟨its,r,⟨_,n,e,rfl,rfl,rfl⟩,z⟩
 refine⟨its.toList,r,⟨o,n,I.kIn a o hk,hc,hd,by simpa using hs⟩,?_⟩;have e:=r.length;simp only[A2] at e;omega
def Inv.tuple(I:Inv X pins M H s)(h:SqT X.K H a xs):∃ its:List Value,Vals xs its/\IsTup s.heap a its.toArray/\xs.length<=sizeLine:=by
 rcases h with h | ⟨o,its,n,hk,hc,hs,hz,r⟩
 . obtain⟨z,its,r,p⟩:=h.ok I.hok;exact⟨its,r,p.t,z⟩
 refine⟨its.toList,r,⟨o,I.kIn a o hk,hc,n,by simpa using hs⟩,?_⟩;have e:=r.length;simp only[A2] at e;omega
def Inv.list_inj(I:Inv X pins M H s)(h:SqL X.K H a xs)(h':SqL X.K H a ys):xs=ys:=by
 obtain⟨its,r,⟨o,n,e,_,_,d⟩,_⟩:=I.list h;obtain⟨its',r',⟨o',n',e',_,_,d'⟩,_⟩:=I.list h';rw[e] at e';cases e';rw[d] at d';injection d' with d1 _
 have:its=its':=by simpa using congrArg Fv d1
 subst this;exact r.inj r'
def Inv.tuple_inj(I:Inv X pins M H s)(h:SqT X.K H a xs)(h':SqT X.K H a ys):xs=ys:=by
 obtain⟨its,r,⟨o,e,_,n,d⟩,_⟩:=I.tuple h;obtain⟨its',r',⟨o',e',_,n',d'⟩,_⟩:=I.tuple h';rw[e] at e';cases e';rw[d] at d';injection d' with d1 _
 have:its=its':=by simpa using congrArg Fv d1
 subst this;exact r.inj r'
end
noncomputable abbrev Cx.wish (X:Cx) (E:Value->Shared->Prop):Cx:={ X with xe:=E }
noncomputable abbrev Cx.nox (X:Cx):Cx:=X.wish fun _ _=>False
def Cx.Ok.wish{X:Cx}(ok:X.Ok)(E:Value->Shared->Prop):(X.wish E).Ok :=
 ⟨ok.mod,ok.kind,ok.glob,ok.blt,ok.above,ok.inj,ok.has,ok.cab,ok.hd,ok.frames,ok.stk,ok.exf,ok.bs,ok.bsz,ok.noex,ok.exfs,ok.funs,ok.frf⟩
def Cx.Ok.unwish(ok:(X.wish E).Ok):X.Ok :=
 ⟨ok.mod,ok.kind,ok.glob,ok.blt,ok.above,ok.inj,ok.has,ok.cab,ok.hd,ok.frames,ok.stk,ok.exf,ok.bs,ok.bsz,ok.noex,ok.exfs,ok.funs,ok.frf⟩
def Inv.wish(I:Inv X pins M H s)(E:Value->Shared->Prop):Inv (X.wish E) pins M H s:=⟨I.ok.wish E,I.os,I.bare,I.base,I.loc,I.cell,I.free,I.freeC,I.pin,I.hok,I.len⟩
def Inv.unwish(I:Inv (X.wish E) pins M H s):Inv X pins M H s:=⟨I.ok.unwish,I.os,I.bare,I.base,I.loc,I.cell,I.free,I.freeC,I.pin,I.hok,I.len⟩
def SP.unwish{D:Ends}{f:Flow}{s':Shared}(h:SP (X.wish E) pins D f s'):SP X pins D f s':=by
 cases f with
 | next=>obtain⟨M',H',I,q⟩:=h;exact⟨M',H',I.unwish,q⟩
 | brk=>obtain⟨M',H',I,q⟩:=h;exact⟨M',H',I.unwish,q⟩
 | cont=>obtain⟨M',H',I,q⟩:=h;exact⟨M',H',I.unwish,q⟩
 | ret u=>obtain⟨v,M',H',I,r,q⟩:=h;exact⟨v,M',H',I.unwish,r,q⟩
def PSs.nox{st:List Stmt}{t:TS}(h:PSs X.nox st t):PSs X st t:=fun pins s M H D I hw =>
 Bj (h pins s M H D (I.wish _) hw) (fun _ _ q=>q.unwish) fun _ _ z=>False.elim z
variable {te:TE}
section
variable {st:Stmt} {rest:List Stmt} {t u:TS}
def zqZ:TS:=fun D M H=>D.nx M H
def tSeq(t u:TS):TS:=fun D M H=>t { D with nx:=u D } M H
def znr:PSs X [] zqZ:=fun _ _ M H _ I h=>DD ⟨M,H,I,h⟩
def zlt(h1:PS X st t)(h2:PSs X rest u):PSs X (st::rest) (tSeq t u):=by
 intro pins s M H D I h;refine wpAny_execs_cons<|thn (h1 pins s M H { D with nx:=u D } I h) fun f s1 q=>?_
 cases f with
 | next =>
   obtain⟨M',H',I',q⟩:=q;exact h2 pins s1 M' H' D I' q
 | ret v=>exact q
 | brk=>exact q
 | cont=>exact q
def znq(h1:PS X st t):PSs X [st] t:=by
 intro pins s M H D I h;refine wpAny_execs_cons<|thn (h1 pins s M H D I h) fun f s1 q=>?_
 cases f with
 | next=>exact DD q
 | ret v=>exact q
 | brk=>exact q
 | cont=>exact q
def Inv.quiet(I:Inv X pins M H s):interactive X.env=false:=by simp[interactive,I.ok.kind]
def zq0(te:TE):TS:=fun D M H=>te M H fun _ H1=>D.nx M H1
def zns(he:PE X e te)(hs:swapsWith e none pos.line X.env=pure false:=by rfl):PS X (.Expr e pos) (zq0 te):=by intro pins s M H D I h;exact wpAny_Expr_any (thn (he pins s M H _ I h) fun v s1 ⟨x,H1,I1,r1,q1⟩=>⟨M,H1,I1,q1⟩) I.quiet hs
def tRet(te:TE):TS:=fun D M H=>te M H D.rt
def zpk(he:PE X e te):PS X (.Return (some e) pos) (tRet te):=by intro pins s M H D I h;exact wpAny_Return_some<|thn (he pins s M H _ I h) fun v s1 ⟨x,H1,I1,r1,q1⟩=>⟨x,M,H1,I1,r1,q1⟩
def tIfS(c:TT)(t u:TS):TS:=fun D M H=>c M H fun b H1=>if b=true then t D M H1 else u D M H1
def zrd{a b:List Stmt}{tc:TT}(hc:PT X c tc)(ha:PSs X a t)(hb:PSs X b u):PS X (.If c a b pos) (tIfS tc t u):=by
 intro pins s M H D I h;refine wpAny_If<|thn (hc pins s M H _ I h) ?_;rintro d s1 ⟨H1,I1,q1⟩
 cases d with
 | true=>exact ha pins s1 M H1 D I1 q1
 | false=>exact hb pins s1 M H1 D I1 q1
end
noncomputable abbrev TG:=V->St->Hp->(St->Hp->Prop)->Prop
noncomputable abbrev TGs:=List V->St->Hp->(St->Hp->Prop)->Prop
def PG(X:Cx)(target:Expr)(t:TG):Prop :=
 ∀ (pins:List (Addr×Obj)) (s:Shared) (M:St) (H:Hp) (v:V) (u:Value) (Q:St->Hp->Prop),Inv X pins M H s->RelV v u->t v M H Q ->
   wpAny (model X.prog X.w) X.A (assign target X.env u) (fun _ s'=>∃ M' H',Inv X pins M' H' s'/\Q M' H') X.xe s
def PGs(X:Cx)(ts:List Expr)(t:TGs):Prop :=
 ∀ (pins:List (Addr×Obj)) (s:Shared) (M:St) (H:Hp) (vs:List V) (us:List Value) (Q:St->Hp->Prop),Inv X pins M H s->Vals vs us->t vs M H Q ->
   wpAny (model X.prog X.w) X.A (assignInOrder ((assignEach ts X.env).map (·.2)) us) (fun _ s'=>∃ M' H',Inv X pins M' H' s'/\Q M' H') X.xe s
noncomputable abbrev TSet:=V->V->V->Hp->(Hp->Prop)->Prop
def PSet(X:Cx)(t:TSet):Prop :=
 ∀ (pins:List (Addr×Obj)) (s:Shared) (M:St) (H:Hp) (o i v:V) (ov iv u:Value) (Q:Hp->Prop),Inv X pins M H s->RelV o ov->RelV i iv->RelV v u->t o i v H Q ->
   wpAny (model X.prog X.w) X.A (setItem ov iv u) (fun _ s'=>∃ H',Inv X pins M H' s'/\Q H') X.xe s
variable {es:List Expr}{n:Nat}{tg:Expr}{pos':Pos}
def zqI(i:Nat):TG:=fun v M H Q=>Q (M.set i<|some v) H
def zny(hN:X.N.Nodup)(hi:X.N[i]?=some x)(hx:Loc X.env.scope x)(hf:X.fn x=true\/X.env.scope.names.lookup x=some .local:=by first | exact .inl rfl | exact .inr rfl | assumption):PG X (.Name x pos) (zqI i):=by intro pins s M H v u Q I r h;exact Ex<|zei I hN hi hx r (fun s' I'=>⟨_,H,I',h⟩) hf
def gNil:TGs:=fun vs M H Q=>vs=[]/\Q M H
def zrH(t:TG)(u:TGs):TGs:=fun vs M H Q=>∃ v r,vs=v::r/\t v M H fun M' H'=>u r M' H' Q
def znx:PGs X [] gNil:=by intro pins s M H vs us Q I r h;obtain⟨e,h⟩:=h;subst e;cases r;exact Ey ⟨M,H,I,h⟩
def zlz{t:TG}{u:TGs}(h1:PG X e t)(h2:PGs X es u)
   (hs:(assignEach (e::es) X.env).map (·.2)=assign e X.env::(assignEach es X.env).map (·.2):=by rfl):PGs X (e::es) (zrH t u):=by
 intro pins s M H vs us Q I r h;obtain⟨v,vr,e1,h⟩:=h;subst e1
 cases r with
 | cons r rr =>
   rw[hs];refine C5<|thn (h1 pins s M H _ _ _ I r h) ?_;rintro _ s1 ⟨M1,H1,I1,q1⟩;exact h2 pins s1 M1 H1 _ _ Q I1 rr q1
def gTup(K:Ab)(n:Nat)(t:TGs):TG:=fun v M H Q=>∃ a xs,v=.ref a/\SqT K H a xs/\xs.length=n/\t xs M H Q
def zpq{k:Nat}{t:TGs}(hc:X.calm=true)(h:PGs X es t)
   (hn:(assignEach es X.env).length=n:=by rfl) (hst:(assignEach es X.env).findIdx? (·.1)=none:=by rfl):PG X (.Tuple es k pos) (gTup X.K n t):=by
 intro pins s M H v u Q I r hw;obtain⟨a,xs,e1,hq,hl,hw⟩:=hw;subst e1;cases r;obtain⟨its,rv,ht,hz⟩:=I.tuple hq;refine assign_Tuple_tuple (I.ok.hd hc) ht (by simp[hn,<-hl,rv.length]) hst fun h' hx=>?_;have I1:Inv X pins M H { s with heap:=h' }:=I.kept (t':=s.toks) fun b o e=>hx b o (Ar<|Ai e) e;exact h pins _ M H xs _ Q I1 (by simpa using rv) hw
def gSub(to ti:TE)(t:TSet):TG:=fun v M H Q=>to M H fun o H1=>ti M H1 fun i H2=>t o i v H2 fun H3=>Q M H3
def zpr{o i:Expr}{to ti:TE}{t:TSet}(ho:PE X o to)(hi:PE X i ti)(hs:PSet X t)
   (ha:∀ v,assign (.Subscript o i pos) X.env v=(do
     let ov <-holding [v] (eval o X.env)
     let iv <-holding [v,ov] (eval i X.env)
     standAt pos
     holding [v,ov,iv] (setItem ov iv v)
     release [v,ov,iv] []):=by intro _;rfl):PG X (.Subscript o i pos) (gSub to ti t):=by
 intro pins s M H v u Q I r h;rw[ha];refine Aa<|AI<|thn (ho pins s M H _ I h) ?_;rintro ov s1 ⟨x,H1,I1,r1,q1⟩;refine Aa<|AI<|thn (hi pins s1 M H1 _ I1 q1) ?_;rintro iv s2 ⟨y,H2,I2,r2,q2⟩;refine Aa<|Cy<|Aa<|AI<|thn (hs pins s2 M H2 x y v ov iv u _ I2 r1 r2 r q2) ?_;rintro _ s3 ⟨H3,I3,q3⟩;exact wpAny_release ⟨M,H3,I3,q3⟩
def tAsg(te:TE)(g:TG):TS:=fun D M H=>te M H fun x H1=>g x M H1 D.nx
def zpn{g:TG}(he:PE X e te)(hg:PG X tg g)(hs:swapsWithSole [tg] e pos.line X.env=pure false:=by rfl)(hw:swappedStores [tg] e X.env=pure none:=by rfl)
   (h1:(assignEach [tg] X.env).map (·.2)=[assign tg X.env]:=by rfl):PS X (.Assign [tg] e pos) (tAsg te g):=by
 intro pins s M H D I h;refine wpAny_Assign_stores (thn (he pins s M H _ I h) ?_) hs hw;rintro v s1 ⟨x,H1,I1,r1,q1⟩;rw[h1];exact thn (hg pins s1 M H1 x v _ I1 r1 q1) fun _ s2 q=>q
def zpj(hN:X.N.Nodup)(hi:X.N[i]?=some x)(hx:Loc X.env.scope x)(he:PE X e te)(hs:swapsWith e (some<|.Name x pos') pos.line X.env=pure false:=by rfl)(hf:X.fn x=true\/X.env.scope.names.lookup x=some .local:=by first | exact .inl rfl | exact .inr rfl | assumption) :
   PS X (.Assign [.Name x pos'] e pos) (tAsg te<|zqI i):=by
 intro pins s M H D I h;refine wpAny_Assign_Name (thn (he pins s M H _ I h) ?_) hs;rintro v s1 ⟨y,H1,I1,r1,q1⟩;exact zei I1 hN hi hx r1 (fun s2 I2=>⟨_,H1,I2,q1⟩) hf
def tPar(i j:Nat)(ta:TA):TS:=fun D M H=>ta M H fun vs H1=>∃ v w,vs=[v,w]/\D.nx ((M.set i<|some v).set j<|some w) H1
def zpl{y:Str}{a b:Expr}{ta:TA}{px py pt:Pos}{kt k2 pt2}(hc:X.calm=true)(hN:X.N.Nodup)(hi:X.N[i]?=some x)(hj:X.N[j]?=some y)(hij:i≠j)
   (hx:X.env.scope.names.lookup x=some .local) (hy:X.env.scope.names.lookup y=some .local) (ha:PA X [a,b] ta)
   (hw:swappedStores [.Tuple [.Name x px,.Name y py] kt pt] (.Tuple [a,b] k2 pt2) X.env=pure (some [x,y]))
   (hs:swapsWithSole [.Tuple [.Name x px,.Name y py] kt pt] (.Tuple [a,b] k2 pt2) pos.line X.env=pure false:=by rfl) :
   PS X (.Assign [.Tuple [.Name x px,.Name y py] kt pt] (.Tuple [a,b] k2 pt2) pos) (tPar i j ta):=by
 intro pins s M H D I h;rw[exec_Assign_arm];refine Aa<|Cy ?_;rw[hs];refine Aa<|Ac ?_;rw[if_neg (by decide)];refine Aa<|Tuple_<|thn (ha _ pins s M H _ I h) ?_;rintro us s1 ⟨vs,H1,I1,r1,q1⟩;obtain⟨v,w,e1,q1⟩:=q1;subst e1;obtain⟨u1,u2,rfl,rv,rw'⟩:∃ u1 u2,us=[u1,u2]/\RelV v u1/\RelV w u2:=by
   cases r1 with
   | cons p q =>
     cases q with
     | cons p' q' =>
       cases q';exact⟨_,_,rfl,p,p'⟩
 refine AJ ?_ (by show 2<=sizeLine;decide);have I2:Inv X pins M H1 { s1 with heap:=s1.heap.push { cls:=.type "tuple",data:=.seq [u1,u2].toArray } }:=I1.kept (t':=s1.toks) fun b o e=>Ad _ e;rw[hw];refine Aa<|Ac ?_;show wpAny (model X.prog X.w) X.A (do rule "assign.swapped-stores";let items <-unpackItems (.ref s1.heap.objs.size) 2 none;assignInOrder [fun v=>bindName X.env y v,fun v=>bindName X.env x v] items.reverse;pure Flow.next) _ _ _;refine Aa<|BX<|Aa<|unpackItems_tuple (items:=#[u1,u2]) (I.ok.hd hc) (IsTup.new s1.heap _) fun h' hx'=>?_;have I3:=I2.kept (h':=h') (t':=s1.toks) fun b o e=>hx' b o (Ar<|Ai e) e;show wpAny _ _ (assignInOrder [fun v=>bindName X.env y v,fun v=>bindName X.env x v] [u2,u1] >>= fun _=>pure Flow.next) _ _ _;refine Aa<|C5<|wpAny_bindName<|zei I3 hN hj (.inl hy) rw' (fun s2 I4=>?_)<|.inr hy;refine C5<|wpAny_bindName<|zei I4 hN hi (.inl hx) rv (fun s3 I5=>Ey (Ac ?_))<|.inr hx;rw[List.set_comm _ _ (Bo hij)] at I5;exact⟨_,H1,I5,q1⟩
structure It where
 go:Nat->Hp->Prop
 yld:Nat->Hp->V->Hp->Prop
 stop:Nat->Hp->Prop
def FpOk(X:Cx)(pins:List (Addr×Obj))(H:Hp)(b:Addr):Prop :=
 H b=none/\b≠X.env.locals/\b ∉ X.fs/\(b∈X.ex\/X.s₀.heap.objs.size<=b)/\(∀ x c,X.env.cells.lookup x=some c->c≠b)/\∀ p∈X.pn++pins,p.1≠b
def Inv.fpOk(I:Inv X pins M H s)(hb:s.heap.objs.size<=b)(hn:H' b=none):FpOk X pins H' b:=by
 refine⟨hn,Cj<|Az I.lt hb,I.nofs hb,.inr<|AC I.sz hb,fun x c e z=>?_,fun p hp z=>?_⟩
 . obtain⟨v,q⟩:=I.cell x c e;exact absurd (Az q.lt (by rw[z];exact hb))<|AK _
 exact absurd (Az (Ai (I.pin p hp).1) (by rw[z];exact hb))<|AK _
structure Turn(P:Program)(w:World)(K:Ab)(tg:Expr)(J:It)(fp:List Addr)(it:Addr)(tn:Nat->Heap->Prop):Prop where
 mem:it∈fp
 obj:∀ i h,tn i h->∀ b∈fp,∃ o,h.get? b=some o/\∀ v,o.data≠.cell v
 keep:∀ i h h',tn i h->(∀ b∈fp,∀ o,h.get? b=some o->h'.get? b=some o)->tn i h'
 item:∀ (X:Cx),X.prog=P->X.w=w->X.K=K->X.calm=true->∀ (i:Nat) (pins:List (Addr×Obj)) (s:Shared) (M:St) (H:Hp) (E:Value->Shared->Prop),Inv X pins M H s->(∀ b∈fp,FpOk X pins H b)->tn i s.heap->J.go i H ->
   wpAny (model P w) X.A (pyNext (.ref it)) (fun r s1=>∃ u,r=some u /\
     wpAny (model P w) X.A (letOwnedTupleGo tg (.ref it) u) (fun _ s2=>∃ x H',Inv X pins M H' s2/\RelV x u/\J.yld i H x H'/\tn (i+1) s2.heap/\∀ b∈fp,H' b=none) E s1) E s
 done:∀ (X:Cx),X.prog=P->X.w=w->X.K=K->X.calm=true->∀ (i:Nat) (pins:List (Addr×Obj)) (s:Shared) (M:St) (H:Hp) (E:Value->Shared->Prop),Inv X pins M H s->(∀ b∈fp,FpOk X pins H b)->tn i s.heap->J.stop i H ->
   wpAny (model P w) X.A (pyNext (.ref it)) (fun r s1=>r=none/\Inv X pins M H s1) E s
 self:∀ (A:Around) (i:Nat) (s:Shared) (Q:Value->Shared->Prop) (E:Value->Shared->Prop),tn i s.heap->Q (.ref it) s->wpAny (model P w) A (pyIter (.ref it)) Q E s
noncomputable abbrev TI:=St->Hp->(It->Hp->Prop)->Prop
def PIE(X:Cx)(pins:List (Addr×Obj))(M:St)(tg:Expr)(R:It->Hp->Prop)(itv:Value)(s2:Shared):Prop :=
 ∃ (it:Addr) (fp:List Addr) (tn:Nat->Heap->Prop) (J:It) (H':Hp),itv=.ref it/\Inv X pins M H' s2/\Turn X.prog X.w X.K tg J fp it tn/\tn 0 s2.heap/\(∀ b∈fp,FpOk X pins H' b)/\R J H'
def PI(X:Cx)(tg iter:Expr)(wi:TI):Prop :=
 ∀ (pins:List (Addr×Obj)) (s:Shared) (M:St) (H:Hp) (R:It->Hp->Prop),Inv X pins M H s->wi M H R ->
   wpAny (model X.prog X.w) X.A (eval iter X.env) (fun v s1=>wpAny (model X.prog X.w) X.A (pyIter v) (PIE X pins M tg R) X.xe s1) X.xe s
def zoc{o:Obj}{n:String}{vs:Array Value}{Q:Unit->Shared->Prop}(ho:s.heap.get? it=some o)(hc:o.cls=.type n)(hd:o.data=.fields vs)
   (hn:["enumerate","zip","dict_itemiterator","dict_reverseitemiterator","odict_iterator","itertools.zip_longest","itertools.pairwise"].contains n=false) (hQ:Q () s):wpAny Mq A (letOwnedTupleGo tg (.ref it) u) Q E s:=by
 unfold letOwnedTupleGo
 cases tg <;> first
   | exact Ac hQ
   | (cases u <;> first
       | exact Ac hQ
       | (refine Aa (wpAny_load ho ?_)
          rw[hc,hd];show wpAny Mq A (if (["enumerate","zip","dict_itemiterator","dict_reverseitemiterator","odict_iterator","itertools.zip_longest","itertools.pairwise"].contains n&&vs[0]?==some (rawInt _))=true then _ else _) Q E s;rw[if_neg (by intro h;rw[hn,Bool.false_and] at h;cases h)];exact Ac hQ))
def Itl(K:Ab)(a:Addr):It :=
 ⟨fun i H=>∃ xs x,SqL K H a xs/\xs[i]?=some x,fun i H x H'=>H'=H/\∀ xs,SqL K H a xs->xs[i]?=some x,fun i H=>∃ xs,SqL K H a xs/\xs.length<=i⟩
def Itt(K:Ab)(a:Addr):It :=
 ⟨fun i H=>∃ xs x,SqT K H a xs/\xs[i]?=some x,fun i H x H'=>H'=H/\∀ xs,SqT K H a xs->xs[i]?=some x,fun i H=>∃ xs,SqT K H a xs/\xs.length<=i⟩
def Itr(lo:Int)(n:Nat):It:=⟨fun i _=>i < n,fun i H x H'=>H'=H/\x=.int (lo+i),fun i _=>n<=i⟩
def zi5(a it:Addr):Turn P w K tg (Itl K a) [it] it (fun i h=>h.IsListIter it a i) where
 mem:=by simp
 obj:=fun i h st b hb=>by
   have e:b=it:=by simpa using hb
   subst e;obtain⟨o,e,c,d⟩:=st;exact⟨o,e,fun v z=>by rw[d] at z;cases z⟩
 keep:=fun i h h' st k=>st.at fun o e=>k it (by simp) o e
 item:=by intro X hP hw hK hc i pins s M H E I hf st hg;subst hP hw hK;obtain⟨xs,x,hq,hx⟩:=hg;obtain⟨its,rv,p,hz⟩:=I.list hq;obtain⟨u,hu,ru⟩:=rv.get hx;obtain⟨f0,f1,f2,f3,f4,f5⟩:=hf it (by simp);refine Ct st p.isList (x:=u) (by simpa using hu) fun h' st' sb=>?_;have I1:Inv X pins M H { s with heap:=h' }:=I.turned (t':=s.toks) (fun b o hb e=>(sb.2 b hb).trans e) f0 f1 f3 f4 f5;obtain⟨o,e,c,d⟩:=id st';exact⟨u,rfl,zoc (s:={ s with heap:=h' }) e c d (by decide) ⟨x,H,I1,ru,⟨rfl,fun ys hy=>by rw[I.list_inj hy hq];exact hx⟩,st',fun b hb=>(hf b hb).1⟩⟩
 done:=by intro X hP hw hK hc i pins s M H E I hf st hg;subst hP hw hK;obtain⟨xs,hq,hx⟩:=hg;obtain⟨its,rv,p,hz⟩:=I.list hq;obtain⟨f0,f1,f2,f3,f4,f5⟩:=hf it (by simp);have hl:=rv.length;exact CD (I.ok.hd hc) st p.isList (by simp;omega) fun h' eb=>⟨rfl,I.turned (t':=s.toks) (fun b o hb e=>eb b o hb e) f0 f1 f3 f4 f5⟩
 self:=fun _ _ _ _ _ st h=>wpAny_pyIter_listiter st h
def zhk(a it:Addr):Turn P w K tg (Itt K a) [it] it (fun i h=>h.IsTupleIter it a i) where
 mem:=by simp
 obj:=fun i h st b hb=>by
   have e:b=it:=by simpa using hb
   subst e;obtain⟨o,e,c,d⟩:=st;exact⟨o,e,fun v z=>by rw[d] at z;cases z⟩
 keep:=fun i h h' st k=>st.at fun o e=>k it (by simp) o e
 item:=by intro X hP hw hK hc i pins s M H E I hf st hg;subst hP hw hK;obtain⟨xs,x,hq,hx⟩:=hg;obtain⟨its,rv,p,hz⟩:=I.tuple hq;obtain⟨u,hu,ru⟩:=rv.get hx;obtain⟨f0,f1,f2,f3,f4,f5⟩:=hf it (by simp);refine Dx st (show s.heap.IsTuple a its.toArray from p) (x:=u) (by simpa using hu) fun h' st' sb=>?_;have I1:Inv X pins M H { s with heap:=h' }:=I.turned (t':=s.toks) (fun b o hb e=>(sb.2 b hb).trans e) f0 f1 f3 f4 f5;obtain⟨o,e,c,d⟩:=id st';exact⟨u,rfl,zoc (s:={ s with heap:=h' }) e c d (by decide) ⟨x,H,I1,ru,⟨rfl,fun ys hy=>by rw[I.tuple_inj hy hq];exact hx⟩,st',fun b hb=>(hf b hb).1⟩⟩
 done:=by intro X hP hw hK hc i pins s M H E I hf st hg;subst hP hw hK;obtain⟨xs,hq,hx⟩:=hg;obtain⟨its,rv,p,hz⟩:=I.tuple hq;obtain⟨f0,f1,f2,f3,f4,f5⟩:=hf it (by simp);have hl:=rv.length;exact DK (I.ok.hd hc) st (show s.heap.IsTuple a its.toArray from p) (by simp;omega) fun h' eb=>⟨rfl,I.turned (t':=s.toks) (fun b o hb e=>eb b o hb e) f0 f1 f3 f4 f5⟩
 self:=fun _ _ _ _ _ st h=>wpAny_pyIter_tupleiter st h
def zhl(it:Addr)(lo:Int)(n:Nat):Turn P w K tg (Itr lo n) [it] it (fun i h=>IsRangeIter h it (lo+(i:Nat)*1) ((n:Int) - (i:Nat)) 1) where
 mem:=by simp
 obj:=fun i h st b hb=>by
   have e:b=it:=by simpa using hb
   subst e;exact⟨_,st,fun v z=>by have z':Data.fields _=Data.cell v:=z;cases z'⟩
 keep:=fun i h h' st k=>k it (by simp) _ st
 item:=by intro X hP hw hK hc i pins s M H E I hf st hg;subst hP hw hK;obtain⟨f0,f1,f2,f3,f4,f5⟩:=hf it (by simp);have W:=Walks.range (prog:=X.prog) (w:=X.w) (I.ok.hd hc) it lo 1 n;refine W.item i s _ _ hg st fun v h' tk hv st' kk=>?_;obtain⟨t,rfl⟩:=hv;have I1:Inv X pins M H { s with heap:=h',toks:=tk }:=I.turned (fun b o hb e=>kk b o (by simpa using hb) e) f0 f1 f3 f4 f5;refine⟨_,rfl,zoc (s:={ s with heap:=h',toks:=tk }) (n:="range_iterator") st' rfl rfl (by decide) ⟨.int<|lo+i,H,I1,⟨t,?_⟩,⟨rfl,rfl⟩,st',fun b hb=>(hf b hb).1⟩⟩;rw[Int.mul_one]
 done:=by intro X hP hw hK hc i pins s M H E I hf st hg;subst hP hw hK;obtain⟨f0,f1,f2,f3,f4,f5⟩:=hf it (by simp);exact wpAny_pyNext_range_end (I.ok.hd hc) st (by have:n<=i:=hg;omega) fun h' eb=>⟨rfl,I.turned (t':=s.toks) (fun b o hb e=>eb b o hb e) f0 f1 f3 f4 f5⟩
 self:=fun _ _ _ _ _ st h=>wpAny_pyIter_rangeiter st h
variable {p:Pos}{l:Expr}{tl:TE}{fp:List Addr}{body:List Stmt}
def zrF(K:Ab)(tl:TE):TI:=fun M H R=>tl M H fun x H1=>∃ a,x=.ref a/\(∃ xs,SqL K H1 a xs)/\R (Itl K a) H1
def iTup(K:Ab)(tl:TE):TI:=fun M H R=>tl M H fun x H1=>∃ a,x=.ref a/\(∃ xs,SqT K H1 a xs)/\R (Itt K a) H1
def znw(hl:PE X l tl):PI X tg l (zrF X.K tl):=by
 intro pins s M H R I h;refine thn (hl pins s M H _ I h) ?_;rintro v s1 ⟨x,H1,I1,r1,q1⟩;obtain⟨a,e,⟨xs,hq⟩,q⟩:=q1;subst e;cases r1;obtain⟨its,rv,p,hz⟩:=I1.list hq;refine Cp p.isList ?_;refine⟨s1.heap.objs.size,[s1.heap.objs.size],_,_,H1,rfl,I1.kept (t':=s1.toks) fun b o e=>Ad _ e,zi5 a _,⟨_,Am _ rfl,rfl,rfl⟩,fun b hb=>?_,q⟩;have e:b=s1.heap.objs.size:=by simpa using hb
 subst e;exact I1.fpOk (Af _)<|I1.hok.fresh<|Af _
def zpo(hl:PE X l tl):PI X tg l (iTup X.K tl):=by
 intro pins s M H R I h;refine thn (hl pins s M H _ I h) ?_;rintro v s1 ⟨x,H1,I1,r1,q1⟩;obtain⟨a,e,⟨xs,hq⟩,q⟩:=q1;subst e;cases r1;obtain⟨its,rv,p,hz⟩:=I1.tuple hq;refine wpAny_pyIter_tuple (show s1.heap.IsTuple a its.toArray from p) ?_;refine⟨s1.heap.objs.size,[s1.heap.objs.size],_,_,H1,rfl,I1.kept (t':=s1.toks) fun b o e=>Ad _ e,zhk a _,⟨_,Am _ rfl,rfl,rfl⟩,fun b hb=>?_,q⟩;have e:b=s1.heap.objs.size:=by simpa using hb
 subst e;exact I1.fpOk (Af _)<|I1.hok.fresh<|Af _
def zlp{R:It->Hp->Prop}{lo hi:Int}{t u v:Tok}{tk:Nat}(I:Inv X pins M H s)(h1:-(2 ^ 62)<=lo)(h2:lo < 2 ^ 62)(h3:-(2 ^ 62)<=hi)(h4:hi < 2 ^ 62)
   (q:R (Itr lo (hi - lo).toNat) H):wpAny (model X.prog X.w) X.A (pyIter<|.ref s.heap.objs.size) (PIE X pins M tg R) E { s with heap:=s.heap.push { cls:=.type "range",data:=.fields #[.int lo t,.int hi u,.int 1 v] },toks:=tk }:=by
 refine wpAny_pyIter_range (IsRange.new ..) (small_one h1 h2 h3 h4) ?_;have I1:Inv X pins M H { s with heap:=s.heap.push { cls:=.type "range",data:=.fields #[.int lo t,.int hi u,.int 1 v] },toks:=tk }:=I.kept fun b o e=>Ad _ e;refine⟨(s.heap.push { cls:=.type "range",data:=.fields #[.int lo t,.int hi u,.int 1 v] }).objs.size,[(s.heap.push { cls:=.type "range",data:=.fields #[.int lo t,.int hi u,.int 1 v] }).objs.size],_,_,H,rfl,
   I1.kept (t':=tk) fun b o e=>Ad _ e,zhl _ lo (hi - lo).toNat,?_,fun b hb=>?_,q⟩
 . have e1:lo+((0:Nat):Int)*1=lo:=by simp
   have e2:(((hi - lo).toNat:Nat):Int) - ((0:Nat):Int)=Builtin.Range.rangeSize lo hi 1:=by rw[rangeSize_one];split <;> omega
   show IsRangeIter _ _ (lo+((0:Nat):Int)*1) ((((hi - lo).toNat:Nat):Int) - ((0:Nat):Int)) 1;rw[e1,e2];exact Am _ rfl
 . have e:b=(s.heap.push { cls:=.type "range",data:=.fields #[.int lo t,.int hi u,.int 1 v] }).objs.size:=by simpa using hb
   subst e;exact I1.fpOk (Af _)<|I1.hok.fresh<|Af _
def zrE(ta:TA):TI:=fun M H R=>ta M H fun vs H1=>∃ j:Int,vs=[.int j]/\-(2 ^ 62)<=j/\j < 2 ^ 62/\R (Itr 0 j.toNat) H1
def zjw{a:Expr}{ta:TA}(hg:Gl X "range")(hm:X.mg "range"=none)(ha:PA X [a] ta)(hs:starEach [a] X.env=[(false,eval a X.env)]:=by rfl):PI X tg (.Call (.Name "range" p) [a] [] pos) (zrE ta):=by
 intro pins s M H R I h;refine Call_<|zg3 I hg hm boot_range<|BB (thn (ha pos pins s M H _ I h) ?_) hs rfl;rintro us s1 ⟨vs,H1,I1,r1,q1⟩;obtain⟨j,e,q1,q2,q⟩:=q1;subst e
 cases r1 with
 | cons r rr =>
   cases rr;obtain⟨t,rfl⟩:=r;exact call_range_1<|zlp I1 (by omega) (by omega) q1 q2<|by simpa using q
def tFor(wi:TI)(g:TG)(tb:TS):TS:=fun D M H=>wi M H fun J H1=>∃ W:Nat->Nat->St->Hp->Prop,(∃ m,W 0 m M H1)/\∀ i m M H,W i m M H ->
 (J.stop i H/\D.nx M H)\/(J.go i H/\∃ N:St->Hp->Prop,(∀ M' H',N M' H'->∃ m',m' < m/\W (i+1) m' M' H')/\∀ x H',J.yld i H x H'->g x M H' fun M2 H2=>tb { D with nx:=N,ct:=N,bk:=D.nx } M2 H2)
def zhQ(fp:List Addr)(h:Heap):List (Addr×Obj):=fp.filterMap fun b=>(h.get? b).map fun o=>(b,o)
def zcG{o:Obj}(hb:b∈fp)(e:h.get? b=some o):(b,o)∈zhQ fp h:=List.mem_filterMap.mpr ⟨b,hb,by rw[e];rfl⟩
def zjC{p:Addr×Obj}(hp:p∈zhQ fp h):p.1∈fp/\h.get? p.1=some p.2:=by
 obtain⟨b,hb,e⟩:=List.mem_filterMap.mp hp
 cases q:h.get? b with
 | none=>rw[q] at e;cases e
 | some o =>
   rw[q] at e;have e':(b,o)=p:=Ay e;subst e';exact⟨hb,q⟩
def Inv.pinned{fp:List Addr}(I:Inv X pins M H s)(hf:∀ b∈fp,FpOk X pins H b)(ho:∀ b∈fp,∃ o,s.heap.get? b=some o/\∀ v,o.data≠.cell v):Inv X (pins++zhQ fp s.heap) M H s :=
 I.pins_of fun p hp=>(List.mem_append.mp hp).elim (fun z=>I.pin p (AO _ z)) fun z=>by obtain⟨hb,e⟩:=zjC z;obtain⟨f0,f1,f2,_⟩:=hf p.1 hb;obtain⟨o,e',d⟩:=ho p.1 hb;rw[e] at e';cases e';exact⟨e,f0,f1,f2,d⟩
def Inv.unpinned{pl:List (Addr×Obj)}(I:Inv X (pins++pl) M H s):Inv X pins M H s:=I.pins_of fun p hp=>I.pin p<|AO _<|BN _ hp
def zpm{iter:Expr}{wi:TI}{g:TG}{tb:TS}(hp:PassesOwn (model X.prog X.w) X.A X.env X.xe)(hc:X.calm=true)(hi:PI X tg iter wi)(hg:PG X tg g)(hb:PSs X body tb)
   (hs:∀ x,foldedSetIterable iter X.env x=pure x:=by intro _;rfl):PS X (.For tg iter body [] pos) (tFor wi g tb):=by
 intro pins s M H D I h;refine wpAny_For (thn (hi pins s M H _ I h) fun v s1 h1=>thn h1 fun itv s2 h2=>?_) hs;obtain⟨it,fp,tn,J,H2,e,I2,T,st2,f2,W,⟨m0,w0⟩,turn⟩:=h2;subst e
 -- what stays true of the iterator's objects through the loop
 have stat:∀ {H':Hp},(∀ b∈fp,H' b=none)->∀ b∈fp,FpOk X pins H' b:=fun hn b hb=>⟨hn b hb,(f2 b hb).2⟩
 refine codeAny_forLoop_any (fun n s'=>∃ i M' H',Inv X pins M' H' s'/\tn i s'.heap/\(∀ b∈fp,H' b=none)/\W i n M' H') ?_ m0 ⟨0,M,H2,I2,st2,fun b hb=>(f2 b hb).1,w0⟩;rintro n s3 ⟨i,M3,H3,I3,st3,fr3,w3⟩
 rcases turn i n M3 H3 w3 with ⟨stop,qn⟩ | ⟨go,N,hN,step⟩
 . refine Cd hp (thn (T.done X rfl rfl rfl hc i pins s3 M3 H3 X.xe I3 (stat fr3) st3 stop) ?_);rintro r s4 ⟨hr,I4⟩;subst hr;exact DD ⟨M3,H3,I4,qn⟩
 . refine Cd hp (thn (T.item X rfl rfl rfl hc i pins s3 M3 H3 X.xe I3 (stat fr3) st3 go) ?_);rintro r s4 ⟨u,hr,h4⟩;subst hr;refine Cd hp (thn h4 ?_);rintro _ s5 ⟨x,H5,I5,r5,y5,st5,fr5⟩;have I5':=I5.pinned (stat fr5) (T.obj _ _ st5);refine Cd hp (thn (hg _ s5 M3 H5 x u _ I5' r5 (step x H5 y5)) ?_);rintro _ s6 ⟨M6,H6,I6,q6⟩;refine Cd hp (thn (hb _ s6 M6 H6 _ I6 q6) fun f s7 q7=>?_);have again:∀ {M7:St} {H7:Hp},Inv X (pins++zhQ fp s5.heap) M7 H7 s7->N M7 H7->∃ m,m < n/\∃ i M' H',Inv X pins M' H' s7/\tn i s7.heap/\(∀ b∈fp,H' b=none)/\W i m M' H':=fun {M7 H7} I7 n7=>by
     obtain⟨m',hm,w7⟩:=hN M7 H7 n7;refine⟨m',hm,i+1,M7,H7,I7.unpinned,T.keep _ _ _ st5 fun b hb o e=>(I7.pin (b,o) (AO _ (AO _ (zcG hb e)))).1,fun b hb=>?_,w7⟩;obtain⟨o,e,d⟩:=T.obj _ _ st5 b hb;exact (I7.pin (b,o) (AO _ (AO _ (zcG hb e)))).2.1
   cases f with
   | next=>obtain⟨M7,H7,I7,n7⟩:=q7;exact again I7 n7
   | cont=>obtain⟨M7,H7,I7,n7⟩:=q7;exact again I7 n7
   | brk=>obtain⟨M7,H7,I7,q7⟩:=q7;exact⟨M7,H7,I7.unpinned,q7⟩
   | ret v=>obtain⟨x7,M7,H7,I7,r7,q7⟩:=q7;exact⟨x7,M7,H7,I7.unpinned,r7,q7⟩
noncomputable abbrev R2:=V->V->Hp->VK->Prop
def OpR(X:Cx)(f:Value->Value->Sem Value)(r:R2):Prop :=
 ∀ (pins:List (Addr×Obj)) (s:Shared) (M:St) (H:Hp) (x y:V) (v u:Value) (Q:VK),Inv X pins M H s->RelV x v->RelV y u->r x y H Q ->
   wpAny (model X.prog X.w) X.A (f v u) (EP X pins M Q) X.xe s
def UnR(X:Cx)(f:Value->Sem Value)(r:V->Hp->VK->Prop):Prop :=
 ∀ (pins:List (Addr×Obj)) (s:Shared) (M:St) (H:Hp) (x:V) (v:Value) (Q:VK),Inv X pins M H s->RelV x v->r x H Q ->
   wpAny (model X.prog X.w) X.A (f v) (EP X pins M Q) X.xe s
def zi0(X:Cx)(f:Value)(r:List V->Hp->VK->Prop):Prop :=
 ∀ (pins:List (Addr×Obj)) (s:Shared) (M:St) (H:Hp) (xs:List V) (us:List Value) (Q:VK),Inv X pins M H s->Vals xs us->r xs H Q ->
   wpAny (model X.prog X.w) X.A (call f us) (EP X pins M Q) X.xe s
def TruR(X:Cx)(r:V->Hp->(Bool->Hp->Prop)->Prop):Prop :=
 ∀ (pins:List (Addr×Obj)) (s:Shared) (M:St) (H:Hp) (x:V) (v:Value) (Q:Bool->Hp->Prop),Inv X pins M H s->RelV x v->r x H Q ->
   wpAny (model X.prog X.w) X.A (truthy v) (TP X pins M Q) X.xe s
def tOp(r:R2)(ta tb:TE):TE:=fun M H Q=>ta M H fun x H1=>tb M H1 fun y H2=>r x y H2 Q
def tUn(r:V->Hp->VK->Prop)(ta:TE):TE:=fun M H Q=>ta M H fun x H1=>r x H1 Q
def rI(C:Int->Int->Prop)(g:Int->Int->V):R2:=fun x y H Q=>∃ i j,x=.int i/\y=.int j/\C i j/\Q (g i j) H
def rI0(g:Int->Int->V):R2:=fun x y H Q=>∃ i j,x=.int i/\y=.int j/\Q (g i j) H
def rU(g:Int->V):V->Hp->VK->Prop:=fun x H Q=>∃ i,x=.int i/\Q (g i) H
variable {f:Value->Value->Sem Value}{tc:TE}{r:R2}
section
variable {a b:Expr}
def binT(ha:PE X a ta)(hb:PE X b tb){R:V->V->Hp->Prop}(I:Inv X pins M H s)
   (h:ta M H fun x H1=>tb M H1 fun y H2=>R x y H2)  
   (hf:∀ v u s2 x y H2,Inv X pins M H2 s2->RelV x v->RelV y u->R x y H2->wpAny (model X.prog X.w) X.A (f v u) Q X.xe s2) :
   wpAny (model X.prog X.w) X.A (eval a X.env) (fun v s₁=>wpAny (model X.prog X.w) X.A (eval b X.env) (fun u s₂=>wpAny (model X.prog X.w) X.A (f v u) Q X.xe s₂) X.xe s₁) X.xe s:=by
 refine thn (ha pins s M H _ I h) ?_;rintro v s1 ⟨x,H1,I1,r1,q1⟩;refine thn (hb pins s1 M H1 _ I1 q1) ?_;rintro u s2 ⟨y,H2,I2,r2,q2⟩;exact hf v u s2 x y H2 I2 r1 r2 q2
def zrf{op:Operator}(ho:OpR X (binaryOp op) r)(ha:PE X a ta)(hb:PE X b tb):PE X (.BinOp a op b pos) (tOp r ta tb):=by intro pins s M H Q I h;exact wpAny_BinOp<|binT ha hb I h fun v u s2 x y H2 I2 rx ry q=>ho pins s2 M H2 x y v u Q I2 rx ry q
def zre{op:UnaryOp}{r:V->Hp->VK->Prop}(ho:UnR X (unaryOp op) r)(ha:PE X a ta):PE X (.UnaryOp op a pos) (tUn r ta):=by intro pins s M H Q I h;exact UnaryOp_<|thn (ha pins s M H _ I h) fun v s1 ⟨x,H1,I1,r1,q1⟩=>ho pins s1 M H1 x v Q I1 r1 q1
def opI{C:Int->Int->Prop}{g:Int->Int->Int}
   (rule:∀ (i j:Int) (t u:Tok) (s:Shared) (Q:Value->Shared->Prop) (E:Value->Shared->Prop),C i j->Q (.int (g i j) s.toks) { s with toks:=s.toks+1 }->wpAny (model X.prog X.w) X.A (f (.int i t)<|.int j u) Q E s) :
   OpR X f (rI C fun i j=>.int (g i j)):=by
 intro pins s M H x y v u Q I rx ry h;obtain⟨i,j,rfl,rfl,hc,q⟩:=h;obtain⟨t,rfl⟩:=rx;obtain⟨t',rfl⟩:=ry;exact rule i j t t' s _ _ hc ⟨.int<|g i j,H,I.tok _,⟨_,rfl⟩,q⟩
def opI0{g:Int->Int->Int}
   (rule:∀ (i j:Int) (t u:Tok) (s:Shared) (Q:Value->Shared->Prop) (E:Value->Shared->Prop),Q (.int (g i j) s.toks) { s with toks:=s.toks+1 }->wpAny (model X.prog X.w) X.A (f (.int i t)<|.int j u) Q E s) :
   OpR X f (rI0 fun i j=>.int (g i j)):=by
 intro pins s M H x y v u Q I rx ry h;obtain⟨i,j,rfl,rfl,q⟩:=h;obtain⟨t,rfl⟩:=rx;obtain⟨t',rfl⟩:=ry;exact rule i j t t' s _ _ ⟨.int<|g i j,H,I.tok _,⟨_,rfl⟩,q⟩
def opB0{g:Int->Int->Bool}
   (rule:∀ (i j:Int) (t u:Tok) (s:Shared) (Q:Value->Shared->Prop) (E:Value->Shared->Prop),Q (.bool<|g i j) s->wpAny (model X.prog X.w) X.A (f (.int i t)<|.int j u) Q E s) :
   OpR X f (rI0 fun i j=>.bl (g i j)):=by
 intro pins s M H x y v u Q I rx ry h;obtain⟨i,j,rfl,rfl,q⟩:=h;obtain⟨t,rfl⟩:=rx;obtain⟨t',rfl⟩:=ry;exact rule i j t t' s _ _ ⟨.bl<|g i j,H,I,rfl,q⟩
def CMul(i j:Int):Prop:=(-(2 ^ 64) < i/\i < 2 ^ 64)\/(-(2 ^ 64) < j/\j < 2 ^ 64)
def CMul.ok{i j:Int}(h:CMul i j):IntMulOk i j:=by
 rcases h with ⟨h1,h2⟩ | ⟨h1,h2⟩
 . exact .of_left<|intBits_le_64 h1 h2
 exact .of_right<|intBits_le_64 h1 h2
def zpM:OpR X (binaryOp .Add) (rI0 fun i j=>.int (i+j)):=opI0 fun _ _ _ _ _ _ _ q=>add_int q
def zpF:OpR X (binaryOp .Sub) (rI0 fun i j=>.int (i - j)):=opI0 fun _ _ _ _ _ _ _ q=>sub_int q
def zpH:OpR X (binaryOp .Mult) (rI CMul fun i j=>.int (i*j)):=opI fun _ _ _ _ _ _ _ hc q=>mul_int q hc.ok
def zpI:OpR X (binaryOp .Mod) (rI (fun _ j=>0 < j) fun i j=>.int (i % j)):=opI fun i j _ _ _ _ _ hc q=>by have h1:(0:Int) < j:=hc;exact mod_int' (by omega) (by rw[Int.fmod_eq_emod_of_nonneg i (by omega)];exact q)
def unI{f:Value->Sem Value}{g:Int->Int}
   (rule:∀ (i:Int) (t:Tok) (s:Shared) (Q:Value->Shared->Prop) (E:Value->Shared->Prop),Q (.int (g i) s.toks) { s with toks:=s.toks+1 }->wpAny (model X.prog X.w) X.A (f<|.int i t) Q E s) :
   UnR X f (rU fun i=>.int (g i)):=by
 intro pins s M H x v Q I rx h;obtain⟨i,rfl,q⟩:=h;obtain⟨t,rfl⟩:=rx;exact rule i t s _ _ ⟨.int<|g i,H,I.tok _,⟨_,rfl⟩,q⟩
def zoM:UnR X (unaryOp .USub) (rU fun i=>.int (-i)):=unI fun _ _ _ _ _ q=>neg_int q
end
variable {op':CmpOp}{r':R2}
section
variable {a b:Expr}
def zmk{Q:VK}{k k':Bool}(I:Inv X pins M H s)(q:Q (.bl k) H)(e:k=k'):EP X pins M Q (.bool k') s:=by subst e;exact⟨.bl k,H,I,rfl,q⟩
def zrk:OpR X (compareOp .Lt) (rI0 fun i j=>.bl (decide (i < j))):=opB0 fun _ _ _ _ _ _ _ q=>lt_int q
def zrl:OpR X (compareOp .LtE) (rI0 fun i j=>.bl (decide (i<=j))):=opB0 fun _ _ _ _ _ _ _ q=>le_int q
def zrm:OpR X (compareOp .Gt) (rI0 fun i j=>.bl (decide (j < i))):=opB0 fun _ _ _ _ _ _ _ q=>gt_int q
def zrn:OpR X (compareOp .GtE) (rI0 fun i j=>.bl (decide (j<=i))):=opB0 fun _ _ _ _ _ _ _ q=>ge_int q
def zjB:OpR X (compareOp .In) (fun x y H Q=>∃ i j,x=.str i/\y=.str j/\Q (.bl<|!(Builtin.Str.occurrences j i 0 j.length 1).isEmpty) H):=by intro pins s M H x y v u Q I rx ry h;obtain⟨i,j,rfl,rfl,q⟩:=h;obtain⟨t,rfl⟩:=rx;obtain⟨t',rfl⟩:=ry;exact in_str<|zmk I q rfl
def znF:OpR X (compareOp .IsNot) (fun x y H Q=>y=.non/\Q (.bl<|!decide (x=.non)) H):=by
 intro pins s M H x y v u Q I rx ry h;obtain⟨rfl,q⟩:=h;cases ry;refine isnot_none_gen<|zmk I q ?_
 cases x <;> first
   | (cases rx;rfl)
   | (obtain⟨t,rfl⟩:=rx;rfl)
def zfH:OpR X (compareOp .NotIn) (fun x y H Q=>∃ i j,x=.str i/\y=.str j/\Q (.bl<|!(!(Builtin.Str.occurrences j i 0 j.length 1).isEmpty)) H):=by intro pins s M H x y v u Q I rx ry h;obtain⟨i,j,rfl,rfl,q⟩:=h;obtain⟨t,rfl⟩:=rx;obtain⟨t',rfl⟩:=ry;exact notIn_str<|zmk I q rfl
def znB(ho:OpR X (compareOp op) r)(ha:PE X a ta)(hb:PE X b tb)(hm:behindInMarks op b=false):PE X (.Compare a [op] [b] pos) (tOp r ta tb):=by intro pins s M H Q I h;exact wpAny_Compare1 (binT ha hb I h fun v u s2 x y H2 I2 rx ry q=>ho pins s2 M H2 x y v u Q I2 rx ry q) hm
def zqA(t:TE):TT:=fun M H Q=>t M H fun x H'=>∃ k,x=.bl k/\Q k H'
def zno(ho:OpR X (compareOp op) r)(ha:PE X a ta)(hb:PE X b tb)(hm:behindInMarks op b=false):PT X (.Compare a [op] [b] pos) (zqA<|tOp r ta tb):=by
 intro pins s M H Q I h;refine DT (thn (ha pins s M H _ I h) fun v s1 ⟨x,H1,I1,r1,q1⟩=>thn (hb pins s1 M H1 _ I1 q1) fun u s2 ⟨y,H2,I2,r2,q2⟩ =>
   thn (ho pins s2 M H2 x y v u _ I2 r1 r2 q2) fun c s3 ⟨z,H3,I3,r3,k,e,q3⟩=>?_) hm
 subst e;cases r3;exact Bd ⟨H3,I3,q3⟩
def zkY(r r':R2)(ta tb tc:TE):TE:=fun M H Q=>ta M H fun x H1=>tb M H1 fun y H2=>r x y H2 fun z H3=>∃ k,z=.bl k /\
 (if k=true then tc M H3 fun w' H4=>r' y w' H4 Q else Q (.bl false) H3)
def zlF(ho:OpR X (compareOp op) r)(ho':OpR X (compareOp op') r')(ha:PE X a ta)(hb:PE X b tb)(hc:PE X c tc)
   (hm:lastMarks [op,op'] [b,c]=false:=by with_unfolding_all rfl):PE X (.Compare a [op,op'] [b,c] pos) (zkY r r' ta tb tc):=by
 intro pins s M H Q I h;refine Compare_chain (thn (ha pins s M H _ I h) fun v s1 ⟨x,H1,I1,r1,q1⟩=>chain_link (thn (hb pins s1 M H1 _ I1 q1) fun u s2 ⟨y,H2,I2,r2,q2⟩ =>
   thn (ho pins s2 M H2 x y v u _ I2 r1 r2 q2) fun d s3 ⟨z,H3,I3,r3,k,e,q3⟩=>?_)) hm
 subst e;cases r3;refine Bd ?_
 cases k with
 | false=>exact ite_ff ⟨.bl false,H3,I3,rfl,q3⟩
 | true=>exact ite_tt<|chain_last<|thn (hc pins s3 M H3 _ I3 q3) fun w' s4 ⟨z',H4,I4,r4,q4⟩=>ho' pins s4 M H4 y z' u w' Q I4 r2 r4 q4
def zls(ho:OpR X (compareOp op) r)(ho':OpR X (compareOp op') r')(ha:PE X a ta)(hb:PE X b tb)(hc:PE X c tc)
   (hm:lastMarks [op,op'] [b,c]=false:=by with_unfolding_all rfl):PT X (.Compare a [op,op'] [b,c] pos) (zqA<|zkY r r' ta tb tc):=by
 intro pins s M H Q I h;refine isTrue_chain (thn (ha pins s M H _ I h) fun v s1 ⟨x,H1,I1,r1,q1⟩=>test_link (thn (hb pins s1 M H1 _ I1 q1) fun u s2 ⟨y,H2,I2,r2,q2⟩ =>
   thn (ho pins s2 M H2 x y v u _ I2 r1 r2 q2) fun d s3 ⟨z,H3,I3,r3,k,e,q3⟩=>?_)) hm
 subst e;cases r3;refine Bd ?_
 cases k with
 | false =>
   obtain⟨k',e',q'⟩:=q3;cases e';exact ite_ff ⟨H3,I3,q'⟩
 | true =>
   refine ite_tt<|test_last<|thn (hc pins s3 M H3 _ I3 q3) fun w' s4 ⟨z',H4,I4,r4,q4⟩=>thn (ho' pins s4 M H4 y z' u w' _ I4 r2 r4 q4) ?_;rintro d' s5 ⟨z2,H5,I5,r5,k2,e2,q5⟩;subst e2;cases r5;exact Bd ⟨H5,I5,q5⟩
def TruV(K:Ab)(x:V)(H:Hp)(k:Bool):Prop :=
 match x with
 | .non=>k=false
 | .bl b=>k=b
 | .int i=>k=(i != 0)
 | .str y=>y.length<=sizeLine/\k=((y.length:Int) != 0)
 | .byt y=>y.size<=sizeLine/\k=((y.size:Int) != 0)
 | .ref p=>(∃ xs,SqL K H p xs/\k=!xs.isEmpty)\/(∃ xs,SqT K H p xs/\k=!xs.isEmpty)\/∃ kvs,H p=some (.dK kvs)/\k=!kvs.isEmpty
 | _=>False
def zik{kvs:List (κ×V)}{vs:List (κ×Value)}(r:KV kvs vs):(!vs.isEmpty)=!kvs.isEmpty:=by cases r <;> rfl
def zfc{xs:List V}{its:List Value}(r:Vals xs its):(!its.toArray.isEmpty)=!xs.isEmpty:=by cases r <;> simp
def zfQ:(sizeLine:Nat) < 2 ^ 63:=by rw[C4];decide
def zoS:TruR X (fun x H Q=>∃ k,TruV X.K x H k/\Q k H):=by
 intro pins s M H x v Q I rx h;obtain⟨k,e,q⟩:=h;have hl:=zfQ;have hs:sizeLine=16777216:=C4
 cases x with
 | non =>
   cases rx;have e':k=false:=e;subst e';exact truthy_none ⟨H,I,q⟩
 | bl b =>
   cases rx;have e':k=b:=e;subst e';exact Bd ⟨H,I,q⟩
 | int i =>
   obtain⟨t,rfl⟩:=rx;have e':k=(i != 0):=e;subst e';exact PySem.P.truthy_int ⟨H,I,q⟩
 | str y =>
   obtain⟨t,rfl⟩:=rx;obtain⟨hy,e'⟩:y.length<=sizeLine/\k=((y.length:Int) != 0):=e;subst e';exact PySem.P.truthy_str (by omega) ⟨H,I.tok _,q⟩
 | byt y =>
   obtain⟨t,rfl⟩:=rx;obtain⟨hy,e'⟩:y.size<=sizeLine/\k=((y.size:Int) != 0):=e;subst e';exact PySem.W.truthy_bytes (by omega) ⟨H,I.tok _,q⟩
 | ref p =>
   cases rx;have e':(∃ xs,SqL X.K H p xs/\k=!xs.isEmpty)\/(∃ xs,SqT X.K H p xs/\k=!xs.isEmpty)\/∃ kvs,H p=some (.dK kvs)/\k=!kvs.isEmpty:=e
   rcases e' with ⟨xs,hx,e'⟩ | ⟨xs,hx,e'⟩ | ⟨kvs,hx,e'⟩
   . subst e';obtain⟨its,r,pl,hz⟩:=I.list hx;have hlen:=r.length;exact wpAny_truthy_list pl.isList (by simp only[Au];omega) ⟨H,I.tok _,by rw[zfc r];exact q⟩
   . subst e';obtain⟨its,r,pl,hz⟩:=I.tuple hx;have hlen:=r.length;exact truthy_tuple pl (by simp only[Au];omega) ⟨H,I.tok _,by rw[zfc r];exact q⟩
   subst e';obtain⟨hz,hS,vs,r,m⟩:kvs.length<=sizeLine/\(p==sysModules)=false/\∃ vs,KV kvs vs/\s.heap.DictOf (zat X.prog X.w) p vs:=I.hok p _ hx;have hlen:kvs.length=vs.length:=Bc r;exact wpAny_truthy_dict hS m (by omega) ⟨H,I.tok _,by rw[zik r];exact q⟩
 | _=>exact (show False from e).elim
def zlr(ha:PE X a ta)(he:∀ whole,isTrue a X.env whole=(do let v <-whole;standAt a.pos;holding [v] (truthy v))) :
   PT X a (fun M H Q=>ta M H fun x H'=>∃ k,TruV X.K x H' k/\Q k H'):=by
 intro pins s M H Q I h;exact isTrue_plain (thn (ha pins s M H _ I h) fun v s1 ⟨x,H1,I1,r1,q1⟩=>zoS pins s1 M H1 x v Q I1 r1 q1)<|he _
def zhZ:OpR X (binaryOp .Add) (fun x y H Q=>∃ i j,x=.str i/\y=.str j/\i.length+j.length<=sizeLine/\Q (.str<|i++j) H):=by intro pins s M H x y v u Q I rx ry h;obtain⟨i,j,rfl,rfl,hz,q⟩:=h;obtain⟨t,rfl⟩:=rx;obtain⟨t',rfl⟩:=ry;exact add_str (fun t' tk=>⟨.str<|i++j,H,I.tok _,⟨_,rfl⟩,q⟩) hz
def vals1{x:V}(r:Vals [x] us):∃ u,us=[u]/\RelV x u:=by
 cases r with
 | cons r1 r2=>cases r2;exact⟨_,rfl,r1⟩
def vals2{x:V}(r:Vals [x,y] us):∃ u w',us=[u,w']/\RelV x u/\RelV y w':=by
 cases r with
 | cons r1 r2 =>
   cases r2 with
   | cons r3 r4=>cases r4;exact⟨_,_,rfl,r1,r3⟩
def zj9(hc:X.calm=true):zi0 X (.builtin "min") (fun xs H Q=>∃ i j,xs=[.int i,.int j]/\Q (.int<|if j < i then j else i) H):=by
 intro pins s M H xs us Q I r h;obtain⟨i,j,rfl,q⟩:=h;obtain⟨u,w',rfl,⟨t,rfl⟩,⟨t',rfl⟩⟩:=vals2 r;refine min_two_ints (I.ok.hd hc) fun h' tk k=>⟨_,H,I.kept k,?_,q⟩
 by_cases hj:j < i
 . rw[if_pos hj,if_pos hj];exact⟨_,rfl⟩
 rw[if_neg hj,if_neg hj];exact⟨_,rfl⟩
def zgH:zi0 X (.type "int") (fun xs H Q=>(∃ i,xs=[.int i]/\Q (.int i) H)\/∃ k,xs=[.bl k]/\Q (.int<|if k then 1 else 0) H):=by
 intro pins s M H xs us Q I r h
 rcases h with ⟨i,rfl,q⟩ | ⟨k,rfl,q⟩
 . obtain⟨u,rfl,t,rfl⟩:=vals1 r;exact call_int_int ⟨.int i,H,I,⟨_,rfl⟩,q⟩
 obtain⟨u,rfl,r1⟩:=vals1 r;cases r1;exact call_int_bool ⟨.int<|if k then 1 else 0,H,I.tok _,⟨_,rfl⟩,q⟩
def zfW:zi0 X (.type "str") (fun xs H Q=>∃ i,xs=[.int i]/\i.natAbs.log2 < 1920/\Q (.str<|toString i) H):=by intro pins s M H xs us Q I r h;obtain⟨i,rfl,hz,q⟩:=h;obtain⟨u,rfl,t,rfl⟩:=vals1 r;exact PySem.P.str_of_int hz ⟨.str _,H,I.tok _,⟨_,rfl⟩,q⟩
end
def RelO.some_of{o:Option Value}(r:RelO (some v) o):∃ u,o=some u/\RelV v u:=by
 cases o with
 | none=>exact (show False from r).elim
 | some u=>exact⟨u,rfl,r⟩
structure Room(k:Nat)(A:Around):Prop where
 hd:A.handled=none
 dp:A.depth+3*k+5 < recursionLimit
 un:A.units+16*k+200 < cLine
 gd:A.guards=some []
def Room.mono{k:Nat}(r:Room k A)(h:j<=k):Room j A:=⟨r.hd,by have:=r.dp;omega,by have:=r.un;omega,r.gd⟩
def Room.deeper{k:Nat}{A:Around}(r:Room (k+1) A)(env:Env):Room k (A.deeper env) :=
 ⟨r.hd,by have:=r.dp;show A.depth+1+3*k+5 < _;omega,by have:=r.un;show A.units+3+16*k+200 < _;omega,r.gd⟩
def Room.depth{k:Nat}{A:Around}(r:Room k A):A.depth < recursionLimit:=by have:=r.dp;omega
def Room.units{k:Nat}{A:Around}(r:Room k A):A.units+64 < cLine:=by have:=r.un;omega
def tNil:TA:=fun _ H Q=>Q [] H
def zq3(ta:TE)(tr:TA):TA:=fun M H Q=>ta M H fun x H1=>tr M H1 fun xs H2=>Q (x::xs) H2
section
variable {t:TA}
def znE:PA X [] tNil:=fun _ _ _ _ H Q I h=>Ez ⟨[],H,I,.nil,h⟩
def zhS(ha:PE X e te)(hr:PA X es t)(hs:starEach (e::es) X.env=(false,eval e X.env)::starEach es X.env:=by rfl):PA X (e::es) (zq3 te t):=by intro pos pins s M H Q I h;rw[hs];show wpAny _ _ (spliced ((false,eval e X.env)::backTo pos (starEach es X.env))) _ _ s;refine El<|thn (ha pins s M H _ I h) ?_;rintro u s1 ⟨x,H1,I1,r1,q1⟩;exact thn (hr pos pins s1 M H1 _ I1 q1) fun us s2 ⟨xs,H2,I2,r2,q2⟩=>⟨x::xs,H2,I2,.cons r1 r2,q2⟩
def tTup(t:TA):TE:=fun M H Q=>t M H fun xs H1=>xs.length<=sizeLine/\∀ p,H1 p=none->Q (.ref p) (upd H1 p<|.tup xs)
def tLst(t:TA):TE:=fun M H Q=>t M H fun xs H1=>xs.length<=sizeLine/\∀ p,H1 p=none->Q (.ref p) (upd H1 p<|.lst xs)
def zpt{x1}(h:PA X es t):PE X (.Tuple es x1 pos) (tTup t):=by intro pins s M H Q I hq;refine wpAny_Tuple_spliced<|thn (h pos pins s M H _ I hq) fun us s1 ⟨xs,H1,I1,r,z,q⟩=>⟨by rw[<-r.length];exact z,?_⟩;have hf:H1 s1.heap.objs.size=none:=I1.hok.fresh<|Af _;refine⟨.ref s1.heap.objs.size,upd H1 s1.heap.objs.size<|.tup xs,I1.laid (t':=s1.toks) (fun b u e=>Ad _ e) (Af _) ?_,rfl,q _ hf⟩;exact⟨z,us,r,⟨_,Am _ rfl,rfl,rfl,_,rfl⟩⟩
def zpy(h:PA X es t):PE X (.List es pos) (tLst t):=by intro pins s M H Q I hq;refine wpAny_List_spliced<|thn (h pos pins s M H _ I hq) fun us s1 ⟨xs,H1,I1,r,z,q⟩=>⟨by rw[<-r.length];exact z,?_⟩;have hf:H1 s1.heap.objs.size=none:=I1.hok.fresh<|Af _;refine⟨.ref s1.heap.objs.size,upd H1 s1.heap.objs.size<|.lst xs,I1.laid (t':=s1.toks) (fun b u e=>Ad _ e) (Af _) ?_,rfl,q _ hf⟩;exact⟨z,us,0,r,Am _ rfl⟩
end
noncomputable abbrev Sp:=List V->Hp->VK->XK->Prop
noncomputable abbrev CXT:=List Env->Hp->Shared->XK->Value->Shared->Prop
structure Env0(P:Program)(w:World)(K:Ab)(mg:Str->Option Value)(base:Heap)(A:Around)(outer:List Env)(s:Shared)(H:Hp):Prop where
 frames:A.frames=some outer
 mod:Mod K mg base
 bs:∀ b o,base.get? b=some o->s.heap.get? b=some o/\H b=none
 bsz:base.objs.size<=s.heap.objs.size
 funs:s.heap.FunFrames base outer
 frf:∀ b∈frs outer,H b=none
 hok:HOk P w H s.heap
 bare:AllBare s.gens
def CE(outer:List Env)(P:Program)(w:World)(H:Hp)(s:Shared)(Q:VK)(u:Value)(s':Shared):Prop :=
 ∃ v H',s'.os=s.os/\AllBare s'.gens/\Un (frs outer) [] H H' s.heap s'.heap/\HOk P w H' s'.heap/\RelV v u/\Q v H'
def CR(CX:CXT)(outer:List Env)(P:Program)(w:World)(H:Hp)(s:Shared)(Q:VK)(E:XK)(r:Result)(s':Shared):Prop :=
 match r with
 | .ok (.ret u)=>CE outer P w H s Q u s'
 | .ok _=>False
 | .error e=>CX outer H s E e s'
structure FnOk(P:Program)(w:World)(K:Ab)(mg:Str->Option Value)(base:Heap)(CX:CXT)(k:Nat)(f:Addr)(fd:FuncData)(ps:List Str)(sp:Sp):Prop where
 len:∀ vs H Q E,sp vs H Q E->vs.length=ps.length
 run:∀ (A:Around) (outer:List Env) (s:Shared) (H:Hp) (args:Args) (us:List Value) (vs:List V) (Q:VK) (E:XK),Room k A->Env0 P w K mg base A outer s H->BindsTo s fd args (ps.zip us)->Vals vs us->sp vs H Q E ->
   codeAny (model P w) A (.call (.ref f) args) (CR CX outer P w H s Q E) s
def Inv.env0(I:Inv X pins M H s):Env0 X.prog X.w X.K X.mg X.base X.A X.stack s H :=
 ⟨I.ok.frames,I.ok.mod,I.bs,AC I.ok.bsz I.sz,I.stack,I.stkFree,I.hok,I.bare⟩
def Inv.after{Q:VK}(I:Inv X pins M H s)(h:CE X.stack X.prog X.w H s Q u s'):EP X pins M Q u s':=by obtain⟨v,H',os,bare,un,hok,r,q⟩:=h;obtain⟨hh,g,d,t,os'⟩:=s';obtain rfl:os'=s.os:=os;exact⟨v,H',I.call (h':=hh) (g':=g) (d':=d) (t':=t) (ch:=[]) un hok bare fun b z=>absurd z (by simp),r,q⟩
def zq4(sp:Sp)(dvs:List V)(E:XK)(t:TA):TE:=fun M H Q=>t M H fun vs H1=>sp (vs++dvs) H1 Q E
def Binds(K:Ab)(fd:FuncData)(ps:List Str)(ds:List Value):Prop :=
 ∀ (s:Shared) (us:List Value),K.In s.heap->(us++ds).length=ps.length->BindsTo s fd ⟨us,[]⟩ (ps.zip<|us++ds)
variable {fd:FuncData}{ps:List Str}
def Binds.all(h:∀ us:List Value,us.length=ps.length->bindArgs fd ⟨us,[]⟩=pure (ps.zip us)):Binds K fd ps []:=fun s us _ hl=>by rw[Ao] at hl ⊢;exact .of_eq<|h us hl
def Passes(CX:CXT)(X:Cx)(E:XK):Prop:=∀ (pins:List (Addr×Obj)) (M:St) (H:Hp) (s:Shared) (e:Value) (s':Shared),Inv X pins M H s->CX X.stack H s E e s'->X.xe e s'
variable {CX:CXT}{sp:Sp}{apos:Pos}
section
variable {k:Nat} {f C:Addr} {dvs:List V} {ds:List Value} {E:XK} {m:Str} {o:Expr} {t:TA}
def zpe{Q:VK}{vs:List V}(F:FnOk X.prog X.w X.K X.mg X.base CX k f fd ps sp)(hr:Room k X.A)(hb:Binds X.K fd ps ds)(hd:Vals dvs ds)(hx:Passes CX X E)
   (I:Inv X pins M H s) (r:Vals vs us) (h:sp (vs++dvs) H Q E):wpAny (model X.prog X.w) X.A (call (.ref f) us) (EP X pins M Q) X.xe s:=by
 have r2:Vals (vs++dvs) (us++ds):=r.append hd;have hl:(us++ds).length=ps.length:=by rw[<-r2.length];exact F.len _ _ _ _ h
 refine wpAny_call<|Em (F.run X.A X.stack s H ⟨us,[]⟩ (us++ds) (vs++dvs) Q E hr I.env0 (hb s us I.kIn hl) r2 h) fun r s' hq=>?_
 cases r with
 | error e=>exact hx pins M H s e s' I hq
 | ok fl =>
   cases fl with
   | ret u=>exact I.after hq
   | next=>exact False.elim hq
   | brk=>exact False.elim hq
   | cont=>exact False.elim hq
def znC(F:FnOk X.prog X.w X.K X.mg X.base CX k f fd ps sp)(hr:Room k X.A)(hg:Gl X x)(hm:X.mg x=some (.ref f))(hk:BP X.K (.ref f)=true)(hb:Binds X.K fd ps ds)(hd:Vals dvs ds)(hx:Passes CX X E)
   (ha:PA X (e::es) t) (hdb:(x==("__debug__":Str))=false:=by decide) (he:starEach (e::es) X.env=(false,eval e X.env)::starEach es X.env:=by rfl) (hpl:(backTo pos<|starEach es X.env).any (·.1)=false:=by rfl) :
   PE X (.Call (.Name x p) (e::es) [] pos) (zq4 sp dvs E t):=by
 intro pins s M H Q I h;refine C6<|znX I hg hm ?_ hdb;refine PySem.W.callWith_K (h₀:=X.base) I.ok.mod.kin hk (thn (ha pos pins s M H _ I h) fun us s1 ⟨vs,H1,I1,r,q⟩=>⟨I1.kIn,?_⟩) he hpl;exact zpe F hr hb hd hx I1 r q
end
structure FnScope(N P:List Str)(sc:Scope):Prop where
 kind:sc.kind=.function
 co:sc.isCoroutine=false
 gen:sc.isGenerator=false
 nd:N.Nodup
 pre:N.take P.length=P
 par:∀ x∈P,sc.names.lookup x=some .local\/sc.names.lookup x=some .cell
 nofree:∀ y∈sc.names,y.2≠.free
variable {kindOf:Str->Option NameKind}
def zgI{kindOf:Str->Option NameKind}{x:Str}:∀ {binds:List (Str×Value)} {m:Str->Option Value},(∀ v,(x,v) ∉ binds)->bindL kindOf binds m x=m x
 | [],_,_=>rfl
 | (n,v)::r,m,h=>by
   unfold bindL;rw[zgI fun w hw=>h w (Aj _ hw)]
   split
   . have:x≠n:=by rintro rfl;exact h v Ak
     simp[this]
   rfl
def zgK{kindOf:Str->Option NameKind}{x:Str}:∀ {binds:List (Str×Value)} {m:Str->Option Value},(∀ v,(x,v) ∉ binds)->bindC kindOf binds m x=m x
 | [],_,_=>rfl
 | (n,v)::r,m,h=>by
   unfold bindC;rw[zgK fun w hw=>h w (Aj _ hw)]
   split
   . rfl
   . have:x≠n:=by rintro rfl;exact h v Ak
     simp[this]
def zgJ{kindOf:Str->Option NameKind}{x:Str}{v:Value}:∀ {P:List Str} {vs:List Value} {i:Nat} {m:Str->Option Value},P.Nodup->P[i]?=some x->vs[i]?=some v->kindOf x=some .local ->
   bindL kindOf (P.zip vs) m x=some v
 | [],_,_,_,_,h,_,_=>by simp at h
 | _::_,[],_,_,_,_,h,_=>by simp at h
 | p::P,w::vs,0,m,nd,h1,h2,hk=>by simp at h1 h2;subst h1;subst h2;show bindL kindOf ((p,w)::P.zip vs) m p=_;unfold bindL;rw[zgI fun v hv=>(List.nodup_cons.mp nd).1 (CJ hv).1,if_pos hk];simp
 | p::P,w::vs,i+1,m,nd,h1,h2,hk=>by show bindL kindOf ((p,w)::P.zip vs) m x=_;unfold bindL;exact zgJ (i:=i) (List.nodup_cons.mp nd).2 (by simpa using h1) (by simpa using h2) hk
def zgL{kindOf:Str->Option NameKind}{x:Str}{v:Value}:∀ {P:List Str} {vs:List Value} {i:Nat} {m:Str->Option Value},P.Nodup->P[i]?=some x->vs[i]?=some v->kindOf x≠some .local ->
   bindC kindOf (P.zip vs) m x=some v
 | [],_,_,_,_,h,_,_=>by simp at h
 | _::_,[],_,_,_,_,h,_=>by simp at h
 | p::P,w::vs,0,m,nd,h1,h2,hk=>by simp at h1 h2;subst h1;subst h2;show bindC kindOf ((p,w)::P.zip vs) m p=_;unfold bindC;rw[zgK fun v hv=>(List.nodup_cons.mp nd).1 (CJ hv).1,if_neg hk];simp
 | p::P,w::vs,i+1,m,nd,h1,h2,hk=>by show bindC kindOf ((p,w)::P.zip vs) m x=_;unfold bindC;exact zgL (i:=i) (List.nodup_cons.mp nd).2 (by simpa using h1) (by simpa using h2) hk
def start(N:List Str)(vs:List V):St:=vs.map some++Bk (N.length - vs.length) none
def cxOf(CX:CXT)(P:Program)(w:World)(K:Ab)(mg:Str->Option Value)(base:Heap)(N:List Str)(qual:Str)(scope:Scope)(f:Addr)(cd:Value)(A:Around)(outer:List Env)(s:Shared)(H:Hp)(E:XK):Cx where
 prog:=P
 w:=w
 K:=K
 mg:=mg
 base:=base
 A:=A.deeper (envOfC qual scope s.heap.objs.size f cd)
 N:=N
 s₀:=s
 H₀:=H
 env:=envOfC qual scope s.heap.objs.size f cd
 outer:=outer
 stack:=envOfC qual scope s.heap.objs.size f cd::outer
 ex:=[]
 calm:=true
 fn:=fun _=>true
 pn:=[]
 xe:=fun e s'=>wpAny (model P w) (A.deeper<|envOfC qual scope s.heap.objs.size f cd) (leaving (envOfC qual scope s.heap.objs.size f cd) e) (fun _ s''=>CX outer H s E e s'') (fun e' s''=>CX outer H s E e' s'') s'
def ziF{sc:Scope}(h:sc.names.lookup x=some .cell):∃ c,(cellsFrom n sc.names []).lookup x=some c:=by have q:=DL sc.names n []<|.inl h;exact Option.isSome_iff_exists.mp q
variable {mg:Str->Option Value}{base:Heap}{qual:Str}{scope:Scope}
def zjU{f:Addr}{cd:Value}{outer:List Env}{s1:Shared}{E:XK}{vs:List V}
   (S:FnScope N ps scope) (hd:A.handled=none) (e0:Env0 P w K mg base A outer s H) (hl:vs.length=ps.length) (r:Vals vs us)
   (x:InCallC s s.heap.objs.size (bindL (envOfC qual scope s.heap.objs.size f cd).kindOf (ps.zip us) fun _=>none) (cellsFrom (s.heap.objs.size+1) scope.names []) (bindC (envOfC qual scope s.heap.objs.size f cd).kindOf (ps.zip us) fun _=>none) s1) :
   Inv (cxOf CX P w K mg base N qual scope f cd A outer s H E) [] (start N vs) H s1:=by
 have hpl:ps.length<=N.length:=by have:=congrArg List.length S.pre;rw[Bb] at this;omega
 obtain⟨h1,tk,rfl,hk⟩:=x.done;have noA:∀ b:Addr,b ∉ (cxOf CX P w K mg base N qual scope f cd A outer s H E).ex:=fun b z=>absurd (show b∈([]:List Addr) from z) (by simp);refine⟨⟨e0.mod,S.kind,rfl,rfl,Af _,fun y z c h1 h2=>?_,fun y hy=>?_,fun y c _ h=>?_,fun _=>hd,Around.frames_deeper e0.frames,.inr ⟨rfl,rfl⟩,fun b z=>absurd z (noA b),e0.bs,e0.bsz,fun b _ _=>noA b,fun b z=>absurd z (noA b),e0.funs,e0.frf⟩,
   rfl,e0.bare,Un.kept hk,⟨_,x.toInCall.ns,fun i y v h1 h2 h3=>?_⟩,fun y c h=>⟨_,x.cell y c h⟩,e0.hok.fresh (Af _),fun y c h=>?_,fun p hp=>absurd (show p∈([]:List (Addr×Obj)) from hp) (by simp),e0.hok.kept hk,?_⟩
 . exact name_of_addr x.apart (AL h1)<|AL h2
 . have hy:scope.names.lookup y=some .cell\/scope.names.lookup y=some .free:=hy
   rcases hy with hy | hy
   . exact ziF hy
   exact absurd rfl<|S.nofree _<|AL hy
 . exact B3<|x.above y c<|AL h
 . have hi:i < vs.length:=by
     unfold start at h2
     by_cases hi:i < vs.length
     . exact hi
     . rw[AE (by simpa using hi)] at h2;rw[BV] at h2
       split at h2 <;> cases h2
   have ha:vs[i]?=some v:=by
     unfold start at h2;rw[Ap (by simpa using hi),Av] at h2
     cases e:vs[i]? with
     | none=>rw[e] at h2;cases h2
     | some a=>rw[e] at h2;cases h2;rfl
   obtain⟨u,hu,rv⟩:=r.get ha;have hp:ps[i]?=some y:=by rw[<-S.pre,List.getElem?_take_of_lt (by omega)];exact h1
   have ndP:ps.Nodup:=by rw[<-S.pre];exact S.nd.sublist<|List.take_sublist _ _
   refine⟨u,rv,?_⟩
   rcases S.par y (AG hp) with k | k
   . exact .inl ⟨k,zgJ ndP hp hu k⟩
   obtain⟨c,e⟩:=ziF (n:=s.heap.objs.size+1) k;refine .inr ⟨.inl k,c,e,?_⟩;have q:=x.cell y c e;rw[zgL ndP hp hu (by show scope.names.lookup y≠_;rw[k];decide)] at q;exact q
 . exact e0.hok.fresh<|B3<|x.above y c<|AL h
 unfold start;show _=N.length;rw[AZ,Ag,Bp];omega
def zrI{k:Nat}{f:Addr}{name qual:Str}{params:Arguments}{body:List Stmt}{scope:Scope}{dV kV doc pm cdv ct oc:Value}{an od:Option Addr}
   {osl:Array (Option Value)}   (lk:K.lookup f=some ⟨oc,od,.func<|BC name qual params body scope dV kV doc pm an cdv ct,osl⟩) (hcd:Cn K cdv qual=true) (S:FnScope N ps scope)
   (len:∀ vs H Q E,sp vs H Q E->vs.length=ps.length)
   (hbody:∀ (A:Around) (outer:List Env) (s:Shared) (H:Hp) (vs:List V) (Q:VK) (E:XK),Room k (A.deeper<|envOfC qual scope s.heap.objs.size f cdv)->sp vs H Q E ->
     ∃ t,PSs (cxOf CX P w K mg base N qual scope f cdv A outer s H E) body t/\t { nx:=fun _ H'=>Q .non H',rt:=Q } (start N vs) H) :
   FnOk P w K mg base CX (k+1) f (BC name qual params body scope dV kV doc pm an cdv ct) ps sp:=by
 refine⟨len,fun A outer s H args us vs Q E hr e0 hb r hsp=>?_⟩;have hl:=len _ _ _ _ hsp;have KX:K.In s.heap:=e0.mod.kin.keeps fun b o e=>(e0.bs b o e).1;have lim:s.heap.NoLimit:=e0.mod.nolimit.keeps fun b o e=>(e0.bs b o e).1;have hkind:∀ y∈ps.zip us,scope.names.lookup y.1=some .local\/(scope.names.lookup y.1=some .cell/\((cellsFrom (s.heap.objs.size+1) scope.names []).lookup y.1).isSome=true):=by
   rintro ⟨n,v⟩ hy
   rcases S.par n (CJ hy).1 with q | q
   . exact .inl q
   exact .inr ⟨q,DL _ _ _<|.inl q⟩
 refine codeAny_call_function hr.depth (KX _ _ lk) rfl S.co S.gen rfl (PySem.W.codeRec_of KX hcd)<|hb _ _ _ _ ?_;refine wpAny_newFunctionEnv_cells S.kind hkind fun env he s1 x=>?_;subst he;refine⟨lim.keeps x.toInCall.keep,codeAny_func ?_⟩;obtain⟨t,ht,hq⟩:=hbody A outer s H vs Q E (hr.deeper _) hsp;have I:Inv (cxOf CX P w K mg base N qual scope f cdv A outer s H E) [] (start N vs) H s1:=zjU S hr.hd e0 hl r x;refine Bj (ht [] s1 (start N vs) H _ I hq) (fun fl s' hs=>?_) fun e s' hs=>hs;have fin:∀ {M':St} {H':Hp} {v:V} {u:Value},Inv (cxOf CX P w K mg base N qual scope f cdv A outer s H E) [] M' H' s'->RelV v u->Q v H'->CE outer P w H s Q u s' :=
   fun {M' H' v u} J rv q=>⟨v,H',J.os,J.bare,J.base,J.hok,rv,q⟩
 cases fl with
 | ret u =>
   obtain⟨v,M',H',J,rv,q⟩:=hs;exact fin J rv q
 | next =>
   obtain⟨M',H',J,q⟩:=hs;exact fin (v:=V.non) (u:=A7) J rfl q
 | brk =>
   obtain⟨_,_,_,q⟩:=hs;exact False.elim q
 | cont =>
   obtain⟨_,_,_,q⟩:=hs;exact False.elim q
variable {id T:String}
section
variable {t:TA} {r:List V->Hp->VK->Prop}
def tCB(r:List V->Hp->VK->Prop)(t:TA):TE:=fun M H Q=>t M H fun vs H1=>r vs H1 Q
def zhR(hc:zi0 X (.builtin id) r)(hg:Gl X x)(hm:X.mg x=none)(hv:bootBuiltins x=some (.builtin id))(ha:PA X (e::es) t)(hn:x≠"__name__":=by decide)(hdb:(x==("__debug__":Str))=false:=by decide)
   (he:starEach (e::es) X.env=(false,eval e X.env)::starEach es X.env:=by rfl) (hpl:(backTo pos<|starEach es X.env).any (·.1)=false:=by rfl):PE X (.Call (.Name x p) (e::es) [] pos) (tCB r t):=by
 intro pins s M H Q I h;refine C6<|zg3 I hg hm hv ?_ hn hdb;exact PyProof.Rows.callWith_builtin1 (thn (ha pos pins s M H _ I h) fun us s1 ⟨vs,H1,I1,r1,q1⟩=>hc pins s1 M H1 vs us Q I1 r1 q1) he hpl
def zjx(hc:zi0 X (.type T) r)(hg:Gl X x)(hm:X.mg x=none)(hv:bootBuiltins x=some (.type T))(ha:PA X (e::es) t)(hn:x≠"__name__":=by decide)(hdb:(x==("__debug__":Str))=false:=by decide)
   (he:starEach (e::es) X.env=(false,eval e X.env)::starEach es X.env:=by rfl) (hpl:(backTo pos<|starEach es X.env).any (·.1)=false:=by rfl):PE X (.Call (.Name x p) (e::es) [] pos) (tCB r t):=by
 intro pins s M H Q I h;refine C6<|zg3 I hg hm hv ?_ hn hdb;exact BB (thn (ha pos pins s M H _ I h) fun us s1 ⟨vs,H1,I1,r1,q1⟩=>hc pins s1 M H1 vs us Q I1 r1 q1) he hpl
end
variable {d:V}
section
variable [DecidableEq κ]
def valV(kvs:List (κ×V))(k:κ):Option V:=(kvs.find? fun kv=>decide (kv.1=k)).map (·.2)
def putK(kvs:List (κ×V))(k:κ)(v:V):List (κ×V) :=
 if (kvs.any fun kv=>decide (kv.1=k))=true then kvs.map (fun kv=>if kv.1=k then (kv.1,v) else kv) else kvs++[(k,v)]
def zfu{p:κ×V}{r:List (κ×V)}{k:κ}(e:p.1=k):valV (p::r) k=some p.2:=by simp[valV,AQ,e]
def zfv{p:κ×V}{r:List (κ×V)}{k:κ}(e:¬ p.1=k):valV (p::r) k=valV r k:=by simp[valV,AQ,e]
def zhi(k:κ):∀ kvs:List (κ×V),(kvs.any fun kv=>decide (kv.1=k))=(valV kvs k).isSome
 | []=>rfl
 | p::r=>by
   rw[B9]
   by_cases e:p.1=k
   . simp only[zfu e,decide_eq_true e,Bool.true_or,Eo]
   rw[zfv e,decide_eq_false e,Bool.false_or];exact zhi k r
def zcZ(kvs:List (κ×V))(k:κ)(v:V):(putK kvs k v).length<=kvs.length+1:=by
 unfold putK
 split
 . rw[Ag];omega
 rw[AZ,AB,Be];omega
def RelO.isSome_eq{o:Option V}{u:Option Value}(r:RelO o u):o.isSome=u.isSome:=by
 cases o with
 | none=>cases u with
   | none=>rfl
   | some _=>exact (show False from r).elim
 | some _=>cases u with
   | none=>exact (show False from r).elim
   | some _=>rfl
def RelO.getD{o:Option V}{u:Option Value}{d:V}{d':Value}(r:RelO o u)(rd:RelV d d'):RelV (o.getD d) (u.getD d'):=by
 cases o with
 | none=>cases u with
   | none=>exact rd
   | some _=>exact (show False from r).elim
 | some _=>cases u with
   | none=>exact (show False from r).elim
   | some _=>exact r
def KV.val{kvs:List (κ×V)}{vs:List (κ×Value)}(r:KV kvs vs)(k:κ):RelO (valV kvs k) (valueAt vs k):=by
 unfold KV at r
 induction r with
 | nil=>exact Co
 | @cons p q ps qs h t ih =>
   obtain⟨h1,h2⟩:=h
   by_cases e:p.1=k
   . have e':q.1=k:=h1.symm.trans e;have b:valueAt (q::qs) k=some q.2:=by simp[valueAt,AQ,e']
     rw[zfu e,b];exact h2
   . have e':¬ q.1=k:=fun z=>e<|h1.trans z;have b:valueAt (q::qs) k=valueAt qs k:=by simp[valueAt,AQ,e']
     rw[zfv e,b];exact ih
def KV.any{kvs:List (κ×V)}{vs:List (κ×Value)}(r:KV kvs vs)(k:κ):(kvs.any fun kv=>decide (kv.1=k))=vs.any fun kv=>decide (kv.1=k):=by
 unfold KV at r
 induction r with
 | nil=>rfl
 | cons h t ih=>rw[B9,B9,ih,h.1]
def KV.repl{kvs:List (κ×V)}{vs:List (κ×Value)}(r:KV kvs vs)(k:κ)(ry:RelV y u) :
   KV (kvs.map fun kv=>if kv.1=k then (kv.1,y) else kv) (vs.map fun kv=>if kv.1=k then (kv.1,u) else kv):=by
 unfold KV at r ⊢
 induction r with
 | nil=>exact .nil
 | @cons p q ps qs h t ih =>
   rw[Aw,Aw];refine .cons ?_ ih;obtain⟨h1,h2⟩:=h
   by_cases e:p.1=k
   . rw[if_pos e,if_pos (h1.symm.trans e)];exact⟨h1,ry⟩
   rw[if_neg e,if_neg (fun z=>e (h1.trans z))];exact⟨h1,h2⟩
def KV.put{kvs:List (κ×V)}{vs:List (κ×Value)}(r:KV kvs vs)(k:κ)(ry:RelV y u):KV (putK kvs k y) (stored vs k u):=by
 unfold putK stored;rw[r.any k]
 by_cases e:(vs.any fun kv=>decide (kv.1=k))=true
 . rw[if_pos e,if_pos e];exact r.repl k ry
 rw[if_neg e,if_neg e];exact Fy r ⟨rfl,ry⟩
def KV.length{kvs:List (κ×V)}{vs:List (κ×Value)}(r:KV kvs vs):kvs.length=vs.length:=Bc r
end
def zkz{k:Key}(r:RelV (kV k) u):(zat P w).is k u=true:=by
 cases k with
 | inl i=>obtain⟨t,e⟩:=(show ∃ t,u=DC i t from r);subst e;exact zg2 P w i t
 | inr x=>obtain⟨t,e⟩:=(show ∃ t,u=Ek x t from r);subst e;exact zg1 P w x t
def zgz{P:Program}{w:World}:∀ {ks:List Key} {us:List Value},Vals (ks.map kV) us->ItemsAre (zat P w) ks us
 | [],_,r=>by rw[BD] at r;cases r;exact .nil
 | k::ks,_,r=>by
   rw[Aw] at r
   cases r with
   | cons h t=>exact .cons (zkz h)<|zgz t
noncomputable abbrev KT (H:Hp):List (List Key×V)->List (List Key×Addr×Value)->Prop:=Paired fun p q=>p.1=q.1/\H q.2.1=some (.tup<|p.1.map kV)/\RelV p.2 q.2.2
variable {xs:List (List Key×Addr×Value)}{kvs:List (List Key×V)}
def KT.val(r:KT H kvs xs)(k:List Key):RelO (valV kvs k) ((atKey xs k).map (·.2)):=by
 induction r with
 | nil=>exact Co
 | @cons p q ps qs h t ih =>
   obtain⟨h1,_,h2⟩:=h
   by_cases e:p.1=k
   . have e':q.1=k:=h1.symm.trans e;have b:atKey (q::qs) k=some q.2:=by simp[atKey,AQ,e']
     rw[zfu e,b];exact h2
   . have e':¬ q.1=k:=fun z=>e<|h1.trans z;have b:atKey (q::qs) k=atKey qs k:=by simp[atKey,AQ,e']
     rw[zfv e,b];exact ih
def KT.repl(r:KT H kvs xs)(k:List Key)(ry:RelV y u) :
   KT H (kvs.map fun kv=>if kv.1=k then (kv.1,y) else kv) (xs.map<|putAt k u):=by
 induction r with
 | nil=>exact .nil
 | @cons p q ps qs h t ih =>
   rw[Aw,Aw];refine .cons ?_ ih;obtain⟨h1,h2,h3⟩:=h;unfold putAt
   by_cases e:p.1=k
   . rw[if_pos e,if_pos (h1.symm.trans e)];exact⟨h1,h2,ry⟩
   rw[if_neg e,if_neg (fun z=>e (h1.trans z))];exact⟨h1,h2,h3⟩
def KT.put(r:KT H kvs xs)(k:List Key)(hb:H b=some (.tup<|k.map kV))(ry:RelV y u) :
   KT H (putK kvs k y) (storedH xs k b u):=by
 have e:(kvs.any fun kv=>decide (kv.1=k))=(atKey xs k).isSome:=by rw[zhi,(r.val k).isSome_eq,B0]
 unfold putK storedH;rw[e]
 by_cases q:(atKey xs k).isSome=true
 . rw[if_pos q,if_pos q];exact r.repl k ry
 rw[if_neg q,if_neg q];exact Fy r ⟨rfl,hb,ry⟩
def KT.keeps(r:KT H kvs xs)(ht:∀ b ys,H b=some (.tup ys)->H' b=some (.tup ys)):KT H' kvs xs :=
 Paired.mapP r fun _ _ z=>⟨z.1,ht _ _ z.2.1,z.2.2⟩
def zqD{u:HO}(ok:HOk P w H h)(e:Rd H a u):zcx P w H h a u:=e.ok ok
def zmo{kvs:List (Key×V)}(ok:HOk P w H h)(e:Rd H a (.dK kvs)):kvs.length<=sizeLine/\(a==sysModules)=false/\∃ vs,KV kvs vs/\h.DictOf (zat P w) a vs :=
 show zcx P w H h a (.dK kvs) from zqD ok e
def zqM{kvs:List (Key×V)}(ok:HOk P w H h)(e:H a=some (.dK kvs)):kvs.length<=sizeLine/\(a==sysModules)=false/\∃ vs,KV kvs vs/\h.DictOf (zat P w) a vs:=zmo ok<|.inl e
def zfa{ks:List Key}(ok:HOk P w H h)(e:H a=some (.tup<|ks.map kV)):(tupleKind<|zat P w).is h ks a:=by
 obtain⟨_,its,r,o,h1,h2,_,n,h3⟩:=(show zcx P w H h a (.tup<|ks.map kV) from ok a _ e)
 exact⟨o,its.toArray,n,h1,h2,h3,by simpa using zgz r⟩
def zmm(ok:HOk P w H h)(e:Rd H a (.dT kvs)):kvs.length<=sizeLine/\(a==sysModules)=false /\
   ∃ xs,KT H kvs xs/\h.DictOfH (tupleKind<|zat P w) a xs:=by
 obtain⟨z,y,xs,r,o,es,ep,h1,h2,h3,h4,h5⟩:=(show zcx P w H h a (.dT kvs) from zqD ok e)
 refine⟨z,y,xs,r,o,es,ep,h1,h2,h3,h4,fun x hx=>?_,h5⟩;have all:∀ {l:List (List Key×V)} {m:List (List Key×Addr×Value)},KT H l m->∀ x∈m,(tupleKind<|zat P w).is h x.1 x.2.1:=by
   intro l m q
   induction q with
   | nil=>intro x hx;exact nomatch hx
   | @cons p q ps qs hq t ih =>
     intro x hx
     rcases List.mem_cons.mp hx with e | hx
     . subst e;exact zfa ok (by rw[<-hq.1];exact hq.2.1)
     exact ih x hx
 exact all r x hx
def zqL(ok:HOk P w H h)(e:H a=some (.dT kvs)):kvs.length<=sizeLine/\(a==sysModules)=false /\
   ∃ xs,KT H kvs xs/\h.DictOfH (tupleKind<|zat P w) a xs:=zmm ok (.inl e)
def DGet(H:Hp)(a:Addr)(y:V)(r:Option V):Prop :=
 (∃ kvs k,Rd H a (.dK kvs)/\y=kV k/\r=valV kvs k)\/∃ kvs k b,Rd H a (.dT kvs)/\y=.ref b/\H b=some (.tup<|k.map kV)/\r=valV kvs k
def DPut(H:Hp)(a:Addr)(y v:V)(H':Hp):Prop :=
 (∃ kvs k,H a=some (.dK kvs)/\y=kV k/\kvs.length < sizeLine/\H'=upd H a (.dK<|putK kvs k v)) \/
 ∃ kvs k b,H a=some (.dT kvs)/\y=.ref b/\H b=some (.tup<|k.map kV)/\kvs.length < sizeLine/\H'=upd H a (.dT<|putK kvs k v)
def DGet.k{H:Hp}{a:Addr}{kvs:List (Key×V)}{k:Key}(e:H a=some (.dK kvs)):DGet H a (kV k) (valV kvs k):=.inl ⟨kvs,k,.inl e,rfl,rfl⟩
def DGet.t{k:List Key}(e:H a=some (.dT kvs))(eb:H b=some (.tup<|k.map kV)):DGet H a (.ref b) (valV kvs k):=.inr ⟨kvs,k,b,.inl e,rfl,eb,rfl⟩
def DPut.k{H:Hp}{a:Addr}{kvs:List (Key×V)}{k:Key}{v:V}(e:H a=some (.dK kvs))(hl:kvs.length < sizeLine):DPut H a (kV k) v (upd H a<|.dK<|putK kvs k v):=.inl ⟨kvs,k,e,rfl,hl,rfl⟩
def DPut.t{k:List Key}(e:H a=some (.dT kvs))(eb:H b=some (.tup<|k.map kV))(hl:kvs.length < sizeLine) :
   DPut H a (.ref b) v (upd H a<|.dT<|putK kvs k v):=.inr ⟨kvs,k,b,e,rfl,eb,hl,rfl⟩
section
variable {r:Value} {o:Option V}
def Inv.big(I:Inv X pins M H s):sysModules < s.heap.objs.size:=by have h:mainGlobals < s.heap.objs.size:=(I.mod.glob.keeps I.bk).lt;exact BE (by decide) h
def zj3(hu:A.units+1 < cLine)(I:Inv X pins M H s)(g:DGet H a y (some v))(ry:RelV y u)(h:∀ w' s',Inv X pins M H s'->RelV v w'->Q w' s') :
   wpAny (model X.prog X.w) A (getItem (.ref a) u) Q E s:=by
 rcases g with ⟨kvs,k,e,ey,l⟩ | ⟨kvs,k,b,e,ey,eb,l⟩
 . subst ey;obtain⟨z,hd,vs,rel,dd⟩:=zmo I.hok e;obtain⟨w',hw,rw'⟩:=RelO.some_of (v:=v) (o:=valueAt vs k) (by rw[l];exact rel.val k);exact wpAny_getItem_of (zkz ry) dd.mapOf hw<|h w' _ (I.tok _) rw'
 . subst ey
   cases (show u=AH b from ry)
   obtain⟨z,hd,xs,rel,dd⟩:=zmm I.hok e;obtain⟨w',hw,rw'⟩:=RelO.some_of (v:=v) (o:=(atKey xs k).map (·.2)) (by rw[l];exact rel.val k);obtain⟨p,hp,hp2⟩:=Option.map_eq_some_iff.mp hw;refine wpAny_getItem_heap (BY hu) (zfa I.hok eb) dd hp ?_;rw[hp2];exact h w' _ (I.tok _) rw'
def d_in(hu:A.units+1 < cLine)(I:Inv X pins M H s)(g:DGet H a y o)(ry:RelV y u)(h:∀ s',Inv X pins M H s'->Q (.bool o.isSome) s') :
   wpAny (model X.prog X.w) A (compareOp .In u<|.ref a) Q E s:=by
 rcases g with ⟨kvs,k,e,ey,l⟩ | ⟨kvs,k,b,e,ey,eb,l⟩
 . subst ey;obtain⟨z,hd,vs,rel,dd⟩:=zmo I.hok e;refine wpAny_in_of (zkz ry) hd dd.mapOf ?_;rw[<-(rel.val k).isSome_eq,<-l];exact h _<|I.tok _
 . subst ey
   cases (show u=AH b from ry)
   obtain⟨z,hd,xs,rel,dd⟩:=zmm I.hok e;refine wpAny_in_heap (BY hu) (zfa I.hok eb) hd dd ?_;have q:=(rel.val k).isSome_eq;rw[B0] at q;rw[<-q,<-l];exact h _<|I.tok _
def zoj(hu:A.units+1 < cLine)(I:Inv X pins M H s)(g:DGet H a y o)(ry:RelV y u)(h:∀ s',Inv X pins M H s'->Q (.bool<|!o.isSome) s') :
   wpAny (model X.prog X.w) A (compareOp .NotIn u<|.ref a) Q E s:=by
 rcases g with ⟨kvs,k,e,ey,l⟩ | ⟨kvs,k,b,e,ey,eb,l⟩
 . subst ey;obtain⟨z,hd,vs,rel,dd⟩:=zmo I.hok e;refine wpAny_notIn_of (zkz ry) hd dd.mapOf ?_;rw[<-(rel.val k).isSome_eq,<-l];exact h _<|I.tok _
 . subst ey
   cases (show u=AH b from ry)
   obtain⟨z,hd,xs,rel,dd⟩:=zmm I.hok e;refine wpAny_notIn_heap (BY hu) (zfa I.hok eb) hd dd ?_;have q:=(rel.val k).isSome_eq;rw[B0] at q;rw[<-q,<-l];exact h _<|I.tok _
def zgE{ob:HO}(I:Inv X pins M H s)(mu:Mut (H a))(hs:BA a s.heap h')(he:∃ q,h'.get? a=some q)(new:zcx X.prog X.w (upd H a ob) h' a ob) :
   Inv X pins M (upd H a ob) { s with heap:=h',toks:=t' } :=
 I.write (x:=a) (e:=a) mu (.inl rfl) (fun b q hb z=>(hs.2 b hb).trans z) he new
def zj1{kvs:List (Key×V)}{vs:List (Key×Value)}(z:kvs.length<=sizeLine)(hd:(a==sysModules)=false)(rel:KV kvs vs)(dd:h'.DictOf (zat P w) a vs) :
   zcx P w H' h' a (.dK kvs):=⟨z,hd,vs,rel,dd⟩
def zj2{Q:Unit->Shared->Prop}(hu:A.units+1 < cLine)(I:Inv X pins M H s)(g:DPut H a y v H')(ry:RelV y u)(rv:RelV v r)(h:∀ s',Inv X pins M H' s'->Q () s') :
   wpAny (model X.prog X.w) A (setItem (.ref a) u r) Q E s:=by
 rcases g with ⟨kvs,k,e,ey,l,eH⟩ | ⟨kvs,k,b,e,ey,eb,l,eH⟩
 . subst ey eH;obtain⟨z,hd,vs,rel,dd⟩:=zqM I.hok e;have hz:vs.length<=sizeLine:=by rw[<-rel.length];exact z
   have hl:(putK kvs k v).length<=sizeLine:=by have:=zcZ kvs k v;omega
   refine wpAny_setItem_pairs (hsz:=hz) (zkz ry) dd fun h' dd' hs=>h _ ?_;have he:∃ q,h'.get? a=some q:=let ⟨q,_,_,hq,_⟩:=dd';⟨q,hq⟩
   exact zgE I (by rw[e];exact Co) hs he<|zj1 hl hd (rel.put k rv) dd'
 . subst ey eH
   cases (show u=AH b from ry)
   obtain⟨z,hd,xs,rel,dd⟩:=zqL I.hok e;have hz:xs.length<=sizeLine:=by rw[<-Bc rel];exact z
   have hl:(putK kvs k v).length<=sizeLine:=by have:=zcZ kvs k v;omega
   refine wpAny_setItem_heap (hsz:=hz) (BY hu) (zfa I.hok eb) dd fun h' dd' hs=>h _ ?_;obtain⟨q,es,ep,hq,h2,h3,h4,_,h5⟩:=dd';refine zgE I (by rw[e];exact Co) hs ⟨q,hq⟩ ⟨hl,hd,_,(rel.put k eb rv).keeps fun c ys ec=>?_,q,es,ep,hq,h2,h3,h4,h5⟩;rw[zax (zpO ec e fun z=>nomatch z)];exact ec
end
def NoSl(i:Expr):Prop:=∀ ov iv,subscripted i false ov iv=operate [ov,iv] (getItem ov iv)
variable {value:Expr}
def zmX{prog:Program}{env:Env}{slice:Expr}
   (hl:typeLookup (.type T) "__getitem__"=pure (some<|.builtin id)) (hs:NoSl slice)
   (h:wpAny (model prog w) A (eval value env) (fun o s₁=>wpAny (model prog w) A (eval slice env) (fun i s₂=>s₂.TypeIs o T/\wpAny (model prog w) A (getItem o i) Q E s₂) E s₁) E s) :
   wpAny (model prog w) A (eval (.Subscript value slice pos) env) Q E s:=by
 refine D4<|Bj h (fun o s₁ h₁=>Bj h₁ (fun i s₂ h₂=>?_) fun _ _ x=>x) fun _ _ x=>x;obtain⟨hT,h₂⟩:=h₂;unfold subscriptTail;refine Aa ?_;rw[getitemInPython_of_ne hT.not_modules];refine Aa<|DE hT hl ?_;have fin:wpAny (model prog w) A (subscripted slice false o i) (fun r s₃=>wpAny (model prog w) A (letTemporaryGo value o r >>= fun _=>pure r) Q E s₃) E s₂:=by rw[hs o i];exact wpAny_operating<|Bj h₂ (fun r s₃ h₃=>Aa (wpAny_letTemporaryGo<|Ac h₃)) fun _ _ x=>x
 first
   | exact Ac (Aa fin)
   | exact Aa (Ac<|Aa fin)
   | exact Aa fin
def zg5{o:Option V}(I:Inv X pins M H s)(g:DGet H a y o):s.TypeIs (.ref a) "dict":=by
 rcases g with ⟨kvs,k,e,_,_⟩ | ⟨kvs,k,b,e,_,_,_⟩
 . obtain⟨_,_,vs,_,dd⟩:=zmo I.hok e;exact dd.typeIs
 obtain⟨_,_,xs,_,dd⟩:=zmm I.hok e;exact dd.typeIs
def zq2(td ty:TE):TE:=fun M H Q=>td M H fun x H1=>ty M H1 fun y H2=>∃ a v,x=.ref a/\DGet H2 a y (some v)/\Q v H2
def tDIn(ty td:TE):TE:=fun M H Q=>ty M H fun y H1=>td M H1 fun x H2=>∃ a o,x=.ref a/\DGet H2 a y o/\Q (.bl o.isSome) H2
def zmT(ty td:TE):TE:=fun M H Q=>ty M H fun y H1=>td M H1 fun x H2=>∃ a o,x=.ref a/\DGet H2 a y o/\Q (.bl<|!o.isSome) H2
def zq9(td ty tv:TE):TS:=fun D M H=>tv M H fun v H1=>td M H1 fun x H2=>ty M H2 fun y H3=>∃ a H4,x=.ref a/\DPut H3 a y v H4/\D.nx M H4
variable {td ty tv:TE}
section
variable {o i:Expr} {tpos:Pos}
def zku(hu:X.A.units+1 < cLine)(ho:PE X o td)(hi:PE X i ty)(hs:NoSl i):PE X (.Subscript o i pos) (zq2 td ty):=by intro pins s M H Q I h;refine zmX PySem.F.slot_dict_getitem.lookup hs<|thn (ho pins s M H _ I h) fun u s1 ⟨x,H1,I1,rx,q1⟩=>thn (hi pins s1 M H1 _ I1 q1) ?_;rintro iv s2 ⟨y,H2,I2,ry,a,v,ex,g,q2⟩;subst ex;obtain rfl:u=AH a:=rx;exact⟨zg5 I2 g,zj3 hu I2 g ry fun w' s3 I3 rw'=>⟨v,H2,I3,rw',q2⟩⟩
def zpB(hu:X.A.units+1 < cLine)(hi:PE X i ty)(ho:PE X o td):PC X .In i o (tDIn ty td):=by intro pins s M H Q I h;refine thn (hi pins s M H _ I h) fun iv s1 ⟨y,H1,I1,ry,q1⟩=>thn (ho pins s1 M H1 _ I1 q1) ?_;rintro u s2 ⟨x,H2,I2,rx,a,ov,ex,g,q2⟩;subst ex;obtain rfl:u=AH a:=rx;exact d_in hu I2 g ry fun s3 I3=>⟨.bl ov.isSome,H2,I3,rfl,q2⟩
def zjy(hu:X.A.units+1 < cLine)(hi:PE X i ty)(ho:PE X o td):PC X .NotIn i o (zmT ty td):=by intro pins s M H Q I h;refine thn (hi pins s M H _ I h) fun iv s1 ⟨y,H1,I1,ry,q1⟩=>thn (ho pins s1 M H1 _ I1 q1) ?_;rintro u s2 ⟨x,H2,I2,rx,a,ov,ex,g,q2⟩;subst ex;obtain rfl:u=AH a:=rx;exact zoj hu I2 g ry fun s3 I3=>⟨.bl<|!ov.isSome,H2,I3,rfl,q2⟩
def znt(hu:X.A.units+1 < cLine)(ho:PE X o td)(hi:PE X i ty)(hv:PE X value tv)(hs:swapsWith value (some<|.Subscript o i pos') pos.line X.env=pure false) :
   PS X (.Assign [.Subscript o i pos'] value pos) (zq9 td ty tv):=by
 intro pins s M H D I h;refine wpAny_Assign_Subscript (thn (hv pins s M H _ I h) fun r s1 ⟨v,H1,I1,rv,q1⟩=>thn (ho pins s1 M H1 _ I1 q1) fun u s2 ⟨x,H2,I2,rx,q2⟩=>thn (hi pins s2 M H2 _ I2 q2) ?_) hs;rintro iv s3 ⟨y,H3,I3,ry,a,H4,ex,g,q3⟩;subst ex;obtain rfl:u=AH a:=rx;exact zj2 hu I3 g ry rv fun s4 I4=>⟨M,H4,I4,q3⟩
end
def ziz(h:Heap)(hb:sysModules < h.objs.size):zcx P w H (h.push { cls:=.type "dict",data:=.dict #[] }) h.objs.size (.dK []) :=
 ⟨A3 _,beq_eq_false_iff_ne.mpr<|Bo<|Ar hb,[],.nil,DF h⟩
def ziy(h:Heap)(hb:sysModules < h.objs.size):zcx P w H (h.push { cls:=.type "dict",data:=.dict #[] }) h.objs.size (.dT []) :=
 ⟨A3 _,beq_eq_false_iff_ne.mpr<|Bo<|Ar hb,[],.nil,_,#[],0,Am _ rfl,⟨rfl,rfl,rfl⟩,rfl,rfl,Fj⟩
def zoV:TE:=fun _ H Q=>∀ p,H p=none->Q (.ref p) (upd H p<|.dK [])
def zoU:TE:=fun _ H Q=>∀ p,H p=none->Q (.ref p) (upd H p<|.dT [])
def zlC:PE X (.Dict [] [] pos) zoV:=fun pins s M H Q I h =>
 wpAny_Dict_empty ⟨.ref s.heap.objs.size,_,I.laid (a:=s.heap.objs.size) (o:=.dK []) (t':=s.toks) (fun _ _ q=>Ad _ q) (Af _)<|ziz s.heap I.big,rfl,h _<|I.hok.fresh<|Af _⟩
def zlB:PE X (.Dict [] [] pos) zoU:=fun pins s M H Q I h =>
 wpAny_Dict_empty ⟨.ref s.heap.objs.size,_,I.laid (a:=s.heap.objs.size) (o:=.dT []) (t':=s.toks) (fun _ _ q=>Ad _ q) (Af _)<|ziy s.heap I.big,rfl,h _<|I.hok.fresh<|Af _⟩
def zi9:List (TE×TE)->St->Hp->(List (V×V)->Hp->Prop)->Prop
 | [],_,H,Q=>Q [] H
 | (tk,tv)::r,M,H,Q=>tk M H fun x H1=>tv M H1 fun y H2=>zi9 r M H2 fun ps H3=>Q ((x,y)::ps) H3
noncomputable abbrev VV:List (V×V)->List (Value×Value)->Prop:=Paired fun p q=>RelV p.1 q.1/\RelV p.2 q.2
def PPs(X:Cx)(pos:Pos)(keys:List (Option Expr))(values:List Expr)(trs:List (TE×TE)):Prop :=
 ∀ (pins:List (Addr×Obj)) (s:Shared) (M:St) (H:Hp) (Q:List (V×V)->Hp->Prop),Inv X pins M H s->zi9 trs M H Q ->
   wpAny (model X.prog X.w) X.A (evalPairs<|pairTrees keys values X.env pos) (fun vs s'=>∃ ps H',Inv X pins M H' s'/\VV ps vs/\Q ps H') X.xe s
def zks:PPs X pos [] [] []:=fun pins s M H Q I h=>pairTrees_nil_walk ⟨[],H,I,.nil,h⟩
variable {trs:List (TE×TE)}
def zhN{k v:Expr}{ks:List (Option Expr)}{vs:List Expr}{tk:TE}(hk:PE X k tk)(hv:PE X v tv)(hr:PPs X pos ks vs trs) :
   PPs X pos (some k::ks) (v::vs) ((tk,tv)::trs):=fun pins s M H Q I h =>
 pairTrees_cons_walk (thn (hk pins s M H _ I h) fun u s1 ⟨x,H1,I1,rx,q1⟩=>thn (hv pins s1 M H1 _ I1 q1) fun w2 s2 ⟨y,H2,I2,ry,q2⟩ =>
   thn (hr pins s2 M H2 _ I2 q2) fun ws s3 ⟨ps,H3,I3,rel,q3⟩=>⟨(x,y)::ps,H3,I3,.cons ⟨rx,ry⟩ rel,q3⟩)
def zdk(kvs more:List (Key×V)):List (Key×V):=more.foldl (fun acc kv=>putK acc kv.1 kv.2) kvs
def KV.merge:∀ {more:List (Key×V)} {rs:List (Key×Value)} {kvs:List (Key×V)} {vs:List (Key×Value)},KV more rs->KV kvs vs->KV (zdk kvs more) (merged vs rs):=by
 intro more rs kvs vs r;unfold KV at r
 induction r generalizing kvs vs with
 | nil=>intro q;exact q
 | @cons p q ps qs h t ih =>
   intro r0;have e:KV (putK kvs p.1 p.2) (stored vs q.1 q.2):=by have:=r0.put p.1 h.2;rw[<-h.1];exact this
   exact ih e
def zby:∀ (more kvs:List (Key×V)),(zdk kvs more).length<=kvs.length+more.length
 | [],kvs=>by show kvs.length<=kvs.length+0;omega
 | p::r,kvs=>by have h1:=zby r<|putK kvs p.1 p.2;have h2:=zcZ kvs p.1 p.2;show (zdk (putK kvs p.1 p.2) r).length<=_;rw[AB];omega
def zff{P:Program}{w:World}:∀ {kvs:List (Key×V)} {ws:List (Value×Value)},VV (kvs.map fun kv=>(kV kv.1,kv.2)) ws->∃ rs,Carries (zat P w) ws rs/\KV kvs rs
 | [],_,r=>by rw[BD] at r;cases r;exact⟨[],Co,.nil⟩
 | p::kvs,_,r=>by
   rw[Aw] at r
   cases r with
   | @cons a b as bs h t =>
     obtain⟨rs,c,q⟩:=zff (P:=P) (w:=w) t;obtain⟨b1,b2⟩:=b;exact⟨(p.1,b2)::rs,⟨zkz h.1,rfl,c⟩,.cons ⟨rfl,h.2⟩ q⟩
def zq1(trs:List (TE×TE)):TE:=fun M H Q=>∀ p,H p=none->zi9 trs M (upd H p<|.dK []) fun ps H2=>H2 p=some (.dK [])/\∃ kvs:List (Key×V),ps=kvs.map (fun kv=>(kV kv.1,kv.2))/\kvs.length<=15/\Q (.ref p) (upd H2 p<|.dK<|zdk [] kvs)
def znA{keys:List (Option Expr)}{values:List Expr}(h:PPs X pos keys values trs)(hall:keys.all (·.isSome)=true)(hl:keys.length=values.length)(h0:keys≠[])
   (h15:keys.length<=15):PE X (.Dict keys values pos) (zq1 trs):=by
 intro pins s M H Q I q;have hn:=I.hok.fresh<|Af s.heap.objs.size;have I1:=I.laid (a:=s.heap.objs.size) (o:=.dK []) (h':=s.heap.push { cls:=.type "dict",data:=.dict #[] }) (t':=s.toks) (fun _ _ q=>Ad _ q) (Af _) (ziz s.heap I.big);refine wpAny_Dict_walk (knd:=zat X.prog X.w) hall hl h0 h15<|thn (h pins _ M _ _ I1<|q _ hn) ?_;rintro ws s2 ⟨ps,H2,I2,rel,e,kvs,ep,lk,q2⟩;subst ep;obtain⟨rs,c,rk⟩:=zff (P:=X.prog) (w:=X.w) rel;obtain⟨z,hd,vs0,r0,dd⟩:=zqM I2.hok e;cases r0;refine⟨rs,c,dd,fun h' dd' hs=>⟨.ref s.heap.objs.size,_,?_,rfl,q2⟩⟩;have hz:(zdk [] kvs).length<=sizeLine:=by have h1:=zby kvs [];rw[Be] at h1;rw[C4];omega
 have he:∃ q,h'.get? s.heap.objs.size=some q:=let ⟨q,_,_,hq,_⟩:=dd';⟨q,hq⟩
 exact zgE I2 (by rw[e];exact Co) hs he<|zj1 hz hd (rk.merge .nil) dd'
structure M1(X:Cx)(o:Expr)(m:Str)(apos:Pos)(e:Expr)(cpos:Pos):Prop where
 base:attributeBase o m X.env (eval o X.env)=eval o X.env
 few:((backTo cpos (starEach [e] X.env)).all (fun x=>!x.1)&&(backToKw cpos (keywordEach [] X.env)).all (fun x=>x.1.isSome)
  &&decide (([e]:List Expr).length+([]:List Keyword).length+(if ([]:List Keyword).isEmpty then 0 else 1) < 30))=true
 line:(apos.endLine==cpos.line)=true
 trees:backTo cpos (starEach [e] X.env)=[(false,eval e X.env)]
def IsD(H:Hp)(a:Addr):Prop:=(∃ kvs,Rd H a (.dK kvs))\/∃ kvs,Rd H a (.dT kvs)
def zmc(I:Inv X pins M H s)(d:IsD H a) :
   s.TypeIs (.ref a) "dict"/\(∀ b,AH a=.ref b->∃ ob,s.heap.get? b=some ob/\ob.dict=none)/\(a==sysModules)=false:=by
 rcases d with ⟨kvs,e⟩ | ⟨kvs,e⟩
 . obtain⟨_,hd,vs,_,dd⟩:=zmo I.hok e;refine⟨dd.typeIs,fun b q=>?_,hd⟩;cases q;obtain⟨ob,_,_,h1,h2,_⟩:=dd;exact⟨ob,h1,h2.2.1⟩
 obtain⟨_,hd,xs,_,dd⟩:=zmm I.hok e;refine⟨dd.typeIs,fun b q=>?_,hd⟩;cases q;obtain⟨ob,_,_,h1,h2,_⟩:=dd;exact⟨ob,h1,h2.2.1⟩
section
variable {r:Value} {o:Option V}
def zql(hu:A.units+1 < cLine)(I:Inv X pins M H s)(g:DGet H a y o)(ry:RelV y u)(h:∀ w' s',Inv X pins M H s'->RelV (o.getD .non) w'->Q w' s') :
   wpAny (model X.prog X.w) A (call (.builtin "dict.get") [.ref a,u]) Q E s:=by
 rcases g with ⟨kvs,k,e,ey,l⟩ | ⟨kvs,k,b,e,ey,eb,l⟩
 . subst ey;obtain⟨z,hd,vs,rel,dd⟩:=zmo I.hok e;refine call_meetsIn CF dd.typeIs DM (Dy _ _) (meets_dict_get (zat X.prog X.w) a (zkz ry) hd) ⟨_,dd.mapOf,h _ _ (I.tok _) ?_⟩;rw[l];exact (rel.val k).getD rfl
 . subst ey
   cases (show u=AH b from ry)
   obtain⟨z,hd,xs,rel,dd⟩:=zmm I.hok e;refine call_meetsIn CF dd.typeIs DM (Dy _ _) (meetsH_dict_get (tupleKind<|zat X.prog X.w) a b hd) ⟨BY hu,k,xs,zfa I.hok eb,dd,h _ _ (I.tok _) ?_⟩;rw[l];exact (rel.val k).getD rfl
end
def zoW(td ty:TE):TE:=fun M H Q=>td M H fun x H1=>∃ a,x=.ref a/\IsD H1 a/\ty M H1 fun y H2=>∃ o,DGet H2 a y o/\Q (o.getD .non) H2
section
variable {o f:Expr} {cpos:Pos} {tx:TE}
def zlE(hu:X.A.units+1 < cLine)(ho:PE X o td)(he:PE X e ty)(m:M1 X o "get" apos e cpos):PE X (.Call (.Attribute o "get" apos) [e] [] cpos) (zoW td ty):=by intro pins s M H Q I h;refine wpAny_Call_method m.base m.few m.line PySem.F.plainAttrs_dict CF PySem.F.type_dict_get<|thn (ho pins s M H _ I h) ?_;rintro u s1 ⟨x,H1,I1,rx,a,ex,d,q1⟩;subst ex;obtain rfl:u=AH a:=rx;obtain⟨t1,t2,_⟩:=zmc I1 d;refine⟨t1,t2,?_⟩;rw[m.trees];refine DN rfl<|D5<|El<|thn (he pins s1 M H1 _ I1 q1) fun iv s2 ⟨y,H2,I2,ry,ov,g,q2⟩=>Ez ?_;exact zql hu I2 g ry fun w' s3 I3 rw'=>⟨_,H2,I3,rw',q2⟩
end
end L2
namespace HT
open PySem PyProof.Rows
def lexLt:List Int->List Int->Bool
 | [],[]=>false
 | [],_::_=>true
 | _::_,[]=>false
 | x::xs,y::ys=>if x=y then lexLt xs ys else decide (x < y)
theorem lexLt_cons(x y:Int)(xs ys:List Int):lexLt (x::xs) (y::ys)=if x=y then lexLt xs ys else decide (x < y):=rfl
theorem lexLt_nil_nil:lexLt [] []=false:=rfl
theorem lexLt_nil_cons(y:Int)(ys:List Int):lexLt [] (y::ys)=true:=rfl
theorem lexLt_cons_nil(x:Int)(xs:List Int):lexLt (x::xs) []=false:=rfl
section
open PySem.SeqAt
open PySem.MeetsSeq PySem.MeetsSeq2 PySem.MeetsSeq3
end
variable {t sl:Addr}{Q:Value->Shared->Prop}{vl vu:Value}{lo hi:Option Int}
section
variable {prog:Program} {w:World} {A:Around} {E:Value->Shared->Prop} {s:Shared}
def cat_tup{b:Addr}{vs ws:List Value}(ht:IsTup s.heap t vs.toArray)(hb:IsTup s.heap b ws.toArray)(hv:vs≠[])
   (h1:ws=[]->Q (.ref t) s) (h2:ws≠[]->Q (.ref s.heap.objs.size) { s with heap:=s.heap.push { cls:=.type "tuple",data:=.seq (vs++ws).toArray } })
   (hsz:vs.length+ws.length<=sizeLine):wpAny (model prog w) A (binaryOp .Add (.ref t)<|.ref b) Q E s:=by
 obtain⟨⟨cls,dd,data,sl⟩,ho,hc,n,hd⟩:=id ht;obtain⟨⟨cls2,dd2,data2,sl2⟩,ho2,hc2,n2,hd2⟩:=id hb;simp only at hc hd hc2 hd2;subst hc hd hc2 hd2;have e:vs.toArray++ws.toArray=(vs++ws).toArray:=by simp
 by_cases hw:ws=[]
 . exact concat_meets ⟨_,ho,rfl⟩ ⟨_,ho2,rfl⟩ noFill_tuple_add seq_tuple_add DO Dz (Ds _ _)
     (tuple_addW1 t b vs.toArray ws.toArray n n2 dd dd2 sl sl2 (by simpa using hv)<|by simp[hw]) ⟨ho,ho2,h1 hw⟩
 . refine concat_meets ⟨_,ho,rfl⟩ ⟨_,ho2,rfl⟩ noFill_tuple_add seq_tuple_add DO Dz (Ds _ _)
     (tuple_addW2 t b vs.toArray ws.toArray n n2 dd dd2 sl sl2 (by simpa using hv) (by simpa using hw) (by rw[Au,Au];exact hsz)) ⟨ho,ho2,?_⟩
   rw[e];exact h2 hw
def sIx(n d:Nat):Option Int->Nat
 | none=>d
 | some v=>if v < 0 then (v+(n:Int)).toNat else min v.toNat n
def sIx_nat(n d k:Nat):sIx n d (some (k:Int))=min k n:=by show (if (k:Int) < 0 then ((k:Int)+(n:Int)).toNat else min (k:Int).toNat n)=min k n;rw[if_neg (by omega),A4]
def zpd(n d:Nat)(hd:d<=n)(o:Option Int):sIx n d o<=n:=by
 cases o with
 | none=>exact hd
 | some v =>
   show (if v < 0 then (v+(n:Int)).toNat else min v.toNat n)<=n
   by_cases hv:v < 0
   . rw[if_pos hv];omega
   rw[if_neg hv];exact Dt _ _
def zkH(v:Int)(n d:Nat):(if v < 0 then max (v+(n:Int)) 0 else min v (n:Int))=((sIx n d (some v):Nat):Int):=by
 show (if v < 0 then max (v+(n:Int)) 0 else min v (n:Int))=(((if v < 0 then (v+(n:Int)).toNat else min v.toNat n):Nat):Int)
 by_cases hv:v < 0
 . simp only[if_pos hv];omega
 simp only[if_neg hv];omega
def ziT(lo hi:Option Int)(n:Nat):Builtin.Slice.sliceAdjust lo hi 1 (n:Int)=(((sIx n 0 lo:Nat):Int),((sIx n n hi:Nat):Int)):=by
 have h1:¬ ((1:Int) < 0):=by omega
 unfold Builtin.Slice.sliceAdjust;simp only[h1,if_false];refine Prod.ext ?_ ?_
 . cases lo with
   | none=>rfl
   | some v=>exact zkH v n 0
 . cases hi with
   | none=>rfl
   | some v=>exact zkH v n n
def zhO(i j:Nat):Builtin.Slice.slicePlaces (i:Int) (j:Int) 1=j - i:=by
 unfold Builtin.Slice.slicePlaces;have h1:(1:Int) > 0:=by omega
 simp only[h1,if_true,Int.ediv_one]
 split <;> omega
def slicePart_{v:Value}{o:Option Int}{Q:Option Int->Shared->Prop}(p:IsPart v o)(h:Q o s):wpAny (model prog w) A (Builtin.Slice.slicePartIndex v) Q E s:=by
 cases p with
 | none=>exact slicePart_none h
 | int i t=>exact slicePart_int h
def sliceApplied_gen{n:Nat}{Q:Int×Int×Nat->Shared->Prop}(hs:s.heap.IsSliceOf sl vl vu .none)(pl:IsPart vl lo)(pu:IsPart vu hi)
   (h:Q (((sIx n 0 lo:Nat):Int),1,sIx n n hi - sIx n 0 lo) s):wpAny (model prog w) A (Builtin.Slice.sliceApplied (.ref sl)<|pure (n:Int)) Q E s:=by
 obtain⟨os,hos,hcs,hds⟩:=id hs;unfold Builtin.Slice.sliceApplied Builtin.Slice.sliceFields;refine Aa<|Aa<|A0 hos hds (x:=vl) rfl<|Aa<|A0 hos hds (x:=vu) rfl<|Aa<|A0 hos hds (x:=.none) rfl<|Ac ?_;refine Aa<|slicePart_none ?_;show wpAny _ _ (if ((1:Int)==0)=true then _ else _) _ _ s;rw[if_neg (by decide)];refine Aa<|slicePart_ pl<|Aa<|slicePart_ pu<|Aa<|Ac ?_;show wpAny _ _ (match Builtin.Slice.sliceAdjust lo hi 1 (n:Int) with | (lo,hi)=>pure (lo,(1:Int),Builtin.Slice.slicePlaces lo hi 1)) _ _ s;rw[ziT lo hi n];show wpAny _ _ (pure (((sIx n 0 lo:Nat):Int),(1:Int),Builtin.Slice.slicePlaces ((sIx n 0 lo:Nat):Int) ((sIx n n hi:Nat):Int) 1)) _ _ s;rw[zhO];exact Ac h
def zly(xs:Array Value)(i k:Nat):((Ax k).filterMap fun (m:Nat)=>xs[((i:Int)+(m:Int)*1).toNat]?).toArray=((xs.toList.drop i).take k).toArray:=by
 have e:(fun (m:Nat)=>xs[((i:Int)+(m:Int)*1).toNat]?)=fun m=>xs[i+m]?:=by
   funext m
   have:((i:Int)+(m:Int)*1).toNat=i+m:=by omega
   rw[this]
 rw[e];have:=pick_run xs i k;rw[Ep] at this;have e2:((fun x=>xs[x]?) ∘ fun x=>i+x)=fun m=>xs[i+m]?:=rfl;rw[e2] at this;rw[this]
def getItem_tuple_cut{items:Array Value}(ht:IsTup s.heap t items)(hs:s.heap.IsSliceOf sl vl vu .none)(pl:IsPart vl lo)(pu:IsPart vu hi)
   (hw:¬ (sIx items.size 0 lo=0/\sIx items.size items.size hi=items.size))
   (h:Q (.ref s.heap.objs.size) { s with heap:=s.heap.push { cls:=.type "tuple",data:=.seq ((items.toList.drop<|sIx items.size 0 lo).take<|sIx items.size items.size hi - sIx items.size 0 lo).toArray } })
   (hsz:items.size<=sizeLine):wpAny (model prog w) A (getItem (.ref t)<|.ref sl) Q E s:=by
 have htake:sizeOk (.seq ((items.toList.drop<|sIx items.size 0 lo).take<|sIx items.size items.size hi - sIx items.size 0 lo).toArray):=by show ((items.toList.drop<|sIx items.size 0 lo).take<|sIx items.size items.size hi - sIx items.size 0 lo).toArray.size<=sizeLine;rw[Au,Bb,EJ,A2];omega
 have hj:sIx items.size items.size hi<=items.size:=zpd _ _ (Af _) hi;obtain⟨os,hos,hcs,hds⟩:=id hs;have hTs:s.TypeIs (.ref sl) "slice":=⟨os,hos,hcs⟩
 unfold getItem
 try with_reducible refine AI ?_
 first | refine Aa (Ac ?_) | skip
 refine Aa (Dk ht.typeIs (by decide) ?_);refine Aa (AX (name:=Bs "__getitem__") ht.typeIs A5
   (AV A5 ht.typeIs CW ?_<|C7 _ _))
 show wpAny _ _ (Builtin.Tuple.tupleItemsOf (.ref t) >>= _) _ _ s;refine Aa<|Ea ht ?_;refine Aa<|B4 hTs ?_;rw[if_pos (by decide)];refine Aa<|sliceApplied_gen hs pl pu ?_;have hno:¬ ((((sIx items.size 0 lo:Nat):Int)==0&&(1:Int)==1&&(sIx items.size items.size hi - sIx items.size 0 lo)==items.size)=true):=by intro q;rw[Al,Al] at q;have q1:((sIx items.size 0 lo:Nat):Int)=0:=eq_of_beq q.1.1;have q2:sIx items.size items.size hi - sIx items.size 0 lo=items.size:=eq_of_beq q.2;exact hw ⟨by omega,by omega⟩
 show wpAny _ _ (if (((sIx items.size 0 lo:Nat):Int)==0&&(1:Int)==1&&(sIx items.size items.size hi - sIx items.size 0 lo)==items.size)=true then _ else _) _ _ s;rw[if_neg hno,zly]
 first
   | exact Aa (m:=Builtin.Tuple.tupleExact _) (AJ (Ac ⟨_,rfl,Ac h⟩) htake)
   | exact Aa (m:=Builtin.Tuple.tupleExact _) (AJ (Aa<|Ac<|Ac ⟨_,rfl,Ac h⟩) htake)
   | exact Aa (Aa (m:=Builtin.Tuple.tupleExact _)<|AJ (Ac<|Ac ⟨_,rfl,Ac h⟩) htake)
   | exact Aa (Aa (m:=Builtin.Tuple.tupleExact _)<|AJ (Ac ⟨_,rfl,Ac h⟩) htake)
end
end HT
namespace L2
open PySem PySem.Spec PyProof.Rows
noncomputable abbrev TO:=St->Hp->(Option Int->Hp->Prop)->Prop
def PO(X:Cx)(e:Option Expr)(t:TO):Prop :=
 ∀ (pins:List (Addr×Obj)) (s:Shared) (M:St) (H:Hp) (Q:Option Int->Hp->Prop),Inv X pins M H s->t M H Q ->
   wpAny (model X.prog X.w) X.A (evalPart e X.env) (fun u s'=>∃ o H',Inv X pins M H' s'/\IsPart u o/\Q o H') X.xe s
def zmS:TO:=fun _ H Q=>Q none H
def zqX(t:TE):TO:=fun M H Q=>t M H fun x H1=>∃ i,x=.int i/\Q (some i) H1
variable {X:Cx}{e:Expr}{pos:Pos}{xs:List V}{us:List Value}
section
variable {te:TE} {lo hi:Option Expr} {tl th:TO} {p2:Pos}
def znv:PO X none zmS:=by intro pins s M H Q I h;rw[Eb];exact Ac ⟨none,H,I,.none,h⟩
def zkt(h:PE X e te):PO X (some e) (zqX te):=by intro pins s M H Q I hw;rw[evalPart_some];refine thn (h pins s M H _ I hw) ?_;rintro u s1 ⟨x,H1,I1,r1,q1⟩;obtain⟨i,rfl,q⟩:=q1;obtain⟨t,rfl⟩:=r1;exact⟨some i,H1,I1,.int i t,q⟩
def SlR(X:Cx)(r:V->Option Int->Option Int->Hp->VK->Prop):Prop :=
 ∀ (pins:List (Addr×Obj)) (s:Shared) (M:St) (H:Hp) (x:V) (v vl vu:Value) (lo hi:Option Int) (sl:Addr) (Q:VK),Inv X pins M H s->RelV x v->s.heap.IsSliceOf sl vl vu .none->IsPart vl lo->IsPart vu hi->r x lo hi H Q ->
   ∃ T id,typeLookup (.type T) "__getitem__"=pure (some<|.builtin id)/\s.TypeIs v T/\wpAny (model X.prog X.w) X.A (getItem v<|.ref sl) (EP X pins M Q) X.xe s
def tSl(r:V->Option Int->Option Int->Hp->VK->Prop)(te:TE)(tl th:TO):TE:=fun M H Q=>te M H fun x H1=>tl M H1 fun l H2=>th M H2 fun u H3=>r x l u H3 Q
def zer{r:V->Option Int->Option Int->Hp->VK->Prop}(hr:SlR X r)(he:PE X e te)(hl:PO X lo tl)(hu:PO X hi th):PE X (.Subscript e (.Slice lo hi none p2) pos) (tSl r te tl th):=by intro pins s M H Q I h;refine D4<|thn (he pins s M H _ I h) ?_;rintro v s1 ⟨x,H1,I1,r1,q1⟩;refine wpAny_Slice<|thn (hl pins s1 M H1 _ I1 q1) fun vl s2 ⟨l,H2,I2,pl,q2⟩=>thn (hu pins s2 M H2 _ I2 q2) ?_;rintro vu s3 ⟨u,H3,I3,pu,q3⟩;rw[Eb];refine Ac ?_;have I4:Inv X pins M H3 { s3 with heap:=s3.heap.push { cls:=.type "slice",data:=.fields #[vl,vu,.none] } }:=I3.kept (t':=s3.toks) fun b ob q=>Ad _ q;obtain⟨T,id,hT,ht,hg⟩:=hr pins { s3 with heap:=s3.heap.push { cls:=.type "slice",data:=.fields #[vl,vu,.none] } } M H3 x v vl vu l u s3.heap.objs.size Q I4 r1 (Er ..) pl pu q3;show wpAny (model X.prog X.w) X.A (subscriptTail e (.Slice lo hi none p2) v<|.ref s3.heap.objs.size) (EP X pins M Q) X.xe { s3 with heap:=s3.heap.push { cls:=.type "slice",data:=.fields #[vl,vu,.none] } };exact tail_any (ops:=[.ref s3.heap.objs.size,v]) ht hT hg<|by with_unfolding_all rfl
def cutV(xs:List V)(lo hi:Option Int):List V:=(xs.drop<|HT.sIx xs.length 0 lo).take<|HT.sIx xs.length xs.length hi - HT.sIx xs.length 0 lo
def zea(xs:List V)(lo hi:Option Int):(cutV xs lo hi).length<=xs.length:=by unfold cutV;rw[Bb,EJ];omega
def rSlT(K:Ab):V->Option Int->Option Int->Hp->VK->Prop:=fun x lo hi H Q=>∃ a xs,x=.ref a/\SqT K H a xs /\
 ¬ (HT.sIx xs.length 0 lo=0/\HT.sIx xs.length xs.length hi=xs.length)/\∀ p,H p=none->Q (.ref p) (upd H p<|.tup<|cutV xs lo hi)
def zo1:SlR X (rSlT X.K):=by
 intro pins s M H x v vl vu lo hi sl Q I rx hs pl pu h;obtain⟨a,xs,rfl,hx,hw,q⟩:=h;cases rx;obtain⟨its,r,ht,hz⟩:=I.tuple hx;have hlen:its.toArray.size=xs.length:=by rw[Au];exact r.length.symm
 refine⟨"tuple",_,PyProof.Rows.slot_tuple_getitem.lookup,ht.typeIs,?_⟩;refine HT.getItem_tuple_cut ht hs pl pu (by rw[hlen];exact hw) ?_ (by rw[hlen];exact hz);rw[hlen];refine⟨.ref s.heap.objs.size,_,I.laid (t':=s.toks) (o:=.tup (cutV xs lo hi)) (fun b ob q=>Ad _ q) (Af _) ?_,rfl,q _<|I.hok.fresh<|Af _⟩;exact⟨AC (zea xs lo hi) hz,_,(r.drop<|HT.sIx xs.length 0 lo).take<|HT.sIx xs.length xs.length hi - HT.sIx xs.length 0 lo,zcy.new _ _⟩
def zrc(K:Ab):R2:=fun x y H Q=>∃ a b xs ys,x=.ref a/\y=.ref b/\SqT K H a xs/\SqT K H b ys/\xs≠[]/\xs.length+ys.length<=sizeLine /\
 (ys=[]->Q (.ref a) H)/\(ys≠[]->∀ p,H p=none->Q (.ref p) (upd H p<|.tup<|xs++ys))
def Vals.nil_iff(r:Vals xs us):us=[] ↔ xs=[]:=by
 cases r with
 | nil=>simp
 | cons _ _=>simp
def znK:OpR X (binaryOp .Add) (zrc X.K):=by intro pins s M H x y v u Q I rx ry h;obtain⟨a,b,xs,ys,rfl,rfl,ha,hb,hx,hz,q1,q2⟩:=h;cases rx;cases ry;obtain⟨its,r1,p1,_⟩:=I.tuple ha;obtain⟨its2,r2,p2,_⟩:=I.tuple hb;refine HT.cat_tup p1 p2 (fun z=>hx (r1.nil_iff.mp z)) (fun z=>⟨.ref a,H,I,rfl,q1<|r2.nil_iff.mp z⟩) (fun z=>?_) (by rw[<-r1.length,<-r2.length];exact hz);refine⟨.ref s.heap.objs.size,_,I.laid (t':=s.toks) (o:=.tup (xs++ys)) (fun b ob q=>Ad _ q) (Af _) ?_,rfl,q2 (fun w=>z (r2.nil_iff.mpr w)) _<|I.hok.fresh<|Af _⟩;exact⟨by rw[AZ];exact hz,_,r1.append r2,zcy.new _ _⟩
end
def ixN(n:Nat)(i:Int):Option Nat:=if 0<=i then (if i < n then some i.toNat else none) else if -(n:Int)<=i then some (i+n).toNat else none
variable {α:Type}
def atI(xs:List α)(i:Int):Option α:=(ixN xs.length i).bind fun j=>xs[j]?
variable {n:Nat}{i:Int}
def zkB{j:Nat}(h:ixN n i=some j):seqIndex? i n=some j/\j < n/\-(n:Int)<=i/\i < n:=by
 unfold ixN at h
 by_cases h0:0<=i
 . rw[if_pos h0] at h
   by_cases h1:i < n
   . rw[if_pos h1] at h;have e:i.toNat=j:=Ay h;exact⟨by rw[EG h0 h1,e],by omega,by omega,h1⟩
   rw[if_neg h1] at h;cases h
 . rw[if_neg h0] at h
   by_cases h1:-(n:Int)<=i
   . rw[if_pos h1] at h;have e:(i+n).toNat=j:=Ay h;exact⟨by rw[Es (by omega) h1,e],by omega,h1,by omega⟩
   rw[if_neg h1] at h;cases h
def ziQ{xs:List α}{v:α}(h:atI xs i=some v):∃ j,seqIndex? i xs.length=some j/\xs[j]?=some v/\j < xs.length/\-(xs.length:Int)<=i/\i < xs.length:=by
 unfold atI at h
 cases e:ixN xs.length i with
 | none=>rw[e] at h;cases h
 | some j =>
   rw[e] at h;obtain⟨h1,h2,h3,h4⟩:=zkB e;exact⟨j,h1,h,h2,h3,h4⟩
def ziY(b:Expr):Prop:=∀ o i,subscripted b false o i=operate [o,i] (getItem o i)
def IxR(X:Cx)(r:R2):Prop :=
 ∀ (value slice:Expr) (pins:List (Addr×Obj)) (s:Shared) (M:St) (H:Hp) (x y:V) (v u:Value) (Q:VK),Inv X pins M H s->RelV x v->RelV y u->r x y H Q ->
   subscripted slice false v u=operate [v,u] (getItem v u)->wpAny (model X.prog X.w) X.A (subscriptTail value slice v u) (EP X pins M Q) X.xe s
def MtR(X:Cx)(id:String)(r:V->List V->Hp->VK->Prop):Prop :=
 ∀ (pins:List (Addr×Obj)) (s:Shared) (M:St) (H:Hp) (x:V) (xs:List V) (v:Value) (us:List Value) (Q:VK),Inv X pins M H s->RelV x v->Vals xs us->r x xs H Q ->
   wpAny (model X.prog X.w) X.A (call (.builtin id) (v::us)) (EP X pins M Q) X.xe s
variable {pins:List (Addr×Obj)}{M:St}{H:Hp}{s:Shared}{p:Addr}{ys:List V}{its its':List Value}{T:String}{x:V}
section
variable {a b:Expr} {ta tb:TE}
def zrg{r:R2}(hr:IxR X r)(ha:PE X a ta)(hb:PE X b tb)(hs:ziY b):PE X (.Subscript a b pos) (tOp r ta tb):=by intro pins s M H Q I h;exact D4<|binT ha hb I h fun v u s2 x y H2 I2 rx ry q=>hr a b pins s2 M H2 x y v u Q I2 rx ry q (hs _ _)
def rIxL(K:Ab):R2:=fun x y H Q=>∃ p xs i v,x=.ref p/\y=.int i/\SqL K H p xs/\atI xs i=some v/\Q v H
def rIxT(K:Ab):R2:=fun x y H Q=>∃ p xs i v,x=.ref p/\y=.int i/\SqT K H p xs/\atI xs i=some v/\Q v H
def rIxS:R2:=fun x y H Q=>∃ z i c,x=.str z/\y=.int i/\z.length<=sizeLine/\atI z.cps.toList i=some c/\Q (.str ⟨#[c]⟩) H
def zkA:IxR X (rIxL X.K):=by
 intro value slice pins s M H x y v u Q I rx ry h hs;obtain⟨p,xs,i,z,rfl,rfl,hq,he,q⟩:=h;cases rx;obtain⟨t,rfl⟩:=ry;obtain⟨its,r,pl,hz⟩:=I.list hq;obtain⟨j,h1,h2,h3,h4,h5⟩:=ziQ he;obtain⟨w,ew,rw'⟩:=r.get h2;have hl:=r.length;have hn:=zfQ;have fin:EP X pins M Q w s:=⟨z,H,I,rw',q⟩
 by_cases h0:0<=i
 . have hj:i.toNat=j:=by
     rw[EG h0 h5] at h1;exact Ay h1
   exact item_listR pl.isList h0 (by omega) (by rw[hj];simpa using ew) fin hs
 . have hj:(i+(its.toArray.size:Int)).toNat=j:=by
     rw[Es (by omega) h4] at h1;rw[Au,<-hl];exact Ay h1
   exact DP (x:=w) pl.isList.typeIs slot_list_getitem.lookup
     (wpAny_getItem_list_neg (Q:=fun r s'=>r=w/\EP X pins M Q r s') pl.isList (by omega) (by rw[Au] <;> omega) (by omega) (by rw[hj];simpa using ew) ⟨rfl,fin⟩) hs
def zaN:IxR X (rIxT X.K):=by
 intro value slice pins s M H x y v u Q I rx ry h hs;obtain⟨p,xs,i,z,rfl,rfl,hq,he,q⟩:=h;cases rx;obtain⟨t,rfl⟩:=ry;obtain⟨its,r,pl,hz⟩:=I.tuple hq;obtain⟨j,h1,h2,h3,h4,h5⟩:=ziQ he;obtain⟨w,ew,rw'⟩:=r.get h2;have hl:=r.length;have hn:=zfQ;have fin:EP X pins M Q w s:=⟨z,H,I,rw',q⟩
 exact DP (x:=w) pl.typeIs slot_tuple_getitem.lookup
   (getItem_tuple (j:=j) (Q:=fun r s'=>r=w/\EP X pins M Q r s') pl (by omega) (by omega) (by rw[Au,<-hl];exact h1) (by simpa using ew) ⟨rfl,fin⟩) hs
def zii:IxR X rIxS:=by
 intro value slice pins s M H x y v u Q I rx ry h hs;obtain⟨z,i,c,rfl,rfl,hz,he,q⟩:=h;obtain⟨t,rfl⟩:=rx;obtain⟨t',rfl⟩:=ry;obtain⟨j,h1,h2,h3,h4,h5⟩:=ziQ he;have hl:z.cps.toList.length=z.length:=by simp[Str.length]
 rw[hl] at h1 h4 h5;have hn:=zfQ;exact tail_any (ET s z t) slot_str_getitem.lookup (getItem_str (c:=c) (by
   have e1:decide (i < -(2 ^ 63:Int))=false:=decide_eq_false (by omega);have e2:decide (i ≥ 2 ^ 63)=false:=decide_eq_false (by omega);rw[e1,e2,Bool.or_false]) (by rw[h1];simpa using h2) ⟨.str ⟨#[c]⟩,H,I.tok _,⟨_,rfl⟩,q⟩) hs
def zh8(its:List Value)(n j:Nat)(u:Value):Bl (·.setIfInBounds j u) { cls:=.type "list",data:=.seq its.toArray n }={ cls:=.type "list",data:=.seq (its.set j u).toArray n }:=by simp[Bl]
def Inv.lst{pins:List (Addr×Obj)}{M:St}{H:Hp}{s:Shared}{p:Addr}{xs:List V}(I:Inv X pins M H s)(h:H p=some (.lst xs)) :
   ∃ (its:List Value) (n:Nat),Vals xs its/\s.heap.get? p=some { cls:=.type "list",data:=.seq its.toArray n }/\xs.length<=sizeLine:=by
 obtain⟨z,its,n,r,e⟩:=I.hok p _ h;exact⟨its,n,r,e,z⟩
def Inv.lstUpd{n':Nat}{f:Obj->Obj}(I:Inv X pins M H s)(h:H p=some (.lst xs))
   (ho:s.heap.get? p=some { cls:=.type "list",data:=.seq its.toArray n }) (hf:f { cls:=.type "list",data:=.seq its.toArray n }={ cls:=.type "list",data:=.seq its'.toArray n' }) (r:Vals ys its') (hz:ys.length<=sizeLine) (t:Nat) :
   Inv X pins M (upd H p<|.lst ys) { s with heap:=s.heap.update p f,toks:=t }:=by
 have e:(s.heap.update p f).get? p=some { cls:=.type "list",data:=.seq its'.toArray n' }:=by rw[B5 f ho (by rw[hf] <;> rfl),hf]
 refine I.write (x:=p) (e:=p) (by rw[h];trivial) (.inl rfl) (fun b u hb q=>(DQ _ _<|Bo hb).trans q) ⟨_,e⟩ ?_;exact⟨hz,its',n',r,e⟩
def zrb:V->V->V->Hp->(Hp->Prop)->Prop:=fun o i v H Q=>∃ p xs k j,o=.ref p/\i=.int k/\H p=some (.lst xs)/\ixN xs.length k=some j/\Q (upd H p<|.lst<|xs.set j v)
def set_list:PSet X zrb:=by
 intro pins s M H o i v ov iv u Q I ro ri rv h;obtain⟨p,xs,k,j,rfl,rfl,hp,hj,q⟩:=h;cases ro;obtain⟨t,rfl⟩:=ri;obtain⟨its,n,r,ho,hz⟩:=I.lst hp;obtain⟨h1,h2,h3,h4⟩:=zkB hj;have hl:=r.length;have hn:=zfQ;have I':Inv X pins M (upd H p<|.lst<|xs.set j v) { s with heap:=s.heap.update p (Bl (·.setIfInBounds j u)) } :=
   I.lstUpd hp ho (zh8 its n j u) (r.set rv j) (by rw[BI];exact hz) s.toks
 by_cases h0:0<=k
 . have hk:k.toNat=j:=by
     rw[EG h0 h4] at h1;exact Ay h1
   exact PySem.W.ki_setAt ho h0 (by omega) (by rw[Au,<-hl];exact h4) (by rw[hk];exact⟨_,I',q⟩)
 . have hk:(k+(its.toArray.size:Int)).toNat=j:=by
     rw[Es (by omega) h3] at h1;rw[Au,<-hl];exact Ay h1
   exact PySem.W.ki_setBack ho (by omega) (by rw[Au,<-hl];exact h3) (by omega) (by rw[hk];exact⟨_,I',q⟩)
def zfA(lo hi:Option Int)(n:Nat):(sliceBounds lo hi none n).1=((HT.sIx n 0 lo:Nat):Int)/\(sliceBounds lo hi none n).2.1=((HT.sIx n n hi:Nat):Int)/\(sliceBounds lo hi none n).2.2=1:=by
 refine⟨?_,?_,rfl⟩
 . cases lo with
   | none=>simp[sliceBounds,HT.sIx]
   | some i =>
     simp only[sliceBounds,HT.sIx,EK,show (1:Int) > 0 by decide,if_true]
     by_cases h:i < 0
     . simp only[h,if_true] <;> omega
     simp only[h,if_false] <;> omega
 . cases hi with
   | none=>simp[sliceBounds,HT.sIx]
   | some i =>
     simp only[sliceBounds,HT.sIx,EK,show (1:Int) > 0 by decide,if_true]
     by_cases h:i < 0
     . simp only[h,if_true] <;> omega
     simp only[h,if_false] <;> omega
def zeW(its:List Value)(lo hi:Option Int):slicePick its.toArray lo hi none=((its.drop<|HT.sIx its.length 0 lo).take<|HT.sIx its.length its.length hi - HT.sIx its.length 0 lo).toArray:=by obtain⟨h1,h2,h3⟩:=zfA lo hi its.toArray.size;unfold slicePick;rw[h1,h2,h3];simp only[sliceRange_one,pick_run,Au] <;> rfl
def rSlL(K:Ab):V->Option Int->Option Int->Hp->VK->Prop:=fun x lo hi H Q=>∃ a xs,x=.ref a/\SqL K H a xs/\∀ p,H p=none->Q (.ref p) (upd H p<|.lst<|cutV xs lo hi)
def zkl:SlR X (rSlL X.K):=by intro pins s M H x v vl vu lo hi sl Q I rx hs pl pu h;obtain⟨a,xs,rfl,hx,q⟩:=h;cases rx;obtain⟨its,r,ht,hz⟩:=I.list hx;have hlen:=r.length;refine⟨"list",_,slot_list_getitem.lookup,ht.isList.typeIs,?_⟩;refine wpAny_getItem_list_slice ht.isList hs pl pu .none (by simp) ?_ (by rw[Au] <;> omega);rw[zeW,<-hlen];refine⟨.ref s.heap.objs.size,_,I.laid (t':=s.toks) (o:=.lst (cutV xs lo hi)) (fun b ob q=>Ad _ q) (Af _) ?_,rfl,q _<|I.hok.fresh<|Af _⟩;exact⟨AC (zea xs lo hi) hz,_,0,(r.drop<|HT.sIx xs.length 0 lo).take<|HT.sIx xs.length xs.length hi - HT.sIx xs.length 0 lo,Am _ rfl⟩
def zcu:zi0 X (.builtin "len") (fun xs H Q=>∃ p ys,xs=[.ref p]/\(SqL X.K H p ys\/SqT X.K H p ys)/\Q (.int ys.length) H):=by
 intro pins s M H xs us Q I r h;obtain⟨p,ys,rfl,hq,q⟩:=h;obtain⟨u,rfl,rx⟩:=vals1 r;cases rx;have hn:=zfQ
 rcases hq with hq | hq
 . obtain⟨its,r',pl,hz⟩:=I.list hq;have hlen:=r'.length;exact Calls.call_len_list pl.isList (by simp only[Au] <;> omega) ⟨.int ys.length,H,I.tok _,⟨s.toks+1,by rw[Au,hlen]⟩,q⟩
 obtain⟨its,r',pl,hz⟩:=I.tuple hq;have hlen:=r'.length;exact len_tuple pl (by simp only[Au] <;> omega) ⟨.int ys.length,H,I.tok _,⟨s.toks+1,by rw[Au,hlen]⟩,q⟩
def zfY:zi0 X (.builtin "len") (fun xs H Q=>∃ z,xs=[.str z]/\z.length<=sizeLine/\Q (.int z.length) H):=by intro pins s M H xs us Q I r h;obtain⟨z,rfl,hz,q⟩:=h;obtain⟨u,rfl,t,rfl⟩:=vals1 r;have hn:=zfQ;exact len_str (by omega) ⟨.int z.length,H,I.tok _,⟨_,rfl⟩,q⟩
def zct:zi0 X (.type "list") (fun xs H Q=>∃ p ys,xs=[.ref p]/\(SqL X.K H p ys\/SqT X.K H p ys)/\∀ l,H l=none->Q (.ref l) (upd H l<|.lst ys)):=by
 intro pins s M H xs us Q I r h;obtain⟨p,ys,rfl,hq,q⟩:=h;obtain⟨u,rfl,rx⟩:=vals1 r;cases rx;have fin:∀ (its:List Value),Vals ys its->ys.length<=sizeLine->∀ (h':Heap) (c':Nat),(∀ b o',s.heap.get? b=some o'->h'.get? b=some o') ->
     h'.get? s.heap.objs.size=some { cls:=.type "list",dict:=none,data:=.seq its.toArray c',slots:=#[] }->EP X pins M Q (.ref s.heap.objs.size) { s with heap:=h' }:=fun its r' hz h' c' kp e =>
   ⟨.ref s.heap.objs.size,_,I.laid (t':=s.toks) kp (Af _) (show zcx X.prog X.w _ h' _ (.lst ys) from ⟨hz,its,c',r',e⟩),rfl,q _<|I.hok.fresh<|Af _⟩
 rcases hq with hq | hq
 . obtain⟨its,r',pl,hz⟩:=I.list hq;have hlen:=r'.length;obtain⟨o,ho,hc,n,hd⟩:=pl.isList;exact call_list_seq p (.inl rfl) ho hc hd (fun h' c' kp e=>fin its r' hz h' c' kp e) (by simp only[Au] <;> omega)
 obtain⟨its,r',pl,hz⟩:=I.tuple hq;have hlen:=r'.length;obtain⟨o,ho,hc,n,hd⟩:=pl;exact call_list_seq p (.inr rfl) ho hc hd (fun h' c' kp e=>fin its r' hz h' c' kp e) (by simp only[Au] <;> omega)
def zdd:zi0 X (.type "tuple") (fun xs H Q=>∃ p ys,xs=[.ref p]/\((SqL X.K H p ys/\∀ l,H l=none->Q (.ref l) (upd H l<|.tup ys))\/(SqT X.K H p ys/\Q (.ref p) H))):=by
 intro pins s M H xs us Q I r h;obtain⟨p,ys,rfl,h⟩:=h;obtain⟨u,rfl,rx⟩:=vals1 r;cases rx
 rcases h with ⟨hq,q⟩ | ⟨hq,q⟩
 . obtain⟨its,r',pl,hz⟩:=I.list hq;have hlen:=r'.length;refine call_tuple_list pl.isList (fun h' kp=>?_) (by simp only[Au] <;> omega);have I1:Inv X pins M H { s with heap:=h' }:=I.kept (t':=s.toks) kp;have I2:Inv X pins M (upd H h'.objs.size<|.tup ys) { s with heap:=h'.push { cls:=.type "tuple",data:=.seq its.toArray } } :=
     I1.laid (t':=s.toks) (fun b o e=>Ad _ e) (Af _) (show zcx X.prog X.w _ _ _ (.tup ys) from ⟨hz,its,r',zcy.new _ _⟩)
   exact⟨.ref h'.objs.size,_,I2,rfl,q _<|I1.hok.fresh<|Af _⟩
 obtain⟨its,r',pl,hz⟩:=I.tuple hq;exact call_tuple_same pl ⟨.ref p,H,I,rfl,q⟩
def tyV(K:Ab)(T:String)(x:V)(H:Hp):Prop:=match x with
 | .str _=>T="str"
 | .int _=>T="int"
 | .ref p=>(T="list"/\∃ xs,SqL K H p xs)\/(T="tuple"/\∃ o,K.lookup p=some o/\o.cls=.type "tuple"/\o.dict=none) \/
     (T="dict"/\((∃ kvs,H p=some (.dK kvs))\/∃ kvs,H p=some (.dT kvs)))\/(T="set"/\∃ S n,H p=some (.set S n))
 | _=>False
def zoQ{v:Value}(I:Inv X pins M H s)(r:RelV x v)(ty:tyV X.K T x H) :
   s.TypeIs v T/\∀ a,v=.ref a->∃ ob,s.heap.get? a=some ob/\ob.dict=none:=by
 cases x with
 | str z =>
   obtain⟨t,rfl⟩:=r
   cases (show T="str" from ty)
   exact⟨ET s z t,fun _ e=>nomatch e⟩
 | int i =>
   obtain⟨t,rfl⟩:=r
   cases (show T="int" from ty)
   exact⟨typeIs_int s i t,fun _ e=>nomatch e⟩
 | ref p =>
   cases r
   rcases ty with ⟨rfl,xs,hq⟩ | ⟨rfl,o,hk,hc,hd⟩ | ⟨rfl,hk⟩ | ⟨rfl,S,n,hk⟩
   . obtain⟨its,_,pl,_⟩:=I.list hq;refine⟨pl.isList.typeIs,fun a e=>?_⟩;cases e;obtain⟨o,n,e,c,hd,_⟩:=pl;exact⟨o,e,hd⟩
   . refine⟨⟨o,I.kIn p o hk,hc⟩,fun a e=>?_⟩;cases e;exact⟨o,I.kIn _ o hk,hd⟩
   . have z:∃ o,s.heap.get? p=some o/\o.ExactDict:=by
       rcases hk with ⟨kvs,hk⟩ | ⟨kvs,hk⟩
       . obtain⟨_,_,_,_,o,_,_,e,ex,_⟩:=I.hok p _ hk;exact⟨o,e,ex⟩
       obtain⟨_,_,_,_,o,_,_,e,ex,_⟩:=I.hok p _ hk;exact⟨o,e,ex⟩
     obtain⟨o,e,ex⟩:=z;refine⟨⟨o,e,ex.1⟩,fun a e2=>?_⟩;cases e2;exact⟨o,e,ex.2.1⟩
   obtain⟨o,_,_,_,e,ex,_⟩:=I.hok p _ hk;refine⟨⟨o,e,ex.1⟩,fun a e2=>?_⟩;cases e2;exact⟨o,e,ex.2.1⟩
 | _=>exact False.elim ty
def tBM(K:Ab)(T:String)(r:V->List V->Hp->VK->Prop)(to:TE)(t:TA):TE:=fun M H Q=>to M H fun x H1=>tyV K T x H1/\t M H1 fun xs H2=>r x xs H2 Q
variable {o:Expr} {es:List Expr} {to:TE} {t:TA} {name:Str} {apos cpos:Pos} {id:String} {r:V->List V->Hp->VK->Prop}
def zrh(pa:PlainAttrs T)(slot:Slot T name id)(hty:typeOf (.builtin id)=pure (.type "method_descriptor"))(hm:MtR X id r)(ho:PE X o to)(ha:PA X (e::es) t)
   (hbase:attributeBase o name X.env (eval o X.env)=eval o X.env:=by rfl)
   (hfew:((backTo cpos<|starEach (e::es) X.env).all (fun x=>!x.1)&&(backToKw cpos<|keywordEach [] X.env).all (fun x=>x.1.isSome)
    &&decide ((e::es).length+([]:List Keyword).length+(if ([]:List Keyword).isEmpty then 0 else 1) < 30))=true:=by rfl)
   (hline:(apos.endLine==cpos.line)=true:=by rfl) (hs:starEach (e::es) X.env=(false,eval e X.env)::starEach es X.env:=by rfl) (hplain:(backTo cpos<|starEach es X.env).any (·.1)=false:=by rfl) :
   PE X (.Call (.Attribute o name apos) (e::es) [] cpos) (tBM X.K T r to t):=by
 intro pins s M H Q I h;refine wpAny_Call_method_late hbase hfew hline rfl<|thn (ho pins s M H _ I h) ?_;rintro v s1 ⟨x,H1,I1,r1,ty,q1⟩;obtain⟨h1,h2⟩:=zoQ I1 r1 ty;refine⟨T,id,pa,slot,hty,h1,h2,?_⟩;have hA:=ha cpos pins s1 M H1 _ I1 q1;rw[hs] at hA ⊢;refine DN (by show (false || (backTo cpos<|starEach es X.env).any (·.1))=false;rw[hplain] <;> rfl)<|D5 ?_;exact thn hA fun us s2 ⟨vs,H2,I2,r2,q2⟩=>hm pins s2 M H2 x vs v us Q I2 r1 r2 q2
end
def MtM(X:Cx)(id:String)(r:V->List V->Hp->VK->Prop):Prop :=
 ∀ (pins:List (Addr×Obj)) (s:Shared) (M:St) (H:Hp) (x:V) (xs:List V) (v:Value) (us:List Value) (Q:VK),Inv X pins M H s->RelV x v->Vals xs us->r x xs H Q ->
   wpAny (model X.prog X.w) X.A (call (.builtin id) (v::us)) (EP X pins M Q) X.xe s
def Vals.one:∀ {x:V} {us:List Value},Vals [x] us->∃ u,us=[u]/\RelV x u
 | _,_,.cons r .nil=>⟨_,rfl,r⟩
def Vals.two{y:V}(h:Vals [x,y] us):∃ u v,us=[u,v]/\RelV x u/\RelV y v:=by
 cases h with
 | cons r t =>
   cases t with
   | cons q t =>
     cases t;exact⟨_,_,rfl,r,q⟩
variable {t':Nat}
section
variable {l b:Addr} {zs:List V}
def Inv.lset{f:Array Value->Array Value}(I:Inv X pins M H s)(hH:H l=some (.lst xs))
   (e:s.heap.get? l=some { cls:=.type "list",data:=.seq its.toArray n }) (hf:f its.toArray=its'.toArray) (hv:Vals ys its') (hz:ys.length<=sizeLine) :
   Inv X pins M (upd H l<|.lst ys) { s with heap:=s.heap.update l (Bl f),toks:=t' }:=by
 have q:=PySem.IsL.update e f;rw[hf] at q;refine I.write (x:=l) (e:=l) (by rw[hH];exact trivial) (.inl rfl) (fun b' u hb hu=>(DQ s.heap (Bl f)<|Bo hb).trans hu) ⟨_,q⟩ ?_;exact⟨hz,its',_,hv,q⟩
def Inv.lnew(I:Inv X pins M H s)(hv:Vals ys its)(hz:ys.length<=sizeLine) :
   Inv X pins M (upd H s.heap.objs.size<|.lst ys) { s with heap:=s.heap.push { cls:=.type "list",data:=.seq its.toArray },toks:=t' } :=
 I.laid (fun _ _ q=>Ad _ q) (Af _) ⟨hz,its,0,hv,Am _ rfl⟩
def Inv.fresh(I:Inv X pins M H s):H s.heap.objs.size=none:=I.hok.fresh<|Af _
def Inv.lstM(I:Inv X pins M H s)(hH:H l=some (.lst xs)):xs.length<=sizeLine/\∃ (its:List Value) (n:Nat),Vals xs its/\xs.length=its.length/\s.heap.get? l=some { cls:=.type "list",data:=.seq its.toArray n }:=by obtain⟨z,its,n,r,e⟩:=I.hok l _ hH;exact⟨z,its,n,r,r.length,e⟩
end
def znm:V->List V->Hp->VK->Prop:=fun x vs H Q=>∃ l xs y,x=.ref l/\vs=[y]/\H l=some (.lst xs)/\xs.length < sizeLine/\Q .non (upd H l<|.lst<|xs++[y])
def zgo:MtM X "list.append" znm:=by intro pins s M H x vs v us Q I rx rv h;obtain⟨l,xs,y,rfl,rfl,hH,hz,q⟩:=h;cases rx;obtain⟨u,rfl,ru⟩:=rv.one;obtain⟨z,its,n,r,hl,e⟩:=I.lstM hH;refine Dp F.slot_list_append ⟨_,e,rfl⟩ F.entry_list_append (F.args_list_append_2 _ _) (PySem.list_append l its.toArray n u (by rw[Au];omega)) ⟨e,?_⟩;refine⟨.non,_,I.lset (its':=its++[u]) hH e (by simp) (r.append<|.cons ru .nil) ?_,rfl,q⟩;rw[AZ,CG];omega
def rCat:R2:=fun x y H Q=>∃ l b xs zs,x=.ref l/\y=.ref b/\H l=some (.lst xs)/\H b=some (.lst zs)/\xs.length+zs.length<=sizeLine/\∀ p,H p=none->Q (.ref p) (upd H p<|.lst<|xs++zs)
def zpL:OpR X (binaryOp .Add) rCat:=by
 intro pins s M H x y v u Q I rx ry h;obtain⟨l,b,xs,zs,rfl,rfl,hH,hB,hz,q⟩:=h;cases rx;cases ry;obtain⟨z,its,n,r,hl,e⟩:=I.lstM hH;obtain⟨z2,its2,n2,r2,hl2,e2⟩:=I.lstM hB;refine PySem.P.add_list e e2 ?_ (by rw[Au,Au];omega);have ea:its.toArray++its2.toArray=(its++its2).toArray:=by simp
 rw[ea];exact⟨.ref _,_,I.lnew (t':=s.toks) (r.append r2) (by rw[AZ];omega),rfl,q _ I.fresh⟩
section
variable {prog:Program} {w:World} {A:Around} {E:Value->Shared->Prop}
set_option maxRecDepth 100000 in
end
end L2
namespace Att
open PySem PySem.W PySem.Calls PyProof.Rows
def zdV{P:Params}{h:Heap}:∀ (ns:List Int) (vs:List Value),WellAll P h vs (ns.map WData.int)->IntsAre vs ns:=by
 intro ns
 induction ns with
 | nil =>
   intro vs w;rw[BD] at w;cases w;exact .nil
 | cons n ns ih =>
   intro vs w;rw[Aw] at w
   cases w with
   | cons a b =>
     cases a;exact .cons _ _<|ih _ b
def zjm{l:OpenLaw}{n:Nat}(hn:l.most=some n){P:Params}{h:Heap}{args:List WData}{vals:List Value}
   (hpre:l.row.toRowW.claim.pre args=true) (hwl:WellAll P h vals args) :
   ∃ a vs ns,vals=[AH a]/\args=[WData.list (ns.map WData.int)]/\h.get? a=some { cls:=.type "list",data:=.seq vs.toArray }/\IntsAre vs ns/\ns.length<=n:=by
 have hsh:WShape.hasAll [] args [.list .int]=true:=(pre_splitW hpre).1;have hc:l.pre.holds [] { args:=args }=true:=(pre_splitW hpre).2;obtain⟨d,r,rfl,h1,h2⟩:=hasAllW_cons hsh;obtain rfl:=hasAllW_nil h2;obtain⟨xs,rfl,h3⟩:=hasW_list h1;obtain⟨ns,rfl⟩:=items_int h3;have hlen:ns.length<=n:=by
   unfold OpenLaw.pre at hc;have h4:(WTm.not<|.lt (.lit<|.int (n:Int))<|.len<|.arg 0).holds [] { args:=[.list (ns.map .int)] }=true:=by have h4:=(holds_andW hc).1;rw[hn] at h4;exact h4
   have h5:=condW_of h4<|w_not<|w_lt w_lit<|w_len_list<|w_arg rfl;rw[Ag] at h5;refine Nat.le_of_not_lt fun q=>?_;have q':(n:Int) < ((ns.length:Nat):Int):=by omega
   first
     | (rw[decide_eq_true q'] at h5;exact absurd h5 (by decide))
     | (simp at h5;omega)
 cases hwl with
 | cons w1 w2 =>
   cases w2
   cases w1 with
   | list ho hall=>exact⟨_,_,ns,rfl,rfl,ho,zdV ns _ hall,hlen⟩
def zjv(l:OpenLaw)(args:List WData):l.row.toRowW.claim.post args (.bool true) args=true :=
 postW_of (r:=l.row.toRowW) (X:=(true==true))
   (show WShape.has [] (.bool true) .bool=true by first | rfl | decide | simp[WShape.has,WShape.arms,WShape.armsAll])
   (show (WTm.eq .res<|.lit<|.bool true).value [] { args:=args,res:=some (.bool true),after:=args }=some (.bool<|true==true) from w_eq_bool (w_res rfl) w_lit) rfl
def attach_call{l:OpenLaw}{n:Nat}{q:Program}{loose:List Str}{XP:(Str->Option Value)->Heap->Prop}{YP:World->Heap->Prop}{d:DefRec}
   (hn:l.most=some n) (hdf:d.params.defaults=[])
   (call:∀ (w:World) (s₀ s₁:Shared) (mg mb:Str->Option Value) (fa:Addr) (o:Obj) (pm cd doc:Value) (a:Addr) (vs:List Value) (ns:List Int),
     Ground q loose [] XP w s₀ mg mb s₁.heap->YP w s₁.heap ->
     s₁.heap.get? fa=some o->o.data=.func (docDef d.name d.params d.body d.scope pm cd doc)->s₁.heap.CodeRec cd d.name->mg d.name=some (.ref fa) ->
     s₁.heap.get? a=some { cls:=.type "list",data:=.seq vs.toArray }->IntsAre vs ns->ns.length<=n->s₁.gens=#[] ->
     codeAny (model l.prog w) callerA (.call (.ref fa) ⟨[.ref a],[]⟩) (fun r s'=>r=.ok (.ret<|.bool true)/\OldK s₁.heap s'.heap/\s'.os=s₁.os/\AllBare s'.gens) s₁) :
   WalkO q loose XP YP l.row.toRowW d [] (fun f vs=>EU f vs):=by
 intro w s₀ s₁ mg mb G Y fa o pm cd doc dV kV ho hd hcd hD hmg hg args vals as hpre hlay hrd hwl hlo;obtain rfl:dV=.none:=Dflts.none hD hdf;obtain rfl:kV=.none:=Dflts.noKw hD;obtain⟨a,vs,ns,rfl,rfl,hobj,hints,hlen⟩:=zjm hn hpre hwl;refine enter_call<|Em (call w s₀ s₁ mg mb fa o pm cd doc a vs ns G Y ho (fd_plain hd) hcd hmg hobj hints hlen hg) fun r s' hq=>?_;obtain⟨rfl,h2,h3,h4⟩:=hq;exact⟨.inl ⟨.bool true,.bool true,[],rfl,fun _=>rfl,.bool true,zjv l _,fun _=>⟨Cq,fun _ hm=>(nomatch hm)⟩⟩,h2,h3,h4⟩
end Att
namespace L2
open PySem PySem.Spec PyProof.Rows
def zf2:∀ {vs:List Value} {ns:List Int},IntsAre vs ns->Vals (ns.map V.int) vs
 | _,_,.nil=>.nil
 | _,_,.cons n t h=>.cons ⟨t,rfl⟩<|zf2 h
def Only(H:Hp):Prop:=∀ b,H b=none\/∃ o xs,H b=some (.frz o<|.lst xs)
variable {P:Program}{w:World}{K:Ab}{mg:Str->Option Value}{k:Nat}{fd:FuncData}{x:Str}{sp:Sp}
def zl7{mb:Str->Option Value}{CX:CXT}{fa a:Addr}{x:Str}{s₁:Shared}{vs:List Value}{ns:List Int}
   (KX:K.In s₁.heap) (hns:s₁.heap.Ns mainGlobals mg) (hb:s₁.heap.Ns builtinsNs mb) (hbb:∀ x:Str,x≠"__name__"->mb x=bootBuiltins x) (hlim:s₁.heap.NoLimit) (hg:s₁.gens=#[])
   (ha:s₁.heap.get? a=some { cls:=.type "list",data:=.seq vs.toArray }) (hi:IntsAre vs ns) (hl:ns.length<=sizeLine) (hr:Room k callerA)
   (F:∀ base:Heap,K.In base->base.Ns mainGlobals mg->FnOk P w K mg base CX k fa fd [x] sp) (hbind:∀ (s:Shared) (u:Value),BindsTo s fd ⟨[u],[]⟩ [(x,u)])
   (hsp:∀ H:Hp,Only H->SqL K H a (ns.map V.int)->sp [.ref a] H (fun v _=>v=.bl true) fun _ _ _=>False)
   (hCX:∀ H e s',CX [] H s₁ (fun _ _ _=>False) e s'->False) :
   codeAny (model P w) callerA (.call (.ref fa) ⟨[.ref a],[]⟩) (fun r s'=>r=.ok (.ret (.bool true))/\OldK s₁.heap s'.heap/\s'.os=s₁.os/\AllBare s'.gens) s₁:=by
 have rv:=zf2 hi;have lenV:=hi.length
 -- from an abstract heap in which nothing but the script may be tracked
 have core:∀ H:Hp,Only H->SqL K H a (ns.map V.int)->HOk P w H s₁.heap->(∀ b,H b≠none->b=a)->(H a≠none->K.lookup a=none) ->
     codeAny (model P w) callerA (.call (.ref fa) ⟨[.ref a],[]⟩) (fun r s'=>r=.ok (.ret (.bool true))/\OldK s₁.heap s'.heap/\s'.os=s₁.os/\AllBare s'.gens) s₁:=by
   intro H hO hS hok hA hK;have base_of:∀ {b:Addr} {o:Obj},s₁.heap.get? b=some o->H b=none->(hidT s₁.heap H).get? b=some o:=fun e n=>zmf e n;have noA:∀ {b:Addr} {o:Obj} {es:Array DictEntry} {ep:Nat},s₁.heap.get? b=some o->o.data=.dict es ep->H b=none:=fun {b o es ep} e d=>by
     cases q:H b with
     | none=>rfl
     | some u =>
       have e':b=a:=hA b (by rw[q];simp);subst e';rw[ha] at e;cases e;have d':Data.seq vs.toArray _=Data.dict es ep:=d;cases d'
   have nsK:∀ {b:Addr} {m:Str->Option Value},s₁.heap.Ns b m->(hidT s₁.heap H).Ns b m:=fun {b m} ⟨o,es,ep,e,d,r⟩=>⟨o,es,ep,base_of e (noA e d),d,r⟩
   have hKb:K.In (hidT s₁.heap H):=fun b o e=>base_of (KX b o e) (by
     cases q:H b with
     | none=>rfl
     | some u =>
       have e':b=a:=hA b (by rw[q];simp);subst e';rw[hK (by rw[q];simp)] at e;cases e)
   have hM:Mod K mg (hidT s₁.heap H):=⟨hKb,nsK hns,⟨mb,nsK hb,hbb⟩,let ⟨mc,h1,h2⟩:=hlim;⟨mc,nsK h1,h2⟩⟩
   have e0:Env0 P w K mg (hidT s₁.heap H) callerA [] s₁ H:=⟨rfl,hM,fun b o e=>znL e,Nat.le_of_eq (zjW _ _),trivial,fun b hb=>absurd (show b∈([]:List Addr) from hb) (by simp),hok,.of_eq hg⟩
   refine Em ((F _ hKb (nsK hns)).run callerA [] s₁ H ⟨[.ref a],[]⟩ [.ref a] [.ref a] _ _ hr e0 (hbind s₁ (.ref a)) (.cons rfl .nil) (hsp H hO hS)) fun r s' h=>?_
   cases r with
   | error e=>exact (hCX H e s' h).elim
   | ok fl =>
     cases fl with
     | next=>exact False.elim h
     | brk=>exact False.elim h
     | cont=>exact False.elim h
     | ret u =>
       obtain⟨v,H',os,bare,un,hok',r',q⟩:=h;have q':v=.bl true:=q;subst q';obtain rfl:u=CI true:=r';refine⟨rfl,OldK.of_keep fun b o e=>?_,os,bare⟩
       cases q:H b with
       | none=>exact un.keep b o e q (by intro z;exact absurd (show b∈([]:List Addr) from z) (by simp)) (by simp)
       | some u =>
         rcases hO b with z | ⟨ob,xs,z⟩
         . rw[q] at z;cases z
         have z2:=un.frzs b ob _ z;obtain⟨e1,_⟩:=hok b _ z;obtain⟨e2,_⟩:=hok' b _ z2;rw[e] at e1;cases e1;exact e2
 cases hk:K.lookup a with
 | some o =>
   -- the script is one of the module's own objects
   have e:=KX a o hk;rw[ha] at e;cases e;refine core (fun _=>none) (fun _=>.inl rfl) (.inr ⟨_,vs.toArray,_,hk,rfl,rfl,rfl,by rw[Au,lenV];exact hl,by simpa using rv⟩) (fun b u z=>by have z':(none:Option HO)=some u:=z;cases z') (fun b z=>absurd rfl z) fun z=>absurd rfl z
 | none =>
   refine core (fun b=>if b=a then some (.frz { cls:=.type "list",data:=.seq vs.toArray } (.lst (ns.map V.int))) else none) (fun b=>?_) (.inl (.inr ⟨{ cls:=.type "list",data:=.seq vs.toArray },if_pos rfl⟩)) (fun b u z=>?_) (fun b z=>?_) fun _=>hk
   . by_cases hb:b=a
     . exact .inr ⟨_,_,if_pos hb⟩
     exact .inl (if_neg hb)
   . by_cases hb:b=a
     . have z':=(if_pos hb).symm.trans z;cases z';subst hb;exact⟨ha,by rw[Ag];exact hl,vs,_,rv,ha⟩
     have z':=(if_neg hb).symm.trans z;cases z'
   . by_cases hb:b=a
     . exact hb
     exact absurd (if_neg hb) z
def walk_of{l:PySem.W.OpenLaw}{n:Nat}{q:Program}{loose:List Str}{XP:(Str->Option Value)->Heap->Prop}{YP:World->Heap->Prop}{d:DefRec}{K:Params->Ab}{CX:World->CXT}{sp:World->Sp}
   (hn:l.most=some n) (hn2:n<=sizeLine) (hdf:d.params.defaults=[]) (hr:Room k callerA)
   (hY:∀ (w:World) (h:Heap),YP w h->(K w.params).In h)
   (F:∀ (w:World) (mg:Str->Option Value) (fa:Addr) (h:Heap),(K w.params).In h->h.Ns mainGlobals mg->mg d.name=some (.ref fa) ->
     ∃ fd:FuncData,(∀ (s:Shared) (u:Value),BindsTo s fd ⟨[u],[]⟩ [(x,u)]) /\
       ∀ base:Heap,(K w.params).In base->base.Ns mainGlobals mg->FnOk l.prog w (K w.params) mg base (CX w) k fa fd [x] (sp w))
   (hsp:∀ (w:World) (H:Hp) (a:Addr) (ns:List Int),ns.length<=n->Only H->SqL (K w.params) H a (ns.map V.int)->sp w [.ref a] H (fun v _=>v=.bl true) fun _ _ _=>False)
   (hCX:∀ (w:World) (H:Hp) (s:Shared) (e:Value) (s':Shared),CX w [] H s (fun _ _ _=>False) e s'->False) :
   PySem.W.WalkO q loose XP YP l.row.toRowW d [] (fun f vs=>EU f vs):=by
 refine Att.attach_call hn hdf fun w s₀ s₁ mg mb fa o pm cd doc a vs ns G Y ho hd hcd hmg hobj hints hlen hg=>?_;have KX:=hY w _ Y;obtain⟨fd,hb,hF⟩:=F w mg fa _ KX G.T.g hmg;exact zl7 KX G.T.g G.T.b G.T.builtins G.T.nolimit hg hobj hints (AC hlen hn2) hr hF hb (fun H hO hS=>hsp w H a ns hlen hO hS) fun H e s'=>hCX w H s₁ e s'
def zdc(s:Stmt):Arguments:=match s with
 | .FunctionDef _ a _ _ _ _ _ _ _ _=>a
 | _=>{ posonlyargs:=[],args:=[],vararg:=none,kwonlyargs:=[],kw_defaults:=[],kwarg:=none,defaults:=[] }
def zbK(s:Stmt):List Stmt:=match s with
 | .FunctionDef _ _ b _ _ _ _ _ _ _=>b
 | _=>[]
def zaA(s:Stmt):Scope:=match s with
 | .FunctionDef _ _ _ _ _ _ sc _ _ _=>sc
 | _=>{ kind:=.function,names:=[],isGenerator:=false,isCoroutine:=false }
noncomputable abbrev CX0:CXT:=fun _ _ _ _ _ _=>False
noncomputable abbrev E0:XK:=fun _ _ _=>False
def zrj{X:Cx}:Passes CX0 X E0:=fun _ _ _ _ _ _ _ h=>h.elim
structure Fun(K:Ab)(x qual:Str)(st:Stmt)(f:Addr)(fd:FuncData):Prop where
 ex:∃ (oc:Value) (od:Option Addr) (kV doc pm:Value) (an:Option Addr) (cdv ct:Value) (osl:Array (Option Value)),
   fd=BC x qual (zdc st) (zbK st) (zaA st) .none kV doc pm an cdv ct/\K.lookup f=some ⟨oc,od,.func fd,osl⟩/\Cn K cdv qual=true
 kp:BP K (.ref f)=true
variable {qual:Str}{st:Stmt}{f:Addr}{ps:List Str}
section
variable {base:Heap}
def Fun.ok{N:List Str}(F:Fun K x qual st f fd)(S:FnScope N ps (zaA st))(len:∀ vs H Q E,sp vs H Q E->vs.length=ps.length)
   (hbody:∀ (cdv:Value) (A:Around) (outer:List Env) (s:Shared) (H:Hp) (vs:List V) (Q:VK) (E:XK),Room k (A.deeper<|envOfC qual (zaA st) s.heap.objs.size f cdv)->sp vs H Q E ->
     ∃ t,PSs (cxOf CX0 P w K mg base N qual (zaA st) f cdv A outer s H E).nox (zbK st) t/\t { nx:=fun _ H'=>Q .non H',rt:=Q } (start N vs) H):FnOk P w K mg base CX0 (k+1) f fd ps sp:=by
 obtain⟨oc,od,kV,doc,pm,an,cdv,ct,osl,rfl,lk,hcd⟩:=F.ex;refine zrI lk hcd S len fun A outer s H vs Q E hr hsp=>?_;obtain⟨t,h,q⟩:=hbody cdv A outer s H vs Q E hr hsp;exact⟨t,h.nox,q⟩
def Fun.binds(F:Fun K x qual st f fd)
   (h:∀ (kV doc pm:Value) (an:Option Addr) (cdv ct:Value) (us:List Value),us.length=ps.length->bindArgs (BC x qual (zdc st) (zbK st) (zaA st) .none kV doc pm an cdv ct) ⟨us,[]⟩=pure (ps.zip us)):Binds K fd ps []:=by
 obtain⟨oc,od,kV,doc,pm,an,cdv,ct,osl,rfl,lk,hcd⟩:=F.ex;exact .all<|h kV doc pm an cdv ct
def zmj{x qual:Str}{st:Stmt}{oc:Value}{od an:Option Addr}{osl:Array (Option Value)}{kV doc pm cdv ct:Value}(l:K.lookup f=some ⟨oc,od,.func<|BC x qual (zdc st) (zbK st) (zaA st) .none kV doc pm an cdv ct,osl⟩)
   (c:Cn K cdv qual=true) (k:BP K (.ref f)=true):Fun K x qual st f (BC x qual (zdc st) (zbK st) (zaA st) .none kV doc pm an cdv ct):=⟨⟨oc,od,kV,doc,pm,an,cdv,ct,osl,rfl,l,c⟩,k⟩
end
def zaC{A:Around}(hr:Room k A):A.units+1 < cLine:=BZ (CY (by decide:1<=64) _) hr.units
end L2
namespace L2.MP
open PySem PySem.Spec PyProof.Rows
inductive D where
 | non | bl (b:Bool) | int (i:Int) | str (x:Str) | tup (xs:List D) | ref (n:Nat) | kl (xs:List D) | fn (x:Str)
inductive O where
 | lst (xs:List D) | fz (xs:List D) | dk (kvs:List (Key×D)) | dt (kvs:List (List Key×D)) | fk (kvs:List (Key×D)) | ft (kvs:List (List Key×D)) | ob (C:Addr) (fs:List (Str×D)) | sz (n:Nat) | dz
noncomputable abbrev Sto:=List O
noncomputable abbrev Rho:=List (Option D)
structure Kp(H H':Hp):Prop where
 tup:∀ a xs,H a=some (.tup xs)->H' a=some (.tup xs)
 frz:∀ a o u,H a=some (.frz o u)->H' a=some (.frz o u)
def SqF(K:Ab)(H:Hp)(a:Addr)(xs:List V):Prop :=
 (∃ o,H a=some (.frz o<|.lst xs))\/∃ (o:Obj) (its:Array Value) (n:Nat),K.lookup a=some o/\o.cls=.type "list"/\o.dict=none/\o.data=.seq its n/\its.size<=sizeLine/\Vals xs its.toList
variable {K:Ab}{H:Hp}{a:Addr}{xs:List V}
def SqF.sq(h:SqF K H a xs):SqL K H a xs:=by
 rcases h with h | h
 . exact .inl<|.inr h
 exact .inr h
variable {H':Hp}
def SqF.kp(T:Kp H H')(h:SqF K H a xs):SqF K H' a xs:=by
 rcases h with ⟨o,h⟩ | h
 . exact .inl ⟨o,T.frz _ _ _ h⟩
 exact .inr h
def FnA(K:Ab)(x:Str)(a:Addr):Prop:=Et K mainGlobals x=some (some<|.ref a)
mutual
def Rep(K:Ab)(H:Hp)(io:List Addr):V->D->Prop
 | v,.non=>v=.non
 | v,.bl b=>v=.bl b
 | v,.int i=>v=.int i
 | v,.str x=>v=.str x
 | v,.tup ds=>∃ a xs,v=.ref a/\H a=some (.tup xs)/\Reps K H io xs ds
 | v,.ref n=>∃ a,v=.ref a/\io[n]?=some a
 | v,.kl ds=>∃ a xs,v=.ref a/\SqF K H a xs/\Reps K H io xs ds
 | v,.fn x=>∃ a,v=.ref a/\FnA K x a
def Reps(K:Ab)(H:Hp)(io:List Addr):List V->List D->Prop
 | xs,[]=>xs=[]
 | xs,d::ds=>∃ y ys,xs=y::ys/\Rep K H io y d/\Reps K H io ys ds
end
variable {io ka:List Addr}
mutual
def Rep.mono{K:Ab}{H H':Hp}{io ka:List Addr}(T:Kp H H'):∀ {v:V} {d:D},Rep K H io v d->Rep K H' (io++ka) v d
 | _,.non,h=>h
 | _,.bl _,h=>h
 | _,.int _,h=>h
 | _,.str _,h=>h
 | _,.tup ds,h=>by obtain⟨a,xs,e,q,r⟩:=h;exact⟨a,xs,e,T.tup a xs q,Reps.mono T r⟩
 | _,.ref n,h=>by obtain⟨a,e,q⟩:=h;exact⟨a,e,by rw[Ap (List.getElem?_eq_some_iff.mp q).1];exact q⟩
 | _,.kl ds,h=>by obtain⟨a,xs,e,q,r⟩:=h;exact⟨a,xs,e,q.kp T,Reps.mono T r⟩
 | _,.fn _,h=>h
def Reps.mono{K:Ab}{H H':Hp}{io ka:List Addr}(T:Kp H H'):∀ {xs:List V} {ds:List D},Reps K H io xs ds->Reps K H' (io++ka) xs ds
 | _,[],h=>h
 | _,d::ds,h=>by obtain⟨y,ys,e,r,rs⟩:=h;exact⟨y,ys,e,Rep.mono T r,Reps.mono T rs⟩
end
variable {H1 H2:Hp}{kb:List Addr}{st st':Sto}{v:V}{d:D}{o:HO}{U:Rho}{p:Addr}{ob:O}
section
variable {ys:List V} {ds es:List D}
def Reps.length:∀ {xs:List V} {ds:List D},Reps K H io xs ds->xs.length=ds.length
 | _,[],h=>by rw[show _=[] from h];rfl
 | _,d::ds,h=>by obtain⟨y,ys,e,_,rs⟩:=h;rw[e,AB,AB,Reps.length rs]
def Reps.get:∀ {xs:List V} {ds:List D} {i:Nat} {d:D},Reps K H io xs ds->ds[i]?=some d->∃ v,xs[i]?=some v/\Rep K H io v d
 | _,[],_,_,_,e=>by simp at e
 | _,a::ds,0,d,h,e=>by
   obtain⟨y,ys,rfl,r,_⟩:=h;have e':a=d:=by simpa using e
   subst e';exact⟨y,rfl,r⟩
 | _,a::ds,i+1,d,h,e=>by obtain⟨y,ys,rfl,_,rs⟩:=h;exact Reps.get (i:=i) rs<|by simpa using e
def Reps.append:∀ {xs ys:List V} {ds es:List D},Reps K H io xs ds->Reps K H io ys es->Reps K H io (xs++ys) (ds++es)
 | _,_,[],_,h,q=>by rw[show _=[] from h];exact q
 | _,_,d::ds,_,h,q=>by obtain⟨y,ys,rfl,r,rs⟩:=h;exact⟨y,_,rfl,r,Reps.append rs q⟩
def Reps.set:∀ {xs:List V} {ds:List D} {v:V} {d:D} (i:Nat),Reps K H io xs ds->Rep K H io v d->Reps K H io (xs.set i v) (ds.set i d)
 | _,[],_,_,_,h,_=>by rw[show _=[] from h];exact rfl
 | _,a::ds,v,d,0,h,q=>by obtain⟨y,ys,rfl,_,rs⟩:=h;exact⟨v,ys,rfl,q,rs⟩
 | _,a::ds,v,d,i+1,h,q=>by obtain⟨y,ys,rfl,r,rs⟩:=h;exact⟨y,_,rfl,r,Reps.set i rs q⟩
def Reps.take:∀ {xs:List V} {ds:List D} (n:Nat),Reps K H io xs ds->Reps K H io (xs.take n) (ds.take n)
 | _,[],n,h=>by rw[show _=[] from h];simp[Reps]
 | _,_::_,0,_=>by simp[Reps]
 | _,d::ds,n+1,h=>by obtain⟨y,ys,rfl,r,rs⟩:=h;exact⟨y,_,rfl,r,Reps.take n rs⟩
def Reps.drop:∀ {xs:List V} {ds:List D} (n:Nat),Reps K H io xs ds->Reps K H io (xs.drop n) (ds.drop n)
 | _,[],n,h=>by rw[show _=[] from h];simp[Reps]
 | _,_::_,0,h=>h
 | _,d::ds,n+1,h=>by obtain⟨y,ys,rfl,r,rs⟩:=h;exact Reps.drop n rs
theorem Reps.nil:Reps K H io [] []:=rfl
def Reps.cons(r:Rep K H io v d)(rs:Reps K H io xs ds):Reps K H io (v::xs) (d::ds):=⟨v,xs,rfl,r,rs⟩
def Reps.one(r:Reps K H io xs [d]):∃ v,xs=[v]/\Rep K H io v d:=by
 obtain⟨y,ys,rfl,r,e⟩:=r
 cases (show ys=[] from e)
 exact⟨y,rfl,r⟩
def Reps.two{e:D}(r:Reps K H io xs [d,e]):∃ v u,xs=[v,u]/\Rep K H io v d/\Rep K H io u e:=by obtain⟨y,ys,rfl,r,q⟩:=r;obtain⟨v,rfl,q'⟩:=q.one;exact⟨y,v,rfl,r,q'⟩
noncomputable abbrev KR (κ:Type) (K:Ab) (H:Hp) (io:List Addr):List (κ×V)->List (κ×D)->Prop:=Paired fun (p:κ×V) (q:κ×D)=>p.1=q.1/\Rep K H io p.2 q.2
def SetZ(a:Addr)(n:Nat)(h:Heap):Prop:=∃ o es ep t,h.get? a=some o/\o.ExactSet/\o.data=.set es ep t/\es.size < scanBound/\t.fits es.size=true/\es.size=n
def DzZ(a:Addr)(h:Heap):Prop:=∃ o es ep,h.get? a=some o/\o.ExactDict/\o.data=.dict es ep
def OR(K:Ab)(H:Hp)(io:List Addr)(a:Addr):O->Prop
 | .lst ds=>∃ xs,H a=some (.lst xs)/\Reps K H io xs ds
 | .fz ds=>∃ o xs,H a=some (.frz o<|.lst xs)/\Reps K H io xs ds
 | .dk kvs=>∃ ps,H a=some (.dK ps)/\KR Key K H io ps kvs
 | .dt kvs=>∃ ps,H a=some (.dT ps)/\KR (List Key) K H io ps kvs
 | .fk kvs=>∃ o ps,H a=some (.frz o<|.dK ps)/\KR Key K H io ps kvs
 | .ft kvs=>∃ o ps,H a=some (.frz o<|.dT ps)/\KR (List Key) K H io ps kvs
 | .ob C fs=>∃ dx ps,H a=some (.ins C dx ps)/\KR Str K H io ps fs
 | .sz n=>H a=some (.ext<|SetZ a n)
 | .dz=>H a=some (.ext<|DzZ a)
structure StR(K:Ab)(H:Hp)(io:List Addr)(st:Sto):Prop where
 len:io.length=st.length
 nd:io.Nodup
 ob:∀ (n:Nat) (a:Addr) (o:O),io[n]?=some a->st[n]?=some o->OR K H io a o
structure EnvR(K:Ab)(H:Hp)(io:List Addr)(M:St)(U:Rho):Prop where
 len:M.length=U.length
 at_:∀ (i:Nat) (d:D),U[i]?=some (some d)->∃ v,M[i]?=some (some v)/\Rep K H io v d
structure Ext(io ka:List Addr)(H H':Hp):Prop where
 keep:∀ b o,H b=some o->b ∉ io->H' b=some o
 fresh:∀ b,b∈ka->H b=none
 frz:∀ b o u,H b=some (.frz o u)->H' b=some (.frz o u)
def OR.stands{o:O}(h:OR K H io a o):∃ u,H a=some u/\∀ xs,u≠.tup xs/\∀ ob,u≠.frz ob (.tup xs):=by
 cases o with
 | lst ds=>obtain⟨xs,e,_⟩:=h;exact⟨_,e,fun _=>⟨by simp,by simp⟩⟩
 | fz ds=>obtain⟨ob,xs,e,_⟩:=h;exact⟨_,e,fun _=>⟨by simp,by simp⟩⟩
 | dk kvs=>obtain⟨xs,e,_⟩:=h;exact⟨_,e,fun _=>⟨by simp,by simp⟩⟩
 | dt kvs=>obtain⟨xs,e,_⟩:=h;exact⟨_,e,fun _=>⟨by simp,by simp⟩⟩
 | fk kvs=>obtain⟨ob,xs,e,_⟩:=h;exact⟨_,e,fun _=>⟨by simp,by simp⟩⟩
 | ft kvs=>obtain⟨ob,xs,e,_⟩:=h;exact⟨_,e,fun _=>⟨by simp,by simp⟩⟩
 | ob C fs=>obtain⟨dx,xs,e,_⟩:=h;exact⟨_,e,fun _=>⟨by simp,by simp⟩⟩
 | sz n=>exact⟨_,h,fun _=>⟨by simp,by simp⟩⟩
 | dz=>exact⟨_,h,fun _=>⟨by simp,by simp⟩⟩
def StR.mem(S:StR K H io st)(h:a∈io):∃ u,H a=some u/\∀ xs,u≠.tup xs/\∀ ob,u≠.frz ob (.tup xs):=by
 obtain⟨n,hn,e⟩:=CZ h;have h1:io[n]?=some a:=by rw[Ah hn,e]
 have h2:n < st.length:=by rw[<-S.len];exact hn
 exact (S.ob n a _ h1<|Ah h2).stands
def Ext.sqT(S:StR K H io st)(E:Ext io ka H H'):∀ a xs,H a=some (.tup xs)->H' a=some (.tup xs):=by intro a xs h;refine E.keep _ _ h fun m=>?_;obtain⟨u,e,q⟩:=S.mem m;rw[h] at e;exact (q xs).1 (Ay e).symm
def Ext.kp(S:StR K H io st)(E:Ext io ka H H'):Kp H H':=⟨E.sqT S,E.frz⟩
def Ext.refl:Ext io [] H H:=⟨fun _ _ h _=>h,fun _ h=>absurd h (by simp),fun _ _ _ h=>h⟩
def Ext.trans(S1:StR K H1 (io++ka) st)(E1:Ext io ka H H1)(E2:Ext (io++ka) kb H1 H2):Ext io (ka++kb) H H2 where
 keep:=fun b o h n=>E2.keep b o (E1.keep b o h n) fun m=>by
   rcases List.mem_append.mp m with m | m
   . exact n m
   rw[E1.fresh b m] at h;cases h
 fresh:=fun b m=>by
   rcases List.mem_append.mp m with m | m
   . exact E1.fresh b m
   . have h1:=E2.fresh b m
     cases e:H b with
     | none=>rfl
     | some o =>
       by_cases hb:b∈io
       . obtain⟨u,e',_⟩:=S1.mem<|BN _ hb;rw[e'] at h1;cases h1
       rw[E1.keep b o e hb] at h1;cases h1
 frz:=fun b o u h=>E2.frz b o u (E1.frz b o u h)
def Ext.app(E:Ext io (ka++[]) H H'):Ext io ka H H':=by rw[Ao] at E;exact E
def Rep.ext(S:StR K H io st)(E:Ext io ka H H')(h:Rep K H io v d):Rep K H' (io++ka) v d:=Rep.mono (E.kp S) h
def Reps.ext(S:StR K H io st)(E:Ext io ka H H')(h:Reps K H io xs ds):Reps K H' (io++ka) xs ds:=Reps.mono (E.kp S) h
def EnvR.ext{M:St}{U:Rho}(h:EnvR K H io M U)(S:StR K H io st)(E:Ext io ka H H'):EnvR K H' (io++ka) M U :=
 ⟨h.len,fun i d e=>let ⟨v,q,r⟩:=h.at_ i d e;⟨v,q,r.ext S E⟩⟩
def EnvR.set{M:St}{U:Rho}{v:V}{d:D}(i:Nat)(h:EnvR K H io M U)(r:Rep K H io v d):EnvR K H io (M.set i<|some v) (U.set i<|some d):=by
 refine⟨by rw[BI,BI];exact h.len,fun j e q=>?_⟩
 by_cases hij:i=j
 . subst hij;rw[Dl] at q;rw[if_pos rfl] at q
   split at q
   . rename_i hl
     cases (Ay<|Ay q)
     exact⟨v,by rw[Dl,if_pos rfl,if_pos (by rw[h.len];exact hl)],r⟩
   . cases q
 rw[AA hij] at q;obtain⟨u,q',r'⟩:=h.at_ j e q;exact⟨u,by rw[AA hij];exact q',r'⟩
def StR.nil(S:StR K H io st):StR K H (io++[]) st:=by rw[Ao];exact S
def KR.mono{κ:Type}{ps:List (κ×V)}{kvs:List (κ×D)}(T:Kp H H')(h:KR κ K H io ps kvs):KR κ K H' (io++ka) ps kvs:=Paired.mapP h fun _ _ z=>⟨z.1,Rep.mono T z.2⟩
def OR.mono{a:Addr}{o:O}(T:Kp H H')(e:H' a=H a)(h:OR K H io a o):OR K H' (io++ka) a o:=by
 cases o with
 | lst ds=>obtain⟨xs,q,r⟩:=h;exact⟨xs,e.trans q,Reps.mono T r⟩
 | fz ds=>obtain⟨ob,xs,q,r⟩:=h;exact⟨ob,xs,e.trans q,Reps.mono T r⟩
 | dk kvs=>obtain⟨xs,q,r⟩:=h;exact⟨xs,e.trans q,KR.mono T r⟩
 | dt kvs=>obtain⟨xs,q,r⟩:=h;exact⟨xs,e.trans q,KR.mono T r⟩
 | fk kvs=>obtain⟨ob,xs,q,r⟩:=h;exact⟨ob,xs,e.trans q,KR.mono T r⟩
 | ft kvs=>obtain⟨ob,xs,q,r⟩:=h;exact⟨ob,xs,e.trans q,KR.mono T r⟩
 | ob C fs=>obtain⟨dx,xs,q,r⟩:=h;exact⟨dx,xs,e.trans q,KR.mono T r⟩
 | sz n=>exact e.trans h
 | dz=>exact e.trans h
def zgm(S:StR K H io st)(hp:H p=none):Ext io [] H (upd H p o)/\StR K (upd H p o) (io++[]) st:=by
 have E:Ext io [] H (upd H p o):=⟨fun b u h _=>by rw[zax (zaq h hp)];exact h,fun _ h=>absurd h (by simp),fun b u v h=>by rw[zax (zaq h hp)];exact h⟩
 refine⟨E,?_⟩;refine⟨by rw[Ao];exact S.len,by rw[Ao];exact S.nd,fun n a ob h1 h2=>?_⟩;rw[Ao] at h1;obtain⟨u,hu,_⟩:=(S.ob n a ob h1 h2).stands;exact OR.mono (E.kp S) (zax<|zaq hu hp)<|S.ob n a ob h1 h2
def ze5(S:StR K H io st)(hp:H p=none)(new:∀ H',Kp H H'->H' p=some o->OR K H' (io++[p]) p ob):Ext io [p] H (upd H p o)/\StR K (upd H p o) (io++[p]) (st++[ob]):=by
 have E:Ext io [p] H (upd H p o):=⟨fun b u h _=>by rw[zax (zaq h hp)];exact h,fun b h=>by rw[List.mem_singleton.mp h];exact hp,fun b u v h=>by rw[zax (zaq h hp)];exact h⟩
 have np:p ∉ io:=fun m=>by obtain⟨u,hu,_⟩:=S.mem m;rw[hp] at hu;cases hu
 refine⟨E,by simp[S.len],?_,fun n a ob' h1 h2=>?_⟩
 . rw[EA];refine⟨S.nd,by simp,fun a ha b hb=>?_⟩;rw[List.mem_singleton.mp hb];rintro rfl;exact np ha
 . by_cases hn:n < io.length
   . rw[Ap hn] at h1;rw[Ap (by rw[<-S.len];exact hn)] at h2;obtain⟨u,hu,_⟩:=(S.ob n a ob' h1 h2).stands;exact OR.mono (E.kp S) (zax<|zaq hu hp)<|S.ob n a ob' h1 h2
   . have hl:n < (io++[p]).length:=(List.getElem?_eq_some_iff.mp h1).1;rw[AZ,CG] at hl;have e:n=io.length:=by omega
     subst e;rw[AE (Af _),B6] at h1;rw[S.len,AE (Af _),B6] at h2
     cases (Ay h1)
     cases (Ay h2)
     exact new _ (E.kp S) zbg
def zfE{n:Nat}{o:HO}{old:O}(S:StR K H io st)(hn:io[n]?=some p)(ho:st[n]?=some old)(nf:∀ o u,H p≠some (.frz o u))(new:∀ H',Kp H H'->H' p=some o->OR K H' (io++[]) p ob):Ext io [] H (upd H p o)/\StR K (upd H p o) (io++[]) (st.set n ob):=by
 have hp:p∈io:=AG hn;have E:Ext io [] H (upd H p o):=⟨fun b u h nb=>by rw[zax (fun e=>nb (by rw[e];exact hp))];exact h,fun b h=>absurd h (by simp),fun b u v h=>by
   by_cases hb:b=p
   . subst hb;exact absurd h<|nf u v
   rw[zax hb];exact h⟩
 refine⟨E,by simp[S.len],by rw[Ao];exact S.nd,fun m a ob' h1 h2=>?_⟩;rw[Ao] at h1
 by_cases hm:m=n
 . subst hm;rw[hn] at h1
   cases (Ay h1)
   rw[Dl,if_pos rfl] at h2
   split at h2
   . cases (Ay h2)
     exact new _ (E.kp S) zbg
   . cases h2
 . rw[AA (fun e=>hm e.symm)] at h2;have hap:a≠p:=fun e=>by
     subst e;exact hm<|(List.getElem?_inj (List.getElem?_eq_some_iff.mp h1).1 S.nd).mp<|h1.trans hn.symm
   exact OR.mono (E.kp S) (zax hap)<|S.ob m a ob' h1 h2
end
noncomputable abbrev ME:=Rho->Sto->Option (D×Sto)
noncomputable abbrev MT:=Rho->Sto->Option (Bool×Sto)
noncomputable abbrev MA:=Rho->Sto->Option (List D×Sto)
inductive Fl where
 | nx (U:Rho) | rt (d:D) | bk (U:Rho) | ct (U:Rho)
noncomputable abbrev MS:=Rho->Sto->Option (Fl×Sto)
noncomputable abbrev MG:=D->Rho->Sto->Option (Rho×Sto)
noncomputable abbrev MGs:=List D->Rho->Sto->Option (Rho×Sto)
def Bh(K:Ab)(io:List Addr)(H:Hp)(st':Sto)(d:D)(Q:VK):Prop:=∀ v H' ka,Ext io ka H H'->StR K H' (io++ka) st'->Rep K H' (io++ka) v d->Q v H'
inductive tE (K:Ab) (m:ME) (M:L2.St) (H:Hp) (Q:VK):Prop
 | mk (U:Rho) (st:Sto) (io:List Addr) (d:D) (st':Sto) (h1:EnvR K H io M U) (h2:StR K H io st) (h3:m U st=some (d,st')) (h4:Bh K io H st' d Q)
inductive tT (K:Ab) (m:MT) (M:L2.St) (H:Hp) (Q:Bool->Hp->Prop):Prop
 | mk (U:Rho) (st:Sto) (io:List Addr) (b:Bool) (st':Sto) (h1:EnvR K H io M U) (h2:StR K H io st) (h3:m U st=some (b,st')) (h4:∀ H' ka,Ext io ka H H'->StR K H' (io++ka) st'->Q b H')
inductive tA (K:Ab) (m:MA) (M:L2.St) (H:Hp) (Q:List V->Hp->Prop):Prop
 | mk (U:Rho) (st:Sto) (io:List Addr) (ds:List D) (st':Sto) (h1:EnvR K H io M U) (h2:StR K H io st) (h3:m U st=some (ds,st')) (h4:∀ vs H' ka,Ext io ka H H'->StR K H' (io++ka) st'->Reps K H' (io++ka) vs ds->Q vs H')
def tS(K:Ab)(m:MS):TS:=fun N M H=>∃ U st io f st',EnvR K H io M U/\StR K H io st/\m U st=some (f,st') /\
 match f with
 | .nx U'=>∀ M' H' ka,Ext io ka H H'->StR K H' (io++ka) st'->EnvR K H' (io++ka) M' U'->N.nx M' H'
 | .bk U'=>∀ M' H' ka,Ext io ka H H'->StR K H' (io++ka) st'->EnvR K H' (io++ka) M' U'->N.bk M' H'
 | .ct U'=>∀ M' H' ka,Ext io ka H H'->StR K H' (io++ka) st'->EnvR K H' (io++ka) M' U'->N.ct M' H'
 | .rt d=>Bh K io H st' d N.rt
inductive tG (K:Ab) (m:MG) (v:V) (M:L2.St) (H:Hp) (Q:L2.St->Hp->Prop):Prop
 | mk (d:D) (U:Rho) (st:Sto) (io:List Addr) (U':Rho) (st':Sto) (h0:Rep K H io v d) (h1:EnvR K H io M U) (h2:StR K H io st) (h3:m d U st=some (U',st')) (h4:∀ M' H' ka,Ext io ka H H'->StR K H' (io++ka) st'->EnvR K H' (io++ka) M' U'->Q M' H')
inductive tGs (K:Ab) (m:MGs) (vs:List V) (M:L2.St) (H:Hp) (Q:L2.St->Hp->Prop):Prop
 | mk (ds:List D) (U:Rho) (st:Sto) (io:List Addr) (U':Rho) (st':Sto) (h0:Reps K H io vs ds) (h1:EnvR K H io M U) (h2:StR K H io st) (h3:m ds U st=some (U',st')) (h4:∀ M' H' ka,Ext io ka H H'->StR K H' (io++ka) st'->EnvR K H' (io++ka) M' U'->Q M' H')
def SE(X:Cx)(e:Expr)(m:ME):Prop:=PE X e<|tE X.K m
def SB(X:Cx)(e:Expr)(m:MT):Prop:=PT X e<|tT X.K m
def SA(X:Cx)(es:List Expr)(m:MA):Prop:=PA X es<|tA X.K m
def SS(X:Cx)(s:Stmt)(m:MS):Prop:=PS X s<|tS X.K m
def SSs(X:Cx)(s:List Stmt)(m:MS):Prop:=PSs X s<|tS X.K m
def SG(X:Cx)(e:Expr)(m:MG):Prop:=PG X e<|tG X.K m
def SGs(X:Cx)(e:List Expr)(m:MGs):Prop:=PGs X e<|tGs X.K m
variable {M:L2.St}{b:Bool}{pos:Pos}{t u:TT}{Q:VK}{op:CmpOp}{s1:Sto}{rs:List Expr}
section
variable {X:Cx} {e a b c:Expr} {es:List Expr} {st1 st2:Stmt} {rest body orelse:List Stmt} {m ma mb mc:ME} {mt mu:MT} {mm:MA} {ms mq mr:MS} {mg:MG} {mgs:MGs}
def PE.imp{t u:TE}(h:PE X e t)(k:∀ M H Q,u M H Q->t M H Q):PE X e u:=fun pins s M H Q I q=>h pins s M H Q I<|k M H Q q
def PT.imp(h:PT X e t)(k:∀ M H Q,u M H Q->t M H Q):PT X e u:=fun pins s M H Q I q=>h pins s M H Q I<|k M H Q q
def PA.imp{t u:TA}(h:PA X es t)(k:∀ M H Q,u M H Q->t M H Q):PA X es u:=fun p pins s M H Q I q=>h p pins s M H Q I<|k M H Q q
def PS.imp{t u:TS}(h:PS X st1 t)(k:∀ N M H,u N M H->t N M H):PS X st1 u:=fun pins s M H N I q=>h pins s M H N I<|k N M H q
def PSs.imp{t u:TS}(h:PSs X rest t)(k:∀ N M H,u N M H->t N M H):PSs X rest u:=fun pins s M H N I q=>h pins s M H N I<|k N M H q
def PG.imp{t u:TG}(h:PG X e t)(k:∀ v M H Q,u v M H Q->t v M H Q):PG X e u:=fun pins s M H v w Q I r q=>h pins s M H v w Q I r<|k v M H Q q
def PGs.imp{t u:TGs}(h:PGs X es t)(k:∀ v M H Q,u v M H Q->t v M H Q):PGs X es u:=fun pins s M H v w Q I r q=>h pins s M H v w Q I r<|k v M H Q q
def zaf{α β:Type}{x:Option α}{f:α->Option β}{y:β}(h:x.bind f=some y):∃ z,x=some z/\f z=some y:=by
 cases x with
 | none=>cases h
 | some z=>exact⟨z,rfl,h⟩
def Bh.now(h:Bh K io H st d Q)(S:StR K H io st)(r:Rep K H io v d):Q v H:=h v H [] Ext.refl S.nil (by rw[Ao];exact r)
def Bh.on(h:Bh K io H st' d Q)(S1:StR K H1 (io++ka) st)(E:Ext io ka H H1):Bh K (io++ka) H1 st' d Q:=fun v H' kb E' S' r =>
 h v H' (ka++kb) (E.trans S1 E') (by rw[<-An];exact S') (by rw[<-An];exact r)
def mVar(i:Nat):ME:=fun U st=>match U[i]? with
 | some (some d)=>some (d,st)
 | _=>none
def zab(i:Nat){x:Str}(hN:X.N[i]?=some x:=by rfl)(hv:Vis X.env.scope x:=by first | exact Bg rfl | exact Bf (Bg rfl) | exact Bf (Bf rfl))(hd:(x==("__debug__":Str))=false:=by decide)
   (hcd:(x==("__classdict__":Str))=false:=by decide):SE X (.Name x pos) (mVar i):=PE.imp (zps hN hv hd hcd) <| by
 rintro M H Q ⟨U,st,io,d,st',E,S,e,k⟩;unfold mVar at e
 split at e
 . rename_i d' he;cases e;obtain⟨v,hv,r⟩:=E.at_ i _ he;exact⟨v,hv,k.now S r⟩
 . cases e
def mCon(d:D):ME:=fun _ st=>some (d,st)
def zae{i j pos}:SE X (.Constant (.int i) j pos) (mCon<|.int i):=PE.imp zpz <| by
 rintro M H Q ⟨U,st,io,d,st',E,S,e,k⟩
 cases e;exact k.now S rfl
def zfC{b j pos}:SE X (.Constant (.bool b) j pos) (mCon<|.bl b):=PE.imp zri <| by
 rintro M H Q ⟨U,st,io,d,st',E,S,e,k⟩
 cases e;exact k.now S rfl
def zb2{x j pos}:SE X (.Constant (.str x) j pos) (mCon<|.str x):=PE.imp zpu <| by
 rintro M H Q ⟨U,st,io,d,st',E,S,e,k⟩
 cases e;exact k.now S rfl
def zhB{j pos}:SE X (.Constant .none j pos) (mCon .non):=PE.imp zpx <| by
 rintro M H Q ⟨U,st,io,d,st',E,S,e,k⟩
 cases e;exact k.now S rfl
noncomputable abbrev G2:=D->D->Sto->Option (D×Sto)
inductive r2M (K:Ab) (g:G2) (x y:V) (H:Hp) (Q:VK):Prop
 | mk (dx dy:D) (st:Sto) (io:List Addr) (d:D) (st':Sto) (h0:Rep K H io x dx) (h1:Rep K H io y dy) (h2:StR K H io st) (h3:g dx dy st=some (d,st')) (h4:Bh K io H st' d Q)
def OpM(X:Cx)(f:Value->Value->Sem Value)(g:G2):Prop:=OpR X f<|r2M X.K g
def mBin(g:G2)(ma mb:ME):ME:=fun U st=>(ma U st).bind fun (x,s1)=>(mb U s1).bind fun (y,s2)=>g x y s2
def zdn{g:G2}(h:tE K (mBin g ma mb) M H Q):tOp (r2M K g) (tE K ma) (tE K mb) M H Q:=by obtain⟨U,st,io,d,st',E,S,e,k⟩:=h;obtain⟨⟨x,s1⟩,e1,e⟩:=zaf e;obtain⟨⟨y,s2⟩,e2,e3⟩:=zaf e;refine⟨U,st,io,x,s1,E,S,e1,fun v1 H1 k1 X1 S1 R1=>?_⟩;refine⟨U,s1,io++k1,y,s2,E.ext S X1,S1,e2,fun v2 H2 k2 X2 S2 R2=>?_⟩;exact⟨x,y,s2,(io++k1)++k2,d,st',R1.ext S1 X2,R2,S2,e3,(k.on S1 X1).on S2 X2⟩
def zan{op:Operator}{g:G2}(ho:OpM X (binaryOp op) g)(ha:SE X a ma)(hb:SE X b mb):SE X (.BinOp a op b pos) (mBin g ma mb):=PE.imp (zrf ho ha hb) fun _ _ _ h=>zdn h
def zlf{g:G2}(ho:OpM X (compareOp op) g)(ha:SE X a ma)(hb:SE X b mb)(hm:behindInMarks op b=false):SE X (.Compare a [op] [b] pos) (mBin g ma mb):=PE.imp (znB ho ha hb hm) fun _ _ _ h=>zdn h
def mTst(m:ME):MT:=fun U st=>(m U st).bind fun (x,s1)=>match x with
 | .bl b=>some (b,s1)
 | _=>none
def zi7{b:Bool}(e:mTst m U st=some (b,st')):m U st=some (.bl b,st'):=by
 obtain⟨⟨x,s1⟩,e1,e⟩:=zaf e;dsimp only at e
 split at e
 . cases e;exact e1
 . cases e
def zcC{Q:Bool->Hp->Prop}(h:tT K (mTst m) M H Q):tE K m M H fun x H'=>∃ b,x=.bl b/\Q b H':=by obtain⟨U,st,io,b,st',E,S,e,k⟩:=h;exact⟨U,st,io,_,st',E,S,zi7 e,fun v H' ka X' S' R'=>⟨b,R',k H' ka X' S'⟩⟩
def zbC{g:G2}(ho:OpM X (compareOp op) g)(ha:SE X a ma)(hb:SE X b mb)(hm:behindInMarks op b=false):SB X (.Compare a [op] [b] pos) (mTst<|mBin g ma mb) :=
 PT.imp (zno ho ha hb hm) fun M H Q h=>zdn (zcC h)
def zoE(h:SE X a m)(he:∀ whole,isTrue a X.env whole=(do let v <-whole;standAt a.pos;holding [v] (truthy v)):=by intro _;rfl):SB X a (mTst m) :=
 PT.imp (zlr h he) fun M H Q h=>by obtain⟨U,st,io,b,st',E,S,e,k⟩:=zcC h;refine⟨U,st,io,b,st',E,S,e,fun v H' ka X' S' R'=>?_⟩;obtain⟨c,hc,q⟩:=k v H' ka X' S' R';subst hc;exact⟨c,rfl,q⟩
def zkw(m:MT):MT:=fun U st=>(m U st).map fun (b,s)=>(!b,s)
def zjp(h:SB X a mt):SB X (.UnaryOp .Not a pos) (zkw mt):=PT.imp (zpi h) <| by
 rintro M H Q ⟨U,st,io,b,st',E,S,e,k⟩;unfold zkw at e
 cases e1:mt U st with
 | none=>rw[e1] at e;cases e
 | some p=>rw[e1] at e;cases e;exact⟨U,st,io,_,_,E,S,e1,fun H' ka X' S'=>k H' ka X' S'⟩
def zl2(m n:MT):MT:=fun U st=>(m U st).bind fun (b,s)=>if b=true then n U s else some (false,s)
def mOrT(m n:MT):MT:=fun U st=>(m U st).bind fun (b,s)=>if b=true then some (true,s) else n U s
def SW(X:Cx)(e:Expr)(m:MT):Prop:=PW X e<|tT X.K m
def PW.imp(h:PW X e t)(k:∀ M H Q,u M H Q->t M H Q):PW X e u:=fun w pins s M H Q I q=>h w pins s M H Q I<|k M H Q q
def SW.sb(h:SW X a mt):SB X a mt:=PW.pt h
def zf5(ha:SB X a mt):SW X (.BoolOp .And [a] pos) mt:=pw_and1 ha
def zmU(ha:SB X a mt):SW X (.BoolOp .Or [a] pos) mt:=pw_or1 ha
def zh0{n:MT}{Q:Bool->Hp->Prop}{b:Bool}(E:EnvR K H io M U)(S:StR K H io st)(X1:Ext io ka H H1)(S1:StR K H1 (io++ka) s1)(e:n U s1=some (b,st'))(k:∀ H' ka,Ext io ka H H'->StR K H' (io++ka) st'->Q b H'):tT K n M H1 Q :=
 ⟨U,s1,io++ka,b,st',E.ext S X1,S1,e,fun H' kb X' S'=>k H' (ka++kb) (X1.trans S1 X') (by rw[<-An];exact S')⟩
def zhq(ha:SB X a mt)(hb:SW X (.BoolOp .And (b::rs) pos) mu):SW X (.BoolOp .And (a::b::rs) pos) (zl2 mt mu):=PW.imp (pw_and ha hb) <| by
 rintro M H Q ⟨U,st,io,v,st',E,S,e,k⟩;obtain⟨⟨x,s1⟩,e1,e⟩:=zaf e;refine⟨U,st,io,x,s1,E,S,e1,fun H1 k1 X1 S1=>?_⟩
 cases x with
 | true=>rw[if_pos rfl];exact zh0 E S X1 S1 e k
 | false =>
   rw[if_neg (by decide)];have e':some (false,s1)=some (v,st'):=e;cases e';exact k H1 k1 X1 S1
def zqB(ha:SB X a mt)(hb:SW X (.BoolOp .Or (b::rs) pos) mu):SW X (.BoolOp .Or (a::b::rs) pos) (mOrT mt mu):=PW.imp (pw_or ha hb) <| by
 rintro M H Q ⟨U,st,io,v,st',E,S,e,k⟩;obtain⟨⟨x,s1⟩,e1,e⟩:=zaf e;refine⟨U,st,io,x,s1,E,S,e1,fun H1 k1 X1 S1=>?_⟩
 cases x with
 | false=>rw[if_neg (by decide)];exact zh0 E S X1 S1 e k
 | true =>
   rw[if_pos rfl];have e':some (true,s1)=some (v,st'):=e;cases e';exact k H1 k1 X1 S1
def zjL(m n:ME):ME:=fun U st=>(mTst m U st).bind fun (b,s)=>if b=true then n U s else some (.bl false,s)
def zoG(m:ME):ME:=fun U st=>(mTst m U st).map fun (b,s)=>(.bl !b,s)
def zlK{n:ME}(E:EnvR K H io M U)(S:StR K H io st)(X1:Ext io ka H H1)(S1:StR K H1 (io++ka) s1)(e:n U s1=some (d,st'))(k:Bh K io H st' d Q):tE K n M H1 Q :=
 ⟨U,s1,io++ka,d,st',E.ext S X1,S1,e,k.on S1 X1⟩
def zgb(ha:SE X a ma):SE X (.BoolOp .And [a] pos) ma:=zpv ha
def zfD(ha:SE X a ma)(hb:SE X (.BoolOp .And (b::rs) pos) mb):SE X (.BoolOp .And (a::b::rs) pos) (zjL ma mb):=PE.imp (zpA ha hb) <| by
 rintro M H Q ⟨U,st,io,v,st',E,S,e,k⟩;obtain⟨⟨x,s1⟩,e1,e⟩:=zaf e;refine⟨U,st,io,.bl x,s1,E,S,zi7 e1,fun v1 H1 k1 X1 S1 R1=>⟨x,R1,?_⟩⟩
 cases x with
 | true=>rw[if_pos rfl];exact zlK E S X1 S1 e k
 | false =>
   rw[if_neg (by decide)];have e':some (D.bl false,s1)=some (v,st'):=e;cases e';exact k _ H1 k1 X1 S1 rfl
def zo8(ha:SE X a ma):SE X (.UnaryOp .Not a pos) (zoG ma):=PE.imp (zpw ha) <| by
 rintro M H Q ⟨U,st,io,v,st',E,S,e,k⟩;unfold zoG at e
 cases e1:mTst ma U st with
 | none=>rw[e1] at e;cases e
 | some p =>
   rw[e1] at e;cases e;exact⟨U,st,io,_,_,E,S,zi7 e1,fun v1 H1 k1 X1 S1 R1=>⟨_,R1,k _ H1 k1 X1 S1 rfl⟩⟩
def mIte(c:MT)(m n:ME):ME:=fun U st=>(c U st).bind fun (b,s)=>if b=true then m U s else n U s
def zpa(hc:SB X c mt)(ha:SE X a ma)(hb:SE X b mb):SE X (.IfExp c a b pos) (mIte mt ma mb):=PE.imp (zlA hc ha hb) <| by
 rintro M H Q ⟨U,st,io,v,st',E,S,e,k⟩;obtain⟨⟨x,s1⟩,e1,e⟩:=zaf e;refine⟨U,st,io,x,s1,E,S,e1,fun H1 k1 X1 S1=>?_⟩
 cases x with
 | true=>rw[if_pos rfl];exact zlK E S X1 S1 e k
 | false=>rw[if_neg (by decide)];exact zlK E S X1 S1 e k
end
end L2.MP
set_option linter.unusedVariables false
namespace L2.MP
open PySem PySem.Spec PyProof.Rows
variable {X:Cx}{e a b c o tg iter:Expr}{es:List Expr}{st1 st2:Stmt}{rest body orelse:List Stmt}{pos pos':Pos}{m ma mb mc:ME}{mt mu:MT}{mm:MA}{ms mq mr:MS}{mg:MG}{mgs:MGs}{K:Ab}{H H1 H2:Hp}{io ka kb:List Addr}{st st' s1:Sto}{α:Type}{x:Str}{ds:List D}{vs:List V}{Q:VK}{p:Addr}{M:L2.St}{T:String}{k n i:Nat}{f:Fl}{fd:FuncData}{U:Rho}{N:Ends}
def mNil:MA:=fun _ st=>some ([],st)
def zac(m:ME)(mm:MA):MA:=fun U st=>(m U st).bind fun (x,s1)=>(mm U s1).bind fun (xs,s2)=>some (x::xs,s2)
def zag:SA X [] mNil:=PA.imp znE <| by
 rintro M H Q ⟨U,st,io,ds,st',E,S,e,k⟩
 cases e;exact k [] H [] Ext.refl S.nil Reps.nil
def zaa(ha:SE X e m)(hr:SA X es mm)(hs:starEach (e::es) X.env=(false,eval e X.env)::starEach es X.env:=by rfl):SA X (e::es) (zac m mm):=PA.imp (zhS ha hr hs) <| by rintro M H Q ⟨U,st,io,ds,st',E,S,e,k⟩;obtain⟨⟨x,s1⟩,e1,e⟩:=zaf e;obtain⟨⟨xs,s2⟩,e2,e⟩:=zaf e;cases e;refine⟨U,st,io,x,s1,E,S,e1,fun v1 H1 k1 X1 S1 R1=>⟨U,s1,io++k1,xs,_,E.ext S X1,S1,e2,fun vs H2 k2 X2 S2 R2=>?_⟩⟩;exact k _ H2 (k1++k2) (X1.trans S1 X2) (by rw[<-An];exact S2) (by rw[<-An];exact Reps.cons (R1.ext S1 X2) R2)
def fits(n:Nat):Bool:=decide (n<=sizeLine)
def mTup(mm:MA):ME:=fun U st=>(mm U st).bind fun (xs,s)=>if fits xs.length=true then some (.tup xs,s) else none
def mLst(mm:MA):ME:=fun U st=>(mm U st).bind fun (xs,s)=>if fits xs.length=true then some (.ref s.length,s++[.lst xs]) else none
def zao{c:Prop}[Decidable c]{x:Option α}{y:α}(h:(if c then x else none)=some y):c/\x=some y:=by
 by_cases hc:c
 . rw[if_pos hc] at h;exact⟨hc,h⟩
 rw[if_neg hc] at h;cases h
def Bh.tup{ds:List D}{vs:List V}{Q:VK}{p:Addr}(k:Bh K io H st (.tup ds) Q)(S:StR K H io st)(R:Reps K H io vs ds)(hp:H p=none):Q (.ref p) (upd H p<|.tup vs):=by obtain⟨E,S'⟩:=zgm (o:=.tup vs) S hp;refine k _ _ [] E S' ⟨p,vs,rfl,zbg,R.ext S E⟩
def getElem?_len(l:List α)(x:α):(l++[x])[l.length]?=some x:=by rw[AE (Af _),B6];rfl
def Bh.lst{ds:List D}{vs:List V}{Q:VK}{p:Addr}(k:Bh K io H (st++[.lst ds]) (.ref st.length) Q)(S:StR K H io st)(R:Reps K H io vs ds)(hp:H p=none):Q (.ref p) (upd H p<|.lst vs):=by
 obtain⟨E,S'⟩:=ze5 (o:=.lst vs) (ob:=.lst ds) S hp fun H' T e=>⟨vs,e,Reps.mono T R⟩
 exact k _ _ [p] E S' ⟨p,rfl,by rw[<-S.len];exact getElem?_len io p⟩
def zaw{x1}(h:SA X es mm):SE X (.Tuple es x1 pos) (mTup mm):=PE.imp (zpt h) <| by rintro M H Q ⟨U,st,io,d,st',E,S,e,k⟩;obtain⟨⟨xs,s1⟩,e1,e⟩:=zaf e;obtain⟨hf,e⟩:=zao e;cases e;refine⟨U,st,io,xs,_,E,S,e1,fun vs H1 k1 X1 S1 R1=>⟨by rw[R1.length];exact of_decide_eq_true hf,fun p hp=>(k.on S1 X1).tup S1 R1 hp⟩⟩
def za4(h:SA X es mm):SE X (.List es pos) (mLst mm):=PE.imp (zpy h) <| by rintro M H Q ⟨U,st,io,d,st',E,S,e,k⟩;obtain⟨⟨xs,s1⟩,e1,e⟩:=zaf e;obtain⟨hf,e⟩:=zao e;cases e;refine⟨U,st,io,xs,_,E,S,e1,fun vs H1 k1 X1 S1 R1=>⟨by rw[R1.length];exact of_decide_eq_true hf,fun p hp=>(k.on S1 X1).lst S1 R1 hp⟩⟩
noncomputable abbrev GN:=List D->Sto->Option (D×Sto)
inductive rNM (K:Ab) (g:GN) (xs:List V) (H:Hp) (Q:VK):Prop
 | mk (ds:List D) (st:Sto) (io:List Addr) (d:D) (st':Sto) (h1:Reps K H io xs ds) (h2:StR K H io st) (h3:g ds st=some (d,st')) (h4:Bh K io H st' d Q)
def zcN(X:Cx)(f:Value)(g:GN):Prop:=zi0 X f<|rNM X.K g
def zas(g:GN)(mm:MA):ME:=fun U st=>(mm U st).bind fun (xs,s)=>g xs s
def zfg{g:GN}(h:tE K (zas g mm) M H Q):tCB (rNM K g) (tA K mm) M H Q:=by obtain⟨U,st,io,d,st',E,S,e,k⟩:=h;obtain⟨⟨xs,s1⟩,e1,e⟩:=zaf e;exact⟨U,st,io,xs,s1,E,S,e1,fun vs H1 k1 X1 S1 R1=>⟨xs,s1,io++k1,d,st',R1,S1,e,k.on S1 X1⟩⟩
def zli{p:Pos}{id:String}{g:GN}(hc:zcN X (.builtin id) g)(hg:Gl X x)(hm:X.mg x=none)(hv:bootBuiltins x=some (.builtin id))(ha:SA X (e::es) mm)(hn:x≠"__name__":=by decide)(hdb:(x==("__debug__":Str))=false:=by decide)
   (he:starEach (e::es) X.env=(false,eval e X.env)::starEach es X.env:=by rfl) (hpl:(backTo pos<|starEach es X.env).any (·.1)=false:=by rfl):SE X (.Call (.Name x p) (e::es) [] pos) (zas g mm) :=
 PE.imp (zhR hc hg hm hv ha hn hdb he hpl) fun _ _ _ h=>zfg h
def zjl{p:Pos}{g:GN}(hc:zcN X (.type T) g)(hg:Gl X x)(hm:X.mg x=none)(hv:bootBuiltins x=some (.type T))(ha:SA X (e::es) mm)(hn:x≠"__name__":=by decide)(hdb:(x==("__debug__":Str))=false:=by decide)
   (he:starEach (e::es) X.env=(false,eval e X.env)::starEach es X.env:=by rfl) (hpl:(backTo pos<|starEach es X.env).any (·.1)=false:=by rfl):SE X (.Call (.Name x p) (e::es) [] pos) (zas g mm) :=
 PE.imp (zjx hc hg hm hv ha hn hdb he hpl) fun _ _ _ h=>zfg h
def spM(K:Ab)(n:Nat)(g:GN):Sp:=fun vs H Q _=>∃ ds st io d st',vs.length=n/\Reps K H io vs ds/\StR K H io st/\g ds st=some (d,st')/\Bh K io H st' d Q
def zni{p:Pos}{f:Addr}{ps:List Str}{g:GN}(F:FnOk X.prog X.w X.K X.mg X.base CX0 k f fd ps (spM X.K n g))(hr:Room k X.A)(hg:Gl X x)(hm:X.mg x=some (.ref f))(hk:BP X.K (.ref f)=true)(hb:Binds X.K fd ps [])
   (ha:SA X (e::es) mm) (hdb:(x==("__debug__":Str))=false:=by decide) (he:starEach (e::es) X.env=(false,eval e X.env)::starEach es X.env:=by rfl) (hpl:(backTo pos<|starEach es X.env).any (·.1)=false:=by rfl) (hn:(e::es).length=n:=by rfl)
   (hl:∀ U st xs s,mm U st=some (xs,s)->xs.length=n) :
   SE X (.Call (.Name x p) (e::es) [] pos) (zas g mm):=PE.imp (znC F hr hg hm hk hb .nil zrj ha hdb he hpl) <| by
 rintro M H Q ⟨U,st,io,d,st',E,S,e,k⟩;obtain⟨⟨xs,s1⟩,e1,e⟩:=zaf e;refine⟨U,st,io,xs,s1,E,S,e1,fun vs H1 k1 X1 S1 R1=>⟨xs,s1,io++k1,d,st',?_,?_,S1,e,k.on S1 X1⟩⟩
 . rw[Ao,R1.length];exact hl _ _ _ _ e1
 rw[Ao];exact R1
def zlX{xs:List D}{s:Sto}(h:mNil U st=some (xs,s)):xs.length=0:=by cases h;rfl
def zjK{U:Rho}{st:Sto}{xs:List D}{s:Sto}(hr:∀ U st xs s,mm U st=some (xs,s)->xs.length=n)(h:zac m mm U st=some (xs,s)):xs.length=n+1:=by obtain⟨⟨x,s1⟩,e1,e⟩:=zaf h;obtain⟨⟨ys,s2⟩,e2,e⟩:=zaf e;cases e;rw[AB,hr _ _ _ _ e2]
def Wn(K:Ab)(io:List Addr)(H:Hp)(st':Sto)(N:Ends):Fl->Prop
 | .nx U'=>∀ M' H' ka,Ext io ka H H'->StR K H' (io++ka) st'->EnvR K H' (io++ka) M' U'->N.nx M' H'
 | .bk U'=>∀ M' H' ka,Ext io ka H H'->StR K H' (io++ka) st'->EnvR K H' (io++ka) M' U'->N.bk M' H'
 | .ct U'=>∀ M' H' ka,Ext io ka H H'->StR K H' (io++ka) st'->EnvR K H' (io++ka) M' U'->N.ct M' H'
 | .rt d=>Bh K io H st' d N.rt
inductive tSi (K:Ab) (m:MS) (N:Ends) (M:L2.St) (H:Hp):Prop
 | mk (U:Rho) (st:Sto) (io:List Addr) (f:Fl) (st':Sto) (h1:EnvR K H io M U) (h2:StR K H io st) (h3:m U st=some (f,st')) (h4:Wn K io H st' N f)
def zcQ:tS K ms N M H ↔ tSi K ms N M H:=by
 constructor
 . rintro ⟨U,st,io,f,st',E,S,e,k⟩;exact⟨U,st,io,f,st',E,S,e,by cases f <;> exact k⟩
 rintro ⟨U,st,io,f,st',E,S,e,k⟩;exact⟨U,st,io,f,st',E,S,e,by cases f <;> exact k⟩
def ze1{P:L2.St->Hp->Prop}{U':Rho}(h:∀ M' H' ka,Ext io ka H H'->StR K H' (io++ka) st'->EnvR K H' (io++ka) M' U'->P M' H')(X1:Ext io ka H H1)(S1:StR K H1 (io++ka) st) :
   ∀ M' H' kb,Ext (io++ka) kb H1 H'->StR K H' ((io++ka)++kb) st'->EnvR K H' ((io++ka)++kb) M' U'->P M' H':=fun M' H' kb E' S' R' =>
 h M' H' (ka++kb) (X1.trans S1 E') (by rw[<-An];exact S') (by rw[<-An];exact R')
def Wn.on{N:Ends}{f:Fl}(h:Wn K io H st' N f)(X1:Ext io ka H H1)(S1:StR K H1 (io++ka) st):Wn K (io++ka) H1 st' N f:=by
 cases f with
 | nx U'=>exact ze1 h X1 S1
 | bk U'=>exact ze1 h X1 S1
 | ct U'=>exact ze1 h X1 S1
 | rt d=>exact Bh.on h S1 X1
def zmA(E:EnvR K H io M U)(S:StR K H io st)(e:ms U st=some (f,st'))(w:Wn K io H st' N f):tS K ms N M H:=zcQ.mpr ⟨U,st,io,f,st',E,S,e,w⟩
def zoR(X1:Ext io ka H H1)(S1:StR K H1 (io++ka) s1)(E:EnvR K H1 (io++ka) M U)(e:ms U s1=some (f,st'))(w:Wn K io H st' N f):tS K ms N M H1 :=
 zmA E S1 e (w.on X1 S1)
def zdR:MS:=fun U st=>some (.nx U,st)
def zm0:SSs X [] zdR:=PSs.imp znr fun N M H h=>by obtain⟨U,st,io,f,st',E,S,e,w⟩:=zcQ.mp h;cases e;exact w M H [] Ext.refl S.nil (by rw[Ao];exact E)
def mSeq(m n:MS):MS:=fun U st=>(m U st).bind fun (f,s)=>match f with
 | .nx U1=>n U1 s
 | f=>some (f,s)
def zk1(h1:SS X st1 ms)(h2:SSs X rest mq):SSs X (st1::rest) (mSeq ms mq):=PSs.imp (zlt h1 h2) fun N M H h=>by
 obtain⟨U,st,io,f,st',E,S,e,w⟩:=zcQ.mp h;obtain⟨⟨f1,s1⟩,e1,e⟩:=zaf e;refine zmA E S e1 ?_
 cases f1 with
 | nx U1=>exact fun M' H' ka X' S' R'=>zoR X' S' R' e w
 | bk U1=>cases e;exact w
 | ct U1=>cases e;exact w
 | rt d=>cases e;exact w
def zmZ(h1:SS X st1 ms):SSs X [st1] ms:=znq h1
def mExp(m:ME):MS:=fun U st=>(m U st).map fun (_,s)=>(.nx U,s)
def mRet(m:ME):MS:=fun U st=>(m U st).map fun (d,s)=>(.rt d,s)
def zaj{β:Type}{x:Option α}{f:α->β}{y:β}(h:x.map f=some y):∃ z,x=some z/\f z=y:=by
 cases x with
 | none=>cases h
 | some z=>exact⟨z,rfl,Ay h⟩
def zc5(he:SE X e m)(hs:swapsWith e none pos.line X.env=pure false:=by rfl):SS X (.Expr e pos) (mExp m):=PS.imp (zns he hs) fun N M H h=>by obtain⟨U,st,io,f,st',E,S,e,w⟩:=zcQ.mp h;obtain⟨⟨d,s1⟩,e1,e⟩:=zaj e;cases e;exact⟨U,st,io,d,_,E,S,e1,fun v H' ka X' S' R'=>w M H' ka X' S' (E.ext S X')⟩
def zaR(he:SE X e m):SS X (.Return (some e) pos) (mRet m):=PS.imp (zpk he) fun N M H h=>by obtain⟨U,st,io,f,st',E,S,e,w⟩:=zcQ.mp h;obtain⟨⟨d,s1⟩,e1,e⟩:=zaj e;cases e;exact⟨U,st,io,d,_,E,S,e1,w⟩
def mIf(c:MT)(m n:MS):MS:=fun U st=>(c U st).bind fun (b,s)=>if b=true then m U s else n U s
def zq6(hc:SB X c mt)(h1:SSs X body ms)(h2:SSs X orelse mq):SS X (.If c body orelse pos) (mIf mt ms mq):=PS.imp (zrd hc h1 h2) fun N M H h=>by
 obtain⟨U,st,io,f,st',E,S,e,w⟩:=zcQ.mp h;obtain⟨⟨x,s1⟩,e1,e⟩:=zaf e;refine⟨U,st,io,x,s1,E,S,e1,fun H1 k1 X1 S1=>?_⟩
 cases x with
 | true=>rw[if_pos rfl];exact zoR X1 S1 (E.ext S X1) e w
 | false=>rw[if_neg (by decide)];exact zoR X1 S1 (E.ext S X1) e w
def gNm(i:Nat):MG:=fun d U st=>some (U.set i (some d),st)
def znc(hN:X.N.Nodup)(hi:X.N[i]?=some x)(hx:Loc X.env.scope x)(hf:X.fn x=true\/X.env.scope.names.lookup x=some .local:=by first | exact .inl rfl | exact .inr rfl | assumption):SG X (.Name x pos) (gNm i) :=
 PG.imp (zny hN hi hx hf) <| by rintro v M H Q ⟨d,U,st,io,U',st',R,E,S,e,k⟩;cases e;exact k _ H [] Ext.refl S.nil (by rw[Ao];exact E.set i R)
def gN0:MGs:=fun ds U st=>match ds with
 | []=>some (U,st)
 | _=>none
def gC(g:MG)(h:MGs):MGs:=fun ds U st=>match ds with
 | d::r=>(g d U st).bind fun (U1,s1)=>h r U1 s1
 | []=>none
def zc7:SGs X [] gN0:=PGs.imp znx <| by
 rintro v M H Q ⟨ds,U,st,io,U',st',R,E,S,e,k⟩
 cases ds with
 | nil=>cases e;exact⟨R,k M H [] Ext.refl S.nil (by rw[Ao];exact E)⟩
 | cons d r=>cases e
def zaM(h1:SG X e mg)(h2:SGs X es mgs)(hs:(assignEach (e::es) X.env).map (·.2)=assign e X.env::(assignEach es X.env).map (·.2):=by rfl):SGs X (e::es) (gC mg mgs) :=
 PGs.imp (zlz h1 h2 hs) <| by
   rintro v M H Q ⟨ds,U,st,io,U',st',R,E,S,e,k⟩
   cases ds with
   | nil=>cases e
   | cons d r =>
     obtain⟨y,ys,rfl,r1,rs⟩:=R;obtain⟨⟨U1,s1⟩,e1,e⟩:=zaf e;refine⟨y,ys,rfl,d,U,st,io,U1,s1,r1,E,S,e1,fun M1 H1 k1 X1 S1 E1=>?_⟩;exact⟨r,U1,s1,io++k1,U',st',rs.ext S X1,E1,S1,e,ze1 k X1 S1⟩
def gTp(n:Nat)(h:MGs):MG:=fun d U st=>match d with
 | .tup ds=>if ds.length=n then h ds U st else none
 | _=>none
def zeX(hc:X.calm=true)(h:SGs X es mgs)(hn:(assignEach es X.env).length=n:=by rfl)(hst:(assignEach es X.env).findIdx? (·.1)=none:=by rfl):SG X (.Tuple es k pos) (gTp n mgs) :=
 PG.imp (zpq hc h hn hst) <| by
   rintro v M H Q ⟨d,U,st,io,U',st',R,E,S,e,k⟩
   cases d with
   | tup ds =>
     obtain⟨a,xs,rfl,hq,rs⟩:=R;obtain⟨hl,e⟩:=zao e;exact⟨a,xs,rfl,SqT.of hq,by rw[rs.length];exact hl,ds,U,st,io,U',st',rs,E,S,e,k⟩
   | _=>cases e
noncomputable abbrev G3:=D->D->D->Sto->Option Sto
inductive tSetM (K:Ab) (g:G3) (o i v:V) (H:Hp) (Q:Hp->Prop):Prop
 | mk (d1 d2 d3:D) (st:Sto) (io:List Addr) (st':Sto) (h0:Rep K H io o d1) (h1:Rep K H io i d2) (h2:Rep K H io v d3) (h3:StR K H io st) (h4:g d1 d2 d3 st=some st') (h5:∀ H' ka,Ext io ka H H'->StR K H' (io++ka) st'->Q H')
def SetM(X:Cx)(g:G3):Prop:=PSet X<|tSetM X.K g
def gSb(g:G3)(mo mi:ME):MG:=fun d U st=>(mo U st).bind fun (o,s1)=>(mi U s1).bind fun (i,s2)=>(g o i d s2).map fun s3=>(U,s3)
def zo6{i:Expr}{mo mi:ME}{g:G3}(ho:SE X o mo)(hi:SE X i mi)(hs:SetM X g)
   (ha:∀ v,assign (.Subscript o i pos) X.env v=(do
     let ov <-holding [v] (eval o X.env)
     let iv <-holding [v,ov] (eval i X.env)
     standAt pos
     holding [v,ov,iv] (setItem ov iv v)
     release [v,ov,iv] []):=by intro _;rfl):SG X (.Subscript o i pos) (gSb g mo mi) :=
 PG.imp (zpr ho hi hs ha) <| by rintro v M H Q ⟨d,U,st,io,U',st',R,E,S,e,k⟩;obtain⟨⟨x,s1⟩,e1,e⟩:=zaf e;obtain⟨⟨y,s2⟩,e2,e⟩:=zaf e;obtain⟨s3,e3,e⟩:=zaj e;cases e;refine⟨U,st,io,x,s1,E,S,e1,fun v1 H1 k1 X1 S1 R1=>⟨U,s1,io++k1,y,s2,E.ext S X1,S1,e2,fun v2 H2 k2 X2 S2 R2=>?_⟩⟩;have X12:=X1.trans S1 X2;refine⟨x,y,d,s2,(io++k1)++k2,_,R1.ext S1 X2,R2,(R.ext S X1).ext S1 X2,S2,e3,fun H3 k3 X3 S3=>?_⟩;rw[An] at X3 S2;rw[An,An] at S3;refine k M H3 ((k1++k2)++k3) (X12.trans S2 X3) (by simpa using S3) ?_;have E2:EnvR X.K H2 (io++(k1++k2)) M U:=E.ext S X12;have:=E2.ext S2 X3;simpa using this
def mAsg(m:ME)(g:MG):MS:=fun U st=>(m U st).bind fun (d,s1)=>(g d U s1).map fun (U',s2)=>(.nx U',s2)
def zkd(h:tS K (mAsg m mg) N M H):tAsg (tE K m) (tG K mg) N M H:=by obtain⟨U,st,io,f,st',E,S,e,w⟩:=zcQ.mp h;obtain⟨⟨x,s1⟩,e1,e⟩:=zaf e;obtain⟨⟨U',s2⟩,e2,e⟩:=zaj e;cases e;exact⟨U,st,io,x,s1,E,S,e1,fun v1 H1 k1 X1 S1 R1=>⟨x,U,s1,io++k1,U',_,R1,E.ext S X1,S1,e2,ze1 w X1 S1⟩⟩
def zjd(he:SE X e m)(hg:SG X tg mg)(hs:swapsWithSole [tg] e pos.line X.env=pure false:=by rfl)(hw:swappedStores [tg] e X.env=pure none:=by rfl)
   (h1:(assignEach [tg] X.env).map (·.2)=[assign tg X.env]:=by rfl):SS X (.Assign [tg] e pos) (mAsg m mg):=PS.imp (zpn he hg hs hw h1) fun _ _ _ h=>zkd h
def zm2(hN:X.N.Nodup)(hi:X.N[i]?=some x)(hx:Loc X.env.scope x)(he:SE X e m)(hs:swapsWith e (some<|.Name x pos') pos.line X.env=pure false:=by rfl)(hf:X.fn x=true\/X.env.scope.names.lookup x=some .local:=by first | exact .inl rfl | exact .inr rfl | assumption) :
   SS X (.Assign [.Name x pos'] e pos) (mAsg m<|gNm i):=PS.imp (zpj hN hi hx he hs hf) fun N M H h=>by
 obtain⟨U,st,io,f,st',E,S,e,w⟩:=zcQ.mp h;obtain⟨⟨x,s1⟩,e1,e⟩:=zaf e;obtain⟨⟨U',s2⟩,e2,e⟩:=zaj e;cases e;cases e2;exact⟨U,st,io,x,_,E,S,e1,fun v1 H1 k1 X1 S1 R1=>w _ H1 k1 X1 S1 ((E.ext S X1).set i R1)⟩
structure Wk where
 ds:List D
 g:List (Nat×List D)
def stays(W:Wk)(st:Sto):Prop:=∀ p,p∈W.g->st[p.1]?=some (.lst p.2)\/st[p.1]?=some (.fz p.2)
structure ItOk(K:Ab)(H0:Hp)(io:List Addr)(W:Wk)(J:It):Prop where
 go:∀ i d H ka st,W.ds[i]?=some d->Ext io ka H0 H->StR K H (io++ka) st->stays W st->J.go i H/\∀ x H',J.yld i H x H'->Ext (io++ka) [] H H'/\StR K H' (io++ka) st/\Rep K H' (io++ka) x d
 stop:∀ H ka st,Ext io ka H0 H->StR K H (io++ka) st->stays W st->J.stop W.ds.length H
 stop':∀ H ka st i,W.ds.length<=i->Ext io ka H0 H->StR K H (io++ka) st->stays W st->J.stop i H
noncomputable abbrev MI:=Rho->Sto->Option (Wk×Sto)
inductive tI (K:Ab) (m:MI) (M:L2.St) (H:Hp) (R:It->Hp->Prop):Prop
 | mk (U:Rho) (st:Sto) (io:List Addr) (W:Wk) (st':Sto) (h1:EnvR K H io M U) (h2:StR K H io st) (h3:m U st=some (W,st')) (h4:∀ J H' ka,Ext io ka H H'->StR K H' (io++ka) st'->ItOk K H' (io++ka) W J->R J H')
def SI(X:Cx)(tg iter:Expr)(m:MI):Prop:=PI X tg iter<|tI X.K m
def PI.imp{t u:TI}(h:PI X tg iter t)(k:∀ M H R,u M H R->t M H R):PI X tg iter u:=fun pins s M H R I q=>h pins s M H R I<|k M H R q
mutual
def D.eqb:D->D->Bool
 | .non,.non=>true
 | .bl a,.bl b=>a==b
 | .int a,.int b=>decide (a=b)
 | .str a,.str b=>decide (a=b)
 | .tup a,.tup b=>D.eqbs a b
 | .ref a,.ref b=>decide (a=b)
 | .kl a,.kl b=>D.eqbs a b
 | .fn a,.fn b=>decide (a=b)
 | _,_=>false
def D.eqbs:List D->List D->Bool
 | [],[]=>true
 | a::as,b::bs=>D.eqb a b&&D.eqbs as bs
 | _,_=>false
end
mutual
def D.eqb_refl:∀ a:D,D.eqb a a=true
 | .non=>rfl
 | .bl a=>by simp[D.eqb]
 | .int a=>by simp[D.eqb]
 | .str a=>by simp[D.eqb]
 | .tup a=>by rw[D.eqb];exact D.eqbs_refl a
 | .ref a=>by simp[D.eqb]
 | .kl a=>by rw[D.eqb];exact D.eqbs_refl a
 | .fn a=>by simp[D.eqb]
def D.eqbs_refl:∀ a:List D,D.eqbs a a=true
 | []=>rfl
 | a::as=>by rw[D.eqbs,D.eqb_refl a,D.eqbs_refl as];rfl
end
mutual
def D.eq_of:∀ {a b:D},D.eqb a b=true->a=b
 | .non,b,h=>by cases b <;> simp[D.eqb] at h ⊢
 | .bl a,b,h=>by cases b <;> simp[D.eqb] at h ⊢;exact h
 | .int a,b,h=>by cases b <;> simp[D.eqb] at h ⊢;exact h
 | .str a,b,h=>by cases b <;> simp[D.eqb] at h ⊢;exact h
 | .tup a,.tup b,h=>by rw[D.eqb] at h;rw[D.eqs_of h]
 | .tup a,.non,h=>by simp[D.eqb] at h
 | .tup a,.bl _,h=>by simp[D.eqb] at h
 | .tup a,.int _,h=>by simp[D.eqb] at h
 | .tup a,.str _,h=>by simp[D.eqb] at h
 | .tup a,.ref _,h=>by simp[D.eqb] at h
 | .tup a,.kl _,h=>by simp[D.eqb] at h
 | .tup a,.fn _,h=>by simp[D.eqb] at h
 | .kl a,.kl b,h=>by rw[D.eqb] at h;rw[D.eqs_of h]
 | .kl a,.non,h=>by simp[D.eqb] at h
 | .kl a,.bl _,h=>by simp[D.eqb] at h
 | .kl a,.int _,h=>by simp[D.eqb] at h
 | .kl a,.str _,h=>by simp[D.eqb] at h
 | .kl a,.ref _,h=>by simp[D.eqb] at h
 | .kl a,.tup _,h=>by simp[D.eqb] at h
 | .kl a,.fn _,h=>by simp[D.eqb] at h
 | .fn a,b,h=>by cases b <;> simp[D.eqb] at h ⊢;exact h
 | .ref a,b,h=>by cases b <;> simp[D.eqb] at h ⊢;exact h
def D.eqs_of:∀ {a b:List D},D.eqbs a b=true->a=b
 | [],[],_=>rfl
 | [],_::_,h=>by simp[D.eqbs] at h
 | _::_,[],h=>by simp[D.eqbs] at h
 | a::as,b::bs,h=>by rw[D.eqbs,Al] at h;rw[D.eq_of h.1,D.eqs_of h.2]
end
noncomputable instance:DecidableEq D:=fun a b=>if h:D.eqb a b=true then .isTrue (D.eq_of h) else .isFalse fun e=>h (by rw[e];exact D.eqb_refl b)
def zin(st:Sto)(n:Nat)(ds:List D):Bool:=match st[n]? with
 | some (.lst xs)=>D.eqbs xs ds
 | some (.fz xs)=>D.eqbs xs ds
 | _=>false
def zjV(h:zin st n ds=true):st[n]?=some (.lst ds)\/st[n]?=some (.fz ds):=by
 unfold zin at h
 split at h
 . rename_i xs e;rw[D.eqs_of h] at e;exact .inl e
 . rename_i xs e;rw[D.eqs_of h] at e;exact .inr e
 . cases h
def zim(h:st[n]?=some (.lst ds)):zin st n ds=true:=by unfold zin;rw[h];exact D.eqbs_refl ds
variable {mi:MI}{W:Wk}
def walked(W:Wk)(st:Sto):Bool:=W.g.all fun p=>zin st p.1 p.2
def zcB(h:walked W st=true):stays W st:=fun p hp=>zjV<|List.all_eq_true.mp h p hp
def zh9(W:Wk)(g:MG)(m:MS):List D->Rho->Sto->Option (Fl×Sto)
 | [],U,st=>if walked W st=true then some (.nx U,st) else none
 | d::ds,U,st=>if walked W st=true then (g d U st).bind fun (U1,s1)=>(m U1 s1).bind fun (f,s2)=>match f with
   | .nx U2=>zh9 W g m ds U2 s2
   | .ct U2=>zh9 W g m ds U2 s2
   | .bk U2=>some (.nx U2,s2)
   | .rt d=>some (.rt d,s2) else none
def mFor(mi:MI)(g:MG)(m:MS):MS:=fun U st=>(mi U st).bind fun (W,s)=>zh9 W g m W.ds U s
def zo0(hp:PassesOwn (model X.prog X.w) X.A X.env X.xe)(hc:X.calm=true)(hi:SI X tg iter mi)(hg:SG X tg mg)(hb:SSs X body ms)
   (hs:∀ x,foldedSetIterable iter X.env x=pure x:=by intro _;rfl):SS X (.For tg iter body [] pos) (mFor mi mg ms):=PS.imp (zpm hp hc hi hg hb hs) fun N M H h=>by
 obtain⟨U,st,io,f,st',E,S,e,w⟩:=zcQ.mp h;obtain⟨⟨W,s1⟩,e1,e⟩:=zaf e;refine⟨U,st,io,W,s1,E,S,e1,fun J H1 k1 X1 S1 IO=>?_⟩;refine⟨fun i n M2 H2=>n=W.ds.length - i/\∃ U2 s2 k2,Ext (io++k1) k2 H1 H2/\StR X.K H2 ((io++k1)++k2) s2/\EnvR X.K H2 ((io++k1)++k2) M2 U2/\zh9 W mg ms (W.ds.drop i) U2 s2=some (f,st'),
   ⟨_,rfl,U,s1,[],Ext.refl,by rw[Ao];exact S1,by rw[Ao];exact E.ext S X1,by rw[Fk];exact e⟩,?_⟩
 rintro i n M2 H2 ⟨rfl,U2,s2,k2,X2,S2,E2,e2⟩;have w2:Wn X.K ((io++k1)++k2) H2 st' N f:=(w.on X1 S1).on X2 S2
 cases hd:W.ds[i]? with
 | none =>
   have hl:W.ds.length<=i:=List.getElem?_eq_none_iff.mp hd;rw[Cu hl] at e2;obtain⟨hw,e2⟩:=zao e2;cases e2;refine .inl ⟨?_,w2 M2 H2 [] Ext.refl S2.nil (by rw[Ao];exact E2)⟩
   -- the end may lie behind
   by_cases hi:i=W.ds.length
   . rw[hi];exact IO.stop H2 k2 _ X2 S2 (zcB hw)
   exact IO.stop' H2 k2 _ i hl X2 S2 (zcB hw)
 | some d =>
   have hl:i < W.ds.length:=(List.getElem?_eq_some_iff.mp hd).1;have hdr:W.ds.drop i=d::W.ds.drop (i+1):=by rw[Dq hl,(List.getElem?_eq_some_iff.mp hd).2]
   rw[hdr] at e2;obtain⟨hw,e2⟩:=zao e2;obtain⟨⟨U3,s3⟩,e3,e2⟩:=zaf e2;obtain⟨⟨f4,s4⟩,e4,e2⟩:=zaf e2;obtain⟨go,yl⟩:=IO.go i d H2 k2 s2 hd X2 S2 (zcB hw);refine .inr ⟨go,fun M5 H5=>∃ U5 s5 k5,Ext (io++k1) k5 H1 H5/\StR X.K H5 ((io++k1)++k5) s5/\EnvR X.K H5 ((io++k1)++k5) M5 U5/\zh9 W mg ms (W.ds.drop (i+1)) U5 s5=some (f,st'),
     fun M5 H5 h5=>⟨W.ds.length - (i+1),by omega,rfl,h5⟩,fun x H' y=>?_⟩
   obtain⟨X3,S3,R3⟩:=yl x H' y;have X23:Ext (io++k1) k2 H1 H':=(X2.trans S2 X3).app;refine⟨d,U2,s2,(io++k1)++k2,U3,s3,R3,?_,S3,e3,fun M6 H6 k6 X6 S6 E6=>?_⟩
   . have:=E2.ext S2 X3;rw[Ao] at this;exact this
   . refine zmA E6 S6 e4 ?_;have X26:=X23.trans S3 X6;have S6':StR X.K H6 ((io++k1)++(k2++k6)) s3:=by rw[<-An];exact S6
     have fin:∀ {U7:Rho},zh9 W mg ms (W.ds.drop (i+1)) U7 s4=some (f,st')->∀ M7 H7 k7,Ext ((io++k1)++k2++k6) k7 H6 H7->StR X.K H7 ((io++k1)++k2++k6++k7) s4->EnvR X.K H7 ((io++k1)++k2++k6++k7) M7 U7 ->
         ∃ U5 s5 k5,Ext (io++k1) k5 H1 H7/\StR X.K H7 ((io++k1)++k5) s5/\EnvR X.K H7 ((io++k1)++k5) M7 U5/\zh9 W mg ms (W.ds.drop (i+1)) U5 s5=some (f,st'):=by
       intro U7 e7 M7 H7 k7 X7 S7 E7;rw[An (io++k1)] at X7;rw[An (io++k1),An (io++k1)] at S7 E7;exact⟨U7,s4,(k2++k6)++k7,X26.trans S6' X7,S7,E7,e7⟩
     cases f4 with
     | nx U7=>exact fin e2
     | ct U7=>exact fin e2
     | bk U7 =>
       cases e2;exact ((w.on X1 S1).on X23 S3).on X6 S6
     | rt dd =>
       cases e2;exact ((w.on X1 S1).on X23 S3).on X6 S6
variable {xs:List V}{l:Expr}{d:D}
def zeI{x:D}{xs:List D}{s s2:Sto}(h1:m U s=some (x,s1))(h2:mm U s1=some (xs,s2)):zac m mm U s=some (x::xs,s2):=by unfold zac;rw[h1];show Fz (mm U s1) _=_;rw[h2];rfl
def zbi(st:Sto)(n:Nat):Option (List D):=match st[n]? with
 | some (.lst ds)=>some ds
 | some (.fz ds)=>some ds
 | _=>none
def zaW(S:StR K H io st)(hn:io[n]?=some p)(h:zbi st n=some ds):∃ xs,SqL K H p xs/\Reps K H io xs ds:=by
 unfold zbi at h
 split at h
 . rename_i o he;cases h;obtain⟨xs,e,r⟩:=S.ob n p _ hn he;exact⟨xs,SqL.of e,r⟩
 . rename_i o he;cases h;obtain⟨ob,xs,e,r⟩:=S.ob n p _ hn he;exact⟨xs,.inl<|.inr ⟨ob,e⟩,r⟩
 . cases h
def zcY(hm:(n,ds)∈W.g)(h:stays W st):zbi st n=some ds:=by
 unfold zbi
 rcases h _ hm with h | h
 . have h:st[n]?=some (.lst ds):=h;rw[h]
 have h:st[n]?=some (.fz ds):=h;rw[h]
def mWL(m:ME):MI:=fun U st=>(m U st).bind fun (d,s)=>match d with
 | .ref n=>(zbi s n).map fun ds=>(⟨ds,[(n,ds)]⟩,s)
 | _=>none
def mWT(m:ME):MI:=fun U st=>(m U st).bind fun (d,s)=>match d with
 | .tup ds=>some (⟨ds,[]⟩,s)
 | _=>none
def zbd(h:io[n]?=some p):(io++ka)[n]?=some p:=by rw[Ap (List.getElem?_eq_some_iff.mp h).1];exact h
def zqa(hn:io[n]?=some p):ItOk K H io ⟨ds,[(n,ds)]⟩ (Itl K p) where
 go:=fun i d H1 k1 s hd X1 S1 hs=>by obtain⟨xs,hx,r⟩:=zaW S1 (zbd hn)<|zcY Ak hs;obtain⟨v,hv,rv⟩:=r.get hd;refine⟨⟨xs,v,hx,hv⟩,fun x H' y=>?_⟩;obtain⟨rfl,y⟩:=y;have e:=y xs hx;rw[hv] at e;cases e;exact⟨Ext.refl,S1,rv⟩
 stop:=fun H1 k1 s X1 S1 hs=>by obtain⟨xs,hx,r⟩:=zaW S1 (zbd hn)<|zcY Ak hs;exact⟨xs,hx,by rw[r.length];exact Af _⟩
 stop':=fun H1 k1 s i hi X1 S1 hs=>by obtain⟨xs,hx,r⟩:=zaW S1 (zbd hn)<|zcY Ak hs;exact⟨xs,hx,by rw[r.length];exact hi⟩
def zna(hl:SE X l m):SI X tg l (mWL m):=PI.imp (znw hl) <| by
 rintro M H R ⟨U,st,io,W,st',E,S,e,k⟩;obtain⟨⟨d,s1⟩,e1,e⟩:=zaf e;dsimp only at e
 split at e
 . rename_i n;obtain⟨ds,e2,e⟩:=zaj e;cases e;refine⟨U,st,io,_,_,E,S,e1,fun v H1 k1 X1 S1 R1=>?_⟩;obtain⟨p,rfl,hn⟩:=R1;obtain⟨xs,hx,r⟩:=zaW S1 hn e2;exact⟨p,rfl,⟨xs,hx⟩,k _ H1 k1 X1 S1<|zqa hn⟩
 . cases e
def zp8(S:StR K H io st)(hp:H p=some (.tup xs))(r:Reps K H io xs ds):ItOk K H io ⟨ds,[]⟩ (Itt K p) where
 go:=fun i d H1 k1 s hd X1 S1 hs=>by obtain⟨v,hv,rv⟩:=(r.ext S X1).get hd;have hx:SqT K H1 p xs:=SqT.of<|X1.sqT S p xs hp;refine⟨⟨xs,v,hx,hv⟩,fun x H' y=>?_⟩;obtain⟨rfl,y⟩:=y;have e:=y xs hx;rw[hv] at e;cases e;exact⟨Ext.refl,S1,rv⟩
 stop:=fun H1 k1 s X1 S1 hs=>⟨xs,SqT.of<|X1.sqT S p xs hp,by rw[r.length];exact Af _⟩
 stop':=fun H1 k1 s i hi X1 S1 hs=>⟨xs,SqT.of<|X1.sqT S p xs hp,by rw[r.length];exact hi⟩
def zo4(hl:SE X l m):SI X tg l (mWT m):=PI.imp (zpo hl) <| by
 rintro M H R ⟨U,st,io,W,st',E,S,e,k⟩;obtain⟨⟨d,s1⟩,e1,e⟩:=zaf e;dsimp only at e
 split at e
 . rename_i ds;cases e;refine⟨U,st,io,_,_,E,S,e1,fun v H1 k1 X1 S1 R1=>?_⟩;obtain⟨p,xs,rfl,hp,r⟩:=R1;exact⟨p,rfl,⟨xs,SqT.of hp⟩,k _ H1 k1 X1 S1<|zp8 S1 hp r⟩
 . cases e
def run(lo:Int)(n:Nat):List D:=(Ax n).map fun (k:Nat)=>D.int<|lo+(k:Int)
def zbH(lo:Int)(n:Nat):(run lo n).length=n:=by unfold run;rw[Ag,B1]
def run_get{lo:Int}(h:(run lo n)[i]?=some d):i < n/\d=.int (lo+(i:Int)):=by
 have hi:i < n:=by
   have q:=(List.getElem?_eq_some_iff.mp h).1
   rwa [zbH] at q
 unfold run at h;rw[Av,C0 hi] at h;exact⟨hi,(Ay h).symm⟩
def zp9(lo:Int)(n:Nat):ItOk K H io ⟨run lo n,[]⟩ (Itr lo n) where
 go:=fun i d H1 k1 s hd X1 S1 hs=>by obtain⟨hi,rfl⟩:=run_get hd;refine⟨hi,fun x H' y=>?_⟩;obtain⟨rfl,rfl⟩:=y;exact⟨Ext.refl,S1,rfl⟩
 stop:=fun H1 k1 s X1 S1 hs=>by show n<=_;rw[zbH];exact Af _
 stop':=fun H1 k1 s i hi X1 S1 hs=>by
   show n<=i;have hi:(run lo n).length<=i:=hi
   rwa [zbH] at hi
def small(j:Int):Bool:=decide (-(2 ^ 62)<=j)&&decide (j < 2 ^ 62)
def zhx{j:Int}(h:small j=true):-(2 ^ 62)<=j/\j < 2 ^ 62:=by unfold small at h;rw[Al] at h;exact⟨of_decide_eq_true h.1,of_decide_eq_true h.2⟩
def mR1(m:ME):MI:=fun U st=>(m U st).bind fun (d,s)=>match d with
 | .int j=>if small j=true then some (⟨run 0 j.toNat,[]⟩,s) else none
 | _=>none
def zaZ{p:Pos}(hg:Gl X "range")(hm:X.mg "range"=none)(ha:SE X a m)(hs:starEach [a] X.env=[(false,eval a X.env)]:=by rfl):SI X tg (.Call (.Name "range" p) [a] [] pos) (mR1 m) :=
 PI.imp (zjw hg hm (zaa ha zag hs) hs) <| by
   rintro M H R ⟨U,st,io,W,st',E,S,e,k⟩;obtain⟨⟨d,s1⟩,e1,e⟩:=zaf e;dsimp only at e
   split at e
   . rename_i j;obtain⟨hj,e⟩:=zao e;cases e;refine⟨U,st,io,[.int j],_,E,S,(zeI e1 rfl),fun vs H1 k1 X1 S1 R1=>?_⟩;obtain⟨v,rfl,rfl⟩:=R1.one;exact⟨j,rfl,(zhx hj).1,(zhx hj).2,k _ H1 k1 X1 S1<|zp9 0 _⟩
   . cases e
def rho(n:Nat)(ds:List D):Rho:=ds.map some++Bk (n - ds.length) none
def fnM(n:Nat)(m:MS):GN:=fun ds st=>(m (rho n ds) st).bind fun (f,s)=>match f with
 | .rt d=>some (d,s)
 | .nx _=>some (.non,s)
 | _=>none
def zjZ{N:List Str}(R:Reps K H io vs ds):EnvR K H io (start N vs) (rho N.length ds):=by
 have hl:=R.length;refine⟨by unfold start rho;simp[hl],fun i d h=>?_⟩;unfold rho at h;unfold start
 by_cases hi:i < ds.length
 . rw[Ap (by simpa using hi),Av] at h
   cases e:ds[i]? with
   | none=>rw[e] at h;cases h
   | some d' =>
     rw[e] at h
     cases (Ay<|Ay h)
     obtain⟨v,hv,r⟩:=R.get e;exact⟨v,by rw[Ap (by simpa[hl] using hi),Av,hv];rfl,r⟩
 . rw[AE (by simpa using hi),BV] at h
   split at h <;> cases h
variable {w:World}
section
variable {P:Program} {mg:Str->Option Value} {base:Heap}
def fn_m{qual:Str}{st:Stmt}{f:Addr}{N ps:List Str}{m:MS}(F:Fun K x qual st f fd)(S:FnScope N ps (zaA st))
   (hbody:∀ (cdv:Value) (A:Around) (outer:List Env) (s:Shared) (H:Hp) (E:XK),Room k (A.deeper<|envOfC qual (zaA st) s.heap.objs.size f cdv) ->
     SSs (cxOf CX0 P w K mg base N qual (zaA st) f cdv A outer s H E).nox (zbK st) m):FnOk P w K mg base CX0 (k+1) f fd ps (spM K ps.length<|fnM N.length m):=by
 refine F.ok S (fun vs H Q E ⟨_,_,_,_,_,h,_⟩=>h) fun cdv A outer s H vs Q E hr h=>?_;obtain⟨ds,st0,io,d,st',hl,R,SR,e,k'⟩:=h;refine⟨_,hbody cdv A outer s H E hr,?_⟩;obtain⟨⟨fl,s1⟩,e1,e⟩:=zaf e;refine zmA (zjZ R) SR e1 ?_
 cases fl with
 | rt dd=>cases e;exact k'
 | nx U=>cases e;exact fun M' H' ka X' S' E'=>k' .non H' ka X' S' rfl
 | bk U=>cases e
 | ct U=>cases e
end
def clOf(cells:List (Str×Addr)):List (Str×NameKind)->List (Str×Addr)->List (Str×Addr)
 | [],acc=>acc
 | (n,k)::r,acc=>if k==.free then clOf cells r ((n,(cells.lookup n).getD 0)::acc) else clOf cells r acc
variable {env:Env}
def zdB{env:Env}(f:Str×NameKind->List (Str×Addr)->Sem (ForInStep<|List<|Str×Addr))
   (hf:∀ n k acc,f (n,k) acc=if k==.free then (do let c <-cellOf env n;pure (.yield ((n,c)::acc))) else pure (.yield acc)) :
   ∀ (names:List (Str×NameKind)) (acc:List (Str×Addr)),(∀ n,(n,AD)∈names->∃ c,env.cells.lookup n=some c)->(forIn names acc f:Sem (List<|Str×Addr))=pure (clOf env.cells names acc)
 | [],acc,_=>by rw[BQ];rfl
 | (n,k)::r,acc,h=>by
   rw[CK,hf];unfold clOf
   cases hk:k==AD with
   | false =>
     rw[if_neg (by simp),if_neg (by simp)];have:=zdB f hf r acc fun m hm=>h m<|Aj _ hm;rw[<-this];rfl
   | true =>
     rw[if_pos rfl,if_pos rfl];have hk':k=AD:=by simpa using hk
     obtain⟨c,hc⟩:=h n (by rw[hk'];exact Ak);have:=zdB f hf r ((n,c)::acc) fun m hm=>h m<|Aj _ hm;rw[hc,CA,<-this];unfold cellOf;rw[hc];rfl
variable {scope:Scope}
def ziD(h:∀ n,(n,AD)∈scope.names->∃ c,env.cells.lookup n=some c):closureFor scope env=pure (clOf env.cells scope.names []):=by unfold closureFor;have:=zdB (env:=env) (fun x acc=>(match x with | (n,k)=>if k==.free then (do let c <-cellOf env n;pure (.yield ((n,c)::acc))) else pure (.yield acc))) (fun _ _ _=>rfl) scope.names [] h;refine Eq.trans ?_ this;simp only[bind_pure]
variable {cells:List (Str×Addr)}
def zfV{cells:List (Str×Addr)}:∀ {names:List (Str×NameKind)} {acc:List (Str×Addr)} {p:Str×Addr},p∈clOf cells names acc->p∈acc\/((p.1,AD)∈names/\p.2=(cells.lookup p.1).getD 0)
 | [],acc,p,h=>.inl h
 | (n,k)::r,acc,p,h=>by
   unfold clOf at h
   cases hk:k==AD with
   | false =>
     rw[hk,if_neg (by simp)] at h
     rcases zfV h with h | h
     . exact .inl h
     exact .inr ⟨Aj _ h.1,h.2⟩
   | true =>
     rw[hk,if_pos rfl] at h;have hk':k=AD:=by simpa using hk
     rcases zfV h with h | h
     . rcases List.mem_cons.mp h with h | h
       . subst h;exact .inr ⟨by rw[hk'];exact Ak,rfl⟩
       exact .inl h
     exact .inr ⟨Aj _ h.1,h.2⟩
def zeN{cells:List (Str×Addr)}:∀ {names:List (Str×NameKind)} {acc:List (Str×Addr)} {x:Str},((x,AD)∈names\/(acc.lookup x).isSome=true)->((clOf cells names acc).lookup x).isSome=true
 | [],acc,x,h=>by
   rcases h with h | h
   . exact absurd h<|by simp
   exact h
 | (n,k)::r,acc,x,h=>by
   unfold clOf
   cases hk:k==AD with
   | false =>
     rw[if_neg (by simp)];refine zeN ?_
     rcases h with h | h
     . rcases List.mem_cons.mp h with h | h
       . have:k=AD:=(BO h).2.symm;rw[this] at hk;exact absurd hk<|by decide
       exact .inl h
     exact .inr h
   | true =>
     rw[if_pos rfl];refine zeN ?_
     by_cases hx:x=n
     . subst hx;exact .inr<|by simp
     . rcases h with h | h
       . rcases List.mem_cons.mp h with h | h
         . exact absurd (BO h).1 hx
         exact .inl h
       . refine .inr ?_;rw[AW];have:(x==n)=false:=by simpa using hx
         rw[this];exact h
def zet:∀ {names:List (Str×NameKind)} {n:Nat} {acc:List (Str×Addr)} {p:Str×Addr},p∈cellsFrom n names acc->p∈acc\/n<=p.2
 | [],_,_,_,h=>.inl h
 | (x,k)::r,n,acc,p,h=>by
   unfold cellsFrom at h
   split at h
   . rcases zet h with h | h
     . rcases List.mem_cons.mp h with h | h
       . subst h;exact .inr<|Af _
       exact .inl h
     exact .inr<|BL h
   exact zet h
def zc1:∀ {names:List (Str×NameKind)} {n:Nat} {acc:List (Str×Addr)},(acc.Pairwise fun x y=>x.2≠y.2)->(∀ p∈acc,p.2 < n)->(cellsFrom n names acc).Pairwise fun x y=>x.2≠y.2
 | [],_,_,h,_=>h
 | (x,k)::r,n,acc,h,hl=>by
   unfold cellsFrom
   split
   . refine zc1 (List.pairwise_cons.mpr ⟨fun y hy e=>?_,h⟩) fun p hp=>?_
     . have q:=hl y hy;have e':n=y.2:=e;rw[<-e'] at q;exact AK _ q
     . rcases List.mem_cons.mp hp with rfl | hp
       . exact EL _
       exact Dm<|hl p hp
   exact zc1 h hl
def zhT:∀ {names:List (Str×NameKind)} {n:Nat} {acc:List (Str×Addr)} {x:Str},((x,AM)∈names\/(acc.lookup x).isSome=true)->((cellsFrom n names acc).lookup x).isSome=true
 | [],n,acc,x,h=>by
   rcases h with h | h
   . exact absurd h<|by simp
   exact h
 | (m,k)::r,n,acc,x,h=>by
   unfold cellsFrom
   cases hk:k==AM with
   | false =>
     rw[if_neg (by simp)];refine zhT ?_
     rcases h with h | h
     . rcases List.mem_cons.mp h with h | h
       . have:k=AM:=(BO h).2.symm;rw[this] at hk;exact absurd hk<|by decide
       exact .inl h
     exact .inr h
   | true =>
     rw[if_pos rfl];refine zhT ?_
     by_cases hx:x=m
     . subst hx;exact .inr<|by simp
     . rcases h with h | h
       . rcases List.mem_cons.mp h with h | h
         . exact absurd (BO h).1 hx
         exact .inl h
       . refine .inr ?_;rw[AW];have:(x==m)=false:=by simpa using hx
         rw[this];exact h
def zes:∀ {names:List (Str×NameKind)} {n:Nat} {acc:List (Str×Addr)} {x:Str},(x,AM) ∉ names->(cellsFrom n names acc).lookup x=acc.lookup x
 | [],_,_,_,_=>rfl
 | (m,k)::r,n,acc,x,h=>by
   unfold cellsFrom
   cases hk:k==AM with
   | false=>rw[if_neg (by simp)];exact zes fun q=>h (Aj _ q)
   | true =>
     rw[if_pos rfl,zes fun q=>h (Aj _ q),AW];have hk':k=AM:=by simpa using hk
     have:(x==m)=false:=by
       cases e:x==m with
       | false=>rfl
       | true=>exact absurd (by rw[hk',show x=m by simpa using e];exact Ak) h
     rw[this]
def zhU:∀ {names:List (Str×NameKind)} {n:Nat} {acc:List (Str×Addr)} {x:Str} {c:Addr},(x,AM)∈names->(cellsFrom n names acc).lookup x=some c->n<=c
 | [],_,_,_,_,h,_=>absurd h<|by simp
 | (m,k)::r,n,acc,x,c,h,e=>by
   unfold cellsFrom at e
   cases hk:k==AM with
   | false =>
     rw[hk,if_neg (by simp)] at e
     rcases List.mem_cons.mp h with h | h
     . have:k=AM:=(BO h).2.symm;rw[this] at hk;exact absurd hk<|by decide
     exact zhU h e
   | true =>
     rw[hk,if_pos rfl] at e
     by_cases hr:(x,AM)∈r
     . exact BL<|zhU hr e
     . rw[zes hr] at e
       rcases List.mem_cons.mp h with h | h
       . have hx:x=m:=(BO h).1;subst hx;rw[List.lookup_cons_self] at e;exact Nat.le_of_eq<|Ay e
       exact absurd h hr
def zeo:∀ {names:List (Str×NameKind)} {h:Heap} {acc:List (Str×Addr)} {p:Str×Addr},p∈cellsFrom h.objs.size names acc->p∈acc\/(pushCells h names).IsCell p.2 none
 | [],_,_,_,h=>.inl h
 | (x,k)::r,h,acc,p,e=>by
   unfold cellsFrom at e;unfold pushCells
   split at e
   . rename_i hk;rw[if_pos hk];have sz:(h.push { cls:=.type "cell",data:=.cell none }).objs.size=h.objs.size+1:=Bm ..;rw[<-sz] at e
     rcases zeo e with q | q
     . rcases List.mem_cons.mp q with q | q
       . subst q;exact .inr ⟨_,CL _ _ _ _<|Am _ rfl,rfl⟩
       exact .inl q
     exact .inr q
   rename_i hk;rw[if_neg hk];exact zeo e
def zcK(X:Cx)(scope:Scope)(N':List Str)(cells:List (Str×Addr))(C:Addr)(s0:Shared)(H0:Hp)(ex:List Addr):Cx :=
 { X with N:=N',s₀:=s0,H₀:=H0,env:=compEnvC scope cells C X.env,outer:=X.stack,ex:=ex,fn:=fun x=>scope.names.any fun p=>p.1==x&&p.2==.cell,pn:=[],xe:=fun _ _=>False }
structure CompS(X:Cx)(scope:Scope)(N':List Str)(nt:Nat)(fr:List Nat):Prop where
 kind:scope.kind=.function
 nd:(scope.names.map (·.1)).Nodup
 len:N'.length=nt+fr.length
 cap:∀ (i j:Nat) (x:Str),fr[i]?=some j->N'[nt+i]?=some x->X.N[j]?=some x/\(x,AD)∈scope.names
 out:∀ x,(x,AD)∈scope.names->X.env.kindOf x=some .cell\/X.env.kindOf x=some .free
def lookup_mem:∀ {l:List (Str×NameKind)} {x:Str} {k:NameKind},(l.map (·.1)).Nodup->(x,k)∈l->l.lookup x=some k
 | [],_,_,_,h=>absurd h<|by simp
 | (n,j)::r,x,k,nd,h=>by
   rw[Aw,EV] at nd;rw[AW]
   rcases List.mem_cons.mp h with h | h
   . cases h;simp
   . have:x≠n:=fun e=>nd.1 (by rw[<-e];exact List.mem_map.mpr ⟨_,h,rfl⟩);have:(x==n)=false:=by simpa using this
     rw[this];exact lookup_mem nd.2 h
def zbo{env:Env}:∀ {l:List (Str×NameKind)} {x:Str} {k:NameKind},(l.map fun (n,k)=>if (k==AD&&env.scope.kind==.function&&env.kindOf n==some .cell) then (n,AM) else (n,k)).lookup x=some k ->
   ∃ k',l.lookup x=some k'/\(k'=k\/k'=.free)
 | [],_,_,h=>by simp at h
 | (n,j)::r,x,k,h=>by
   rw[Aw] at h;dsimp only at h
   by_cases hc:(j==AD&&env.scope.kind==.function&&env.kindOf n==some .cell)=true
   . rw[if_pos hc,AW] at h;rw[AW]
     cases hx:x==n with
     | true =>
       have:j=.free:=by rw[Al,Al] at hc;simpa using hc.1.1
       exact⟨j,rfl,.inr this⟩
     | false=>rw[hx] at h;exact zbo h
   . rw[if_neg hc,AW] at h;rw[AW]
     cases hx:x==n with
     | true=>rw[hx] at h;cases h;exact⟨j,rfl,.inl rfl⟩
     | false=>rw[hx] at h;exact zbo h
def zcp{env:Env}:∀ {l:List (Str×NameKind)} {x:Str},l.lookup x=some .free ->
   (l.map fun (n,k)=>if (k==AD&&env.scope.kind==.function&&env.kindOf n==some .cell) then (n,AM) else (n,k)).lookup x=some .cell \/
   (l.map fun (n,k)=>if (k==AD&&env.scope.kind==.function&&env.kindOf n==some .cell) then (n,AM) else (n,k)).lookup x=some .free
 | [],_,h=>by simp at h
 | (n,j)::r,x,h=>by
   rw[Aw];dsimp only;rw[AW] at h
   by_cases hc:(j==AD&&env.scope.kind==.function&&env.kindOf n==some .cell)=true
   . rw[if_pos hc,AW]
     cases hx:x==n with
     | true=>exact .inl rfl
     | false=>rw[hx] at h;exact zcp h
   . rw[if_neg hc,AW]
     cases hx:x==n with
     | true=>rw[hx] at h;cases h;exact .inr rfl
     | false=>rw[hx] at h;exact zcp h
variable {s:Shared}{N':List Str}{nt:Nat}{fr:List Nat}{pins:List (Addr×Obj)}{A:Around}{E:Value->Shared->Prop}{fp:List Addr}
noncomputable abbrev clX (X:Cx) (scope:Scope):List (Str×Addr):=clOf X.env.cells scope.names []
noncomputable abbrev zcL (X:Cx) (scope:Scope) (C:Nat):List (Str×Addr):=cellsFrom (C+1) scope.names (clX X scope)
def ziE(Z:CompS X scope N' nt fr)(ok:X.Ok){p:Str×Addr}(h:p∈clX X scope):(p.1,AD)∈scope.names/\X.env.cells.lookup p.1=some p.2:=by
 rcases zfV h with h | ⟨h1,h2⟩
 . exact absurd h<|by simp
 obtain⟨c,hc⟩:=ok.has p.1<|Z.out p.1 h1;rw[hc,CA] at h2;exact⟨h1,by rw[hc,h2]⟩
def zj5(Z:CompS X scope N' nt fr)(ok:X.Ok)(h:(x,AD)∈scope.names):∃ c,X.env.cells.lookup x=some c/\∀ C,(zcL X scope C).lookup x=some c:=by
 obtain⟨c,hc⟩:=ok.has x<|Z.out x h;refine⟨c,hc,fun C=>?_⟩;have no:(x,AM) ∉ scope.names:=fun q=>by have a:=lookup_mem Z.nd h;have b:=lookup_mem Z.nd q;rw[a] at b;cases b
 rw[zes no];have q:=zeN (cells:=X.env.cells) (acc:=[])<|.inl h;obtain⟨c',e⟩:=Option.isSome_iff_exists.mp q;have:=(ziE Z ok<|AL e).2;have this:X.env.cells.lookup x=some c':=this;rw[hc] at this;rw[e,this]
def zms(Z:CompS X scope N' nt fr)(ok:X.Ok):(clX X scope).Pairwise fun x y=>x.2≠y.2:=by
 have gen:∀ (names:List (Str×NameKind)) (acc:List (Str×Addr)),(∀ n,(n,AD)∈names->∃ c,X.env.cells.lookup n=some c)->(names.map (·.1)).Nodup->(∀ p∈acc,p.1 ∉ names.map (·.1)/\X.env.cells.lookup p.1=some p.2)->(acc.Pairwise fun x y=>x.2≠y.2) ->
     (clOf X.env.cells names acc).Pairwise fun x y=>x.2≠y.2:=by
   intro names
   induction names with
   | nil=>intro acc _ _ _ h;exact h
   | cons p r ih =>
     intro acc hf nd ha hp;obtain⟨n,k⟩:=p;rw[Aw,EV] at nd;unfold clOf
     cases hk:k==AD with
     | false =>
       rw[if_neg (by simp)];exact ih acc (fun m hm=>hf m (Aj _ hm)) nd.2 (fun q hq=>⟨fun z=>(ha q hq).1 (by rw[Aw];exact Aj _ z),(ha q hq).2⟩) hp
     | true =>
       rw[if_pos rfl];have hk':k=AD:=by simpa using hk
       obtain⟨c,hc⟩:=hf n (by rw[hk'];exact Ak);refine ih _ (fun m hm=>hf m (Aj _ hm)) nd.2 (fun q hq=>?_)<|List.pairwise_cons.mpr ⟨fun y hy e=>?_,hp⟩
       . rcases List.mem_cons.mp hq with rfl | hq
         . exact⟨nd.1,by rw[hc];rfl⟩
         exact⟨fun z=>(ha q hq).1 (by rw[Aw];exact Aj _ z),(ha q hq).2⟩
       have e1:(X.env.cells.lookup n).getD 0=y.2:=e;rw[hc,CA] at e1;have e2:=(ha y hy).2;rw[<-e1] at e2;have:=ok.inj _ _ _ e2 hc;exact (ha y hy).1 (by rw[this,Aw];exact Ak)
 exact gen scope.names [] (fun n hn=>ok.has n (Z.out n hn)) Z.nd (fun p hp=>absurd hp (by simp)) Cq
def zmr{Mq:Model}{cl:List (Str×Addr)}{Q:Env->Shared->Prop}
   (h:Q { scope:=scope,locals:=s.heap.objs.size,globals:=env.globals,cells:=cellsFrom (s.heap.objs.size+1) scope.names cl,qual:=env.qual,func:=none,code:=env.code,frame:=env.frame,builtins:=env.builtins }
     { s with heap:=pushCells (s.heap.push { cls:=.type "dict",data:=.dict #[] }) scope.names }) :
   wpAny Mq A (newFunctionEnv scope env.globals cl [] env.qual none .none<|some env) Q E s:=by
 simp only[newFunctionEnv,Eo,if_true];refine Aa<|wpAny_alloc ?_;refine Aa<|wpAny_layCells _ (fun name kind cells=>by cases hkc:kind==AM <;> simp[hkc]) _ _ _ _ ?_;rw[show ({ s with heap:=s.heap.push { cls:=.type "dict",data:=.dict #[] } }:Shared).heap.objs.size=s.heap.objs.size+1 from Bm ..];rw[BQ];exact Aa<|Ac<|Ac h
def zj4(M:L2.St)(nt:Nat)(fr:List Nat):L2.St:=Bk nt none++fr.map fun (j:Nat)=>(M[j]?).join
def zmd{fp:List Addr}(Z:CompS X scope N' nt fr)(I:Inv X pins M H s)(hf:∀ b∈fp,FpOk X pins H b)(hlt:∀ b∈fp,b < s.heap.objs.size) :
   Inv (zcK X scope N' (zcL X scope s.heap.objs.size) s.heap.objs.size s H fp) [] (zj4 M nt fr) H { s with heap:=pushCells (s.heap.push { cls:=.type "dict",data:=.dict #[] }) scope.names }:=by
 have ok:=I.ok;have kp:∀ b o,s.heap.get? b=some o->(pushCells (s.heap.push { cls:=.type "dict",data:=.dict #[] }) scope.names).get? b=some o:=fun b o e=>CL _ _ b o (Ad _ e);have clt:∀ p∈clX X scope,p.2 < s.heap.objs.size:=fun p hp=>by obtain⟨_,e⟩:=ziE Z ok hp;obtain⟨v,q⟩:=I.cell p.1 p.2 e;exact q.lt
 have sz:(s.heap.push { cls:=.type "dict",data:=.dict #[] }).objs.size=s.heap.objs.size+1:=Bm ..;have cells:∀ x c,(zcL X scope s.heap.objs.size).lookup x=some c->(X.env.cells.lookup x=some c)\/(s.heap.objs.size+1<=c/\(pushCells (s.heap.push { cls:=.type "dict",data:=.dict #[] }) scope.names).IsCell c none):=fun x c e=>by
   have m:=AL e
   rcases zet m with h | h
   . exact .inl (ziE Z ok h).2
   . refine .inr ⟨h,?_⟩;have m':(x,c)∈cellsFrom (s.heap.push { cls:=.type "dict",data:=.dict #[] }).objs.size scope.names (clX X scope):=by rw[sz];exact m
     rcases zeo m' with q | q
     . have l:=clt _ q;exact absurd (Az l (BL h)) (AK _)
     exact q
 refine⟨⟨ok.mod,Z.kind,ok.glob,ok.blt,Af _,fun x y c h1 h2=>?_,fun x hx=>?_,fun x c h1 h2=>?_,ok.hd,ok.frames,.inl rfl,fun b hb=>?_,I.bs,AC ok.bsz I.sz,fun b o e hb=>?_,fun b hb=>?_,I.stack,I.stkFree⟩,
   rfl,I.bare,Un.kept kp,⟨fun _=>none,?_,fun i x v h1 h2 h3=>?_⟩,fun x c e=>?_,I.hok.fresh (Af _),fun x c e=>?_,fun p hp=>absurd hp (by simp[zcK]),I.hok.kept kp,?_⟩
 . exact name_of_addr (zc1 (zms Z ok) fun p hp=>Dm (clt p hp)) (AL h1) (AL h2)
 . have hx:(relabel scope X.env).names.lookup x=some .cell\/(relabel scope X.env).names.lookup x=some .free:=hx;have q:(x,AM)∈scope.names\/(x,AD)∈scope.names:=by
     rcases hx with hx | hx
     . obtain⟨k',e,z | z⟩:=zbo hx
       . subst z;exact .inl (AL e)
       subst z;exact .inr (AL e)
     . obtain⟨k',e,z | z⟩:=zbo hx
       . subst z;exact .inr (AL e)
       subst z;exact .inr (AL e)
   refine Option.isSome_iff_exists.mp (zhT (n:=s.heap.objs.size+1) (acc:=clX X scope) ?_)
   rcases q with q | q
   . exact .inl q
   exact .inr (zeN (.inl q))
 . have h1:(scope.names.any fun p=>p.1==x&&p.2==AM)=true:=h1;obtain⟨p,hp,e⟩:=List.any_eq_true.mp h1;rw[Al] at e;have e1:p.1=x:=by simpa using e.1
   have e2:p.2=AM:=by simpa using e.2
   have hm:(x,AM)∈scope.names:=by rw[<-e1,<-e2];exact hp
   exact BL (zhU hm h2)
 . refine⟨Ar (hlt b hb),fun x c e z=>?_⟩
   rcases cells x c e with q | ⟨q,_⟩
   . exact (hf b hb).2.2.2.2.1 x c q z
   have l:=hlt b hb;rw[<-z] at l;exact absurd (Az l (BL q)) (AK _)
 . rcases (hf b hb).2.2.2.1 with z | z
   . exact ok.noex b o e z
   exact absurd (Az (Ai e) (AC ok.bsz z)) (AK _)
 . intro hs
   rcases List.mem_cons.mp (I.stkSub b hs) with e | e
   . exact (hf b hb).2.1 e
   exact (hf b hb).2.2.1 e
 . exact (Heap.Ns.new s.heap (.type "dict")).keeps (CL _ _)
 . -- a captured name
   have hi:nt<=i:=by
     by_cases hi:i < nt
     . unfold zj4 at h2;rw[Ap (by simpa using hi),BV,if_pos hi] at h2;cases h2
     omega
   obtain⟨i',rfl⟩:∃ i',i=nt+i':=⟨i - nt,by omega⟩
   unfold zj4 at h2;rw[AE (by simp),Bp,Nat.add_sub_cancel_left,Av] at h2
   cases ej:fr[i']? with
   | none=>rw[ej] at h2;cases h2
   | some j =>
     rw[ej] at h2;have h2:(M[j]?).join=some v:=Ay h2;have h2:M[j]?=some (some v):=by
       cases q:M[j]? with
       | none=>rw[q] at h2;cases h2
       | some w=>rw[q] at h2;cases w with
         | none=>cases h2
         | some w=>cases h2;rfl
     obtain⟨hN,hfree⟩:=Z.cap i' j x ej h1;obtain⟨c,hc,hcc⟩:=zj5 Z ok hfree;have ho:=Z.out x hfree;obtain⟨m,hn,hl⟩:=I.loc;obtain⟨u,r,l⟩:=hl j x v hN h2 (ho.elim (fun z=>.inr (.inl z)) fun z=>.inr (.inr z));refine⟨u,r,.inr ⟨?_,c,hcc _,?_⟩⟩
     . exact zcp (lookup_mem Z.nd hfree)
     . rcases l with ⟨k,_⟩ | ⟨_,c',e',z⟩
       . rcases ho with q | q
         . rw[k] at q;cases q
         rw[k] at q;cases q
       rw[hc] at e';cases e';exact z.keeps kp
 . rcases cells x c e with q | ⟨_,q⟩
   . obtain⟨v,z⟩:=I.cell x c q;exact⟨v,z.keeps kp⟩
   exact⟨none,q⟩
 . rcases cells x c e with q | ⟨q,_⟩
   . exact I.freeC x c q
   exact I.hok.fresh (BL q)
 show _=N'.length;unfold zj4;rw[Z.len,AZ,Bp,Ag]
noncomputable abbrev FF:Value->Shared->Prop:=fun _ _=>False
variable {elt:Expr}{ifs:List Expr}
def zg6{prog:Program}{R:Result->Shared->Prop}{s:Shared}{target:Expr}{it acc:Value}(I:Nat->Shared->Prop)
   (turn:∀ n s,I n s->wpAny (model prog w) A (pyNext it) (fun r s1=>match r with
     | none=>R (.ok .next) s1
     | some v=>wpAny (model prog w) A (letOwnedTupleGo target it v) (fun _ s1=>wpAny (model prog w) A (assign target env v) (fun _ s2 =>
         wpAny (model prog w) A (forIn ifs true fun c r=>if r=true then do let ok <-isTrue c env (eval c env);pure (CM ok) else pure (CM r)) (fun ok s3 =>
           if ok=true then wpAny (model prog w) A (eval elt env) (fun x s4 =>
             wpAny (model prog w) A (call (.builtin "list.append") [acc,x]) (fun _ s5=>∃ m,m < n/\I m s5) FF s4) FF s3
           else ∃ m,m < n/\I m s3) FF s2) FF s1) FF s1) FF s)
   (n:Nat) (h:I n s) :
   codeAny (model prog w) A (.compLoop (.ListComp elt [⟨target,iter,ifs,0⟩] scope pos) 0 it acc env) R s:=by
 refine codeAny_loop rfl I (fun n s hI=>?_) n h;show wpAny _ A ((compTurn (.ListComp elt [⟨target,iter,ifs,0⟩] scope pos) 0 it acc env).onRaise (fun x=>do noteFrame x env;theTreesLotGoes x)) _ _ s;refine wpAny_noted ?_;rw[compTurn_list];refine Aa<|Cy<|Aa<|Bj (turn n s hI) (fun r s₁ h₁=>?_) fun _ _ h'=>False.elim h'
 cases r with
 | none=>exact Ac h₁
 | some v =>
   refine Aa<|Bj h₁ (fun _ s₂ h₂=>?_) fun _ _ h'=>False.elim h';refine Aa<|Bj h₂ (fun _ s₂ h₂=>Aa (Bj h₂ (fun ok s₃ h₃=>?_) fun _ _ h'=>False.elim h')) fun _ _ h'=>False.elim h'
   cases ok with
   | false=>exact Ac ⟨rfl,h₃⟩
   | true =>
     exact Aa<|Aa<|Bj h₃ (fun x s₄ h₄=>Aa (Bj h₄ (fun _ s₅ h₅=>Ac (Ac ⟨rfl,h₅⟩)) fun _ _ h'=>False.elim h')) fun _ _ h'=>False.elim h'
def mCI(W:Wk)(g:MG)(c:MT)(m:ME):List D->Rho->Sto->Option (List D×Sto)
 | [],U,st=>if walked W st=true then some ([],st) else none
 | d::ds,U,st=>if walked W st=true then (g d U st).bind fun (U1,s1)=>(c U1 s1).bind fun (b,s2) =>
     if b=true then (m U1 s2).bind fun (x,s3)=>(mCI W g c m ds U1 s3).map fun (xs,s4)=>(x::xs,s4) else mCI W g c m ds U1 s2 else none
def rho0(U:Rho)(nt:Nat)(fr:List Nat):Rho:=Bk nt none++fr.map fun (j:Nat)=>(U[j]?).join
def zcH(mi:MI)(nt:Nat)(fr:List Nat)(g:MG)(c:MT)(m:ME):ME:=fun U st=>(mi U st).bind fun (W,s1)=>(mCI W g c m W.ds (rho0 U nt fr) s1).bind fun (xs,s2) =>
 if fits xs.length=true then some (.ref s2.length,s2++[.lst xs]) else none
def zbV:MT:=fun _ st=>some (true,st)
def SC(X:Cx)(ifs:List Expr)(m:MT):Prop:=∀ (pins:List (Addr×Obj)) (s:Shared) (M:L2.St) (H:Hp) (Q:Bool->Hp->Prop),Inv X pins M H s->tT X.K m M H Q ->
 wpAny (model X.prog X.w) X.A (forIn ifs true fun c r=>if r=true then do let ok <-isTrue c X.env (eval c X.env);pure (CM ok) else pure (CM r)) (TP X pins M Q) X.xe s
def zem:SC X [] zbV:=by rintro pins s M H Q I ⟨U,st,io,b,st',E,S,e,k⟩;cases e;rw[BQ];exact Ac ⟨H,I,k H [] Ext.refl S.nil⟩
def znj{m:MT}(h:SB X c m):SC X [c] m:=fun pins s M H Q I q=>PySem.wpAny_tests_one<|h pins s M H Q I q
def zml(h:EnvR K H io M U):EnvR K H io (zj4 M nt fr) (rho0 U nt fr):=by
 refine⟨by unfold zj4 rho0;simp,fun i d e=>?_⟩;unfold rho0 at e;unfold zj4
 by_cases hi:i < nt
 . rw[Ap (by simpa using hi),BV,if_pos hi] at e;cases e
 . rw[AE (by simpa using hi),Bp,Av] at e ⊢
   cases ej:fr[i - nt]? with
   | none=>rw[ej] at e;cases e
   | some j =>
     rw[ej] at e;have e:(U[j]?).join=some d:=Ay e;have e:U[j]?=some (some d):=by
       cases q:U[j]? with
       | none=>rw[q] at e;cases e
       | some w=>rw[q] at e;cases w with
         | none=>cases e
         | some w=>cases e;rfl
     obtain⟨v,hv,r⟩:=h.at_ j d e;exact⟨v,by simp[hv],r⟩
def adopt(S:StR K H io st)(hp:H p=some (.lst xs))(np:p ∉ io)(R:Reps K H io xs ds):StR K H (io++[p]) (st++[.lst ds]):=by
 refine⟨by simp[S.len],?_,fun n a ob h1 h2=>?_⟩
 . rw[EA];refine⟨S.nd,by simp,fun a ha b hb=>?_⟩;rw[List.mem_singleton.mp hb];rintro rfl;exact np ha
 . by_cases hn:n < io.length
   . rw[Ap hn] at h1;rw[Ap (by rw[<-S.len];exact hn)] at h2;exact OR.mono ⟨fun _ _ h=>h,fun _ _ _ h=>h⟩ rfl<|S.ob n a ob h1 h2
   . have hl:n < (io++[p]).length:=(List.getElem?_eq_some_iff.mp h1).1;rw[AZ,CG] at hl;have e:n=io.length:=by omega
     subst e;rw[AE (Af _),B6] at h1;rw[S.len,AE (Af _),B6] at h2
     cases (Ay h1)
     cases (Ay h2)
     exact⟨xs,hp,Reps.mono ⟨fun _ _ h=>h,fun _ _ _ h=>h⟩ R⟩
section
variable {g:MG} {c:MT}
structure CompEnd(X:Cx)(pins:List (Addr×Obj))(M:L2.St)(H:Hp)(io:List Addr)(d:D)(st':Sto)(Dd C:Addr)(H5:Hp)(s6:Shared):Prop where
 inv:Inv X pins M H5 s6
 ns:∃ m,s6.heap.Ns C m
 free:H5 C=none
 ne:C≠X.env.locals
 young:X.s₀.heap.objs.size<=C
 cells:∀ x c,X.env.cells.lookup x=some c->c≠C
 pin:∀ p∈X.pn++pins,p.1≠C
 val:∃ ka,Ext io ka H H5/\StR X.K H5 (io++ka) st'/\Rep X.K H5 (io++ka) (.ref Dd) d
inductive CompI (X Y:Cx) (W:Wk) (tn:Nat->Heap->Prop) (fp io:List Addr) (H1:Hp) (Dd:Addr) (g:MG) (c:MT) (m:ME) (t2:Sto) (xs:List D) (n:Nat) (s5:Shared):Prop
 | mk (i:Nat) (M5:L2.St) (H5:Hp) (U5:Rho) (st5:Sto) (k5:List Addr) (ac rs:List D) (h0:n=W.ds.length - i) (h1:Inv Y [] M5 H5 s5) (h2:tn i s5.heap) (h3:∀ b∈fp,H5 b=none) (h4:Ext io k5 H1 H5) (h5:Dd ∉ k5) (h6:StR X.K H5 (io++k5) st5) (h7:EnvR X.K H5 (io++k5) M5 U5) (h8:∃ vs,H5 Dd=some (.lst vs)/\Reps X.K H5 (io++k5) vs ac) (h9:mCI W g c m (W.ds.drop i) U5 st5=some (rs,t2)) (h10:xs=ac++rs)
def ziC(hx:X.xe=FF)(hc:X.calm=true)(Z:CompS X scope N' nt fr)(hi:SI X tg iter mi)
   (hg:∀ C s0 H0 fp,SG (zcK X scope N' (zcL X scope C) C s0 H0 fp) tg g) (ht:∀ C s0 H0 fp,SC (zcK X scope N' (zcL X scope C) C s0 H0 fp) ifs c) (he:∀ C s0 H0 fp,SE (zcK X scope N' (zcL X scope C) C s0 H0 fp) elt m)
   (hs:∀ x,foldedSetIterable iter X.env x=pure x)         {use:Option (Value->Sem Unit)} {Qf:Value->Shared->Prop} {ps:Pos}
   (I:Inv X pins M H s) (E:EnvR X.K H io M U) (S:StR X.K H io st) (e:zcH mi nt fr g c m U st=some (d,st'))
   (kf:∀ Dd C H5 s6,CompEnd X pins M H io d st' Dd C H5 s6->compPost (model X.prog X.w) X.A X.xe use Qf (.ref Dd) C (.ok .next) s6) :
   wpAny (model X.prog X.w) X.A (comprehension (.ListComp elt [⟨tg,iter,ifs,0⟩] scope pos) scope X.env ps (newList []) false (eval iter X.env) use) Qf X.xe s:=by
 obtain⟨⟨W,t1⟩,e1,e⟩:=zaf e;obtain⟨⟨xs,t2⟩,e2,e⟩:=zaf e;obtain⟨hfit,e⟩:=zao e;cases e;refine wpAny_comprehension_free (use:=use) rfl hs (ziD fun n hn=>I.ok.has n (Z.out n hn)) Z.kind (fun x hx hl=>by
   obtain⟨n,k⟩:=x
   cases (show k=.local from hl)
   exact lookup_mem Z.nd hx) ?_
 refine thn (hi pins s M H (fun J H1=>∃ ka,Ext io ka H H1/\StR X.K H1 (io++ka) t1/\ItOk X.K H1 (io++ka) W J) I ⟨U,st,io,W,t1,E,S,e1,fun J H' ka X' S' O'=>⟨ka,X',S',O'⟩⟩) fun v sa ha=>?_;refine thn ha ?_;rintro itv s2 ⟨it,fp,tn,J,H1,eit,I1,T,tn0,fpok,k1,X1,S1,IO⟩;subst eit;refine AJ ?_
 -- the new list
 have hD:H1 s2.heap.objs.size=none:=I1.hok.fresh (Af _);have I3:Inv X pins M (upd H1 s2.heap.objs.size (.lst [])) { s2 with heap:=s2.heap.push { cls:=.type "list",data:=.seq ([]:List Value).toArray },toks:=s2.toks }:=I1.lnew .nil (A3 _);obtain⟨X2,S2a⟩:=zgm (o:=.lst []) S1 hD;rw[Ao] at S2a;have S2:StR X.K (upd H1 s2.heap.objs.size (.lst [])) (io++k1) t1:=S2a;clear S2a;generalize hH3:upd H1 s2.heap.objs.size (.lst [])=H3 at I3 X2 S2;have H3D:H3 s2.heap.objs.size=some (.lst []):=by rw[<-hH3];exact zbg
 generalize hD':s2.heap.objs.size=Dd at hD I3 X2 S2 hH3 H3D ⊢;generalize hs3:({ s2 with heap:=s2.heap.push { cls:=.type "list",data:=.seq ([]:List Value).toArray },toks:=s2.toks }:Shared)=s3 at I3;have fplt:∀ b∈fp,b < s3.heap.objs.size:=fun b hb=>by obtain⟨o,ho,_⟩:=T.obj 0 _ tn0 b hb;rw[<-hs3];exact Az (Ai ho) (by show _<=(s2.heap.push _).objs.size;rw[Bm];exact Cv _)
 have fpD:∀ b∈fp,b≠Dd:=fun b hb z=>by obtain⟨o,ho,_⟩:=T.obj 0 _ tn0 b hb;have:=Ai ho;rw[z,<-hD'] at this;exact AK _ this
 have fp3:∀ b∈fp,FpOk X pins H3 b:=fun b hb=>⟨by rw[<-hH3,zax (fpD b hb)];exact (fpok b hb).1,(fpok b hb).2⟩
 have tn3:tn 0 s3.heap:=T.keep 0 _ _ tn0 fun b _ o ho=>by rw[<-hs3];exact Ad _ ho
 refine zmr ?_;have I4:=zmd (fp:=fp) Z I3 fp3 fplt;have tn4:tn 0 (pushCells (s3.heap.push { cls:=.type "dict",data:=.dict #[] }) scope.names):=T.keep 0 _ _ tn3 fun b _ o ho=>CL _ _ _ _ (Ad _ ho);generalize hs4:({ s3 with heap:=pushCells (s3.heap.push { cls:=.type "dict",data:=.dict #[] }) scope.names }:Shared)=s4 at I4;have tn4:tn 0 s4.heap:=by rw[<-hs4];exact tn4
 show codeAny (model X.prog X.w) X.A (.compStart (.ListComp elt [⟨tg,iter,ifs,0⟩] scope pos) 0 (.ref it) (.ref Dd) (zcK X scope N' (zcL X scope s3.heap.objs.size) s3.heap.objs.size s3 H3 fp).env) _ _;generalize hY:zcK X scope N' (zcL X scope s3.heap.objs.size) s3.heap.objs.size s3 H3 fp=Y at I4;have yP:Y.prog=X.prog:=by rw[<-hY];rfl
 have yW:Y.w=X.w:=by rw[<-hY];rfl
 have yK:Y.K=X.K:=by rw[<-hY];rfl
 have yC:Y.calm=true:=by rw[<-hY];exact hc
 have yA:Y.A=X.A:=by rw[<-hY];rfl
 have yx:Y.xe=FF:=by rw[<-hY];rfl
 have hg:=hg s3.heap.objs.size s3 H3 fp;have ht:=ht s3.heap.objs.size s3 H3 fp;have he:=he s3.heap.objs.size s3 H3 fp;rw[hY] at hg ht he;have yex:Y.ex=fp:=by rw[<-hY];rfl
 have yfs:∀ b∈fp,b ∉ Y.fs:=fun b hb hs=>by
   rw[<-hY] at hs;have hs:b∈frs X.stack:=hs
   rcases List.mem_cons.mp (I3.stkSub b hs) with z | z
   . exact (fp3 b hb).2.1 z
   exact (fp3 b hb).2.2.1 z
 have yL:Y.env.locals=s3.heap.objs.size:=by rw[<-hY];rfl
 -- the loop
 have hio:Dd ∉ io++k1:=fun hm=>by obtain⟨u,hu,_⟩:=S1.mem hm;rw[hD] at hu;cases hu
 have start:∀ {H':Hp} {sx:Shared} {M':L2.St},Inv Y [] M' H' sx->(∀ b∈fp,H' b=none)->∀ b∈fp,FpOk Y [] H' b:=fun {H' sx M'} I' hn b hb=>by
   refine⟨hn b hb,fun z=>?_,yfs b hb,.inl (by rw[yex];exact hb),fun x cc e z=>?_,fun p hp=>absurd hp (by rw[<-hY];simp[zcK])⟩
   . rw[yL] at z;exact absurd (fplt b hb) (by rw[z];exact AK _)
   exact (I'.ok.exf b (by rw[yex];exact hb)).2 x cc e z
 have loop:∀ sx:Shared,Inv Y [] (zj4 M nt fr) H3 sx->tn 0 sx.heap->codeAny (model X.prog X.w) X.A (.compLoop (.ListComp elt [⟨tg,iter,ifs,0⟩] scope pos) 0 (.ref it) (.ref Dd) Y.env) (compPost (model X.prog X.w) X.A X.xe use Qf (.ref Dd) s3.heap.objs.size) sx:=by
   intro sx Ix tnx;refine zg6 (CompI X Y W tn fp (io++k1) H1 Dd g c m t2 xs) ?_ (W.ds.length - 0)
     ⟨0,zj4 M nt fr,H3,rho0 U nt fr,t1,[],[],xs,rfl,Ix,tnx,fun b hb=>(fp3 b hb).1,X2,by simp,S2.nil,by rw[Ao];exact zml (by have:=(E.ext S X1).ext S1 X2;rw[Ao] at this;exact this),⟨[],H3D,rfl⟩,by rw[Fk];exact e2,rfl⟩
   rintro n s5 ⟨i,M5,H5,U5,st5,k5,ac,rs,rfl,I5,tn5,fr5,X25,nk5,S5,E5,⟨vs,hvs,Rvs⟩,e5,exs⟩;have nD:∀ {kk:List Addr},Dd ∉ kk->Dd ∉ (io++k1)++kk:=fun {kk} hk hm=>(List.mem_append.mp hm).elim hio hk;have nF:∀ {kk jj:List Addr} {Ha Hb:Hp} {vv:List V},Ext jj kk Ha Hb->Ha Dd=some (.lst vv)->Dd ∉ kk:=fun {kk jj Ha Hb vv} Xx hv hm=>by have q:=Xx.fresh Dd hm;rw[hv] at q;cases q
   cases hd:W.ds[i]? with
   | none =>
     have hl:W.ds.length<=i:=List.getElem?_eq_none_iff.mp hd;rw[Cu hl] at e5;obtain⟨hw,e5⟩:=zao e5;cases e5;have:=T.done Y yP yW yK yC i [] s5 M5 H5 FF I5 (start I5 fr5) tn5 (IO.stop' H5 k5 _ i hl X25 S5 (zcB hw));rw[yA] at this;refine thn this ?_;rintro r s6 ⟨hr,I6⟩;subst hr;obtain⟨mm,hn,_⟩:=id I6.loc;rw[yL] at hn
     -- back in the frame
     have base:Un (frs X.stack) fp H3 H5 s3.heap s6.heap:=by have b:=I6.base;rw[<-hY] at b;exact b
     have os:s6.os=s3.os:=by have b:=I6.os;rw[<-hY] at b;exact b
     have free:H5 s3.heap.objs.size=none:=by have b:=I6.free;rw[yL] at b;exact b
     have hok:HOk X.prog X.w H5 s6.heap:=by have b:=I6.hok;rw[yP,yW] at b;exact b
     have I7:Inv X pins M H5 s6:=Inv.call' (s':=s6) (ch:=fp) I3 os base hok I6.bare fun b hb=>⟨(fp3 b hb).2.2.2.1,(fp3 b hb).2.1,(fp3 b hb).2.2.2.2.1,(fp3 b hb).2.2.2.2.2⟩
     have np:Dd ∉ (io++k1)++k5:=nD nk5;rw[Ao] at exs;subst exs;have SA:=adopt S5 hvs np Rvs;have X6:Ext io (k1++k5) H H5:=X1.trans S1 X25;have lt3:X.env.locals < s3.heap.objs.size:=I3.lt;refine kf Dd s3.heap.objs.size H5 s6 ⟨I7,⟨mm,hn⟩,free,Cj lt3,I3.sz,fun x cc e z=>?_,fun p hp z=>?_,?_⟩
     . obtain⟨vv,q⟩:=I3.cell x cc e;have:=q.lt;rw[z] at this;exact AK _ this
     . have:=Ai (I3.pin p hp).1;rw[z] at this;exact AK _ this
     refine⟨(k1++k5)++[Dd],⟨fun b o hb nb=>X6.keep b o hb nb,fun b hb=>?_,X6.frz⟩,(by simpa using SA),⟨Dd,rfl,?_⟩⟩
     . rcases List.mem_append.mp hb with hb | hb
       . exact X6.fresh b hb
       . rw[List.mem_singleton.mp hb]
         cases q:H Dd with
         | none=>rfl
         | some o =>
           by_cases hb:Dd∈io
           . exact absurd (BN _ hb) hio
           have:=X1.keep Dd o q hb;rw[hD] at this;cases this
     have:=getElem?_len ((io++k1)++k5) Dd;rw[<-S5.len];simpa using this
   | some dd =>
     have hl:i < W.ds.length:=(List.getElem?_eq_some_iff.mp hd).1;have hdr:W.ds.drop i=dd::W.ds.drop (i+1):=by rw[Dq hl,(List.getElem?_eq_some_iff.mp hd).2]
     rw[hdr] at e5;obtain⟨hw,e5⟩:=zao e5;obtain⟨⟨U6,t6⟩,e6,e5⟩:=zaf e5;obtain⟨⟨b7,t7⟩,e7,e5⟩:=zaf e5;obtain⟨go,yl⟩:=IO.go i dd H5 k5 st5 hd X25 S5 (zcB hw);have hit:=T.item Y yP yW yK yC i [] s5 M5 H5 FF I5 (start I5 fr5) tn5 go;rw[yA] at hit;refine thn hit ?_;rintro r s6 ⟨u,hr,h6⟩;subst hr;refine thn h6 ?_;rintro _ s7 ⟨x,H7,I7,r7,y7,tn7,fr7⟩;obtain⟨X7,S7,R7⟩:=yl x H7 y7;have X57:Ext (io++k1) k5 H1 H7:=(X25.trans S5 X7).app;have hv7:H7 Dd=some (.lst vs):=X7.keep _ _ hvs (nD nk5);have E7:EnvR X.K H7 ((io++k1)++k5) M5 U5:=by have:=E5.ext S5 X7;rw[Ao] at this;exact this
     have R7v:Reps X.K H7 ((io++k1)++k5) vs ac:=by have:=Rvs.ext S5 X7;rw[Ao] at this;exact this
     have I7p:=I7.pinned (start I7 fr7) (T.obj _ _ tn7);rw[<-yA,<-yP,<-yW];rw[<-yx];refine thn (hg _ s7 M5 H7 x u (fun M8 H8=>∃ k8,Ext ((io++k1)++k5) k8 H7 H8/\StR X.K H8 (((io++k1)++k5)++k8) t6/\EnvR X.K H8 (((io++k1)++k5)++k8) M8 U6) I7p r7 (by rw[yK];exact⟨dd,U5,st5,(io++k1)++k5,U6,t6,R7,E7,S7,e6,fun M8 H8 k8 X8 S8 E8=>⟨k8,X8,S8,E8⟩⟩)) ?_;rintro _ s8 ⟨M8,H8,I8,k8,X8,S8,E8⟩;have S8':StR X.K H8 ((io++k1)++(k5++k8)) t6:=by rw[<-An];exact S8
     have E8':EnvR X.K H8 ((io++k1)++(k5++k8)) M8 U6:=by rw[<-An];exact E8
     have X38:Ext (io++k1) (k5++k8) H1 H8:=X57.trans S7 X8;have nk8:Dd ∉ k5++k8:=fun hm=>(List.mem_append.mp hm).elim nk5 (nF X8 hv7);refine thn (ht _ s8 M8 H8 (fun b H9=>b=b7/\∃ k9,Ext ((io++k1)++(k5++k8)) k9 H8 H9/\StR X.K H9 (((io++k1)++(k5++k8))++k9) t7) I8 (by rw[yK];exact⟨U6,t6,(io++k1)++(k5++k8),b7,t7,E8',S8',e7,fun H9 k9 X9 S9=>⟨rfl,k9,X9,S9⟩⟩)) ?_;rintro ok s9 ⟨H9,I9,eb,k9,X9,S9⟩;subst eb;have X39:Ext (io++k1) ((k5++k8)++k9) H1 H9:=X38.trans S8' X9;have S9':StR X.K H9 ((io++k1)++((k5++k8)++k9)) t7:=by rw[<-An];exact S9
     have E9:EnvR X.K H9 ((io++k1)++((k5++k8)++k9)) M8 U6:=by have:=E8'.ext S8' X9;rw[An] at this;exact this
     have hv8:H8 Dd=some (.lst vs):=X8.keep _ _ hv7 (nD nk5);have hv9:H9 Dd=some (.lst vs):=X9.keep _ _ hv8 (nD nk8);have nk9:Dd ∉ (k5++k8)++k9:=fun hm=>(List.mem_append.mp hm).elim nk8 (nF X9 hv8);have R8v:Reps X.K H8 ((io++k1)++(k5++k8)) vs ac:=by have:=R7v.ext S7 X8;rw[An] at this;exact this
     have R9v:Reps X.K H9 ((io++k1)++((k5++k8)++k9)) vs ac:=by have:=R8v.ext S8' X9;rw[An] at this;exact this
     have back:∀ {Hx:Hp} {sx:Shared} {Mx:L2.St},Inv Y ([]++zhQ fp s7.heap) Mx Hx sx->Inv Y [] Mx Hx sx/\tn (i+1) sx.heap/\∀ b∈fp,Hx b=none:=fun {Hx sx Mx} Ix=>by refine⟨Ix.unpinned,T.keep _ _ _ tn7 fun b hb o e=>(Ix.pin (b,o) (AO _ (AO _ (zcG hb e)))).1,fun b hb=>?_⟩;obtain⟨o,e,dn⟩:=T.obj _ _ tn7 b hb;exact (Ix.pin (b,o) (AO _ (AO _ (zcG hb e)))).2.1
     cases ok with
     | false =>
       rw[if_neg (by decide)];have e5:mCI W g c m (W.ds.drop (i+1)) U6 t7=some (rs,t2):=e5;obtain⟨Ib,tnb,frb⟩:=back I9;exact⟨W.ds.length - (i+1),by omega,i+1,M8,H9,U6,t7,(k5++k8)++k9,ac,rs,rfl,Ib,tnb,frb,X39,nk9,S9',E9,⟨vs,hv9,R9v⟩,e5,exs⟩
     | true =>
       rw[if_pos rfl];have e5:((m U6 t7).bind fun (x,s3)=>(mCI W g c m (W.ds.drop (i+1)) U6 s3).map fun (xs,s4)=>(x::xs,s4))=some (rs,t2):=e5;obtain⟨⟨x10,t10⟩,e10,e5⟩:=zaf e5;obtain⟨⟨rs',t11⟩,e11,e5⟩:=zaj e5;cases e5;refine thn (he _ s9 M8 H9 (fun v H10=>∃ k10,Ext ((io++k1)++((k5++k8)++k9)) k10 H9 H10/\StR X.K H10 (((io++k1)++((k5++k8)++k9))++k10) t10/\Rep X.K H10 (((io++k1)++((k5++k8)++k9))++k10) v x10) I9
         (by rw[yK];exact⟨U6,t7,(io++k1)++((k5++k8)++k9),x10,t10,E9,S9',e10,fun v H10 k10 X10 S10 R10=>⟨k10,X10,S10,R10⟩⟩)) fun u10 s10 ⟨v10,H10,I10,r10,k10,X10,S10,R10⟩=>?_
       have X310:Ext (io++k1) (((k5++k8)++k9)++k10) H1 H10:=X39.trans S9' X10;have nk10:Dd ∉ ((k5++k8)++k9)++k10:=fun hm=>(List.mem_append.mp hm).elim nk9 (nF X10 hv9);have S10':StR X.K H10 ((io++k1)++(((k5++k8)++k9)++k10)) t10:=by rw[<-An];exact S10
       have hv10:H10 Dd=some (.lst vs):=X10.keep _ _ hv9 (nD nk9);have E10:EnvR X.K H10 ((io++k1)++(((k5++k8)++k9)++k10)) M8 U6:=by have:=E9.ext S9' X10;rw[An] at this;exact this
       have R10v:Reps X.K H10 ((io++k1)++(((k5++k8)++k9)++k10)) (vs++[v10]) (ac++[x10]):=by have a:=R9v.ext S9' X10;rw[An] at a;rw[An] at R10;exact a.append (Reps.cons R10 Reps.nil)
       have hlen:vs.length < sizeLine:=by rw[R9v.length];have:=of_decide_eq_true hfit;rw[exs] at this;simp at this;omega
       refine thn (zgo _ s10 M8 H10 (.ref Dd) [v10] (.ref Dd) [u10] (fun _ H11=>H11=upd H10 Dd (.lst (vs++[v10]))) I10 rfl (.cons r10 .nil) ⟨Dd,vs,v10,rfl,rfl,hv10,hlen,rfl⟩) ?_;rintro _ s11 ⟨_,H11,I11,_,e11'⟩;subst e11';have nD10:=nD nk10
       -- the new list is written: nothing of the store
       have XU:∀ b o,H10 b=some o->b≠Dd->upd H10 Dd (.lst (vs++[v10])) b=some o:=fun b o hb hn=>by rw[zax hn];exact hb
       have TU:Kp H10 (upd H10 Dd (.lst (vs++[v10]))):=⟨fun a ys hb=>XU a _ hb (zpO hb hv10 (by simp)),fun a o u hb=>XU a _ hb (zpO hb hv10 (by simp))⟩
       have S11:StR X.K (upd H10 Dd (.lst (vs++[v10]))) ((io++k1)++(((k5++k8)++k9)++k10)) t10:=by refine⟨S10'.len,S10'.nd,fun n a ob h1 h2=>?_⟩;have hne:a≠Dd:=fun z=>nD10 (by rw[<-z];exact AG h1);have:=OR.mono (ka:=[]) TU (zax hne) (S10'.ob n a ob h1 h2);rw[Ao] at this;exact this
       have mono0:∀ {v:V} {d:D},Rep X.K H10 ((io++k1)++(((k5++k8)++k9)++k10)) v d->Rep X.K (upd H10 Dd (.lst (vs++[v10]))) ((io++k1)++(((k5++k8)++k9)++k10)) v d:=fun {v d} h=>by have:=Rep.mono (ka:=[]) TU h;rw[Ao] at this;exact this
       have mono1:∀ {v:List V} {d:List D},Reps X.K H10 ((io++k1)++(((k5++k8)++k9)++k10)) v d->Reps X.K (upd H10 Dd (.lst (vs++[v10]))) ((io++k1)++(((k5++k8)++k9)++k10)) v d:=fun {v d} h=>by have:=Reps.mono (ka:=[]) TU h;rw[Ao] at this;exact this
       obtain⟨Ib,tnb,frb⟩:=back I11;refine⟨W.ds.length - (i+1),by omega,i+1,M8,upd H10 Dd (.lst (vs++[v10])),U6,t10,((k5++k8)++k9)++k10,ac++[x10],rs',rfl,Ib,tnb,frb,⟨fun b o hb nb=>XU b o (X310.keep b o hb nb) (fun z=>by rw[z,hD] at hb;cases hb),X310.fresh,fun b o u hb=>XU b _ (X310.frz b o u hb) (fun z=>by rw[z,hD] at hb;cases hb)⟩,nk10,S11,⟨E10.len,fun j dj hj=>?_⟩,⟨_,zbg,mono1 R10v⟩,e11,by rw[exs,An];rfl⟩;obtain⟨v,q,r⟩:=E10.at_ j dj hj;exact⟨v,q,mono0 r⟩
 have l4:=loop s4 I4 tn4;exact codeAny_compStart_list l4 (T.self _ 0 _ _ _ tn4 l4)
def zc8(hx:X.xe=FF)(hc:X.calm=true)(Z:CompS X scope N' nt fr)(hi:SI X tg iter mi)
   (hg:∀ C s0 H0 fp,SG (zcK X scope N' (zcL X scope C) C s0 H0 fp) tg g) (ht:∀ C s0 H0 fp,SC (zcK X scope N' (zcL X scope C) C s0 H0 fp) ifs c) (he:∀ C s0 H0 fp,SE (zcK X scope N' (zcL X scope C) C s0 H0 fp) elt m)
   (hs:∀ x,foldedSetIterable iter X.env x=pure x:=by intro _;rfl):SE X (.ListComp elt [⟨tg,iter,ifs,0⟩] scope pos) (zcH mi nt fr g c m):=by
 rintro pins s M H Q I ⟨U,st,io,d,st',E,S,e,k⟩;rw[eval_ListComp];refine ziC (use:=none) hx hc Z hi hg ht he hs I E S e fun Dd C H5 s6 R=>?_;obtain⟨m5,hn⟩:=R.ns;refine⟨m5,hn,fun h' hsb=>?_⟩;obtain⟨ka,X5,S5,R5⟩:=R.val;exact⟨.ref Dd,H5,R.inv.turned (t':=s6.toks) (it:=C) (fun b o hb q=>(hsb.2 b hb).trans q) R.free R.ne (.inr R.young) R.cells R.pin,rfl,k _ _ ka X5 S5 R5⟩
def zcR{x:Str}{spos:Pos}(hx:X.xe=FF)(hc:X.calm=true)(Z:CompS X scope N' nt fr)(hi:SI X tg iter mi)
   (hg:∀ C s0 H0 fp,SG (zcK X scope N' (zcL X scope C) C s0 H0 fp) tg g) (ht:∀ C s0 H0 fp,SC (zcK X scope N' (zcL X scope C) C s0 H0 fp) ifs c) (he:∀ C s0 H0 fp,SE (zcK X scope N' (zcL X scope C) C s0 H0 fp) elt m)
   (hN:X.N.Nodup) (hi':X.N[i]?=some x) (hl:X.env.scope.names.lookup x=some .local)
   (hsw:swapsWith (.ListComp elt [⟨tg,iter,ifs,0⟩] scope pos) (some<|.Name x pos') spos.line X.env=pure true:=by rfl)
   (hs:∀ x,foldedSetIterable iter X.env x=pure x:=by intro _;rfl):SS X (.Assign [.Name x pos'] (.ListComp elt [⟨tg,iter,ifs,0⟩] scope pos) spos) (mAsg (zcH mi nt fr g c m)<|gNm i):=by
 intro pins s M H N I h;obtain⟨U,st,io,f,st',E,S,e,w⟩:=zcQ.mp h;obtain⟨⟨d,s1⟩,e1,e⟩:=zaf e;obtain⟨⟨U',s2⟩,e2,e⟩:=zaj e;cases e;cases e2;rw[exec_Assign_Name_used _ _ _ _ hsw];refine Aa<|Cy<|Aa ?_;show wpAny _ X.A (do let _ <-comprehension (.ListComp elt [⟨tg,iter,ifs,0⟩] scope pos) scope X.env _ (newList []) false (eval iter X.env) (some<|assign (.Name x pos') X.env)) _ _ s;refine Aa<|thn (ziC (use:=some (assign (.Name x pos') X.env)) (Qf:=fun _ s'=>SP X pins N .next s') hx hc Z hi hg ht he hs I E S e1 fun Dd C H5 s6 R=>?_) fun _ s' hq=>Ac (Ac hq);obtain⟨m5,hn⟩:=R.ns;obtain⟨ka,X5,S5,R5⟩:=R.val;show wpAny _ _ (assign (.Name x pos') X.env<|.ref Dd) _ _ _;refine Ex<|zf7 (v:=.ref Dd) R.inv hN hi' (.inl hl) rfl (?_)<|.inr hl;rintro s7 I7 ⟨a,sb,ha⟩;have hCa:C≠a:=fun z=>by
   rcases ha with q | q
   . exact R.ne<|z.trans q
   exact R.cells _ _ q z.symm
 refine⟨m5,hn.sameBut sb hCa,fun h' hsb=>?_⟩;refine⟨_,H5,I7.turned (t':=s7.toks) (it:=C) (fun b o hb q=>(hsb.2 b hb).trans q) R.free R.ne (.inr R.young) R.cells R.pin,?_⟩;exact w _ _ ka X5 S5<|(E.ext S X5).set i R5
end
variable {v:V}
def addD:G2
 | .int i,.int j,st=>some (.int (i+j),st)
 | .str a,.str b,st=>if fits (a.length+b.length)=true then some (.str (a++b),st) else none
 | .tup a,.tup b,st=>if (!a.isEmpty&&fits (a.length+b.length))=true then some (.tup (a++b),st) else none
 | .ref a,.ref b,st=>match st[a]?,st[b]? with
   | some (.lst x),some (.lst y)=>if fits (x.length+y.length)=true then some (.ref st.length,st++[.lst (x++y)]) else none
   | _,_=>none
 | _,_,_=>none
def zav:OpM X (binaryOp .Add) addD:=by
 rintro pins s M H x y v u Q I rx ry ⟨dx,dy,st,io,d,st',Rx,Ry,S,e,k⟩
 cases dx with
 | int i =>
   cases dy with
   | int j=>cases e;exact zpM pins s M H x y v u Q I rx ry ⟨i,j,Rx,Ry,k.now S rfl⟩
   | _=>cases e
 | str i =>
   cases dy with
   | str j =>
     obtain⟨hf,e⟩:=zao e
     cases e;exact zhZ pins s M H x y v u Q I rx ry ⟨i,j,Rx,Ry,of_decide_eq_true hf,k.now S rfl⟩
   | _=>cases e
 | tup i =>
   cases dy with
   | tup j =>
     obtain⟨hf,e⟩:=zao e;cases e;rw[Al] at hf;obtain⟨p,xs,ex,hp,r1⟩:=Rx;obtain⟨q,ys,ey,hq,r2⟩:=Ry;refine znK pins s M H x y v u Q I rx ry ⟨p,q,xs,ys,ex,ey,SqT.of hp,SqT.of hq,fun z=>?_,by rw[r1.length,r2.length];exact of_decide_eq_true hf.2,fun z=>?_,fun z p hp=>k.tup S (r1.append r2) hp⟩
     . have:=r1.length;rw[z] at this;have:i=[]:=Bu this.symm;rw[this] at hf;exact absurd hf.1<|by decide
     have:=r2.length;rw[z] at this;have:j=[]:=Bu this.symm;subst this;rw[Ao] at k;exact k.now S ⟨p,xs,rfl,hp,r1⟩
   | _=>cases e
 | ref i =>
   cases dy with
   | ref j =>
     unfold addD at e;dsimp only at e
     split at e
     . rename_i l1 l2 e1 e2;obtain⟨hf,e⟩:=zao e;cases e;obtain⟨p,ex,hp⟩:=Rx;obtain⟨q,ey,hq⟩:=Ry;obtain⟨xs,h1,r1⟩:=S.ob i p _ hp e1;obtain⟨ys,h2,r2⟩:=S.ob j q _ hq e2;exact zpL pins s M H x y v u Q I rx ry ⟨p,q,xs,ys,ex,ey,h1,h2,by rw[r1.length,r2.length];exact of_decide_eq_true hf,fun p hp=>k.lst S (r1.append r2) hp⟩
     . cases e
   | _=>cases e
 | _=>cases e
def intD(c:Int->Int->Bool)(g:Int->Int->D):G2
 | .int i,.int j,st=>if c i j=true then some (g i j,st) else none
 | _,_,_=>none
def zd3{f:Value->Value->Sem Value}{C:Int->Int->Prop}{c:Int->Int->Bool}{g:Int->Int->Int}(h:OpR X f (rI C fun i j=>.int (g i j)))(hc:∀ i j,c i j=true->C i j):OpM X f (intD c fun i j=>.int (g i j)):=by
 rintro pins s M H x y v u Q I rx ry ⟨dx,dy,st,io,d,st',Rx,Ry,S,e,k⟩
 cases dx with
 | int i =>
   cases dy with
   | int j =>
     obtain⟨hf,e⟩:=zao e
     cases e;exact h pins s M H x y v u Q I rx ry ⟨i,j,Rx,Ry,hc i j hf,k.now S rfl⟩
   | _=>cases e
 | _=>cases e
def tt2:Int->Int->Bool:=fun _ _=>true
def subD:G2:=intD tt2 fun i j=>.int<|i - j
def zdw:OpM X (binaryOp .Sub) subD:=zd3 (C:=fun _ _=>True) (fun pins s M H x y v u Q I rx ry ⟨i,j,h1,h2,_,q⟩=>zpF pins s M H x y v u Q I rx ry ⟨i,j,h1,h2,q⟩) fun _ _ _=>trivial
def in64(i:Int):Bool:=decide (-(2 ^ 64) < i)&&decide (i < 2 ^ 64)
def mulD:G2:=intD (fun i j=>in64 i || in64 j) fun i j=>.int<|i*j
def znH:OpM X (binaryOp .Mult) mulD:=zd3 zpH fun i j h=>by
 rw[EW] at h;unfold in64 at h;rw[Al,Al] at h
 rcases h with h | h
 . exact .inl ⟨of_decide_eq_true h.1,of_decide_eq_true h.2⟩
 exact .inr ⟨of_decide_eq_true h.1,of_decide_eq_true h.2⟩
def modD:G2:=intD (fun _ j=>decide (0 < j)) fun i j=>.int<|i % j
def zb0:OpM X (binaryOp .Mod) modD:=zd3 zpI fun i j h=>of_decide_eq_true h
def cmpD(g:Int->Int->Bool):G2
 | .int i,.int j,st=>some (.bl (g i j),st)
 | _,_,_=>none
def zgj{f:Value->Value->Sem Value}{g:Int->Int->Bool}(h:OpR X f (rI0 fun i j=>.bl (g i j))):OpM X f (cmpD g):=by
 rintro pins s M H x y v u Q I rx ry ⟨dx,dy,st,io,d,st',Rx,Ry,S,e,k⟩
 cases dx with
 | int i =>
   cases dy with
   | int j=>cases e;exact h pins s M H x y v u Q I rx ry ⟨i,j,Rx,Ry,k.now S rfl⟩
   | _=>cases e
 | _=>cases e
def ltD:G2:=cmpD fun i j=>decide (i < j)
def leD:G2:=cmpD fun i j=>decide (i<=j)
def gtD:G2:=cmpD fun i j=>decide (j < i)
def geD:G2:=cmpD fun i j=>decide (j<=i)
def znI:OpM X (compareOp .Lt) ltD:=zgj zrk
def zlH:OpM X (compareOp .LtE) leD:=zgj zrl
def zpK:OpM X (compareOp .Gt) gtD:=zgj zrm
def zlI:OpM X (compareOp .GtE) geD:=zgj zrn
def zmH:D->Bool
 | .non=>true
 | _=>false
def zlM:G2:=fun x y st=>match y with
 | .non=>some (.bl !zmH x,st)
 | _=>none
def znl(h:Rep K H io v d):decide (v=.non)=zmH d:=by
 cases d with
 | non=>cases (show v=.non from h);rfl
 | bl b=>cases (show v=.bl b from h);rfl
 | int b=>cases (show v=.int b from h);rfl
 | str b=>cases (show v=.str b from h);rfl
 | tup b=>obtain⟨a,xs,rfl,_⟩:=h;rfl
 | ref b=>obtain⟨a,rfl,_⟩:=h;rfl
 | kl b=>obtain⟨a,xs,rfl,_⟩:=h;rfl
 | fn b=>obtain⟨a,rfl,_⟩:=h;rfl
def zhW:OpM X (compareOp .IsNot) zlM:=by
 rintro pins s M H x y v u Q I rx ry ⟨dx,dy,st,io,d,st',Rx,Ry,S,e,k⟩
 cases dy with
 | non =>
   cases e;refine znF pins s M H x y v u Q I rx ry ⟨Ry,?_⟩;rw[znl Rx];exact k.now S rfl
 | _=>cases e
def negD:D->Sto->Option (D×Sto)
 | .int i,st=>some (.int (-i),st)
 | _,_=>none
def mNeg(m:ME):ME:=fun U st=>(m U st).bind fun (x,s)=>negD x s
def zo9(ha:SE X a ma):SE X (.UnaryOp .USub a pos) (mNeg ma):=PE.imp (zre zoM ha) <| by
 rintro M H Q ⟨U,st,io,d,st',E,S,e,k⟩;obtain⟨⟨x,s1⟩,e1,e⟩:=zaf e
 cases x with
 | int i =>
   cases e;exact⟨U,st,io,.int i,_,E,S,e1,fun v H1 k1 X1 S1 R1=>⟨i,R1,k _ H1 k1 X1 S1 rfl⟩⟩
 | _=>cases e
def idxD:G2
 | .tup ds,.int i,st=>(atI ds i).map fun d=>(d,st)
 | .ref n,.int i,st=>(zbi st n).bind fun ds=>(atI ds i).map fun d=>(d,st)
 | .kl ds,.int i,st=>(atI ds i).map fun d=>(d,st)
 | .str z,.int i,st=>if fits z.length=true then (atI z.cps.toList i).map fun c=>(.str ⟨#[c]⟩,st) else none
 | _,_,_=>none
def ziP{i:Int}(r:Reps K H io xs ds)(h:atI ds i=some d):∃ v,atI xs i=some v/\Rep K H io v d:=by unfold atI at h ⊢;rw[r.length];obtain⟨j,hj,h⟩:=zaf h;obtain⟨v,hv,rv⟩:=r.get h;exact⟨v,by rw[hj];exact hv,rv⟩
def ix_M:IxR X (r2M X.K idxD):=by
 rintro value slice pins s M H x y v u Q I rx ry ⟨dx,dy,st,io,d,st',Rx,Ry,S,e,k⟩ hs
 cases dy with
 | int i =>
   cases dx with
   | tup ds =>
     obtain⟨d',e1,e⟩:=zaj e;cases e;obtain⟨p,xs,ex,hp,r⟩:=Rx;obtain⟨w,hw,rw'⟩:=ziP r e1;exact zaN value slice pins s M H x y v u Q I rx ry ⟨p,xs,i,w,ex,Ry,SqT.of hp,hw,k.now S rw'⟩ hs
   | ref n =>
     obtain⟨ds,e0,e⟩:=zaf e;obtain⟨d',e1,e⟩:=zaj e;cases e;obtain⟨p,ex,hp⟩:=Rx;obtain⟨xs,hx,r⟩:=zaW S hp e0;obtain⟨w,hw,rw'⟩:=ziP r e1;exact zkA value slice pins s M H x y v u Q I rx ry ⟨p,xs,i,w,ex,Ry,hx,hw,k.now S rw'⟩ hs
   | kl ds =>
     obtain⟨d',e1,e⟩:=zaj e;cases e;obtain⟨p,xs,ex,hx,r⟩:=Rx;obtain⟨w,hw,rw'⟩:=ziP r e1;exact zkA value slice pins s M H x y v u Q I rx ry ⟨p,xs,i,w,ex,Ry,hx.sq,hw,k.now S rw'⟩ hs
   | str z =>
     obtain⟨hf,e⟩:=zao e;obtain⟨d',e1,e⟩:=zaj e;cases e;exact zii value slice pins s M H x y v u Q I rx ry ⟨z,i,d',Rx,Ry,of_decide_eq_true hf,e1,k.now S rfl⟩ hs
   | _=>cases e
 | _=>cases dx <;> cases e
def zq8(ha:SE X a ma)(hb:SE X b mb)(hs:ziY b:=by intro _ _;rfl):SE X (.Subscript a b pos) (mBin idxD ma mb):=PE.imp (zrg ix_M ha hb hs) fun _ _ _ h=>zdn h
def lenD:GN
 | [.tup ds],st=>some (.int ds.length,st)
 | [.ref n],st=>(zbi st n).map fun ds=>(.int ds.length,st)
 | [.kl ds],st=>some (.int ds.length,st)
 | [.str z],st=>if fits z.length=true then some (.int z.length,st) else none
 | _,_=>none
def zbc:zcN X (.builtin "len") lenD:=by
 rintro pins s M H xs us Q I r ⟨ds,st,io,d,st',R,S,e,k⟩
 cases ds with
 | nil=>cases e
 | cons d0 r0 =>
 cases r0 with
 | cons d1 r1=>cases d0 <;> cases e
 | nil =>
 cases d0 with
 | tup ts =>
   cases e;obtain⟨v,rfl,p,ys,rfl,hp,r1⟩:=R.one;refine zcu pins s M H _ us Q I r ⟨p,ys,rfl,.inr<|SqT.of hp,?_⟩;rw[r1.length];exact k.now S rfl
 | ref n =>
   obtain⟨ts,e0,e⟩:=zaj e;cases e;obtain⟨v,rfl,p,rfl,hp⟩:=R.one;obtain⟨ys,hx,r1⟩:=zaW S hp e0;refine zcu pins s M H _ us Q I r ⟨p,ys,rfl,.inl hx,?_⟩;rw[r1.length];exact k.now S rfl
 | kl ts =>
   cases e;obtain⟨v,rfl,p,ys,rfl,hx,r1⟩:=R.one;refine zcu pins s M H _ us Q I r ⟨p,ys,rfl,.inl hx.sq,?_⟩;rw[r1.length];exact k.now S rfl
 | str z =>
   obtain⟨hf,e⟩:=zao e;cases e;obtain⟨v,rfl,rfl⟩:=R.one;exact zfY pins s M H _ us Q I r ⟨z,rfl,of_decide_eq_true hf,k.now S rfl⟩
 | _=>cases e
def intC:GN
 | [.int i],st=>some (.int i,st)
 | [.bl b],st=>some (.int (if b then 1 else 0),st)
 | _,_=>none
def zka:zcN X (.type "int") intC:=by
 rintro pins s M H xs us Q I r ⟨ds,st,io,d,st',R,S,e,k⟩
 cases ds with
 | nil=>cases e
 | cons d0 r0 =>
 cases r0 with
 | cons d1 r1=>cases d0 <;> cases e
 | nil =>
 cases d0 with
 | int i =>
   cases e;obtain⟨v,rfl,rfl⟩:=R.one;exact zgH pins s M H _ us Q I r<|.inl ⟨i,rfl,k.now S rfl⟩
 | bl b =>
   cases e;obtain⟨v,rfl,rfl⟩:=R.one;exact zgH pins s M H _ us Q I r<|.inr ⟨b,rfl,k.now S rfl⟩
 | _=>cases e
def znV:GN
 | [.int i,.int j],st=>some (.int (if j < i then j else i),st)
 | _,_=>none
def zj8(hc:X.calm=true):zcN X (.builtin "min") znV:=by
 rintro pins s M H xs us Q I r ⟨ds,st,io,d,st',R,S,e,k⟩;unfold znV at e
 split at e
 . rename_i i j;cases e;obtain⟨v,u,rfl,rfl,rfl⟩:=R.two;exact zj9 hc pins s M H _ us Q I r ⟨i,j,rfl,k.now S rfl⟩
 . cases e
def zpU:GN
 | [.tup ds],st=>if fits ds.length=true then some (.ref st.length,st++[.lst ds]) else none
 | [.ref n],st=>(zbi st n).bind fun ds=>if fits ds.length=true then some (.ref st.length,st++[.lst ds]) else none
 | [.kl ds],st=>if fits ds.length=true then some (.ref st.length,st++[.lst ds]) else none
 | _,_=>none
def ziH:zcN X (.type "list") zpU:=by
 rintro pins s M H xs us Q I r ⟨ds,st,io,d,st',R,S,e,k⟩
 cases ds with
 | nil=>cases e
 | cons d0 r0 =>
 cases r0 with
 | cons d1 r1=>cases d0 <;> cases e
 | nil =>
 cases d0 with
 | tup ts =>
   obtain⟨hf,e⟩:=zao e;cases e;obtain⟨v,rfl,p,ys,rfl,hp,r1⟩:=R.one;exact zct pins s M H _ us Q I r ⟨p,ys,rfl,.inr<|SqT.of hp,fun l hl=>k.lst S r1 hl⟩
 | ref n =>
   obtain⟨ts,e0,e⟩:=zaf e;obtain⟨hf,e⟩:=zao e;cases e;obtain⟨v,rfl,p,rfl,hp⟩:=R.one;obtain⟨ys,hx,r1⟩:=zaW S hp e0;exact zct pins s M H _ us Q I r ⟨p,ys,rfl,.inl hx,fun l hl=>k.lst S r1 hl⟩
 | kl ts =>
   obtain⟨hf,e⟩:=zao e;cases e;obtain⟨v,rfl,p,ys,rfl,hx,r1⟩:=R.one;exact zct pins s M H _ us Q I r ⟨p,ys,rfl,.inl hx.sq,fun l hl=>k.lst S r1 hl⟩
 | _=>cases e
def zef:GN
 | [.tup ds],st=>some (.tup ds,st)
 | [.ref n],st=>(zbi st n).map fun ds=>(.tup ds,st)
 | _,_=>none
def zbL:zcN X (.type "tuple") zef:=by
 rintro pins s M H xs us Q I r ⟨ds,st,io,d,st',R,S,e,k⟩
 cases ds with
 | nil=>cases e
 | cons d0 r0 =>
 cases r0 with
 | cons d1 r1=>cases d0 <;> cases e
 | nil =>
 cases d0 with
 | tup ts =>
   cases e;obtain⟨v,rfl,p,ys,rfl,hp,r1⟩:=R.one;exact zdd pins s M H _ us Q I r ⟨p,ys,rfl,.inr ⟨SqT.of hp,k.now S ⟨p,ys,rfl,hp,r1⟩⟩⟩
 | ref n =>
   obtain⟨ts,e0,e⟩:=zaj e;cases e;obtain⟨v,rfl,p,rfl,hp⟩:=R.one;obtain⟨ys,hx,r1⟩:=zaW S hp e0;exact zdd pins s M H _ us Q I r ⟨p,ys,rfl,.inl ⟨hx,fun l hl=>k.tup S r1 hl⟩⟩
 | _=>cases e
def toPs(f:D->Option PyData):List D->Option (List PyData)
 | []=>some []
 | d::ds=>(f d).bind fun p=>(toPs f ds).map fun ps=>p::ps
def toP:Nat->Sto->D->Option PyData
 | 0,_,_=>none
 | n+1,st,d=>match d with
   | .non=>some .none
   | .bl b=>some<|.bool b
   | .int i=>some<|.int i
   | .str x=>if AU x=true then some (.str x) else none
   | .tup ds=>(toPs (toP n st) ds).map .tuple
   | .ref k=>(zbi st k).bind fun ds=>(toPs (toP n st) ds).map .list
   | .kl _=>none
   | .fn _=>none
def zc0{n:Nat}:∀ {ps:List PyData},(∀ p∈ps,p.depth<=n)->DG ps<=n
 | [],_=>by rw[DG];exact A3 _
 | p::ps,h=>by rw[DG];exact Nat.max_le.mpr ⟨h p Ak,zc0 fun q hq=>h q (Aj _ hq)⟩
def zdD{ps:List PyData}:(∀ p∈ps,p.canLay0=true)->B2 ps=true:=by
 induction ps with
 | nil=>intro _;simp only[B2]
 | cons p ps ih =>
   intro h;simp only[B2];rw[h p Ak,ih fun q hq=>h q (Aj _ hq)];rfl
def zfx{f:D->Option PyData}:∀ {ds:List D} {ps:List PyData},toPs f ds=some ps->∀ p∈ps,∃ d,f d=some p
 | [],ps,h,p,hp=>by cases h;exact absurd hp<|by simp
 | d::ds,ps,h,p,hp=>by
   obtain⟨q,e1,h⟩:=zaf h;obtain⟨qs,e2,h⟩:=zaj h;subst h
   rcases List.mem_cons.mp hp with rfl | hp
   . exact⟨d,e1⟩
   exact zfx e2 p hp
def zdS:∀ {n:Nat} {st:Sto} {d:D} {p:PyData},toP n st d=some p->p.canLay0=true/\p.depth<=n
 | 0,_,_,_,h=>by cases h
 | n+1,st,d,p,h=>by
   cases d with
   | non=>cases h;exact⟨by simp only[Bx],by simp only[Ck];exact A3 _⟩
   | bl b=>cases h;exact⟨by simp only[Bx],by simp only[Ck];exact A3 _⟩
   | int b=>cases h;exact⟨by simp only[Bx],by simp only[Ck];exact A3 _⟩
   | str b =>
     obtain⟨hs,h⟩:=zao h
     cases h;exact⟨by simp only[Bx];exact hs,by simp only[Ck];exact A3 _⟩
   | tup ds =>
     obtain⟨ps,e,h⟩:=zaj h;subst h;have q:∀ p∈ps,p.canLay0=true/\p.depth<=n:=fun p hp=>let ⟨d,hd⟩:=zfx e p hp;zdS hd
     exact⟨by simp only[Bx];exact zdD fun p hp=>(q p hp).1,by simp only[Ck];exact CB (zc0 fun p hp=>(q p hp).2)⟩
   | kl ds=>cases h
   | fn ds=>cases h
   | ref k =>
     obtain⟨ds,e0,h⟩:=zaf h;obtain⟨ps,e,h⟩:=zaj h;subst h;have q:∀ p∈ps,p.canLay0=true/\p.depth<=n:=fun p hp=>let ⟨d,hd⟩:=zfx e p hp;zdS hd
     exact⟨by simp only[Bx];exact zdD fun p hp=>(q p hp).1,by simp only[Ck];exact CB (zc0 fun p hp=>(q p hp).2)⟩
def zcS{f:D->Option PyData}(hf:∀ {v:V} {u:Value} {d:D} {p:PyData},Rep X.K H io v d->RelV v u->f d=some p->∃ as,Reads s.heap u p as) :
   ∀ {xs:List V} {us:List Value} {ds:List D} {ps:List PyData},Reps X.K H io xs ds->Vals xs us->toPs f ds=some ps->∃ as,ReadsAll s.heap us ps as
 | _,_,[],ps,h,r,e=>by
   cases (show _=[] from h)
   cases r;cases e;exact⟨_,.nil⟩
 | _,_,d::ds,ps,h,r,e=>by
   obtain⟨y,ys,rfl,h1,h2⟩:=h
   cases r with
   | cons r1 r2 =>
     obtain⟨q,e1,e⟩:=zaf e;obtain⟨qs,e2,e⟩:=zaj e;subst e;obtain⟨as,ra⟩:=hf h1 r1 e1;obtain⟨bs,rb⟩:=zcS hf h2 r2 e2;exact⟨_,.cons ra rb⟩
def zbD(I:Inv X pins M H s)(S:StR X.K H io st):∀ {n:Nat} {v:V} {u:Value} {d:D} {p:PyData},Rep X.K H io v d->RelV v u->toP n st d=some p->∃ as,Reads s.heap u p as
 | 0,_,_,_,_,_,_,h=>by cases h
 | n+1,v,u,d,p,h,r,e=>by
   cases d with
   | non=>cases e;cases (show v=.non from h);cases r;exact⟨_,.none⟩
   | bl b=>cases e;cases (show v=.bl b from h);cases r;exact⟨_,.bool _⟩
   | int b=>cases e;cases (show v=.int b from h);obtain⟨t,rfl⟩:=r;exact⟨_,.int _ _⟩
   | str b =>
     obtain⟨hs,e⟩:=zao e
     cases e;cases (show v=.str b from h);obtain⟨t,rfl⟩:=r;exact⟨_,.str _ _⟩
   | tup ds =>
     obtain⟨ps,e',q⟩:=zaj e;subst q;obtain⟨a,xs,rfl,ha,rs⟩:=h;cases r;obtain⟨its,rv,⟨o,ho,hc,k,hd⟩,hz⟩:=I.tuple<|SqT.of ha;obtain⟨as,ra⟩:=zcS (f:=toP n st) (fun h r e=>zbD I S h r e) rs rv e';exact⟨_,.tuple ho hc hd<|by simpa using ra⟩
   | kl ds=>cases e
   | fn ds=>cases e
   | ref k =>
     obtain⟨ds,e0,e⟩:=zaf e;obtain⟨ps,e',q⟩:=zaj e;subst q;obtain⟨a,rfl,ha⟩:=h;cases r;obtain⟨xs,hx,rs⟩:=zaW S ha e0;obtain⟨its,rv,⟨o,k,ho,hc,_,hd⟩,hz⟩:=I.list hx;obtain⟨as,ra⟩:=zcS (f:=toP n st) (fun h r e=>zbD I S h r e) rs rv e';exact⟨_,.list ho hc hd<|by simpa using ra⟩
def eqD:G2:=fun x y st=>(toP 100 st x).bind fun p=>(toP 100 st y).map fun q=>(.bl (CN p q),st)
def neD:G2:=fun x y st=>(toP 100 st x).bind fun p=>(toP 100 st y).map fun q=>(.bl !PyData.eqv p q,st)
def zfK(hu:X.A.units+100 < cLine):OpM X (compareOp .Eq) eqD:=by rintro pins s M H x y v u Q I rx ry ⟨dx,dy,st,io,d,st',Rx,Ry,S,e,k⟩;obtain⟨p,e1,e⟩:=zaf e;obtain⟨q,e2,e⟩:=zaj e;cases e;obtain⟨as,ra⟩:=zbD I S Rx rx e1;obtain⟨bs,rb⟩:=zbD I S Ry ry e2;have h1:=zdS e1;have h2:=zdS e2;exact PySem.SeqAt.compareEq_reads ra rb h1.1 h2.1 (BZ (CY (AC (EX _ _) h1.2) _) hu) ⟨.bl _,H,I,rfl,k.now S rfl⟩
def zhY(hu:X.A.units+100 < cLine):OpM X (compareOp .NotEq) neD:=by rintro pins s M H x y v u Q I rx ry ⟨dx,dy,st,io,d,st',Rx,Ry,S,e,k⟩;obtain⟨p,e1,e⟩:=zaf e;obtain⟨q,e2,e⟩:=zaj e;cases e;obtain⟨as,ra⟩:=zbD I S Rx rx e1;obtain⟨bs,rb⟩:=zbD I S Ry ry e2;have h1:=zdS e1;have h2:=zdS e2;exact PySem.SeqAt.compareNe_reads ra rb h1.1 h2.1 (BZ (CY (AC (EX _ _) h1.2) _) hu) ⟨.bl _,H,I,rfl,k.now S rfl⟩
def zbl(hr:Room k A):A.units+100 < cLine:=by have:=hr.un;omega
variable {t':Nat}
section
variable {h':Heap}
def Inv.turnNew{fp:List Addr}{o:HO}(I:Inv X pins M H s)(hf:∀ b∈fp,FpOk X pins H b)(k:∀ b ob,b ∉ fp->s.heap.get? b=some ob->h'.get? b=some ob)(hp:s.heap.objs.size<=p)
   (hfp:∀ b∈fp,∀ ob,s.heap.get? b=some ob->∃ ob',h'.get? b=some ob') (new:zcx X.prog X.w (upd H p o) h' p o):Inv X pins M (upd H p o) { s with heap:=h',toks:=t' }:=by
 have hpn:=I.hok.fresh hp;have nlt:∀ b ob,s.heap.get? b=some ob->b≠p:=fun b ob e=>Ar<|Az (Ai e) hp;refine Inv.step (ch:=fp) (g':=s.gens) (d':=s.drawn) I (fun b hb=>⟨(hf b hb).2.2.2.1,(hf b hb).2.1,(hf b hb).2.2.2.2.1,(hf b hb).2.2.2.2.2⟩) (fun b ob _ _ hc e _=>k b ob hc e) (fun b ob _ _ hc e _=>⟨ob.slots,k b ob hc e⟩)
   (fun b ob hc e n=>by rw[zax (nlt b ob e)];exact n) (fun b ob hc e=>⟨ob,k b ob hc e⟩) (fun b xs e=>by rw[zax (zaq e hpn)];exact e) (fun b ob u e=>by rw[zax (zaq e hpn)];exact e)
   (fun b ps e=>⟨#[],by rw[zax (zaq e hpn),e];simp⟩) (fun m hm=>?_) (fun b u e=>?_) I.bare
 . obtain⟨ob,es,ep,ho,r⟩:=hm;exact⟨ob,es,ep,k _ ob (fun z=>(hf _ z).2.1 rfl) ho,r⟩
 . by_cases hb:b=p
   . subst hb;rw[zbg] at e;cases e;exact new
   . rw[zax hb] at e;refine (I.hok b u e).stay (fun c v hc q=>k c v (fun z=>?_) q) (fun c q=>by rw[zax (zaq q hpn)];exact q) fun c xs q=>by rw[zax (zaq q hpn)];exact q
     have hz:=(hf c z).1
     rcases hc with rfl | hc
     . rw[hz] at e;cases e
     rw[hz] at hc;cases hc
def Inv.turnAll{fp:List Addr}(I:Inv X pins M H s)(hf:∀ b∈fp,FpOk X pins H b)(k:∀ b ob,b ∉ fp->s.heap.get? b=some ob->h'.get? b=some ob):Inv X pins M H { s with heap:=h',toks:=t' }:=by
 refine Inv.step (ch:=fp) (g':=s.gens) (d':=s.drawn) I (fun b hb=>⟨(hf b hb).2.2.2.1,(hf b hb).2.1,(hf b hb).2.2.2.2.1,(hf b hb).2.2.2.2.2⟩) (fun b ob _ _ hc e _=>k b ob hc e) (fun b ob _ _ hc e _=>⟨ob.slots,k b ob hc e⟩)
   (fun b ob hc e n=>n) (fun b ob hc e=>⟨ob,k b ob hc e⟩) (fun b xs e=>e) (fun b ob u e=>e)
   (fun b ps e=>⟨#[],by rw[e];simp⟩) (fun m hm=>?_) (fun b u e=>?_) I.bare
 . obtain⟨ob,es,ep,ho,r⟩:=hm;exact⟨ob,es,ep,k _ ob (fun z=>(hf _ z).2.1 rfl) ho,r⟩
 . refine (I.hok b u e).stay (fun c v hc q=>k c v (fun z=>?_) q) (fun c q=>q) fun c xs q=>q;have hz:=(hf c z).1
   rcases hc with rfl | hc
   . rw[hz] at e;cases e
   rw[hz] at hc;cases hc
end
def boot_enumerate:bootBuiltins "enumerate"=some (.type "enumerate"):=by decide +kernel
def pairs(ds:List D):List D:=(ds.zipIdx).map fun (d,k)=>.tup [.int (k:Nat),d]
def zgi(h:(pairs ds)[i]?=some d):∃ e,ds[i]?=some e/\d=.tup [.int (i:Nat),e]:=by
 unfold pairs at h;rw[Av,List.getElem?_zipIdx] at h
 cases e:ds[i]? with
 | none=>rw[e] at h;cases h
 | some x =>
   rw[e] at h;simp at h;exact⟨x,rfl,h.symm⟩
def pairs_len(ds:List D):(pairs ds).length=ds.length:=by unfold pairs;simp
section
variable {κ:Type} [DecidableEq κ]
def valD(kvs:List (κ×D))(k:κ):Option D:=(kvs.find? fun kv=>decide (kv.1=k)).map (·.2)
def putD(kvs:List (κ×D))(k:κ)(d:D):List (κ×D) :=
 if (kvs.any fun kv=>decide (kv.1=k))=true then kvs.map (fun kv=>if kv.1=k then (kv.1,d) else kv) else kvs++[(k,d)]
def KR.any{ps:List (κ×V)}{kvs:List (κ×D)}(r:KR κ K H io ps kvs)(k:κ):(ps.any fun kv=>decide (kv.1=k))=(kvs.any fun kv=>decide (kv.1=k)):=by
 induction r with
 | nil=>rfl
 | cons z t ih=>rw[B9,B9,ih,z.1]
def KR.length{ps:List (κ×V)}{kvs:List (κ×D)}(r:KR κ K H io ps kvs):ps.length=kvs.length:=Bc r
def KR.val{ps:List (κ×V)}{kvs:List (κ×D)}(r:KR κ K H io ps kvs)(k:κ):(valD kvs k=none/\valV ps k=none)\/∃ d v,valD kvs k=some d/\valV ps k=some v/\Rep K H io v d:=by
 induction r with
 | nil=>exact .inl ⟨rfl,rfl⟩
 | @cons p q l1 l2 z t ih =>
   unfold valD valV at *;rw[AQ,AQ,z.1]
   by_cases e:q.1=k
   . rw[decide_eq_true e];exact .inr ⟨q.2,p.2,rfl,rfl,z.2⟩
   rw[decide_eq_false e];exact ih
def KR.append{ps qs:List (κ×V)}{kvs lvs:List (κ×D)}(r:KR κ K H io ps kvs)(r':KR κ K H io qs lvs):KR κ K H io (ps++qs) (kvs++lvs):=by
 induction r with
 | nil=>exact r'
 | cons z t ih=>exact .cons z ih
def KR.put{ps:List (κ×V)}{kvs:List (κ×D)}(r:KR κ K H io ps kvs)(k:κ)(rv:Rep K H io v d):KR κ K H io (putK ps k v) (putD kvs k d):=by
 unfold putK putD;rw[KR.any r k]
 by_cases e:(kvs.any fun kv=>decide (kv.1=k))=true
 . rw[if_pos e,if_pos e]
   induction r with
   | nil=>exact .nil
   | @cons p q l1 l2 z t ih =>
     rw[Aw,Aw];have hrest:KR κ K H io (l1.map fun kv=>if kv.1=k then (kv.1,v) else kv) (l2.map fun kv=>if kv.1=k then (kv.1,d) else kv):=by
       clear ih e
       induction t with
       | nil=>exact .nil
       | @cons p q l1 l2 z t ih =>
         rw[Aw,Aw];refine .cons ?_ ih;rw[z.1]
         by_cases e:q.1=k
         . rw[if_pos e,if_pos e];exact⟨rfl,rv⟩
         rw[if_neg e,if_neg e];exact z
     refine .cons ?_ hrest;rw[z.1]
     by_cases e:q.1=k
     . rw[if_pos e,if_pos e];exact⟨rfl,rv⟩
     rw[if_neg e,if_neg e];exact z
 rw[if_neg e,if_neg e];exact KR.append r<|.cons ⟨rfl,rv⟩ .nil
end
def keyOf:D->Option Key
 | .int i=>some<|.inl i
 | .str x=>some<|.inr x
 | _=>none
def keysOf:List D->Option (List Key)
 | []=>some []
 | d::ds=>(keyOf d).bind fun k=>(keysOf ds).map fun ks=>k::ks
variable {y:V}{md mk:ME}
def zcJ{k:Key}(h:Rep K H io v d)(e:keyOf d=some k):v=kV k:=by
 cases d with
 | int i=>cases e;exact h
 | str i=>cases e;exact h
 | _=>cases e
def zbI:∀ {xs:List V} {ds:List D} {ks:List Key},Reps K H io xs ds->keysOf ds=some ks->xs=ks.map kV
 | _,[],ks,h,e=>by cases e;exact h
 | _,d::ds,ks,h,e=>by obtain⟨y,ys,rfl,h1,h2⟩:=h;obtain⟨k,e1,e⟩:=zaf e;obtain⟨ks',e2,e⟩:=zaj e;subst e;rw[zcJ h1 e1,zbI h2 e2];rfl
def look(st:Sto)(n:Nat)(k:D):Option (Option D):=match st[n]? with
 | some (.dk kvs)=>(keyOf k).map fun q=>valD kvs q
 | some (.dt kvs)=>match k with
   | .tup ds=>(keysOf ds).map fun q=>valD kvs q
   | _=>none
 | _=>none
def zfO{k:D}{r:Option D}(S:StR K H io st)(hp:io[n]?=some p)(ry:Rep K H io y k)(h:look st n k=some r):∃ o,DGet H p y o/\((r=none/\o=none)\/∃ d v,r=some d/\o=some v/\Rep K H io v d):=by
 unfold look at h
 split at h
 . rename_i kvs e;obtain⟨q,e1,h⟩:=zaj h;subst h;obtain⟨ps,hH,r⟩:=S.ob n p _ hp e;have ey:=zcJ ry e1;subst ey;refine⟨_,DGet.k hH,?_⟩
   rcases KR.val r q with ⟨h1,h2⟩ | ⟨d,v,h1,h2,h3⟩
   . exact .inl ⟨h1,h2⟩
   exact .inr ⟨d,v,h1,h2,h3⟩
 . rename_i kvs e
   split at h
   . rename_i ds;obtain⟨q,e1,h⟩:=zaj h;subst h;obtain⟨ps,hH,r⟩:=S.ob n p _ hp e;obtain⟨b,xs,rfl,hb,rs⟩:=ry;have ex:=zbI rs e1;subst ex;refine⟨_,DGet.t hH hb,?_⟩
     rcases KR.val r q with ⟨h1,h2⟩ | ⟨d,v,h1,h2,h3⟩
     . exact .inl ⟨h1,h2⟩
     exact .inr ⟨d,v,h1,h2,h3⟩
   . cases h
 . cases h
def zqG(md mk:ME):ME:=fun U st=>(md U st).bind fun (d,s1)=>(mk U s1).bind fun (k,s2)=>match d with
 | .ref n=>(look s2 n k).bind fun r=>r.map fun v=>(v,s2)
 | _=>none
def znh{i:Expr}(hu:X.A.units+1 < cLine)(ho:SE X o md)(hi:SE X i mk)(hs:NoSl i:=by intro _ _;rfl):SE X (.Subscript o i pos) (zqG md mk):=PE.imp (zku hu ho hi hs) <| by
 rintro M H Q ⟨U,st,io,d,st',E,S,e,k⟩;obtain⟨⟨x,s1⟩,e1,e⟩:=zaf e;obtain⟨⟨y,s2⟩,e2,e⟩:=zaf e
 cases x with
 | ref n =>
   obtain⟨r,e3,e⟩:=zaf e;obtain⟨w,e4,e⟩:=zaj e;cases e;subst e4;refine⟨U,st,io,_,s1,E,S,e1,fun v1 H1 k1 X1 S1 R1=>⟨U,s1,io++k1,y,_,E.ext S X1,S1,e2,fun v2 H2 k2 X2 S2 R2=>?_⟩⟩;obtain⟨p,rfl,hp⟩:=R1;obtain⟨o,g,⟨z,_⟩ | ⟨d',v,hd,hv,rv⟩⟩:=zfO S2 (zbd hp) R2 e3
   . cases z
   . cases hd;subst hv;exact⟨p,v,rfl,g,((k.on S1 X1).on S2 X2).now S2 rv⟩
 | _=>cases e
def mDIn(neg:Bool)(mk md:ME):ME:=fun U st=>(mk U st).bind fun (k,s1)=>(md U s1).bind fun (d,s2)=>match d with
 | .ref n=>(look s2 n k).map fun r=>(.bl (if neg then !r.isSome else r.isSome),s2)
 | _=>none
def zgC{neg:Bool}(h:tE K (mDIn neg mk md) M H Q):tE K mk M H fun y H1=>tE K md M H1 fun x H2=>∃ a o,x=.ref a/\DGet H2 a y o/\Q (.bl<|if neg then !o.isSome else o.isSome) H2:=by
 obtain⟨U,st,io,d,st',E,S,e,k⟩:=h;obtain⟨⟨y,s1⟩,e1,e⟩:=zaf e;obtain⟨⟨x,s2⟩,e2,e⟩:=zaf e
 cases x with
 | ref n =>
   obtain⟨r,e3,e⟩:=zaj e;cases e;refine⟨U,st,io,y,s1,E,S,e1,fun v1 H1 k1 X1 S1 R1=>⟨U,s1,io++k1,_,_,E.ext S X1,S1,e2,fun v2 H2 k2 X2 S2 R2=>?_⟩⟩;obtain⟨p,rfl,hp⟩:=R2;obtain⟨o,g,z⟩:=zfO S2 hp (R1.ext S1 X2) e3;have:o.isSome=r.isSome:=by
     rcases z with ⟨a,b⟩ | ⟨d',v,a,b,_⟩
     . rw[a,b];rfl
     rw[a,b];rfl
   exact⟨p,o,rfl,g,by rw[this];exact ((k.on S1 X1).on S2 X2).now S2 rfl⟩
 | _=>cases e
variable {lo hi:Option Expr}{p2:Pos}
def zpc{i:Expr}(hu:X.A.units+1 < cLine)(hi:SE X i mk)(ho:SE X o md)(hm:behindInMarks .In o=false:=by rfl):SB X (.Compare i [.In] [o] pos) (mTst<|mDIn false mk md) :=
 PT.imp (znp (zpB hu hi ho) hm) fun M H Q h=>zgC (zcC h)
def zjq{i:Expr}(hu:X.A.units+1 < cLine)(hi:SE X i mk)(ho:SE X o md)(hm:behindInMarks .NotIn o=false:=by rfl):SB X (.Compare i [.NotIn] [o] pos) (mTst<|mDIn true mk md) :=
 PT.imp (znp (zjy hu hi ho) hm) fun M H Q h=>zgC (zcC h)
def dput(st:Sto)(n:Nat)(k d:D):Option Sto:=match st[n]? with
 | some (.dk kvs)=>(keyOf k).bind fun q=>if decide (kvs.length < sizeLine)=true then some (st.set n<|.dk<|putD kvs q d) else none
 | some (.dt kvs)=>match k with
   | .tup ds=>(keysOf ds).bind fun q=>if decide (kvs.length < sizeLine)=true then some (st.set n<|.dt<|putD kvs q d) else none
   | _=>none
 | _=>none
def zmn{k:D}(S:StR K H io st)(hp:io[n]?=some p)(ry:Rep K H io y k)(rv:Rep K H io v d)(h:dput st n k d=some st'):∃ H',DPut H p y v H'/\Ext io [] H H'/\StR K H' (io++[]) st':=by
 unfold dput at h
 split at h
 . rename_i kvs e;obtain⟨q,e1,h⟩:=zaf h;obtain⟨hl,h⟩:=zao h;cases h;obtain⟨ps,hH,r⟩:=S.ob n p _ hp e;have ey:=zcJ ry e1;subst ey;have:=KR.length r;refine⟨_,DPut.k hH (by rw[this];exact of_decide_eq_true hl),?_⟩;exact zfE S hp e (fun o u z=>by rw[hH] at z;cases z) fun H' T e'=>⟨_,e',KR.put (KR.mono T r) q<|Rep.mono T rv⟩
 . rename_i kvs e
   split at h
   . rename_i ds;obtain⟨q,e1,h⟩:=zaf h;obtain⟨hl,h⟩:=zao h;cases h;obtain⟨ps,hH,r⟩:=S.ob n p _ hp e;obtain⟨b,xs,rfl,hb,rs⟩:=ry;have ex:=zbI rs e1;subst ex;have:=KR.length r;refine⟨_,DPut.t hH hb (by rw[this];exact of_decide_eq_true hl),?_⟩;exact zfE S hp e (fun o u z=>by rw[hH] at z;cases z) fun H' T e'=>⟨_,e',KR.put (KR.mono T r) q<|Rep.mono T rv⟩
   . cases h
 . cases h
def zl1(md mk mv:ME):MS:=fun U st=>(mv U st).bind fun (v,s1)=>(md U s1).bind fun (d,s2)=>(mk U s2).bind fun (k,s3)=>match d with
 | .ref n=>(dput s3 n k v).map fun s4=>(.nx U,s4)
 | _=>none
def zm4{i value:Expr}{mv:ME}(hu:X.A.units+1 < cLine)(ho:SE X o md)(hi:SE X i mk)(hv:SE X value mv)(hs:swapsWith value (some<|.Subscript o i pos') pos.line X.env=pure false:=by rfl) :
   SS X (.Assign [.Subscript o i pos'] value pos) (zl1 md mk mv):=PS.imp (znt hu ho hi hv hs) fun N M H h=>by
 obtain⟨U,st,io,f,st',E,S,e,w⟩:=zcQ.mp h;obtain⟨⟨v,s1⟩,e1,e⟩:=zaf e;obtain⟨⟨d,s2⟩,e2,e⟩:=zaf e;obtain⟨⟨k,s3⟩,e3,e⟩:=zaf e
 cases d with
 | ref n =>
   obtain⟨s4,e4,e⟩:=zaj e;cases e;refine⟨U,st,io,v,s1,E,S,e1,fun v1 H1 k1 X1 S1 R1=>⟨U,s1,io++k1,_,s2,E.ext S X1,S1,e2,fun v2 H2 k2 X2 S2 R2=>⟨U,s2,(io++k1)++k2,k,s3,(E.ext S X1).ext S1 X2,S2,e3,fun v3 H3 k3 X3 S3 R3=>?_⟩⟩⟩;obtain⟨p,rfl,hp⟩:=R2;obtain⟨H4,g,X4,S4⟩:=zmn S3 (zbd hp) R3 ((R1.ext S1 X2).ext S2 X3) e4;refine⟨p,H4,rfl,g,?_⟩;have w3:∀ M' H' kb,Ext (((io++k1)++k2)++k3) kb H3 H'->_:=ze1 (ze1 (ze1 w X1 S1) X2 S2) X3 S3;exact w3 M H4 [] X4 S4<|(((E.ext S X1).ext S1 X2).ext S2 X3).ext S3 X4
 | _=>cases e
def zhf(t:Bool):ME:=fun _ st=>some (.ref st.length,st++[if t then .dt [] else .dk []])
def zfB:SE X (.Dict [] [] pos) (zhf false):=PE.imp zlC <| by
 rintro M H Q ⟨U,st,io,d,st',E,S,e,k⟩;cases e;intro p hp;obtain⟨E',S'⟩:=ze5 (o:=.dK []) (ob:=.dk []) S hp fun H' T e=>⟨[],e,.nil⟩
 exact k _ _ [p] E' S' ⟨p,rfl,by rw[<-S.len];exact getElem?_len io p⟩
def zhC:SE X (.Dict [] [] pos) (zhf true):=PE.imp zlB <| by
 rintro M H Q ⟨U,st,io,d,st',E,S,e,k⟩;cases e;intro p hp;obtain⟨E',S'⟩:=ze5 (o:=.dT []) (ob:=.dt []) S hp fun H' T e=>⟨[],e,.nil⟩
 exact k _ _ [p] E' S' ⟨p,rfl,by rw[<-S.len];exact getElem?_len io p⟩
inductive mtM (K:Ab) (g:D->List D->Sto->Option (D×Sto)) (x:V) (xs:List V) (H:Hp) (Q:VK):Prop
 | mk (dx:D) (ds:List D) (st:Sto) (io:List Addr) (d:D) (st':Sto) (h0:Rep K H io x dx) (h1:Reps K H io xs ds) (h2:StR K H io st) (h3:g dx ds st=some (d,st')) (h4:Bh K io H st' d Q)
def zbM:D->List D->Sto->Option (D×Sto):=fun x xs st=>match x,xs with
 | .ref n,[d]=>match st[n]? with
   | some (.lst ds)=>if decide (ds.length < sizeLine)=true then some (.non,st.set n (.lst<|ds++[d])) else none
   | _=>none
 | _,_=>none
def append_in{ds:List D}{xs:List D}(h:zbM (.ref n) xs st=some (d,st')):∃ ds x,st[n]?=some (.lst ds)/\xs=[x]/\ds.length < sizeLine/\d=.non/\st'=st.set n (.lst<|ds++[x]):=by
 unfold zbM at h
 match xs,h with
 | [x],h =>
   dsimp only at h
   split at h
   . rename_i ds e;obtain⟨hl,h⟩:=zao h;cases h;exact⟨ds,x,e,rfl,of_decide_eq_true hl,rfl,rfl⟩
   . cases h
 | [],h=>cases h
 | _::_::_,h=>cases h
def zh5:MtR X "list.append" (mtM X.K zbM):=by
 rintro pins s M H x xs v us Q I rx rs ⟨dx,ds,st,io,d,st',Rx,Rs,S,e,k⟩
 cases dx with
 | ref n =>
   obtain⟨l,y,e1,rfl,hl,rfl,rfl⟩:=append_in (ds:=[]) e;obtain⟨p,rfl,hp⟩:=Rx;obtain⟨w,rfl,Rw⟩:=Rs.one;obtain⟨ys,hH,r⟩:=S.ob n p _ hp e1;refine zgo pins s M H _ _ v us Q I rx rs ⟨p,ys,w,rfl,rfl,hH,by rw[r.length];exact hl,?_⟩;obtain⟨E',S'⟩:=zfE (o:=.lst (ys++[w])) (ob:=.lst (l++[y])) S hp e1 (fun o u z=>by rw[hH] at z;cases z) fun H' T e'=>⟨_,e',(Reps.mono T r).append<|Reps.cons (Rep.mono T Rw) Reps.nil⟩
   exact k _ _ [] E' S' rfl
 | _=>unfold zbM at e;cases ds <;> cases e
def zkS{l:List D}(R:Rep K H io v (.ref n))(S:StR K H io st)(h:zbi st n=some l):tyV K "list" v H:=by obtain⟨p,rfl,hp⟩:=R;obtain⟨xs,hx,_⟩:=zaW S hp h;exact .inl ⟨rfl,xs,hx⟩
def mApp(m:ME)(mm:MA):ME:=fun U st=>(m U st).bind fun (x,s1)=>match x with
 | .ref n=>(zbi s1 n).bind fun _=>(mm U s1).bind fun (xs,s2)=>zbM x xs s2
 | _=>none
def zbU{apos cpos:Pos}(ho:SE X o m)(ha:SA X (e::es) mm)
   (hbase:attributeBase o "append" X.env (eval o X.env)=eval o X.env:=by rfl)
   (hfew:((backTo cpos<|starEach (e::es) X.env).all (fun x=>!x.1)&&(backToKw cpos<|keywordEach [] X.env).all (fun x=>x.1.isSome)
    &&decide ((e::es).length+([]:List Keyword).length+(if ([]:List Keyword).isEmpty then 0 else 1) < 30))=true:=by rfl)
   (hline:(apos.endLine==cpos.line)=true:=by rfl) (hs:starEach (e::es) X.env=(false,eval e X.env)::starEach es X.env:=by rfl) (hplain:(backTo cpos<|starEach es X.env).any (·.1)=false:=by rfl) :
   SE X (.Call (.Attribute o "append" apos) (e::es) [] cpos) (mApp m mm) :=
 PE.imp (zrh PySem.F.plainAttrs_list PySem.F.slot_list_append PySem.F.type_list_append zh5 ho ha hbase hfew hline hs hplain) <| by
   rintro M H Q ⟨U,st,io,d,st',E,S,e,k⟩;obtain⟨⟨x,s1⟩,e1,e⟩:=zaf e
   cases x with
   | ref n =>
     obtain⟨l,e0,e⟩:=zaf e;obtain⟨⟨xs,s2⟩,e2,e⟩:=zaf e;refine⟨U,st,io,_,s1,E,S,e1,fun v1 H1 k1 X1 S1 R1=>⟨zkS R1 S1 e0,U,s1,io++k1,xs,s2,E.ext S X1,S1,e2,fun vs H2 k2 X2 S2 R2=>?_⟩⟩;exact⟨_,xs,s2,(io++k1)++k2,d,st',R1.ext S1 X2,R2,S2,e,(k.on S1 X1).on S2 X2⟩
   | _=>cases e
noncomputable abbrev MO:=Rho->Sto->Option (Option Int×Sto)
inductive tOm (K:Ab) (m:MO) (M:L2.St) (H:Hp) (Q:Option Int->Hp->Prop):Prop
 | mk (U:Rho) (st:Sto) (io:List Addr) (d:Option Int) (st':Sto) (h1:EnvR K H io M U) (h2:StR K H io st) (h3:m U st=some (d,st')) (h4:∀ H' ka,Ext io ka H H'->StR K H' (io++ka) st'->Q d H')
def SO(X:Cx)(e:Option Expr)(m:MO):Prop:=PO X e<|tOm X.K m
def zeF:MO:=fun _ st=>some (none,st)
def zeE(m:ME):MO:=fun U st=>(m U st).bind fun (d,s)=>match d with
 | .int i=>some (some i,s)
 | _=>none
def zcE:SO X none zeF:=fun pins s M H Q I ⟨U,st,io,d,st',E,S,e,k⟩=>znv pins s M H Q I (by cases e;exact k H [] Ext.refl S.nil)
def zcD(h:SE X e m):SO X (some e) (zeE m):=fun pins s M H Q I ⟨U,st,io,d,st',E,S,e,k⟩=>zkt h pins s M H Q I (by
 obtain⟨⟨x,s1⟩,e1,e⟩:=zaf e
 cases x with
 | int i =>
   cases e;exact⟨U,st,io,_,_,E,S,e1,fun v1 H1 k1 X1 S1 R1=>⟨i,R1,k H1 k1 X1 S1⟩⟩
 | _=>cases e)
def cutD(xs:List D)(lo hi:Option Int):List D:=(xs.drop<|HT.sIx xs.length 0 lo).take<|HT.sIx xs.length xs.length hi - HT.sIx xs.length 0 lo
def ziB(r:Reps K H io xs ds)(lo hi:Option Int):Reps K H io (cutV xs lo hi) (cutD ds lo hi):=by unfold cutV cutD;rw[r.length];exact (r.drop _).take _
def slD:D->Option Int->Option Int->Sto->Option (D×Sto):=fun x lo hi st=>match x with
 | .tup ds=>if (decide (HT.sIx ds.length 0 lo=0)&&decide (HT.sIx ds.length ds.length hi=ds.length))=true then none else some (.tup (cutD ds lo hi),st)
 | .ref n=>(zbi st n).map fun ds=>(.ref st.length,st++[.lst (cutD ds lo hi)])
 | _=>none
def mSl(m:ME)(l h:MO):ME:=fun U st=>(m U st).bind fun (x,s1)=>(l U s1).bind fun (lo,s2)=>(h U s2).bind fun (hi,s3)=>slD x lo hi s3
def rSlM(K:Ab):V->Option Int->Option Int->Hp->VK->Prop:=fun x lo hi H Q=>rSlT K x lo hi H Q\/rSlL K x lo hi H Q
def sl_M:SlR X (rSlM X.K):=by
 intro pins s M H x v vl vu lo hi sl Q I rx hs pl pu h
 rcases h with h | h
 . exact zo1 pins s M H x v vl vu lo hi sl Q I rx hs pl pu h
 exact zkl pins s M H x v vl vu lo hi sl Q I rx hs pl pu h
def zlc{ml mh:MO}(he:SE X e m)(hl:SO X lo ml)(hu:SO X hi mh):SE X (.Subscript e (.Slice lo hi none p2) pos) (mSl m ml mh):=PE.imp (zer sl_M he hl hu) <| by
 rintro M H Q ⟨U,st,io,d,st',E,S,e,k⟩;obtain⟨⟨x,s1⟩,e1,e⟩:=zaf e;obtain⟨⟨lo',s2⟩,e2,e⟩:=zaf e;obtain⟨⟨hi',s3⟩,e3,e⟩:=zaf e;refine⟨U,st,io,x,s1,E,S,e1,fun v1 H1 k1 X1 S1 R1=>⟨U,s1,io++k1,lo',s2,E.ext S X1,S1,e2,fun H2 k2 X2 S2=>⟨U,s2,(io++k1)++k2,hi',s3,(E.ext S X1).ext S1 X2,S2,e3,fun H3 k3 X3 S3=>?_⟩⟩⟩;have R3:=(R1.ext S1 X2).ext S2 X3;have k':=((k.on S1 X1).on S2 X2).on S3 X3
 cases x with
 | tup ds =>
   have e:(if (decide (HT.sIx ds.length 0 lo'=0)&&decide (HT.sIx ds.length ds.length hi'=ds.length))=true then none else some (D.tup (cutD ds lo' hi'),s3))=some (d,st'):=e
   by_cases hw:(decide (HT.sIx ds.length 0 lo'=0)&&decide (HT.sIx ds.length ds.length hi'=ds.length))=true
   . rw[if_pos hw] at e;cases e
   rw[if_neg hw] at e;cases e;obtain⟨p,xs,rfl,hp,r⟩:=R3;refine .inl ⟨p,xs,rfl,SqT.of hp,fun z=>hw ?_,fun q hq=>k'.tup S3 (ziB r _ _) hq⟩;rw[r.length] at z;rw[Al];exact⟨decide_eq_true z.1,decide_eq_true z.2⟩
 | ref n =>
   obtain⟨ds,e0,e⟩:=zaj e;cases e;obtain⟨p,rfl,hp⟩:=R3;obtain⟨xs,hx,r⟩:=zaW S3 hp e0;exact .inr ⟨p,xs,rfl,hx,fun q hq=>k'.lst S3 (ziB r _ _) hq⟩
 | _=>cases e
def zi1:G2:=intD (fun _ j=>decide (0 < j)&&decide (j < 2 ^ 128)) fun i j=>.int<|i / j
def zfJ:OpM X (binaryOp .FloorDiv) zi1:=zd3 (C:=fun i j=>0 < j/\j < 2 ^ 128) (opI fun i j _ _ _ _ _ hc q=>by
 refine floordiv_int (by omega) (by rw[Int.fdiv_eq_ediv_of_nonneg i (by omega)];exact q)<|.inl<|PyProof.noPylong_of_log2 ?_;have h0:j.natAbs≠0:=by omega
 have h1:j.natAbs < 2 ^ 128:=by omega
 exact BE ((Nat.log2_lt h0).mpr h1) (by decide)) fun i j h=>by rw[Al] at h;exact⟨of_decide_eq_true h.1,of_decide_eq_true h.2⟩
def powB:G2:=intD (fun i j=>decide (0<=j)&&decide ((Builtin.Int.intBits i:Int)*j<=2 ^ 27)) fun i j=>.int<|i ^ j.toNat
def zd2:OpM X (binaryOp .Pow) powB:=zd3 (C:=fun i j=>0<=j/\(Builtin.Int.intBits i:Int)*j<=2 ^ 27) (opI fun i j _ _ _ _ _ hc q=>pow_int hc.1 hc.2 q) fun i j h=>by rw[Al] at h;exact⟨of_decide_eq_true h.1,of_decide_eq_true h.2⟩
def subT(t T:String):Bool:=t==T || (t=="bool"&&T=="int")
def sorts:List String:=["NoneType","bool","int","str","tuple","list","dict"]
def kinds:List String:=["bool","int","str","tuple","list","dict"]
variable {t:String}
def zn1(ht:t∈sorts)(hT:T∈kinds):Fm K (.type t) (.type T)=some (subT t T):=by
 have all:∀ t∈sorts,∀ T∈kinds,Fm K (.type t) (.type T)=some (subT t T):=by
   intro t ht T hT;simp only[sorts,kinds,AN,AF,or_false] at ht hT
   rcases ht with rfl | rfl | rfl | rfl | rfl | rfl | rfl <;> rcases hT with rfl | rfl | rfl | rfl | rfl | rfl <;> rfl
 exact all t ht T hT
def tyName(st:Sto):D->Option String
 | .non=>some "NoneType"
 | .bl _=>some "bool"
 | .int _=>some "int"
 | .str _=>some "str"
 | .tup _=>some "tuple"
 | .ref n=>match st[n]? with
   | some (.lst _)=>some "list"
   | some (.fz _)=>some "list"
   | some (.dk _)=>some "dict"
   | some (.dt _)=>some "dict"
   | some .dz=>some "dict"
   | _=>none
 | .kl _=>none
 | .fn _=>none
def zie(I:Inv X pins M H s)(h:SqL X.K H p xs):Dc p "list" s.heap:=by obtain⟨its,_,⟨o,n,e,c,_,_⟩,_⟩:=I.list h;exact⟨o,e,c⟩
def zgt{ps:List (Key×V)}(I:Inv X pins M H s)(h:H p=some (.dK ps)):Dc p "dict" s.heap:=by obtain⟨_,_,_,_,o,_,_,e,ex,_⟩:=I.hok p _ h;exact⟨o,e,ex.1⟩
def zgs{ps:List (List Key×V)}(I:Inv X pins M H s)(h:H p=some (.dT ps)):Dc p "dict" s.heap:=by obtain⟨_,_,_,_,o,_,_,e,ex,_⟩:=I.hok p _ h;exact⟨o,e,ex.1⟩
def zn2(I:Inv X pins M H s)(h:H p=some (.ext<|DzZ p)):Dc p "dict" s.heap:=by obtain⟨⟨o,_,_,e,ex,_⟩,_⟩:=I.hok p _ h;exact⟨o,e,ex.1⟩
def zn7{u:Value}{Q:Value->Shared->Prop}(I:Inv X pins M H s)(S:StR X.K H io st)(R:Rep X.K H io v d)(r:RelV v u)(ht:tyName st d=some t)(hT:T∈kinds)
   (q:∀ tk,Q (.bool<|subT t T) { s with toks:=tk }):wpAny (model X.prog X.w) X.A (call (.builtin "isinstance") [u,.type T]) Q E s:=by
 have k:=fun {x:Value} {HH:Heap->Prop} (hs:t∈sorts) (Z:PySem.W.KitX X.K x (.type t) HH) (p:HH s.heap) (hx:x≠.builtin "__main__.__loader__#opaque")=>PySem.W.kia_one (prog:=X.prog) (w:=X.w) (A:=X.A) (E:=E) Z I.kIn p (zn1 hs hT) hx q
 cases d with
 | non=>cases ht;cases (show v=.non from R);cases r;exact k (by decide) PySem.W.kitx_none trivial (by intro e;cases e)
 | bl b=>cases ht;cases (show v=.bl b from R);cases r;exact k (by decide) PySem.W.kitx_bool trivial (by intro e;cases e)
 | int b=>cases ht;cases (show v=.int b from R);obtain⟨t,rfl⟩:=r;exact k (by decide) PySem.W.kitx_int trivial (by intro e;cases e)
 | str b=>cases ht;cases (show v=.str b from R);obtain⟨t,rfl⟩:=r;exact k (by decide) PySem.W.kitx_str trivial (by intro e;cases e)
 | tup ds =>
   cases ht;obtain⟨p,xs,rfl,hp,_⟩:=R;cases r;obtain⟨its,_,⟨o,e,c,_⟩,_⟩:=I.tuple<|SqT.of hp;exact k (by decide) PySem.W.kitx_tuple ⟨o,e,c⟩ (by intro e;cases e)
 | ref n =>
   obtain⟨p,rfl,hp⟩:=R;cases r;unfold tyName at ht;dsimp only at ht
   split at ht
   . rename_i o e;cases ht;obtain⟨xs,hH,_⟩:=S.ob n p _ hp e;exact k (by decide) EB (zie I<|SqL.of hH) (by intro e;cases e)
   . rename_i o e;cases ht;obtain⟨ob,xs,hH,_⟩:=S.ob n p _ hp e;exact k (by decide) EB (zie I<|.inl<|.inr ⟨ob,hH⟩) (by intro e;cases e)
   . rename_i o e;cases ht;obtain⟨xs,hH,_⟩:=S.ob n p _ hp e;exact k (by decide) Do (zgt I hH) (by intro e;cases e)
   . rename_i o e;cases ht;obtain⟨xs,hH,_⟩:=S.ob n p _ hp e;exact k (by decide) Do (zgs I hH) (by intro e;cases e)
   . rename_i e;cases ht;exact k (by decide) Do (zn2 I<|S.ob n p _ hp e) (by intro e;cases e)
   . cases ht
 | kl ds=>cases ht
 | fn ds=>cases ht
def rIsi(K:Ab)(T:String):List V->Hp->VK->Prop:=fun xs H Q=>∃ x d st io t,xs=[x,.ty T]/\Rep K H io x d/\StR K H io st/\tyName st d=some t/\Q (.bl<|subT t T) H
def zmu(hT:T∈kinds):zi0 X (.builtin "isinstance") (rIsi X.K T):=by rintro pins s M H xs us Q I r ⟨x,d,st,io,t,e,R,S,ht,q⟩;subst e;obtain⟨u,w,rfl,ru,rw'⟩:=r.two;cases rw';exact zn7 I S R ru ht hT fun tk=>⟨.bl _,H,I.tok tk,rfl,q⟩
def mIsi(T:String)(m:ME):ME:=fun U st=>(m U st).bind fun (x,s)=>(tyName s x).map fun t=>(.bl (subT t T),s)
def zpb{x y:Str}{p:Pos}(hT:T∈kinds)(hg:Gl X "isinstance")(hm:X.mg "isinstance"=none)(ha:SE X a m)(hgy:Gl X y)(hmy:X.mg y=none)(hvy:bootBuiltins y=some (.type T))(hny:y≠"__name__":=by decide)(hdy:(y==("__debug__":Str))=false:=by decide)
   (hs:starEach [a,.Name y p2] X.env=(false,eval a X.env)::starEach [.Name y p2] X.env:=by rfl) (hs2:starEach [.Name y p2] X.env=[(false,eval (.Name y p2) X.env)]:=by rfl) (hpl:(backTo pos<|starEach [.Name y p2] X.env).any (·.1)=false:=by rfl) :
   SE X (.Call (.Name "isinstance" p) [a,.Name y p2] [] pos) (mIsi T m) :=
 PE.imp (zhR (zmu hT) hg hm (by decide +kernel) (zhS ha (zhS (znD (v:=.ty T) hgy hmy hvy rfl hny hdy) znE hs2) hs) (by decide) (by decide) hs hpl) <| by rintro M H Q ⟨U,st,io,d,st',E,S,e,k⟩;obtain⟨⟨x,s1⟩,e1,e⟩:=zaf e;obtain⟨t,e2,e⟩:=zaj e;cases e;exact⟨U,st,io,x,_,E,S,e1,fun v1 H1 k1 X1 S1 R1=>⟨v1,x,_,io++k1,t,rfl,R1,S1,e2,k _ H1 k1 X1 S1 rfl⟩⟩
def zdq{α:Type}{le:α->α->Prop}:∀ {l1 l2:List α},l1.Perm l2->l1.Pairwise le->l2.Pairwise le->(∀ a∈l1,∀ b∈l1,le a b->le b a->a=b)->l1=l2
 | [],l2,p,_,_,_=>(List.Perm.nil_eq p)
 | a::l1,[],p,_,_,_=>absurd p.symm (by intro h;have:=h.length_eq;simp at this)
 | a::l1,b::l2,p,h1,h2,an=>by
   obtain⟨ha,h1'⟩:=List.pairwise_cons.mp h1;obtain⟨hb,h2'⟩:=List.pairwise_cons.mp h2;have e:a=b:=by
     have m1:a∈b::l2:=p.mem_iff.mp Ak;have m2:b∈a::l1:=p.mem_iff.mpr Ak
     rcases List.mem_cons.mp m1 with q | q
     . exact q
     . rcases List.mem_cons.mp m2 with r | r
       . exact r.symm
       exact an a Ak b (Aj _ r) (ha b r)<|hb a q
   subst e;rw[zdq ((List.perm_cons a).mp p) h1' h2' fun x hx y hy=>an x (Aj _ hx) y (Aj _ hy)]
def sle(a b:Str):Bool:=!decide (b.cps.toList < a.cps.toList)
def zc6(ss:List Str):List Str:=ss.mergeSort sle
def zmY{a b:Str}(h:a.cps.toList=b.cps.toList):a=b:=by
 obtain⟨x⟩:=a;obtain⟨y⟩:=b;have:x=y:=by have h':x.toList=y.toList:=h;exact Array.toList_inj.mp h'
 rw[this]
def zjg(a b:Str):(sle a b || sle b a)=true:=by
 unfold sle;rw[EW,Bt,Bt,decide_eq_false_iff_not,decide_eq_false_iff_not]
 by_cases h:b.cps.toList < a.cps.toList
 . exact .inr<|List.lt_asymm h
 exact .inl h
def zga(a b c:Str)(h1:sle a b=true)(h2:sle b c=true):sle a c=true:=by unfold sle at *;rw[Bt,decide_eq_false_iff_not] at *;have h1:a.cps.toList<=b.cps.toList:=h1;have h2:b.cps.toList<=c.cps.toList:=h2;exact List.le_trans h1 h2
def zk8{a b:Str}(h1:sle a b=true)(h2:sle b a=true):a=b:=by unfold sle at *;rw[Bt,decide_eq_false_iff_not] at *;exact zmY<|List.le_antisymm h1 h2
def zd0:∀ {ss:List Str} {p:Str},risingS p ss=true->(p::ss).Pairwise fun a b=>sle a b=true
 | [],p,_=>by simp
 | s::ss,p,h=>by
   have h':(!ltCps s.cps.toList p.cps.toList&&risingS s ss)=true:=h;rw[Al] at h';have ih:=zd0 h'.2;have hps:sle p s=true:=by have:=h'.1;rw[ltCps_eq] at this;exact this
   refine List.pairwise_cons.mpr ⟨fun x hx=>?_,ih⟩
   rcases List.mem_cons.mp hx with rfl | hx
   . exact hps
   exact zga _ _ _ hps<|(List.pairwise_cons.mp ih).1 x hx
variable {ss:List Str}
def zeT{ss':List Str}(p:ss'.Perm ss)(h:sortedS ss'=true):ss'=zc6 ss:=by
 have hp:ss'.Pairwise fun a b=>sle a b=true:=by
   cases ss' with
   | nil=>exact Cq
   | cons x r=>exact zd0 h
 refine zdq (p.trans (Cb ss sle).symm) hp (DA (fun a b c=>zga a b c) zjg ss) fun a _ b _=>zk8
variable {r:List D}
def strsOf:List D->Option (List Str)
 | []=>some []
 | .str x::r=>(strsOf r).map fun xs=>x::xs
 | _=>none
def zgR(h:strsOf (d::r)=some ss):∃ x xs,d=.str x/\strsOf r=some xs/\ss=x::xs:=by
 cases d with
 | str x =>
   obtain⟨xs,e,h⟩:=zaj h;exact⟨x,xs,rfl,e,h.symm⟩
 | _=>cases h
def zhs(ss:List Str):strsOf (ss.map D.str)=some ss:=by
 induction ss with
 | nil=>rfl
 | cons x r ih=>show (strsOf<|r.map D.str).map _=_;rw[ih];rfl
def zhr:∀ {xs:List V} {us:List Value} {ds:List D} {ss:List Str},Reps K H io xs ds->Vals xs us->strsOf ds=some ss->StrsAre us ss
 | _,_,[],ss,h,r,e=>by cases (show _=[] from h);cases r;cases e;exact .nil
 | _,_,d::ds,ss,h,r,e=>by
   obtain⟨y,ys,rfl,h1,h2⟩:=h;obtain⟨x,rest,rfl,e2,rfl⟩:=zgR e
   cases r with
   | cons r1 r2 =>
     cases (show y=.str x from h1)
     obtain⟨t,rfl⟩:=r1;exact .cons x t<|zhr h2 r2 e2
def zeh:∀ {us:List Value} {ss:List Str},StrsAre us ss->Vals (ss.map V.str) us
 | _,_,.nil=>.nil
 | _,_,.cons y t r=>.cons ⟨t,rfl⟩<|zeh r
def zjb(ss:List Str):Reps K H io (ss.map V.str) (ss.map D.str):=by
 induction ss with
 | nil=>exact rfl
 | cons x r ih=>exact Reps.cons rfl ih
def lt64(h:n < 64):n<=sizeLine:=AC (B3 h)<|by decide
def zco:GN
 | [.ref n],st=>(zbi st n).bind fun ds=>(strsOf ds).bind fun ss=>if decide (ss.length < 64)=true then some (.ref st.length,st++[.lst ((zc6 ss).map D.str)]) else none
 | _,_=>none
def zfj:zcN X (.builtin "sorted") zco:=by
 rintro pins s M H xs us Q I r ⟨ds,st,io,d,st',R,S,e,k⟩;unfold zco at e
 split at e
 . rename_i n;obtain⟨ts,e0,e⟩:=zaf e;obtain⟨ss,e1,e⟩:=zaf e;obtain⟨hl,e⟩:=zao e;cases e;have hl:=of_decide_eq_true hl;obtain⟨v,rfl,p,rfl,hp⟩:=R.one;obtain⟨u,rfl,ru⟩:=r.one;cases ru;obtain⟨ys,hx,r1⟩:=zaW S hp e0;obtain⟨its,rv,pl,hz⟩:=I.list hx;have hS:=zhr r1 rv e1;have hlen:its.length=ss.length:=by
     have h1:=rv.length;have h2:=(zeh hS).length;rw[Ag] at h2;omega
   refine sorted_strs pl.isList hS (by omega) fun out ss' a1 a2 a3=>?_;have es:=zeT a2 a3;obtain⟨ep,hat⟩:=sortedAll_at s.heap its out;have hv:=zeh a1;have hfree:H (s.heap.objs.size+1)=none:=I.hok.fresh<|Cv _;have hlen':(ss'.map V.str).length<=sizeLine:=by rw[Ag,a2.length_eq];exact lt64 hl
   refine⟨.ref<|s.heap.objs.size+1,upd H (s.heap.objs.size+1)<|.lst<|ss'.map V.str,I.laid (t':=s.toks) (a:=s.heap.objs.size+1) (fun b o q=>sortedAll_old q) (Cv _) ⟨hlen',out.toList,ep,hv,by simpa using hat⟩,rfl,?_⟩;rw[es] at *;exact k.lst S (zjb _) hfree
 . cases e
def rSlS:V->Option Int->Option Int->Hp->VK->Prop:=fun x lo hi H Q=>∃ z,x=.str z/\z.length<=sizeLine/\Q (.str<|Fo z lo hi) H
def zo2:SlR X rSlS:=by
 rintro pins s M H x v vl vu lo hi sl Q I rx hs pl pu ⟨z,e,hz,q⟩;subst e;obtain⟨t,rfl⟩:=rx;refine⟨"str",_,F.slot_str_getitem.lookup,ET _ _ _,?_⟩;have fin:∀ t' k,EP X pins M Q (.str (Fo z lo hi) t') { s with toks:=k }:=fun t' k=>⟨.str _,H,I.tok k,⟨t',rfl⟩,q⟩
 cases pl with
 | none =>
   cases pu with
   | none=>exact BW (l:=none) (u:=none) (st:=none) hs rfl<|Cf ⟨AC (Du z _ _) hz,fin⟩
   | int j tj=>exact BW (l:=none) (u:=some (j,tj)) (st:=none) hs rfl<|Cf ⟨AC (Du z _ _) hz,fin⟩
 | int i ti =>
   cases pu with
   | none=>exact BW (l:=some (i,ti)) (u:=none) (st:=none) hs rfl<|Cf ⟨AC (Du z _ _) hz,fin⟩
   | int j tj=>exact BW (l:=some (i,ti)) (u:=some (j,tj)) (st:=none) hs rfl<|Cf ⟨AC (Du z _ _) hz,fin⟩
def slS:D->Option Int->Option Int->Sto->Option (D×Sto):=fun x lo hi st=>match x with
 | .str z=>if fits z.length=true then some (.str (Fo z lo hi),st) else none
 | _=>none
def mSlS(m:ME)(l h:MO):ME:=fun U st=>(m U st).bind fun (x,s1)=>(l U s1).bind fun (lo,s2)=>(h U s2).bind fun (hi,s3)=>slS x lo hi s3
def zjj{ml mh:MO}(he:SE X e m)(hl:SO X lo ml)(hu:SO X hi mh):SE X (.Subscript e (.Slice lo hi none p2) pos) (mSlS m ml mh):=PE.imp (zer zo2 he hl hu) <| by
 rintro M H Q ⟨U,st,io,d,st',E,S,e,k⟩;obtain⟨⟨x,s1⟩,e1,e⟩:=zaf e;obtain⟨⟨lo',s2⟩,e2,e⟩:=zaf e;obtain⟨⟨hi',s3⟩,e3,e⟩:=zaf e;refine⟨U,st,io,x,s1,E,S,e1,fun v1 H1 k1 X1 S1 R1=>⟨U,s1,io++k1,lo',s2,E.ext S X1,S1,e2,fun H2 k2 X2 S2=>⟨U,s2,(io++k1)++k2,hi',s3,(E.ext S X1).ext S1 X2,S2,e3,fun H3 k3 X3 S3=>?_⟩⟩⟩;have k':=((k.on S1 X1).on S2 X2).on S3 X3
 cases x with
 | str z =>
   obtain⟨hf,e⟩:=zao e;cases e;exact⟨z,R1,of_decide_eq_true hf,k'.now S3 rfl⟩
 | _=>cases e
def repS(x:Str)(n:Int):Str:=if n < 1 then Str.empty else if (n==1 || x.length==0)=true then x else ⟨(Bk n.toNat x.cps).foldl (·++·) #[]⟩
def zoF:G2
 | .str x,.int n,st=>if (decide (-(2 ^ 62)<=n)&&decide (n < 2 ^ 20)&&decide (x.length*n.toNat<=sizeLine)&&decide ((repS x n).length<=sizeLine))=true then some (.str (repS x n),st) else none
 | _,_,_=>none
def zlG:OpM X (binaryOp .Mult) zoF:=by
 rintro pins s M H x y v u Q I rx ry ⟨dx,dy,st,io,d,st',Rx,Ry,S,e,k⟩;unfold zoF at e
 split at e
 . rename_i z n;obtain⟨hc,e⟩:=zao e;cases e;rw[Al,Al,Al] at hc;obtain⟨⟨⟨h1,h2⟩,h3⟩,h4⟩:=hc;have h1:=of_decide_eq_true h1;have h2:=of_decide_eq_true h2;have h3:=of_decide_eq_true h3;have h4:=of_decide_eq_true h4
   cases (show x=.str z from Rx)
   cases (show y=.int n from Ry)
   obtain⟨t,rfl⟩:=rx;obtain⟨t2,rfl⟩:=ry;have fin:∀ t' k',EP X pins M Q (.str (repS z n) t') { s with toks:=k' }:=fun t' k'=>⟨.str _,H,I.tok k',⟨t',rfl⟩,k.now S rfl⟩
   refine PySem.P.mul_str (by rw[decide_eq_false (by omega),decide_eq_false (by omega)];rfl) (fun hn _=>?_) (fun hn _=>?_) ?_
   . have hs:sizeLine=16777216:=C4;have hnn:((n.toNat:Nat):Int)=n:=Ee (by omega);have hm:(z.length:Int)*n<=2 ^ 63 - 1:=by
       rw[<-hnn,<-Int.natCast_mul];omega
     have:=Int.le_ediv_of_mul_le (by omega:0 < n) hm;omega
   . unfold Builtin.Str.tooLong;exact decide_eq_false<|by omega
   . unfold repS at fin h4
     by_cases hn:n < 1
     . rw[if_pos hn] at fin h4 ⊢;exact⟨h4,fin s.toks<|s.toks+1⟩
     rw[if_neg hn] at fin h4 ⊢;exact Cf ⟨h4,fin⟩
 . cases e
def memP(p:PyData):PyData->Option Bool
 | .list xs=>some<|xs.any fun y=>CN y p
 | .tuple xs=>some<|xs.any fun y=>CN y p
 | _=>none
def inD(neg:Bool):G2:=fun x y st=>(toP 50 st x).bind fun p=>(toP 50 st y).bind fun q=>(memP p q).map fun b=>(.bl (if neg then !b else b),st)
def zec{xs:List PyData}(h:(PyData.list xs).canLay0=true):B2 xs=true:=by simpa only [Bx] using h
def zdC{xs:List PyData}(h:(PyData.tuple xs).canLay0=true):B2 xs=true:=by simpa only [Bx] using h
def zpJ(hu:X.A.units+100 < cLine):OpM X (compareOp .In) (inD false):=by
 rintro pins s M H x y v u Q I rx ry ⟨dx,dy,st,io,d,st',Rx,Ry,S,e,k⟩;obtain⟨p,e1,e⟩:=zaf e;obtain⟨q,e2,e⟩:=zaf e;obtain⟨r,e3,e⟩:=zaj e;cases e;obtain⟨as,ra⟩:=zbD I S Rx rx e1;obtain⟨bs,rb⟩:=zbD I S Ry ry e2;have h1:=zdS e1;have h2:=zdS e2;have hb:∀ n,X.A.units+1+min n p.depth < cLine:=fun n=>by have:=Dt n p.depth;omega
 cases q with
 | list xs=>cases e3;exact PySem.SeqAt.in_list_reads rb ra (zec h2.1) h1.1 (hb _) ⟨.bl _,H,I,rfl,k.now S rfl⟩
 | tuple xs=>cases e3;exact PySem.SeqAt.in_tuple_reads rb ra (zdC h2.1) h1.1 (hb _) ⟨.bl _,H,I,rfl,k.now S rfl⟩
 | _=>cases e3
def zjA(hu:X.A.units+100 < cLine):OpM X (compareOp .NotIn) (inD true):=by
 rintro pins s M H x y v u Q I rx ry ⟨dx,dy,st,io,d,st',Rx,Ry,S,e,k⟩;obtain⟨p,e1,e⟩:=zaf e;obtain⟨q,e2,e⟩:=zaf e;obtain⟨r,e3,e⟩:=zaj e;cases e;obtain⟨as,ra⟩:=zbD I S Rx rx e1;obtain⟨bs,rb⟩:=zbD I S Ry ry e2;have h1:=zdS e1;have h2:=zdS e2;have hb:∀ n,X.A.units+1+min n p.depth < cLine:=fun n=>by have:=Dt n p.depth;omega
 cases q with
 | list xs=>cases e3;exact PySem.SeqAt.notIn_list_reads rb ra (zec h2.1) h1.1 (hb _) ⟨.bl _,H,I,rfl,k.now S rfl⟩
 | tuple xs=>cases e3;exact PySem.SeqAt.notIn_tuple_reads rb ra (zdC h2.1) h1.1 (hb _) ⟨.bl _,H,I,rfl,k.now S rfl⟩
 | _=>cases e3
def inSD:G2
 | .str i,.str j,st=>some (.bl (!(Builtin.Str.occurrences j i 0 j.length 1).isEmpty),st)
 | _,_,_=>none
def znJ:OpM X (compareOp .In) inSD:=by
 rintro pins s M H x y v u Q I rx ry ⟨dx,dy,st,io,d,st',Rx,Ry,S,e,k⟩;unfold inSD at e
 split at e
 . rename_i i j
   cases e;exact zjB pins s M H x y v u Q I rx ry ⟨i,j,Rx,Ry,k.now S rfl⟩
 . cases e
def zkc:List D->Option (List Bool)
 | []=>some []
 | .bl x::r=>(zkc r).map fun xs=>x::xs
 | _=>none
def ziO{ss:List Bool}(h:zkc (d::r)=some ss):∃ x xs,d=.bl x/\zkc r=some xs/\ss=x::xs:=by
 cases d with
 | bl x =>
   obtain⟨xs,e,h⟩:=zaj h;exact⟨x,xs,rfl,e,h.symm⟩
 | _=>cases h
def zkL:∀ {xs:List V} {us:List Value} {ds:List D} {ss:List Bool},Reps K H io xs ds->Vals xs us->zkc ds=some ss->us=ss.map CI
 | _,_,[],ss,h,r,e=>by cases (show _=[] from h);cases r;cases e;rfl
 | _,_,d::ds,ss,h,r,e=>by
   obtain⟨y,ys,rfl,h1,h2⟩:=h;obtain⟨x,rest,rfl,e2,rfl⟩:=ziO e
   cases r with
   | cons r1 r2 =>
     cases (show y=.bl x from h1)
     cases r1;rw[zkL h2 r2 e2];rfl
def allC:GN
 | [.ref n],st=>(zbi st n).bind fun ds=>(zkc ds).map fun bs=>(.bl (bs.all id),st)
 | _,_=>none
def range_all(bs:List Bool):((Ax bs.length).all fun i=>bs.getD i false)=bs.all id:=by
 rw[Bool.eq_iff_iff,CC,CC]
 constructor
 . intro h b hb;obtain⟨i,hi,e⟩:=CZ hb;have:=h i<|List.mem_range.mpr hi;rw[Aq,Ah hi,e] at this;exact this
 intro h i hi;have hi:=List.mem_range.mp hi;rw[Aq,Ah hi];exact h _<|AS hi
def zkb(hc:X.calm=true):zcN X (.builtin "all") allC:=by
 rintro pins s M H xs us Q I r ⟨ds,st,io,d,st',R,S,e,k⟩;unfold allC at e
 split at e
 . rename_i n;obtain⟨ts,e0,e⟩:=zaf e;obtain⟨bs,e1,e⟩:=zaj e;cases e;obtain⟨v,rfl,p,rfl,hp⟩:=R.one;obtain⟨u,rfl,ru⟩:=r.one;cases ru;obtain⟨ys,hx,r1⟩:=zaW S hp e0;obtain⟨its,rv,pl,hz⟩:=I.list hx;have hb:=zkL r1 rv e1;subst hb;refine call_all_walk<|Cp pl.isList ?_;have hlt:p < s.heap.objs.size:=by
     obtain⟨o,_,e,_⟩:=pl;exact Ai e
   refine⟨_,_,_,_,_,_,fun i=>bs.getD i false,rfl,Walks.list (A:=X.A.in1) (I.ok.hd hc) s.heap.objs.size p (Ar hlt) (bs.map CI).toArray,⟨⟨_,Am _ rfl,rfl,rfl⟩,?_⟩,?_,fun h' tk hk=>?_⟩
   . obtain⟨o,nn,e,c,dd,sq⟩:=pl;exact⟨o,Ad _ e,c,nn,sq⟩
   . intro i v s' Q' E' hv hq;have hv:((bs.map CI).toArray)[i]?=some v:=hv;rw[DU,Av] at hv
     cases ei:bs[i]? with
     | none=>rw[ei] at hv;cases hv
     | some bb =>
       rw[ei] at hv;cases hv;refine Bd ?_;have hg:bs.getD i false=bb:=by rw[Aq,ei];rfl
       have hq:Q' (bs.getD i false) s':=hq;rw[hg] at hq;exact hq
   . refine⟨.bl _,H,I.kept (t':=tk) fun b o q=>hk b o ?_ (Ad _ q),rfl,?_⟩
     . simp;exact Ar<|Ai q
     . have:((Ax (bs.map CI).toArray.size).all fun i=>bs.getD i false)=bs.all id:=by simpa using range_all bs
       rw[this];exact k.now S rfl
 . cases e
end L2.MP
namespace Srt
open PySem PySem.W PyProof.Rows
variable {α:Type}
def Hd(n:Nat)(r:Nat->Int){α:Type}:KasT α->(α->Prop)->Prop
 | .ret a,Q=>Q a
 | .ask i j k,Q=>(i < n/\j < n)/\Hd n r (k<|decide (r i < r j)) Q
variable {n i j src d m N:Nat}{c:Prop}{p:Array Nat}
section
variable {r:Nat->Int} {β:Type}
def Hd.bind{f:α->KasT β}{Q:β->Prop}:∀ {t:KasT α},Hd n r t (fun a=>Hd n r (f a) Q)->Hd n r (t.bind f) Q
 | .ret _,h=>h
 | .ask i j k,h=>⟨h.1,Hd.bind (t:=k _) h.2⟩
def Hd.mono{P Q:α->Prop}(k:∀ a,P a->Q a):∀ {t:KasT α},Hd n r t P->Hd n r t Q
 | .ret a,h=>k a h
 | .ask i j f,h=>⟨h.1,Hd.mono k (t:=f _) h.2⟩
def zio[Decidable c]{A B:KasT α}{Q:α->Prop}(hc:c)(h:Hd n r A Q):Hd n r (if decide c=true then A else B) Q:=by rw[decide_eq_true hc,if_pos rfl];exact h
def ziq[Decidable c]{A B:KasT α}{Q:α->Prop}(hc:¬ c)(h:Hd n r B Q):Hd n r (if decide c=true then A else B) Q:=by rw[decide_eq_false hc,if_neg Bi];exact h
def Bel(n:Nat)(p:Array Nat):Prop:=∀ k,p.getD k 0 < n
def R(r:Nat->Int)(p:Array Nat)(k:Nat):Int:=r<|p.getD k 0
def Up(r:Nat->Int)(p:Array Nat)(m:Nat):Prop:=∀ i j,i<=j->j < m->R r p i<=R r p j
def Dn(r:Nat->Int)(p:Array Nat)(m:Nat):Prop:=∀ i j,i<=j->j < m->R r p j<=R r p i
def getD_eq{q:Array Nat}(h:p[i]?=q[j]?):p.getD i 0=q.getD j 0:=by rw[BF,BF,h]
def zgc(hj:j<=p.size)(k:Nat):(kas_rev p i j).getD k 0=if i<=k/\k < j then p.getD (i+j - 1 - k) 0 else p.getD k 0:=by
 have e:=getElem?_mirror_all (i:=i) hj k;unfold kas_rev
 by_cases h:i<=k/\k < j
 . rw[if_pos h] at e ⊢;exact getD_eq e
 rw[if_neg h] at e ⊢;exact getD_eq e
def zkJ(hs:src < p.size)(hd:d<=src)(k:Nat):(bubble p src d).getD k 0=if k=src - d then p.getD src 0 else if src - d < k/\k<=src then p.getD (k - 1) 0 else p.getD k 0:=by
 have e:=getElem?_bubble hs d hd k
 by_cases h1:k=src - d
 . rw[if_pos h1] at e ⊢;exact getD_eq e
 . rw[if_neg h1] at e ⊢
   by_cases h2:src - d < k/\k<=src
   . rw[if_pos h2] at e ⊢;exact getD_eq e
   rw[if_neg h2] at e ⊢;exact getD_eq e
def zeY(hj:j<=p.size)(h:Bel n p):Bel n (kas_rev p i j):=fun k=>by
 rw[zgc hj];split
 . exact h _
 exact h _
def zom(hs:src < p.size)(hd:d<=src)(h:Bel n p):Bel n (bubble p src d):=fun k=>by
 rw[zkJ hs hd]
 by_cases h1:k=src - d
 . rw[if_pos h1];exact h _
 . rw[if_neg h1]
   by_cases h2:src - d < k/\k<=src
   . rw[if_pos h2];exact h _
   rw[if_neg h2];exact h _
def zlo(p:Array Nat)(i j:Nat):(kas_rev p i j).size=p.size:=mirror_size _ _ _ _
def zjs(p:Array Nat)(i j:Nat):(kas_rev p i j).Perm p:=mirror_perm _ _ _ _
def Up.more(h:Up r p m)(hl:m=0\/R r p (m - 1)<=R r p m):Up r p (m+1):=fun i j hij hj=>by
 by_cases hm:j < m
 . exact h i j hij hm
 . have e:j=m:=by omega
   subst e
   by_cases hi:i=j
   . rw[hi];exact Cw _
   . rcases hl with hl | hl
     . omega
     exact CO (h i (j - 1) (by omega)<|by omega) hl
def Dn.more(h:Dn r p m)(hl:m=0\/R r p m<=R r p (m - 1)):Dn r p (m+1):=fun i j hij hj=>by
 by_cases hm:j < m
 . exact h i j hij hm
 . have e:j=m:=by omega
   subst e
   by_cases hi:i=j
   . rw[hi];exact Cw _
   . rcases hl with hl | hl
     . omega
     exact CO hl<|h i (j - 1) (by omega)<|by omega
def zmx{p:Array Nat}(hb:Bel n p):∀ (f m:Nat),1<=m->Up r p m->Hd n r (kas_asc p f m) fun m'=>m<=m'/\m'<=m+f/\Up r p m'/\(m' < m+f->R r p m' < R r p (m' - 1))
 | 0,m,h1,h=>⟨Af _,Af _,h,fun z=>absurd z (AK _)⟩
 | f+1,m,h1,h=>by
   refine⟨⟨hb _,hb _⟩,?_⟩
   by_cases c:r (p.getD m 0) < r (p.getD (m - 1) 0)
   . refine zio c ?_;exact⟨Af _,BR _ _,h,fun _=>c⟩
   refine ziq c ?_;refine Hd.mono (fun m' h'=>?_)<|zmx hb f (m+1) (by omega)<|h.more<|.inr<|Int.not_lt.mp c;exact⟨by omega,by omega,h'.2.2.1,fun z=>h'.2.2.2 (by omega)⟩
def Eqs(r:Nat->Int)(p:Array Nat)(i j:Nat):Prop:=∀ k,i<=k->k < j->R r p k=R r p (j - 1)
def zhH(hj:j<=p.size)(h:Eqs r p i j)(k:Nat):R r (kas_rev p i j) k=R r p k:=by
 unfold R;rw[zgc hj]
 split
 . rename_i hk;have h1:=h (i+j - 1 - k) (by omega) (by omega);have h2:=h k hk.1 hk.2;exact h1.trans h2.symm
 rfl
def Dn.same{p':Array Nat}(h:Dn r p m)(e:∀ k,R r p' k=R r p k):Dn r p' m:=fun i j a b=>by rw[e,e];exact h i j a b
def zpf(hm:m<=p.size)(h:Dn r p m):Up r (kas_rev p 0 m) m:=fun i j hij hj=>by unfold R;rw[zgc hm,zgc hm,if_pos (by omega),if_pos (by omega)];exact h (0+m - 1 - j) (0+m - 1 - i) (by omega)<|by omega
def zgD{N:Nat}:∀ (f:Nat) (p:Array Nat) (m q:Nat),Bel n p->p.size=N->1<=m->m+f<=N->q+1<=m->Dn r p m->Eqs r p (m - (q+1)) m ->
   Hd n r (kas_desc f p m q) fun t=>Bel n t.1/\t.1.Perm p/\m<=t.2.1/\t.2.1<=m+f/\t.2.2+1<=t.2.1/\Dn r t.1 t.2.1/\Eqs r t.1 (t.2.1 - (t.2.2+1)) t.2.1
 | 0,p,m,q,hb,hs,h1,h2,h3,hd,he=>⟨hb,Cg _,Af _,Af _,h3,hd,he⟩
 | f+1,p,m,q,hb,hs,h1,h2,h3,hd,he=>by
   refine⟨⟨hb _,hb _⟩,?_⟩
   by_cases c:r (p.getD m 0) < r (p.getD (m - 1) 0)
   . refine zio c ?_;have one:∀ p':Array Nat,Eqs r p' (m+1 - (0+1)) (m+1):=fun p' k h1 h2=>by
       have e:k=m+1 - 1:=by omega
       subst e;rfl
     by_cases hq:q > 0
     . rw[if_pos hq];have hz:m<=p.size:=by omega
       have e:=zhH hz he;refine Hd.mono (fun t ht=>?_)<|zgD f (kas_rev p (m - (q+1)) m) (m+1) 0 (zeY hz hb) ((zlo _ _ _).trans hs) (by omega) (by omega) (by omega) ((hd.more<|.inr<|CP c).same e)<|one _;exact⟨ht.1,ht.2.1.trans<|zjs _ _ _,by omega,by omega,ht.2.2.2.2⟩
     rw[if_neg hq];refine Hd.mono (fun t ht=>?_)<|zgD f p (m+1) 0 hb hs (by omega) (by omega) (by omega) (hd.more<|.inr<|CP c)<|one _;exact⟨ht.1,ht.2.1,by omega,by omega,ht.2.2.2.2⟩
   . refine ziq c ?_;refine⟨⟨hb _,hb _⟩,?_⟩
     by_cases d:r (p.getD (m - 1) 0) < r (p.getD m 0)
     . refine zio d ?_;exact⟨hb,Cg _,Af _,BR _ _,h3,hd,he⟩
     . refine ziq d ?_;have eq:R r p m=R r p (m - 1):=EY (Int.not_lt.mp d)<|Int.not_lt.mp c;refine Hd.mono (fun t ht=>?_) (zgD f p (m+1) (q+1) hb hs (by omega) (by omega) (by omega) (hd.more<|.inr<|Int.not_lt.mp d) fun k k1 k2=>?_)
       . exact⟨ht.1,ht.2.1,by omega,by omega,ht.2.2.2.2⟩
       . show R r p k=R r p (m+1 - 1)
         by_cases hk:k=m
         . rw[hk];rfl
         rw[Nat.add_sub_cancel,eq];exact he k (by omega)<|by omega
def zqy(n N:Nat)(r:Nat->Int)(p:Array Nat)(t:Nat×Array Nat):Prop:=Bel n t.2/\t.2.Perm p/\1<=t.1/\t.1<=N/\Up r t.2 t.1
def zhp(hb:Bel n p)(hs:p.size=N)(h1:1<=m)(h2:m<=N)(hd:Dn r p m):Hd n r (kas_tail3 m N p) (zqy n N r p):=by
 unfold kas_tail3;have hz:m<=p.size:=by omega
 refine Hd.bind<|Hd.mono (fun m' h'=>?_)<|zmx (zeY hz hb) (N - m) m h1<|zpf hz hd;exact⟨zeY hz hb,zjs _ _ _,by omega,by omega,h'.2.2.1⟩
def zd9(hb:Bel n p)(hs:p.size=N)(h1:1<=m)(h2:m+1<=N)(hd:Dn r p (m+1)):Hd n r (kas_descPart m N p) (zqy n N r p):=by
 unfold kas_descPart;refine Hd.bind (Hd.mono (fun t ht=>?_) (zgD (N:=N) (N - (m+1)) p (m+1) 0 hb hs (by omega) (by omega) (by omega) hd fun k k1 k2=>by
   have:k=m+1 - 1:=by omega
   rw[this]))
 obtain⟨t1,t2,t3,t4,t5,t6,t7⟩:=ht;have hsz:t.1.size=N:=t2.size_eq.trans hs
 by_cases hq:t.2.2 > 0
 . rw[if_pos hq];have hz:t.2.1<=t.1.size:=by omega
   refine Hd.mono (fun u hu=>?_)<|zhp (zeY hz t1) ((zlo _ _ _).trans hsz) (by omega) (by omega)<|t6.same<|zhH hz t7;exact⟨hu.1,(hu.2.1.trans<|zjs _ _ _).trans t2,hu.2.2⟩
 rw[if_neg hq];refine Hd.mono (fun u hu=>?_)<|zhp t1 hsz (by omega) (by omega) t6;exact⟨hu.1,hu.2.1.trans t2,hu.2.2⟩
def zmq(hb:Bel n p)(hs:p.size=N)(hN:1<=N):Hd n r (kas_count N p) (zqy n N r p):=by
 unfold kas_count;have up1:Up r p 1:=fun i j a b=>by
   have:i=j:=by omega
   rw[this];exact Cw _
 refine Hd.bind<|Hd.mono (fun m hm=>?_)<|zmx hb (N - 1) 1 (Af _) up1;obtain⟨m1,m2,m3,m4⟩:=hm
 by_cases e:(m==N)=true
 . rw[if_pos e];exact⟨hb,Cg _,m1,by omega,m3⟩
 . rw[if_neg e];have ne:m≠N:=fun z=>e (by simp[z]);have lt:=m4 (by omega)
   by_cases g:m > 1
   . rw[if_pos g];refine⟨⟨hb _,hb _⟩,?_⟩
     by_cases c:r (p.getD 0 0) < r (p.getD (m - 1) 0)
     . refine zio c ?_;exact⟨hb,Cg _,m1,by omega,m3⟩
     . refine ziq c ?_;have hz:m<=p.size:=by omega
       have all:∀ k,k < m->R r p k=R r p (m - 1):=fun k hk=>EY (m3 k (m - 1) (by omega)<|by omega)<|CO (Int.not_lt.mp c)<|m3 0 k (by omega) hk;have e:=zhH (i:=0) hz fun k _ hk=>all k hk;have dn:Dn r p m:=fun i j a b=>by rw[all i (by omega),all j b];exact Cw _
       refine Hd.mono (fun u hu=>?_)<|zd9 (zeY (i:=0) hz hb) ((zlo _ _ _).trans hs) m1 (by omega)<|(dn.more<|.inr<|CP lt).same e;exact⟨hu.1,hu.2.1.trans<|zjs _ _ _,hu.2.2⟩
   . rw[if_neg g];have m1':m=1:=by omega
     subst m1';have dn:Dn r p 1:=fun i j a b=>by
       have:i=j:=by omega
       rw[this];exact Cw _
     exact zd9 hb hs (Af _) (by omega)<|dn.more<|.inr<|CP lt
def zdu{p:Array Nat}{k:Nat}(hb:Bel n p)(hu:Up r p k):∀ (f a b:Nat),a<=b->b<=k->b<=a+f->(∀ x,x < a->R r p x<=R r p k)->(∀ x,b<=x->x < k->R r p k<=R r p x) ->
   Hd n r (kas_place p k f a b) fun l=>l<=k/\(∀ x,x < l->R r p x<=R r p k)/\∀ x,l<=x->x < k->R r p k<=R r p x
 | 0,a,b,h1,h2,h3,hl,hr=>by
   have:a=b:=by omega
   subst this;exact⟨h2,hl,hr⟩
 | f+1,a,b,h1,h2,h3,hl,hr=>by
   unfold kas_place
   by_cases g:a ≥ b
   . rw[if_pos g];have:a=b:=by omega
     subst this;exact⟨h2,hl,hr⟩
   . rw[if_neg g];refine⟨⟨hb _,hb _⟩,?_⟩
     by_cases c:r (p.getD k 0) < r (p.getD ((a+b) / 2) 0)
     . refine zio c ?_;refine zdu hb hu f a ((a+b) / 2) (by omega) (by omega) (by omega) hl fun x x1 x2=>?_;exact CO (CP c)<|hu ((a+b) / 2) x x1 x2
     refine ziq c ?_;refine zdu hb hu f ((a+b) / 2+1) b (by omega) h2 (by omega) (fun x hx=>?_) hr;exact CO (hu x ((a+b) / 2) (by omega)<|by omega)<|Int.not_lt.mp c
def zos{N:Nat}:∀ (f:Nat) (p:Array Nat) (k:Nat),Bel n p->p.size=N->k+f=N->Up r p k->Hd n r (kas_bin f p k) fun q=>q.Perm p/\Up r q N
 | 0,p,k,hb,hs,hk,hu=>⟨Cg _,by rw[<-hk];exact hu⟩
 | f+1,p,k,hb,hs,hk,hu=>by
   unfold kas_bin;refine Hd.bind<|Hd.mono (fun l hl=>?_)<|zdu hb hu k 0 k (A3 _) (Af _) (by omega) (fun x hx=>absurd hx (EZ _)) fun x a b=>absurd (Az b a) (AK _);obtain⟨l1,l2,l3⟩:=hl;have hks:k < p.size:=by omega
   refine Hd.mono (fun q hq=>⟨hq.1.trans<|bubble_perm _ _ _,hq.2⟩)<|zos f (bubble p k<|k - l) (k+1) (zom hks (by omega) hb) ((bubble_size _ _ _).trans hs) (by omega) fun i j hij hj=>?_;have g:∀ x,R r (bubble p k<|k - l) x=if x=l then R r p k else if l < x/\x<=k then R r p (x - 1) else R r p x:=fun x=>by
     unfold R;rw[zkJ hks (by omega)];have e:k - (k - l)=l:=by omega
     rw[e]
     by_cases a1:x=l
     . rw[if_pos a1,if_pos a1]
     . rw[if_neg a1,if_neg a1]
       by_cases a2:l < x/\x<=k
       . rw[if_pos a2,if_pos a2]
       rw[if_neg a2,if_neg a2]
   rw[g i,g j]
   by_cases h1:i=l
   . rw[if_pos h1]
     by_cases h2:j=l
     . rw[if_pos h2];exact Cw _
     rw[if_neg h2,if_pos (by omega)];exact l3 (j - 1) (by omega)<|by omega
   . rw[if_neg h1]
     by_cases h2:j=l
     . rw[if_pos h2,if_neg (by omega)];exact l2 i<|by omega
     . rw[if_neg h2]
       by_cases h3:l < i/\i<=k
       . rw[if_pos h3,if_pos (by omega)];exact hu (i - 1) (j - 1) (by omega)<|by omega
       . rw[if_neg h3]
         by_cases h4:l < j/\j<=k
         . rw[if_pos h4];exact hu i (j - 1) (by omega)<|by omega
         rw[if_neg h4];exact hu i j hij<|by omega
def zjt(hn:1<=n):Bel n (BG<|Ax n):=fun k=>by
 rw[BF,DU]
 by_cases h:k < n
 . rw[C0 h];exact h
 rw[List.getElem?_eq_none_iff.mpr (by rw[B1];omega)];exact hn
def sort_ok(hn:1<=n):Hd n r (kas_sort n) fun q=>q.Perm (BG<|Ax n)/\Up r q n:=by
 unfold kas_sort;have hs:(BG<|Ax n).size=n:=by simp
 refine Hd.bind<|Hd.mono (fun t ht=>?_)<|zmq (zjt hn) hs hn;obtain⟨t1,t2,t3,t4,t5⟩:=ht
 by_cases h:t.1 < n
 . rw[if_pos h];have e:max t.1 1=t.1:=Nat.max_eq_left t3;rw[e];refine Hd.mono (fun q hq=>⟨hq.1.trans t2,hq.2⟩)<|zos (N:=n) (n - t.1) t.2 t.1 t1 (t2.size_eq.trans hs) (by omega) t5
 . rw[if_neg h];have e:t.1=n:=by omega
   exact⟨t2,by rw[<-e];exact t5⟩
end
end Srt
namespace L2.MP
open PySem PySem.Spec PyProof.Rows
def znW:∀ a:List Int,HT.lexLt a a=false
 | []=>rfl
 | x::r=>by rw[HT.lexLt_cons,if_pos rfl];exact znW r
def zky:∀ {a b:List Int},HT.lexLt a b=false->HT.lexLt b a=false->a=b
 | [],[],_,_=>rfl
 | [],_::_,h,_=>by rw[HT.lexLt_nil_cons] at h;cases h
 | _::_,[],_,h=>by rw[HT.lexLt_nil_cons] at h;cases h
 | x::a,y::b,h1,h2=>by
   rw[HT.lexLt_cons] at h1 h2
   by_cases e:x=y
   . subst e;rw[if_pos rfl] at h1 h2;rw[zky h1 h2]
   rw[if_neg e] at h1;rw[if_neg (Bo e)] at h2;have a1:=of_decide_eq_false h1;have a2:=of_decide_eq_false h2;omega
def zia:∀ {a b c:List Int},HT.lexLt b a=false->HT.lexLt c b=false->HT.lexLt c a=false
 | a,[],c,_,h2=>by
   cases c with
   | nil =>
     cases a with
     | nil=>rfl
     | cons x a=>rename_i h1;rw[HT.lexLt_nil_cons] at h1;cases h1
   | cons z c =>
     cases a with
     | nil=>exact HT.lexLt_cons_nil _ _
     | cons x a=>rename_i h1;rw[HT.lexLt_nil_cons] at h1;cases h1
 | a,y::b,[],_,h2=>by rw[HT.lexLt_nil_cons] at h2;cases h2
 | [],y::b,z::c,_,_=>HT.lexLt_cons_nil _ _
 | x::a,y::b,z::c,h1,h2=>by
   rw[HT.lexLt_cons] at h1 h2 ⊢
   by_cases e1:y=x
   . subst e1;rw[if_pos rfl] at h1
     by_cases e2:z=y
     . subst e2;rw[if_pos rfl] at h2 ⊢;exact zia h1 h2
     rw[if_neg e2] at h2 ⊢;exact h2
   . rw[if_neg e1] at h1;have a1:=of_decide_eq_false h1
     by_cases e2:z=y
     . subst e2;rw[if_neg e1];exact h1
     rw[if_neg e2] at h2;have a2:=of_decide_eq_false h2;rw[if_neg (by omega)];exact decide_eq_false<|by omega
def zkx{a b:List Int}(h:HT.lexLt a b=true):HT.lexLt b a=false:=by
 cases e:HT.lexLt b a with
 | false=>rfl
 | true =>
   -- b < a and a < b: then not (a < a) breaks
   exfalso;have:∀ {a b:List Int},HT.lexLt a b=true->HT.lexLt b a=true->False:=by
     intro a
     induction a with
     | nil=>intro b h1 h2;cases b with
       | nil=>rw[HT.lexLt_nil_nil] at h1;cases h1
       | cons y b=>rw[HT.lexLt_cons_nil] at h2;cases h2
     | cons x a ih=>intro b h1 h2;cases b with
       | nil=>rw[HT.lexLt_cons_nil] at h1;cases h1
       | cons y b =>
         rw[HT.lexLt_cons] at h1 h2
         by_cases q:x=y
         . subst q;rw[if_pos rfl] at h1 h2;exact ih h1 h2
         rw[if_neg q] at h1;rw[if_neg (Bo q)] at h2;have a1:=of_decide_eq_true h1;have a2:=of_decide_eq_true h2;omega
   exact this h e
def tle(a b:List Int):Bool:=!HT.lexLt b a
def zhw(ts:List (List Int)):List (List Int):=ts.mergeSort tle
def zeg(a b c:List Int)(h1:tle a b=true)(h2:tle b c=true):tle a c=true:=by unfold tle at *;rw[Bt] at *;exact zia h1 h2
def zi8(a b:List Int):(tle a b || tle b a)=true:=by
 unfold tle
 cases e:HT.lexLt b a with
 | false=>rfl
 | true=>rw[zkx e];rfl
def zkW{a b:List Int}(h1:tle a b=true)(h2:tle b a=true):a=b:=by unfold tle at *;rw[Bt] at *;exact zky h2 h1
def rank(ts:List (List Int))(i:Nat):Int:=((ts.countP fun t=>HT.lexLt t (ts.getD i [])):Nat)
variable {ts:List (List Int)}{i j:Nat}
def zko(hi:i < ts.length):(decide (rank ts i < rank ts j))=HT.lexLt (ts.getD i []) (ts.getD j []):=by
 unfold rank
 cases e:HT.lexLt (ts.getD i []) (ts.getD j []) with
 | true =>
   refine decide_eq_true ?_;have le:ts.countP (fun t=>HT.lexLt t (ts.getD i [])) < ts.countP (fun t=>HT.lexLt t (ts.getD j [])):=by
     have hm:ts.getD i []∈ts:=by rw[Aq,Ah hi];exact AS hi
     generalize ha:ts.getD i []=a at *;generalize hb:ts.getD j []=b at *;clear ha hb hi;have sub:∀ t,HT.lexLt t a=true->HT.lexLt t b=true:=fun t ht=>by
       cases q:HT.lexLt t b with
       | true=>rfl
       | false =>
         exfalso
         -- b<=t,t < a,a < b
         have h1:HT.lexLt a t=false:=zkx ht;have:HT.lexLt a b=false:=by
           have h2:tle b t=true:=by unfold tle;rw[q];rfl
           have h3:tle t a=true:=by unfold tle;rw[h1];rfl
           have:=zeg b t a h2 h3;unfold tle at this;rw[Bt] at this;exact this
         rw[e] at this;cases this
     induction ts with
     | nil=>exact absurd hm (by simp)
     | cons t r ih =>
       rw[EM,EM]
       rcases List.mem_cons.mp hm with q | q
       . subst q;rw[znW,e];have:r.countP (fun t=>HT.lexLt t a)<=r.countP (fun t=>HT.lexLt t b):=DV fun t _ ht=>sub t ht;simp only[A8,if_false,if_true];omega
       . have:=ih q
         by_cases c:HT.lexLt t a=true
         . rw[if_pos c,if_pos (sub t c)];omega
         rw[if_neg c];split <;> omega
   omega
 | false =>
   refine decide_eq_false ?_;have le:ts.countP (fun t=>HT.lexLt t (ts.getD j []))<=ts.countP (fun t=>HT.lexLt t (ts.getD i [])):=DV fun t _ ht=>by
     cases q:HT.lexLt t (ts.getD i []) with
     | true=>rfl
     | false =>
       exfalso;have h2:tle (ts.getD j []) (ts.getD i [])=true:=by unfold tle;rw[e];rfl
       have h3:tle (ts.getD i []) t=true:=by unfold tle;rw[q];rfl
       have h4:=zeg _ _ _ h2 h3;unfold tle at h4;rw[ht] at h4;cases h4
   omega
variable {n:Nat}{α:Type}{s:Shared}
def zqd{n:Nat}{r:Nat->Int}{α:Type}{P:α->Prop}{Q:α->Shared->Prop}{s:Shared}{cmp:Nat->Nat->(Bool->Shared->Prop)->Shared->Prop}(hc:∀ i j,i < n->j < n->∀ C:Bool->Shared->Prop,C (decide (r i < r j)) s->cmp i j C s)(hq:∀ a,P a->Q a s) :
   ∀ {t:PySem.W.KasT α},Srt.Hd n r t P->t.kasWp cmp Q s
 | .ret a,h=>hq a h
 | .ask i j k,h=>hc i j h.1.1 h.1.2 _<|zqd hc hq (t:=k _) h.2
variable {prog:Program}{w:World}{A:Around}{E:Value->Shared->Prop}
def zd7{Q:Bool->Shared->Prop}:∀ {xs ys:List Int} {us ws:List Value} (i:Nat),Vals (xs.map V.int) us->Vals (ys.map V.int) ws->Q (HT.lexLt xs ys) s->PySem.W.KatLex prog w A true (decide (us.length < ws.length)) Q (us.zip ws) i s
 | [],[],_,_,i,.nil,.nil,h=>h
 | [],y::ys,_,_,i,.nil,.cons r t,h=>by show Q (decide (_ < _)) s;rw[decide_eq_true (by simp)];exact h
 | x::xs,[],_,_,i,.cons r t,.nil,h=>by show Q (decide (_ < _)) s;rw[decide_eq_false (by simp)];exact h
 | x::xs,y::ys,_,_,i,.cons r1 t1,.cons r2 t2,h=>by
   obtain⟨a1,rfl⟩:=r1;obtain⟨a2,rfl⟩:=r2;rw[HT.lexLt_cons] at h;refine SeqAt.EqAt.int_int x a1 y a2 prog w _ _ ?_
   by_cases e:x=y
   . subst e;rw[if_pos rfl] at h;rw[beq_self_eq_true,if_pos rfl];have:=zd7 (Q:=Q) (i+1) t1 t2 h;rw[AB,AB];have e2:∀ a b:Nat,decide (a+1 < b+1)=decide (a < b):=fun a b=>by
       by_cases q:a < b
       . rw[decide_eq_true q,decide_eq_true (by omega)]
       rw[decide_eq_false q,decide_eq_false (by omega)]
     rw[e2];exact this
   . rw[if_neg e] at h;have hb:(x==y)=false:=by simpa using e
     rw[hb,if_neg Bi]
     by_cases hi:i=0
     . subst hi;exact oneLt_int h
     . have:(true&&i==0)=false:=by simpa using hi
       rw[this];exact PySem.W.kat_one _ _<|lt_int h
variable {X:Cx}{pins:List (Addr×Obj)}{M:L2.St}{H:Hp}
def zhd(H:Hp):List V->List (List Int)->Prop:=Paired fun v t=>∃ a,v=.ref a/\H a=some (.tup<|t.map V.int)/\t≠[]
def zfw:∀ {xs:List V} {ts:List (List Int)} {i:Nat},zhd H xs ts->i < ts.length->∃ a,xs[i]?=some (.ref a)/\H a=some (.tup<|(ts.getD i []).map V.int)/\ts.getD i []≠[]
 | _,[],i,_,hi=>absurd hi<|by simp
 | _,t::ts,0,.cons r q,_=>by obtain⟨a,rfl,ha,hn⟩:=r;exact⟨a,rfl,ha,hn⟩
 | _,t::ts,i+1,.cons r q,hi=>by have:=zfw (i:=i) q (by simpa using hi);simpa using this
def zou{xs:List V}{us:List Value}{s':Shared}(I:Inv X pins M H s)(hk:∀ b o,H b≠none->s.heap.get? b=some o->s'.heap.get? b=some o)(T:zhd H xs ts)(r:Vals xs us)(hi:i < ts.length)(hj:j < ts.length)(C:Bool->Shared->Prop)
   (h:C (decide (rank ts i < rank ts j)) s'):E4 X.prog X.w A (PyProof.Rows.tuples' true) us i j C s':=by
 rw[zko hi] at h;obtain⟨a,ea,ha,_⟩:=zfw T hi;obtain⟨b,eb,hb,_⟩:=zfw T hj;obtain⟨u,eu,ru⟩:=r.get ea;obtain⟨u2,eu2,ru2⟩:=r.get eb;cases ru;cases ru2;obtain⟨ia,va,⟨oa,ga,ca,na,da⟩,_⟩:=I.tuple<|SqT.of (K:=X.K) ha;obtain⟨ib,vb,⟨ob,gb,cb,nb,db⟩,_⟩:=I.tuple<|SqT.of (K:=X.K) hb;unfold E4;rw[Aq,Aq,eu,eu2];refine PySem.W.kat_lt (hk _ _ (by rw[ha];simp) ga) da (hk _ _ (by rw[hb];simp) gb) db ?_;have:=zd7 (prog:=X.prog) (w:=X.w) (A:=A) (Q:=C) (s:=s') 0 va vb h;simpa using this
variable {h':Heap}
def zfT{h':Heap}(I:Inv X pins M H s)(hk:∀ b o,H b≠none->s.heap.get? b=some o->h'.get? b=some o):∀ {xs:List V} {us:List Value} {ts:List (List Int)},zhd H xs ts->Vals xs us ->
   ∃ fs:List Value,PySem.W.KatTups h' us fs/\fs.length=us.length/\∀ v∈fs,∃ i t,v=DC i t
 | _,_,[],.nil,.nil=>⟨[],FD,rfl,fun v hv=>absurd hv (by simp)⟩
 | _,_,t::ts,.cons r q,.cons rv rvs=>by
   obtain⟨a,rfl,ha,hn⟩:=r;cases rv;obtain⟨fs,h1,h2,h3⟩:=zfT I hk q rvs;obtain⟨its,va,⟨o,g,c,n,d⟩,_⟩:=I.tuple<|SqT.of (K:=X.K) ha
   cases t with
   | nil=>exact absurd rfl hn
   | cons x t =>
     cases va with
     | @cons _ u _ us' ru rus =>
       obtain⟨tk,rfl⟩:=ru;refine⟨.int x tk::fs,FA (hk _ _ (by rw[ha];simp) g) c d (by simp) h1,by rw[AB,AB,h2],fun v hv=>?_⟩
       rcases List.mem_cons.mp hv with rfl | hv
       . exact⟨x,tk,rfl⟩
       exact h3 v hv
variable {a:Addr}{P:Program}{h:Heap}
def zgk{o:HO}(x:zcx P w H h a o):∃ u,h.get? a=some u:=by
 cases o with
 | lst xs=>obtain⟨_,_,_,_,e⟩:=x;exact⟨_,e⟩
 | tup xs=>obtain⟨_,_,_,o,e,_⟩:=x;exact⟨_,e⟩
 | dK kvs=>obtain⟨_,_,_,_,o,_,_,e,_⟩:=x;exact⟨_,e⟩
 | dT kvs=>obtain⟨_,_,_,_,o,_,_,e,_⟩:=x;exact⟨_,e⟩
 | set S n=>obtain⟨o,_,_,_,e,_⟩:=x;exact⟨_,e⟩
 | ins C dx fs=>obtain⟨_,_,_,e,_⟩:=x;exact⟨_,e⟩
 | own y=>exact x
 | xd fs=>obtain⟨_,⟨_,_,_,e,_⟩,_⟩:=x;exact⟨_,e⟩
 | rng lo hi=>obtain⟨_,_,_,e⟩:=x;exact⟨_,e⟩
 | frz ob u=>obtain⟨e,_⟩:=x;exact⟨_,e⟩
 | tbl ps=>exact⟨_,x⟩
 | met f y=>exact⟨_,x⟩
 | ext φ=>obtain⟨_,e,_⟩:=x;exact e
variable {m:Str->Option Value}
def znM{m':Str->Option Value}(x:h.Ns a m)(y:h.Ns a m'):m=m':=by
 obtain⟨o,es,ep,ho,hd,_,hm⟩:=x;obtain⟨o',es',ep',ho',hd',_,hm'⟩:=y;rw[ho] at ho';cases ho';rw[hd] at hd';cases hd'
 funext n
 rw[<-hm n,hm' n]
variable {l:Addr}
def Inv.laidAt{m:Str->Option Value}{o:HO}(I:Inv X pins M H s)(k:∀ b u,b≠X.env.locals->s.heap.get? b=some u->h'.get? b=some u)(ns:∀ m,s.heap.Ns X.env.locals m->h'.Ns X.env.locals m)(hL:∃ u,h'.get? X.env.locals=some u)
   (ha:s.heap.get? a=none) (hH:H a=none) (haL:a≠X.env.locals) (new:zcx X.prog X.w (upd H a o) h' a o):Inv X pins M (upd H a o) { s with heap:=h' }:=by
 have na:∀ b u,s.heap.get? b=some u->b≠a:=fun b u e z=>by rw[z,ha] at e;cases e
 refine Inv.step (t':=s.toks) (ch:=[]) (g':=s.gens) (d':=s.drawn) I (fun b hb=>absurd hb (by simp)) (fun b u h1 _ _ e _=>k b u h1 e) (fun b u h1 _ _ e _=>⟨u.slots,k b u h1 e⟩) (fun b u _ e n=>by rw[zax (na b u e)];exact n) (fun b u _ e=>?_)
   (fun b xs e=>by rw[zax (zaq e hH)];exact e) (fun b u v e=>by rw[zax (zaq e hH)];exact e) (fun b ps e=>⟨#[],by rw[zax (zaq e hH),e];simp⟩) ns (fun b u e=>?_) I.bare
 . by_cases hb:b=X.env.locals
   . rw[hb];exact hL
   exact⟨u,k b u hb e⟩
 . by_cases hb:b=a
   . subst hb;rw[zbg] at e;cases e;exact new
   . rw[zax hb] at e;refine (I.hok b u e).stay (fun c v hc q=>k c v (fun z=>?_) q) (fun c q=>by rw[zax (zaq q hH)];exact q) fun c xs q=>by rw[zax (zaq q hH)];exact q
     subst z
     rcases hc with rfl | hc
     . rw[I.free] at e;cases e
     rw[I.free] at hc;cases hc
def zgV{xs:List V}{Q:VK}(I:Inv X pins M H s)(hl:SqL X.K H l xs)(T:zhd H xs ts)(h2:2<=ts.length)(h64:ts.length < 64)
   (h:∀ (q:Array Nat) (p:Addr),q.Perm (BG<|Ax ts.length)->Srt.Up (rank ts) q ts.length->H p=none->Q (.ref p) (upd H p<|.lst<|q.toList.map fun i=>xs.getD i .non)) :
   wpAny (model X.prog X.w) X.A (call (.builtin "sorted") [.ref l]) (EP X pins M Q) X.xe s:=by
 obtain⟨its,rv,pl,hz⟩:=I.list hl;have hlen:its.length=ts.length:=by have a:=rv.length;have b:=Bc T;omega
 obtain⟨m,F⟩:=I.fr;have trkL:∀ b,H b≠none->b≠X.env.locals:=fun b hb z=>hb (by rw[z];exact I.free);have trkB:∀ b,H b≠none->X.base.get? b=none:=fun b hb=>by
   cases e:X.base.get? b with
   | none=>rfl
   | some o=>exact absurd (I.bs b o e).2 hb
 refine PySem.W.kat_sorted F (zfN (g:=X.base) (h:=s.heap) (L:=X.env.locals)) pl.isList (by omega) (by omega) fun D e1 h' F' N' hlt=>?_;have keep:∀ {h2:Heap} {o:Obj},Fr X.base X.env.locals h2 m->News X.base X.env.locals h2 ((D,o)::zdF X.base s.heap X.env.locals)->∀ b u,b≠X.env.locals->s.heap.get? b=some u->h2.get? b=some u:=fun {h2 o} F2 N2 b u hb e=>by
   cases q:X.base.get? b with
   | some v =>
     have z:=(I.bs b v q).1;rw[e] at z;cases z;exact F2.keep b _ q
   | none=>exact (N2 (b,u)<|Aj _<|zcX hb q e).1
 have hk:∀ b o,H b≠none->s.heap.get? b=some o->h'.get? b=some o:=fun b o hb e=>keep F' N' b o (trkL b hb) e;have hDD:=N' _ Ak;have hsD:s.heap.get? D=none:=by
   cases e:s.heap.get? D with
   | none=>rfl
   | some u=>exact absurd (hlt _<|zcX hDD.2.1 hDD.2.2 e)<|AK _
 have hHD:H D=none:=by
   cases e:H D with
   | none=>rfl
   | some o =>
     obtain⟨u,hu⟩:=zgk<|I.hok D o e;rw[hsD] at hu;cases hu
 obtain⟨fs,k1,k2,k3⟩:=zfT (h':=h') I hk T rv;refine EN (s:={ s with heap:=h' }) (T:=.type "int") k1 (by omega) (fun v hv=>?_) rfl ?_
 . obtain⟨i,t,rfl⟩:=k3 v hv;exact DW rfl
 have ok:=Srt.sort_ok (n:=its.length) (r:=rank ts) (by omega);refine zqd (n:=its.length) (r:=rank ts) (s:={ s with heap:=h' }) (fun i j hi hj C hC=>zou (s':={ s with heap:=h' }) I hk T rv (by omega) (by omega) C hC) (fun q hq=>?_) ok;refine D6 F' N' (EC fun p hp=>Ar (hlt p hp)) fun h2 c F2 N2=>?_;have hD2:=(N2 _ Ak).1;rw[hlen] at hq;have vals:Vals (q.toList.map fun i=>xs.getD i .non) (q.toList.map fun i=>its.getD i A7):=by
   have hmem:∀ i∈q.toList,i < xs.length:=fun i hi=>by have:i∈(BG<|Ax ts.length).toList:=(Array.perm_iff_toList_perm.mp hq.1).mem_iff.mp hi;have hr:=rv.length;simp at this;omega
   generalize q.toList=ql at hmem
   induction ql with
   | nil=>exact .nil
   | cons i r ih =>
     refine .cons ?_<|ih fun j hj=>hmem j (Aj _ hj);have hi:=hmem i Ak;obtain⟨u,eu,ru⟩:=rv.get<|Ah hi;show RelV (xs.getD i V.non) (its.getD i A7);rw[Aq,Aq,Ah hi,eu];exact ru
 have hql:q.toList.length=ts.length:=by have:=(Array.perm_iff_toList_perm.mp hq.1).length_eq;simpa using this
 have J:Inv X pins M (upd H D<|.lst<|q.toList.map fun i=>xs.getD i .non) { s with heap:=h2 } :=
   Inv.laidAt (m:=m) I (keep F2 N2) (fun m' hm'=>by rw[znM hm' F.ns];exact F2.ns) (let ⟨o,_,_,e,_⟩:=F2.ns;⟨o,e⟩) hsD hHD hDD.2.1 ⟨by rw[Ag,hql];exact lt64 h64,_,c,vals,hD2⟩
 exact⟨.ref D,_,J,rfl,h q D hq.1 hq.2 hHD⟩
def zeH(ts:List α)(d:α):(Ax ts.length).map (fun i=>ts.getD i d)=ts:=by
 apply List.ext_getElem
 . simp
 intro i h1 h2;simp[Aq,Ah h2]
def zd1{q:Array Nat}(hp:q.Perm (BG<|Ax ts.length))(hu:Srt.Up (rank ts) q ts.length):q.toList.map (fun i=>ts.getD i [])=zhw ts:=by
 have hl:=Array.perm_iff_toList_perm.mp hp;have hl:q.toList.Perm (Ax ts.length):=by simpa using hl
 have hsz:q.toList.length=ts.length:=by rw[hl.length_eq,B1]
 have p1:(q.toList.map fun i=>ts.getD i []).Perm ts:=by have:=hl.map fun i=>ts.getD i [];rw[zeH] at this;exact this
 refine zdq (le:=fun a b=>tle a b=true) (p1.trans (Cb ts tle).symm) ?_ (DA (fun a b c=>zeg a b c) zi8 ts) fun a _ b _=>zkW;rw[List.pairwise_iff_getElem];intro i j hi hj hij;rw[EO,EO];rw[Ag] at hi hj;have hu:=hu i j (B3 hij) (by omega);have gi:∀ (k:Nat) (hk:k < q.toList.length),q.getD k 0=q.toList[k]:=fun k hk=>by rw[BF,<-BJ,Ah hk];rfl
 unfold Srt.R at hu;rw[gi i hi,gi j hj] at hu;have lt:∀ k∈q.toList,k < ts.length:=fun k hk=>List.mem_range.mp<|hl.mem_iff.mp hk;have e:=zko (ts:=ts) (i:=q.toList[j]) (j:=q.toList[i])<|lt _<|AS hj;rw[decide_eq_false (by omega)] at e;unfold tle;rw[<-e];rfl
def intsOf:List D->Option (List Int)
 | []=>some []
 | .int i::r=>(intsOf r).map fun is=>i::is
 | _=>none
variable {d:D}
def zg4{r:List D}{ss:List Int}(h:intsOf (d::r)=some ss):∃ x xs,d=.int x/\intsOf r=some xs/\ss=x::xs:=by
 cases d with
 | int x =>
   obtain⟨xs,e,h⟩:=zaj h;exact⟨x,xs,rfl,e,h.symm⟩
 | _=>cases h
def rowOf:D->Option (List Int)
 | .tup ds=>(intsOf ds).bind fun t=>if (!t.isEmpty)=true then some t else none
 | _=>none
def rowsOf:List D->Option (List<|List Int)
 | []=>some []
 | d::r=>(rowOf d).bind fun t=>(rowsOf r).map fun ts=>t::ts
def tupD(t:List Int):D:=.tup<|t.map D.int
variable {K:Ab}{io:List Addr}{st st':Sto}
def ints_rep:∀ {xs:List V} {ds:List D} {t:List Int},Reps K H io xs ds->intsOf ds=some t->xs=t.map V.int/\ds=t.map D.int
 | _,[],t,h,e=>by cases e;exact⟨h,rfl⟩
 | _,d::ds,t,h,e=>by
   obtain⟨y,ys,rfl,h1,h2⟩:=h;obtain⟨x,rest,rfl,e2,rfl⟩:=zg4 e;obtain⟨a,b⟩:=ints_rep h2 e2
   cases (show y=.int x from h1)
   rw[a,b];exact⟨rfl,rfl⟩
def zhE:∀ {xs:List V} {ds:List D} {ts:List (List Int)},Reps K H io xs ds->rowsOf ds=some ts->zhd H xs ts/\ds=ts.map tupD
 | _,[],ts,h,e=>by cases e;cases (show _=[] from h);exact⟨.nil,rfl⟩
 | _,d::ds,ts,h,e=>by
   obtain⟨y,ys,rfl,h1,h2⟩:=h;obtain⟨t,e1,e⟩:=zaf e;obtain⟨us,e2,e⟩:=zaj e;subst e;obtain⟨a,b⟩:=zhE h2 e2
   cases d with
   | tup zs =>
     obtain⟨t',f1,f2⟩:=zaf e1;obtain⟨hn,f2⟩:=zao f2;cases f2;obtain⟨p,vs,rfl,hp,rs⟩:=h1;obtain⟨q1,q2⟩:=ints_rep rs f1;subst q1;refine⟨.cons ⟨p,rfl,hp,fun z=>?_⟩ a,?_⟩
     . rw[z] at hn;exact absurd hn<|by decide
     rw[b,q2];rfl
   | _=>cases e1
def zel:GN
 | [.ref n],st=>(zbi st n).bind fun ds=>(rowsOf ds).bind fun ts=>if (decide (2<=ts.length)&&decide (ts.length < 64))=true then some (.ref st.length,st++[.lst ((zhw ts).map tupD)]) else none
 | _,_=>none
def zeq{xs:List V}{ts:List (List Int)}(r:Reps K H io xs (ts.map tupD)):∀ {q:List Nat},(∀ i∈q,i < ts.length)->Reps K H io (q.map fun i=>xs.getD i .non) ((q.map fun i=>ts.getD i []).map tupD)
 | [],_=>rfl
 | i::q,h=>by
   have hi:=h i Ak;have hg:(ts.map tupD)[i]?=some (tupD<|ts.getD i []):=by rw[Av,Ah hi,Aq,Ah hi];rfl
   obtain⟨v,hv,rv⟩:=r.get hg;refine⟨_,_,rfl,?_,zeq r fun j hj=>h j (Aj _ hj)⟩;show Rep K H io (xs.getD i .non) _;rw[Aq,hv];exact rv
def zfi:zcN X (.builtin "sorted") zel:=by
 rintro pins s M H xs us Q I r ⟨ds,st,io,d,st',R,S,e,k⟩;unfold zel at e
 split at e
 . rename_i n;obtain⟨zs,e0,e⟩:=zaf e;obtain⟨ts,e1,e⟩:=zaf e;obtain⟨hl,e⟩:=zao e;cases e;rw[Al] at hl;obtain⟨v,rfl,p,rfl,hp⟩:=R.one;obtain⟨u,rfl,ru⟩:=r.one;cases ru;obtain⟨ys,hx,r1⟩:=zaW S hp e0;obtain⟨T,hd⟩:=zhE r1 e1;subst hd;refine zgV I hx T (of_decide_eq_true hl.1) (of_decide_eq_true hl.2) fun q p' hq hu hf=>?_;have hm:∀ i∈q.toList,i < ts.length:=fun i hi=>by
     have:=(Array.perm_iff_toList_perm.mp hq).mem_iff.mp hi;simpa using this
   have rr:=zeq r1 hm;rw[zd1 hq hu] at rr;exact k.lst S rr hf
 . cases e
variable {ma mb:ME}{pos p:Pos}{g:G2}{k:Nat}
section
variable {a b c e:Expr} {es:List Expr} {mc m:ME} {mm:MA}
def orO:Option α->Option α->Option α
 | some x,_=>some x
 | none,y=>y
def zbE{x y:Option α}{z:α}(h:orO x y=some z):x=some z\/y=some z:=by
 cases x with
 | none=>exact .inr h
 | some w=>exact .inl h
def orG(g h:G2):G2:=fun x y st=>orO (g x y st)<|h x y st
def orN(g h:GN):GN:=fun xs st=>orO (g xs st)<|h xs st
def zhV{f:Value->Value->Sem Value}{h:G2}(p:OpM X f g)(q:OpM X f h):OpM X f (orG g h):=by
 rintro pins s M H x y v u Q I rx ry ⟨dx,dy,st,io,d,st',Rx,Ry,S,e,k⟩
 rcases zbE e with e | e
 . exact p pins s M H x y v u Q I rx ry ⟨dx,dy,st,io,d,st',Rx,Ry,S,e,k⟩
 exact q pins s M H x y v u Q I rx ry ⟨dx,dy,st,io,d,st',Rx,Ry,S,e,k⟩
def zc2{f:Value}{g h:GN}(p:zcN X f g)(q:zcN X f h):zcN X f (orN g h):=by
 rintro pins s M H xs us Q I r ⟨ds,st,io,d,st',R,S,e,k⟩
 rcases zbE e with e | e
 . exact p pins s M H xs us Q I r ⟨ds,st,io,d,st',R,S,e,k⟩
 exact q pins s M H xs us Q I r ⟨ds,st,io,d,st',R,S,e,k⟩
def zgq{U:Rho}{x y:D}{s0 s1 s2:Sto}{r:D×Sto}(h1:ma U s0=some (x,s1))(h2:mb U s1=some (y,s2))(h3:g x y s2=some r):mBin g ma mb U s0=some r:=by unfold mBin;rw[h1];show Fz (mb U s1) _=_;rw[h2];exact h3
def zo7{h:G2}(p:SE X e (mBin g ma mb))(q:SE X e (mBin h ma mb)):SE X e (mBin (orG g h) ma mb):=by
 rintro pins s M H Q I ⟨U,st,io,d,st',E,S,e,k⟩;obtain⟨⟨x,s1⟩,e1,e⟩:=zaf e;obtain⟨⟨y,s2⟩,e2,e⟩:=zaf e
 rcases zbE e with e | e
 . exact p pins s M H Q I ⟨U,st,io,d,st',E,S,zgq e1 e2 e,k⟩
 exact q pins s M H Q I ⟨U,st,io,d,st',E,S,zgq e1 e2 e,k⟩
def zlj{h:G2}(p:SB X e (mTst<|mBin g ma mb))(q:SB X e (mTst<|mBin h ma mb)):SB X e (mTst<|mBin (orG g h) ma mb):=by
 rintro pins s M H Q I ⟨U,st,io,d,st',E,S,e,k⟩;have e:=zi7 e;obtain⟨⟨x,s1⟩,e1,e⟩:=zaf e;obtain⟨⟨y,s2⟩,e2,e⟩:=zaf e
 rcases zbE e with e | e
 . exact p pins s M H Q I ⟨U,st,io,d,st',E,S,by unfold mTst;rw[zgq e1 e2 e];rfl,k⟩
 exact q pins s M H Q I ⟨U,st,io,d,st',E,S,by unfold mTst;rw[zgq e1 e2 e];rfl,k⟩
def zqj:G2:=fun d k st=>match d with
 | .ref n=>(look st n k).bind fun r=>r.map fun v=>(v,st)
 | _=>none
def ixA:G2:=orG idxD zqj
def zap(hu:X.A.units+1 < cLine)(ha:SE X a ma)(hb:SE X b mb)(hs:ziY b:=by intro _ _;rfl)(hs':NoSl b:=by intro _ _;rfl):SE X (.Subscript a b pos) (mBin ixA ma mb) :=
 zo7 (zq8 ha hb hs) (show SE X (.Subscript a b pos) (zqG ma mb) from znh hu ha hb hs')
def dinD(neg:Bool):G2:=fun k d st=>match d with
 | .ref n=>(look st n k).map fun r=>(.bl (if neg then !r.isSome else r.isSome),st)
 | _=>none
def inA:G2:=orG (orG (inD false) inSD)<|dinD false
def zlO:G2:=orG (inD true)<|dinD true
def zlk(hu:X.A.units+100 < cLine)(ha:SE X a ma)(hb:SE X b mb)(hm:behindInMarks .In b=false:=by rfl):SB X (.Compare a [.In] [b] pos) (mTst<|mBin inA ma mb) :=
 zlj (zbC (zhV (zpJ hu) znJ) ha hb hm) (show SB X _ (mTst<|mDIn false ma mb) from zpc (by omega) ha hb hm)
def zjo(hu:X.A.units+100 < cLine)(ha:SE X a ma)(hb:SE X b mb)(hm:behindInMarks .NotIn b=false:=by rfl):SB X (.Compare a [.NotIn] [b] pos) (mTst<|mBin zlO ma mb) :=
 zlj (zbC (zjA hu) ha hb hm) (show SB X _ (mTst<|mDIn true ma mb) from zjq (by omega) ha hb hm)
def slA:D->Option Int->Option Int->Sto->Option (D×Sto):=fun x lo hi st=>orO (slD x lo hi st)<|slS x lo hi st
def mSlA(m:ME)(l h:MO):ME:=fun U st=>(m U st).bind fun (x,s1)=>(l U s1).bind fun (lo,s2)=>(h U s2).bind fun (hi,s3)=>slA x lo hi s3
def zjk{lo hi:Option Expr}{ml mh:MO}{p2:Pos}(he:SE X e m)(hl:SO X lo ml)(hu:SO X hi mh):SE X (.Subscript e (.Slice lo hi none p2) pos) (mSlA m ml mh):=by
 rintro pins s M H Q I ⟨U,st,io,d,st',E,S,e0,k⟩;obtain⟨⟨x,s1⟩,e1,e0⟩:=zaf e0;obtain⟨⟨lo',s2⟩,e2,e0⟩:=zaf e0;obtain⟨⟨hi',s3⟩,e3,e0⟩:=zaf e0
 rcases zbE e0 with e0 | e0
 . exact zlc he hl hu pins s M H Q I ⟨U,st,io,d,st',E,S,by simp only[mSl,e1,e2,e3,Ae];exact e0,k⟩
 exact zjj he hl hu pins s M H Q I ⟨U,st,io,d,st',E,S,by simp only[mSlS,e1,e2,e3,Ae];exact e0,k⟩
def zft:D->Sto->Option (Wk×Sto)
 | .ref n,s=>(zbi s n).map fun ds=>(⟨ds,[(n,ds)]⟩,s)
 | .tup ds,s=>some (⟨ds,[]⟩,s)
 | _,_=>none
def mW(m:ME):MI:=fun U st=>(m U st).bind fun (d,s)=>zft d s
def zm9{tg l:Expr}(hl:SE X l m):SI X tg l (mW m):=by
 rintro pins s M H R I ⟨U,st,io,W,st',E,S,e0,k⟩;obtain⟨⟨d,s1⟩,e1,e0⟩:=zaf e0
 cases d with
 | ref n=>exact zna hl pins s M H R I ⟨U,st,io,W,st',E,S,by unfold mWL;rw[e1];exact e0,k⟩
 | tup ds=>exact zo4 hl pins s M H R I ⟨U,st,io,W,st',E,S,by unfold mWT;rw[e1];exact e0,k⟩
 | _=>cases e0
def setD:G3:=fun o i v st=>match o,i with
 | .ref n,.int k=>match st[n]? with
   | some (.lst ds)=>(ixN ds.length k).map fun j=>st.set n<|.lst<|ds.set j v
   | _=>none
 | _,_=>none
def zq7:SetM X setD:=by
 rintro pins s M H o i v ov iv u Q I ro ri rv ⟨d1,d2,d3,st,io,st',R1,R2,R3,S,e,k⟩
 cases d1 with
 | ref n =>
   cases d2 with
   | int j =>
     unfold setD at e;dsimp only at e
     split at e
     . rename_i ds e0;obtain⟨q,e1,e⟩:=zaj e;cases e;obtain⟨p,rfl,hp⟩:=R1;obtain⟨ys,hH,r⟩:=S.ob n p _ hp e0;refine set_list pins s M H _ _ v ov iv u Q I ro ri rv ⟨p,ys,j,q,rfl,R2,hH,by rw[r.length];exact e1,?_⟩;obtain⟨E',S'⟩:=zfE (o:=.lst (ys.set q v)) (ob:=.lst (ds.set q d3)) S hp e0 (fun o u z=>by rw[hH] at z;cases z) fun H' T e'=>⟨_,e',(Reps.mono T r).set q<|Rep.mono T R3⟩
       exact k _ [] E' S'
     . cases e
   | _=>cases e
 | _=>cases d2 <;> cases e
def putA(mo mi mv:ME):MS:=fun U st=>orO (mAsg mv (gSb setD mo mi) U st)<|zl1 mo mi mv U st
def zgU{o i value:Expr}{mo mi mv:ME}{pos':Pos}(hu:X.A.units+1 < cLine)(ho:SE X o mo)(hi:SE X i mi)(hv:SE X value mv)(hs:swapsWith value (some<|.Subscript o i pos') pos.line X.env=pure false:=by rfl)
   (ha:∀ v,assign (.Subscript o i pos') X.env v=(do
     let ov <-holding [v] (eval o X.env)
     let iv <-holding [v,ov] (eval i X.env)
     standAt pos'
     holding [v,ov,iv] (setItem ov iv v)
     release [v,ov,iv] []):=by intro _;rfl)
   (hs2:swapsWithSole [.Subscript o i pos'] value pos.line X.env=pure false:=by rfl) (hw:swappedStores [.Subscript o i pos'] value X.env=pure none:=by rfl)
   (h1:(assignEach [.Subscript o i pos'] X.env).map (·.2)=[assign (.Subscript o i pos') X.env]:=by rfl):SS X (.Assign [.Subscript o i pos'] value pos) (putA mo mi mv):=by
 intro pins s M H N I h;obtain⟨U,st,io,f,st',E,S,e,w⟩:=zcQ.mp h
 rcases zbE e with e | e
 . exact zjd hv (zo6 ho hi zq7 ha) hs2 hw h1 pins s M H N I<|zmA E S e w
 exact zm4 hu ho hi hv hs pins s M H N I<|zmA E S e w
def mPar(i j:Nat)(mm:MA):MS:=fun U st=>(mm U st).bind fun (xs,s)=>match xs with
 | [x,y]=>some (.nx ((U.set i<|some x).set j<|some y),s)
 | _=>none
def zm3{x y:Str}{px py pt:Pos}{kt k2 pt2}(hc:X.calm=true)(hN:X.N.Nodup)(hi:X.N[i]?=some x)(hj:X.N[j]?=some y)(hij:i≠j)
   (hx:X.env.scope.names.lookup x=some .local) (hy:X.env.scope.names.lookup y=some .local) (ha:SA X [a,b] mm)
   (hw:swappedStores [.Tuple [.Name x px,.Name y py] kt pt] (.Tuple [a,b] k2 pt2) X.env=pure (some [x,y]):=by rfl)
   (hs:swapsWithSole [.Tuple [.Name x px,.Name y py] kt pt] (.Tuple [a,b] k2 pt2) pos.line X.env=pure false:=by rfl) :
   SS X (.Assign [.Tuple [.Name x px,.Name y py] kt pt] (.Tuple [a,b] k2 pt2) pos) (mPar i j mm):=PS.imp (zpl hc hN hi hj hij hx hy ha hw hs) fun N M H h=>by
 obtain⟨U,st,io,f,st',E,S,e,w⟩:=zcQ.mp h;obtain⟨⟨xs,s1⟩,e1,e⟩:=zaf e
 match xs,e,e1 with
 | [u,v],e,e1 =>
   cases e;refine⟨U,st,io,_,_,E,S,e1,fun vs H1 k1 X1 S1 R1=>?_⟩;obtain⟨p,q,rfl,r1,r2⟩:=R1.two;exact⟨p,q,rfl,w _ H1 k1 X1 S1<|((E.ext S X1).set i r1).set j r2⟩
def zcm(P:Program)(w:World)(K:Ab)(mg:Str->Option Value)(base:Heap)(k:Nat)(x:Str)(n:Nat)(g:GN):Prop :=
 ∃ f fd ps,FnOk P w K mg base CX0 k f fd ps (spM K n g)/\mg x=some (.ref f)/\BP K (.ref f)=true/\Binds K fd ps []
def zjQ(n:Nat)(mm:MA):Prop:=∀ U st xs s,mm U st=some (xs,s)->xs.length=n
def zjQ.nil:zjQ 0 mNil:=fun _ _ _ _ h=>zlX h
def zjQ.cons(h:zjQ n mm):zjQ (n+1) (zac m mm):=fun _ _ _ _ q=>zjK h q
def zlh{x:Str}{g:GN}(F:zcm X.prog X.w X.K X.mg X.base k x n g)(hr:Room k X.A)(hg:Gl X x)(ha:SA X (e::es) mm)(hl:zjQ n mm)(hdb:(x==("__debug__":Str))=false:=by decide)
   (he:starEach (e::es) X.env=(false,eval e X.env)::starEach es X.env:=by rfl) (hpl:(backTo pos<|starEach es X.env).any (·.1)=false:=by rfl) (hn:(e::es).length=n:=by rfl) :
   SE X (.Call (.Name x p) (e::es) [] pos) (zas g mm):=by
 obtain⟨f,fd,ps,F,hm,hk,hb⟩:=F;exact zni F hr hg hm hk hb ha hdb he hpl hn hl
def Laid(K:Ab)(mg:Str->Option Value)(x:Str)(st:Stmt)(ps:List Str):Prop:=∃ f fd,Fun K x x st f fd/\mg x=some (.ref f)/\Binds K fd ps []
def zqk{mg:Str->Option Value}{base:Heap}{x:Str}{st:Stmt}{N ps:List Str}{m:MS}(L:Laid K mg x st ps)(S:FnScope N ps (zaA st))
   (hbody:∀ (f:Addr) (cdv:Value) (A:Around) (outer:List Env) (s:Shared) (H:Hp) (E:XK),Room k (A.deeper<|envOfC x (zaA st) s.heap.objs.size f cdv) ->
     SSs (cxOf CX0 P w K mg base N x (zaA st) f cdv A outer s H E).nox (zbK st) m):zcm P w K mg base (k+1) x ps.length (fnM N.length m):=by
 obtain⟨f,fd,F,hm,hb⟩:=L;exact⟨f,fd,ps,fn_m F S<|hbody f,hm,F.kp,hb⟩
end
variable {v:Value}
def zje{at_:Addr}{R:PySem.Fin->Shared->Prop}(g0:s.heap.get? at_=some (seqObj "list" #[v] k))(fin:R (.done<|.ret .none) { s with heap:=sortedHeap s.heap at_ [v] #[v] }) :
   wpAny (model prog w) A (Builtin.«list.sort» ⟨[.ref at_],[]⟩) R E s:=by
 have lt0:=Ai g0;obtain⟨ep,g1⟩:∃ ep,(s.heap.update at_<|Bl fun _=>(#[]:Array Value)).get? at_=some (seqObj "list" #[] ep):=⟨_,get?_update_seq g0 fun _=>#[]⟩
 have g2:(((s.heap.update at_<|Bl fun _=>(#[]:Array Value)).push<|seqObj "tuple" #[v] 0).push<|seqObj "list" #[] 0).get? at_=some (seqObj "list" #[] ep):=Ad _<|Ad _ g1;rw[list_sort_plain];refine Aa<|listItems_at g0 rfl<|Aa<|De g0 rfl<|Aa<|DR g1 rfl<|Aa<|DX<|Aa<|Df<|AI ?_;show wpAny (model prog w) A _ R E { s with heap:=((s.heap.update at_<|Bl fun _=>(#[]:Array Value)).push<|seqObj "tuple" #[v] 0).push (seqObj "list" #[] 0) };have two:(#[v]:Array Value).size < 2:=by show 1 < 2;decide
 have same:(arrOf<|FB general' ((#[v]:Array Value).zip #[v]) #[] 7 none).map (·.2)=#[v]:=by show (((#[v]:Array Value).zip #[v]).map (·.2))=#[v];simp
 dsimp only;rw[if_pos two,if_pos two];refine Aa<|Ac ?_;rw[Fb];refine Aa<|Ac ?_;dsimp only;rw[same];refine Aa<|DR g2 rfl<|Aa<|De g2 rfl ?_;simp only[bne_self_eq_false,A8,if_false];exact Ac fin
def zgW{R:Value->Shared->Prop}(hl:s.heap.IsList l [v].toArray)(fin:R (.ref<|s.heap.objs.size+1) { s with heap:=sortedAll s.heap [v] #[v] }) :
   wpAny (model prog w) A (call (.builtin "sorted") [.ref l]) R E s:=by
 have sz:((s.heap.push<|seqObj "list" #[] 0).update s.heap.objs.size (Bl (·++[v].toArray))).objs.size=s.heap.objs.size+1:=(Heap.size_update ..).trans<|size_push' ..;have g0:(((s.heap.push<|seqObj "list" #[] 0).update s.heap.objs.size (Bl (·++[v].toArray))).push<|seqObj "list" [v].toArray 0).get? (s.heap.objs.size+1)=some (seqObj "list" [v].toArray 0):=by rw[<-sz];exact Am _ rfl
 refine Dr kind_sorted plain_sorted entry_sorted (args_sorted1 _) ?_;unfold Builtin.«sorted»;refine Aa (m:=checkCount "sorted" 1 1 _) (Ac<|Aa<|collect_list hl<|Aa<|Df ?_);show wpAny _ _ _ _ _ { s with heap:=((s.heap.push<|seqObj "list" #[] 0).update s.heap.objs.size (Bl (·++[v].toArray))).push (seqObj "list" [v].toArray 0) };rw[sz];exact Aa<|AI<|AV slot_list_sort ⟨_,g0,rfl⟩ entry_list_sort (zje g0 ⟨_,rfl,Ac ⟨_,rfl,fin⟩⟩)<|args_list_sort _
def zdr:GN
 | [.ref n],st=>(zbi st n).bind fun ds=>if decide (ds.length=1)=true then some (.ref st.length,st++[.lst ds]) else none
 | _,_=>none
def zfk:zcN X (.builtin "sorted") zdr:=by
 rintro pins s M H xs us Q I r ⟨ds,st,io,d,st',R,S,e,k⟩;unfold zdr at e
 split at e
 . rename_i n;obtain⟨zs,e0,e⟩:=zaf e;obtain⟨hl,e⟩:=zao e;cases e;obtain⟨y,rfl⟩:=List.length_eq_one_iff.mp<|of_decide_eq_true hl;obtain⟨v,rfl,p,rfl,hp⟩:=R.one;obtain⟨u,rfl,ru⟩:=r.one;cases ru;obtain⟨ys,hx,r1⟩:=zaW S hp e0;obtain⟨its,rv,pl,hz⟩:=I.list hx;obtain⟨y',rfl,ry⟩:=r1.one;obtain⟨i,rfl,ri⟩:=rv.one;refine zgW pl.isList ?_;obtain⟨ep,hat⟩:=sortedAll_at s.heap [i] #[i];have hfree:H (s.heap.objs.size+1)=none:=I.hok.fresh<|Cv _;refine⟨.ref<|s.heap.objs.size+1,upd H (s.heap.objs.size+1)<|.lst [y'],I.laid (t':=s.toks) (a:=s.heap.objs.size+1) (fun b o q=>sortedAll_old q) (Cv _) ⟨by show 1<=sizeLine;decide,[i],ep,rv,by simpa using hat⟩,rfl,?_⟩;exact k.lst S r1 hfree
 . cases e
def zbZ:GN:=orN zco<|orN zdr zel
def zcs:zcN X (.builtin "sorted") zbZ:=zc2 zfj<|zc2 zfk zfi
variable {o:Obj}
def Inv.freeze{d:Addr}{o:Obj}{u:HO}(I:Inv X pins M H s)(hd:H d=some u)(g:s.heap.get? d=some o)(n1:∀ xs,u≠.tup xs)(n2:∀ x,u≠.own x)(n3:∀ o w,u≠.frz o w)(n4:∀ ps,u≠.tbl ps):Inv X pins M (upd H d<|.frz o u) s:=by
 have ne:∀ {b:Addr} {v:HO},H b=some v->v≠u->b≠d:=fun {b v} q nv z=>by subst z;rw[hd] at q;exact nv (Ay q).symm
 refine Inv.step (h':=s.heap) (t':=s.toks) (g':=s.gens) (d':=s.drawn) (ch:=[]) I (fun _ z=>nomatch z) (fun b v _ _ _ q _=>q) (fun b v _ _ _ q _=>⟨v.slots,q⟩) (fun b v _ q n=>?_) (fun b v _ q=>⟨v,q⟩) (fun b xs q=>?_) (fun b v w q=>?_) (fun b ps q=>⟨#[],?_⟩) (fun m hm=>hm) (fun b v q=>?_) I.bare
 . have:b≠d:=fun z=>by
     rw[z,hd] at n;cases n
   rw[zax this];exact n
 . rw[zax (ne q fun z=>n1 xs z.symm)];exact q
 . rw[zax (ne q fun z=>n3 v w z.symm)];exact q
 . rw[zax (ne q fun z=>n4 ps z.symm),q];simp
 . by_cases hb:b=d
   . subst hb;rw[zbg] at q;cases q;refine⟨g,?_⟩;exact (I.hok b u hd).stay (fun c x _ y=>y) (fun c y=>by rw[zax (ne y fun z=>n2 b z.symm)];exact y) fun c xs y=>by rw[zax (ne y fun z=>n1 xs z.symm)];exact y
   rw[zax hb] at q;exact (I.hok b v q).stay (fun c x _ y=>y) (fun c y=>by rw[zax (ne y fun z=>n2 b z.symm)];exact y) fun c xs y=>by rw[zax (ne y fun z=>n1 xs z.symm)];exact y
def zfU{d:Addr}{ps:List (List Key×V)}{es:Array DictEntry}{ep:Nat}(x:zcx P w H h d (.frz o<|.dT ps))(dd:o.data=.dict es ep) :
   h.get? d=some o/\es.size=ps.length/\∀ (i:Nat) (k:List Key) (v:V),ps[i]?=some (k,v)->∃ (en:DictEntry) (b:Addr),es[i]?=some en/\en.key=.ref b/\H b=some (.tup<|k.map kV)/\RelV v en.val:=by
 obtain⟨g,z,y,xs,r,o',es',ep',g',ex,dd',et,nd⟩:=x;rw[g] at g';cases g';rw[dd] at dd';cases dd';have hl:es.size=ps.length:=by have h1:=congrArg List.length et;have h2:=Bc r;simp at h1;omega
 refine⟨g,hl,fun i k v hi=>?_⟩;have get:∀ {l:List (List Key×V)} {m:List (List Key×Addr×Value)} {i:Nat},Paired (fun (p:List Key×V) (q:List Key×Addr×Value)=>p.1=q.1/\H q.2.1=some (.tup<|p.1.map kV)/\RelV p.2 q.2.2) l m->l[i]?=some (k,v)->∃ q,m[i]?=some q/\H q.2.1=some (.tup<|k.map kV)/\RelV v q.2.2:=by
   intro l m i q
   induction q generalizing i with
   | nil=>intro e;simp at e
   | cons h t ih =>
     cases i with
     | zero =>
       intro e;simp at e;subst e;exact⟨_,rfl,h.2.1,h.2.2⟩
     | succ j=>intro e;exact ih<|by simpa using e
 obtain⟨q,hq,h1,h2⟩:=get r hi;have he:es[i]?=some (entryOfKey (tupleKind<|zat P w) q):=by
   have:es.toList[i]?=some (entryOfKey (tupleKind<|zat P w) q):=by rw[et,Av,hq];rfl
   simpa using this
 exact⟨_,q.2.1,he,rfl,h1,h2⟩
section
variable {m:ME}
def keyD:Key->D
 | .inl i=>.int i
 | .inr x=>.str x
def zeK:∀ (ks:List Key),Reps K H io (ks.map kV) (ks.map keyD)
 | []=>rfl
 | .inl i::r=>⟨_,_,rfl,rfl,zeK r⟩
 | .inr x::r=>⟨_,_,rfl,rfl,zeK r⟩
end
inductive Sr where
 | l (a:Addr) | t (a:Addr)
def Sr.ad:Sr->Addr
 | .l a=>a
 | .t a=>a
def Sr.ob:Sr->Obj
 | .l a=>{ cls:=.type "list_iterator",data:=.fields #[.ref a,.int 0 0] }
 | .t a=>{ cls:=.type "tuple_iterator",data:=.fields #[.ref a,.int 0 0] }
def Sr.is(h:Heap)(xs:Array Value):Sr->Prop
 | .l a=>h.IsList a xs
 | .t a=>IsTup h a xs
def Sr.at_(h:Heap)(i:Addr)(k:Nat):Sr->Prop
 | .l a=>h.IsListIter i a k
 | .t a=>IsTupIter h i a k
variable {xs:Array Value}{x:Sr}
def Sr.is_keep(q:x.is h xs)(k:∀ u,h.get? x.ad=some u->h'.get? x.ad=some u):x.is h' xs:=by
 cases x with
 | l a=>exact DY q k
 | t a=>obtain⟨o,g,c⟩:=q;exact⟨o,k o g,c⟩
def Sr.at_keep{i:Addr}(q:x.at_ h i n)(k:∀ u,h.get? i=some u->h'.get? i=some u):x.at_ h' i n:=by
 cases x with
 | l a=>exact Eu q k
 | t a=>obtain⟨o,g,c⟩:=q;exact⟨o,k o g,c⟩
def Sr.at_get{i:Addr}(q:x.at_ h i n):∃ o vs,h.get? i=some o/\o.data=.fields vs:=by
 cases x with
 | l a=>obtain⟨o,g,c,d⟩:=q;exact⟨o,_,g,d⟩
 | t a=>obtain⟨o,g,c,d⟩:=q;exact⟨o,_,g,d⟩
variable {it:Addr}
def Sr.iter{R:Value->Shared->Prop}(h:x.is s.heap xs)(k:R (.ref s.heap.objs.size) { s with heap:=s.heap.push x.ob }):wpAny (model prog w) A (pyIter<|.ref x.ad) R E s:=by
 cases x with
 | l a=>exact Cp h k
 | t a=>exact iter_tuple h k
def zh4{R:Value->Shared->Prop}(hit:IsTupIter s.heap it a i)(ht:IsTup s.heap a xs)(hx:xs[i]?=some v)
   (k:∀ h',IsTupIter h' it a (i+1)->BA it s.heap h'->R v { s with heap:=h' }):wpAny (model prog w) A (Builtin.SmallTypes.nextOf<|.ref it) R E s:=by
 obtain⟨ro,rg,rc,rd⟩:=id hit;obtain⟨to,tg,_,tn,td⟩:=ht;unfold Builtin.SmallTypes.nextOf;refine Aa (AX (name:=Bs "__next__") hit.typeIs Cc<|AV Cc hit.typeIs D7 ?_<|Ef _);show wpAny _ _ (field (.ref it) 0 >>= _) _ _ s;refine Aa<|A0 rg rd (x:=.ref a) rfl ?_;show wpAny _ _ (if (AH a==A7)=true then _ else _) _ _ s;rw[if_neg (show ¬ (AH a==A7)=true from fun z=>Bi z)];show wpAny _ _ (field (.ref it) 1 >>= _) _ _ s;refine Aa<|A0 rg rd (x:=.int i 0) rfl ?_;show wpAny _ _ (seqItems? (.ref a) >>= _) _ _ s;refine Aa<|By tg td ?_;simp only[A4,hx];refine Aa<|C3 rg rd (by simp)<|Ac ⟨v,rfl,Ac<|k _ ⟨_,B5 _ rg<|DZ<|Cm rd _,(ED ..).trans rc,?_⟩<|BU ..⟩;rw[Cm rd];simp[rawInt]
def zeG{R:Value->Shared->Prop}(hh:A.handled=none)(hit:IsTupIter s.heap it a i)(ht:IsTup s.heap a xs)(hx:xs[i]?=none)
   (k:∀ h' e,DS it s.heap h'->(∃ o,h'.get? e=some o/\o.cls=.type "StopIteration")->E (.ref e) { s with heap:=h' }):wpAny (model prog w) A (Builtin.SmallTypes.nextOf<|.ref it) R E s:=by
 obtain⟨ro,rg,rc,rd⟩:=id hit;obtain⟨to,tg,_,tn,td⟩:=ht;unfold Builtin.SmallTypes.nextOf;refine Aa (AX (name:=Bs "__next__") hit.typeIs Cc<|AV Cc hit.typeIs D7 ?_<|Ef _);show wpAny _ _ (field (.ref it) 0 >>= _) _ _ s;refine Aa<|A0 rg rd (x:=.ref a) rfl ?_;show wpAny _ _ (if (AH a==A7)=true then _ else _) _ _ s;rw[if_neg (show ¬ (AH a==A7)=true from fun z=>Bi z)];show wpAny _ _ (field (.ref it) 1 >>= _) _ _ s;refine Aa<|A0 rg rd (x:=.int i 0) rfl ?_;show wpAny _ _ (seqItems? (.ref a) >>= _) _ _ s;refine Aa<|By tg td ?_;simp only[A4,hx];refine Aa<|BX<|Aa<|C3 rg rd (by simp) ?_;show wpAny _ _ (newExc (.type "StopIteration") [] >>= _) _ _ _;simp only[newExc,newTuple];refine Aa (Aa<|AJ (Aa (m:=firstArgMember _ _)<|wpAny_of_eq (a:=A7) (by first | rfl | (simp only[firstArgMember];rfl))<|AJ ?_<|by size_fits)<|by size_fits);simp only[raiseNew];refine Aa<|wpAny_handled ?_
 first | rw[show A.in1.handled=none from hh] | rw[hh]
 refine Aa<|Ac<|wpAny_throw ?_;exact k _ _ (((BU ..).extBut.push _).push _) ⟨_,Am _ rfl,rfl⟩
def Sr.next{R:Value->Shared->Prop}(hit:x.at_ s.heap it i)(h:x.is s.heap xs)(hx:xs[i]?=some v)(k:∀ h',x.at_ h' it (i+1)->BA it s.heap h'->R v { s with heap:=h' }) :
   wpAny (model prog w) A (Builtin.SmallTypes.nextOf<|.ref it) R E s:=by
 cases x with
 | l a=>exact wpAny_nextOf_list_item hit h hx k
 | t a=>exact zh4 hit h hx k
def Sr.stop{R:Value->Shared->Prop}(hh:A.handled=none)(hit:x.at_ s.heap it i)(h:x.is s.heap xs)(hx:xs[i]?=none)
   (k:∀ h' e,DS it s.heap h'->(∃ o,h'.get? e=some o/\o.cls=.type "StopIteration")->E (.ref e) { s with heap:=h' }):wpAny (model prog w) A (Builtin.SmallTypes.nextOf<|.ref it) R E s:=by
 cases x with
 | l a=>exact wpAny_nextOf_list_end hh hit h hx k
 | t a=>exact zeG hh hit h hx k
def Sr.at_new{i:Addr}(g:h.get? i=some x.ob):x.at_ h i 0:=by
 cases x with
 | l a=>exact⟨_,g,rfl,rfl⟩
 | t a=>exact⟨_,g,rfl,rfl⟩
noncomputable abbrev zp1 (h:Heap) (x:Sr):Heap:=h.push x.ob
noncomputable abbrev zp2 (h:Heap) (x y:Sr):Heap:=(zp1 h x).push y.ob
noncomputable abbrev zp3 (h:Heap) (x y:Sr):Heap:=(zp2 h x y).push { cls:=.type "tuple",data:=.seq #[.ref h.objs.size,.ref (zp1 h x).objs.size] }
noncomputable abbrev zp4 (h:Heap) (x y:Sr):Heap:=(zp3 h x y).push { cls:=.type "tuple",data:=.seq #[.none,.none] }
noncomputable abbrev zp5 (h:Heap) (x y:Sr):Heap:=(zp4 h x y).push { cls:=.type "zip",data:=.fields #[.none,.bool false,.bool false,.ref (zp2 h x y).objs.size,.ref (zp3 h x y).objs.size] }
def zi2(x y:Sr)(xs ys:Array Value):Meets (Builtin.«zip.__new__» ⟨[.type "zip",.ref x.ad,.ref y.ad],[]⟩) (fun _ R s=>x.is s.heap xs/\y.is s.heap ys/\R (.ok<|.ret<|.ref (zp4 s.heap x y).objs.size) { s with heap:=zp5 s.heap x y }) :=
 .of_wp fun prog w A R s h=>by
   obtain⟨hp,g,d,tk,os⟩:=s;obtain⟨h1,h2,h⟩:=h;have hsub:=sub_zip;have hx:x.is (Shared.heap ⟨hp,g,d,tk,os⟩) xs:=h1;have hy:y.is (Shared.heap ⟨hp.push x.ob,g,d,tk,os⟩) ys:=Sr.is_keep h2 fun u q=>Ad _ q
   wp_walk using Sr.iter hx,Sr.iter hy
   exact⟨_,rfl,h⟩
structure Zp(z TI TO i j:Addr):Prop where
 TIz:TI≠z
 TOz:TO≠z
 iz:i≠z
 jz:j≠z
 TIO:TI≠TO
 TIi:TI≠i
 TIj:TI≠j
 TOi:TO≠i
 TOj:TO≠j
 ij:i≠j
def neq{a b:Nat}(h:a≠b):(show Addr from a)≠(show Addr from b):=h
def Zp.new(n:Nat):Zp (n+4) (n+2) (n+3) n (n+1):=⟨neq<|by omega,neq<|by omega,neq<|by omega,neq<|by omega,neq<|by omega,neq<|by omega,neq<|by omega,neq<|by omega,neq<|by omega,neq<|by omega⟩
variable {b:Value}{y:Sr}{z:Addr}{ys:Array Value}
def zj6{R:Value->Shared->Prop}(hx:x.is s.heap xs)(hy:y.is s.heap ys)
   (k:∀ h',IsZip h' (s.heap.objs.size+4) (s.heap.objs.size+2) (s.heap.objs.size+3) .none->IsPair h' (s.heap.objs.size+2) (.ref s.heap.objs.size) (.ref<|s.heap.objs.size+1)->IsPair h' (s.heap.objs.size+3) .none .none ->
     x.at_ h' s.heap.objs.size 0->y.at_ h' (s.heap.objs.size+1) 0->(∀ c u,s.heap.get? c=some u->h'.get? c=some u)->R (.ref<|s.heap.objs.size+4) { s with heap:=h' }):wpAny (model prog w) A (call (.type "zip") [.ref x.ad,.ref y.ad]) R E s:=by
 refine callType_new F.called_zip (by decide) (F.typeCall_zip_2 _ _) (F.newCall_zip_2 _ _) (fun obj=>F.args_object_init_3 obj _ _) F.entry_zip_new (zi2 x y xs ys) ⟨hx,hy,?_⟩;have e1:(zp1 s.heap x).objs.size=s.heap.objs.size+1:=Bm ..;have e2:(zp2 s.heap x y).objs.size=s.heap.objs.size+2:=(Bm ..).trans (by rw[e1]);have e3:(zp3 s.heap x y).objs.size=s.heap.objs.size+3:=(Bm ..).trans (by rw[e2]);have e4:(zp4 s.heap x y).objs.size=s.heap.objs.size+4:=(Bm ..).trans (by rw[e3]);have up:∀ c u,(zp1 s.heap x).get? c=some u->(zp5 s.heap x y).get? c=some u:=fun c u q=>Ad _<|Ad _<|Ad _<|Ad _ q;have f5:(zp5 s.heap x y).get? (zp4 s.heap x y).objs.size=some { cls:=.type "zip",data:=.fields #[.none,.bool false,.bool false,.ref (zp2 s.heap x y).objs.size,.ref (zp3 s.heap x y).objs.size] }:=Am _ rfl;have f4:(zp5 s.heap x y).get? (zp3 s.heap x y).objs.size=some { cls:=.type "tuple",data:=.seq #[.none,.none] }:=Ad _<|Am _ rfl;have f3:(zp5 s.heap x y).get? (zp2 s.heap x y).objs.size=some { cls:=.type "tuple",data:=.seq #[.ref s.heap.objs.size,.ref (zp1 s.heap x).objs.size] }:=Ad _<|Ad _<|Am _ rfl;have f2:(zp5 s.heap x y).get? (zp1 s.heap x).objs.size=some y.ob:=Ad _<|Ad _<|Ad _<|Am _ (by cases y <;> rfl);have f1:(zp5 s.heap x y).get? s.heap.objs.size=some x.ob:=up _ _<|Am _ (by cases x <;> rfl);rw[e2,e3,e4] at f5;rw[e1,e2] at f3;rw[e3] at f4;rw[e1] at f2;show _/\_;rw[e4];exact⟨⟨_,f5,rfl⟩,k _ f5 f3 f4 (Sr.at_new f1) (Sr.at_new f2) fun c u q=>up c u (Ad _ q)⟩
def zkO{TI TO i j:Addr}{m:Nat}{u a:Value}{R:Option Value->Shared->Prop}(D:Zp z TI TO i j)(xz:x.ad≠z/\x.ad≠TO/\x.ad≠i/\x.ad≠j)(yz:y.ad≠z/\y.ad≠TO/\y.ad≠i/\y.ad≠j)
   (hz:IsZip s.heap z TI TO .none) (hTI:IsPair s.heap TI (.ref i) (.ref j)) (hTO:IsPair s.heap TO a b) (hi:x.at_ s.heap i n) (hj:y.at_ s.heap j m) (hx:x.is s.heap xs) (hy:y.is s.heap ys) (gx:xs[n]?=some u) (gy:ys[m]?=some v)
   (k:∀ h',IsZip h' z TI TO (rawInt s.heap.objs.size)->IsPair h' TI (.ref i) (.ref j)->IsPair h' TO u v->x.at_ h' i (n+1)->y.at_ h' j (m+1)->IsPair h' s.heap.objs.size u v ->
     (∀ c o,c≠z->c≠TO->c≠i->c≠j->s.heap.get? c=some o->h'.get? c=some o)->R (some<|.ref s.heap.objs.size) { s with heap:=h' }):wpAny (model prog w) A (pyNext<|.ref z) R E s:=by
 have ty:s.TypeIs (.ref z) "zip":=⟨_,hz,rfl⟩
 unfold pyNext;refine Aa (Dg<|AX (name:=Bs "__next__") ty F.slot_zip_next<|AV F.slot_zip_next ty F.entry_zip_next ?_<|F.args_zip_next_1 _);show wpAny _ _ (field (.ref z) 2 >>= _) _ _ _;refine Aa<|A0 hz rfl (x:=.bool false) rfl ?_;show wpAny _ _ (field (.ref z) 3 >>= _) _ _ _;refine Aa<|A0 hz rfl (x:=.ref TI) rfl<|Aa<|By hTI rfl ?_;show wpAny _ _ (Builtin.SmallTypes.ownedTupleIsFree (.ref z) >>= _) _ _ _;unfold Builtin.SmallTypes.ownedTupleIsFree;refine Aa<|Aa<|A0 hz rfl (x:=.none) rfl<|Ac ?_;simp only[if_true];refine Aa<|BX<|Aa<|A0 hz rfl (x:=.ref TO) rfl<|Aa<|BH hz (by simp) fun g1 z1 s1=>?_
 replace z1:IsZip g1 z TI TO .ellipsis:=z1
 have k1:∀ c o,c≠z->s.heap.get? c=some o->g1.get? c=some o:=fun c o nc q=>s1.extBut c o nc q;simp only[ER,Fc,CK,BQ];refine Aa<|Aa<|Aa<|Dh ?_;show wpAny _ _ (Builtin.SmallTypes.nextOf (.ref i) >>= _) _ _ _;refine Aa<|Sr.next (Sr.at_keep hi fun o q=>k1 _ o D.iz q) (Sr.is_keep hx fun o q=>k1 _ o xz.1 q) gx fun g2 i2 s2=>Ac ?_;have k2:∀ c o,c≠z->c≠i->s.heap.get? c=some o->g2.get? c=some o:=fun c o nc ni q=>s2.extBut c o ni<|k1 c o nc q;have o2:IsPair g2 TO a b:=k2 _ _ D.TOz D.TOi hTO;refine Aa<|By o2 rfl<|Aa<|CQ o2 fun g3 o3 s3=>(Aa<|EH<|Ac ?_)
 replace o3:IsPair g3 TO u b:=o3
 have k3:∀ c o,c≠z->c≠i->c≠TO->s.heap.get? c=some o->g3.get? c=some o:=fun c o nc ni nt q=>s3.extBut c o nt<|k2 c o nc ni q;refine Aa<|Aa<|Dh ?_;show wpAny _ _ (Builtin.SmallTypes.nextOf (.ref j) >>= _) _ _ _;refine Aa<|Sr.next (Sr.at_keep hj fun o q=>k3 _ o D.jz D.ij.symm D.TOj.symm q) (Sr.is_keep hy fun o q=>k3 _ o yz.1 yz.2.2.1 yz.2.1 q) gy fun g4 j4 s4=>Ac ?_;have o4:IsPair g4 TO u b:=s4.extBut _ _ D.TOj o3;refine Aa<|By o4 rfl<|Aa<|CQ o4 fun g5 o5 s5=>(Aa<|EH<|Ac<|Ac ?_)
 replace o5:IsPair g5 TO u v:=o5
 refine Aa<|By o5 rfl<|Aa<|DX ?_;have sz:g5.objs.size=s.heap.objs.size:=by rw[s5.1,s4.1,s3.1,s2.1,s1.1]
 have z5:IsZip g5 z TI TO .ellipsis:=s5.extBut _ _ D.TOz.symm<|s4.extBut _ _ D.jz.symm<|s3.extBut _ _ D.TOz.symm<|s2.extBut _ _ D.iz.symm z1;have k5:∀ c o,c≠z->c≠TO->c≠i->c≠j->s.heap.get? c=some o->g5.get? c=some o:=fun c o c1 c2 c3 c4 q=>s5.extBut c o c2<|s4.extBut c o c4<|k3 c o c1 c3 c2 q;have i5:x.at_ g5 i (n+1):=Sr.at_keep i2 fun o q=>s5.extBut _ _ D.TOi.symm<|s4.extBut _ _ D.ij<|s3.extBut _ _ D.TOi.symm q;have j5:y.at_ g5 j (m+1):=Sr.at_keep j4 fun o q=>s5.extBut _ _ D.TOj.symm q;have lz:z < g5.objs.size:=Ai z5;show wpAny _ _ (Builtin.SmallTypes.ownedTupleHandOut (.ref z) (.ref g5.objs.size) >>= _) _ _ _;unfold Builtin.SmallTypes.ownedTupleHandOut;have z6:IsZip (g5.push { cls:=.type "tuple",data:=.seq #[u,v] }) z TI TO .ellipsis:=Ad _ z5;refine Aa<|Aa<|BH z6 (by simp) fun g7 z7 s7=>?_
 replace z7:IsZip g7 z TI TO (rawInt g5.objs.size):=z7
 refine BH z7 (by simp) fun g8 z8 s8=>?_
 replace z8:IsZip g8 z TI TO (rawInt g5.objs.size):=z8
 have up:∀ c o,c≠z->g5.get? c=some o->g8.get? c=some o:=fun c o nc q=>s8.extBut c o nc<|s7.extBut c o nc<|Ad _ q;have t8:IsPair g8 g5.objs.size u v:=s8.extBut _ _ (Cj lz)<|s7.extBut _ _ (Cj lz)<|Am _ rfl;rw[sz] at z8 t8;refine Ac ⟨_,rfl,Ac ?_⟩;show R (some<|.ref g5.objs.size) _;rw[sz];exact k g8 z8 (up _ _ D.TIz<|k5 _ _ D.TIz D.TIO D.TIi D.TIj hTI) (up _ _ D.TOz o5) (Sr.at_keep i5 fun o q=>up _ o D.iz q) (Sr.at_keep j5 fun o q=>up _ o D.jz q) t8 fun c o c1 c2 c3 c4 q=>up c o c1 (k5 c o c1 c2 c3 c4 q)
def zmJ{TI TO i j:Addr}{m:Nat}{a:Value}{R:Option Value->Shared->Prop}(hh:A.handled=none)(D:Zp z TI TO i j)(xz:x.ad≠z/\x.ad≠TO/\x.ad≠i/\x.ad≠j)(yz:y.ad≠z/\y.ad≠TO/\y.ad≠i/\y.ad≠j)
   (hz:IsZip s.heap z TI TO .none) (hTI:IsPair s.heap TI (.ref i) (.ref j)) (hTO:IsPair s.heap TO a b) (hi:x.at_ s.heap i n) (hj:y.at_ s.heap j m) (hx:x.is s.heap xs) (hy:y.is s.heap ys) (he:xs[n]?=none\/ys[m]?=none)
   (k:∀ h',(∀ c o,c≠z->c≠TO->c≠i->c≠j->s.heap.get? c=some o->h'.get? c=some o)->R none { s with heap:=h' }):wpAny (model prog w) A (pyNext<|.ref z) R E s:=by
 have ty:s.TypeIs (.ref z) "zip":=⟨_,hz,rfl⟩
 have halt:∀ h' e,(∀ c o,c≠z->c≠TO->c≠i->c≠j->s.heap.get? c=some o->h'.get? c=some o)->(∃ o,h'.get? e=some o/\o.cls=.type "StopIteration") ->
     wpAny (model prog w) A (do if <-isInstance (.ref e) (.type "StopIteration") then pure none else throw (AH e)) R E { s with heap:=h' }:=fun h' e q ⟨o,g,c⟩ =>
   Aa (wpAny_isInstance (T:="StopIteration") (b:=true) ⟨o,g,c⟩ isSubtype_stop<|Ac<|k h' q)
 unfold pyNext;refine Aa (Dg<|AX (name:=Bs "__next__") ty F.slot_zip_next<|AV F.slot_zip_next ty F.entry_zip_next ?_<|F.args_zip_next_1 _);show wpAny _ _ (field (.ref z) 2 >>= _) _ _ _;refine Aa<|A0 hz rfl (x:=.bool false) rfl ?_;show wpAny _ _ (field (.ref z) 3 >>= _) _ _ _;refine Aa<|A0 hz rfl (x:=.ref TI) rfl<|Aa<|By hTI rfl ?_;show wpAny _ _ (Builtin.SmallTypes.ownedTupleIsFree (.ref z) >>= _) _ _ _;unfold Builtin.SmallTypes.ownedTupleIsFree;refine Aa<|Aa<|A0 hz rfl (x:=.none) rfl<|Ac ?_;simp only[if_true];refine Aa<|BX<|Aa<|A0 hz rfl (x:=.ref TO) rfl<|Aa<|BH hz (by simp) fun g1 z1 s1=>?_
 replace z1:IsZip g1 z TI TO .ellipsis:=z1
 have k1:∀ c o,c≠z->s.heap.get? c=some o->g1.get? c=some o:=fun c o nc q=>s1.extBut c o nc q;have sep:∀ {g:Heap} {e:Addr} {o:Obj},IsZip g z TI TO .ellipsis->g.get? e=some o->o.cls=.type "StopIteration"->e≠z:=fun {g e o} q h c r=>by subst r;rw[q] at h;cases h;simp at c
 simp only[ER,Fc,CK,BQ];refine Aa<|Aa<|Aa<|Dh ?_;show wpAny _ _ (Builtin.SmallTypes.nextOf (.ref i) >>= _) _ _ _
 cases gx:xs[n]? with
 | none =>
   refine Aa<|Sr.stop hh (Sr.at_keep hi fun o q=>k1 _ o D.iz q) (Sr.is_keep hx fun o q=>k1 _ o xz.1 q) gx ?_;rintro g2 e s2 ⟨oe,he,ce⟩;have z2:IsZip g2 z TI TO .ellipsis:=s2 _ _ D.iz.symm z1;exact BH z2 (by simp) fun g3 _ s3=>halt g3 e (fun c o c1 _ c3 _ q=>s3.extBut c o c1 (s2 c o c3<|k1 c o c1 q)) ⟨oe,s3.extBut _ _ (sep z2 he ce) he,ce⟩
 | some u =>
   have gy:ys[m]?=none:=he.resolve_left (by rw[gx];simp);refine Aa<|Sr.next (Sr.at_keep hi fun o q=>k1 _ o D.iz q) (Sr.is_keep hx fun o q=>k1 _ o xz.1 q) gx fun g2 i2 s2=>Ac ?_;have k2:∀ c o,c≠z->c≠i->s.heap.get? c=some o->g2.get? c=some o:=fun c o nc ni q=>s2.extBut c o ni<|k1 c o nc q;have o2:IsPair g2 TO a b:=k2 _ _ D.TOz D.TOi hTO;refine Aa<|By o2 rfl<|Aa<|CQ o2 fun g3 o3 s3=>(Aa<|EH<|Ac ?_);have k3:∀ c o,c≠z->c≠i->c≠TO->s.heap.get? c=some o->g3.get? c=some o:=fun c o nc ni nt q=>s3.extBut c o nt<|k2 c o nc ni q;refine Aa<|Aa<|Dh ?_;show wpAny _ _ (Builtin.SmallTypes.nextOf (.ref j) >>= _) _ _ _;refine Aa<|Sr.stop hh (Sr.at_keep hj fun o q=>k3 _ o D.jz D.ij.symm D.TOj.symm q) (Sr.is_keep hy fun o q=>k3 _ o yz.1 yz.2.2.1 yz.2.1 q) gy ?_;rintro g4 e s4 ⟨oe,he,ce⟩;have z4:IsZip g4 z TI TO .ellipsis:=s4 _ _ D.jz.symm<|s3.extBut _ _ D.TOz.symm<|s2.extBut _ _ D.iz.symm z1;exact BH z4 (by simp) fun g5 _ s5=>halt g5 e (fun c o c1 c2 c3 c4 q=>s5.extBut c o c1 (s4 c o c4<|k3 c o c1 c3 c2 q)) ⟨oe,s5.extBut _ _ (sep z4 he ce) he,ce⟩
def Sr.sq(H:Hp)(xs:List V):Sr->Prop
 | .l a=>H a=some (.lst xs)\/∃ o,H a=some (.frz o<|.lst xs)
 | .t a=>H a=some (.tup xs)
def Sr.sq_ne{xs:List V}{b:Addr}(h:x.sq H xs)(hb:H b=none):x.ad≠b:=by
 cases x with
 | l a=>rcases h with h | ⟨o,h⟩ <;> exact zaq h hb
 | t a=>exact zaq (show H a=some (.tup xs) from h) hb
def Sr.sq_inj{xs ys:List V}(h:x.sq H xs)(h':x.sq H ys):xs=ys:=by
 cases x with
 | l a=>rcases h with h | ⟨o,h⟩ <;> rcases h' with h' | ⟨o',h'⟩ <;> rw[h] at h' <;> cases h' <;> rfl
 | t a =>
   have h:H a=some (.tup xs):=h;have h':H a=some (.tup ys):=h';rw[h] at h';cases h';rfl
def Sr.sq_is{xs:List V}(I:Inv X pins M H s)(h:x.sq H xs):∃ its:List Value,Vals xs its/\x.is s.heap its.toArray:=by
 cases x with
 | l a =>
   obtain⟨its,rv,p,_⟩:=I.list (show SqL X.K H a xs from .inl h);exact⟨its,rv,p.isList⟩
 | t a =>
   obtain⟨its,rv,p,_⟩:=I.tuple<|SqT.of (K:=X.K) h;exact⟨its,rv,p⟩
def Itz(x y:Sr):It :=
 ⟨fun i H=>∃ xs ys u v,x.sq H xs/\y.sq H ys/\xs[i]?=some u/\ys[i]?=some v,fun i H r H'=>∃ p u v,H p=none/\H'=upd H p (.tup [u,v])/\r=.ref p/\(∀ xs,x.sq H xs->xs[i]?=some u)/\∀ ys,y.sq H ys->ys[i]?=some v,
   fun i H=>∃ xs ys,x.sq H xs/\y.sq H ys/\(xs.length<=i\/ys.length<=i)⟩
variable {elts:List Expr}
def zkT{x1}(x y:Sr){TI TO i j:Addr}(D:Zp z TI TO i j) :
   Turn P w K (.Tuple elts x1 pos) (Itz x y) [z,TI,TO,i,j] z (fun n h=>IsZip h z TI TO .none/\IsPair h TI (.ref i) (.ref j)/\(∃ a b,IsPair h TO a b)/\x.at_ h i n/\y.at_ h j n) where
 mem:=by simp
 obj:=fun n h st b hb=>by
   obtain⟨hz,hTI,⟨a,c,hTO⟩,hi,hj⟩:=st;simp only[AN,AF,or_false] at hb
   rcases hb with rfl | rfl | rfl | rfl | rfl
   . exact⟨_,hz,fun v q=>by cases q⟩
   . exact⟨_,hTI,fun v q=>by cases q⟩
   . exact⟨_,hTO,fun v q=>by cases q⟩
   . obtain⟨o,vs,g,d⟩:=Sr.at_get hi;exact⟨o,g,fun v q=>by rw[d] at q;cases q⟩
   obtain⟨o,vs,g,d⟩:=Sr.at_get hj;exact⟨o,g,fun v q=>by rw[d] at q;cases q⟩
 keep:=fun n h h' st k=>by obtain⟨hz,hTI,⟨a,c,hTO⟩,hi,hj⟩:=st;exact⟨k z (by simp) _ hz,k TI (by simp) _ hTI,⟨a,c,k TO (by simp) _ hTO⟩,Sr.at_keep hi fun o q=>k i (by simp) o q,Sr.at_keep hj fun o q=>k j (by simp) o q⟩
 item:=by
   intro X hP hw hK hc n pins s M H E I hf st hg;subst hP hw hK;obtain⟨xs,ys,u,v,hx,hy,gu,gv⟩:=hg;obtain⟨hz,hTI,⟨a,c,hTO⟩,hi,hj⟩:=st;obtain⟨its,rx,ix⟩:=Sr.sq_is I hx;obtain⟨jts,ry,iy⟩:=Sr.sq_is I hy;obtain⟨u',gu',ru⟩:=rx.get gu;obtain⟨v',gv',rv⟩:=ry.get gv;have fz:=(hf z<|by simp).1;have fTO:=(hf TO<|by simp).1;have fi:=(hf i<|by simp).1;have fj:=(hf j<|by simp).1;refine zkO D ⟨Sr.sq_ne hx fz,Sr.sq_ne hx fTO,Sr.sq_ne hx fi,Sr.sq_ne hx fj⟩ ⟨Sr.sq_ne hy fz,Sr.sq_ne hy fTO,Sr.sq_ne hy fi,Sr.sq_ne hy fj⟩ hz hTI hTO hi hj ix iy (u:=u') (v:=v') (by simpa using gu') (by simpa using gv') fun h1 z1 ti1 to1 i1 j1 t1 k1=>?_;refine⟨_,rfl,wpAny_letOwnedTupleGo_zip (s:={ s with heap:=h1 }) z1 fun h2 z2 b2=>?_⟩;have up:∀ b o,b≠z->h1.get? b=some o->h2.get? b=some o:=fun b o nb q=>(b2.2 b nb).trans q;have k2:∀ b o,b ∉ [z,TI,TO,i,j]->s.heap.get? b=some o->h2.get? b=some o:=fun b o hb q=>by simp only[AN,AF,or_false,not_or] at hb;exact up b o hb.1<|k1 b o hb.1 hb.2.2.1 hb.2.2.2.1 hb.2.2.2.2 q
   have lt:∀ b∈[z,TI,TO,i,j],b < s.heap.objs.size:=fun b hb=>by
     simp only[AN,AF,or_false] at hb
     rcases hb with rfl | rfl | rfl | rfl | rfl
     . exact Ai hz
     . exact Ai hTI
     . exact Ai hTO
     . obtain⟨o,vs,g,d⟩:=Sr.at_get hi;exact Ai g
     obtain⟨o,vs,g,d⟩:=Sr.at_get hj;exact Ai g
   have t2:h2.get? s.heap.objs.size=some { cls:=.type "tuple",data:=.seq #[u',v'] }:=up _ _ (Cj<|lt z<|by simp) t1;have st2:IsZip h2 z TI TO .none/\IsPair h2 TI (.ref i) (.ref j)/\(∃ a b,IsPair h2 TO a b)/\x.at_ h2 i (n+1)/\y.at_ h2 j (n+1) :=
     ⟨z2,up _ _ D.TIz ti1,⟨_,_,up _ _ D.TOz to1⟩,Sr.at_keep i1 fun o q=>up _ o D.iz q,Sr.at_keep j1 fun o q=>up _ o D.jz q⟩
   refine⟨.ref s.heap.objs.size,upd H s.heap.objs.size<|.tup [u,v],?_,rfl,⟨_,u,v,I.hok.fresh<|Af _,rfl,rfl,fun zs h=>by rw[Sr.sq_inj h hx];exact gu,fun zs h=>by rw[Sr.sq_inj h hy];exact gv⟩,st2,fun b hb=>?_⟩
   . refine Inv.turnNew (s:=s) (h':=h2) (t':=s.toks) I hf k2 (Af _) (fun b hb ob q=>?_) ⟨by show 2<=sizeLine;decide,[u',v'],.cons ru<|.cons rv .nil,⟨_,t2,rfl,rfl,_,rfl⟩⟩;simp only[AN,AF,or_false] at hb
     rcases hb with rfl | rfl | rfl | rfl | rfl
     . exact⟨_,z2⟩
     . exact⟨_,st2.2.1⟩
     . obtain⟨_,_,q⟩:=st2.2.2.1;exact⟨_,q⟩
     . obtain⟨o,vs,g,d⟩:=Sr.at_get st2.2.2.2.1;exact⟨o,g⟩
     obtain⟨o,vs,g,d⟩:=Sr.at_get st2.2.2.2.2;exact⟨o,g⟩
   rw[zax (Ar<|lt b hb)];exact (hf b hb).1
 done:=by
   intro X hP hw hK hc n pins s M H E I hf st hg;subst hP hw hK;obtain⟨xs,ys,hx,hy,he⟩:=hg;obtain⟨hz,hTI,⟨a,c,hTO⟩,hi,hj⟩:=st;obtain⟨its,rx,ix⟩:=Sr.sq_is I hx;obtain⟨jts,ry,iy⟩:=Sr.sq_is I hy;have fz:=(hf z<|by simp).1;have fTO:=(hf TO<|by simp).1;have fi:=(hf i<|by simp).1;have fj:=(hf j<|by simp).1;have l1:=rx.length;have l2:=ry.length;exact zmJ (I.ok.hd hc) D ⟨Sr.sq_ne hx fz,Sr.sq_ne hx fTO,Sr.sq_ne hx fi,Sr.sq_ne hx fj⟩ ⟨Sr.sq_ne hy fz,Sr.sq_ne hy fTO,Sr.sq_ne hy fi,Sr.sq_ne hy fj⟩ hz hTI hTO hi hj ix iy (by
     rcases he with h | h
     . exact .inl (by simp;omega)
     . exact .inr (by simp;omega)) fun h' k=>⟨rfl,Inv.turnAll (t':=s.toks) I hf fun b o hb q=>by simp only[AN,AF,or_false,not_or] at hb;exact k b o hb.1 hb.2.2.1 hb.2.2.2.1 hb.2.2.2.2 q⟩
 self:=fun _ _ _ _ _ st h=>wpAny_pyIter_zip st.1 h
def seqD(s:Sto):D->Option (List D×List (Nat×List D))
 | .ref n=>(zbi s n).map fun ds=>(ds,[(n,ds)])
 | .tup ds=>some (ds,[])
 | _=>none
def pairD(a b:List D):List D:=(a.zip b).map fun p=>.tup [p.1,p.2]
def zipW(x y:D)(s:Sto):Option (Wk×Sto):=(seqD s x).bind fun (a,f)=>(seqD s y).map fun (b,g)=>(⟨pairD a b,f++g⟩,s)
def mZip(ma mb:ME):MI:=fun U st=>(ma U st).bind fun (x,s1)=>(mb U s1).bind fun (y,s2)=>zipW x y s2
def zhA{v:V}{ds:List D}{g:List (Nat×List D)}(S:StR K H io st)(R:Rep K H io v d)(h:seqD st d=some (ds,g)):∃ x:Sr,v=.ref x.ad/\(∃ xs,x.sq H xs) /\
   ∀ H1 ka s1,Ext io ka H H1->StR K H1 (io++ka) s1->(∀ p,p∈g->s1[p.1]?=some (.lst p.2)\/s1[p.1]?=some (.fz p.2))->∃ xs,x.sq H1 xs/\Reps K H1 (io++ka) xs ds:=by
 cases d with
 | ref n =>
   obtain⟨l,e,q⟩:=zaj h;cases q;obtain⟨p,rfl,hp⟩:=R;refine⟨.l p,rfl,?_,fun H1 ka s1 X1 S1 hs=>?_⟩
   . unfold zbi at e
     split at e
     . rename_i o he;cases e;obtain⟨xs,q,_⟩:=S.ob n p _ hp he;exact⟨xs,.inl q⟩
     . rename_i o he;cases e;obtain⟨ob,xs,q,_⟩:=S.ob n p _ hp he;exact⟨xs,.inr ⟨ob,q⟩⟩
     . cases e
   . rcases hs (n,ds) Ak with q | q
     . obtain⟨xs,q',r⟩:=S1.ob n p _ (zbd hp) q;exact⟨xs,.inl q',r⟩
     obtain⟨ob,xs,q',r⟩:=S1.ob n p _ (zbd hp) q;exact⟨xs,.inr ⟨ob,q'⟩,r⟩
 | tup ts =>
   cases h;obtain⟨p,xs,rfl,hp,r⟩:=R;exact⟨.t p,rfl,⟨xs,hp⟩,fun H1 ka s1 X1 S1 _=>⟨xs,X1.sqT S p xs hp,r.ext S X1⟩⟩
 | _=>cases h
def zjz{a b:List D}(h:(pairD a b)[i]?=some d):∃ x y,a[i]?=some x/\b[i]?=some y/\d=.tup [x,y]:=by unfold pairD at h;rw[Av] at h;obtain⟨⟨x,y⟩,e,q⟩:=zaj h;rw[List.getElem?_zip_eq_some] at e;exact⟨x,y,e.1,e.2,q.symm⟩
def boot_zip:bootBuiltins "zip"=some (.type "zip"):=by decide +kernel
def zo3{x1}{tp:Pos}{a b:Expr}(hg:Gl X "zip")(hm:X.mg "zip"=none)(ha:SE X a ma)(hb:SE X b mb)(hs:starEach [a,b] X.env=[(false,eval a X.env),(false,eval b X.env)]:=by rfl)
   (hs2:starEach [b] X.env=[(false,eval b X.env)]:=by rfl) (hpl:(backTo pos<|starEach [b] X.env).any (·.1)=false:=by rfl):SI X (.Tuple elts x1 tp) (.Call (.Name "zip" p) [a,b] [] pos) (mZip ma mb):=by
 rintro pins s M H R I ⟨U,st,io,W,st',E,S,e,k⟩;obtain⟨⟨x,s1⟩,e1,e⟩:=zaf e;obtain⟨⟨y,s2⟩,e2,e⟩:=zaf e;obtain⟨⟨as,f⟩,e3,e⟩:=zaf e;obtain⟨⟨bs,g⟩,e4,e⟩:=zaj e;cases e;have hs1:starEach [a,b] X.env=(false,eval a X.env)::starEach [b] X.env:=by rw[hs,hs2]
 refine Call_<|zg3 I hg hm boot_zip<|BB (thn (zaa ha (zaa hb zag hs2) hs1 pos pins s M H (fun vs H'=>∃ ka,Ext io ka H H'/\StR X.K H' (io++ka) st'/\Reps X.K H' (io++ka) vs [x,y]) I ⟨U,st,io,[x,y],st',E,S,zeI e1<|zeI e2 rfl,fun vs H1 k1 X1 S1 R1=>⟨k1,X1,S1,R1⟩⟩) ?_) hs1 hpl;rintro us t1 ⟨vs,H1,I1,r1,k1,X1,S1,R1⟩;obtain⟨v,u,rfl,Rx,Ry⟩:=R1.two;obtain⟨v',u',rfl,rv,ru⟩:=r1.two;obtain⟨xx,rfl,⟨xs,hx⟩,kx⟩:=zhA S1 Rx e3;obtain⟨yy,rfl,⟨ys,hy⟩,ky⟩:=zhA S1 Ry e4;cases rv;cases ru;obtain⟨its,vx,ix⟩:=Sr.sq_is I1 hx;obtain⟨jts,vy,iy⟩:=Sr.sq_is I1 hy;refine zj6 ix iy fun h' hz hTI hTO hi hj kk=>wpAny_pyIter_zip hz ?_;refine⟨_,_,_,_,H1,rfl,I1.kept (t':=t1.toks) kk,zkT xx yy<|Zp.new t1.heap.objs.size,⟨hz,hTI,⟨_,_,hTO⟩,hi,hj⟩,fun b hb=>?_,?_⟩
 . have hle:t1.heap.objs.size<=b:=by
     simp only[AN,AF,or_false] at hb
     rcases hb with rfl | rfl | rfl | rfl | rfl
     . exact BR _ 4
     . exact BR _ 2
     . exact BR _ 3
     . exact Af _
     exact BR _ 1
   exact I1.fpOk hle<|I1.hok.fresh hle
 . refine k _ H1 k1 X1 S1 ?_;have st1:∀ {s3:Sto},stays ⟨pairD as bs,f++g⟩ s3->(∀ p,p∈f->s3[p.1]?=some (.lst p.2)\/s3[p.1]?=some (.fz p.2))/\∀ p,p∈g->s3[p.1]?=some (.lst p.2)\/s3[p.1]?=some (.fz p.2):=fun {s3} h=>⟨fun p hp=>h p (BN _ hp),fun p hp=>h p (AO _ hp)⟩
   have len:∀ {a b:List D},(pairD a b).length=min a.length b.length:=fun {a b}=>by unfold pairD;rw[Ag,Fd]
   refine⟨fun i d H2 k2 s3 hd X2 S2 hs=>?_,fun H2 k2 s3 X2 S2 hs=>?_,fun H2 k2 s3 i hi X2 S2 hs=>?_⟩
   . obtain⟨xs2,qx,rx⟩:=kx H2 k2 s3 X2 S2 (st1 hs).1;obtain⟨ys2,qy,ry⟩:=ky H2 k2 s3 X2 S2 (st1 hs).2;obtain⟨dx,dy,g1,g2,rfl⟩:=zjz hd;obtain⟨u1,gu,ru⟩:=rx.get g1;obtain⟨v1,gv,rv⟩:=ry.get g2;refine⟨⟨xs2,ys2,u1,v1,qx,qy,gu,gv⟩,fun r H' yl=>?_⟩;obtain⟨q,u2,v2,hq,rfl,rfl,yu,yv⟩:=yl;have e5:=yu xs2 qx;have e6:=yv ys2 qy;rw[gu] at e5;rw[gv] at e6;cases e5;cases e6;obtain⟨E',S'⟩:=zgm (o:=.tup [u1,v1]) S2 hq;rw[Ao] at S';refine⟨E',S',⟨q,_,rfl,zbg,?_⟩⟩;have r2:=ru.ext S2 E';have r3:=rv.ext S2 E';rw[Ao] at r2 r3;exact Reps.cons r2<|Reps.cons r3 Reps.nil
   . obtain⟨xs2,qx,rx⟩:=kx H2 k2 s3 X2 S2 (st1 hs).1;obtain⟨ys2,qy,ry⟩:=ky H2 k2 s3 X2 S2 (st1 hs).2;refine⟨xs2,ys2,qx,qy,?_⟩;show xs2.length<=(pairD as bs).length\/ys2.length<=(pairD as bs).length;rw[len,rx.length,ry.length];omega
   obtain⟨xs2,qx,rx⟩:=kx H2 k2 s3 X2 S2 (st1 hs).1;obtain⟨ys2,qy,ry⟩:=ky H2 k2 s3 X2 S2 (st1 hs).2;refine⟨xs2,ys2,qx,qy,?_⟩;have hi:(pairD as bs).length<=i:=hi;rw[len] at hi;rw[rx.length,ry.length];omega
def Caps(X:Cx)(fs:List Str):List Nat->List Str->Prop
 | [],[]=>True
 | j::js,x::xs=>(X.N[j]?=some x/\x∈fs)/\Caps X fs js xs
 | _,_=>False
def Outs(X:Cx):List Str->Prop
 | []=>True
 | x::xs=>(X.env.kindOf x=some .cell\/X.env.kindOf x=some .free)/\Outs X xs
def Outs.get{X:Cx}:∀ {fs:List Str} {x:Str},Outs X fs->x∈fs->X.env.kindOf x=some .cell\/X.env.kindOf x=some .free
 | [],_,_,m=>nomatch m
 | y::ys,x,h,m=>by
   rcases List.mem_cons.mp m with rfl | m
   . exact h.1
   exact Outs.get h.2 m
def Caps.get{X:Cx}{fs:List Str}:∀ {fr:List Nat} {xs:List Str} {i j:Nat} {x:Str},Caps X fs fr xs->fr[i]?=some j->xs[i]?=some x->X.N[j]?=some x/\x∈fs
 | [],[],i,j,x,_,h,_=>by simp at h
 | [],_::_,i,j,x,h,_,_=>h.elim
 | _::_,[],i,j,x,h,_,_=>h.elim
 | k::ks,y::ys,0,j,x,h,h1,h2=>by simp at h1 h2;subst h1 h2;exact h.1
 | k::ks,y::ys,i+1,j,x,h,h1,h2=>Caps.get (i:=i) h.2 (by simpa using h1)<|by simpa using h2
def zbt{scope:Scope}{N':List Str}{nt:Nat}{fr:List Nat}(fs:List Str)(kind:scope.kind=.function)(nd:(scope.names.map (·.1)).Nodup)(hf:scope.names.all (fun p=>!(p.2==AD) || fs.contains p.1)=true)
   (hb:fs.all (fun x=>scope.names.contains (x,AD))=true) (len:N'.length=nt+fr.length) (cap:Caps X fs fr (N'.drop nt)) (out:Outs X fs):CompS X scope N' nt fr:=by
 refine⟨kind,nd,len,fun i j x h1 h2=>?_,fun x hx=>?_⟩
 . have h2':(N'.drop nt)[i]?=some x:=by rw[List.getElem?_drop];exact h2
   obtain⟨a,b⟩:=cap.get h1 h2';refine⟨a,?_⟩;have:=List.all_eq_true.mp hb x b;simpa using this
 . have:=List.all_eq_true.mp hf _ hx;have hm:x∈fs:=by simpa using this
   exact out.get hm
def zdE:bootBuiltins "len"=some (.builtin "len"):=by decide +kernel
def zqo:bootBuiltins "min"=some (.builtin "min"):=by decide +kernel
def zeO:bootBuiltins "sorted"=some (.builtin "sorted"):=by decide +kernel
def zqp:bootBuiltins "all"=some (.builtin "all"):=by decide +kernel
def zop:bootBuiltins "int"=some (.type "int"):=by decide +kernel
def zoq:bootBuiltins "bool"=some (.type "bool"):=by decide +kernel
def zqn:bootBuiltins "str"=some (.type "str"):=by decide +kernel
def zoo:bootBuiltins "list"=some (.type "list"):=by decide +kernel
def zcv:bootBuiltins "tuple"=some (.type "tuple"):=by decide +kernel
def ziM:bootBuiltins "dict"=some (.type "dict"):=by decide +kernel
def mulA:G2:=orG mulD zoF
def zb3:OpM X (binaryOp .Mult) mulA:=zhV znH zlG
def zkD{K:Ab}{H:Hp}{io:List Addr}:∀ (ns:List Int),Reps K H io (ns.map V.int) (ns.map D.int)
 | []=>rfl
 | n::ns=>⟨_,_,rfl,rfl,zkD ns⟩
def zk4{ns:List Int}{g:GN}{E:XK}(hO:Only H)(hS:SqL K H a (ns.map V.int))(e:g [.kl (ns.map D.int)] []=some (.bl true,st)):spM K 1 g [.ref a] H (fun v _=>v=.bl true) E:=by
 have hF:SqF K H a (ns.map V.int):=by
   rcases hS with (h | h) | h
   . rcases hO a with z | ⟨o,xs,z⟩
     . rw[z] at h;cases h
     rw[z] at h;cases h
   . exact .inl h
   exact .inr h
 refine⟨_,[],[],_,_,rfl,Reps.cons (show Rep K H [] (.ref a) (.kl<|ns.map D.int) from ⟨a,_,rfl,hF,zkD ns⟩) Reps.nil,⟨rfl,Fj,fun n b o h=>by simp at h⟩,e,fun v H' ka E' S' R'=>R'⟩
end L2.MP
namespace L2.MP
structure Y3(a b c:Prop):Prop where
 h1:a
 h2:b
 h3:c
structure Y4(a b c d:Prop):Prop where
 h1:a
 h2:b
 h3:c
 h4:d
structure Y5(a b c d e:Prop):Prop where
 h1:a
 h2:b
 h3:c
 h4:d
 h5:e
structure Y6(a b c d e f:Prop):Prop where
 h1:a
 h2:b
 h3:c
 h4:d
 h5:e
 h6:f
structure Y7(a b c d e f g:Prop):Prop where
 h1:a
 h2:b
 h3:c
 h4:d
 h5:e
 h6:f
 h7:g
structure Y8(a b c d e f g h:Prop):Prop where
 h1:a
 h2:b
 h3:c
 h4:d
 h5:e
 h6:f
 h7:g
 h8:h
open PySem
structure Gr(st st':Sto):Prop where
 len:st.length<=st'.length
 old:∀ k,k < st.length->st'[k]?=st[k]?
structure Fr(n:Nat)(st st':Sto):Prop where
 len:st.length<=st'.length
 old:∀ k,k < st.length->k≠n->st'[k]?=st[k]?
def Gr.refl(st:Sto):Gr st st:=⟨Af _,fun _ _=>rfl⟩
def Fr.refl(n:Nat)(st:Sto):Fr n st st:=⟨Af _,fun _ _ _=>rfl⟩
def Gr.fr{st st':Sto}(h:Gr st st')(n:Nat):Fr n st st':=⟨h.len,fun k hk _=>h.old k hk⟩
variable {a b c:Sto}
def Gr.trans{a b c:Sto}(h:Gr a b)(h':Gr b c):Gr a c:=⟨AC h.len h'.len,fun k hk=>(h'.old k<|Az hk h.len).trans (h.old k hk)⟩
variable {n:Nat}
def Fr.trans{n:Nat}{a b c:Sto}(h:Fr n a b)(h':Fr n b c):Fr n a c:=⟨AC h.len h'.len,fun k hk nk=>(h'.old k (Az hk h.len) nk).trans (h.old k hk nk)⟩
def Gr.app(st:Sto)(l:List O):Gr st (st++l):=⟨by simp,fun k hk=>Ap hk⟩
def Fr.app(n:Nat)(st:Sto)(l:List O):Fr n st (st++l):=(Gr.app st l).fr n
def Fe(n:Nat)(st:Sto)(o:O):Fr n st (st.set n o):=⟨by simp,fun k _ hk=>by rw[AA (fun h=>hk h.symm)]⟩
variable {α:Type}
def getElem?_lt{l:List α}{x:α}(h:l[n]?=some x):n < l.length:=(List.getElem?_eq_some_iff.mp h).1
def zau(st:Sto)(o:O):(st++[o])[st.length]?=some o:=getElem?_len st o
variable {W:Wk}{g:MG}
def zbm{W:Wk}{g:MG}{m:MS}:∀ {ds:List D} {Inv:Nat->Rho->Sto->Prop} {U:Rho} {st:Sto},Inv 0 U st->(∀ k U s,k<=ds.length->Inv k U s->walked W s=true) ->
   (∀ k d U s,ds[k]?=some d->Inv k U s->∃ U1 s1 U2 s2,g d U s=some (U1,s1)/\m U1 s1=some (.nx U2,s2)/\Inv (k+1) U2 s2)->∃ U' s',zh9 W g m ds U st=some (.nx U',s')/\Inv ds.length U' s'
 | [],Inv,U,st,h0,wk,step=>⟨U,st,by unfold zh9;rw[if_pos (wk 0 U st (Af _) h0)],h0⟩
 | d::ds,Inv,U,st,h0,wk,step=>by obtain⟨U1,s1,U2,s2,e1,e2,h1⟩:=step 0 d U st rfl h0;obtain⟨U',s',e,h⟩:=zbm (W:=W) (g:=g) (m:=m) (ds:=ds) (Inv:=fun k=>Inv (k+1)) h1 (fun k U s hk h=>wk (k+1) U s (CB hk) h) fun k d U s hd h=>step (k+1) d U s (by simpa using hd) h;refine⟨U',s',?_,h⟩;unfold zh9;rw[if_pos (wk 0 U st (A3 _) h0),e1];simp only[Ae,e2];exact e
variable {m:ME}
def zmt{W:Wk}{g:MG}{c:MT}{m:ME}:∀ {ds:List D} {Inv:Nat->List D->Rho->Sto->Prop} {acc:List D} {U:Rho} {st:Sto},Inv 0 acc U st->(∀ k a U s,k<=ds.length->Inv k a U s->walked W s=true) ->
   (∀ k d a U s,ds[k]?=some d->Inv k a U s->∃ U1 s1 b s2,g d U s=some (U1,s1)/\c U1 s1=some (b,s2)/\((b=true/\∃ x s3,m U1 s2=some (x,s3)/\Inv (k+1) (a++[x]) U1 s3)\/(b=false/\Inv (k+1) a U1 s2))) ->
   ∃ xs U' s',mCI W g c m ds U st=some (xs,s')/\Inv ds.length (acc++xs) U' s'
 | [],Inv,acc,U,st,h0,wk,step=>⟨[],U,st,by unfold mCI;rw[if_pos (wk 0 acc U st (Af _) h0)],by rw[Ao];exact h0⟩
 | d::ds,Inv,acc,U,st,h0,wk,step=>by
   obtain⟨U1,s1,b,s2,e1,e2,h1⟩:=step 0 d acc U st rfl h0;have wk':∀ k a U s,k<=ds.length->Inv (k+1) a U s->walked W s=true:=fun k a U s hk h=>wk (k+1) a U s (CB hk) h;have st':∀ k d a U s,ds[k]?=some d->Inv (k+1) a U s->∃ U1 s1 b s2,g d U s=some (U1,s1)/\c U1 s1=some (b,s2)/\((b=true/\∃ x s3,m U1 s2=some (x,s3)/\Inv (k+1+1) (a++[x]) U1 s3)\/(b=false/\Inv (k+1+1) a U1 s2)):=fun k d a U s hd h=>step (k+1) d a U s (by simpa using hd) h
   rcases h1 with ⟨rfl,x,s3,e3,h1⟩ | ⟨rfl,h1⟩
   . obtain⟨xs,U',s',e,h⟩:=zmt (W:=W) (g:=g) (c:=c) (m:=m) (ds:=ds) (Inv:=fun k=>Inv (k+1)) h1 wk' st';refine⟨x::xs,U',s',?_,by simpa using h⟩;unfold mCI;rw[if_pos (wk 0 acc U st (A3 _) h0),e1];simp only[Ae,e2,if_true,e3,e,A1]
   obtain⟨xs,U',s',e,h⟩:=zmt (W:=W) (g:=g) (c:=c) (m:=m) (ds:=ds) (Inv:=fun k=>Inv (k+1)) h1 wk' st';refine⟨xs,U',s',?_,h⟩;unfold mCI;rw[if_pos (wk 0 acc U st (A3 _) h0),e1];simp only[Ae,e2,A8,if_false,e]
def zg7{W:Wk}{g:MG}{c:MT}{m:ME}{α:Type}{f h:α->D}{R:Rho->Prop}:∀ {as:List α} {U:Rho} {st:Sto},R U->walked W st=true->(∀ a∈as,∀ U,R U->∃ U1,g (f a) U st=some (U1,st)/\c U1 st=some (true,st)/\m U1 st=some (h a,st)/\R U1) ->
   mCI W g c m (as.map f) U st=some (as.map h,st)
 | [],U,st,r,wk,_=>by unfold mCI;rw[BD];simp only[wk,if_true,BD]
 | a::as,U,st,r,wk,hs=>by obtain⟨U1,e1,e2,e3,r1⟩:=hs a Ak U r;have e:=zg7 (W:=W) (g:=g) (c:=c) (m:=m) (f:=f) (h:=h) (R:=R) (as:=as) r1 wk fun b hb=>hs b<|Aj _ hb;rw[Aw];unfold mCI;rw[if_pos wk,e1];simp only[Ae,e2,if_true,e3,e,A1,Aw]
def zbG{ds xs:List D}{s:Sto}(h:s[n]?=some (.lst xs)):walked ⟨ds,[(n,xs)]⟩ s=true:=by unfold walked;simp only[Ec,List.all_nil,Fq];exact zim h
def zar(h:n<=10000):fits n=true:=by unfold fits;exact decide_eq_true<|AC h<|by decide
@[simp] theorem zdQ(x:α)(y:Option α):orO (some x) y=some x:=rfl
@[simp] theorem zeu(y:Option α):orO none y=y:=rfl
end L2.MP
namespace L2.MP.Hn
open PySem L2.MP
end L2.MP.Hn
namespace L2.MP
open PySem
variable {n:Nat}{ds:List D}{mi:MI}{k:Int}{s:Sto}{x:D}
section
variable {U U1:Rho} {st s1:Sto} {m n ma mb:ME} {mm:MA} {ms mq:MS} {mt mu:MT} {g:G2} {gn:GN} {d:D} {i j:Nat} {mg:MG} {mgs:MGs} {ml mh:MO}
@[simp] theorem zfm:mVar i U st=match U[i]? with
 | some (some d)=>some (d,st)
 | _=>none:=rfl
@[simp] theorem zkh:mCon d U st=some (d,st):=rfl
@[simp] theorem zfn:mBin g ma mb U st=(ma U st).bind fun p=>(mb U p.2).bind fun q=>g p.1 q.1 q.2:=rfl
@[simp] theorem zov:mTst m U st=(m U st).bind fun p=>match p.1 with
 | .bl b=>some (b,p.2)
 | _=>none:=rfl
@[simp] theorem zoy:zkw mt U st=(mt U st).map fun p=>(!p.1,p.2):=rfl
@[simp] theorem zqT:zl2 mt mu U st=(mt U st).bind fun p=>if p.1=true then mu U p.2 else some (false,p.2):=rfl
@[simp] theorem zox:mOrT mt mu U st=(mt U st).bind fun p=>if p.1=true then some (true,p.2) else mu U p.2:=rfl
@[simp] theorem zqS:zjL m n U st=(mTst m U st).bind fun p=>if p.1=true then n U p.2 else some (.bl false,p.2):=rfl
@[simp] theorem zqQ:zoG m U st=(mTst m U st).map fun p=>(.bl !p.1,p.2):=rfl
@[simp] theorem zkM:zas gn mm U st=(mm U st).bind fun p=>gn p.1 p.2:=rfl
@[simp] theorem zgM:zac m mm U st=(m U st).bind fun p=>(mm U p.2).bind fun q=>some (p.1::q.1,q.2):=rfl
@[simp] theorem zmy:mNil U st=some ([],st):=rfl
@[simp] theorem zrU:mTup mm U st=(mm U st).bind fun p=>if fits p.1.length=true then some (.tup p.1,p.2) else none:=rfl
@[simp] theorem zoz:mLst mm U st=(mm U st).bind fun p=>if fits p.1.length=true then some (.ref p.2.length,p.2++[.lst p.1]) else none:=rfl
@[simp] theorem zqt:mRet m U st=(m U st).map fun p=>(.rt p.1,p.2):=rfl
@[simp] theorem zr0:mExp m U st=(m U st).map fun p=>(.nx U,p.2):=rfl
@[simp] theorem zdW:mAsg m mg U st=(m U st).bind fun p=>(mg p.1 U p.2).map fun q=>(.nx q.1,q.2):=rfl
@[simp] theorem zsm:gNm i d U st=some (U.set i (some d),st):=rfl
@[simp] theorem zow:zdR U st=some (.nx U,st):=rfl
@[simp] theorem zrX:mNeg m U st=(m U st).bind fun p=>negD p.1 p.2:=rfl
@[simp] theorem zmI:mIf mt ms mq U st=(mt U st).bind fun p=>if p.1=true then ms U p.2 else mq U p.2:=rfl
@[simp] theorem zkg:putA ma mb m U st=orO (mAsg m (gSb setD ma mb) U st) (zl1 ma mb m U st):=rfl
@[simp] theorem zsj{g3:G3}:gSb g3 ma mb d U st=(ma U st).bind fun p=>(mb U p.2).bind fun q=>(g3 p.1 q.1 d q.2).map fun s=>(U,s):=rfl
@[simp] theorem zsi:gTp i mgs d U st=match d with
 | .tup ds=>if ds.length=i then mgs ds U st else none
 | _=>none:=rfl
@[simp] theorem zrZ:gN0 [] U st=some (U,st):=rfl
@[simp] theorem zsn:gC mg mgs (d::ds) U st=(mg d U st).bind fun p=>mgs ds p.1 p.2:=rfl
@[simp] theorem zqP:mR1 m U st=(m U st).bind fun p=>match p.1 with
 | .int j=>if small j=true then some (⟨run 0 j.toNat,[]⟩,p.2) else none
 | _=>none:=rfl
@[simp] theorem zqO:zbV U st=some (true,st):=rfl
theorem zaJ{k:Nat}{fr:List Nat}:zcH mi k fr mg mt m U st=(mi U st).bind fun p=>(mCI p.1 mg mt m p.1.ds (rho0 U k fr) p.2).bind fun q=>if fits q.1.length=true then some (.ref q.2.length,q.2++[.lst q.1]) else none:=rfl
@[simp] theorem zcw:mFor mi mg ms U st=(mi U st).bind fun p=>zh9 p.1 mg ms p.1.ds U p.2:=rfl
@[simp] theorem zsl:zeF U st=some (none,st):=rfl
@[simp] theorem zsk:zeE m U st=(m U st).bind fun p=>match p.1 with
 | .int i=>some (some i,p.2)
 | _=>none:=rfl
@[simp] theorem zrY{T:String}:mIsi T m U st=(m U st).bind fun p=>(tyName p.2 p.1).map fun t=>(.bl (subT t T),p.2):=rfl
@[simp] theorem zr1:mApp m mm U st=(m U st).bind fun p=>match p.1 with
 | .ref n=>(zbi p.2 n).bind fun _=>(mm U p.2).bind fun q=>zbM p.1 q.1 q.2
 | _=>none:=rfl
@[simp] theorem zrW:mPar i j mm U st=(mm U st).bind fun p=>match p.1 with
 | [x,y]=>some (.nx ((U.set i<|some x).set j<|some y),p.2)
 | _=>none:=rfl
@[simp] theorem zqr:mZip ma mb U st=(ma U st).bind fun p=>(mb U p.2).bind fun q=>zipW p.1 q.1 q.2:=rfl
@[simp] theorem zqu:zhf true U st=some (.ref st.length,st++[.dt []]):=rfl
@[simp] theorem zqv:zhf false U st=some (.ref st.length,st++[.dk []]):=rfl
def zam{r:Option (Fl×Sto)}(h:ms U st=some (.nx U1,s1))(k:mq U1 s1=r):mSeq ms mq U st=r:=by unfold mSeq;rw[h];exact k
def zgZ(h:ms U st=some (.rt d,s)):mSeq ms mq U st=some (.rt d,s):=by unfold mSeq;rw[h];rfl
def zbX{N:Nat}(h:ms (rho N ds) st=some (.rt d,s)):fnM N ms ds st=some (d,s):=by unfold fnM;rw[h];rfl
def zbY{k:Nat}(h:k<=10000:=by decide):fits k=true:=zar h
@[simp] theorem zsa:fits 0=true:=zbY
@[simp] theorem zr9:fits 1=true:=zbY
@[simp] theorem zr8:fits 2=true:=zbY
@[simp] theorem zr7:fits 3=true:=zbY
@[simp] theorem zr6:fits 4=true:=zbY
@[simp] theorem zr5:fits 5=true:=zbY
@[simp] theorem zr4:fits 6=true:=zbY
@[simp] theorem zr3:fits 7=true:=zbY
@[simp] theorem zr2:fits 8=true:=zbY
def zch(h0:0<=k)(h1:k<=1000000):small k=true:=by unfold small;simp;omega
def zbW{n:Nat}(h:st[n]?=some (.lst ds))(h0:0<=k)(hx:ds[k.toNat]?=some x):ixA (.ref n) (.int k) st=some (x,st):=by
 have hl:=getElem?_lt hx;have h1:k < ds.length:=by omega
 simp[ixA,orG,idxD,zbi,h,atI,ixN,h0,h1,zdQ];exact (List.getElem?_eq_some_iff.mp hx).2
def zaN(h0:0<=k)(hx:ds[k.toNat]?=some x):ixA (.tup ds) (.int k) st=some (x,st):=by
 have hl:=getElem?_lt hx;have h1:k < ds.length:=by omega
 simp[ixA,orG,idxD,atI,ixN,h0,h1,zdQ];exact (List.getElem?_eq_some_iff.mp hx).2
def zrA(h0:0<=k)(hx:ds[k.toNat]?=some x):ixA (.kl ds) (.int k) st=some (x,st):=by
 have hl:=getElem?_lt hx;have h1:k < ds.length:=by omega
 simp[ixA,orG,idxD,atI,ixN,h0,h1,zdQ];exact (List.getElem?_eq_some_iff.mp hx).2
def zii{z:Str}{c:Nat}(hz:z.length<=10000)(h0:0<=k)(hx:z.cps[k.toNat]?=some c):ixA (.str z) (.int k) st=some (.str ⟨#[c]⟩,st):=by
 have hl:k.toNat < z.cps.size:=(Array.getElem?_eq_some_iff.mp hx).1;have h1:k < z.cps.size:=by omega
 have hf:fits z.length=true:=zar hz;simp[ixA,orG,idxD,atI,ixN,h0,h1,zdQ,hf];exact (Array.getElem?_eq_some_iff.mp hx).2
def zid{n:Nat}(h:st[n]?=some (.lst ds)):lenD [.ref n] st=some (.int ds.length,st):=by simp[lenD,zbi,h]
theorem zda:lenD [.tup ds] st=some (.int ds.length,st):=rfl
theorem zl5:lenD [.kl ds] st=some (.int ds.length,st):=rfl
def zcg{n:Nat}(h:st[n]?=some (.lst ds)):zef [.ref n] st=some (.tup ds,st):=by simp[zef,zbi,h]
@[simp] theorem add_int(a b:Int):addD (.int a) (.int b) st=some (.int (a+b),st):=rfl
@[simp] theorem sub_int(a b:Int):subD (.int a) (.int b) st=some (.int (a - b),st):=rfl
def mul_int{a b:Int}(h:-1000000<=a/\a<=1000000):mulA (.int a) (.int b) st=some (.int (a*b),st):=by
 have:in64 a=true:=by unfold in64;simp;omega
 simp[mulA,orG,mulD,intD,this,zdQ]
def ziU{a b:List D}(ha:a≠[])(h:a.length+b.length<=10000):addD (.tup a) (.tup b) st=some (.tup (a++b),st):=by
 have:fits (a.length+b.length)=true:=zar h
 cases a with
 | nil=>exact absurd rfl ha
 | cons x a=>simp[addD,this] at *
def ziV{a b:Nat}{x y:List D}(ha:st[a]?=some (.lst x))(hb:st[b]?=some (.lst y))(h:x.length+y.length<=10000):addD (.ref a) (.ref b) st=some (.ref st.length,st++[.lst (x++y)]):=by have:fits (x.length+y.length)=true:=zar h;simp[addD,ha,hb,this]
def append_at{n:Nat}(h:st[n]?=some (.lst ds))(hl:ds.length<=10000):zbM (.ref n) [x] st=some (.non,st.set n (.lst<|ds++[x])):=by have:ds.length < sizeLine:=BZ hl (by decide);simp[zbM,h,this]
end
end L2.MP
set_option linter.unusedSimpArgs false
namespace L2.MP.Hn
open PySem L2.MP
end L2.MP.Hn
namespace L2.MP
open PySem PySem.Builtin PySem.Builtin.Str
theorem len_list(a:Str):a.length=a.cps.toList.length:=rfl
end L2.MP
namespace L2.MP
open PySem
def zf4{n:Nat}{st:Sto}{x:Str}(h:AU x=true):toP (n+1) st (.str x)=some (.str x):=by rw[toP];simp[h]
def eq_int(a b:Int)(st:Sto):eqD (.int a) (.int b) st=some (.bl (a==b),st):=by unfold eqD;rw[toP,toP];simp[CN]
end L2.MP
namespace L2.MP.Hn
open PySem L2.MP
noncomputable abbrev zaD:Str:="abcdefghijklmnopqrstuvwxyz"
def zcI:∀ k:Nat,k < 26->zaD.cps[k]?=some (97+k):=by decide +kernel
end L2.MP.Hn
namespace L2.MP
open PySem
def zbq(p:Str×Int):D:=.tup [.str p.1,.int p.2]
def zbr(k:List Str):D:=.tup<|k.map D.str
end L2.MP
namespace L2.MP.Hn
open PySem L2.MP
def zej{st:Sto}{l:Nat}{ss:List Str}(hl:st[l]?=some (.lst<|ss.map D.str))(h:ss.length < 64):zbZ [.ref l] st=some (.ref st.length,st++[.lst ((zc6 ss).map D.str)]):=by simp[zbZ,orN,zco,zbi,hl,zhs,h,zdQ]
end L2.MP.Hn
namespace L2.MP
open PySem
def zfd:∀ t:List Int,intsOf (t.map D.int)=some t
 | []=>rfl
 | x::t=>by rw[Aw,intsOf,zfd t];rfl
def zdt:∀ {rows:List (List Int)},(∀ r∈rows,r≠[])->rowsOf (rows.map tupD)=some rows
 | [],_=>rfl
 | r::rows,h=>by
   have hr:rowOf (tupD r)=some r:=by
     unfold rowOf tupD;simp only[zfd,Ae];have:r.isEmpty=false:=by
       cases r with
       | nil=>exact absurd rfl<|h [] Ak
       | cons a b=>rfl
     simp[this]
   rw[Aw,rowsOf,hr,Ae,zdt fun q hq=>h q (Aj _ hq)];rfl
variable {st:Sto}
def zhv{l:Nat}{rows:List (List Int)}(hl:st[l]?=some (.lst<|rows.map tupD))(h:∀ r∈rows,r≠[])(h64:rows.length < 64):zbZ [.ref l] st=some (.ref st.length,st++[.lst ((zhw rows).map tupD)]):=by
 match rows,hl,h,h64 with
 | [],hl,h,h64=>simp[zbZ,orN,zco,zbi,hl,strsOf,zc6,zhw,zdQ]
 | [r],hl,h,h64 =>
   have e:strsOf [tupD r]=none:=rfl;simp[zbZ,orN,zco,zdr,zbi,hl,e,zhw,zdQ,zeu]
 | r::q::rows,hl,h,h64 =>
   have e:strsOf (tupD r::tupD q::rows.map tupD)=none:=rfl;have e2:=zdt h;simp only[Aw] at e2;simp at h64;have h2:rows.length+1+1 < 64:=by omega
   simp[zbZ,orN,zco,zdr,zel,zbi,hl,e,e2,zdQ,zeu,h2]
def zeU(rows:List (List Int)):(zhw rows).Perm rows:=Cb _ _
noncomputable abbrev Tl:=Int×Int×Int
def kvOf(t:Tl):List Key×D:=([Ca t.1,Ca t.2.1],.int t.2.2)
def rowT(t:Tl):List Int:=[t.1,t.2.1,t.2.2]
def zbh(a b:Tl):Bool:=decide (a.1=b.1)&&decide (a.2.1=b.2.1)
def putT(l:List Tl)(t:Tl):List Tl:=if l.any (fun u=>zbh u t)=true then l.map (fun u=>if zbh u t=true then t else u) else l++[t]
def zig(u t:Tl):decide ((kvOf u).1=(kvOf t).1)=zbh u t:=by
 unfold kvOf zbh
 by_cases h1:u.1=t.1 <;> by_cases h2:u.2.1=t.2.1 <;> simp[h1,h2]
def zkp(l:List Tl)(t:Tl):putD (l.map kvOf) (kvOf t).1 (kvOf t).2=(putT l t).map kvOf:=by
 unfold putD putT;have e:((l.map kvOf).any fun kv=>decide (kv.1=(kvOf t).1))=l.any fun u=>zbh u t:=by
   rw[List.any_map]
   congr 1
   funext u
   exact zig u t
 rw[e]
 split
 . rw[A6,A6];apply C1;intro u _;show (if (kvOf u).1=(kvOf t).1 then _ else _)=kvOf (if zbh u t=true then t else u)
   by_cases h:zbh u t=true
   . have h':(kvOf u).1=(kvOf t).1:=of_decide_eq_true<|(zig u t).trans h;rw[if_pos h',if_pos h,h']
   have h':¬ (kvOf u).1=(kvOf t).1:=fun z=>h<|(zig u t).symm.trans<|decide_eq_true z;rw[if_neg h',if_neg h]
 rw[Bn];rfl
def PlNd(l:List Tl):Prop:=l.Pairwise fun a b=>zbh a b=false
def zdZ(a b:Tl):zbh a b=zbh b a:=by
 unfold zbh
 by_cases h1:a.1=b.1 <;> by_cases h2:a.2.1=b.2.1 <;> simp[h1,h2,eq_comm]
variable {l:List Tl}{t:Tl}
def znn(h:PlNd l):PlNd (putT l t):=by
 unfold putT
 split
 . unfold PlNd at *;rw[List.pairwise_map];refine h.imp fun {a b} hab=>?_;have eqp:∀ {a b c:Tl},zbh a b=true->zbh a c=zbh b c:=fun {a b c} q=>by
     unfold zbh at *;simp at q;rw[q.1,q.2]
   by_cases ha:zbh a t=true
   . by_cases hb:zbh b t=true
     . have h1:zbh a b=zbh t b:=eqp ha;rw[zdZ] at hb;rw[h1,hb] at hab;cases hab
     rw[if_pos ha,if_neg hb,zdZ];simpa using hb
   . by_cases hb:zbh b t=true
     . rw[if_neg ha,if_pos hb];simpa using ha
     rw[if_neg ha,if_neg hb];exact hab
 . rename_i hn;unfold PlNd at *;rw[List.pairwise_append];refine⟨h,List.pairwise_singleton _ _,fun a ha b hb=>?_⟩;rw[List.mem_singleton.mp hb]
   cases e:zbh a t with
   | false=>rfl
   | true=>exact absurd (List.any_eq_true.mpr ⟨a,ha,e⟩) hn
def zlq{P:Tl->Prop}{l:List Tl}{t:Tl}(h:∀ u∈l,P u)(ht:P t):∀ u∈putT l t,P u:=by
 unfold putT
 split
 . intro u hu;obtain⟨v,hv,rfl⟩:=List.mem_map.mp hu
   split
   . exact ht
   exact h v hv
 . intro u hu
   rcases List.mem_append.mp hu with hu | hu
   . exact h u hu
   rw[List.mem_singleton.mp hu];exact ht
def zhM(l:List Tl)(t:Tl):(putT l t).length<=l.length+1:=by
 unfold putT
 split
 . rw[Ag];omega
 simp
def zgB{t:Nat}{x y k:Int}(h:st[t]?=some (.dt<|l.map kvOf))(hl:l.length<=1000):dput st t (.tup [.int x,.int y]) (.int k)=some (st.set t<|.dt<|(putT l (x,y,k)).map kvOf):=by have h1:(l.map kvOf).length < sizeLine:=BZ (by rw[Ag];exact hl) (by decide);have e:=zkp l (x,y,k);have e1:keysOf [.int x,.int y]=some (kvOf (x,y,k)).1:=rfl;have e2:D.int k=(kvOf (x,y,k)).2:=rfl;unfold dput;simp only[h,e1,Ae];rw[e2,e,if_pos (decide_eq_true h1)]
end L2.MP
namespace L2.MP.Hn
open PySem L2.MP
def za3(ts:List Tl):D:=.tup<|ts.map fun t=>tupD (rowT t)
def zqq(r:List Int):Tl:=(r.getD 0 0,r.getD 1 0,r.getD 2 0)
def srtT(l:List Tl):List Tl:=(zhw<|l.map rowT).map zqq
def za9(l:List Tl):(srtT l).Perm l:=by
 have:=(zeU<|l.map rowT).map zqq;rw[A6] at this;have e:zqq ∘ rowT=id:=by funext t;rfl
 rw[e,List.map_id] at this;exact this
def zbS(l:List Tl):(srtT l).map rowT=zhw (l.map rowT):=by
 unfold srtT;rw[A6]
 conv=>rhs;rw[<-List.map_id (zhw<|l.map rowT)]
 apply C1;intro r hr;obtain⟨t,_,rfl⟩:=List.mem_map.mp<|(zeU _).mem_iff.mp hr;rfl
def zaF{st:Sto}{l:Nat}{ts:List Tl}(hl:st[l]?=some (.lst<|ts.map fun t=>tupD (rowT t)))(h64:ts.length < 64):zbZ [.ref l] st=some (.ref st.length,st++[.lst ((srtT ts).map fun t=>tupD (rowT t))]):=by
 have hl':st[l]?=some (.lst<|(ts.map rowT).map tupD):=by rw[A6];exact hl
 have e:=zhv hl' (fun r hr=>by obtain⟨t,_,rfl⟩:=List.mem_map.mp hr;simp[rowT]) (by rw[Ag];exact h64);rw[<-zbS,A6] at e;exact e
end L2.MP.Hn
namespace L2.MP
open PySem PySem.Spec PyProof.Rows
end L2.MP
namespace L2.MP
open PySem
def zgF{W:Wk}{g:MG}{c:MT}{m:ME}{α:Type}{f h:α->D}{p:α->Bool}{R:Rho->Prop}:∀ {as:List α} {U:Rho} {st:Sto},R U->walked W st=true->(∀ a∈as,∀ U,R U->∃ U1,g (f a) U st=some (U1,st)/\c U1 st=some (p a,st)/\(p a=true->m U1 st=some (h a,st))/\R U1) ->
   mCI W g c m (as.map f) U st=some ((as.filter p).map h,st)
 | [],U,st,r,wk,_=>by unfold mCI;rw[BD];simp only[wk,if_true,Ff,BD]
 | a::as,U,st,r,wk,hs=>by
   obtain⟨U1,e1,e2,e3,r1⟩:=hs a Ak U r;have e:=zgF (W:=W) (g:=g) (c:=c) (m:=m) (f:=f) (h:=h) (p:=p) (R:=R) (as:=as) r1 wk fun b hb=>hs b<|Aj _ hb;rw[Aw];unfold mCI;rw[if_pos wk,e1]
   cases hp:p a with
   | true =>
     rw[hp] at e2;simp only[Ae,e2,if_true,e3 hp,e,A1,Dv,hp,Aw]
   | false =>
     rw[hp] at e2;simp only[Ae,e2,A8,if_false,e,Dv,hp]
end L2.MP
namespace L2.MP.Hn
open PySem L2.MP
end L2.MP.Hn
namespace L2.MP
open PySem PySem.Spec PyProof.Rows
def zix(x:Sr)(o:Obj)(xs:Array Value):Meets (Builtin.«enumerate.__new__» ⟨[.type "enumerate",.ref x.ad],[]⟩) (fun _ R s=>s.heap.get? x.ad=some o/\x.is s.heap xs /\
     R (.ok<|.ret<|.ref (s.heap.push x.ob).objs.size) { s with heap:=(s.heap.push x.ob).push { cls:=.type "enumerate",data:=.fields #[.none,.bool false,.ref s.heap.objs.size,rawInt 0,.none,.none] } }) :=
 .of_wp fun prog w A R s h=>by
   obtain⟨hp,g,d,tk,os⟩:=s;obtain⟨h1,h2,h⟩:=h;have hsub:=sub_enumerate;have hx:x.is (Shared.heap ⟨hp,g,d,tk,os⟩) xs:=h2
   wp_walk using BS h1
   refine wpAny_stack_any fun sk=>Ac ?_
   split
   . rename_i c _ _ _ _ _
     cases (c==Value.type "enumerate")
     . wp_walk using BS h1,Sr.iter hx
       exact⟨_,rfl,h⟩
     . wp_walk using BS h1,Sr.iter hx
       exact⟨_,rfl,h⟩
   . wp_walk using BS h1,Sr.iter hx
     exact⟨_,rfl,h⟩
variable {prog:Program}{w:World}{A:Around}{E:Value->Shared->Prop}{s:Shared}{h:Heap}{xs:Array Value}{x:Sr}
def Sr.is_get(q:x.is h xs):∃ o,h.get? x.ad=some o:=by
 cases x with
 | l a=>obtain⟨o,g,_⟩:=q;exact⟨o,g⟩
 | t a=>obtain⟨o,g,_⟩:=q;exact⟨o,g⟩
def ziK{R:Value->Shared->Prop}(hx:x.is s.heap xs)(k:∀ h',IsEnum h' (s.heap.objs.size+1) s.heap.objs.size 0 .none->x.at_ h' s.heap.objs.size 0->(∀ c u,s.heap.get? c=some u->h'.get? c=some u)->R (.ref<|s.heap.objs.size+1) { s with heap:=h' }) :
   wpAny (model prog w) A (call (.type "enumerate") [.ref x.ad]) R E s:=by
 obtain⟨o,g⟩:=Sr.is_get hx;refine callType_new F.called_enumerate (by decide) (F.typeCall_enumerate_1 _) (F.newCall_enumerate_1 _) (fun obj=>F.args_object_init_2 obj _) F.entry_enumerate_new (zix x o xs) ⟨g,hx,?_⟩;have z1:(s.heap.push x.ob).objs.size=s.heap.objs.size+1:=Bm ..;have f2:((s.heap.push x.ob).push { cls:=.type "enumerate",data:=.fields #[.none,.bool false,.ref s.heap.objs.size,rawInt 0,.none,.none] }).get? (s.heap.push x.ob).objs.size=some { cls:=.type "enumerate",data:=.fields #[.none,.bool false,.ref s.heap.objs.size,rawInt 0,.none,.none] }:=Am _ rfl;have f1:((s.heap.push x.ob).push { cls:=.type "enumerate",data:=.fields #[.none,.bool false,.ref s.heap.objs.size,rawInt 0,.none,.none] }).get? s.heap.objs.size=some x.ob:=Ad _<|Am _ (by cases x <;> rfl);show _/\_;rw[z1] at f2 ⊢;exact⟨⟨_,f2,rfl⟩,k _ f2 (Sr.at_new f1) fun c u q=>Ad _ (Ad _ q)⟩
def Sr.draws(hh:A.handled=none)(it:Addr)(x:Sr)(hne:x.ad≠it)(items:Array Value):Draws prog w A it [it,x.ad] items.size (fun i v=>items[i]?=some v) (fun i h=>x.at_ h it i/\x.is h items) where
 live:=fun _ _ q=>let ⟨o,_,g,_⟩:=Sr.at_get q.1;⟨o,g⟩
 frame:=fun _ _ _ q k=>⟨Sr.at_keep q.1 fun o e=>k it (by simp) o e,Sr.is_keep q.2 fun o e=>k x.ad (by simp) o e⟩
 item:=fun i s Q E hi q k=>by refine Sr.next q.1 q.2 (v:=items[i]) (by simp[hi]) fun h' a b=>?_;exact k _ h' s.toks (by simp[hi]) ⟨a,Sr.is_keep q.2 fun o e=>b.extBut _ _ hne e⟩ b
 done:=fun s Q E q k=>Sr.stop hh q.1 q.2 (by simp) k
def Sr.drawsEnd(hh:A.handled=none)(it:Addr)(x:Sr)(items:Array Value)(n:Nat)(hn:items[n]?=none):Draws prog w A it [it,x.ad] n (fun _ _=>True) (fun j h=>j=n/\x.at_ h it n/\x.is h items) where
 live:=fun _ _ q=>let ⟨o,_,g,_⟩:=Sr.at_get q.2.1;⟨o,g⟩
 frame:=fun _ _ _ q k=>⟨q.1,Sr.at_keep q.2.1 fun o e=>k it (by simp) o e,Sr.is_keep q.2.2 fun o e=>k x.ad (by simp) o e⟩
 item:=fun i s Q E hi q k=>absurd q.1 (Ar hi)
 done:=fun s Q E q k=>Sr.stop hh q.2.1 q.2.2 hn k
def Itn(x:Sr):It :=
 ⟨fun i H=>∃ xs v,x.sq H xs/\xs[i]?=some v,fun i H r H'=>∃ p v,H p=none/\H'=upd H p (.tup [.int (i:Nat),v])/\r=.ref p/\∀ xs,x.sq H xs->xs[i]?=some v,fun i H=>∃ xs,x.sq H xs/\xs.length<=i⟩
variable {P:Program}{K:Ab}{elts:List Expr}{pos:Pos}
def zhm{x1}(x:Sr)(it e:Addr)(hne:e≠it) :
   Turn P w K (.Tuple elts x1 pos) (Itn x) [e,it] e (fun i h=>(∃ old,IsEnum h e it (i:Nat) old)/\x.at_ h it i) where
 mem:=by simp
 obj:=fun i h st b hb=>by
   obtain⟨⟨old,he⟩,hi⟩:=st
   rcases List.mem_cons.mp hb with rfl | hb
   . exact⟨_,he,fun v z=>by cases z⟩
   rw[List.mem_singleton.mp hb];obtain⟨o,vs,g,d⟩:=Sr.at_get hi;exact⟨o,g,fun v z=>by rw[d] at z;cases z⟩
 keep:=fun i h h' st k=>by obtain⟨⟨old,he⟩,hi⟩:=st;exact⟨⟨old,k e (by simp) _ he⟩,Sr.at_keep hi fun o q=>k it (by simp) o q⟩
 item := by
   intro X hP hw hK hc i pins s M H E I hf st hg;subst hP hw hK;obtain⟨xs,v,hx,hv⟩:=hg;obtain⟨⟨old,he⟩,hi⟩:=st;obtain⟨its,rx,ix⟩:=Sr.sq_is I hx;obtain⟨v',gv,rv⟩:=rx.get hv;have fit:=(hf it<|by simp).1;have fe:=(hf e<|by simp).1;have hlt:i < its.toArray.size:=by have:=(List.getElem?_eq_some_iff.mp gv).1;simpa using this
   refine wpAny_pyNext_enum_itemD (Sr.draws (A:=X.A.in1) (I.ok.hd hc) it x (Sr.sq_ne hx fit) its.toArray) he ⟨hi,ix⟩ hlt hne (by
     simp only[AN,AF,or_false,not_or];exact⟨hne,fun z=>Sr.sq_ne hx fe z.symm⟩) fun y h1 tk hy he1 st1 t1 z1 k1=>?_
   have ey:y=v':=by
     have:its[i]?=some y:=by simpa using hy
     rw[gv] at this;exact (Ay this).symm
   subst ey;refine⟨_,rfl,wpAny_letOwnedTupleGo_enum (s:={ s with heap:=h1,toks:=tk+1 }) he1 fun h2 he2 hb2=>?_⟩;have k2:∀ b o,b ∉ [e,it]->s.heap.get? b=some o->h2.get? b=some o:=fun b o hb q=>by have n1:b≠e:=fun z=>hb (by simp[z]);have n2:b≠it:=fun z=>hb (by simp[z]);exact (hb2.2 b n1).trans<|k1 b o n1 n2 q
   have hsz:e≠s.heap.objs.size:=Ar<|Ai he;have t2:h2.get? s.heap.objs.size=some { cls:=.type "tuple",data:=.seq #[.int i tk,y] }:=(hb2.2 _ hsz.symm).trans t1;have hi2:x.at_ h2 it (i+1):=Sr.at_keep st1.1 fun o q=>(hb2.2 it hne.symm).trans q;refine⟨.ref s.heap.objs.size,upd H s.heap.objs.size<|.tup [.int (i:Nat),v],?_,rfl,⟨_,v,I.hok.fresh<|Af _,rfl,rfl,fun ys hy=>by rw[Sr.sq_inj hy hx];exact hv⟩,⟨⟨_,by exact_mod_cast he2⟩,hi2⟩,fun b hb=>?_⟩
   . exact Inv.turnNew (s:=s) (h':=h2) (t':=tk+1) I hf k2 (Af _) (fun b hb ob q=>by
       rcases List.mem_cons.mp hb with rfl | hb
       . exact⟨_,he2⟩
       rw[List.mem_singleton.mp hb];obtain⟨o,vs,g,d⟩:=Sr.at_get hi2;exact⟨o,g⟩) ⟨by show 2<=sizeLine;decide,[.int i tk,y],.cons ⟨_,rfl⟩<|.cons rv .nil,⟨_,t2,rfl,rfl,_,rfl⟩⟩
   . rw[zax (fun z=>?_)]
     . exact (hf b hb).1
     . rcases List.mem_cons.mp hb with q | hb
       . exact hsz<|q.symm.trans z
       have q:=List.mem_singleton.mp hb;obtain⟨o,vs,g,d⟩:=Sr.at_get hi;exact (Ar<|Ai g)<|q.symm.trans z
 done:=by intro X hP hw hK hc i pins s M H E I hf st hg;subst hP hw hK;obtain⟨xs,hx,hl⟩:=hg;obtain⟨⟨old,he⟩,hi⟩:=st;obtain⟨its,rx,ix⟩:=Sr.sq_is I hx;have l1:=rx.length;exact wpAny_pyNext_enum_endD (Sr.drawsEnd (A:=X.A.in1) (I.ok.hd hc) it x its.toArray i (by simp;omega)) he ⟨rfl,hi,ix⟩ fun h' eb=>⟨rfl,Inv.turnAll (t':=s.toks) I hf fun b o hb q=>eb b o (fun z=>hb (by simp[z])) q⟩
 self:=fun _ _ _ _ _ st h=>by obtain⟨⟨old,he⟩,_⟩:=st;exact EE he h
variable {X:Cx}{H:Hp}{io:List Addr}{m:ME}{st st':Sto}{a:Expr}
def zqK(x:D)(s:Sto):Option (Wk×Sto):=(seqD s x).map fun (a,f)=>(⟨pairs a,f⟩,s)
def zl0(m:ME):MI:=fun U st=>(m U st).bind fun (x,s1)=>zqK x s1
def zkn{x1}{tp:Pos}{p:Pos}(hg:Gl X "enumerate")(hm:X.mg "enumerate"=none)(ha:SE X a m)(hs:starEach [a] X.env=[(false,eval a X.env)]:=by rfl) :
   SI X (.Tuple elts x1 tp) (.Call (.Name "enumerate" p) [a] [] pos) (zl0 m):=by
 rintro pins s M H R I ⟨U,st,io,W,st',E,S,e,k⟩;obtain⟨⟨x,s1⟩,e1,e⟩:=zaf e;obtain⟨⟨as,f⟩,e3,e⟩:=zaj e;cases e;refine Call_<|zg3 I hg hm boot_enumerate<|BB (thn (zaa ha zag hs pos pins s M H (fun vs H'=>∃ ka,Ext io ka H H'/\StR X.K H' (io++ka) st'/\Reps X.K H' (io++ka) vs [x]) I ⟨U,st,io,[x],st',E,S,zeI e1 rfl,fun vs H1 k1 X1 S1 R1=>⟨k1,X1,S1,R1⟩⟩) ?_) hs rfl;rintro us t1 ⟨vs,H1,I1,r1,k1,X1,S1,R1⟩;obtain⟨v,rfl,Rx⟩:=R1.one;obtain⟨v',rfl,rv⟩:=r1.one;obtain⟨xx,rfl,⟨xs,hx⟩,kx⟩:=zhA S1 Rx e3;cases rv;obtain⟨its,vx,ix⟩:=Sr.sq_is I1 hx;refine ziK ix fun h' he hi kk=>EE he ?_;refine⟨_,_,_,_,H1,rfl,I1.kept (t':=t1.toks) kk,zhm xx t1.heap.objs.size (t1.heap.objs.size+1)<|Nat.succ_ne_self _,⟨⟨_,he⟩,hi⟩,fun b hb=>?_,?_⟩
 . have hle:t1.heap.objs.size<=b:=by
     rcases List.mem_cons.mp hb with q | hb
     . rw[q];exact Cv _
     rw[List.mem_singleton.mp hb];exact Af _
   exact I1.fpOk hle<|I1.hok.fresh hle
 . refine k _ H1 k1 X1 S1 ?_;refine⟨fun i d H2 k2 s3 hd X2 S2 hs=>?_,fun H2 k2 s3 X2 S2 hs=>?_,fun H2 k2 s3 i hi X2 S2 hs=>?_⟩
   . obtain⟨xs2,qx,rx⟩:=kx H2 k2 s3 X2 S2 hs;obtain⟨dx,g1,rfl⟩:=zgi hd;obtain⟨u1,gu,ru⟩:=rx.get g1;refine⟨⟨xs2,u1,qx,gu⟩,fun r H' yl=>?_⟩;obtain⟨q,u2,hq,rfl,rfl,yu⟩:=yl;have e5:=yu xs2 qx;rw[gu] at e5;cases e5;obtain⟨E',S'⟩:=zgm (o:=.tup [.int (i:Nat),u1]) S2 hq;rw[Ao] at S';refine⟨E',S',⟨q,_,rfl,zbg,?_⟩⟩;have r2:=ru.ext S2 E';rw[Ao] at r2;exact Reps.cons rfl<|Reps.cons r2 Reps.nil
   . obtain⟨xs2,qx,rx⟩:=kx H2 k2 s3 X2 S2 hs;exact⟨xs2,qx,by show xs2.length<=(pairs as).length;rw[pairs_len,rx.length];exact Af _⟩
   obtain⟨xs2,qx,rx⟩:=kx H2 k2 s3 X2 S2 hs;have hi:(pairs as).length<=i:=hi;rw[pairs_len] at hi;exact⟨xs2,qx,by rw[rx.length];exact hi⟩
@[simp] theorem zqR{U:Rho}:zl0 m U st=(m U st).bind fun p=>zqK p.1 p.2:=rfl
variable {ma mb mc mk:ME}{b c:Expr}{g g':G2}{M:L2.St}{op op':CmpOp}
def zdz(g g':G2)(ma mb mc:ME):ME:=fun U st=>(ma U st).bind fun (x,s1)=>(mb U s1).bind fun (y,s2)=>(g x y s2).bind fun (z,s3)=>match z with
 | .bl q=>if q=true then (mc U s3).bind fun (w,s4)=>g' y w s4 else some (.bl false,s3)
 | _=>none
def zeb{Q:VK}(h:tE K (zdz g g' ma mb mc) M H Q):zkY (r2M K g) (r2M K g') (tE K ma) (tE K mb) (tE K mc) M H Q:=by
 obtain⟨U,st,io,d,st',E,S,e,k⟩:=h;obtain⟨⟨x,s1⟩,e1,e⟩:=zaf e;obtain⟨⟨y,s2⟩,e2,e⟩:=zaf e;obtain⟨⟨z,s3⟩,e3,e⟩:=zaf e;refine⟨U,st,io,x,s1,E,S,e1,fun v1 H1 k1 X1 S1 R1=>?_⟩;refine⟨U,s1,io++k1,y,s2,E.ext S X1,S1,e2,fun v2 H2 k2 X2 S2 R2=>?_⟩;refine⟨x,y,s2,(io++k1)++k2,z,s3,R1.ext S1 X2,R2,S2,e3,fun v3 H3 k3 X3 S3 R3=>?_⟩;have k':=((k.on S1 X1).on S2 X2).on S3 X3;dsimp only at e
 split at e
 . rename_i q;refine⟨q,R3,?_⟩
   cases q with
   | true =>
     rw[if_pos rfl] at e ⊢;obtain⟨⟨w,s4⟩,e4,e5⟩:=zaf e;refine⟨U,s3,((io++k1)++k2)++k3,w,s4,((E.ext S X1).ext S1 X2).ext S2 X3,S3,e4,fun v4 H4 k4 X4 S4 R4=>?_⟩;exact⟨y,w,s4,(((io++k1)++k2)++k3)++k4,d,st',(R2.ext S2 X3).ext S3 X4,R4,S4,e5,k'.on S4 X4⟩
   | false =>
     rw[if_neg Bi] at e ⊢;cases e;exact Bh.now k' S3 rfl
 . cases e
def zlg(ho:OpM X (compareOp op) g)(ho':OpM X (compareOp op') g')(ha:SE X a ma)(hb:SE X b mb)(hc:SE X c mc)(hm:lastMarks [op,op'] [b,c]=false:=by with_unfolding_all rfl) :
   SE X (.Compare a [op,op'] [b,c] pos) (zdz g g' ma mb mc):=PE.imp (zlF ho ho' ha hb hc hm) fun _ _ _ h=>zeb h
def zll(ho:OpM X (compareOp op) g)(ho':OpM X (compareOp op') g')(ha:SE X a ma)(hb:SE X b mb)(hc:SE X c mc)(hm:lastMarks [op,op'] [b,c]=false:=by with_unfolding_all rfl) :
   SB X (.Compare a [op,op'] [b,c] pos) (mTst<|zdz g g' ma mb mc):=PT.imp (zls ho ho' ha hb hc hm) fun _ _ _ h=>zeb (zcC h)
def zdU(mk mv:ME):ME:=fun U st=>(mk U<|st++[.dk []]).bind fun (k,s1)=>(mv U s1).bind fun (v,s2)=>match keyOf k,s2[st.length]? with
 | some q,some (.dk [])=>some (.ref st.length,s2.set st.length (.dk [(q,v)]))
 | _,_=>none
def zhD{mv:ME}(hk:SE X a mk)(hv:SE X b mv):SE X (.Dict [some a] [b] pos) (zdU mk mv) :=
 PE.imp (znA (zhN hk hv zks) rfl rfl (by simp)<|by simp) <| by
   rintro M H Q ⟨U,st,io,d,st',E,S,e,k⟩;obtain⟨⟨x,s1⟩,e1,e⟩:=zaf e;obtain⟨⟨y,s2⟩,e2,e⟩:=zaf e;intro p hp;obtain⟨E',S'⟩:=ze5 (o:=.dK []) (ob:=.dk []) S hp fun H' T e=>⟨[],e,.nil⟩
   refine⟨U,_,_,x,s1,E.ext S E',S',e1,fun v1 H1 k1 X1 S1 R1=>?_⟩;refine⟨U,s1,_,y,s2,(E.ext S E').ext S' X1,S1,e2,fun v2 H2 k2 X2 S2 R2=>?_⟩;dsimp only at e
   split at e
   . rename_i q eq1 eq2;cases e;have hlen:io.length=st.length:=S.len;have hp0:((io++[p])++k1++k2)[st.length]?=some p:=by
       rw[An,An,AE (by omega),hlen,B6];rfl
     obtain⟨ps,hH,r⟩:=S2.ob st.length p _ hp0 eq2;cases r;have ey:=zcJ (R1.ext S1 X2) eq1;subst ey;refine⟨hH,[(q,v2)],rfl,by simp,?_⟩;obtain⟨E3,S3⟩:=zfE (o:=.dK [(q,v2)]) (ob:=.dk [(q,y)]) S2 hp0 eq2 (fun o u z=>by rw[hH] at z;cases z) fun H' T e'=>⟨_,e',(KR.put (κ:=Key) (ps:=[]) (kvs:=[]) .nil q (Rep.mono T R2):KR Key X.K H' _ [(q,v2)] [(q,y)])⟩
     have k':=((k.on S' E').on S1 X1).on S2 X2;exact k' _ _ [] E3 S3 ⟨p,rfl,by rw[Ao];exact hp0⟩
   . cases e
variable {e:Expr}{p2:Pos}
section
variable {se:Expr} {te:TE} {ts:TO}
def zf1{x:V}{u:Value}:∀ {xs:List V} {us:List Value},Vals xs us->RelV x u->Vals (xs++[x]) (us++[u])
 | [],_,.nil,r=>.cons r .nil
 | y::xs,_,.cons z t,r=>.cons z<|zf1 t r
def zhh:∀ {xs:List V} {us:List Value},Vals xs us->Vals xs.reverse us.reverse
 | [],_,.nil=>.nil
 | x::xs,_,.cons r t=>by rw[Cr,Cr];exact zf1 (zhh t) r
def zgd:∀ {xs:List V} {ds:List D} {x:V} {d:D},Reps K H io xs ds->Rep K H io x d->Reps K H io (xs++[x]) (ds++[d])
 | _,[],x,d,h,r=>by
   cases (show _=[] from h)
   exact⟨x,[],rfl,r,rfl⟩
 | _,e::ds,x,d,h,r=>by obtain⟨y,ys,rfl,h1,h2⟩:=h;exact⟨y,ys++[x],rfl,h1,zgd h2 r⟩
def zhI:∀ {ds:List D} {xs:List V},Reps K H io xs ds->Reps K H io xs.reverse ds.reverse
 | [],xs,h=>by
   cases (show xs=[] from h)
   exact rfl
 | d::ds,xs,h=>by obtain⟨y,ys,rfl,h1,h2⟩:=h;rw[Cr,Cr];exact zgd (zhI h2) h1
end
def zfP:typeLookup (.type "list") "keys"=pure none:=by rw[typeLookup_type,D0];kernel_rfl
def zcj:entryFor table "dict.update.loop"=some Builtin.«dict.update.loop»:=entryFor_of_fast<|by kernel_rfl
def za0:plainId "dict.update.loop"=true:=by decide +kernel
section
variable {a:Addr}
def zgx{Q:Option Value->Shared->Prop}{k:Nat}{sl:Array (Option Value)}(hx:s.heap.get? a=some { cls:=.type "list",dict:=none,data:=.seq xs k,slots:=sl })(hA:A.handled=none)
   (h:∀ h' tk,(∀ b u,s.heap.get? b=some u->h'.get? b=some u)->Q none { s with heap:=h',toks:=tk }):wpAny (model prog w) A (getAttr? (.ref a) "keys") Q E s:=by
 obtain⟨hp,g,d,tk,os⟩:=s;have hT:∀ tk',(⟨hp,g,d,tk',os⟩:Shared).TypeIs (.ref a) "list":=fun _=>⟨_,hx,rfl⟩
 have f1:=Ew;have f3:=F.slot_list_getattribute.lookup;have f4:=F.slot_list_getattribute.bind<|.ref a;have f5:=am_list_getattr_none;unfold getAttr? getAttrBy? getAttrBy
 repeat (any_goals (first | assumption | exact hT _ | ((with_reducible show wpAny _ _ (call (Ed "list.__getattribute__") _ _) _ _ _);refine Dp F.slot_list_getattribute (hT _) am_entry_list_getattribute (F.args_list_getattribute_2 _ _) (meets_getattribute_miss_list a xs k sl _ _ zfP<|by decide +kernel) ⟨hx,hA,fun h' tk' e hx'=>?_⟩) | wp_step))
 obtain⟨t',u',he⟩:=hx'.there;show wpAny _ _ (getattributeRaised _ _ _ _ _ _ _) _ _ _;unfold getattributeRaised
 repeat (any_goals (first | assumption | wp_step))
 exact h _ _ hx'.keeps
def zfo(prog:Program)(w:World)(h:Heap)(v:Value)(kv:Key×Value):Prop:=∃ p kx,v=.ref p/\IsTup h p #[kx,kv.2]/\(zat prog w).is kv.1 kx=true
def zfo.keep{h':Heap}{v:Value}{kv:Key×Value}(q:zfo prog w h v kv)(k:∀ b o,v=.ref b->h.get? b=some o->h'.get? b=some o):zfo prog w h' v kv:=by obtain⟨p,kx,rfl,⟨o,g,c⟩,i⟩:=q;exact⟨p,kx,rfl,⟨o,k p o rfl g,c⟩,i⟩
def zdv{p:Addr}{Q:List Value->Shared->Prop}(ht:IsTup s.heap p xs)(h:Q xs.toList s):wpAny (model prog w) A (Builtin.Dict.pairItems<|.ref p) Q E s:=by
 obtain⟨hp,g,d,tk,os⟩:=s;obtain⟨o,g0,c,n,dd⟩:=ht;have hT:(⟨hp,g,d,tk,os⟩:Shared).TypeIs (.ref p) "tuple":=⟨_,g0,c⟩
 unfold Builtin.Dict.pairItems seqItems?
 repeat (any_goals (first | assumption | wp_step))
 rw[dd];exact Ac<|Ac h
end
variable {its:List Value}{kvs:List (Key×Value)}
section
variable {a:Addr}
def zht{K:Type}[DecidableEq K](kvs:List (K×Value))(k:K)(v:Value):(stored kvs k v).length<=kvs.length+1:=by
 unfold stored
 split <;> simp
def zdy{K:Type}[DecidableEq K]:∀ (more kvs:List (K×Value)),(merged kvs more).length<=kvs.length+more.length
 | [],kvs=>by show kvs.length<=kvs.length+0;omega
 | p::r,kvs=>by have h1:=zdy r<|stored kvs p.1 p.2;have h2:=zht kvs p.1 p.2;show (merged (stored kvs p.1 p.2) r).length<=_;rw[AB];omega
def zrQ{R:Result->Shared->Prop}{D I l:Addr}{h0:Heap}(hh:A.in1.handled=none)(hl:its.length=kvs.length)(hz:kvs.length<=sizeLine)(hDI:D≠I)(hlD:l≠D)(hlI:l≠I) :
   ∀ (k i:Nat) (s:Shared),kvs.length - i=k->i<=kvs.length->s.heap.IsListIter I l i->s.heap.IsList l its.toArray->s.heap.DictOf (zat prog w) D (merged []<|kvs.take i) ->
   (∀ (j:Nat) (v:Value) (kv:Key×Value),its[j]?=some v->kvs[j]?=some kv->zfo prog w s.heap v kv/\v≠.ref D/\v≠.ref I)->(∀ b o,b≠D->b≠I->h0.get? b=some o->s.heap.get? b=some o) ->
   (∀ h' tk,h'.DictOf (zat prog w) D (merged [] kvs)->(∀ b o,b≠D->b≠I->h0.get? b=some o->h'.get? b=some o)->R (.ok<|.ret .none) { s with heap:=h',toks:=tk }) ->
   codeAny (model prog w) A (.builtin "dict.update.loop" ⟨[.ref D,.ref I,rawInt i,.none],[]⟩) R s:=by
 intro k
 induction k with
 | zero =>
   intro i s hk hi hit hlist hd hp h0k hR;have hin:i=kvs.length:=by omega
   subst hin;refine CS zcj ?_;rw[B7 za0 _];show wpAny _ A.in1 (pyNext (.ref I) >>= _) _ _ s;refine Aa<|CD hh hit hlist (by simp[hl]) fun h' hx=>?_;show wpAny _ A.in1 (Builtin.Dict.addKeywords D [] >>= fun _=>ret .none) _ _ _;refine Aa<|Ac<|Ac ?_;rw[Bz] at hd;refine hR h' s.toks ?_ fun b o h1 h2 e=>hx b o h2 (h0k b o h1 h2 e);obtain⟨o,es,ep,ho,r⟩:=hd;exact⟨o,es,ep,hx D o hDI ho,r⟩
 | succ k ih =>
   intro i s hk hi hit hlist hd hp h0k hR;have hlt:i < kvs.length:=by omega
   have hlt':i < its.length:=by omega
   refine CS zcj ?_;rw[B7 za0 _];show wpAny _ A.in1 (pyNext (.ref I) >>= _) _ _ s;have hv:its[i]?=some its[i]:=Ah hlt';have hkv:kvs[i]?=some kvs[i]:=Ah hlt;refine Aa<|Ct (x:=its[i]) hit hlist (by simp[hlt']) fun h' hit' hx=>?_;obtain⟨pa,nD,nI⟩:=hp i _ _ hv hkv;have pa':zfo prog w h' its[i] kvs[i]:=pa.keep fun b o e g=>hx.extBut b o (fun z=>nI (by rw[e,z])) g;obtain⟨p,kx,ep,tp,ik⟩:=pa';have hd':h'.DictOf (zat prog w) D (merged []<|kvs.take i):=by obtain⟨o,es,ep,ho,r⟩:=hd;exact⟨o,es,ep,hx.extBut D o hDI ho,r⟩
   have hlen:(merged []<|kvs.take i).length<=sizeLine:=by have:=zdy (kvs.take i) [];rw[Bb,Be] at this;omega
   rw[ep];refine Aa<|AI<|Aa<|wpAny_tryCatch<|zdv (s:={ s with heap:=h' }) tp ?_;refine AI<|Eg (s:={ s with heap:=h' }) ik hd' (fun h2 hd2 hs2=>?_) hlen;have hI2:∀ b o,b≠D->h'.get? b=some o->h2.get? b=some o:=fun b o hb e=>hs2.extBut b o hb e;have e1:stored (merged []<|kvs.take i) kvs[i].1 kvs[i].2=merged [] (kvs.take<|i+1):=(merged_take_succ [] kvs i _ hkv).symm;refine Ac ⟨Cz za0 _,?_⟩;refine ih (i+1) { s with heap:=h2,toks:=s.toks+1 } (by omega) (by omega) ?_ ?_ (by rw[<-e1];exact hd2) (fun j v kv h1 h2'=>?_) (fun b o b1 b2 e=>hI2 b o b1 (hx.extBut b o b2<|h0k b o b1 b2 e)) fun h3 tk3 d3 k3=>hR h3 tk3 d3 k3
   . exact Eu hit' fun u e=>hI2 I u (Bo hDI) e
   . exact DY (DY hlist fun u e=>hx.extBut l u hlI e) fun u e=>hI2 l u hlD e
   obtain⟨q,q1,q2⟩:=hp j v kv h1 h2';exact⟨(q.keep fun b o e g=>hx.extBut b o (fun z=>q2 (by rw[e,z])) g).keep fun b o e g=>hI2 b o (fun z=>q1 (by rw[e,z])) g,q1,q2⟩
def zfl{l:Addr}{Q:Value->Shared->Prop}(hh:A.handled=none)(hpl:PlainL s.heap l its.toArray)(hl:its.length=kvs.length)(hz:kvs.length<=sizeLine)
   (hp:∀ (j:Nat) (v:Value) (kv:Key×Value),its[j]?=some v->kvs[j]?=some kv->zfo prog w s.heap v kv)
   (h:∀ h' tk,h'.DictOf (zat prog w) s.heap.objs.size (merged [] kvs)->(∀ b o,s.heap.get? b=some o->h'.get? b=some o)->Q (.ref s.heap.objs.size) { s with heap:=h',toks:=tk }) :
   wpAny (model prog w) A (call (.type "dict") [.ref l]) Q E s:=by
 refine callType_codes (Q₁:=fun obj s₁=>obj=.ref s.heap.objs.size/\s₁={ s with heap:=s.heap.push { cls:=.type "dict",data:=.dict #[] } }) F.kt_called_dict (F.kt_typeCall_dict_1 _) F.entry_dict_init (kt_code_dict_new _ ⟨rfl,rfl⟩) ?_;rintro obj s₁ ⟨rfl,rfl⟩;have hnew:(s.heap.push { cls:=.type "dict",data:=.dict #[] }).DictOf (zat prog w) s.heap.objs.size []:=DF s.heap;have k1:∀ b o,s.heap.get? b=some o->(s.heap.push { cls:=.type "dict",data:=.dict #[] }).get? b=some o:=fun b o e=>Ad _ e;have hpl1:=hpl.keeps k1;obtain⟨⟨cl,di,da,sl⟩,n,g1,c1,c2,c3⟩:=id hpl1;simp only at c1 c2 c3;subst c1 c2 c3;have hlt:∀ b o,s.heap.get? b=some o->b < s.heap.objs.size:=fun b o e=>Ai e;have hll:l < s.heap.objs.size:=by obtain⟨o,_,g,_⟩:=hpl;exact hlt l o g
 refine⟨hnew.typeIs,F.args_dict_init_2 _ _,?_⟩;unfold Builtin.«dict.__init__»;refine Aa ?_;unfold Builtin.Dict.selfAndRest;refine Aa<|CH hnew.typeIs ?_;show wpAny _ _ (pure (s.heap.objs.size,[AH l])) _ _ _;refine Ac ?_;show wpAny _ _ (Builtin.Dict.updateFrom "dict.__init__" s.heap.objs.size (.ref l) [] .none) _ _ _;unfold Builtin.Dict.updateFrom;refine Aa (B4 (show Shared.TypeIs { s with heap:=s.heap.push { cls:=.type "dict",data:=.dict #[] } } (.ref l) "list" from ⟨_,g1,rfl⟩) ?_);rw[if_pos (by decide)];refine Aa<|zgx g1 hh fun h2 tk2 k2=>?_;have hpl2:=hpl1.keeps k2;have hd2:h2.DictOf (zat prog w) s.heap.objs.size []:=by obtain⟨o,es,ep,ho,r⟩:=hnew;exact⟨o,es,ep,k2 _ o ho,r⟩
 have hsz:s.heap.objs.size < h2.objs.size:=by obtain⟨o,es,ep,ho,r⟩:=hd2;exact Ai ho
 simp only[C8,if_true];refine Aa<|BX ?_;refine Aa<|Sr.iter (x:=.l l) (s:={ s with heap:=h2,toks:=tk2 }) (xs:=its.toArray) hpl2.isList ?_;have k3:∀ b o,h2.get? b=some o->(h2.push<|Sr.ob<|.l l).get? b=some o:=fun b o e=>Ad _ e;refine Ac ⟨Cz za0 _,?_⟩;have n1:s.heap.objs.size≠h2.objs.size:=Ar hsz;have n2:l≠s.heap.objs.size:=Ar hll;have n3:l≠h2.objs.size:=Ar<|BE hll hsz;show codeAny (model prog w) A.in1 (.builtin "dict.update.loop" ⟨[.ref s.heap.objs.size,.ref h2.objs.size,rawInt (0:Nat),.none],[]⟩) _ { s with heap:=h2.push (Sr.ob<|.l l),toks:=tk2 };refine zrQ (A:=A.in1) (h0:=s.heap) (l:=l) (its:=its) (kvs:=kvs) (D:=s.heap.objs.size) (I:=h2.objs.size) hh hl hz n1 n2 n3 kvs.length 0 { s with heap:=h2.push (Sr.ob<|.l l),toks:=tk2 } rfl (A3 _) ?_ (hpl2.keeps k3).isList ?_ (fun j v kv e1 e2=>?_) (fun b o _ _ e=>k3 b o (k2 b o<|k1 b o e)) fun h' tk d' k'=>?_
 . exact Sr.at_new (x:=.l l)<|Am _ rfl
 . obtain⟨o,es,ep,ho,r⟩:=hd2;exact⟨o,es,ep,k3 _ o ho,r⟩
 . have q:=hp j v kv e1 e2;have nn:∀ b,v=.ref b->b < s.heap.objs.size:=fun b e=>by
     obtain⟨p,kx,rfl,⟨o,g,_⟩,_⟩:=q;cases e;exact hlt _ o g
   refine⟨q.keep fun b o _ g=>k3 b o (k2 b o<|k1 b o g),fun e=>?_,fun e=>?_⟩
   . exact absurd (nn _ e)<|AK _
   exact absurd (nn _ e)<|Nat.not_lt_of_lt hsz
 exact⟨rfl,h h' tk d' fun b o e=>k' b o (Ar<|hlt b o e) (Ar<|BE (hlt b o e) hsz) e⟩
end
def prOf:D->Option (Key×D)
 | .tup [k,v]=>(keyOf k).map fun q=>(q,v)
 | _=>none
def zmD:List D->Option (List<|Key×D)
 | []=>some []
 | d::r=>(prOf d).bind fun t=>(zmD r).map fun ts=>t::ts
def ze8(kvs more:List (Key×D)):List (Key×D):=more.foldl (fun acc kv=>putD acc kv.1 kv.2) kvs
section
variable {pins:List (Addr×Obj)}
def zh7:∀ {more:List (Key×V)} {mds:List (Key×D)} {kvs:List (Key×V)} {kds:List (Key×D)},KR Key K H io more mds->KR Key K H io kvs kds->KR Key K H io (zdk kvs more) (ze8 kds mds):=by
 intro more mds kvs kds r;unfold KR at r
 induction r generalizing kvs kds with
 | nil=>intro q;exact q
 | @cons p q ps qs h t ih =>
   intro r0;have e:KR Key K H io (putK kvs p.1 p.2) (putD kds q.1 q.2):=by rw[<-h.1];exact KR.put r0 p.1 h.2
   exact ih e
def zlu(I:Inv X pins M H s):∀ {ys:List V} {ds:List D} {kds:List (Key×D)} {its:List Value},Reps X.K H io ys ds->zmD ds=some kds->Vals ys its ->
   ∃ (kvV:List (Key×V)) (kvs:List (Key×Value)),KR Key X.K H io kvV kds/\KV kvV kvs/\its.length=kvs.length/\kvs.length=kds.length/\∀ (j:Nat) (v:Value) (kv:Key×Value),its[j]?=some v->kvs[j]?=some kv->zfo X.prog X.w s.heap v kv
 | _,[],kds,_,h,e,r=>by
   cases e
   cases (show _=[] from h)
   cases r;exact⟨[],[],.nil,.nil,rfl,rfl,fun j v kv h=>by simp at h⟩
 | _,d::ds,kds,_,h,e,r=>by
   obtain⟨y,ys,rfl,h1,h2⟩:=h;obtain⟨t,e1,e⟩:=zaf e;obtain⟨ts,e2,e⟩:=zaj e;subst e
   cases r with
   | @cons _ u _ us ru rus =>
     obtain⟨kvV,kvs,a1,a2,a3,a4,a5⟩:=zlu I h2 e2 rus;unfold prOf at e1
     split at e1
     . rename_i k v;obtain⟨q,eq1,e1⟩:=zaj e1;subst e1;obtain⟨p,vs,rfl,hp,rs⟩:=h1;obtain⟨v1,w1,rfl,q1,rs⟩:=rs;obtain⟨v2,w2,rfl,q2,rs⟩:=rs
       cases (show w2=[] from rs)
       have ek:=zcJ q1 eq1;subst ek;cases ru;obtain⟨ia,va,ht,_⟩:=I.tuple<|SqT.of (K:=X.K) hp
       cases va with
       | cons r1 t1 =>
         cases t1 with
         | cons r2 t2 =>
           cases t2;rename_i u1 u2;refine⟨(q,v2)::kvV,(q,u2)::kvs,.cons ⟨rfl,q2⟩ a1,.cons ⟨rfl,r2⟩ a2,by rw[AB,AB,a3],by rw[AB,AB,a4],fun j v kv e1 e2=>?_⟩
           cases j with
           | zero =>
             cases e1;cases e2;exact⟨p,u1,rfl,ht,zkz r1⟩
           | succ j=>exact a5 j v kv e1 e2
     . cases e1
def zoJ:GN
 | [.ref n],st=>(zbi st n).bind fun ds=>(zmD ds).bind fun kds=>if fits kds.length=true then some (.ref st.length,st++[.dk (ze8 [] kds)]) else none
 | _,_=>none
def ziL(hc:X.calm=true):zcN X (.type "dict") zoJ:=by
 rintro pins s M H xs us Q I r ⟨ds,st,io,d,st',R,S,e,k⟩;unfold zoJ at e
 split at e
 . rename_i n;obtain⟨zs,e0,e⟩:=zaf e;obtain⟨kds,e1,e⟩:=zaf e;obtain⟨hf,e⟩:=zao e;cases e;obtain⟨v,rfl,p,rfl,hp⟩:=R.one;obtain⟨u,rfl,ru⟩:=r.one;cases ru;obtain⟨ys,hx,r1⟩:=zaW S hp e0;obtain⟨its,rv,pl,hz⟩:=I.list hx;obtain⟨kvV,kvs,a1,a2,a3,a4,a5⟩:=zlu I r1 e1 rv;have hzk:kvs.length<=sizeLine:=by
     rw[a4];exact of_decide_eq_true hf
   refine zfl (I.ok.hd hc) pl a3 hzk a5 fun h' tk d' kk=>?_;have hlV:kvV.length=kvs.length:=Bc a2;have hm:(zdk [] kvV).length<=sizeLine:=by have:=zby kvV [];rw[Be] at this;omega
   have hd:(s.heap.objs.size==sysModules)=false:=beq_eq_false_iff_ne.mpr<|Bo<|Ar I.big;refine⟨.ref s.heap.objs.size,_,I.laid (a:=s.heap.objs.size) (o:=.dK (zdk [] kvV)) (t':=tk) kk (Af _)<|zj1 hm hd (a2.merge .nil) d',rfl,?_⟩;obtain⟨E',S'⟩:=ze5 (o:=.dK (zdk [] kvV)) (ob:=.dk (ze8 [] kds)) S (I.hok.fresh<|Af _) fun H' T e=>⟨_,e,zh7 (KR.mono T a1) .nil⟩
   exact k _ _ [s.heap.objs.size] E' S' ⟨s.heap.objs.size,rfl,by rw[<-S.len];exact getElem?_len io _⟩
 . cases e
end
def Itw(n:Nat)(f:Nat->Option V):It:=⟨fun i _=>i < n,fun i H v H'=>H'=H/\f i=some v,fun i _=>n<=i⟩
def zih:List String:=["enumerate","zip","dict_itemiterator","dict_reverseitemiterator","odict_iterator","itertools.zip_longest","itertools.pairwise"]
variable {tg:Expr}
def zhj(it:Addr)(n:Nat)(f:Nat->Option V){R:Nat->Value->Prop}{T:Nat->Heap->Prop}(W:∀ A:Around,A.handled=none->Walks P w A it [it] [it] n R T)
   (hr:∀ i v,R i v->∃ x,f i=some x/\RelV x v) (hob:∀ i h,T i h->∃ o nm vs,h.get? it=some o/\o.cls=.type nm/\o.data=.fields vs/\zih.contains nm=false)
   (hself:∀ (A:Around) (i:Nat) (s:Shared) (Q:Value->Shared->Prop) (E:Value->Shared->Prop),T i s.heap->Q (.ref it) s->wpAny (model P w) A (pyIter<|.ref it) Q E s) :
   Turn P w K tg (Itw n f) [it] it (fun i h=>i<=n/\T i h) where
 mem:=by simp
 obj:=fun i h st b hb=>by
   have e:b=it:=by simpa using hb
   subst e;obtain⟨o,nm,vs,e,c,d,_⟩:=hob i h st.2;exact⟨o,e,fun v z=>by rw[d] at z;cases z⟩
 keep:=fun i h h' st k=>⟨st.1,(W {} rfl).frame i h h' st.2 k⟩
 item:=by intro X hP hw hK hc i pins s M H E I hf st hg;subst hP hw hK;obtain⟨f0,f1,f2,f3,f4,f5⟩:=hf it (by simp);refine (W X.A<|I.ok.hd hc).item i s _ _ hg st.2 fun v h' tk hv st' kk=>?_;obtain⟨x,hx,rx⟩:=hr i v hv;have I1:Inv X pins M H { s with heap:=h',toks:=tk }:=I.turned (fun b o hb e=>kk b o (by simpa using hb) e) f0 f1 f3 f4 f5;obtain⟨o,nm,vs,e,c,d,hn⟩:=hob (i+1) h' st';exact⟨_,rfl,zoc (s:={ s with heap:=h',toks:=tk }) e c d hn ⟨x,H,I1,rx,⟨rfl,hx⟩,⟨hg,st'⟩,fun b hb=>(hf b hb).1⟩⟩
 done:=by intro X hP hw hK hc i pins s M H E I hf st hg;subst hP hw hK;obtain⟨f0,f1,f2,f3,f4,f5⟩:=hf it (by simp);have e:i=n:=Nat.le_antisymm st.1 hg;subst e;exact (W X.A<|I.ok.hd hc).done s _ _ st.2 fun h' tk kk=>⟨rfl,I.turned (fun b o hb e=>kk b o (by simpa using hb) e) f0 f1 f3 f4 f5⟩
 self:=fun A i s Q E st h=>hself A i s Q E st.2 h
def zp7{H:Hp}{io:List Addr}{ds:List D}{n:Nat}{f:Nat->Option V}(hn:n=ds.length)(hf:∀ i d,ds[i]?=some d->∃ v,f i=some v/\∀ H io,Rep K H io v d):ItOk K H io ⟨ds,[]⟩ (Itw n f) where
 go:=fun i d H1 k1 s hd X1 S1 hs=>by have hi:i < ds.length:=(List.getElem?_eq_some_iff.mp hd).1;refine⟨by show i < n;omega,fun x H' y=>?_⟩;obtain⟨rfl,y⟩:=y;obtain⟨v,hv,rv⟩:=hf i d hd;rw[hv] at y;cases y;exact⟨Ext.refl,S1,rv _ _⟩
 stop:=fun H1 k1 s X1 S1 hs=>by show n<=ds.length;omega
 stop':=fun H1 k1 s i hi X1 S1 hs=>by show n<=i;have hi:ds.length<=i:=hi;omega
variable {l:Expr}{es:List Expr}{mm:MA}{mt:MT}{ms:MS}{body:List Stmt}{z:Str}
def signs(z:Str):List D:=z.cps.toList.map fun c=>D.str ⟨#[c]⟩
def zmB(z:Str)(i:Nat):Option V:=z.cps[i]?.map fun c=>V.str ⟨#[c]⟩
def zi3(hh:A.handled=none)(I:Addr)(x:Str)(t:Tok):Walks P w A I [I] [I] x.cps.size (SignAt x) (fun i h=>h.IsStrIter I (strIterType x) x t i):=by
 unfold strIterType
 cases x.cps.all (· < 128)
 . exact Walks.strWide hh I x t
 exact Walks.strAscii hh I x t
def zkU(it:Addr)(x:Str)(t:Tok):Turn P w K tg (Itw x.cps.size<|zmB x) [it] it (fun i h=>i<=x.cps.size/\h.IsStrIter it (strIterType x) x t i) :=
 zhj it x.cps.size (zmB x) (fun A hA=>zi3 hA it x t) (fun i v ⟨c,u,hc,hv⟩=>⟨.str ⟨#[c]⟩,by unfold zmB;rw[hc];rfl,u,hv⟩)
   (fun i h ⟨o,e,c,d⟩=>⟨o,_,_,e,c,d,by unfold strIterType;split <;> decide⟩) fun A i s Q E st h=>by
     unfold strIterType at st
     split at st
     . exact wpAny_pyIter_striter_ascii st h
     exact wpAny_pyIter_striter_wide st h
def iStr(tl:TE):TI:=fun M H R=>tl M H fun x H1=>∃ z,x=.str z/\R (Itw z.cps.size<|zmB z) H1
def zpp{tl:TE}(hl:PE X l tl):PI X tg l (iStr tl):=by
 intro pins s M H R I h;refine thn (hl pins s M H _ I h) ?_;rintro v s1 ⟨x,H1,I1,r1,q1⟩;obtain⟨z,e,q⟩:=q1;subst e;obtain⟨t,rfl⟩:=r1;refine wpAny_pyIter_strU ?_;refine⟨s1.heap.objs.size,[s1.heap.objs.size],_,_,H1,rfl,I1.kept (t':=s1.toks) fun b o e=>Ad _ e,zkU _ z t,⟨A3 _,_,Am _ rfl,rfl,rfl⟩,fun b hb=>?_,q⟩;have e:b=s1.heap.objs.size:=by simpa using hb
 subst e;exact I1.fpOk (Af _)<|I1.hok.fresh<|Af _
def signs_get{i:Nat}{d:D}(h:(signs z)[i]?=some d):∃ v,zmB z i=some v/\∀ H io,Rep K H io v d:=by unfold signs at h;rw[Av] at h;obtain⟨c,hc,e⟩:=zaj h;subst e;refine⟨.str ⟨#[c]⟩,?_,fun H io=>rfl⟩;unfold zmB;rw[BJ] at hc;rw[hc];rfl
def zjh(z:Str):z.cps.size=(signs z).length:=by unfold signs;rw[Ag,A2]
def mWS(m:ME):MI:=fun U st=>(m U st).bind fun (d,s)=>match d with
 | .str z=>some (⟨signs z,[]⟩,s)
 | _=>none
def zo5(hl:SE X l m):SI X tg l (mWS m):=PI.imp (zpp hl) <| by
 rintro M H R ⟨U,st,io,W,st',E,S,e,k⟩;obtain⟨⟨d,s1⟩,e1,e⟩:=zaf e;dsimp only at e
 split at e
 . rename_i z;cases e;refine⟨U,st,io,_,_,E,S,e1,fun v H1 k1 X1 S1 R1=>?_⟩;exact⟨z,R1,k _ H1 k1 X1 S1<|zp7 (zjh z) fun i d h=>signs_get h⟩
 . cases e
def mWA(m:ME):MI:=fun U st=>(m U st).bind fun (d,s)=>orO (zft d s)<|match d with | .str z=>some (⟨signs z,[]⟩,s) | _=>none
def zbT(hl:SE X l m):SI X tg l (mWA m):=by
 rintro pins s M H R I ⟨U,st,io,W,st',E,S,e0,k⟩;obtain⟨⟨d,s1⟩,e1,e0⟩:=zaf e0
 rcases zbE e0 with e0 | e0
 . exact zm9 hl pins s M H R I ⟨U,st,io,W,st',E,S,by unfold mW;rw[e1];exact e0,k⟩
 exact zo5 hl pins s M H R I ⟨U,st,io,W,st',E,S,by unfold mWS;rw[e1];exact e0,k⟩
def zl3:GN
 | [.str z],st=>if fits z.cps.size=true then some (.ref st.length,st++[.lst (signs z)]) else none
 | _,_=>none
def zhy{acc:Array Value}(h:ItemsOf (SignAt z) acc z.cps.size):Vals (z.cps.toList.map fun c=>V.str ⟨#[c]⟩) acc.toList:=by
 have aux:∀ (l:List Nat) (vs:List Value),vs.length=l.length->(∀ (j:Nat) (v:Value),vs[j]?=some v->∃ (c:Nat) (u:Tok),l[j]?=some c/\v=Ek ⟨#[c]⟩ u)->Vals (l.map fun c=>V.str ⟨#[c]⟩) vs:=by
   intro l
   induction l with
   | nil=>intro vs hl _;cases (Bu hl);exact .nil
   | cons c l ih =>
     intro vs hl hv
     cases vs with
     | nil=>simp at hl
     | cons v vs =>
       obtain⟨c',u,hc,rfl⟩:=hv 0 v rfl
       cases (show c=c' by simpa using hc)
       exact .cons ⟨u,rfl⟩<|ih vs (by simpa using hl) fun j v h=>by simpa using hv (j+1) v (by simpa using h)
 refine aux _ _ (by rw[A2,h.1,A2]) fun j v hj=>?_;obtain⟨c,u,hc,hv⟩:=h.2 j v (by rw[<-BJ];exact hj);exact⟨c,u,by rw[BJ];exact hc,hv⟩
def zhz(z:Str):Reps K H io (z.cps.toList.map fun c=>V.str ⟨#[c]⟩) (signs z):=by
 unfold signs;generalize z.cps.toList=l
 induction l with
 | nil=>exact rfl
 | cons c l ih=>exact Reps.cons rfl ih
def zg8(hc:X.calm=true):zcN X (.type "list") zl3:=by
 rintro pins s M H xs us Q I r ⟨ds,st,io,d,st',R,S,e,k⟩;unfold zl3 at e
 split at e
 . rename_i z;obtain⟨hf,e⟩:=zao e;cases e;obtain⟨v,rfl,rfl⟩:=R.one;obtain⟨u,rfl,ru⟩:=r.one;obtain⟨t,rfl⟩:=ru;have hz:z.cps.size<=sizeLine:=of_decide_eq_true hf;refine call_list_str (hn:=hz) (I.ok.hd hc) z t fun h' tk acc c' hk hat hacc=>?_;refine⟨.ref s.heap.objs.size,upd H s.heap.objs.size<|.lst<|z.cps.toList.map fun c=>V.str ⟨#[c]⟩,I.laid (t':=tk) (fun b o q=>hk b o q) (Af _) ⟨by rw[Ag,A2];exact hz,acc.toList,c',zhy hacc,by simpa using hat⟩,rfl,?_⟩;exact k.lst S (zhz z)<|I.hok.fresh<|Af _
 . cases e
def zpV:GN:=orN zpU zl3
def ziJ(hc:X.calm=true):zcN X (.type "list") zpV:=zc2 ziH<|zg8 hc
def slK:D->Option Int->Option Int->Sto->Option (D×Sto):=fun x lo hi st=>match x with
 | .kl ds=>some (.ref st.length,st++[.lst (cutD ds lo hi)])
 | _=>none
def slB:D->Option Int->Option Int->Sto->Option (D×Sto):=fun x lo hi st=>orO (slA x lo hi st)<|slK x lo hi st
def mSlB(m:ME)(l h:MO):ME:=fun U st=>(m U st).bind fun (x,s1)=>(l U s1).bind fun (lo,s2)=>(h U s2).bind fun (hi,s3)=>slB x lo hi s3
def zci{lo hi:Option Expr}{ml mh:MO}(he:SE X e m)(hl:SO X lo ml)(hu:SO X hi mh):SE X (.Subscript e (.Slice lo hi none p2) pos) (mSlB m ml mh):=by
 rintro pins s M H Q I ⟨U,st,io,d,st',E,S,e0,k⟩;obtain⟨⟨x,s1⟩,e1,e0⟩:=zaf e0;obtain⟨⟨lo',s2⟩,e2,e0⟩:=zaf e0;obtain⟨⟨hi',s3⟩,e3,e0⟩:=zaf e0
 rcases zbE e0 with e0 | e0
 . exact zjk he hl hu pins s M H Q I ⟨U,st,io,d,st',E,S,by simp only[mSlA,e1,e2,e3,Ae];exact e0,k⟩
 . refine zer zkl he hl hu pins s M H Q I ?_;refine⟨U,st,io,x,s1,E,S,e1,fun v1 H1 k1 X1 S1 R1=>⟨U,s1,io++k1,lo',s2,E.ext S X1,S1,e2,fun H2 k2 X2 S2=>⟨U,s2,(io++k1)++k2,hi',s3,(E.ext S X1).ext S1 X2,S2,e3,fun H3 k3 X3 S3=>?_⟩⟩⟩;have R3:=(R1.ext S1 X2).ext S2 X3;have k':=((k.on S1 X1).on S2 X2).on S3 X3
   cases x with
   | kl ds =>
     cases e0;obtain⟨p,xs,rfl,hx,r⟩:=R3;exact⟨p,xs,rfl,hx.sq,fun q hq=>k'.lst S3 (ziB r _ _) hq⟩
   | _=>cases e0
def zkv:G2
 | .str i,.str j,st=>some (.bl (!(!(Builtin.Str.occurrences j i 0 j.length 1).isEmpty)),st)
 | _,_,_=>none
def zhX:OpM X (compareOp .NotIn) zkv:=by
 rintro pins s M H x y v u Q I rx ry ⟨dx,dy,st,io,d,st',Rx,Ry,S,e,k⟩
 cases dx with
 | str i =>
   cases dy with
   | str j=>cases e;exact zfH pins s M H x y v u Q I rx ry ⟨i,j,Rx,Ry,k.now S rfl⟩
   | _=>cases e
 | _=>cases e
def zh2:G2:=orG zlO zkv
def zjn(hu:X.A.units+100 < cLine)(ha:SE X a ma)(hb:SE X b mb)(hm:behindInMarks .NotIn b=false:=by rfl):SB X (.Compare a [.NotIn] [b] pos) (mTst<|mBin zh2 ma mb) :=
 zlj (zjo hu ha hb hm) (zbC zhX ha hb hm)
end L2.MP
namespace PySem.F
end PySem.F
namespace PySem
open Builtin
end PySem
namespace L2.MP
open PySem PySem.Spec PyProof.Rows
variable {st:Sto}{m ma mb:ME}{mm:MA}
section
variable {U U1:Rho} {s1:Sto} {n o:ME} {ms mq:MS} {mt mu:MT} {d:D} {ml mh:MO}
@[simp] theorem zsh:mWA m U st=(m U st).bind fun p=>orO (zft p.1 p.2) (match p.1 with | .str z=>some (⟨signs z,[]⟩,p.2) | _=>none):=rfl
@[simp] theorem zrV:mSlB m ml mh U st=(m U st).bind fun p=>(ml U p.2).bind fun q=>(mh U q.2).bind fun r=>slB p.1 q.1 r.1 r.2:=rfl
end
def zon:bootBuiltins "sum"=some (.builtin "sum"):=by decide +kernel
variable {X:Cx}{K:Ab}{H:Hp}{io:List Addr}{st':Sto}{b c e:Expr}{mc:ME}{pos:Pos}{pins:List (Addr×Obj)}{M:L2.St}{s:Shared}
section
variable {a:Expr} {es:List Expr}
def zn9:List D->Option (List Int)
 | []=>some []
 | .int i::r=>(zn9 r).map fun is=>i::is
 | _=>none
def zil:∀ {ys:List V} {its:List Value} {ds:List D} {ns:List Int},Reps K H io ys ds->Vals ys its->zn9 ds=some ns->its.length=ns.length/\∀ (j:Nat) (v:Value),its[j]?=some v->∃ t,v=DC (ns.getD j 0) t
 | _,_,[],ns,h,r,e=>by
   cases e
   cases (show _=[] from h)
   cases r;exact⟨rfl,fun j v h=>by simp at h⟩
 | _,_,d::ds,ns,h,r,e=>by
   obtain⟨y,ys,rfl,h1,h2⟩:=h
   cases d with
   | int i =>
     obtain⟨is,e2,e⟩:=zaj e;subst e
     cases r with
     | cons r1 r2 =>
       cases (show y=.int i from h1)
       obtain⟨t,rfl⟩:=r1;obtain⟨l,q⟩:=zil h2 r2 e2;refine⟨by simp[l],fun j v hj=>?_⟩
       cases j with
       | zero=>cases hj;exact⟨t,rfl⟩
       | succ j=>simpa using q j v (by simpa using hj)
   | _=>cases e
def zeV(i:Int):Bool:=decide (-1000000<=i)&&decide (i<=1000000)
def sumC:GN
 | [.ref n],st=>(zbi st n).bind fun ds=>(zn9 ds).bind fun ns=>if (ns.all zeV&&decide (ns.length<=100000))=true then some (.int ns.sum,st) else none
 | _,_=>none
def zep:∀ (ns:List Int) (j:Nat),j<=ns.length->preSum (fun i=>ns.getD i 0) j=(ns.take j).sum
 | ns,0,_=>by simp[preSum]
 | ns,j+1,h=>by
   have hj:j < ns.length:=h;have e1:(ns.take<|j+1).sum=(ns.take j).sum+ns[j]:=by rw[BM,Ah hj];simp only[Option.toList_some,List.sum_append,Fs,List.sum_nil,Int.add_zero]
   rw[preSum,zep ns j (by omega),e1];simp only[Aq,Ah hj,CA]
def zf6:∀ {ns:List Int},ns.all zeV=true->-1000000*(ns.length:Int)<=ns.sum/\ns.sum<=1000000*(ns.length:Int)
 | [],_=>by simp
 | i::ns,h=>by
   rw[Ec,Al] at h;obtain⟨h1,h2⟩:=h;unfold zeV at h1;rw[Al] at h1;have a1:=of_decide_eq_true h1.1;have a2:=of_decide_eq_true h1.2;have ih:=zf6 h2;rw[Fs,AB]
   push_cast
   omega
def zgG(hc:X.calm=true):zcN X (.builtin "sum") sumC:=by
 rintro pins s M H xs us Q I r ⟨ds,st,io,d,st',R,S,e,k⟩;unfold sumC at e
 split at e
 . rename_i n;obtain⟨ts,e0,e⟩:=zaf e;obtain⟨ns,e1,e⟩:=zaf e;obtain⟨hf,e⟩:=zao e;cases e;rw[Al] at hf;have hall:=hf.1;have hlen:=of_decide_eq_true hf.2;obtain⟨v,rfl,p,rfl,hp⟩:=R.one;obtain⟨u,rfl,ru⟩:=r.one;cases ru;obtain⟨ys,hx,r1⟩:=zaW S hp e0;obtain⟨its,rv,pl,hz⟩:=I.list hx;obtain⟨hl,hval⟩:=zil r1 rv e1;refine call_sum_walk<|Cp pl.isList ?_;have hlt:p < s.heap.objs.size:=by
     obtain⟨o,_,e,_⟩:=pl;exact Ai e
   refine⟨_,_,_,_,_,_,fun i=>ns.getD i 0,rfl,Walks.list (A:=X.A.in1) (I.ok.hd hc) s.heap.objs.size p (Ar hlt) its.toArray,⟨⟨_,Am _ rfl,rfl,rfl⟩,?_⟩,?_,?_,?_,fun h' tk t' hk=>?_⟩
   . obtain⟨o,nn,e,c,dd,sq⟩:=pl;exact⟨o,Ad _ e,c,nn,sq⟩
   . intro b hb;rw[Bm];simp at hb
     rcases hb with hb | hb
     . rw[hb];exact EL _
     rw[hb];exact Dm hlt
   . intro i v hv;exact hval i v<|by simpa using hv
   . intro j hj;have hj:j < ns.length:=by simpa[hl] using hj
     have b1:zeV (ns.getD j 0)=true:=by rw[Aq,Ah hj];exact List.all_eq_true.mp hall _<|AS hj
     have b2:(ns.take<|j+1).all zeV=true:=List.all_eq_true.mpr fun x hx=>List.all_eq_true.mp hall x<|B8 hx;have b3:=zf6 b2;rw[zep ns (j+1) hj];unfold zeV at b1;rw[Al] at b1;have a1:=of_decide_eq_true b1.1;have a2:=of_decide_eq_true b1.2;have hl2:(ns.take<|j+1).length<=100000:=by rw[Bb];omega
     unfold InLong;dsimp only;omega
   . refine⟨.int _,H,I.kept (t':=tk) fun b o q=>hk b o ?_ (Ad _ q),⟨t',rfl⟩,?_⟩
     . simp;exact Ar<|Ai q
     . have e2:preSum (fun i=>ns.getD i 0) its.toArray.size=ns.sum:=by
         rw[Au,hl,zep ns ns.length (Af _),Bz]
       rw[e2];exact k.now S rfl
 . cases e
end
variable {o:Obj}{d it:Addr}{es:Array DictEntry}{prog:Program}{w:World}{A:Around}{E:Value->Shared->Prop}{ep i:Nat}
def zgy{R:Value->Shared->Prop}(ty:s.TypeIs (.ref d) "dict")(hd:(d==sysModules)=false)(g:s.heap.get? d=some o)(dd:o.data=.dict es ep)
   (k:R (.ref s.heap.objs.size) { s with heap:=s.heap.push { cls:=.type "dict_keyiterator",data:=.fields #[.ref d,.int 0 0,.int es.size 0,.int ep 0] } }):wpAny (model prog w) A (pyIter<|.ref d) R E s:=by
 refine wpAny_pyIter_slot ty F.slot_dict_iter<|AV F.slot_dict_iter ty F.entry_dict_iter ?go<|F.args_dict_iter_1 _;unfold Builtin.«dict.__iter__»;refine Aa ?_;unfold Builtin.Dict.dictSlotNone;refine Aa<|CH ty ?_;show wpAny _ _ (pure<|AH d) _ _ s;refine Ac ?_;show wpAny _ _ (Builtin.Dict.showsAll d >>= _) _ _ s;unfold Builtin.Dict.showsAll;rw[if_neg (by rw[hd];exact Bi)];refine Aa<|Ac<|Aa<|Cs g dd<|Aa<|DH g dd ?_;refine Aa (AJ<|Ac ⟨_,rfl,"dict_keyiterator",_,⟨_,Am _ rfl,rfl⟩,F.slot_dict_keyiterator_next.lookup,?_⟩);simpa[rawInt] using k
def zgw{en:DictEntry}{R:Option Value->Shared->Prop}(hit:s.heap.IsKeyIter it d i es.size ep)(g:s.heap.get? d=some o)(dd:o.data=.dict es ep)(hx:es[i]?=some en)
   (k:∀ h',h'.IsKeyIter it d (i+1) es.size ep->BA it s.heap h'->R (some en.key) { s with heap:=h' }):wpAny (model prog w) A (pyNext<|.ref it) R E s:=by
 obtain⟨io,ig,ic,idt⟩:=id hit;have own:Builtin.Dict_items.ownsTuple "dict_keyiterator"=false:=by decide
 unfold pyNext;refine Aa (Dg<|AX (name:=Bs "__next__") hit.typeIs F.slot_dict_keyiterator_next<|AV F.slot_dict_keyiterator_next hit.typeIs F.entry_dict_keyiterator_next ?_<|F.args_dict_keyiterator_next_1 _);refine Aa<|Ac<|Aa<|Aa ?_;refine Aa<|Bv hit.typeIs<|Ac<|Aa<|wpAny_fieldsOf ig idt ?_;simp only[own,A8,if_false];show wpAny _ _ (if (AH d==A7)=true then _ else _) _ _ s;rw[if_neg (show ¬ (AH d==A7)=true from fun z=>Bi z)];refine Aa<|Ac<|Aa<|Cs g dd ?_;rw[if_neg (by simp)];refine Aa<|Ac<|Aa<|DH g dd ?_;rw[if_neg (by simp)];refine Ac ?_;have ni:¬ ((i:Int) < 0):=by omega
 simp only[ni,if_false,A4,hx];refine Aa<|Aa<|Bv hit.typeIs<|Ac<|Aa<|D1 hit.typeIs ?_;show wpAny _ _ (setField (.ref it) 1 (rawInt<|(i:Int)+1) >>= _) _ _ s;refine Aa<|C3 ig idt (by simp) ?_;have h2:(s.heap.update it (Ft (·.setIfInBounds 1 (rawInt<|(i:Int)+1)))).IsKeyIter it d (i+1) es.size ep:=⟨_,B5 _ ig<|DZ<|Cm idt _,(ED ..).trans ic,by rw[Cm idt];simp[rawInt]⟩
 refine Aa (AI (Aa (D1 (s:={ s with heap:=s.heap.update it (Ft (·.setIfInBounds 1 (rawInt<|(i:Int)+1))) }) h2.typeIs ?_)));show wpAny _ _ (pure en.key) _ _ _;exact Ac<|Ac ⟨_,rfl,Ac<|k _ h2<|BU ..⟩
def zgv{R:Option Value->Shared->Prop}(hh:A.handled=none)(hit:s.heap.IsKeyIter it d i es.size ep)(g:s.heap.get? d=some o)(dd:o.data=.dict es ep)(hx:es[i]?=none)
   (k:∀ h',DS it s.heap h'->R none { s with heap:=h' }):wpAny (model prog w) A (pyNext<|.ref it) R E s:=by
 obtain⟨io,ig,ic,idt⟩:=id hit;have own:Builtin.Dict_items.ownsTuple "dict_keyiterator"=false:=by decide
 unfold pyNext;refine Aa (Dg<|AX (name:=Bs "__next__") hit.typeIs F.slot_dict_keyiterator_next<|AV F.slot_dict_keyiterator_next hit.typeIs F.entry_dict_keyiterator_next ?_<|F.args_dict_keyiterator_next_1 _);refine Aa<|Ac<|Aa<|Aa ?_;refine Aa<|Bv hit.typeIs<|Ac<|Aa<|wpAny_fieldsOf ig idt ?_;simp only[own,A8,if_false];show wpAny _ _ (if (AH d==A7)=true then _ else _) _ _ s;rw[if_neg (show ¬ (AH d==A7)=true from fun z=>Bi z)];refine Aa<|Ac<|Aa<|Cs g dd ?_;rw[if_neg (by simp)];refine Aa<|Ac<|Aa<|DH g dd ?_;rw[if_neg (by simp)];refine Ac ?_;have ni:¬ ((i:Int) < 0):=by omega
 simp only[ni,if_false,A4,hx];refine Aa<|Aa<|Bv hit.typeIs<|Ac ?_;show wpAny _ _ (setField (.ref it) 0 .none >>= _) _ _ s;refine Aa<|C3 ig idt (by simp) ?_;show wpAny _ _ (newExc (.type "StopIteration") [] >>= _) _ _ _;simp only[newExc,newTuple];refine Aa (Aa<|AJ (Aa (m:=firstArgMember _ _)<|wpAny_of_eq (a:=A7) (by first | rfl | (simp only[firstArgMember];rfl))<|AJ ?_<|by size_fits)<|by size_fits);simp only[raiseNew];refine Aa<|wpAny_handled ?_;rw[show A.in1.handled=none from hh];refine Aa<|Ac<|wpAny_throw ?_;refine Aa (wpAny_isInstance (T:="StopIteration") (b:=true) ⟨_,Am _ rfl,rfl⟩ isSubtype_stop<|Ac ?_);exact k _<|((BU ..).extBut.push _).push _
def Itk(o:Obj)(d:Addr):It :=
 ⟨fun i H=>∃ ps p,H d=some (.frz o<|.dT ps)/\ps[i]?=some p,fun i H x H'=>∃ b ps k v,H'=H/\x=.ref b/\H d=some (.frz o<|.dT ps)/\ps[i]?=some (k,v)/\H b=some (.tup<|k.map kV),
   fun i H=>∃ ps,H d=some (.frz o<|.dT ps)/\ps.length<=i⟩
variable {tg:Expr}
def zi6{P:Program}(d it:Addr)(dd:o.data=.dict es ep) :
   Turn P w K tg (Itk o d) [it] it (fun i h=>h.IsKeyIter it d i es.size ep) where
 mem:=by simp
 obj:=fun i h st b hb=>by obtain⟨ob,e,c,dt⟩:=st;rw[List.mem_singleton.mp hb];exact⟨_,e,fun v z=>by rw[dt] at z;cases z⟩
 keep:=fun i h h' st k=>st.at fun ob e=>k it (by simp) ob e
 item:=by intro X hP hw hK hc i pins s M H E I hf st hg;subst hP hw hK;obtain⟨ps,⟨k,v⟩,hq,hx⟩:=hg;obtain⟨g,hl,ent⟩:=zfU (I.hok d _ hq) dd;obtain⟨en,b,he,hkey,hb,hv⟩:=ent i k v hx;obtain⟨f0,f1,f2,f3,f4,f5⟩:=hf it (by simp);refine zgw st g dd he fun h' st' sb=>?_;have I1:Inv X pins M H { s with heap:=h' }:=I.turned (t':=s.toks) (fun b o hb e=>(sb.2 b hb).trans e) f0 f1 f3 f4 f5;obtain⟨ob,e,c,dt⟩:=id st';exact⟨en.key,rfl,zoc (s:={ s with heap:=h' }) e c dt (by decide) ⟨.ref b,H,I1,by rw[hkey];rfl,⟨b,ps,k,v,rfl,rfl,hq,hx,hb⟩,st',fun b hb=>(hf b hb).1⟩⟩
 done:=by intro X hP hw hK hc i pins s M H E I hf st hg;subst hP hw hK;obtain⟨ps,hq,hx⟩:=hg;obtain⟨g,hl,_⟩:=zfU (I.hok d _ hq) dd;obtain⟨f0,f1,f2,f3,f4,f5⟩:=hf it (by simp);exact zgv (I.ok.hd hc) st g dd (by simp;omega) fun h' eb=>⟨rfl,I.turned (t':=s.toks) (fun b o hb e=>eb b o hb e) f0 f1 f3 f4 f5⟩
 self:=fun _ _ _ _ _ st h=>D8 st h
variable {n:Nat}{p:Addr}{y:V}
def zfq(kvs:List (List Key×D)):List D:=kvs.map fun p=>.tup<|p.1.map keyD
def zoB:D->Sto->Option (Wk×Sto)
 | .ref n,s=>match s[n]? with
   | some (.dt kvs)=>some (⟨zfq kvs,[]⟩,s.set n (.ft kvs))
   | _=>none
 | _,_=>none
def zqb{ps:List (List Key×V)}{kvs:List (List Key×D)}(S:StR K H io st)(hn:io[n]?=some p)(hp:H p=some (.frz o<|.dT ps))(r:KR (List Key) K H io ps kvs):ItOk K H io ⟨zfq kvs,[]⟩ (Itk o p) where
 go := fun i d H1 k1 s hd X1 S1 hs=>by
   have h1:=X1.frz _ _ _ hp;have hd:(zfq kvs)[i]?=some d:=hd;unfold zfq at hd;rw[Av] at hd;obtain⟨⟨k,y⟩,hk,rfl⟩:=zaj hd;have get:∀ {l:List (List Key×V)} {m:List (List Key×D)} {i:Nat},KR (List Key) K H io l m->m[i]?=some (k,y)->∃ v,l[i]?=some (k,v):=by
     intro l m i q
     induction q generalizing i with
     | nil=>intro e;simp at e
     | @cons a b _ _ h t ih =>
       cases i with
       | zero =>
         intro e;simp at e;subst e;obtain⟨a1,a2⟩:=a;have z:a1=k:=h.1;subst z;exact⟨a2,rfl⟩
       | succ j=>intro e;exact ih<|by simpa using e
   obtain⟨v,hv⟩:=get r hk;refine⟨⟨ps,_,h1,hv⟩,fun x H' y'=>?_⟩;obtain⟨b,ps',k',v',rfl,rfl,h1',hv',hb⟩:=y';rw[h1] at h1';cases h1';rw[hv] at hv';cases hv';exact⟨Ext.refl,S1,⟨b,_,rfl,hb,zeK k⟩⟩
 stop:=fun H1 k1 s X1 S1 hs=>⟨ps,X1.frz _ _ _ hp,by show ps.length<=(zfq kvs).length;unfold zfq;rw[Ag,KR.length r];exact Af _⟩
 stop':=fun H1 k1 s i hi X1 S1 hs=>⟨ps,X1.frz _ _ _ hp,by have hi:(zfq kvs).length<=i:=hi;unfold zfq at hi;rw[Ag,<-KR.length r] at hi;exact hi⟩
def mWK(m:ME):MI:=fun U st=>(m U st).bind fun (d,s)=>zoB d s
def znb{o:Expr}(ho:SE X o m):SI X tg o (mWK m):=by
 rintro pins s M H R I ⟨U,st,io,W,st',E,S,e,k⟩;obtain⟨⟨d,s1⟩,e1,e⟩:=zaf e
 cases d with
 | ref n =>
   unfold zoB at e;dsimp only at e
   split at e
   . rename_i kvs en;cases e;refine thn (ho pins s M H (fun v H'=>∃ ka,Ext io ka H H'/\StR X.K H' (io++ka) s1/\Rep X.K H' (io++ka) v (.ref n)) I ⟨U,st,io,_,s1,E,S,e1,fun v1 H1 k1 X1 S1 R1=>⟨k1,X1,S1,R1⟩⟩) ?_;rintro v s2 ⟨x,H1,I1,r1,k1,X1,S1,R1⟩;obtain⟨p,rfl,hp⟩:=R1;cases r1;obtain⟨ps,hH,r⟩:=S1.ob n p _ hp en;obtain⟨t1,t2,hs⟩:=zmc I1<|.inr ⟨ps,.inl hH⟩;obtain⟨_,_,xs,_,o,es,ep,g,_,dd,_,_⟩:=I1.hok p _ hH;refine zgy (o:=o) (es:=es) (ep:=ep) t1 hs g dd ?_;have J:=I1.kept (t':=s2.toks) (h':=s2.heap.push { cls:=.type "dict_keyiterator",data:=.fields #[.ref p,.int 0 0,.int es.size 0,.int ep 0] }) fun b u q=>Ad _ q;have J2:=Inv.freeze J hH (Ad _ g) (by simp) (by simp) (by simp) (by simp);obtain⟨X2,S2⟩:=zfE (o:=.frz o (.dT ps)) (ob:=.ft kvs) S1 hp en (fun o u z=>by rw[hH] at z;cases z) fun H' T e'=>⟨o,ps,e',KR.mono T r⟩
     refine⟨_,[_],_,_,_,rfl,J2,zi6 p _ dd,⟨_,Am _ rfl,rfl,rfl⟩,fun b hb=>?_,?_⟩
     . rw[List.mem_singleton.mp hb];refine I1.fpOk (Af _) ?_;rw[zax (Bo<|Ar<|Ai g)];exact I1.hok.fresh<|Af _
     . have hn':((io++k1)++[])[n]?=some p:=by rw[Ao];exact hp
       have r2:=KR.mono (ka:=[]) (X2.kp S1) r;have ok:=zqb S2 hn' zbg r2;refine k _ _ (k1++[]) (X1.trans S1 X2) (by rw[<-An];exact S2) (by rw[<-An];exact ok)
   . cases e
 | _=>cases e
def zmE(st:Sto)(n:Nat)(k:D):Option (Option D):=match st[n]? with
 | some (.ft kvs)=>match k with
   | .tup ds=>(keysOf ds).map fun q=>valD kvs q
   | _=>none
 | _=>none
def zgr{k:D}{r:Option D}(S:StR K H io st)(hp:io[n]?=some p)(ry:Rep K H io y k)(h:zmE st n k=some r):∃ o,DGet H p y o/\((r=none/\o=none)\/∃ d v,r=some d/\o=some v/\Rep K H io v d):=by
 unfold zmE at h
 split at h
 . rename_i kvs e
   split at h
   . rename_i ds;obtain⟨q,e1,h⟩:=zaj h;subst h;obtain⟨ob,ps,hH,r⟩:=S.ob n p _ hp e;obtain⟨b,xs,rfl,hb,rs⟩:=ry;have ex:=zbI rs e1;subst ex;refine⟨_,.inr ⟨ps,q,b,.inr ⟨ob,hH⟩,rfl,hb,rfl⟩,?_⟩
     rcases KR.val r q with ⟨h1,h2⟩ | ⟨d,v,h1,h2,h3⟩
     . exact .inl ⟨h1,h2⟩
     exact .inr ⟨d,v,h1,h2,h3⟩
   . cases h
 . cases h
variable {sl:Addr}{Q:Value->Shared->Prop}
def zhc{t:Tok}{Q:Int×Int×Nat->Shared->Prop}(hs:s.heap.IsSliceOf sl .none .none (.int (-1) t))(h:Q ((n:Int) - 1,-1,n) s):wpAny (model prog w) A (Builtin.Slice.sliceApplied (.ref sl)<|pure (n:Int)) Q E s:=by
 obtain⟨os,hos,hcs,hds⟩:=id hs;unfold Builtin.Slice.sliceApplied Builtin.Slice.sliceFields;refine Aa<|Aa<|A0 hos hds (x:=.none) rfl<|Aa<|A0 hos hds (x:=.none) rfl<|Aa<|A0 hos hds (x:=.int (-1) t) rfl<|Ac ?_;refine Aa<|HT.slicePart_ (.int (-1) t) ?_;show wpAny _ _ (if ((-1:Int)==0)=true then _ else _) _ _ s;rw[if_neg (by decide)];refine Aa<|HT.slicePart_ .none<|Aa<|HT.slicePart_ .none<|Aa<|Ac ?_;have e1:Builtin.Slice.sliceAdjust none none (-1) (n:Int)=((n:Int) - 1,-1):=by unfold Builtin.Slice.sliceAdjust;simp
 have e2:Builtin.Slice.slicePlaces ((n:Int) - 1) (-1) (-1)=n:=by
   unfold Builtin.Slice.slicePlaces;have h1:¬ ((-1:Int) > 0):=by decide
   simp only[h1,if_false]
   by_cases hn:(-1:Int) < (n:Int) - 1
   . simp[hn]
   simp[hn];omega
 show wpAny _ _ (match Builtin.Slice.sliceAdjust none none (-1) (n:Int) with | (lo,hi)=>pure (lo,(-1:Int),Builtin.Slice.slicePlaces lo hi (-1))) _ _ s;rw[e1];show wpAny _ _ (pure ((n:Int) - 1,(-1:Int),Builtin.Slice.slicePlaces ((n:Int) - 1) (-1) (-1))) _ _ s;rw[e2];exact Ac h
def ziv{α β:Type}{f g:α->Option β}:∀ {l:List α},(∀ x∈l,f x=g x)->l.filterMap f=l.filterMap g
 | [],_=>rfl
 | a::l,h=>by rw[Bw,Bw,h a Ak,ziv fun x hx=>h x (Aj _ hx)]
def zlx(xs:Array Value):((Ax xs.size).filterMap fun (m:Nat)=>xs[(((xs.size:Int) - 1)+(m:Int)*-1).toNat]?).toArray=xs.toList.reverse.toArray:=by
 congr 1
 have e:∀ m∈Ax xs.size,xs[(((xs.size:Int) - 1)+(m:Int)*-1).toNat]?=xs[xs.size - 1 - m]?:=fun m hm=>by
   have:=List.mem_range.mp hm;have:(((xs.size:Int) - 1)+(m:Int)*-1).toNat=xs.size - 1 - m:=by omega
   rw[this]
 rw[ziv e];have h2:(Ax xs.size).filterMap (fun m=>xs[xs.size - 1 - m]?)=((Ax xs.size).map fun k=>xs.size - 1 - k).filterMap (xs[·]?):=by rw[Ep];rfl
 rw[h2,PySem.W.krv_range,List.filterMap_reverse,PySem.W.krv_all]
def zdl{t:Addr}{items:Array Value}{tk:Tok}(ht:IsTup s.heap t items)(hs:s.heap.IsSliceOf sl .none .none (.int (-1) tk))
   (h:Q (.ref s.heap.objs.size) { s with heap:=s.heap.push { cls:=.type "tuple",data:=.seq items.toList.reverse.toArray } }) (hsz:items.size<=sizeLine):wpAny (model prog w) A (getItem (.ref t)<|.ref sl) Q E s:=by
 have htake:sizeOk (.seq items.toList.reverse.toArray):=by show items.toList.reverse.toArray.size<=sizeLine;rw[Au,Eh,A2];exact hsz
 obtain⟨os,hos,hcs,hds⟩:=id hs;have hTs:s.TypeIs (.ref sl) "slice":=⟨os,hos,hcs⟩
 unfold getItem
 try with_reducible refine AI ?_
 first | refine Aa (Ac ?_) | skip
 refine Aa<|Dk ht.typeIs (by decide) ?_;refine Aa (AX (name:=Bs "__getitem__") ht.typeIs A5<|AV A5 ht.typeIs CW ?_<|C7 _ _);show wpAny _ _ (Builtin.Tuple.tupleItemsOf (.ref t) >>= _) _ _ s;refine Aa<|Ea ht ?_;refine Aa<|B4 hTs ?_;rw[if_pos (by decide)];refine Aa<|zhc hs ?_;have hno:¬ ((((items.size:Int) - 1)==0&&(-1:Int)==1&&items.size==items.size)=true):=by intro q;rw[Al,Al] at q;exact absurd q.1.2<|by decide
 show wpAny _ _ (if (((items.size:Int) - 1)==0&&(-1:Int)==1&&items.size==items.size)=true then _ else _) _ _ s;rw[if_neg hno,zlx]
 first
   | exact Aa (m:=Builtin.Tuple.tupleExact _) (AJ (Ac ⟨_,rfl,Ac h⟩) htake)
   | exact Aa (m:=Builtin.Tuple.tupleExact _) (AJ (Aa<|Ac<|Ac ⟨_,rfl,Ac h⟩) htake)
   | exact Aa (Aa (m:=Builtin.Tuple.tupleExact _)<|AJ (Ac<|Ac ⟨_,rfl,Ac h⟩) htake)
   | exact Aa (Aa (m:=Builtin.Tuple.tupleExact _)<|AJ (Ac ⟨_,rfl,Ac h⟩) htake)
variable {mk md:ME}{p2:Pos}{se:Expr}
section
variable {a:Expr} {es:List Expr}
def zoH(st:Sto)(n:Nat)(k:D):Option (Option D):=orO (look st n k)<|zmE st n k
def zjP{k:D}{r:Option D}(S:StR K H io st)(hp:io[n]?=some p)(ry:Rep K H io y k)(h:zoH st n k=some r):∃ o,DGet H p y o/\((r=none/\o=none)\/∃ d v,r=some d/\o=some v/\Rep K H io v d):=by
 rcases zbE h with h | h
 . exact zfO S hp ry h
 exact zgr S hp ry h
def zn8(st:Sto)(n:Nat):Bool:=match st[n]? with
 | some (.dk _)=>true
 | some (.dt _)=>true
 | some (.fk _)=>true
 | some (.ft _)=>true
 | _=>false
def zmb(S:StR K H io st)(hp:io[n]?=some p)(h:zn8 st n=true):IsD H p:=by
 unfold zn8 at h
 split at h
 . rename_i kvs e;obtain⟨ps,q,_⟩:=S.ob n p _ hp e;exact .inl ⟨ps,.inl q⟩
 . rename_i kvs e;obtain⟨ps,q,_⟩:=S.ob n p _ hp e;exact .inr ⟨ps,.inl q⟩
 . rename_i kvs e;obtain⟨o,ps,q,_⟩:=S.ob n p _ hp e;exact .inl ⟨ps,.inr ⟨o,q⟩⟩
 . rename_i kvs e;obtain⟨o,ps,q,_⟩:=S.ob n p _ hp e;exact .inr ⟨ps,.inr ⟨o,q⟩⟩
 . cases h
def zlZ(md mk:ME):ME:=fun U st=>(md U st).bind fun (d,s1)=>match d with
 | .ref n=>if zn8 s1 n=true then (mk U s1).bind fun (k,s2)=>(zoH s2 n k).map fun r=>(r.getD .non,s2) else none
 | _=>none
def zng{o:Expr}{apos cpos:Pos}(hu:X.A.units+1 < cLine)(ho:SE X o md)(he:SE X e mk)(mm:M1 X o "get" apos e cpos:=by exact⟨rfl,rfl,rfl,rfl⟩):SE X (.Call (.Attribute o "get" apos) [e] [] cpos) (zlZ md mk) :=
 PE.imp (zlE hu ho he mm) <| by
   rintro M H Q ⟨U,st,io,d,st',E,S,e,k⟩;obtain⟨⟨x,s1⟩,e1,e⟩:=zaf e
   cases x with
   | ref n =>
     obtain⟨hd,e⟩:=zao e;obtain⟨⟨y,s2⟩,e2,e⟩:=zaf e;obtain⟨r,e3,e⟩:=zaj e;cases e;refine⟨U,st,io,_,s1,E,S,e1,fun v1 H1 k1 X1 S1 R1=>?_⟩;obtain⟨p,rfl,hp⟩:=R1;refine⟨p,rfl,zmb S1 hp hd,U,s1,io++k1,y,_,E.ext S X1,S1,e2,fun v2 H2 k2 X2 S2 R2=>?_⟩;obtain⟨o,g,z⟩:=zjP S2 (zbd hp) R2 e3;refine⟨o,g,?_⟩
     rcases z with ⟨rfl,rfl⟩ | ⟨d',v,rfl,rfl,rv⟩
     . exact ((k.on S1 X1).on S2 X2).now S2 rfl
     exact ((k.on S1 X1).on S2 X2).now S2 rv
   | _=>cases e
def zoi:G2:=fun d k st=>match d with
 | .ref n=>(zmE st n k).bind fun r=>r.map fun v=>(v,st)
 | _=>none
def zle{o i:Expr}(hu:X.A.units+1 < cLine)(ho:SE X o md)(hi:SE X i mk)(hs:NoSl i:=by intro _ _;rfl):SE X (.Subscript o i pos) (mBin zoi md mk):=PE.imp (zku hu ho hi hs) <| by
 rintro M H Q ⟨U,st,io,d,st',E,S,e,k⟩;obtain⟨⟨x,s1⟩,e1,e⟩:=zaf e;obtain⟨⟨y,s2⟩,e2,e⟩:=zaf e
 cases x with
 | ref n =>
   obtain⟨r,e3,e⟩:=zaf (show (zmE s2 n y).bind _=some (d,st') from e);obtain⟨w,e4,e⟩:=zaj e;cases e;subst e4;refine⟨U,st,io,_,s1,E,S,e1,fun v1 H1 k1 X1 S1 R1=>⟨U,s1,io++k1,y,_,E.ext S X1,S1,e2,fun v2 H2 k2 X2 S2 R2=>?_⟩⟩;obtain⟨p,rfl,hp⟩:=R1;obtain⟨o,g,⟨z,_⟩ | ⟨d',v,hd,hv,rv⟩⟩:=zgr S2 (zbd hp) R2 e3
   . cases z
   . cases hd;subst hv;exact⟨p,v,rfl,g,((k.on S1 X1).on S2 X2).now S2 rv⟩
 | _=>cases e
def zqW(K:Ab)(te:TE)(ts:TO):TE:=fun M H Q=>te M H fun x H1=>ts M H1 fun k H2=>k=some (-1)/\∃ a xs,x=.ref a/\H2 a=some (.tup xs)/\∀ p,H2 p=none->Q (.ref p) (upd H2 p<|.tup xs.reverse)
def znz{te:TE}{ts:TO}(he:PE X e te)(hs:PO X (some se) ts):PE X (.Subscript e (.Slice none none (some se) p2) pos) (zqW X.K te ts):=by
 intro pins s M H Q I h;refine D4<|thn (he pins s M H _ I h) ?_;rintro v s1 ⟨x,H1,I1,r1,q1⟩;refine wpAny_Slice ?_;rw[Eb];refine Ac<|Ac ?_;refine thn (hs pins s1 M H1 _ I1 q1) ?_;rintro vs s3 ⟨k,H3,I3,pk,hk,a,xs,hx,hq,q3⟩;subst hk;subst hx;cases r1;have I4:Inv X pins M H3 { s3 with heap:=s3.heap.push { cls:=.type "slice",data:=.fields #[.none,.none,vs] } }:=I3.kept (t':=s3.toks) fun b ob q=>Ad _ q;obtain⟨its,r,ht,hz⟩:=I4.tuple<|SqT.of (K:=X.K) hq;have hlen:=r.length;show wpAny (model X.prog X.w) X.A (subscriptTail e (.Slice none none (some se) p2) (.ref a)<|.ref s3.heap.objs.size) (EP X pins M Q) X.xe { s3 with heap:=s3.heap.push { cls:=.type "slice",data:=.fields #[.none,.none,vs] } }
 cases pk with
 | int i ti =>
 refine tail_any (ops:=[.ref a,.ref s3.heap.objs.size]) ht.typeIs PyProof.Rows.slot_tuple_getitem.lookup ?_ (by with_unfolding_all rfl);refine zdl ht (Er ..) ?_ (by rw[Au];omega);refine⟨.ref (s3.heap.push { cls:=.type "slice",data:=.fields #[.none,.none,.int (-1) ti] }).objs.size,_,I4.laid (t':=s3.toks) (o:=.tup xs.reverse) (fun b ob q=>Ad _ q) (Af _) ?_,rfl,q3 _<|I4.hok.fresh<|Af _⟩;exact⟨by rw[Eh];exact hz,_,zhh r,zcy.new _ _⟩
def zpT(m mk:ME):ME:=fun U st=>(m U st).bind fun (x,s1)=>(mk U s1).bind fun (k,s2)=>match x,k with
 | .tup ds,.int i=>if (decide (i=-1))=true then some (.tup ds.reverse,s2) else none
 | _,_=>none
def znf(he:SE X e m)(hk:SE X se mk):SE X (.Subscript e (.Slice none none (some se) p2) pos) (zpT m mk) :=
 PE.imp (znz he<|zkt hk) <| by
   rintro M H Q ⟨U,st,io,d,st',E,S,e,k⟩;obtain⟨⟨x,s1⟩,e1,e⟩:=zaf e;obtain⟨⟨y,s2⟩,e2,e⟩:=zaf e;refine⟨U,st,io,x,s1,E,S,e1,fun v1 H1 k1 X1 S1 R1=>?_⟩;refine⟨U,s1,io++k1,y,s2,E.ext S X1,S1,e2,fun v2 H2 k2 X2 S2 R2=>?_⟩
   cases x with
   | tup ds =>
     cases y with
     | int i =>
       obtain⟨hi,e⟩:=zao e;cases e;have hi1:=of_decide_eq_true hi;subst hi1;obtain⟨p,xs,rfl,hp,r⟩:=R1.ext S1 X2;exact⟨_,R2,rfl,p,xs,rfl,hp,fun l hl=>((k.on S1 X1).on S2 X2).tup S2 (zhI r) hl⟩
     | _=>cases e
   | _=>cases e
end
def ze9:typeLookup (.type "tuple") "keys"=pure none:=by rw[typeLookup_type,D0];kernel_rfl
structure Fill(prog:Program)(w:World)(A:Around)(D I:Addr)(n:Nat)(key val:Nat->Value)(T:Nat->Heap->Prop):Prop where
 keep:∀ i h h',T i h->(∀ b o,b≠I->h.get? b=some o->h'.get? b=some o)->T i h'
 step:∀ i (s:Shared) (Q:Unit->Shared->Prop) (E:Value->Shared->Prop),i < n->T i s.heap->(∀ h' tk,T (i+1) h'->BA D s.heap h'->Q () { s with heap:=h',toks:=tk })->wpAny (model prog w) A (dictSet D (key i) (val i)) Q E s
variable {a I:Addr}{k:Nat}{xs:Array Value}{x:Sr}{v:Value}{its:List Value}{key val:Nat->Value}{T:Nat->Heap->Prop}{h h':Heap}
def zif{Q:Option Value->Shared->Prop}{sl:Array (Option Value)}(hx:s.heap.get? a=some { cls:=.type "tuple",dict:=none,data:=.seq xs k,slots:=sl })(hA:A.handled=none)
   (h:∀ h' tk,(∀ b u,s.heap.get? b=some u->h'.get? b=some u)->Q none { s with heap:=h',toks:=tk }):wpAny (model prog w) A (getAttr? (.ref a) "keys") Q E s:=by
 obtain⟨hp,g,d,tk,os⟩:=s;have hT:∀ tk',(⟨hp,g,d,tk',os⟩:Shared).TypeIs (.ref a) "tuple":=fun _=>⟨_,hx,rfl⟩
 have f1:=Ew;have f3:=F.slot_tuple_getattribute.lookup;have f4:=F.slot_tuple_getattribute.bind<|.ref a;have f5:=am_tuple_getattr_none;unfold getAttr? getAttrBy? getAttrBy
 repeat (any_goals (first | assumption | exact hT _ | ((with_reducible show wpAny _ _ (call (Ed "tuple.__getattribute__") _ _) _ _ _);refine Dp F.slot_tuple_getattribute (hT _) am_entry_tuple_getattribute (F.args_tuple_getattribute_2 _ _) (meets_getattribute_miss_tuple a xs k sl _ _ ze9<|by decide +kernel) ⟨hx,hA,fun h' tk' e hx'=>?_⟩) | wp_step))
 obtain⟨t',u',he⟩:=hx'.there;show wpAny _ _ (getattributeRaised _ _ _ _ _ _ _) _ _ _;unfold getattributeRaised
 repeat (any_goals (first | assumption | wp_step))
 exact h _ _ hx'.keeps
def Sr.nextN{R:Option Value->Shared->Prop}(hit:x.at_ s.heap it i)(h:x.is s.heap xs)(hx:xs[i]?=some v)(k:∀ h',x.at_ h' it (i+1)->BA it s.heap h'->R (some v) { s with heap:=h' }) :
   wpAny (model prog w) A (pyNext<|.ref it) R E s:=by
 cases x with
 | l a=>exact Ct hit h hx k
 | t a=>exact Dx (show s.heap.IsTupleIter it a i from hit) (show s.heap.IsTuple a xs from h) hx k
def Sr.stopN{R:Option Value->Shared->Prop}(hh:A.handled=none)(hit:x.at_ s.heap it i)(h:x.is s.heap xs)(hx:xs[i]?=none)(k:∀ h',DS it s.heap h'->R none { s with heap:=h' }) :
   wpAny (model prog w) A (pyNext<|.ref it) R E s:=by
 cases x with
 | l a=>exact CD hh hit h hx k
 | t a=>exact DK hh (show s.heap.IsTupleIter it a i from hit) (show s.heap.IsTuple a xs from h) hx k
def zrG{R:Result->Shared->Prop}{D:Addr}{h0:Heap}(F:Fill prog w A.in1 D I n key val T)(hh:A.in1.handled=none)(hl:its.length=n)(hDI:D≠I)(hxD:x.ad≠D)(hxI:x.ad≠I) :
   ∀ (k i:Nat) (s:Shared),n - i=k->i<=n->x.at_ s.heap I i->x.is s.heap its.toArray->T i s.heap ->
   (∀ (j:Nat) (v:Value),its[j]?=some v->∃ p,v=.ref p/\IsTup s.heap p #[key j,val j]/\p≠D/\p≠I)->(∀ b o,b≠D->b≠I->h0.get? b=some o->s.heap.get? b=some o) ->
   (∀ h' tk,T n h'->(∀ b o,b≠D->b≠I->h0.get? b=some o->h'.get? b=some o)->R (.ok<|.ret .none) { s with heap:=h',toks:=tk }) ->
   codeAny (model prog w) A (.builtin "dict.update.loop" ⟨[.ref D,.ref I,rawInt i,.none],[]⟩) R s:=by
 intro k
 induction k with
 | zero =>
   intro i s hk hi hit hlist hd hp h0k hR;have hin:i=n:=by omega
   subst hin;refine CS zcj ?_;rw[B7 za0 _];show wpAny _ A.in1 (pyNext (.ref I) >>= _) _ _ s;refine Aa<|Sr.stopN hh hit hlist (by simp[hl]) fun h' hx=>?_;show wpAny _ A.in1 (Builtin.Dict.addKeywords D [] >>= fun _=>ret .none) _ _ _;exact Aa<|Ac<|Ac<|hR h' s.toks (F.keep _ _ _ hd fun b o hb e=>hx b o hb e) fun b o h1 h2 e=>hx b o h2 (h0k b o h1 h2 e)
 | succ k ih =>
   intro i s hk hi hit hlist hd hp h0k hR;have hlt:i < n:=by omega
   have hlt':i < its.length:=by omega
   refine CS zcj ?_;rw[B7 za0 _];show wpAny _ A.in1 (pyNext (.ref I) >>= _) _ _ s;have hv:its[i]?=some its[i]:=Ah hlt';refine Aa<|Sr.nextN (v:=its[i]) hit hlist (by simp[hlt']) fun h' hit' hx=>?_;obtain⟨p,ep,tp,nD,nI⟩:=hp i _ hv;have tp':IsTup h' p #[key i,val i]:=by obtain⟨o,g,c⟩:=tp;exact⟨o,hx.extBut p o nI g,c⟩
   have hd':T i h':=F.keep _ _ _ hd fun b o hb e=>hx.extBut b o hb e;rw[ep];refine Aa<|AI<|Aa<|wpAny_tryCatch<|zdv (s:={ s with heap:=h' }) tp' ?_;refine AI<|F.step i { s with heap:=h' } _ _ hlt hd' fun h2 tk2 hd2 hs2=>?_;have hI2:∀ b o,b≠D->h'.get? b=some o->h2.get? b=some o:=fun b o hb e=>hs2.extBut b o hb e;refine Ac ⟨Cz za0 _,?_⟩;refine ih (i+1) { s with heap:=h2,toks:=tk2 } (by omega) (by omega) ?_ ?_ hd2 (fun j v h1=>?_) (fun b o b1 b2 e=>hI2 b o b1 (hx.extBut b o b2<|h0k b o b1 b2 e)) fun h3 tk3 d3 k3=>hR h3 tk3 d3 k3
   . exact Sr.at_keep hit' fun u e=>hI2 I u (Bo hDI) e
   . exact Sr.is_keep (Sr.is_keep hlist fun u e=>hx.extBut _ u hxI e) fun u e=>hI2 _ u hxD e
   obtain⟨q,e,⟨o,g,c⟩,q1,q2⟩:=hp j v h1;exact⟨q,e,⟨o,hI2 q o q1<|hx.extBut q o q2 g,c⟩,q1,q2⟩
def Sr.pl(h:Heap)(xs:Array Value):Sr->Prop
 | .l a=>PlainL h a xs
 | .t a=>zcy h a xs
def Sr.pl_is(q:x.pl h xs):x.is h xs:=by
 cases x with
 | l a=>exact PlainL.isList q
 | t a=>exact zcy.t q
def Sr.pl_keep(q:x.pl h xs)(k:∀ b u,h.get? b=some u->h'.get? b=some u):x.pl h' xs:=by
 cases x with
 | l a=>exact PlainL.keeps q k
 | t a=>exact zcy.keeps q k
def zde(hh:A.handled=none)(hpl:x.pl s.heap its.toArray)(hl:its.length=n)
   (hF:∀ I:Addr,s.heap.objs.size < I->Fill prog w A.in1.in1 s.heap.objs.size I n key val T) (h0:T 0 (s.heap.push { cls:=.type "dict",data:=.dict #[] }))
   (hp:∀ (j:Nat) (v:Value),its[j]?=some v->∃ p,v=.ref p/\IsTup s.heap p #[key j,val j])
   (h:∀ h' tk,T n h'->(∀ b o,s.heap.get? b=some o->h'.get? b=some o)->Q (.ref s.heap.objs.size) { s with heap:=h',toks:=tk }) :
   wpAny (model prog w) A (call (.type "dict") [.ref x.ad]) Q E s:=by
 refine callType_codes (Q₁:=fun obj s₁=>obj=.ref s.heap.objs.size/\s₁={ s with heap:=s.heap.push { cls:=.type "dict",data:=.dict #[] } }) F.kt_called_dict (F.kt_typeCall_dict_1 _) F.entry_dict_init (kt_code_dict_new _ ⟨rfl,rfl⟩) ?_;rintro obj s₁ ⟨rfl,rfl⟩;have hnt:Shared.TypeIs { s with heap:=s.heap.push { cls:=.type "dict",data:=.dict #[] } } (.ref s.heap.objs.size) "dict":=⟨_,Am _ rfl,rfl⟩
 have k1:∀ b o,s.heap.get? b=some o->(s.heap.push { cls:=.type "dict",data:=.dict #[] }).get? b=some o:=fun b o e=>Ad _ e;have hpl1:=Sr.pl_keep hpl k1;have hlt:∀ b o,s.heap.get? b=some o->b < s.heap.objs.size:=fun b o e=>Ai e;have hll:x.ad < s.heap.objs.size:=by obtain⟨o,g⟩:=Sr.is_get<|Sr.pl_is hpl;exact hlt _ o g
 refine⟨hnt,F.args_dict_init_2 _ _,?_⟩;unfold Builtin.«dict.__init__»;refine Aa ?_;unfold Builtin.Dict.selfAndRest;refine Aa<|CH hnt ?_;show wpAny _ _ (pure (s.heap.objs.size,[AH x.ad])) _ _ _;refine Ac ?_;show wpAny _ _ (Builtin.Dict.updateFrom "dict.__init__" s.heap.objs.size (.ref x.ad) [] .none) _ _ _;unfold Builtin.Dict.updateFrom;have rest:∀ (h2:Heap) (tk2:Nat),(∀ b u,(s.heap.push { cls:=.type "dict",data:=.dict #[] }).get? b=some u->h2.get? b=some u) ->
     codeAny (model prog w) A.in1 (.builtin "dict.update.loop" ⟨[.ref s.heap.objs.size,.ref h2.objs.size,rawInt (0:Nat),.none],[]⟩) (wants (fun r s₂=>r=.none/\Q (.ref s.heap.objs.size) s₂) E) { s with heap:=h2.push x.ob,toks:=tk2 }:=by
   intro h2 tk2 k2;have hpl2:=Sr.pl_keep hpl1 k2;have hsz:s.heap.objs.size < h2.objs.size:=by obtain⟨o,ho,_⟩:=hnt;exact Ai<|k2 _ o ho
   have k3:∀ b o,h2.get? b=some o->(h2.push x.ob).get? b=some o:=fun b o e=>Ad _ e;have n1:s.heap.objs.size≠h2.objs.size:=Ar hsz;have n2:x.ad≠s.heap.objs.size:=Ar hll;have n3:x.ad≠h2.objs.size:=Ar<|BE hll hsz;have FF:=hF h2.objs.size hsz;refine zrG (A:=A.in1) (h0:=s.heap) (x:=x) (its:=its) FF hh hl n1 n2 n3 n 0 { s with heap:=h2.push x.ob,toks:=tk2 } rfl (A3 _) ?_ (Sr.pl_is<|Sr.pl_keep hpl2 k3) ?_ (fun j v e1=>?_) (fun b o _ _ e=>k3 b o (k2 b o<|k1 b o e)) fun h' tk d' k'=>?_
   . exact Sr.at_new<|Am _ (by cases x <;> rfl)
   . exact FF.keep _ _ _ h0 fun b o _ e=>k3 b o (k2 b o e)
   . obtain⟨p,e,⟨o,g,c⟩⟩:=hp j v e1;exact⟨p,e,⟨o,k3 p o<|k2 p o<|k1 p o g,c⟩,Ar<|hlt p o g,Ar<|BE (hlt p o g) hsz⟩
   exact⟨rfl,h h' tk d' fun b o e=>k' b o (Ar<|hlt b o e) (Ar<|BE (hlt b o e) hsz) e⟩
 cases x with
 | l a =>
   obtain⟨⟨cl,di,da,sl⟩,nn,g1,c1,c2,c3⟩:=id hpl1;simp only at c1 c2 c3;subst c1 c2 c3;refine Aa (B4 (show Shared.TypeIs { s with heap:=s.heap.push { cls:=.type "dict",data:=.dict #[] } } (.ref a) "list" from ⟨_,g1,rfl⟩) ?_);rw[if_pos (by decide)];refine Aa<|zgx g1 hh fun h2 tk2 k2=>?_;simp only[C8,if_true];refine Aa<|BX ?_;refine Aa<|Sr.iter (x:=.l a) (s:={ s with heap:=h2,toks:=tk2 }) (xs:=its.toArray) (Sr.pl_is (x:=.l a)<|Sr.pl_keep (x:=.l a) hpl1 k2) ?_;exact Ac ⟨Cz za0 _,rest h2 tk2 k2⟩
 | t a =>
   obtain⟨⟨cl,di,da,sl⟩,g1,c1,c2,nn,c3⟩:=id hpl1;simp only at c1 c2 c3;subst c1 c2 c3;refine Aa (B4 (show Shared.TypeIs { s with heap:=s.heap.push { cls:=.type "dict",data:=.dict #[] } } (.ref a) "tuple" from ⟨_,g1,rfl⟩) ?_);rw[if_pos (by decide)];refine Aa<|zif g1 hh fun h2 tk2 k2=>?_;simp only[C8,if_true];refine Aa<|BX ?_;refine Aa<|Sr.iter (x:=.t a) (s:={ s with heap:=h2,toks:=tk2 }) (xs:=its.toArray) (Sr.pl_is (x:=.t a)<|Sr.pl_keep (x:=.t a) hpl1 k2) ?_;exact Ac ⟨Cz za0 _,rest h2 tk2 k2⟩
noncomputable abbrev TE3:=List Key×Addr×Value
def zhL(acc xs:List TE3):List TE3:=xs.foldl (fun acc x=>storedH acc x.1 x.2.1 x.2.2) acc
def zgS{acc:List TE3}{k:List Key}{x:TE3}(h:x∈storedH acc k a v):(∃ y∈acc,y.1=x.1/\y.2.1=x.2.1)\/(x.1=k/\x.2.1=a):=by
 unfold storedH at h
 split at h
 . obtain⟨y,hy,e⟩:=List.mem_map.mp h;refine .inl ⟨y,hy,?_⟩;rw[<-e];unfold putAt
   split <;> exact⟨rfl,rfl⟩
 . rcases List.mem_append.mp h with h | h
   . exact .inl ⟨x,h,rfl,rfl⟩
   rw[List.mem_singleton.mp h];exact .inr ⟨rfl,rfl⟩
def zgf:∀ {xs acc:List TE3} {x:TE3},x∈zhL acc xs->(∃ y∈acc,y.1=x.1/\y.2.1=x.2.1)\/∃ y∈xs,y.1=x.1/\y.2.1=x.2.1
 | [],acc,x,h=>.inl ⟨x,h,rfl,rfl⟩
 | z::zs,acc,x,h=>by
   rcases zgf (xs:=zs) (acc:=storedH acc z.1 z.2.1 z.2.2) h with ⟨y,hy,e1,e2⟩ | ⟨y,hy,e⟩
   . rcases zgS hy with ⟨u,hu,f1,f2⟩ | ⟨f1,f2⟩
     . exact .inl ⟨u,hu,f1.trans e1,f2.trans e2⟩
     exact .inr ⟨z,Ak,f1.symm.trans e1,f2.symm.trans e2⟩
   exact .inr ⟨y,Aj _ hy,e⟩
def zgT(acc:List TE3)(k:List Key)(a:Addr)(v:Value):(storedH acc k a v).length<=acc.length+1:=by
 unfold storedH
 split <;> simp
def zen:∀ (xs acc:List TE3),(zhL acc xs).length<=acc.length+xs.length
 | [],acc=>by show acc.length<=acc.length+0;omega
 | z::zs,acc=>by have h1:=zen zs<|storedH acc z.1 z.2.1 z.2.2;have h2:=zgT acc z.1 z.2.1 z.2.2;show (zhL (storedH acc z.1 z.2.1 z.2.2) zs).length<=_;rw[AB];omega
def zhK{xs:List TE3}{x:TE3}(e:xs[i]?=some x):zhL [] (xs.take<|i+1)=storedH (zhL []<|xs.take i) x.1 x.2.1 x.2.2:=by rw[BM,e];unfold zhL;rw[EF];rfl
def kAt(xs:List TE3)(i:Nat):Value:=match xs[i]? with | some x=>.ref x.2.1 | none=>.none
def vAt(xs:List TE3)(i:Nat):Value:=match xs[i]? with | some x=>x.2.2 | none=>.none
def FT(prog:Program)(w:World)(D:Addr)(xs:List TE3)(i:Nat)(h:Heap):Prop :=
 h.DictOfH (tupleKind<|zat prog w) D (zhL []<|xs.take i)/\∀ x∈xs,(tupleKind<|zat prog w).is h x.1 x.2.1
def zfS{k:List Key}{b:Addr}(q:(tupleKind<|zat prog w).is h k b)(kk:∀ o,h.get? b=some o->h'.get? b=some o):(tupleKind<|zat prog w).is h' k b:=by obtain⟨o,its,n,h1,r⟩:=q;exact⟨o,its,n,kk o h1,r⟩
def zrK{D:Addr}{xs:List TE3}(hu:A.units < cLine)(hDI:D≠I)(hI:∀ x∈xs,x.2.1≠I)(hD:∀ x∈xs,x.2.1≠D)(hz:xs.length<=sizeLine):Fill prog w A D I xs.length (kAt xs) (vAt xs) (FT prog w D xs) where
 keep:=by
   rintro i h h' ⟨⟨o,es,ep,ho,hc,hd,he,his,hn⟩,hk⟩ k;have all:∀ x∈xs,(tupleKind<|zat prog w).is h' x.1 x.2.1:=fun x hx=>zfS (hk x hx) fun o e=>k _ o (hI x hx) e;refine⟨⟨o,es,ep,k _ o hDI ho,hc,hd,he,fun x hx=>?_,hn⟩,all⟩
   rcases zgf hx with ⟨y,hy,_⟩ | ⟨y,hy,e1,e2⟩
   . exact nomatch hy
   have:=all y<|B8 hy;rw[e1,e2] at this;exact this
 step:=by
   rintro i s Q E hi ⟨hd,hk⟩ h;have e:xs[i]?=some xs[i]:=Ah hi;have ek:kAt xs i=.ref xs[i].2.1:=by unfold kAt;rw[e]
   have ev:vAt xs i=xs[i].2.2:=by unfold vAt;rw[e]
   rw[ek,ev];have hl:(zhL []<|xs.take i).length<=sizeLine:=by have:=zen (xs.take i) [];rw[Bb,Be] at this;omega
   refine wpAny_dictSet_heap (hsz:=hl) hu (hk _<|AS hi) hd fun h' hd' hs=>h h' _ ⟨?_,fun x hx=>?_⟩ hs
   . rw[zhK e];exact hd'
   exact zfS (hk x hx) fun o g=>hs.extBut _ o (hD x hx) g
def ze6{κ:Type}[DecidableEq κ](kvs more:List (κ×V)):List (κ×V):=more.foldl (fun acc kv=>putK acc kv.1 kv.2) kvs
def ze7(kvs more:List (List Key×D)):List (List Key×D):=more.foldl (fun acc kv=>putD acc kv.1 kv.2) kvs
def zqE:D->Option (List Key×D)
 | .tup [.tup ks,v]=>(keysOf ks).map fun q=>(q,v)
 | _=>none
def zfG:List D->Option (List<|List Key×D)
 | []=>some []
 | d::r=>(zqE d).bind fun t=>(zfG r).map fun ts=>t::ts
def zlU:∀ {more:List (List Key×V)} {mx:List TE3} {kvs:List (List Key×V)} {xs:List TE3},KT H more mx->KT H kvs xs->KT H (ze6 kvs more) (zhL xs mx):=by
 intro more mx kvs xs r
 induction r generalizing kvs xs with
 | nil=>intro q;exact q
 | @cons p q ps qs h t ih =>
   intro r0;have e:KT H (putK kvs p.1 p.2) (storedH xs q.1 q.2.1 q.2.2):=by rw[<-h.1];exact KT.put r0 p.1 h.2.1 h.2.2
   exact ih e
def zjI:∀ {more:List (List Key×V)} {mds:List (List Key×D)} {kvs:List (List Key×V)} {kds:List (List Key×D)},KR (List Key) K H io more mds->KR (List Key) K H io kvs kds->KR (List Key) K H io (ze6 kvs more) (ze7 kds mds):=by
 intro more mds kvs kds r;unfold KR at r
 induction r generalizing kvs kds with
 | nil=>intro q;exact q
 | @cons p q ps qs h t ih =>
   intro r0;have e:KR (List Key) K H io (putK kvs p.1 p.2) (putD kds q.1 q.2):=by rw[<-h.1];exact KR.put r0 p.1 h.2
   exact ih e
def zkq(I:Inv X pins M H s):∀ {ys:List V} {ds:List D} {kds:List (List Key×D)} {its:List Value},Reps X.K H io ys ds->zfG ds=some kds->Vals ys its ->
   ∃ (kvV:List (List Key×V)) (xs:List TE3),KR (List Key) X.K H io kvV kds/\KT H kvV xs/\its.length=xs.length/\xs.length=kds.length/\∀ (j:Nat) (v:Value) (x:TE3),its[j]?=some v->xs[j]?=some x->∃ p,v=.ref p/\IsTup s.heap p #[.ref x.2.1,x.2.2]
 | _,[],kds,_,h,e,r=>by
   cases e
   cases (show _=[] from h)
   cases r;exact⟨[],[],.nil,.nil,rfl,rfl,fun j v kv h=>by simp at h⟩
 | _,d::ds,kds,_,h,e,r=>by
   obtain⟨y,ys,rfl,h1,h2⟩:=h;obtain⟨t,e1,e⟩:=zaf e;obtain⟨ts,e2,e⟩:=zaj e;subst e
   cases r with
   | @cons _ u _ us ru rus =>
     obtain⟨kvV,xs,a1,a2,a3,a4,a5⟩:=zkq I h2 e2 rus;unfold zqE at e1
     split at e1
     . rename_i ks v;obtain⟨q,eq1,e1⟩:=zaj e1;subst e1;obtain⟨p,vs,rfl,hp,rs⟩:=h1;obtain⟨v1,w1,rfl,q1,rs⟩:=rs;obtain⟨v2,w2,rfl,q2,rs⟩:=rs
       cases (show w2=[] from rs)
       obtain⟨b,zs,rfl,hb,rz⟩:=q1;have ek:=zbI rz eq1;subst ek;cases ru;obtain⟨ia,va,ht,_⟩:=I.tuple<|SqT.of (K:=X.K) hp
       cases va with
       | cons r1 t1 =>
         cases t1 with
         | cons r2 t2 =>
           cases t2;rename_i u1 u2
           cases (show u1=AH b from r1)
           refine⟨(q,v2)::kvV,(q,b,u2)::xs,.cons ⟨rfl,q2⟩ a1,.cons ⟨rfl,hb,r2⟩ a2,by rw[AB,AB,a3],by rw[AB,AB,a4],fun j v kv e1 e2=>?_⟩
           cases j with
           | zero =>
             cases e1;cases e2;exact⟨p,rfl,ht⟩
           | succ j=>exact a5 j v kv e1 e2
     . cases e1
def zra(hr:Room k A):A.units+2 < cLine:=by have:=hr.un;omega
def zog:GN
 | [.ref n],st=>(zbi st n).bind fun ds=>(zfG ds).bind fun kds=>if fits kds.length=true then some (.ref st.length,st++[.dt (ze7 [] kds)]) else none
 | [.tup ds],st=>(zfG ds).bind fun kds=>if fits kds.length=true then some (.ref st.length,st++[.dt (ze7 [] kds)]) else none
 | _,_=>none
def ziA{ys:List V}{ds:List D}{kds:List (List Key×D)}(I:Inv X pins M H s)(hh:A.handled=none)(hu:A.units+2 < cLine)(pl:x.pl s.heap its.toArray)(rv:Vals ys its)(r1:Reps X.K H io ys ds)(e1:zfG ds=some kds)(hf:kds.length<=sizeLine)
   (h:∀ s' kvV,Inv X pins M (upd H s.heap.objs.size<|.dT<|ze6 [] kvV) s'->KR (List Key) X.K H io kvV kds->Q (.ref s.heap.objs.size) s'):wpAny (model X.prog X.w) A (call (.type "dict") [.ref x.ad]) Q E s:=by
 obtain⟨kvV,xs,a1,a2,a3,a4,a5⟩:=zkq I r1 e1 rv;have hz:xs.length<=sizeLine:=by rw[a4];exact hf
 have hkey:∀ y∈xs,(tupleKind<|zat X.prog X.w).is s.heap y.1 y.2.1:=by
   clear a5 a4 a3 hz a1
   induction a2 with
   | nil=>intro y hy;exact nomatch hy
   | @cons p q ps qs hq t ih =>
     intro y hy
     rcases List.mem_cons.mp hy with e | hy
     . subst e;exact zfa I.hok (by rw[<-hq.1];exact hq.2.1)
     exact ih y hy
 have hlt:∀ y∈xs,y.2.1 < s.heap.objs.size:=fun y hy=>by obtain⟨o,_,_,g,_⟩:=hkey y hy;exact Ai g
 refine zde (T:=FT X.prog X.w s.heap.objs.size xs) (key:=kAt xs) (val:=vAt xs) hh pl a3 (fun i hi=>zrK hu (Ar hi) (fun y hy=>Ar (BE (hlt y hy) hi)) (fun y hy=>Ar (hlt y hy)) hz) ⟨Heap.DictOfH.new s.heap,fun y hy=>zfS (hkey y hy) fun o g=>Ad _ g⟩ (fun j v e=>?_) fun h' tk d' kk=>?_
 . have hj:j < xs.length:=by
     rw[<-a3];exact (List.getElem?_eq_some_iff.mp e).1
   have ex:xs[j]?=some xs[j]:=Ah hj;obtain⟨p,ep,tp⟩:=a5 j v _ e ex;refine⟨p,ep,?_⟩;unfold kAt vAt;rw[ex];exact tp
 . have hlV:kvV.length=xs.length:=Bc a2;obtain⟨⟨o,es,ep,ho,hc,hdd,he,his,hn⟩,_⟩:=d';rw[Bz] at he his hn;have km:KT H (ze6 [] kvV) (zhL [] xs):=zlU a2 .nil;have hm:(ze6 [] kvV).length<=sizeLine:=by
     have:=zen xs [];rw[Bc km];rw[Be] at this;omega
   have hd:(s.heap.objs.size==sysModules)=false:=beq_eq_false_iff_ne.mpr<|Bo<|Ar I.big;refine h _ kvV (I.laid (a:=s.heap.objs.size) (o:=.dT (ze6 [] kvV)) (t':=tk) kk (Af _) ⟨hm,hd,zhL [] xs,?_,o,es,ep,ho,hc,hdd,he,hn⟩) a1;exact KT.keeps km fun b ys e=>by rw[zax (zaq e<|I.hok.fresh<|Af _)];exact e
def zha(hc:X.calm=true)(hu:X.A.units+2 < cLine):zcN X (.type "dict") zog:=by
 rintro pins s M H xs us Q I r ⟨ds,st,io,d,st',R,S,e,k⟩;have fin:∀ (kds:List (List Key×D)),(d,st')=(D.ref st.length,st++[O.dt (ze7 [] kds)])->∀ s' kvV,Inv X pins M (upd H s.heap.objs.size<|.dT<|ze6 [] kvV) s'->KR (List Key) X.K H io kvV kds->∃ v H',Inv X pins M H' s'/\RelV v (.ref s.heap.objs.size)/\Q v H':=fun kds ed s' kvV I' a1=>by
   cases ed;obtain⟨E',S'⟩:=ze5 (o:=.dT (ze6 [] kvV)) (ob:=.dt (ze7 [] kds)) S (I.hok.fresh<|Af _) fun H' T e=>⟨_,e,zjI (KR.mono T a1) .nil⟩
   exact⟨.ref s.heap.objs.size,_,I',rfl,k _ _ [s.heap.objs.size] E' S' ⟨s.heap.objs.size,rfl,by rw[<-S.len];exact getElem?_len io _⟩⟩
 unfold zog at e
 split at e
 . rename_i n;obtain⟨zs,e0,e⟩:=zaf e;obtain⟨kds,e1,e⟩:=zaf e;obtain⟨hf,e⟩:=zao e;obtain⟨v,rfl,p,rfl,hp⟩:=R.one;obtain⟨u,rfl,ru⟩:=r.one;cases ru;obtain⟨ys,hx,r1⟩:=zaW S hp e0;obtain⟨its,rv,pl,hz⟩:=I.list hx;exact ziA (x:=.l p) I (I.ok.hd hc) hu pl rv r1 e1 (of_decide_eq_true hf)<|fin kds (by cases e;rfl)
 . rename_i zs;obtain⟨kds,e1,e⟩:=zaf e;obtain⟨hf,e⟩:=zao e;obtain⟨v,rfl,p,ys,rfl,hp,r1⟩:=R.one;obtain⟨u,rfl,ru⟩:=r.one;cases ru;obtain⟨hz,its,rv,pl⟩:=(show zcx X.prog X.w H s.heap p (.tup ys) from I.hok p _ hp)
   exact ziA (x:=.t p) I (I.ok.hd hc) hu pl rv r1 e1 (of_decide_eq_true hf)<|fin kds (by cases e;rfl)
 . cases e
def mulB:G2:=intD (fun i j=>decide (Builtin.Int.intBits i<=2 ^ 20)&&decide (Builtin.Int.intBits j<=2 ^ 20)) fun i j=>.int<|i*j
def zeZ:OpM X (binaryOp .Mult) mulB:=zd3 (C:=fun i j=>Builtin.Int.intBits i<=2 ^ 20/\Builtin.Int.intBits j<=2 ^ 20) (opI fun i j _ _ _ _ _ hc q=>PyProof.Rows.mul_int q (IntMulOk.of_bits hc.1 hc.2)) fun i j h=>by rw[Al] at h;exact⟨of_decide_eq_true h.1,of_decide_eq_true h.2⟩
def FK(prog:Program)(w:World)(D:Addr)(kvs:List (Key×Value))(i:Nat)(h:Heap):Prop:=h.DictOf (zat prog w) D<|merged []<|kvs.take i
def xAt(xs:List Value)(i:Nat):Value:=match xs[i]? with | some x=>x | none=>.none
def wAt(xs:List (Key×Value))(i:Nat):Value:=match xs[i]? with | some x=>x.2 | none=>.none
def zrL{D:Addr}{kvs:List (Key×Value)}{kxs:List Value}(hDI:D≠I)(hz:kvs.length<=sizeLine)(hk:∀ (j:Nat) (kv:Key×Value),kvs[j]?=some kv->(zat prog w).is kv.1 (xAt kxs j)=true):Fill prog w A D I kvs.length (xAt kxs) (wAt kvs) (FK prog w D kvs) where
 keep:=fun i h h' ⟨o,es,ep,ho,r⟩ k=>⟨o,es,ep,k D o hDI ho,r⟩
 step:=fun i s Q E hi hd h=>by
   have e:kvs[i]?=some kvs[i]:=Ah hi;have ev:wAt kvs i=kvs[i].2:=by unfold wAt;rw[e]
   rw[ev];have hl:(merged []<|kvs.take i).length<=sizeLine:=by have:=zdy (kvs.take i) [];rw[Bb,Be] at this;omega
   refine Eg (hk i _ e) hd (fun h' hd' hs=>h h' _ ?_ hs) hl;have e1:stored (merged []<|kvs.take i) kvs[i].1 kvs[i].2=merged [] (kvs.take<|i+1):=(merged_take_succ [] kvs i _ e).symm;unfold FK;rw[<-e1];exact hd'
def zgh{h:Heap}:∀ {its:List Value} {kvs:List (Key×Value)},its.length=kvs.length->(∀ (j:Nat) (v:Value) (kv:Key×Value),its[j]?=some v->kvs[j]?=some kv->zfo prog w h v kv) ->
   ∃ kxs:List Value,∀ (j:Nat) (v:Value) (kv:Key×Value),its[j]?=some v->kvs[j]?=some kv->∃ p,v=.ref p/\IsTup h p #[xAt kxs j,kv.2]/\(zat prog w).is kv.1 (xAt kxs j)=true
 | [],kvs,_,_=>⟨[],fun j v kv e=>by simp at e⟩
 | v::its,[],e,_=>by cases e
 | v::its,kv::kvs,e,hp=>by
   obtain⟨kxs,hk⟩:=zgh (its:=its) (kvs:=kvs) (by simpa using e) fun j u q e1 e2=>hp (j+1) u q e1 e2;obtain⟨p,kx,e1,e2,e3⟩:=hp 0 v kv rfl rfl;refine⟨kx::kxs,fun j u q f1 f2=>?_⟩
   cases j with
   | zero =>
     cases f1;cases f2;exact⟨p,e1,e2,e3⟩
   | succ j=>exact hk j u q f1 f2
def zoI:GN
 | [.tup ds],st=>(zmD ds).bind fun kds=>if fits kds.length=true then some (.ref st.length,st++[.dk (ze8 [] kds)]) else none
 | _,_=>none
def zhb(hc:X.calm=true):zcN X (.type "dict") zoI:=by
 rintro pins s M H xs us Q I r ⟨ds,st,io,d,st',R,S,e,k⟩;unfold zoI at e
 split at e
 . rename_i zs;obtain⟨kds,e1,e⟩:=zaf e;obtain⟨hf,e⟩:=zao e;cases e;obtain⟨v,rfl,p,ys,rfl,hp,r1⟩:=R.one;obtain⟨u,rfl,ru⟩:=r.one;cases ru;obtain⟨hz,its,rv,pl⟩:=(show zcx X.prog X.w H s.heap p (.tup ys) from I.hok p _ hp)
   obtain⟨kvV,kvs,a1,a2,a3,a4,a5⟩:=zlu I r1 e1 rv;have hzk:kvs.length<=sizeLine:=by rw[a4];exact of_decide_eq_true hf
   obtain⟨kxs,hk⟩:=zgh a3 a5;have hkk:∀ (j:Nat) (kv:Key×Value),kvs[j]?=some kv->(zat X.prog X.w).is kv.1 (xAt kxs j)=true:=fun j kv e=>by
     have hj:j < its.length:=by rw[a3];exact (List.getElem?_eq_some_iff.mp e).1
     obtain⟨_,_,_,q⟩:=hk j _ kv (Ah hj) e;exact q
   refine zde (x:=.t p) (T:=FK X.prog X.w s.heap.objs.size kvs) (key:=xAt kxs) (val:=wAt kvs) (I.ok.hd hc) pl a3 (fun i hi=>zrL (Ar hi) hzk hkk) (DF s.heap) (fun j v e=>?_) fun h' tk d' kk=>?_
   . have hj:j < kvs.length:=by
       rw[<-a3];exact (List.getElem?_eq_some_iff.mp e).1
     have ex:kvs[j]?=some kvs[j]:=Ah hj;obtain⟨p',ep,tp,_⟩:=hk j v _ e ex;refine⟨p',ep,?_⟩;unfold wAt;rw[ex];exact tp
   . have d':h'.DictOf (zat X.prog X.w) s.heap.objs.size (merged [] kvs):=by
       have:FK X.prog X.w s.heap.objs.size kvs kvs.length h':=d';unfold FK at this
       rwa [Bz] at this
     have hlV:kvV.length=kvs.length:=Bc a2;have hm:(zdk [] kvV).length<=sizeLine:=by have:=zby kvV [];rw[Be] at this;omega
     have hd:(s.heap.objs.size==sysModules)=false:=beq_eq_false_iff_ne.mpr<|Bo<|Ar I.big;refine⟨.ref s.heap.objs.size,_,I.laid (a:=s.heap.objs.size) (o:=.dK (zdk [] kvV)) (t':=tk) kk (Af _)<|zj1 hm hd (a2.merge .nil) d',rfl,?_⟩;obtain⟨E',S'⟩:=ze5 (o:=.dK (zdk [] kvV)) (ob:=.dk (ze8 [] kds)) S (I.hok.fresh<|Af _) fun H' T e=>⟨_,e,zh7 (KR.mono T a1) .nil⟩
     exact k _ _ [s.heap.objs.size] E' S' ⟨s.heap.objs.size,rfl,by rw[<-S.len];exact getElem?_len io _⟩
 . cases e
def zoh:GN:=orN zoJ zoI
def zed(hc:X.calm=true):zcN X (.type "dict") zoh:=zc2 (ziL hc)<|zhb hc
section
variable {a:Expr} {es:List Expr}
def zib(i:Int):Bool:=decide (i.natAbs.log2 < 1920)
def strC:GN
 | [.str x],st=>some (.str x,st)
 | [.int i],st=>if zib i=true then some (.str (toString i),st) else none
 | _,_=>none
def zj7:zcN X (.type "str") strC:=by
 rintro pins s M H xs us Q I r ⟨ds,st,io,d,st',R,S,e,k⟩;unfold strC at e
 split at e
 . rename_i x;cases e;obtain⟨v,rfl,rv⟩:=R.one
   cases (show v=.str x from rv)
   obtain⟨u,rfl,t,rfl⟩:=r.one;exact PySem.P.str_of_str ⟨.str x,H,I,⟨t,rfl⟩,k.now S rfl⟩
 . rename_i i;obtain⟨hf,e⟩:=zao e;cases e;obtain⟨v,rfl,rv⟩:=R.one
   cases (show v=.int i from rv)
   exact zfW pins s M H _ us Q I r ⟨i,rfl,of_decide_eq_true hf,k.now S rfl⟩
 . cases e
end
end L2.MP
namespace L2.MP
variable {prog:Program}{w:World}{A:Around}{E:Value->Shared->Prop}{s:Shared}
section
open PySem PySem.Spec PyProof.Rows PySem.Builtin PySem.Builtin.Str
variable {z y:Str} {t u:Tok} {Q:Value->Shared->Prop}
end
variable {X:Cx}{K:Ab}{H:Hp}{io:List Addr}{st st':Sto}{a b c e:Expr}{es:List Expr}{ma mb mc m:ME}{mm:MA}{pos:Pos}
section
open PySem PySem.Spec PyProof.Rows
end
open PySem
theorem zmz{c:MT}{n:ME}{U:Rho}:mIte c m n U st=(c U st).bind fun p=>if p.1=true then m U p.2 else n U p.2:=rfl
open PySem.Spec PyProof.Rows
@[irreducible] def JSs (X:Cx) (s:List Stmt) (m:MS):Prop:=SSs X s m
@[irreducible] def JS (X:Cx) (s:Stmt) (m:MS):Prop:=SS X s m
@[irreducible] def JA (X:Cx) (es:List Expr) (m:MA):Prop:=SA X es m
variable {body:List Stmt}{ms:MS}{p2:Pos}
section
variable {st1 st2:Stmt} {rest orelse:List Stmt} {mt mu:MT} {mq mr:MS} {mg:MG} {mi:MI}
def JSs.out(h:JSs X body ms):SSs X body ms:=by unfold JSs at h;exact h
def JSs.mk(h:SSs X body ms):JSs X body ms:=by unfold JSs;exact h
def JS.out(h:JS X st1 ms):SS X st1 ms:=by unfold JS at h;exact h
def JS.mk(h:SS X st1 ms):JS X st1 ms:=by unfold JS;exact h
def JA.out(h:JA X es mm):SA X es mm:=by unfold JA at h;exact h
def JA.mk(h:SA X es mm):JA X es mm:=by unfold JA;exact h
def zbn:JSs X [] zdR:=.mk zm0
def zal(h:JS X st1 ms):JSs X [st1] ms:=.mk<|zmZ h.out
def zai(h:JS X st1 ms)(h2:JSs X rest mq):JSs X (st1::rest) (mSeq ms mq):=.mk<|zk1 h.out h2.out
def zfb(hc:SB X c mt)(h1:JSs X body ms)(h2:JSs X orelse mq):JS X (.If c body orelse pos) (mIf mt ms mq):=.mk<|zq6 hc h1.out h2.out
def zcr{tg iter:Expr}(hp:PassesOwn (model X.prog X.w) X.A X.env X.xe)(hc:X.calm=true)(hi:SI X tg iter mi)(hg:SG X tg mg)(hb:JSs X body ms)(hs:∀ x,foldedSetIterable iter X.env x=pure x:=by intro _;rfl):JS X (.For tg iter body [] pos) (mFor mi mg ms):=.mk<|zo0 hp hc hi hg hb.out hs
def zbJ:JA X [] mNil:=.mk zag
def zah(ha:SE X e m)(hr:JA X es mm)(hs:∀ q,starEach (e::q) X.env=(false,eval e X.env)::starEach q X.env:=by intro _;rfl):JA X (e::es) (zac m mm):=.mk<|zaa ha hr.out<|hs _
def zn6{i:Nat}{x:Str}{pos':Pos}(hN:X.N.Nodup)(hi:X.N[i]?=some x)(hx:Loc X.env.scope x)(h:JA X es mm)(hf:X.fn x=true\/X.env.scope.names.lookup x=some .local:=by first | exact .inl rfl | exact .inr rfl | assumption):JS X (.Assign [.Name x pos'] (.List es p2) pos) (mAsg (mLst mm)<|gNm i):=.mk<|zm2 hN hi hx (za4 h.out) rfl hf
end
variable {o:Obj}{ep:Nat}
def zhg(hh:A.handled=none)(it d:Addr)(hne:d≠it){es:Array DictEntry}(dd:o.data=.dict es ep) :
   Walks prog w A it [it,d] [it] es.size (fun i v=>∃ en,es[i]?=some en/\v=en.key) (fun i h=>h.IsKeyIter it d i es.size ep/\h.get? d=some o) where
 sub:=fun b hb=>by simp at hb;simp[hb]
 frame:=fun _ _ _ st hk=>⟨st.1.at fun o e=>hk it (by simp) o e,hk d (by simp) o st.2⟩
 item:=fun i s Q E hi st hQ=>by have hx:es[i]?=some es[i]:=Array.getElem?_eq_getElem hi;refine zgw st.1 st.2 dd hx fun h' st' sb=>?_;exact hQ _ h' s.toks ⟨_,hx,rfl⟩ ⟨st',(sb.2 d hne).trans st.2⟩ fun b ob hb e=>(sb.2 b fun z=>hb (by simp[z])).trans e
 done:=fun s Q E st hQ=>zgv hh st.1 st.2 dd (by simp) fun h' eb=>hQ h' s.toks fun b ob hb e=>eb b ob (fun z=>hb (by simp[z])) e
 self:=fun _ _ _ _ st hQ=>D8 st.1 hQ
def zk3{d:Addr}{es:Array DictEntry}(dd:o.data=.dict es ep)(hd:(d==sysModules)=false)(ty:∀ s:Shared,s.heap.get? d=some o->s.TypeIs (.ref d) "dict") :
   PySem.W.KdlSrc prog w "dict" d d es.size (fun i v=>∃ en,es[i]?=some en/\v=en.key) (fun h=>h.get? d=some o) where
 type:=ty
 there:=fun _ g=>⟨Ai g,Ai g⟩
 keep:=fun _ _ g hk=>hk d (.inl rfl) o g
 notList:=by decide
 notTuple:=by decide
 hint:=fun _ _ s _ g hq=>PySem.W.kdl_hint_dict (ty s g) hq
 iter:=fun A' s hh g=>⟨_,_,fun _ _ hq=>zgy (ty s g) hd g dd hq,zhg hh _ d (Ar<|Ai g) dd,⟨⟨_,Am _ rfl,rfl,rfl⟩,Ad _ g⟩⟩
def zgu{K:Ab}{H:Hp}{io:List Addr}:∀ {vs:List Value} {ps:List (List Key×V)} {kvs:List (List Key×D)},KR (List Key) K H io ps kvs->vs.length=ps.length->(∀ (j:Nat) (v:Value) (p:List Key×V),vs[j]?=some v->ps[j]?=some p->∃ b,v=.ref b/\H b=some (.tup<|p.1.map kV))->∃ ys,Vals ys vs/\Reps K H io ys (zfq kvs)
 | [],_,_,.nil,_,_=>⟨[],.nil,rfl⟩
 | [],_::_,_,.cons _ _,hl,_=>by simp at hl
 | v::vs,_,_,.nil,hl,_=>by simp at hl
 | v::vs,p::ps,q::kvs,.cons h t,hl,hv=>by obtain⟨b,rfl,hb⟩:=hv 0 v p rfl rfl;obtain⟨ys,r1,r2⟩:=zgu (vs:=vs) t (by simpa using hl) fun j v p e1 e2=>hv (j+1) v p (by simpa using e1) (by simpa using e2);refine⟨.ref b::ys,.cons rfl r1,Reps.cons ⟨b,_,rfl,hb,?_⟩ r2⟩;rw[h.1];exact zeK _
def zl4:GN
 | [.ref n],st=>match st[n]? with
   | some (.dt kvs)=>if fits kvs.length=true then some (.ref st.length,st++[.lst (zfq kvs)]) else none
   | _=>none
 | _,_=>none
def zg9(hc:X.calm=true):zcN X (.type "list") zl4:=by
 rintro pins s M H xs us Q I r ⟨ds,st,io,d,st',R,S,e,k⟩;unfold zl4 at e
 split at e
 . rename_i n
   split at e
   . rename_i kvs en;obtain⟨hf,e⟩:=zao e;cases e;obtain⟨v,rfl,p,rfl,hp⟩:=R.one;obtain⟨u,rfl,ru⟩:=r.one;cases ru;obtain⟨ps,hH,rk⟩:=S.ob n p _ hp en;obtain⟨t1,t2,hs⟩:=zmc I<|.inr ⟨ps,.inl hH⟩;obtain⟨z,y,xs,r0,o,es,ep,g,ex,dd,et,nd⟩:=I.hok p _ hH;have x:=I.hok p _ hH;have fz:zcx X.prog X.w H s.heap p (.frz o<|.dT ps):=⟨g,x⟩
     obtain⟨g',hl,ent⟩:=zfU fz dd;have hsz:es.size<=sizeLine:=by rw[hl,KR.length rk];exact of_decide_eq_true hf
     refine PySem.W.kdl_call (zk3 (prog:=X.prog) (w:=X.w) dd hs fun s' g'=>?_) (I.ok.hd hc) g hsz fun h' tk acc c' hk hat hacc=>?_
     . obtain⟨o',ho',hc'⟩:=t1;rw[g] at ho';cases ho';exact⟨o,g',hc'⟩
     . obtain⟨ys,rv,rr⟩:=zgu (vs:=acc.toList) rk (by rw[A2,hacc.1,hl]) fun j v q e1 e2=>by
         obtain⟨en',h1,h2⟩:=hacc.2 j v (by rw[<-BJ];exact e1);obtain⟨en2,b,h3,h4,h5,_⟩:=ent j q.1 q.2 e2;rw[h1] at h3;cases h3;exact⟨b,by rw[h2,h4],h5⟩
       have hyl:ys.length<=sizeLine:=by rw[rv.length,A2,hacc.1];exact hsz
       refine⟨.ref s.heap.objs.size,upd H s.heap.objs.size<|.lst ys,I.laid (t':=tk) (fun b o q=>hk b o q) (Af _) ⟨hyl,acc.toList,c',rv,by simpa using hat⟩,rfl,?_⟩;exact k.lst S rr<|I.hok.fresh<|Af _
   . cases e
 . cases e
def zmF:GN:=orN zpV zl4
def ziI(hc:X.calm=true):zcN X (.type "list") zmF:=zc2 (ziJ hc)<|zg9 hc
variable {ex cause:Option Expr}{h0:ExceptHandler}{hs:List ExceptHandler}
def zlY:MS:=fun _ _=>none
def zk2:SS X (.Raise ex cause pos) zlY:=fun pins s M H D I ⟨U,st,io,f,st',E,S,e,_⟩=>by cases e
def zm1(hb:SSs X body ms)(hx:∀ e s,X.xe e s->False:=by intro _ _ h;exact h):SS X (.Try body (h0::hs) [] [] pos) ms:=by
 intro pins s M H D I h;refine wpAny_Try_except<|Bj (hb pins s M H D I h) (fun f s1 q=>?_) fun e s1 z=>(hx e s1 z).elim
 cases f with
 | next=>exact Ac q
 | brk=>exact q
 | cont=>exact q
 | ret u=>exact q
def zl9:JS X (.Raise ex cause pos) zlY:=.mk zk2
def zn5(hb:JSs X body ms)(hx:∀ e s,X.xe e s->False:=by intro _ _ h;exact h):JS X (.Try body (h0::hs) [] [] pos) ms:=.mk<|zm1 hb.out hx
def zlP:G2:=orG zlM fun x y st=>match x,y with
 | .bl a,.bl b=>some (.bl (a != b),st)
 | _,_=>none
def zfI:OpM X (compareOp .IsNot) zlP:=zhV zhW (by
 rintro pins s M H x y v u Q I rx ry ⟨dx,dy,st,io,d,st',Rx,Ry,S,e,k⟩
 (try dsimp only at e)
 split at e
 . cases e
   cases (show x=_ from Rx)
   cases (show y=_ from Ry)
   cases rx;cases ry;exact PyProof.Rows.isnot_bool ⟨.bl _,H,I,rfl,k.now S rfl⟩
 . cases e)
variable {vs:List Value}
def zf8{l:Addr}{R:Value->Shared->Prop}(ht:IsTup s.heap l vs.toArray)(hz:vs.length<=sizeLine)
   (go:∀ D h',(∀ b o,s.heap.get? b=some o->h'.get? b=some o)->s.heap.get? D=none->h'.get? D=some (seqObj "list" vs.toArray 0)->wpAny (model prog w) A.in1.in1 (Builtin.«list.sort» ⟨[.ref D],[]⟩) (fun f s'=>f=.done (.ret .none)/\R (.ref D) s') (fun _ _=>False) { s with heap:=h' }) :
   wpAny (model prog w) A (call (.builtin "sorted") [.ref l]) R E s:=by
 obtain⟨o,g,c,n,d⟩:=ht;refine Dr kind_sorted plain_sorted entry_sorted (args_sorted1 _) ?_;unfold Builtin.«sorted»;refine Aa (m:=checkCount "sorted" 1 1 _) (Ac<|Aa<|PySem.wpAny_collect_seq l (.inr rfl) g c d (fun h1 k1=>Aa (Df ?_<|by simpa using hz))<|by simpa using hz);have g0:(h1.push<|seqObj "list" vs.toArray 0).get? h1.objs.size=some (seqObj "list" vs.toArray 0):=Am _ rfl;have fr:s.heap.get? h1.objs.size=none:=by
   cases e:s.heap.get? h1.objs.size with
   | none=>rfl
   | some u=>exact absurd (Ai<|k1 _ _ e)<|AK _
 refine Aa<|AI<|AV slot_list_sort ⟨_,g0,rfl⟩ entry_list_sort (Bj (go _ _ (fun b u e=>Ad _ (k1 b u e)) fr g0) (fun f s' ⟨e,r⟩=>?_) fun _ _ x=>x.elim)<|args_list_sort _;subst e;exact⟨_,rfl,Ac ⟨_,rfl,r⟩⟩
def zk7{at_:Addr}{k:Nat}{R:PySem.Fin->Shared->Prop}(hv:vs.length < 2)(g0:s.heap.get? at_=some (seqObj "list" vs.toArray k))(fin:R (.done<|.ret .none) { s with heap:=sortedHeap s.heap at_ vs vs.toArray }) :
   wpAny (model prog w) A (Builtin.«list.sort» ⟨[.ref at_],[]⟩) R E s:=by
 have lt0:=Ai g0;have hz:vs.length<=sizeLine:=AC (B3 hv) (by decide);obtain⟨ep,g1⟩:∃ ep,(s.heap.update at_<|Bl fun _=>(#[]:Array Value)).get? at_=some (seqObj "list" #[] ep):=⟨_,get?_update_seq g0 fun _=>#[]⟩
 have g2:(((s.heap.update at_<|Bl fun _=>(#[]:Array Value)).push<|seqObj "tuple" vs.toArray 0).push<|seqObj "list" #[] 0).get? at_=some (seqObj "list" #[] ep):=Ad _<|Ad _ g1;rw[list_sort_plain];refine Aa (listItems_at g0 rfl<|Aa<|De g0 rfl (Aa<|DR g1 rfl<|Aa<|DX (Aa<|Df<|AI ?_)<|by simpa using hz)<|by simpa using hz);show wpAny (model prog w) A _ R E { s with heap:=((s.heap.update at_<|Bl fun _=>(#[]:Array Value)).push<|seqObj "tuple" vs.toArray 0).push (seqObj "list" #[] 0) };have two:vs.toArray.size < 2:=by simpa using hv
 have same:(arrOf<|FB general' (vs.toArray.zip vs.toArray) #[] 7 none).map (·.2)=vs.toArray:=by
   show ((vs.toArray.zip vs.toArray).map (·.2))=vs.toArray;simp;clear two g2 g1 g0 hz fin hv
   induction vs with
   | nil=>rfl
   | cons a r ih=>simpa using ih
 dsimp only;rw[if_pos two,if_pos two];refine Aa<|Ac ?_;rw[Fb];refine Aa<|Ac ?_;dsimp only;rw[same];refine Aa<|DR g2 rfl<|Aa<|De g2 rfl ?_ (hsz2:=by simp;omega);simp only[bne_self_eq_false,A8,if_false];exact Ac fin
variable {Q:VK}{xs:List V}{its:List Value}{ts:List (List Int)}
section
variable {pins:List (Addr×Obj)} {M:L2.St}
def Inv.notL(I:Inv X pins M H s){D:Addr}(h:s.heap.get? D=none):D≠X.env.locals/\X.base.get? D=none/\H D=none:=by
 refine⟨fun z=>?_,?_,?_⟩
 . obtain⟨m,⟨o,_,_,e,_⟩,_⟩:=I.loc;rw[<-z,h] at e;cases e
 . cases e:X.base.get? D with
   | none=>rfl
   | some u=>rw[(I.bs D u e).1] at h;cases h
 . cases e:H D with
   | none=>rfl
   | some o =>
     obtain⟨u,hu⟩:=zgk<|I.hok D o e;rw[h] at hu;cases hu
def zk6{D:Addr}{h':Heap}(I:Inv X pins M H s)(rv:Vals xs its)(h2:xs.length < 2)(k:∀ b o,s.heap.get? b=some o->h'.get? b=some o)(hD:s.heap.get? D=none)(gD:h'.get? D=some (seqObj "list" its.toArray 0))(h:∀ p,H p=none->Q (.ref p) (upd H p<|.lst xs)) :
   wpAny (model X.prog X.w) X.A.in1.in1 (Builtin.«list.sort» ⟨[.ref D],[]⟩) (fun f s'=>f=.done (.ret .none)/\EP X pins M Q (.ref D) s') (fun _ _=>False) { s with heap:=h' }:=by
 have hlen:=rv.length;have hz:xs.length<=sizeLine:=AC (B3 h2) (by decide);refine zk7 (by omega) gD ⟨rfl,?_⟩;obtain⟨n1,n2,n3⟩:=Inv.notL I hD;obtain⟨ep,e⟩:=sortedHeap_at (out:=its.toArray) gD;have kk:∀ b u,s.heap.get? b=some u->(sortedHeap h' D its its.toArray).get? b=some u:=fun b u q=>by
   have hb:b≠D:=fun z=>by rw[z,hD] at q;cases q
   rw[sortedHeap_old hb (Ai<|k b u q)];exact k b u q
 have J:Inv X pins M (upd H D<|.lst xs) { s with heap:=sortedHeap h' D its its.toArray }:=by obtain⟨m,F⟩:=I.fr;refine Inv.laidAt (m:=m) I (fun b u _=>kk b u) (fun m' ⟨o,a1,a2,q,a3⟩=>⟨o,a1,a2,kk _ _ q,a3⟩) (let ⟨m',⟨o,_,_,q,_⟩,_⟩:=I.loc;⟨o,kk _ _ q⟩) hD n3 n1 ⟨hz,its,ep,rv,e⟩
 exact⟨.ref D,_,J,rfl,h D n3⟩
def zk5{D:Addr}{h0:Heap}(I:Inv X pins M H s)(rv:Vals xs its)(T:zhd H xs ts)(h2:2<=ts.length)(h64:ts.length < 64)(k0:∀ b o,s.heap.get? b=some o->h0.get? b=some o)(hsD:s.heap.get? D=none)(gD:h0.get? D=some (seqObj "list" its.toArray 0))
   (h:∀ (q:Array Nat) (p:Addr),q.Perm (BG<|Ax ts.length)->Srt.Up (rank ts) q ts.length->H p=none->Q (.ref p) (upd H p<|.lst<|q.toList.map fun i=>xs.getD i .non)) :
   wpAny (model X.prog X.w) X.A.in1.in1 (Builtin.«list.sort» ⟨[.ref D],[]⟩) (fun f s'=>f=.done (.ret .none)/\EP X pins M Q (.ref D) s') (fun _ _=>False) { s with heap:=h0 }:=by
 have hlen:its.length=ts.length:=by have a:=rv.length;have b:=Bc T;omega
 obtain⟨m,F⟩:=I.fr;have trkL:∀ b,H b≠none->b≠X.env.locals:=fun b hb z=>hb (by rw[z];exact I.free);obtain⟨n1,n2,hHD⟩:=Inv.notL I hsD;have nD:∀ p∈zdF X.base s.heap X.env.locals,p.1≠D:=fun p hp z=>by have q:=(zfN (g:=X.base) (h:=s.heap) (L:=X.env.locals) p hp).1;rw[z,hsD] at q;cases q
 refine PySem.W.kat_list_sort (s:={ s with heap:=h0 }) (news:=zdF X.base s.heap X.env.locals) (F.kept k0) ((zfN (g:=X.base) (h:=s.heap) (L:=X.env.locals)).grown k0) gD n1 n2 nD (by omega) (by omega) fun e1 h' F' N'=>?_;have keep:∀ {h2:Heap} {o:Obj},PyProof.Rows.Fr X.base X.env.locals h2 m->News X.base X.env.locals h2 ((D,o)::zdF X.base s.heap X.env.locals)->∀ b u,b≠X.env.locals->s.heap.get? b=some u->h2.get? b=some u:=fun {h2 o} F2 N2 b u hb e=>by
   cases q:X.base.get? b with
   | some v =>
     have z:=(I.bs b v q).1;rw[e] at z;cases z;exact F2.keep b _ q
   | none=>exact (N2 (b,u)<|Aj _<|zcX hb q e).1
 have hk:∀ b o,H b≠none->s.heap.get? b=some o->h'.get? b=some o:=fun b o hb e=>keep F' N' b o (trkL b hb) e;obtain⟨fs,k1,k2,k3⟩:=zfT (h':=h') I hk T rv;refine EN (s:={ s with heap:=h' }) (T:=.type "int") k1 (by omega) (fun v hv=>?_) rfl ?_
 . obtain⟨i,t,rfl⟩:=k3 v hv;exact DW rfl
 have ok:=Srt.sort_ok (n:=its.length) (r:=rank ts) (by omega);refine zqd (n:=its.length) (r:=rank ts) (s:={ s with heap:=h' }) (fun i j hi hj C hC=>zou (s':={ s with heap:=h' }) I hk T rv (by omega) (by omega) C hC) (fun q hq=>?_) ok;refine D6 F' N' (EC nD) fun h2 c F2 N2=>⟨rfl,?_⟩
 have hD2:=(N2 _ Ak).1;rw[hlen] at hq;have vals:Vals (q.toList.map fun i=>xs.getD i .non) (q.toList.map fun i=>its.getD i A7):=by
   have hmem:∀ i∈q.toList,i < xs.length:=fun i hi=>by have:i∈(BG<|Ax ts.length).toList:=(Array.perm_iff_toList_perm.mp hq.1).mem_iff.mp hi;have hr:=rv.length;simp at this;omega
   generalize q.toList=ql at hmem
   induction ql with
   | nil=>exact .nil
   | cons i r ih =>
     refine .cons ?_<|ih fun j hj=>hmem j (Aj _ hj);have hi:=hmem i Ak;obtain⟨u,eu,ru⟩:=rv.get<|Ah hi;show RelV (xs.getD i V.non) (its.getD i A7);rw[Aq,Aq,Ah hi,eu];exact ru
 have hql:q.toList.length=ts.length:=by have:=(Array.perm_iff_toList_perm.mp hq.1).length_eq;simpa using this
 have J:Inv X pins M (upd H D<|.lst<|q.toList.map fun i=>xs.getD i .non) { s with heap:=h2 } :=
   Inv.laidAt (m:=m) I (keep F2 N2) (fun m' hm'=>by rw[znM hm' F.ns];exact F2.ns) (let ⟨o,_,_,e,_⟩:=F2.ns;⟨o,e⟩) hsD hHD n1 ⟨by rw[Ag,hql];exact lt64 h64,_,c,vals,hD2⟩
 exact⟨.ref D,_,J,rfl,h q D hq.1 hq.2 hHD⟩
end
def zgY{p:Addr}{q:Array Nat}(S:StR K H io st)(r1:Reps K H io xs (ts.map tupD))(hq:q.Perm (BG<|Ax ts.length))(hu:Srt.Up (rank ts) q ts.length)(hf:H p=none)(k:Bh K io H (st++[.lst ((zhw ts).map tupD)]) (.ref st.length) Q):Q (.ref p) (upd H p<|.lst<|q.toList.map fun i=>xs.getD i .non):=by
 have hm:∀ i∈q.toList,i < ts.length:=fun i hi=>by have:=(Array.perm_iff_toList_perm.mp hq).mem_iff.mp hi;simpa using this
 have rr:=zeq r1 hm;rw[zd1 hq hu] at rr;exact k.lst S rr hf
def zek:GN
 | [.tup ds],st=>if decide (ds.length < 2)=true then some (.ref st.length,st++[.lst ds]) else (rowsOf ds).bind fun ts=>if (decide (2<=ts.length)&&decide (ts.length < 64))=true then some (.ref st.length,st++[.lst ((zhw ts).map tupD)]) else none
 | _,_=>none
def zfh:zcN X (.builtin "sorted") zek:=by
 rintro pins s M H xs us Q I r ⟨ds,st,io,d,st',R,S,e,k⟩;unfold zek at e
 split at e
 . rename_i zs;obtain⟨v,rfl,p,ys,rfl,hp,r1⟩:=R.one;obtain⟨u,rfl,ru⟩:=r.one;cases ru;have hx:SqT X.K H p ys:=.inl (.inl hp)
   split at e
   . rename_i hl;cases e;have e2:=r1.length;obtain⟨its,rv,pl,hz⟩:=I.tuple hx;exact zf8 pl (by have:=rv.length;omega) fun D h' k0 hD gD=>zk6 I rv (by rw[e2];exact of_decide_eq_true hl) k0 hD gD fun q hf=>k.lst S r1 hf
   obtain⟨ts,e1,e⟩:=zaf e;obtain⟨hl,e⟩:=zao e;cases e;rw[Al] at hl;obtain⟨T,hd⟩:=zhE r1 e1;subst hd;obtain⟨its,rv,pl,hz⟩:=I.tuple hx;refine zf8 pl (by have:=rv.length;omega) fun D h' k0 hD gD=>zk5 I rv T (of_decide_eq_true hl.1) (of_decide_eq_true hl.2) k0 hD gD fun q p' hq hu hf=>zgY S r1 hq hu hf k
 . cases e
def zf9:GN:=orN zbZ zek
def zfX:zcN X (.builtin "sorted") zf9:=zc2 zcs zfh
def zoA:G2
 | .tup a,.tup b,st=>if (a.isEmpty&&fits b.length)=true then some (.tup b,st) else none
 | _,_,_=>none
def zlJ:OpM X (binaryOp .Add) zoA:=by
 rintro pins s M H x y v u Q I rx ry ⟨dx,dy,st,io,d,st',Rx,Ry,S,e,k⟩;unfold zoA at e
 split at e
 . rename_i i j;obtain⟨hf,e⟩:=zao e;cases e;rw[Al] at hf;obtain⟨p,xs,rfl,hp,r1⟩:=Rx;obtain⟨q,ys,rfl,hq,r2⟩:=id Ry;cases rx;cases ry;obtain⟨m,F⟩:=I.fr;obtain⟨its,w1,p1,_⟩:=I.tuple<|SqT.of hp;obtain⟨its2,w2,p2,_⟩:=I.tuple<|SqT.of hq;have e0:its=[]:=by
     have a:=r1.length;have b:=w1.length;have c:i=[]:=by simpa using hf.1
     rw[c] at a;exact Bu (by have a':xs.length=0:=a;omega)
   have hz:its2.length<=sizeLine:=by have a:=r2.length;have b:=w2.length;have c:=of_decide_eq_true hf.2;omega
   exact PyProof.Rows.add_tuples F (news:=[]) (fun p hp=>nomatch hp) p1 p2 (fun _=>⟨.ref q,H,I,rfl,k.now S Ry⟩) (fun z _=>absurd e0 z) (fun z _=>absurd e0 z) (by rw[e0];simpa using hz)
 . cases e
def addE:G2:=orG addD zoA
def ze0:OpM X (binaryOp .Add) addE:=zhV zav zlJ
open PySem.SeqAt PySem.MeetsSeq PySem.MeetsSeq2 PySem.MeetsSeq3
def zfe{t sl:Addr}{items:Array Value}{vl vu:Value}{lo hi:Option Int}{Q:Value->Shared->Prop}(ht:IsTup s.heap t items)(hs:s.heap.IsSliceOf sl vl vu .none)(pl:IsPart vl lo)(pu:IsPart vu hi)
   (h0:HT.sIx items.size 0 lo=0) (h1:HT.sIx items.size items.size hi=items.size) (h:Q (.ref t) s):wpAny (model prog w) A (getItem (.ref t)<|.ref sl) Q E s:=by
 obtain⟨os,hos,hcs,hds⟩:=id hs;have hTs:s.TypeIs (.ref sl) "slice":=⟨os,hos,hcs⟩
 unfold getItem
 try with_reducible refine AI ?_
 first | refine Aa (Ac ?_) | skip
 refine Aa (Dk ht.typeIs (by decide)<|Aa<|AX (name:=Bs "__getitem__") ht.typeIs A5<|AV A5 ht.typeIs CW ?_<|C7 _ _);show wpAny _ _ (Builtin.Tuple.tupleItemsOf (.ref t) >>= _) _ _ s;refine Aa<|Ea ht<|Aa<|B4 hTs ?_;rw[if_pos (by decide)];refine Aa<|HT.sliceApplied_gen hs pl pu ?_;rw[h0,h1];have yes:((((0:Nat):Int)==0&&(1:Int)==1&&(items.size - 0)==items.size)=true):=by simp
 show wpAny _ _ (if (((0:Nat):Int)==0&&(1:Int)==1&&(items.size - 0)==items.size)=true then _ else _) _ _ s;rw[if_pos yes];refine Aa (m:=Builtin.Tuple.tupleIsExact _)<|Aa<|B4 ht.typeIs<|Ac ?_;rw[if_pos (by decide)];exact Aa (m:=(pure (Fin.done<|Flow.ret<|AH t):Sem Fin))<|Ac<|Ac ⟨_,rfl,Ac h⟩
def rSlW(K:Ab):V->Option Int->Option Int->Hp->VK->Prop:=fun x lo hi H Q=>∃ a xs,x=.ref a/\SqT K H a xs/\HT.sIx xs.length 0 lo=0/\HT.sIx xs.length xs.length hi=xs.length/\Q (.ref a) H
def zk9:SlR X (rSlW X.K):=by
 intro pins s M H x v vl vu lo hi sl Q I rx hs pl pu h;obtain⟨a,xs,rfl,hx,h0,h1,q⟩:=h;cases rx;obtain⟨its,r,ht,hz⟩:=I.tuple hx;have hlen:its.toArray.size=xs.length:=by rw[Au];exact r.length.symm
 exact⟨"tuple",_,PyProof.Rows.slot_tuple_getitem.lookup,ht.typeIs,zfe ht hs pl pu (by rw[hlen];exact h0) (by rw[hlen];exact h1) ⟨.ref a,H,I,rfl,q⟩⟩
def slW:D->Option Int->Option Int->Sto->Option (D×Sto):=fun x lo hi st=>match x with
 | .tup ds=>if (decide (HT.sIx ds.length 0 lo=0)&&decide (HT.sIx ds.length ds.length hi=ds.length))=true then some (.tup ds,st) else none
 | _=>none
def slC:D->Option Int->Option Int->Sto->Option (D×Sto):=fun x lo hi st=>orO (slB x lo hi st)<|slW x lo hi st
def mSlC(m:ME)(l h:MO):ME:=fun U st=>(m U st).bind fun (x,s1)=>(l U s1).bind fun (lo,s2)=>(h U s2).bind fun (hi,s3)=>slC x lo hi s3
def zdm{lo hi:Option Expr}{ml mh:MO}(he:SE X e m)(hl:SO X lo ml)(hu:SO X hi mh):SE X (.Subscript e (.Slice lo hi none p2) pos) (mSlC m ml mh):=by
 rintro pins s M H Q I ⟨U,st,io,d,st',E,S,e0,k⟩;obtain⟨⟨x,s1⟩,e1,e0⟩:=zaf e0;obtain⟨⟨lo',s2⟩,e2,e0⟩:=zaf e0;obtain⟨⟨hi',s3⟩,e3,e0⟩:=zaf e0
 rcases zbE e0 with e0 | e0
 . exact zci he hl hu pins s M H Q I ⟨U,st,io,d,st',E,S,by simp only[mSlB,e1,e2,e3,Ae];exact e0,k⟩
 . refine zer zk9 he hl hu pins s M H Q I ?_;refine⟨U,st,io,x,s1,E,S,e1,fun v1 H1 k1 X1 S1 R1=>⟨U,s1,io++k1,lo',s2,E.ext S X1,S1,e2,fun H2 k2 X2 S2=>⟨U,s2,(io++k1)++k2,hi',s3,(E.ext S X1).ext S1 X2,S2,e3,fun H3 k3 X3 S3=>?_⟩⟩⟩;have R3:=(R1.ext S1 X2).ext S2 X3;have k':=((k.on S1 X1).on S2 X2).on S3 X3;unfold slW at e0
   split at e0
   . rename_i ds;obtain⟨hw,e0⟩:=zao e0;cases e0;rw[Al] at hw;obtain⟨p,xs,rfl,hp,r⟩:=id R3;exact⟨p,xs,rfl,SqT.of hp,by rw[r.length];exact of_decide_eq_true hw.1,by rw[r.length];exact of_decide_eq_true hw.2,k'.now S3 R3⟩
   . cases e0
end L2.MP
namespace L2.MP
open PySem L2 PySem.Spec PyProof.Rows
section
variable {K:Ab} {x:Str} {st:Stmt} {f:Addr}
structure FdIn(K:Ab)(x:Str)(st:Stmt)(f:Addr):Prop where
 ex:∃ (oc:Value) (od:Option Addr) (kV dc pm:Value) (an:Option Addr) (cd ct:Value) (sl:Array (Option Value)),K.lookup f=some ⟨oc,od,.func (BC x x (zdc st) (zbK st) (zaA st) .none kV dc pm an cd ct),sl⟩/\Cn K cd x=true
 ns:Et K mainGlobals x=some (some (.ref f))
 kp:BP K (.ref f)=true
def zrN{oc kV dc pm cd ct:Value}{od an:Option Addr}{sl:Array (Option Value)}(a:Et K mainGlobals x=some (some<|.ref f))(l:K.lookup f=some ⟨oc,od,.func<|BC x x (zdc st) (zbK st) (zaA st) .none kV dc pm an cd ct,sl⟩)(c:Cn K cd x=true)(k:BP K (.ref f)=true):FdIn K x st f :=
 ⟨⟨oc,od,kV,dc,pm,an,cd,ct,sl,l,c⟩,a,k⟩
end
variable {α:Type}
def len1{P:List α->Prop}(h:∀ a,P [a])(l:List α)(e:l.length=1):P l:=by
 rcases l with _ | ⟨a,_ | ⟨b,l⟩⟩
 . cases e
 . exact h a
 . cases e
def len2{P:List α->Prop}(h:∀ a b,P [a,b])(l:List α)(e:l.length=2):P l:=by
 rcases l with _ | ⟨a,l⟩
 . cases e
 exact len1 (P:=fun l=>P (a::l)) (h a) l<|Dw e
def len3{P:List α->Prop}(h:∀ a b c,P [a,b,c])(l:List α)(e:l.length=3):P l:=by
 rcases l with _ | ⟨a,l⟩
 . cases e
 exact len2 (P:=fun l=>P (a::l)) (h a) l<|Dw e
def len4{P:List α->Prop}(h:∀ a b c d,P [a,b,c,d])(l:List α)(e:l.length=4):P l:=by
 rcases l with _ | ⟨a,l⟩
 . cases e
 exact len3 (P:=fun l=>P (a::l)) (h a) l<|Dw e
def len5{P:List α->Prop}(h:∀ a b c d f,P [a,b,c,d,f])(l:List α)(e:l.length=5):P l:=by
 rcases l with _ | ⟨a,l⟩
 . cases e
 exact len4 (P:=fun l=>P (a::l)) (h a) l<|Dw e
end L2.MP
namespace L2.MP
open PySem PySem.Spec PyProof.Rows
open L2
end L2.MP
namespace L2.MP
open PySem PySem.Spec PyProof.Rows
end L2.MP
namespace L2.MP
open PySem PySem.Spec
open PyProof.Rows
end L2.MP
namespace L2.MP
open PySem PySem.Spec
open PyProof.Rows
section
variable {X:Cx} {K:Ab} {H:Hp} {io:List Addr} {m:ME} {st st':Sto} {tg:Expr}
end
end L2.MP
namespace L2.MP
open PySem PySem.Spec
open PyProof.Rows
end L2.MP
namespace L2.MP.ST
open PySem PySem.SetTable
end L2.MP.ST
namespace L2.MP
open PySem PySem.Spec PyProof.Rows
end L2.MP
namespace L2.MP
open PySem PySem.Spec
open PyProof.Rows
variable {X:Cx} {pos:Pos}
end L2.MP
namespace L2.MP.ST
open PySem PySem.SetTable
end L2.MP.ST
namespace L2.MP
open PySem PySem.Spec PyProof.Rows
end L2.MP
namespace L2.MP
open PySem PySem.Spec
open PyProof.Rows
end L2.MP
namespace L2.MP
open PySem PyProof.Rows
section
open PySem.SeqAt
open PySem.MeetsSeq PySem.MeetsSeq2 PySem.MeetsSeq3
end
open PySem.Spec
variable {prog:Program}{w:World}{A:Around}{E:Value->Shared->Prop}{s:Shared}{a d:Addr}{o:Obj}
section
variable {K:Type} [DecidableEq K] {knd:KeyKind prog w K}
def zjX{its:Array Value}{n:Nat}{Q:Int->Shared->Prop}(hu:A.units+1 < cLine)(ho:s.heap.get? a=some o)(hc:o.cls=.type "tuple")(hd:o.data=.seq its n)
   (hi:∀ v∈its.toList,∃ b ks,v=.ref b/\IsTupleKey knd s.heap ks b) (h:∀ q tk,Q q { s with toks:=tk }):wpAny (model prog w) A (pyHash<|.ref a) Q E s:=by
 have ty:s.TypeIs (.ref a) "tuple":=⟨o,ho,hc⟩
 have sl:=F.slot_tuple_hash;unfold pyHash;unfold pyHashByItsType;refine Aa<|wpAny_cRoomFor_or (.inr<|by omega)<|Aa<|DE ty sl.lookup ?_;have nn:(some (Ed "tuple.__hash__")==some A7)=false:=by rw[beq_builtin_none]
 simp only[nn,A8,if_false];refine Aa<|DE ty sl.lookup<|Aa<|wpAny_callSpecialIfBoundUnlessNone?_slot ty sl<|AV sl ty F.entry_tuple_hash ?_<|F.args_tuple_hash_1 _;show wpAny _ _ (Builtin.Tuple.tupleItemsOf (.ref a) >>= _) _ _ s;refine Aa<|wpAny_tupleItemsOf ho hd<|Aa ?_;rw[<-Array.forIn_toList];refine wpAny_forIn_list _ (fun rest (b:Array Int) s'=>(∀ v∈rest,v∈its.toList)/\∃ tk,s'={ s with toks:=tk }) _ ?_ ?_ _ _ ⟨fun v z=>z,s.toks,rfl⟩
 . rintro x rest b s' ⟨sub,tk,rfl⟩;obtain⟨c,ks,rfl,hk⟩:=hi x<|sub x Ak;refine Aa (wpAny_pyHash_tuple (s:={ s with toks:=tk }) ?_ hk ?_)
   . show A.units+1 < cLine;exact hu
   exact Aa<|Ac<|Ac ⟨fun v z=>sub v (Aj _ z),_,rfl⟩
 . rintro b s' ⟨_,tk,rfl⟩;show wpAny _ _ (retInt<|Builtin.Tuple.tupleHashOf b.toList) _ _ _;refine wpAny_ret_mkInt ?_;generalize Builtin.Tuple.tupleHashOf b.toList=z;show wpAny _ A (DB z) Q E _;unfold DB
   by_cases hr:(decide (-(2:Int) ^ 63<=z)&&decide (z < 2 ^ 63))=true
   . rw[if_pos hr];exact Ac<|h _ _
   rw[if_neg hr];exact Aa<|BX<|Ac<|h _ _
def zji{v:Value}{ep:Nat}{Q:Unit->Shared->Prop}(ho:s.heap.get? d=some o)(hx:o.ExactDict)(hd:o.data=.dict #[] ep)
   (hk:∀ (Q:Int->Shared->Prop),(∀ q tk,Q q { s with toks:=tk })->wpAny (model prog w) A (pyHash<|.ref a) Q E s)
   (h:∀ h' tk,BA d s.heap h'->(∃ o' es ep',h'.get? d=some o'/\o'.ExactDict/\o'.data=.dict es ep')->Q () { s with heap:=h',toks:=tk }):wpAny (model prog w) A (dictSet d (.ref a) v) Q E s:=by
 unfold dictSet;refine AI<|Aa<|hk _ fun q tk=>?_;unfold dictSetHashed;refine AI<|Aa ?_;unfold dictFind;refine AI<|Aa<|Cs (s:={ s with toks:=tk }) ho hd ?_;have p0:placesWithHash (#[]:Array DictEntry).size (fun i=>(#[]:Array DictEntry)[i]?.map (·.hash)) q=[]:=rfl;dsimp only;rw[p0];have c0:¬ ((AH a::List.filterMap (fun (i:Nat)=>Option.map (fun x:DictEntry=>x.key) (#[]:Array DictEntry)[i]?) []).all carriedByValue=true):=by simp[carriedByValue]
 rw[if_neg c0];refine CT (fun z=>absurd z (by simp)) fun _=>?_;refine CT (fun z=>absurd z (by simp)) fun _=>?_;unfold tableMayTell;refine Aa<|CT (fun _=>Ac ?_) fun z=>absurd rfl z;refine CT (fun z=>absurd z (by simp)) fun _=>?_;refine Aa ?_;rw[BQ];refine Ac<|Ac ?_;refine Aa<|BX<|wpAny_updateDictKeys (hz:=by simp[sizeLine]) (s:={ s with toks:=tk }) ho hd ?_;exact h _ _ (BU ..) ⟨_,_,_,B5 _ ho<|Obj.isFreed_of_dict<|D9 hd _,hx.mapDictKeys _,D9 hd _⟩
end
open PySem.SeqAt
def zmW:isSubtype (.type "tuple") (.type "dict")=pure false:=by rw[isSubtype_type];kernel_rfl
def zoX:isSubtype (.type "dict") (.type "tuple")=pure false:=by rw[isSubtype_type];kernel_rfl
def zmp(d b:Addr)(x1 x2:Data)(p1 p2:Option Addr)(z1 z2:Array (Option Value)):Meets (Builtin.«dict.__ne__» ⟨[.ref d,.ref b],[]⟩)
   (fun _ R s=>s.heap.get? d=some ⟨.type "dict",p1,x1,z1⟩/\s.heap.get? b=some ⟨.type "tuple",p2,x2,z2⟩/\R (.ok<|.ret .notImplemented) s) :=
 .of_wp fun prog w A R s h=>by
   obtain⟨hp,g,dr,tk,os⟩:=s;obtain⟨e1,e2,h⟩:=h;have f1:=zmW
   wp_walk using CU e1,CU e2
   exact⟨_,rfl,h⟩
def zmO(d b:Addr)(x1 x2:Data)(p1 p2:Option Addr)(z1 z2:Array (Option Value)):Meets (Builtin.«tuple.__ne__» ⟨[.ref b,.ref d],[]⟩)
   (fun _ R s=>s.heap.get? d=some ⟨.type "dict",p1,x1,z1⟩/\s.heap.get? b=some ⟨.type "tuple",p2,x2,z2⟩/\R (.ok<|.ret .notImplemented) s) :=
 .of_wp fun prog w A R s h=>by
   obtain⟨hp,g,dr,tk,os⟩:=s;obtain⟨e1,e2,h⟩:=h;have f1:=zoX
   wp_walk using CU e1,CU e2
   exact⟨_,rfl,h⟩
def zb4{b:Addr}{o1 o2:Obj}{Q:Value->Shared->Prop}(e1:s.heap.get? d=some o1)(c1:o1.cls=.type "dict")(e2:s.heap.get? b=some o2)(c2:o2.cls=.type "tuple")(hu:A.units < cLine)
   (h:Q (.bool true) s):wpAny (model prog w) A (compareOp .NotEq (.ref d)<|.ref b) Q E s:=by
 obtain⟨k1,p1,x1,z1⟩:=o1;obtain⟨k2,p2,x2,z2⟩:=o2;cases c1;cases c2;have hne:d≠b:=fun z=>by rw[z,e2] at e1;exact absurd (congrArg Obj.cls<|Ay e1)<|by simp
 show wpAny _ A (richCompare .NotEq _ _) Q E s;exact rc_ne_decline_or (k:=false) ⟨_,e1,rfl⟩ ⟨_,e2,rfl⟩ (by decide) zmW F.slot_dict_ne F.slot_tuple_ne_refl
   (fun _ hq=>Dp F.slot_dict_ne ⟨_,e1,rfl⟩ F.entry_dict_ne (F.args_dict_ne_2 _ _) (zmp d b x1 x2 p1 p2 z1 z2) ⟨e1,e2,hq⟩)
   (fun _ hq=>Dp F.slot_tuple_ne_refl ⟨_,e2,rfl⟩ F.entry_tuple_ne (F.args_tuple_ne_2 _ _) (zmO d b x1 x2 p1 p2 z1 z2) ⟨e1,e2,hq⟩)
   (fun _ hq=>wpAny_isSame_ref_other hne e1 e2 (by simp) hq) (.inr hu) h
end L2.MP
namespace L2.MP
open PySem PySem.Spec PyProof.Rows
variable {X:Cx}{K:Ab}{H:Hp}{io:List Addr}{st st':Sto}{pos:Pos}{a b:Expr}
def zrP{P:Program}{w:World}{h:Heap}{p:Addr}(x:DzZ p h):zcx P w H h p (.ext<|DzZ p):=by have y:=x;obtain⟨o,es,ep,h1,_⟩:=y;refine⟨x,⟨o,h1⟩,?_⟩;rintro g1 g2 ⟨o,es,ep,h1,h2,h3⟩ k;exact⟨o,es,ep,k o h1,h2,h3⟩
def zoT(tk tv:TE):TE:=fun M H Q=>∀ p,H p=none->zi9 [(tk,tv)] M (upd H p<|.dT []) fun ps H2=>H2 p=some (.dT [])/\∃ (b:Addr) (xs:List V) (y:V),ps=[(.ref b,y)]/\H2 b=some (.tup xs)/\(∀ x∈xs,∃ (c:Addr) (q:List Key),x=.ref c/\H2 c=some (.tup<|q.map kV))/\Q (.ref p) (upd H2 p<|.ext<|DzZ p)
def zlD{tk tv:TE}(hu:X.A.units+1 < cLine)(hk:PE X a tk)(hv:PE X b tv):PE X (.Dict [some a] [b] pos) (zoT tk tv):=by
 intro pins s M H Q I q;have hn:=I.hok.fresh<|Af s.heap.objs.size;have I1:=I.laid (a:=s.heap.objs.size) (o:=.dT []) (h':=s.heap.push { cls:=.type "dict",data:=.dict #[] }) (t':=s.toks) (fun _ _ q=>Ad _ q) (Af _) (ziy s.heap I.big);rw[arm_eval_Dict,zip_pairTrees [some a] [b] X.env pos rfl rfl,dictDisplay_pairs _ (by simp[pairTrees]) (by simp[pairTrees])];refine Aa<|Cy<|Aa ?_;unfold subDict;refine Aa<|wpAny_alloc ?_;refine Aa<|AI ?_;rw[if_pos (by simp[pairTrees])];refine Aa<|thn ((zhN hk hv zks) pins _ M _ _ I1<|q _ hn) ?_;rintro ws s2 ⟨ps,H2,I2,rel,e,bk,xs,y,rfl,eb,hx,q2⟩
 cases rel with
 | cons h0 t0 =>
   cases t0;rename_i w0;obtain⟨w1,w2⟩:=w0;obtain⟨r1,r2⟩:=h0
   cases (show w1=AH bk from r1)
   obtain⟨z,hd,xs2,rx,dd⟩:=zqL I2.hok e;cases rx;obtain⟨ob,es,ep,hq,h2,h3,h4,_,h5⟩:=dd;have he:es=#[]:=Array.toList_inj.mp (by simpa using h4);subst he;refine AI ?_;refine Aa ?_;rw[CK];refine Aa<|Aa<|zji hq h2 h3 (fun Q' k'=>?_) fun h' tk hs ho=>Ac ?_
   . obtain⟨_,us,rv,t1⟩:=(show zcx X.prog X.w H2 s2.heap bk (.tup xs) from I2.hok bk _ eb)
     obtain⟨o,g1,g2,_,n,g3⟩:=t1;refine zjX (knd:=zat X.prog X.w) hu g1 g2 g3 (fun v hv=>?_) k';have hv:v∈us:=by simpa using hv
     obtain⟨i,hi,e3⟩:=CZ hv;have hl:=rv.length;have hxi:xs[i]?=some xs[i]:=Ah (by omega);obtain⟨v',hv',rr⟩:=rv.get hxi;rw[Ah hi,e3] at hv';cases hv';obtain⟨c,qq,e4,e5⟩:=hx _<|AG hxi;rw[e4] at rr;cases rr;exact⟨c,qq,rfl,zfa I2.hok e5⟩
   dsimp only;rw[BQ];refine Ac<|Ac<|Ac<|Ac ⟨.ref s.heap.objs.size,_,?_,rfl,q2⟩;obtain⟨o',es',ep',g1,g2,g3⟩:=ho;exact zgE I2 (by rw[e];exact Co) hs ⟨o',g1⟩<|zrP ⟨o',es',ep',g1,g2,g3⟩
def rowD:D->Option (List Key)
 | .tup es=>keysOf es
 | _=>none
def zmC(ds:List D):Bool:=ds.all fun d=>(rowD d).isSome
def zlm{x:V}{d:D}{q:List Key}(r:Rep K H io x d)(e:rowD d=some q):∃ c:Addr,x=.ref c/\H c=some (.tup<|q.map kV):=by
 cases d with
 | tup es =>
   obtain⟨c,zs,rfl,hc,rs⟩:=r;have:=zbI rs e;subst this;exact⟨c,rfl,hc⟩
 | _=>cases e
def zjJ(mk mv:ME):ME:=fun U st=>(mk U<|st++[.dt []]).bind fun (k,s1)=>(mv U s1).bind fun (v,s2)=>match k with
 | .tup ds=>if zmC ds=true then (match s2[st.length]? with
   | some (.dt [])=>some (.ref st.length,s2.set st.length .dz)
   | _=>none) else none
 | _=>none
def zjr(ds:List D):∀ {xs:List V},Reps K H io xs ds->zmC ds=true->∀ x∈xs,∃ (c:Addr) (q:List Key),x=.ref c/\H c=some (.tup<|q.map kV):=by
 induction ds with
 | nil =>
   intro xs r _ x hx;have r:xs=[]:=r;subst r;cases hx
 | cons d ds ih =>
   intro xs r e x hx;obtain⟨y,ys,rfl,r1,r2⟩:=r;unfold zmC at e;rw[Ec,Al] at e
   rcases List.mem_cons.mp hx with rfl | hx
   . obtain⟨q,hq⟩:=Option.isSome_iff_exists.mp e.1;obtain⟨c,h1,h2⟩:=zlm r1 hq;exact⟨c,q,h1,h2⟩
   exact ih r2 e.2 x hx
def zld{mk mv:ME}(hu:X.A.units+1 < cLine)(hk:SE X a mk)(hv:SE X b mv):SE X (.Dict [some a] [b] pos) (zjJ mk mv) :=
 PE.imp (zlD hu hk hv) <| by
   rintro M H Q ⟨U,st,io,d,st',E,S,e,k⟩;obtain⟨⟨x,s1⟩,e1,e⟩:=zaf e;obtain⟨⟨y,s2⟩,e2,e⟩:=zaf e;intro p hp;obtain⟨E',S'⟩:=ze5 (o:=.dT []) (ob:=.dt []) S hp fun H' T e=>⟨[],e,.nil⟩
   refine⟨U,_,_,x,s1,E.ext S E',S',e1,fun v1 H1 k1 X1 S1 R1=>?_⟩;refine⟨U,s1,_,y,s2,(E.ext S E').ext S' X1,S1,e2,fun v2 H2 k2 X2 S2 R2=>?_⟩;dsimp only at e
   cases x with
   | tup ds =>
     dsimp only at e
     by_cases eq1:zmC ds=true
     . rw[if_pos eq1] at e
       split at e
       case h_2=>cases e
       rename_i eq2;cases e;have hlen:io.length=st.length:=S.len;have hp0:((io++[p])++k1++k2)[st.length]?=some p:=by rw[An,An,AE (by omega),hlen,B6];rfl
       obtain⟨ps,hH,r⟩:=S2.ob st.length p _ hp0 eq2;cases r;obtain⟨b,xs,rfl,hb,rs⟩:=R1.ext S1 X2;refine⟨hH,b,xs,v2,rfl,hb,zjr _ rs eq1,?_⟩;obtain⟨E3,S3⟩:=zfE (o:=.ext (DzZ p)) (ob:=.dz) S2 hp0 eq2 (fun o u z=>by rw[hH] at z;cases z) fun H' T e'=>e';have k':=((k.on S' E').on S1 X1).on S2 X2;exact k' _ _ [] E3 S3 ⟨p,rfl,by rw[Ao];exact hp0⟩
     rw[if_neg eq1] at e;cases e
   | _=>cases e
def neU0:G2:=fun x y st=>match x,y with
 | .tup ds,.tup []=>some (.bl (!ds.isEmpty),st)
 | .ref n,.tup []=>match st[n]? with
   | some (.lst _)=>some (.bl true,st)
   | some (.dk _)=>some (.bl true,st)
   | some (.dt _)=>some (.bl true,st)
   | some .dz=>some (.bl true,st)
   | _=>none
 | _,_=>none
def znG(hu:X.A.units+100 < cLine):OpM X (compareOp .NotEq) neU0:=by
 rintro pins s M H x y v u Q I rx ry ⟨dx,dy,st,io,d,st',Rx,Ry,S,e,k⟩;have hu0:X.A.units < cLine:=by omega
 unfold neU0 at e
 split at e
 . rename_i ds;cases e;obtain⟨p,xs,rfl,hp,r1⟩:=Rx;obtain⟨q,ys,rfl,hq,r2⟩:=Ry;cases rx;cases ry;obtain⟨z1,us,v1,t1⟩:=I.hok p _ hp;obtain⟨z2,ws,v2,t2⟩:=I.hok q _ hq;have e2:ys=[]:=r2;subst e2;cases v2;have hl:us.length=ds.length:=by
     have:=v1.length;have:=r1.length;omega
   have eb:(!((Ax<|min us.toArray.size ([]:List Value).toArray.size).all (fun _=>true)&&us.toArray.size==([]:List Value).toArray.size))=!ds.isEmpty:=by
     cases ds with
     | nil=>simp at hl;simp[hl]
     | cons a r =>
       cases us with
       | nil=>simp at hl
       | cons b t=>simp
   have R:=Fu (A:=X.A) (e:=fun _=>true) t1.t t2.t hu0 (fun j h1 h2=>by simp at h2);rw[eb] at R;exact R X.prog X.w _ _ ⟨.bl _,H,I,rfl,k.now S rfl⟩
 . rename_i n;obtain⟨p,rfl,hp⟩:=Rx;obtain⟨q,ys,rfl,hq,r2⟩:=Ry;cases rx;cases ry;obtain⟨z2,ws,v2,t2⟩:=I.hok q _ hq;have tt:=t2.t
   split at e
   . rename_i ob eo;cases e;obtain⟨xs,hH,_⟩:=S.ob n p _ hp eo;obtain⟨its,_,pl,_⟩:=I.list<|SqL.of hH;exact Fi (A:=X.A) pl.isList tt hu0 X.prog X.w _ _ ⟨.bl _,H,I,rfl,k.now S rfl⟩
   . rename_i ob eo;cases e;obtain⟨xs,hH,_⟩:=S.ob n p _ hp eo;obtain⟨o,e1,c1⟩:=zgt I hH;obtain⟨o2,e2,c2,_⟩:=tt;exact zb4 e1 c1 e2 c2 hu0 ⟨.bl _,H,I,rfl,k.now S rfl⟩
   . rename_i ob eo;cases e;obtain⟨xs,hH,_⟩:=S.ob n p _ hp eo;obtain⟨o,e1,c1⟩:=zgs I hH;obtain⟨o2,e2,c2,_⟩:=tt;exact zb4 e1 c1 e2 c2 hu0 ⟨.bl _,H,I,rfl,k.now S rfl⟩
   . rename_i eo;cases e;obtain⟨o,e1,c1⟩:=zn2 I<|S.ob n p _ hp eo;obtain⟨o2,e2,c2,_⟩:=tt;exact zb4 e1 c1 e2 c2 hu0 ⟨.bl _,H,I,rfl,k.now S rfl⟩
   . cases e
 . cases e
def neZ:G2:=orG neD neU0
def zpG(hu:X.A.units+100 < cLine):OpM X (compareOp .NotEq) neZ:=zhV (zhY hu)<|znG hu
end L2.MP
namespace L2.MP.Hb
open PySem L2.MP
end L2.MP.Hb
namespace L2.MP
open PySem
def zf3{f:D->Option PyData}(hf:∀ x:Int,f (.int x)=some (.int x)):∀ as:List Int,toPs f (as.map D.int)=some (as.map FC)
 | []=>rfl
 | x::as=>by rw[Aw,toPs,hf x,Ae,zf3 hf as];rfl
def zdp{n:Nat}{st:Sto}{k:Nat}{as:List Int}(hk:st[k]?=some (.lst<|as.map D.int)):toP (n+2) st (.ref k)=some (.list<|as.map FC):=by rw[toP];simp only[zbi,hk,Ae];rw[zf3 (fun x=>by rw[toP])];rfl
end L2.MP
namespace L2.MP.Hb
open PySem L2.MP
noncomputable abbrev sgD (c:Nat):D:=.str ⟨#[c]⟩
def ziG(c:Nat):∀ (k:Nat) (a:Array Nat),((Bk k #[c]).foldl (·++·) a).toList=a.toList++Bk k c
 | 0,a=>by simp
 | k+1,a=>by rw[Ei,DI,ziG c k (a++#[c])];simp[Ei]
def zge{c:Nat}{n:Int}(h1:1<=n):(repS ⟨#[c]⟩ n).cps.toList=Bk n.toNat c:=by
 unfold repS;rw[if_neg (by omega)]
 by_cases hn:n=1
 . subst hn;rfl
 . rw[if_neg]
   . exact ziG c n.toNat #[]
   . simp[hn];show ¬ ((⟨#[c]⟩:Str).length=0);show ¬ (1=0)
     decide
def zcW{c:Nat}{n:Int}{st:Sto}(h1:1<=n)(h2:n<=1000):mulA (sgD c) (.int n) st=some (.str (repS ⟨#[c]⟩ n),st):=by
 have hl:(repS ⟨#[c]⟩ n).length=n.toNat:=by rw[len_list,zge h1,Bp]
 have e1:(⟨#[c]⟩:Str).length=1:=rfl;have hz:sizeLine=16777216:=C4;have:(decide (-(2 ^ 62)<=n)&&decide (n < 2 ^ 20)&&decide ((⟨#[c]⟩:Str).length*n.toNat<=sizeLine)&&decide ((repS ⟨#[c]⟩ n).length<=sizeLine))=true:=by rw[hl,e1,hz];rw[decide_eq_true (show -(2 ^ 62)<=n by omega),decide_eq_true (show n < 2 ^ 20 by omega),decide_eq_true (show 1*n.toNat<=16777216 by omega),decide_eq_true (show n.toNat<=16777216 by omega)];rfl
 show mulA (.str ⟨#[c]⟩) (.int n) st=_;unfold mulA orG mulD intD;dsimp only;rw[zeu];unfold zoF;dsimp only;rw[if_pos this]
end L2.MP.Hb
namespace L2.MP.Hd
open PySem L2.MP
def zcn:MS:=mSeq (mAsg (mBin ixA (mVar 0)<|mCon<|.int 0)<|gNm 1)<|mSeq (mAsg (mBin ixA (mVar 0)<|mCon<|.int 1)<|gNm 2)<|mRet<|mTup<|zac (mTup<|zac (mVar 1)<|zac (mBin addD (mVar 2)<|mCon<|.int 1)<|mNil)<|zac (mTup<|zac (mBin addD (mVar 1)<|mCon<|.int 1)<|zac (mVar 2)<|mNil)<|zac (mTup<|zac (mVar 1)<|zac (mBin subD (mVar 2)<|mCon<|.int 1)<|mNil)<|zac (mTup<|zac (mBin subD (mVar 1)<|mCon<|.int 1)<|zac (mVar 2)<|mNil)<|mNil
def zbj:GN:=fnM 3 zcn
def zdH:MS:=mSeq (mAsg (mBin ixA (mBin ixA (mVar 0)<|mCon<|.int 0)<|mCon<|.int 2)<|gNm 2) (mSeq (mIf (mTst<|zdz leD ltD (mCon<|.int 0) (mVar 1)<|zas lenD<|zac (mVar 2)<|mNil) (mRet<|mSlB (mBin ixA (mVar 2)<|mVar 1) (zeE<|mCon<|.int 1)<|zeF)<|zdR)<|mRet<|mTup<|zac (mCon<|.str "")<|zac (mCon<|.str "")<|zac (mCon<|.str "")<|zac (mCon<|.str "")<|mNil)
def zbN:GN:=fnM 3 zdH
def za2:MS:=putA (mVar 1) (mTup<|zac (mVar 2)<|zac (mVar 3)<|mNil)<|mVar 4
def zcf:MS:=mSeq (mAsg (zhf true)<|gNm 1)<|mSeq (mFor (mWA<|mVar 0) (gTp 3<|gC (gNm 2)<|gC (gNm 3)<|gC (gNm 4)<|gN0)<|za2)<|mRet<|mVar 1
def zbf:GN:=fnM 5 zcf
def zaB:MS:=mIf (mTst<|mBin inA (mVar 5)<|mVar 1) (mExp<|mApp (mVar 3)<|zac (mBin ixA (zas zbN<|zac (mVar 0)<|zac (mBin ixA (mVar 1)<|mVar 5)<|mNil)<|mBin modD (mBin addD (mVar 4)<|mCon<|.int 2)<|mCon<|.int 4)<|mNil) (mExp<|mApp (mVar 3)<|zac (mCon<|.str "")<|mNil)
def zcP:MS:=mSeq (mAsg (mLst<|mNil)<|gNm 3)<|mSeq (mFor (zl0<|zas zbj<|zac (mVar 2)<|mNil) (gTp 2<|gC (gNm 4)<|gC (gNm 5)<|gN0)<|zaB)<|mRet<|mVar 3
def zbp:GN:=fnM 6 zcP
def zaz:ME:=mBin ixA (mVar 2)<|mVar 0
def zay:MT:=zl2 (mTst<|mBin eqD (mVar 0)<|mVar 1) (mTst<|mBin neD (mVar 0)<|mCon<|.str "")
def zbB:MS:=mRet<|zas sumC<|zac (zcH (mZip (mVar 1)<|mVar 2) 2 [0] (gTp 2<|gC (gNm 0)<|gC (gNm 1)<|gN0) zay<|zaz)<|mNil
def zaX:GN:=fnM 3 zbB
def zce:MS:=mSeq (mAsg (mIte (mTst<|mBin ltD (mVar 1)<|zas lenD<|zac (mVar 0)<|mNil) (mBin ixA (mVar 0)<|mVar 1)<|mCon<|.int 0)<|gNm 2)<|mSeq (mAsg (mBin mulB (mBin mulB (mBin mulB (mBin mulB (mBin powB (mCon<|.int 10)<|mCon<|.int 60)<|mBin powB (mCon<|.int 10)<|mCon<|.int 60)<|mBin powB (mCon<|.int 10)<|mCon<|.int 60)<|mBin powB (mCon<|.int 10)<|mCon<|.int 60)<|mBin powB (mCon<|.int 10)<|mCon<|.int 60)<|gNm 3)<|mSeq (mAsg (mBin mulB (mBin modD (mVar 2)<|mVar 3)<|zas intC<|zac (mBin geD (mVar 2)<|mBin powB (mCon<|.int 10)<|mCon<|.int 18)<|mNil)<|gNm 4)<|mRet<|mLst<|zac (mVar 4)<|zac (mBin modD (mBin addD (mBin modD (mVar 2)<|mCon<|.int 2305843009213693951)<|mBin mulA (mCon<|.int 7919)<|mVar 1)<|mCon<|.int 2305843009213693951)<|zac (mCon<|.int 0)<|mNil
def zca:GN:=fnM 5 zce
def zbx:MS:=mSeq (mIf (mTst<|mBin gtD (mBin ixA (mVar 0)<|mCon<|.int 0)<|mCon<|.int 0) (mSeq (mAsg (mBin modD (mBin ixA (mVar 0)<|mCon<|.int 0)<|mVar 1)<|gNm 2)<|mSeq (putA (mVar 0) (mCon<|.int 0)<|mBin zi1 (mBin ixA (mVar 0)<|mCon<|.int 0)<|mVar 1)<|mRet<|mVar 2)<|zdR)<|mSeq (putA (mVar 0) (mCon<|.int 2)<|mBin addD (mBin ixA (mVar 0)<|mCon<|.int 2)<|mCon<|.int 1)<|mSeq (mAsg (mBin modD (mBin mulA (mBin addD (mBin addD (mBin ixA (mVar 0)<|mCon<|.int 1)<|mBin mulA (mBin mulA (mCon<|.int 104729)<|mBin ixA (mVar 0)<|mCon<|.int 2)<|mBin ixA (mVar 0)<|mCon<|.int 2)<|mBin mulA (mCon<|.int 31)<|mBin ixA (mVar 0)<|mCon<|.int 2)<|mCon<|.int 48271)<|mCon<|.int 2305843009213693921)<|gNm 3)<|mSeq (mAsg (mBin modD (mBin mulA (mVar 3)<|mBin addD (mBin modD (mVar 3)<|mCon<|.int 1000003)<|mBin mulA (mCon<|.int 39373)<|mBin ixA (mVar 0)<|mCon<|.int 2)<|mCon<|.int 2305843009213693907)<|gNm 3)<|mRet<|mBin modD (mBin addD (mBin zi1 (mVar 3)<|mCon<|.int 65537)<|mBin zi1 (mVar 3)<|mCon<|.int 1000033)<|mVar 1
def zad:GN:=fnM 4 zbx
def zaU:ME:=mBin mulA (mBin ixA (mVar 1)<|mVar 2)<|mBin addD (mVar 0)<|mCon<|.int 1
def zaT:ME:=mBin mulA (mBin ixA (mVar 1)<|mBin modD (mBin addD (mVar 2)<|mBin mulA (mVar 3)<|mVar 0)<|mCon<|.int 26)<|mBin addD (mCon<|.int 1)<|mBin modD (mBin addD (mBin mulA (mVar 0)<|mVar 0)<|mVar 2)<|mCon<|.int 8
def zcc:MS:=mSeq (mAsg (mCon<|.str "abcdefghijklmnopqrstuvwxyz")<|gNm 2) (mSeq (mAsg (mTup<|zac (zas zad<|zac (mVar 0)<|zac (mCon<|.int 26)<|mNil)<|zac (mBin ixA (mLst<|zac (mCon<|.int 1)<|zac (mCon<|.int 3)<|zac (mCon<|.int 5)<|zac (mCon<|.int 7)<|zac (mCon<|.int 9)<|zac (mCon<|.int 11)<|mNil)<|zas zad<|zac (mVar 0)<|zac (mCon<|.int 6)<|mNil)<|mNil)<|gTp 2<|gC (gNm 3)<|gC (gNm 4)<|gN0)<|mSeq (mIf (mTst<|mBin eqD (zas zad<|zac (mVar 0)<|zac (mCon<|.int 3)<|mNil)<|mCon<|.int 0) (mRet<|zcH (mR1<|mVar 1) 1 [2,3] (gNm 0) zbV<|zaU)<|zdR)<|mRet<|zas zbZ<|zac (zcH (mR1<|mVar 1) 1 [2,3,4] (gNm 0) zbV<|zaT)<|mNil)
def zb6:GN:=fnM 5 zcc
def zaQ:ME:=mBin ixA (mBin addD (mLst<|zac (mCon<|.str "")<|mNil)<|mVar 1) (zas zad<|zac (mVar 2)<|zac (mBin addD (zas lenD<|zac (mVar 1)<|mNil)<|mCon<|.int 1)<|mNil)
def zdK:MS:=mSeq (mAsg (mBin ixA (mLst<|zac (mCon<|.str "")<|zac (mBin ixA (mCon<|.str "abcdefghijklmnopqrstuvwxyz0123456789")<|zas zad<|zac (mVar 0)<|zac (mCon<|.int 36)<|mNil)<|mNil)<|zas zad<|zac (mVar 0)<|zac (mCon<|.int 2)<|mNil)<|gNm 2) (mSeq (mAsg (zcH (mR1<|mCon<|.int 4) 1 [1,0] (gNm 0) zbV<|zaQ)<|gNm 3)<|mRet<|mTup<|zac (mVar 2)<|zac (mBin ixA (mVar 3)<|mCon<|.int 0)<|zac (mBin ixA (mVar 3)<|mCon<|.int 1)<|zac (mBin ixA (mVar 3)<|mCon<|.int 2)<|zac (mBin ixA (mVar 3)<|mCon<|.int 3)<|mNil)
def zcA:GN:=fnM 4 zdK
def zaV:ME:=mTup<|zac (mVar 0)<|zac (mBin ixA (mLst<|zac (mCon<|.int 1)<|zac (mCon<|.int 2)<|zac (mCon<|.int 1)<|zac (mBin addD (mCon<|.int 1)<|zas zad<|zac (mVar 1)<|zac (mCon<|.int 4)<|mNil)<|mNil)<|zas zad<|zac (mVar 1)<|zac (mCon<|.int 4)<|mNil)<|mNil
def za7:ME:=zas zcA<|zac (mVar 1)<|zac (mVar 2)<|mNil
def zcd:MS:=mSeq (mAsg (zas zb6<|zac (mVar 0)<|zac (mBin addD (mCon<|.int 1)<|zas zad<|zac (mVar 0)<|zac (mCon<|.int 4)<|mNil)<|mNil)<|gNm 1)<|mSeq (mAsg (mBin ixA (mLst<|zac (mCon<|.int 1)<|zac (mCon<|.int 1)<|zac (mCon<|.int 2)<|zac (mCon<|.int 2)<|zac (mCon<|.int 1)<|zac (mCon<|.int 3)<|zac (mCon<|.int 4)<|zac (mCon<|.int 2)<|mNil)<|zas zad<|zac (mVar 0)<|zac (mCon<|.int 8)<|mNil)<|gNm 2)<|mSeq (mAsg (zas zef<|zac (zcH (mWA<|mVar 1) 1 [0] (gNm 0) zbV<|zaV)<|mNil)<|gNm 3)<|mSeq (mAsg (zcH (mR1<|mBin addD (mCon<|.int 1)<|zas zad<|zac (mVar 0)<|zac (mBin ixA (mLst<|zac (mCon<|.int 3)<|zac (mCon<|.int 5)<|zac (mCon<|.int 5)<|zac (mCon<|.int 12)<|mNil)<|zas zad<|zac (mVar 0)<|zac (mCon<|.int 4)<|mNil)<|mNil) 1 [0,1] (gNm 0) zbV<|za7)<|gNm 4)<|mSeq (mIf (mTst<|mBin eqD (zas zad<|zac (mVar 0)<|zac (mCon<|.int 6)<|mNil)<|mCon<|.int 0) (mExp<|mApp (mVar 4)<|zac (mBin ixA (mVar 4)<|zas zad<|zac (mVar 0)<|zac (zas lenD<|zac (mVar 4)<|mNil)<|mNil)<|mNil)<|zdR)<|mRet<|mTup<|zac (mVar 2)<|zac (mVar 3)<|zac (zas zef<|zac (mVar 4)<|mNil)<|mNil
def zb8:GN:=fnM 5 zcd
def zaK:MS:=mSeq (mAsg (mTup<|zac (zas zad<|zac (mVar 0)<|zac (mBin ixA (mVar 2)<|mCon<|.int 0)<|mNil)<|zac (zas zad<|zac (mVar 0)<|zac (mBin ixA (mVar 2)<|mCon<|.int 1)<|mNil)<|mNil)<|gNm 6)<|putA (mVar 4) (mVar 6)<|zas zad<|zac (mVar 0)<|zac (zas lenD<|zac (mBin ixA (mVar 1)<|mCon<|.int 2)<|mNil)<|mNil
def zaL:ME:=mBin addD (mVar 0)<|mTup<|zac (mBin zoi (mVar 1)<|mVar 0)<|mNil
def zcb:MS:=mSeq (mAsg (zhf true)<|gNm 4)<|mSeq (mFor (mR1<|zas zad<|zac (mVar 0)<|zac (mBin addD (mVar 3)<|mCon<|.int 1)<|mNil) (gNm 5)<|zaK)<|mRet<|zas zef<|zac (zas zbZ<|zac (zcH (mWK<|mVar 4) 1 [4] (gNm 0) zbV<|zaL)<|mNil)<|mNil
def zaY:GN:=fnM 7 zcb
def zck:MS:=mSeq (mAsg (zas zb8<|zac (mVar 0)<|mNil)<|gNm 1)<|mSeq (mAsg (mTup<|zac (mBin addD (mCon<|.int 1)<|zas zad<|zac (mVar 0)<|zac (mCon<|.int 5)<|mNil)<|zac (mBin addD (mCon<|.int 1)<|zas zad<|zac (mVar 0)<|zac (mBin ixA (mLst<|zac (mCon<|.int 5)<|zac (mCon<|.int 5)<|zac (mCon<|.int 5)<|zac (mCon<|.int 12)<|mNil)<|zas zad<|zac (mVar 0)<|zac (mCon<|.int 4)<|mNil)<|mNil)<|mNil)<|gNm 2)<|mSeq (mIf (mTst<|mBin eqD (zas zad<|zac (mVar 0)<|zac (mCon<|.int 2)<|mNil)<|mCon<|.int 0) (mAsg (zpT (mVar 2)<|mNeg<|mCon<|.int 1)<|gNm 2)<|zdR)<|mRet<|mTup<|zac (mVar 1)<|zac (mVar 2)<|zac (zas zaY<|zac (mVar 0)<|zac (mVar 1)<|zac (mVar 2)<|zac (mBin ixA (mLst<|zac (mCon<|.int 1)<|zac (mCon<|.int 2)<|zac (mCon<|.int 6)<|mNil)<|zas zad<|zac (mVar 0)<|zac (mCon<|.int 3)<|mNil)<|mNil)<|mNil
def zc3:GN:=fnM 3 zck
def za6:ME:=mTup<|zac (mTup<|zac (mVar 0)<|zac (mVar 1)<|mNil)<|zac (mVar 2)<|mNil
def zdg:MS:=mRet<|zas zog<|zac (zcH (mWA<|mVar 0) 3 [] (gTp 3<|gC (gNm 0)<|gC (gNm 1)<|gC (gNm 2)<|gN0) zbV<|za6)<|mNil
def zb7:GN:=fnM 1 zdg
def zdJ:MS:=mSeq (mAsg (mVar 0)<|gTp 2<|gC (gNm 2)<|gC (gNm 3)<|gN0)<|mRet<|mBin ixA (mLst<|zac (mTup<|zac (mVar 2)<|zac (mBin addD (mVar 3)<|mCon<|.int 1)<|mNil)<|zac (mTup<|zac (mBin addD (mVar 2)<|mCon<|.int 1)<|zac (mVar 3)<|mNil)<|zac (mTup<|zac (mVar 2)<|zac (mBin subD (mVar 3)<|mCon<|.int 1)<|mNil)<|zac (mTup<|zac (mBin subD (mVar 2)<|mCon<|.int 1)<|zac (mVar 3)<|mNil)<|mNil)<|mVar 1
def zaP:GN:=fnM 4 zdJ
def zaH:MS:=mSeq (mAsg (zlZ (mVar 1)<|zas zaP<|zac (mVar 2)<|zac (mVar 6)<|mNil)<|gNm 7) (mSeq (mAsg (mBin ixA (mBin ixA (mVar 4)<|mVar 3)<|mBin addD (mVar 6)<|mCon<|.int 1)<|gNm 8)<|mIf (zl2 (mTst<|mBin zlM (mVar 7)<|mCon .non)<|zl2 (mTst<|mBin neD (mVar 8)<|mCon<|.str "")<|mTst<|mBin eqD (mBin ixA (mBin ixA (mVar 4)<|mVar 7)<|mBin addD (mBin modD (mBin addD (mVar 6)<|mCon<|.int 2)<|mCon<|.int 4)<|mCon<|.int 1)<|mVar 8) (mExp<|mApp (mVar 5)<|zac (mVar 6)<|mNil)<|zdR)
def zdf:MS:=mSeq (mPar 4 5<|zac (mBin ixA (mBin ixA (mVar 0)<|mCon<|.int 0)<|mCon<|.int 2)<|zac (mLst<|mNil)<|mNil)<|mSeq (mFor (mR1<|mCon<|.int 4) (gNm 6)<|zaH)<|mRet<|mVar 5
def zb5:GN:=fnM 9 zdf
def zbw:ME:=mBin ixA (mVar 1)<|mBin ixA (mBin ixA (mBin ixA (mBin ixA (mVar 2)<|mCon<|.int 0)<|mCon<|.int 2)<|mVar 3)<|mBin addD (mVar 0)<|mCon<|.int 1
def zdL:MS:=mSeq (mAsg (zas zb5<|zac (mVar 0)<|zac (mVar 1)<|zac (mVar 2)<|zac (mVar 3)<|mNil)<|gNm 4)<|mSeq (mIf (mTst<|mBin eqD (mVar 4)<|mLst<|mNil) (mRet<|mCon<|.int 0)<|zdR)<|mSeq (mAsg (zas zoh<|zac (mBin ixA (mBin ixA (mVar 0)<|mCon<|.int 0)<|mCon<|.int 1)<|mNil)<|gNm 5)<|mRet<|zas sumC<|zac (zcH (mWA<|mVar 4) 1 [5,0,3] (gNm 0) zbV<|zbw)<|mNil
def zb9:GN:=fnM 6 zdL
end L2.MP.Hd
namespace L2.MP
open PySem
@[simp] theorem zrO(n:Nat)(ds:List D):rho n ds=ds.map some++Bk (n - ds.length) none:=rfl
@[simp] theorem zqJ(U:Rho)(n:Nat)(l:List Nat):rho0 U n l=Bk n none++l.map fun (j:Nat)=>(U[j]?).join:=rfl
variable {a b:Int}{st:Sto}
@[simp] theorem zsb:ltD (.int a) (.int b) st=some (.bl (decide (a < b)),st):=rfl
@[simp] theorem zsc:leD (.int a) (.int b) st=some (.bl (decide (a<=b)),st):=rfl
@[simp] theorem zsf:gtD (.int a) (.int b) st=some (.bl (decide (b < a)),st):=rfl
@[simp] theorem zsg:geD (.int a) (.int b) st=some (.bl (decide (b<=a)),st):=rfl
@[simp] theorem zse:intC [.int a] st=some (.int a,st):=rfl
@[simp] theorem zsd{b:Bool}:intC [.bl b] st=some (.int (if b then 1 else 0),st):=rfl
end L2.MP
namespace L2.MP.Hd
open PySem L2.MP
def PotD(n m:Nat)(st:Sto):Prop:=∃ a b c:Int,st[n]?=some (.lst [.int a,.int b,.int c])/\0<=a/\0<=b/\b < 2305843009213693951/\0<=c/\c<=(m:Int)
variable {n m:Nat}{st:Sto}
def PotD.lt(h:PotD n m st):n < st.length:=by obtain⟨a,b,c,e,_⟩:=h;exact getElem?_lt e
def PotD.ne(h:PotD n m st):st.length≠n:=Cj h.lt
def PotD.gr{st':Sto}(h:PotD n m st)(g:Gr st st'):PotD n m st':=by obtain⟨a,b,c,e,r⟩:=h;exact⟨a,b,c,(g.old n<|getElem?_lt e).trans e,r⟩
variable {k:Nat}
def PotD.up(h:PotD n m st)(hk:m<=k):PotD n k st:=by obtain⟨a,b,c,e,h1,h2,h3,h4,h5⟩:=h;exact⟨a,b,c,e,h1,h2,h3,h4,by omega⟩
def PotD.set{n m l:Nat}{st:Sto}{o:O}(h:PotD n m st)(hl:l≠n):PotD n m (st.set l o):=by obtain⟨a,b,c,e,r⟩:=h;exact⟨a,b,c,by rw[AA hl];exact e,r⟩
variable {a b:Int}
def zqF(h:in64 a=true):mulA (.int a) (.int b) st=some (.int (a*b),st):=by simp[mulA,orG,mulD,intD,h,zdQ]
def mul_r(h:in64 b=true):mulA (.int a) (.int b) st=some (.int (a*b),st):=by simp[mulA,orG,mulD,intD,h,zdQ]
def zhe(h:0 < b):modD (.int a) (.int b) st=some (.int (a % b),st):=by simp[modD,intD,h]
def zqi(h:0 < b)(h2:b < 340282366920938463463374607431768211456):zi1 (.int a) (.int b) st=some (.int (a / b),st):=by simp[zi1,intD,h,h2]
variable {many:Int}{s1:Sto}
def zpC{c:Int}(i0:ixA (.ref n) (.int 0) st=some (.int a,st))(ha:0 < a)(e1:modD (.int a) (.int many) st=some (.int b,st))(e2:zi1 (.int a) (.int many) st=some (.int c,st))(hs:setD (.ref n) (.int 0) (.int c) st=some s1):zbx [some (.ref n),some (.int many),none,none] st=some (.rt (.int b),s1):=by
 unfold zbx;refine zgZ ?_;have et:mTst (mBin gtD (mBin ixA (mVar 0)<|mCon<|.int 0)<|mCon<|.int 0) [some (.ref n),some (.int many),none,none] st=some (true,st):=by simp[zaJ,i0,ha]
 rw[zmI,et];refine zam (U1:=[some (.ref n),some (.int many),some (.int b),none]) (s1:=st) (by simp[zaJ,i0,e1]) ?_;refine zam (U1:=[some (.ref n),some (.int many),some (.int b),none]) (s1:=s1) (by simp[zaJ,i0,e2,hs]) ?_;simp[zaJ]
variable {x2 x3:Int}
def zpR{c d m1 m2 x1 x4 x5 x6 x7 x8 r:Int}(i0:ixA (.ref n) (.int 0) st=some (.int a,st))(ha:¬ 0 < a)(i2:ixA (.ref n) (.int 2) st=some (.int c,st))(hd:c+1=d)(hs:setD (.ref n) (.int 2) (.int d) st=some s1)
   (j1:ixA (.ref n) (.int 1) s1=some (.int b,s1)) (j2:ixA (.ref n) (.int 2) s1=some (.int d,s1))
   (e1:mulA (.int 104729) (.int d) s1=some (.int x1,s1)) (e2:mulA (.int x1) (.int d) s1=some (.int x2,s1)) (e3:mulA (.int 31) (.int d) s1=some (.int x3,s1)) (e4:mulA (.int<|b+x2+x3) (.int 48271) s1=some (.int x4,s1)) (e5:modD (.int x4) (.int 2305843009213693921) s1=some (.int m1,s1))
   (e6:modD (.int m1) (.int 1000003) s1=some (.int x5,s1)) (e7:mulA (.int 39373) (.int d) s1=some (.int x6,s1)) (e8:mulA (.int m1) (.int<|x5+x6) s1=some (.int x7,s1)) (e9:modD (.int x7) (.int 2305843009213693907) s1=some (.int m2,s1))
   (e10:zi1 (.int m2) (.int 65537) s1=some (.int x8,s1)) {x9:Int} (e11:zi1 (.int m2) (.int 1000033) s1=some (.int x9,s1)) (e12:modD (.int<|x8+x9) (.int many) s1=some (.int r,s1)) :
   zbx [some (.ref n),some (.int many),none,none] st=some (.rt (.int r),s1):=by
 unfold zbx;have et:mTst (mBin gtD (mBin ixA (mVar 0)<|mCon<|.int 0)<|mCon<|.int 0) [some (.ref n),some (.int many),none,none] st=some (false,st):=by simp[zaJ,i0,ha]
 refine zam (U1:=[some (.ref n),some (.int many),none,none]) (s1:=st) (by rw[zmI,et];rfl) ?_;refine zam (U1:=[some (.ref n),some (.int many),none,none]) (s1:=s1) (by simp[zaJ,i2,hd,hs]) ?_;refine zam (U1:=[some (.ref n),some (.int many),none,some (.int m1)]) (s1:=s1) (by simp[zaJ,j1,j2,e1,e2,e3,e4,e5]) ?_;refine zam (U1:=[some (.ref n),some (.int many),none,some (.int m2)]) (s1:=s1) (by simp[zaJ,j2,e6,e7,e8,e9]) ?_;simp[zaJ,e10,e11,e12]
def zaS(h:PotD n m st)(hm:m<=1000000)(h1:0 < many)(h2:many < 18446744073709551616):∃ (r:Int) (st':Sto),Y5 (zad [.ref n,.int many] st=some (.int r,st')) (0<=r) (r < many) (PotD n (m+1) st') (Fr n st st'):=by
 obtain⟨a,b,c,e,ha,hb,hb2,hc,hc2⟩:=h;have hn:=getElem?_lt e;have i0:ixA (.ref n) (.int 0) st=some (.int a,st):=zbW e (by decide) rfl
 by_cases h0:0 < a
 . have hs:setD (.ref n) (.int 0) (.int<|a / many) st=some (st.set n<|.lst [.int (a / many),.int b,.int c]):=by simp[setD,e,ixN]
   have ed:zi1 (.int a) (.int many) st=some (.int (a / many),st):=zqi h1 (by omega);exact⟨a % many,_,zbX<|zpC i0 h0 (zhe h1) ed hs,BK _<|by omega,Bq _ h1,⟨a / many,b,c,by simp[hn],Int.ediv_nonneg ha<|by omega,hb,hb2,hc,by omega⟩,Fe _ _ _⟩
 . have i2:ixA (.ref n) (.int 2) st=some (.int c,st):=zbW e (by decide) rfl;obtain⟨d,hd⟩:∃ d,c+1=d:=⟨_,rfl⟩
   have hs:setD (.ref n) (.int 2) (.int d) st=some (st.set n<|.lst [.int a,.int b,.int d]):=by simp[setD,e,ixN]
   have e':(st.set n<|.lst [.int a,.int b,.int d])[n]?=some (.lst [.int a,.int b,.int d]):=by simp[hn]
   have f:Fr n st (st.set n<|.lst [.int a,.int b,.int d]):=Fe _ _ _;generalize st.set n (.lst [.int a,.int b,.int d])=s1 at hs e' f;have j1:ixA (.ref n) (.int 1) s1=some (.int b,s1):=zbW e' (by decide) rfl;have j2:ixA (.ref n) (.int 2) s1=some (.int d,s1):=zbW e' (by decide) rfl;have k1:in64 d=true:=by unfold in64;simp;omega
   have k2:in64 48271=true:=by decide
   have k3:∀ x:Int,in64 (x % 2305843009213693921)=true:=fun x=>by have h1:=BK x (show (2305843009213693921:Int)≠0 by decide);have h2:=Bq x (show (0:Int) < 2305843009213693921 by decide);unfold in64;simp;omega
   refine⟨_,s1,zbX<|zpR i0 h0 i2 hd hs j1 j2 (mul_r k1) (mul_r k1) (mul_r k1) (mul_r k2) (zhe<|by decide) (zhe<|by decide) (mul_r k1) (zqF<|k3 _) (zhe<|by decide) (zqi (by decide)<|by decide) (zqi (by decide)<|by decide)<|zhe h1,BK _<|by omega,Bq _ h1,⟨a,b,d,e',ha,hb,hb2,by omega,by omega⟩,f⟩
def zqh(st:Sto):∃ F:Int,Y3 (0 < F) (F.natAbs < 2 ^ 1100) (∀ U:Rho,mBin mulB (mBin mulB (mBin mulB (mBin mulB (mBin powB (mCon<|.int 10)<|mCon<|.int 60)<|mBin powB (mCon<|.int 10)<|mCon<|.int 60)<|mBin powB (mCon<|.int 10)<|mCon<|.int 60)<|mBin powB (mCon<|.int 10)<|mCon<|.int 60) (mBin powB (mCon<|.int 10)<|mCon<|.int 60) U st=some (.int F,st)) :=
 ⟨10 ^ 300,by decide +kernel,by decide +kernel,fun U=>by
   have e0:mBin powB (mCon<|.int 10) (mCon<|.int 60) U st=some (.int (10 ^ 60),st):=by
     rw[zfn];simp only[zkh,Ae];have:(decide ((0:Int)<=60)&&decide ((Builtin.Int.intBits 10:Int)*60<=2 ^ 27))=true:=by decide +kernel
     unfold powB intD;dsimp only;rw[if_pos this];rfl
   have e1:∀ (i j k:Nat),i+j=k->(decide (Builtin.Int.intBits ((10:Int) ^ i)<=2 ^ 20)&&decide (Builtin.Int.intBits ((10:Int) ^ j)<=2 ^ 20))=true->mulB (.int<|10 ^ i) (.int<|10 ^ j) st=some (.int (10 ^ k),st):=fun i j k hk h=>by unfold mulB intD;dsimp only;rw[if_pos h,<-hk,Int.pow_add]
   have q1:=e1 60 60 120 rfl (by decide +kernel);have q2:=e1 120 60 180 rfl (by decide +kernel);have q3:=e1 180 60 240 rfl (by decide +kernel);have q4:=e1 240 60 300 rfl (by decide +kernel);have h0:=e0;generalize (10:Int) ^ 60=a1 at *;generalize (10:Int) ^ 120=a2 at *;generalize (10:Int) ^ 180=a3 at *;generalize (10:Int) ^ 240=a4 at *;generalize (10:Int) ^ 300=a5 at *;simp only[zfn,zkh,Ae] at e0;simp only[zfn,zkh,Ae,e0,q1,q2,q3,q4]⟩
theorem zqV(U:Rho)(st:Sto):mBin powB (mCon<|.int 10) (mCon<|.int 18) U st=some (.int 1000000000000000000,st):=rfl
def zlS(ha:Builtin.Int.intBits a<=2 ^ 20)(hb:b=0\/b=1):mulB (.int a) (.int b) st=some (.int (a*b),st):=by
 have h1:Builtin.Int.intBits b<=2 ^ 20:=by rcases hb with rfl | rfl <;> decide +kernel
 unfold mulB intD;dsimp only;rw[if_pos];rw[decide_eq_true ha,decide_eq_true h1];rfl
variable {F:Int}
def zor(h0:0<=a)(h1:a < F)(hF:F.natAbs < 2 ^ 1100):Builtin.Int.intBits a<=2 ^ 20:=by
 have h2:a.natAbs < F.natAbs:=by omega
 exact AC (PyProof.Rows.intBits_le<|BE h2 hF)<|by decide
variable {U:Rho}
theorem zmz{c:MT}{m n:ME}:mIte c m n U st=(c U st).bind fun p=>if p.1=true then m U p.2 else n U p.2:=rfl
variable {ds:List D}{cell:Int}
def zmv{k own:Int}
   (e0:mIte (mTst<|mBin ltD (mVar 1)<|zas lenD<|zac (mVar 0)<|mNil) (mBin ixA (mVar 0)<|mVar 1) (mCon<|.int 0) [some (.kl ds),some (.int k),none,none,none] st=some (.int cell,st))
   (e1:mBin mulB (mBin mulB (mBin mulB (mBin mulB (mBin powB (mCon<|.int 10)<|mCon<|.int 60)<|mBin powB (mCon<|.int 10)<|mCon<|.int 60)<|mBin powB (mCon<|.int 10)<|mCon<|.int 60)<|mBin powB (mCon<|.int 10)<|mCon<|.int 60) (mBin powB (mCon<|.int 10)<|mCon<|.int 60) [some (.kl ds),some (.int k),some (.int cell),none,none] st=some (.int F,st))
   (e2:mBin mulB (mBin modD (mVar 2)<|mVar 3) (zas intC<|zac (mBin geD (mVar 2)<|mBin powB (mCon<|.int 10)<|mCon<|.int 18)<|mNil) [some (.kl ds),some (.int k),some (.int cell),some (.int F),none] st=some (.int own,st))
   (e3:modD (.int cell) (.int 2305843009213693951) st=some (.int x2,st)) (e4:mulA (.int 7919) (.int k) st=some (.int x3,st)) (e5:modD (.int<|x2+x3) (.int 2305843009213693951) st=some (.int b,st)) :
   zce [some (.kl ds),some (.int k),none,none,none] st=some (.rt (.ref st.length),st++[.lst [.int own,.int b,.int 0]]):=by
 unfold zce;refine zam (U1:=[some (.kl ds),some (.int k),some (.int cell),none,none]) (s1:=st) (by rw[zdW,e0];rfl) ?_;refine zam (U1:=[some (.kl ds),some (.int k),some (.int cell),some (.int F),none]) (s1:=st) (by rw[zdW,e1];rfl) ?_;refine zam (U1:=[some (.kl ds),some (.int k),some (.int cell),some (.int F),some (.int own)]) (s1:=st) (by rw[zdW,e2];rfl) ?_;simp[zaJ,e3,e4,e5]
def zpD{k:Int}(h0:0 < F)(hF:F.natAbs < 2 ^ 1100):∃ own:Int,0<=own/\mBin mulB (mBin modD (mVar 2)<|mVar 3) (zas intC<|zac (mBin geD (mVar 2)<|mBin powB (mCon<|.int 10)<|mCon<|.int 18)<|mNil) [some (.kl ds),some (.int k),some (.int cell),some (.int F),none] st=some (.int own,st):=by
 have m0:=BK cell (show F≠0 by omega);have m1:=Bq cell h0;have e1:=zhe (a:=cell) (st:=st) h0;generalize cell % F=x at m0 m1 e1;have hb:=zor m0 m1 hF;have e18:=zqV [some (.kl ds),some (.int k),some (.int cell),some (.int F),none] st;have ei:∃ j:Int,(j=0\/j=1)/\zas intC (zac (mBin geD (mVar 2)<|mBin powB (mCon<|.int 10)<|mCon<|.int 18)<|mNil) [some (.kl ds),some (.int k),some (.int cell),some (.int F),none] st=some (.int j,st):=by generalize mBin powB (mCon<|.int 10) (mCon<|.int 18)=P18 at e18;refine⟨if decide (1000000000000000000<=cell)=true then 1 else 0,by split <;> simp,?_⟩;rw[zkM,zgM,zfn];simp only[zfm,A9,Ba,Ae,e18,geD,cmpD,zmy];rfl
 obtain⟨j,hj,ej⟩:=ei;refine⟨x*j,by rcases hj with rfl | rfl <;> omega,?_⟩;have em:=zlS (a:=x) (b:=j) (st:=st) hb hj;rw[zfn,zfn];simp only[zfm,A9,Ba,Ae,e1];rw[ej];simp only[Ae];exact em
def zmw{ns:List Int}{k:Int}(h0:0<=k)(h1:k<=1000):∃ st',Y3 (zca [.kl (ns.map D.int),.int k] st=some (.ref st.length,st')) (PotD st.length 0 st') (Gr st st'):=by
 obtain⟨F,F0,F1,eF⟩:=zqh st;have ec:∃ cell:Int,mIte (mTst<|mBin ltD (mVar 1)<|zas lenD<|zac (mVar 0)<|mNil) (mBin ixA (mVar 0)<|mVar 1) (mCon<|.int 0) [some (.kl<|ns.map D.int),some (.int k),none,none,none] st=some (.int cell,st):=by
   by_cases hk:k < (ns.length:Int)
   . have hk':k.toNat < ns.length:=by omega
     have ex:ixA (.kl<|ns.map D.int) (.int k) st=some (.int ns[k.toNat],st):=zrA h0 (by rw[Av,Ah hk'];rfl);exact⟨ns[k.toNat],by rw[zmz];simp[zaJ,zl5,hk,ex]⟩
   exact⟨0,by rw[zmz];simp[zaJ,zl5,hk]⟩
 obtain⟨cell,ec⟩:=ec;obtain⟨own,o0,eo⟩:=zpD (ds:=ns.map D.int) (k:=k) (cell:=cell) (st:=st) F0 F1;have b0:=BK (cell % 2305843009213693951+7919*k) (show (2305843009213693951:Int)≠0 by decide);have b1:=Bq (cell % 2305843009213693951+7919*k) (show (0:Int) < 2305843009213693951 by decide);exact⟨_,zbX<|zmv ec (eF _) eo (zhe<|by decide) (zqF<|by decide)<|zhe<|by decide,⟨own,_,0,zau _ _,o0,b0,b1,by decide,by decide⟩,Gr.app _ _⟩
open L2.MP.Hb (zcW zge sgD)
noncomputable abbrev zaD:Str:=Hn.zaD
def zcI:∀ k:Nat,k < 26->zaD.cps[k]?=some (97+k):=Hn.zcI
structure NmOk(x:Str):Prop where
 len:x.cps.toList.length<=8
 ab:∀ c∈x.cps.toList,48<=c/\c<=122
def zkj{x:Str}(h:∀ c∈x.cps.toList,48<=c/\c<=122):AU x=true:=by unfold AU;rw[Array.all_eq_true'];intro c hc;have:=h c (by simpa using hc);simp;omega
def zcV:NmOk "":=⟨by decide,by decide⟩
variable {c:Nat}
def znO{k:Int}(h1:1<=k)(h8:k<=8)(c1:48<=c)(c2:c<=122):NmOk (repS ⟨#[c]⟩ k):=by refine⟨by rw[zge h1,Bp];omega,fun x hx=>?_⟩;rw[zge h1] at hx;rw[List.eq_of_mem_replicate hx];exact⟨c1,c2⟩
def zhJ{m:ME}(e:m U st=some (.int (k:Int),st))(hk:k<=1000):mR1 m U st=some (⟨run 0 k,[]⟩,st):=by have sm:small (k:Int)=true:=zch (by omega) (by omega);rw[zqP,e,Ae];simp only[sm,if_true];rw[A4]
variable {Mq:Int}
def zju{m:ME}(hM:Mq=(k:Int))(e:m U st=some (.int Mq,s1))(hk:k<=1000):mR1 m U st=some (⟨run 0 k,[]⟩,s1):=by have sm:small Mq=true:=zch (by omega) (by omega);rw[zqP,e,Ae];simp only[sm,if_true];rw[hM,A4]
def run_map(k:Nat):run 0 k=(Ax k).map fun (i:Nat)=>D.int (i:Int):=by unfold run;apply C1;intro i _;rw[Int.zero_add]
def zds{j:Nat}{d:D}(h:(run 0 j)[k]?=some d):k < j/\d=.int (k:Int):=by have hk:=getElem?_lt h;rw[zbH] at hk;rw[run_map,Av,C0 hk] at h;exact⟨hk,by cases h;rfl⟩
variable {x r1:Int}{y:D}
def zjG(ix1:∀ s:Sto,ixA (.str zaD) (.int r1) s=some (sgD c,s))(em:mulA (sgD c) (.int<|x+1) st=some (y,st)):zaU [some (.int x),some (.str zaD),some (.int r1)] st=some (y,st):=by unfold zaU;simp[ix1,em]
def zjH(hm:m<=8)(r10:0<=r1)(r11:r1 < 26):∃ ts:List Str,Y3 (ts.length=m) ((∀ x∈ts,NmOk x)) (mCI ⟨run 0 m,[]⟩ (gNm 0) zbV zaU (run 0 m) [none,some (.str zaD),some (.int r1)] st=some (ts.map D.str,st)):=by
 have ix1:∀ s:Sto,ixA (.str zaD) (.int r1) s=some (sgD (97+r1.toNat),s):=fun s=>zii (by decide) r10 (zcI _<|by omega);have c1:48<=97+r1.toNat:=by omega
 have c2:97+r1.toNat<=122:=by omega
 generalize 97+r1.toNat=c at ix1 c1 c2;refine⟨(Ax m).map fun (i:Nat)=>repS ⟨#[c]⟩ ((i:Int)+1),by simp,fun x hx=>?_,?_⟩
 . obtain⟨i,hi,rfl⟩:=List.mem_map.mp hx;have:=List.mem_range.mp hi;exact znO (by omega) (by omega) c1 c2
 have:∀ W:Wk,walked W st=true->mCI W (gNm 0) zbV zaU (run 0 m) [none,some (.str zaD),some (.int r1)] st=some (((Ax m).map fun (i:Nat)=>repS ⟨#[c]⟩ ((i:Int)+1)).map D.str,st):=by intro W hW;rw[run_map,A6];refine zg7 (R:=fun U=>∃ x,U=[x,some (.str zaD),some (.int r1)]) ⟨none,rfl⟩ hW fun i hi U hU=>?_;obtain⟨x,rfl⟩:=hU;have hi:=List.mem_range.mp hi;have em:=zcW (c:=c) (n:=(i:Int)+1) (st:=st) (by omega) (by omega);exact⟨[some (.int (i:Int)),some (.str zaD),some (.int r1)],by simp,rfl,zjG ix1 em,⟨_,rfl⟩⟩
 exact this _ rfl
variable {w:Int}
def zjE{p1 p2 q1 q2:Int}(e1:mulA (.int w) (.int x) st=some (.int p1,st))(e2:modD (.int<|r1+p1) (.int 26) st=some (.int p2,st))(ex:ixA (.str zaD) (.int p2) st=some (sgD c,st))(e3:mulA (.int x) (.int x) st=some (.int q1,st))(e4:modD (.int<|q1+r1) (.int 8) st=some (.int q2,st))(em:mulA (sgD c) (.int<|1+q2) st=some (y,st)):zaT [some (.int x),some (.str zaD),some (.int r1),some (.int w)] st=some (y,st):=by unfold zaT;simp[e1,e2,ex,e3,e4,em]
def zjF(hm:m<=8)(hw0:0<=w)(hw1:w<=11):∃ ts:List Str,Y3 (ts.length=m) ((∀ x∈ts,NmOk x)) (mCI ⟨run 0 m,[]⟩ (gNm 0) zbV zaT (run 0 m) [none,some (.str zaD),some (.int r1),some (.int w)] st=some (ts.map D.str,st)):=by
 have key:=zmt (W:=⟨run 0 m,[]⟩) (g:=gNm 0) (c:=zbV) (m:=zaT) (ds:=run 0 m) (acc:=[]) (st:=st) (U:=[none,some (.str zaD),some (.int r1),some (.int w)])
   (Inv:=fun k a U s=>Y3 ((∃ x,U=[x,some (.str zaD),some (.int r1),some (.int w)])) ((∃ ts:List Str,a=ts.map D.str/\ts.length=k/\∀ x∈ts,NmOk x)) (s=st))
   ⟨⟨none,rfl⟩,⟨[],rfl,rfl,by simp⟩,rfl⟩ (fun _ _ _ _ _ _=>rfl) (fun k d a U s hd hI=>by
     obtain⟨⟨x,rfl⟩,⟨ts,rfl,hl,hn⟩,rfl⟩:=hI;obtain⟨hk,rfl⟩:=zds hd;have e1:mulA (.int w) (.int (k:Int)) s=some (.int (w*(k:Int)),s):=mul_int (by omega);have e2:modD (.int<|r1+w*(k:Int)) (.int 26) s=some (.int ((r1+w*(k:Int)) % 26),s):=zhe (by decide);have h1:=Bq (r1+w*(k:Int)) (show (0:Int) < 26 by decide);have h2:=BK (r1+w*(k:Int)) (show (26:Int)≠0 by decide);have e3:mulA (.int (k:Int)) (.int (k:Int)) s=some (.int ((k:Int)*(k:Int)),s):=mul_int (by omega);have e4:modD (.int<|(k:Int)*(k:Int)+r1) (.int 8) s=some (.int (((k:Int)*(k:Int)+r1) % 8),s):=zhe (by decide);have h3:=Bq ((k:Int)*(k:Int)+r1) (show (0:Int) < 8 by decide);have h4:=BK ((k:Int)*(k:Int)+r1) (show (8:Int)≠0 by decide);generalize (r1+w*(k:Int)) % 26=p2 at e2 h1 h2;generalize ((k:Int)*(k:Int)+r1) % 8=q2 at e4 h3 h4;have ex:ixA (.str zaD) (.int p2) s=some (sgD (97+p2.toNat),s):=zii (by decide) h2 (zcI _<|by omega);have em:=zcW (c:=97+p2.toNat) (n:=1+q2) (st:=s) (by omega) (by omega);refine⟨[some (.int (k:Int)),some (.str zaD),some (.int r1),some (.int w)],s,true,s,rfl,rfl,.inl ⟨rfl,.str<|repS ⟨#[97+p2.toNat]⟩<|1+q2,s,zjE e1 e2 ex e3 e4 em,⟨_,rfl⟩,⟨ts++[repS ⟨#[97+p2.toNat]⟩ (1+q2)],by simp,by simp[hl],fun x hx=>?_⟩,rfl⟩⟩
     rcases List.mem_append.mp hx with hx | hx
     . exact hn x hx
     rw[List.mem_singleton.mp hx];exact znO (by omega) (by omega) (by omega) (by omega))
 obtain⟨xs,U',s',ec,_,⟨ts,hx,hl,hn⟩,rfl⟩:=key;rw[Ci] at hx;subst hx;exact⟨ts,by rw[hl,zbH],hn,ec⟩
def zlR(hM:Mq=(k:Int))(h:PotD n m st)(h1:k<=8)(hm:m<=900000):∃ (ss:List Str) (l:Nat) (st':Sto),Y7 (zb6 [.ref n,.int Mq] st=some (.ref l,st')) (st'[l]?=some (.lst<|ss.map D.str)) (ss.length=k) ((∀ x∈ss,NmOk x)) (l≠n) (PotD n (m+3) st') (Fr n st st'):=by
 obtain⟨r1,s1,e1,r10,r11,p1,f1⟩:=zaS (many:=26) h (by omega) (by decide) (by decide);have p2:=p1.gr<|Gr.app s1 [.lst [.int 1,.int 3,.int 5,.int 7,.int 9,.int 11]];have f2:=Fr.app n s1 [.lst [.int 1,.int 3,.int 5,.int 7,.int 9,.int 11]];have a2:=zau s1<|.lst [.int 1,.int 3,.int 5,.int 7,.int 9,.int 11];have hn2:=p1.ne;generalize hs2:s1++[O.lst [.int 1,.int 3,.int 5,.int 7,.int 9,.int 11]]=s2 at p2 f2 a2;obtain⟨r3,s3,e3,r30,r31,p3,f3⟩:=zaS (many:=6) p2 (by omega) (by decide) (by decide);have a3:=(f3.old _ (getElem?_lt a2) hn2).trans a2;obtain⟨w,hw,hw0,hw1⟩:∃ w:Int,[D.int 1,.int 3,.int 5,.int 7,.int 9,.int 11][r3.toNat]?=some (.int w)/\0<=w/\w<=11:=by
   have:r3=0\/r3=1\/r3=2\/r3=3\/r3=4\/r3=5:=by omega
   rcases this with rfl | rfl | rfl | rfl | rfl | rfl <;> exact⟨_,rfl,by decide,by decide⟩
 have i3:ixA (.ref s1.length) (.int r3) s3=some (.int w,s3):=zbW a3 r30 hw;obtain⟨r4,s4,e4,r40,r41,p4,f4⟩:=zaS (many:=3) p3 (by omega) (by decide) (by decide);have f14:Fr n st s4:=((f1.trans f2).trans f3).trans f4;have g1:mAsg (mTup<|zac (zas zad<|zac (mVar 0)<|zac (mCon<|.int 26)<|mNil)<|zac (mBin ixA (mLst<|zac (mCon<|.int 1)<|zac (mCon<|.int 3)<|zac (mCon<|.int 5)<|zac (mCon<|.int 7)<|zac (mCon<|.int 9)<|zac (mCon<|.int 11)<|mNil)<|zas zad<|zac (mVar 0)<|zac (mCon<|.int 6)<|mNil)<|mNil) (gTp 2<|gC (gNm 3)<|gC (gNm 4)<|gN0)
     [some (.ref n),some (.int Mq),some (.str zaD),none,none] st=some (.nx [some (.ref n),some (.int Mq),some (.str zaD),some (.int r1),some (.int w)],s3):=by
   simp[e1,hs2,e3,i3]
 by_cases hr:r4=0
 . subst hr;obtain⟨ts,ht,hn,ec⟩:=zjH (st:=s4) h1 r10 r11;have fl:fits (ts.map D.str).length=true:=zar (by simp;omega);refine⟨ts,s4.length,s4++[.lst (ts.map D.str)],zbX ?_,zau _ _,ht,hn,p4.ne,p4.gr<|Gr.app _ _,f14.trans<|Fr.app _ _ _⟩;generalize ts.map D.str=A at ec fl;unfold zcc;refine zam (U1:=[some (.ref n),some (.int Mq),some (.str zaD),none,none]) (s1:=st) (by simp) ?_;refine zam g1<|zgZ ?_;have ecm:zcH (mR1<|mVar 1) 1 [2,3] (gNm 0) zbV zaU [some (.ref n),some (.int Mq),some (.str zaD),some (.int r1),some (.int w)] s4=some (.ref s4.length,s4++[.lst A]):=by
     rw[zaJ,zju (s1:=s4) (k:=k) hM (by simp) (by omega)];simp only[Ae];rw[show rho0 [some (.ref n),some (.int Mq),some (.str zaD),some (.int r1),some (.int w)] 1 [2,3]=[none,some (.str zaD),some (.int r1)] from rfl,ec];simp only[Ae,fl,if_true]
   simp[e4,eq_int,ecm]
 . obtain⟨ts,ht,hn,ec⟩:=zjF (r1:=r1) (st:=s4) h1 hw0 hw1;have fl:fits (ts.map D.str).length=true:=zar (by simp;omega);have p5:=p4.gr<|Gr.app s4 [.lst (ts.map D.str)];have es:=Hn.zej (zau s4<|.lst<|ts.map D.str) (by omega);have f5:=Fr.app n s4 [.lst (ts.map D.str)];have hp:(zc6 ts).Perm ts:=Cb _ _;generalize hs5:s4++[O.lst (ts.map D.str)]=s5 at p5 es f5;refine⟨zc6 ts,s5.length,s5++[.lst ((zc6 ts).map D.str)],zbX ?_,zau _ _,by rw[<-ht];exact hp.length_eq,fun x hx=>hn x (hp.mem_iff.mp hx),p5.ne,p5.gr<|Gr.app _ _,(f14.trans f5).trans<|Fr.app _ _ _⟩;generalize (zc6 ts).map D.str=B at es;generalize ts.map D.str=A at ec fl hs5;unfold zcc;refine zam (U1:=[some (.ref n),some (.int Mq),some (.str zaD),none,none]) (s1:=st) (by simp) ?_;refine zam g1 ?_;refine zam (U1:=[some (.ref n),some (.int Mq),some (.str zaD),some (.int r1),some (.int w)]) (s1:=s4) (by simp[e4,eq_int,hr]) ?_;have ecm:zcH (mR1<|mVar 1) 1 [2,3,4] (gNm 0) zbV zaT [some (.ref n),some (.int Mq),some (.str zaD),some (.int r1),some (.int w)] s4=some (.ref s4.length,s5):=by
     rw[zaJ,zju (s1:=s4) (k:=k) hM (by simp) (by omega)];simp only[Ae];rw[show rho0 [some (.ref n),some (.int Mq),some (.str zaD),some (.int r1),some (.int w)] 1 [2,3,4]=[none,some (.str zaD),some (.int r1),some (.int w)] from rfl,ec];simp only[Ae,fl,if_true,hs5]
   simp[ecm,es]
end L2.MP.Hd
namespace L2.MP.Hd
open PySem L2.MP
open L2.MP.Hb (sgD)
noncomputable abbrev sg36:Str:="abcdefghijklmnopqrstuvwxyz0123456789"
def znd:∀ k:Nat,k < 36->∃ c,sg36.cps[k]?=some c/\48<=c/\c<=122:=by
 have:∀ k:Nat,k < 36->(match sg36.cps[k]? with | some c=>decide (48<=c/\c<=122) | none=>false)=true:=by decide +kernel
 intro k hk;have:=this k hk
 split at this
 . rename_i c e;exact⟨c,e,of_decide_eq_true this⟩
 . cases this
structure KdOk(ss:List Str)(k:List Str):Prop where
 ex:∃ f ds,k=f::ds/\NmOk f/\ds.length=4/\∀ x∈ds,NmOk x/\(x=""\/x∈ss)
variable {lN a n:Nat}{r:Int}{s s1 s2 s3:Sto}
def zm8{c:Int}{v:Option D}{y:D}(hs1:s++[.lst [.str ""]]=s1)(ea:addD (.ref s.length) (.ref lN) s1=some (.ref a,s2))(el:lenD [.ref lN] s2=some (.int c,s2))(en:zad [.ref n,.int (c+1)] s2=some (.int r,s3))(ex:ixA (.ref a) (.int r) s3=some (y,s3)) :
   zaQ [v,some (.ref lN),some (.ref n)] s=some (y,s3):=by
 unfold zaQ;simp[hs1,ea,el,en,ex]
variable {m:Nat}{ss:List Str}{st:Sto}
def zlb{ss:List Str}(h:PotD n m st)(hN:st[lN]?=some (.lst<|ss.map D.str))(h1:lN≠n)(hl:ss.length<=100)(hn:∀ x∈ss,NmOk x)(hm:m<=800000) :
   ∃ (ds:List Str) (st':Sto),Y5 (mCI ⟨run 0 4,[]⟩ (gNm 0) zbV zaQ (run 0 4) [none,some (.ref lN),some (.ref n)] st=some (ds.map D.str,st')) (ds.length=4) ((∀ x∈ds,NmOk x/\(x=""\/x∈ss))) (PotD n (m+4) st') (Fr n st st'):=by
 have key:=zmt (W:=⟨run 0 4,[]⟩) (g:=gNm 0) (c:=zbV) (m:=zaQ) (ds:=run 0 4) (acc:=[]) (st:=st) (U:=[none,some (.ref lN),some (.ref n)])
   (Inv:=fun k a U s=>Y4 ((∃ x,U=[x,some (.ref lN),some (.ref n)])) ((∃ ds:List Str,a=ds.map D.str/\ds.length=k/\∀ x∈ds,NmOk x/\(x=""\/x∈ss))) (PotD n (m+k) s) (Fr n st s))
   ⟨⟨_,rfl⟩,⟨[],rfl,rfl,by simp⟩,h,Fr.refl _ _⟩ (fun _ _ _ _ _ _=>rfl) (fun k d a U s hd hI=>by
     obtain⟨⟨x,rfl⟩,⟨ds,rfl,hlen,hok⟩,hp,hf⟩:=hI;have hk4:=(zds hd).1;have hN0:s[lN]?=some (.lst<|ss.map D.str):=(hf.old _ (getElem?_lt hN) h1).trans hN;have a1:=zau s (.lst [.str ""]);have hN1:(s++[O.lst [D.str ""]])[lN]?=some (.lst<|ss.map D.str):=by rw[Ap (getElem?_lt hN0)];exact hN0
     have p1:=hp.gr (Gr.app s [.lst [.str ""]]);have f1:=Fr.app n s [.lst [.str ""]];generalize hs1:s++[O.lst [D.str ""]]=s1 at a1 hN1 p1 f1;have ea:=ziV a1 hN1 (by simp;omega);have a2:=zau s1 (.lst<|[.str ""]++ss.map D.str);have hN2:(s1++[O.lst ([.str ""]++ss.map D.str)])[lN]?=some (.lst<|ss.map D.str):=by rw[Ap (getElem?_lt hN1)];exact hN1
     have p2:=p1.gr (Gr.app s1 [.lst ([.str ""]++ss.map D.str)]);have f2:=Fr.app n s1 [.lst ([.str ""]++ss.map D.str)];have hn1:=p1.ne;generalize hs2:s1++[O.lst ([.str ""]++ss.map D.str)]=s2 at a2 hN2 p2 f2 ea;have el:=zid hN2;rw[Ag] at el;obtain⟨r,s3,e3,r0,r1,p3,f3⟩:=zaS (many:=(ss.length:Int)+1) p2 (by omega) (by omega) (by omega);have a3:=(f3.old _ (getElem?_lt a2) hn1).trans a2;have hr:r.toNat < ((("":Str))::ss).length:=by simp;omega
     have hm:[D.str ""]++ss.map D.str=((("":Str))::ss).map D.str:=rfl;rw[hm] at a3;have ex:=zbW (x:=.str ((("":Str))::ss)[r.toNat]) a3 r0 (by rw[Av,Ah hr];rfl);have hmem:((("":Str))::ss)[r.toNat]∈("":Str)::ss:=AS hr;generalize ((("":Str))::ss)[r.toNat]=y at ex hmem;have hy:NmOk y/\(y=""\/y∈ss):=by
       rcases List.mem_cons.mp hmem with rfl | h
       . exact⟨zcV,.inl rfl⟩
       exact⟨hn y h,.inr h⟩
     refine⟨[some d,some (.ref lN),some (.ref n)],s,true,s,by simp,rfl,.inl ⟨rfl,.str y,s3,zm8 hs1 ea el e3 ex,⟨_,rfl⟩,⟨ds++[y],by simp,by simp[hlen],fun x hx=>?_⟩,p3,((hf.trans f1).trans f2).trans f3⟩⟩
     rcases List.mem_append.mp hx with hx | hx
     . exact hok x hx
     rw[List.mem_singleton.mp hx];exact hy)
 obtain⟨xs,U',s',ec,_,⟨ds,hx,hlen,hok⟩,hp,hf⟩:=key;rw[Ci] at hx;subst hx;rw[zbH] at hlen hp;exact⟨ds,s',ec,hlen,hok,hp,hf⟩
def zn3{ss:List Str}(h:PotD n m st)(hN:st[lN]?=some (.lst<|ss.map D.str))(h1:lN≠n)(hl:ss.length<=100)(hn:∀ x∈ss,NmOk x)(hm:m<=700000) :
   ∃ (k:List Str) (st':Sto),Y4 (zcA [.ref n,.ref lN] st=some (zbr k,st')) (KdOk ss k) (PotD n (m+6) st') (Fr n st st'):=by
 obtain⟨r1,s1,e1,r10,r11,p1,f1⟩:=zaS (many:=36) h (by omega) (by decide) (by decide);obtain⟨c1,g1,c10,c11⟩:=znd r1.toNat (by omega);have i1:ixA (.str sg36) (.int r1) s1=some (sgD c1,s1):=zii (by decide) r10 g1;have a2:=zau s1 (.lst [.str "",sgD c1]);have p2:=p1.gr (Gr.app s1 [.lst [.str "",sgD c1]]);have f2:=Fr.app n s1 [.lst [.str "",sgD c1]];have hn2:=p1.ne;generalize hs2:s1++[O.lst [D.str "",sgD c1]]=s2 at a2 p2 f2;obtain⟨r3,s3,e3,r30,r31,p3,f3⟩:=zaS (many:=2) p2 (by omega) (by decide) (by decide);have a3:=(f3.old _ (getElem?_lt a2) hn2).trans a2;obtain⟨x,hx,fx⟩:∃ x:Str,[D.str "",sgD c1][r3.toNat]?=some (.str x)/\NmOk x:=by
   have:r3=0\/r3=1:=by omega
   rcases this with rfl | rfl
   . exact⟨"",rfl,zcV⟩
   exact⟨⟨#[c1]⟩,rfl,⟨by simp,by simp;omega⟩⟩
 have i3:ixA (.ref s1.length) (.int r3) s3=some (.str x,s3):=zbW a3 r30 hx;have f13:Fr n st s3:=(f1.trans f2).trans f3;have hN3:=(f13.old _ (getElem?_lt hN) h1).trans hN;obtain⟨ds,s4,e4,hds,hok,p4,f4⟩:=zlb p3 hN3 h1 hl hn (by omega);have fd:fits (ds.map D.str).length=true:=zar (by simp;omega)
 match ds,hds,hok,e4,fd with
 | [a,b,c,d],_,hok,e4,fd =>
   have a5:=zau s4<|.lst [.str a,.str b,.str c,.str d];have p5:=p4.gr<|Gr.app s4 [.lst [.str a,.str b,.str c,.str d]];have f5:=Fr.app n s4 [.lst [.str a,.str b,.str c,.str d]];have e4:mCI ⟨run 0 4,[]⟩ (gNm 0) zbV zaQ (run 0 4) [none,some (.ref lN),some (.ref n)] s3=some ([.str a,.str b,.str c,.str d],s4):=e4;generalize hs5:s4++[O.lst [.str a,.str b,.str c,.str d]]=s5 at a5 p5 f5;have j0:ixA (.ref s4.length) (.int 0) s5=some (.str a,s5):=zbW a5 (by decide) rfl;have j1:ixA (.ref s4.length) (.int 1) s5=some (.str b,s5):=zbW a5 (by decide) rfl;have j2:ixA (.ref s4.length) (.int 2) s5=some (.str c,s5):=zbW a5 (by decide) rfl;have j3:ixA (.ref s4.length) (.int 3) s5=some (.str d,s5):=zbW a5 (by decide) rfl;refine⟨[x,a,b,c,d],s5,zbX ?_,⟨x,[a,b,c,d],rfl,fx,rfl,hok⟩,p5.up<|by omega,(f13.trans f4).trans f5⟩;unfold zdK;refine zam (U1:=[some (.ref n),some (.ref lN),some (.str x),none]) (s1:=s3) (by simp[e1,i1,hs2,e3,i3]) ?_;have ecm:zcH (mR1<|mCon<|.int 4) 1 [1,0] (gNm 0) zbV zaQ [some (.ref n),some (.ref lN),some (.str x),none] s3=some (.ref s4.length,s5):=by rw[zaJ,zhJ (k:=4) rfl (by decide)];simp only[Ae];rw[show rho0 [some (.ref n),some (.ref lN),some (.str x),none] 1 [1,0]=[none,some (.ref lN),some (.ref n)] from rfl,e4];simp only[Ae,AB,Be,hs5];rfl
   refine zam (U1:=[some (.ref n),some (.ref lN),some (.str x),some (.ref s4.length)]) (s1:=s5) (by rw[zdW,ecm];rfl) ?_;simp[j0,j1,j2,j3,zbr]
def zeL(e:Int)(stk:List (Str×Int))(ks:List (List Str)):D:=.tup [.int e,.tup (stk.map zbq),.tup (ks.map zbr)]
structure HsOk(e:Int)(stk:List (Str×Int))(ks:List (List Str)):Prop where
 e0:1<=e
 e1:e<=4
 sl:stk.length<=8
 nm:∀ p∈stk,NmOk p.1/\1<=p.2/\p.2<=4
 lo:1<=ks.length
 hi:ks.length<=13
 kd:∀ k∈ks,KdOk (stk.map (·.1)) k
def zkZ{a:Nat}{nm:D}{r2 y:Int}(e1:zad [.ref n,.int 4] s=some (.int r,s1))(hs2:s1++[.lst [.int 1,.int 2,.int 1,.int (1+r)]]=s2)(e2:zad [.ref n,.int 4] s2=some (.int r2,s3))(ex:ixA (.ref s1.length) (.int r2) s3=some (.int y,s3)):zaV [some nm,some (.ref n)] s=some (.tup [nm,.int y],s3):=by unfold zaV;simp[e1,hs2,e2,ex]
def zjc{ss:List Str}(h:PotD n m st)(hN:st[lN]?=some (.lst<|ss.map D.str))(h1:lN≠n)(hl:ss.length<=8)(hn:∀ x∈ss,NmOk x)(hm:m<=800000) :
   ∃ (stk:List (Str×Int)) (st':Sto),Y5 (mCI ⟨ss.map D.str,[(lN,ss.map D.str)]⟩ (gNm 0) zbV zaV (ss.map D.str) [none,some (.ref n)] st=some (stk.map zbq,st')) (stk.map (·.1)=ss) ((∀ p∈stk,NmOk p.1/\1<=p.2/\p.2<=4)) (PotD n (m+16) st') (Fr n st st'):=by
 have key:=zmt (W:=⟨ss.map D.str,[(lN,ss.map D.str)]⟩) (g:=gNm 0) (c:=zbV) (m:=zaV) (ds:=ss.map D.str) (acc:=[]) (st:=st) (U:=[none,some (.ref n)])
   (Inv:=fun k a U s=>Y4 ((∃ x,U=[x,some (.ref n)])) ((∃ stk:List (Str×Int),a=stk.map zbq/\stk.map (·.1)=ss.take k/\∀ p∈stk,NmOk p.1/\1<=p.2/\p.2<=4)) (PotD n (m+2*k) s) (Fr n st s))
   ⟨⟨_,rfl⟩,⟨[],rfl,by simp,by simp⟩,h,Fr.refl _ _⟩ (fun k a U s _ hI=>zbG ((hI.h4.old _ (getElem?_lt hN) h1).trans hN)) (fun k d a U s hd hI=>by
     obtain⟨⟨x,rfl⟩,⟨stk,rfl,htk,hok⟩,hp,hf⟩:=hI;rw[Av] at hd;obtain⟨nm,hnm,rfl⟩:=zaj hd;have hk:=getElem?_lt hnm;obtain⟨r,s1,e1,r0,r1,p1,f1⟩:=zaS (many:=4) hp (by omega) (by decide) (by decide);have a2:=zau s1<|.lst [.int 1,.int 2,.int 1,.int (1+r)];have p2:=p1.gr<|Gr.app s1 [.lst [.int 1,.int 2,.int 1,.int (1+r)]];have f2:=Fr.app n s1 [.lst [.int 1,.int 2,.int 1,.int (1+r)]];have hn2:=p1.ne;generalize hs2:s1++[O.lst [.int 1,.int 2,.int 1,.int (1+r)]]=s2 at a2 p2 f2;obtain⟨r2,s3,e3,r20,r21,p3,f3⟩:=zaS (many:=4) p2 (by omega) (by decide) (by decide);have a3:=(f3.old _ (getElem?_lt a2) hn2).trans a2;obtain⟨y,hy,y0,y1⟩:∃ y:Int,[D.int 1,.int 2,.int 1,.int (1+r)][r2.toNat]?=some (.int y)/\1<=y/\y<=4:=by
       have:r2=0\/r2=1\/r2=2\/r2=3:=by omega
       rcases this with rfl | rfl | rfl | rfl
       . exact⟨1,rfl,by decide,by decide⟩
       . exact⟨2,rfl,by decide,by decide⟩
       . exact⟨1,rfl,by decide,by decide⟩
       exact⟨1+r,rfl,by omega,by omega⟩
     have ex:ixA (.ref s1.length) (.int r2) s3=some (.int y,s3):=zbW a3 r20 hy;refine⟨[some (.str nm),some (.ref n)],s,true,s,rfl,rfl,.inl ⟨rfl,zbq (nm,y),s3,zkZ (a:=0) e1 hs2 e3 ex,⟨_,rfl⟩,⟨stk++[(nm,y)],by simp,?_,fun p hp=>?_⟩,p3.up<|by omega,((hf.trans f1).trans f2).trans f3⟩⟩
     . rw[Bn,htk,BM,hnm];rfl
     . rcases List.mem_append.mp hp with hp | hp
       . exact hok p hp
       rw[List.mem_singleton.mp hp];exact⟨hn nm<|AG hnm,y0,y1⟩)
 obtain⟨xs,U',s',ec,_,⟨stk,hx,htk,hok⟩,hp,hf⟩:=key;rw[Ci] at hx;subst hx;rw[Ag] at htk hp;rw[Bz] at htk;exact⟨stk,s',ec,htk,hok,hp.up<|by omega,hf⟩
def zl8{j:Nat}{ss:List Str}(h:PotD n m st)(hN:st[lN]?=some (.lst<|ss.map D.str))(h1:lN≠n)(hl:ss.length<=8)(hn:∀ x∈ss,NmOk x)(hm:m<=600000)(hj:j<=12) :
   ∃ (ks:List (List Str)) (st':Sto),Y5 (mCI ⟨run 0 j,[]⟩ (gNm 0) zbV za7 (run 0 j) [none,some (.ref n),some (.ref lN)] st=some (ks.map zbr,st')) (ks.length=j) ((∀ k∈ks,KdOk ss k)) (PotD n (m+72) st') (Fr n st st'):=by
 have key:=zmt (W:=⟨run 0 j,[]⟩) (g:=gNm 0) (c:=zbV) (m:=za7) (ds:=run 0 j) (acc:=[]) (st:=st) (U:=[none,some (.ref n),some (.ref lN)])
   (Inv:=fun i a U s=>Y4 ((∃ x,U=[x,some (.ref n),some (.ref lN)])) ((∃ ks:List (List Str),a=ks.map zbr/\ks.length=i/\∀ k∈ks,KdOk ss k)) (PotD n (m+6*i) s) (Fr n st s))
   ⟨⟨_,rfl⟩,⟨[],rfl,rfl,by simp⟩,h,Fr.refl _ _⟩ (fun _ _ _ _ _ _=>rfl) (fun i d a U s hd hI=>by
     obtain⟨⟨x,rfl⟩,⟨ks,rfl,hlen,hok⟩,hp,hf⟩:=hI;have hi:=(zds hd).1;obtain⟨k,s1,e1,hk,p1,f1⟩:=zn3 hp ((hf.old _ (getElem?_lt hN) h1).trans hN) h1 (by omega) hn (by omega);refine⟨[some d,some (.ref n),some (.ref lN)],s,true,s,rfl,rfl,.inl ⟨rfl,zbr k,s1,?_,⟨_,rfl⟩,⟨ks++[k],by simp,by simp[hlen],fun y hy=>?_⟩,p1.up<|by omega,hf.trans f1⟩⟩
     . unfold za7;simp[e1]
     . rcases List.mem_append.mp hy with hy | hy
       . exact hok y hy
       rw[List.mem_singleton.mp hy];exact hk)
 obtain⟨xs,U',s',ec,_,⟨ks,hx,hlen,hok⟩,hp,hf⟩:=key;rw[Ci] at hx;subst hx;rw[zbH] at hlen hp;exact⟨ks,s',ec,hlen,hok,hp.up<|by omega,hf⟩
def zgg{xs:List Int}{lo hi:Int}(h:PotD n m st)(hm:m<=900000)(hx:1<=xs.length)(hx2:xs.length<=100)(hb:∀ x∈xs,lo<=x/\x<=hi):∃ (r y:Int) (st':Sto),Y6 (zad [.ref n,.int (xs.length:Int)] (st++[.lst (xs.map D.int)])=some (.int r,st')) (ixA (.ref st.length) (.int r) st'=some (.int y,st')) (lo<=y) (y<=hi) (PotD n (m+1) st') (Fr n st st'):=by
 have a1:=zau st<|.lst<|xs.map D.int;have p1:=h.gr<|Gr.app st [.lst (xs.map D.int)];have f1:=Fr.app n st [.lst (xs.map D.int)];have hn:=h.ne;generalize st++[O.lst (xs.map D.int)]=s1 at a1 p1 f1;obtain⟨r,s2,e2,r0,r1,p2,f2⟩:=zaS (many:=(xs.length:Int)) p1 (by omega) (by omega) (by omega);have a2:=(f2.old _ (getElem?_lt a1) hn).trans a1;have hr:r.toNat < xs.length:=by omega
 have hy:=hb _<|AS hr;exact⟨r,xs[r.toNat],s2,e2,zbW a2 r0 (by rw[Av,Ah hr];rfl),hy.1,hy.2,p2,f1.trans f2⟩
def zme(h:PotD n m st)(hm:m<=100000):∃ (e:Int) (stk:List (Str×Int)) (ks:List (List Str)) (st':Sto),Y4 (zb8 [.ref n] st=some (zeL e stk ks,st')) (HsOk e stk ks) (PotD n (m+200) st') (Fr n st st'):=by
 obtain⟨r1,s1,e1,r10,r11,p1,f1⟩:=zaS (many:=4) h (by omega) (by decide) (by decide);obtain⟨ss,lN,s2,e2,at2,hss,hnm,n1,p2,f2⟩:=zlR (k:=(1+r1).toNat) (Mq:=1+r1) (by omega) p1 (by omega) (by omega);obtain⟨r3,y3,s3,e3,x3,y30,y31,p3,f3⟩:=zgg (xs:=[1,1,2,2,1,3,4,2]) (lo:=1) (hi:=4) p2 (by omega) (by decide) (by decide) (by decide);have nm3:=(f3.old _ (getElem?_lt at2) n1).trans at2;obtain⟨stk,s4,e4,hstk,hsok,p4,f4⟩:=zjc p3 nm3 n1 (by omega) hnm (by omega);have lstk:stk.length=ss.length:=by rw[<-hstk,Ag]
 have a5:=zau s4<|.lst<|stk.map zbq;have p5:=p4.gr<|Gr.app s4 [.lst (stk.map zbq)];have f5:=Fr.app n s4 [.lst (stk.map zbq)];have fs:fits (stk.map zbq).length=true:=zar (by rw[Ag];omega);generalize hs5:s4++[O.lst (stk.map zbq)]=s5 at a5 p5 f5;have et:=zcg a5;obtain⟨r6,y6,s6,e6,x6,y60,y61,p6,f6⟩:=zgg (xs:=[3,5,5,12]) (lo:=3) (hi:=12) p5 (by omega) (by decide) (by decide) (by decide);obtain⟨r7,s7,e7,r70,r71,p7,f7⟩:=zaS (many:=y6) p6 (by omega) (by omega) (by omega);have nm7:=(((f4.trans f5).trans<|f6.trans f7).old _ (getElem?_lt nm3) n1).trans nm3;obtain⟨ks,s8,e8,hks,hkok,p8,f8⟩:=zl8 (j:=(1+r7).toNat) p7 nm7 n1 (by omega) hnm (by omega) (by omega);have a9:=zau s8<|.lst<|ks.map zbr;have p9:=p8.gr<|Gr.app s8 [.lst (ks.map zbr)];have f9:=Fr.app n s8 [.lst (ks.map zbr)];have fk:fits (ks.map zbr).length=true:=zar (by rw[Ag];omega);have hn9:=p8.ne;generalize hs9:s8++[O.lst (ks.map zbr)]=s9 at a9 p9 f9;obtain⟨r10',s10,e10,r100,r101,p10,f10⟩:=zaS (many:=6) p9 (by omega) (by decide) (by decide);have a10:=(f10.old _ (getElem?_lt a9) hn9).trans a9;have f110:Fr n st s10:=((f1.trans f2).trans<|f3.trans f4).trans<|((f5.trans f6).trans<|f7.trans f8).trans<|f9.trans f10;have sm:small (1+r7)=true:=zch (by omega) (by omega);have ecm1:zcH (mWA<|mVar 1) 1 [0] (gNm 0) zbV zaV [some (.ref n),some (.ref lN),some (.int y3),none,none] s3=some (.ref s4.length,s5):=by
   have:mWA (mVar 1) [some (.ref n),some (.ref lN),some (.int y3),none,none] s3=some (⟨ss.map D.str,[(lN,ss.map D.str)]⟩,s3):=by simp[zft,zbi,nm3]
   rw[zaJ,this];simp only[Ae];rw[show rho0 [some (.ref n),some (.ref lN),some (.int y3),none,none] 1 [0]=[none,some (.ref n)] from rfl,e4];simp only[Ae,fs,if_true,hs5]
 have ecm2:zcH (mR1<|mBin addD (mCon<|.int 1)<|zas zad<|zac (mVar 0)<|zac (mBin ixA (mLst<|zac (mCon<|.int 3)<|zac (mCon<|.int 5)<|zac (mCon<|.int 5)<|zac (mCon<|.int 12)<|mNil)<|zas zad<|zac (mVar 0)<|zac (mCon<|.int 4)<|mNil)<|mNil) 1 [0,1] (gNm 0) zbV za7 [some (.ref n),some (.ref lN),some (.int y3),some (.tup<|stk.map zbq),none] s5=some (.ref s8.length,s9):=by
   have e6':zad [.ref n,.int 4] (s5++[.lst [.int 3,.int 5,.int 5,.int 12]])=some (.int r6,s6):=e6;have:mR1 (mBin addD (mCon<|.int 1)<|zas zad<|zac (mVar 0)<|zac (mBin ixA (mLst<|zac (mCon<|.int 3)<|zac (mCon<|.int 5)<|zac (mCon<|.int 5)<|zac (mCon<|.int 12)<|mNil)<|zas zad<|zac (mVar 0)<|zac (mCon<|.int 4)<|mNil)<|mNil) [some (.ref n),some (.ref lN),some (.int y3),some (.tup<|stk.map zbq),none] s5=some (⟨run 0 (1+r7).toNat,[]⟩,s7):=by simp[e6',x6,e7,sm]
   rw[zaJ,this];simp only[Ae];rw[show rho0 [some (.ref n),some (.ref lN),some (.int y3),some (.tup<|stk.map zbq),none] 1 [0,1]=[none,some (.ref n),some (.ref lN)] from rfl,e8];simp only[Ae,fk,if_true,hs9]
 have e3':zad [.ref n,.int 8] (s2++[.lst [.int 1,.int 1,.int 2,.int 2,.int 1,.int 3,.int 4,.int 2]])=some (.int r3,s3):=e3;have pre:∀ {R:Option (Fl×Sto)},mSeq (mIf (mTst<|mBin eqD (zas zad<|zac (mVar 0)<|zac (mCon<|.int 6)<|mNil)<|mCon<|.int 0) (mExp<|mApp (mVar 4)<|zac (mBin ixA (mVar 4)<|zas zad<|zac (mVar 0)<|zac (zas lenD<|zac (mVar 4)<|mNil)<|mNil)<|mNil)<|zdR) (mRet<|mTup<|zac (mVar 2)<|zac (mVar 3)<|zac (zas zef<|zac (mVar 4)<|mNil)<|mNil)
     [some (.ref n),some (.ref lN),some (.int y3),some (.tup<|stk.map zbq),some (.ref s8.length)] s9=R->zcd (rho 5 [.ref n]) st=R:=fun hR=>by
   unfold zcd;refine zam (U1:=[some (.ref n),some (.ref lN),none,none,none]) (s1:=s2) (by simp[e1,e2]) ?_;refine zam (U1:=[some (.ref n),some (.ref lN),some (.int y3),none,none]) (s1:=s3) (by simp[e3',x3]) ?_;refine zam (U1:=[some (.ref n),some (.ref lN),some (.int y3),some (.tup<|stk.map zbq),none]) (s1:=s5) (by simp[ecm1,et]) ?_;exact zam (U1:=[some (.ref n),some (.ref lN),some (.int y3),some (.tup<|stk.map zbq),some (.ref s8.length)]) (s1:=s9) (by rw[zdW,ecm2];rfl) hR
 have kd':∀ k∈ks,KdOk (stk.map (·.1)) k:=by rw[hstk];exact hkok
 by_cases hr:r10'=0
 . subst hr;have el:=zid a10;rw[Ag] at el;obtain⟨r11',s11,e11,r110,r111,p11,f11⟩:=zaS (many:=(ks.length:Int)) p10 (by omega) (by omega) (by omega);have a11:=(f11.old _ (getElem?_lt a10) hn9).trans a10;have hlt:r11'.toNat < ks.length:=by omega
   have ex:ixA (.ref s8.length) (.int r11') s11=some (zbr ks[r11'.toNat],s11):=zbW a11 r110 (by rw[Av,Ah hlt];rfl);have hmem:ks[r11'.toNat]∈ks:=AS hlt;generalize ks[r11'.toNat]=k0 at ex hmem;have ea:=append_at (x:=zbr k0) a11 (by rw[Ag];omega);have a12:(s11.set s8.length<|.lst<|ks.map zbr++[zbr k0])[s8.length]?=some (.lst<|ks.map zbr++[zbr k0]):=by simp[getElem?_lt a11]
   have et2:=zcg a12;have hlen8:st.length<=s8.length:=(((f1.trans f2).trans<|f3.trans f4).trans<|(f5.trans f6).trans<|f7.trans f8).len;refine⟨y3,stk,ks++[k0],s11.set s8.length<|.lst<|ks.map zbr++[zbr k0],zbX<|pre ?_,⟨y30,y31,by omega,hsok,by simp,by simp;omega,fun k hk=>?_⟩,(p11.set hn9).up<|by omega,?_⟩
   . generalize s11.set s8.length (.lst<|ks.map zbr++[zbr k0])=s12 at *;refine zam (U1:=[some (.ref n),some (.ref lN),some (.int y3),some (.tup<|stk.map zbq),some (.ref s8.length)]) (s1:=s12) (by simp[e10,eq_int,el,e11,ex,ea,zbi,a10]) ?_;simp[et2,zeL]
   . rcases List.mem_append.mp hk with hk | hk
     . exact kd' k hk
     rw[List.mem_singleton.mp hk];exact kd' k0 hmem
   have f:=f110.trans f11;exact⟨by rw[BI];exact f.len,fun k hk hkn=>by rw[AA (by omega)];exact f.old k hk hkn⟩
 have et2:=zcg a10;refine⟨y3,stk,ks,s10,zbX<|pre ?_,⟨y30,y31,by omega,hsok,by omega,by omega,kd'⟩,p10.up<|by omega,f110⟩;refine zam (U1:=[some (.ref n),some (.ref lN),some (.int y3),some (.tup<|stk.map zbq),some (.ref s8.length)]) (s1:=s10) (by simp[e10,eq_int,hr]) ?_;simp[et2,zeL]
end L2.MP.Hd
namespace L2.MP.Hd
open PySem L2.MP
open L2.MP.Hn (za3 zaF srtT za9)
def zdG(w h kn:Int)(t:Tl):Prop:=0<=t.1/\t.1 < w/\0<=t.2.1/\t.2.1 < h/\0<=t.2.2/\t.2.2 < kn
def zmN:∀ {l:List Tl} {t:Tl},PlNd l->t∈l->valD (l.map kvOf) (kvOf t).1=some (.int t.2.2)
 | [],t,_,h=>by cases h
 | u::l,t,nd,h=>by
   have nd':(∀ b∈l,zbh u b=false)/\PlNd l:=List.pairwise_cons.mp nd;unfold valD;rw[Aw,AQ,zig]
   rcases List.mem_cons.mp h with rfl | h
   . have:zbh t t=true:=by unfold zbh;simp
     rw[this];rfl
   rw[nd'.1 t h];exact zmN nd'.2 h
structure SInv(n t m:Nat)(w h kn:Int)(st0:Sto)(l:List Tl)(s:Sto):Prop where
 at_:s[t]?=some (.dt (l.map kvOf))
 ok:∀ u∈l,zdG w h kn u
 nd:PlNd l
 pot:PotD n m s
 fr:Fr n st0 s
noncomputable abbrev srho (n:Nat) (hd:D) (w h most:Int) (t:Nat) (v u:Option D):Rho:=[some (.ref n),some hd,some (.tup [.int w,.int h]),some (.int most),some (.ref t),v,u]
variable {n t:Nat}{w h most x y k:Int}{s:Sto}{v u:Option D}
def zpg{K:Int}{hd KK:D}{s1 s2 s3 s4:Sto}(ew:ixA (.tup [.int w,.int h]) (.int 0) s=some (.int w,s))(e1:zad [.ref n,.int w] s=some (.int x,s1))(eh:ixA (.tup [.int w,.int h]) (.int 1) s1=some (.int h,s1))(e2:zad [.ref n,.int h] s1=some (.int y,s2))(e3:ixA hd (.int 2) s2=some (KK,s2))(e4:lenD [KK] s2=some (.int K,s2))(e5:zad [.ref n,.int K] s2=some (.int k,s3))(ed:dput s3 t (.tup [.int x,.int y]) (.int k)=some s4) :
   zaK (srho n hd w h most t v u) s=some (.nx (srho n hd w h most t v<|some<|.tup [.int x,.int y]),s4):=by
 unfold zaK;refine zam (U1:=srho n hd w h most t v (some<|.tup [.int x,.int y])) (s1:=s2) (by simp[srho,zaJ,ew,e1,eh,e2]) ?_;rw[zkg];have c1:mAsg (zas zad<|zac (mVar 0)<|zac (zas lenD<|zac (mBin ixA (mVar 1)<|mCon<|.int 2)<|mNil)<|mNil) (gSb setD (mVar 4)<|mVar 6) (srho n hd w h most t v<|some<|.tup [.int x,.int y]) s2=none:=by simp[srho,zaJ,e3,e4,e5,setD]
 rw[c1,zeu];unfold zl1;simp[srho,zaJ,e3,e4,e5,ed]
variable {m:Nat}{a b:D}{ks:List D}
def zhu{st0:Sto}{l:List Tl}(q:SInv n t m w h ks.length st0 l s)(ht:t≠n)(ht0:st0.length<=t)(hw:0 < w)(hw2:w<=1000)(hh:0 < h)(hh2:h<=1000)(hk:0 < ks.length)(hk2:ks.length < 100000)(hl:l.length<=1000)(hm:m<=900000) :
   ∃ (l':List Tl) (u':Option D) (s':Sto),Y3 (zaK (srho n (.tup [a,b,.tup ks]) w h most t v u) s=some (.nx (srho n (.tup [a,b,.tup ks]) w h most t v u'),s')) (SInv n t (m+3) w h ks.length st0 l' s') (l'.length<=l.length+1):=by
 obtain⟨x,s1,e1,x0,x1,p1,f1⟩:=zaS (many:=w) q.pot (by omega) hw (by omega);obtain⟨y,s2,e2,y0,y1,p2,f2⟩:=zaS (many:=h) p1 (by omega) hh (by omega);obtain⟨k,s3,e3,k0,k1,p3,f3⟩:=zaS (many:=ks.length) p2 (by omega) (by omega) (by omega);have f13:=(f1.trans f2).trans f3;have at3:=(f13.old _ (getElem?_lt q.at_) ht).trans q.at_;have ed:=zgB (x:=x) (y:=y) (k:=k) at3 hl;have hlt:=getElem?_lt at3;have fr3:=q.fr.trans f13;refine⟨putT l (x,y,k),_,s3.set t<|.dt<|(putT l (x,y,k)).map kvOf,zpg (zaN (by decide) rfl) e1 (zaN (by decide) rfl) e2 (zaN (by decide) rfl) zda e3 ed,⟨by simp[hlt],zlq q.ok ⟨x0,x1,y0,y1,k0,k1⟩,znn q.nd,p3.set ht,⟨by have:=fr3.len;simpa using this,fun j hj nj=>by rw[AA (by omega)];exact fr3.old j hj nj⟩⟩,zhM _ _⟩
def zlv(hk:zoi (.ref t) (.tup [.int x,.int y]) s=some (.int k,s)):zaL [some (.tup [.int x,.int y]),some (.ref t)] s=some (.tup [.int x,.int y,.int k],s):=by have ea:addD (.tup [.int x,.int y]) (.tup [.int k]) s=some (.tup [.int x,.int y,.int k],s):=ziU (by simp) (by simp);unfold zaL;simp[hk,ea]
variable {st:Sto}
def zfz(hp:PotD n m st)(hw:0 < w)(hw2:w<=1000)(hh:0 < h)(hh2:h<=1000)(hk:0 < ks.length)(hk2:ks.length < 100000)(hm:0<=most)(hm2:most < 60)(hmm:m<=800000) :
   ∃ (ts:List Tl) (st':Sto),Y6 (zaY [.ref n,.tup [a,b,.tup ks],.tup [.int w,.int h],.int most] st=some (za3 ts,st')) ((∀ t∈ts,zdG w h ks.length t)) ((∃ l:List Tl,ts=srtT l/\PlNd l)) ((ts.length:Int)<=most) (PotD n (m+181) st') (Fr n st st'):=by
 have ht:st.length≠n:=hp.ne;have p0:=hp.gr<|Gr.app st [.dt []];obtain⟨r,s1,e1,r0,r1,p1,f1⟩:=zaS (many:=most+1) p0 (by omega) (by omega) (by omega);have at1:s1[st.length]?=some (.dt<|([]:List Tl).map kvOf):=(f1.old _ (by simp) ht).trans<|zau st _;have key:=zbm (W:=⟨run 0 r.toNat,[]⟩) (g:=gNm 5) (m:=zaK) (ds:=run 0 r.toNat) (U:=srho n (.tup [a,b,.tup ks]) w h most st.length none none) (st:=s1)
   (Inv:=fun k U s=>∃ (l:List Tl) (v u:Option D),Y3 (U=srho n (.tup [a,b,.tup ks]) w h most st.length v u) (l.length<=k) (SInv n st.length (m+1+3*k) w h ks.length st l s))
   ⟨[],none,none,rfl,Af _,⟨at1,by simp,Cq,p1,(Fr.app _ _ _).trans f1⟩⟩ (fun _ _ _ _ _=>rfl) (fun k d U s hd hI=>by obtain⟨l,v,u,rfl,hl,q⟩:=hI;have hkl:=(zds hd).1;obtain⟨l',u',s',e,q',hl'⟩:=zhu (most:=most) (a:=a) (b:=b) (v:=some d) (u:=u) q ht (Af _) hw hw2 hh hh2 hk hk2 (by omega) (by omega);exact⟨_,s,_,s',rfl,e,l',some d,u',rfl,by omega,q'⟩)
 obtain⟨U',s2,e2,l,v,u,rfl,hl,q⟩:=key;rw[zbH] at hl q;have hlt:=getElem?_lt q.at_;have ewk:zoB (.ref st.length) s2=some (⟨zfq<|l.map kvOf,[]⟩,s2.set st.length (.ft<|l.map kvOf)):=by unfold zoB;simp only[q.at_]
 have a3:(s2.set st.length<|.ft<|l.map kvOf)[st.length]?=some (.ft<|l.map kvOf):=by simp[hlt]
 have fr3:Fr n st (s2.set st.length<|.ft<|l.map kvOf):=⟨by have:=q.fr.len;simpa using this,fun j hj nj=>by rw[AA (by omega)];exact q.fr.old j hj nj⟩
 have p3:PotD n (m+1+3*r.toNat) (s2.set st.length<|.ft<|l.map kvOf):=q.pot.set ht;generalize hs3:s2.set st.length (.ft<|l.map kvOf)=s3 at ewk a3 fr3 p3;have eit:zfq (l.map kvOf)=l.map fun t=>D.tup [.int t.1,.int t.2.1]:=by unfold zfq;rw[A6];rfl
 have ec:mCI ⟨zfq<|l.map kvOf,[]⟩ (gNm 0) zbV zaL (zfq<|l.map kvOf) [none,some (.ref st.length)] s3=some (l.map fun t=>tupD (rowT t),s3):=by
   rw[eit];refine zg7 (R:=fun U=>∃ x,U=[x,some (.ref st.length)]) ⟨none,rfl⟩ rfl fun t ht U hU=>?_;obtain⟨x,rfl⟩:=hU;have hv:=zmN q.nd ht;have hk:zoi (.ref st.length) (.tup [.int t.1,.int t.2.1]) s3=some (.int t.2.2,s3):=by have e1:keysOf [.int t.1,.int t.2.1]=some (kvOf t).1:=rfl;simp only[zoi,zmE,a3,e1,A1,Ae,hv]
   exact⟨[some (.tup [.int t.1,.int t.2.1]),some (.ref st.length)],rfl,rfl,zlv hk,⟨_,rfl⟩⟩
 have fl:fits (l.map fun t=>tupD (rowT t)).length=true:=zar (by rw[Ag];omega);have a4:=zau s3 (.lst<|l.map fun t=>tupD (rowT t));have es:=zaF a4 (by omega);have p4:=p3.gr (Gr.app s3 [.lst (l.map fun t=>tupD (rowT t))]);have f4:=Fr.app n s3 [.lst (l.map fun t=>tupD (rowT t))];have hperm:=za9 l;generalize hs4:s3++[O.lst (l.map fun t=>tupD (rowT t))]=s4 at es p4 f4;have et:=zcg (zau s4<|.lst<|(srtT l).map fun t=>tupD (rowT t));refine⟨srtT l,s4++[.lst ((srtT l).map fun t=>tupD (rowT t))],zbX ?_,fun t ht=>q.ok t (hperm.mem_iff.mp ht),⟨l,rfl,q.nd⟩,by rw[hperm.length_eq];omega,(p4.gr<|Gr.app _ _).up<|by omega,(fr3.trans f4).trans<|Fr.app _ _ _⟩;have sm:small r=true:=zch r0 (by omega);unfold zcb za3;generalize ((srtT l).map fun t=>tupD (rowT t))=B at es et;generalize (l.map fun t=>tupD (rowT t))=A at ec fl hs4;generalize zfq (l.map kvOf)=KD at ec ewk;refine zam (U1:=srho n (.tup [a,b,.tup ks]) w h most st.length none none) (s1:=st++[.dt []]) (by simp[srho,]) ?_;refine zam (U1:=srho n (.tup [a,b,.tup ks]) w h most st.length v u) (s1:=s2) (by
   have:mR1 (zas zad<|zac (mVar 0)<|zac (mBin addD (mVar 3)<|mCon<|.int 1)<|mNil) (srho n (.tup [a,b,.tup ks]) w h most st.length none none) (st++[.dt []])=some (⟨run 0 r.toNat,[]⟩,s1):=by simp[srho,e1,sm]
   rw[zcw,this];exact e2) ?_
 have ecm:zcH (mWK<|mVar 4) 1 [4] (gNm 0) zbV zaL (srho n (.tup [a,b,.tup ks]) w h most st.length v u) s2=some (.ref s3.length,s4):=by have:mWK (mVar 4) (srho n (.tup [a,b,.tup ks]) w h most st.length v u) s2=some (⟨KD,[]⟩,s3):=ewk;rw[zaJ,this];simp only[Ae];rw[show rho0 (srho n (.tup [a,b,.tup ks]) w h most st.length v u) 1 [4]=[none,some (.ref st.length)] from rfl,ec];simp only[Ae,fl,if_true,hs4]
 simp[ecm,es,et]
structure FlOk(w h:Int):Prop where
 w0:1<=w
 w1:w<=12
 h0:1<=h
 h1:h<=12
 wh:w<=5\/h<=5
def bedD(e:Int)(stk:List (Str×Int))(ks:List (List Str))(w h:Int)(sd:List Tl):D:=.tup [zeL e stk ks,.tup [.int w,.int h],za3 sd]
def zot(hp:PotD n m st)(hm:m<=100000):∃ (e:Int) (stk:List (Str×Int)) (ks:List (List Str)) (w h:Int) (sd:List Tl) (st':Sto),Y8 (zc3 [.ref n] st=some (bedD e stk ks w h sd,st')) (HsOk e stk ks) (FlOk w h) ((∀ t∈sd,zdG w h ks.length t)) ((∃ l:List Tl,sd=srtT l/\PlNd l)) (sd.length<=6) (PotD n (m+400) st') (Fr n st st'):=by
 obtain⟨e,stk,ks,s1,e1,hs,p1,f1⟩:=zme hp hm;obtain⟨r2,s2,e2,r20,r21,p2,f2⟩:=zaS (many:=5) p1 (by omega) (by decide) (by decide);obtain⟨r3,y3,s3,e3,x3,y30,y31,p3,f3⟩:=zgg (xs:=[5,5,5,12]) (lo:=5) (hi:=12) p2 (by omega) (by decide) (by decide) (by decide);obtain⟨r4,s4,e4,r40,r41,p4,f4⟩:=zaS (many:=y3) p3 (by omega) (by omega) (by omega);obtain⟨r5,s5,e5,r50,r51,p5,f5⟩:=zaS (many:=2) p4 (by omega) (by decide) (by decide);obtain⟨r6,y6,s6,e6,x6,y60,y61,p6,f6⟩:=zgg (xs:=[1,2,6]) (lo:=1) (hi:=6) p5 (by omega) (by decide) (by decide) (by decide);have e3':zad [.ref n,.int 4] (s2++[.lst [.int 5,.int 5,.int 5,.int 12]])=some (.int r3,s3):=e3;have e6':zad [.ref n,.int 3] (s5++[.lst [.int 1,.int 2,.int 6]])=some (.int r6,s6):=e6;have k1:=hs.lo;have k2:=hs.hi;have f16:Fr n st s6:=((f1.trans f2).trans<|f3.trans f4).trans<|f5.trans f6;obtain⟨w,h,hwh,hfl⟩:∃ w h:Int,(∀ R:Option (Fl×Sto),mRet (mTup<|zac (mVar 1)<|zac (mVar 2)<|zac (zas zaY<|zac (mVar 0)<|zac (mVar 1)<|zac (mVar 2)<|zac (mBin ixA (mLst<|zac (mCon<|.int 1)<|zac (mCon<|.int 2)<|zac (mCon<|.int 6)<|mNil)<|zas zad<|zac (mVar 0)<|zac (mCon<|.int 3)<|mNil)<|mNil)<|mNil) [some (.ref n),some (zeL e stk ks),some (.tup [.int w,.int h])] s5=R->zck (rho 3 [.ref n]) st=R)/\FlOk w h:=by
   generalize zeL e stk ks=hd at *
   by_cases hr:r5=0
   . subst hr;refine⟨1+r4,1+r2,fun R hR=>?_,by omega,by omega,by omega,by omega,by omega⟩;unfold zck;refine zam (U1:=[some (.ref n),some hd,none]) (s1:=s1) (by simp[e1]) ?_;refine zam (U1:=[some (.ref n),some hd,some (.tup [.int (1+r2),.int (1+r4)])]) (s1:=s4) (by simp[e2,e3',x3,e4]) ?_;refine zam (U1:=[some (.ref n),some hd,some (.tup [.int (1+r4),.int (1+r2)])]) (s1:=s5) ?_ hR;have er:∀ s:Sto,zpT (mVar 2) (mNeg<|mCon<|.int 1) [some (.ref n),some hd,some (.tup [.int (1+r2),.int (1+r4)])] s=some (.tup [.int (1+r4),.int (1+r2)],s):=fun s=>rfl;simp[e5,eq_int,er]
   refine⟨1+r2,1+r4,fun R hR=>?_,by omega,by omega,by omega,by omega,by omega⟩;unfold zck;refine zam (U1:=[some (.ref n),some hd,none]) (s1:=s1) (by simp[e1]) ?_;refine zam (U1:=[some (.ref n),some hd,some (.tup [.int (1+r2),.int (1+r4)])]) (s1:=s4) (by simp[e2,e3',x3,e4]) ?_;refine zam (U1:=[some (.ref n),some hd,some (.tup [.int (1+r2),.int (1+r4)])]) (s1:=s5) (by simp[e5,eq_int,hr]) hR
 have:=hfl.w0;have:=hfl.w1;have:=hfl.h0;have:=hfl.h1;obtain⟨sd,s7,e7,hsd,hso,hsl,p7,f7⟩:=zfz (w:=w) (h:=h) (most:=y6) (a:=.int e) (b:=.tup (stk.map zbq)) (ks:=ks.map zbr) p6 (by omega) (by omega) (by omega) (by omega) (by rw[Ag];omega) (by rw[Ag];omega) (by omega) (by omega) (by omega);have e7:zaY [.ref n,zeL e stk ks,.tup [.int w,.int h],.int y6] s6=some (za3 sd,s7):=e7;rw[Ag] at hsd;refine⟨e,stk,ks,w,h,sd,s7,zbX<|hwh _ ?_,hs,hfl,hsd,hso,by omega,p7.up<|by omega,f16.trans f7⟩;unfold bedD;generalize zeL e stk ks=hd at *;simp[e6',x6,e7]
end L2.MP.Hd
namespace L2.MP.Hd
open PySem L2.MP
open L2.MP.Hn (za3)
variable {x y:Int}{d:Nat}{kvs:List (List Key×D)}{st:Sto}
def zqc(h:st[d]?=some (.dt kvs)):inA (.tup [.int x,.int y]) (.ref d) st=some (.bl (valD kvs [.inl x,.inl y]).isSome,st):=by
 have e0:toP 50 st (.ref d)=none:=by rw[toP];simp[zbi,h]
 have e1:inD false (.tup [.int x,.int y]) (.ref d) st=none:=by
   unfold inD;rw[e0]
   cases toP 50 st (.tup [.int x,.int y]) <;> rfl
 have e2:inSD (.tup [.int x,.int y]) (.ref d) st=none:=rfl;unfold inA orG;rw[show orO (inD false (.tup [.int x,.int y]) (.ref d) st) (inSD (.tup [.int x,.int y]) (.ref d) st)=none by rw[e1,e2];rfl,zeu];simp[dinD,look,h,keysOf,keyOf]
variable {v:D}
def zrB(h:st[d]?=some (.dt kvs))(hv:valD kvs [.inl x,.inl y]=some v):ixA (.ref d) (.tup [.int x,.int y]) st=some (v,st):=by
 have e1:idxD (.ref d) (.tup [.int x,.int y]) st=none:=by simp[idxD,zbi,h]
 unfold ixA orG;rw[e1,zeu];simp[zqj,look,h,keysOf,keyOf,hv]
variable {a b:Str}
def eq_str(ha:AU a=true)(hb:AU b=true):eqD (.str a) (.str b) st=some (.bl (a==b),st):=by unfold eqD;rw[zf4 ha,zf4 hb];simp[CN]
def ne_str(ha:AU a=true)(hb:AU b=true):neD (.str a) (.str b) st=some (.bl (a != b),st):=by unfold neD;rw[zf4 ha,zf4 hb];simp[CN,bne]
def byPl(ts:List Tl):List Tl:=ts.foldl putT []
def zh6:∀ (ts acc:List Tl),ze7 (acc.map kvOf) (ts.map kvOf)=(ts.foldl putT acc).map kvOf
 | [],acc=>rfl
 | t::ts,acc=>by show ze7 (putD (acc.map kvOf) (kvOf t).1 (kvOf t).2) (ts.map kvOf)=_;rw[zkp];exact zh6 ts<|putT acc t
def zis:∀ (ts acc:List Tl),(ts.foldl putT acc).length<=acc.length+ts.length
 | [],acc=>by simp
 | t::ts,acc=>by have h1:=zis ts<|putT acc t;have h2:=zhM acc t;simp only[DI,AB];omega
def fnd(P:List Tl)(x y:Int):Option Int:=(P.find? fun t=>decide (t.1=x)&&decide (t.2.1=y)).map fun t=>t.2.2
def zdX(x y:Int):∀ P:List Tl,valD (P.map kvOf) [.inl x,.inl y]=(fnd P x y).map D.int
 | []=>rfl
 | t::P=>by
   have ih:=zdX x y P;have hk:decide ((kvOf t).1=[Ca x,Ca y])=(decide (t.1=x)&&decide (t.2.1=y)):=zig t (x,y,0);unfold valD fnd at *;rw[Aw,AQ,AQ,hk]
   cases decide (t.1=x)&&decide (t.2.1=y) with
   | true=>rfl
   | false=>exact ih
variable {P:List Tl}{k:Int}
def ziu{P:List Tl}(h:fnd P x y=some k):∃ t∈P,t.2.2=k:=by unfold fnd at h;obtain⟨t,e,h⟩:=zaj h;exact⟨t,List.mem_of_find?_eq_some e,h⟩
variable {t:Tl}{s:Sto}
theorem zpW:za6 [some (.int t.1),some (.int t.2.1),some (.int t.2.2)] s=some (.tup [.tup [.int t.1,.int t.2.1],.int t.2.2],s):=rfl
def znu:∀ ts:List Tl,zfG (ts.map fun t=>.tup [.tup [.int t.1,.int t.2.1],.int t.2.2])=some (ts.map kvOf)
 | []=>rfl
 | t::ts=>by have ih:=znu ts;rw[Aw,zfG,ih];rfl
theorem zkX{a b c:Option D}{r:Rho}:gTp 3 (gC (gNm 0)<|gC (gNm 1)<|gC (gNm 2)<|gN0) (tupD<|rowT t) (a::b::c::r) st=some (some (.int t.1)::some (.int t.2.1)::some (.int t.2.2)::r,st):=rfl
variable {ts:List Tl}
def zjM(hl:ts.length<=1000):∃ (l:Nat) (st':Sto),Y4 (zb7 [za3 ts] st=some (.ref l,st')) (st'[l]?=some (.dt<|(byPl ts).map kvOf)) (st.length<=l) (Gr st st'):=by
 have ec:mCI ⟨ts.map fun t=>tupD (rowT t),[]⟩ (gTp 3<|gC (gNm 0)<|gC (gNm 1)<|gC (gNm 2)<|gN0) zbV za6 (ts.map fun t=>tupD (rowT t)) [none,none,none] st=some (ts.map fun t=>.tup [.tup [.int t.1,.int t.2.1],.int t.2.2],st):=by
   have:∀ W:Wk,walked W st=true->mCI W (gTp 3<|gC (gNm 0)<|gC (gNm 1)<|gC (gNm 2)<|gN0) zbV za6 (ts.map fun t=>tupD (rowT t)) [none,none,none] st=some (ts.map fun t=>.tup [.tup [.int t.1,.int t.2.1],.int t.2.2],st):=by intro W hW;refine zg7 (R:=fun U=>∃ x y z,U=[x,y,z]) ⟨none,none,none,rfl⟩ hW fun t ht U hU=>?_;obtain⟨x,y,z,rfl⟩:=hU;exact⟨_,zkX,rfl,zpW,_,_,_,rfl⟩
   exact this _ rfl
 have fl:fits (ts.map fun t=>D.tup [.tup [.int t.1,.int t.2.1],.int t.2.2]).length=true:=zar (by rw[Ag];omega);have a1:=zau st<|.lst<|ts.map fun t=>.tup [.tup [.int t.1,.int t.2.1],.int t.2.2];have fk:fits (ts.map kvOf).length=true:=zar (by rw[Ag];omega);have g1:=Gr.app st [.lst (ts.map fun t=>.tup [.tup [.int t.1,.int t.2.1],.int t.2.2])];generalize hs1:st++[O.lst (ts.map fun t=>.tup [.tup [.int t.1,.int t.2.1],.int t.2.2])]=s1 at a1 g1;have ed:zog [.ref st.length] s1=some (.ref s1.length,s1++[.dt ((byPl ts).map kvOf)]):=by unfold zog;have hm:ze7 [] (ts.map kvOf)=(byPl ts).map kvOf:=zh6 ts [];simp only[zbi,a1,Ae,znu,fk,if_true,hm]
 refine⟨s1.length,s1++[.dt ((byPl ts).map kvOf)],zbX ?_,zau _ _,g1.len,g1.trans<|Gr.app _ _⟩;unfold zdg za3;generalize (ts.map fun t=>tupD (rowT t))=T at *;generalize (ts.map fun t=>D.tup [.tup [.int t.1,.int t.2.1],.int t.2.2])=A at *;have ecm:zcH (mWA<|mVar 0) 3 [] (gTp 3<|gC (gNm 0)<|gC (gNm 1)<|gC (gNm 2)<|gN0) zbV za6 (rho 1 [.tup T]) st=some (.ref st.length,s1):=by
   have:mWA (mVar 0) (rho 1 [.tup T]) st=some (⟨T,[]⟩,st):=by simp[zft]
   rw[zaJ,this];simp only[Ae];rw[show rho0 (rho 1 [.tup T]) 3 []=[none,none,none] from rfl,ec];simp only[Ae,fl,if_true,hs1]
 simp at ecm ⊢;simp[ecm,ed]
variable {n:Nat}
def zph{T:D}{s':Sto}(ed:dput s n (.tup [.int x,.int y]) (.int k)=some s'):za2 [some T,some (.ref n),some (.int x),some (.int y),some (.int k)] s=some (.nx [some T,some (.ref n),some (.int x),some (.int y),some (.int k)],s'):=by
 unfold za2;rw[zkg];have c1:mAsg (mVar 4) (gSb setD (mVar 1)<|mTup<|zac (mVar 2)<|zac (mVar 3)<|mNil) [some T,some (.ref n),some (.int x),some (.int y),some (.int k)] s=none:=by simp[setD]
 rw[c1,zeu];unfold zl1;simp[ed]
def zp6(hl:ts.length<=500):∃ (st':Sto),Y3 (zbf [za3 ts] st=some (.ref st.length,st')) (st'[st.length]?=some (.dt<|(byPl ts).map kvOf)) (Gr st st'):=by
 have key:=zbm (W:=⟨ts.map fun t=>tupD (rowT t),[]⟩) (g:=gTp 3 (gC (gNm 2)<|gC (gNm 3)<|gC (gNm 4)<|gN0)) (m:=za2) (ds:=ts.map fun t=>tupD (rowT t)) (U:=[some (za3 ts),some (.ref st.length),none,none,none]) (st:=st++[.dt []])
   (Inv:=fun k U s=>Y3 ((∃ a b c,U=[some (za3 ts),some (.ref st.length),a,b,c])) (s[st.length]?=some (.dt<|((ts.take k).foldl putT []).map kvOf)) (Gr st s))
   ⟨⟨_,_,_,rfl⟩,zau _ _,Gr.app _ _⟩ (fun _ _ _ _ _=>rfl) (fun k d U s hd hI=>by
     obtain⟨⟨a,b,c,rfl⟩,hat,hg⟩:=hI;rw[Av] at hd;obtain⟨t,ht,rfl⟩:=zaj hd;have hl2:((ts.take k).foldl putT []).length<=1000:=by have:=zis (ts.take k) [];rw[Bb,Be] at this;omega
     have ed:=zgB (x:=t.1) (y:=t.2.1) (k:=t.2.2) hat hl2;refine⟨[some (za3 ts),some (.ref st.length),some (.int t.1),some (.int t.2.1),some (.int t.2.2)],s,_,_,rfl,zph ed,⟨_,_,_,rfl⟩,?_,?_⟩
     . rw[AY (getElem?_lt hat),BM,ht,EF];rfl
     exact⟨by rw[BI];exact hg.len,fun j hj=>by rw[AA (by omega)];exact hg.old j hj⟩)
 obtain⟨U',s',el,⟨a,b,c,rfl⟩,hat,hg⟩:=key;rw[Ag,Bz] at hat;refine⟨s',zbX ?_,hat,hg⟩;unfold zcf;refine zam (U1:=[some (za3 ts),some (.ref st.length),none,none,none]) (s1:=st++[.dt []]) (by simp) ?_;refine zam (U1:=[some (za3 ts),some (.ref st.length),a,b,c]) (s1:=s') (by
   have:mWA (mVar 0) [some (za3 ts),some (.ref st.length),none,none,none] (st++[.dt []])=some (⟨ts.map fun t=>tupD (rowT t),[]⟩,st++[.dt []]):=by unfold za3;simp[zft]
   rw[zcw,this];exact el) ?_
 simp
def sds(ks:List (List Str))(k:Int):List Str:=(ks.getD k.toNat []).tail
structure BedAt(bed:D)(stk:List (Str×Int))(ks:List (List Str)):Prop where
 h:∃ hs:D,(∀ s:Sto,ixA bed (.int 0) s=some (hs,s))/\(∀ s:Sto,ixA hs (.int 1) s=some (.tup (stk.map zbq),s))/\∀ s:Sto,ixA hs (.int 2) s=some (.tup (ks.map zbr),s)
structure KsOk(ss:List Str)(ks:List (List Str)):Prop where
 hi:ks.length<=100
 kd:∀ k∈ks,KdOk ss k
variable {ss:List Str}{ks:List (List Str)}
def zdb(h:KsOk ss ks)(h0:0<=k)(h1:k < (ks.length:Int)):∃ f a b c d:Str,Y3 (ks[k.toNat]?=some [f,a,b,c,d]) (sds ks k=[a,b,c,d]) (∀ x∈[a,b,c,d],NmOk x/\(x=""\/x∈ss)):=by
 have hk:k.toNat < ks.length:=by omega
 obtain⟨f,ds,e,hf,hl,hok⟩:=(h.kd _<|AS hk).ex;have e':ks[k.toNat]?=some (f::ds):=by rw[Ah hk,e]
 have es:sds ks k=ds:=by unfold sds;rw[Aq,e'];rfl
 match ds,hl,hok,e',es with
 | [a,b,c,d],_,hok,e',es=>exact⟨f,a,b,c,d,e',es,hok⟩
variable {bed hs KK kd sl:D}
def zla{K:Int}(i0:ixA bed (.int 0) st=some (hs,st))(i2:ixA hs (.int 2) st=some (KK,st))(el:lenD [KK] st=some (.int K,st))(h0:0<=k)(h1:k < K)(ik:ixA KK (.int k) st=some (kd,st))(es:slB kd (some 1) none st=some (sl,st)):zdH [some bed,some (.int k),none] st=some (.rt sl,st):=by
 unfold zdH;refine zam (U1:=[some bed,some (.int k),some KK]) (s1:=st) (by simp[i0,i2])<|zgZ ?_;have et:mTst (zdz leD ltD (mCon<|.int 0) (mVar 1)<|zas lenD<|zac (mVar 2)<|mNil) [some bed,some (.int k),some KK] st=some (true,st):=by rw[zov];unfold zdz;simp[el,h0,h1]
 rw[zmI,et];simp[ik,es]
variable {stk:List (Str×Int)}
def zdY(hb:BedAt bed stk ks)(h:KsOk ss ks)(h0:0<=k)(h1:k < (ks.length:Int)):zbN [bed,.int k] st=some (.tup ((sds ks k).map D.str),st):=by obtain⟨hs,i0,_,i2⟩:=hb.h;obtain⟨f,a,b,c,d,e,es,_⟩:=zdb h h0 h1;rw[es];refine zbX<|zla (i0 st) (i2 st) zda h0 (by rw[Ag];exact h1) (zaN h0 (by rw[Av,e];rfl)) ?_;rfl
def zkf:zbj [.tup [.int x,.int y]] st=some (.tup [.tup [.int x,.int (y+1)],.tup [.int (x+1),.int y],.tup [.int x,.int (y - 1)],.tup [.int (x - 1),.int y]],st):=by have i0:ixA (.tup [.int x,.int y]) (.int 0) st=some (.int x,st):=zaN (by decide) rfl;have i1:ixA (.tup [.int x,.int y]) (.int 1) st=some (.int y,st):=zaN (by decide) rfl;refine zbX ?_;unfold zcn;refine zam (U1:=[some (.tup [.int x,.int y]),some (.int x),none]) (s1:=st) (by simp[i0]) ?_;refine zam (U1:=[some (.tup [.int x,.int y]),some (.int x),some (.int y)]) (s1:=st) (by simp[i1]) ?_;simp
def nmF(ks:List (List Str))(P:List Tl)(p:Int×Int)(j:Nat):Str:=match fnd P p.1 p.2 with
 | some k=>(sds ks k).getD j ""
 | none=>""
variable {pl nr:D}{l:Nat}{J I:Int}{L:List D}
def zrD{L0:D}{y:D}(h1:inA nr (.ref d) s=some (.bl true,s))(hl:s[l]?=some (.lst L))(hx:ixA (.ref d) nr s=some (.int k,s))(hs:zbN [bed,.int k] s=some (sl,s))(hm:modD (.int<|J+2) (.int 4) s=some (.int I,s))(hy:ixA sl (.int I) s=some (y,s))(ha:zbM (.ref l) [y] s=some (.non,s.set l (.lst<|L++[y]))) :
   zaB [some bed,some (.ref d),some pl,some (.ref l),some (.int J),some nr] s=some (.nx [some bed,some (.ref d),some pl,some (.ref l),some (.int J),some nr],s.set l (.lst<|L++[y])):=by
 unfold zaB;simp[h1,zbi,hl,hx,hs,hm,hy,ha]
def zpE(h1:inA nr (.ref d) s=some (.bl false,s))(hl:s[l]?=some (.lst L))(ha:zbM (.ref l) [.str ""] s=some (.non,s.set l (.lst<|L++[.str ""]))) :
   zaB [some bed,some (.ref d),some pl,some (.ref l),some (.int J),some nr] s=some (.nx [some bed,some (.ref d),some pl,some (.ref l),some (.int J),some nr],s.set l (.lst<|L++[.str ""])):=by
 unfold zaB;simp[h1,zbi,hl,ha]
variable {j:Nat}
def zgl{P:List Tl}{a b:Int}(hb:BedAt bed stk ks)(h:KsOk ss ks)(hP:∀ t∈P,0<=t.2.2/\t.2.2 < (ks.length:Int))(hd:s[d]?=some (.dt<|P.map kvOf))(hl:s[l]?=some (.lst L))(hL:L.length<=10)(hI:(J+2) % 4=I)(hj:I=(j:Int))(hj4:j < 4) :
   zaB [some bed,some (.ref d),some pl,some (.ref l),some (.int J),some (.tup [.int a,.int b])] s=some (.nx [some bed,some (.ref d),some pl,some (.ref l),some (.int J),some (.tup [.int a,.int b])],s.set l (.lst<|L++[.str (nmF ks P (a,b) j)])):=by
 have hin:=zqc (x:=a) (y:=b) hd;have hv:=zdX a b P;unfold nmF
 cases hf:fnd P a b with
 | none =>
   rw[hf] at hv;rw[hv] at hin;exact zpE hin hl<|append_at hl<|by omega
 | some k =>
   rw[hf] at hv;have hv:valD (P.map kvOf) [.inl a,.inl b]=some (.int k):=hv;rw[hv] at hin;obtain⟨t,ht,rfl⟩:=ziu hf;obtain⟨k0,k1⟩:=hP t ht;obtain⟨f,x0,x1,x2,x3,e,es,_⟩:=zdb h k0 k1;refine zrD (L0:=.non) hin hl (zrB hd hv) (zdY hb h k0 k1) (by rw[zhe (by decide),hI]) (zaN (by omega) ?_) (append_at hl<|by omega);show ((sds ks t.2.2).map D.str)[I.toNat]?=some (D.str<|(sds ks t.2.2).getD j "");rw[es,hj,A4]
   match j,hj4 with
   | 0,_=>rfl
   | 1,_=>rfl
   | 2,_=>rfl
   | 3,_=>rfl
def names4(ks:List (List Str))(P:List Tl)(x y:Int):List Str:=[nmF ks P (x,y+1) 2,nmF ks P (x+1,y) 3,nmF ks P (x,y - 1) 0,nmF ks P (x - 1,y) 1]
variable {U:Rho}
def ziw{e:ME}{ds:List D}(h:e U st=some (.tup ds,s)):zl0 e U st=some (⟨pairs ds,[]⟩,s):=by unfold zl0;rw[h];rfl
def zjY{P:List Tl}(hb:BedAt bed stk ks)(h:KsOk ss ks)(hP:∀ t∈P,0<=t.2.2/\t.2.2 < (ks.length:Int))(hd:st[d]?=some (.dt<|P.map kvOf)) :
   ∃ st',Y3 (zbp [bed,.ref d,.tup [.int x,.int y]] st=some (.ref st.length,st')) (st'[st.length]?=some (.lst<|(names4 ks P x y).map D.str)) (Gr st st'):=by
 have hdl:=getElem?_lt hd;have key:=zbm (W:=⟨pairs [.tup [.int x,.int (y+1)],.tup [.int (x+1),.int y],.tup [.int x,.int (y - 1)],.tup [.int (x - 1),.int y]],[]⟩) (g:=gTp 2 (gC (gNm 4)<|gC (gNm 5)<|gN0)) (m:=zaB) (ds:=[D.tup [.int 0,.tup [.int x,.int (y+1)]],.tup [.int 1,.tup [.int (x+1),.int y]],.tup [.int 2,.tup [.int x,.int (y - 1)]],.tup [.int 3,.tup [.int (x - 1),.int y]]]) (U:=[some bed,some (.ref d),some (.tup [.int x,.int y]),some (.ref st.length),none,none]) (st:=st++[.lst []])
   (Inv:=fun k U s=>Y3 ((∃ a b,U=[some bed,some (.ref d),some (.tup [.int x,.int y]),some (.ref st.length),a,b])) (s[st.length]?=some (.lst<|((names4 ks P x y).take k).map D.str)) (Gr st s))
   ⟨⟨_,_,rfl⟩,zau _ _,Gr.app _ _⟩ (fun _ _ _ _ _=>rfl) (fun k dd U s hdd hI=>by
     obtain⟨⟨u,v,rfl⟩,hat,hg⟩:=hI;have hd':=(hg.old _ hdl).trans hd;have hL:(((names4 ks P x y).take k).map D.str).length<=10:=by rw[Ag,Bb];simp[names4];omega
     have gr:∀ o:O,Gr st (s.set st.length o):=fun o=>⟨by rw[BI];exact hg.len,fun j hj=>by rw[AA (by omega)];exact hg.old j hj⟩
     have at':∀ o:O,(s.set st.length o)[st.length]?=some o:=fun o=>AY<|getElem?_lt hat
     match k,hdd with
     | 0,hdd =>
       cases hdd;exact⟨_,s,_,_,rfl,zgl (pl:=.tup [.int x,.int y]) (I:=2) (j:=2) hb h hP hd' hat hL (by decide) rfl<|by decide,⟨_,_,rfl⟩,at' _,gr _⟩
     | 1,hdd =>
       cases hdd;exact⟨_,s,_,_,rfl,zgl (pl:=.tup [.int x,.int y]) (I:=3) (j:=3) hb h hP hd' hat hL (by decide) rfl<|by decide,⟨_,_,rfl⟩,at' _,gr _⟩
     | 2,hdd =>
       cases hdd;exact⟨_,s,_,_,rfl,zgl (pl:=.tup [.int x,.int y]) (I:=0) (j:=0) hb h hP hd' hat hL (by decide) rfl<|by decide,⟨_,_,rfl⟩,at' _,gr _⟩
     | 3,hdd =>
       cases hdd;exact⟨_,s,_,_,rfl,zgl (pl:=.tup [.int x,.int y]) (I:=1) (j:=1) hb h hP hd' hat hL (by decide) rfl<|by decide,⟨_,_,rfl⟩,at' _,gr _⟩
     | k+4,hdd=>exact absurd hdd (by simp))
 obtain⟨U',s',el,⟨u,v,rfl⟩,hat,hg⟩:=key;refine⟨s',zbX ?_,hat,hg⟩;unfold zcP;refine zam (U1:=[some bed,some (.ref d),some (.tup [.int x,.int y]),some (.ref st.length),none,none]) (s1:=st++[.lst []]) (by simp) ?_;refine zam (U1:=[some bed,some (.ref d),some (.tup [.int x,.int y]),some (.ref st.length),u,v]) (s1:=s') (by
   have ec:zas zbj (zac (mVar 2)<|mNil) [some bed,some (.ref d),some (.tup [.int x,.int y]),some (.ref st.length),none,none] (st++[.lst []])=some (.tup [.tup [.int x,.int (y+1)],.tup [.int (x+1),.int y],.tup [.int x,.int (y - 1)],.tup [.int (x - 1),.int y]],st++[.lst []]):=by have:=zkf (x:=x) (y:=y) (st:=st++[.lst []]);simp[this]
   rw[zcw,ziw ec];exact el) ?_
 simp
def okJ(S N:List Str)(j:Nat):Bool:=S.getD j "" != ""&&S.getD j ""==N.getD j ""
def alike(S N:List Str):List Nat:=(Ax 4).filter<|okJ S N
def zeM:AU ("":Str)=true:=by decide +kernel
def nm_F{P:List Tl}(h:KsOk ss ks)(hP:∀ t∈P,0<=t.2.2/\t.2.2 < (ks.length:Int))(p:Int×Int)(j:Nat):NmOk (nmF ks P p j):=by
 unfold nmF
 split
 . rename_i k hf;obtain⟨t,ht,rfl⟩:=ziu hf;obtain⟨k0,k1⟩:=hP t ht;obtain⟨f,a,b,c,d,e,es,hok⟩:=zdb h k0 k1;rw[es,Aq]
   cases hg:[a,b,c,d][j]? with
   | none=>exact zcV
   | some x=>exact (hok x<|AG hg).1
 exact zcV
def kvS(p:Str×Int):Key×D:=(.inr p.1,.int p.2)
def stD(stk:List (Str×Int)):List (Key×D):=ze8 []<|stk.map kvS
def zmM{κ:Type}[DecidableEq κ]:∀ (kvs:List (κ×D)) (k q:κ) (d:D),valD (putD kvs k d) q=if q=k then some d else valD kvs q:=by
 intro kvs k q d;unfold putD
 by_cases h:(kvs.any fun kv=>decide (kv.1=k))=true
 . rw[if_pos h]
   induction kvs with
   | nil=>simp at h
   | cons p r ih =>
     unfold valD at *;rw[Aw,AQ,AQ]
     by_cases hp:p.1=k
     . simp only[hp,if_true]
       by_cases hq:q=k
       . simp[hq]
       . have:¬ k=q:=fun e=>hq e.symm;simp only[this,decide_false,hq,if_false];clear h ih
         induction r with
         | nil=>rfl
         | cons u r ih2 =>
           rw[Aw,AQ,AQ]
           by_cases hu:u.1=k
           . simp only[hu,if_true,this,decide_false];exact ih2
           . simp only[hu,if_false]
             by_cases huq:u.1=q
             . simp[huq]
             simp only[huq,decide_false];exact ih2
     . simp only[hp,if_false]
       by_cases hpq:p.1=q
       . have:¬ q=k:=fun e=>hp<|hpq.trans e;simp[hpq,this]
       simp only[hpq,decide_false];refine ih ?_;rw[B9] at h;simpa[hp] using h
 . rw[if_neg h];unfold valD;rw[List.find?_append]
   by_cases hq:q=k
   . subst hq;have:kvs.find? (fun kv=>decide (kv.1=q))=none:=by
       rw[List.find?_eq_none];intro x hx hx2;exact h<|List.any_eq_true.mpr ⟨x,hx,hx2⟩
     simp[this]
   have:¬ k=q:=fun e=>hq e.symm;simp[hq,this]
def okV(d:Option D):Prop:=∃ v:Int,d=some (.int v)/\1<=v/\v<=4
def zgp{q:Str}:∀ {more:List (Str×Int)} {acc:List (Key×D)},(∀ p∈more,1<=p.2/\p.2<=4)->(okV (valD acc<|.inr q)\/q∈more.map (·.1))->okV (valD (ze8 acc<|more.map kvS)<|.inr q)
 | [],acc,_,h=>by
   rcases h with h | h
   . exact h
   . cases h
 | p::r,acc,hv,h=>by
   show okV (valD (ze8 (putD acc (.inr p.1)<|.int p.2)<|r.map kvS)<|.inr q);refine zgp (fun u hu=>hv u (Aj _ hu)) ?_;rw[zmM]
   by_cases e:q=p.1
   . subst e;rw[if_pos rfl];have:=hv p Ak;exact .inl ⟨p.2,rfl,this.1,this.2⟩
   . have e':¬ (C2 q:Key)=.inr p.1:=fun z=>e (by injection z);rw[if_neg e']
     rcases h with h | h
     . exact .inl h
     . rcases List.mem_cons.mp h with h | h
       . exact absurd h e
       exact .inr h
def sv(stk:List (Str×Int))(a:Str):Int:=match valD (stD stk) (.inr a) with | some (.int v)=>v | _=>0
def zoC{stk:List (Str×Int)}(h:∀ p∈stk,1<=p.2/\p.2<=4)(ha:a∈stk.map (·.1)):valD (stD stk) (.inr a)=some (.int<|sv stk a)/\1<=sv stk a/\sv stk a<=4:=by
 obtain⟨v,e,h1,h2⟩:=zgp (acc:=[]) h<|.inr ha;have e:valD (stD stk) (.inr a)=some (.int v):=e;have:sv stk a=v:=by unfold sv;rw[e]
 rw[this];exact⟨e,h1,h2⟩
def zkr:∀ stk:List (Str×Int),zmD (stk.map zbq)=some (stk.map kvS)
 | []=>rfl
 | p::r=>by have ih:=zkr r;rw[Aw,zmD,ih];rfl
def zkG(hl:stk.length<=1000):zoh [.tup (stk.map zbq)] st=some (.ref st.length,st++[.dk (stD stk)]):=by have fk:fits (stk.map kvS).length=true:=zar (by rw[Ag];omega);have e1:zoJ [.tup (stk.map zbq)] st=none:=rfl;unfold zoh orN;rw[e1,zeu];unfold zoI;simp only[zkr,Ae,fk,if_true];rfl
def zqH{kvs:List (Key×D)}(h:st[d]?=some (.dk kvs))(hv:valD kvs (.inr a)=some v):ixA (.ref d) (.str a) st=some (v,st):=by
 have e1:idxD (.ref d) (.str a) st=none:=by simp[idxD,zbi,h]
 unfold ixA orG;rw[e1,zeu];simp[zqj,look,h,keyOf,hv]
def zkC:∀ ns:List Int,zn9 (ns.map D.int)=some ns
 | []=>rfl
 | n::r=>by have ih:=zkC r;rw[Aw,zn9,ih];rfl
def zmV{ns:List Int}(hl:st[l]?=some (.lst<|ns.map D.int))(h:∀ n∈ns,0<=n/\n<=100)(hn:ns.length<=100):sumC [.ref l] st=some (.int ns.sum,st):=by
 have h1:(ns.all zeV&&decide (ns.length<=100000))=true:=by rw[Al];refine⟨List.all_eq_true.mpr fun n hn=>?_,decide_eq_true<|by omega⟩;have:=h n hn;unfold zeV;simp;omega
 unfold sumC;simp only[zbi,hl,Ae,zkC,h1,if_true]
def zoL{K:Option D}(ha:AU a=true)(hb:AU b=true):zay [some (.str a),some (.str b),K] s=some (a==b&&a != "",s):=by
 have e1:=eq_str (st:=s) ha hb;have e2:=ne_str (st:=s) ha zeM;unfold zay
 cases h:a==b with
 | true=>simp[e1,e2,h]
 | false=>simp[e1,e2,h]
def zoY(h:ixA (.ref d) (.str a) s=some (v,s)):zaz [some (.str a),some (.str b),some (.ref d)] s=some (v,s):=by unfold zaz;simp[h]
def togs(S N:List Str):List (Str×Str):=(S.zip N).filter fun p=>p.1==p.2&&p.1 != ""
variable {S N:List Str}
def zgQ{stk:List (Str×Int)}{S N:List Str}(hstk:∀ p∈stk,1<=p.2/\p.2<=4)(hS:S.length<=4)(oS:∀ x∈S,NmOk x/\(x=""\/x∈stk.map (·.1)))(oN:∀ x∈N,AU x=true)(hd:st[d]?=some (.dk<|stD stk))(hl:st[l]?=some (.lst<|N.map D.str)) :
   ∃ st',zaX [.ref d,.tup (S.map D.str),.ref l] st=some (.int ((togs S N).map fun p=>sv stk p.1).sum,st')/\Gr st st':=by
 have hz:pairD (S.map D.str) (N.map D.str)=(S.zip N).map fun p=>D.tup [.str p.1,.str p.2]:=by unfold pairD;rw[List.zip_map,A6];rfl
 have hmem:∀ p∈S.zip N,p.1∈S/\p.2∈N:=fun p hp=>by obtain⟨a,b⟩:=p;exact CJ hp
 have hw:walked ⟨(S.zip N).map fun p=>D.tup [.str p.1,.str p.2],[(l,N.map D.str)]⟩ st=true:=zbG hl;have ec:mCI ⟨(S.zip N).map fun p=>D.tup [.str p.1,.str p.2],[(l,N.map D.str)]⟩ (gTp 2<|gC (gNm 0)<|gC (gNm 1)<|gN0) zay zaz ((S.zip N).map fun p=>D.tup [.str p.1,.str p.2]) [none,none,some (.ref d)] st=some ((togs S N).map fun p=>D.int (sv stk p.1),st):=by
   refine zgF (R:=fun U=>∃ x y,U=[x,y,some (.ref d)]) ⟨none,none,rfl⟩ hw fun p hp U hU=>?_;obtain⟨x,y,rfl⟩:=hU;obtain⟨h1,h2⟩:=hmem p hp;refine⟨[some (.str p.1),some (.str p.2),some (.ref d)],rfl,zoL (zkj (oS _ h1).1.ab)<|oN _ h2,fun hc=>?_,_,_,rfl⟩;have hne:p.1≠"":=by rw[Al] at hc;simpa using hc.2
   have hin:p.1∈stk.map (·.1):=by
     rcases (oS _ h1).2 with h | h
     . exact absurd h hne
     exact h
   exact zoY<|zqH hd (zoC hstk hin).1
 have hm:((togs S N).map fun p=>D.int (sv stk p.1))=((togs S N).map fun p=>sv stk p.1).map D.int:=by rw[A6];rfl
 rw[hm] at ec;have hlen:(togs S N).length<=4:=by refine AC (Br _ _) ?_;rw[Fd];omega
 have hall:∀ n∈(togs S N).map (fun p=>sv stk p.1),0<=n/\n<=100:=fun n hn=>by
   obtain⟨p,hp,rfl⟩:=List.mem_map.mp hn;obtain⟨hp1,hc⟩:=List.mem_filter.mp hp;obtain⟨h1,h2⟩:=hmem p hp1;have hne:p.1≠"":=by rw[Al] at hc;simpa using hc.2
   have hin:p.1∈stk.map (·.1):=by
     rcases (oS _ h1).2 with h | h
     . exact absurd h hne
     exact h
   have:=zoC hstk hin;omega
 have es:=zmV (zau st<|.lst<|((togs S N).map fun p=>sv stk p.1).map D.int) hall (by rw[Ag];omega);have fl:fits (((togs S N).map fun p=>sv stk p.1).map D.int).length=true:=zar (by rw[Ag,Ag];omega);generalize ((togs S N).map fun p=>sv stk p.1).sum=R at *;generalize ((togs S N).map fun p=>sv stk p.1).map D.int=A at *;refine⟨st++[.lst A],zbX ?_,Gr.app _ _⟩;rw[<-hz] at ec;generalize S.map D.str=SS at *;generalize hNN:N.map D.str=NN at *;unfold zbB;have ecm:zcH (mZip (mVar 1)<|mVar 2) 2 [0] (gTp 2<|gC (gNm 0)<|gC (gNm 1)<|gN0) zay zaz [some (.ref d),some (.tup SS),some (.ref l)] st=some (.ref st.length,st++[.lst A]):=by
   have:mZip (mVar 1) (mVar 2) [some (.ref d),some (.tup SS),some (.ref l)] st=some (⟨pairD SS NN,[(l,NN)]⟩,st):=by rw[zqr];simp[zfm,zipW,seqD,zbi,hl]
   rw[zaJ,this];simp only[Ae];rw[show rho0 [some (.ref d),some (.tup SS),some (.ref l)] 2 [0]=[none,none,some (.ref d)] from rfl,ec];simp only[Ae,fl,if_true]
 simp[ecm,es]
def zkk{a b:Int}(h0:0<=J)(h:[D.tup [.int x,.int (y+1)],.tup [.int (x+1),.int y],.tup [.int x,.int (y - 1)],.tup [.int (x - 1),.int y]][J.toNat]?=some (.tup [.int a,.int b])):∃ s',zaP [.tup [.int x,.int y],.int J] s=some (.tup [.int a,.int b],s')/\Gr s s':=by have ex:=zbW (zau s<|.lst [.tup [.int x,.int (y+1)],.tup [.int (x+1),.int y],.tup [.int x,.int (y - 1)],.tup [.int (x - 1),.int y]]) h0 h;refine⟨s++[.lst [.tup [.int x,.int (y+1)],.tup [.int (x+1),.int y],.tup [.int x,.int (y - 1)],.tup [.int (x - 1),.int y]]],zbX ?_,Gr.app _ _⟩;unfold zdJ;refine zam (U1:=[some (.tup [.int x,.int y]),some (.int J),some (.int x),some (.int y)]) (s1:=s) (by simp) ?_;simp[ex]
variable {s1:Sto}
def zqf{a b:Int}{mk:ME}{md:ME}(hm:md U s=some (.ref d,s))(h:s[d]?=some (.dt kvs))(hk:mk U s=some (.tup [.int a,.int b],s1))(h1:s1[d]?=some (.dt kvs)):zlZ md mk U s=some ((valD kvs [.inl a,.inl b]).getD .non,s1):=by
 have e1:zn8 s d=true:=by unfold zn8;rw[h]
 have e2:zoH s1 d (.tup [.int a,.int b])=some (valD kvs [.inl a,.inl b]):=by
   unfold zoH;have:look s1 d (.tup [.int a,.int b])=some (valD kvs [.inl a,.inl b]):=by unfold look;simp only[h1];rfl
   rw[this,zdQ]
 unfold zlZ;rw[hm];simp only[Ae,e1,if_true];rw[hk];simp only[Ae,e2,A1]
variable {a7 a8:Option D}{mine:Str}
section
variable {mineD:D}
def znN(hg:zlZ (mVar 1) (zas zaP<|zac (mVar 2)<|zac (mVar 6)<|mNil) [some bed,some (.ref d),some pl,some (.int k),some KK,some (.ref l),some (.int J),a7,a8] s=some (.non,s1))
   (hk:ixA KK (.int k) s1=some (kd,s1)) (hm:ixA kd (.int<|J+1) s1=some (.str mine,s1)) :
   zaH [some bed,some (.ref d),some pl,some (.int k),some KK,some (.ref l),some (.int J),a7,a8] s=some (.nx [some bed,some (.ref d),some pl,some (.int k),some KK,some (.ref l),some (.int J),some .non,some (.str mine)],s1):=by
 unfold zaH;refine zam (U1:=[some bed,some (.ref d),some pl,some (.int k),some KK,some (.ref l),some (.int J),some .non,a8]) (s1:=s1) (by rw[zdW,hg];rfl) ?_;refine zam (U1:=[some bed,some (.ref d),some pl,some (.int k),some KK,some (.ref l),some (.int J),some .non,some (.str mine)]) (s1:=s1) (by simp[hk,hm]) ?_;simp[zlM,zmH]
def zm5{o:Int}{od:D}{os:Str}(hg:zlZ (mVar 1) (zas zaP<|zac (mVar 2)<|zac (mVar 6)<|mNil) [some bed,some (.ref d),some pl,some (.int k),some KK,some (.ref l),some (.int J),a7,a8] s=some (.int o,s1))
   (hk:ixA KK (.int k) s1=some (kd,s1)) (hm:ixA kd (.int<|J+1) s1=some (.str mine,s1)) (sm:AU mine=true) (so:AU os=true) (hI:modD (.int<|J+2) (.int 4) s1=some (.int I,s1)) (ho:ixA KK (.int o) s1=some (od,s1)) (hos:ixA od (.int<|I+1) s1=some (.str os,s1)) (hl:s1[l]?=some (.lst L)) (hL:L.length<=10) :
   zaH [some bed,some (.ref d),some pl,some (.int k),some KK,some (.ref l),some (.int J),a7,a8] s=some (.nx [some bed,some (.ref d),some pl,some (.int k),some KK,some (.ref l),some (.int J),some (.int o),some (.str mine)],if (mine != ""&&os==mine)=true then s1.set l (.lst<|L++[.int J]) else s1):=by
 have e1:=ne_str (st:=s1) sm zeM;have e2:=eq_str (st:=s1) so sm;have ea:=append_at (x:=.int J) hl (by omega);unfold zaH;refine zam (U1:=[some bed,some (.ref d),some pl,some (.int k),some KK,some (.ref l),some (.int J),some (.int o),a8]) (s1:=s1) (by rw[zdW,hg];rfl) ?_;refine zam (U1:=[some bed,some (.ref d),some pl,some (.int k),some KK,some (.ref l),some (.int J),some (.int o),some (.str mine)]) (s1:=s1) (by simp[hk,hm]) ?_
 cases h1:mine != "" with
 | false=>simp[zlM,zmH,e1,h1]
 | true =>
   cases h2:os==mine with
   | false=>simp[zlM,zmH,e1,h1,hI,ho,hos,e2,h2]
   | true=>simp[zlM,zmH,e1,h1,hI,ho,hos,e2,h2,zbi,hl,ea]
end
def zeJ{P:List Tl}{a b:Int}{i:Nat}(h:KsOk ss ks)(hP:∀ t∈P,0<=t.2.2/\t.2.2 < (ks.length:Int))(k0:0<=k)(k1:k < (ks.length:Int))(hd:s[d]?=some (.dt<|P.map kvOf))(hl:s[l]?=some (.lst L))(hL:L.length<=10)
   (hJ:J=(i:Int)) (hi:i < 4) (hI:(J+2) % 4=I) (hj:I=(j:Int)) (hj4:j < 4) (hp:[D.tup [.int x,.int (y+1)],.tup [.int (x+1),.int y],.tup [.int x,.int (y - 1)],.tup [.int (x - 1),.int y]][J.toNat]?=some (.tup [.int a,.int b])) :
   ∃ (b7 b8:Option D) (s':Sto),Y3 (zaH [some bed,some (.ref d),some (.tup [.int x,.int y]),some (.int k),some (.tup<|ks.map zbr),some (.ref l),some (.int J),a7,a8] s=some (.nx [some bed,some (.ref d),some (.tup [.int x,.int y]),some (.int k),some (.tup<|ks.map zbr),some (.ref l),some (.int J),b7,b8],s')) (s'[l]?=some (.lst<|if ((sds ks k).getD i "" != ""&&(sds ks k).getD i ""==nmF ks P (a,b) j)=true then L++[.int J] else L)) (Fr l s s'):=by
 obtain⟨s1,e1,g1⟩:=zkk (x:=x) (y:=y) (s:=s) (by omega) hp;have hd1:=(g1.old _<|getElem?_lt hd).trans hd;have hl1:=(g1.old _<|getElem?_lt hl).trans hl;have eg:=zqf (a:=a) (b:=b) (s1:=s1) (md:=mVar 1) (mk:=zas zaP (zac (mVar 2)<|zac (mVar 6)<|mNil)) (U:=[some bed,some (.ref d),some (.tup [.int x,.int y]),some (.int k),some (.tup<|ks.map zbr),some (.ref l),some (.int J),a7,a8]) rfl hd (by simp[e1]) hd1;have hv:=zdX a b P;obtain⟨f,x0,x1,x2,x3,e,es,hok⟩:=zdb h k0 k1;have ek:ixA (.tup<|ks.map zbr) (.int k) s1=some (zbr [f,x0,x1,x2,x3],s1):=zaN k0 (by rw[Av,e];rfl);have em:ixA (zbr [f,x0,x1,x2,x3]) (.int<|J+1) s1=some (.str ((sds ks k).getD i ""),s1):=by
   refine zaN (by omega) ?_;rw[es];have:(J+1).toNat=i+1:=by omega
   rw[this]
   match i,hi with
   | 0,_=>rfl
   | 1,_=>rfl
   | 2,_=>rfl
   | 3,_=>rfl
 have sm:NmOk ((sds ks k).getD i ""):=by
   rw[es,Aq]
   cases hg:[x0,x1,x2,x3][i]? with
   | none=>exact zcV
   | some u=>exact (hok u<|AG hg).1
 generalize (sds ks k).getD i ""=mine at em sm ⊢
 cases hf:fnd P a b with
 | none =>
   have en:nmF ks P (a,b) j="":=by unfold nmF;rw[hf]
   rw[hf] at hv;rw[hv] at eg;refine⟨_,_,s1,znN eg ek em,?_,g1.fr l⟩;rw[en];have:(mine != ""&&mine=="")=false:=by cases h:mine=="" <;> simp[bne,h]
   rw[this];exact hl1
 | some o =>
   have en:nmF ks P (a,b) j=(sds ks o).getD j "":=by unfold nmF;rw[hf]
   rw[hf] at hv;rw[hv] at eg;obtain⟨t,ht,rfl⟩:=ziu hf;obtain⟨o0,o1⟩:=hP t ht;obtain⟨f',z0,z1,z2,z3,e',es',hok'⟩:=zdb h o0 o1;have eo:ixA (.tup<|ks.map zbr) (.int t.2.2) s1=some (zbr [f',z0,z1,z2,z3],s1):=zaN o0 (by rw[Av,e'];rfl);have eos:ixA (zbr [f',z0,z1,z2,z3]) (.int<|I+1) s1=some (.str ((sds ks t.2.2).getD j ""),s1):=by
     refine zaN (by omega) ?_;rw[es'];have:(I+1).toNat=j+1:=by omega
     rw[this]
     match j,hj4 with
     | 0,_=>rfl
     | 1,_=>rfl
     | 2,_=>rfl
     | 3,_=>rfl
   have so:NmOk ((sds ks t.2.2).getD j ""):=by
     rw[es',Aq]
     cases hg:[z0,z1,z2,z3][j]? with
     | none=>exact zcV
     | some u=>exact (hok' u<|AG hg).1
   rw[en];generalize (sds ks t.2.2).getD j ""=os at eos so ⊢;have eg:zlZ (mVar 1) (zas zaP<|zac (mVar 2)<|zac (mVar 6)<|mNil) [some bed,some (.ref d),some (.tup [.int x,.int y]),some (.int k),some (.tup<|ks.map zbr),some (.ref l),some (.int J),a7,a8] s=some (.int t.2.2,s1):=eg;have rd:=zm5 eg ek em (zkj sm.ab) (zkj so.ab) (by rw[zhe (by decide),hI]) eo eos hl1 hL;have hsym:(mine != ""&&os==mine)=(mine != ""&&mine==os):=by
     have:(os==mine)=(mine==os):=by
       by_cases hq:os=mine
       . subst hq;rfl
       rw[beq_false_of_ne hq,beq_false_of_ne fun z=>hq z.symm]
     rw[this]
   rw[hsym] at rd;refine⟨_,_,_,rd,?_,?_⟩
   . by_cases hc:(mine != ""&&mine==os)=true
     . rw[if_pos hc,if_pos hc,AY (getElem?_lt hl1)]
     rw[if_neg hc,if_neg hc];exact hl1
   . by_cases hc:(mine != ""&&mine==os)=true
     . rw[if_pos hc];exact (g1.fr l).trans<|Fe _ _ _
     rw[if_neg hc];exact g1.fr l
def fl(p:Nat->Bool)(k:Nat):List D:=((Ax k).filter p).map fun (i:Nat)=>D.int (i:Int)
def zd8(p:Nat->Bool)(k:Nat):fl p (k+1)=if p k=true then fl p k++[.int (k:Int)] else fl p k:=by
 unfold fl;rw[CV,C9,Bn]
 by_cases h:p k=true
 . rw[if_pos h];simp[h]
 rw[if_neg h];simp[h]
def zfR{P:List Tl}(hb:BedAt bed stk ks)(h:KsOk ss ks)(hP:∀ t∈P,0<=t.2.2/\t.2.2 < (ks.length:Int))(k0:0<=k)(k1:k < (ks.length:Int))(hd:st[d]?=some (.dt<|P.map kvOf)) :
   ∃ st',Y3 (zb5 [bed,.ref d,.tup [.int x,.int y],.int k] st=some (.ref st.length,st')) (st'[st.length]?=some (.lst<|(alike (sds ks k)<|names4 ks P x y).map fun (i:Nat)=>D.int (i:Int))) (Gr st st'):=by
 obtain⟨hs,i0,_,i2⟩:=hb.h;have hdl:=getElem?_lt hd;have key:=zbm (W:=⟨run 0 4,[]⟩) (g:=gNm 6) (m:=zaH) (ds:=[D.int 0,.int 1,.int 2,.int 3]) (U:=[some bed,some (.ref d),some (.tup [.int x,.int y]),some (.int k),some (.tup<|ks.map zbr),some (.ref st.length),none,none,none]) (st:=st++[.lst []])
   (Inv:=fun i U s=>Y3 ((∃ a b c,U=[some bed,some (.ref d),some (.tup [.int x,.int y]),some (.int k),some (.tup<|ks.map zbr),some (.ref st.length),a,b,c])) (s[st.length]?=some (.lst<|fl (okJ (sds ks k)<|names4 ks P x y) i)) (Gr st s))
   ⟨⟨_,_,_,rfl⟩,zau _ _,Gr.app _ _⟩ (fun _ _ _ _ _=>rfl) (fun i dd U s hdd hI=>by
     obtain⟨⟨u,v,w,rfl⟩,hat,hg⟩:=hI;have hd':=(hg.old _ hdl).trans hd;have hL:(fl (okJ (sds ks k)<|names4 ks P x y) i).length<=10:=by
       have h1:(fl (okJ (sds ks k)<|names4 ks P x y) i).length<=i:=by unfold fl;rw[Ag];exact AC (Br _ _)<|by simp
       have:=getElem?_lt hdd;simp at this;omega
     have fin:∀ s':Sto,Fr st.length s s'->Gr st s':=fun s' f=>⟨AC hg.len f.len,fun j hj=>(f.old j (Az hj hg.len)<|by omega).trans (hg.old j hj)⟩
     match i,hdd with
     | 0,hdd =>
       cases hdd;obtain⟨b7,b8,s',e,hat',f⟩:=zeJ (bed:=bed) (I:=2) (i:=0) (j:=2) (a:=x) (b:=y+1) (x:=x) (y:=y) (a7:=v) (a8:=w) h hP k0 k1 hd' hat hL rfl (by decide) (by decide) rfl (by decide) rfl;exact⟨_,s,_,s',rfl,e,⟨_,_,_,rfl⟩,by rw[zd8];exact hat',fin s' f⟩
     | 1,hdd =>
       cases hdd;obtain⟨b7,b8,s',e,hat',f⟩:=zeJ (bed:=bed) (I:=3) (i:=1) (j:=3) (a:=x+1) (b:=y) (x:=x) (y:=y) (a7:=v) (a8:=w) h hP k0 k1 hd' hat hL rfl (by decide) (by decide) rfl (by decide) rfl;exact⟨_,s,_,s',rfl,e,⟨_,_,_,rfl⟩,by rw[zd8];exact hat',fin s' f⟩
     | 2,hdd =>
       cases hdd;obtain⟨b7,b8,s',e,hat',f⟩:=zeJ (bed:=bed) (I:=0) (i:=2) (j:=0) (a:=x) (b:=y - 1) (x:=x) (y:=y) (a7:=v) (a8:=w) h hP k0 k1 hd' hat hL rfl (by decide) (by decide) rfl (by decide) rfl;exact⟨_,s,_,s',rfl,e,⟨_,_,_,rfl⟩,by rw[zd8];exact hat',fin s' f⟩
     | 3,hdd =>
       cases hdd;obtain⟨b7,b8,s',e,hat',f⟩:=zeJ (bed:=bed) (I:=1) (i:=3) (j:=1) (a:=x - 1) (b:=y) (x:=x) (y:=y) (a7:=v) (a8:=w) h hP k0 k1 hd' hat hL rfl (by decide) (by decide) rfl (by decide) rfl;exact⟨_,s,_,s',rfl,e,⟨_,_,_,rfl⟩,by rw[zd8];exact hat',fin s' f⟩
     | i+4,hdd=>exact absurd hdd (by simp))
 obtain⟨U',s',el,⟨u,v,w,rfl⟩,hat,hg⟩:=key;refine⟨s',zbX ?_,hat,hg⟩;have i0':=i0 st;have i2':=i2 st;generalize ks.map zbr=KK at *;unfold zdf;refine zam (U1:=[some bed,some (.ref d),some (.tup [.int x,.int y]),some (.int k),some (.tup KK),some (.ref st.length),none,none,none]) (s1:=st++[.lst []]) (by simp[i0',i2']) ?_;refine zam (U1:=[some bed,some (.ref d),some (.tup [.int x,.int y]),some (.int k),some (.tup KK),some (.ref st.length),u,v,w]) (s1:=s') (by
   rw[zcw,zhJ (k:=4) rfl (by decide)];exact el) ?_
 simp
def zrT{e:Nat}(i0:ixA bed (.int 0) s=some (hs,s))(i2:ixA hs (.int 2) s=some (KK,s))(ik:ixA KK (.int k) s=some (kd,s))(ij:ixA kd (.int<|J+1) s=some (.str mine,s))(iv:ixA (.ref e) (.str mine) s=some (v,s)):zbw [some (.int J),some (.ref e),some bed,some (.int k)] s=some (v,s):=by unfold zbw;simp[i0,i2,ik,ij,iv]
def eq_nil{m:Nat}{js:List Nat}(hl:st[l]?=some (.lst<|js.map fun (i:Nat)=>D.int (i:Int)))(hm:st[m]?=some (.lst [])):eqD (.ref l) (.ref m) st=some (.bl js.isEmpty,st):=by
 have e:(js.map fun (i:Nat)=>D.int (i:Int))=(js.map fun (i:Nat)=>(i:Int)).map D.int:=by rw[A6];rfl
 rw[e] at hl;unfold eqD;rw[zdp (n:=98) hl,zdp (n:=98) (as:=[]) hm]
 cases js <;> rfl
def zjR{stk:List (Str×Int)}{P:List Tl}(hb:BedAt bed stk ks)(h:KsOk (stk.map (·.1)) ks)(hstk:∀ p∈stk,1<=p.2/\p.2<=4)(hsl:stk.length<=1000)(hP:∀ t∈P,0<=t.2.2/\t.2.2 < (ks.length:Int))(k0:0<=k)(k1:k < (ks.length:Int))(hd:st[d]?=some (.dt<|P.map kvOf)) :
   ∃ st',zb9 [bed,.ref d,.tup [.int x,.int y],.int k] st=some (.int ((alike (sds ks k)<|names4 ks P x y).map fun i=>sv stk ((sds ks k).getD i "")).sum,st')/\Gr st st':=by
 obtain⟨s1,e1,a1,g1⟩:=zfR (x:=x) (y:=y) hb h hP k0 k1 hd;obtain⟨hs,i0,i1,i2⟩:=id hb.h;have hmem:∀ i∈alike (sds ks k) (names4 ks P x y),i < 4/\(sds ks k).getD i ""≠"":=fun i hi=>by obtain⟨h1,h2⟩:=List.mem_filter.mp hi;unfold okJ at h2;rw[Al] at h2;exact⟨List.mem_range.mp h1,by simpa using h2.1⟩
 have hle:(alike (sds ks k)<|names4 ks P x y).length<=4:=by have:=Br (okJ (sds ks k)<|names4 ks P x y)<|Ax 4;rw[B1] at this;exact this
 obtain⟨f,x0,x1,x2,x3,e,es,hok⟩:=zdb h k0 k1;generalize alike (sds ks k) (names4 ks P x y)=js at *;have a2:(s1++[O.lst []])[st.length]?=some (.lst<|js.map fun (i:Nat)=>D.int (i:Int)):=by rw[Ap (getElem?_lt a1)];exact a1
 have en:=eq_nil a2<|zau s1<|.lst [];have g2:=Gr.app s1 [.lst []];generalize hs2:s1++[O.lst []]=s2 at *
 by_cases hj:js=[]
 . subst hj;refine⟨s2,zbX ?_,g1.trans g2⟩;unfold zdL;refine zam (U1:=[some bed,some (.ref d),some (.tup [.int x,.int y]),some (.int k),some (.ref st.length),none]) (s1:=s1) (by simp[e1])<|zgZ ?_;simp[hs2,en]
 . have hne:js.isEmpty=false:=by cases js with
     | nil=>exact absurd rfl hj
     | cons a b=>rfl
   rw[hne] at en;have ed:=zkG (stk:=stk) (st:=s2) hsl;have a3:=zau s2<|.dk<|stD stk;have a2':(s2++[O.dk (stD stk)])[st.length]?=some (.lst<|js.map fun (i:Nat)=>D.int (i:Int)):=by rw[Ap (getElem?_lt a2)];exact a2
   have g3:=Gr.app s2 [.dk (stD stk)];generalize hs3:s2++[O.dk (stD stk)]=s3 at *;have side:∀ i∈js,(sds ks k).getD i ""∈stk.map (·.1):=fun i hi=>by
     obtain⟨h1,h2⟩:=hmem i hi;rw[es] at h2 ⊢;have hx:[x0,x1,x2,x3].getD i ""∈[x0,x1,x2,x3]:=by
       rw[Aq]
       cases hg:[x0,x1,x2,x3][i]? with
       | none =>
         rw[Aq,hg] at h2;exact absurd rfl h2
       | some u=>exact AG hg
     rcases (hok _ hx).2 with h3 | h3
     . exact absurd h3 h2
     exact h3
   have ec:mCI ⟨js.map fun (i:Nat)=>D.int (i:Int),[(st.length,js.map fun (i:Nat)=>D.int (i:Int))]⟩ (gNm 0) zbV zbw (js.map fun (i:Nat)=>D.int (i:Int)) [none,some (.ref s2.length),some bed,some (.int k)] s3=some (js.map fun i=>D.int (sv stk<|(sds ks k).getD i ""),s3):=by
     refine zg7 (R:=fun U=>∃ x,U=[x,some (.ref s2.length),some bed,some (.int k)]) ⟨none,rfl⟩ (zbG a2') fun i hi U hU=>?_;obtain⟨u,rfl⟩:=hU;have ek:ixA (.tup<|ks.map zbr) (.int k) s3=some (zbr [f,x0,x1,x2,x3],s3):=zaN k0 (by rw[Av,e];rfl);have ij:ixA (zbr [f,x0,x1,x2,x3]) (.int<|(i:Int)+1) s3=some (.str ((sds ks k).getD i ""),s3):=by
       refine zaN (by omega) ?_;rw[es];have:((i:Int)+1).toNat=i+1:=by omega
       rw[this]
       match i,(hmem i hi).1 with
       | 0,_=>rfl
       | 1,_=>rfl
       | 2,_=>rfl
       | 3,_=>rfl
     exact⟨[some (.int (i:Int)),some (.ref s2.length),some bed,some (.int k)],rfl,rfl,zrT (i0 s3) (i2 s3) ek ij<|zqH a3 (zoC hstk<|side i hi).1,_,rfl⟩
   have hm:(js.map fun i=>D.int (sv stk<|(sds ks k).getD i ""))=(js.map fun i=>sv stk ((sds ks k).getD i "")).map D.int:=by rw[A6];rfl
   rw[hm] at ec;have hall:∀ n∈js.map (fun i=>sv stk ((sds ks k).getD i "")),0<=n/\n<=100:=fun n hn=>by obtain⟨i,hi,rfl⟩:=List.mem_map.mp hn;have:=zoC hstk<|side i hi;omega
   have esm:=zmV (zau s3<|.lst<|(js.map fun i=>sv stk ((sds ks k).getD i "")).map D.int) hall (by rw[Ag];omega);have fl':fits ((js.map fun i=>sv stk ((sds ks k).getD i "")).map D.int).length=true:=zar (by rw[Ag,Ag];omega);generalize (js.map fun i=>sv stk ((sds ks k).getD i "")).sum=R at *;generalize (js.map fun i=>sv stk ((sds ks k).getD i "")).map D.int=A at *;refine⟨s3++[.lst A],zbX ?_,((g1.trans g2).trans g3).trans<|Gr.app _ _⟩;generalize (js.map fun (i:Nat)=>D.int (i:Int))=JJ at *;unfold zdL;refine zam (U1:=[some bed,some (.ref d),some (.tup [.int x,.int y]),some (.int k),some (.ref st.length),none]) (s1:=s1) (by simp[e1]) ?_;refine zam (U1:=[some bed,some (.ref d),some (.tup [.int x,.int y]),some (.int k),some (.ref st.length),none]) (s1:=s2) (by simp[hs2,en]) ?_;refine zam (U1:=[some bed,some (.ref d),some (.tup [.int x,.int y]),some (.int k),some (.ref st.length),some (.ref s2.length)]) (s1:=s3) (by simp[i0,i1,ed]) ?_;have ecm:zcH (mWA<|mVar 4) 1 [5,0,3] (gNm 0) zbV zbw [some bed,some (.ref d),some (.tup [.int x,.int y]),some (.int k),some (.ref st.length),some (.ref s2.length)] s3=some (.ref s3.length,s3++[.lst A]):=by
     have:mWA (mVar 4) [some bed,some (.ref d),some (.tup [.int x,.int y]),some (.int k),some (.ref st.length),some (.ref s2.length)] s3=some (⟨JJ,[(st.length,JJ)]⟩,s3):=by simp[zft,zbi,a2']
     rw[zaJ,this];simp only[Ae];rw[show rho0 [some bed,some (.ref d),some (.tup [.int x,.int y]),some (.int k),some (.ref st.length),some (.ref s2.length)] 1 [5,0,3]=[none,some (.ref s2.length),some bed,some (.int k)] from rfl,ec];simp only[Ae,fl',if_true]
   simp[ecm,esm]
def zja(hS:S.length=4)(hN:N.length=4):((togs S N).map fun p=>sv stk p.1)=(alike S N).map fun i=>sv stk (S.getD i ""):=by
 match S,N,hS,hN with
 | [a,b,c,d],[a',b',c',d'],_,_ =>
   have e:Ax 4=[0,1,2,3]:=rfl;have f0:okJ [a,b,c,d] [a',b',c',d'] 0=(a==a'&&a != ""):=Di _ _;have f1:okJ [a,b,c,d] [a',b',c',d'] 1=(b==b'&&b != ""):=Di _ _;have f2:okJ [a,b,c,d] [a',b',c',d'] 2=(c==c'&&c != ""):=Di _ _;have f3:okJ [a,b,c,d] [a',b',c',d'] 3=(d==d'&&d != ""):=Di _ _;unfold togs alike;rw[e];simp only[List.zip_cons_cons,List.zip_nil_left,Dv,Ff,f0,f1,f2,f3]
   cases (a==a'&&a != "") <;> cases (b==b'&&b != "") <;> cases (c==c'&&c != "") <;> cases (d==d'&&d != "") <;> rfl
def plD(p:Int×Int):D:=.tup [.int p.1,.int p.2]
end L2.MP.Hd
namespace L2.MP
open PySem
def zqN{W:Wk}{g:MG}{c:MT}{m:ME}{α:Type}{f h:α->D}{R:Rho->Prop}:∀ {as:List α} {U:Rho} {st:Sto},R U->(∀ s,Gr st s->walked W s=true)->(∀ a∈as,∀ U s,R U->Gr st s->∃ U1 s1,g (f a) U s=some (U1,s)/\c U1 s=some (true,s)/\m U1 s=some (h a,s1)/\Gr s s1/\R U1) ->
   ∃ s',mCI W g c m (as.map f) U st=some (as.map h,s')/\Gr st s'
 | [],U,st,r,wk,_=>⟨st,by unfold mCI;rw[BD];simp only[wk st (Gr.refl st),if_true,BD],Gr.refl st⟩
 | a::as,U,st,r,wk,hs=>by obtain⟨U1,s1,e1,e2,e3,g1,r1⟩:=hs a Ak U st r<|Gr.refl st;obtain⟨s',e,g'⟩:=zqN (W:=W) (g:=g) (c:=c) (m:=m) (f:=f) (h:=h) (R:=R) (as:=as) (st:=s1) r1 (fun s q=>wk s (g1.trans q)) fun b hb U s q z=>hs b (Aj _ hb) U s q<|g1.trans z;refine⟨s',?_,g1.trans g'⟩;rw[Aw];unfold mCI;rw[if_pos (wk st<|Gr.refl st),e1];simp only[Ae,e2,if_true,e3,e,A1,Aw]
def zjO{i:Int}(h0:0<=i)(h1:i<=1000000):zib i=true:=by
 unfold zib;apply decide_eq_true
 by_cases h:i.natAbs=0
 . rw[h];decide
 have:i.natAbs.log2 < 20:=(Nat.log2_lt h).mpr (by omega);omega
def itos(i:Int):Str:=Bs<|toString i
def zfy{i:Int}{s:Sto}(h0:0<=i)(h1:i<=1000000):strC [.int i] s=some (.str (itos i),s):=by unfold strC;simp only[zjO h0 h1,if_true];rfl
end L2.MP
namespace L2.MP.Ce
open PySem L2.MP
variable {α:Type}
def zkK{α:Type}(f:α->Bool):∀ as:List α,zkc (as.map fun a=>D.bl (f a))=some (as.map f)
 | []=>rfl
 | a::as=>by show (zkc<|as.map fun a=>D.bl (f a)).map _=_;rw[zkK f as];rfl
variable {st:Sto}
def zqw{f:α->Bool}{as:List α}{n:Nat}(h:st[n]?=some (.lst<|as.map fun a=>D.bl (f a))):allC [.ref n] st=some (.bl (as.all f),st):=by unfold allC;simp only[zbi,h,Ae,zkK,A1,List.all_map];rfl
variable {m:ME}{U:Rho}
def ziS{mi:MI}{b:D->Bool}{as:List D}{fr:List Nat}{U0:Rho}{gd:List (Nat×List D)}(hw:mi U st=some (⟨as,gd⟩,st))(hg:∀ s,Gr st s->walked ⟨as,gd⟩ s=true)(hU:rho0 U 1 fr=none::U0)(hl:as.length<=10000)
   (h:∀ a∈as,∀ s,Gr st s->∃ s1,m (some a::U0) s=some (.bl (b a),s1)/\Gr s s1) :
   ∃ st',zas allC (zac (zcH mi 1 fr (gNm 0) zbV m) mNil) U st=some (.bl (as.all b),st')/\Gr st st':=by
 obtain⟨s1,e,g⟩:=zqN (W:=⟨as,gd⟩) (g:=gNm 0) (c:=zbV) (m:=m) (f:=fun x:D=>x) (h:=fun a=>D.bl (b a)) (R:=fun r=>∃ x,r=x::U0) (as:=as) (U:=none::U0) (st:=st) ⟨none,rfl⟩ hg (fun a ha r s hr gs=>by obtain⟨x,rfl⟩:=hr;obtain⟨s1,e,g⟩:=h a ha s gs;exact⟨some a::U0,s1,rfl,rfl,e,g,_,rfl⟩)
 rw[List.map_id'] at e;have fl:fits (as.map fun a=>D.bl (b a)).length=true:=zar (by rw[Ag];exact hl);have ec:zcH mi 1 fr (gNm 0) zbV m U st=some (.ref s1.length,s1++[.lst (as.map fun a=>D.bl (b a))]):=by rw[zaJ,hw];simp only[Ae];rw[hU,e];simp only[Ae,fl,if_true]
 refine⟨_,?_,g.trans<|Gr.app s1 [.lst (as.map fun a=>D.bl (b a))]⟩;simp only[zkM,zgM,zmy,ec,Ae];exact zqw<|zau s1 _
variable {t:MT}{s1:Sto}
def ifB{a:MS}{b:Bool}(h:t U st=some (b,s1)):mIf t a zdR U st=if b=true then a U s1 else some (.nx U,s1):=by simp only[zmI,h,Ae,zow]
def ifT{a:MS}{r:Option (Fl×Sto)}(h:t U st=some (true,s1))(k:a U s1=r):mIf t a zdR U st=r:=by rw[ifB h,if_pos rfl];exact k
def notB{b:Bool}(h:m U st=some (.bl b,s1)):zkw (mTst m) U st=some (!b,s1):=by simp only[zoy,zov,h,Ae,A1]
variable {b a:MT}
def orL(h1:a U st=some (true,s1)):mOrT a b U st=some (true,s1):=by simp only[zox,h1,Ae,if_true]
def orR{r:Option (Bool×Sto)}(h1:a U st=some (false,s1))(h2:b U s1=r):mOrT a b U st=r:=by simp only[zox,h1,Ae,A8,if_false,h2]
def listB_tup{ds:List D}{s:Sto}(h:ds.length<=10000):zmF [.tup ds] s=some (.ref s.length,s++[.lst ds]):=by have:fits ds.length=true:=zar h;simp[zmF,orN,zpV,zpU,this,zdQ]
end L2.MP.Ce
namespace L2.MP.Hx
open PySem L2 L2.MP PySem.W PyProof.Rows
def frag(h:Heap):Frag:=(Ax h.objs.size).filterMap fun a=>(h.get? a).map fun o=>(a,o)
def zic{g:Addr->Option Obj}(a:Addr):∀ l:List Addr,(l.filterMap fun b=>(g b).map fun o=>(b,o)).lookup a=if a∈l then g a else none
 | []=>rfl
 | b::l=>by
   rw[Bw]
   by_cases h:a=b
   . subst h;rw[if_pos Ak]
     cases hg:g a with
     | none =>
       simp only[Fg];rw[zic a l,hg]
       split <;> rfl
     | some o=>simp only[A1,AW,beq_self_eq_true]
   . have e:(a==b)=false:=beq_false_of_ne h;have e2:(if a∈b::l then g a else none)=if a∈l then g a else none:=by simp only[AN,h,false_or]
     rw[e2,<-zic a l]
     cases hg:g b with
     | none=>simp only[Fg]
     | some o=>simp only[A1,AW,e]
def zgA(h:Heap)(a:Addr):(frag h).lookup a=h.get? a:=by
 unfold frag;rw[zic]
 split
 . rfl
 . rename_i hn
   cases hg:h.get? a with
   | none=>rfl
   | some o=>exact absurd (List.mem_range.mpr<|Ai hg) hn
def zod(h:Heap):(frag h).In h:=fun a o e=>(zgA h a).symm.trans e
def nsL(g:Addr->Option Obj)(ns:Addr)(x:Str):Option (Option Value):=match g ns with
 | some ⟨_,_,.dict es _,_⟩=>(match es.toList.find? (·.key.isStr x) with
     | some e=>some<|some e.val
     | none=>if es.toList.any (·.refKey) then none else some none)
 | _=>none
def zrR(g:Addr->Option Obj)(cd:Value)(q:Str):Bool:=match cd with
 | .ref c=>(match g c with
     | some ⟨_,_,.fields vs,_⟩=>(match vs.toList with | _::.str n _::_=>n==q | _=>false)
     | _=>false)
 | _=>false
def fnL(g:Addr->Option Obj)(x:Str):Option (FuncData×Bool):=match nsL g mainGlobals x with
 | some (some<|.ref f)=>(match g f with
     | some ⟨_,_,.func fd,_⟩=>some ({ fd with kwdefaults:=.none,doc:=.none,pyModule:=.none,annotations:=none,code:=.none,closureTuple:=.none },zrR g fd.code x)
     | _=>none)
 | _=>none
def fnD(x:Str)(st:Stmt):Option (FuncData×Bool):=some (fnOf x x (zdc st) (zbK st) (zaA st) .none .none .none .none none .none .none,true)
def coL(v:Option (Option Value)):Option (Str ⊕ Int):=match v with
 | some (some<|.str s _)=>some<|.inl s
 | some (some<|.int i _)=>some<|.inr i
 | _=>none
def CoIn(K:Frag)(x:Str):Str ⊕ Int->Prop
 | .inl s=>∃ t,nsIn K mainGlobals x=some (some<|.str s t)
 | .inr i=>∃ t,nsIn K mainGlobals x=some (some<|.int i t)
variable {K:Frag}
def zn4{f:Addr}{oc:Value}{od:Option Addr}{fd:FuncData}{sl:Array (Option Value)}(h:K.lookup f=some ⟨oc,od,.func fd,sl⟩):keepIn K (.ref f)=true:=by unfold keepIn;dsimp only;rw[h]
variable {x:Str}
def zrM{st:Stmt}(e:fnL (K.lookup ·) x=fnD x st):∃ f,FdIn K x st f:=by
 unfold fnL fnD at e
 cases hn:nsL (K.lookup ·) mainGlobals x with
 | none=>rw[hn] at e;cases e
 | some v =>
   cases v with
   | none=>rw[hn] at e;cases e
   | some v =>
     cases v with
     | ref f =>
       rw[hn] at e;dsimp only at e
       cases hg:K.lookup f with
       | none=>rw[hg] at e;cases e
       | some o =>
         rw[hg] at e;obtain⟨oc,od,da,sl⟩:=o
         cases da with
         | func fd =>
           dsimp only at e;obtain⟨a1,a2⟩:=BO<|Ay e;obtain⟨n,q,p,b,sc,gl,cl,df,kd,dc,pm,an,cd,ct,bu⟩:=fd;cases a1;exact⟨f,zrN hn hg a2<|zn4 hg⟩
         | _=>cases e
     | _=>rw[hn] at e;cases e
def zrS{c:Str ⊕ Int}(e:coL (nsL (K.lookup ·) mainGlobals x)=some c):CoIn K x c:=by
 unfold coL at e
 cases hn:nsL (K.lookup ·) mainGlobals x with
 | none=>rw[hn] at e;cases e
 | some v =>
   cases v with
   | none=>rw[hn] at e;cases e
   | some v =>
     rw[hn] at e
     cases v with
     | str s t=>cases e;exact⟨t,hn⟩
     | int i t=>cases e;exact⟨t,hn⟩
     | _=>cases e
structure Has(K:Frag)(fns:List (Str×Stmt))(bl:List Str)(co:List (Str×(Str ⊕ Int))):Prop where
 fn:∀ p∈fns,∃ f,FdIn K p.1 p.2 f
 bl:∀ x∈bl,nsIn K mainGlobals x=some none
 co:∀ c∈co,CoIn K c.1 c.2
def zki{α β:Type}{f g:α->β}:∀ {l:List α},l.map f=l.map g->∀ a∈l,f a=g a
 | [],_,a,h=>by cases h
 | b::l,e,a,h=>by
   obtain⟨e1,e2⟩:=List.cons.inj e
   rcases List.mem_cons.mp h with rfl | h
   . exact e1
   exact zki e2 a h
def zqC(g:Addr->Option Obj)(fns:List (Str×Stmt))(bl:List Str)(co:List (Str×(Str ⊕ Int))):List (Option<|FuncData×Bool)×List (Option<|Option Value)×List (Option<|Str ⊕ Int) :=
 (fns.map fun p=>fnL g p.1,bl.map fun x=>nsL g mainGlobals x,co.map fun c=>coL (nsL g mainGlobals c.1))
def dueG(fns:List (Str×Stmt))(bl:List Str)(co:List (Str×(Str ⊕ Int))):List (Option<|FuncData×Bool)×List (Option<|Option Value)×List (Option<|Str ⊕ Int) :=
 (fns.map fun p=>fnD p.1 p.2,bl.map fun _=>some none,co.map fun c=>some c.2)
variable {bl:List Str}{co:List (Str×(Str ⊕ Int))}
def zqe{fns:List (Str×Stmt)}(e:zqC (K.lookup ·) fns bl co=dueG fns bl co):Has K fns bl co:=by obtain⟨e1,e2⟩:=BO e;obtain⟨e2,e3⟩:=BO e2;exact⟨fun p hp=>zrM (zki e1 p hp),fun x hx=>zki e2 x hx,fun c hc=>zrS (zki e3 c hc)⟩
def hook(fns:List (Str×Stmt))(bl:List Str)(co:List (Str×(Str ⊕ Int))):Hook where
 α:=List (Option<|FuncData×Bool)×List (Option<|Option Value)×List (Option<|Str ⊕ Int)
 obs s:=zqC s.heap.get? fns bl co
 val _:=dueG fns bl co
 says _ h:=∃ K:Frag,K.In h/\Has K fns bl co
 of w s e:=⟨frag s.heap,zod _,zqe (by rw[funext (zgA s.heap)];exact e)⟩
 keeps w h h':=fun⟨K,a,b⟩ k=>⟨K,a.keeps k,b⟩
def walk_has{l:OpenLaw}{n k:Nat}{q:Program}{loose:List Str}{XP:(Str->Option Value)->Heap->Prop}{fns:List (Str×Stmt)}{d:DefRec}{CX:CXT}{sp:Frag->Sp}
   (hn:l.most=some n) (hn2:n<=sizeLine) (hdf:d.params.defaults=[]) (hr:Room k callerA)
   (F:∀ (K:Frag) (w:World) (mg:Str->Option Value) (fa:Addr) (h:Heap),Has K fns bl co->K.In h->h.Ns mainGlobals mg->mg d.name=some (.ref fa) ->
     ∃ fd:FuncData,(∀ (s:Shared) (u:Value),BindsTo s fd ⟨[u],[]⟩ [(x,u)])/\∀ base:Heap,K.In base->base.Ns mainGlobals mg->FnOk l.prog w K mg base CX k fa fd [x] (sp K))
   (hsp:∀ (K:Frag) (H:Hp) (a:Addr) (ns:List Int),ns.length<=n->Only H->SqL K H a (ns.map V.int)->sp K [.ref a] H (fun v _=>v=.bl true) fun _ _ _=>False)
   (hCX:∀ (H:Hp) (s:Shared) (e:Value) (s':Shared),CX [] H s (fun _ _ _=>False) e s'->False) :
   WalkO q loose XP (hook fns bl co).says l.row.toRowW d [] (fun f vs=>EU f vs):=by
 intro w s₀ s₁ mg mb G Y;obtain⟨K,hK,hH⟩:=Y;exact L2.walk_of (K:=fun _=>K) (CX:=fun _=>CX) (sp:=fun _=>sp K) (YP:=fun _ h=>K.In h) hn hn2 hdf hr (fun _ _ y=>y) (fun w mg fa h a b c=>F K w mg fa h hH a b c) (fun _ H a ns h1 h2 h3=>hsp K H a ns h1 h2 h3) (fun _ H s e s'=>hCX H s e s') w s₀ s₁ mg mb G hK
end L2.MP.Hx
namespace L2.MP
open PySem L2 PySem.W PyProof.Rows
variable {bl ps:List Str}{co:List (Str×(Str ⊕ Int))}{x:Str}{st:Stmt}{P:Program}{w:World}{base:Heap}{k:Nat}{m:MS}
section
variable {K:Frag} {mg:Str->Option Value} {fns:List (Str×Stmt)}
structure En(K:Frag)(mg:Str->Option Value)(fns:List (Str×Stmt))(bl:List Str)(co:List (Str×(Str ⊕ Int))):Prop where
 b:∀ x∈bl,mg x=none
 c:∀ c∈co,match c.2 with
   | .inl s=>∃ t,mg c.1=some (.str s t)
   | .inr i=>∃ t,mg c.1=some (.int i t)
 l:∀ p∈fns,∃ f,FdIn K p.1 p.2 f/\mg p.1=some (.ref f)
def En.of{h:Heap}(A:Hx.Has K fns bl co)(X:K.In h)(G:h.Ns mainGlobals mg):En K mg fns bl co:=by
 refine⟨fun x hx=>mg_none_of X G (A.bl x hx),fun c hc=>?_,fun p hp=>?_⟩
 . have q:=A.co c hc;obtain⟨x,c⟩:=c
   cases c with
   | inl s=>obtain⟨t,q⟩:=q;exact⟨t,mg_of X G q⟩
   | inr i=>obtain⟨t,q⟩:=q;exact⟨t,mg_of X G q⟩
 obtain⟨f,q⟩:=A.fn p hp;exact⟨f,q,mg_of X G q.ns⟩
def En.b1(Z:En K mg fns bl co)(h:x∈bl:=by decide +kernel):mg x=none:=Z.b x h
def scB(N ps:List Str)(sc:Scope):Bool:=decide (sc.kind=.function)&&decide (sc.isCoroutine=false)&&decide (sc.isGenerator=false)&&decide N.Nodup&&decide (N.take ps.length=ps)&&ps.all (fun x=>decide (sc.names.lookup x=some .local\/sc.names.lookup x=some .cell))&&sc.names.all fun y=>decide (y.2≠.free)
def zoD{N:List Str}{sc:Scope}(h:scB N ps sc=true):FnScope N ps sc:=by unfold scB at h;simp only[Al,decide_eq_true_eq,CC] at h;obtain⟨⟨⟨⟨⟨⟨a,b⟩,c⟩,d⟩,e⟩,f⟩,g⟩:=h;exact⟨a,b,c,d,e,f,g⟩
noncomputable abbrev Bnd (x:Str) (st:Stmt) (ps:List Str):Prop:=∀ (kV doc pm:Value) (an:Option Addr) (cdv ct:Value) (us:List Value),us.length=ps.length->bindArgs (BC x x (zdc st) (zbK st) (zaA st) .none kV doc pm an cdv ct) ⟨us,[]⟩=pure (ps.zip us)
def En.laid{i:Nat}(Z:En K mg fns bl co)(hi:fns[i]?=some (x,st))(b:Bnd x st ps):Laid K mg x st ps:=by obtain⟨f,F,hm⟩:=Z.l _<|AG hi;obtain⟨⟨oc,od,kV,dc,pm,an,cd,ct,sl,l,c⟩,a,k⟩:=F;exact⟨_,_,zmj l c k,hm,(zmj l c k).binds b⟩
def zaI(Z:En K mg fns bl co)(st:Stmt)(i:Nat)(N ps:List Str)
   (hbody:N.Nodup->∀ (f:Addr) (cdv:Value) (A:Around) (outer:List Env) (s:Shared) (H:Hp) (E:XK),Room k (A.deeper<|envOfC x (zaA st) s.heap.objs.size f cdv) ->
     SSs (cxOf CX0 P w K mg base N x (zaA st) f cdv A outer s H E).nox (zbK st) m) (hi:fns[i]?=some (x,st):=by rfl)
   (S:scB N ps (zaA st)=true:=by decide +kernel) (b:Bnd x st ps:=by intro _ _ _ _ _ _;first | exact len1 fun _=>rfl | exact len2 fun _ _=>rfl | exact len3 fun _ _ _=>rfl | exact len4 fun _ _ _ _=>rfl | exact len5 fun _ _ _ _ _=>rfl):zcm P w K mg base (k+1) x ps.length (fnM N.length m) :=
 zqk (Z.laid hi b) (zoD S) (hbody (zoD S).nd)
def zrJ{qual:Str}{f:Addr}{fd:FuncData}(F:Fun K x qual st f fd)(N ps:List Str)
   (hbody:N.Nodup->∀ (cdv:Value) (A:Around) (outer:List Env) (s:Shared) (H:Hp) (E:XK),Room k (A.deeper<|envOfC qual (zaA st) s.heap.objs.size f cdv) ->
     SSs (cxOf CX0 P w K mg base N qual (zaA st) f cdv A outer s H E).nox (zbK st) m) (S:scB N ps (zaA st)=true:=by decide +kernel):FnOk P w K mg base CX0 (k+1) f fd ps (spM K ps.length<|fnM N.length m):=fn_m F (zoD S) (hbody (zoD S).nd)
end
variable {g:GN}{T:String}
section
variable {X:Cx} {e:Expr} {es:List Expr} {m:ME} {mm:MA} {pos pos' p p2:Pos} {y:Str}
def sgn(i:Nat)(hN:X.N.Nodup)(hi:X.N[i]?=some x:=by rfl)(hx:Loc X.env.scope x:=by first | exact Bg rfl | exact Bf rfl)(hf:X.fn x=true\/X.env.scope.names.lookup x=some .local:=by first | exact .inl rfl | exact .inr rfl | assumption):SG X (.Name x pos) (gNm i):=znc hN hi hx hf
def sst(i:Nat)(hN:X.N.Nodup)(he:SE X e m)(hi:X.N[i]?=some x:=by rfl)(hx:Loc X.env.scope x:=by first | exact Bg rfl | exact Bf rfl)(hs:swapsWith e (some<|.Name x pos') pos.line X.env=pure false:=by rfl)(hf:X.fn x=true\/X.env.scope.names.lookup x=some .local:=by first | exact .inl rfl | exact .inr rfl | assumption):SS X (.Assign [.Name x pos'] e pos) (mAsg m<|gNm i):=zm2 hN hi hx he hs hf
def zba{j n:Nat}(F:zcm X.prog X.w X.K X.mg X.base k x n g)(hr:Room j X.A)(ha:SA X (e::es) mm)(hj:k<=j:=by decide)(hg:Gl X x:=by rfl)(hl:zjQ n mm:=by repeat (first | exact zjQ.nil | refine zjQ.cons ?_))(hdb:(x==("__debug__":Str))=false:=by decide)
   (he:starEach (e::es) X.env=(false,eval e X.env)::starEach es X.env:=by rfl) (hpl:(backTo pos<|starEach es X.env).any (·.1)=false:=by rfl) (hn:(e::es).length=n:=by rfl):SE X (.Call (.Name x p) (e::es) [] pos) (zas g mm):=zlh F (hr.mono hj) hg ha hl hdb he hpl hn
variable {fns:List (Str×Stmt)}
def isiE(Z:En X.K X.mg fns bl co)(ha:SE X e m)(hv:bootBuiltins y=some (.type T))(hT:T∈kinds:=by decide)(hg:Gl X "isinstance":=by rfl)(hm:("isinstance":Str)∈bl:=by decide +kernel)(hgy:Gl X y:=by rfl)(hmy:y∈bl:=by decide +kernel)(hny:y≠"__name__":=by decide)(hdy:(y==("__debug__":Str))=false:=by decide)
   (hs:starEach [e,.Name y p2] X.env=(false,eval e X.env)::starEach [.Name y p2] X.env:=by rfl) (hs2:starEach [.Name y p2] X.env=[(false,eval (.Name y p2) X.env)]:=by rfl) (hpl:(backTo pos<|starEach [.Name y p2] X.env).any (·.1)=false:=by rfl):SE X (.Call (.Name "isinstance" p) [e,.Name y p2] [] pos) (mIsi T m) :=
 zpb (x:="isinstance") hT hg (Z.b _ hm) ha hgy (Z.b _ hmy) hv hny hdy hs hs2 hpl
def cBE{id:String}(Z:En X.K X.mg fns bl co)(hc:zcN X (.builtin id) g)(hv:bootBuiltins x=some (.builtin id))(ha:SA X (e::es) mm)(hg:Gl X x:=by rfl)(hm:x∈bl:=by decide +kernel)(hn:x≠"__name__":=by decide)(hdb:(x==("__debug__":Str))=false:=by decide)
   (he:starEach (e::es) X.env=(false,eval e X.env)::starEach es X.env:=by rfl) (hpl:(backTo pos<|starEach es X.env).any (·.1)=false:=by rfl):SE X (.Call (.Name x p) (e::es) [] pos) (zas g mm):=zli hc hg (Z.b _ hm) hv ha hn hdb he hpl
def cTE(Z:En X.K X.mg fns bl co)(hc:zcN X (.type T) g)(hv:bootBuiltins x=some (.type T))(ha:SA X (e::es) mm)(hg:Gl X x:=by rfl)(hm:x∈bl:=by decide +kernel)(hn:x≠"__name__":=by decide)(hdb:(x==("__debug__":Str))=false:=by decide)
   (he:starEach (e::es) X.env=(false,eval e X.env)::starEach es X.env:=by rfl) (hpl:(backTo pos<|starEach es X.env).any (·.1)=false:=by rfl):SE X (.Call (.Name x p) (e::es) [] pos) (zas g mm):=zjl hc hg (Z.b _ hm) hv ha hn hdb he hpl
def cS{scope:Scope}(N':List Str)(nt:Nat)(fr:List Nat)(fs:List Str)(kind:scope.kind=.function:=by rfl)(nd:(scope.names.map (·.1)).Nodup:=by decide +kernel)(hf:scope.names.all (fun p=>!(p.2==AD) || fs.contains p.1)=true:=by decide +kernel)
   (hb:fs.all (fun x=>scope.names.contains (x,AD))=true:=by decide +kernel) (len:N'.length=nt+fr.length:=by rfl) (cap:Caps X fs fr (N'.drop nt):=by trivial) (out:Outs X fs:=by trivial):CompS X scope N' nt fr:=zbt fs kind nd hf hb len cap out
end
end L2.MP
namespace L2.MP.stickytiles_k14_rows_of_anything
open PySem L2.MP L2.MP.Hd
def zdM:MS:=mRet (zjL (mIsi "int"<|mVar 0)<|zjL (zoG<|mIsi "bool"<|mVar 0)<|zdz leD leD (mVar 1) (mVar 0)<|mVar 2)
def zbP:GN:=fnM 3 zdM
def zdN:MS:=mRet (zjL (mIsi "tuple"<|mVar 0)<|mBin eqD (zas lenD<|zac (mVar 0)<|mNil)<|mVar 1)
def zbQ:GN:=fnM 2 zdN
def zdO:MS:=mSeq (mAsg (mBin ixA (mVar 0)<|mCon<|.int 1)<|gNm 2)<|mRet<|zjL (zas zbQ<|zac (mVar 1)<|zac (mCon<|.int 2)<|mNil)<|zjL (zas zbP<|zac (mBin ixA (mVar 1)<|mCon<|.int 0)<|zac (mCon<|.int 0)<|zac (mBin subD (mBin ixA (mVar 2)<|mCon<|.int 0)<|mCon<|.int 1)<|mNil)<|zas zbP<|zac (mBin ixA (mVar 1)<|mCon<|.int 1)<|zac (mCon<|.int 0)<|zac (mBin subD (mBin ixA (mVar 2)<|mCon<|.int 1)<|mCon<|.int 1)<|mNil
def zbu:GN:=fnM 3 zdO
def zeP:MS:=mSeq (mAsg (mBin ixA (mBin ixA (mVar 0)<|mCon<|.int 0)<|mCon<|.int 2)<|gNm 2)<|mRet<|zjL (zas zbQ<|zac (mVar 1)<|zac (mCon<|.int 3)<|mNil)<|zjL (zas zbu<|zac (mVar 0)<|zac (mSlB (mVar 1) zeF<|zeE<|mCon<|.int 2)<|mNil)<|zas zbP<|zac (mBin ixA (mVar 1)<|mCon<|.int 2)<|zac (mCon<|.int 0)<|zac (mBin subD (zas lenD<|zac (mVar 2)<|mNil)<|mCon<|.int 1)<|mNil
def zcM:GN:=fnM 3 zeP
def zdP:MS:=mSeq (mAsg (mSlB (mVar 3) zeF<|zeE<|mCon<|.int 2)<|gNm 4)<|mSeq (mIf (mOrT (mTst<|mBin inA (mVar 4)<|mVar 2)<|zkw<|mTst<|zas zbu<|zac (mVar 0)<|zac (mVar 4)<|mNil) (mRet<|mCon<|.bl false)<|zdR)<|mSeq (mAsg (zas zbp<|zac (mVar 0)<|zac (mVar 2)<|zac (mVar 4)<|mNil)<|gNm 5)<|mRet<|mBin geD (zas zaX<|zac (mVar 1)<|zac (zas zbN<|zac (mVar 0)<|zac (mBin ixA (mVar 3)<|mCon<|.int 2)<|mNil)<|zac (mVar 5)<|mNil)<|mBin ixA (mBin ixA (mVar 0)<|mCon<|.int 0)<|mCon<|.int 0
def zbv:GN:=fnM 6 zdP
def zdo:MS:=mSeq (mIf (zkw<|mTst<|zas zbv<|zac (mVar 0)<|zac (mVar 2)<|zac (mVar 3)<|zac (mVar 5)<|mNil) zlY<|zdR)<|putA (mVar 3) (mSlB (mVar 5) zeF<|zeE<|mCon<|.int 2)<|mBin ixA (mVar 5)<|mCon<|.int 2
def zkN:MS:=mSeq (mAsg (zas zoh<|zac (mBin ixA (mBin ixA (mVar 0)<|mCon<|.int 0)<|mCon<|.int 1)<|mNil)<|gNm 2)<|mSeq (mAsg (zas zbf<|zac (mBin ixA (mVar 0)<|mCon<|.int 2)<|mNil)<|gNm 3)<|mSeq (mFor (zl0<|mVar 1) (gTp 2<|gC (gNm 4)<|gC (gNm 5)<|gN0)<|zdo)<|mRet<|zas zef<|zac (zas zf9<|zac (mBin addE (mBin ixA (mVar 0)<|mCon<|.int 2)<|mVar 1)<|mNil)<|mNil
def ziZ:GN:=fnM 6 zkN
def zbR:ME:=zas zcM<|zac (mVar 1)<|zac (mVar 0)<|mNil
def zeQ:MS:=mSeq (mIf (mOrT (zkw<|mTst<|mIsi "tuple"<|mVar 1)<|zkw<|mTst<|zas allC<|zac (zcH (mWA<|mVar 1) 1 [0] (gNm 0) zbV<|zbR)<|mNil) (mRet<|mCon<|.bl false)<|zdR) (mSeq (mExp<|zas ziZ<|zac (mVar 0)<|zac (mVar 1)<|mNil)<|mRet<|mCon<|.bl true)
def zc4:GN:=fnM 2 zeQ
def za8:ME:=mVar 0
def zaG:MT:=mTst<|mBin inA (zas zaP<|zac (mTup<|zac (mVar 1)<|zac (mVar 2)<|mNil)<|zac (mVar 0)<|mNil)<|mVar 3
def za5:MS:=mSeq (mAsg (zcH (mR1<|mCon<|.int 4) 1 [3,4,1] (gNm 0) zaG<|za8)<|gNm 5)<|mIf (zl2 (mTst<|mBin zh2 (mTup<|zac (mVar 3)<|zac (mVar 4)<|mNil)<|mVar 1)<|mTst<|mBin neD (mVar 5)<|mLst<|mNil) (mExp<|mApp (mVar 2)<|zac (mTup<|zac (mVar 3)<|zac (mVar 4)<|mNil)<|mNil)<|zdR
def zbF:MS:=mFor (mR1<|mBin ixA (mBin ixA (mVar 0)<|mCon<|.int 1)<|mCon<|.int 1) (gNm 4)<|za5
def zdh:MS:=mSeq (mAsg (mLst<|mNil)<|gNm 2)<|mSeq (mFor (mR1<|mBin ixA (mBin ixA (mVar 0)<|mCon<|.int 1)<|mCon<|.int 0) (gNm 3)<|zbF)<|mRet<|mVar 2
def zbA:GN:=fnM 6 zdh
def zbb:MS:=mIf (mTst<|mBin geD (zas zb9<|zac (mVar 0)<|zac (mVar 1)<|zac (mVar 3)<|zac (mVar 4)<|mNil)<|mBin ixA (mBin ixA (mVar 0)<|mCon<|.int 0)<|mCon<|.int 0) (mExp<|mApp (mVar 2)<|zac (mBin addD (mVar 3)<|mTup<|zac (mVar 4)<|mNil)<|mNil)<|zdR
def zbz:MS:=mFor (mR1<|zas lenD<|zac (mBin ixA (mBin ixA (mVar 0)<|mCon<|.int 0)<|mCon<|.int 2)<|mNil) (gNm 4)<|zbb
def zee:MS:=mSeq (mAsg (mLst<|mNil)<|gNm 2)<|mSeq (mFor (mWA<|zas zbA<|zac (mVar 0)<|zac (mVar 1)<|mNil) (gNm 3)<|zbz)<|mRet<|mVar 2
def zbO:GN:=fnM 5 zee
def zaO:MS:=mSeq (mAsg (zas zbO<|zac (mVar 1)<|zac (mVar 3)<|mNil)<|gNm 6)<|mIf (mTst<|mBin neD (mVar 6)<|mLst<|mNil) (mSeq (mAsg (mBin ixA (mVar 6)<|zas zad<|zac (mVar 0)<|zac (zas lenD<|zac (mVar 6)<|mNil)<|mNil)<|gNm 7)<|mSeq (putA (mVar 3) (mSlB (mVar 7) zeF<|zeE<|mCon<|.int 2)<|mBin ixA (mVar 7)<|mCon<|.int 2)<|mExp<|mApp (mVar 4)<|zac (mVar 7)<|mNil)<|zdR
def zdI:MS:=mSeq (mPar 3 4<|zac (zas zb7<|zac (mBin ixA (mVar 1)<|mCon<|.int 2)<|mNil)<|zac (mLst<|mNil)<|mNil)<|mSeq (mFor (mR1<|mVar 2) (gNm 5)<|zaO)<|mRet<|zas zef<|zac (mVar 4)<|mNil
def zcz:GN:=fnM 8 zdI
def zbe:MS:=mAsg (mBin ixA (mLst<|zac (mTup<|zac (mVar 1)<|mNil)<|zac (mLst<|zac (mVar 1)<|mNil)<|zac (zdU (mCon<|.str "a")<|mVar 1)<|mNil)<|zas zad<|zac (mVar 0)<|zac (mCon<|.int 3)<|mNil) (gNm 1)
def zcO:MS:=mSeq (mAsg (mBin ixA (mLst<|zac (mTup<|mNil)<|zac (mLst<|mNil)<|zac (mCon<|.str "a")<|zac (mCon<|.int 1)<|zac (mCon .non)<|mNil)<|zas zad<|zac (mVar 0)<|zac (mCon<|.int 5)<|mNil)<|gNm 1) (mSeq (mFor (mR1<|mBin ixA (mLst<|zac (mCon<|.int 1)<|zac (mCon<|.int 3)<|zac (mCon<|.int 58)<|mNil)<|zas zad<|zac (mVar 0)<|zac (mCon<|.int 3)<|mNil) (gNm 2)<|zbe)<|mRet<|mVar 1)
def zaE:GN:=fnM 3 zcO
def zb1:MS:=mSeq (mAsg (mVar 1)<|gTp 3<|gC (gNm 2)<|gC (gNm 3)<|gC (gNm 4)<|gN0) (mSeq (mAsg (mLst<|zac (mLst<|zac (mVar 2)<|zac (mVar 3)<|zac (mVar 4)<|mNil)<|zac (mTup<|zac (mVar 2)<|zac (mVar 3)<|mNil)<|zac (mTup<|zac (mVar 2)<|zac (mVar 3)<|zac (mVar 4)<|zac (mCon<|.int 0)<|mNil)<|zac (mCon<|.str "xyz")<|zac (mCon .non)<|zac (mCon<|.bl true)<|zac (mCon<|.int 7)<|zac (zhf false)<|zac (mTup<|mNil)<|zac (mTup<|zac (mVar 2)<|zac (mVar 3)<|zac (zas strC<|zac (mVar 4)<|mNil)<|mNil)<|zac (mTup<|zac (mVar 2)<|zac (mCon .non)<|zac (mVar 4)<|mNil)<|mNil)<|gNm 5)<|mSeq (mAsg (mBin addD (mVar 5)<|mLst<|zac (mTup<|zac (mTup<|zac (mVar 2)<|mNil)<|zac (mVar 3)<|zac (mVar 4)<|mNil)<|zac (mTup<|zac (mCon<|.bl true)<|zac (mVar 3)<|zac (mVar 4)<|mNil)<|zac (mTup<|zac (mVar 2)<|zac (mCon<|.bl false)<|zac (mVar 4)<|mNil)<|zac (mTup<|zac (mVar 2)<|zac (mVar 3)<|zac (mCon<|.bl true)<|mNil)<|zac (mTup<|zac (mVar 2)<|zac (mVar 3)<|zac (mLst<|zac (mVar 4)<|mNil)<|mNil)<|zac (zas zaE<|zac (mVar 0)<|mNil)<|mNil)<|gNm 5)<|mRet<|mBin addD (mVar 5)<|mLst<|zac (zdU (mVar 2)<|mVar 3)<|zac (mTup<|zac (mVar 2)<|zac (mVar 3)<|zac (mTup<|zac (mVar 4)<|mNil)<|mNil)<|zac (mTup<|zac (mTup<|zac (mVar 2)<|zac (mVar 3)<|mNil)<|zac (mVar 4)<|mNil)<|zac (mTup<|zac (mVar 2)<|zac (mVar 3)<|zac (zhf false)<|mNil)<|zac (mCon<|.str "")<|zac (mLst<|zac (mTup<|zac (mVar 2)<|zac (mVar 3)<|zac (mVar 4)<|mNil)<|mNil)<|zac (mTup<|zac (mTup<|zac (mVar 2)<|zac (mVar 3)<|zac (mVar 4)<|mNil)<|mNil)<|mNil)
def zbk:GN:=fnM 6 zb1
def zgP:MS:=mIf (mTst<|mBin zlP (zas zc4<|zac (mVar 3)<|zac (mVar 8)<|mNil)<|mCon<|.bl false) (mRet<|mCon<|.bl false)<|zdR
def zgO:MS:=mFor (mWA<|mTup<|zac (mBin addD (mBin addE (mSlC (mVar 4) zeF<|zeE<|mVar 5)<|mTup<|zac (mVar 7)<|mNil)<|mSlC (mVar 4) (zeE<|mBin addD (mVar 5)<|mCon<|.int 1)<|zeF)<|zac (mBin addD (mBin addE (mSlC (mVar 4) zeF<|zeE<|mVar 5)<|mTup<|zac (mVar 7)<|mNil)<|mSlC (mVar 4) (zeE<|mVar 5)<|zeF)<|zac (mBin addD (mTup<|zac (mVar 7)<|mNil)<|mVar 4)<|zac (mBin addE (mVar 4)<|mTup<|zac (mVar 7)<|mNil)<|mNil) (gNm 8)<|zgP
def zfp:MS:=mIf (zl2 (mTst<|mBin neZ (mVar 8)<|mTup<|mNil)<|mTst<|mBin zlP (zas zc4<|zac (mVar 3)<|zac (mVar 8)<|mNil)<|mCon<|.bl false) (mRet<|mCon<|.bl false)<|zdR
def zgN:MS:=mSeq (mAsg (zas zca<|zac (mVar 0)<|zac (mVar 1)<|mNil)<|gNm 2) (mSeq (mAsg (zas zc3<|zac (mVar 2)<|mNil)<|gNm 3)<|mSeq (mAsg (zas zcz<|zac (mVar 2)<|zac (mVar 3)<|zac (mCon<|.int 6)<|mNil)<|gNm 4)<|mSeq (mAsg (zas zad<|zac (mVar 2)<|zac (mBin addD (zas lenD<|zac (mVar 4)<|mNil)<|mCon<|.int 1)<|mNil)<|gNm 5)<|mSeq (mAsg (mBin ixA (mBin addE (mVar 4)<|mTup<|zac (mTup<|zac (mCon<|.int 1)<|zac (mCon<|.int 0)<|zac (mCon<|.int 0)<|mNil)<|mNil)<|mVar 5)<|gNm 6)<|mSeq (mFor (mWA<|zas zbk<|zac (mVar 2)<|zac (mVar 6)<|mNil) (gNm 7)<|zgO)<|mSeq (mFor (mWA<|mLst<|zac (zas zmF<|zac (mVar 4)<|mNil)<|zac (mCon .non)<|zac (mCon<|.bl true)<|zac (mCon<|.int 0)<|zac (mCon<|.str "")<|zac (mCon<|.str "row")<|zac (zhf false)<|zac (mLst<|mNil)<|zac (mTup<|zac (mVar 4)<|mNil)<|zac (mLst<|zac (mVar 4)<|mNil)<|zac (zas zaE<|zac (mVar 2)<|mNil)<|zac (zjJ (mVar 4)<|mVar 4)<|mNil) (gNm 8)<|zfp)<|mIf (mTst<|mBin zlP (zas zc4<|zac (mVar 3)<|zac (mVar 4)<|mNil)<|mCon<|.bl true) (mRet<|mCon<|.bl false)<|zdR)
def zqU:MS:=mSeq (mFor (mR1<|mBin addD (mCon<|.int 1)<|zas znV<|zac (mCon<|.int 3)<|zac (zas lenD<|zac (mVar 0)<|mNil)<|mNil) (gNm 1)<|zgN)<|mRet<|mCon<|.bl true
def zqx:GN:=fnM 9 zqU
open L2 PySem.Spec PyProof.Rows
def top(i:Nat):Stmt:=PySem.Challenge.pw_stickytiles_k14_rows_of_anything.main.body.getD i<|.Pass ⟨0,0,0,0⟩
def fns:List (Str×Stmt):=("is_whole",top 1)::("is_tuple",top 2)::("is_place",top 3)::("is_tile",top 4)::("places_around",top 9)::("sides_of",top 10)::("kinds_by_place",top 11)::("names_facing",top 12)::("strength_together",top 13)::("is_growing",top 14)::("grown",top 16)::("is_row",top 17)::("_law_begin",top 19)::("_law_draw",top 20)::("_law_names",top 21)::("_law_kind",top 22)::("_law_house",top 23)::("_law_standing",top 24)::("_law_bed",top 25)::("_law_lying",top 26)::("_law_step",top 27)::("_law_sides",top 28)::("_law_by",top 29)::("_law_empty",top 30)::("_law_may",top 31)::("_law_walk",top 32)::("_law_nested",top 33)::("_law_odd_tiles",top 34)::("law",top 35)::[]
def bls:List Str:=["isinstance","int","bool","tuple","len","enumerate","zip","sum","dict","sorted","all","range","str","min","list"]
def cos:List (Str×(Str ⊕ Int)):=[]
section
variable {P:Program} {w:World} {K:Ab} {mg:Str->Option Value} {base:Heap} (Z:En K mg fns bls cos)
def nd_6:(["side","name","strengths"]:List Str).Nodup:=by decide +kernel
def nd_9:(["part","bed"]:List Str).Nodup:=by decide +kernel
def zrz:(["_law_k","_law_letters","_law_first"]:List Str).Nodup:=by decide +kernel
def zry:(["_law_k","_law_letters","_law_first","_law_step_here"]:List Str).Nodup:=by decide +kernel
def zrx:(["_law_side","_law_names_here","_law_pot"]:List Str).Nodup:=by decide +kernel
def zrw:(["_law_name","_law_pot"]:List Str).Nodup:=by decide +kernel
def zrv:(["_law_k","_law_pot","_law_names_here"]:List Str).Nodup:=by decide +kernel
def zru:(["_law_place","_law_there"]:List Str).Nodup:=by decide +kernel
def zpQ:(["_law_x","_law_y","_law_kind_here"]:List Str).Nodup:=by decide +kernel
def zrt:(["_law_side","_law_strengths","_law_bed_here","_law_kind_here"]:List Str).Nodup:=by decide +kernel
def zrs:(["_law_side","_law_x","_law_y","_law_there"]:List Str).Nodup:=by decide +kernel
def zcU:zcm P w K mg base 1 "is_whole" 3 zbP :=
 zaI (k:=0) Z (top 1) 0 ["thing","least","most"] ["thing","least","most"] fun nd f cdv A outer s H E hr=>JSs.out (zal<|JS.mk<|zaR<|zfD (isiE Z (zab 0) zop)<|zfD (zo8<|isiE Z (zab 0) zoq)<|zgb<|zlg zlH zlH (zab 1) (zab 0)<|zab 2)
def zd5:zcm P w K mg base 1 "is_tuple" 2 zbQ :=
 zaI (k:=0) Z (top 2) 1 ["thing","size"] ["thing","size"] fun nd f cdv A outer s H E hr=>JSs.out (zal<|JS.mk<|zaR<|zfD (isiE Z (zab 0) zcv)<|zgb<|zlf (zfK<|zbl hr) (cBE Z zbc zdE<|zaa (zab 0)<|zag) (zab 1) rfl)
def zd6:zcm P w K mg base 2 "is_place" 2 zbu :=
 zaI (k:=1) Z (top 3) 2 ["bed","thing","floor"] ["bed","thing"] fun nd f cdv A outer s H E hr=>JSs.out (zai (JS.mk<|sst 2 nd<|zap (zaC hr) (zab 0)<|zae)<|zal<|JS.mk<|zaR<|zfD (zba (zd5 Z) hr<|zaa (zab 1)<|zaa zae<|zag)<|zfD (zba (zcU Z) hr<|zaa (zap (zaC hr) (zab 1)<|zae)<|zaa zae<|zaa (zan zdw (zap (zaC hr) (zab 2)<|zae)<|zae)<|zag)<|zgb<|zba (zcU Z) hr<|zaa (zap (zaC hr) (zab 1)<|zae)<|zaa zae<|zaa (zan zdw (zap (zaC hr) (zab 2)<|zae)<|zae)<|zag)
def zh1:zcm P w K mg base 3 "is_tile" 2 zcM :=
 zaI (k:=2) Z (top 4) 3 ["bed","thing","kinds"] ["bed","thing"] fun nd f cdv A outer s H E hr=>JSs.out (zai (JS.mk<|sst 2 nd<|zap (zaC hr) (zap (zaC hr) (zab 0)<|zae)<|zae)<|zal<|JS.mk<|zaR<|zfD (zba (zd5 Z) hr<|zaa (zab 1)<|zaa zae<|zag)<|zfD (zba (zd6 Z) hr<|zaa (zab 0)<|zaa (zci (zab 1) zcE<|zcD<|zae)<|zag)<|zgb<|zba (zcU Z) hr<|zaa (zap (zaC hr) (zab 1)<|zae)<|zaa zae<|zaa (zan zdw (cBE Z zbc zdE<|zaa (zab 2)<|zag)<|zae)<|zag)
def zdx:zcm P w K mg base 1 "places_around" 1 zbj :=
 zaI (k:=0) Z (top 9) 4 ["place","x","y"] ["place"] fun nd f cdv A outer s H E hr=>JSs.out (zai (JS.mk<|sst 1 nd<|zap (zaC hr) (zab 0)<|zae)<|zai (JS.mk<|sst 2 nd<|zap (zaC hr) (zab 0)<|zae)<|zal<|JS.mk<|zaR<|zaw<|JA.out<|zah (zaw<|zaa (zab 1)<|zaa (zan zav (zab 2)<|zae)<|zag)<|zah (zaw<|zaa (zan zav (zab 1)<|zae)<|zaa (zab 2)<|zag)<|zah (zaw<|zaa (zab 1)<|zaa (zan zdw (zab 2)<|zae)<|zag)<|zah (zaw<|zaa (zan zdw (zab 1)<|zae)<|zaa (zab 2)<|zag)<|zbJ)
def zd4:zcm P w K mg base 1 "sides_of" 2 zbN :=
 zaI (k:=0) Z (top 10) 5 ["bed","kind","kinds"] ["bed","kind"] fun nd f cdv A outer s H E hr=>JSs.out (zai (JS.mk<|sst 2 nd<|zap (zaC hr) (zap (zaC hr) (zab 0)<|zae)<|zae)<|zai (zfb (zll zlH znI zae (zab 1)<|cBE Z zbc zdE<|zaa (zab 2)<|zag) (zal<|JS.mk<|zaR<|zci (zap (zaC hr) (zab 2)<|zab 1) (zcD<|zae)<|zcE)<|zbn)<|zal<|JS.mk<|zaR<|zaw<|JA.out<|zah zb2<|zah zb2<|zah zb2<|zah zb2<|zbJ)
def zdj:zcm P w K mg base 1 "kinds_by_place" 1 zbf :=
 zaI (k:=0) Z (top 11) 6 ["standing","kinds","x","y","kind"] ["standing"] fun nd f cdv A outer s H E hr=>JSs.out (zai (JS.mk<|sst 1 nd<|zhC)<|zai (zcr AR rfl (zbT<|zab 0) (zeX rfl<|zaM (sgn 2 nd)<|zaM (sgn 3 nd)<|zaM (sgn 4 nd)<|zc7)<|zal<|JS.mk<|zgU (zaC hr) (zab 1) (zaw<|zaa (zab 2)<|zaa (zab 3)<|zag)<|zab 4)<|zal<|JS.mk<|zaR<|zab 1)
def zdT:zcm P w K mg base 2 "names_facing" 3 zbp :=
 zaI (k:=1) Z (top 12) 7 ["bed","standing_kinds","place","names","side","near"] ["bed","standing_kinds","place"] fun nd f cdv A outer s H E hr=>JSs.out (zai (JS.mk<|sst 3 nd<|za4<|zag)<|zai (zcr AR rfl (zkn rfl Z.b1<|zba (zdx Z) hr<|zaa (zab 2)<|zag) (zeX rfl<|zaM (sgn 4 nd)<|zaM (sgn 5 nd)<|zc7)<|zal<|zfb (zlk (zbl hr) (zab 5)<|zab 1) (zal<|JS.mk<|zc5<|zbU (zab 3)<|zaa (zap (zaC hr) (zba (zd4 Z) hr<|zaa (zab 0)<|zaa (zap (zaC hr) (zab 1)<|zab 5)<|zag)<|zan zb0 (zan zav (zab 4)<|zae)<|zae)<|zag)<|zal<|JS.mk<|zc5<|zbU (zab 3)<|zaa zb2<|zag)<|zal<|JS.mk<|zaR<|zab 3)
def zcq:zcm P w K mg base 1 "strength_together" 3 zaX :=
 zaI (k:=0) Z (top 13) 8 ["strengths","sides","names"] ["strengths","sides","names"] fun nd f cdv A outer s H E hr=>JSs.out (zal<|JS.mk<|zaR<|cBE Z (zgG rfl) zon<|zaa (zc8 rfl rfl (zbt (N':=["side","name","strengths"]) (nt:=2) (fr:=[0]) ["strengths"] rfl (by decide +kernel) (by decide +kernel) (by decide +kernel) rfl ⟨⟨rfl,by decide⟩,trivial⟩ ⟨by first | exact Bg rfl | exact Bf rfl,trivial⟩) (zo3 rfl Z.b1 (zab 1)<|zab 2) (fun C s0 H0 fp=>zeX rfl (zaM (sgn 0 nd_6)<|zaM (sgn 1 nd_6)<|zc7)) (fun C s0 H0 fp=>znj (SW.sb<|zhq (zbC (zfK<|zbl hr) (zab 0) (zab 1) rfl)<|zf5<|zbC (zhY<|zbl hr) (zab 0) zb2 rfl)) fun C s0 H0 fp=>zap (zaC hr) (zab 2) (zab 0))<|zag)
def ze4:zcm P w K mg base 3 "is_growing" 4 zbv :=
 zaI (k:=2) Z (top 14) 9 ["bed","strengths","standing_kinds","tile","place","names"] ["bed","strengths","standing_kinds","tile"] fun nd f cdv A outer s H E hr=>JSs.out (zai (JS.mk<|sst 4 nd<|zci (zab 3) zcE<|zcD<|zae)<|zai (zfb (SW.sb<|zqB (zlk (zbl hr) (zab 4)<|zab 2)<|zmU<|zjp<|zoE<|zba (zd6 Z) hr<|zaa (zab 0)<|zaa (zab 4)<|zag) (zal<|JS.mk<|zaR<|zfC)<|zbn)<|zai (JS.mk<|sst 5 nd<|zba (zdT Z) hr<|zaa (zab 0)<|zaa (zab 2)<|zaa (zab 4)<|zag)<|zal<|JS.mk<|zaR<|zlf zlI (zba (zcq Z) hr<|zaa (zab 1)<|zaa (zba (zd4 Z) hr<|zaa (zab 0)<|zaa (zap (zaC hr) (zab 3)<|zae)<|zag)<|zaa (zab 5)<|zag) (zap (zaC hr) (zap (zaC hr) (zab 0)<|zae)<|zae) rfl)
def zlL:zcm P w K mg base 4 "grown" 2 ziZ :=
 zaI (k:=3) Z (top 16) 10 ["bed","row","strengths","standing_kinds","number","tile"] ["bed","row"] fun nd f cdv A outer s H E hr=>JSs.out (zai (JS.mk<|sst 2 nd<|cTE Z (zed rfl) ziM<|zaa (zap (zaC hr) (zap (zaC hr) (zab 0)<|zae)<|zae)<|zag)<|zai (JS.mk<|sst 3 nd<|zba (zdj Z) hr<|zaa (zap (zaC hr) (zab 0)<|zae)<|zag)<|zai (zcr AR rfl (zkn rfl Z.b1<|zab 1) (zeX rfl<|zaM (sgn 4 nd)<|zaM (sgn 5 nd)<|zc7)<|zai (zfb (zjp<|zoE<|zba (ze4 Z) hr<|JA.out<|zah (zab 0)<|zah (zab 2)<|zah (zab 3)<|zah (zab 5)<|zbJ) (zal<|zl9)<|zbn)<|zal<|JS.mk<|zgU (zaC hr) (zab 3) (zci (zab 5) zcE<|zcD<|zae)<|zap (zaC hr) (zab 5)<|zae)<|zal<|JS.mk<|zaR<|cTE Z zbL zcv<|zaa (cBE Z zfX zeO<|zaa (zan ze0 (zap (zaC hr) (zab 0)<|zae)<|zab 1)<|zag)<|zag)
def zeC:zcm P w K mg base 5 "is_row" 2 zc4 :=
 zaI (k:=4) Z (top 17) 11 ["bed","thing"] ["bed","thing"] fun nd f cdv A outer s H E hr=>JSs.out (zai (zfb (SW.sb<|zqB (zjp<|zoE<|isiE Z (zab 1) zcv)<|zmU<|zjp<|zoE<|cBE Z (zkb rfl) zqp<|zaa (zc8 rfl rfl (zbt (N':=["part","bed"]) (nt:=1) (fr:=[0]) ["bed"] rfl (by decide +kernel) (by decide +kernel) (by decide +kernel) rfl ⟨⟨rfl,by decide⟩,trivial⟩ ⟨by first | exact Bg rfl | exact Bf rfl,trivial⟩) (zbT<|zab 1) (fun C s0 H0 fp=>sgn 0 nd_9) (fun C s0 H0 fp=>zem) fun C s0 H0 fp=>zba (zh1 Z) hr (zaa (zab 1)<|zaa (zab 0)<|zag))<|zag) (zal<|JS.mk<|zaR<|zfC)<|zbn)<|zai (zn5<|zal<|JS.mk<|zc5<|zba (zlL Z) hr<|zaa (zab 0)<|zaa (zab 1)<|zag)<|zal<|JS.mk<|zaR<|zfC)
def zeB:zcm P w K mg base 1 "_law_begin" 2 zca :=
 zaI (k:=0) Z (top 19) 12 ["_law_script","_law_k","_law_cell","_law_far","_law_own"] ["_law_script","_law_k"] fun nd f cdv A outer s H E hr=>JSs.out (zai (JS.mk<|sst 2 nd<|zpa (zbC znI (zab 1) (cBE Z zbc zdE<|zaa (zab 0)<|zag) rfl) (zap (zaC hr) (zab 0)<|zab 1)<|zae)<|zai (JS.mk<|sst 3 nd<|zan zeZ (zan zeZ (zan zeZ (zan zeZ (zan zd2 zae<|zae)<|zan zd2 zae<|zae)<|zan zd2 zae<|zae)<|zan zd2 zae<|zae)<|zan zd2 zae<|zae)<|zai (JS.mk<|sst 4 nd<|zan zeZ (zan zb0 (zab 2)<|zab 3)<|cTE Z zka zop<|zaa (zlf zlI (zab 2) (zan zd2 zae<|zae) rfl)<|zag)<|zal<|JS.mk<|zaR<|za4<|zaa (zab 4)<|zaa (zan zb0 (zan zav (zan zb0 (zab 2)<|zae)<|zan zb3 zae<|zab 1)<|zae)<|zaa zae<|zag)
def zak:zcm P w K mg base 1 "_law_draw" 2 zad :=
 zaI (k:=0) Z (top 20) 13 ["_law_pot","_law_many","_law_digit","_law_mixed"] ["_law_pot","_law_many"] fun nd f cdv A outer s H E hr=>JSs.out (zai (zfb (zbC zpK (zap (zaC hr) (zab 0)<|zae) zae rfl) (zai (JS.mk<|sst 2 nd<|zan zb0 (zap (zaC hr) (zab 0)<|zae)<|zab 1)<|zai (JS.mk<|zgU (zaC hr) (zab 0) zae<|zan zfJ (zap (zaC hr) (zab 0)<|zae)<|zab 1)<|zal<|JS.mk<|zaR<|zab 2)<|zbn)<|zai (JS.mk<|zgU (zaC hr) (zab 0) zae<|zan zav (zap (zaC hr) (zab 0)<|zae)<|zae)<|zai (JS.mk<|sst 3 nd<|zan zb0 (zan zb3 (zan zav (zan zav (zap (zaC hr) (zab 0)<|zae)<|zan zb3 (zan zb3 zae<|zap (zaC hr) (zab 0)<|zae)<|zap (zaC hr) (zab 0)<|zae)<|zan zb3 zae<|zap (zaC hr) (zab 0)<|zae)<|zae)<|zae)<|zai (JS.mk<|sst 3 nd<|zan zb0 (zan zb3 (zab 3)<|zan zav (zan zb0 (zab 3)<|zae)<|zan zb3 zae<|zap (zaC hr) (zab 0)<|zae)<|zae)<|zal<|JS.mk<|zaR<|zan zb0 (zan zav (zan zfJ (zab 3)<|zae)<|zan zfJ (zab 3)<|zae)<|zab 1)
def zex:zcm P w K mg base 2 "_law_names" 2 zb6 :=
 zaI (k:=1) Z (top 21) 14 ["_law_pot","_law_many","_law_letters","_law_first","_law_step_here"] ["_law_pot","_law_many"] fun nd f cdv A outer s H E hr=>JSs.out (zai (JS.mk<|sst 2 nd<|zb2)<|zai (JS.mk<|zjd (zaw<|zaa (zba (zak Z) hr<|zaa (zab 0)<|zaa zae<|zag)<|zaa (zap (zaC hr) (za4<|JA.out<|zah zae<|zah zae<|zah zae<|zah zae<|zah zae<|zah zae<|zbJ)<|zba (zak Z) hr<|zaa (zab 0)<|zaa zae<|zag)<|zag)<|zeX rfl<|zaM (sgn 3 nd)<|zaM (sgn 4 nd)<|zc7)<|zai (zfb (zbC (zfK<|zbl hr) (zba (zak Z) hr<|zaa (zab 0)<|zaa zae<|zag) zae rfl) (zal<|JS.mk<|zaR<|zc8 rfl rfl (zbt (N':=["_law_k","_law_letters","_law_first"]) (nt:=1) (fr:=[2,3]) ["_law_letters","_law_first"] rfl (by decide +kernel) (by decide +kernel) (by decide +kernel) rfl ⟨⟨rfl,by decide⟩,⟨⟨rfl,by decide⟩,trivial⟩⟩ ⟨by first | exact Bg rfl | exact Bf rfl,⟨by first | exact Bg rfl | exact Bf rfl,trivial⟩⟩) (zaZ rfl Z.b1<|zab 1) (fun C s0 H0 fp=>sgn 0 zrz) (fun C s0 H0 fp=>zem) fun C s0 H0 fp=>zan zb3 (zap (zaC hr) (zab 1)<|zab 2) (zan zav (zab 0)<|zae))<|zbn)<|zal<|JS.mk<|zaR<|cBE Z zcs zeO<|zaa (zc8 rfl rfl (zbt (N':=["_law_k","_law_letters","_law_first","_law_step_here"]) (nt:=1) (fr:=[2,3,4]) ["_law_letters","_law_first","_law_step_here"] rfl (by decide +kernel) (by decide +kernel) (by decide +kernel) rfl ⟨⟨rfl,by decide⟩,⟨⟨rfl,by decide⟩,⟨⟨rfl,by decide⟩,trivial⟩⟩⟩ ⟨by first | exact Bg rfl | exact Bf rfl,⟨by first | exact Bg rfl | exact Bf rfl,⟨by first | exact Bg rfl | exact Bf rfl,trivial⟩⟩⟩) (zaZ rfl Z.b1<|zab 1) (fun C s0 H0 fp=>sgn 0 zry) (fun C s0 H0 fp=>zem) fun C s0 H0 fp=>zan zb3 (zap (zaC hr) (zab 1)<|zan zb0 (zan zav (zab 2)<|zan zb3 (zab 3)<|zab 0)<|zae) (zan zav zae<|zan zb0 (zan zav (zan zb3 (zab 0)<|zab 0)<|zab 2)<|zae))<|zag)
def ze3:zcm P w K mg base 2 "_law_kind" 2 zcA :=
 zaI (k:=1) Z (top 22) 15 ["_law_pot","_law_names_here","_law_face","_law_sides_here"] ["_law_pot","_law_names_here"] fun nd f cdv A outer s H E hr=>JSs.out (zai (JS.mk<|sst 2 nd<|zap (zaC hr) (za4<|zaa zb2<|zaa (zap (zaC hr) zb2<|zba (zak Z) hr<|zaa (zab 0)<|zaa zae<|zag)<|zag)<|zba (zak Z) hr<|zaa (zab 0)<|zaa zae<|zag)<|zai (JS.mk<|zcR (i:=3) rfl rfl (zbt (N':=["_law_side","_law_names_here","_law_pot"]) (nt:=1) (fr:=[1,0]) ["_law_names_here","_law_pot"] rfl (by decide +kernel) (by decide +kernel) (by decide +kernel) rfl ⟨⟨rfl,by decide⟩,⟨⟨rfl,by decide⟩,trivial⟩⟩ ⟨by first | exact Bg rfl | exact Bf rfl,⟨by first | exact Bg rfl | exact Bf rfl,trivial⟩⟩) (zaZ rfl Z.b1<|zae) (fun C s0 H0 fp=>sgn 0 zrx) (fun C s0 H0 fp=>zem) (fun C s0 H0 fp=>zap (zaC hr) (zan zav (za4<|zaa zb2<|zag)<|zab 1) (zba (zak Z) hr<|zaa (zab 2)<|zaa (zan zav (cBE Z zbc zdE<|zaa (zab 1)<|zag)<|zae)<|zag)) nd rfl rfl)<|zal<|JS.mk<|zaR<|zaw<|JA.out<|zah (zab 2)<|zah (zap (zaC hr) (zab 3)<|zae)<|zah (zap (zaC hr) (zab 3)<|zae)<|zah (zap (zaC hr) (zab 3)<|zae)<|zah (zap (zaC hr) (zab 3)<|zae)<|zbJ)
def zez:zcm P w K mg base 3 "_law_house" 1 zb8 :=
 zaI (k:=2) Z (top 23) 16 ["_law_pot","_law_names_here","_law_enough","_law_sticks","_law_kinds"] ["_law_pot"] fun nd f cdv A outer s H E hr=>JSs.out (zai (JS.mk<|sst 1 nd<|zba (zex Z) hr<|zaa (zab 0)<|zaa (zan zav zae<|zba (zak Z) hr<|zaa (zab 0)<|zaa zae<|zag)<|zag)<|zai (JS.mk<|sst 2 nd<|zap (zaC hr) (za4<|JA.out<|zah zae<|zah zae<|zah zae<|zah zae<|zah zae<|zah zae<|zah zae<|zah zae<|zbJ)<|zba (zak Z) hr<|zaa (zab 0)<|zaa zae<|zag)<|zai (JS.mk<|sst 3 nd<|cTE Z zbL zcv<|zaa (zc8 rfl rfl (zbt (N':=["_law_name","_law_pot"]) (nt:=1) (fr:=[0]) ["_law_pot"] rfl (by decide +kernel) (by decide +kernel) (by decide +kernel) rfl ⟨⟨rfl,by decide⟩,trivial⟩ ⟨by first | exact Bg rfl | exact Bf rfl,trivial⟩) (zbT<|zab 1) (fun C s0 H0 fp=>sgn 0 zrw) (fun C s0 H0 fp=>zem) fun C s0 H0 fp=>zaw (zaa (zab 0)<|zaa (zap (zaC hr) (za4<|JA.out<|zah zae<|zah zae<|zah zae<|zah (zan zav zae<|zba (zak Z) hr<|zaa (zab 1)<|zaa zae<|zag)<|zbJ)<|zba (zak Z) hr<|zaa (zab 1)<|zaa zae<|zag)<|zag))<|zag)<|zai (JS.mk<|zcR (i:=4) rfl rfl (zbt (N':=["_law_k","_law_pot","_law_names_here"]) (nt:=1) (fr:=[0,1]) ["_law_pot","_law_names_here"] rfl (by decide +kernel) (by decide +kernel) (by decide +kernel) rfl ⟨⟨rfl,by decide⟩,⟨⟨rfl,by decide⟩,trivial⟩⟩ ⟨by first | exact Bg rfl | exact Bf rfl,⟨by first | exact Bg rfl | exact Bf rfl,trivial⟩⟩) (zaZ rfl Z.b1<|zan zav zae<|zba (zak Z) hr<|zaa (zab 0)<|zaa (zap (zaC hr) (za4<|JA.out<|zah zae<|zah zae<|zah zae<|zah zae<|zbJ)<|zba (zak Z) hr<|zaa (zab 0)<|zaa zae<|zag)<|zag) (fun C s0 H0 fp=>sgn 0 zrv) (fun C s0 H0 fp=>zem) (fun C s0 H0 fp=>zba (ze3 Z) hr (zaa (zab 1)<|zaa (zab 2)<|zag)) nd rfl rfl)<|zai (zfb (zbC (zfK<|zbl hr) (zba (zak Z) hr<|zaa (zab 0)<|zaa zae<|zag) zae rfl) (zal<|JS.mk<|zc5<|zbU (zab 4)<|zaa (zap (zaC hr) (zab 4)<|zba (zak Z) hr<|zaa (zab 0)<|zaa (cBE Z zbc zdE<|zaa (zab 4)<|zag)<|zag)<|zag)<|zbn)<|zal<|JS.mk<|zaR<|zaw<|zaa (zab 2)<|zaa (zab 3)<|zaa (cTE Z zbL zcv<|zaa (zab 4)<|zag)<|zag)
def zdi:zcm P w K mg base 2 "_law_standing" 4 zaY :=
 zaI (k:=1) Z (top 24) 17 ["_law_pot","_law_house_here","_law_floor","_law_most","_law_there","_law_k","_law_place"] ["_law_pot","_law_house_here","_law_floor","_law_most"] fun nd f cdv A outer s H E hr=>JSs.out (zai (JS.mk<|sst 4 nd<|zhC)<|zai (zcr AR rfl (zaZ rfl Z.b1<|zba (zak Z) hr<|zaa (zab 0)<|zaa (zan zav (zab 3)<|zae)<|zag) (sgn 5 nd)<|zai (JS.mk<|sst 6 nd<|zaw<|zaa (zba (zak Z) hr<|zaa (zab 0)<|zaa (zap (zaC hr) (zab 2)<|zae)<|zag)<|zaa (zba (zak Z) hr<|zaa (zab 0)<|zaa (zap (zaC hr) (zab 2)<|zae)<|zag)<|zag)<|zal<|JS.mk<|zgU (zaC hr) (zab 4) (zab 6)<|zba (zak Z) hr<|zaa (zab 0)<|zaa (cBE Z zbc zdE<|zaa (zap (zaC hr) (zab 1)<|zae)<|zag)<|zag)<|zal<|JS.mk<|zaR<|cTE Z zbL zcv<|zaa (cBE Z zcs zeO<|zaa (zc8 rfl rfl (zbt (N':=["_law_place","_law_there"]) (nt:=1) (fr:=[4]) ["_law_there"] rfl (by decide +kernel) (by decide +kernel) (by decide +kernel) rfl ⟨⟨rfl,by decide⟩,trivial⟩ ⟨by first | exact Bg rfl | exact Bf rfl,trivial⟩) (znb<|zab 4) (fun C s0 H0 fp=>sgn 0 zru) (fun C s0 H0 fp=>zem) fun C s0 H0 fp=>zan zav (zab 0) (zaw<|zaa (zle (zaC hr) (zab 1)<|zab 0)<|zag))<|zag)<|zag)
def zfM:zcm P w K mg base 4 "_law_bed" 1 zc3 :=
 zaI (k:=3) Z (top 25) 18 ["_law_pot","_law_house_here","_law_floor"] ["_law_pot"] fun nd f cdv A outer s H E hr=>JSs.out (zai (JS.mk<|sst 1 nd<|zba (zez Z) hr<|zaa (zab 0)<|zag)<|zai (JS.mk<|sst 2 nd<|zaw<|zaa (zan zav zae<|zba (zak Z) hr<|zaa (zab 0)<|zaa zae<|zag)<|zaa (zan zav zae<|zba (zak Z) hr<|zaa (zab 0)<|zaa (zap (zaC hr) (za4<|JA.out<|zah zae<|zah zae<|zah zae<|zah zae<|zbJ)<|zba (zak Z) hr<|zaa (zab 0)<|zaa zae<|zag)<|zag)<|zag)<|zai (zfb (zbC (zfK<|zbl hr) (zba (zak Z) hr<|zaa (zab 0)<|zaa zae<|zag) zae rfl) (zal<|JS.mk<|sst 2 nd<|znf (zab 2)<|zo9<|zae)<|zbn)<|zal<|JS.mk<|zaR<|zaw<|zaa (zab 1)<|zaa (zab 2)<|zaa (zba (zdi Z) hr<|JA.out<|zah (zab 0)<|zah (zab 1)<|zah (zab 2)<|zah (zap (zaC hr) (za4<|zaa zae<|zaa zae<|zaa zae<|zag)<|zba (zak Z) hr<|zaa (zab 0)<|zaa zae<|zag)<|zbJ)<|zag)
def zey:zcm P w K mg base 1 "_law_lying" 1 zb7 :=
 zaI (k:=0) Z (top 26) 19 ["_law_standing_here"] ["_law_standing_here"] fun nd f cdv A outer s H E hr=>JSs.out (zal<|JS.mk<|zaR<|cTE Z (zha rfl<|zra hr) ziM<|zaa (zc8 rfl rfl (cS ["_law_x","_law_y","_law_kind_here"] 3 [] []) (zbT<|zab 0) (fun C s0 H0 fp=>zeX rfl (zaM (sgn 0 zpQ)<|zaM (sgn 1 zpQ)<|zaM (sgn 2 zpQ)<|zc7)) (fun C s0 H0 fp=>zem) fun C s0 H0 fp=>zaw (zaa (zaw<|zaa (zab 0)<|zaa (zab 1)<|zag)<|zaa (zab 2)<|zag))<|zag)
def zc9:zcm P w K mg base 1 "_law_step" 2 zaP :=
 zaI (k:=0) Z (top 27) 20 ["_law_place","_law_side","_law_x","_law_y"] ["_law_place","_law_side"] fun nd f cdv A outer s H E hr=>JSs.out (zai (JS.mk<|zjd (zab 0)<|zeX rfl<|zaM (sgn 2 nd)<|zaM (sgn 3 nd)<|zc7)<|zal<|JS.mk<|zaR<|zap (zaC hr) (za4<|JA.out<|zah (zaw<|zaa (zab 2)<|zaa (zan zav (zab 3)<|zae)<|zag)<|zah (zaw<|zaa (zan zav (zab 2)<|zae)<|zaa (zab 3)<|zag)<|zah (zaw<|zaa (zab 2)<|zaa (zan zdw (zab 3)<|zae)<|zag)<|zah (zaw<|zaa (zan zdw (zab 2)<|zae)<|zaa (zab 3)<|zag)<|zbJ)<|zab 1)
def zew:zcm P w K mg base 2 "_law_sides" 4 zb5 :=
 zaI (k:=1) Z (top 28) 21 ["_law_bed_here","_law_there","_law_place","_law_kind_here","_law_kinds","_law_found","_law_side","_law_other","_law_mine"] ["_law_bed_here","_law_there","_law_place","_law_kind_here"] fun nd f cdv A outer s H E hr=>JSs.out (zai (JS.mk<|zm3 (i:=4) (j:=5) rfl nd rfl rfl (by decide) rfl rfl<|zaa (zap (zaC hr) (zap (zaC hr) (zab 0)<|zae)<|zae)<|zaa (za4<|zag)<|zag)<|zai (zcr AR rfl (zaZ rfl Z.b1<|zae) (sgn 6 nd)<|zai (JS.mk<|sst 7 nd<|zng (zaC hr) (zab 1)<|zba (zc9 Z) hr<|zaa (zab 2)<|zaa (zab 6)<|zag)<|zai (JS.mk<|sst 8 nd<|zap (zaC hr) (zap (zaC hr) (zab 4)<|zab 3)<|zan zav (zab 6)<|zae)<|zal<|zfb (SW.sb<|zhq (zbC zhW (zab 7) zhB rfl)<|zhq (zbC (zhY<|zbl hr) (zab 8) zb2 rfl)<|zf5<|zbC (zfK<|zbl hr) (zap (zaC hr) (zap (zaC hr) (zab 4)<|zab 7)<|zan zav (zan zb0 (zan zav (zab 6)<|zae)<|zae)<|zae) (zab 8) rfl) (zal<|JS.mk<|zc5<|zbU (zab 5)<|zaa (zab 6)<|zag)<|zbn)<|zal<|JS.mk<|zaR<|zab 5)
def zg0:zcm P w K mg base 3 "_law_by" 4 zb9 :=
 zaI (k:=2) Z (top 29) 22 ["_law_bed_here","_law_there","_law_place","_law_kind_here","_law_sides_here","_law_strengths"] ["_law_bed_here","_law_there","_law_place","_law_kind_here"] fun nd f cdv A outer s H E hr=>JSs.out (zai (JS.mk<|sst 4 nd<|zba (zew Z) hr<|JA.out<|zah (zab 0)<|zah (zab 1)<|zah (zab 2)<|zah (zab 3)<|zbJ)<|zai (zfb (zbC (zfK<|zbl hr) (zab 4) (za4<|zag) rfl) (zal<|JS.mk<|zaR<|zae)<|zbn)<|zai (JS.mk<|sst 5 nd<|cTE Z (zed rfl) ziM<|zaa (zap (zaC hr) (zap (zaC hr) (zab 0)<|zae)<|zae)<|zag)<|zal<|JS.mk<|zaR<|cBE Z (zgG rfl) zon<|zaa (zc8 rfl rfl (zbt (N':=["_law_side","_law_strengths","_law_bed_here","_law_kind_here"]) (nt:=1) (fr:=[5,0,3]) ["_law_strengths","_law_bed_here","_law_kind_here"] rfl (by decide +kernel) (by decide +kernel) (by decide +kernel) rfl ⟨⟨rfl,by decide⟩,⟨⟨rfl,by decide⟩,⟨⟨rfl,by decide⟩,trivial⟩⟩⟩ ⟨by first | exact Bg rfl | exact Bf rfl,⟨by first | exact Bg rfl | exact Bf rfl,⟨by first | exact Bg rfl | exact Bf rfl,trivial⟩⟩⟩) (zbT<|zab 4) (fun C s0 H0 fp=>sgn 0 zrt) (fun C s0 H0 fp=>zem) fun C s0 H0 fp=>zap (zaC hr) (zab 1) (zap (zaC hr) (zap (zaC hr) (zap (zaC hr) (zap (zaC hr) (zab 2)<|zae)<|zae)<|zab 3)<|zan zav (zab 0)<|zae))<|zag)
def zeA:zcm P w K mg base 2 "_law_empty" 2 zbA :=
 zaI (k:=1) Z (top 30) 23 ["_law_bed_here","_law_there","_law_found","_law_x","_law_y","_law_beside"] ["_law_bed_here","_law_there"] fun nd f cdv A outer s H E hr=>JSs.out (zai (JS.mk<|sst 2 nd<|za4<|zag)<|zai (zcr AR rfl (zaZ rfl Z.b1<|zap (zaC hr) (zap (zaC hr) (zab 0)<|zae)<|zae) (sgn 3 nd)<|zal<|zcr AR rfl (zaZ rfl Z.b1<|zap (zaC hr) (zap (zaC hr) (zab 0)<|zae)<|zae) (sgn 4 nd)<|zai (JS.mk<|zcR (i:=5) rfl rfl (zbt (N':=["_law_side","_law_x","_law_y","_law_there"]) (nt:=1) (fr:=[3,4,1]) ["_law_x","_law_y","_law_there"] rfl (by decide +kernel) (by decide +kernel) (by decide +kernel) rfl ⟨⟨rfl,by decide⟩,⟨⟨rfl,by decide⟩,⟨⟨rfl,by decide⟩,trivial⟩⟩⟩ ⟨by first | exact Bg rfl | exact Bf rfl,⟨by first | exact Bg rfl | exact Bf rfl,⟨by first | exact Bg rfl | exact Bf rfl,trivial⟩⟩⟩) (zaZ rfl Z.b1<|zae) (fun C s0 H0 fp=>sgn 0 zrs) (fun C s0 H0 fp=>znj (zlk (zbl hr) (zba (zc9 Z) hr<|zaa (zaw<|zaa (zab 1)<|zaa (zab 2)<|zag)<|zaa (zab 0)<|zag)<|zab 3)) (fun C s0 H0 fp=>zab 0) nd rfl rfl)<|zal<|zfb (SW.sb<|zhq (zjn (zbl hr) (zaw<|zaa (zab 3)<|zaa (zab 4)<|zag)<|zab 1)<|zf5<|zbC (zhY<|zbl hr) (zab 5) (za4<|zag) rfl) (zal<|JS.mk<|zc5<|zbU (zab 2)<|zaa (zaw<|zaa (zab 3)<|zaa (zab 4)<|zag)<|zag)<|zbn)<|zal<|JS.mk<|zaR<|zab 2)
def zfL:zcm P w K mg base 4 "_law_may" 2 zbO :=
 zaI (k:=3) Z (top 31) 24 ["_law_bed_here","_law_there","_law_found","_law_place","_law_kind_here"] ["_law_bed_here","_law_there"] fun nd f cdv A outer s H E hr=>JSs.out (zai (JS.mk<|sst 2 nd<|za4<|zag)<|zai (zcr AR rfl (zbT<|zba (zeA Z) hr<|zaa (zab 0)<|zaa (zab 1)<|zag) (sgn 3 nd)<|zal<|zcr AR rfl (zaZ rfl Z.b1<|cBE Z zbc zdE<|zaa (zap (zaC hr) (zap (zaC hr) (zab 0)<|zae)<|zae)<|zag) (sgn 4 nd)<|zal<|zfb (zbC zlI (zba (zg0 Z) hr<|JA.out<|zah (zab 0)<|zah (zab 1)<|zah (zab 3)<|zah (zab 4)<|zbJ) (zap (zaC hr) (zap (zaC hr) (zab 0)<|zae)<|zae) rfl) (zal<|JS.mk<|zc5<|zbU (zab 2)<|zaa (zan zav (zab 3)<|zaw<|zaa (zab 4)<|zag)<|zag)<|zbn)<|zal<|JS.mk<|zaR<|zab 2)
def ze2:zcm P w K mg base 5 "_law_walk" 3 zcz :=
 zaI (k:=4) Z (top 32) 25 ["_law_pot","_law_bed_here","_law_most","_law_there","_law_row","_law_k","_law_some","_law_tile"] ["_law_pot","_law_bed_here","_law_most"] fun nd f cdv A outer s H E hr=>JSs.out (zai (JS.mk<|zm3 (i:=3) (j:=4) rfl nd rfl rfl (by decide) rfl rfl<|zaa (zba (zey Z) hr<|zaa (zap (zaC hr) (zab 1)<|zae)<|zag)<|zaa (za4<|zag)<|zag)<|zai (zcr AR rfl (zaZ rfl Z.b1<|zab 2) (sgn 5 nd)<|zai (JS.mk<|sst 6 nd<|zba (zfL Z) hr<|zaa (zab 1)<|zaa (zab 3)<|zag)<|zal<|zfb (zbC (zhY<|zbl hr) (zab 6) (za4<|zag) rfl) (zai (JS.mk<|sst 7 nd<|zap (zaC hr) (zab 6)<|zba (zak Z) hr<|zaa (zab 0)<|zaa (cBE Z zbc zdE<|zaa (zab 6)<|zag)<|zag)<|zai (JS.mk<|zgU (zaC hr) (zab 3) (zci (zab 7) zcE<|zcD<|zae)<|zap (zaC hr) (zab 7)<|zae)<|zal<|JS.mk<|zc5<|zbU (zab 4)<|zaa (zab 7)<|zag)<|zbn)<|zal<|JS.mk<|zaR<|cTE Z zbL zcv<|zaa (zab 4)<|zag)
def zcl:zcm P w K mg base 2 "_law_nested" 1 zaE :=
 zaI (k:=1) Z (top 33) 26 ["_law_pot","_law_thing","_law_k"] ["_law_pot"] fun nd f cdv A outer s H E hr=>JSs.out (zai (JS.mk<|sst 1 nd<|zap (zaC hr) (za4<|JA.out<|zah (zaw<|zag)<|zah (za4<|zag)<|zah zb2<|zah zae<|zah zhB<|zbJ)<|zba (zak Z) hr<|zaa (zab 0)<|zaa zae<|zag)<|zai (zcr AR rfl (zaZ rfl Z.b1<|zap (zaC hr) (za4<|zaa zae<|zaa zae<|zaa zae<|zag)<|zba (zak Z) hr<|zaa (zab 0)<|zaa zae<|zag) (sgn 2 nd)<|zal<|JS.mk<|sst 1 nd<|zap (zaC hr) (za4<|zaa (zaw<|zaa (zab 1)<|zag)<|zaa (za4<|zaa (zab 1)<|zag)<|zaa (zhD zb2<|zab 1)<|zag)<|zba (zak Z) hr<|zaa (zab 0)<|zaa zae<|zag)<|zal<|JS.mk<|zaR<|zab 1)
def zcT:zcm P w K mg base 3 "_law_odd_tiles" 2 zbk :=
 zaI (k:=2) Z (top 34) 27 ["_law_pot","_law_tile","_law_x","_law_y","_law_kind_here","_law_some"] ["_law_pot","_law_tile"] fun nd f cdv A outer s H E hr=>JSs.out (zai (JS.mk<|zjd (zab 1)<|zeX rfl<|zaM (sgn 2 nd)<|zaM (sgn 3 nd)<|zaM (sgn 4 nd)<|zc7)<|zai (zn6 (i:=5) nd rfl (by first | exact Bg rfl | exact Bf rfl)<|zah (za4<|zaa (zab 2)<|zaa (zab 3)<|zaa (zab 4)<|zag)<|zah (zaw<|zaa (zab 2)<|zaa (zab 3)<|zag)<|zah (zaw<|JA.out<|zah (zab 2)<|zah (zab 3)<|zah (zab 4)<|zah zae<|zbJ)<|zah zb2<|zah zhB<|zah zfC<|zah zae<|zah zfB<|zah (zaw<|zag)<|zah (zaw<|zaa (zab 2)<|zaa (zab 3)<|zaa (cTE Z zj7 zqn<|zaa (zab 4)<|zag)<|zag)<|zah (zaw<|zaa (zab 2)<|zaa zhB<|zaa (zab 4)<|zag)<|zbJ)<|zai (JS.mk<|sst 5 nd<|zan zav (zab 5)<|za4<|JA.out<|zah (zaw<|zaa (zaw<|zaa (zab 2)<|zag)<|zaa (zab 3)<|zaa (zab 4)<|zag)<|zah (zaw<|zaa zfC<|zaa (zab 3)<|zaa (zab 4)<|zag)<|zah (zaw<|zaa (zab 2)<|zaa zfC<|zaa (zab 4)<|zag)<|zah (zaw<|zaa (zab 2)<|zaa (zab 3)<|zaa zfC<|zag)<|zah (zaw<|zaa (zab 2)<|zaa (zab 3)<|zaa (za4<|zaa (zab 4)<|zag)<|zag)<|zah (zba (zcl Z) hr<|zaa (zab 0)<|zag)<|zbJ)<|zal<|JS.mk<|zaR<|zan zav (zab 5)<|za4<|JA.out<|zah (zhD (zab 2)<|zab 3)<|zah (zaw<|zaa (zab 2)<|zaa (zab 3)<|zaa (zaw<|zaa (zab 4)<|zag)<|zag)<|zah (zaw<|zaa (zaw<|zaa (zab 2)<|zaa (zab 3)<|zag)<|zaa (zab 4)<|zag)<|zah (zaw<|zaa (zab 2)<|zaa (zab 3)<|zaa zfB<|zag)<|zah zb2<|zah (za4<|zaa (zaw<|zaa (zab 2)<|zaa (zab 3)<|zaa (zab 4)<|zag)<|zag)<|zah (zaw<|zaa (zaw<|zaa (zab 2)<|zaa (zab 3)<|zaa (zab 4)<|zag)<|zag)<|zbJ)
def zqg{f:Addr}{fd:FuncData}(F:Fun K "law" "law" (top 35) f fd):FnOk P w K mg base CX0 6 f fd ["_law_script"] (spM K 1 zqx) :=
 zrJ (k:=5) F ["_law_script","_law_k","_law_pot","_law_bed_here","_law_row","_law_at","_law_tile","_law_odd","_law_thing"] ["_law_script"] fun nd cdv A outer s H E hr=>JSs.out (zai (zcr AR rfl (zaZ rfl Z.b1<|zan zav zae<|cBE Z (zj8 rfl) zqo<|zaa zae<|zaa (cBE Z zbc zdE<|zaa (zab 0)<|zag)<|zag) (sgn 1 nd)<|zai (JS.mk<|sst 2 nd<|zba (zeB Z) hr<|zaa (zab 0)<|zaa (zab 1)<|zag)<|zai (JS.mk<|sst 3 nd<|zba (zfM Z) hr<|zaa (zab 2)<|zag)<|zai (JS.mk<|sst 4 nd<|zba (ze2 Z) hr<|zaa (zab 2)<|zaa (zab 3)<|zaa zae<|zag)<|zai (JS.mk<|sst 5 nd<|zba (zak Z) hr<|zaa (zab 2)<|zaa (zan zav (cBE Z zbc zdE<|zaa (zab 4)<|zag)<|zae)<|zag)<|zai (JS.mk<|sst 6 nd<|zap (zaC hr) (zan ze0 (zab 4)<|zaw<|zaa (zaw<|zaa zae<|zaa zae<|zaa zae<|zag)<|zag)<|zab 5)<|zai (zcr AR rfl (zbT<|zba (zcT Z) hr<|zaa (zab 2)<|zaa (zab 6)<|zag) (sgn 7 nd)<|zal<|zcr AR rfl (zbT<|zaw<|JA.out<|zah (zan zav (zan ze0 (zdm (zab 4) zcE<|zcD<|zab 5)<|zaw<|zaa (zab 7)<|zag)<|zdm (zab 4) (zcD<|zan zav (zab 5)<|zae)<|zcE)<|zah (zan zav (zan ze0 (zdm (zab 4) zcE<|zcD<|zab 5)<|zaw<|zaa (zab 7)<|zag)<|zdm (zab 4) (zcD<|zab 5)<|zcE)<|zah (zan zav (zaw<|zaa (zab 7)<|zag)<|zab 4)<|zah (zan ze0 (zab 4)<|zaw<|zaa (zab 7)<|zag)<|zbJ) (sgn 8 nd)<|zal<|zfb (zbC zfI (zba (zeC Z) hr<|zaa (zab 3)<|zaa (zab 8)<|zag) zfC rfl) (zal<|JS.mk<|zaR<|zfC)<|zbn)<|zai (zcr AR rfl (zbT<|za4<|JA.out<|zah (cTE Z (ziI rfl) zoo<|zaa (zab 4)<|zag)<|zah zhB<|zah zfC<|zah zae<|zah zb2<|zah zb2<|zah zfB<|zah (za4<|zag)<|zah (zaw<|zaa (zab 4)<|zag)<|zah (za4<|zaa (zab 4)<|zag)<|zah (zba (zcl Z) hr<|zaa (zab 2)<|zag)<|zah (zld (zaC hr) (zab 4)<|zab 4)<|zbJ) (sgn 8 nd)<|zal<|zfb (SW.sb<|zhq (zbC (zpG<|zbl hr) (zab 8) (zaw<|zag) rfl)<|zf5<|zbC zfI (zba (zeC Z) hr<|zaa (zab 3)<|zaa (zab 8)<|zag) zfC rfl) (zal<|JS.mk<|zaR<|zfC)<|zbn)<|zal<|zfb (zbC zfI (zba (zeC Z) hr<|zaa (zab 3)<|zaa (zab 4)<|zag) zfC rfl) (zal<|JS.mk<|zaR<|zfC)<|zbn)<|zal<|JS.mk<|zaR<|zfC)
end
end L2.MP.stickytiles_k14_rows_of_anything
namespace L2.MP.stickytiles_k14_rows_of_anything
open PySem L2.MP L2.MP.Hd
open L2.MP.Hn (za3)
def zlN{x y:Int}{d:Nat}{kvs:List (List Key×D)}{st:Sto}(h:st[d]?=some (.dt kvs)):zh2 (.tup [.int x,.int y]) (.ref d) st=some (.bl (!(valD kvs [.inl x,.inl y]).isSome),st):=by
 have e0:toP 50 st (.ref d)=none:=by rw[toP];simp[zbi,h]
 have e1:inD true (.tup [.int x,.int y]) (.ref d) st=none:=by
   unfold inD;rw[e0]
   cases toP 50 st (.tup [.int x,.int y]) <;> rfl
 unfold zh2 orG zlO orG;rw[e1,zeu];simp[dinD,look,h,keysOf,keyOf,zdQ]
def tD(t:Tl):D:=tupD<|rowT t
def sth(stk:List (Str×Int))(ks:List (List Str))(P:List Tl)(x y:Int)(k:Nat):Int:=((togs (sds ks (k:Int))<|names4 ks P x y).map fun p=>sv stk p.1).sum
def gK(e:Int)(stk:List (Str×Int))(ks:List (List Str))(P:List Tl)(x y:Int)(n:Nat):List Tl:=((Ax n).filter fun k=>decide (e<=sth stk ks P x y k)).map fun (k:Nat)=>(x,y,(k:Int))
def zkE(e:Int)(stk:List (Str×Int))(ks:List (List Str))(P:List Tl)(x y:Int)(n:Nat):gK e stk ks P x y (n+1)=if e<=sth stk ks P x y n then gK e stk ks P x y n++[(x,y,(n:Int))] else gK e stk ks P x y n:=by
 unfold gK;rw[CV,C9,Bn]
 by_cases h:e<=sth stk ks P x y n
 . rw[if_pos h];simp[h]
 rw[if_neg h];simp[h]
def zmi(e:Int)(stk:List (Str×Int))(ks:List (List Str))(P:List Tl)(x y:Int)(n:Nat):(gK e stk ks P x y n).length<=n:=by unfold gK;rw[Ag];exact AC (Br _ _)<|by simp
structure Ctx(bed:D)(e:Int)(stk:List (Str×Int))(ks:List (List Str))(w h:Int):Prop where
 at_:∃ hs:D,(∀ s:Sto,ixA bed (.int 0) s=some (hs,s))/\(∀ s:Sto,ixA hs (.int 0) s=some (.int e,s))/\(∀ s:Sto,ixA hs (.int 1) s=some (.tup (stk.map zbq),s))/\∀ s:Sto,ixA hs (.int 2) s=some (.tup (ks.map zbr),s)
 fl:∀ s:Sto,ixA bed (.int 1) s=some (.tup [.int w,.int h],s)
 hs:HsOk e stk ks
 fo:FlOk w h
variable {e w h:Int}
def Ctx.bed{bed:D}{e w h:Int}{stk:List (Str×Int)}{ks:List (List Str)}(c:Ctx bed e stk ks w h):BedAt bed stk ks:=let ⟨hs,i0,_,i1,i2⟩:=c.at_;⟨hs,i0,i1,i2⟩
def Ctx.ks{bed:D}{e w h:Int}{stk:List (Str×Int)}{ks:List (List Str)}(c:Ctx bed e stk ks w h):KsOk (stk.map (·.1)) ks:=⟨by have:=c.hs.hi;omega,c.hs.kd⟩
def Ctx.stk{bed:D}{e w h:Int}{stk:List (Str×Int)}{ks:List (List Str)}(c:Ctx bed e stk ks w h):∀ p∈stk,1<=p.2/\p.2<=4:=fun p hp=>(c.hs.nm p hp).2
end L2.MP.stickytiles_k14_rows_of_anything
namespace L2.MP.stickytiles_k14_rows_of_anything
open PySem L2.MP L2.MP.Hd
def nb(x y:Int):Nat->Int×Int
 | 0=>(x,y+1)
 | 1=>(x+1,y)
 | 2=>(x,y - 1)
 | _=>(x - 1,y)
def pres(P:List Tl)(x y:Int)(j:Nat):Bool:=(fnd P (nb x y j).1 (nb x y j).2).isSome
def okE(P:List Tl)(x y:Int):Bool:=!(fnd P x y).isSome&&!((Ax 4).filter<|pres P x y).isEmpty
section
variable (P:List Tl)
def eC(x:Int)(m:Nat):List (Int×Int):=((Ax m).filter fun (j:Nat)=>okE P x (j:Int)).map fun (j:Nat)=>(x,(j:Int))
def eF(h:Int)(n:Nat):List (Int×Int):=((Ax n).map fun (i:Nat)=>eC P (i:Int) h.toNat).flatten
def zoe(x:Int)(m:Nat):eC P x (m+1)=if okE P x (m:Int)=true then eC P x m++[(x,(m:Int))] else eC P x m:=by
 unfold eC;rw[CV,C9,Bn]
 by_cases h:okE P x (m:Int)=true
 . rw[if_pos h];simp[h]
 rw[if_neg h];simp[h]
def zkF(h:Int)(n:Nat):eF P h (n+1)=eF P h n++eC P (n:Int) h.toNat:=by unfold eF;rw[CV,Bn,Ej];simp
def zof(x:Int)(m:Nat):(eC P x m).length<=m:=by unfold eC;rw[Ag];exact AC (Br _ _)<|by simp
def zj0(h:Int):∀ n:Nat,(eF P h n).length<=n*h.toNat
 | 0=>by simp[eF]
 | n+1=>by have h1:=zj0 h n;have h2:=zof P (n:Int) h.toNat;rw[zkF,AZ,EI];omega
end
def mays(e:Int)(stk:List (Str×Int))(ks:List (List Str))(P:List Tl)(ps:List (Int×Int)):List Tl:=(ps.map fun p=>gK e stk ks P p.1 p.2 ks.length).flatten
def zlW(e:Int)(stk:List (Str×Int))(ks:List (List Str))(P:List Tl)(a b:List (Int×Int)):mays e stk ks P (a++b)=mays e stk ks P a++mays e stk ks P b:=by unfold mays;rw[Bn,Ej]
variable {l:Nat}{st:Sto}
def ne_nil{m:Nat}{js:List Nat}(hl:st[l]?=some (.lst<|js.map fun (i:Nat)=>D.int (i:Int)))(hm:st[m]?=some (.lst [])):neD (.ref l) (.ref m) st=some (.bl !js.isEmpty,st):=by
 have e:(js.map fun (i:Nat)=>D.int (i:Int))=(js.map fun (i:Nat)=>(i:Int)).map D.int:=by rw[A6];rfl
 rw[e] at hl;unfold neD;rw[zdp (n:=98) hl,zdp (n:=98) (as:=[]) hm]
 cases js <;> rfl
variable {x y:Int}{d:Nat}{s s1:Sto}
def znP{J a b:Int}{q:Bool}(e1:zaP [.tup [.int x,.int y],.int J] s=some (.tup [.int a,.int b],s1))(e2:inA (.tup [.int a,.int b]) (.ref d) s1=some (.bl q,s1)):zaG [some (.int J),some (.int x),some (.int y),some (.ref d)] s=some (q,s1):=by unfold zaG;simp[e1,e2]
variable {P:List Tl}
def znQ(hd:st[d]?=some (.dt<|P.map kvOf)):∃ st',mCI ⟨run 0 4,[]⟩ (gNm 0) zaG za8 (run 0 4) [none,some (.int x),some (.int y),some (.ref d)] st=some (((Ax 4).filter<|pres P x y).map fun (i:Nat)=>D.int (i:Int),st')/\Gr st st':=by
 have key:=zmt (W:=⟨run 0 4,[]⟩) (g:=gNm 0) (c:=zaG) (m:=za8) (ds:=run 0 4) (acc:=[]) (st:=st) (U:=[none,some (.int x),some (.int y),some (.ref d)])
   (Inv:=fun k a U s=>Y3 ((∃ u,U=[u,some (.int x),some (.int y),some (.ref d)])) (a=fl (pres P x y) k) (Gr st s))
   ⟨⟨_,rfl⟩,rfl,Gr.refl _⟩ (fun _ _ _ _ _ _=>rfl) (fun k dd a U s hdd hI=>by
     obtain⟨⟨u,rfl⟩,rfl,hg⟩:=hI;obtain⟨hk,rfl⟩:=zds hdd;have hp:[D.tup [.int x,.int (y+1)],.tup [.int (x+1),.int y],.tup [.int x,.int (y - 1)],.tup [.int (x - 1),.int y]][((k:Nat):Int).toNat]?=some (.tup [.int (nb x y k).1,.int (nb x y k).2]):=by
       rw[A4]
       match k,hk with
       | 0,_=>rfl
       | 1,_=>rfl
       | 2,_=>rfl
       | 3,_=>rfl
     obtain⟨s1,e1,g1⟩:=zkk (s:=s) (J:=(k:Int)) (by omega) hp;have hg1:=hg.trans g1;have ein:=zqc (x:=(nb x y k).1) (y:=(nb x y k).2)<|(hg1.old _<|getElem?_lt hd).trans hd;rw[zdX,B0] at ein;have rd:=znP e1 ein
     cases hq:(fnd P (nb x y k).1 (nb x y k).2).isSome with
     | true =>
       rw[hq] at rd;refine⟨[some (.int (k:Int)),some (.int x),some (.int y),some (.ref d)],s,true,s1,rfl,rd,.inl ⟨rfl,.int (k:Int),s1,rfl,⟨_,rfl⟩,?_,hg1⟩⟩;rw[zd8,if_pos (show pres P x y k=true from hq)]
     | false =>
       rw[hq] at rd;refine⟨[some (.int (k:Int)),some (.int x),some (.int y),some (.ref d)],s,false,s1,rfl,rd,.inr ⟨rfl,⟨_,rfl⟩,?_,hg1⟩⟩;rw[zd8,if_neg (show ¬ pres P x y k=true by unfold pres;rw[hq];decide)])
 obtain⟨xs,U',s',ec,_,hx,hg⟩:=key;rw[Ci] at hx;subst hx;exact⟨s',ec,hg⟩
variable {bed:D}{a5:Option D}{L:List D}{s2:Sto}
def zok{lb:Nat}{q1 q2:Bool}(ec:zcH (mR1<|mCon<|.int 4) 1 [3,4,1] (gNm 0) zaG za8 [some bed,some (.ref d),some (.ref l),some (.int x),some (.int y),a5] s=some (.ref lb,s1))(e1:zh2 (.tup [.int x,.int y]) (.ref d) s1=some (.bl q1,s1))(hs2:s1++[.lst []]=s2)(e2:neD (.ref lb) (.ref s1.length) s2=some (.bl q2,s2))(hl:s2[l]?=some (.lst L))(ea:zbM (.ref l) [.tup [.int x,.int y]] s2=some (.non,s2.set l (.lst<|L++[.tup [.int x,.int y]]))) :
   za5 [some bed,some (.ref d),some (.ref l),some (.int x),some (.int y),a5] s=some (.nx [some bed,some (.ref d),some (.ref l),some (.int x),some (.int y),some (.ref lb)],if q1=true then (if q2=true then s2.set l (.lst<|L++[.tup [.int x,.int y]]) else s2) else s1):=by
 unfold za5;refine zam (U1:=[some bed,some (.ref d),some (.ref l),some (.int x),some (.int y),some (.ref lb)]) (s1:=s1) (by rw[zdW,ec];rfl) ?_
 cases q1 with
 | false=>simp[e1]
 | true =>
   cases q2 with
   | false=>simp[e1,hs2,e2]
   | true=>simp[e1,hs2,e2,zbi,hl,ea]
variable {st0:Sto}
def zol{L:List (Int×Int)}(hd:s[d]?=some (.dt<|P.map kvOf))(hl:s[l]?=some (.lst<|L.map plD))(hL:L.length<=9000)(h0:st0.length<=l)(hdl:d≠l)(g0:Gr st0 s) :
   ∃ (b5:Option D) (s':Sto),Y4 (za5 [some bed,some (.ref d),some (.ref l),some (.int x),some (.int y),a5] s=some (.nx [some bed,some (.ref d),some (.ref l),some (.int x),some (.int y),b5],s')) (s'[l]?=some (.lst<|(if okE P x y=true then L++[(x,y)] else L).map plD)) (s'[d]?=s[d]?) (Gr st0 s'):=by
 obtain⟨s1,e1,g1⟩:=znQ (x:=x) (y:=y) hd;have hle:((Ax 4).filter<|pres P x y).length<=4:=by have:=Br (pres P x y)<|Ax 4;rw[B1] at this;exact this
 have fl':fits (((Ax 4).filter<|pres P x y).map fun (i:Nat)=>D.int (i:Int)).length=true:=zar (by rw[Ag];omega);have a2:=zau s1<|.lst<|((Ax 4).filter<|pres P x y).map fun (i:Nat)=>D.int (i:Int);have g2:=g1.trans<|Gr.app s1 [.lst (((Ax 4).filter<|pres P x y).map fun (i:Nat)=>D.int (i:Int))];have ec:zcH (mR1<|mCon<|.int 4) 1 [3,4,1] (gNm 0) zaG za8 [some bed,some (.ref d),some (.ref l),some (.int x),some (.int y),a5] s=some (.ref s1.length,s1++[.lst (((Ax 4).filter<|pres P x y).map fun (i:Nat)=>D.int (i:Int))]):=by rw[zaJ,zhJ (k:=4) rfl (by decide)];simp only[Ae];rw[show rho0 [some bed,some (.ref d),some (.ref l),some (.int x),some (.int y),a5] 1 [3,4,1]=[none,some (.int x),some (.int y),some (.ref d)] from rfl,e1];simp only[Ae,fl',if_true]
 generalize s1++[O.lst (((Ax 4).filter<|pres P x y).map fun (i:Nat)=>D.int (i:Int))]=s2 at *;have hin:=zlN (x:=x) (y:=y)<|(g2.old _<|getElem?_lt hd).trans hd;rw[zdX,B0] at hin;have a3:(s2++[O.lst []])[s1.length]?=some (.lst<|((Ax 4).filter<|pres P x y).map fun (i:Nat)=>D.int (i:Int)):=by rw[Ap (getElem?_lt a2)];exact a2
 have en:=ne_nil a3<|zau s2<|.lst [];have g3:=g2.trans<|Gr.app s2 [.lst []];have hl2:=(g2.old _<|getElem?_lt hl).trans hl;have hl3:=(g3.old _<|getElem?_lt hl).trans hl;have hd2:=g2.old _<|getElem?_lt hd;have hd3:=g3.old _<|getElem?_lt hd;have ea:=append_at (x:=.tup [.int x,.int y]) hl3 (by rw[Ag];omega);have rd:=zok ec hin rfl en hl3 ea;generalize s2++[O.lst []]=s3 at *;refine⟨_,_,rd,?_,?_,?_⟩
 . unfold okE
   cases (fnd P x y).isSome with
   | true=>simpa using hl2
   | false =>
     cases ((Ax 4).filter<|pres P x y).isEmpty with
     | true=>simpa using hl3
     | false =>
       simp only[D2,if_true,Fq];rw[AY (getElem?_lt hl3),Bn];rfl
 . cases (fnd P x y).isSome with
   | true=>simpa using hd2
   | false =>
     cases ((Ax 4).filter<|pres P x y).isEmpty with
     | true=>simpa using hd3
     | false =>
       simp only[D2,if_true];rw[AA (Bo hdl)];exact hd3
 . cases (fnd P x y).isSome with
   | true=>simpa using g0.trans g2
   | false =>
     cases ((Ax 4).filter<|pres P x y).isEmpty with
     | true=>simpa using g0.trans g3
     | false =>
       simp only[D2,if_true];have g:=g0.trans g3;exact⟨by rw[BI];exact g.len,fun j hj=>by rw[AA (by omega)];exact g.old j hj⟩
variable {e w h:Int}{stk:List (Str×Int)}{ks:List (List Str)}
def zeM(c:Ctx bed e stk ks w h)(hd:st[d]?=some (.dt<|P.map kvOf)) :
   ∃ st',Y3 (zbA [bed,.ref d] st=some (.ref st.length,st')) (st'[st.length]?=some (.lst<|(eF P h w.toNat).map plD)) (Gr st st'):=by
 have f1:=c.fo.w0;have f2:=c.fo.w1;have f3:=c.fo.h0;have f4:=c.fo.h1;have hdl:=getElem?_lt hd;have h12:h.toNat<=12:=by omega
 have bound:∀ n m:Nat,n<=12->m<=h.toNat->(eF P h n++eC P (n:Int) m).length<=9000:=fun n m hn hm=>by have b1:=zj0 P h n;have b2:=zof P (n:Int) m;have b3:n*h.toNat<=12*12:=D3 hn h12;rw[AZ];omega
 have hd1:(st++[O.lst []])[d]?=some (.dt<|P.map kvOf):=by rw[Ap hdl];exact hd
 have key:=zbm (W:=⟨run 0 w.toNat,[]⟩) (g:=gNm 3) (m:=zbF) (ds:=run 0 w.toNat) (U:=[some bed,some (.ref d),some (.ref st.length),none,none,none]) (st:=st++[.lst []])
   (Inv:=fun k U s=>Y4 ((∃ a b cc,U=[some bed,some (.ref d),some (.ref st.length),a,b,cc])) (s[st.length]?=some (.lst<|(eF P h k).map plD)) (s[d]?=some (.dt<|P.map kvOf)) (Gr st s))
   ⟨⟨_,_,_,rfl⟩,zau _ _,hd1,Gr.app _ _⟩ (fun _ _ _ _ _=>rfl) (fun k dd U s hdd hI=>by
     obtain⟨⟨u,v,q,rfl⟩,hat,hdt,hg⟩:=hI;obtain⟨hk,rfl⟩:=zds hdd;have key2:=zbm (W:=⟨run 0 h.toNat,[]⟩) (g:=gNm 4) (m:=za5) (ds:=run 0 h.toNat) (U:=[some bed,some (.ref d),some (.ref st.length),some (.int (k:Int)),v,q]) (st:=s)
       (Inv:=fun j U s=>Y4 ((∃ b cc,U=[some bed,some (.ref d),some (.ref st.length),some (.int (k:Int)),b,cc])) (s[st.length]?=some (.lst<|(eF P h k++eC P (k:Int) j).map plD)) (s[d]?=some (.dt<|P.map kvOf)) (Gr st s))
       ⟨⟨_,_,rfl⟩,by simpa[eC] using hat,hdt,hg⟩ (fun _ _ _ _ _=>rfl) (fun j dd U s hdd hI=>by
         obtain⟨⟨v,q,rfl⟩,hat,hdt,hg⟩:=hI;obtain⟨hj,rfl⟩:=zds hdd;obtain⟨b5,s',e',hat',hdt',hg'⟩:=zol (bed:=bed) (x:=(k:Int)) (y:=(j:Int)) (a5:=q) hdt hat (bound k j (by omega)<|by omega) (Af _) (by omega) hg;refine⟨[some bed,some (.ref d),some (.ref st.length),some (.int (k:Int)),some (.int (j:Int)),q],s,_,s',rfl,e',⟨_,_,rfl⟩,?_,hdt'.trans hdt,hg'⟩;rw[hat',zoe]
         by_cases ho:okE P (k:Int) (j:Int)=true
         . rw[if_pos ho,if_pos ho,An]
         rw[if_neg ho,if_neg ho])
     obtain⟨U',s',el,⟨v',q',rfl⟩,hat',hdt',hg'⟩:=key2;rw[zbH] at hat';refine⟨[some bed,some (.ref d),some (.ref st.length),some (.int (k:Int)),v,q],s,[some bed,some (.ref d),some (.ref st.length),some (.int (k:Int)),v',q'],s',rfl,?_,⟨_,_,_,rfl⟩,by rw[zkF];exact hat',hdt',hg'⟩;have sm:small h=true:=zch (by omega) (by omega);have hfl:=c.fl s;have i1':ixA (.tup [.int w,.int h]) (.int 1) s=some (.int h,s):=zaN (by decide) rfl;unfold zbF;have:mR1 (mBin ixA (mBin ixA (mVar 0)<|mCon<|.int 1)<|mCon<|.int 1) [some bed,some (.ref d),some (.ref st.length),some (.int (k:Int)),v,q] s=some (⟨run 0 h.toNat,[]⟩,s):=by generalize (k:Int)=kk;simp[hfl,i1',sm]
     rw[zcw,this];exact el)
 obtain⟨U',s',el,⟨u,v,q,rfl⟩,hat,hdt,hg⟩:=key;rw[zbH] at hat;refine⟨s',zbX ?_,hat,hg⟩;have sm:small w=true:=zch (by omega) (by omega);have hfl:=c.fl (st++[.lst []]);have j0:ixA (.tup [.int w,.int h]) (.int 0) (st++[.lst []])=some (.int w,st++[.lst []]):=zaN (by decide) rfl;unfold zdh;refine zam (U1:=[some bed,some (.ref d),some (.ref st.length),none,none,none]) (s1:=st++[.lst []]) (by simp) ?_;refine zam (U1:=[some bed,some (.ref d),some (.ref st.length),u,v,q]) (s1:=s') (by
   have:mR1 (mBin ixA (mBin ixA (mVar 0)<|mCon<|.int 1)<|mCon<|.int 0) [some bed,some (.ref d),some (.ref st.length),none,none,none] (st++[.lst []])=some (⟨run 0 w.toNat,[]⟩,st++[.lst []]):=by simp[hfl,j0,sm]
   rw[zcw,this];exact el) ?_
 simp
open L2.MP.Hn (za3 zaF srtT za9)
def zoZ{k:Nat}(h:(sds ks (k:Int)).length=4):((alike (sds ks (k:Int))<|names4 ks P x y).map fun i=>sv stk ((sds ks (k:Int)).getD i "")).sum=sth stk ks P x y k:=by unfold sth;rw[zja h rfl]
variable {hs pl:D}{K E:Int}
def znU{R:Int}{v:D}(e1:zb9 [bed,.ref d,pl,.int K] s=some (.int R,s1))(i0:ixA bed (.int 0) s1=some (hs,s1))(ie:ixA hs (.int 0) s1=some (.int E,s1))(hR:E<=R)(hl:s1[l]?=some (.lst L))(ea:addD pl (.tup [.int K]) s1=some (v,s1))(eap:zbM (.ref l) [v] s1=some (.non,s1.set l (.lst<|L++[v]))) :
   zbb [some bed,some (.ref d),some (.ref l),some pl,some (.int K)] s=some (.nx [some bed,some (.ref d),some (.ref l),some pl,some (.int K)],s1.set l (.lst<|L++[v])):=by
 unfold zbb;simp[e1,i0,ie,hR,zbi,hl,ea,eap]
def zlT{R:Int}(e1:zb9 [bed,.ref d,pl,.int K] s=some (.int R,s1))(i0:ixA bed (.int 0) s1=some (hs,s1))(ie:ixA hs (.int 0) s1=some (.int E,s1))(hR:¬ E<=R) :
   zbb [some bed,some (.ref d),some (.ref l),some pl,some (.int K)] s=some (.nx [some bed,some (.ref d),some (.ref l),some pl,some (.int K)],s1):=by
 unfold zbb;simp[e1,i0,ie,hR]
def zdu{P:List Tl}{p:Int×Int}{a4:Option D}{L:List Tl}(c:Ctx bed e stk ks w h)(hP:∀ t∈P,0<=t.2.2/\t.2.2 < (ks.length:Int))(hd:s[d]?=some (.dt<|P.map kvOf))(hl:s[l]?=some (.lst<|L.map tD))(hL:L.length<=9000)(h0:st0.length<=l)(hdl:d≠l)(g0:Gr st0 s) :
   ∃ (b4:Option D) (s':Sto),Y3 (zbz [some bed,some (.ref d),some (.ref l),some (plD p),a4] s=some (.nx [some bed,some (.ref d),some (.ref l),some (plD p),b4],s')) (s'[l]?=some (.lst<|(L++gK e stk ks P p.1 p.2 ks.length).map tD)) (Fr l s s'):=by
 obtain⟨hs,i0,ie,i1,i2⟩:=c.at_;have k13:=c.hs.hi;have key:=zbm (W:=⟨run 0 ks.length,[]⟩) (g:=gNm 4) (m:=zbb) (ds:=run 0 ks.length) (U:=[some bed,some (.ref d),some (.ref l),some (plD p),a4]) (st:=s)
   (Inv:=fun k U s'=>Y3 ((∃ a,U=[some bed,some (.ref d),some (.ref l),some (plD p),a])) (s'[l]?=some (.lst<|(L++gK e stk ks P p.1 p.2 k).map tD)) (Fr l s s'))
   ⟨⟨_,rfl⟩,by simpa[gK] using hl,Fr.refl _ _⟩ (fun _ _ _ _ _=>rfl) (fun k dd U s' hdd hI=>by
     obtain⟨⟨u,rfl⟩,hat,hf⟩:=hI;obtain⟨hk,rfl⟩:=zds hdd;have k1:((k:Nat):Int) < (ks.length:Int):=by omega
     obtain⟨f,b0,b1,b2,b3,ek,es,hok⟩:=zdb c.ks (k:=(k:Int)) (by omega) k1;have hd':=(hf.old _ (getElem?_lt hd) hdl).trans hd;obtain⟨s2,e2,g2⟩:=zjR (x:=p.1) (y:=p.2) c.bed c.ks c.stk (by have:=c.hs.sl;omega) hP (by omega) k1 hd';rw[zoZ (by rw[es];rfl)] at e2;have hat2:=(g2.old _<|getElem?_lt hat).trans hat;have hlen:=zmi e stk ks P p.1 p.2 k
     by_cases hR:e<=sth stk ks P p.1 p.2 k
     . have ea:addD (.tup [.int p.1,.int p.2]) (.tup [.int (k:Int)]) s2=some (tD (p.1,p.2,(k:Int)),s2):=ziU (by simp) (by simp);have eap:=append_at (x:=tD (p.1,p.2,(k:Int))) hat2 (by rw[Ag,AZ];omega);refine⟨_,s',_,_,rfl,znU e2 (i0 _) (ie _) hR hat2 ea eap,⟨_,rfl⟩,?_,(hf.trans<|g2.fr l).trans<|Fe _ _ _⟩;rw[AY (getElem?_lt hat2),zkE,if_pos hR];simp
     refine⟨_,s',_,_,rfl,zlT e2 (i0 _) (ie _) hR,⟨_,rfl⟩,?_,hf.trans<|g2.fr l⟩;rw[zkE,if_neg hR];exact hat2)
 obtain⟨U',s',el,⟨u,rfl⟩,hat,hf⟩:=key;rw[zbH] at hat;refine⟨u,s',?_,hat,hf⟩;have el':lenD [.tup (ks.map zbr)] s=some (.int (ks.length:Int),s):=by rw[zda,Ag]
 have hr:mR1 (zas lenD<|zac (mBin ixA (mBin ixA (mVar 0)<|mCon<|.int 0)<|mCon<|.int 2)<|mNil) [some bed,some (.ref d),some (.ref l),some (plD p),a4] s=some (⟨run 0 ks.length,[]⟩,s):=by refine zhJ (k:=ks.length) ?_ (by omega);generalize (ks.length:Int)=K at *;simp[i0,i2,el']
 unfold zbz;rw[zcw,hr];exact el
def zpS{P:List Tl}(c:Ctx bed e stk ks w h)(hP:∀ t∈P,0<=t.2.2/\t.2.2 < (ks.length:Int))(hd:st[d]?=some (.dt<|P.map kvOf)) :
   ∃ st',Y3 (zbO [bed,.ref d] st=some (.ref st.length,st')) (st'[st.length]?=some (.lst<|(mays e stk ks P<|eF P h w.toNat).map tD)) (Gr st st'):=by
 have f1:=c.fo.w0;have f2:=c.fo.w1;have f3:=c.fo.h0;have f4:=c.fo.h1;have k13:=c.hs.hi;have hdl:=getElem?_lt hd;have hd1:(st++[O.lst []])[d]?=some (.dt<|P.map kvOf):=by rw[Ap hdl];exact hd
 have a1:=zau st<|.lst [];have g1:=Gr.app st [.lst []];have l1:(st++[O.lst []]).length=st.length+1:=by simp
 generalize hs1:st++[O.lst []]=s1 at *;obtain⟨s2,e2,a2,g2⟩:=zeM c hd1;have a12:=(g2.old _<|getElem?_lt a1).trans a1;have hd2:=(g2.old _<|getElem?_lt hd1).trans hd1;have hlen:=zj0 P h w.toNat;have h144:(eF P h w.toNat).length<=144:=AC hlen<|D3 (show w.toNat<=12 by omega) (show h.toNat<=12 by omega);generalize eF P h w.toNat=ps at *;have bound:∀ i:Nat,(mays e stk ks P<|ps.take i).length<=9000:=fun i=>by
   have:∀ qs:List (Int×Int),(mays e stk ks P qs).length<=qs.length*13:=by
     intro qs
     induction qs with
     | nil=>simp[mays]
     | cons q qs ih =>
       have h1:=zmi e stk ks P q.1 q.2 ks.length;have h2:(mays e stk ks P (q::qs)).length=(gK e stk ks P q.1 q.2 ks.length).length+(mays e stk ks P qs).length:=by simp[mays]
       rw[h2,AB,EI];omega
   have h1:=this<|ps.take i;have h2:(ps.take i).length<=144:=by rw[Bb];omega
   omega
 have key:=zbm (W:=⟨ps.map plD,[(s1.length,ps.map plD)]⟩) (g:=gNm 3) (m:=zbz) (ds:=ps.map plD) (U:=[some bed,some (.ref d),some (.ref st.length),none,none]) (st:=s2)
   (Inv:=fun i U s=>Y3 ((∃ a b,U=[some bed,some (.ref d),some (.ref st.length),a,b])) (s[st.length]?=some (.lst<|(mays e stk ks P<|ps.take i).map tD)) (Fr st.length s2 s))
   ⟨⟨_,_,rfl⟩,a12,Fr.refl _ _⟩ (fun i U s _ hI=>zbG ((hI.h3.old _ (getElem?_lt a2)<|by omega).trans a2)) (fun i dd U s hdd hI=>by obtain⟨⟨u,v,rfl⟩,hat,hf⟩:=hI;rw[Av] at hdd;obtain⟨p,hp,rfl⟩:=zaj hdd;obtain⟨b4,s',e',hat',hf'⟩:=zdu (st0:=[]) (p:=p) (a4:=v) c hP ((hf.old _ (getElem?_lt hd2)<|by omega).trans hd2) hat (bound i) (A3 _) (by omega) ⟨A3 _,fun j hj=>absurd hj (EZ _)⟩;refine⟨_,s,_,s',rfl,e',⟨_,_,rfl⟩,?_,hf.trans hf'⟩;rw[hat',BM,hp,zlW];simp[mays])
 obtain⟨U',s',el,⟨u,v,rfl⟩,hat,hf⟩:=key;rw[Ag,Bz] at hat;refine⟨s',zbX ?_,hat,?_⟩
 . generalize ps.map plD=PS at *;unfold zee;refine zam (U1:=[some bed,some (.ref d),some (.ref st.length),none,none]) (s1:=s1) (by simp[hs1]) ?_;refine zam (U1:=[some bed,some (.ref d),some (.ref st.length),u,v]) (s1:=s') (by
     have ew:mWA (zas zbA<|zac (mVar 0)<|zac (mVar 1)<|mNil) [some bed,some (.ref d),some (.ref st.length),none,none] s1=some (⟨PS,[(s1.length,PS)]⟩,s2):=by simp[e2,zft,zbi,a2]
     rw[zcw,ew];exact el) ?_
   simp
 have g:=g1.trans g2;exact⟨AC g.len hf.len,fun j hj=>(hf.old j (Az hj g.len)<|by omega).trans (g.old j hj)⟩
def zfr{lo hi:Int}(h1:lo<=x)(h2:x<=hi):zbP [.int x,.int lo,.int hi] st=some (.bl true,st):=by
 refine zbX ?_;have t1:tyName st (.int x)=some "int":=rfl;have t2:subT "int" "int"=true:=by decide
 have t3:subT "int" "bool"=false:=by decide
 unfold zdM;simp[zdz,t1,t2,t3,h1,h2]
def zhn{ds:List D}{n:Nat}{N:Int}(h:ds.length=n)(hN:N=(n:Int)):zbQ [.tup ds,.int N] st=some (.bl true,st):=by
 have e:lenD [.tup ds] st=some (.int N,st):=by rw[zda,h,hN]
 refine zbX ?_;have t1:tyName st (.tup ds)=some "tuple":=rfl;have t2:subT "tuple" "tuple"=true:=by decide
 unfold zdN;simp[t1,t2,e,eq_int]
def zhP(c:Ctx bed e stk ks w h)(x0:0<=x)(x1:x < w)(y0:0<=y)(y1:y < h):zbu [bed,.tup [.int x,.int y]] st=some (.bl true,st):=by have e1:=zhn (ds:=[.int x,.int y]) (n:=2) (N:=2) (st:=st) rfl rfl;have e2:=zfr (x:=x) (lo:=0) (hi:=w - 1) (st:=st) x0 (by omega);have e3:=zfr (x:=y) (lo:=0) (hi:=h - 1) (st:=st) y0 (by omega);have i0:ixA (.tup [.int x,.int y]) (.int 0) st=some (.int x,st):=zaN (by decide) rfl;have i1:ixA (.tup [.int x,.int y]) (.int 1) st=some (.int y,st):=zaN (by decide) rfl;have j0:ixA (.tup [.int w,.int h]) (.int 0) st=some (.int w,st):=zaN (by decide) rfl;have j1:ixA (.tup [.int w,.int h]) (.int 1) st=some (.int h,st):=zaN (by decide) rfl;have cf:=c.fl;refine zbX ?_;unfold zdO;refine zam (U1:=[some bed,some (.tup [.int x,.int y]),some (.tup [.int w,.int h])]) (s1:=st) (by simp[cf]) ?_;simp[e1,e2,e3,i0,i1,j0,j1]
variable {t:Tl}
def zmQ(c:Ctx bed e stk ks w h)(ht:zdG w h ks.length t):zcM [bed,tD t] st=some (.bl true,st):=by
 obtain⟨hs,i0,_,_,i2⟩:=c.at_;obtain⟨x,y,k⟩:=t;obtain⟨x0,x1,y0,y1,k0,k1⟩:=ht;have e1:=zhn (ds:=[.int x,.int y,.int k]) (n:=3) (N:=3) (st:=st) rfl rfl;have e2:zbu [bed,.tup [.int x,.int y]] st=some (.bl true,st):=zhP c x0 x1 y0 y1;have el:lenD [.tup (ks.map zbr)] st=some (.int (ks.length:Int),st):=by rw[zda,Ag]
 have e3:=zfr (x:=k) (lo:=0) (hi:=(ks.length:Int) - 1) (st:=st) k0 (by have:k < (ks.length:Int):=k1;omega);have j2:ixA (.tup [.int x,.int y,.int k]) (.int 2) st=some (.int k,st):=zaN (by decide) rfl;have es:slB (.tup [.int x,.int y,.int k]) none (some 2) st=some (.tup [.int x,.int y],st):=rfl;show zcM [bed,.tup [.int x,.int y,.int k]] st=_;refine zbX ?_;unfold zeP;generalize (ks.length:Int)=K at *;generalize D.tup (ks.map zbr)=KK at *;refine zam (U1:=[some bed,some (.tup [.int x,.int y,.int k]),some KK]) (s1:=st) (by simp[i0,i2]) ?_;simp[e1,e2,el,e3,j2,es]
variable {sd:Nat}
def zoa{sl:D}{ln:Nat}{k R:Int}(hin:inA (.tup [.int x,.int y]) (.ref d) s=some (.bl false,s))(hp:zbu [bed,.tup [.int x,.int y]] s=some (.bl true,s))(e1:zbp [bed,.ref d,.tup [.int x,.int y]] s=some (.ref ln,s1))
   (e2:zbN [bed,.int k] s1=some (sl,s1)) (e3:zaX [.ref sd,sl,.ref ln] s1=some (.int R,s2)) (i0:ixA bed (.int 0) s2=some (hs,s2)) (ie:ixA hs (.int 0) s2=some (.int E,s2)) (hR:E<=R):zbv [bed,.ref sd,.ref d,.tup [.int x,.int y,.int k]] s=some (.bl true,s2):=by
 have j2:ixA (.tup [.int x,.int y,.int k]) (.int 2) s1=some (.int k,s1):=zaN (by decide) rfl;have es:slB (.tup [.int x,.int y,.int k]) none (some 2) s=some (.tup [.int x,.int y],s):=rfl;refine zbX ?_;unfold zdP;refine zam (U1:=[some bed,some (.ref sd),some (.ref d),some (.tup [.int x,.int y,.int k]),some (.tup [.int x,.int y]),none]) (s1:=s) (by simp[es]) ?_;refine zam (U1:=[some bed,some (.ref sd),some (.ref d),some (.tup [.int x,.int y,.int k]),some (.tup [.int x,.int y]),none]) (s1:=s) (by simp[hin,hp]) ?_;refine zam (U1:=[some bed,some (.ref sd),some (.ref d),some (.tup [.int x,.int y,.int k]),some (.tup [.int x,.int y]),some (.ref ln)]) (s1:=s1) (by simp[e1]) ?_;simp[j2,e2,e3,i0,ie,hR]
def May(e:Int)(stk:List (Str×Int))(ks:List (List Str))(w h:Int)(P:List Tl)(t:Tl):Prop:=zdG w h ks.length t/\fnd P t.1 t.2.1=none/\e<=sth stk ks P t.1 t.2.1 t.2.2.toNat
def zob{P:List Tl}{t:Tl}(c:Ctx bed e stk ks w h)(hP:∀ t∈P,0<=t.2.2/\t.2.2 < (ks.length:Int))(hd:st[d]?=some (.dt<|P.map kvOf))(hs:st[sd]?=some (.dk<|stD stk))(hm:May e stk ks w h P t) :
   ∃ st',zbv [bed,.ref sd,.ref d,tD t] st=some (.bl true,st')/\Gr st st':=by
 obtain⟨x,y,k⟩:=t;obtain⟨⟨x0,x1,y0,y1,k0,k1⟩,hf,hR⟩:=hm;have hf:fnd P x y=none:=hf;have hR:e<=sth stk ks P x y k.toNat:=hR;have k0:0<=k:=k0;have k1:k < (ks.length:Int):=k1;obtain⟨hh,i0,ie,_,i2⟩:=c.at_;obtain⟨f,b0,b1,b2,b3,ek,es,hok⟩:=zdb c.ks (k:=k) k0 k1;obtain⟨s1,e1,a1,g1⟩:=zjY (x:=x) (y:=y) c.bed c.ks hP hd;have hs1:=(g1.old _<|getElem?_lt hs).trans hs;have oN:∀ z∈names4 ks P x y,AU z=true:=fun z hz=>by
   have:NmOk z:=by
     simp only[names4,AN,AF,or_false] at hz
     rcases hz with rfl | rfl | rfl | rfl <;> exact nm_F c.ks hP _ _
   exact zkj this.ab
 obtain⟨s2,e2,g2⟩:=zgQ (S:=sds ks k) (N:=names4 ks P x y) c.stk (by rw[es];exact Af _) (by rw[es];exact fun z hz=>hok z hz) oN hs1 a1;have hin:inA (.tup [.int x,.int y]) (.ref d) st=some (.bl false,st):=by rw[zqc hd,zdX,hf];rfl
 have hR':e<=((togs (sds ks k)<|names4 ks P x y).map fun p=>sv stk p.1).sum:=by unfold sth at hR;rw[Ee k0] at hR;exact hR
 exact⟨s2,zoa hin (zhP c x0 x1 y0 y1) e1 (zdY c.bed c.ks k0 k1) e2 (i0 _) (ie _) hR',g1.trans g2⟩
def zlV(hf:FlOk w h)(ht:t∈mays e stk ks P (eF P h w.toNat)):May e stk ks w h P t:=by
 have f1:=hf.w0;have f3:=hf.h0;simp only[mays,eF,eC,gK,List.mem_flatten,Fw,Fh,Fn] at ht;obtain⟨l,⟨p,⟨m,⟨i,hi,rfl⟩,hp⟩,rfl⟩,ht⟩:=ht;simp only[Fw,Fh,Fn] at hp ht;obtain⟨j,⟨hj,hok⟩,rfl⟩:=hp;obtain⟨k,⟨hk,hs⟩,rfl⟩:=ht;have hn:fnd P (i:Int) (j:Int)=none:=by unfold okE at hok;rw[Al] at hok;simpa using hok.1
 refine⟨⟨?_,?_,?_,?_,?_,?_⟩,hn,by simpa using hs⟩
 . show (0:Int)<=(i:Int);omega
 . show (i:Int) < w;omega
 . show (0:Int)<=(j:Int);omega
 . show (j:Int) < h;omega
 . show (0:Int)<=(k:Int);omega
 show (k:Int) < (ks.length:Int);omega
def ziX(e:Int)(stk:List (Str×Int))(ks:List (List Str))(w h:Int):List Tl->List Tl->Prop
 | _,[]=>True
 | P,t::R=>May e stk ks w h P t/\ziX e stk ks w h (P++[t]) R
def zhF:∀ {R P:List Tl} {t:Tl},ziX e stk ks w h P R->May e stk ks w h (P++R) t->ziX e stk ks w h P (R++[t])
 | [],P,t,_,hm=>⟨by simpa using hm,trivial⟩
 | u::R,P,t,hr,hm=>⟨hr.1,zhF hr.2<|by simpa using hm⟩
def zcF:∀ {R P:List Tl},ziX e stk ks w h P R->∀ t∈R,zdG w h ks.length t
 | u::R,P,hr,t,ht=>by
   rcases List.mem_cons.mp ht with rfl | ht
   . exact hr.1.1
   exact zcF hr.2 t ht
def znk:∀ {R P:List Tl} {i:Nat} {t:Tl},ziX e stk ks w h P R->R[i]?=some t->May e stk ks w h (P++R.take i) t
 | u::R,P,0,t,hr,ht=>by simp at ht;subst ht;simpa using hr.1
 | u::R,P,i+1,t,hr,ht=>by have:=znk hr.2 (i:=i) (t:=t) (by simpa using ht);simpa using this
def zit{P:List Tl}:fnd P x y=none ↔ ∀ t∈P,¬ (t.1=x/\t.2.1=y):=by unfold fnd;simp
def zfF(hn:fnd P t.1 t.2.1=none):putT P t=P++[t]:=by have h1:=zit.mp hn;unfold putT;rw[if_neg];intro z;obtain⟨u,hu,z⟩:=List.any_eq_true.mp z;unfold zbh at z;rw[Al] at z;exact h1 u hu ⟨of_decide_eq_true z.1,of_decide_eq_true z.2⟩
def znT(nd:PlNd (P++[t])):fnd P t.1 t.2.1=none:=by refine zit.mpr fun u hu z=>?_;have:=(List.pairwise_append.mp nd).2.2 u hu t (by simp);unfold zbh at this;simp[z.1,z.2] at this
def zir:∀ {ts acc:List Tl},PlNd (acc++ts)->ts.foldl putT acc=acc++ts
 | [],acc,_=>by simp
 | t::ts,acc,nd=>by
   have nd':PlNd ((acc++[t])++ts):=by simpa using nd
   have n1:PlNd (acc++[t]):=(List.pairwise_append.mp nd').1;rw[DI,zfF (znT n1),zir nd'];simp
def zkI{ts:List Tl}(nd:PlNd ts):byPl ts=ts:=by have:=zir (ts:=ts) (acc:=[]) (by simpa using nd);simpa[byPl] using this
def znS{a b:List Tl}(h:a.Perm b)(nd:PlNd b):PlNd a:=by
 refine (List.Perm.pairwise_iff (fun {x y} z=>?_) h).mpr nd;unfold zbh at *;rw[Bool.and_eq_false_iff] at *
 rcases z with z | z
 . exact .inl<|by simpa using fun q=>(of_decide_eq_false z) q.symm
 exact .inr<|by simpa using fun q=>(of_decide_eq_false z) q.symm
end L2.MP.stickytiles_k14_rows_of_anything
namespace L2.MP.stickytiles_k14_rows_of_anything
open PySem L2.MP L2.MP.Hd
open L2.MP.Hn (za3 zaF srtT za9 zbS)
theorem zk0(ts:List Tl):za3 ts=.tup (ts.map tD):=rfl
variable {ts:List Tl}
def zjf(h:ts.length < 2):srtT ts=ts:=by
 have hp:=za9 ts
 match ts,h,hp with
 | [],_,hp=>exact hp.eq_nil
 | [t],_,hp=>exact List.perm_singleton.mp hp
variable {st:Sto}
def zgX(h64:ts.length < 64):zf9 [.tup (ts.map tD)] st=some (.ref st.length,st++[.lst ((srtT ts).map tD)]):=by
 have e0:zbZ [.tup (ts.map tD)] st=none:=rfl;unfold zf9 orN;rw[e0,zeu];unfold zek;dsimp only
 by_cases h:ts.length < 2
 . rw[if_pos (by simpa using h),zjf h]
 . rw[if_neg (by simp;omega)];have er:rowsOf (ts.map tD)=some (ts.map rowT):=by
     have:ts.map tD=(ts.map rowT).map tupD:=by rw[A6];rfl
     rw[this];exact zdt fun r hr=>by obtain⟨t,_,rfl⟩:=List.mem_map.mp hr;simp[rowT]
   rw[er];simp only[Ae];rw[if_pos (by simp;omega),<-zbS,A6];rfl
def ziW{a b:List Tl}(h:a.length+b.length<=1000):addE (.tup<|a.map tD) (.tup<|b.map tD) st=some (.tup ((a++b).map tD),st):=by
 unfold addE orG
 cases a with
 | nil =>
   have e0:addD (.tup<|([]:List Tl).map tD) (.tup<|b.map tD) st=none:=rfl;rw[e0,zeu];unfold zoA;have:fits b.length=true:=zar (by simp at h;omega);simp[this]
 | cons t a =>
   rw[ziU (by simp) (by simp at h ⊢;omega),zdQ,Bn]
variable {bed:D}{d:Nat}{x y k:Int}{s s1 s2:Sto}
def zmg{row:D}{sd:Nat}{a:Option D}(e1:zbv [bed,.ref sd,.ref d,.tup [.int x,.int y,.int k]] s=some (.bl true,s1))(ed:dput s1 d (.tup [.int x,.int y]) (.int k)=some s2) :
   zdo [some bed,some row,some (.ref sd),some (.ref d),a,some (.tup [.int x,.int y,.int k])] s=some (.nx [some bed,some row,some (.ref sd),some (.ref d),a,some (.tup [.int x,.int y,.int k])],s2):=by
 have es:slB (.tup [.int x,.int y,.int k]) none (some 2) s1=some (.tup [.int x,.int y],s1):=rfl;have j2:ixA (.tup [.int x,.int y,.int k]) (.int 2) s1=some (.int k,s1):=zaN (by decide) rfl;unfold zdo;refine zam (U1:=[some bed,some row,some (.ref sd),some (.ref d),a,some (.tup [.int x,.int y,.int k])]) (s1:=s1) (by simp[e1]) ?_;rw[zkg];have c1:mAsg (mBin ixA (mVar 5)<|mCon<|.int 2) (gSb setD (mVar 3)<|mSlB (mVar 5) zeF<|zeE<|mCon<|.int 2) [some bed,some row,some (.ref sd),some (.ref d),a,some (.tup [.int x,.int y,.int k])] s1=none:=by simp[es,j2,setD]
 rw[c1,zeu];unfold zl1;simp[es,j2,ed]
structure GInv(P:List Tl)(sd d:Nat)(stk:List (Str×Int))(st0 s:Sto):Prop where
 at_:s[d]?=some (.dt (P.map kvOf))
 st_:s[sd]?=some (.dk (stD stk))
 fr:Gr st0 s
variable {sd:List Tl}{e w h:Int}{stk:List (Str×Int)}{ks:List (List Str)}
def zmh{sd R:List Tl}(c:Ctx (bedD e stk ks w h sd) e stk ks w h)(hsd:∀ t∈sd,zdG w h ks.length t)(nd:PlNd sd)(hl:sd.length<=6)(hr:ziX e stk ks w h sd R)(hR:R.length<=10) :
   ∃ st',ziZ [bedD e stk ks w h sd,.tup (R.map tD)] st=some (za3 (srtT<|sd++R),st')/\Gr st st':=by
 obtain⟨hs,i0,ie,i1,i2⟩:=c.at_;have ed0:=zkG (stk:=stk) (st:=st) (by have:=c.hs.sl;omega);obtain⟨s1,e1,a1,g1⟩:=zp6 (ts:=sd) (st:=st++[.dk (stD stk)]) (by omega);rw[zkI nd] at a1;have b1:s1[st.length]?=some (.dk<|stD stk):=(g1.old _<|by simp).trans<|zau st _;have l1:(st++[O.dk (stD stk)]).length=st.length+1:=by simp
 have gA:=(Gr.app st [.dk (stD stk)]).trans g1;have hK:=hsd;have key:=zbm (W:=⟨pairs<|R.map tD,[]⟩) (g:=gTp 2 (gC (gNm 4)<|gC (gNm 5)<|gN0)) (m:=zdo) (ds:=pairs (R.map tD)) (U:=[some (bedD e stk ks w h sd),some (.tup<|R.map tD),some (.ref st.length),some (.ref<|st.length+1),none,none]) (st:=s1)
   (Inv:=fun k U s=>(∃ a b,U=[some (bedD e stk ks w h sd),some (.tup<|R.map tD),some (.ref st.length),some (.ref<|st.length+1),a,b])/\GInv (sd++R.take k) st.length (st.length+1) stk st s)
   ⟨⟨_,_,rfl⟩,by simpa[l1] using a1,b1,gA⟩ (fun _ _ _ _ _=>rfl) (fun k dd U s hdd hI=>by
     obtain⟨⟨a,b,rfl⟩,q⟩:=hI;obtain⟨z,hz,rfl⟩:=zgi hdd;rw[Av] at hz;obtain⟨⟨x,y,kk⟩,ht,rfl⟩:=zaj hz;have hm:=znk hr ht;have hP:∀ t∈sd++R.take k,0<=t.2.2/\t.2.2 < (ks.length:Int):=fun t hh=>by
       rcases List.mem_append.mp hh with hh | hh
       . exact⟨(hsd t hh).2.2.2.2.1,(hsd t hh).2.2.2.2.2⟩
       have:=zcF hr t<|B8 hh;exact⟨this.2.2.2.2.1,this.2.2.2.2.2⟩
     obtain⟨s2,e2,g2⟩:=zob c hP q.at_ q.st_ hm;have at2:=(g2.old _<|getElem?_lt q.at_).trans q.at_;have ed:=zgB (x:=x) (y:=y) (k:=kk) at2 (by simp;omega);have hput:putT (sd++R.take k) (x,y,kk)=sd++R.take (k+1):=by rw[zfF hm.2.1,An,BM,ht];rfl
     rw[hput] at ed;refine⟨_,s,_,_,rfl,zmg e2 ed,⟨_,_,rfl⟩,by simp[getElem?_lt at2],?_,?_⟩
     . rw[AA (by omega)];exact (g2.old _<|getElem?_lt q.st_).trans q.st_
     have gg:=q.fr.trans g2;exact⟨by have:=gg.len;simpa using this,fun j hj=>by rw[AA (by omega)];exact gg.old j hj⟩)
 obtain⟨U',s2,e2,⟨a,b,rfl⟩,q⟩:=key;have ea:=ziW (a:=sd) (b:=R) (st:=s2) (by omega);have es:=zgX (ts:=sd++R) (st:=s2) (by simp;omega);have et:=zcg<|zau s2<|.lst<|(srtT<|sd++R).map tD;have x2:∀ s:Sto,ixA (bedD e stk ks w h sd) (.int 2) s=some (.tup (sd.map tD),s):=fun s=>zaN (by decide) rfl;refine⟨s2++[.lst ((srtT<|sd++R).map tD)],zbX ?_,q.fr.trans<|Gr.app _ _⟩;rw[l1] at e1;have e1:zbf [.tup (sd.map tD)] (st++[O.dk (stD stk)])=some (.ref (st.length+1),s1):=e1;unfold zkN;rw[zk0];generalize bedD e stk ks w h sd=bed at *;generalize (srtT<|sd++R).map tD=B at *;generalize (sd++R).map tD=C at *;have hen:zl0 (mVar 1) [some bed,some (.tup<|R.map tD),some (.ref st.length),some (.ref<|st.length+1),none,none] s1=some (⟨pairs<|R.map tD,[]⟩,s1):=ziw rfl;generalize hRR:R.map tD=RR at *;refine zam (U1:=[some bed,some (.tup RR),some (.ref st.length),none,none,none]) (s1:=st++[O.dk (stD stk)]) (by simp[i0,i1,ed0]) ?_;refine zam (U1:=[some bed,some (.tup RR),some (.ref st.length),some (.ref<|st.length+1),none,none]) (s1:=s1) (by simp[x2,e1]) ?_;refine zam (U1:=[some bed,some (.tup RR),some (.ref st.length),some (.ref<|st.length+1),a,b]) (s1:=s2) (by rw[zcw,hen];exact e2) ?_;generalize s2++[O.lst B]=s5 at *;simp[x2,ea,es,et]
def tP(t:Tl):PyData:=.tuple [.int t.1,.int t.2.1,.int t.2.2]
variable {n:Nat}
def zeS{n:Nat}{st:Sto}:∀ ts:List Tl,toPs (toP (n+2) st) (ts.map tD)=some (ts.map tP)
 | []=>rfl
 | t::ts=>by
   have e:toP (n+2) st (tD t)=some (tP t):=by obtain⟨x,y,k⟩:=t;show toP (n+2) st (.tup [.int x,.int y,.int k])=_;rw[toP];simp only[toPs,toP,Ae,A1];rfl
   rw[Aw,toPs,e,Ae,zeS ts];rfl
variable {l m:Nat}
def zlQ(hl:st[l]?=some (.lst<|ts.map tD))(hm:st[m]?=some (.lst [])):neD (.ref l) (.ref m) st=some (.bl !ts.isEmpty,st):=by
 have e:toP 100 st (.ref l)=some (.list<|ts.map tP):=by rw[toP];simp only[zbi,hl,Ae];rw[zeS];rfl
 unfold neD;rw[e,zdp (n:=98) (as:=[]) hm]
 cases ts <;> rfl
variable {t2:D}{q:Nat}{a5 a6 a7:Option D}
def zkP(e1:zbO [bed,.ref d] s=some (.ref q,s1))(hs2:s1++[.lst []]=s2)(en:neD (.ref q) (.ref s1.length) s2=some (.bl false,s2)) :
   zaO [some (.ref n),some bed,some t2,some (.ref d),some (.ref l),a5,a6,a7] s=some (.nx [some (.ref n),some bed,some t2,some (.ref d),some (.ref l),a5,some (.ref q),a7],s2):=by
 unfold zaO;refine zam (U1:=[some (.ref n),some bed,some t2,some (.ref d),some (.ref l),a5,some (.ref q),a7]) (s1:=s1) (by simp[e1]) ?_;rw[zmI];simp[hs2,en]
def zmK{N r:Int}{L:List D}{s3 s4 s5:Sto}(e1:zbO [bed,.ref d] s=some (.ref q,s1))(hs2:s1++[.lst []]=s2)(en:neD (.ref q) (.ref s1.length) s2=some (.bl true,s2))(el:lenD [.ref q] s2=some (.int N,s2))(ed:zad [.ref n,.int N] s2=some (.int r,s3))
   (ix:ixA (.ref q) (.int r) s3=some (.tup [.int x,.int y,.int k],s3)) (dp:dput s3 d (.tup [.int x,.int y]) (.int k)=some s4) (hl:s4[l]?=some (.lst L)) (ap:zbM (.ref l) [.tup [.int x,.int y,.int k]] s4=some (.non,s5)) :
   zaO [some (.ref n),some bed,some t2,some (.ref d),some (.ref l),a5,a6,a7] s=some (.nx [some (.ref n),some bed,some t2,some (.ref d),some (.ref l),a5,some (.ref q),some (.tup [.int x,.int y,.int k])],s5):=by
 have es:slB (.tup [.int x,.int y,.int k]) none (some 2) s3=some (.tup [.int x,.int y],s3):=rfl;have j2:ixA (.tup [.int x,.int y,.int k]) (.int 2) s3=some (.int k,s3):=zaN (by decide) rfl;unfold zaO;refine zam (U1:=[some (.ref n),some bed,some t2,some (.ref d),some (.ref l),a5,some (.ref q),a7]) (s1:=s1) (by simp[e1]) ?_;rw[zmI];have c0:mTst (mBin neD (mVar 6)<|mLst<|mNil) [some (.ref n),some bed,some t2,some (.ref d),some (.ref l),a5,some (.ref q),a7] s1=some (true,s2):=by simp[hs2,en]
 rw[c0,Ae];show mSeq _ _ _ s2=_;refine zam (U1:=[some (.ref n),some bed,some t2,some (.ref d),some (.ref l),a5,some (.ref q),some (.tup [.int x,.int y,.int k])]) (s1:=s3) (by simp[el,ed,ix]) ?_;refine zam (U1:=[some (.ref n),some bed,some t2,some (.ref d),some (.ref l),a5,some (.ref q),some (.tup [.int x,.int y,.int k])]) (s1:=s4) ?_ (by simp[zbi,hl,ap]);rw[zkg];have c1:mAsg (mBin ixA (mVar 7)<|mCon<|.int 2) (gSb setD (mVar 3)<|mSlB (mVar 7) zeF<|zeE<|mCon<|.int 2) [some (.ref n),some bed,some t2,some (.ref d),some (.ref l),a5,some (.ref q),some (.tup [.int x,.int y,.int k])] s3=none:=by simp[es,j2,setD]
 rw[c1,zeu];unfold zl1;simp[es,j2,dp]
structure WInv(n d l m:Nat)(P R:List Tl)(st0 s:Sto):Prop where
 at_:s[d]?=some (.dt ((P++R).map kvOf))
 row:s[l]?=some (.lst (R.map tD))
 pot:PotD n m s
 fr:Fr n st0 s
def zi4{P R:List Tl}{st0:Sto}(c:Ctx bed e stk ks w h)(q:WInv n d l m P R st0 s)(hP:∀ t∈P,zdG w h ks.length t)(hr:ziX e stk ks w h P R)(hd:st0.length<=d)(hl:st0.length<=l)(hdl:d≠l)(hdn:d≠n)(hln:l≠n)(hlen:P.length+R.length<=100)(hm:m<=900000) :
   ∃ (R':List Tl) (b6 b7:Option D) (s':Sto),Y4 (zaO [some (.ref n),some bed,some t2,some (.ref d),some (.ref l),a5,a6,a7] s=some (.nx [some (.ref n),some bed,some t2,some (.ref d),some (.ref l),a5,b6,b7],s')) (WInv n d l (m+1) P R' st0 s') (ziX e stk ks w h P R') (R'.length<=R.length+1):=by
 have hK:∀ t∈P++R,0<=t.2.2/\t.2.2 < (ks.length:Int):=fun t hh=>by
   have:zdG w h ks.length t:=by
     rcases List.mem_append.mp hh with hh | hh
     . exact hP t hh
     exact zcF hr t hh
   exact⟨this.2.2.2.2.1,this.2.2.2.2.2⟩
 obtain⟨s1,e1,a1,g1⟩:=zpS c hK q.at_;have g2:Gr s (s1++[.lst []]):=g1.trans<|Gr.app _ _;have a2:(s1++[O.lst []])[s.length]?=some (.lst<|(mays e stk ks (P++R)<|eF (P++R) h w.toNat).map tD):=by rw[Ap (getElem?_lt a1)];exact a1
 have b2:=zau s1<|.lst [];have hmm:∀ t∈mays e stk ks (P++R) (eF (P++R) h w.toNat),May e stk ks w h (P++R) t:=fun t ht=>zlV c.fo ht;generalize hM:mays e stk ks (P++R) (eF (P++R) h w.toNat)=Mq at a1 a2 hmm;have en:=zlQ a2 b2;generalize hs2:s1++[O.lst []]=s2 at *;have at2:=(g2.old _<|getElem?_lt q.at_).trans q.at_;have row2:=(g2.old _<|getElem?_lt q.row).trans q.row;have pot2:=q.pot.gr g2;have fr2:=q.fr.trans<|g2.fr n
 cases hc:Mq with
 | nil =>
   rw[hc] at en;exact⟨R,_,_,s2,zkP e1 hs2 en,⟨at2,row2,pot2.up<|by omega,fr2⟩,hr,by omega⟩
 | cons u M' =>
   rw[hc] at en;have hML:0 < Mq.length:=by rw[hc];simp
   have hsz:Mq.length < 100000:=by
     have bound:∀ qs:List (Int×Int),(mays e stk ks (P++R) qs).length<=qs.length*13:=by
       intro qs;have k13:=c.hs.hi
       induction qs with
       | nil=>simp[mays]
       | cons z qs ih =>
         have h1:=zmi e stk ks (P++R) z.1 z.2 ks.length;have h2:(mays e stk ks (P++R) (z::qs)).length=(gK e stk ks (P++R) z.1 z.2 ks.length).length+(mays e stk ks (P++R) qs).length:=by simp[mays]
         rw[h2,AB,EI];omega
     have f2:=c.fo.w1;have f4:=c.fo.h1;have h144:(eF (P++R) h w.toNat).length<=144:=AC (zj0 (P++R) h w.toNat)<|D3 (show w.toNat<=12 by omega) (show h.toNat<=12 by omega);have:=bound<|eF (P++R) h w.toNat;rw[hM] at this;omega
   have el:lenD [.ref s.length] s2=some (.int (Mq.length:Int),s2):=by rw[zid a2,Ag]
   have sq:s.length≠n:=q.pot.ne;obtain⟨r,s3,e3,r0,r1,p3,f3⟩:=zaS (many:=(Mq.length:Int)) pot2 (by omega) (by omega) (by omega);have a3:=(f3.old _ (getElem?_lt a2) sq).trans a2;have hrn:r.toNat < Mq.length:=by omega
   have hxt:(Mq.map tD)[r.toNat]?=some (tD Mq[r.toNat]):=by rw[Av,Ah hrn];rfl
   have ix:=zbW a3 r0 hxt;have hmt:=hmm _<|AS hrn;generalize Mq[r.toNat]=t at ix hmt;obtain⟨x,y,k⟩:=t;have at3:=(f3.old _ (getElem?_lt at2) hdn).trans at2;have row3:=(f3.old _ (getElem?_lt row2) hln).trans row2;have dp:=zgB (x:=x) (y:=y) (k:=k) at3 (by simp;omega);rw[zfF hmt.2.1,An] at dp;have row4:(s3.set d<|.dt<|(P++(R++[(x,y,k)])).map kvOf)[l]?=some (.lst<|R.map tD):=by rw[AA hdl];exact row3
   have ap:=append_at (x:=tD (x,y,k)) row4 (by rw[Ag];omega);have dlt:=getElem?_lt at3;have llt:=getElem?_lt row3;have fr3:=fr2.trans f3;refine⟨R++[(x,y,k)],_,_,_,zmK e1 hs2 en el e3 ix dp row4 ap,⟨?_,?_,?_,?_⟩,zhF hr hmt,by simp⟩
   . rw[AA (Bo hdl),AY dlt]
   . rw[AY (by simpa using llt)];simp
   . exact (p3.set hdn).set hln
   exact⟨by have:=fr3.len;simpa using this,fun j hj nj=>by rw[AA (by omega),AA (by omega)];exact fr3.old j hj nj⟩
def zmL{sd:List Tl}(c:Ctx (bedD e stk ks w h sd) e stk ks w h)(hp:PotD n m st)(hm:m<=800000)(hsd:∀ t∈sd,zdG w h ks.length t)(nd:PlNd sd)(hl:sd.length<=6) :
   ∃ (R:List Tl) (st':Sto),Y5 (zcz [.ref n,bedD e stk ks w h sd,.int 6] st=some (.tup (R.map tD),st')) (ziX e stk ks w h sd R) (R.length<=6) (PotD n (m+6) st') (Fr n st st'):=by
 obtain⟨d,s1,e1,a1,hd,g1⟩:=zjM (ts:=sd) (st:=st) (by omega);rw[zkI nd] at a1;have hn:=hp.lt;have hdl:=getElem?_lt a1;have a2:(s1++[O.lst []])[d]?=some (.dt<|(sd++[]).map kvOf):=by rw[Ap hdl,Ao];exact a1
 have b2:(s1++[O.lst []])[s1.length]?=some (.lst<|([]:List Tl).map tD):=zau s1 _;have g2:Gr st (s1++[O.lst []]):=g1.trans<|Gr.app _ _;have hl1:=g1.len;have key:=zbm (W:=⟨run 0 6,[]⟩) (g:=gNm 5) (m:=zaO) (ds:=run 0 6) (U:=[some (.ref n),some (bedD e stk ks w h sd),some (.int 6),some (.ref d),some (.ref s1.length),none,none,none]) (st:=s1++[O.lst []])
   (Inv:=fun k U s=>(∃ a5 a6 a7,U=[some (.ref n),some (bedD e stk ks w h sd),some (.int 6),some (.ref d),some (.ref s1.length),a5,a6,a7])/\∃ R,WInv n d s1.length (m+k) sd R st s/\ziX e stk ks w h sd R/\R.length<=k)
   ⟨⟨_,_,_,rfl⟩,[],⟨a2,b2,hp.gr g2,g2.fr n⟩,trivial,Af _⟩ (fun _ _ _ _ _=>rfl) (fun k dd U s hdd hI=>by obtain⟨⟨a5,a6,a7,rfl⟩,R,q,hr,hR⟩:=hI;obtain⟨hk,rfl⟩:=zds hdd;obtain⟨R',b6,b7,s',e,q',hr',hR'⟩:=zi4 (t2:=.int 6) (a5:=some (.int (k:Int))) (a6:=a6) (a7:=a7) c q hsd hr hd hl1 (by omega) (by omega) (by omega) (by omega) (by omega);exact⟨_,s,_,s',rfl,e,⟨_,_,_,rfl⟩,R',q',hr',by omega⟩)
 obtain⟨U',s',el,⟨a5,a6,a7,rfl⟩,R,q,hr,hR⟩:=key;rw[zbH] at hR q;have et:=zcg q.row;have x2:∀ s:Sto,ixA (bedD e stk ks w h sd) (.int 2) s=some (za3 sd,s):=fun s=>zaN (by decide) rfl;refine⟨R,s',zbX ?_,hr,hR,q.pot,q.fr⟩;unfold zdI;generalize bedD e stk ks w h sd=bed at *;have hr1:mR1 (mVar 2) [some (.ref n),some bed,some (.int 6),some (.ref d),some (.ref s1.length),none,none,none] (s1++[O.lst []])=some (⟨run 0 6,[]⟩,s1++[O.lst []]):=zhJ (k:=6) rfl (by omega);refine zam (U1:=[some (.ref n),some bed,some (.int 6),some (.ref d),some (.ref s1.length),none,none,none]) (s1:=s1++[O.lst []]) (by simp[x2,e1]) ?_;refine zam (U1:=[some (.ref n),some bed,some (.int 6),some (.ref d),some (.ref s1.length),a5,a6,a7]) (s1:=s') (by rw[zcw,hr1];exact el) ?_;simp[et]
theorem zqs{m:ME}{ml mh:MO}{U:Rho}:mSlC m ml mh U st=(m U st).bind fun p=>(ml U p.2).bind fun q=>(mh U q.2).bind fun r=>slC p.1 q.1 r.1 r.2:=rfl
def zqm(hs:HsOk e stk ks)(hf:FlOk w h):Ctx (bedD e stk ks w h sd) e stk ks w h :=
 ⟨⟨zeL e stk ks,fun s=>zaN (by decide) rfl,fun s=>zaN (by decide) rfl,fun s=>zaN (by decide) rfl,fun s=>zaN (by decide) rfl⟩,fun s=>zaN (by decide) rfl,hs,hf⟩
variable {ds:List D}
def zm7{lo hi:Option Int}{i j:Nat}(h0:HT.sIx ds.length 0 lo=i)(h1:HT.sIx ds.length ds.length hi=j):slC (.tup ds) lo hi st=some (.tup ((ds.drop i).take<|j - i),st):=by
 have a1:slK (.tup ds) lo hi st=none:=rfl;have a2:slS (.tup ds) lo hi st=none:=rfl;unfold slC slB slA;rw[a1,a2]
 by_cases hw:(decide (i=0)&&decide (j=ds.length))=true
 . have e1:slD (.tup ds) lo hi st=none:=by
     unfold slD;dsimp only;rw[h0,h1,if_pos hw]
   rw[e1,zeu,zeu,zeu];unfold slW;dsimp only;rw[h0,h1,if_pos hw];rw[Al] at hw;rw[of_decide_eq_true hw.1,of_decide_eq_true hw.2];simp
 . have e1:slD (.tup ds) lo hi st=some (.tup ((ds.drop i).take<|j - i),st):=by
     unfold slD cutD;dsimp only;rw[h0,h1,if_neg hw]
   rw[e1,zdQ,zdQ,zdQ]
def zm6{a:Nat}(ha:a<=ds.length):slC (.tup ds) none (some (a:Int)) st=some (.tup (ds.take a),st):=by rw[zm7 (i:=0) (j:=a) rfl (by rw[HT.sIx_nat];omega)];simp
def ziN{α:Type}:∀ l:List α,zkc (l.map fun _=>D.bl true)=some (l.map fun _=>true)
 | []=>rfl
 | a::l=>by rw[Aw,zkc,ziN l];rfl
def zma{sd R:List Tl}(c:Ctx (bedD e stk ks w h sd) e stk ks w h)(hsd:∀ t∈sd,zdG w h ks.length t)(nd:PlNd sd)(hl:sd.length<=6)(hr:ziX e stk ks w h sd R)(hR:R.length<=10) :
   ∃ st',zc4 [bedD e stk ks w h sd,.tup (R.map tD)] st=some (.bl true,st')/\Gr st st':=by
 have ec:mCI ⟨R.map tD,[]⟩ (gNm 0) zbV zbR (R.map tD) [none,some (bedD e stk ks w h sd)] st=some (R.map fun _=>D.bl true,st):=by refine zg7 (R:=fun U=>∃ x,U=[x,some (bedD e stk ks w h sd)]) ⟨none,rfl⟩ rfl fun t ht U hU=>?_;obtain⟨x,rfl⟩:=hU;refine⟨[some (tD t),some (bedD e stk ks w h sd)],rfl,rfl,?_,⟨_,rfl⟩⟩;have:=zmQ (st:=st) c<|zcF hr t ht;unfold zbR;generalize bedD e stk ks w h sd=bed at *;simp[this]
 have fl:fits (R.map fun _=>D.bl true).length=true:=zar (by rw[Ag];omega);have ea:allC [.ref st.length] (st++[.lst (R.map fun _=>D.bl true)])=some (.bl true,st++[.lst (R.map fun _=>D.bl true)]):=by unfold allC;simp only[zbi,zau,Ae,ziN,A1];simp
 obtain⟨s2,e2,g2⟩:=zmh (st:=st++[.lst (R.map fun _=>D.bl true)]) c hsd nd hl hr hR;refine⟨s2,zbX ?_,(Gr.app _ _).trans g2⟩;have ty:tyName st (.tup<|R.map tD)=some "tuple":=rfl;have t2:subT "tuple" "tuple"=true:=by decide
 unfold zeQ;generalize bedD e stk ks w h sd=bed at *;generalize za3 (srtT<|sd++R)=S at *;have ecm:zcH (mWA<|mVar 1) 1 [0] (gNm 0) zbV zbR [some bed,some (.tup<|R.map tD)] st=some (.ref st.length,st++[.lst (R.map fun _=>D.bl true)]):=by
   have:mWA (mVar 1) [some bed,some (.tup<|R.map tD)] st=some (⟨R.map tD,[]⟩,st):=by simp[zft]
   rw[zaJ,this];simp only[Ae];rw[show rho0 [some bed,some (D.tup<|R.map tD)] 1 [0]=[none,some bed] from rfl,ec];simp only[Ae,fl,if_true]
 generalize st++[O.lst (R.map fun _=>D.bl true)]=s1 at *;generalize R.map tD=RR at *;refine zam (U1:=[some bed,some (.tup RR)]) (s1:=s1) (by simp[ty,t2,ecm,ea]) ?_;refine zam (U1:=[some bed,some (.tup RR)]) (s1:=s2) (by simp[e2]) ?_;simp
end L2.MP.stickytiles_k14_rows_of_anything
namespace L2.MP.stickytiles_k14_rows_of_anything
open PySem L2.MP L2.MP.Hd
open L2.MP.Ce (ifT notB orL orR ziS)
inductive Th (n:Nat) (st:Sto):D->Prop
 | non:Th n st .non
 | bl (b:Bool):Th n st (.bl b)
 | int (x:Int):Th n st (.int x)
 | str (z:Str):Th n st (.str z)
 | tup (ds:List D) (f:∀ d∈ds,Th n st d):Th n st (.tup ds)
 | lst (k:Nat) (xs:List D) (h:st[k]?=some (.lst xs)) (h1:k≠n):Th n st (.ref k)
 | dk (k:Nat) (xs:List (Key×D)) (h:st[k]?=some (.dk xs)) (h1:k≠n):Th n st (.ref k)
 | dz (k:Nat) (h:st[k]?=some .dz) (h1:k≠n):Th n st (.ref k)
variable {n:Nat}{st st':Sto}{d:D}
def Th.fr(F:Fr n st st')(h:Th n st d):Th n st' d:=by
 induction h with
 | non=>exact .non
 | bl b=>exact .bl b
 | int x=>exact .int x
 | str z=>exact .str z
 | tup ds f ih=>exact .tup ds ih
 | lst k xs h h1=>exact .lst k xs ((F.old k (getElem?_lt h) h1).trans h) h1
 | dk k xs h h1=>exact .dk k xs ((F.old k (getElem?_lt h) h1).trans h) h1
 | dz k h h1=>exact .dz k ((F.old k (getElem?_lt h) h1).trans h) h1
def Th.gr(g:Gr st st')(h:Th n st d):Th n st' d:=h.fr<|g.fr n
variable {ds:List D}
def Th.at{ds:List D}(h:Th n st (.tup ds)):∀ d∈ds,Th n st d:=by
 cases h with
 | tup ds f=>exact f
variable {k:Nat}
theorem zkQ:tyName st .non=some "NoneType":=rfl
theorem zoP{b:Bool}:tyName st (.bl b)=some "bool":=rfl
theorem ty_i{x:Int}:tyName st (.int x)=some "int":=rfl
theorem ty_s{z:Str}:tyName st (.str z)=some "str":=rfl
theorem ty_t:tyName st (.tup ds)=some "tuple":=rfl
def zkR{xs:List D}(h:st[k]?=some (.lst xs)):tyName st (.ref k)=some "list":=by unfold tyName;simp only[h]
def zoO{xs:List (Key×D)}(h:st[k]?=some (.dk xs)):tyName st (.ref k)=some "dict":=by unfold tyName;simp only[h]
def zoN(h:st[k]?=some .dz):tyName st (.ref k)=some "dict":=by unfold tyName;simp only[h]
def istB:D->Bool
 | .tup _=>true
 | _=>false
def whB(lo hi:Int):D->Bool
 | .int x=>decide (lo<=x)&&decide (x<=hi)
 | _=>false
def zrC{U:Rho}{i:Nat}(h:Th n st d)(hr:U[i]?=some (some d)):mIsi "tuple" (mVar i) U st=some (.bl (istB d),st):=by
 cases h with
 | non=>simp[hr,zkQ,subT,istB]
 | bl b=>simp[hr,zoP,subT,istB]
 | int x=>simp[hr,ty_i,subT,istB]
 | str z=>simp[hr,ty_s,subT,istB]
 | tup ds f=>simp[hr,ty_t,subT,istB]
 | lst k xs h h1=>simp[hr,zkR h,subT,istB]
 | dk k xs h h1=>simp[hr,zoO h,subT,istB]
 | dz k h h1=>simp[hr,zoN h,subT,istB]
def zfs{lo hi:Int}(h:Th n st d):zbP [d,.int lo,.int hi] st=some (.bl (whB lo hi d),st):=by
 refine zbX ?_;unfold zdM
 cases h with
 | non=>simp[zkQ,subT,whB]
 | bl b=>simp[zoP,subT,whB]
 | int x =>
   unfold whB
   by_cases h1:lo<=x
   . by_cases h2:x<=hi
     . simp[zdz,ty_i,subT,h1,h2]
     simp[zdz,ty_i,subT,h1,h2]
   simp[zdz,ty_i,subT,h1]
 | str z=>simp[ty_s,subT,whB]
 | tup ds f=>simp[ty_t,subT,whB]
 | lst k xs h h1=>simp[zkR h,subT,whB]
 | dk k xs h h1=>simp[zoO h,subT,whB]
 | dz k h h1=>simp[zoN h,subT,whB]
def tupB(N:Int):D->Bool
 | .tup ds=>(ds.length:Int)==N
 | _=>false
def zkV{N:Int}(h:Th n st d):zbQ [d,.int N] st=some (.bl (tupB N d),st):=by
 refine zbX ?_;unfold zdN
 cases h with
 | non=>simp[zkQ,subT,tupB]
 | bl b=>simp[zoP,subT,tupB]
 | int x=>simp[ty_i,subT,tupB]
 | str z=>simp[ty_s,subT,tupB]
 | tup ds f=>simp[ty_t,subT,tupB,zda,eq_int]
 | lst k xs h h1=>simp[zkR h,subT,tupB]
 | dk k xs h h1=>simp[zoO h,subT,tupB]
 | dz k h h1=>simp[zoN h,subT,tupB]
def zeR(w h n:Int):D->Bool
 | .tup [x,y,k]=>whB 0 (w - 1) x&&(whB 0 (h - 1) y&&whB 0 (n - 1) k)
 | _=>false
def tup3(h:tupB 3 d=true):∃ x y k,d=.tup [x,y,k]:=by
 cases d with
 | tup ds =>
   have:ds.length=3:=by have:=eq_of_beq h;omega
   match ds,this with
   | [x,y,k],_=>exact⟨x,y,k,rfl⟩
 | _=>simp[tupB] at h
variable {w h:Int}
def zmP{n:Int}(e:tupB 3 d=false):zeR w h n d=false:=by
 unfold zeR
 split
 . simp[tupB] at e
 rfl
variable {x y:D}
section
variable {B:D} {e:Int} {stk:List (Str×Int)} {ks:List (List Str)}
def zlw(c:Ctx B e stk ks w h)(hx:Th n st x)(hy:Th n st y):zbu [B,.tup [x,y]] st=some (.bl (whB 0 (w - 1) x&&whB 0 (h - 1) y),st):=by
 have et:zbQ [.tup [x,y],.int 2] st=some (.bl true,st):=rfl;have i1:=c.fl st;have j0:ixA (.tup [.int w,.int h]) (.int 0) st=some (.int w,st):=zaN (by decide) rfl;have j1:ixA (.tup [.int w,.int h]) (.int 1) st=some (.int h,st):=zaN (by decide) rfl;have x0:ixA (.tup [x,y]) (.int 0) st=some (x,st):=zaN (by decide) rfl;have x1:ixA (.tup [x,y]) (.int 1) st=some (y,st):=zaN (by decide) rfl;have w0:=zfs (lo:=0) (hi:=w - 1) hx;have w1:=zfs (lo:=0) (hi:=h - 1) hy;refine zbX ?_;unfold zdO;show mSeq _ _ [some B,some (.tup [x,y]),none] st=_;refine zam (U1:=[some B,some (.tup [x,y]),some (.tup [.int w,.int h])]) (s1:=st) (by simp[i1]) ?_;generalize D.tup [x,y]=P at *;generalize D.tup [.int w,.int h]=F at *
 cases hh:whB 0 (w - 1) x with
 | true=>rw[hh] at w0;simp[et,x0,j0,w0,x1,j1,w1]
 | false=>rw[hh] at w0;simp[et,x0,j0,w0]
def zmR(c:Ctx B e stk ks w h)(hd:Th n st d):zcM [B,d] st=some (.bl (zeR w h ks.length d),st):=by
 obtain⟨H,i0,_,_,i2⟩:=c.at_;have et:=zkV (N:=3) hd;have el:lenD [.tup (ks.map zbr)] st=some (.int (ks.length:Int),st):=by rw[zda,Ag]
 have j0:=i0 st;have j2:=i2 st;refine zbX ?_;unfold zeP;show mSeq _ _ [some B,some d,none] st=_;refine zam (U1:=[some B,some d,some (.tup<|ks.map zbr)]) (s1:=st) (by simp[j0,j2]) ?_
 cases h3:tupB 3 d with
 | false =>
   rw[h3] at et;rw[zmP h3];generalize D.tup (ks.map zbr)=KS at *;simp[et]
 | true =>
   rw[h3] at et;obtain⟨x,y,k,rfl⟩:=tup3 h3;have es:∀ U:Option D,mSlB (mVar 1) zeF (zeE<|mCon<|.int 2) [some B,some (.tup [x,y,k]),U] st=some (.tup [x,y],st):=fun U=>rfl;have ep:=zlw c (hd.at x<|by simp) (hd.at y<|by simp);have x2:ixA (.tup [x,y,k]) (.int 2) st=some (k,st):=zaN (by decide) rfl;have w1:=zfs (lo:=0) (hi:=(ks.length:Int) - 1) (hd.at k<|by simp);show _=some (Fl.rt (.bl<|whB 0 (w - 1) x&&(whB 0 (h - 1) y&&whB 0 ((ks.length:Int) - 1) k)),st);rw[<-Bool.and_assoc];generalize D.tup (ks.map zbr)=KS at *;generalize D.tup [x,y,k]=P at *;generalize D.tup [x,y]=P2 at *;generalize mSlB (mVar 1) zeF (zeE<|mCon<|.int 2)=M1 at *
   cases hh:(whB 0 (w - 1) x&&whB 0 (h - 1) y) with
   | true=>rw[hh] at ep;simp[et,es,ep,x2,el,w1]
   | false=>rw[hh] at ep;simp[et,es,ep]
def zoK(w h n:Int)(d:D):Prop:=∀ ds,d=.tup ds->ds.length<=100/\∃ x∈ds,zeR w h n x=false
def zij(c:Ctx B e stk ks w h)(hd:Th n st d)(hn:zoK w h ks.length d):∃ st',zc4 [B,d] st=some (.bl false,st')/\Gr st st':=by
 have ei:=zrC (U:=[some B,some d]) (i:=1) hd rfl
 cases hi:istB d with
 | false =>
   rw[hi] at ei;refine⟨st,zbX ?_,Gr.refl st⟩;unfold zeQ;refine zgZ<|ifT (s1:=st) (orL<|notB (b:=false) ei) rfl
 | true =>
   rw[hi] at ei;obtain⟨ds,rfl⟩:∃ ds,d=.tup ds:=by
     cases d with
     | tup ds=>exact⟨ds,rfl⟩
     | _=>simp[istB] at hi
   obtain⟨hl,x,hx,hb⟩:=hn ds rfl;obtain⟨s1,ea,g1⟩:=ziS (mi:=mWA (mVar 1)) (b:=zeR w h ks.length) (as:=ds) (fr:=[0]) (m:=zbR) (U0:=[some B]) (U:=[some B,some (.tup ds)]) (st:=st) (gd:=[]) rfl (fun _ _=>rfl) rfl (by omega) (fun a ha s gs=>by have et:=zmR (st:=s) c ((hd.at a ha).gr gs);refine⟨s,?_,Gr.refl s⟩;unfold zbR;simp[et])
   have hf:ds.all (zeR w h ks.length)=false:=by rw[List.all_eq_false];exact⟨x,hx,by simp[hb]⟩
   rw[hf] at ea;refine⟨s1,zbX ?_,g1⟩;unfold zeQ;exact zgZ<|ifT (s1:=s1) (orR (s1:=st) (notB (b:=true) ei)<|notB (b:=false) ea) rfl
def zpP{r:D×Sto}(h:neD x y st=some r):∃ b,r=(.bl b,st):=by
 unfold neD at h
 cases h1:toP 100 st x with
 | none=>rw[h1] at h;cases h
 | some p =>
   cases h2:toP 100 st y with
   | none=>rw[h1,h2] at h;cases h
   | some q =>
     rw[h1,h2] at h;cases h;exact⟨_,rfl⟩
def znR(h:Th n st d)(hs:∀ z,d=.str z->AU z=true):∃ b,neZ d (.tup []) st=some (.bl b,st):=by
 have two:∀ b,neU0 d (.tup []) st=some (.bl b,st)->∃ b,neZ d (.tup []) st=some (.bl b,st):=fun b hb=>by
   unfold neZ orG
   cases h1:neD d (.tup []) st with
   | none=>exact⟨b,by rw[zeu];exact hb⟩
   | some r =>
     obtain⟨b',rfl⟩:=zpP h1;exact⟨b',by rw[zdQ]⟩
 have one:∀ p,toP 100 st d=some p->∃ b,neZ d (.tup []) st=some (.bl b,st):=fun p hp=>by
   have e2:toP 100 st (.tup [])=some (.tuple []):=rfl;have:neD d (.tup []) st=some (.bl (!PyData.eqv p (.tuple [])),st):=by unfold neD;rw[hp,e2];rfl
   unfold neZ orG;rw[this,zdQ];exact⟨_,rfl⟩
 cases h with
 | non=>exact one _ rfl
 | bl b=>exact one _ rfl
 | int x=>exact one _ rfl
 | str z=>exact one (.str z) (by rw[toP];simp[hs z rfl])
 | tup ds f=>exact two (!ds.isEmpty) rfl
 | lst k xs h h1=>exact two true (by unfold neU0;simp only[h])
 | dk k xs h h1=>exact two true (by unfold neU0;simp only[h])
 | dz k h h1=>exact two true (by unfold neU0;simp only[h])
end
end L2.MP.stickytiles_k14_rows_of_anything
namespace L2.MP.stickytiles_k14_rows_of_anything
open PySem L2.MP L2.MP.Hd
def NT(d:D):Prop:=∀ w h N,zeR w h N d=false
def Wr(d:D):Prop:=(∃ x,d=.tup [x]/\NT x)\/∃ k,d=.ref k
variable {d:D}
def zqz(q:Wr d):NT d:=fun w h N=>by rcases q with ⟨x,rfl,_⟩ | ⟨k,rfl⟩ <;> rfl
structure Ns(n:Nat)(s:Sto)(d:D):Prop where
 th:Th n s d
 wr:Wr d
variable {n:Nat}
def Ns.fr{n:Nat}(s s':Sto)(d:D)(F:Fr n s s')(h:Ns n s d):Ns n s' d:=⟨h.th.fr F,h.wr⟩
variable {m:Nat}{s:Sto}
def zjD{a:Option D}(hp:PotD n m s)(hm:m<=800000)(hd:Th n s d)(nt:NT d) :
   ∃ (d':D) (s':Sto),zbe [some (.ref n),some d,a] s=some (.nx [some (.ref n),some d',a],s')/\PotD n (m+400) s'/\Fr n s s'/\Ns n s' d':=by
 have hes:∀ e∈([mTup (zac (mVar 1) mNil),mLst (zac (mVar 1) mNil),zdU (mCon (.str "a")) (mVar 1)]:List ME),∀ (s1:Sto) (m1:Nat),Fr n s s1->PotD n m1 s1->m1<=900000->∃ (x:D) (s':Sto),e [some (.ref n),some d,a] s1=some (x,s')/\PotD n (m1+100) s'/\Fr n s1 s'/\Ns n s' x:=by
   intro e he s1 m1 f p hm1;have hd1:=hd.fr f;have ne:=p.ne;simp only[AN,AF,or_false] at he
   rcases he with rfl | rfl | rfl
   . exact⟨.tup [d],s1,by simp,p.up (by omega),Fr.refl n s1,.tup _ (by simpa using hd1),.inl ⟨d,rfl,nt⟩⟩
   . exact⟨.ref s1.length,s1++[.lst [d]],by simp,(p.gr (Gr.app _ _)).up (by omega),Fr.app _ _ _,.lst _ _ (zau _ _) ne,.inr ⟨_,rfl⟩⟩
   refine⟨.ref s1.length,s1++[.dk [(.inr "a",d)]],?_,(p.gr (Gr.app _ _)).up (by omega),Fr.app _ _ _,.dk _ _ (zau _ _) ne,.inr ⟨_,rfl⟩⟩;have a0:=zau s1 (.dk []);unfold zdU;simp only[zkh,Ae,zfm,Ba,A9,keyOf,a0];simp
 -- the three,one behind the other
 obtain⟨x1,s1,e1,p1,f1,q1⟩:=hes _ (.head _) s m (Fr.refl n s) hp (by omega);obtain⟨x2,s2,e2,p2,f2,q2⟩:=hes _ (.tail _ (.head _)) s1 _ f1 p1 (by omega);obtain⟨x3,s3,e3,p3,f3,q3⟩:=hes _ (.tail _ (.tail _ (.head _))) s2 _ (f1.trans f2) p2 (by omega);have q1':=((q1.fr _ _ _ f2).fr _ _ _ f3).fr _ _ _ (Fr.app n s3 [.lst [x1,x2,x3]]);have q2':=(q2.fr _ _ _ f3).fr _ _ _ (Fr.app n s3 [.lst [x1,x2,x3]]);have q3':=q3.fr _ _ _ (Fr.app n s3 [.lst [x1,x2,x3]]);have at4:=zau s3 (.lst [x1,x2,x3]);have p4:=p3.gr (Gr.app s3 [.lst [x1,x2,x3]]);have f4:=Fr.app n s3 [.lst [x1,x2,x3]];have ne3:=p3.ne;have hs4:mLst (zac (mTup (zac (mVar 1) mNil)) (zac (mLst (zac (mVar 1) mNil)) (zac (zdU (mCon (.str "a")) (mVar 1)) mNil))) [some (.ref n),some d,a] s=some (.ref s3.length,s3++[.lst [x1,x2,x3]]):=by clear hes;generalize mTup (zac (mVar 1) mNil)=E1 at *;generalize mLst (zac (mVar 1) mNil)=E2 at *;generalize zdU (mCon (.str "a")) (mVar 1)=E3 at *;simp only[zoz,zgM,e1,e2,e3,zmy,Ae];rfl
 generalize s3++[O.lst [x1,x2,x3]]=s4 at *;obtain⟨r,s5,e5,r0,r1,p5,f5⟩:=zaS (many:=3) p4 (by omega) (by decide) (by decide);have at5:=(f5.old _ (getElem?_lt at4) ne3).trans at4;obtain⟨x,hx,ex⟩:∃ x,x∈[x1,x2,x3]/\ixA (.ref s3.length) (.int r) s5=some (x,s5):=by
   have hr:r.toNat < [x1,x2,x3].length:=by simp;omega
   exact⟨[x1,x2,x3][r.toNat],AS hr,zbW at5 r0 (Ah hr)⟩
 have qx:Ns n s5 x:=by
   simp only[AN,AF,or_false] at hx
   rcases hx with rfl | rfl | rfl
   . exact q1'.fr _ _ _ f5
   . exact q2'.fr _ _ _ f5
   exact q3'.fr _ _ _ f5
 refine⟨x,s5,?_,p5.up (by omega),(((f1.trans f2).trans f3).trans f4).trans f5,qx⟩;unfold zbe;have el:=hs4;generalize mLst (zac (mTup (zac (mVar 1) mNil)) (zac (mLst (zac (mVar 1) mNil)) (zac (zdU (mCon (.str "a")) (mVar 1)) mNil)))=LL at *;simp[el,e5,ex]
def zgn(hp:PotD n m s)(hm:m<=500000):∃ (d:D) (s':Sto),zaE [.ref n] s=some (d,s')/\PotD n (m+30000) s'/\Fr n s s'/\Ns n s' d:=by
 have a1:=zau s (.lst []);have p1:=hp.gr (Gr.app s [.lst []]);have f1:=Fr.app n s [.lst []];have ne0:=hp.ne;generalize hs1:s++[O.lst []]=s1 at *;have a2:=zau s1 (.lst [.tup [],.ref s.length,.str "a",.int 1,.non]);have p2:=p1.gr (Gr.app s1 [.lst [.tup [],.ref s.length,.str "a",.int 1,.non]]);have f2:=Fr.app n s1 [.lst [.tup [],.ref s.length,.str "a",.int 1,.non]];have ne1:=p1.ne;have e0:∀ U:Rho,mLst (zac (mTup mNil) (zac (mLst mNil) (zac (mCon (.str "a")) (zac (mCon (.int 1)) (zac (mCon .non) mNil))))) U s=some (.ref s1.length,s1++[.lst [.tup [],.ref s.length,.str "a",.int 1,.non]]):=fun U=>by simp[hs1]
 generalize s1++[O.lst [.tup [],.ref s.length,.str "a",.int 1,.non]]=s2 at *;obtain⟨r,s3,e3,r0,r1,p3,f3⟩:=zaS (many:=5) p2 (by omega) (by decide) (by decide);have at3:=(f3.old _ (getElem?_lt a2) ne1).trans a2;obtain⟨x,hx,ex⟩:∃ x,x∈[D.tup [],.ref s.length,.str "a",.int 1,.non]/\ixA (.ref s1.length) (.int r) s3=some (x,s3):=by
   have hr:r.toNat < [D.tup [],.ref s.length,.str "a",.int 1,.non].length:=by simp;omega
   exact⟨_,AS hr,zbW at3 r0 (Ah hr)⟩
 have hnt:NT x:=by
   simp only[AN,AF,or_false] at hx
   rcases hx with rfl | rfl | rfl | rfl | rfl <;> exact fun _ _ _=>rfl
 have hth:Th n s3 x:=by
   simp only[AN,AF,or_false] at hx
   rcases hx with rfl | rfl | rfl | rfl | rfl
   . exact .tup _ (by simp)
   . exact .lst _ [] (((f2.trans f3).old _ (getElem?_lt a1) ne0).trans a1) ne0
   . exact .str _
   . exact .int _
   exact .non
 -- how often
 have b4:=zau s3 (.lst [.int 1,.int 3,.int 58]);have p4:=p3.gr (Gr.app s3 [.lst [.int 1,.int 3,.int 58]]);have f4:=Fr.app n s3 [.lst [.int 1,.int 3,.int 58]];have ne3:=p3.ne;have e4:∀ U:Rho,mLst (zac (mCon (.int 1)) (zac (mCon (.int 3)) (zac (mCon (.int 58)) mNil))) U s3=some (.ref s3.length,s3++[.lst [.int 1,.int 3,.int 58]]):=fun U=>by simp
 generalize s3++[O.lst [.int 1,.int 3,.int 58]]=s4 at *;obtain⟨q,s5,e5,q0,q1,p5,f5⟩:=zaS (many:=3) p4 (by omega) (by decide) (by decide);have at5:=(f5.old _ (getElem?_lt b4) ne3).trans b4;obtain⟨j,hj1,hj2,ej⟩:∃ j:Nat,1<=j/\j<=58/\ixA (.ref s3.length) (.int q) s5=some (.int (j:Int),s5):=by
   have hr:q.toNat < [D.int 1,.int 3,.int 58].length:=by simp;omega
   have hm:=AS hr;have ei:ixA (.ref s3.length) (.int q) s5=some ([D.int 1,.int 3,.int 58][q.toNat],s5):=zbW at5 q0 (Ah hr);generalize [D.int 1,.int 3,.int 58][q.toNat]=z at *;simp only[AN,AF,or_false] at hm
   rcases hm with rfl | rfl | rfl
   . exact⟨1,by decide,by decide,ei⟩
   . exact⟨3,by decide,by decide,ei⟩
   exact⟨58,by decide,by decide,ei⟩
 have h5:=hth.fr (f4.trans f5);have key:=zbm (W:=⟨run 0 j,[]⟩) (g:=gNm 2) (m:=zbe) (ds:=run 0 j) (U:=[some (.ref n),some x,none]) (st:=s5)
   (Inv:=fun i U q=>∃ d a,U=[some (.ref n),some d,a]/\PotD n (m+2+400*i) q/\Fr n s5 q/\Th n q d/\NT d/\(0 < i->Wr d))
   ⟨_,_,rfl,p5.up (by omega),Fr.refl n s5,h5,hnt,fun z=>absurd z (AK _)⟩ (fun _ _ _ _ _=>rfl) (fun i dd U q hdd hI=>by obtain⟨d,a,rfl,pq,fq,hd,nt,_⟩:=hI;obtain⟨hi,rfl⟩:=zds hdd;obtain⟨d',s',e',p',f',q'⟩:=zjD (a:=some (.int (i:Int))) pq (by omega) hd nt;exact⟨_,q,_,s',rfl,e',d',_,rfl,p'.up (by omega),fq.trans f',q'.th,zqz q'.wr,fun _=>q'.wr⟩)
 obtain⟨U',s6,el,d,a,rfl,p6,f6,hd,_,hw⟩:=key;rw[zbH] at p6 hw;refine⟨d,s6,zbX ?_,p6.up (by omega),((((f1.trans f2).trans f3).trans f4).trans f5).trans f6,hd,hw (by omega)⟩;unfold zcO;refine zam (U1:=[some (.ref n),some x,none]) (s1:=s3) ?_ ?_
 . generalize mLst (zac (mTup mNil) (zac (mLst mNil) (zac (mCon (.str "a")) (zac (mCon (.int 1)) (zac (mCon .non) mNil)))))=LL at *;show mAsg _ _ [some (.ref n),none,none] s=_;simp[e0,e3,ex]
 . refine zam (U1:=[some (.ref n),some d,a]) (s1:=s6) ?_ (by simp);have er:mR1 (mBin ixA (mLst (zac (mCon (.int 1)) (zac (mCon (.int 3)) (zac (mCon (.int 58)) mNil)))) (zas zad (zac (mVar 0) (zac (mCon (.int 3)) mNil)))) [some (.ref n),some x,none] s3=some (⟨run 0 j,[]⟩,s5):=by
     refine zju (s1:=s5) (k:=j) rfl ?_ (by omega);generalize mLst (zac (mCon (.int 1)) (zac (mCon (.int 3)) (zac (mCon (.int 58)) mNil)))=LL at *;simp[e4,e5,ej]
   rw[zcw,er];exact el
def Gd(n:Nat)(P:Sto->D->Prop)(U:Rho)(c:Nat)(e:ME):Prop:=∀ (s:Sto) (m:Nat),PotD n m s->m+c<=500000->∃ (d:D) (s':Sto),e U s=some (d,s')/\PotD n (m+c) s'/\Fr n s s'/\P s' d
def As(n:Nat)(P:Sto->D->Prop)(U:Rho)(c k:Nat)(e:MA):Prop:=∀ (s:Sto) (m:Nat),PotD n m s->m+c<=500000->∃ (ds:List D) (s':Sto),e U s=some (ds,s')/\PotD n (m+c) s'/\Fr n s s'/\(∀ d∈ds,P s' d)/\ds.length=k
variable {k:Nat}
section
variable {P:Sto->D->Prop} {U:Rho} {e:ME} {es:MA} {c c':Nat}
def zke:As n P U 0 0 mNil:=fun s m hp hm=>⟨[],s,rfl,hp,Fr.refl n s,by simp,rfl⟩
def ziR(hP:∀ s s' d,Fr n s s'->P s d->P s' d)(h:Gd n P U c e)(h':As n P U c' k es):As n P U (c+c') (k+1) (zac e es):=fun s m hp hm=>by
 obtain⟨d,s1,e1,p1,f1,q1⟩:=h s m hp (by omega);obtain⟨ds,s2,e2,p2,f2,q2,l2⟩:=h' s1 (m+c) p1 (by omega);refine⟨d::ds,s2,?_,p2.up<|by omega,f1.trans f2,fun x hx=>?_,by simp[l2]⟩
 . simp only[zgM,e1,Ae,e2]
 . rcases List.mem_cons.mp hx with rfl | hx
   . exact hP _ _ _ f2 q1
   exact q2 x hx
def as_0(hP:∀ s s' d,Fr n s s'->P s d->P s' d)(h:Gd n P U 0 e)(h':As n P U c' k es):As n P U c' (k+1) (zac e es):=fun s m hp hm=>by
 have:=ziR hP h h' s m hp<|by omega
 rwa [Nat.zero_add] at this
def zjN(hP:∀ s s' d,Fr n s s'->P s d->P s' d)(h:As n P U c k es)(hk:k<=100)(hp:PotD n m s)(hm:m+c<=500000) :
   ∃ (ds:List D) (l:Nat) (s':Sto),mLst es U s=some (.ref l,s')/\s'[l]?=some (.lst ds)/\l≠n/\PotD n (m+c) s'/\Fr n s s'/\(∀ d∈ds,P s' d)/\ds.length=k:=by
 obtain⟨ds,s1,e1,p1,f1,q1,l1⟩:=h s m hp hm;have fl:fits ds.length=true:=zar (by omega);refine⟨ds,s1.length,s1++[.lst ds],?_,zau _ _,p1.ne,p1.gr<|Gr.app _ _,f1.trans<|Fr.app _ _ _,fun d hd=>hP _ _ _ (Fr.app _ _ _) (q1 d hd),l1⟩;simp only[zoz,e1,Ae,fl,if_true]
def zbs(h:∀ s,e U s=some (d,s))(hp:∀ s,P s d):Gd n P U 0 e:=fun s m p _=>⟨d,s,h s,p,Fr.refl n s,hp s⟩
def zdA{f:Nat->D}{o:O}(h:∀ s,e U s=some (f s.length,s++[o]))(hp:∀ s:Sto,s.length≠n->P (s++[o]) (f s.length)):Gd n P U 0 e:=fun s m p _ =>
 ⟨f s.length,s++[o],h s,p.gr<|Gr.app _ _,Fr.app _ _ _,hp s p.ne⟩
end
section
variable {a b c:D}
def th0:Th n s (.tup []):=.tup _<|by simp
def th1(ha:Th n s a):Th n s (.tup [a]):=.tup _<|by simpa using ha
def th2(ha:Th n s a)(hb:Th n s b):Th n s (.tup [a,b]):=.tup _<|by simpa using ⟨ha,hb⟩
def th3(ha:Th n s a)(hb:Th n s b)(hc:Th n s c):Th n s (.tup [a,b,c]):=.tup _<|by simpa using ⟨ha,hb,hc⟩
def th4(ha:Th n s a)(hb:Th n s b)(hc:Th n s c)(hd:Th n s d):Th n s (.tup [a,b,c,d]):=.tup _<|by simpa using ⟨ha,hb,hc,hd⟩
end
structure Od(n:Nat)(w h N:Int)(s:Sto)(d:D):Prop where
 th:Th n s d
 no:zeR w h N d=false
variable {w h N:Int}
def Od.fr{n:Nat}{w h N:Int}(s s':Sto)(d:D)(F:Fr n s s')(q:Od n w h N s d):Od n w h N s' d:=⟨q.th.fr F,q.no⟩
def zrr(q:Ns n s d):Od n w h N s d:=⟨q.th,zqz q.wr w h N⟩
variable {a0 a1 a5:Option D}
section
variable {x y k:Int}
def zrq(k0:0<=k)(k1:k<=1000):As n (Od n w h N) [a0,a1,some (.int x),some (.int y),some (.int k),a5] 0 11 (zac (mLst<|zac (mVar 2)<|zac (mVar 3)<|zac (mVar 4)<|mNil)<|zac (mTup<|zac (mVar 2)<|zac (mVar 3)<|mNil)<|zac (mTup<|zac (mVar 2)<|zac (mVar 3)<|zac (mVar 4)<|zac (mCon<|.int 0)<|mNil)<|zac (mCon<|.str "xyz")<|zac (mCon .non)<|zac (mCon<|.bl true)<|zac (mCon<|.int 7)<|zac (zhf false)<|zac (mTup<|mNil)<|zac (mTup<|zac (mVar 2)<|zac (mVar 3)<|zac (zas strC<|zac (mVar 4)<|mNil)<|mNil)<|zac (mTup<|zac (mVar 2)<|zac (mCon .non)<|zac (mVar 4)<|mNil)<|mNil):=by
 have es:∀ s:Sto,strC [.int k] s=some (.str (itos k),s):=fun s=>zfy k0 (by omega);refine as_0 Od.fr ?_ ?_
 . exact zdA (f:=.ref) (o:=.lst [.int x,.int y,.int k]) (fun s=>by simp) fun s ne=>⟨.lst _ _ (zau _ _) ne,rfl⟩
 refine as_0 Od.fr ?_ ?_
 . exact zbs (d:=.tup [.int x,.int y]) (fun s=>by simp) fun s=>⟨th2 (.int _)<|.int _,rfl⟩
 refine as_0 Od.fr ?_ ?_
 . exact zbs (d:=.tup [.int x,.int y,.int k,.int 0]) (fun s=>by simp) fun s=>⟨th4 (.int _) (.int _) (.int _)<|.int _,rfl⟩
 refine as_0 Od.fr ?_ ?_
 . exact zbs (d:=.str "xyz") (fun s=>rfl) fun s=>⟨.str _,rfl⟩
 refine as_0 Od.fr ?_ ?_
 . exact zbs (d:=.non) (fun s=>rfl) fun s=>⟨.non,rfl⟩
 refine as_0 Od.fr ?_ ?_
 . exact zbs (d:=.bl true) (fun s=>rfl) fun s=>⟨.bl _,rfl⟩
 refine as_0 Od.fr ?_ ?_
 . exact zbs (d:=.int 7) (fun s=>rfl) fun s=>⟨.int _,rfl⟩
 refine as_0 Od.fr ?_ ?_
 . exact zdA (f:=.ref) (o:=.dk []) (fun s=>rfl) fun s ne=>⟨.dk _ _ (zau _ _) ne,rfl⟩
 refine as_0 Od.fr ?_ ?_
 . exact zbs (d:=.tup []) (fun s=>by simp) fun s=>⟨th0,rfl⟩
 refine as_0 Od.fr ?_ ?_
 . exact zbs (d:=.tup [.int x,.int y,.str (itos k)]) (fun s=>by simp[es]) fun s=>⟨th3 (.int _) (.int _)<|.str _,by simp[zeR,whB]⟩
 refine as_0 Od.fr ?_ zke
 . exact zbs (d:=.tup [.int x,.non,.int k]) (fun s=>by simp) fun s=>⟨th3 (.int _) .non<|.int _,by simp[zeR,whB]⟩
def zrp:As n (Od n w h N) [some (.ref n),a1,some (.int x),some (.int y),some (.int k),a5] 30000 6 (zac (mTup<|zac (mTup<|zac (mVar 2)<|mNil)<|zac (mVar 3)<|zac (mVar 4)<|mNil)<|zac (mTup<|zac (mCon<|.bl true)<|zac (mVar 3)<|zac (mVar 4)<|mNil)<|zac (mTup<|zac (mVar 2)<|zac (mCon<|.bl false)<|zac (mVar 4)<|mNil)<|zac (mTup<|zac (mVar 2)<|zac (mVar 3)<|zac (mCon<|.bl true)<|mNil)<|zac (mTup<|zac (mVar 2)<|zac (mVar 3)<|zac (mLst<|zac (mVar 4)<|mNil)<|mNil)<|zac (zas zaE<|zac (mVar 0)<|mNil)<|mNil):=by
 have nst:Gd n (Od n w h N) [some (.ref n),a1,some (.int x),some (.int y),some (.int k),a5] 30000 (zas zaE<|zac (mVar 0)<|mNil):=fun s m hp hm=>by obtain⟨d,s',e',p',f',q'⟩:=zgn hp (by omega);exact⟨d,s',by simp[e'],p',f',zrr q'⟩
 refine as_0 Od.fr ?_ ?_
 . exact zbs (d:=.tup [.tup [.int x],.int y,.int k]) (fun s=>by simp) fun s=>⟨th3 (th1<|.int _) (.int _)<|.int _,by simp[zeR,whB]⟩
 refine as_0 Od.fr ?_ ?_
 . exact zbs (d:=.tup [.bl true,.int y,.int k]) (fun s=>by simp) fun s=>⟨th3 (.bl _) (.int _)<|.int _,by simp[zeR,whB]⟩
 refine as_0 Od.fr ?_ ?_
 . exact zbs (d:=.tup [.int x,.bl false,.int k]) (fun s=>by simp) fun s=>⟨th3 (.int _) (.bl _)<|.int _,by simp[zeR,whB]⟩
 refine as_0 Od.fr ?_ ?_
 . exact zbs (d:=.tup [.int x,.int y,.bl true]) (fun s=>by simp) fun s=>⟨th3 (.int _) (.int _)<|.bl _,by simp[zeR,whB]⟩
 refine as_0 Od.fr ?_ ?_
 . exact zdA (f:=fun l=>.tup [.int x,.int y,.ref l]) (o:=.lst [.int k]) (fun s=>by simp) fun s ne=>⟨th3 (.int _) (.int _)<|.lst _ _ (zau _ _) ne,by simp[zeR,whB]⟩
 exact ziR (c:=30000) (c':=0) Od.fr nst zke
def zro:As n (Od n w h N) [a0,a1,some (.int x),some (.int y),some (.int k),a5] 0 7 (zac (zdU (mVar 2)<|mVar 3)<|zac (mTup<|zac (mVar 2)<|zac (mVar 3)<|zac (mTup<|zac (mVar 4)<|mNil)<|mNil)<|zac (mTup<|zac (mTup<|zac (mVar 2)<|zac (mVar 3)<|mNil)<|zac (mVar 4)<|mNil)<|zac (mTup<|zac (mVar 2)<|zac (mVar 3)<|zac (zhf false)<|mNil)<|zac (mCon<|.str "")<|zac (mLst<|zac (mTup<|zac (mVar 2)<|zac (mVar 3)<|zac (mVar 4)<|mNil)<|mNil)<|zac (mTup<|zac (mTup<|zac (mVar 2)<|zac (mVar 3)<|zac (mVar 4)<|mNil)<|mNil)<|mNil):=by
 refine as_0 Od.fr ?_ ?_
 . exact zdA (f:=.ref) (o:=.dk [(.inl x,.int y)]) (fun s=>by have a0:=zau s (.dk []);unfold zdU;simp only[Ae,zfm,Ba,A9,keyOf,a0];simp) fun s ne=>⟨.dk _ _ (zau _ _) ne,rfl⟩
 refine as_0 Od.fr ?_ ?_
 . exact zbs (d:=.tup [.int x,.int y,.tup [.int k]]) (fun s=>by simp) fun s=>⟨th3 (.int _) (.int _)<|th1<|.int _,by simp[zeR,whB]⟩
 refine as_0 Od.fr ?_ ?_
 . exact zbs (d:=.tup [.tup [.int x,.int y],.int k]) (fun s=>by simp) fun s=>⟨th2 (th2 (.int _)<|.int _)<|.int _,rfl⟩
 refine as_0 Od.fr ?_ ?_
 . exact zdA (f:=fun l=>.tup [.int x,.int y,.ref l]) (o:=.dk []) (fun s=>by simp) fun s ne=>⟨th3 (.int _) (.int _)<|.dk _ _ (zau _ _) ne,by simp[zeR,whB]⟩
 refine as_0 Od.fr ?_ ?_
 . exact zbs (d:=.str "") (fun s=>rfl) fun s=>⟨.str _,rfl⟩
 refine as_0 Od.fr ?_ ?_
 . exact zdA (f:=.ref) (o:=.lst [.tup [.int x,.int y,.int k]]) (fun s=>by simp) fun s ne=>⟨.lst _ _ (zau _ _) ne,rfl⟩
 refine as_0 Od.fr ?_ zke
 . exact zbs (d:=.tup [.tup [.int x,.int y,.int k]]) (fun s=>by simp) fun s=>⟨th1<|th3 (.int _) (.int _)<|.int _,rfl⟩
def zpN(hp:PotD n m s)(hm:m<=400000)(k0:0<=k)(k1:k<=1000) :
   ∃ (ds:List D) (l:Nat) (s':Sto),zbk [.ref n,.tup [.int x,.int y,.int k]] s=some (.ref l,s')/\s'[l]?=some (.lst ds)/\l≠n/\PotD n (m+30000) s'/\Fr n s s'/\∀ d∈ds,Od n w h N s' d:=by
 obtain⟨d1,l1,s1,e1,a1,n1,p1,f1,q1,z1⟩:=zjN Od.fr (zrq (n:=n) (w:=w) (h:=h) (N:=N) (x:=x) (y:=y) (k:=k) (a0:=some (.ref n)) (a1:=some (.tup [.int x,.int y,.int k])) (a5:=none) k0 k1) (by omega) hp (by omega);obtain⟨d2,l2,s2,e2,a2,n2,p2,f2,q2,z2⟩:=zjN Od.fr (zrp (n:=n) (w:=w) (h:=h) (N:=N) (x:=x) (y:=y) (k:=k) (a1:=some (.tup [.int x,.int y,.int k])) (a5:=some (.ref l1))) (by omega) p1 (by omega);have a12:=(f2.old _ (getElem?_lt a1) n1).trans a1;have ea:=ziV a12 a2 (by omega);have a3:=zau s2<|.lst<|d1++d2;have f3:=Fr.app n s2 [.lst (d1++d2)];have p3:=p2.gr<|Gr.app s2 [.lst (d1++d2)];have n3:=p2.ne;generalize s2++[O.lst (d1++d2)]=s3 at *;obtain⟨d4,l4,s4,e4,a4,n4,p4,f4,q4,z4⟩:=zjN Od.fr (zro (n:=n) (w:=w) (h:=h) (N:=N) (x:=x) (y:=y) (k:=k) (a0:=some (.ref n)) (a1:=some (.tup [.int x,.int y,.int k])) (a5:=some (.ref s2.length))) (by omega) p3 (by omega);have a34:=(f4.old _ (getElem?_lt a3) n3).trans a3;have eb:=ziV a34 a4 (by simp;omega);have f5:=Fr.app n s4 [.lst (d1++d2++d4)];refine⟨d1++d2++d4,s4.length,s4++[.lst (d1++d2++d4)],zbX ?_,zau _ _,p4.ne,(p4.gr<|Gr.app _ _).up<|by omega,(((f1.trans f2).trans f3).trans f4).trans f5,fun d hd=>?_⟩
 . unfold zb1;refine zam (U1:=[some (.ref n),some (.tup [.int x,.int y,.int k]),some (.int x),some (.int y),some (.int k),none]) (s1:=s) rfl ?_;refine zam (U1:=[some (.ref n),some (.tup [.int x,.int y,.int k]),some (.int x),some (.int y),some (.int k),some (.ref l1)]) (s1:=s1) ?_ ?_
   . simp only[zdW,e1,Ae];rfl
   refine zam (U1:=[some (.ref n),some (.tup [.int x,.int y,.int k]),some (.int x),some (.int y),some (.int k),some (.ref s2.length)]) (s1:=s3) ?_ ?_
   . simp only[zdW,zfn,zfm,Ba,A9,e2,ea,Ae];rfl
   simp only[zqt,zfn,zfm,Ba,A9,e4,eb,Ae];rfl
 . rcases List.mem_append.mp hd with hd | hd
   . rcases List.mem_append.mp hd with hd | hd
     . exact Od.fr _ _ _ (((f2.trans f3).trans f4).trans f5)<|q1 d hd
     exact Od.fr _ _ _ ((f3.trans f4).trans f5)<|q2 d hd
   exact Od.fr _ _ _ f5<|q4 d hd
end
open L2.MP.Hn (za3 zaF srtT za9 zbS)
variable {a:Nat}{st:Sto}
def zkm{ds:List D}:slC (.tup ds) (some (a:Int)) none st=some (.tup (ds.drop a),st):=by
 rw[zm7 (i:=min a ds.length) (j:=ds.length) (by rw[HT.sIx_nat]) rfl]
 congr 3
 by_cases h:a<=ds.length
 . rw[Nat.min_eq_left h,List.take_of_length_le (by simp)]
 rw[Nat.min_eq_right (by omega),Cu (by omega:ds.length<=a)];simp
variable {b:List D}
def zfZ{a:List D}(h:a.length+b.length<=10000):addE (.tup a) (.tup b) st=some (.tup (a++b),st):=by
 have f1:fits (a.length+b.length)=true:=zar h;have f2:fits b.length=true:=zar<|by omega
 cases a with
 | nil=>simp[addE,orG,addD,zoA,f2,zeu]
 | cons x a=>rw[AB] at f1;simp[addE,orG,addD,f1,zdQ]
def zf0{x:D}{a:List D}(h:(a++[x]).length+b.length<=10000):addD (.tup<|a++[x]) (.tup b) st=some (.tup (a++[x]++b),st):=by
 have f1:fits ((a++[x]).length+b.length)=true:=zar h
 cases a with
 | nil=>simp at f1;simp[addD,f1]
 | cons y a=>simp at f1;simp[addD,f1]
variable {a2 a4 a6 a7 a8:Option D}
section
variable {B:D} {e:Int} {stk:List (Str×Int)} {ks:List (List Str)} {bad:D}
def zn0(c:Ctx B e stk ks w h)(hd:Th n s d)(hn:zoK w h ks.length d) :
   ∃ s',zgP [a0,a1,a2,some B,a4,a5,a6,a7,some d] s=some (.nx [a0,a1,a2,some B,a4,a5,a6,a7,some d],s')/\Gr s s':=by
 obtain⟨s1,e1,g1⟩:=zij c hd hn;have nn:∀ st:Sto,zlP (.bl false) (.bl false) st=some (.bl false,st):=fun _=>rfl;refine⟨s1,?_,g1⟩;unfold zgP;simp[e1,nn]
def znY(c:Ctx B e stk ks w h)(hd:Th n s d)(hn:zoK w h ks.length d)(hs:∀ z,d=.str z->AU z=true) :
   ∃ s',zfp [a0,a1,a2,some B,a4,a5,a6,a7,some d] s=some (.nx [a0,a1,a2,some B,a4,a5,a6,a7,some d],s')/\Gr s s':=by
 obtain⟨s1,e1,g1⟩:=zij c hd hn;obtain⟨b,eb⟩:=znR hd hs;have nn:∀ st:Sto,zlP (.bl false) (.bl false) st=some (.bl false,st):=fun _=>rfl
 cases b with
 | true =>
   refine⟨s1,?_,g1⟩;unfold zfp;simp[e1,nn,eb]
 | false =>
   refine⟨s,?_,Gr.refl s⟩;unfold zfp;simp[eb]
def znZ{RR:List D}(c:Ctx B e stk ks w h)(hR:∀ x∈RR,∀ s,Th n s x)(hl:RR.length<=6)(ha:a<=RR.length)(hb:Od n w h ks.length s bad) :
   ∃ (b8:Option D) (s':Sto),zgO [a0,a1,a2,some B,some (.tup RR),some (.int (a:Int)),a6,some bad,a8] s=some (.nx [a0,a1,a2,some B,some (.tup RR),some (.int (a:Int)),a6,some bad,b8],s')/\Gr s s':=by
 have hT:∀ T∈([RR.take a++[bad]++RR.drop (a+1),RR.take a++[bad]++RR.drop a,[bad]++RR,RR++[bad]]:List (List D)),T.length<=100/\bad∈T/\∀ x∈T,x=bad\/x∈RR:=by
   have m1:∀ i x,x∈RR.take i->x∈RR:=fun i x hx=>B8 hx;have m2:∀ i x,x∈RR.drop i->x∈RR:=fun i x hx=>List.mem_of_mem_drop hx;intro T hT;simp only[AN,AF,or_false] at hT
   rcases hT with rfl | rfl | rfl | rfl
   . refine⟨by simp;omega,by simp,fun x hx=>?_⟩;simp only[DJ,AN,AF,or_false] at hx
     rcases hx with (hx | hx) | hx
     . exact .inr<|m1 _ _ hx
     . exact .inl hx
     exact .inr<|m2 _ _ hx
   . refine⟨by simp;omega,by simp,fun x hx=>?_⟩;simp only[DJ,AN,AF,or_false] at hx
     rcases hx with (hx | hx) | hx
     . exact .inr<|m1 _ _ hx
     . exact .inl hx
     exact .inr<|m2 _ _ hx
   . refine⟨by simp;omega,by simp,fun x hx=>?_⟩;simpa using hx
   refine⟨by simp;omega,by simp,fun x hx=>?_⟩;simp only[DJ,AN,AF,or_false] at hx;exact hx.symm
 have t1:slC (.tup RR) none (some (a:Int)) s=some (.tup (RR.take a),s):=zm6 ha;have t2:slC (.tup RR) (some<|(a:Int)+1) none s=some (.tup (RR.drop<|a+1),s):=zkm (a:=a+1);have t3:slC (.tup RR) (some (a:Int)) none s=some (.tup (RR.drop a),s):=zkm;have q1:addE (.tup<|RR.take a) (.tup [bad]) s=some (.tup (RR.take a++[bad]),s):=zfZ (by simp;omega);have q2:addD (.tup<|RR.take a++[bad]) (.tup<|RR.drop<|a+1) s=some (.tup (RR.take a++[bad]++RR.drop (a+1)),s):=zf0 (by simp;omega);have q3:addD (.tup<|RR.take a++[bad]) (.tup<|RR.drop a) s=some (.tup (RR.take a++[bad]++RR.drop a),s):=zf0 (by simp;omega);have q4:addD (.tup [bad]) (.tup RR) s=some (.tup ([bad]++RR),s):=zf0 (a:=[]) (by simp;omega);have q5:addE (.tup RR) (.tup [bad]) s=some (.tup (RR++[bad]),s):=zfZ (by simp;omega);generalize RR.take a++[bad]++RR.drop (a+1)=T1 at *;generalize RR.take a++[bad]++RR.drop a=T2 at *;generalize RR.take a++[bad]=T0 at *;generalize RR.take a=U0 at *;generalize RR.drop a=U1 at *;generalize RR.drop (a+1)=U2 at *;generalize [bad]++RR=T3 at *;generalize RR++[bad]=T4 at *;have key:=zbm (W:=⟨([T1,T2,T3,T4].map D.tup),[]⟩) (g:=gNm 8) (m:=zgP) (ds:=[T1,T2,T3,T4].map D.tup) (U:=[a0,a1,a2,some B,some (.tup RR),some (.int (a:Int)),a6,some bad,a8]) (st:=s)
   (Inv:=fun i U q=>(∃ b8,U=[a0,a1,a2,some B,some (.tup RR),some (.int (a:Int)),a6,some bad,b8])/\Gr s q)
   ⟨⟨_,rfl⟩,Gr.refl s⟩ (fun _ _ _ _ _=>rfl) (fun i dd U q hdd hI=>by
     obtain⟨⟨b8,rfl⟩,gq⟩:=hI;rw[Av] at hdd;obtain⟨T,hT',rfl⟩:=zaj hdd;obtain⟨z1,z2,z3⟩:=hT T (AG hT');have hb':=Od.fr _ _ _ (gq.fr n) hb;obtain⟨s',e',g'⟩:=zn0 (n:=n) (s:=q) (a0:=a0) (a1:=a1) (a2:=a2) (a4:=some (.tup RR)) (a5:=some (.int (a:Int))) (a6:=a6) (a7:=some bad) c (.tup T fun x hx=>by
       rcases z3 x hx with hx | hx
       . rw[hx];exact hb'.th
       exact hR x hx q) (fun ds hds=>by cases hds;exact⟨z1,bad,z2,hb'.no⟩)
     exact⟨_,q,_,s',rfl,e',⟨_,rfl⟩,gq.trans g'⟩)
 obtain⟨U',s',el,⟨b8,rfl⟩,g'⟩:=key;refine⟨b8,s',?_,g'⟩;unfold zgO;rw[zcw];have ew:∀ z:MI,mWA (mTup<|zac (mBin addD (mBin addE (mSlC (mVar 4) zeF<|zeE<|mVar 5)<|mTup<|zac (mVar 7)<|mNil)<|mSlC (mVar 4) (zeE<|mBin addD (mVar 5)<|mCon<|.int 1)<|zeF)<|zac (mBin addD (mBin addE (mSlC (mVar 4) zeF<|zeE<|mVar 5)<|mTup<|zac (mVar 7)<|mNil)<|mSlC (mVar 4) (zeE<|mVar 5)<|zeF)<|zac (mBin addD (mTup<|zac (mVar 7)<|mNil)<|mVar 4)<|zac (mBin addE (mVar 4)<|mTup<|zac (mVar 7)<|mNil)<|mNil)=z->z [a0,a1,a2,some B,some (.tup RR),some (.int (a:Int)),a6,some bad,a8] s=some (⟨[T1,T2,T3,T4].map D.tup,[]⟩,s):=fun z hz=>by rw[<-hz];generalize (a:Int)=A at *;simp[zqs,t1,q1,t2,q2,t3,q3,q4,q5,zft]
 rw[ew _ rfl];exact el
structure Tg(n:Nat)(w h N:Int)(s:Sto)(d:D):Prop where
 th:Th n s d
 no:zoK w h N d
 str:∀ z,d=.str z->AU z=true
def Tg.fr{N:Int}(s s':Sto)(d:D)(F:Fr n s s')(q:Tg n w h N s d):Tg n w h N s' d:=⟨q.th.fr F,q.no,q.str⟩
def zho(q:Th n s (.ref k)):Tg n w h N s (.ref k):=⟨q,fun _ h=>(by cases h),fun _ h=>(by cases h)⟩
def zhG{R:List Tl}:zeR w h N (.tup<|R.map tD)=false:=by
 match R with
 | []=>rfl
 | [a]=>rfl
 | [a,b]=>rfl
 | [a,b,c]=>rfl
 | a::b::c::d::R=>rfl
def things{R:List Tl}(hR:R.length<=6):As n (Tg n w h N) [a0,a1,some (.ref n),some B,some (.tup<|R.map tD),a5,a6,a7,a8] 30000 12 (zac (zas zmF<|zac (mVar 4)<|mNil)<|zac (mCon .non)<|zac (mCon<|.bl true)<|zac (mCon<|.int 0)<|zac (mCon<|.str "")<|zac (mCon<|.str "row")<|zac (zhf false)<|zac (mLst<|mNil)<|zac (mTup<|zac (mVar 4)<|mNil)<|zac (mLst<|zac (mVar 4)<|mNil)<|zac (zas zaE<|zac (mVar 2)<|mNil)<|zac (zjJ (mVar 4)<|mVar 4)<|mNil):=by
 have el:∀ s:Sto,zmF [.tup (R.map tD)] s=some (.ref s.length,s++[.lst (R.map tD)]):=fun s=>L2.MP.Ce.listB_tup (by simp;omega);have ek:zmC (R.map tD)=true:=by unfold zmC;rw[CC];intro d hd;obtain⟨t,_,rfl⟩:=List.mem_map.mp hd;rfl
 have hth:∀ s:Sto,Th n s (.tup<|R.map tD):=fun s=>.tup _ fun d hd=>by obtain⟨t,_,rfl⟩:=List.mem_map.mp hd;exact th3 (.int _) (.int _)<|.int _
 have hnt:=zhG (w:=w) (h:=h) (N:=N) (R:=R);generalize R.map tD=RR at *;have nst:Gd n (Tg n w h N) [a0,a1,some (.ref n),some B,some (.tup RR),a5,a6,a7,a8] 30000 (zas zaE<|zac (mVar 2)<|mNil):=fun s m hp hm=>by
   obtain⟨d,s',e',p',f',q'⟩:=zgn hp (by omega);refine⟨d,s',by simp[e'],p',f',q'.th,fun ds hds=>?_,fun z hz=>?_⟩
   . rcases q'.wr with ⟨x,rfl,nt⟩ | ⟨k,rfl⟩
     . cases hds;exact⟨by simp,x,by simp,nt _ _ _⟩
     . cases hds
   rcases q'.wr with ⟨x,rfl,nt⟩ | ⟨k,rfl⟩ <;> cases hz
 refine as_0 Tg.fr ?_ ?_
 . exact zdA (f:=.ref) (o:=.lst RR) (fun s=>by simp[el]) fun s ne=>zho (.lst _ _ (zau _ _) ne)
 refine as_0 Tg.fr ?_ ?_
 . exact zbs (d:=.non) (fun s=>rfl) fun s=>⟨.non,fun _ h=>(by cases h),fun _ h=>(by cases h)⟩
 refine as_0 Tg.fr ?_ ?_
 . exact zbs (d:=.bl true) (fun s=>rfl) fun s=>⟨.bl _,fun _ h=>(by cases h),fun _ h=>(by cases h)⟩
 refine as_0 Tg.fr ?_ ?_
 . exact zbs (d:=.int 0) (fun s=>rfl) fun s=>⟨.int _,fun _ h=>(by cases h),fun _ h=>(by cases h)⟩
 refine as_0 Tg.fr ?_ ?_
 . exact zbs (d:=.str "") (fun s=>rfl) fun s=>⟨.str _,fun _ h=>(by cases h),fun z h=>(by cases h;decide +kernel)⟩
 refine as_0 Tg.fr ?_ ?_
 . exact zbs (d:=.str "row") (fun s=>rfl) fun s=>⟨.str _,fun _ h=>(by cases h),fun z h=>(by cases h;decide +kernel)⟩
 refine as_0 Tg.fr ?_ ?_
 . exact zdA (f:=.ref) (o:=.dk []) (fun s=>rfl) fun s ne=>zho (.dk _ _ (zau _ _) ne)
 refine as_0 Tg.fr ?_ ?_
 . exact zdA (f:=.ref) (o:=.lst []) (fun s=>by simp) fun s ne=>zho (.lst _ _ (zau _ _) ne)
 refine as_0 Tg.fr ?_ ?_
 . exact zbs (d:=.tup [.tup RR]) (fun s=>by simp) fun s=>⟨th1<|hth s,fun _ h=>(by cases h;exact⟨by simp,_,Ak,hnt⟩),fun _ h=>(by cases h)⟩
 refine as_0 Tg.fr ?_ ?_
 . exact zdA (f:=.ref) (o:=.lst [.tup RR]) (fun s=>by simp) fun s ne=>zho (.lst _ _ (zau _ _) ne)
 refine ziR (c:=30000) (c':=0) Tg.fr nst (as_0 Tg.fr ?_ zke);exact zdA (f:=.ref) (o:=.dz) (fun s=>by have a0:=zau s (.dt []);unfold zjJ;simp only[Ae,zfm,Ba,A9,a0,ek,if_true];simp) fun s ne=>zho (.dz _ (zau _ _) ne)
end
def zln{ns:List Int}{k:Int}{a3:Option D}(h0:0<=k)(h1:k<=1000) :
   ∃ (b2 b3 b4 b5 b6 b7 b8:Option D) (s':Sto),zgN [some (.kl (ns.map D.int)),some (.int k),a2,a3,a4,a5,a6,a7,a8] s=some (.nx [some (.kl (ns.map D.int)),some (.int k),b2,b3,b4,b5,b6,b7,b8],s'):=by
 obtain⟨s1,e1,p1,g1⟩:=zmw (ns:=ns) (k:=k) (st:=s) h0 h1;generalize hn:s.length=n at *;obtain⟨e,stk,ks,w,h,sd,s2,e2,hs,hf,hsd,⟨l,hsl,ndl⟩,lsd,p2,f2⟩:=zot p1 (by omega);have nd:PlNd sd:=by rw[hsl];exact znS (za9 l) ndl
 have c:Ctx (bedD e stk ks w h sd) e stk ks w h:=zqm hs hf;have w1:=hf.w1;have w2:=hf.h1;have k2:=hs.hi;obtain⟨R,s3,e3,hr,hR,p3,f3⟩:=zmL c p2 (by omega) hsd nd lsd;obtain⟨r,s4,e4,r0,r1,p4,f4⟩:=zaS (many:=(R.length:Int)+1) p3 (by omega) (by omega) (by omega);obtain⟨a,rfl⟩:=Int.eq_ofNat_of_zero_le r0;have ha:a<=R.length:=by omega
 -- the tile to be spoilt
 obtain⟨x,y,q,q0,q1,et⟩:∃ x y q:Int,0<=q/\q<=1000/\∀ st:Sto,ixA (.tup (R.map tD++[.tup [.int 1,.int 0,.int 0]])) (.int (a:Int)) st=some (.tup [.int x,.int y,.int q],st):=by
   by_cases hlt:a < R.length
   . rcases ht:R[a] with ⟨x,y,q⟩
     have ok:=zcF hr R[a] (AS hlt);rw[ht] at ok;have o1:=ok.2.2.2.2.1;have o2:=ok.2.2.2.2.2;dsimp only at o1 o2;refine⟨x,y,q,o1,by omega,fun st=>zaN (by omega) ?_⟩;rw[A4,Ap (by simpa using hlt),Av,Ah hlt,ht];rfl
   . have:a=R.length:=by omega
     refine⟨1,0,0,by decide,by decide,fun st=>zaN (by omega) ?_⟩;rw[A4,this,AE (by simp)];simp
 have ea:∀ st:Sto,addE (.tup (R.map tD)) (.tup [.tup [.int 1,.int 0,.int 0]]) st=some (.tup (R.map tD++[.tup [.int 1,.int 0,.int 0]]),st):=fun st=>zfZ (by simp;omega);have hRR:∀ x∈R.map tD,∀ s,Th n s x:=fun d hd s=>by obtain⟨t,_,rfl⟩:=List.mem_map.mp hd;exact th3 (.int _) (.int _) (.int _)
 -- the odd tiles
 obtain⟨ds,lo,s5,e5,at5,n5,p5,f5,q5⟩:=zpN (n:=n) (w:=w) (h:=h) (N:=ks.length) (x:=x) (y:=y) (k:=q) p4 (by omega) q0 q1;have key1:=zbm (W:=⟨ds,[(lo,ds)]⟩) (g:=gNm 7) (m:=zgO) (ds:=ds) (U:=[some (.kl (ns.map D.int)),some (.int k),some (.ref n),some (bedD e stk ks w h sd),some (.tup (R.map tD)),some (.int (a:Int)),some (.tup [.int x,.int y,.int q]),a7,a8]) (st:=s5)
   (Inv:=fun i U u=>(∃ b7 b8,U=[some (.kl (ns.map D.int)),some (.int k),some (.ref n),some (bedD e stk ks w h sd),some (.tup (R.map tD)),some (.int (a:Int)),some (.tup [.int x,.int y,.int q]),b7,b8])/\Gr s5 u)
   ⟨⟨_,_,rfl⟩,Gr.refl s5⟩ (fun i U u _ hI=>zbG ((hI.2.old _ (getElem?_lt at5)).trans at5)) (fun i dd U u hdd hI=>by obtain⟨⟨b7,b8,rfl⟩,gu⟩:=hI;have hod:=Od.fr _ _ _ (gu.fr n) (q5 dd (AG hdd));obtain⟨c8,s',e',g'⟩:=znZ (a0:=some (.kl (ns.map D.int))) (a1:=some (.int k)) (a2:=some (.ref n)) (a6:=some (.tup [.int x,.int y,.int q])) (a8:=b8) c hRR (by simpa using hR) (by simpa using ha) hod;exact⟨_,u,_,s',rfl,e',⟨_,_,rfl⟩,gu.trans g'⟩)
 obtain⟨U',s6,el1,⟨b7,b8,rfl⟩,g6⟩:=key1
 -- the things
 obtain⟨ts,lt,s7,e7,at7,n7,p7,f7,q7,z7⟩:=zjN Tg.fr (things (n:=n) (B:=bedD e stk ks w h sd) (w:=w) (h:=h) (N:=ks.length) (R:=R) (a0:=some (.kl (ns.map D.int))) (a1:=some (.int k)) (a5:=some (.int (a:Int))) (a6:=some (.tup [.int x,.int y,.int q])) (a7:=b7) (a8:=b8) hR) (by omega) (p5.gr g6) (by omega);have key2:=zbm (W:=⟨ts,[(lt,ts)]⟩) (g:=gNm 8) (m:=zfp) (ds:=ts) (U:=[some (.kl (ns.map D.int)),some (.int k),some (.ref n),some (bedD e stk ks w h sd),some (.tup (R.map tD)),some (.int (a:Int)),some (.tup [.int x,.int y,.int q]),b7,b8]) (st:=s7)
   (Inv:=fun i U u=>(∃ b8,U=[some (.kl (ns.map D.int)),some (.int k),some (.ref n),some (bedD e stk ks w h sd),some (.tup (R.map tD)),some (.int (a:Int)),some (.tup [.int x,.int y,.int q]),b7,b8])/\Gr s7 u)
   ⟨⟨_,rfl⟩,Gr.refl s7⟩ (fun i U u _ hI=>zbG ((hI.2.old _ (getElem?_lt at7)).trans at7)) (fun i dd U u hdd hI=>by obtain⟨⟨b8,rfl⟩,gu⟩:=hI;have hod:=Tg.fr _ _ _ (gu.fr n) (q7 dd (AG hdd));obtain⟨s',e',g'⟩:=znY (a0:=some (.kl (ns.map D.int))) (a1:=some (.int k)) (a2:=some (.ref n)) (a4:=some (.tup (R.map tD))) (a5:=some (.int (a:Int))) (a6:=some (.tup [.int x,.int y,.int q])) (a7:=b7) c hod.th hod.no hod.str;exact⟨_,u,_,s',rfl,e',⟨_,rfl⟩,gu.trans g'⟩)
 obtain⟨U',s8,el2,⟨c8,rfl⟩,g8⟩:=key2;obtain⟨s9,e9,g9⟩:=zma (st:=s8) c hsd nd lsd hr (by omega);have elen:∀ q:Sto,lenD [.tup (R.map tD)] q=some (.int (R.length:Int),q):=fun q=>by rw[zda,Ag]
 have nn:∀ st:Sto,zlP (.bl true) (.bl true) st=some (.bl false,st):=fun _=>rfl;refine⟨some (.ref n),some (bedD e stk ks w h sd),some (.tup (R.map tD)),some (.int (a:Int)),some (.tup [.int x,.int y,.int q]),b7,c8,s9,?_⟩;have wk5:zft (.ref lo) s5=some (⟨ds,[(lo,ds)]⟩,s5):=by simp[zft,zbi,at5]
 have wk7:zft (.ref lt) s7=some (⟨ts,[(lt,ts)]⟩,s7):=by simp[zft,zbi,at7]
 have ap_wa:∀ (m:ME) (U:Rho) (st st':Sto) (d:D) (W:Wk),m U st=some (d,st')->zft d st'=some (W,st')->mWA m U st=some (W,st'):=fun m U st st' d W h1 h2=>by unfold mWA;rw[h1];simp only[Ae,h2,zdQ]
 generalize bedD e stk ks w h sd=bed at *;generalize ns.map D.int=NS at *;generalize R.map tD++[D.tup [.int 1,.int 0,.int 0]]=RA at *;generalize R.map tD=RR at *;generalize D.tup [.int x,.int y,.int q]=X at *;generalize (R.length:Int)=LR at *;unfold zgN;refine zam (U1:=[some (.kl NS),some (.int k),some (.ref n),a3,a4,a5,a6,a7,a8]) (s1:=s1) (by simp[e1]) ?_;refine zam (U1:=[some (.kl NS),some (.int k),some (.ref n),some bed,a4,a5,a6,a7,a8]) (s1:=s2) (by simp[e2]) ?_;refine zam (U1:=[some (.kl NS),some (.int k),some (.ref n),some bed,some (.tup RR),a5,a6,a7,a8]) (s1:=s3) (by simp[e3]) ?_;refine zam (U1:=[some (.kl NS),some (.int k),some (.ref n),some bed,some (.tup RR),some (.int (a:Int)),a6,a7,a8]) (s1:=s4) (by simp[elen,e4]) ?_;refine zam (U1:=[some (.kl NS),some (.int k),some (.ref n),some bed,some (.tup RR),some (.int (a:Int)),some X,a7,a8]) (s1:=s4) (by simp[ea,et]) ?_;refine zam (U1:=[some (.kl NS),some (.int k),some (.ref n),some bed,some (.tup RR),some (.int (a:Int)),some X,b7,b8]) (s1:=s6) (by
   rw[zcw,ap_wa _ _ _ s5 (.ref lo) _ (by simp[e5]) wk5];exact el1) ?_
 refine zam (U1:=[some (.kl NS),some (.int k),some (.ref n),some bed,some (.tup RR),some (.int (a:Int)),some X,b7,c8]) (s1:=s8) (by
   rw[zcw,ap_wa _ _ _ s7 (.ref lt) _ e7 wk7];exact el2) ?_
 simp[e9,nn]
def zl6(ns:List Int)(hl:ns.length<=63):∃ st,zqx [.kl (ns.map D.int)] []=some (.bl true,st):=by
 obtain⟨Mq,hM,hM4⟩:∃ Mq:Nat,(1+(if (ns.length:Int) < 3 then (ns.length:Int) else 3))=(Mq:Int)/\Mq<=4:=by
   by_cases h:(ns.length:Int) < 3
   . exact⟨1+ns.length,by rw[if_pos h];omega,by omega⟩
   exact⟨4,by rw[if_neg h];rfl,by omega⟩
 have key:=zbm (W:=⟨run 0 Mq,[]⟩) (g:=gNm 1) (m:=zgN) (ds:=run 0 Mq) (U:=[some (.kl<|ns.map D.int),none,none,none,none,none,none,none,none]) (st:=[])
   (Inv:=fun i U s=>∃ a b c d e f g h,U=[some (.kl<|ns.map D.int),a,b,c,d,e,f,g,h]) ⟨_,_,_,_,_,_,_,_,rfl⟩ (fun _ _ _ _ _=>rfl) (fun i dd U s hd hI=>by obtain⟨a1,a2,a3,a4,a5,a6,a7,a8,rfl⟩:=hI;obtain⟨hi,rfl⟩:=zds hd;obtain⟨b2,b3,b4,b5,b6,b7,b8,s',e⟩:=zln (ns:=ns) (k:=(i:Int)) (a2:=a2) (a3:=a3) (a4:=a4) (a5:=a5) (a6:=a6) (a7:=a7) (a8:=a8) (s:=s) (by omega) (by omega);exact⟨[some (.kl<|ns.map D.int),some (.int (i:Int)),a2,a3,a4,a5,a6,a7,a8],s,_,s',rfl,e,_,_,_,_,_,_,_,_,rfl⟩)
 obtain⟨U',s2,el,a1,a2,a3,a4,a5,a6,a7,a8,rfl⟩:=key;refine⟨s2,zbX ?_⟩;unfold zqU;have elen:lenD [.kl (ns.map D.int)] []=some (.int (ns.length:Int),[]):=by rw[zl5,Ag]
 have er:mR1 (mBin addD (mCon<|.int 1)<|zas znV<|zac (mCon<|.int 3)<|zac (zas lenD<|zac (mVar 0)<|mNil)<|mNil) [some (.kl<|ns.map D.int),none,none,none,none,none,none,none,none] []=some (⟨run 0 Mq,[]⟩,[]):=by refine zju (s1:=[]) (k:=Mq) hM ?_ (by omega);generalize ns.map D.int=NS at *;generalize (ns.length:Int)=K at *;simp[elen,znV]
 refine zam (U1:=[some (.kl<|ns.map D.int),a1,a2,a3,a4,a5,a6,a7,a8]) (s1:=s2) (by
   show mFor _ _ _ [some (.kl<|ns.map D.int),none,none,none,none,none,none,none,none] []=_;rw[zcw,er];exact el) ?_
 simp
end L2.MP.stickytiles_k14_rows_of_anything
namespace L2.MP.stickytiles_k14_rows_of_anything
open PySem L2 L2.MP PySem.Spec PyProof.Rows PySem.W
def vw:Program:=view PySem.Challenge.pw_stickytiles_k14_rows_of_anything [1,2,3,4,6,7,9,10,11,12,13,14,16,17,19,20,21,22,23,24,25,26,27,28,29,30,31,32,33,34,35]
noncomputable abbrev hk:=Hx.hook fns bls cos
def zne:LeftO PySem.Challenge.pw_stickytiles_k14_rows_of_anything vw [] (fun s=>xlAt vw [] s&&recOk [] s) hk.obs hk.val 20000:=by
 intro w
 kernel_rfl
end L2.MP.stickytiles_k14_rows_of_anything
open PySem PySem.W PyProof.Rows L2 L2.MP L2.MP.stickytiles_k14_rows_of_anything in
set_option maxRecDepth 100000 in
set_option maxHeartbeats 0 in
theorem PySem.Challenge.cw_stickytiles_k14_rows_of_anything_holds : PySem.Challenge.rw_stickytiles_k14_rows_of_anything.Holds := by
 refine holds_law (by decide +kernel) fun said=>?_;refine holds_open (q:=vw) (loose:=[]) (XP:=XL vw []) (YP:=hk.says) zne hk.of hk.keeps (fun s e=>xl_of s (Bool.and_eq_true_iff.mp e).1) XL.keeps (by rfl) (by rfl) (by rfl) (fun s e=>recFacts_of (Bool.and_eq_true_iff.mp e).2) (by rfl) said (by decide +kernel) ⟨rfl,rfl,rfl,rfl,rfl,by decide +kernel⟩ ?hw ?hc
 case hw=>w_witness2
 case hc =>
   refine Hx.walk_has (l:=PySem.Challenge.rw_stickytiles_k14_rows_of_anything) (n:=63) (k:=6) (x:="_law_script") (CX:=CX0) (sp:=fun K=>spM K 1 zqx) rfl (by decide) rfl ⟨rfl,by decide,by decide,rfl⟩ (fun K w mg fa h A X G e=>?_) (fun K H a ns hl hO hS=>(zl6 ns hl).elim fun _ e=>zk4 hO hS e) fun _ _ _ _ z=>z;obtain⟨f,⟨oc,od,kV,dc,pm,an,cd,ct,sl,l,c⟩,n,k⟩:=A.fn ("law",top 35) (AG (i:=28) rfl)
   cases e.symm.trans (mg_of X G n)
   exact⟨_,fun s v=>.of_eq rfl,fun base _ _=>zqg (En.of A X G) (zmj (st:=top 35) l c k)⟩
