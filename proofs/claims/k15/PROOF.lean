import PyProof.Rows.All
import Wide.All
import OpenK.AllK
import Wide.FinOn
import Lean
import PyProof.EqAt
import PyProof.EqKinds
import PyProof.TupleCall
import KE.KRevSl
import PyProof.AttrMissHeap
import KE.KDictOf
import PyProof.StrWalks
import PyProof.ListStr
import PyProof.EnumMake
import PyProof.Rows.Range3
import PyProof.Rows.StrIndexOr
import KE.KRevIter
import PyProof.SumWalk
import PyProof.ReprRoads
import PyProof.DictWalks
import PyProof.FitsBits
import PyProof.CallStr
import PyProof.Rows.FStr
import PyProof.Rows.StrNews
import KE.KIntText
import PyProof.Rows.MinMaxN
import PyProof.StrCalls
import KE.KDictList
import PyProof.RulesTry
import PyProof.Rows.RuleIs
import KE.KDictSum
import PyProof.DictTruth
import PyProof.MinMaxWalk
import PyProof.Rows.SetFrom
import PyProof.ListMulRoad
import PyProof.FactsAll.tuple_2
import PyProof.TupleOfStr
import PyProof.WalkInts
import PyProof.WalksMore
import PyProof.RowDictHeap
import KE.KItemsList
import PyProof.Draws
import PyProof.SetScanFacts
import PyProof.TupleKey
import PyProof.IsRules
import PyProof.FString5
import PyProof.StrLawsIn
import PyProof.Rows.StrLawsPart
import PyProof.StrLawsChain
import PyProof.Rows.StrIntSpec
import PyProof.StrLawsTight
import PyProof.Rows.ReprOcc
import PySem.Challenge.RW_stickytiles_k15_least_growings
set_option maxHeartbeats 8000000
set_option maxRecDepth 100000
open PySem renaming wpAny_bind→Aa,wpAny_pure→Ad,wpAny_newObj_type→AI,wpAny_holding→AK,mem_of_lookup→AO,wpAny_callSpecial?_slot→A2,wpAny_field→A5,wpAny_call_entry→Bc,wpAny_seqItems→Bo,wpAny_truthy_bool→Bp,wpAny_mono→Bs,codeAny_builtin→Bt,plainId_quiet→Bv,wpAny_rule→BL,wpAny_typeNameOfWhole_keyiter→BO,wpAny_letGo→BR,tupleKind_room_in1→BV,wpAny_setField_rec→BY,wpAny_passesOwn→BZ,wpAny_dictEntries→B5,wpAny_getItem_str_slice→Cd,wpAny_pyNext_list_item→Ci,sizeLine_eq→Cj,wpAny_pyNext_list_end→Ct,wpAny_tryCatch→Cv,wpAny_notOrdered_dict→Cw,post_val_or_str→CG,wpAny_Call_Name_kw→CL,wpAny_pyIter_list→CS,wpAny_execs_nil→C3,wpAny_typeOf→C7,pushCells_keeps→C9,wpAny_updateSeq_pair→Dh,wpAny_setField→Du,wpAny_standAt→DC,wpAny_newList→DE,wpAny_attempt→DF,wpAny_onRaise→DG,wpAny_missedRemoval_other→DO,codeAny_mono→DR,call_meetsIn→DS,wpAny_pyNext_tuple_item→DY,wpAny_dictEpoch→D9,wpAny_updateSeq→Eb,wpAny_pyNext_tuple_end→Ee,wpAny_isTrue_Compare1→En,wpAny_newTuple→Es,builtinLookup_eq_fast→Eu,wpAny_isOneOf_keyiter→Ew,wpAny_pyIter_keyiter→EF,evalPart_none→EJ,wpAny_dictSet_pairs→EO,wpAny_dictFind_heap→ES,Within→EU,seqIndex_neg→Fc,sub_AttributeError→Fe,call_function_tree→Ff,wpAny_assign_Name→Fk,wpAny_Call_method→Fp,wpAny_sequenceKey→Fs,wpAny_pyIter_enum→Fz,seqIndex_of→FG,wpAny_of_eq→FI,wpAny_Name→FV,typeIs_str→FW,call_meets→FX,call→FY
open PySem.W renaming Frag→Ab,mg_none_of→AJ,nsIn→AR,findIn→AU,keepIn→A9,fnOf→Bn,emptyDict→Bq,instObj→BK,codeIn→B6,plainGet→Cz,hasDictIn→CT,isFn→C4,makesIn→C5,plainGet_of→Dj,lookIn→Ds,callWith_K→Dx,methodObj→DI,plainOver→DJ,takerIn→D5,OpenLaw→D6,cellsFrom_some→Ef,methodCall_KW→Eo,KitAt→EK,mg_of→EL,kitx_list→Fv,kitx_dict→Fw,handedIn→FJ,kat_kind→FO,kas_ask→F7,kitOne→Gi
open PySem.Heap renaming get?_push_of_some→Ac,lt_size→Aj,get?_push_size→Am,size_push→A6,SameBut→BC,get?_update_self→BF,get?_update_other→Cn,ExtBut→El
open Option renaming bind_some→Ae,map_some→Bi,isSome_map→B3,isNone_none→Cf,getD_some→C1,isSome_some→EY,getD_none→FM,map_none→Ge,bind→GD
open Nat renaming le_refl→Af,ne_of_lt→As,le_trans→Az,lt_of_lt_of_le→AC,lt_irrefl→AN,zero_le→A0,lt_of_le_of_lt→BG,lt_trans→BU,le_of_succ_le→B4,lt_succ_self→B7,le_add_right→B8,le_succ→Cm,le_of_lt→Cs,mul_le_mul→Cy,succ_le_succ→CA,ne_of_gt→CJ,lt_succ_of_lt→CV,sub_self→C8,add_le_add_left→Dk,le_of_eq→DP,min_le_right→DU,add_mul→Em,log2_lt→FH,min_le_left→F3,not_lt_zero→F6
open List renaming length_map→Ag,getElem?_eq_getElem→Ah,getElem?_set_ne→Ai,mem_cons_of_mem→Ak,getElem?_append_left→Al,mem_cons_self→An,append_nil→Ap,append_assoc→Aq,length_cons→Ar,map_cons→Av,getD_eq_getElem?_getD→Ax,range→AA,size_toArray→AB,getElem?_map→AD,getElem?_set_self→AE,length_append→AH,find?_cons→AL,mem_append_right→AM,getElem?_append_right→AW,map_append→AZ,lookup_cons→A1,mem_of_getElem?→A3,map_map→A7,length_filter_le→A8,mem_cons→Ba,length_nil→Bb,not_mem_nil→Bd,length_set→Bj,length_take→Bl,getElem_mem→Bm,mem_append_left→Bw,replicate→Bx,take_length→BD,length_replicate→BE,take_add_one→BN,filterMap_cons→BP,toArray→BX,length_singleton→B0,any_cons→B2,filter_cons→B9,getElem?_replicate→Cc,range_succ→Cg,lookup→Ck,eq_nil_of_length_eq_zero→Co,length_range→Cq,findIdx_cons→Cr,map_nil→Cu,mergeSort_perm→CC,of_mem_zip→CF,nil_append→CI,forIn_nil→CP,getElem?_cons_zero→CQ,getElem?_set→CU,reverse_cons→CW,filter_eq_nil_iff→C0,nodup_cons→Da,getElem_of_mem→Dl,getElem?_range→Dm,map_congr_left→Do,flatten_append→Dq,zip_cons_cons→Dy,filter_append→Dz,drop_eq_getElem_cons→DL,mem_of_find?_eq_some→DN,mem_flatten→DX,pairwise_mergeSort→D2,getElem?_cons_succ→D3,forIn_cons→D7,foldl_cons→Ec,mem_filter→Ed,drop_eq_nil_of_le→Ej,countP_mono_left→Ep,mem_of_mem_take→EE,forall_mem_cons→EH,length_reverse→ER,replicate_succ→ET,filterMap_map→E3,find?_eq_none→Fh,mem_map→Fi,mem_singleton→Fj,any_eq_false→Fn,take_sublist→Fo,zip_nil_left→Fq,nodup_append→Ft,getElem?_inj→Fu,foldl_append→FA,find?_append→FB,ext_getElem?→FC,flatten_cons→FD,length→FE,length_drop→FL,countP_cons→FN,getElem_map→FP,zipIdx_cons→FQ,zipIdx_nil→F9,length_zip→Ga,filter_nil→Gc,mem_append→Gf,nodup_nil→Gg,drop_zero→Gh,mem_range→Gj,all_cons→Gn,sum_cons→Gs
open Bool renaming and_eq_true→Ao,false_ne_true→AV,false_eq_true→AX,not_eq_true'→BM,and_comm→DH,not_false→Ez,or_eq_true→FZ,and_true→Gp
open Or renaming inr→Au,inl→Aw
open Option.some renaming inj→Ay
open PySem.Value renaming ref→AF,none→Be,int→Dv,str→D4,bool→EA,type→FU,isStrOf→Gm,builtin→Gq,isInt→Gz,bytes→GA,float→GB
open PySem.NameKind renaming free→AG,cell→AQ
open PySem.PassesOwn renaming never→AS
open Array renaming length_toList→AY,getElem?_toList→BH,getD_eq_getD_getElem?→BW,toList→Gx
open PySem.Around renaming under_plainId→A4,under→DQ
open PySem.Paired renaming length→Bf,snoc→GC
open PySem.PyData renaming strOk→Bg,canLay0→Bz,canLayAll0→BA,depth→CM,eqv→De,showable→Di,intsShortAll→Dp,showableAll→DA,weightAll→DW,depthAll→D8,intsShort→FR,weight→Gv,int→GI
open Prod.mk renaming inj→Bk
open Int renaming toNat_natCast→Br,emod_lt_of_pos→BI,emod_nonneg→B1,toNat_of_nonneg→Cb,le_refl→CZ,le_trans→Df,le_of_lt→Dg,natCast_mul→F4,le_antisymm→F5
open PySem.Str renaming ofString→Bu,empty→EW
open PySem.Obj renaming mapSeq→By,data_mapFields→CN,isFreed_of_fields→Et,data_mapDictKeys→EG,cls_mapFields→Fy,mapFields→Gu
open Ne renaming symm→BB
open PyProof.Rows renaming slot_tuple_getitem→BJ,callWith_type1→BS,slot_tupleiter_next→CD,assignInOrder_cons→Dw,listUpdate_at→DD,subscriptTail_builtinR→Ei,seqEpoch_at→Ek,Subscript_→EB,entry_tupleiter_next→ED,entry_tuple_getitem→EM,args_tupleiter_next→EN,args_tuple_getitem→E4,assignInOrder_nil→Fm,lt_int→FS
open PySem.Heap.SameBut renaming update→BQ
open PySem.AutoSeq1 renaming wpAny_loadPart'→Ca
open List.Pairwise renaming nil→Cp
open Sum renaming inl→CB,inr→Dr
open Array.Perm renaming refl→CH
open PySem.Calls renaming spliced_cons→CK,callWith_builtin→CY,evalArgs_plain→C6,Name_function_global→DB,spliced_nil→DK,call_function_entry→DM
open True renaming intro→CO
open PySem.F renaming slot_dict_get→C2,args_tuple_add_2→DT,args_dict_get_2→DZ,plainAttrs_dict→D0,entry_tuple_add→D1,entry_dict_get→Eg,slot_tuple_add→Eh,slot_dict_pop→Ey
open ForInStep renaming yield→Dc
open PySem.Heap.IsList renaming «at»→Dt
open PySem.Txt renaming slice_le→DV,slice→Gk
open PySem.W.Looks renaming of_pure→Er
open PySem.W.KasFin renaming intro→EC
open PySem.P renaming truthy_str→EV
open PySem.Code renaming isFrame→EX,isGuard→Gy
open PySem.SeqAt.EqAt renaming int_int→EZ
open PySem.Heap.IsSliceOf renaming new→Fb
open PySem.Heap.IsListIter renaming «at»→Fd
open Nat.succ renaming inj→Fg
open PySem.W.UpdF renaming head→Fx
open StateT renaming run_pure→F8
open PyProof.Rows.Fr renaming set→Gb
open PySem.Heap.DictOf renaming new→Gd
open Nat.le renaming dest→GF
open PySem.W.KatTups renaming cons→GG,nil→GJ
open PyProof.Rows.SortSt renaming mk'→GH
set_option Elab.async false
set_option linter.all false
namespace L2
open PySem PySem.Spec PyProof.Rows
noncomputable abbrev Key:=Sum Int Str
def zoF:Key->Value->Bool
 | .inl k,v=>Gz k v
 | .inr x,v=>Gm x v
def keyH(w:World):Key->Int
 | .inl k=>hashInt k
 | .inr x=>hashStr w x
def zbf:∀ {k:Key} {v:Value},zoF k v=true->(∃ i t,k=CB i/\v=Dv i t)\/(∃ x t,k=Dr x/\v=D4 x t)
 | .inl i,v,h=>by
   obtain⟨t,e⟩:=Value.isInt_shape (k:=i) (v:=v) h;exact .inl ⟨i,t,rfl,e⟩
 | .inr x,v,h=>by
   obtain⟨t,e⟩:=Value.isStrOf_shape (x:=x) (v:=v) h;exact .inr ⟨x,t,rfl,e⟩
def zlJ(i:Int)(t:Tok):zoF (.inl i) (.int i t)=true:=by simp[zoF,Gz]
def zlI(x:Str)(t:Tok):zoF (.inr x) (.str x t)=true:=by simp[zoF,Gm]
def zsH(a b:Int):decide ((CB a:Key)=CB b)=(a==b):=by
 by_cases e:a=b
 . subst e;simp
 . have h:¬ (CB a:Key)=CB b:=fun q=>e (Sum.inl.inj q);rw[decide_eq_false h];exact (beq_eq_false_iff_ne.mpr e).symm
def zsE(a b:Str):decide ((Dr a:Key)=Dr b)=decide (a=b):=by
 by_cases e:a=b
 . subst e;simp
 . have h:¬ (Dr a:Key)=Dr b:=fun q=>e (Sum.inr.inj q);rw[decide_eq_false h,decide_eq_false e]
def zsG(a:Int)(b:Str):decide ((CB a:Key)=Dr b)=false:=decide_eq_false (fun q=>nomatch q)
def zsF(a:Str)(b:Int):decide ((Dr a:Key)=CB b)=false:=decide_eq_false (fun q=>nomatch q)
def zaB(prog:Program)(w:World):PySem.KeyKind prog w Key where
 is:=zoF
 hash:=keyH w
 inj:=fun v a b ha hb=>by
   rcases zbf ha with ⟨i,t,rfl,rfl⟩ | ⟨x,t,rfl,rfl⟩
   . rcases zbf hb with ⟨j,u,rfl,e⟩ | ⟨y,u,rfl,e⟩
     . injection e with e1 _;rw[e1]
     . exact nomatch e
   . rcases zbf hb with ⟨j,u,rfl,e⟩ | ⟨y,u,rfl,e⟩
     . exact nomatch e
     . injection e with e1 _;rw[e1]
 byValue:=fun k v h=>by
   rcases zbf h with ⟨i,t,rfl,rfl⟩ | ⟨x,t,rfl,rfl⟩ <;> rfl
 pyHash:=fun hv h=>by
   rcases zbf hv with ⟨i,t,rfl,rfl⟩ | ⟨x,t,rfl,rfl⟩
   . exact wpAny_pyHash_int h
   . exact wpAny_pyHash_str h
 eqBool:=fun hu hv h=>by
   rcases zbf hu with ⟨i,t,rfl,rfl⟩ | ⟨x,t,rfl,rfl⟩
   . rcases zbf hv with ⟨j,u,rfl,rfl⟩ | ⟨y,u,rfl,rfl⟩
     . rw[zsH] at h;exact wpAny_eqBool_int h
     . rw[zsG] at h;exact SeqAt.EqAt.int_str i t y u _ _ _ _ h
   . rcases zbf hv with ⟨j,u,rfl,rfl⟩ | ⟨y,u,rfl,rfl⟩
     . rw[zsF] at h;exact SeqAt.EqAt.str_int x t j u _ _ _ _ h
     . rw[zsE] at h;exact wpAny_eqBool_str h
 «strs»:=fun k x t v h=>by
   rcases zbf h with ⟨i,u,rfl,e⟩ | ⟨y,u,rfl,e⟩
   . exact nomatch e
   . injection e with e1 _
     subst e1
     cases v <;> rfl
def ziz(prog:Program)(w:World)(i:Int)(t:Tok):(zaB prog w).is (.inl i) (.int i t)=true:=zlJ i t
def ziy(prog:Program)(w:World)(x:Str)(t:Tok):(zaB prog w).is (.inr x) (.str x t)=true:=zlI x t
inductive V where
 | non | bl (b:Bool) | int (i:Int) | str (x:Str) | byt (b:Array UInt8) | flt (b:UInt64) | ref (a:Addr) | ty (n:String)
 deriving DecidableEq
def RelV:V->Value->Prop
 | .non,u=>u=Be
 | .bl b,u=>u=EA b
 | .int i,u=>∃ t,u=Dv i t
 | .str x,u=>∃ t,u=D4 x t
 | .byt b,u=>∃ t,u=GA b t
 | .flt b,u=>∃ t,u=GB b t
 | .ref a,u=>u=AF a
 | .ty n,u=>u=FU n
noncomputable abbrev Vals:List V->List Value->Prop:=Paired RelV
def Vals.length{xs:List V}{us:List Value}(r:Vals xs us):xs.length=us.length:=Bf r
def Vals.get:∀ {xs:List V} {us:List Value} {i:Nat} {x:V},Vals xs us->xs[i]?=some x->∃ u,us[i]?=some u/\RelV x u
 | _,_,_,_,.nil,e=>by simp at e
 | _,_,0,_,.cons r _,e=>by simp at e;subst e;exact⟨_,rfl,r⟩
 | _,_,i+1,x,.cons _ t,e=>by
   obtain⟨u,h1,h2⟩:=Vals.get (i:=i) (x:=x) t (by simpa using e);exact⟨u,by simpa using h1,h2⟩
def Vals.set{x:V}{u:Value}(r:RelV x u):∀ {xs:List V} {us:List Value} (i:Nat),Vals xs us->Vals (xs.set i x) (us.set i u)
 | _,_,_,.nil=>.nil
 | _,_,0,.cons _ t=>.cons r t
 | _,_,i+1,.cons q t=>.cons q (Vals.set r i t)
def Vals.append:∀ {xs ys:List V} {us ws:List Value},Vals xs us->Vals ys ws->Vals (xs++ys) (us++ws)
 | _,_,_,_,.nil,s=>s
 | _,_,_,_,.cons r t,s=>.cons r (Vals.append t s)
def Vals.take:∀ {xs:List V} {us:List Value} (n:Nat),Vals xs us->Vals (xs.take n) (us.take n)
 | _,_,0,_=>.nil
 | _,_,_+1,.nil=>.nil
 | _,_,n+1,.cons r t=>.cons r (Vals.take n t)
def Vals.drop:∀ {xs:List V} {us:List Value} (n:Nat),Vals xs us->Vals (xs.drop n) (us.drop n)
 | _,_,0,r=>r
 | _,_,_+1,.nil=>.nil
 | _,_,n+1,.cons _ t=>Vals.drop n t
def RelO:Option V->Option Value->Prop
 | some v,some u=>RelV v u
 | none,none=>True
 | _,_=>False
def KV{κ:Type}:List (κ×V)->List (κ×Value)->Prop:=Paired fun (p:κ×V) (q:κ×Value)=>p.1=q.1/\RelV p.2 q.2
def kV:Key->V
 | .inl i=>.int i
 | .inr x=>.str x
inductive HO where
  | lst (xs:List V)
  | tup (xs:List V)
  | dK (kvs:List (Key×V)) | dT (kvs:List (List Key×V))
  | set (S:Int->Bool) (n:Nat)
  | ins (C dx:Addr) (fs:List (Str×V))
  | own (x:Addr)
  | xd (fs:List (Str×V))
  | met (f x:Addr)
  | rng (lo hi:Int)
  | frz (o:Obj) (u:HO)
  | tbl (ps:Array Value)
  | ext (φ:Heap->Prop)
noncomputable abbrev Hp:=Addr->Option HO
def upd(H:Hp)(a:Addr)(o:HO):Hp:=fun b=>if b=a then some o else H b
def zbi{H:Hp}{a:Addr}{o:HO}:upd H a o a=some o:=by unfold upd;rw[if_pos rfl]
def zat{H:Hp}{a b:Addr}{o:HO}(h:b≠a):upd H a o b=H b:=by unfold upd;rw[if_neg h]
def zq2{H:Hp}{a b:Addr}{o u:HO}(h:H a=some o)(h':H b=some u)(d:o≠u):a≠b:=by
 intro e;subst e;rw[h] at h';exact d (Ay h')
def zau{H:Hp}{a b:Addr}{o:HO}(h:H a=some o)(h':H b=none):a≠b:=by
 intro e;subst e;rw[h] at h';cases h'
def zcX(h:Heap)(a:Addr)(items:Array Value):Prop:=∃ o,h.get? a=some o/\o.cls=.type "tuple"/\o.dict=none/\∃ n,o.data=.seq items n
def zcX.t{h:Heap}{a:Addr}{items:Array Value}(x:zcX h a items):IsTup h a items:=let ⟨o,ho,hc,_,r⟩:=x;⟨o,ho,hc,r⟩
def zcX.keeps{h h':Heap}{a:Addr}{items:Array Value}(x:zcX h a items)(hk:∀ b o,h.get? b=some o->h'.get? b=some o):zcX h' a items:=let ⟨o,ho,r⟩:=x;⟨o,hk a o ho,r⟩
def zcX.new(h:Heap)(items:Array Value):zcX (h.push { cls:=.type "tuple",data:=.seq items }) h.objs.size items:=⟨_,Am _ rfl,rfl,rfl,0,rfl⟩
section
variable (P:Program) (w:World)
def zcW(H:Hp)(h:Heap)(a:Addr):HO->Prop
 | .lst xs=>xs.length<=sizeLine/\∃ (its:List Value) (n:Nat),Vals xs its/\h.get? a=some { cls:=.type "list",data:=.seq its.toArray n }
 | .tup xs=>xs.length<=sizeLine/\∃ its:List Value,Vals xs its/\zcX h a its.toArray
 | .dK kvs=>kvs.length<=sizeLine/\(a==sysModules)=false/\∃ vs,KV kvs vs/\h.DictOf (zaB P w) a vs
 | .dT kvs=>kvs.length<=sizeLine/\(a==sysModules)=false/\∃ xs:List (List Key×Addr×Value),
     Paired (fun (p:List Key×V) (q:List Key×Addr×Value)=>p.1=q.1/\H q.2.1=some (.tup (p.1.map kV))/\RelV p.2 q.2.2) kvs xs /\
     ∃ o es ep,h.get? a=some o/\o.ExactDict/\o.data=.dict es ep/\es.toList=xs.map (entryOfKey (tupleKind (zaB P w)))/\(xs.map (·.1)).Nodup
 | .set S n=>h.SetOf (intKind P w) a S n
 | .ins C dx fs=>H dx=some (.own a)/\fs.length<=1000/\dx≠a/\h.get? a=some (BK C dx) /\
     ∃ mA,h.Ns1 dx mA/\(∀ f,RelO (fs.lookup f) (mA f))/\EU mA (fs.map (·.1))
 | .own _=>∃ o,h.get? a=some o
 | .xd fs=>∃ mA,h.Ns1 a mA/\∀ f,RelO (fs.lookup f) (mA f)
 | .rng lo hi=>∃ t u v,h.get? a=some { cls:=.type "range",data:=.fields #[.int lo t,.int hi u,.int 1 v] }
 | .frz o u=>h.get? a=some o/\zcW H h a u
 | .tbl ps=>h.get? a=some { cls:=.none,data:=.fields ps }
 | .met f x=>h.get? a=some (DI (.ref f) (.ref x))
 | .ext φ=>φ h/\(∃ o,h.get? a=some o)/\∀ h1 h2:Heap,φ h1->(∀ o,h1.get? a=some o->h2.get? a=some o)->φ h2
def HOk(H:Hp)(h:Heap):Prop:=∀ a o,H a=some o->zcW P w H h a o
end
section
variable {P:Program} {w:World} {H H':Hp} {h h':Heap} {a:Addr} {o:HO}
def zcW.lt(x:zcW P w H h a o):a < h.objs.size:=by
 cases o with
 | lst xs=>obtain⟨_,_,_,_,e⟩:=x;exact Aj e
 | tup xs=>obtain⟨_,_,_,p⟩:=x;exact p.t.lt
 | dK kvs=>obtain⟨_,_,_,_,o,_,_,e,_⟩:=x;exact Aj e
 | dT kvs=>obtain⟨_,_,_,_,o,_,_,e,_⟩:=x;exact Aj e
 | set S n=>obtain⟨o,_,_,_,e,_⟩:=x;exact Aj e
 | ins C dx fs=>obtain⟨_,_,_,e,_⟩:=x;exact Aj e
 | own y=>obtain⟨_,e⟩:=x;exact Aj e
 | xd fs=>obtain⟨_,⟨_,_,_,e,_⟩,_⟩:=x;exact Aj e
 | rng lo hi=>obtain⟨_,_,_,e⟩:=x;exact Aj e
 | frz ob u=>obtain⟨e,_⟩:=x;exact Aj e
 | tbl ps=>exact Aj (show h.get? a=some _ from x)
 | met f y=>exact Aj (show h.get? a=some _ from x)
 | ext φ=>obtain⟨_,⟨_,e⟩,_⟩:=x;exact Aj e
def Paired.mapP{α β:Type}{F G:α->β->Prop}:∀ {l₁:List α} {l₂:List β},Paired F l₁ l₂->(∀ a b,F a b->G a b)->Paired G l₁ l₂
 | _,_,.nil,_=>.nil
 | _,_,.cons r t,f=>.cons (f _ _ r) (Paired.mapP t f)
def zcW.stay(x:zcW P w H h a o)(k:∀ b u,(b=a\/H b=some (.own a))->h.get? b=some u->h'.get? b=some u)
   (ho:∀ b,H b=some (.own a)->H' b=some (.own a)) (ht:∀ b xs,H b=some (.tup xs)->H' b=some (.tup xs)):zcW P w H' h' a o:=by
 induction o with
 | lst xs=>obtain⟨z,its,n,r,e⟩:=x;exact⟨z,its,n,r,k _ _ (.inl rfl) e⟩
 | tup xs=>obtain⟨z,its,r,ob,e,c⟩:=x;exact⟨z,its,r,ob,k _ _ (.inl rfl) e,c⟩
 | dK kvs=>obtain⟨z,y,vs,r,ob,es,ep,e,c⟩:=x;exact⟨z,y,vs,r,ob,es,ep,k _ _ (.inl rfl) e,c⟩
 | dT kvs =>
   obtain⟨z,y,xs,r,ob,es,ep,e,c⟩:=x;exact⟨z,y,xs,Paired.mapP r fun p q z=>⟨z.1,ht _ _ z.2.1,z.2.2⟩,ob,es,ep,k _ _ (.inl rfl) e,c⟩
 | set S n=>obtain⟨ob,es,ep,t,e,c⟩:=x;exact⟨ob,es,ep,t,k _ _ (.inl rfl) e,c⟩
 | ins C dx fs =>
   obtain⟨d,z,ne,e,mA,⟨od,es,ep,e2,c⟩,r⟩:=x;exact⟨ho _ d,z,ne,k _ _ (.inl rfl) e,mA,⟨od,es,ep,k _ _ (.inr d) e2,c⟩,r⟩
 | own y=>obtain⟨ob,e⟩:=x;exact⟨ob,k _ _ (.inl rfl) e⟩
 | xd fs=>obtain⟨mA,⟨od,es,ep,e,c⟩,r⟩:=x;exact⟨mA,⟨od,es,ep,k _ _ (.inl rfl) e,c⟩,r⟩
 | rng lo hi=>obtain⟨t,u,v,e⟩:=x;exact⟨t,u,v,k _ _ (.inl rfl) e⟩
 | frz ob u ih=>obtain⟨e,q⟩:=x;exact⟨k _ _ (.inl rfl) e,ih q⟩
 | tbl ps =>
   have e:h.get? a=some { cls:=.none,data:=.fields ps }:=x;show h'.get? a=some { cls:=.none,data:=.fields ps };exact k a _ (.inl rfl) e
 | met f y =>
   have e:h.get? a=some (DI (.ref f) (.ref y)):=x;show h'.get? a=some (DI (.ref f) (.ref y));exact k a _ (.inl rfl) e
 | ext φ=>obtain⟨p,⟨o,e⟩,st⟩:=x;exact⟨st _ _ p fun o q=>k _ _ (.inl rfl) q,⟨o,k _ _ (.inl rfl) e⟩,st⟩
def HOk.lt(x:HOk P w H h)(e:H a=some o):a < h.objs.size:=(x a o e).lt
def HOk.fresh(x:HOk P w H h)(e:h.objs.size<=a):H a=none:=by
 cases q:H a with
 | none=>rfl
 | some u=>exact absurd (AC (x.lt q) e) (AN _)
def HOk.kept(x:HOk P w H h)(k:∀ b u,h.get? b=some u->h'.get? b=some u):HOk P w H h':=fun a o e =>
 (x a o e).stay (fun b u _ q=>k b u q) (fun _ q=>q) fun _ _ q=>q
def HOk.laid(x:HOk P w H h)(k:∀ b u,h.get? b=some u->h'.get? b=some u)(hp:h.objs.size<=a)(new:zcW P w (upd H a o) h' a o):HOk P w (upd H a o) h':=fun b u e=>by
 have hn:=x.fresh hp
 by_cases hb:b=a
 . subst hb;rw[zbi] at e;cases e;exact new
 . rw[zat hb] at e;exact (x b u e).stay (fun c v _ q=>k c v q) (fun c q=>by rw[zat (zau q hn)];exact q) fun c xs q=>by rw[zat (zau q hn)];exact q
end
def Rd(H:Hp)(a:Addr)(u:HO):Prop:=H a=some u\/∃ o,H a=some (.frz o u)
def Rd.ok{P:Program}{w:World}{H:Hp}{h:Heap}{a:Addr}{u:HO}(r:Rd H a u)(x:HOk P w H h):zcW P w H h a u:=by
 rcases r with r | ⟨o,r⟩
 . exact x a u r
 . obtain⟨_,q⟩:=x a _ r;exact q
def Mut:Option HO->Prop
 | some (.lst _)=>True
 | some (.dK _)=>True
 | some (.dT _)=>True
 | some (.set _ _)=>True
 | some (.ins _ _ _)=>True
 | some (.ext _)=>True
 | _=>False
section
variable {P:Program} {w:World} {H:Hp} {h h':Heap} {x e:Addr} {o':HO}
def HOk.write(ok:HOk P w H h)(mu:Mut (H x))(he:e=x\/H e=some (.own x))(k:∀ b u,b≠e->h.get? b=some u->h'.get? b=some u)(heo:∃ u,h'.get? e=some u)
   (new:zcW P w (upd H x o') h' x o'):HOk P w (upd H x o') h':=fun b u q=>by
 have nown:∀ c y,H c=some (.own y)->c≠x:=fun c y r z=>by subst z;rw[r] at mu;exact mu
 have ntup:∀ c xs,H c=some (.tup xs)->c≠x:=fun c xs r z=>by subst z;rw[r] at mu;exact mu
 by_cases hb:b=x
 . subst hb;rw[zbi] at q;cases q;exact new
 . rw[zat hb] at q
   by_cases hbe:b=e
   . have q':H b=some (.own x):=by
       rcases he with z | z
       . exact absurd (hbe.trans z) hb
       . rw[hbe];exact z
     rw[q] at q';cases q';obtain⟨v,hv⟩:=heo;exact⟨v,by rw[hbe];exact hv⟩
   . refine (ok b u q).stay (fun c v hc r=>k c v ?_ r) (fun c r=>by rw[zat (nown c b r)];exact r) fun c xs r=>by rw[zat (ntup c xs r)];exact r
     rcases hc with rfl | hc
     . exact hbe
     . rintro rfl
       rcases he with z | z
       . exact nown c b hc z
       . rw[hc] at z;cases z;exact hb rfl
end
structure Un(fs ex:List Addr)(H H':Hp)(h h':Heap):Prop where
 keep:∀ b o,h.get? b=some o->H b=none->b ∉ fs->b ∉ ex->h'.get? b=some o
 slot:∀ b o,h.get? b=some o->H b=none->b∈fs->b ∉ ex->∃ sl,h'.get? b=some { o with slots:=sl }
 free:∀ b o,h.get? b=some o->H b=none->b ∉ ex->H' b=none
 there:∀ b o,h.get? b=some o->b ∉ ex->∃ o',h'.get? b=some o'
 tups:∀ b xs,H b=some (.tup xs)->H' b=some (.tup xs)
 frzs:∀ b o u,H b=some (.frz o u)->H' b=some (.frz o u)
 tbls:∀ b ps,H b=some (.tbl ps)->∃ more,H' b=some (.tbl (ps++more))
section
variable {fs fs' ex ex':List Addr} {H H1 H2:Hp} {h h1 h2 h':Heap} {a x e:Addr} {o:HO}
def Un.any(u:Un fs ex H H1 h h1){b:Addr}{ob:Obj}(q:h.get? b=some ob)(n:H b=none)(hx:b ∉ ex):∃ sl,h1.get? b=some { ob with slots:=sl }:=by
 by_cases hb:b∈fs
 . exact u.slot b ob q n hb hx
 . exact⟨ob.slots,u.keep b ob q n hb hx⟩
def Un.kept(k:∀ b u,h.get? b=some u->h'.get? b=some u):Un fs ex H H h h' :=
 ⟨fun b ob q _ _ _=>k b ob q,fun b ob q _ _ _=>⟨ob.slots,k b ob q⟩,fun _ _ _ n _=>n,fun b ob q _=>⟨ob,k b ob q⟩,fun _ _ q=>q,fun _ _ _ q=>q,fun _ ps q=>⟨#[],by rw[q];simp⟩⟩
def Un.refl:Un fs ex H H h h:=Un.kept fun _ _ q=>q
def Un.laid(k:∀ b u,h.get? b=some u->h'.get? b=some u)(hp:h.objs.size<=a)(hn:H a=none):Un fs ex H (upd H a o) h h' where
 keep:=fun b u q _ _ _=>k b u q
 slot:=fun b u q _ _ _=>⟨u.slots,k b u q⟩
 free:=fun b u q n _=>by rw[zat (As (AC (Aj q) hp))];exact n
 there:=fun b u q _=>⟨u,k b u q⟩
 tups:=fun b xs q=>by rw[zat (zau q hn)];exact q
 frzs:=fun b u xs q=>by rw[zat (zau q hn)];exact q
 tbls:=fun b ps q=>⟨#[],by rw[zat (zau q hn),q];simp⟩
def Un.write(mu:Mut (H x))(he:e=x\/H e=some (.own x))(k:∀ b u,b≠e->h.get? b=some u->h'.get? b=some u)(heo:∃ u,h'.get? e=some u):Un fs ex H (upd H x o) h h':=by
 have hx:∀ b,H b=none->b≠x:=fun b n z=>by subst z;rw[n] at mu;exact mu
 have hb:∀ b,H b=none->b≠e:=fun b n z=>by
   subst z
   rcases he with r | r
   . exact hx b n r
   . rw[n] at r;cases r
 have hm:∀ b u,H b=some u->¬ Mut (some u)->b≠x:=fun b u q nm z=>by subst z;rw[q] at mu;exact nm mu
 refine⟨fun b u q n _ _=>k b u (hb b n) q,fun b u q n _ _=>⟨u.slots,k b u (hb b n) q⟩,fun b u q n _=>by rw[zat (hx b n)];exact n,fun b u q _=>?_,
   fun b xs q=>by rw[zat (hm b _ q fun z=>z)];exact q,fun b u xs q=>by rw[zat (hm b _ q fun z=>z)];exact q,fun b ps q=>⟨#[],by rw[zat (hm b _ q fun z=>z),q];simp⟩⟩
 by_cases hbe:b=e
 . subst hbe;exact heo
 . exact⟨u,k b u hbe q⟩
end
def trk(h:Heap)(H:Hp):List Addr:=(AA h.objs.size).filter fun a=>(H a).isSome
def hidT(h:Heap)(H:Hp):Heap:=PySem.W.hideAll h (trk h H)
def zlN(h:Heap)(H:Hp):(hidT h H).objs.size=h.objs.size:=PySem.W.hideAll_size _ _
def zn6{h:Heap}{H:Hp}{b:Addr}{o:Obj}(e:h.get? b=some o)(n:H b=none):(hidT h H).get? b=some o :=
 PySem.W.hideAll_get _ e fun hm=>by
   have q:(H b).isSome=true:=(List.mem_filter.mp hm).2;rw[n] at q;simp at q
def zpR{h:Heap}{H:Hp}{b:Addr}{o:Obj}(e:(hidT h H).get? b=some o):h.get? b=some o/\H b=none:=by
 have e':h.get? b=some o:=PySem.W.of_hideAll (trk h H) e;refine⟨e',?_⟩
 cases q:H b with
 | none=>rfl
 | some x =>
   have hm:b∈trk h H:=List.mem_filter.mpr ⟨List.mem_range.mpr (Aj e'),by simp[q]⟩;have z:(hidT h H).get? b=none:=PySem.W.hideAll_none (trk h H) hm;rw[z] at e;cases e
def zel(g h:Heap)(L:Addr):List (Addr×Obj):=(AA h.objs.size).filterMap fun a=>if a=L\/(g.get? a).isSome=true then none else (h.get? a).map fun o=>(a,o)
def zdl{g h:Heap}{L a:Addr}{o:Obj}(h1:a≠L)(h2:g.get? a=none)(h3:h.get? a=some o):(a,o)∈zel g h L :=
 List.mem_filterMap.mpr ⟨a,List.mem_range.mpr (Aj h3),by simp[h1,h2,h3]⟩
def zfq{g h:Heap}{L:Addr}{p:Addr×Obj}(hp:p∈zel g h L):p.1≠L/\g.get? p.1=none/\h.get? p.1=some p.2:=by
 obtain⟨b,_,e⟩:=List.mem_filterMap.mp hp
 split at e
 . cases e
 . rename_i hn
   cases q:h.get? b with
   | none=>rw[q] at e;simp at e
   | some u =>
     rw[q] at e;simp only[Bi,Option.some.injEq] at e;subst e;refine⟨fun z=>hn (.inl z),?_,q⟩;show g.get? b=none
     cases r:g.get? b with
     | none=>rfl
     | some v=>exact (hn (.inr (by simp[r]))).elim
def zg5{g h:Heap}{L:Addr}:News g L h (zel g h L):=fun p hp=>let ⟨a,b,c⟩:=zfq hp;⟨c,a,b⟩
structure Mod(K:Ab)(mg:Str->Option Value)(base:Heap):Prop where
 kin:K.In base
 glob:base.Ns mainGlobals mg
 blt:∃ mb,base.Ns builtinsNs mb/\∀ x:Str,x≠"__name__"->mb x=bootBuiltins x
 nolimit:base.NoLimit
structure Cx where
 prog:Program
 w:World
 K:Ab
 mg:Str->Option Value
 base:Heap
 A:Around
 N:List Str
 s₀:Shared
 H₀:Hp
 env:Env
 outer:List Env
 stack:List Env
 ex:List Addr
 fn:Str->Bool
 calm:Bool
 pn:List (Addr×Obj)
 xe:Value->Shared->Prop
def frs(l:List Env):List Addr:=l.filterMap (·.frame)
noncomputable abbrev Cx.fs (X:Cx):List Addr:=frs X.outer
def Vis(sc:Scope)(x:Str):Prop:=sc.names.lookup x=some .local\/sc.names.lookup x=some .cell\/sc.names.lookup x=some .free
def Loc(sc:Scope)(x:Str):Prop:=sc.names.lookup x=some .local\/sc.names.lookup x=some .cell
def Look(env:Env)(h:Heap)(m:Str->Option Value)(x:Str)(u:Value):Prop :=
 (env.kindOf x=some .local/\m x=some u)\/((env.kindOf x=some .cell\/env.kindOf x=some .free)/\∃ c,env.cells.lookup x=some c/\h.IsCell c (some u))
structure Cx.Ok(X:Cx):Prop where
 mod:Mod X.K X.mg X.base
 kind:X.env.scope.kind=.function
 glob:X.env.globals=mainGlobals
 blt:X.env.builtins=builtinsNs
 above:X.s₀.heap.objs.size<=X.env.locals
 inj:∀ x y c,X.env.cells.lookup x=some c->X.env.cells.lookup y=some c->x=y
 has:∀ x,(X.env.kindOf x=some .cell\/X.env.kindOf x=some .free)->∃ c,X.env.cells.lookup x=some c
 cab:∀ x c,X.fn x=true->X.env.cells.lookup x=some c->X.s₀.heap.objs.size<=c
 hd:X.calm=true->X.A.handled=none
 frames:X.A.frames=some X.stack
 stk:X.stack=X.outer\/(X.stack=X.env::X.outer/\X.env.frame=some X.env.locals)
 exf:∀ b∈X.ex,b≠X.env.locals/\∀ x c,X.env.cells.lookup x=some c->c≠b
 bs:∀ b o,X.base.get? b=some o->X.s₀.heap.get? b=some o/\X.H₀ b=none
 bsz:X.base.objs.size<=X.s₀.heap.objs.size
 noex:∀ b o,X.base.get? b=some o->b ∉ X.ex
 exfs:∀ b∈X.ex,b ∉ X.fs
 funs:X.s₀.heap.FunFrames X.base X.outer
 frf:∀ b∈X.fs,X.H₀ b=none
structure Inv(X:Cx)(pins:List (Addr×Obj))(σ:List (Option V))(H:Hp)(s:Shared):Prop where
 ok:X.Ok
 os:s.os=X.s₀.os
 bare:AllBare s.gens
 base:Un X.fs X.ex X.H₀ H X.s₀.heap s.heap
 loc:∃ m,s.heap.Ns X.env.locals m/\∀ (i:Nat) (x:Str) (v:V),X.N[i]?=some x->σ[i]?=some (some v)->Vis X.env.scope x->∃ u,RelV v u/\Look X.env s.heap m x u
 cell:∀ x c,X.env.cells.lookup x=some c->∃ v,s.heap.IsCell c v
 free:H X.env.locals=none
 freeC:∀ x c,X.env.cells.lookup x=some c->H c=none
 pin:∀ p∈X.pn++pins,s.heap.get? p.1=some p.2/\H p.1=none/\p.1≠X.env.locals/\p.1 ∉ X.fs/\∀ v,p.2.data≠.cell v
 hok:HOk X.prog X.w H s.heap
 len:σ.length=X.N.length
section
variable {X:Cx} {pins:List (Addr×Obj)} {σ:List (Option V)} {H H':Hp} {s:Shared} {h':Heap}
def Cx.Ok.nofr(ok:X.Ok){b:Addr}{o:Obj}(e:X.base.get? b=some o):b ∉ X.fs:=fun hb=>by
 have:=(ok.funs.mem hb).1;rw[e] at this;cases this
def Inv.bs(I:Inv X pins σ H s):∀ b o,X.base.get? b=some o->s.heap.get? b=some o/\H b=none:=fun b o e =>
 ⟨I.base.keep b o (I.ok.bs b o e).1 (I.ok.bs b o e).2 (I.ok.nofr e) (I.ok.noex b o e),I.base.free b o (I.ok.bs b o e).1 (I.ok.bs b o e).2 (I.ok.noex b o e)⟩
def Inv.bk(I:Inv X pins σ H s):∀ b o,X.base.get? b=some o->s.heap.get? b=some o:=fun b o e=>(I.bs b o e).1
def Inv.mod(I:Inv X pins σ H s):Mod X.K X.mg X.base:=I.ok.mod
def Inv.kIn(I:Inv X pins σ H s):X.K.In s.heap:=I.ok.mod.kin.keeps I.bk
def Inv.fr(I:Inv X pins σ H s):∃ m,Fr X.base X.env.locals s.heap m :=
 let ⟨m,hn,_⟩:=I.loc
 ⟨m,hn,I.bk,Az I.ok.bsz I.ok.above⟩
def Inv.lt(I:Inv X pins σ H s):X.env.locals < s.heap.objs.size:=let ⟨_,hn,_⟩:=I.loc;hn.lt
def Inv.sz(I:Inv X pins σ H s):X.s₀.heap.objs.size<=s.heap.objs.size:=Az I.ok.above (Cs I.lt)
def Inv.nofs(I:Inv X pins σ H s){a:Addr}(h:s.heap.objs.size<=a):a ∉ X.fs:=fun hb=>by
 obtain⟨_,o,ho,_⟩:=I.ok.funs.mem hb;exact absurd (AC (Aj ho) (Az I.sz h)) (AN _)
def Inv.cne(I:Inv X pins σ H s):∀ x c,X.env.cells.lookup x=some c->c≠X.env.locals:=fun x c e z=>by
 obtain⟨v,o,ho,hd⟩:=I.cell x c e;obtain⟨m,⟨o',es,ep,ho',hd',_⟩,_⟩:=I.loc;rw[z,ho'] at ho;cases ho;rw[hd'] at hd;cases hd
def Inv.funs(I:Inv X pins σ H s):s.heap.FunFrames X.base X.outer:=by
 have all:∀ (l:List Env),(∀ b∈frs l,b∈X.fs)->X.s₀.heap.FunFrames X.base l->s.heap.FunFrames X.base l:=by
   intro l
   induction l with
   | nil=>intro _ _;trivial
   | cons env r ih =>
     intro hs hl;obtain⟨hk,⟨L,o,hf,hn,ho,hd⟩,hr⟩:=hl;have hL:L∈X.fs:=hs L (by unfold frs;rw[BP,hf];exact An);obtain⟨sl,e⟩:=I.base.slot L o ho (I.ok.frf L hL) hL fun z=>I.ok.exfs L z hL;exact⟨hk,⟨L,_,hf,hn,e,hd⟩,ih (fun b hb=>hs b (by unfold frs;rw[BP,hf];exact Ak _ hb)) hr⟩
 exact all X.outer (fun _ hb=>hb) I.ok.funs
def Inv.stack(I:Inv X pins σ H s):s.heap.FunFrames X.base X.stack:=by
 rcases I.ok.stk with e | ⟨e,hf⟩
 . rw[e];exact I.funs
 . rw[e];obtain⟨m,hn,_⟩:=I.loc;refine .cons (by rw[I.ok.kind];decide) hf hn ?_ I.funs;exact Heap.get?_none_of_le (Az I.ok.bsz I.ok.above)
def Inv.stkSub(I:Inv X pins σ H s):∀ b∈frs X.stack,b∈X.env.locals::X.fs:=fun b hb=>by
 rcases I.ok.stk with e | ⟨e,hf⟩
 . rw[e] at hb;exact Ak _ hb
 . rw[e] at hb;unfold frs at hb;rw[BP,hf] at hb;exact hb
def Inv.stkFree(I:Inv X pins σ H s):∀ b∈frs X.stack,H b=none:=fun b hb=>by
 rcases List.mem_cons.mp (I.stkSub b hb) with e | hb
 . rw[e];exact I.free
 . obtain⟨_,o,ho,_⟩:=I.ok.funs.mem hb;exact I.base.free b o ho (I.ok.frf b hb) fun z=>I.ok.exfs b z hb
def Inv.step{g':Array GenState}{t':Nat}{d':Drawn}{ch:List Addr}(I:Inv X pins σ H s)
   (hch:∀ b∈ch,(b∈X.ex\/X.s₀.heap.objs.size<=b)/\b≠X.env.locals/\(∀ x c,X.env.cells.lookup x=some c->c≠b)/\∀ p∈X.pn++pins,p.1≠b)
   (keep:∀ b o,b≠X.env.locals->b ∉ X.fs->b ∉ ch->s.heap.get? b=some o->H b=none->h'.get? b=some o)
   (slot:∀ b o,b≠X.env.locals->b∈X.fs->b ∉ ch->s.heap.get? b=some o->H b=none->∃ sl,h'.get? b=some { o with slots:=sl }) (free:∀ b o,b ∉ ch->s.heap.get? b=some o->H b=none->H' b=none)
   (there:∀ b o,b ∉ ch->s.heap.get? b=some o->∃ o',h'.get? b=some o')
   (tups:∀ b xs,H b=some (.tup xs)->H' b=some (.tup xs)) (frzs:∀ b o u,H b=some (.frz o u)->H' b=some (.frz o u)) (tbls:∀ b ps,H b=some (.tbl ps)->∃ more,H' b=some (.tbl (ps++more)))
   (ns:∀ m,s.heap.Ns X.env.locals m->h'.Ns X.env.locals m) (hok:HOk X.prog X.w H' h') (hg:AllBare g') :
   Inv X pins σ H' { s with heap:=h',gens:=g',drawn:=d',toks:=t' }:=by
 have neL:∀ b o,X.s₀.heap.get? b=some o->b≠X.env.locals:=fun b o e=>As (AC (Aj e) I.ok.above);have neC:∀ b o,X.s₀.heap.get? b=some o->b ∉ X.ex->b ∉ ch:=fun b o e hx hb=>by
   rcases (hch b hb).1 with z | z
   . exact hx z
   . exact absurd (AC (Aj e) z) (AN _)
 have cellK:∀ x c,X.env.cells.lookup x=some c->∀ v,s.heap.IsCell c v->h'.IsCell c v:=by
   rintro x c e v ⟨o,ho,hd⟩;have nch:c ∉ ch:=fun z=>(hch c z).2.2.1 x c e rfl
   by_cases hc:c∈X.fs
   . obtain⟨sl,q⟩:=slot c o (I.cne x c e) hc nch ho (I.freeC x c e);exact⟨_,q,hd⟩
   . exact⟨o,keep c o (I.cne x c e) hc nch ho (I.freeC x c e),hd⟩
 refine⟨I.ok,I.os,hg,⟨fun b o e n hb hx=>?_,fun b o e n hb hx=>?_,fun b o e n hx=>?_,fun b o e hx=>?_,fun b xs e=>tups b xs (I.base.tups b xs e),fun b o xs e=>frzs b o xs (I.base.frzs b o xs e),fun b ps e=>?_⟩,?_,fun x c e=>?_,?_,fun x c e=>?_,fun p hp=>?_,hok,I.len⟩
 . exact keep b o (neL b o e) hb (neC b o e hx) (I.base.keep b o e n hb hx) (I.base.free b o e n hx)
 . obtain⟨sl,e1⟩:=I.base.slot b o e n hb hx;obtain⟨sl',e2⟩:=slot b _ (neL b o e) hb (neC b o e hx) e1 (I.base.free b o e n hx);exact⟨sl',e2⟩
 . obtain⟨o',e1⟩:=I.base.there b o e hx;exact free b o' (neC b o e hx) e1 (I.base.free b o e n hx)
 . obtain⟨o',e1⟩:=I.base.there b o e hx;exact there b o' (neC b o e hx) e1
 . obtain⟨m1,e1⟩:=I.base.tbls b ps e;obtain⟨m2,e2⟩:=tbls b _ e1;exact⟨m1++m2,by rw[e2,Array.append_assoc]⟩
 . obtain⟨m,hn,hl⟩:=I.loc;refine⟨m,ns m hn,fun i x v e1 e2 e3=>?_⟩;obtain⟨u,r,l⟩:=hl i x v e1 e2 e3;refine⟨u,r,?_⟩
   rcases l with l | ⟨k,c,e,z⟩
   . exact .inl l
   . exact .inr ⟨k,c,e,cellK x c e _ z⟩
 . obtain⟨v,z⟩:=I.cell x c e;exact⟨v,cellK x c e v z⟩
 . obtain⟨m,⟨o,_,_,ho,_⟩,_⟩:=I.loc;exact free _ o (fun z=>(hch _ z).2.1 rfl) ho I.free
 . obtain⟨v,o,ho,hd⟩:=I.cell x c e;exact free c o (fun z=>(hch c z).2.2.1 x c e rfl) ho (I.freeC x c e)
 . obtain⟨e,n,ne,nf,d⟩:=I.pin p hp;have nch:p.1 ∉ ch:=fun z=>(hch p.1 z).2.2.2 p hp rfl;exact⟨keep p.1 p.2 ne nf nch e n,free p.1 p.2 nch e n,ne,nf,d⟩
def Inv.un{t':Nat}(I:Inv X pins σ H s)(u:Un X.fs [] H H' s.heap h')(hok:HOk X.prog X.w H' h'):Inv X pins σ H' { s with heap:=h',toks:=t' }:=by
 obtain⟨m,⟨o,es,ep,ho,r⟩,_⟩:=id I.loc;obtain⟨sl,hL⟩:=u.any ho I.free (by simp);exact I.step (g':=s.gens) (d':=s.drawn) (ch:=[]) (fun _ z=>nomatch z) (fun b o _ hb _ e n=>u.keep b o e n hb (by simp)) (fun b o _ hb _ e n=>u.slot b o e n hb (by simp)) (fun b o _ e n=>u.free b o e n (by simp)) (fun b o _ e=>u.there b o e (by simp)) u.tups u.frzs u.tbls (fun m' hm=>by
   obtain⟨o',es',ep',ho',r'⟩:=hm;rw[ho] at ho';cases ho';exact⟨_,es',ep',hL,r'⟩) hok I.bare
def Inv.call{g':Array GenState}{t':Nat}{d':Drawn}{ch:List Addr}(I:Inv X pins σ H s)(u:Un (frs X.stack) ch H H' s.heap h')(hok:HOk X.prog X.w H' h')(hg:AllBare g')
   (hch:∀ b∈ch,(b∈X.ex\/X.s₀.heap.objs.size<=b)/\b≠X.env.locals/\(∀ x c,X.env.cells.lookup x=some c->c≠b)/\∀ p∈X.pn++pins,p.1≠b) :
   Inv X pins σ H' { s with heap:=h',gens:=g',drawn:=d',toks:=t' }:=by
 obtain⟨m,⟨o,es,ep,ho,r⟩,_⟩:=id I.loc;obtain⟨sl,hL⟩:=u.any ho I.free fun z=>(hch _ z).2.1 rfl;exact I.step (ch:=ch) hch (fun b o hL hb hc e n=>u.keep b o e n (fun z=>(List.mem_cons.mp (I.stkSub b z)).elim hL hb) hc) (fun b o _ _ hc e n=>u.any e n hc) (fun b o hc e n=>u.free b o e n hc) (fun b o hc e=>u.there b o e hc) u.tups u.frzs u.tbls (fun m' hm=>by
   obtain⟨o',es',ep',ho',r'⟩:=hm;rw[ho] at ho';cases ho';exact⟨_,es',ep',hL,r'⟩) hok hg
def Inv.turned{t':Nat}{it:Addr}(I:Inv X pins σ H s)(k:∀ b o,b≠it->s.heap.get? b=some o->h'.get? b=some o)(hn:H it=none)(hL:it≠X.env.locals)
   (h1:it∈X.ex\/X.s₀.heap.objs.size<=it) (h2:∀ x c,X.env.cells.lookup x=some c->c≠it) (h3:∀ p∈X.pn++pins,p.1≠it):Inv X pins σ H { s with heap:=h',toks:=t' }:=by
 have nit:∀ b u,H b=some u->b≠it:=fun b u e z=>by rw[z,hn] at e;cases e
 refine I.step (g':=s.gens) (d':=s.drawn) (ch:=[it]) (fun b hb=>?_) (fun b o _ _ hc e _=>k b o (fun z=>hc (by simp[z])) e) (fun b o _ _ hc e _=>⟨o.slots,k b o (fun z=>hc (by simp[z])) e⟩) (fun _ _ _ _ n=>n)
   (fun b o hc e=>⟨o,k b o (fun z=>hc (by simp[z])) e⟩) (fun _ _ e=>e) (fun _ _ _ e=>e) (fun b ps e=>⟨#[],by rw[e];simp⟩) (fun m hm=>?_) (fun b u e=>?_) I.bare
 . have e:b=it:=by simpa using hb
   subst e;exact⟨h1,hL,h2,h3⟩
 . obtain⟨o,es,ep,ho,r⟩:=hm;exact⟨o,es,ep,k _ o (BB hL) ho,r⟩
 . refine (I.hok b u e).stay (fun c v hc q=>k c v ?_ q) (fun _ q=>q) fun _ _ q=>q
   rcases hc with z | z
   . rw[z];exact nit b u e
   . exact nit c _ z
def Inv.tok(I:Inv X pins σ H s)(t:Nat):Inv X pins σ H { s with toks:=t }:=I.un (h':=s.heap) (t':=t) Un.refl I.hok
def Inv.kept{t':Nat}(I:Inv X pins σ H s)(k:∀ b u,s.heap.get? b=some u->h'.get? b=some u):Inv X pins σ H { s with heap:=h',toks:=t' }:=I.un (Un.kept k) (I.hok.kept k)
def Inv.laid{a:Addr}{o:HO}{t':Nat}(I:Inv X pins σ H s)(k:∀ b u,s.heap.get? b=some u->h'.get? b=some u)(hp:s.heap.objs.size<=a)(new:zcW X.prog X.w (upd H a o) h' a o) :
   Inv X pins σ (upd H a o) { s with heap:=h',toks:=t' }:=I.un (Un.laid k hp (I.hok.fresh hp)) (I.hok.laid k hp new)
def Inv.write{x e:Addr}{o:HO}{t':Nat}(I:Inv X pins σ H s)(mu:Mut (H x))(he:e=x\/H e=some (.own x))(k:∀ b u,b≠e->s.heap.get? b=some u->h'.get? b=some u)(heo:∃ u,h'.get? e=some u)
   (new:zcW X.prog X.w (upd H x o) h' x o):Inv X pins σ (upd H x o) { s with heap:=h',toks:=t' }:=I.un (Un.write mu he k heo) (I.hok.write mu he k heo new)
def Inv.pins_of{pins':List (Addr×Obj)}(I:Inv X pins σ H s)(h:∀ p∈pins',s.heap.get? p.1=some p.2/\H p.1=none/\p.1≠X.env.locals/\p.1 ∉ X.fs/\∀ v,p.2.data≠.cell v):Inv X pins' σ H s :=
 ⟨I.ok,I.os,I.bare,I.base,I.loc,I.cell,I.free,I.freeC,fun p hp=>(List.mem_append.mp hp).elim (fun z=>I.pin p (Bw _ z)) (h p),I.hok,I.len⟩
def zjF{N:List Str}(hN:N.Nodup){i j:Nat}{x:Str}(a:N[i]?=some x)(b:N[j]?=some x):i=j:=by
 obtain⟨h1,e1⟩:=List.getElem?_eq_some_iff.mp a;obtain⟨h2,e2⟩:=List.getElem?_eq_some_iff.mp b;exact (List.getElem_inj hN).mp (e1.trans e2.symm)
def zho{M:Model}{A:Around}{E:Value->Shared->Prop}{i:Nat}{x:Str}{v:V}{u:Value}{Q:Unit->Shared->Prop}(I:Inv X pins σ H s)(hN:X.N.Nodup)(hi:X.N[i]?=some x)(hx:Loc X.env.scope x)(r:RelV v u)
   (h:∀ s',Inv X pins (σ.set i (some v)) H s'->(∃ a,BC a s.heap s'.heap/\(a=X.env.locals\/X.env.cells.lookup x=some a))->Q () s') (hf:X.fn x=true\/X.env.scope.names.lookup x=some .local:=by first | exact .inl rfl | exact .inr rfl | assumption):wpAny M A (storeName X.env x u) Q E s:=by
 obtain⟨m,hn,hl⟩:=id I.loc;have hcls:(X.env.scope.kind==.class || (X.env.scope.kind==.module&&X.env.locals != X.env.globals))=false:=by rw[I.ok.kind];rfl
 have hiσ:i < σ.length:=by rw[I.len];exact (List.getElem?_eq_some_iff.mp hi).1
 have cne:=I.cne;have tracked:∀ {a:Addr} {h':Heap},(∃ o,s.heap.get? a=some o/\H a=none)->BC a s.heap h'->HOk X.prog X.w H h':=fun {a h'} ha hs b ob e=>by
   obtain⟨_,_,hfree⟩:=ha;refine (I.hok b ob e).stay (fun c w' hc q=>(hs.2 c ?_).trans q) (fun _ q=>q) fun _ _ q=>q;rintro rfl
   rcases hc with rfl | hc
   . rw[hfree] at e;cases e
   . rw[hfree] at hc;cases hc
 rcases hx with hk | hk
 . refine wpAny_storeName_local hk hn (fun h' hn' hs=>?_) hcls;obtain⟨oL,_,_,hoL,_⟩:=id hn;refine h _ ⟨I.ok,I.os,I.bare,⟨fun b o e n hb hx=>?_,fun b o e n hb hx=>?_,I.base.free,fun b o e hx=>?_,I.base.tups,I.base.frzs,I.base.tbls⟩,⟨_,hn',fun j y v' e1 e2 e3=>?_⟩,fun y c e=>?_,I.free,I.freeC,fun p hp=>?_,tracked ⟨oL,hoL,I.free⟩ hs,by simpa using I.len⟩ ⟨_,hs,.inl rfl⟩
   . exact (hs.2 b (As (AC (Aj e) I.ok.above))).trans (I.base.keep b o e n hb hx)
   . obtain⟨sl,e1⟩:=I.base.slot b o e n hb hx;exact⟨sl,(hs.2 b (As (AC (Aj e) I.ok.above))).trans e1⟩
   . obtain⟨o',e1⟩:=I.base.there b o e hx;exact⟨o',(hs.2 b (As (AC (Aj e) I.ok.above))).trans e1⟩
   . by_cases hj:j=i
     . subst hj;rw[hi] at e1;cases e1;rw[AE hiσ] at e2;cases e2;exact⟨u,r,.inl ⟨hk,by simp⟩⟩
     . rw[Ai (BB hj)] at e2;obtain⟨u',r',q⟩:=hl j y v' e1 e2 e3;refine⟨u',r',?_⟩
       rcases q with ⟨k,e⟩ | ⟨k,c,e,z⟩
       . refine .inl ⟨k,?_⟩;have:y≠x:=fun e=>hj (zjF hN e1 (e ▸ hi));simp[this,e]
       . exact .inr ⟨k,c,e,z.sameBut hs (cne y c e)⟩
   . obtain⟨w',z⟩:=I.cell y c e;exact⟨w',z.sameBut hs (cne y c e)⟩
   . obtain⟨e,n,ne,nf,d⟩:=I.pin p hp;exact⟨(hs.2 p.1 ne).trans e,n,ne,nf,d⟩
 . have hfn:X.fn x=true:=by
     rcases hf with z | z
     . exact z
     . rw[z] at hk;cases hk
   obtain⟨c,hc⟩:=I.ok.has x (.inl hk);obtain⟨w',z⟩:=I.cell x c hc;refine wpAny_storeName_cell I.ok.kind hk hc z (fun h' hc' hs=>?_);obtain⟨oc,hoc,hocd⟩:=id z;refine h { s with heap:=h' } ⟨I.ok,I.os,I.bare,⟨fun b o e n hb hx=>?_,fun b o e n hb hx=>?_,I.base.free,fun b o e hx=>?_,I.base.tups,I.base.frzs,I.base.tbls⟩,⟨m,hn.sameBut hs (BB (cne x c hc)),fun j y v' e1 e2 e3=>?_⟩,fun y c' e=>?_,I.free,I.freeC,fun p hp=>?_,tracked ⟨oc,hoc,I.freeC x c hc⟩ hs,by simpa using I.len⟩ ⟨c,hs,.inr hc⟩
   . exact (hs.2 b (As (AC (Aj e) (I.ok.cab x c hfn hc)))).trans (I.base.keep b o e n hb hx)
   . obtain⟨sl,e1⟩:=I.base.slot b o e n hb hx;exact⟨sl,(hs.2 b (As (AC (Aj e) (I.ok.cab x c hfn hc)))).trans e1⟩
   . obtain⟨o',e1⟩:=I.base.there b o e hx;exact⟨o',(hs.2 b (As (AC (Aj e) (I.ok.cab x c hfn hc)))).trans e1⟩
   . by_cases hj:j=i
     . subst hj;rw[hi] at e1;cases e1;rw[AE hiσ] at e2;cases e2;exact⟨u,r,.inr ⟨.inl hk,c,hc,hc'⟩⟩
     . rw[Ai (BB hj)] at e2;obtain⟨u',r',q⟩:=hl j y v' e1 e2 e3;refine⟨u',r',?_⟩
       rcases q with q | ⟨k,c',e,z'⟩
       . exact .inl q
       . refine .inr ⟨k,c',e,z'.sameBut hs ?_⟩;rintro rfl;exact hj (zjF hN e1 (I.ok.inj _ _ _ e hc ▸ hi))
   . by_cases hcc:c'=c
     . subst hcc;exact⟨_,hc'⟩
     . obtain⟨w2,z2⟩:=I.cell y c' e;exact⟨w2,z2.sameBut hs hcc⟩
   . obtain⟨e,n,ne,nf,d⟩:=I.pin p hp;refine⟨(hs.2 p.1 ?_).trans e,n,ne,nf,d⟩;intro q;rw[q,hoc] at e;have q':oc=p.2:=Ay e;exact d w' (by rw[<-q'];exact hocd)
def ze0{M:Model}{A:Around}{E:Value->Shared->Prop}{i:Nat}{x:Str}{v:V}{u:Value}{Q:Unit->Shared->Prop}(I:Inv X pins σ H s)(hN:X.N.Nodup)(hi:X.N[i]?=some x)(hx:Loc X.env.scope x)(r:RelV v u)
   (h:∀ s',Inv X pins (σ.set i (some v)) H s'->Q () s') (hf:X.fn x=true\/X.env.scope.names.lookup x=some .local:=by first | exact .inl rfl | exact .inr rfl | assumption):wpAny M A (storeName X.env x u) Q E s :=
 zho I hN hi hx r (fun s' I' _=>h s' I') hf
def Inv.call'{s':Shared}{ch:List Addr}(I:Inv X pins σ H s)(ho:s'.os=s.os)(u:Un (frs X.stack) ch H H' s.heap s'.heap)(hok:HOk X.prog X.w H' s'.heap)(hg:AllBare s'.gens)
   (hch:∀ b∈ch,(b∈X.ex\/X.s₀.heap.objs.size<=b)/\b≠X.env.locals/\(∀ x c,X.env.cells.lookup x=some c->c≠b)/\∀ p∈X.pn++pins,p.1≠b):Inv X pins σ H' s':=by
 obtain⟨h',g',d',t',o'⟩:=s';have e:o'=s.os:=ho;subst e;exact I.call (g':=g') (t':=t') (d':=d') u hok hg hch
end
noncomputable abbrev XK:=Value->Option Addr->Hp->Prop
noncomputable abbrev St:=List (Option V)
noncomputable abbrev VK:=V->Hp->Prop
noncomputable abbrev TE:=St->Hp->VK->Prop
noncomputable abbrev TT:=St->Hp->(Bool->Hp->Prop)->Prop
noncomputable abbrev TA:=St->Hp->(List V->Hp->Prop)->Prop
structure Ends where
 nx:St->Hp->Prop
 rt:VK
 bk:St->Hp->Prop:=fun _ _=>False
 ct:St->Hp->Prop:=fun _ _=>False
noncomputable abbrev TS:=Ends->St->Hp->Prop
def EP(X:Cx)(pins:List (Addr×Obj))(σ:St)(Q:VK)(u:Value)(s':Shared):Prop:=∃ v H',Inv X pins σ H' s'/\RelV v u/\Q v H'
def TP(X:Cx)(pins:List (Addr×Obj))(σ:St)(Q:Bool->Hp->Prop)(b:Bool)(s':Shared):Prop:=∃ H',Inv X pins σ H' s'/\Q b H'
def AP(X:Cx)(pins:List (Addr×Obj))(σ:St)(Q:List V->Hp->Prop)(us:List Value)(s':Shared):Prop:=∃ vs H',Inv X pins σ H' s'/\Vals vs us/\Q vs H'
def SP(X:Cx)(pins:List (Addr×Obj))(D:Ends)(f:Flow)(s':Shared):Prop :=
 match f with
 | .next=>∃ σ' H',Inv X pins σ' H' s'/\D.nx σ' H'
 | .brk=>∃ σ' H',Inv X pins σ' H' s'/\D.bk σ' H'
 | .cont=>∃ σ' H',Inv X pins σ' H' s'/\D.ct σ' H'
 | .ret u=>∃ v σ' H',Inv X pins σ' H' s'/\RelV v u/\D.rt v H'
def PE(X:Cx)(e:Expr)(t:TE):Prop :=
 ∀ (pins:List (Addr×Obj)) (s:Shared) (σ:St) (H:Hp) (Q:VK),Inv X pins σ H s->t σ H Q->wpAny (model X.prog X.w) X.A (eval e X.env) (EP X pins σ Q) X.xe s
def PT(X:Cx)(e:Expr)(t:TT):Prop :=
 ∀ (pins:List (Addr×Obj)) (s:Shared) (σ:St) (H:Hp) (Q:Bool->Hp->Prop),Inv X pins σ H s->t σ H Q->wpAny (model X.prog X.w) X.A (isTrue e X.env (eval e X.env)) (TP X pins σ Q) X.xe s
def PW(X:Cx)(e:Expr)(t:TT):Prop :=
 ∀ (whole:Sem Value) (pins:List (Addr×Obj)) (s:Shared) (σ:St) (H:Hp) (Q:Bool->Hp->Prop),Inv X pins σ H s->t σ H Q->wpAny (model X.prog X.w) X.A (isTrue e X.env whole) (TP X pins σ Q) X.xe s
def PW.pt{X:Cx}{e:Expr}{t:TT}(h:PW X e t):PT X e t:=h _
def PA(X:Cx)(es:List Expr)(t:TA):Prop :=
 ∀ (pos:Pos) (pins:List (Addr×Obj)) (s:Shared) (σ:St) (H:Hp) (Q:List V->Hp->Prop),Inv X pins σ H s->t σ H Q->wpAny (model X.prog X.w) X.A (spliced (backTo pos (starEach es X.env))) (AP X pins σ Q) X.xe s
def PS(X:Cx)(st:Stmt)(t:TS):Prop :=
 ∀ (pins:List (Addr×Obj)) (s:Shared) (σ:St) (H:Hp) (D:Ends),Inv X pins σ H s->t D σ H->wpAny (model X.prog X.w) X.A (exec st X.env) (SP X pins D) X.xe s
def PSs(X:Cx)(st:List Stmt)(t:TS):Prop :=
 ∀ (pins:List (Addr×Obj)) (s:Shared) (σ:St) (H:Hp) (D:Ends),Inv X pins σ H s->t D σ H->wpAny (model X.prog X.w) X.A (execs st X.env) (SP X pins D) X.xe s
def thn{α:Type}{t:Sem α}{Q Q':α->Shared->Prop}{M:Model}{A:Around}{E:Value->Shared->Prop}{s:Shared}(h:wpAny M A t Q E s)(hQ:∀ a s,Q a s->Q' a s):wpAny M A t Q' E s:=Bs h hQ fun _ _ x=>x
section
variable {X:Cx}
def tVar(i:Nat):TE:=fun σ H Q=>∃ v,σ[i]?=some (some v)/\Q v H
def tC(v:V):TE:=fun _ H Q=>Q v H
def zr1{i:Nat}{x:Str}{pos:Pos}(hN:X.N[i]?=some x)(hv:Vis X.env.scope x)(hd:(x==("__debug__":Str))=false:=by decide)(hcd:(x==("__classdict__":Str))=false:=by decide):PE X (.Name x pos) (tVar i):=by
 intro pins s σ H Q I h;obtain⟨v,e,h⟩:=h;obtain⟨m,hn,hl⟩:=I.loc;obtain⟨u,r,l⟩:=hl i x v hN e hv;have fin:EP X pins σ Q u s:=⟨v,H,I,r,h⟩
 rcases l with ⟨hk,hm⟩ | ⟨hk,c,hc,hcell⟩
 . exact FV (wpAny_loadName_local I.ok.kind hk hn hm fin) hd
 . rcases hk with hk | hk
   . exact FV (wpAny_loadName_cell I.ok.kind hk hc hcell fin) hd
   . exact FV (wpAny_loadName_free I.ok.kind hk hc hcell fin hcd) hd
def zr8{i j pos}:PE X (.Constant (.int i) j pos) (tC (.int i)):=fun _ _ _ H _ I h=>wpAny_Constant_int ⟨.int i,H,I.tok _,⟨_,rfl⟩,h⟩
def zt0{b j pos}:PE X (.Constant (.bool b) j pos) (tC (.bl b)):=fun _ _ _ H _ I h=>Constant_bool ⟨.bl b,H,I,rfl,h⟩
def zr6{j pos}:PE X (.Constant .none j pos) (tC .non):=fun _ _ _ H _ I h=>Constant_none ⟨.non,H,I,rfl,h⟩
def zr3{x j pos}:PE X (.Constant (.str x) j pos) (tC (.str x)):=fun _ _ _ H _ I h=>Calls.Constant_str ⟨.str x,H,I.tok _,⟨_,rfl⟩,h⟩
def Gl(X:Cx)(x:Str):Prop:=X.env.kindOf x=some .globalImplicit
def zmw{E:Value->Shared->Prop}{pins:List (Addr×Obj)}{s:Shared}{σ:St}{H:Hp}{x:Str}{u:Value}{pos:Pos}{Q:Value->Shared->Prop}(I:Inv X pins σ H s)(hg:Gl X x)(hm:X.mg x=some u)(h:Q u s)
   (hd:(x==("__debug__":Str))=false:=by decide):wpAny (model X.prog X.w) X.A (eval (.Name x pos) X.env) Q E s :=
 DB I.ok.kind hg (Calls.loadGlobal_global (by rw[I.ok.glob];exact I.mod.glob.keeps I.bk) hm h) hd
def ziC{E:Value->Shared->Prop}{pins:List (Addr×Obj)}{s:Shared}{σ:St}{H:Hp}{x:Str}{u:Value}{pos:Pos}{Q:Value->Shared->Prop}(I:Inv X pins σ H s)(hg:Gl X x)(hm:X.mg x=none)(hv:bootBuiltins x=some u)(h:Q u s)
   (hn:x≠"__name__":=by decide) (hd:(x==("__debug__":Str))=false:=by decide):wpAny (model X.prog X.w) X.A (eval (.Name x pos) X.env) Q E s:=by
 obtain⟨mb,h1,h2⟩:=I.mod.blt;exact DB I.ok.kind hg (Calls.loadGlobal_builtin (by rw[I.ok.glob];exact I.mod.glob.keeps I.bk) hm (by rw[I.ok.blt];exact h1.keeps I.bk) ((h2 x hn).trans hv) h) hd
def zpF{x:Str}{v:V}{u:Value}{pos:Pos}(hg:Gl X x)(hm:X.mg x=none)(hv:bootBuiltins x=some u)(r:RelV v u)(hn:x≠"__name__":=by decide)(hd:(x==("__debug__":Str))=false:=by decide):PE X (.Name x pos) (tC v) :=
 fun _ _ _ H _ I h=>ziC I hg hm hv ⟨v,H,I,r,h⟩ hn hd
variable {a b:Expr} {ta tb:TE} {pos:Pos}
def PC(X:Cx)(op:CmpOp)(a b:Expr)(t:TE):Prop :=
 ∀ (pins:List (Addr×Obj)) (s:Shared) (σ:St) (H:Hp) (Q:VK),Inv X pins σ H s->t σ H Q ->
   wpAny (model X.prog X.w) X.A (eval a X.env) (fun v s₁=>wpAny (model X.prog X.w) X.A (eval b X.env) (fun u s₂=>wpAny (model X.prog X.w) X.A (compareOp op v u) (EP X pins σ Q) X.xe s₂) X.xe s₁) X.xe s
def tB(t:TE):TT:=fun σ H Q=>t σ H fun x H1=>∃ c,x=.bl c/\Q c H1
def zpo{op:CmpOp}{t:TE}(h:PC X op a b t)(h1:behindInMarks op b=false:=by first | exact nobehind _ (by decide) (by decide) | rfl):PT X (.Compare a [op] [b] pos) (tB t):=by
 intro pins s σ H Q I hw;refine En (thn (h pins s σ H _ I hw) fun v s1 h1=>thn h1 fun u s2 h2=>thn h2 ?_) h1;rintro c s3 ⟨x,H1,I1,r1,q1⟩;obtain⟨d,rfl,q⟩:=q1;cases r1;exact Bp ⟨H1,I1,q⟩
variable {tA tB':TT} {rest:List Expr}
def tAnd(t u:TT):TT:=fun σ H Q=>t σ H fun c H1=>if c=true then u σ H1 Q else Q false H1
def tOr(t u:TT):TT:=fun σ H Q=>t σ H fun c H1=>if c=true then Q true H1 else u σ H1 Q
def tNot(t:TT):TT:=fun σ H Q=>t σ H fun c H1=>Q (!c) H1
def pw_and1(ha:PT X a tA):PW X (.BoolOp .And [a] pos) tA:=by
 intro wh pins s σ H Q I h;refine isTrue_and (thn (ha pins s σ H Q I h) fun c s1 e=>?_)
 cases c with
 | true=>exact isTrue_and_nil e
 | false=>exact e
def pw_or1(ha:PT X a tA):PW X (.BoolOp .Or [a] pos) tA:=by
 intro wh pins s σ H Q I h;refine isTrue_or (thn (ha pins s σ H Q I h) fun c s1 e=>?_)
 cases c with
 | false=>exact isTrue_or_nil e
 | true=>exact e
def pw_and(ha:PT X a tA)(hb:PW X (.BoolOp .And (b::rest) pos) tB'):PW X (.BoolOp .And (a::b::rest) pos) (tAnd tA tB'):=by
 intro wh pins s σ H Q I h;refine isTrue_and (thn (ha pins s σ H _ I h) ?_);rintro c s1 ⟨H1,I1,q1⟩
 cases c with
 | true=>exact hb wh pins s1 σ H1 Q I1 q1
 | false=>exact⟨H1,I1,q1⟩
def pw_or(ha:PT X a tA)(hb:PW X (.BoolOp .Or (b::rest) pos) tB'):PW X (.BoolOp .Or (a::b::rest) pos) (tOr tA tB'):=by
 intro wh pins s σ H Q I h;refine isTrue_or (thn (ha pins s σ H _ I h) ?_);rintro c s1 ⟨H1,I1,q1⟩
 cases c with
 | true=>exact⟨H1,I1,q1⟩
 | false=>exact hb wh pins s1 σ H1 Q I1 q1
def zrQ(ha:PT X a tA):PT X (.UnaryOp .Not a pos) (tNot tA):=by
 intro pins s σ H Q I h;exact isTrue_not (ha pins s σ H (fun c H1=>Q (!c) H1) I h)
def ztL(ta tb:TE):TE:=fun σ H Q=>ta σ H fun x H1=>∃ c,x=.bl c/\if c=true then tb σ H1 Q else Q (.bl false) H1
def ztF(ta:TE):TE:=fun σ H Q=>ta σ H fun x H1=>∃ c,x=.bl c/\Q (.bl (!c)) H1
def zr4{op}{t:TE}(h:PE X a t):PE X (.BoolOp op [a] pos) t:=fun pins s σ H Q I hw=>BoolOp_one (h pins s σ H Q I hw)
def zsa(ha:PE X a ta)(hb:PE X (.BoolOp .And (b::rest) pos) tb):PE X (.BoolOp .And (a::b::rest) pos) (ztL ta tb):=by
 intro pins s σ H Q I h;refine BoolOp_and (thn (ha pins s σ H _ I h) ?_);rintro v s1 ⟨x,H1,I1,r1,q1⟩;obtain⟨c,rfl,q1⟩:=q1;cases r1;refine Bp ?_
 cases c with
 | true=>exact hb pins s1 σ H1 Q I1 q1
 | false=>exact⟨.bl false,H1,I1,rfl,q1⟩
def zr5(ha:PE X a ta):PE X (.UnaryOp .Not a pos) (ztF ta):=by
 intro pins s σ H Q I h;refine UnaryOp_ (thn (ha pins s σ H _ I h) ?_);rintro v s1 ⟨x,H1,I1,r1,q1⟩;obtain⟨c,rfl,q1⟩:=q1;cases r1;exact not_of (Bp ⟨.bl (!c),H1,I1,rfl,q1⟩)
def tIf(t:TT)(ta tb:TE):TE:=fun σ H Q=>t σ H fun c H1=>if c=true then ta σ H1 Q else tb σ H1 Q
def znv{c:Expr}(hc:PT X c tA)(ha:PE X a ta)(hb:PE X b tb):PE X (.IfExp c a b pos) (tIf tA ta tb):=by
 intro pins s σ H Q I h;refine wpAny_IfExp (thn (hc pins s σ H _ I h) ?_);rintro d s1 ⟨H1,I1,q1⟩
 cases d with
 | true=>exact ha pins s1 σ H1 Q I1 q1
 | false=>exact hb pins s1 σ H1 Q I1 q1
end
def SqL(K:Ab)(H:Hp)(a:Addr)(xs:List V):Prop :=
 Rd H a (.lst xs) \/
   ∃ (o:Obj) (its:Array Value) (n:Nat),K.lookup a=some o/\o.cls=.type "list"/\o.dict=none/\o.data=.seq its n/\its.size<=sizeLine/\Vals xs its.toList
def SqT(K:Ab)(H:Hp)(a:Addr)(xs:List V):Prop :=
 Rd H a (.tup xs) \/
   ∃ (o:Obj) (its:Array Value) (n:Nat),K.lookup a=some o/\o.cls=.type "tuple"/\o.data=.seq its n/\its.size<=sizeLine/\Vals xs its.toList
def absV:Value->Option V
 | .none=>some .non
 | .bool b=>some (.bl b)
 | .int i _=>some (.int i)
 | .str x _=>some (.str x)
 | .bytes b _=>some (.byt b)
 | .float b _=>some (.flt b)
 | .ref a=>some (.ref a)
 | .type n=>some (.ty n)
 | _=>none
def RelV.abs{x:V}{u:Value}(r:RelV x u):absV u=some x:=by
 cases x with
 | non=>cases r;rfl
 | bl _=>cases r;rfl
 | int _=>obtain⟨t,rfl⟩:=r;rfl
 | str _=>obtain⟨t,rfl⟩:=r;rfl
 | byt _=>obtain⟨t,rfl⟩:=r;rfl
 | flt _=>obtain⟨t,rfl⟩:=r;rfl
 | ref _=>cases r;rfl
 | ty _=>cases r;rfl
def RelV.inj{x y:V}{u:Value}(r:RelV x u)(q:RelV y u):x=y:=Ay (r.abs.symm.trans q.abs)
def Vals.inj:∀ {xs ys:List V} {us:List Value},Vals xs us->Vals ys us->xs=ys
 | _,_,_,.nil,.nil=>rfl
 | _,_,_,.cons r t,.cons r' t'=>by rw[r.inj r',Vals.inj t t']
section
variable {X:Cx} {pins:List (Addr×Obj)} {σ:St} {H:Hp} {s:Shared} {a:Addr} {xs ys:List V}
def SqL.of{K:Ab}(h:H a=some (.lst xs)):SqL K H a xs:=.inl (.inl h)
def SqT.of{K:Ab}(h:H a=some (.tup xs)):SqT K H a xs:=.inl (.inl h)
def Inv.list(I:Inv X pins σ H s)(h:SqL X.K H a xs):∃ its:List Value,Vals xs its/\PlainL s.heap a its.toArray/\xs.length<=sizeLine:=by
 rcases h with h | ⟨o,its,n,hk,hc,hd,hs,hz,r⟩
 . obtain⟨z,its,n,r,e⟩:=h.ok I.hok;exact⟨its,r,⟨_,n,e,rfl,rfl,rfl⟩,z⟩
 . refine⟨its.toList,r,⟨o,n,I.kIn a o hk,hc,hd,by simpa using hs⟩,?_⟩;have e:=r.length;simp only[AY] at e;omega
def Inv.tuple(I:Inv X pins σ H s)(h:SqT X.K H a xs):∃ its:List Value,Vals xs its/\IsTup s.heap a its.toArray/\xs.length<=sizeLine:=by
 rcases h with h | ⟨o,its,n,hk,hc,hs,hz,r⟩
 . obtain⟨z,its,r,p⟩:=h.ok I.hok;exact⟨its,r,p.t,z⟩
 . refine⟨its.toList,r,⟨o,I.kIn a o hk,hc,n,by simpa using hs⟩,?_⟩;have e:=r.length;simp only[AY] at e;omega
def Inv.list_inj(I:Inv X pins σ H s)(h:SqL X.K H a xs)(h':SqL X.K H a ys):xs=ys:=by
 obtain⟨its,r,⟨o,n,e,_,_,d⟩,_⟩:=I.list h;obtain⟨its',r',⟨o',n',e',_,_,d'⟩,_⟩:=I.list h';rw[e] at e';cases e';rw[d] at d';injection d' with d1 _
 have:its=its':=by simpa using congrArg Gx d1
 subst this;exact r.inj r'
def Inv.tuple_inj(I:Inv X pins σ H s)(h:SqT X.K H a xs)(h':SqT X.K H a ys):xs=ys:=by
 obtain⟨its,r,⟨o,e,_,n,d⟩,_⟩:=I.tuple h;obtain⟨its',r',⟨o',e',_,n',d'⟩,_⟩:=I.tuple h';rw[e] at e';cases e';rw[d] at d';injection d' with d1 _
 have:its=its':=by simpa using congrArg Gx d1
 subst this;exact r.inj r'
end
noncomputable abbrev Cx.wish (X:Cx) (E:Value->Shared->Prop):Cx:={ X with xe:=E }
noncomputable abbrev Cx.nox (X:Cx):Cx:=X.wish fun _ _=>False
def Cx.Ok.wish{X:Cx}(ok:X.Ok)(E:Value->Shared->Prop):(X.wish E).Ok :=
 ⟨ok.mod,ok.kind,ok.glob,ok.blt,ok.above,ok.inj,ok.has,ok.cab,ok.hd,ok.frames,ok.stk,ok.exf,ok.bs,ok.bsz,ok.noex,ok.exfs,ok.funs,ok.frf⟩
def Cx.Ok.unwish{X:Cx}{E:Value->Shared->Prop}(ok:(X.wish E).Ok):X.Ok :=
 ⟨ok.mod,ok.kind,ok.glob,ok.blt,ok.above,ok.inj,ok.has,ok.cab,ok.hd,ok.frames,ok.stk,ok.exf,ok.bs,ok.bsz,ok.noex,ok.exfs,ok.funs,ok.frf⟩
section
variable {X:Cx} {pins:List (Addr×Obj)} {σ:St} {H:Hp} {s:Shared} {E:Value->Shared->Prop}
def Inv.wish(I:Inv X pins σ H s)(E:Value->Shared->Prop):Inv (X.wish E) pins σ H s:=⟨I.ok.wish E,I.os,I.bare,I.base,I.loc,I.cell,I.free,I.freeC,I.pin,I.hok,I.len⟩
def Inv.unwish(I:Inv (X.wish E) pins σ H s):Inv X pins σ H s:=⟨I.ok.unwish,I.os,I.bare,I.base,I.loc,I.cell,I.free,I.freeC,I.pin,I.hok,I.len⟩
def SP.unwish{D:Ends}{f:Flow}{s':Shared}(h:SP (X.wish E) pins D f s'):SP X pins D f s':=by
 cases f with
 | next=>obtain⟨σ',H',I,q⟩:=h;exact⟨σ',H',I.unwish,q⟩
 | brk=>obtain⟨σ',H',I,q⟩:=h;exact⟨σ',H',I.unwish,q⟩
 | cont=>obtain⟨σ',H',I,q⟩:=h;exact⟨σ',H',I.unwish,q⟩
 | ret u=>obtain⟨v,σ',H',I,r,q⟩:=h;exact⟨v,σ',H',I.unwish,r,q⟩
def PSs.nox{st:List Stmt}{t:TS}(h:PSs X.nox st t):PSs X st t:=fun pins s σ H D I hw =>
 Bs (h pins s σ H D (I.wish _) hw) (fun _ _ q=>q.unwish) fun _ _ z=>False.elim z
end
section
variable {X:Cx} {st:Stmt} {rest:List Stmt} {t u:TS} {e:Expr} {te:TE} {pos:Pos}
def ztb:TS:=fun D σ H=>D.nx σ H
def tSeq(t u:TS):TS:=fun D σ H=>t { D with nx:=u D } σ H
def zpq:PSs X [] ztb:=fun _ _ σ H _ I h=>C3 ⟨σ,H,I,h⟩
def znl(h1:PS X st t)(h2:PSs X rest u):PSs X (st::rest) (tSeq t u):=by
 intro pins s σ H D I h;refine wpAny_execs_cons (thn (h1 pins s σ H { D with nx:=u D } I h) fun f s1 q=>?_)
 cases f with
 | next =>
   obtain⟨σ',H',I',q⟩:=q;exact h2 pins s1 σ' H' D I' q
 | ret v=>exact q
 | brk=>exact q
 | cont=>exact q
def zpp(h1:PS X st t):PSs X [st] t:=by
 intro pins s σ H D I h;refine wpAny_execs_cons (thn (h1 pins s σ H D I h) fun f s1 q=>?_)
 cases f with
 | next=>exact C3 q
 | ret v=>exact q
 | brk=>exact q
 | cont=>exact q
def zpr:PS X (.Pass pos) ztb:=fun _ _ σ H _ I h=>wpAny_Pass ⟨σ,H,I,h⟩
def Inv.quiet{pins:List (Addr×Obj)}{σ:St}{H:Hp}{s:Shared}(I:Inv X pins σ H s):interactive X.env=false:=by simp[interactive,I.ok.kind]
def ztH(te:TE):TS:=fun D σ H=>te σ H fun _ H1=>D.nx σ H1
def zps(he:PE X e te)(hs:swapsWith e none pos.line X.env=pure false:=by rfl):PS X (.Expr e pos) (ztH te):=by
 intro pins s σ H D I h;exact wpAny_Expr_any (thn (he pins s σ H _ I h) fun v s1 ⟨x,H1,I1,r1,q1⟩=>⟨σ,H1,I1,q1⟩) I.quiet hs
def tRet(te:TE):TS:=fun D σ H=>te σ H D.rt
def zrS(he:PE X e te):PS X (.Return (some e) pos) (tRet te):=by
 intro pins s σ H D I h;exact wpAny_Return_some (thn (he pins s σ H _ I h) fun v s1 ⟨x,H1,I1,r1,q1⟩=>⟨x,σ,H1,I1,r1,q1⟩)
def tIfS(c:TT)(t u:TS):TS:=fun D σ H=>c σ H fun b H1=>if b=true then t D σ H1 else u D σ H1
def ztV{c:Expr}{a b:List Stmt}{tc:TT}(hc:PT X c tc)(ha:PSs X a t)(hb:PSs X b u):PS X (.If c a b pos) (tIfS tc t u):=by
 intro pins s σ H D I h;refine wpAny_If (thn (hc pins s σ H _ I h) ?_);rintro d s1 ⟨H1,I1,q1⟩
 cases d with
 | true=>exact ha pins s1 σ H1 D I1 q1
 | false=>exact hb pins s1 σ H1 D I1 q1
end
noncomputable abbrev TG:=V->St->Hp->(St->Hp->Prop)->Prop
noncomputable abbrev TGs:=List V->St->Hp->(St->Hp->Prop)->Prop
def PG(X:Cx)(target:Expr)(t:TG):Prop :=
 ∀ (pins:List (Addr×Obj)) (s:Shared) (σ:St) (H:Hp) (v:V) (u:Value) (Q:St->Hp->Prop),Inv X pins σ H s->RelV v u->t v σ H Q ->
   wpAny (model X.prog X.w) X.A (assign target X.env u) (fun _ s'=>∃ σ' H',Inv X pins σ' H' s'/\Q σ' H') X.xe s
def PGs(X:Cx)(ts:List Expr)(t:TGs):Prop :=
 ∀ (pins:List (Addr×Obj)) (s:Shared) (σ:St) (H:Hp) (vs:List V) (us:List Value) (Q:St->Hp->Prop),Inv X pins σ H s->Vals vs us->t vs σ H Q ->
   wpAny (model X.prog X.w) X.A (assignInOrder ((assignEach ts X.env).map (·.2)) us) (fun _ s'=>∃ σ' H',Inv X pins σ' H' s'/\Q σ' H') X.xe s
noncomputable abbrev TSet:=V->V->V->Hp->(Hp->Prop)->Prop
def PSet(X:Cx)(t:TSet):Prop :=
 ∀ (pins:List (Addr×Obj)) (s:Shared) (σ:St) (H:Hp) (o i v:V) (ov iv u:Value) (Q:Hp->Prop),Inv X pins σ H s->RelV o ov->RelV i iv->RelV v u->t o i v H Q ->
   wpAny (model X.prog X.w) X.A (setItem ov iv u) (fun _ s'=>∃ H',Inv X pins σ H' s'/\Q H') X.xe s
section
variable {X:Cx} {pos:Pos}
def ztp(i:Nat):TG:=fun v σ H Q=>Q (σ.set i (some v)) H
def zpz{i:Nat}{x:Str}(hN:X.N.Nodup)(hi:X.N[i]?=some x)(hx:Loc X.env.scope x)(hf:X.fn x=true\/X.env.scope.names.lookup x=some .local:=by first | exact .inl rfl | exact .inr rfl | assumption):PG X (.Name x pos) (ztp i):=by
 intro pins s σ H v u Q I r h;exact Fk (ze0 I hN hi hx r (fun s' I'=>⟨_,H,I',h⟩) hf)
def gNil:TGs:=fun vs σ H Q=>vs=[]/\Q σ H
def zun(t:TG)(u:TGs):TGs:=fun vs σ H Q=>∃ v r,vs=v::r/\t v σ H fun σ' H'=>u r σ' H' Q
def zpy:PGs X [] gNil:=by
 intro pins s σ H vs us Q I r h;obtain⟨e,h⟩:=h;subst e;cases r;exact Fm ⟨σ,H,I,h⟩
def znt{e:Expr}{es:List Expr}{t:TG}{u:TGs}(h1:PG X e t)(h2:PGs X es u)
   (hs:(assignEach (e::es) X.env).map (·.2)=assign e X.env::(assignEach es X.env).map (·.2):=by rfl):PGs X (e::es) (zun t u):=by
 intro pins s σ H vs us Q I r h;obtain⟨v,vr,e1,h⟩:=h;subst e1
 cases r with
 | cons r rr =>
   rw[hs];refine Dw (thn (h1 pins s σ H _ _ _ I r h) ?_);rintro _ s1 ⟨σ1,H1,I1,q1⟩;exact h2 pins s1 σ1 H1 _ _ Q I1 rr q1
def gTup(K:Ab)(n:Nat)(t:TGs):TG:=fun v σ H Q=>∃ a xs,v=.ref a/\SqT K H a xs/\xs.length=n/\t xs σ H Q
def zrZ{es:List Expr}{k:Nat}{t:TGs}{n:Nat}(hc:X.calm=true)(h:PGs X es t)
   (hn:(assignEach es X.env).length=n:=by rfl) (hst:(assignEach es X.env).findIdx? (·.1)=none:=by rfl):PG X (.Tuple es k pos) (gTup X.K n t):=by
 intro pins s σ H v u Q I r hw;obtain⟨a,xs,e1,hq,hl,hw⟩:=hw;subst e1;cases r;obtain⟨its,rv,ht,hz⟩:=I.tuple hq;refine assign_Tuple_tuple (I.ok.hd hc) ht (by simp[hn,<-hl,rv.length]) hst fun h' hx=>?_;have I1:Inv X pins σ H { s with heap:=h' }:=I.kept (t':=s.toks) fun b o e=>hx b o (As (Aj e)) e;exact h pins _ σ H xs _ Q I1 (by simpa using rv) hw
def gSub(to ti:TE)(t:TSet):TG:=fun v σ H Q=>to σ H fun o H1=>ti σ H1 fun i H2=>t o i v H2 fun H3=>Q σ H3
def zr0{o i:Expr}{to ti:TE}{t:TSet}(ho:PE X o to)(hi:PE X i ti)(hs:PSet X t)
   (ha:∀ v,assign (.Subscript o i pos) X.env v=(do
     let ov <-holding [v] (eval o X.env)
     let iv <-holding [v,ov] (eval i X.env)
     standAt pos
     holding [v,ov,iv] (setItem ov iv v)
     release [v,ov,iv] []):=by intro _;rfl):PG X (.Subscript o i pos) (gSub to ti t):=by
 intro pins s σ H v u Q I r h;rw[ha];refine Aa (AK (thn (ho pins s σ H _ I h) ?_));rintro ov s1 ⟨x,H1,I1,r1,q1⟩;refine Aa (AK (thn (hi pins s1 σ H1 _ I1 q1) ?_));rintro iv s2 ⟨y,H2,I2,r2,q2⟩;refine Aa (DC (Aa (AK (thn (hs pins s2 σ H2 x y v ov iv u _ I2 r1 r2 r q2) ?_))));rintro _ s3 ⟨H3,I3,q3⟩;exact wpAny_release ⟨σ,H3,I3,q3⟩
def tAsg(te:TE)(g:TG):TS:=fun D σ H=>te σ H fun x H1=>g x σ H1 D.nx
def zrW{tg e:Expr}{te:TE}{g:TG}(he:PE X e te)(hg:PG X tg g)(hs:swapsWithSole [tg] e pos.line X.env=pure false:=by rfl)(hw:swappedStores [tg] e X.env=pure none:=by rfl)
   (h1:(assignEach [tg] X.env).map (·.2)=[assign tg X.env]:=by rfl):PS X (.Assign [tg] e pos) (tAsg te g):=by
 intro pins s σ H D I h;refine wpAny_Assign_stores (thn (he pins s σ H _ I h) ?_) hs hw;rintro v s1 ⟨x,H1,I1,r1,q1⟩;rw[h1];exact thn (hg pins s1 σ H1 x v _ I1 r1 q1) fun _ s2 q=>q
def zrR{i:Nat}{x:Str}{e:Expr}{te:TE}{pos':Pos}(hN:X.N.Nodup)(hi:X.N[i]?=some x)(hx:Loc X.env.scope x)(he:PE X e te)(hs:swapsWith e (some (.Name x pos')) pos.line X.env=pure false:=by rfl)(hf:X.fn x=true\/X.env.scope.names.lookup x=some .local:=by first | exact .inl rfl | exact .inr rfl | assumption) :
   PS X (.Assign [.Name x pos'] e pos) (tAsg te (ztp i)):=by
 intro pins s σ H D I h;refine wpAny_Assign_Name (thn (he pins s σ H _ I h) ?_) hs;rintro v s1 ⟨y,H1,I1,r1,q1⟩;exact ze0 I1 hN hi hx r1 (fun s2 I2=>⟨_,H1,I2,q1⟩) hf
def tPar(i j:Nat)(ta:TA):TS:=fun D σ H=>ta σ H fun vs H1=>∃ v w,vs=[v,w]/\D.nx ((σ.set i (some v)).set j (some w)) H1
def zrT{i j:Nat}{x y:Str}{a b:Expr}{ta:TA}{px py pt:Pos}{kt k2 pt2}(hc:X.calm=true)(hN:X.N.Nodup)(hi:X.N[i]?=some x)(hj:X.N[j]?=some y)(hij:i≠j)
   (hx:X.env.scope.names.lookup x=some .local) (hy:X.env.scope.names.lookup y=some .local) (ha:PA X [a,b] ta)
   (hw:swappedStores [.Tuple [.Name x px,.Name y py] kt pt] (.Tuple [a,b] k2 pt2) X.env=pure (some [x,y]))
   (hs:swapsWithSole [.Tuple [.Name x px,.Name y py] kt pt] (.Tuple [a,b] k2 pt2) pos.line X.env=pure false:=by rfl) :
   PS X (.Assign [.Tuple [.Name x px,.Name y py] kt pt] (.Tuple [a,b] k2 pt2) pos) (tPar i j ta):=by
 intro pins s σ H D I h;rw[exec_Assign_arm];refine Aa (DC ?_);rw[hs];refine Aa (Ad ?_);rw[if_neg (by decide)];refine Aa (Tuple_ (thn (ha _ pins s σ H _ I h) ?_));rintro us s1 ⟨vs,H1,I1,r1,q1⟩;obtain⟨v,w,e1,q1⟩:=q1;subst e1;obtain⟨u1,u2,rfl,rv,rw'⟩:∃ u1 u2,us=[u1,u2]/\RelV v u1/\RelV w u2:=by
   cases r1 with
   | cons p q =>
     cases q with
     | cons p' q' =>
       cases q';exact⟨_,_,rfl,p,p'⟩
 refine AI ?_ (by show 2<=sizeLine;decide);have I2:Inv X pins σ H1 { s1 with heap:=s1.heap.push { cls:=.type "tuple",data:=.seq [u1,u2].toArray } }:=I1.kept (t':=s1.toks) fun b o e=>Ac _ e;rw[hw];refine Aa (Ad ?_);show wpAny (model X.prog X.w) X.A (do rule "assign.swapped-stores";let items <-unpackItems (.ref s1.heap.objs.size) 2 none;assignInOrder [fun v=>bindName X.env y v,fun v=>bindName X.env x v] items.reverse;pure Flow.next) _ _ _;refine Aa (BL (Aa (unpackItems_tuple (items:=#[u1,u2]) (I.ok.hd hc) (IsTup.new s1.heap _) fun h' hx'=>?_)));have I3:=I2.kept (h':=h') (t':=s1.toks) fun b o e=>hx' b o (As (Aj e)) e;show wpAny _ _ (assignInOrder [fun v=>bindName X.env y v,fun v=>bindName X.env x v] [u2,u1] >>= fun _=>pure Flow.next) _ _ _;refine Aa (Dw (wpAny_bindName (ze0 I3 hN hj (.inl hy) rw' (fun s2 I4=>?_) (.inr hy))));refine Dw (wpAny_bindName (ze0 I4 hN hi (.inl hx) rv (fun s3 I5=>Fm (Ad ?_)) (.inr hx)));rw[List.set_comm _ _ (BB hij)] at I5;exact⟨_,H1,I5,q1⟩
end
section
variable {X:Cx} {pos:Pos}
def zrm(c:TT)(tb:TS):TS:=fun D σ H=>∃ W:Nat->St->Hp->Prop,(∃ m,W m σ H)/\∀ m σ H,W m σ H ->
 c σ H fun b H1=>if b=true then ∃ N:St->Hp->Prop,(∀ σ' H',N σ' H'->∃ m',m' < m/\W m' σ' H')/\tb { D with nx:=N,ct:=N,bk:=D.nx } σ H1 else D.nx σ H1
def znm{c:Expr}{body:List Stmt}{tc:TT}{tb:TS}(hp:PassesOwn (model X.prog X.w) X.A X.env X.xe)(hc:PT X c tc)(hb:PSs X body tb):PS X (.While c body [] pos) (zrm tc tb):=by
 intro pins s σ H D I h;obtain⟨W,⟨m0,w0⟩,turn⟩:=h;refine wpAny_While (codeAny_whileLoop (fun n s'=>∃ σ' H',Inv X pins σ' H' s'/\W n σ' H') ?_ m0 ⟨σ,H,I,w0⟩);rintro n s1 ⟨σ1,H1,I1,w1⟩;refine BZ hp (thn (hc pins s1 σ1 H1 _ I1 (turn n σ1 H1 w1)) ?_);rintro b s2 ⟨H2,I2,q2⟩
 cases b with
 | true =>
   obtain⟨N,hN,q2⟩:=q2;rw[if_pos rfl];refine BZ hp (thn (hb pins s2 σ1 H2 _ I2 q2) fun f s3 q3=>?_)
   cases f with
   | next =>
     obtain⟨σ3,H3,I3,n3⟩:=q3;obtain⟨m',hm,w3⟩:=hN σ3 H3 n3;exact⟨m',hm,σ3,H3,I3,w3⟩
   | cont =>
     obtain⟨σ3,H3,I3,n3⟩:=q3;obtain⟨m',hm,w3⟩:=hN σ3 H3 n3;exact⟨m',hm,σ3,H3,I3,w3⟩
   | brk=>exact q3
   | ret v=>exact q3
 | false =>
   rw[if_neg AV];exact C3 ⟨σ1,H2,I2,q2⟩
end
structure It where
 go:Nat->Hp->Prop
 yld:Nat->Hp->V->Hp->Prop
 stop:Nat->Hp->Prop
def FpOk(X:Cx)(pins:List (Addr×Obj))(H:Hp)(b:Addr):Prop :=
 H b=none/\b≠X.env.locals/\b ∉ X.fs/\(b∈X.ex\/X.s₀.heap.objs.size<=b)/\(∀ x c,X.env.cells.lookup x=some c->c≠b)/\∀ p∈X.pn++pins,p.1≠b
def Inv.fpOk{X:Cx}{pins:List (Addr×Obj)}{σ:St}{H H':Hp}{s:Shared}{b:Addr}(I:Inv X pins σ H s)(hb:s.heap.objs.size<=b)(hn:H' b=none):FpOk X pins H' b:=by
 refine⟨hn,CJ (AC I.lt hb),I.nofs hb,.inr (Az I.sz hb),fun x c e z=>?_,fun p hp z=>?_⟩
 . obtain⟨v,q⟩:=I.cell x c e;exact absurd (AC q.lt (by rw[z];exact hb)) (AN _)
 . exact absurd (AC (Aj (I.pin p hp).1) (by rw[z];exact hb)) (AN _)
structure Turn(P:Program)(w:World)(K:Ab)(tg:Expr)(J:It)(fp:List Addr)(it:Addr)(tn:Nat->Heap->Prop):Prop where
 mem:it∈fp
 obj:∀ i h,tn i h->∀ b∈fp,∃ o,h.get? b=some o/\∀ v,o.data≠.cell v
 keep:∀ i h h',tn i h->(∀ b∈fp,∀ o,h.get? b=some o->h'.get? b=some o)->tn i h'
 item:∀ (X:Cx),X.prog=P->X.w=w->X.K=K->X.calm=true->∀ (i:Nat) (pins:List (Addr×Obj)) (s:Shared) (σ:St) (H:Hp) (E:Value->Shared->Prop),Inv X pins σ H s->(∀ b∈fp,FpOk X pins H b)->tn i s.heap->J.go i H ->
   wpAny (model P w) X.A (pyNext (.ref it)) (fun r s1=>∃ u,r=some u /\
     wpAny (model P w) X.A (letOwnedTupleGo tg (.ref it) u) (fun _ s2=>∃ x H',Inv X pins σ H' s2/\RelV x u/\J.yld i H x H'/\tn (i+1) s2.heap/\∀ b∈fp,H' b=none) E s1) E s
 done:∀ (X:Cx),X.prog=P->X.w=w->X.K=K->X.calm=true->∀ (i:Nat) (pins:List (Addr×Obj)) (s:Shared) (σ:St) (H:Hp) (E:Value->Shared->Prop),Inv X pins σ H s->(∀ b∈fp,FpOk X pins H b)->tn i s.heap->J.stop i H ->
   wpAny (model P w) X.A (pyNext (.ref it)) (fun r s1=>r=none/\Inv X pins σ H s1) E s
 self:∀ (A:Around) (i:Nat) (s:Shared) (Q:Value->Shared->Prop) (E:Value->Shared->Prop),tn i s.heap->Q (.ref it) s->wpAny (model P w) A (pyIter (.ref it)) Q E s
noncomputable abbrev TI:=St->Hp->(It->Hp->Prop)->Prop
def PIE(X:Cx)(pins:List (Addr×Obj))(σ:St)(tg:Expr)(R:It->Hp->Prop)(itv:Value)(s2:Shared):Prop :=
 ∃ (it:Addr) (fp:List Addr) (tn:Nat->Heap->Prop) (J:It) (H':Hp),itv=.ref it/\Inv X pins σ H' s2/\Turn X.prog X.w X.K tg J fp it tn/\tn 0 s2.heap/\(∀ b∈fp,FpOk X pins H' b)/\R J H'
def PI(X:Cx)(tg iter:Expr)(wi:TI):Prop :=
 ∀ (pins:List (Addr×Obj)) (s:Shared) (σ:St) (H:Hp) (R:It->Hp->Prop),Inv X pins σ H s->wi σ H R ->
   wpAny (model X.prog X.w) X.A (eval iter X.env) (fun v s1=>wpAny (model X.prog X.w) X.A (pyIter v) (PIE X pins σ tg R) X.xe s1) X.xe s
def zqn{M:Model}{A:Around}{E:Value->Shared->Prop}{s:Shared}{tg:Expr}{it:Addr}{u:Value}{o:Obj}{n:String}{vs:Array Value}{Q:Unit->Shared->Prop}(ho:s.heap.get? it=some o)(hc:o.cls=.type n)(hd:o.data=.fields vs)
   (hn:["enumerate","zip","dict_itemiterator","dict_reverseitemiterator","odict_iterator","itertools.zip_longest","itertools.pairwise"].contains n=false) (hQ:Q () s):wpAny M A (letOwnedTupleGo tg (.ref it) u) Q E s:=by
 unfold letOwnedTupleGo
 cases tg <;> first
   | exact Ad hQ
   | (cases u <;> first
       | exact Ad hQ
       | (refine Aa (wpAny_load ho ?_)
          rw[hc,hd];show wpAny M A (if (["enumerate","zip","dict_itemiterator","dict_reverseitemiterator","odict_iterator","itertools.zip_longest","itertools.pairwise"].contains n&&vs[0]?==some (rawInt _))=true then _ else _) Q E s;rw[if_neg (by intro h;rw[hn,Bool.false_and] at h;cases h)];exact Ad hQ))
def Itl(K:Ab)(a:Addr):It :=
 ⟨fun i H=>∃ xs x,SqL K H a xs/\xs[i]?=some x,fun i H x H'=>H'=H/\∀ xs,SqL K H a xs->xs[i]?=some x,fun i H=>∃ xs,SqL K H a xs/\xs.length<=i⟩
def Itt(K:Ab)(a:Addr):It :=
 ⟨fun i H=>∃ xs x,SqT K H a xs/\xs[i]?=some x,fun i H x H'=>H'=H/\∀ xs,SqT K H a xs->xs[i]?=some x,fun i H=>∃ xs,SqT K H a xs/\xs.length<=i⟩
def Itr(lo:Int)(n:Nat):It:=⟨fun i _=>i < n,fun i H x H'=>H'=H/\x=.int (lo+i),fun i _=>n<=i⟩
def zkU{P:Program}{w:World}{K:Ab}{tg:Expr}(a it:Addr):Turn P w K tg (Itl K a) [it] it (fun i h=>h.IsListIter it a i) where
 mem:=by simp
 obj:=fun i h st b hb=>by
   have e:b=it:=by simpa using hb
   subst e;obtain⟨o,e,c,d⟩:=st;exact⟨o,e,fun v z=>by rw[d] at z;cases z⟩
 keep:=fun i h h' st k=>st.at fun o e=>k it (by simp) o e
 item:=by
   intro X hP hw hK hc i pins s σ H E I hf st hg;subst hP hw hK;obtain⟨xs,x,hq,hx⟩:=hg;obtain⟨its,rv,p,hz⟩:=I.list hq;obtain⟨u,hu,ru⟩:=rv.get hx;obtain⟨f0,f1,f2,f3,f4,f5⟩:=hf it (by simp);refine Ci st p.isList (x:=u) (by simpa using hu) fun h' st' sb=>?_;have I1:Inv X pins σ H { s with heap:=h' }:=I.turned (t':=s.toks) (fun b o hb e=>(sb.2 b hb).trans e) f0 f1 f3 f4 f5;obtain⟨o,e,c,d⟩:=id st';exact⟨u,rfl,zqn (s:={ s with heap:=h' }) e c d (by decide) ⟨x,H,I1,ru,⟨rfl,fun ys hy=>by rw[I.list_inj hy hq];exact hx⟩,st',fun b hb=>(hf b hb).1⟩⟩
 done:=by
   intro X hP hw hK hc i pins s σ H E I hf st hg;subst hP hw hK;obtain⟨xs,hq,hx⟩:=hg;obtain⟨its,rv,p,hz⟩:=I.list hq;obtain⟨f0,f1,f2,f3,f4,f5⟩:=hf it (by simp);have hl:=rv.length;exact Ct (I.ok.hd hc) st p.isList (by simp;omega) fun h' eb=>⟨rfl,I.turned (t':=s.toks) (fun b o hb e=>eb b o hb e) f0 f1 f3 f4 f5⟩
 self:=fun _ _ _ _ _ st h=>wpAny_pyIter_listiter st h
def ziW{P:Program}{w:World}{K:Ab}{tg:Expr}(a it:Addr):Turn P w K tg (Itt K a) [it] it (fun i h=>h.IsTupleIter it a i) where
 mem:=by simp
 obj:=fun i h st b hb=>by
   have e:b=it:=by simpa using hb
   subst e;obtain⟨o,e,c,d⟩:=st;exact⟨o,e,fun v z=>by rw[d] at z;cases z⟩
 keep:=fun i h h' st k=>st.at fun o e=>k it (by simp) o e
 item:=by
   intro X hP hw hK hc i pins s σ H E I hf st hg;subst hP hw hK;obtain⟨xs,x,hq,hx⟩:=hg;obtain⟨its,rv,p,hz⟩:=I.tuple hq;obtain⟨u,hu,ru⟩:=rv.get hx;obtain⟨f0,f1,f2,f3,f4,f5⟩:=hf it (by simp);refine DY st (show s.heap.IsTuple a its.toArray from p) (x:=u) (by simpa using hu) fun h' st' sb=>?_;have I1:Inv X pins σ H { s with heap:=h' }:=I.turned (t':=s.toks) (fun b o hb e=>(sb.2 b hb).trans e) f0 f1 f3 f4 f5;obtain⟨o,e,c,d⟩:=id st';exact⟨u,rfl,zqn (s:={ s with heap:=h' }) e c d (by decide) ⟨x,H,I1,ru,⟨rfl,fun ys hy=>by rw[I.tuple_inj hy hq];exact hx⟩,st',fun b hb=>(hf b hb).1⟩⟩
 done:=by
   intro X hP hw hK hc i pins s σ H E I hf st hg;subst hP hw hK;obtain⟨xs,hq,hx⟩:=hg;obtain⟨its,rv,p,hz⟩:=I.tuple hq;obtain⟨f0,f1,f2,f3,f4,f5⟩:=hf it (by simp);have hl:=rv.length;exact Ee (I.ok.hd hc) st (show s.heap.IsTuple a its.toArray from p) (by simp;omega) fun h' eb=>⟨rfl,I.turned (t':=s.toks) (fun b o hb e=>eb b o hb e) f0 f1 f3 f4 f5⟩
 self:=fun _ _ _ _ _ st h=>wpAny_pyIter_tupleiter st h
def ziX{P:Program}{w:World}{K:Ab}{tg:Expr}(it:Addr)(lo:Int)(n:Nat):Turn P w K tg (Itr lo n) [it] it (fun i h=>IsRangeIter h it (lo+(i:Nat)*1) ((n:Int) - (i:Nat)) 1) where
 mem:=by simp
 obj:=fun i h st b hb=>by
   have e:b=it:=by simpa using hb
   subst e;exact⟨_,st,fun v z=>by
     have z':Data.fields _=Data.cell v:=z;cases z'⟩
 keep:=fun i h h' st k=>k it (by simp) _ st
 item:=by
   intro X hP hw hK hc i pins s σ H E I hf st hg;subst hP hw hK;obtain⟨f0,f1,f2,f3,f4,f5⟩:=hf it (by simp);have W:=Walks.range (prog:=X.prog) (w:=X.w) (I.ok.hd hc) it lo 1 n;refine W.item i s _ _ hg st fun v h' tk hv st' kk=>?_;obtain⟨t,rfl⟩:=hv;have I1:Inv X pins σ H { s with heap:=h',toks:=tk }:=I.turned (fun b o hb e=>kk b o (by simpa using hb) e) f0 f1 f3 f4 f5;refine⟨_,rfl,zqn (s:={ s with heap:=h',toks:=tk }) (n:="range_iterator") st' rfl rfl (by decide) ⟨.int (lo+i),H,I1,⟨t,?_⟩,⟨rfl,rfl⟩,st',fun b hb=>(hf b hb).1⟩⟩;rw[Int.mul_one]
 done:=by
   intro X hP hw hK hc i pins s σ H E I hf st hg;subst hP hw hK;obtain⟨f0,f1,f2,f3,f4,f5⟩:=hf it (by simp);exact wpAny_pyNext_range_end (I.ok.hd hc) st (by have:n<=i:=hg;omega) fun h' eb=>⟨rfl,I.turned (t':=s.toks) (fun b o hb e=>eb b o hb e) f0 f1 f3 f4 f5⟩
 self:=fun _ _ _ _ _ st h=>wpAny_pyIter_rangeiter st h
section
variable {X:Cx} {tg:Expr}
def zul(K:Ab)(tl:TE):TI:=fun σ H R=>tl σ H fun x H1=>∃ a,x=.ref a/\(∃ xs,SqL K H1 a xs)/\R (Itl K a) H1
def iTup(K:Ab)(tl:TE):TI:=fun σ H R=>tl σ H fun x H1=>∃ a,x=.ref a/\(∃ xs,SqT K H1 a xs)/\R (Itt K a) H1
def zpx{l:Expr}{tl:TE}(hl:PE X l tl):PI X tg l (zul X.K tl):=by
 intro pins s σ H R I h;refine thn (hl pins s σ H _ I h) ?_;rintro v s1 ⟨x,H1,I1,r1,q1⟩;obtain⟨a,e,⟨xs,hq⟩,q⟩:=q1;subst e;cases r1;obtain⟨its,rv,p,hz⟩:=I1.list hq;refine CS p.isList ?_;refine⟨s1.heap.objs.size,[s1.heap.objs.size],_,_,H1,rfl,I1.kept (t':=s1.toks) fun b o e=>Ac _ e,zkU a _,⟨_,Am _ rfl,rfl,rfl⟩,fun b hb=>?_,q⟩;have e:b=s1.heap.objs.size:=by simpa using hb
 subst e;exact I1.fpOk (Af _) (I1.hok.fresh (Af _))
def zrX{l:Expr}{tl:TE}(hl:PE X l tl):PI X tg l (iTup X.K tl):=by
 intro pins s σ H R I h;refine thn (hl pins s σ H _ I h) ?_;rintro v s1 ⟨x,H1,I1,r1,q1⟩;obtain⟨a,e,⟨xs,hq⟩,q⟩:=q1;subst e;cases r1;obtain⟨its,rv,p,hz⟩:=I1.tuple hq;refine wpAny_pyIter_tuple (show s1.heap.IsTuple a its.toArray from p) ?_;refine⟨s1.heap.objs.size,[s1.heap.objs.size],_,_,H1,rfl,I1.kept (t':=s1.toks) fun b o e=>Ac _ e,ziW a _,⟨_,Am _ rfl,rfl,rfl⟩,fun b hb=>?_,q⟩;have e:b=s1.heap.objs.size:=by simpa using hb
 subst e;exact I1.fpOk (Af _) (I1.hok.fresh (Af _))
def znh{pins:List (Addr×Obj)}{σ:St}{H:Hp}{s:Shared}{R:It->Hp->Prop}{E:Value->Shared->Prop}{lo hi:Int}{t u v:Tok}{tk:Nat}(I:Inv X pins σ H s)(h1:-(2 ^ 62)<=lo)(h2:lo < 2 ^ 62)(h3:-(2 ^ 62)<=hi)(h4:hi < 2 ^ 62)
   (q:R (Itr lo (hi - lo).toNat) H):wpAny (model X.prog X.w) X.A (pyIter (.ref s.heap.objs.size)) (PIE X pins σ tg R) E { s with heap:=s.heap.push { cls:=.type "range",data:=.fields #[.int lo t,.int hi u,.int 1 v] },toks:=tk }:=by
 refine wpAny_pyIter_range (IsRange.new ..) (small_one h1 h2 h3 h4) ?_;have I1:Inv X pins σ H { s with heap:=s.heap.push { cls:=.type "range",data:=.fields #[.int lo t,.int hi u,.int 1 v] },toks:=tk }:=I.kept fun b o e=>Ac _ e;refine⟨(s.heap.push { cls:=.type "range",data:=.fields #[.int lo t,.int hi u,.int 1 v] }).objs.size,[(s.heap.push { cls:=.type "range",data:=.fields #[.int lo t,.int hi u,.int 1 v] }).objs.size],_,_,H,rfl,
   I1.kept (t':=tk) fun b o e=>Ac _ e,ziX _ lo (hi - lo).toNat,?_,fun b hb=>?_,q⟩
 . have e1:lo+((0:Nat):Int)*1=lo:=by simp
   have e2:(((hi - lo).toNat:Nat):Int) - ((0:Nat):Int)=Builtin.Range.rangeSize lo hi 1:=by rw[rangeSize_one];split <;> omega
   show IsRangeIter _ _ (lo+((0:Nat):Int)*1) ((((hi - lo).toNat:Nat):Int) - ((0:Nat):Int)) 1;rw[e1,e2];exact Am _ rfl
 . have e:b=(s.heap.push { cls:=.type "range",data:=.fields #[.int lo t,.int hi u,.int 1 v] }).objs.size:=by simpa using hb
   subst e;exact I1.fpOk (Af _) (I1.hok.fresh (Af _))
def zuk(ta:TA):TI:=fun σ H R=>ta σ H fun vs H1=>∃ j:Int,vs=[.int j]/\-(2 ^ 62)<=j/\j < 2 ^ 62/\R (Itr 0 j.toNat) H1
def zlj{a:Expr}{ta:TA}{p pos:Pos}(hg:Gl X "range")(hm:X.mg "range"=none)(ha:PA X [a] ta)(hs:starEach [a] X.env=[(false,eval a X.env)]:=by rfl):PI X tg (.Call (.Name "range" p) [a] [] pos) (zuk ta):=by
 intro pins s σ H R I h;refine Call_ (ziC I hg hm boot_range (BS (thn (ha pos pins s σ H _ I h) ?_) hs rfl));rintro us s1 ⟨vs,H1,I1,r1,q1⟩;obtain⟨j,e,q1,q2,q⟩:=q1;subst e
 cases r1 with
 | cons r rr =>
   cases rr;obtain⟨t,rfl⟩:=r;exact call_range_1 (znh I1 (by omega) (by omega) q1 q2 (by simpa using q))
def tFor(wi:TI)(g:TG)(tb:TS):TS:=fun D σ H=>wi σ H fun J H1=>∃ W:Nat->Nat->St->Hp->Prop,(∃ m,W 0 m σ H1)/\∀ i m σ H,W i m σ H ->
 (J.stop i H/\D.nx σ H)\/(J.go i H/\∃ N:St->Hp->Prop,(∀ σ' H',N σ' H'->∃ m',m' < m/\W (i+1) m' σ' H')/\∀ x H',J.yld i H x H'->g x σ H' fun σ2 H2=>tb { D with nx:=N,ct:=N,bk:=D.nx } σ2 H2)
def zju(fp:List Addr)(h:Heap):List (Addr×Obj):=fp.filterMap fun b=>(h.get? b).map fun o=>(b,o)
def zc7{fp:List Addr}{h:Heap}{b:Addr}{o:Obj}(hb:b∈fp)(e:h.get? b=some o):(b,o)∈zju fp h:=List.mem_filterMap.mpr ⟨b,hb,by rw[e];rfl⟩
def zlr{fp:List Addr}{h:Heap}{p:Addr×Obj}(hp:p∈zju fp h):p.1∈fp/\h.get? p.1=some p.2:=by
 obtain⟨b,hb,e⟩:=List.mem_filterMap.mp hp
 cases q:h.get? b with
 | none=>rw[q] at e;cases e
 | some o =>
   rw[q] at e;have e':(b,o)=p:=Ay e;subst e';exact⟨hb,q⟩
def Inv.pinned{pins:List (Addr×Obj)}{σ:St}{H:Hp}{s:Shared}{fp:List Addr}(I:Inv X pins σ H s)(hf:∀ b∈fp,FpOk X pins H b)(ho:∀ b∈fp,∃ o,s.heap.get? b=some o/\∀ v,o.data≠.cell v):Inv X (pins++zju fp s.heap) σ H s :=
 I.pins_of fun p hp=>(List.mem_append.mp hp).elim (fun z=>I.pin p (AM _ z)) fun z=>by
   obtain⟨hb,e⟩:=zlr z;obtain⟨f0,f1,f2,_⟩:=hf p.1 hb;obtain⟨o,e',d⟩:=ho p.1 hb;rw[e] at e';cases e';exact⟨e,f0,f1,f2,d⟩
def Inv.unpinned{pins pl:List (Addr×Obj)}{σ:St}{H:Hp}{s:Shared}(I:Inv X (pins++pl) σ H s):Inv X pins σ H s:=I.pins_of fun p hp=>I.pin p (AM _ (Bw _ hp))
def zrU{iter:Expr}{body:List Stmt}{wi:TI}{g:TG}{tb:TS}{pos:Pos}(hp:PassesOwn (model X.prog X.w) X.A X.env X.xe)(hc:X.calm=true)(hi:PI X tg iter wi)(hg:PG X tg g)(hb:PSs X body tb)
   (hs:∀ x,foldedSetIterable iter X.env x=pure x:=by intro _;rfl):PS X (.For tg iter body [] pos) (tFor wi g tb):=by
 intro pins s σ H D I h;refine wpAny_For (thn (hi pins s σ H _ I h) fun v s1 h1=>thn h1 fun itv s2 h2=>?_) hs;obtain⟨it,fp,tn,J,H2,e,I2,T,st2,f2,W,⟨m0,w0⟩,turn⟩:=h2;subst e
 -- what stays true of the iterator's objects through the loop
 have stat:∀ {H':Hp},(∀ b∈fp,H' b=none)->∀ b∈fp,FpOk X pins H' b:=fun hn b hb=>⟨hn b hb,(f2 b hb).2⟩
 refine codeAny_forLoop_any (fun n s'=>∃ i σ' H',Inv X pins σ' H' s'/\tn i s'.heap/\(∀ b∈fp,H' b=none)/\W i n σ' H') ?_ m0 ⟨0,σ,H2,I2,st2,fun b hb=>(f2 b hb).1,w0⟩;rintro n s3 ⟨i,σ3,H3,I3,st3,fr3,w3⟩
 rcases turn i n σ3 H3 w3 with ⟨stop,qn⟩ | ⟨go,N,hN,step⟩
 . refine BZ hp (thn (T.done X rfl rfl rfl hc i pins s3 σ3 H3 X.xe I3 (stat fr3) st3 stop) ?_);rintro r s4 ⟨hr,I4⟩;subst hr;exact C3 ⟨σ3,H3,I4,qn⟩
 . refine BZ hp (thn (T.item X rfl rfl rfl hc i pins s3 σ3 H3 X.xe I3 (stat fr3) st3 go) ?_);rintro r s4 ⟨u,hr,h4⟩;subst hr;refine BZ hp (thn h4 ?_);rintro _ s5 ⟨x,H5,I5,r5,y5,st5,fr5⟩;have I5':=I5.pinned (stat fr5) (T.obj _ _ st5);refine BZ hp (thn (hg _ s5 σ3 H5 x u _ I5' r5 (step x H5 y5)) ?_);rintro _ s6 ⟨σ6,H6,I6,q6⟩;refine BZ hp (thn (hb _ s6 σ6 H6 _ I6 q6) fun f s7 q7=>?_);have again:∀ {σ7:St} {H7:Hp},Inv X (pins++zju fp s5.heap) σ7 H7 s7->N σ7 H7->∃ m,m < n/\∃ i σ' H',Inv X pins σ' H' s7/\tn i s7.heap/\(∀ b∈fp,H' b=none)/\W i m σ' H':=fun {σ7 H7} I7 n7=>by
     obtain⟨m',hm,w7⟩:=hN σ7 H7 n7;refine⟨m',hm,i+1,σ7,H7,I7.unpinned,T.keep _ _ _ st5 fun b hb o e=>(I7.pin (b,o) (AM _ (AM _ (zc7 hb e)))).1,fun b hb=>?_,w7⟩;obtain⟨o,e,d⟩:=T.obj _ _ st5 b hb;exact (I7.pin (b,o) (AM _ (AM _ (zc7 hb e)))).2.1
   cases f with
   | next=>obtain⟨σ7,H7,I7,n7⟩:=q7;exact again I7 n7
   | cont=>obtain⟨σ7,H7,I7,n7⟩:=q7;exact again I7 n7
   | brk=>obtain⟨σ7,H7,I7,q7⟩:=q7;exact⟨σ7,H7,I7.unpinned,q7⟩
   | ret v=>obtain⟨x7,σ7,H7,I7,r7,q7⟩:=q7;exact⟨x7,σ7,H7,I7.unpinned,r7,q7⟩
end
noncomputable abbrev R2:=V->V->Hp->VK->Prop
def OpR(X:Cx)(f:Value->Value->Sem Value)(r:R2):Prop :=
 ∀ (pins:List (Addr×Obj)) (s:Shared) (σ:St) (H:Hp) (x y:V) (v u:Value) (Q:VK),Inv X pins σ H s->RelV x v->RelV y u->r x y H Q ->
   wpAny (model X.prog X.w) X.A (f v u) (EP X pins σ Q) X.xe s
def UnR(X:Cx)(f:Value->Sem Value)(r:V->Hp->VK->Prop):Prop :=
 ∀ (pins:List (Addr×Obj)) (s:Shared) (σ:St) (H:Hp) (x:V) (v:Value) (Q:VK),Inv X pins σ H s->RelV x v->r x H Q ->
   wpAny (model X.prog X.w) X.A (f v) (EP X pins σ Q) X.xe s
def zkQ(X:Cx)(f:Value)(r:List V->Hp->VK->Prop):Prop :=
 ∀ (pins:List (Addr×Obj)) (s:Shared) (σ:St) (H:Hp) (xs:List V) (us:List Value) (Q:VK),Inv X pins σ H s->Vals xs us->r xs H Q ->
   wpAny (model X.prog X.w) X.A (call f us) (EP X pins σ Q) X.xe s
def TruR(X:Cx)(r:V->Hp->(Bool->Hp->Prop)->Prop):Prop :=
 ∀ (pins:List (Addr×Obj)) (s:Shared) (σ:St) (H:Hp) (x:V) (v:Value) (Q:Bool->Hp->Prop),Inv X pins σ H s->RelV x v->r x H Q ->
   wpAny (model X.prog X.w) X.A (truthy v) (TP X pins σ Q) X.xe s
def tOp(r:R2)(ta tb:TE):TE:=fun σ H Q=>ta σ H fun x H1=>tb σ H1 fun y H2=>r x y H2 Q
def tUn(r:V->Hp->VK->Prop)(ta:TE):TE:=fun σ H Q=>ta σ H fun x H1=>r x H1 Q
def rI(C:Int->Int->Prop)(g:Int->Int->V):R2:=fun x y H Q=>∃ i j,x=.int i/\y=.int j/\C i j/\Q (g i j) H
def rI0(g:Int->Int->V):R2:=fun x y H Q=>∃ i j,x=.int i/\y=.int j/\Q (g i j) H
def rU(g:Int->V):V->Hp->VK->Prop:=fun x H Q=>∃ i,x=.int i/\Q (g i) H
section
variable {X:Cx} {a b c:Expr} {ta tb tc:TE} {pos:Pos}
def binT(ha:PE X a ta)(hb:PE X b tb){pins:List (Addr×Obj)}{s:Shared}{σ:St}{H:Hp}{R:V->V->Hp->Prop}(I:Inv X pins σ H s)
   (h:ta σ H fun x H1=>tb σ H1 fun y H2=>R x y H2) {Q:Value->Shared->Prop} {f:Value->Value->Sem Value}
   (hf:∀ v u s2 x y H2,Inv X pins σ H2 s2->RelV x v->RelV y u->R x y H2->wpAny (model X.prog X.w) X.A (f v u) Q X.xe s2) :
   wpAny (model X.prog X.w) X.A (eval a X.env) (fun v s₁=>wpAny (model X.prog X.w) X.A (eval b X.env) (fun u s₂=>wpAny (model X.prog X.w) X.A (f v u) Q X.xe s₂) X.xe s₁) X.xe s:=by
 refine thn (ha pins s σ H _ I h) ?_;rintro v s1 ⟨x,H1,I1,r1,q1⟩;refine thn (hb pins s1 σ H1 _ I1 q1) ?_;rintro u s2 ⟨y,H2,I2,r2,q2⟩;exact hf v u s2 x y H2 I2 r1 r2 q2
def ztX{op:Operator}{r:R2}(ho:OpR X (binaryOp op) r)(ha:PE X a ta)(hb:PE X b tb):PE X (.BinOp a op b pos) (tOp r ta tb):=by
 intro pins s σ H Q I h;exact wpAny_BinOp (binT ha hb I h fun v u s2 x y H2 I2 rx ry q=>ho pins s2 σ H2 x y v u Q I2 rx ry q)
def ztW{op:UnaryOp}{r:V->Hp->VK->Prop}(ho:UnR X (unaryOp op) r)(ha:PE X a ta):PE X (.UnaryOp op a pos) (tUn r ta):=by
 intro pins s σ H Q I h;exact UnaryOp_ (thn (ha pins s σ H _ I h) fun v s1 ⟨x,H1,I1,r1,q1⟩=>ho pins s1 σ H1 x v Q I1 r1 q1)
def opI{f:Value->Value->Sem Value}{C:Int->Int->Prop}{g:Int->Int->Int}
   (rule:∀ (i j:Int) (t u:Tok) (s:Shared) (Q:Value->Shared->Prop) (E:Value->Shared->Prop),C i j->Q (.int (g i j) s.toks) { s with toks:=s.toks+1 }->wpAny (model X.prog X.w) X.A (f (.int i t) (.int j u)) Q E s) :
   OpR X f (rI C fun i j=>.int (g i j)):=by
 intro pins s σ H x y v u Q I rx ry h;obtain⟨i,j,rfl,rfl,hc,q⟩:=h;obtain⟨t,rfl⟩:=rx;obtain⟨t',rfl⟩:=ry;exact rule i j t t' s _ _ hc ⟨.int (g i j),H,I.tok _,⟨_,rfl⟩,q⟩
def opI0{f:Value->Value->Sem Value}{g:Int->Int->Int}
   (rule:∀ (i j:Int) (t u:Tok) (s:Shared) (Q:Value->Shared->Prop) (E:Value->Shared->Prop),Q (.int (g i j) s.toks) { s with toks:=s.toks+1 }->wpAny (model X.prog X.w) X.A (f (.int i t) (.int j u)) Q E s) :
   OpR X f (rI0 fun i j=>.int (g i j)):=by
 intro pins s σ H x y v u Q I rx ry h;obtain⟨i,j,rfl,rfl,q⟩:=h;obtain⟨t,rfl⟩:=rx;obtain⟨t',rfl⟩:=ry;exact rule i j t t' s _ _ ⟨.int (g i j),H,I.tok _,⟨_,rfl⟩,q⟩
def opB0{f:Value->Value->Sem Value}{g:Int->Int->Bool}
   (rule:∀ (i j:Int) (t u:Tok) (s:Shared) (Q:Value->Shared->Prop) (E:Value->Shared->Prop),Q (.bool (g i j)) s->wpAny (model X.prog X.w) X.A (f (.int i t) (.int j u)) Q E s) :
   OpR X f (rI0 fun i j=>.bl (g i j)):=by
 intro pins s σ H x y v u Q I rx ry h;obtain⟨i,j,rfl,rfl,q⟩:=h;obtain⟨t,rfl⟩:=rx;obtain⟨t',rfl⟩:=ry;exact rule i j t t' s _ _ ⟨.bl (g i j),H,I,rfl,q⟩
def CMul(i j:Int):Prop:=(-(2 ^ 64) < i/\i < 2 ^ 64)\/(-(2 ^ 64) < j/\j < 2 ^ 64)
def CMul.ok{i j:Int}(h:CMul i j):IntMulOk i j:=by
 rcases h with ⟨h1,h2⟩ | ⟨h1,h2⟩
 . exact .of_left (intBits_le_64 h1 h2)
 . exact .of_right (intBits_le_64 h1 h2)
def zsl:OpR X (binaryOp .Add) (rI0 fun i j=>.int (i+j)):=opI0 fun _ _ _ _ _ _ _ q=>add_int q
def zsf:OpR X (binaryOp .Sub) (rI0 fun i j=>.int (i - j)):=opI0 fun _ _ _ _ _ _ _ q=>sub_int q
def zsg:OpR X (binaryOp .Mult) (rI CMul fun i j=>.int (i*j)):=opI fun _ _ _ _ _ _ _ hc q=>mul_int q hc.ok
def zsh:OpR X (binaryOp .Mod) (rI (fun _ j=>0 < j) fun i j=>.int (i % j)):=opI fun i j _ _ _ _ _ hc q=>by
 have h1:(0:Int) < j:=hc;exact mod_int' (by omega) (by rw[Int.fmod_eq_emod_of_nonneg i (by omega)];exact q)
def unI{f:Value->Sem Value}{g:Int->Int}
   (rule:∀ (i:Int) (t:Tok) (s:Shared) (Q:Value->Shared->Prop) (E:Value->Shared->Prop),Q (.int (g i) s.toks) { s with toks:=s.toks+1 }->wpAny (model X.prog X.w) X.A (f (.int i t)) Q E s) :
   UnR X f (rU fun i=>.int (g i)):=by
 intro pins s σ H x v Q I rx h;obtain⟨i,rfl,q⟩:=h;obtain⟨t,rfl⟩:=rx;exact rule i t s _ _ ⟨.int (g i),H,I.tok _,⟨_,rfl⟩,q⟩
def zri:UnR X (unaryOp .USub) (rU fun i=>.int (-i)):=unI fun _ _ _ _ _ q=>neg_int q
end
section
variable {X:Cx} {a b c:Expr} {ta tb tc:TE} {pos:Pos}
def zob{pins:List (Addr×Obj)}{σ:St}{H:Hp}{s:Shared}{Q:VK}{k k':Bool}(I:Inv X pins σ H s)(q:Q (.bl k) H)(e:k=k'):EP X pins σ Q (.bool k') s:=by
 subst e;exact⟨.bl k,H,I,rfl,q⟩
def zt1:OpR X (compareOp .Lt) (rI0 fun i j=>.bl (decide (i < j))):=opB0 fun _ _ _ _ _ _ _ q=>FS q
def zt2:OpR X (compareOp .LtE) (rI0 fun i j=>.bl (decide (i<=j))):=opB0 fun _ _ _ _ _ _ _ q=>le_int q
def zt3:OpR X (compareOp .Gt) (rI0 fun i j=>.bl (decide (j < i))):=opB0 fun _ _ _ _ _ _ _ q=>gt_int q
def zt4:OpR X (compareOp .GtE) (rI0 fun i j=>.bl (decide (j<=i))):=opB0 fun _ _ _ _ _ _ _ q=>ge_int q
def zlp:OpR X (compareOp .In) (fun x y H Q=>∃ i j,x=.str i/\y=.str j/\Q (.bl (!(Builtin.Str.occurrences j i 0 j.length 1).isEmpty)) H):=by
 intro pins s σ H x y v u Q I rx ry h;obtain⟨i,j,rfl,rfl,q⟩:=h;obtain⟨t,rfl⟩:=rx;obtain⟨t',rfl⟩:=ry;exact in_str (zob I q rfl)
def zpH:OpR X (compareOp .IsNot) (fun x y H Q=>y=.non/\Q (.bl (!decide (x=.non))) H):=by
 intro pins s σ H x y v u Q I rx ry h;obtain⟨rfl,q⟩:=h;cases ry;refine isnot_none_gen (zob I q ?_)
 cases x <;> first
   | (cases rx;rfl)
   | (obtain⟨t,rfl⟩:=rx;rfl)
def zgZ:OpR X (compareOp .NotIn) (fun x y H Q=>∃ i j,x=.str i/\y=.str j/\Q (.bl (!(!(Builtin.Str.occurrences j i 0 j.length 1).isEmpty))) H):=by
 intro pins s σ H x y v u Q I rx ry h;obtain⟨i,j,rfl,rfl,q⟩:=h;obtain⟨t,rfl⟩:=rx;obtain⟨t',rfl⟩:=ry;exact notIn_str (zob I q rfl)
def zpD{op:CmpOp}{r:R2}(ho:OpR X (compareOp op) r)(ha:PE X a ta)(hb:PE X b tb)(hm:behindInMarks op b=false):PE X (.Compare a [op] [b] pos) (tOp r ta tb):=by
 intro pins s σ H Q I h;exact wpAny_Compare1 (binT ha hb I h fun v u s2 x y H2 I2 rx ry q=>ho pins s2 σ H2 x y v u Q I2 rx ry q) hm
def zta(t:TE):TT:=fun σ H Q=>t σ H fun x H'=>∃ k,x=.bl k/\Q k H'
def zpn{op:CmpOp}{r:R2}(ho:OpR X (compareOp op) r)(ha:PE X a ta)(hb:PE X b tb)(hm:behindInMarks op b=false):PT X (.Compare a [op] [b] pos) (zta (tOp r ta tb)):=by
 intro pins s σ H Q I h;refine En (thn (ha pins s σ H _ I h) fun v s1 ⟨x,H1,I1,r1,q1⟩=>thn (hb pins s1 σ H1 _ I1 q1) fun u s2 ⟨y,H2,I2,r2,q2⟩ =>
   thn (ho pins s2 σ H2 x y v u _ I2 r1 r2 q2) fun c s3 ⟨z,H3,I3,r3,k,e,q3⟩=>?_) hm
 subst e;cases r3;exact Bp ⟨H3,I3,q3⟩
def zmS(r r':R2)(ta tb tc:TE):TE:=fun σ H Q=>ta σ H fun x H1=>tb σ H1 fun y H2=>r x y H2 fun z H3=>∃ k,z=.bl k /\
 (if k=true then tc σ H3 fun w' H4=>r' y w' H4 Q else Q (.bl false) H3)
def zny{op op':CmpOp}{r r':R2}(ho:OpR X (compareOp op) r)(ho':OpR X (compareOp op') r')(ha:PE X a ta)(hb:PE X b tb)(hc:PE X c tc)
   (hm:lastMarks [op,op'] [b,c]=false:=by with_unfolding_all rfl):PE X (.Compare a [op,op'] [b,c] pos) (zmS r r' ta tb tc):=by
 intro pins s σ H Q I h;refine Compare_chain (thn (ha pins s σ H _ I h) fun v s1 ⟨x,H1,I1,r1,q1⟩=>chain_link (thn (hb pins s1 σ H1 _ I1 q1) fun u s2 ⟨y,H2,I2,r2,q2⟩ =>
   thn (ho pins s2 σ H2 x y v u _ I2 r1 r2 q2) fun d s3 ⟨z,H3,I3,r3,k,e,q3⟩=>?_)) hm
 subst e;cases r3;refine Bp ?_
 cases k with
 | false=>exact ite_ff ⟨.bl false,H3,I3,rfl,q3⟩
 | true=>exact ite_tt (chain_last (thn (hc pins s3 σ H3 _ I3 q3) fun w' s4 ⟨z',H4,I4,r4,q4⟩=>ho' pins s4 σ H4 y z' u w' Q I4 r2 r4 q4))
def znk{op op':CmpOp}{r r':R2}(ho:OpR X (compareOp op) r)(ho':OpR X (compareOp op') r')(ha:PE X a ta)(hb:PE X b tb)(hc:PE X c tc)
   (hm:lastMarks [op,op'] [b,c]=false:=by with_unfolding_all rfl):PT X (.Compare a [op,op'] [b,c] pos) (zta (zmS r r' ta tb tc)):=by
 intro pins s σ H Q I h;refine isTrue_chain (thn (ha pins s σ H _ I h) fun v s1 ⟨x,H1,I1,r1,q1⟩=>test_link (thn (hb pins s1 σ H1 _ I1 q1) fun u s2 ⟨y,H2,I2,r2,q2⟩ =>
   thn (ho pins s2 σ H2 x y v u _ I2 r1 r2 q2) fun d s3 ⟨z,H3,I3,r3,k,e,q3⟩=>?_)) hm
 subst e;cases r3;refine Bp ?_
 cases k with
 | false =>
   obtain⟨k',e',q'⟩:=q3;cases e';exact ite_ff ⟨H3,I3,q'⟩
 | true =>
   refine ite_tt (test_last (thn (hc pins s3 σ H3 _ I3 q3) fun w' s4 ⟨z',H4,I4,r4,q4⟩=>thn (ho' pins s4 σ H4 y z' u w' _ I4 r2 r4 q4) ?_));rintro d' s5 ⟨z2,H5,I5,r5,k2,e2,q5⟩;subst e2;cases r5;exact Bp ⟨H5,I5,q5⟩
def TruV(K:Ab)(x:V)(H:Hp)(k:Bool):Prop :=
 match x with
 | .non=>k=false
 | .bl b=>k=b
 | .int i=>k=(i != 0)
 | .str y=>y.length<=sizeLine/\k=((y.length:Int) != 0)
 | .byt y=>y.size<=sizeLine/\k=((y.size:Int) != 0)
 | .ref p=>(∃ xs,SqL K H p xs/\k=!xs.isEmpty)\/(∃ xs,SqT K H p xs/\k=!xs.isEmpty)\/∃ kvs,H p=some (.dK kvs)/\k=!kvs.isEmpty
 | _=>False
def zjZ{κ:Type}{kvs:List (κ×V)}{vs:List (κ×Value)}(r:KV kvs vs):(!vs.isEmpty)=!kvs.isEmpty:=by
 cases r <;> rfl
def zgg{xs:List V}{its:List Value}(r:Vals xs its):(!its.toArray.isEmpty)=!xs.isEmpty:=by
 cases r <;> simp
def zha:(sizeLine:Nat) < 2 ^ 63:=by rw[Cj];decide
def zrl:TruR X (fun x H Q=>∃ k,TruV X.K x H k/\Q k H):=by
 intro pins s σ H x v Q I rx h;obtain⟨k,e,q⟩:=h;have hl:=zha;have hs:sizeLine=16777216:=Cj
 cases x with
 | non =>
   cases rx;have e':k=false:=e;subst e';exact truthy_none ⟨H,I,q⟩
 | bl b =>
   cases rx;have e':k=b:=e;subst e';exact Bp ⟨H,I,q⟩
 | int i =>
   obtain⟨t,rfl⟩:=rx;have e':k=(i != 0):=e;subst e';exact PySem.P.truthy_int ⟨H,I,q⟩
 | str y =>
   obtain⟨t,rfl⟩:=rx;obtain⟨hy,e'⟩:y.length<=sizeLine/\k=((y.length:Int) != 0):=e;subst e';exact EV (by omega) ⟨H,I.tok _,q⟩
 | byt y =>
   obtain⟨t,rfl⟩:=rx;obtain⟨hy,e'⟩:y.size<=sizeLine/\k=((y.size:Int) != 0):=e;subst e';exact PySem.W.truthy_bytes (by omega) ⟨H,I.tok _,q⟩
 | ref p =>
   cases rx;have e':(∃ xs,SqL X.K H p xs/\k=!xs.isEmpty)\/(∃ xs,SqT X.K H p xs/\k=!xs.isEmpty)\/∃ kvs,H p=some (.dK kvs)/\k=!kvs.isEmpty:=e
   rcases e' with ⟨xs,hx,e'⟩ | ⟨xs,hx,e'⟩ | ⟨kvs,hx,e'⟩
   . subst e';obtain⟨its,r,pl,hz⟩:=I.list hx;have hlen:=r.length;exact wpAny_truthy_list pl.isList (by simp only[AB];omega) ⟨H,I.tok _,by rw[zgg r];exact q⟩
   . subst e';obtain⟨its,r,pl,hz⟩:=I.tuple hx;have hlen:=r.length;exact truthy_tuple pl (by simp only[AB];omega) ⟨H,I.tok _,by rw[zgg r];exact q⟩
   . subst e';obtain⟨hz,hS,vs,r,m⟩:kvs.length<=sizeLine/\(p==sysModules)=false/\∃ vs,KV kvs vs/\s.heap.DictOf (zaB X.prog X.w) p vs:=I.hok p _ hx;have hlen:kvs.length=vs.length:=Bf r;exact wpAny_truthy_dict hS m (by omega) ⟨H,I.tok _,by rw[zjZ r];exact q⟩
 | _=>exact (show False from e).elim
def zjs(ha:PE X a ta)(he:∀ whole,isTrue a X.env whole=(do let v <-whole;standAt a.pos;holding [v] (truthy v))) :
   PT X a (fun σ H Q=>ta σ H fun x H'=>∃ k,TruV X.K x H' k/\Q k H'):=by
 intro pins s σ H Q I h;exact isTrue_plain (thn (ha pins s σ H _ I h) fun v s1 ⟨x,H1,I1,r1,q1⟩=>zrl pins s1 σ H1 x v Q I1 r1 q1) (he _)
def zjB:OpR X (binaryOp .Add) (fun x y H Q=>∃ i j,x=.str i/\y=.str j/\i.length+j.length<=sizeLine/\Q (.str (i++j)) H):=by
 intro pins s σ H x y v u Q I rx ry h;obtain⟨i,j,rfl,rfl,hz,q⟩:=h;obtain⟨t,rfl⟩:=rx;obtain⟨t',rfl⟩:=ry;exact add_str (fun t' tk=>⟨.str (i++j),H,I.tok _,⟨_,rfl⟩,q⟩) hz
def vals1{x:V}{us:List Value}(r:Vals [x] us):∃ u,us=[u]/\RelV x u:=by
 cases r with
 | cons r1 r2=>cases r2;exact⟨_,rfl,r1⟩
def vals2{x y:V}{us:List Value}(r:Vals [x,y] us):∃ u w',us=[u,w']/\RelV x u/\RelV y w':=by
 cases r with
 | cons r1 r2 =>
   cases r2 with
   | cons r3 r4=>cases r4;exact⟨_,_,rfl,r1,r3⟩
def zl3(hc:X.calm=true):zkQ X (.builtin "min") (fun xs H Q=>∃ i j,xs=[.int i,.int j]/\Q (.int (if j < i then j else i)) H):=by
 intro pins s σ H xs us Q I r h;obtain⟨i,j,rfl,q⟩:=h;obtain⟨u,w',rfl,⟨t,rfl⟩,⟨t',rfl⟩⟩:=vals2 r;refine min_two_ints (I.ok.hd hc) fun h' tk k=>⟨_,H,I.kept k,?_,q⟩
 by_cases hj:j < i
 . rw[if_pos hj,if_pos hj];exact⟨_,rfl⟩
 . rw[if_neg hj,if_neg hj];exact⟨_,rfl⟩
def zh1:zkQ X (.type "int") (fun xs H Q=>(∃ i,xs=[.int i]/\Q (.int i) H)\/∃ k,xs=[.bl k]/\Q (.int (if k then 1 else 0)) H):=by
 intro pins s σ H xs us Q I r h
 rcases h with ⟨i,rfl,q⟩ | ⟨k,rfl,q⟩
 . obtain⟨u,rfl,t,rfl⟩:=vals1 r;exact call_int_int ⟨.int i,H,I,⟨_,rfl⟩,q⟩
 . obtain⟨u,rfl,r1⟩:=vals1 r;cases r1;exact call_int_bool ⟨.int (if k then 1 else 0),H,I.tok _,⟨_,rfl⟩,q⟩
end
structure ObjM(h:Heap)(x dx C:Addr)(mA:Str->Option Value):Prop where
 obj:h.get? x=some (BK C dx)
 ns:h.Ns1 dx mA
 ne:dx≠x
def zlC{h:Heap}{dx:Addr}{mA:Str->Option Value}(n:h.Ns1 dx mA):∃ od,h.get? dx=some od/\∀ name,Ds name od=some (mA name):=by
 obtain⟨o,es,ep,ho,hd,hk,_,hm⟩:=n;refine⟨o,ho,fun name=>?_⟩;have e:=hm name;unfold nsFind findBy at e;rw[<-Array.find?_toList] at e;unfold Ds;rw[hd];dsimp only
 split
 . rename_i y q;rw[q] at e;exact congrArg some e
 . rename_i q;rw[q] at e;have a:es.toList.any (·.refKey)=false:=by
     rw[Fn];intro y hy;obtain⟨z,t,hkey⟩:=hk y (Array.mem_toList_iff.mp hy);simp[DictEntry.refKey,hkey]
   have a':¬ es.toList.any (·.refKey)=true:=by rw[a];exact AV
   rw[if_neg a'];exact congrArg some e
def ObjM.look{h:Heap}{x dx C:Addr}{mA:Str->Option Value}(I:ObjM h x dx C mA):∃ od,PySem.W.InstAt h x (BK C dx) C (some od)/\∀ name,Ds name od=some (mA name) :=
 let ⟨od,ho,hl⟩:=zlC I.ns
 ⟨od,⟨I.obj,rfl,rfl,ho⟩,hl⟩
section
variable {prog:Program} {w:World} {A:Around} {E:Value->Shared->Prop} {s:Shared} {K:Ab} {x dx C f:Addr} {mA:Str->Option Value} {name:Str} {v:Value}
def get_map{expr:Bool}{Q:Value->Shared->Prop}(X:K.In s.heap)(I:ObjM s.heap x dx C mA)(hg:Cz K C name=true)(hh:CT K C=true)
   (ha:AU K (.ref C) name=some none) (hv:mA name=some v) (hv':FJ v=true) (h:Q v { s with toks:=s.toks+1 }) :
   wpAny (model prog w) A (getAttr (.ref x) name expr) Q E s:=by
 obtain⟨od,J,hl⟩:=I.look;exact PySem.W.get_value X J (Dj hg).1 (PySem.W.findObj_own hh ha rfl (by rw[hl,hv])) hv' h
def zn7{pl:Sem Bool}{Q:Value×List Value->Shared->Prop}(X:K.In s.heap)(I:ObjM s.heap x dx C mA)(hg:Cz K C name=true)
   (hf:AU K (.ref C) name=some (some (.ref f))) (ht:C4 K (.ref f)=true) (hv:mA name=none) (h:Q (.ref f,[.ref x]) s) :
   wpAny (model prog w) A (getMethod (.ref x) name pl) Q E s:=by
 obtain⟨od,J,hl⟩:=I.look;exact PySem.W.method_fn X J (Dj hg).1 (Dj hg).2 hf (beq_iff_eq.mp ht) (by show (Ds name od).map (·.isSome)=some false;rw[hl,hv];rfl) h
def zo3{ns:List Str}{Q:Unit->Shared->Prop}(X:K.In s.heap)(I:ObjM s.heap x dx C mA)
   (hs:AU K (.ref C) "__setattr__"=some (some (.builtin "object.__setattr__"))) (hp:DJ K C=true) (ht:D5 K C name=some none) (hh:CT K C=true)
   (hw:EU mA ns) (hsz:ns.length<=sizeLine)
   (h:∀ h',ObjM h' x dx C (fun y=>if y=name then some v else mA y)->BC dx s.heap h'->Q () { s with heap:=h',toks:=s.toks+2 }) :
   wpAny (model prog w) A (setAttr (.ref x) name v) Q E s:=by
 obtain⟨od,J,hl⟩:=I.look;refine PySem.W.set_plain X J hs (PySem.W.osa_open (s:={ s with toks:=s.toks+1 }) (r:=none) X J hp ht fun b=>?_);obtain⟨cd,hc,hd'⟩:=PySem.W.any_some hh;have hx:s.heap.get? x=some ⟨.ref C,some dx,.plain,#[]⟩:=I.obj;refine Aa (Ad (Aa (Aa (wpAny_loadPart hx (Aa (PySem.W.Looks.here (s:={ s with toks:=s.toks+1 }) (PySem.W.looks_clsIn X hc) ?_))))));rw[hd'];refine Ad (a:=some dx) (Aa (Ad (Aa ?_)));refine wpAny_nsSet1 (s:={ s with toks:=s.toks+1 }) I.ns fun h' hn2 hs2=>?_;obtain⟨oD,esD,epD,hoD,hdD,hcD⟩:=hn2.count (PySem.Within.cons name v hw);refine Aa (wpAny_lookBehind hoD (by rw[hdD];exact pastItsLine_dict (Az hcD (by rw[Ar];omega))) ?_);exact Ad (h _ ⟨(hs2.2 _ (BB I.ne)).trans I.obj,hn2,I.ne⟩ hs2)
def znO{R:Result->Shared->Prop}{vs:List Value}{kw:List (Str×Value)}(X:K.In s.heap)(hm:C5 K C=true)
   (hi:AU K (.ref C) "__init__"=some (some (.ref f))) (hf:PySem.W.typeIn K (.ref f)=some (.type "function"))
   (h:codeAny (model prog w) (A.under (.builtin "type.__call__" ⟨.ref C::vs,kw⟩)) (.call (.ref f) ⟨.ref (s.heap.objs.size+1)::vs,kw⟩) (PySem.W.InitBack (s.heap.objs.size+1) R)
     { s with heap:=(s.heap.push Bq).push (BK C s.heap.objs.size) }) :
   codeAny (model prog w) A (.call (.ref C) ⟨vs,kw⟩) R s:=by
 obtain⟨hh,g,d,t,os⟩:=s;exact PySem.W.make_core (PySem.W.makes_of X hm) (PySem.W.looks_findIn X hi) (fun self=>PySem.W.bind_fn X self hf) (.inl rfl) h
end
def putF(f:Str)(v:V):List (Str×V)->List (Str×V)
 | []=>[(f,v)]
 | (g,x)::r=>if g=f then (g,v)::r else (g,x)::putF f v r
def zeM(f g:Str)(v:V):∀ fs:List (Str×V),(putF f v fs).lookup g=if g=f then some v else fs.lookup g
 | []=>by
   show Ck g [(f,v)]=_
   by_cases h:g=f
   . have hb:(g==f)=true:=beq_iff_eq.mpr h;simp only[Ck,hb,if_pos h]
   . have hb:(g==f)=false:=beq_eq_false_iff_ne.mpr h;simp only[Ck,hb,if_neg h]
 | (k,x)::r=>by
   have ih:=zeM f g v r;rw[show putF f v ((k,x)::r)=(if k=f then (k,v)::r else (k,x)::putF f v r) from rfl]
   by_cases hk:k=f
   . rw[if_pos hk]
     by_cases h:g=k
     . have hb:(g==k)=true:=beq_iff_eq.mpr h;simp only[Ck,hb,if_pos (h.trans hk)]
     . have hb:(g==k)=false:=beq_eq_false_iff_ne.mpr h;simp only[Ck,hb,if_neg (fun e:g=f=>h (e.trans hk.symm))]
   . rw[if_neg hk]
     by_cases h:g=k
     . have hb:(g==k)=true:=beq_iff_eq.mpr h;simp only[Ck,hb,if_neg (fun e:g=f=>hk (h.symm.trans e))]
     . have hb:(g==k)=false:=beq_eq_false_iff_ne.mpr h;simp only[Ck,hb];exact ih
def zfz(f:Str)(v:V):∀ fs:List (Str×V),f∈(putF f v fs).map (·.1)/\∀ g,g∈fs.map (·.1)->g∈(putF f v fs).map (·.1)
 | []=>⟨by simp[putF],fun g h=>by simp at h⟩
 | (k,x)::r=>by
   obtain⟨i1,i2⟩:=zfz f v r;rw[show putF f v ((k,x)::r)=(if k=f then (k,v)::r else (k,x)::putF f v r) from rfl]
   by_cases hk:k=f
   . rw[if_pos hk];subst hk;exact⟨by simp,fun g h=>by simpa using h⟩
   . rw[if_neg hk];refine⟨?_,fun g h=>?_⟩
     . rw[Av];exact Ak _ i1
     . rw[Av] at h ⊢
       rcases List.mem_cons.mp h with e | e
       . exact List.mem_cons.mpr (.inl e)
       . exact Ak _ (i2 g e)
def zeN(f:Str)(v:V):∀ fs:List (Str×V),(putF f v fs).length<=fs.length+1
 | []=>by simp[putF]
 | (k,x)::r=>by
   have ih:=zeN f v r;rw[show putF f v ((k,x)::r)=(if k=f then (k,v)::r else (k,x)::putF f v r) from rfl]
   by_cases hk:k=f
   . rw[if_pos hk,Ar,Ar];omega
   . rw[if_neg hk,Ar,Ar];omega
def RelO.some_of{v:V}{o:Option Value}(r:RelO (some v) o):∃ u,o=some u/\RelV v u:=by
 cases o with
 | none=>exact (show False from r).elim
 | some u=>exact⟨u,rfl,r⟩
def RelO.none_of{o:Option Value}(r:RelO none o):o=none:=by
 cases o with
 | none=>rfl
 | some u=>exact (show False from r).elim
def zlO{v:V}{u:Value}(r:RelV v u):FJ u=true:=by
 cases v with
 | non=>cases (show u=Be from r);rfl
 | bl b=>cases (show u=EA b from r);rfl
 | int i=>obtain⟨t,e⟩:=(show ∃ t,u=Dv i t from r);cases e;rfl
 | str x=>obtain⟨t,e⟩:=(show ∃ t,u=D4 x t from r);cases e;rfl
 | byt b=>obtain⟨t,e⟩:=(show ∃ t,u=GA b t from r);cases e;rfl
 | flt b=>obtain⟨t,e⟩:=(show ∃ t,u=GB b t from r);cases e;rfl
 | ref a=>cases (show u=AF a from r);rfl
 | ty n=>cases (show u=FU n from r);rfl
section
variable {P:Program} {w:World} {H H':Hp} {h h':Heap} {a C dx:Addr} {fs fs':List (Str×V)}
def zj3(hok:HOk P w H h)(e:H a=some (.ins C dx fs)):∃ mA,ObjM h a dx C mA/\(∀ f,RelO (fs.lookup f) (mA f))/\EU mA (fs.map (·.1))/\fs.length<=1000/\H dx=some (.own a):=by
 obtain⟨d,z,ne,ob,mA,n,r,q⟩:=(show zcW P w H h a (.ins C dx fs) from hok a _ e)
 exact⟨mA,⟨ob,n,ne⟩,r,q,z,d⟩
end
structure Cls(K:Ab)(C:Addr):Prop where
 pg:Cz K C EW=true
 hd:CT K C=true
 po:DJ K C=true
 sa:AU K (.ref C) "__setattr__"=some (some (.builtin "object.__setattr__"))
def Cls.get{K:Ab}{C:Addr}(c:Cls K C)(f:Str):Cz K C f=true:=c.pg
def zbz(K:Ab)(C:Addr)(f:Str):Prop:=AU K (.ref C) f=some none
def zbz.taker{K:Ab}{C:Addr}{f:Str}(n:zbz K C f):D5 K C f=some none:=by
 unfold D5;rw[show AU K (.ref C) f=some none from n];rfl
structure Meth(K:Ab)(C:Addr)(m:Str)(f:Addr):Prop where
 at_:AU K (.ref C) m=some (some (.ref f))
 fn:C4 K (.ref f)=true
 kp:A9 K (.ref f)=true
section
variable {X:Cx} {pins:List (Addr×Obj)} {σ:St} {H:Hp} {s:Shared} {a C dx:Addr} {fs:List (Str×V)} {f:Str} {v:V} {A:Around} {E:Value->Shared->Prop}
def zj8{b:Bool}{Q:Value->Shared->Prop}(I:Inv X pins σ H s)(e:H a=some (.ins C dx fs))(c:Cls X.K C)(n:zbz X.K C f)(l:fs.lookup f=some v)
   (h:∀ u s',Inv X pins σ H s'->RelV v u->Q u s'):wpAny (model X.prog X.w) A (getAttr (.ref a) f b) Q E s:=by
 obtain⟨mA,O,r,_,_,_⟩:=zj3 I.hok e;obtain⟨u,hu,ru⟩:=RelO.some_of (v:=v) (o:=mA f) (by rw[<-l];exact r f);exact get_map I.kIn O (c.get f) c.hd n hu (zlO ru) (h u _ (I.tok _) ru)
def zgi{m:Str}{g:Addr}{pl:Sem Bool}{Q:Value×List Value->Shared->Prop}(I:Inv X pins σ H s)(e:H a=some (.ins C dx fs))(c:Cls X.K C)(k:Meth X.K C m g)(l:fs.lookup m=none)
   (h:Q (.ref g,[.ref a]) s):wpAny (model X.prog X.w) A (getMethod (.ref a) m pl) Q E s:=by
 obtain⟨mA,O,r,_,_,_⟩:=zj3 I.hok e;have hn:mA m=none:=RelO.none_of (by rw[<-l];exact r m);exact zn7 I.kIn O (c.get m) k.at_ k.fn hn h
def zjb{y:V}{u:Value}{Q:Unit->Shared->Prop}(I:Inv X pins σ H s)(e:H a=some (.ins C dx fs))(c:Cls X.K C)(n:zbz X.K C f)(hl:fs.length < 1000)(ry:RelV y u)
   (h:∀ s',Inv X pins σ (upd H a (.ins C dx (putF f y fs))) s'->Q () s'):wpAny (model X.prog X.w) A (setAttr (.ref a) f u) Q E s:=by
 obtain⟨mA,O,r,wi,_,ho⟩:=zj3 I.hok e;have hz:(fs.map (·.1)).length<=sizeLine:=by rw[Ag,Cj];omega
 refine zo3 I.kIn O c.sa c.po n.taker c.hd wi hz fun h' O' sb=>h _ ?_;have hd:∃ o,h'.get? dx=some o:=let ⟨o,_,_,e',_⟩:=O'.ns;⟨o,e'⟩
 refine I.write (x:=a) (e:=dx) (by rw[e];exact CO) (.inr ho) (fun b q hb z=>(sb.2 b hb).trans z) hd ?_;refine⟨by rw[zat O.ne];exact ho,?_,O.ne,O'.obj,_,O'.ns,fun g=>?_,fun g hg=>?_⟩
 . have:=zeN f y fs;omega
 . show RelO ((putF f y fs).lookup g) (if g=f then some u else mA g);rw[zeM]
   by_cases q:g=f
   . rw[if_pos q,if_pos q];exact ry
   . rw[if_neg q,if_neg q];exact r g
 . by_cases q:g=f
   . rw[q];exact (zfz f y fs).1
   . refine (zfz f y fs).2 g (wi g fun z=>hg ?_);show (if g=f then some u else mA g)=none;rw[if_neg q];exact z
def Inv.made(I:Inv X pins σ H s):Inv X pins σ (upd (upd H s.heap.objs.size (.own (s.heap.objs.size+1))) (s.heap.objs.size+1) (.ins C s.heap.objs.size []))
   { s with heap:=(s.heap.push Bq).push (BK C s.heap.objs.size) }:=by
 have e1:(s.heap.push Bq).get? s.heap.objs.size=some Bq:=Am s.heap rfl;have e2:((s.heap.push Bq).push (BK C s.heap.objs.size)).get? (s.heap.objs.size+1)=some (BK C s.heap.objs.size):=by
   have:=Am (s.heap.push Bq) (o:=BK C s.heap.objs.size) rfl
   rwa [A6] at this
 have e3:(s.heap.push Bq).Ns s.heap.objs.size (fun _=>none):=⟨Bq,#[],_,e1,rfl,(fun e he=>absurd he (by simp)),fun _=>rfl⟩
 have I1:=I.laid (a:=s.heap.objs.size) (o:=.own (s.heap.objs.size+1)) (h':=s.heap.push Bq) (t':=s.toks) (fun b u q=>Ac _ q) (Af _) ⟨_,e1⟩;refine I1.laid (a:=s.heap.objs.size+1) (o:=.ins C s.heap.objs.size []) (t':=s.toks) (fun b u q=>Ac _ q) (DP (A6 _ _)) ?_;have ne:s.heap.objs.size≠s.heap.objs.size+1:=As (B7 _);refine⟨by rw[zat ne,zbi],A0 _,ne,e2,fun _=>none,(Heap.Ns1.of_empty e3).at fun o q=>Ac _ q,fun _=>CO,fun y hy=>absurd rfl hy⟩
def zqQ{prog:Program}{w:World}{env:Env}{e:Expr}{f:Str}{pos:Pos}{s:Shared}{Q:Value->Shared->Prop}(hb:attributeBase e f env (eval e env)=eval e env)
   (h:wpAny (model prog w) A (eval e env) (fun o s₁=>wpAny (model prog w) A (getAttr o f true) Q E s₁) E s):wpAny (model prog w) A (eval (.Attribute e f pos) env) Q E s :=
 Attribute_any_ h (by rw[arm_eval_Attribute,hb])
end
def tFld(K:Ab)(ta:TE)(f:Str):TE:=fun σ H Q=>ta σ H fun x H1=>∃ a C dx fs v,x=.ref a/\H1 a=some (.ins C dx fs)/\Cls K C/\zbz K C f/\fs.lookup f=some v/\Q v H1
def sFld(K:Ab)(ta tv:TE)(f:Str):TS:=fun D σ H=>tv σ H fun y H1=>ta σ H1 fun x H2=>∃ a C dx fs,x=.ref a/\H2 a=some (.ins C dx fs)/\Cls K C/\zbz K C f/\fs.length < 1000 /\
 D.nx σ (upd H2 a (.ins C dx (putF f y fs)))
section
variable {X:Cx} {o e value:Expr} {f:Str} {pos pos' tpos:Pos} {ta tv:TE}
def zr9(he:PE X e ta)(hb:attributeBase e f X.env (eval e X.env)=eval e X.env):PE X (.Attribute e f pos) (tFld X.K ta f):=by
 intro pins s σ H Q I h;refine zqQ hb (thn (he pins s σ H _ I h) ?_);rintro u s1 ⟨x,H1,I1,rx,a,C,dx,fs,v,ex,ea,c,n,l,q⟩;subst ex;obtain rfl:u=AF a:=rx;exact zj8 I1 ea c n l fun u' s2 I2 ru=>⟨v,H1,I2,ru,q⟩
def zrV(ha:PE X o ta)(hv:PE X value tv)(hs:swapsWith value (some (.Attribute o f pos')) pos.line X.env=pure false):PS X (.Assign [.Attribute o f pos'] value pos) (sFld X.K ta tv f):=by
 intro pins s σ H D I h;refine plainObj_wpAny_Assign_Attribute (thn (hv pins s σ H _ I h) fun u s1 ⟨y,H1,I1,ry,q⟩=>thn (ha pins s1 σ H1 _ I1 q) ?_) hs;rintro ov s2 ⟨x,H2,I2,rx,a,C,dx,fs,ex,ea,c,n,l,q2⟩;subst ex;obtain rfl:ov=AF a:=rx;exact zjb I2 ea c n l ry fun s3 I3=>⟨σ,_,I3,q2⟩
end
structure Room(k:Nat)(A:Around):Prop where
 hd:A.handled=none
 dp:A.depth+3*k+5 < recursionLimit
 un:A.units+16*k+200 < cLine
 gd:A.guards=some []
def Room.mono{j k:Nat}{A:Around}(r:Room k A)(h:j<=k):Room j A:=⟨r.hd,by have:=r.dp;omega,by have:=r.un;omega,r.gd⟩
def Room.deeper{k:Nat}{A:Around}(r:Room (k+1) A)(env:Env):Room k (A.deeper env) :=
 ⟨r.hd,by have:=r.dp;show A.depth+1+3*k+5 < _;omega,by have:=r.un;show A.units+3+16*k+200 < _;omega,r.gd⟩
def zjP{A:Around}{C:Addr}{us:List Value}{kw:List (Str×Value)}:(A.under (.builtin "type.__call__" ⟨.ref C::us,kw⟩)).depth=A.depth+1:=by
 first | rfl | simp[DQ,Code.weight,Code.isCreation,Gy,Code.isCaller,Code.frames,EX,guardIds]
def zjO{A:Around}{C:Addr}{us:List Value}{kw:List (Str×Value)}:(A.under (.builtin "type.__call__" ⟨.ref C::us,kw⟩)).units=A.units+1:=by
 first | rfl | simp[DQ,Code.cUnits,Code.frames,EX]
def ziA{A:Around}{C:Addr}{us:List Value}{kw:List (Str×Value)}:(A.under (.builtin "type.__call__" ⟨.ref C::us,kw⟩)).guards=A.guards:=by
 have h:(Code.builtin "type.__call__" ⟨.ref C::us,kw⟩).guards=[]:=by first | rfl | simp[Code.guards,Gy,guardIds]
 dsimp only[DQ];rw[h]
 cases A.guards <;> rfl
def Room.make{k:Nat}{A:Around}(r:Room (k+1) A)(C:Addr)(us:List Value)(kw:List (Str×Value)):Room k (A.under (.builtin "type.__call__" ⟨.ref C::us,kw⟩)) :=
 ⟨r.hd,by have:=r.dp;rw[zjP];omega,by have:=r.un;rw[zjO];omega,by rw[ziA];exact r.gd⟩
def Room.depth{k:Nat}{A:Around}(r:Room k A):A.depth < recursionLimit:=by have:=r.dp;omega
def Room.units{k:Nat}{A:Around}(r:Room k A):A.units+64 < cLine:=by have:=r.un;omega
def tNil:TA:=fun _ H Q=>Q [] H
def ztJ(ta:TE)(tr:TA):TA:=fun σ H Q=>ta σ H fun x H1=>tr σ H1 fun xs H2=>Q (x::xs) H2
section
variable {X:Cx} {e:Expr} {es:List Expr} {te:TE} {t:TA} {pos:Pos}
def zpG:PA X [] tNil:=fun _ _ _ _ H Q I h=>DK ⟨[],H,I,.nil,h⟩
def zjw(ha:PE X e te)(hr:PA X es t)(hs:starEach (e::es) X.env=(false,eval e X.env)::starEach es X.env:=by rfl):PA X (e::es) (ztJ te t):=by
 intro pos pins s σ H Q I h;rw[hs];show wpAny _ _ (spliced ((false,eval e X.env)::backTo pos (starEach es X.env))) _ _ s;refine CK (thn (ha pins s σ H _ I h) ?_);rintro u s1 ⟨x,H1,I1,r1,q1⟩;exact thn (hr pos pins s1 σ H1 _ I1 q1) fun us s2 ⟨xs,H2,I2,r2,q2⟩=>⟨x::xs,H2,I2,.cons r1 r2,q2⟩
def tTup(t:TA):TE:=fun σ H Q=>t σ H fun xs H1=>xs.length<=sizeLine/\∀ p,H1 p=none->Q (.ref p) (upd H1 p (.tup xs))
def tLst(t:TA):TE:=fun σ H Q=>t σ H fun xs H1=>xs.length<=sizeLine/\∀ p,H1 p=none->Q (.ref p) (upd H1 p (.lst xs))
def zr2{x1}(h:PA X es t):PE X (.Tuple es x1 pos) (tTup t):=by
 intro pins s σ H Q I hq;refine wpAny_Tuple_spliced (thn (h pos pins s σ H _ I hq) fun us s1 ⟨xs,H1,I1,r,z,q⟩=>⟨by rw[<-r.length];exact z,?_⟩);have hf:H1 s1.heap.objs.size=none:=I1.hok.fresh (Af _);refine⟨.ref s1.heap.objs.size,upd H1 s1.heap.objs.size (.tup xs),I1.laid (t':=s1.toks) (fun b u e=>Ac _ e) (Af _) ?_,rfl,q _ hf⟩;exact⟨z,us,r,⟨_,Am _ rfl,rfl,rfl,_,rfl⟩⟩
def zr7(h:PA X es t):PE X (.List es pos) (tLst t):=by
 intro pins s σ H Q I hq;refine wpAny_List_spliced (thn (h pos pins s σ H _ I hq) fun us s1 ⟨xs,H1,I1,r,z,q⟩=>⟨by rw[<-r.length];exact z,?_⟩);have hf:H1 s1.heap.objs.size=none:=I1.hok.fresh (Af _);refine⟨.ref s1.heap.objs.size,upd H1 s1.heap.objs.size (.lst xs),I1.laid (t':=s1.toks) (fun b u e=>Ac _ e) (Af _) ?_,rfl,q _ hf⟩;exact⟨z,us,0,r,Am _ rfl⟩
end
noncomputable abbrev Sp:=List V->Hp->VK->XK->Prop
noncomputable abbrev CXT:=List Env->Hp->Shared->XK->Value->Shared->Prop
structure Env0(P:Program)(w:World)(K:Ab)(mg:Str->Option Value)(base:Heap)(A:Around)(outer:List Env)(s:Shared)(H:Hp):Prop where
 frames:A.frames=some outer
 mod:Mod K mg base
 bs:∀ b o,base.get? b=some o->s.heap.get? b=some o/\H b=none
 bsz:base.objs.size<=s.heap.objs.size
 funs:s.heap.FunFrames base outer
 frf:∀ b∈frs outer,H b=none
 hok:HOk P w H s.heap
 bare:AllBare s.gens
def CE(outer:List Env)(P:Program)(w:World)(H:Hp)(s:Shared)(Q:VK)(u:Value)(s':Shared):Prop :=
 ∃ v H',s'.os=s.os/\AllBare s'.gens/\Un (frs outer) [] H H' s.heap s'.heap/\HOk P w H' s'.heap/\RelV v u/\Q v H'
def CR(CX:CXT)(outer:List Env)(P:Program)(w:World)(H:Hp)(s:Shared)(Q:VK)(E:XK)(r:Result)(s':Shared):Prop :=
 match r with
 | .ok (.ret u)=>CE outer P w H s Q u s'
 | .ok _=>False
 | .error e=>CX outer H s E e s'
structure FnOk(P:Program)(w:World)(K:Ab)(mg:Str->Option Value)(base:Heap)(CX:CXT)(k:Nat)(f:Addr)(fd:FuncData)(ps:List Str)(sp:Sp):Prop where
 len:∀ vs H Q E,sp vs H Q E->vs.length=ps.length
 run:∀ (A:Around) (outer:List Env) (s:Shared) (H:Hp) (args:Args) (us:List Value) (vs:List V) (Q:VK) (E:XK),Room k A->Env0 P w K mg base A outer s H->BindsTo s fd args (ps.zip us)->Vals vs us->sp vs H Q E ->
   codeAny (model P w) A (.call (.ref f) args) (CR CX outer P w H s Q E) s
def Env0.make{P:Program}{w:World}{K:Ab}{mg:Str->Option Value}{base:Heap}{A:Around}{outer:List Env}{s:Shared}{H:Hp}(e:Env0 P w K mg base A outer s H)(C:Addr)(us:List Value)(kw:List (Str×Value)) :
   Env0 P w K mg base (A.under (.builtin "type.__call__" ⟨.ref C::us,kw⟩)) outer s H:=⟨by first | exact e.frames | (simpa[DQ,Code.envs,EX,pushEnvs] using e.frames),e.mod,e.bs,e.bsz,e.funs,e.frf,e.hok,e.bare⟩
section
variable {X:Cx} {pins:List (Addr×Obj)} {σ:St} {H:Hp} {s s':Shared}
def Inv.env0(I:Inv X pins σ H s):Env0 X.prog X.w X.K X.mg X.base X.A X.stack s H :=
 ⟨I.ok.frames,I.ok.mod,I.bs,Az I.ok.bsz I.sz,I.stack,I.stkFree,I.hok,I.bare⟩
def Inv.after{Q:VK}{u:Value}(I:Inv X pins σ H s)(h:CE X.stack X.prog X.w H s Q u s'):EP X pins σ Q u s':=by
 obtain⟨v,H',os,bare,un,hok,r,q⟩:=h;obtain⟨hh,g,d,t,os'⟩:=s';obtain rfl:os'=s.os:=os;exact⟨v,H',I.call (h':=hh) (g':=g) (d':=d) (t':=t) (ch:=[]) un hok bare (fun b z=>absurd z (by simp)),r,q⟩
end
def ztK(sp:Sp)(dvs:List V)(E:XK)(t:TA):TE:=fun σ H Q=>t σ H fun vs H1=>sp (vs++dvs) H1 Q E
def zrn(C:Addr)(m:Str)(sp:Sp)(dvs:List V)(E:XK)(ta:TE)(t:TA):TE:=fun σ H Q=>ta σ H fun x H1=>∃ a dx fs,x=.ref a/\H1 a=some (.ins C dx fs)/\fs.lookup m=none /\
 t σ H1 fun vs H2=>sp (x::(vs++dvs)) H2 Q E
def ztG(C:Addr)(sp:Sp)(dvs:List V)(E:XK)(t:TA):TE:=fun σ H Q=>t σ H fun vs H1=>∀ x dx,H1 x=none->H1 dx=none->dx≠x ->
 sp (.ref x::(vs++dvs)) (upd (upd H1 dx (.own x)) x (.ins C dx [])) (fun v H2=>v=.non/\Q (.ref x) H2) E
def Binds(K:Ab)(fd:FuncData)(ps:List Str)(ds:List Value):Prop :=
 ∀ (s:Shared) (us:List Value),K.In s.heap->(us++ds).length=ps.length->BindsTo s fd ⟨us,[]⟩ (ps.zip (us++ds))
def Binds.all{K:Ab}{fd:FuncData}{ps:List Str}(h:∀ us:List Value,us.length=ps.length->bindArgs fd ⟨us,[]⟩=pure (ps.zip us)):Binds K fd ps []:=fun s us _ hl=>by
 rw[Ap] at hl ⊢;exact .of_eq (h us hl)
def Passes(CX:CXT)(X:Cx)(E:XK):Prop:=∀ (pins:List (Addr×Obj)) (σ:St) (H:Hp) (s:Shared) (e:Value) (s':Shared),Inv X pins σ H s->CX X.stack H s E e s'->X.xe e s'
section
variable {X:Cx} {CX:CXT} {k:Nat} {f C:Addr} {fd:FuncData} {ps:List Str} {sp:Sp} {dvs:List V} {ds:List Value} {E:XK} {x m:Str} {p pos apos:Pos} {e o:Expr} {es:List Expr} {ta:TE} {t:TA}
def znc{pins:List (Addr×Obj)}{σ:St}{H:Hp}{s:Shared}{Q:VK}{us:List Value}{vs:List V}(F:FnOk X.prog X.w X.K X.mg X.base CX k f fd ps sp)(hr:Room k X.A)(hb:Binds X.K fd ps ds)(hd:Vals dvs ds)(hx:Passes CX X E)
   (I:Inv X pins σ H s) (r:Vals vs us) (h:sp (vs++dvs) H Q E):wpAny (model X.prog X.w) X.A (call (.ref f) us) (EP X pins σ Q) X.xe s:=by
 have r2:Vals (vs++dvs) (us++ds):=r.append hd;have hl:(us++ds).length=ps.length:=by rw[<-r2.length];exact F.len _ _ _ _ h
 refine wpAny_call (DR (F.run X.A X.stack s H ⟨us,[]⟩ (us++ds) (vs++dvs) Q E hr I.env0 (hb s us I.kIn hl) r2 h) fun r s' hq=>?_)
 cases r with
 | error e=>exact hx pins σ H s e s' I hq
 | ok fl =>
   cases fl with
   | ret u=>exact I.after hq
   | next=>exact False.elim hq
   | brk=>exact False.elim hq
   | cont=>exact False.elim hq
def zpE(F:FnOk X.prog X.w X.K X.mg X.base CX k f fd ps sp)(hr:Room k X.A)(hg:Gl X x)(hm:X.mg x=some (.ref f))(hk:A9 X.K (.ref f)=true)(hb:Binds X.K fd ps ds)(hd:Vals dvs ds)(hx:Passes CX X E)
   (ha:PA X (e::es) t) (hdb:(x==("__debug__":Str))=false:=by decide) (he:starEach (e::es) X.env=(false,eval e X.env)::starEach es X.env:=by rfl) (hpl:(backTo pos (starEach es X.env)).any (·.1)=false:=by rfl) :
   PE X (.Call (.Name x p) (e::es) [] pos) (ztK sp dvs E t):=by
 intro pins s σ H Q I h;refine CL (zmw I hg hm ?_ hdb);refine Dx (h₀:=X.base) I.ok.mod.kin hk (thn (ha pos pins s σ H _ I h) fun us s1 ⟨vs,H1,I1,r,q⟩=>⟨I1.kIn,?_⟩) he hpl;exact znc F hr hb hd hx I1 r q
def zpB{pl:Sem Bool}(he:PE X o ta)(c:Cls X.K C)(hm:Meth X.K C m f)(F:FnOk X.prog X.w X.K X.mg X.base CX k f fd ps sp)(hr:Room k X.A)(hb:Binds X.K fd ps ds)(hd:Vals dvs ds)(hx:Passes CX X E)(ha:PA X (e::es) t)
   (hst:starEach (e::es) X.env=(false,eval e X.env)::starEach es X.env:=by rfl) (hpl:(backTo pos (starEach es X.env)).any (·.1)=false:=by rfl)
   (ht:eval (.Call (.Attribute o m apos) (e::es) [] pos) X.env=(do
     let ov <-eval o X.env
     standAt apos.atName
     let (f,first) <-holding [ov] (getMethod ov m pl)
     callWith pos f first (backTo pos (starEach (e::es) X.env)) (backToKw pos (keywordEach [] X.env))):=by rfl) :
   PE X (.Call (.Attribute o m apos) (e::es) [] pos) (zrn C m sp dvs E ta t):=by
 intro pins s σ H Q I h;refine Eo (pl:=pl) (thn (he pins s σ H _ I h) ?_) ht;rintro u s1 ⟨x,H1,I1,rx,a,dx,fs,ex,ea,l,q⟩;subst ex;obtain rfl:u=AF a:=rx;refine zgi I1 ea c hm l ?_;refine Dx (first:=[.ref a]) (h₀:=X.base) I.ok.mod.kin hm.kp (thn (ha pos pins s1 σ H1 _ I1 q) fun us s2 ⟨vs,H2,I2,r,q2⟩=>⟨I2.kIn,?_⟩) hst hpl;exact znc (us:=.ref a::us) (vs:=.ref a::vs) F hr hb hd hx I2 (.cons rfl r) q2
def znu{pl:Sem Bool}(he:PE X o ta)(c:Cls X.K C)(hm:Meth X.K C m f)(F:FnOk X.prog X.w X.K X.mg X.base CX k f fd ps sp)(hr:Room k X.A)(hb:Binds X.K fd ps ds)(hd:Vals dvs ds)(hx:Passes CX X E)
   (ht:eval (.Call (.Attribute o m apos) [] [] pos) X.env=(do
     let ov <-eval o X.env
     standAt apos.atName
     let (f,first) <-holding [ov] (getMethod ov m pl)
     callWith pos f first (backTo pos (starEach [] X.env)) (backToKw pos (keywordEach [] X.env))):=by rfl) :
   PE X (.Call (.Attribute o m apos) [] [] pos) (zrn C m sp dvs E ta tNil):=by
 intro pins s σ H Q I h;refine Eo (pl:=pl) (thn (he pins s σ H _ I h) ?_) ht;rintro u s1 ⟨x,H1,I1,rx,a,dx,fs,ex,ea,l,q⟩;subst ex;obtain rfl:u=AF a:=rx;refine zgi I1 ea c hm l ?_;exact PySem.W.callWith_K0 (first:=[.ref a]) I1.kIn hm.kp (znc (us:=[.ref a]) (vs:=[.ref a]) F hr hb hd hx I1 (.cons rfl .nil) q)
structure Mk(K:Ab)(C f:Addr):Prop where
 makes:C5 K C=true
 init:AU K (.ref C) "__init__"=some (some (.ref f))
 fn:C4 K (.ref f)=true
 kp:A9 K (.ref C)=true
def znb{pins:List (Addr×Obj)}{σ:St}{H:Hp}{s:Shared}{Q:VK}{us:List Value}{vs:List V}(M:Mk X.K C f)(F:FnOk X.prog X.w X.K X.mg X.base CX k f fd ps sp)(hr:Room (k+1) X.A)(hb:Binds X.K fd ps ds)(hd:Vals dvs ds)
   (hx:Passes CX X E) (I:Inv X pins σ H s) (r:Vals vs us)
   (h:∀ x dx,H x=none->H dx=none->dx≠x->sp (.ref x::(vs++dvs)) (upd (upd H dx (.own x)) x (.ins C dx [])) (fun v H2=>v=.non/\Q (.ref x) H2) E) :
   wpAny (model X.prog X.w) X.A (call (.ref C) us) (EP X pins σ Q) X.xe s:=by
 have hq:=h (s.heap.objs.size+1) s.heap.objs.size (I.hok.fresh (Cm _)) (I.hok.fresh (Af _)) (As (B7 _));have I2:=Inv.made (C:=C) I;have r2:Vals (V.ref (s.heap.objs.size+1)::(vs++dvs)) (AF (s.heap.objs.size+1)::(us++ds)):=.cons rfl (r.append hd);have hl:(AF (s.heap.objs.size+1)::us++ds).length=ps.length:=by
   have e:=r2.length;rw[F.len _ _ _ _ hq] at e;exact e.symm
 refine wpAny_call (znO (f:=f) I.kIn M.makes M.init (beq_iff_eq.mp M.fn) (DR (F.run _ X.stack _ _ ⟨AF (s.heap.objs.size+1)::us,[]⟩ (AF (s.heap.objs.size+1)::(us++ds)) _ _ E (hr.make C us [])
   (I2.env0.make C us []) (hb _ (AF (s.heap.objs.size+1)::us) I2.kIn hl) r2 hq) fun r s' hq'=>?_))
 cases r with
 | error e=>exact hx pins σ _ _ e s' I2 hq'
 | ok fl =>
   cases fl with
   | ret u =>
     obtain⟨v,H',I3,rv,ev,q3⟩:=I2.after hq';subst ev;exact⟨rv,⟨V.ref (s.heap.objs.size+1),H',I3,rfl,q3⟩⟩
   | next=>exact False.elim hq'
   | brk=>exact False.elim hq'
   | cont=>exact False.elim hq'
def zpC(M:Mk X.K C f)(F:FnOk X.prog X.w X.K X.mg X.base CX k f fd ps sp)(hr:Room (k+1) X.A)(hg:Gl X x)(hm:X.mg x=some (.ref C))(hb:Binds X.K fd ps ds)(hd:Vals dvs ds)(hx:Passes CX X E)
   (ha:PA X (e::es) t) (hdb:(x==("__debug__":Str))=false:=by decide) (he:starEach (e::es) X.env=(false,eval e X.env)::starEach es X.env:=by rfl) (hpl:(backTo pos (starEach es X.env)).any (·.1)=false:=by rfl) :
   PE X (.Call (.Name x p) (e::es) [] pos) (ztG C sp dvs E t):=by
 intro pins s σ H Q I h;refine CL (zmw I hg hm ?_ hdb);refine Dx (h₀:=X.base) I.ok.mod.kin M.kp (thn (ha pos pins s σ H _ I h) fun us s1 ⟨vs,H1,I1,r,q⟩=>⟨I1.kIn,?_⟩) he hpl;exact znb M F hr hb hd hx I1 r q
end
structure FnScope(N P:List Str)(sc:Scope):Prop where
 kind:sc.kind=.function
 co:sc.isCoroutine=false
 gen:sc.isGenerator=false
 nd:N.Nodup
 pre:N.take P.length=P
 par:∀ x∈P,sc.names.lookup x=some .local\/sc.names.lookup x=some .cell
 nofree:∀ y∈sc.names,y.2≠.free
def zh2{kindOf:Str->Option NameKind}{x:Str}:∀ {binds:List (Str×Value)} {m:Str->Option Value},(∀ v,(x,v) ∉ binds)->bindL kindOf binds m x=m x
 | [],_,_=>rfl
 | (n,v)::r,m,h=>by
   unfold bindL;rw[zh2 fun w hw=>h w (Ak _ hw)]
   split
   . have:x≠n:=by rintro rfl;exact h v An
     simp[this]
   . rfl
def zh4{kindOf:Str->Option NameKind}{x:Str}:∀ {binds:List (Str×Value)} {m:Str->Option Value},(∀ v,(x,v) ∉ binds)->bindC kindOf binds m x=m x
 | [],_,_=>rfl
 | (n,v)::r,m,h=>by
   unfold bindC;rw[zh4 fun w hw=>h w (Ak _ hw)]
   split
   . rfl
   . have:x≠n:=by rintro rfl;exact h v An
     simp[this]
def zh3{kindOf:Str->Option NameKind}{x:Str}{v:Value}:∀ {P:List Str} {vs:List Value} {i:Nat} {m:Str->Option Value},P.Nodup->P[i]?=some x->vs[i]?=some v->kindOf x=some .local ->
   bindL kindOf (P.zip vs) m x=some v
 | [],_,_,_,_,h,_,_=>by simp at h
 | _::_,[],_,_,_,_,h,_=>by simp at h
 | p::P,w::vs,0,m,nd,h1,h2,hk=>by
   simp at h1 h2;subst h1;subst h2;show bindL kindOf ((p,w)::P.zip vs) m p=_;unfold bindL;rw[zh2 fun v hv=>(List.nodup_cons.mp nd).1 (CF hv).1,if_pos hk];simp
 | p::P,w::vs,i+1,m,nd,h1,h2,hk=>by
   show bindL kindOf ((p,w)::P.zip vs) m x=_;unfold bindL;exact zh3 (i:=i) (List.nodup_cons.mp nd).2 (by simpa using h1) (by simpa using h2) hk
def zh5{kindOf:Str->Option NameKind}{x:Str}{v:Value}:∀ {P:List Str} {vs:List Value} {i:Nat} {m:Str->Option Value},P.Nodup->P[i]?=some x->vs[i]?=some v->kindOf x≠some .local ->
   bindC kindOf (P.zip vs) m x=some v
 | [],_,_,_,_,h,_,_=>by simp at h
 | _::_,[],_,_,_,_,h,_=>by simp at h
 | p::P,w::vs,0,m,nd,h1,h2,hk=>by
   simp at h1 h2;subst h1;subst h2;show bindC kindOf ((p,w)::P.zip vs) m p=_;unfold bindC;rw[zh4 fun v hv=>(List.nodup_cons.mp nd).1 (CF hv).1,if_neg hk];simp
 | p::P,w::vs,i+1,m,nd,h1,h2,hk=>by
   show bindC kindOf ((p,w)::P.zip vs) m x=_;unfold bindC;exact zh5 (i:=i) (List.nodup_cons.mp nd).2 (by simpa using h1) (by simpa using h2) hk
def start(N:List Str)(vs:List V):St:=vs.map some++Bx (N.length - vs.length) none
def cxOf(CX:CXT)(P:Program)(w:World)(K:Ab)(mg:Str->Option Value)(base:Heap)(N:List Str)(qual:Str)(scope:Scope)(f:Addr)(cd:Value)(A:Around)(outer:List Env)(s:Shared)(H:Hp)(E:XK):Cx where
 prog:=P
 w:=w
 K:=K
 mg:=mg
 base:=base
 A:=A.deeper (envOfC qual scope s.heap.objs.size f cd)
 N:=N
 s₀:=s
 H₀:=H
 env:=envOfC qual scope s.heap.objs.size f cd
 outer:=outer
 stack:=envOfC qual scope s.heap.objs.size f cd::outer
 ex:=[]
 calm:=true
 fn:=fun _=>true
 pn:=[]
 xe:=fun e s'=>wpAny (model P w) (A.deeper (envOfC qual scope s.heap.objs.size f cd)) (leaving (envOfC qual scope s.heap.objs.size f cd) e) (fun _ s''=>CX outer H s E e s'') (fun e' s''=>CX outer H s E e' s'') s'
def zkr{sc:Scope}{n:Nat}{x:Str}(h:sc.names.lookup x=some .cell):∃ c,(cellsFrom n sc.names []).lookup x=some c:=by
 have q:=Ef sc.names n [] (.inl h);exact Option.isSome_iff_exists.mp q
def zlK{CX:CXT}{P:Program}{w:World}{K:Ab}{mg:Str->Option Value}{base:Heap}{N ps:List Str}{qual:Str}{scope:Scope}{f:Addr}{cd:Value}{A:Around}{outer:List Env}{s s1:Shared}{H:Hp}{E:XK}{us:List Value}{vs:List V}
   (S:FnScope N ps scope) (hd:A.handled=none) (e0:Env0 P w K mg base A outer s H) (hl:vs.length=ps.length) (r:Vals vs us)
   (x:InCallC s s.heap.objs.size (bindL (envOfC qual scope s.heap.objs.size f cd).kindOf (ps.zip us) fun _=>none) (cellsFrom (s.heap.objs.size+1) scope.names []) (bindC (envOfC qual scope s.heap.objs.size f cd).kindOf (ps.zip us) fun _=>none) s1) :
   Inv (cxOf CX P w K mg base N qual scope f cd A outer s H E) [] (start N vs) H s1:=by
 have hpl:ps.length<=N.length:=by have:=congrArg FE S.pre;rw[Bl] at this;omega
 obtain⟨h1,tk,rfl,hk⟩:=x.done;have noA:∀ b:Addr,b ∉ (cxOf CX P w K mg base N qual scope f cd A outer s H E).ex:=fun b z=>absurd (show b∈([]:List Addr) from z) (by simp);refine⟨⟨e0.mod,S.kind,rfl,rfl,Af _,fun y z c h1 h2=>?_,fun y hy=>?_,fun y c _ h=>?_,fun _=>hd,Around.frames_deeper e0.frames,.inr ⟨rfl,rfl⟩,fun b z=>absurd z (noA b),e0.bs,e0.bsz,fun b _ _=>noA b,fun b z=>absurd z (noA b),e0.funs,e0.frf⟩,
   rfl,e0.bare,Un.kept hk,⟨_,x.toInCall.ns,fun i y v h1 h2 h3=>?_⟩,fun y c h=>⟨_,x.cell y c h⟩,e0.hok.fresh (Af _),fun y c h=>?_,fun p hp=>absurd (show p∈([]:List (Addr×Obj)) from hp) (by simp),e0.hok.kept hk,?_⟩
 . exact name_of_addr x.apart (AO h1) (AO h2)
 . have hy:scope.names.lookup y=some .cell\/scope.names.lookup y=some .free:=hy
   rcases hy with hy | hy
   . exact zkr hy
   . exact absurd rfl (S.nofree _ (AO hy))
 . exact Cs (x.above y c (AO h))
 . have hi:i < vs.length:=by
     unfold start at h2
     by_cases hi:i < vs.length
     . exact hi
     . rw[AW (by simpa using hi)] at h2;rw[Cc] at h2
       split at h2 <;> cases h2
   have ha:vs[i]?=some v:=by
     unfold start at h2;rw[Al (by simpa using hi),AD] at h2
     cases e:vs[i]? with
     | none=>rw[e] at h2;cases h2
     | some a=>rw[e] at h2;cases h2;rfl
   obtain⟨u,hu,rv⟩:=r.get ha;have hp:ps[i]?=some y:=by
     rw[<-S.pre,List.getElem?_take_of_lt (by omega)];exact h1
   have ndP:ps.Nodup:=by rw[<-S.pre];exact S.nd.sublist (Fo _ _)
   refine⟨u,rv,?_⟩
   rcases S.par y (A3 hp) with k | k
   . exact .inl ⟨k,zh3 ndP hp hu k⟩
   . obtain⟨c,e⟩:=zkr (n:=s.heap.objs.size+1) k;refine .inr ⟨.inl k,c,e,?_⟩;have q:=x.cell y c e;rw[zh5 ndP hp hu (by show scope.names.lookup y≠_;rw[k];decide)] at q;exact q
 . exact e0.hok.fresh (Cs (x.above y c (AO h)))
 . unfold start;show _=N.length;rw[AH,Ag,BE];omega
def zuo{CX:CXT}{P:Program}{w:World}{K:Ab}{mg:Str->Option Value}{base:Heap}{k:Nat}{f:Addr}{name qual:Str}{params:Arguments}{body:List Stmt}{scope:Scope}{dV kV doc pm cdv ct oc:Value}{an od:Option Addr}
   {osl:Array (Option Value)} {N ps:List Str} {sp:Sp} (lk:K.lookup f=some ⟨oc,od,.func (Bn name qual params body scope dV kV doc pm an cdv ct),osl⟩) (hcd:B6 K cdv qual=true) (S:FnScope N ps scope)
   (len:∀ vs H Q E,sp vs H Q E->vs.length=ps.length)
   (hbody:∀ (A:Around) (outer:List Env) (s:Shared) (H:Hp) (vs:List V) (Q:VK) (E:XK),Room k (A.deeper (envOfC qual scope s.heap.objs.size f cdv))->sp vs H Q E ->
     ∃ t,PSs (cxOf CX P w K mg base N qual scope f cdv A outer s H E) body t/\t { nx:=fun _ H'=>Q .non H',rt:=Q } (start N vs) H) :
   FnOk P w K mg base CX (k+1) f (Bn name qual params body scope dV kV doc pm an cdv ct) ps sp:=by
 refine⟨len,fun A outer s H args us vs Q E hr e0 hb r hsp=>?_⟩;have hl:=len _ _ _ _ hsp;have KX:K.In s.heap:=e0.mod.kin.keeps fun b o e=>(e0.bs b o e).1;have lim:s.heap.NoLimit:=e0.mod.nolimit.keeps fun b o e=>(e0.bs b o e).1;have hkind:∀ y∈ps.zip us,scope.names.lookup y.1=some .local\/(scope.names.lookup y.1=some .cell/\((cellsFrom (s.heap.objs.size+1) scope.names []).lookup y.1).isSome=true):=by
   rintro ⟨n,v⟩ hy
   rcases S.par n (CF hy).1 with q | q
   . exact .inl q
   . exact .inr ⟨q,Ef _ _ _ (.inl q)⟩
 refine codeAny_call_function hr.depth (KX _ _ lk) rfl S.co S.gen rfl (PySem.W.codeRec_of KX hcd) (hb _ _ _ _ ?_);refine wpAny_newFunctionEnv_cells S.kind hkind fun env he s1 x=>?_;subst he;refine⟨lim.keeps x.toInCall.keep,codeAny_func ?_⟩;obtain⟨t,ht,hq⟩:=hbody A outer s H vs Q E (hr.deeper _) hsp;have I:Inv (cxOf CX P w K mg base N qual scope f cdv A outer s H E) [] (start N vs) H s1:=zlK S hr.hd e0 hl r x;refine Bs (ht [] s1 (start N vs) H _ I hq) (fun fl s' hs=>?_) fun e s' hs=>hs;have fin:∀ {σ':St} {H':Hp} {v:V} {u:Value},Inv (cxOf CX P w K mg base N qual scope f cdv A outer s H E) [] σ' H' s'->RelV v u->Q v H'->CE outer P w H s Q u s' :=
   fun {σ' H' v u} J rv q=>⟨v,H',J.os,J.bare,J.base,J.hok,rv,q⟩
 cases fl with
 | ret u =>
   obtain⟨v,σ',H',J,rv,q⟩:=hs;exact fin J rv q
 | next =>
   obtain⟨σ',H',J,q⟩:=hs;exact fin (v:=V.non) (u:=Be) J rfl q
 | brk =>
   obtain⟨_,_,_,q⟩:=hs;exact False.elim q
 | cont =>
   obtain⟨_,_,_,q⟩:=hs;exact False.elim q
section
variable {X:Cx} {x:Str} {p pos:Pos} {e:Expr} {es:List Expr} {t:TA} {id T:String} {r:List V->Hp->VK->Prop}
def tCB(r:List V->Hp->VK->Prop)(t:TA):TE:=fun σ H Q=>t σ H fun vs H1=>r vs H1 Q
def zjv(hc:zkQ X (.builtin id) r)(hg:Gl X x)(hm:X.mg x=none)(hv:bootBuiltins x=some (.builtin id))(ha:PA X (e::es) t)(hn:x≠"__name__":=by decide)(hdb:(x==("__debug__":Str))=false:=by decide)
   (he:starEach (e::es) X.env=(false,eval e X.env)::starEach es X.env:=by rfl) (hpl:(backTo pos (starEach es X.env)).any (·.1)=false:=by rfl):PE X (.Call (.Name x p) (e::es) [] pos) (tCB r t):=by
 intro pins s σ H Q I h;refine CL (ziC I hg hm hv ?_ hn hdb);exact PyProof.Rows.callWith_builtin1 (thn (ha pos pins s σ H _ I h) fun us s1 ⟨vs,H1,I1,r1,q1⟩=>hc pins s1 σ H1 vs us Q I1 r1 q1) he hpl
def zll(hc:zkQ X (.type T) r)(hg:Gl X x)(hm:X.mg x=none)(hv:bootBuiltins x=some (.type T))(ha:PA X (e::es) t)(hn:x≠"__name__":=by decide)(hdb:(x==("__debug__":Str))=false:=by decide)
   (he:starEach (e::es) X.env=(false,eval e X.env)::starEach es X.env:=by rfl) (hpl:(backTo pos (starEach es X.env)).any (·.1)=false:=by rfl):PE X (.Call (.Name x p) (e::es) [] pos) (tCB r t):=by
 intro pins s σ H Q I h;refine CL (ziC I hg hm hv ?_ hn hdb);exact BS (thn (ha pos pins s σ H _ I h) fun us s1 ⟨vs,H1,I1,r1,q1⟩=>hc pins s1 σ H1 vs us Q I1 r1 q1) he hpl
end
section
variable {κ:Type} [DecidableEq κ]
def valV(kvs:List (κ×V))(k:κ):Option V:=(kvs.find? fun kv=>decide (kv.1=k)).map (·.2)
def putK(kvs:List (κ×V))(k:κ)(v:V):List (κ×V) :=
 if (kvs.any fun kv=>decide (kv.1=k))=true then kvs.map (fun kv=>if kv.1=k then (kv.1,v) else kv) else kvs++[(k,v)]
def zgB{p:κ×V}{r:List (κ×V)}{k:κ}(e:p.1=k):valV (p::r) k=some p.2:=by simp[valV,AL,e]
def zgC{p:κ×V}{r:List (κ×V)}{k:κ}(e:¬ p.1=k):valV (p::r) k=valV r k:=by simp[valV,AL,e]
def ziU(k:κ):∀ kvs:List (κ×V),(kvs.any fun kv=>decide (kv.1=k))=(valV kvs k).isSome
 | []=>rfl
 | p::r=>by
   rw[B2]
   by_cases e:p.1=k
   . simp only[zgB e,decide_eq_true e,Bool.true_or,EY]
   . rw[zgC e,decide_eq_false e,Bool.false_or];exact ziU k r
def zdo(kvs:List (κ×V))(k:κ)(v:V):(putK kvs k v).length<=kvs.length+1:=by
 unfold putK
 split
 . rw[Ag];omega
 . rw[AH,Ar,Bb];omega
def RelO.isSome_eq{o:Option V}{u:Option Value}(r:RelO o u):o.isSome=u.isSome:=by
 cases o with
 | none=>cases u with
   | none=>rfl
   | some _=>exact (show False from r).elim
 | some _=>cases u with
   | none=>exact (show False from r).elim
   | some _=>rfl
def RelO.getD{o:Option V}{u:Option Value}{d:V}{d':Value}(r:RelO o u)(rd:RelV d d'):RelV (o.getD d) (u.getD d'):=by
 cases o with
 | none=>cases u with
   | none=>exact rd
   | some _=>exact (show False from r).elim
 | some _=>cases u with
   | none=>exact (show False from r).elim
   | some _=>exact r
def KV.val{kvs:List (κ×V)}{vs:List (κ×Value)}(r:KV kvs vs)(k:κ):RelO (valV kvs k) (valueAt vs k):=by
 unfold KV at r
 induction r with
 | nil=>exact CO
 | @cons p q ps qs h t ih =>
   obtain⟨h1,h2⟩:=h
   by_cases e:p.1=k
   . have e':q.1=k:=h1.symm.trans e;have b:valueAt (q::qs) k=some q.2:=by simp[valueAt,AL,e']
     rw[zgB e,b];exact h2
   . have e':¬ q.1=k:=fun z=>e (h1.trans z);have b:valueAt (q::qs) k=valueAt qs k:=by simp[valueAt,AL,e']
     rw[zgC e,b];exact ih
def KV.any{kvs:List (κ×V)}{vs:List (κ×Value)}(r:KV kvs vs)(k:κ):(kvs.any fun kv=>decide (kv.1=k))=vs.any fun kv=>decide (kv.1=k):=by
 unfold KV at r
 induction r with
 | nil=>rfl
 | cons h t ih=>rw[B2,B2,ih,h.1]
def KV.repl{kvs:List (κ×V)}{vs:List (κ×Value)}(r:KV kvs vs)(k:κ){y:V}{u:Value}(ry:RelV y u) :
   KV (kvs.map fun kv=>if kv.1=k then (kv.1,y) else kv) (vs.map fun kv=>if kv.1=k then (kv.1,u) else kv):=by
 unfold KV at r ⊢
 induction r with
 | nil=>exact .nil
 | @cons p q ps qs h t ih =>
   rw[Av,Av];refine .cons ?_ ih;obtain⟨h1,h2⟩:=h
   by_cases e:p.1=k
   . rw[if_pos e,if_pos (h1.symm.trans e)];exact⟨h1,ry⟩
   . rw[if_neg e,if_neg (fun z=>e (h1.trans z))];exact⟨h1,h2⟩
def KV.put{kvs:List (κ×V)}{vs:List (κ×Value)}(r:KV kvs vs)(k:κ){y:V}{u:Value}(ry:RelV y u):KV (putK kvs k y) (stored vs k u):=by
 unfold putK stored;rw[r.any k]
 by_cases e:(vs.any fun kv=>decide (kv.1=k))=true
 . rw[if_pos e,if_pos e];exact r.repl k ry
 . rw[if_neg e,if_neg e];exact GC r ⟨rfl,ry⟩
def KV.length{kvs:List (κ×V)}{vs:List (κ×Value)}(r:KV kvs vs):kvs.length=vs.length:=Bf r
end
def zn3{P:Program}{w:World}{k:Key}{u:Value}(r:RelV (kV k) u):(zaB P w).is k u=true:=by
 cases k with
 | inl i=>obtain⟨t,e⟩:=(show ∃ t,u=Dv i t from r);subst e;exact ziz P w i t
 | inr x=>obtain⟨t,e⟩:=(show ∃ t,u=D4 x t from r);subst e;exact ziy P w x t
def zhQ{P:Program}{w:World}:∀ {ks:List Key} {us:List Value},Vals (ks.map kV) us->ItemsAre (zaB P w) ks us
 | [],_,r=>by rw[Cu] at r;cases r;exact .nil
 | k::ks,_,r=>by
   rw[Av] at r
   cases r with
   | cons h t=>exact .cons (zn3 h) (zhQ t)
noncomputable abbrev KT (H:Hp):List (List Key×V)->List (List Key×Addr×Value)->Prop:=Paired fun p q=>p.1=q.1/\H q.2.1=some (.tup (p.1.map kV))/\RelV p.2 q.2.2
def KT.val{H:Hp}{kvs:List (List Key×V)}{xs:List (List Key×Addr×Value)}(r:KT H kvs xs)(k:List Key):RelO (valV kvs k) ((atKey xs k).map (·.2)):=by
 induction r with
 | nil=>exact CO
 | @cons p q ps qs h t ih =>
   obtain⟨h1,_,h2⟩:=h
   by_cases e:p.1=k
   . have e':q.1=k:=h1.symm.trans e;have b:atKey (q::qs) k=some q.2:=by simp[atKey,AL,e']
     rw[zgB e,b];exact h2
   . have e':¬ q.1=k:=fun z=>e (h1.trans z);have b:atKey (q::qs) k=atKey qs k:=by simp[atKey,AL,e']
     rw[zgC e,b];exact ih
def KT.repl{H:Hp}{kvs:List (List Key×V)}{xs:List (List Key×Addr×Value)}(r:KT H kvs xs)(k:List Key){y:V}{u:Value}(ry:RelV y u) :
   KT H (kvs.map fun kv=>if kv.1=k then (kv.1,y) else kv) (xs.map (putAt k u)):=by
 induction r with
 | nil=>exact .nil
 | @cons p q ps qs h t ih =>
   rw[Av,Av];refine .cons ?_ ih;obtain⟨h1,h2,h3⟩:=h;unfold putAt
   by_cases e:p.1=k
   . rw[if_pos e,if_pos (h1.symm.trans e)];exact⟨h1,h2,ry⟩
   . rw[if_neg e,if_neg (fun z=>e (h1.trans z))];exact⟨h1,h2,h3⟩
def KT.put{H:Hp}{kvs:List (List Key×V)}{xs:List (List Key×Addr×Value)}(r:KT H kvs xs)(k:List Key){b:Addr}{y:V}{u:Value}(hb:H b=some (.tup (k.map kV)))(ry:RelV y u) :
   KT H (putK kvs k y) (storedH xs k b u):=by
 have e:(kvs.any fun kv=>decide (kv.1=k))=(atKey xs k).isSome:=by
   rw[ziU,(r.val k).isSome_eq,B3]
 unfold putK storedH;rw[e]
 by_cases q:(atKey xs k).isSome=true
 . rw[if_pos q,if_pos q];exact r.repl k ry
 . rw[if_neg q,if_neg q];exact GC r ⟨rfl,hb,ry⟩
def KT.keeps{H H':Hp}{kvs:List (List Key×V)}{xs:List (List Key×Addr×Value)}(r:KT H kvs xs)(ht:∀ b ys,H b=some (.tup ys)->H' b=some (.tup ys)):KT H' kvs xs :=
 Paired.mapP r fun _ _ z=>⟨z.1,ht _ _ z.2.1,z.2.2⟩
section
variable {P:Program} {w:World} {H:Hp} {h:Heap} {a:Addr}
def ztd{u:HO}(ok:HOk P w H h)(e:Rd H a u):zcW P w H h a u:=e.ok ok
def zol{kvs:List (Key×V)}(ok:HOk P w H h)(e:Rd H a (.dK kvs)):kvs.length<=sizeLine/\(a==sysModules)=false/\∃ vs,KV kvs vs/\h.DictOf (zaB P w) a vs :=
 show zcW P w H h a (.dK kvs) from ztd ok e
def zuw{kvs:List (Key×V)}(ok:HOk P w H h)(e:H a=some (.dK kvs)):kvs.length<=sizeLine/\(a==sysModules)=false/\∃ vs,KV kvs vs/\h.DictOf (zaB P w) a vs:=zol ok (.inl e)
def zge{ks:List Key}(ok:HOk P w H h)(e:H a=some (.tup (ks.map kV))):(tupleKind (zaB P w)).is h ks a:=by
 obtain⟨_,its,r,o,h1,h2,_,n,h3⟩:=(show zcW P w H h a (.tup (ks.map kV)) from ok a _ e)
 exact⟨o,its.toArray,n,h1,h2,h3,by simpa using zhQ r⟩
def zoi{kvs:List (List Key×V)}(ok:HOk P w H h)(e:Rd H a (.dT kvs)):kvs.length<=sizeLine/\(a==sysModules)=false /\
   ∃ xs,KT H kvs xs/\h.DictOfH (tupleKind (zaB P w)) a xs:=by
 obtain⟨z,y,xs,r,o,es,ep,h1,h2,h3,h4,h5⟩:=(show zcW P w H h a (.dT kvs) from ztd ok e)
 refine⟨z,y,xs,r,o,es,ep,h1,h2,h3,h4,fun x hx=>?_,h5⟩;have all:∀ {l:List (List Key×V)} {m:List (List Key×Addr×Value)},KT H l m->∀ x∈m,(tupleKind (zaB P w)).is h x.1 x.2.1:=by
   intro l m q
   induction q with
   | nil=>intro x hx;exact nomatch hx
   | @cons p q ps qs hq t ih =>
     intro x hx
     rcases List.mem_cons.mp hx with e | hx
     . subst e;exact zge ok (by rw[<-hq.1];exact hq.2.1)
     . exact ih x hx
 exact all r x hx
def zts{kvs:List (List Key×V)}(ok:HOk P w H h)(e:H a=some (.dT kvs)):kvs.length<=sizeLine/\(a==sysModules)=false /\
   ∃ xs,KT H kvs xs/\h.DictOfH (tupleKind (zaB P w)) a xs:=zoi ok (.inl e)
end
def DGet(H:Hp)(a:Addr)(y:V)(r:Option V):Prop :=
 (∃ kvs k,Rd H a (.dK kvs)/\y=kV k/\r=valV kvs k)\/∃ kvs k b,Rd H a (.dT kvs)/\y=.ref b/\H b=some (.tup (k.map kV))/\r=valV kvs k
def DPut(H:Hp)(a:Addr)(y v:V)(H':Hp):Prop :=
 (∃ kvs k,H a=some (.dK kvs)/\y=kV k/\kvs.length < sizeLine/\H'=upd H a (.dK (putK kvs k v))) \/
 ∃ kvs k b,H a=some (.dT kvs)/\y=.ref b/\H b=some (.tup (k.map kV))/\kvs.length < sizeLine/\H'=upd H a (.dT (putK kvs k v))
def DGet.k{H:Hp}{a:Addr}{kvs:List (Key×V)}{k:Key}(e:H a=some (.dK kvs)):DGet H a (kV k) (valV kvs k):=.inl ⟨kvs,k,.inl e,rfl,rfl⟩
def DGet.t{H:Hp}{a b:Addr}{kvs:List (List Key×V)}{k:List Key}(e:H a=some (.dT kvs))(eb:H b=some (.tup (k.map kV))):DGet H a (.ref b) (valV kvs k):=.inr ⟨kvs,k,b,.inl e,rfl,eb,rfl⟩
def DPut.k{H:Hp}{a:Addr}{kvs:List (Key×V)}{k:Key}{v:V}(e:H a=some (.dK kvs))(hl:kvs.length < sizeLine):DPut H a (kV k) v (upd H a (.dK (putK kvs k v))):=.inl ⟨kvs,k,e,rfl,hl,rfl⟩
def DPut.t{H:Hp}{a b:Addr}{kvs:List (List Key×V)}{k:List Key}{v:V}(e:H a=some (.dT kvs))(eb:H b=some (.tup (k.map kV)))(hl:kvs.length < sizeLine) :
   DPut H a (.ref b) v (upd H a (.dT (putK kvs k v))):=.inr ⟨kvs,k,b,e,rfl,eb,hl,rfl⟩
section
variable {X:Cx} {pins:List (Addr×Obj)} {σ:St} {H:Hp} {s:Shared} {a:Addr} {y v:V} {u r:Value} {o:Option V} {A:Around} {E:Value->Shared->Prop}
def Inv.big(I:Inv X pins σ H s):sysModules < s.heap.objs.size:=by
 have h:mainGlobals < s.heap.objs.size:=(I.mod.glob.keeps I.bk).lt;exact BU (by decide) h
def zlW{Q:Value->Shared->Prop}(hu:A.units+1 < cLine)(I:Inv X pins σ H s)(g:DGet H a y (some v))(ry:RelV y u)(h:∀ w' s',Inv X pins σ H s'->RelV v w'->Q w' s') :
   wpAny (model X.prog X.w) A (getItem (.ref a) u) Q E s:=by
 rcases g with ⟨kvs,k,e,ey,l⟩ | ⟨kvs,k,b,e,ey,eb,l⟩
 . subst ey;obtain⟨z,hd,vs,rel,dd⟩:=zol I.hok e;obtain⟨w',hw,rw'⟩:=RelO.some_of (v:=v) (o:=valueAt vs k) (by rw[l];exact rel.val k);exact wpAny_getItem_of (zn3 ry) dd.mapOf hw (h w' _ (I.tok _) rw')
 . subst ey
   cases (show u=AF b from ry)
   obtain⟨z,hd,xs,rel,dd⟩:=zoi I.hok e;obtain⟨w',hw,rw'⟩:=RelO.some_of (v:=v) (o:=(atKey xs k).map (·.2)) (by rw[l];exact rel.val k);obtain⟨p,hp,hp2⟩:=Option.map_eq_some_iff.mp hw;refine wpAny_getItem_heap (BV hu) (zge I.hok eb) dd hp ?_;rw[hp2];exact h w' _ (I.tok _) rw'
def d_in{Q:Value->Shared->Prop}(hu:A.units+1 < cLine)(I:Inv X pins σ H s)(g:DGet H a y o)(ry:RelV y u)(h:∀ s',Inv X pins σ H s'->Q (.bool o.isSome) s') :
   wpAny (model X.prog X.w) A (compareOp .In u (.ref a)) Q E s:=by
 rcases g with ⟨kvs,k,e,ey,l⟩ | ⟨kvs,k,b,e,ey,eb,l⟩
 . subst ey;obtain⟨z,hd,vs,rel,dd⟩:=zol I.hok e;refine wpAny_in_of (zn3 ry) hd dd.mapOf ?_;rw[<-(rel.val k).isSome_eq,<-l];exact h _ (I.tok _)
 . subst ey
   cases (show u=AF b from ry)
   obtain⟨z,hd,xs,rel,dd⟩:=zoi I.hok e;refine wpAny_in_heap (BV hu) (zge I.hok eb) hd dd ?_;have q:=(rel.val k).isSome_eq;rw[B3] at q;rw[<-q,<-l];exact h _ (I.tok _)
def zqC{Q:Value->Shared->Prop}(hu:A.units+1 < cLine)(I:Inv X pins σ H s)(g:DGet H a y o)(ry:RelV y u)(h:∀ s',Inv X pins σ H s'->Q (.bool (!o.isSome)) s') :
   wpAny (model X.prog X.w) A (compareOp .NotIn u (.ref a)) Q E s:=by
 rcases g with ⟨kvs,k,e,ey,l⟩ | ⟨kvs,k,b,e,ey,eb,l⟩
 . subst ey;obtain⟨z,hd,vs,rel,dd⟩:=zol I.hok e;refine wpAny_notIn_of (zn3 ry) hd dd.mapOf ?_;rw[<-(rel.val k).isSome_eq,<-l];exact h _ (I.tok _)
 . subst ey
   cases (show u=AF b from ry)
   obtain⟨z,hd,xs,rel,dd⟩:=zoi I.hok e;refine wpAny_notIn_heap (BV hu) (zge I.hok eb) hd dd ?_;have q:=(rel.val k).isSome_eq;rw[B3] at q;rw[<-q,<-l];exact h _ (I.tok _)
def zkm{h':Heap}{t':Nat}{ob:HO}(I:Inv X pins σ H s)(mu:Mut (H a))(hs:BC a s.heap h')(he:∃ q,h'.get? a=some q)(new:zcW X.prog X.w (upd H a ob) h' a ob) :
   Inv X pins σ (upd H a ob) { s with heap:=h',toks:=t' } :=
 I.write (x:=a) (e:=a) mu (.inl rfl) (fun b q hb z=>(hs.2 b hb).trans z) he new
def zom{P:Program}{w:World}{H':Hp}{h':Heap}{kvs:List (Key×V)}{vs:List (Key×Value)}(z:kvs.length<=sizeLine)(hd:(a==sysModules)=false)(rel:KV kvs vs)(dd:h'.DictOf (zaB P w) a vs) :
   zcW P w H' h' a (.dK kvs):=⟨z,hd,vs,rel,dd⟩
def zlV{H':Hp}{Q:Unit->Shared->Prop}(hu:A.units+1 < cLine)(I:Inv X pins σ H s)(g:DPut H a y v H')(ry:RelV y u)(rv:RelV v r)(h:∀ s',Inv X pins σ H' s'->Q () s') :
   wpAny (model X.prog X.w) A (setItem (.ref a) u r) Q E s:=by
 rcases g with ⟨kvs,k,e,ey,l,eH⟩ | ⟨kvs,k,b,e,ey,eb,l,eH⟩
 . subst ey eH;obtain⟨z,hd,vs,rel,dd⟩:=zuw I.hok e;have hz:vs.length<=sizeLine:=by rw[<-rel.length];exact z
   have hl:(putK kvs k v).length<=sizeLine:=by have:=zdo kvs k v;omega
   refine wpAny_setItem_pairs (hsz:=hz) (zn3 ry) dd fun h' dd' hs=>h _ ?_;have he:∃ q,h'.get? a=some q:=let ⟨q,_,_,hq,_⟩:=dd';⟨q,hq⟩
   exact zkm I (by rw[e];exact CO) hs he (zom hl hd (rel.put k rv) dd')
 . subst ey eH
   cases (show u=AF b from ry)
   obtain⟨z,hd,xs,rel,dd⟩:=zts I.hok e;have hz:xs.length<=sizeLine:=by rw[<-Bf rel];exact z
   have hl:(putK kvs k v).length<=sizeLine:=by have:=zdo kvs k v;omega
   refine wpAny_setItem_heap (hsz:=hz) (BV hu) (zge I.hok eb) dd fun h' dd' hs=>h _ ?_;obtain⟨q,es,ep,hq,h2,h3,h4,_,h5⟩:=dd';refine zkm I (by rw[e];exact CO) hs ⟨q,hq⟩ ⟨hl,hd,_,(rel.put k eb rv).keeps fun c ys ec=>?_,q,es,ep,hq,h2,h3,h4,h5⟩;rw[zat (zq2 ec e (fun z=>nomatch z))];exact ec
end
def NoSl(i:Expr):Prop:=∀ ov iv,subscripted i false ov iv=operate [ov,iv] (getItem ov iv)
def zoS{prog:Program}{w:World}{A:Around}{E:Value->Shared->Prop}{s:Shared}{env:Env}{value slice:Expr}{pos:Pos}{T id:String}{Q:Value->Shared->Prop}
   (hl:typeLookup (.type T) "__getitem__"=pure (some (.builtin id))) (hs:NoSl slice)
   (h:wpAny (model prog w) A (eval value env) (fun o s₁=>wpAny (model prog w) A (eval slice env) (fun i s₂=>s₂.TypeIs o T/\wpAny (model prog w) A (getItem o i) Q E s₂) E s₁) E s) :
   wpAny (model prog w) A (eval (.Subscript value slice pos) env) Q E s:=by
 refine EB (Bs h (fun o s₁ h₁=>Bs h₁ (fun i s₂ h₂=>?_) fun _ _ x=>x) fun _ _ x=>x);obtain⟨hT,h₂⟩:=h₂;unfold subscriptTail;refine Aa ?_;rw[getitemInPython_of_ne hT.not_modules];refine Aa (wpAny_specialOf hT hl ?_);have fin:wpAny (model prog w) A (subscripted slice false o i) (fun r s₃=>wpAny (model prog w) A (letTemporaryGo value o r >>= fun _=>pure r) Q E s₃) E s₂:=by
   rw[hs o i];exact wpAny_operating (Bs h₂ (fun r s₃ h₃=>Aa (wpAny_letTemporaryGo (Ad h₃))) fun _ _ x=>x)
 first
   | exact Ad (Aa fin)
   | exact Aa (Ad (Aa fin))
   | exact Aa fin
def ziE{X:Cx}{pins:List (Addr×Obj)}{σ:St}{H:Hp}{s:Shared}{a:Addr}{y:V}{o:Option V}(I:Inv X pins σ H s)(g:DGet H a y o):s.TypeIs (.ref a) "dict":=by
 rcases g with ⟨kvs,k,e,_,_⟩ | ⟨kvs,k,b,e,_,_,_⟩
 . obtain⟨_,_,vs,_,dd⟩:=zol I.hok e;exact dd.typeIs
 . obtain⟨_,_,xs,_,dd⟩:=zoi I.hok e;exact dd.typeIs
def ztI(td ty:TE):TE:=fun σ H Q=>td σ H fun x H1=>ty σ H1 fun y H2=>∃ a v,x=.ref a/\DGet H2 a y (some v)/\Q v H2
def tDIn(ty td:TE):TE:=fun σ H Q=>ty σ H fun y H1=>td σ H1 fun x H2=>∃ a o,x=.ref a/\DGet H2 a y o/\Q (.bl o.isSome) H2
def zoQ(ty td:TE):TE:=fun σ H Q=>ty σ H fun y H1=>td σ H1 fun x H2=>∃ a o,x=.ref a/\DGet H2 a y o/\Q (.bl (!o.isSome)) H2
def ztR(td ty tv:TE):TS:=fun D σ H=>tv σ H fun v H1=>td σ H1 fun x H2=>ty σ H2 fun y H3=>∃ a H4,x=.ref a/\DPut H3 a y v H4/\D.nx σ H4
section
variable {X:Cx} {o i e value:Expr} {pos pos' tpos:Pos} {td ty tv:TE}
def zml(hu:X.A.units+1 < cLine)(ho:PE X o td)(hi:PE X i ty)(hs:NoSl i):PE X (.Subscript o i pos) (ztI td ty):=by
 intro pins s σ H Q I h;refine zoS PySem.F.slot_dict_getitem.lookup hs (thn (ho pins s σ H _ I h) fun u s1 ⟨x,H1,I1,rx,q1⟩=>thn (hi pins s1 σ H1 _ I1 q1) ?_);rintro iv s2 ⟨y,H2,I2,ry,a,v,ex,g,q2⟩;subst ex;obtain rfl:u=AF a:=rx;exact⟨ziE I2 g,zlW hu I2 g ry fun w' s3 I3 rw'=>⟨v,H2,I3,rw',q2⟩⟩
def zsb(hu:X.A.units+1 < cLine)(hi:PE X i ty)(ho:PE X o td):PC X .In i o (tDIn ty td):=by
 intro pins s σ H Q I h;refine thn (hi pins s σ H _ I h) fun iv s1 ⟨y,H1,I1,ry,q1⟩=>thn (ho pins s1 σ H1 _ I1 q1) ?_;rintro u s2 ⟨x,H2,I2,rx,a,ov,ex,g,q2⟩;subst ex;obtain rfl:u=AF a:=rx;exact d_in hu I2 g ry fun s3 I3=>⟨.bl ov.isSome,H2,I3,rfl,q2⟩
def zlm(hu:X.A.units+1 < cLine)(hi:PE X i ty)(ho:PE X o td):PC X .NotIn i o (zoQ ty td):=by
 intro pins s σ H Q I h;refine thn (hi pins s σ H _ I h) fun iv s1 ⟨y,H1,I1,ry,q1⟩=>thn (ho pins s1 σ H1 _ I1 q1) ?_;rintro u s2 ⟨x,H2,I2,rx,a,ov,ex,g,q2⟩;subst ex;obtain rfl:u=AF a:=rx;exact zqC hu I2 g ry fun s3 I3=>⟨.bl (!ov.isSome),H2,I3,rfl,q2⟩
def zpt(hu:X.A.units+1 < cLine)(ho:PE X o td)(hi:PE X i ty)(hv:PE X value tv)(hs:swapsWith value (some (.Subscript o i pos')) pos.line X.env=pure false) :
   PS X (.Assign [.Subscript o i pos'] value pos) (ztR td ty tv):=by
 intro pins s σ H D I h;refine wpAny_Assign_Subscript (thn (hv pins s σ H _ I h) fun r s1 ⟨v,H1,I1,rv,q1⟩=>thn (ho pins s1 σ H1 _ I1 q1) fun u s2 ⟨x,H2,I2,rx,q2⟩=>thn (hi pins s2 σ H2 _ I2 q2) ?_) hs;rintro iv s3 ⟨y,H3,I3,ry,a,H4,ex,g,q3⟩;subst ex;obtain rfl:u=AF a:=rx;exact zlV hu I3 g ry rv fun s4 I4=>⟨σ,H4,I4,q3⟩
end
def zoj{P:Program}{w:World}{H:Hp}(h:Heap)(hb:sysModules < h.objs.size):zcW P w H (h.push { cls:=.type "dict",data:=.dict #[] }) h.objs.size (.dT []) :=
 ⟨A0 _,beq_eq_false_iff_ne.mpr (BB (As hb)),[],.nil,_,#[],0,Am _ rfl,⟨rfl,rfl,rfl⟩,rfl,rfl,Gg⟩
def zro:TE:=fun _ H Q=>∀ p,H p=none->Q (.ref p) (upd H p (.dT []))
section
variable {X:Cx} {pos:Pos}
def znw:PE X (.Dict [] [] pos) zro:=fun pins s σ H Q I h =>
 wpAny_Dict_empty ⟨.ref s.heap.objs.size,_,I.laid (a:=s.heap.objs.size) (o:=.dT []) (t':=s.toks) (fun _ _ q=>Ac _ q) (Af _) (zoj s.heap I.big),rfl,h _ (I.hok.fresh (Af _))⟩
end
def zeA(kvs more:List (Key×V)):List (Key×V):=more.foldl (fun acc kv=>putK acc kv.1 kv.2) kvs
def KV.merge:∀ {more:List (Key×V)} {rs:List (Key×Value)} {kvs:List (Key×V)} {vs:List (Key×Value)},KV more rs->KV kvs vs->KV (zeA kvs more) (merged vs rs):=by
 intro more rs kvs vs r;unfold KV at r
 induction r generalizing kvs vs with
 | nil=>intro q;exact q
 | @cons p q ps qs h t ih =>
   intro r0;have e:KV (putK kvs p.1 p.2) (stored vs q.1 q.2):=by
     have:=r0.put p.1 h.2;rw[<-h.1];exact this
   exact ih e
def zcs:∀ (more kvs:List (Key×V)),(zeA kvs more).length<=kvs.length+more.length
 | [],kvs=>by show kvs.length<=kvs.length+0;omega
 | p::r,kvs=>by
   have h1:=zcs r (putK kvs p.1 p.2);have h2:=zdo kvs p.1 p.2;show (zeA (putK kvs p.1 p.2) r).length<=_;rw[Ar];omega
structure M1(X:Cx)(o:Expr)(m:Str)(apos:Pos)(e:Expr)(cpos:Pos):Prop where
 base:attributeBase o m X.env (eval o X.env)=eval o X.env
 few:((backTo cpos (starEach [e] X.env)).all (fun x=>!x.1)&&(backToKw cpos (keywordEach [] X.env)).all (fun x=>x.1.isSome)
  &&decide (([e]:List Expr).length+([]:List Keyword).length+(if ([]:List Keyword).isEmpty then 0 else 1) < 30))=true
 line:(apos.endLine==cpos.line)=true
 trees:backTo cpos (starEach [e] X.env)=[(false,eval e X.env)]
structure M2(X:Cx)(o:Expr)(m:Str)(apos:Pos)(e f:Expr)(cpos:Pos):Prop where
 base:attributeBase o m X.env (eval o X.env)=eval o X.env
 few:((backTo cpos (starEach [e,f] X.env)).all (fun x=>!x.1)&&(backToKw cpos (keywordEach [] X.env)).all (fun x=>x.1.isSome)
  &&decide (([e,f]:List Expr).length+([]:List Keyword).length+(if ([]:List Keyword).isEmpty then 0 else 1) < 30))=true
 line:(apos.endLine==cpos.line)=true
 trees:backTo cpos (starEach [e,f] X.env)=[(false,eval e X.env),(false,eval f X.env)]
def IsD(H:Hp)(a:Addr):Prop:=(∃ kvs,Rd H a (.dK kvs))\/∃ kvs,Rd H a (.dT kvs)
def zhe{X:Cx}{pins:List (Addr×Obj)}{σ:St}{H:Hp}{s:Shared}{a:Addr}(I:Inv X pins σ H s)(d:IsD H a) :
   s.TypeIs (.ref a) "dict"/\(∀ b,AF a=.ref b->∃ ob,s.heap.get? b=some ob/\ob.dict=none)/\(a==sysModules)=false:=by
 rcases d with ⟨kvs,e⟩ | ⟨kvs,e⟩
 . obtain⟨_,hd,vs,_,dd⟩:=zol I.hok e;refine⟨dd.typeIs,fun b q=>?_,hd⟩;cases q;obtain⟨ob,_,_,h1,h2,_⟩:=dd;exact⟨ob,h1,h2.2.1⟩
 . obtain⟨_,hd,xs,_,dd⟩:=zoi I.hok e;refine⟨dd.typeIs,fun b q=>?_,hd⟩;cases q;obtain⟨ob,_,_,h1,h2,_⟩:=dd;exact⟨ob,h1,h2.2.1⟩
section
variable {X:Cx} {pins:List (Addr×Obj)} {σ:St} {H:Hp} {s:Shared} {a:Addr} {y d:V} {u r:Value} {o:Option V} {A:Around} {E:Value->Shared->Prop}
def zsY{Q:Value->Shared->Prop}(hu:A.units+1 < cLine)(I:Inv X pins σ H s)(g:DGet H a y o)(ry:RelV y u)(h:∀ w' s',Inv X pins σ H s'->RelV (o.getD .non) w'->Q w' s') :
   wpAny (model X.prog X.w) A (call (.builtin "dict.get") [.ref a,u]) Q E s:=by
 rcases g with ⟨kvs,k,e,ey,l⟩ | ⟨kvs,k,b,e,ey,eb,l⟩
 . subst ey;obtain⟨z,hd,vs,rel,dd⟩:=zol I.hok e;refine DS C2 dd.typeIs Eg (DZ _ _) (meets_dict_get (zaB X.prog X.w) a (zn3 ry) hd) ⟨_,dd.mapOf,h _ _ (I.tok _) ?_⟩;rw[l];exact (rel.val k).getD rfl
 . subst ey
   cases (show u=AF b from ry)
   obtain⟨z,hd,xs,rel,dd⟩:=zoi I.hok e;refine DS C2 dd.typeIs Eg (DZ _ _) (meetsH_dict_get (tupleKind (zaB X.prog X.w)) a b hd) ⟨BV hu,k,xs,zge I.hok eb,dd,h _ _ (I.tok _) ?_⟩;rw[l];exact (rel.val k).getD rfl
end
def zrp(td ty:TE):TE:=fun σ H Q=>td σ H fun x H1=>∃ a,x=.ref a/\IsD H1 a/\ty σ H1 fun y H2=>∃ o,DGet H2 a y o/\Q (o.getD .non) H2
section
variable {X:Cx} {o e f:Expr} {apos cpos:Pos} {td ty tx:TE}
def znx(hu:X.A.units+1 < cLine)(ho:PE X o td)(he:PE X e ty)(m:M1 X o "get" apos e cpos):PE X (.Call (.Attribute o "get" apos) [e] [] cpos) (zrp td ty):=by
 intro pins s σ H Q I h;refine Fp m.base m.few m.line D0 C2 PySem.F.type_dict_get (thn (ho pins s σ H _ I h) ?_);rintro u s1 ⟨x,H1,I1,rx,a,ex,d,q1⟩;subst ex;obtain rfl:u=AF a:=rx;obtain⟨t1,t2,_⟩:=zhe I1 d;refine⟨t1,t2,?_⟩;rw[m.trees];refine CY rfl (C6 (CK (thn (he pins s1 σ H1 _ I1 q1) fun iv s2 ⟨y,H2,I2,ry,ov,g,q2⟩=>DK ?_)));exact zsY hu I2 g ry fun w' s3 I3 rw'=>⟨_,H2,I3,rw',q2⟩
end
end L2
namespace HT
open PySem PyProof.Rows
def lexLt:List Int->List Int->Bool
 | [],[]=>false
 | [],_::_=>true
 | _::_,[]=>false
 | x::xs,y::ys=>if x=y then lexLt xs ys else decide (x < y)
theorem lexLt_cons(x y:Int)(xs ys:List Int):lexLt (x::xs) (y::ys)=if x=y then lexLt xs ys else decide (x < y):=rfl
theorem lexLt_nil_nil:lexLt [] []=false:=rfl
theorem lexLt_nil_cons(y:Int)(ys:List Int):lexLt [] (y::ys)=true:=rfl
theorem lexLt_cons_nil(x:Int)(xs:List Int):lexLt (x::xs) []=false:=rfl
def zoe(A:Around)(s:Shared)(a:Int)(t:Tok)(c:Int)(u:Tok):∃ e,SeqAt.EqAt A s (.int a t) (.int c u) e/\(e=true ↔ a=c) :=
 ⟨(a==c),EZ a t c u,by simp⟩
def znf(A:Around)(s:Shared)(a:Int)(t:Tok)(c:Int)(u:Tok)(prog:Program)(w:World)(E:Value->Shared->Prop)(Q:Value->Shared->Prop)(h:Q (.bool (decide (a < c))) s) :
   wpAny (model prog w) A (richCompare .Lt (.int a t) (.int c u)) Q E s :=
 (FS h:wpAny (model prog w) A (compareOp .Lt (.int a t) (.int c u)) Q E s)
section
open PySem.SeqAt
open PySem.MeetsSeq PySem.MeetsSeq2 PySem.MeetsSeq3
def zfH(l b:Addr)(items items2:Array Value)(n n2:Nat)(dd dd2:Option Addr)(sl sl2:Array (Option Value))(ns ms:List Int)(hi:IntsAre items.toList ns)(hj:IntsAre items2.toList ms) :
   Meets (Builtin.«tuple.__lt__» ⟨[.ref l,.ref b],[]⟩)
     (fun _ R s=>s.heap.get? l=some { cls:=.type "tuple",dict:=dd,data:=.seq items n,slots:=sl }/\s.heap.get? b=some { cls:=.type "tuple",dict:=dd2,data:=.seq items2 n2,slots:=sl2 } /\
       R (.ok (.ret (.bool (lexLt ns ms)))) s) :=
 .of_wp fun prog w A R s h=>by
   obtain⟨hp,g,d,tk,os⟩:=s;obtain⟨hl,hb,h⟩:=h;have f2:=AutoSeq1.sub_tuple_tuple;have z1:items.size=ns.length:=by rw[<-hi.length];simp
   have z2:items2.size=ms.length:=by rw[<-hj.length];simp
   wp_walk using wpAny_loadPart' hl,wpAny_loadPart' hb,wpAny_forIn_list _ (fun rest b s'=>b.1=none/\s'=⟨hp,g,d,tk,os⟩/\∃ (vs ws:List Value) (ns' ms':List Int),rest=vs.zip ws /\
     IntsAre vs ns'/\IntsAre ws ms'/\ns'.length+items2.size=ms'.length+items.size/\R (.ok (.ret (.bool (lexLt ns' ms')))) ⟨hp,g,d,tk,os⟩) _
   case turn =>
     rintro ⟨y,x⟩ rest b s' ⟨hb',rfl,vs,ws,ns',ms',hz,hvi,hwi,hlen,hR⟩
     cases hvi with
     | nil=>rw[Fq] at hz;cases hz
     | cons a t hvi' =>
       cases hwi with
       | nil=>rw[List.zip_nil_right] at hz;cases hz
       | cons c u hwi' =>
         rw[Dy] at hz;injection hz with hyx hrest
         injection hyx with hy hx
         subst hy hx;rw[lexLt_cons] at hR;simp only[Ar] at hlen;obtain⟨e,he,hiff⟩:=zoe A.in1 ⟨hp,g,d,tk,os⟩ a t c u;refine Aa (he prog w _ _ ?_)
         cases e with
         | true =>
           rw[if_pos (hiff.mp rfl)] at hR
           wp_walk
           exact⟨rfl,rfl,_,_,_,_,hrest,hvi',hwi',by omega,hR⟩
         | false =>
           rw[if_neg (fun q=>absurd (hiff.mpr q) AV)] at hR;have hri:=znf A.in1 ⟨hp,g,d,tk,os⟩ a t c u prog w
           wp_walk using hri
           exact⟨_,rfl,by simpa using hR⟩
   case fin =>
     rintro ⟨b1,b2⟩ s' ⟨hb',rfl,vs,ws,ns',ms',hz,hvi,hwi,hlen,hR⟩;simp only at hb';subst hb';have hv:lexLt ns' ms'=decide (items.size < items2.size):=by
       cases hvi with
       | nil =>
         cases hwi with
         | nil =>
           simp only[Bb] at hlen;rw[lexLt_nil_nil];exact (decide_eq_false (by omega)).symm
         | cons c u hw =>
           simp only[Bb,Ar] at hlen;rw[lexLt_nil_cons];exact (decide_eq_true (by omega)).symm
       | cons a t hv =>
         cases hwi with
         | nil =>
           simp only[Bb,Ar] at hlen;rw[lexLt_cons_nil];exact (decide_eq_false (by omega)).symm
         | cons c u hw =>
           rw[Dy] at hz;cases hz
     rw[hv] at hR
     wp_walk
     exact⟨_,rfl,by simpa[Builtin.Tuple.tupleCompareSizes] using hR⟩
   case h =>
     exact⟨rfl,rfl,items.toList,items2.toList,ns,ms,rfl,hi,hj,by omega,h⟩
end
section
variable {prog:Program} {w:World} {A:Around} {E:Value->Shared->Prop} {s:Shared}
def lt_tupInts{l b:Addr}{items items2:Array Value}{ns ms:List Int}{Q:Value->Shared->Prop}(hl:IsTup s.heap l items)(hb:IsTup s.heap b items2)(hi:IntsAre items.toList ns)(hj:IntsAre items2.toList ms)
   (hu:A.units < cLine) (h:Q (.bool (lexLt ns ms)) s):wpAny (model prog w) A (compareOp .Lt (.ref l) (.ref b)) Q E s:=by
 obtain⟨⟨cls,dd,data,sl⟩,ho,hc,n,hd⟩:=id hl;obtain⟨⟨cls2,dd2,data2,sl2⟩,ho2,hc2,n2,hd2⟩:=id hb;simp only at hc hd hc2 hd2;subst hc hd hc2 hd2;exact richCompare_meets_room (op:=.Lt) ⟨_,ho,rfl⟩ ⟨_,ho2,rfl⟩ PySem.F.slot_tuple_lt PySem.F.entry_tuple_lt (PySem.F.args_tuple_lt_2 _ _) (zfH l b items items2 n n2 dd dd2 sl sl2 ns ms hi hj)
   ⟨ho,ho2,show EA (lexLt ns ms)≠Value.notImplemented/\Q (.bool (lexLt ns ms)) s from ⟨(fun x=>nomatch x),h⟩⟩ hu
def cat_tup{t b:Addr}{vs ws:List Value}{Q:Value->Shared->Prop}(ht:IsTup s.heap t vs.toArray)(hb:IsTup s.heap b ws.toArray)(hv:vs≠[])
   (h1:ws=[]->Q (.ref t) s) (h2:ws≠[]->Q (.ref s.heap.objs.size) { s with heap:=s.heap.push { cls:=.type "tuple",data:=.seq (vs++ws).toArray } })
   (hsz:vs.length+ws.length<=sizeLine):wpAny (model prog w) A (binaryOp .Add (.ref t) (.ref b)) Q E s:=by
 obtain⟨⟨cls,dd,data,sl⟩,ho,hc,n,hd⟩:=id ht;obtain⟨⟨cls2,dd2,data2,sl2⟩,ho2,hc2,n2,hd2⟩:=id hb;simp only at hc hd hc2 hd2;subst hc hd hc2 hd2;have e:vs.toArray++ws.toArray=(vs++ws).toArray:=by simp
 by_cases hw:ws=[]
 . exact concat_meets ⟨_,ho,rfl⟩ ⟨_,ho2,rfl⟩ noFill_tuple_add seq_tuple_add Eh D1 (DT _ _)
     (tuple_addW1 t b vs.toArray ws.toArray n n2 dd dd2 sl sl2 (by simpa using hv) (by simp[hw])) ⟨ho,ho2,h1 hw⟩
 . refine concat_meets ⟨_,ho,rfl⟩ ⟨_,ho2,rfl⟩ noFill_tuple_add seq_tuple_add Eh D1 (DT _ _)
     (tuple_addW2 t b vs.toArray ws.toArray n n2 dd dd2 sl sl2 (by simpa using hv) (by simpa using hw) (by rw[AB,AB];exact hsz)) ⟨ho,ho2,?_⟩
   rw[e];exact h2 hw
def sIx(n d:Nat):Option Int->Nat
 | none=>d
 | some v=>if v < 0 then (v+(n:Int)).toNat else min v.toNat n
def zrK(n d:Nat)(hd:d<=n)(o:Option Int):sIx n d o<=n:=by
 cases o with
 | none=>exact hd
 | some v =>
   show (if v < 0 then (v+(n:Int)).toNat else min v.toNat n)<=n
   by_cases hv:v < 0
   . rw[if_pos hv];omega
   . rw[if_neg hv];exact DU _ _
def zmE(v:Int)(n d:Nat):(if v < 0 then max (v+(n:Int)) 0 else min v (n:Int))=((sIx n d (some v):Nat):Int):=by
 show (if v < 0 then max (v+(n:Int)) 0 else min v (n:Int))=(((if v < 0 then (v+(n:Int)).toNat else min v.toNat n):Nat):Int)
 by_cases hv:v < 0
 . simp only[if_pos hv];omega
 . simp only[if_neg hv];omega
def zkH(lo hi:Option Int)(n:Nat):Builtin.Slice.sliceAdjust lo hi 1 (n:Int)=(((sIx n 0 lo:Nat):Int),((sIx n n hi:Nat):Int)):=by
 have h1:¬ ((1:Int) < 0):=by omega
 unfold Builtin.Slice.sliceAdjust;simp only[h1,if_false];refine Prod.ext ?_ ?_
 . cases lo with
   | none=>rfl
   | some v=>exact zmE v n 0
 . cases hi with
   | none=>rfl
   | some v=>exact zmE v n n
def zjt(i j:Nat):Builtin.Slice.slicePlaces (i:Int) (j:Int) 1=j - i:=by
 unfold Builtin.Slice.slicePlaces;have h1:(1:Int) > 0:=by omega
 simp only[h1,if_true,Int.ediv_one]
 split <;> omega
def slicePart_{v:Value}{o:Option Int}{Q:Option Int->Shared->Prop}(p:IsPart v o)(h:Q o s):wpAny (model prog w) A (Builtin.Slice.slicePartIndex v) Q E s:=by
 cases p with
 | none=>exact slicePart_none h
 | int i t=>exact slicePart_int h
def zdT{sl:Addr}{vl vu:Value}{lo hi:Option Int}{n:Nat}{Q:Int×Int×Nat->Shared->Prop}(hs:s.heap.IsSliceOf sl vl vu .none)(pl:IsPart vl lo)(pu:IsPart vu hi)
   (h:Q (((sIx n 0 lo:Nat):Int),1,sIx n n hi - sIx n 0 lo) s):wpAny (model prog w) A (Builtin.Slice.sliceApplied (.ref sl) (pure (n:Int))) Q E s:=by
 obtain⟨os,hos,hcs,hds⟩:=id hs;unfold Builtin.Slice.sliceApplied Builtin.Slice.sliceFields;refine Aa (Aa (A5 hos hds (x:=vl) rfl (Aa (A5 hos hds (x:=vu) rfl (Aa (A5 hos hds (x:=.none) rfl (Ad ?_)))))));refine Aa (slicePart_none ?_);show wpAny _ _ (if ((1:Int)==0)=true then _ else _) _ _ s;rw[if_neg (by decide)];refine Aa (slicePart_ pl (Aa (slicePart_ pu (Aa (Ad ?_)))));show wpAny _ _ (match Builtin.Slice.sliceAdjust lo hi 1 (n:Int) with | (lo,hi)=>pure (lo,(1:Int),Builtin.Slice.slicePlaces lo hi 1)) _ _ s;rw[zkH lo hi n];show wpAny _ _ (pure (((sIx n 0 lo:Nat):Int),(1:Int),Builtin.Slice.slicePlaces ((sIx n 0 lo:Nat):Int) ((sIx n n hi:Nat):Int) 1)) _ _ s;rw[zjt];exact Ad h
def zns(xs:Array Value)(i k:Nat):((AA k).filterMap fun (m:Nat)=>xs[((i:Int)+(m:Int)*1).toNat]?).toArray=((xs.toList.drop i).take k).toArray:=by
 have e:(fun (m:Nat)=>xs[((i:Int)+(m:Int)*1).toNat]?)=fun m=>xs[i+m]?:=by
   funext m
   have:((i:Int)+(m:Int)*1).toNat=i+m:=by omega
   rw[this]
 rw[e];have:=pick_run xs i k;rw[E3] at this;have e2:((fun x=>xs[x]?) ∘ fun x=>i+x)=fun m=>xs[i+m]?:=rfl;rw[e2] at this;rw[this]
def getItem_tuple_cut{t sl:Addr}{items:Array Value}{vl vu:Value}{lo hi:Option Int}{Q:Value->Shared->Prop}(ht:IsTup s.heap t items)(hs:s.heap.IsSliceOf sl vl vu .none)(pl:IsPart vl lo)(pu:IsPart vu hi)
   (hw:¬ (sIx items.size 0 lo=0/\sIx items.size items.size hi=items.size))
   (h:Q (.ref s.heap.objs.size) { s with heap:=s.heap.push { cls:=.type "tuple",data:=.seq ((items.toList.drop (sIx items.size 0 lo)).take (sIx items.size items.size hi - sIx items.size 0 lo)).toArray } })
   (hsz:items.size<=sizeLine):wpAny (model prog w) A (getItem (.ref t) (.ref sl)) Q E s:=by
 have htake:sizeOk (.seq ((items.toList.drop (sIx items.size 0 lo)).take (sIx items.size items.size hi - sIx items.size 0 lo)).toArray):=by
   show ((items.toList.drop (sIx items.size 0 lo)).take (sIx items.size items.size hi - sIx items.size 0 lo)).toArray.size<=sizeLine;rw[AB,Bl,FL,AY];omega
 have hj:sIx items.size items.size hi<=items.size:=zrK _ _ (Af _) hi;obtain⟨os,hos,hcs,hds⟩:=id hs;have hTs:s.TypeIs (.ref sl) "slice":=⟨os,hos,hcs⟩
 unfold getItem
 try with_reducible refine AK ?_
 first | refine Aa (Ad ?_) | skip
 refine Aa (Fs ht.typeIs (by decide) ?_);refine Aa (A2 (name:=Bu "__getitem__") ht.typeIs BJ
   (Bc BJ ht.typeIs EM ?_ (E4 _ _)))
 show wpAny _ _ (Builtin.Tuple.tupleItemsOf (.ref t) >>= _) _ _ s;refine Aa (tupleItemsOf_ ht ?_);refine Aa (C7 hTs ?_);rw[if_pos (by decide)];refine Aa (zdT hs pl pu ?_);have hno:¬ ((((sIx items.size 0 lo:Nat):Int)==0&&(1:Int)==1&&(sIx items.size items.size hi - sIx items.size 0 lo)==items.size)=true):=by
   intro q;rw[Ao,Ao] at q;have q1:((sIx items.size 0 lo:Nat):Int)=0:=eq_of_beq q.1.1;have q2:sIx items.size items.size hi - sIx items.size 0 lo=items.size:=eq_of_beq q.2;exact hw ⟨by omega,by omega⟩
 show wpAny _ _ (if (((sIx items.size 0 lo:Nat):Int)==0&&(1:Int)==1&&(sIx items.size items.size hi - sIx items.size 0 lo)==items.size)=true then _ else _) _ _ s;rw[if_neg hno,zns]
 first
   | exact Aa (m:=Builtin.Tuple.tupleExact _) (AI (Ad ⟨_,rfl,Ad h⟩) htake)
   | exact Aa (m:=Builtin.Tuple.tupleExact _) (AI (Aa (Ad (Ad ⟨_,rfl,Ad h⟩))) htake)
   | exact Aa (Aa (m:=Builtin.Tuple.tupleExact _) (AI (Ad (Ad ⟨_,rfl,Ad h⟩)) htake))
   | exact Aa (Aa (m:=Builtin.Tuple.tupleExact _) (AI (Ad ⟨_,rfl,Ad h⟩) htake))
end
end HT
namespace L2
open PySem PySem.Spec PyProof.Rows
noncomputable abbrev TO:=St->Hp->(Option Int->Hp->Prop)->Prop
def PO(X:Cx)(e:Option Expr)(t:TO):Prop :=
 ∀ (pins:List (Addr×Obj)) (s:Shared) (σ:St) (H:Hp) (Q:Option Int->Hp->Prop),Inv X pins σ H s->t σ H Q ->
   wpAny (model X.prog X.w) X.A (evalPart e X.env) (fun u s'=>∃ o H',Inv X pins σ H' s'/\IsPart u o/\Q o H') X.xe s
def zoO:TO:=fun _ H Q=>Q none H
def ztE(t:TE):TO:=fun σ H Q=>t σ H fun x H1=>∃ i,x=.int i/\Q (some i) H1
def intsAre_of{ns:List Int}:∀ {us:List Value},Vals (ns.map V.int) us->IntsAre us ns:=by
 induction ns with
 | nil=>intro us r;rw[Cu] at r;cases r;exact .nil
 | cons n ns ih =>
   intro us r;rw[Av] at r
   cases r with
   | cons r1 r2 =>
     obtain⟨t,e⟩:=r1;subst e;exact .cons n t (ih r2)
section
variable {X:Cx} {e:Expr} {te:TE} {lo hi:Option Expr} {tl th:TO} {pos p2:Pos}
def zpw:PO X none zoO:=by
 intro pins s σ H Q I h;rw[EJ];exact Ad ⟨none,H,I,.none,h⟩
def zmk(h:PE X e te):PO X (some e) (ztE te):=by
 intro pins s σ H Q I hw;rw[evalPart_some];refine thn (h pins s σ H _ I hw) ?_;rintro u s1 ⟨x,H1,I1,r1,q1⟩;obtain⟨i,rfl,q⟩:=q1;obtain⟨t,rfl⟩:=r1;exact⟨some i,H1,I1,.int i t,q⟩
def SlR(X:Cx)(r:V->Option Int->Option Int->Hp->VK->Prop):Prop :=
 ∀ (pins:List (Addr×Obj)) (s:Shared) (σ:St) (H:Hp) (x:V) (v vl vu:Value) (lo hi:Option Int) (sl:Addr) (Q:VK),Inv X pins σ H s->RelV x v->s.heap.IsSliceOf sl vl vu .none->IsPart vl lo->IsPart vu hi->r x lo hi H Q ->
   ∃ T id,typeLookup (.type T) "__getitem__"=pure (some (.builtin id))/\s.TypeIs v T/\wpAny (model X.prog X.w) X.A (getItem v (.ref sl)) (EP X pins σ Q) X.xe s
def tSl(r:V->Option Int->Option Int->Hp->VK->Prop)(te:TE)(tl th:TO):TE:=fun σ H Q=>te σ H fun x H1=>tl σ H1 fun l H2=>th σ H2 fun u H3=>r x l u H3 Q
def zgY{r:V->Option Int->Option Int->Hp->VK->Prop}(hr:SlR X r)(he:PE X e te)(hl:PO X lo tl)(hu:PO X hi th):PE X (.Subscript e (.Slice lo hi none p2) pos) (tSl r te tl th):=by
 intro pins s σ H Q I h;refine EB (thn (he pins s σ H _ I h) ?_);rintro v s1 ⟨x,H1,I1,r1,q1⟩;refine wpAny_Slice (thn (hl pins s1 σ H1 _ I1 q1) fun vl s2 ⟨l,H2,I2,pl,q2⟩=>thn (hu pins s2 σ H2 _ I2 q2) ?_);rintro vu s3 ⟨u,H3,I3,pu,q3⟩;rw[EJ];refine Ad ?_;have I4:Inv X pins σ H3 { s3 with heap:=s3.heap.push { cls:=.type "slice",data:=.fields #[vl,vu,.none] } }:=I3.kept (t':=s3.toks) fun b ob q=>Ac _ q;obtain⟨T,id,hT,ht,hg⟩:=hr pins { s3 with heap:=s3.heap.push { cls:=.type "slice",data:=.fields #[vl,vu,.none] } } σ H3 x v vl vu l u s3.heap.objs.size Q I4 r1 (Fb ..) pl pu q3;show wpAny (model X.prog X.w) X.A (subscriptTail e (.Slice lo hi none p2) v (.ref s3.heap.objs.size)) (EP X pins σ Q) X.xe { s3 with heap:=s3.heap.push { cls:=.type "slice",data:=.fields #[vl,vu,.none] } };exact tail_any (ops:=[.ref s3.heap.objs.size,v]) ht hT hg (by with_unfolding_all rfl)
def cutV(xs:List V)(lo hi:Option Int):List V:=(xs.drop (HT.sIx xs.length 0 lo)).take (HT.sIx xs.length xs.length hi - HT.sIx xs.length 0 lo)
def zeR(xs:List V)(lo hi:Option Int):(cutV xs lo hi).length<=xs.length:=by
 unfold cutV;rw[Bl,FL];omega
def rSlT(K:Ab):V->Option Int->Option Int->Hp->VK->Prop:=fun x lo hi H Q=>∃ a xs,x=.ref a/\SqT K H a xs /\
 ¬ (HT.sIx xs.length 0 lo=0/\HT.sIx xs.length xs.length hi=xs.length)/\∀ p,H p=none->Q (.ref p) (upd H p (.tup (cutV xs lo hi)))
def zrv:SlR X (rSlT X.K):=by
 intro pins s σ H x v vl vu lo hi sl Q I rx hs pl pu h;obtain⟨a,xs,rfl,hx,hw,q⟩:=h;cases rx;obtain⟨its,r,ht,hz⟩:=I.tuple hx;have hlen:its.toArray.size=xs.length:=by rw[AB];exact r.length.symm
 refine⟨"tuple",_,PyProof.Rows.slot_tuple_getitem.lookup,ht.typeIs,?_⟩;refine HT.getItem_tuple_cut ht hs pl pu (by rw[hlen];exact hw) ?_ (by rw[hlen];exact hz);rw[hlen];refine⟨.ref s.heap.objs.size,_,I.laid (t':=s.toks) (o:=.tup (cutV xs lo hi)) (fun b ob q=>Ac _ q) (Af _) ?_,rfl,q _ (I.hok.fresh (Af _))⟩;exact⟨Az (zeR xs lo hi) hz,_,(r.drop (HT.sIx xs.length 0 lo)).take (HT.sIx xs.length xs.length hi - HT.sIx xs.length 0 lo),zcX.new _ _⟩
def ztU(K:Ab):R2:=fun x y H Q=>∃ a b xs ys,x=.ref a/\y=.ref b/\SqT K H a xs/\SqT K H b ys/\xs≠[]/\xs.length+ys.length<=sizeLine /\
 (ys=[]->Q (.ref a) H)/\(ys≠[]->∀ p,H p=none->Q (.ref p) (upd H p (.tup (xs++ys))))
def Vals.nil_iff{xs:List V}{us:List Value}(r:Vals xs us):us=[] ↔ xs=[]:=by
 cases r with
 | nil=>simp
 | cons _ _=>simp
def zpM:OpR X (binaryOp .Add) (ztU X.K):=by
 intro pins s σ H x y v u Q I rx ry h;obtain⟨a,b,xs,ys,rfl,rfl,ha,hb,hx,hz,q1,q2⟩:=h;cases rx;cases ry;obtain⟨its,r1,p1,_⟩:=I.tuple ha;obtain⟨its2,r2,p2,_⟩:=I.tuple hb;refine HT.cat_tup p1 p2 (fun z=>hx (r1.nil_iff.mp z)) (fun z=>⟨.ref a,H,I,rfl,q1 (r2.nil_iff.mp z)⟩) (fun z=>?_) (by rw[<-r1.length,<-r2.length];exact hz);refine⟨.ref s.heap.objs.size,_,I.laid (t':=s.toks) (o:=.tup (xs++ys)) (fun b ob q=>Ac _ q) (Af _) ?_,rfl,q2 (fun w=>z (r2.nil_iff.mpr w)) _ (I.hok.fresh (Af _))⟩;exact⟨by rw[AH];exact hz,_,r1.append r2,zcX.new _ _⟩
end
def ixN(n:Nat)(i:Int):Option Nat:=if 0<=i then (if i < n then some i.toNat else none) else if -(n:Int)<=i then some (i+n).toNat else none
def atI{α:Type}(xs:List α)(i:Int):Option α:=(ixN xs.length i).bind fun j=>xs[j]?
def zmz{n:Nat}{i:Int}{j:Nat}(h:ixN n i=some j):seqIndex? i n=some j/\j < n/\-(n:Int)<=i/\i < n:=by
 unfold ixN at h
 by_cases h0:0<=i
 . rw[if_pos h0] at h
   by_cases h1:i < n
   . rw[if_pos h1] at h;have e:i.toNat=j:=Ay h;exact⟨by rw[FG h0 h1,e],by omega,by omega,h1⟩
   . rw[if_neg h1] at h;cases h
 . rw[if_neg h0] at h
   by_cases h1:-(n:Int)<=i
   . rw[if_pos h1] at h;have e:(i+n).toNat=j:=Ay h;exact⟨by rw[Fc (by omega) h1,e],by omega,h1,by omega⟩
   . rw[if_neg h1] at h;cases h
def zkE{α:Type}{xs:List α}{i:Int}{v:α}(h:atI xs i=some v):∃ j,seqIndex? i xs.length=some j/\xs[j]?=some v/\j < xs.length/\-(xs.length:Int)<=i/\i < xs.length:=by
 unfold atI at h
 cases e:ixN xs.length i with
 | none=>rw[e] at h;cases h
 | some j =>
   rw[e] at h;obtain⟨h1,h2,h3,h4⟩:=zmz e;exact⟨j,h1,h,h2,h3,h4⟩
def zkK(b:Expr):Prop:=∀ o i,subscripted b false o i=operate [o,i] (getItem o i)
def IxR(X:Cx)(r:R2):Prop :=
 ∀ (value slice:Expr) (pins:List (Addr×Obj)) (s:Shared) (σ:St) (H:Hp) (x y:V) (v u:Value) (Q:VK),Inv X pins σ H s->RelV x v->RelV y u->r x y H Q ->
   subscripted slice false v u=operate [v,u] (getItem v u)->wpAny (model X.prog X.w) X.A (subscriptTail value slice v u) (EP X pins σ Q) X.xe s
def MtR(X:Cx)(id:String)(r:V->List V->Hp->VK->Prop):Prop :=
 ∀ (pins:List (Addr×Obj)) (s:Shared) (σ:St) (H:Hp) (x:V) (xs:List V) (v:Value) (us:List Value) (Q:VK),Inv X pins σ H s->RelV x v->Vals xs us->r x xs H Q ->
   wpAny (model X.prog X.w) X.A (call (.builtin id) (v::us)) (EP X pins σ Q) X.xe s
section
variable {X:Cx} {a b:Expr} {ta tb:TE} {pos:Pos}
def ztY{r:R2}(hr:IxR X r)(ha:PE X a ta)(hb:PE X b tb)(hs:zkK b):PE X (.Subscript a b pos) (tOp r ta tb):=by
 intro pins s σ H Q I h;exact EB (binT ha hb I h fun v u s2 x y H2 I2 rx ry q=>hr a b pins s2 σ H2 x y v u Q I2 rx ry q (hs _ _))
def rIxL(K:Ab):R2:=fun x y H Q=>∃ p xs i v,x=.ref p/\y=.int i/\SqL K H p xs/\atI xs i=some v/\Q v H
def rIxT(K:Ab):R2:=fun x y H Q=>∃ p xs i v,x=.ref p/\y=.int i/\SqT K H p xs/\atI xs i=some v/\Q v H
def rIxS:R2:=fun x y H Q=>∃ z i c,x=.str z/\y=.int i/\z.length<=sizeLine/\atI z.cps.toList i=some c/\Q (.str ⟨#[c]⟩) H
def zmy:IxR X (rIxL X.K):=by
 intro value slice pins s σ H x y v u Q I rx ry h hs;obtain⟨p,xs,i,z,rfl,rfl,hq,he,q⟩:=h;cases rx;obtain⟨t,rfl⟩:=ry;obtain⟨its,r,pl,hz⟩:=I.list hq;obtain⟨j,h1,h2,h3,h4,h5⟩:=zkE he;obtain⟨w,ew,rw'⟩:=r.get h2;have hl:=r.length;have hn:=zha;have fin:EP X pins σ Q w s:=⟨z,H,I,rw',q⟩
 by_cases h0:0<=i
 . have hj:i.toNat=j:=by
     rw[FG h0 h5] at h1;exact Ay h1
   exact item_listR pl.isList h0 (by omega) (by rw[hj];simpa using ew) fin hs
 . have hj:(i+(its.toArray.size:Int)).toNat=j:=by
     rw[Fc (by omega) h4] at h1;rw[AB,<-hl];exact Ay h1
   exact Ei (x:=w) pl.isList.typeIs slot_list_getitem.lookup
     (wpAny_getItem_list_neg (Q:=fun r s'=>r=w/\EP X pins σ Q r s') pl.isList (by omega) (by rw[AB] <;> omega) (by omega) (by rw[hj];simpa using ew) ⟨rfl,fin⟩) hs
def zaS:IxR X (rIxT X.K):=by
 intro value slice pins s σ H x y v u Q I rx ry h hs;obtain⟨p,xs,i,z,rfl,rfl,hq,he,q⟩:=h;cases rx;obtain⟨t,rfl⟩:=ry;obtain⟨its,r,pl,hz⟩:=I.tuple hq;obtain⟨j,h1,h2,h3,h4,h5⟩:=zkE he;obtain⟨w,ew,rw'⟩:=r.get h2;have hl:=r.length;have hn:=zha;have fin:EP X pins σ Q w s:=⟨z,H,I,rw',q⟩
 exact Ei (x:=w) pl.typeIs slot_tuple_getitem.lookup
   (getItem_tuple (j:=j) (Q:=fun r s'=>r=w/\EP X pins σ Q r s') pl (by omega) (by omega) (by rw[AB,<-hl];exact h1) (by simpa using ew) ⟨rfl,fin⟩) hs
def zjY:IxR X rIxS:=by
 intro value slice pins s σ H x y v u Q I rx ry h hs;obtain⟨z,i,c,rfl,rfl,hz,he,q⟩:=h;obtain⟨t,rfl⟩:=rx;obtain⟨t',rfl⟩:=ry;obtain⟨j,h1,h2,h3,h4,h5⟩:=zkE he;have hl:z.cps.toList.length=z.length:=by simp[Str.length]
 rw[hl] at h1 h4 h5;have hn:=zha;exact tail_any (FW s z t) slot_str_getitem.lookup (getItem_str (c:=c) (by
   have e1:decide (i < -(2 ^ 63:Int))=false:=decide_eq_false (by omega);have e2:decide (i ≥ 2 ^ 63)=false:=decide_eq_false (by omega);rw[e1,e2,Bool.or_false]) (by rw[h1];simpa using h2) ⟨.str ⟨#[c]⟩,H,I.tok _,⟨_,rfl⟩,q⟩) hs
def zjN(its:List Value)(n j:Nat)(u:Value):By (·.setIfInBounds j u) { cls:=.type "list",data:=.seq its.toArray n }={ cls:=.type "list",data:=.seq (its.set j u).toArray n }:=by
 simp[By]
def Inv.lst{pins:List (Addr×Obj)}{σ:St}{H:Hp}{s:Shared}{p:Addr}{xs:List V}(I:Inv X pins σ H s)(h:H p=some (.lst xs)) :
   ∃ (its:List Value) (n:Nat),Vals xs its/\s.heap.get? p=some { cls:=.type "list",data:=.seq its.toArray n }/\xs.length<=sizeLine:=by
 obtain⟨z,its,n,r,e⟩:=I.hok p _ h;exact⟨its,n,r,e,z⟩
def Inv.lstUpd{pins:List (Addr×Obj)}{σ:St}{H:Hp}{s:Shared}{p:Addr}{xs ys:List V}{its its':List Value}{n n':Nat}{f:Obj->Obj}(I:Inv X pins σ H s)(h:H p=some (.lst xs))
   (ho:s.heap.get? p=some { cls:=.type "list",data:=.seq its.toArray n }) (hf:f { cls:=.type "list",data:=.seq its.toArray n }={ cls:=.type "list",data:=.seq its'.toArray n' }) (r:Vals ys its') (hz:ys.length<=sizeLine) (t:Nat) :
   Inv X pins σ (upd H p (.lst ys)) { s with heap:=s.heap.update p f,toks:=t }:=by
 have e:(s.heap.update p f).get? p=some { cls:=.type "list",data:=.seq its'.toArray n' }:=by
   rw[BF f ho (by rw[hf] <;> rfl),hf]
 refine I.write (x:=p) (e:=p) (by rw[h];trivial) (.inl rfl) (fun b u hb q=>(Cn _ _ (BB hb)).trans q) ⟨_,e⟩ ?_;exact⟨hz,its',n',r,e⟩
def ztT:V->V->V->Hp->(Hp->Prop)->Prop:=fun o i v H Q=>∃ p xs k j,o=.ref p/\i=.int k/\H p=some (.lst xs)/\ixN xs.length k=some j/\Q (upd H p (.lst (xs.set j v)))
def set_list:PSet X ztT:=by
 intro pins s σ H o i v ov iv u Q I ro ri rv h;obtain⟨p,xs,k,j,rfl,rfl,hp,hj,q⟩:=h;cases ro;obtain⟨t,rfl⟩:=ri;obtain⟨its,n,r,ho,hz⟩:=I.lst hp;obtain⟨h1,h2,h3,h4⟩:=zmz hj;have hl:=r.length;have hn:=zha;have I':Inv X pins σ (upd H p (.lst (xs.set j v))) { s with heap:=s.heap.update p (By (·.setIfInBounds j u)) } :=
   I.lstUpd hp ho (zjN its n j u) (r.set rv j) (by rw[Bj];exact hz) s.toks
 by_cases h0:0<=k
 . have hk:k.toNat=j:=by
     rw[FG h0 h4] at h1;exact Ay h1
   exact PySem.W.ki_setAt ho h0 (by omega) (by rw[AB,<-hl];exact h4) (by rw[hk];exact⟨_,I',q⟩)
 . have hk:(k+(its.toArray.size:Int)).toNat=j:=by
     rw[Fc (by omega) h3] at h1;rw[AB,<-hl];exact Ay h1
   exact PySem.W.ki_setBack ho (by omega) (by rw[AB,<-hl];exact h3) (by omega) (by rw[hk];exact⟨_,I',q⟩)
def zgL(lo hi:Option Int)(n:Nat):(sliceBounds lo hi none n).1=((HT.sIx n 0 lo:Nat):Int)/\(sliceBounds lo hi none n).2.1=((HT.sIx n n hi:Nat):Int)/\(sliceBounds lo hi none n).2.2=1:=by
 refine⟨?_,?_,rfl⟩
 . cases lo with
   | none=>simp[sliceBounds,HT.sIx]
   | some i =>
     simp only[sliceBounds,HT.sIx,FM,show (1:Int) > 0 by decide,if_true]
     by_cases h:i < 0
     . simp only[h,if_true] <;> omega
     . simp only[h,if_false] <;> omega
 . cases hi with
   | none=>simp[sliceBounds,HT.sIx]
   | some i =>
     simp only[sliceBounds,HT.sIx,FM,show (1:Int) > 0 by decide,if_true]
     by_cases h:i < 0
     . simp only[h,if_true] <;> omega
     . simp only[h,if_false] <;> omega
def zfR(its:List Value)(lo hi:Option Int):slicePick its.toArray lo hi none=((its.drop (HT.sIx its.length 0 lo)).take (HT.sIx its.length its.length hi - HT.sIx its.length 0 lo)).toArray:=by
 obtain⟨h1,h2,h3⟩:=zgL lo hi its.toArray.size;unfold slicePick;rw[h1,h2,h3];simp only[sliceRange_one,pick_run,AB] <;> rfl
def rSlL(K:Ab):V->Option Int->Option Int->Hp->VK->Prop:=fun x lo hi H Q=>∃ a xs,x=.ref a/\SqL K H a xs/\∀ p,H p=none->Q (.ref p) (upd H p (.lst (cutV xs lo hi)))
def zmd:SlR X (rSlL X.K):=by
 intro pins s σ H x v vl vu lo hi sl Q I rx hs pl pu h;obtain⟨a,xs,rfl,hx,q⟩:=h;cases rx;obtain⟨its,r,ht,hz⟩:=I.list hx;have hlen:=r.length;refine⟨"list",_,slot_list_getitem.lookup,ht.isList.typeIs,?_⟩;refine wpAny_getItem_list_slice ht.isList hs pl pu .none (by simp) ?_ (by rw[AB] <;> omega);rw[zfR,<-hlen];refine⟨.ref s.heap.objs.size,_,I.laid (t':=s.toks) (o:=.lst (cutV xs lo hi)) (fun b ob q=>Ac _ q) (Af _) ?_,rfl,q _ (I.hok.fresh (Af _))⟩;exact⟨Az (zeR xs lo hi) hz,_,0,(r.drop (HT.sIx xs.length 0 lo)).take (HT.sIx xs.length xs.length hi - HT.sIx xs.length 0 lo),Am _ rfl⟩
def zcU:zkQ X (.builtin "len") (fun xs H Q=>∃ p ys,xs=[.ref p]/\(SqL X.K H p ys\/SqT X.K H p ys)/\Q (.int ys.length) H):=by
 intro pins s σ H xs us Q I r h;obtain⟨p,ys,rfl,hq,q⟩:=h;obtain⟨u,rfl,rx⟩:=vals1 r;cases rx;have hn:=zha
 rcases hq with hq | hq
 . obtain⟨its,r',pl,hz⟩:=I.list hq;have hlen:=r'.length;exact Calls.call_len_list pl.isList (by simp only[AB] <;> omega) ⟨.int ys.length,H,I.tok _,⟨s.toks+1,by rw[AB,hlen]⟩,q⟩
 . obtain⟨its,r',pl,hz⟩:=I.tuple hq;have hlen:=r'.length;exact len_tuple pl (by simp only[AB] <;> omega) ⟨.int ys.length,H,I.tok _,⟨s.toks+1,by rw[AB,hlen]⟩,q⟩
def zhh:zkQ X (.builtin "len") (fun xs H Q=>∃ z,xs=[.str z]/\z.length<=sizeLine/\Q (.int z.length) H):=by
 intro pins s σ H xs us Q I r h;obtain⟨z,rfl,hz,q⟩:=h;obtain⟨u,rfl,t,rfl⟩:=vals1 r;have hn:=zha;exact len_str (by omega) ⟨.int z.length,H,I.tok _,⟨_,rfl⟩,q⟩
def zcT:zkQ X (.type "list") (fun xs H Q=>∃ p ys,xs=[.ref p]/\(SqL X.K H p ys\/SqT X.K H p ys)/\∀ l,H l=none->Q (.ref l) (upd H l (.lst ys))):=by
 intro pins s σ H xs us Q I r h;obtain⟨p,ys,rfl,hq,q⟩:=h;obtain⟨u,rfl,rx⟩:=vals1 r;cases rx;have fin:∀ (its:List Value),Vals ys its->ys.length<=sizeLine->∀ (h':Heap) (c':Nat),(∀ b o',s.heap.get? b=some o'->h'.get? b=some o') ->
     h'.get? s.heap.objs.size=some { cls:=.type "list",dict:=none,data:=.seq its.toArray c',slots:=#[] }->EP X pins σ Q (.ref s.heap.objs.size) { s with heap:=h' }:=fun its r' hz h' c' kp e =>
   ⟨.ref s.heap.objs.size,_,I.laid (t':=s.toks) kp (Af _) (show zcW X.prog X.w _ h' _ (.lst ys) from ⟨hz,its,c',r',e⟩),rfl,q _ (I.hok.fresh (Af _))⟩
 rcases hq with hq | hq
 . obtain⟨its,r',pl,hz⟩:=I.list hq;have hlen:=r'.length;obtain⟨o,ho,hc,n,hd⟩:=pl.isList;exact call_list_seq p (.inl rfl) ho hc hd (fun h' c' kp e=>fin its r' hz h' c' kp e) (by simp only[AB] <;> omega)
 . obtain⟨its,r',pl,hz⟩:=I.tuple hq;have hlen:=r'.length;obtain⟨o,ho,hc,n,hd⟩:=pl;exact call_list_seq p (.inr rfl) ho hc hd (fun h' c' kp e=>fin its r' hz h' c' kp e) (by simp only[AB] <;> omega)
def zdB:zkQ X (.type "tuple") (fun xs H Q=>∃ p ys,xs=[.ref p]/\((SqL X.K H p ys/\∀ l,H l=none->Q (.ref l) (upd H l (.tup ys)))\/(SqT X.K H p ys/\Q (.ref p) H))):=by
 intro pins s σ H xs us Q I r h;obtain⟨p,ys,rfl,h⟩:=h;obtain⟨u,rfl,rx⟩:=vals1 r;cases rx
 rcases h with ⟨hq,q⟩ | ⟨hq,q⟩
 . obtain⟨its,r',pl,hz⟩:=I.list hq;have hlen:=r'.length;refine call_tuple_list pl.isList (fun h' kp=>?_) (by simp only[AB] <;> omega);have I1:Inv X pins σ H { s with heap:=h' }:=I.kept (t':=s.toks) kp;have I2:Inv X pins σ (upd H h'.objs.size (.tup ys)) { s with heap:=h'.push { cls:=.type "tuple",data:=.seq its.toArray } } :=
     I1.laid (t':=s.toks) (fun b o e=>Ac _ e) (Af _) (show zcW X.prog X.w _ _ _ (.tup ys) from ⟨hz,its,r',zcX.new _ _⟩)
   exact⟨.ref h'.objs.size,_,I2,rfl,q _ (I1.hok.fresh (Af _))⟩
 . obtain⟨its,r',pl,hz⟩:=I.tuple hq;exact call_tuple_same pl ⟨.ref p,H,I,rfl,q⟩
def tyV(K:Ab)(T:String)(x:V)(H:Hp):Prop:=match x with
 | .str _=>T="str"
 | .int _=>T="int"
 | .ref p=>(T="list"/\∃ xs,SqL K H p xs)\/(T="tuple"/\∃ o,K.lookup p=some o/\o.cls=.type "tuple"/\o.dict=none) \/
     (T="dict"/\((∃ kvs,H p=some (.dK kvs))\/∃ kvs,H p=some (.dT kvs)))\/(T="set"/\∃ S n,H p=some (.set S n))
 | _=>False
def zrj{pins:List (Addr×Obj)}{σ:St}{H:Hp}{s:Shared}{T:String}{x:V}{v:Value}(I:Inv X pins σ H s)(r:RelV x v)(ty:tyV X.K T x H) :
   s.TypeIs v T/\∀ a,v=.ref a->∃ ob,s.heap.get? a=some ob/\ob.dict=none:=by
 cases x with
 | str z =>
   obtain⟨t,rfl⟩:=r
   cases (show T="str" from ty)
   exact⟨FW s z t,fun _ e=>nomatch e⟩
 | int i =>
   obtain⟨t,rfl⟩:=r
   cases (show T="int" from ty)
   exact⟨typeIs_int s i t,fun _ e=>nomatch e⟩
 | ref p =>
   cases r
   rcases ty with ⟨rfl,xs,hq⟩ | ⟨rfl,o,hk,hc,hd⟩ | ⟨rfl,hk⟩ | ⟨rfl,S,n,hk⟩
   . obtain⟨its,_,pl,_⟩:=I.list hq;refine⟨pl.isList.typeIs,fun a e=>?_⟩;cases e;obtain⟨o,n,e,c,hd,_⟩:=pl;exact⟨o,e,hd⟩
   . refine⟨⟨o,I.kIn p o hk,hc⟩,fun a e=>?_⟩;cases e;exact⟨o,I.kIn _ o hk,hd⟩
   . have z:∃ o,s.heap.get? p=some o/\o.ExactDict:=by
       rcases hk with ⟨kvs,hk⟩ | ⟨kvs,hk⟩
       . obtain⟨_,_,_,_,o,_,_,e,ex,_⟩:=I.hok p _ hk;exact⟨o,e,ex⟩
       . obtain⟨_,_,_,_,o,_,_,e,ex,_⟩:=I.hok p _ hk;exact⟨o,e,ex⟩
     obtain⟨o,e,ex⟩:=z;refine⟨⟨o,e,ex.1⟩,fun a e2=>?_⟩;cases e2;exact⟨o,e,ex.2.1⟩
   . obtain⟨o,_,_,_,e,ex,_⟩:=I.hok p _ hk;refine⟨⟨o,e,ex.1⟩,fun a e2=>?_⟩;cases e2;exact⟨o,e,ex.2.1⟩
 | _=>exact False.elim ty
def tBM(K:Ab)(T:String)(r:V->List V->Hp->VK->Prop)(to:TE)(t:TA):TE:=fun σ H Q=>to σ H fun x H1=>tyV K T x H1/\t σ H1 fun xs H2=>r x xs H2 Q
variable {o e:Expr} {es:List Expr} {to:TE} {t:TA} {name:Str} {apos cpos:Pos} {T id:String} {r:V->List V->Hp->VK->Prop}
def ztZ(pa:PlainAttrs T)(slot:Slot T name id)(hty:typeOf (.builtin id)=pure (.type "method_descriptor"))(hm:MtR X id r)(ho:PE X o to)(ha:PA X (e::es) t)
   (hbase:attributeBase o name X.env (eval o X.env)=eval o X.env:=by rfl)
   (hfew:((backTo cpos (starEach (e::es) X.env)).all (fun x=>!x.1)&&(backToKw cpos (keywordEach [] X.env)).all (fun x=>x.1.isSome)
    &&decide ((e::es).length+([]:List Keyword).length+(if ([]:List Keyword).isEmpty then 0 else 1) < 30))=true:=by rfl)
   (hline:(apos.endLine==cpos.line)=true:=by rfl) (hs:starEach (e::es) X.env=(false,eval e X.env)::starEach es X.env:=by rfl) (hplain:(backTo cpos (starEach es X.env)).any (·.1)=false:=by rfl) :
   PE X (.Call (.Attribute o name apos) (e::es) [] cpos) (tBM X.K T r to t):=by
 intro pins s σ H Q I h;refine wpAny_Call_method_late hbase hfew hline rfl (thn (ho pins s σ H _ I h) ?_);rintro v s1 ⟨x,H1,I1,r1,ty,q1⟩;obtain⟨h1,h2⟩:=zrj I1 r1 ty;refine⟨T,id,pa,slot,hty,h1,h2,?_⟩;have hA:=ha cpos pins s1 σ H1 _ I1 q1;rw[hs] at hA ⊢;refine CY (by show (false || (backTo cpos (starEach es X.env)).any (·.1))=false;rw[hplain] <;> rfl) (C6 ?_);exact thn hA fun us s2 ⟨vs,H2,I2,r2,q2⟩=>hm pins s2 σ H2 x vs v us Q I2 r1 r2 q2
end
def MtM(X:Cx)(id:String)(r:V->List V->Hp->VK->Prop):Prop :=
 ∀ (pins:List (Addr×Obj)) (s:Shared) (σ:St) (H:Hp) (x:V) (xs:List V) (v:Value) (us:List Value) (Q:VK),Inv X pins σ H s->RelV x v->Vals xs us->r x xs H Q ->
   wpAny (model X.prog X.w) X.A (call (.builtin id) (v::us)) (EP X pins σ Q) X.xe s
def Vals.one:∀ {x:V} {us:List Value},Vals [x] us->∃ u,us=[u]/\RelV x u
 | _,_,.cons r .nil=>⟨_,rfl,r⟩
def Vals.two{x y:V}{us:List Value}(h:Vals [x,y] us):∃ u v,us=[u,v]/\RelV x u/\RelV y v:=by
 cases h with
 | cons r t =>
   cases t with
   | cons q t =>
     cases t;exact⟨_,_,rfl,r,q⟩
section
variable {X:Cx} {pins:List (Addr×Obj)} {σ:St} {H:Hp} {s:Shared} {l b:Addr} {xs ys zs:List V}
def Inv.lset{its its':List Value}{n:Nat}{f:Array Value->Array Value}{t':Nat}(I:Inv X pins σ H s)(hH:H l=some (.lst xs))
   (e:s.heap.get? l=some { cls:=.type "list",data:=.seq its.toArray n }) (hf:f its.toArray=its'.toArray) (hv:Vals ys its') (hz:ys.length<=sizeLine) :
   Inv X pins σ (upd H l (.lst ys)) { s with heap:=s.heap.update l (By f),toks:=t' }:=by
 have q:=PySem.IsL.update e f;rw[hf] at q;refine I.write (x:=l) (e:=l) (by rw[hH];exact trivial) (.inl rfl) (fun b' u hb hu=>(Cn s.heap (By f) (BB hb)).trans hu) ⟨_,q⟩ ?_;exact⟨hz,its',_,hv,q⟩
def Inv.lnew{its:List Value}{t':Nat}(I:Inv X pins σ H s)(hv:Vals ys its)(hz:ys.length<=sizeLine) :
   Inv X pins σ (upd H s.heap.objs.size (.lst ys)) { s with heap:=s.heap.push { cls:=.type "list",data:=.seq its.toArray },toks:=t' } :=
 I.laid (fun _ _ q=>Ac _ q) (Af _) ⟨hz,its,0,hv,Am _ rfl⟩
def Inv.fresh(I:Inv X pins σ H s):H s.heap.objs.size=none:=I.hok.fresh (Af _)
def Inv.lstM(I:Inv X pins σ H s)(hH:H l=some (.lst xs)):xs.length<=sizeLine/\∃ (its:List Value) (n:Nat),Vals xs its/\xs.length=its.length/\s.heap.get? l=some { cls:=.type "list",data:=.seq its.toArray n }:=by
 obtain⟨z,its,n,r,e⟩:=I.hok l _ hH;exact⟨z,its,n,r,r.length,e⟩
end
section
variable {X:Cx}
def zpl:V->List V->Hp->VK->Prop:=fun x vs H Q=>∃ l xs y,x=.ref l/\vs=[y]/\H l=some (.lst xs)/\xs.length < sizeLine/\Q .non (upd H l (.lst (xs++[y])))
def zhH:MtM X "list.append" zpl:=by
 intro pins s σ H x vs v us Q I rx rv h;obtain⟨l,xs,y,rfl,rfl,hH,hz,q⟩:=h;cases rx;obtain⟨u,rfl,ru⟩:=rv.one;obtain⟨z,its,n,r,hl,e⟩:=I.lstM hH;refine FX F.slot_list_append ⟨_,e,rfl⟩ F.entry_list_append (F.args_list_append_2 _ _) (PySem.list_append l its.toArray n u (by rw[AB];omega)) ⟨e,?_⟩;refine⟨.non,_,I.lset (its':=its++[u]) hH e (by simp) (r.append (.cons ru .nil)) ?_,rfl,q⟩;rw[AH,B0];omega
def rCat:R2:=fun x y H Q=>∃ l b xs zs,x=.ref l/\y=.ref b/\H l=some (.lst xs)/\H b=some (.lst zs)/\xs.length+zs.length<=sizeLine/\∀ p,H p=none->Q (.ref p) (upd H p (.lst (xs++zs)))
def zsk:OpR X (binaryOp .Add) rCat:=by
 intro pins s σ H x y v u Q I rx ry h;obtain⟨l,b,xs,zs,rfl,rfl,hH,hB,hz,q⟩:=h;cases rx;cases ry;obtain⟨z,its,n,r,hl,e⟩:=I.lstM hH;obtain⟨z2,its2,n2,r2,hl2,e2⟩:=I.lstM hB;refine PySem.P.add_list e e2 ?_ (by rw[AB,AB];omega);have ea:its.toArray++its2.toArray=(its++its2).toArray:=by simp
 rw[ea];exact⟨.ref _,_,I.lnew (t':=s.toks) (r.append r2) (by rw[AH];omega),rfl,q _ I.fresh⟩
end
section
variable {prog:Program} {w:World} {A:Around} {E:Value->Shared->Prop} {s:Shared}
set_option maxRecDepth 100000 in
end
end L2
namespace Att
open PySem PySem.W PySem.Calls PyProof.Rows
def zeC{P:Params}{h:Heap}:∀ (ns:List Int) (vs:List Value),WellAll P h vs (ns.map WData.int)->IntsAre vs ns:=by
 intro ns
 induction ns with
 | nil =>
   intro vs w;rw[Cu] at w;cases w;exact .nil
 | cons n ns ih =>
   intro vs w;rw[Av] at w
   cases w with
   | cons a b =>
     cases a;exact .cons _ _ (ih _ b)
def zk8{l:OpenLaw}{n:Nat}(hn:l.most=some n){P:Params}{h:Heap}{args:List WData}{vals:List Value}
   (hpre:l.row.toRowW.claim.pre args=true) (hwl:WellAll P h vals args) :
   ∃ a vs ns,vals=[AF a]/\args=[WData.list (ns.map WData.int)]/\h.get? a=some { cls:=.type "list",data:=.seq vs.toArray }/\IntsAre vs ns/\ns.length<=n:=by
 have hsh:WShape.hasAll [] args [.list .int]=true:=(pre_splitW hpre).1;have hc:l.pre.holds [] { args:=args }=true:=(pre_splitW hpre).2;obtain⟨d,r,rfl,h1,h2⟩:=hasAllW_cons hsh;obtain rfl:=hasAllW_nil h2;obtain⟨xs,rfl,h3⟩:=hasW_list h1;obtain⟨ns,rfl⟩:=items_int h3;have hlen:ns.length<=n:=by
   unfold OpenLaw.pre at hc;have h4:(WTm.not (.lt (.lit (.int (n:Int))) (.len (.arg 0)))).holds [] { args:=[.list (ns.map .int)] }=true:=by
     have h4:=(holds_andW hc).1;rw[hn] at h4;exact h4
   have h5:=condW_of h4 (w_not (w_lt w_lit (w_len_list (w_arg rfl))));rw[Ag] at h5;refine Nat.le_of_not_lt fun q=>?_;have q':(n:Int) < ((ns.length:Nat):Int):=by omega
   first
     | (rw[decide_eq_true q'] at h5;exact absurd h5 (by decide))
     | (simp at h5;omega)
 cases hwl with
 | cons w1 w2 =>
   cases w2
   cases w1 with
   | list ho hall=>exact⟨_,_,ns,rfl,rfl,ho,zeC ns _ hall,hlen⟩
def zlg(l:OpenLaw)(args:List WData):l.row.toRowW.claim.post args (.bool true) args=true :=
 postW_of (r:=l.row.toRowW) (X:=(true==true))
   (show WShape.has [] (.bool true) .bool=true by first | rfl | decide | simp[WShape.has,WShape.arms,WShape.armsAll])
   (show (WTm.eq .res (.lit (.bool true))).value [] { args:=args,res:=some (.bool true),after:=args }=some (.bool (true==true)) from w_eq_bool (w_res rfl) w_lit) rfl
def attach_call{l:OpenLaw}{n:Nat}{q:Program}{loose:List Str}{XP:(Str->Option Value)->Heap->Prop}{YP:World->Heap->Prop}{d:DefRec}
   (hn:l.most=some n) (hdf:d.params.defaults=[])
   (call:∀ (w:World) (s₀ s₁:Shared) (mg mb:Str->Option Value) (fa:Addr) (o:Obj) (pm cd doc:Value) (a:Addr) (vs:List Value) (ns:List Int),
     Ground q loose [] XP w s₀ mg mb s₁.heap->YP w s₁.heap ->
     s₁.heap.get? fa=some o->o.data=.func (docDef d.name d.params d.body d.scope pm cd doc)->s₁.heap.CodeRec cd d.name->mg d.name=some (.ref fa) ->
     s₁.heap.get? a=some { cls:=.type "list",data:=.seq vs.toArray }->IntsAre vs ns->ns.length<=n->s₁.gens=#[] ->
     codeAny (model l.prog w) callerA (.call (.ref fa) ⟨[.ref a],[]⟩) (fun r s'=>r=.ok (.ret (.bool true))/\OldK s₁.heap s'.heap/\s'.os=s₁.os/\AllBare s'.gens) s₁) :
   WalkO q loose XP YP l.row.toRowW d [] (fun f vs=>FY f vs):=by
 intro w s₀ s₁ mg mb G Y fa o pm cd doc dV kV ho hd hcd hD hmg hg args vals as hpre hlay hrd hwl hlo;obtain rfl:dV=.none:=Dflts.none hD hdf;obtain rfl:kV=.none:=Dflts.noKw hD;obtain⟨a,vs,ns,rfl,rfl,hobj,hints,hlen⟩:=zk8 hn hpre hwl;refine enter_call (DR (call w s₀ s₁ mg mb fa o pm cd doc a vs ns G Y ho (fd_plain hd) hcd hmg hobj hints hlen hg) fun r s' hq=>?_);obtain⟨rfl,h2,h3,h4⟩:=hq;exact⟨.inl ⟨.bool true,.bool true,[],rfl,fun _=>rfl,.bool true,zlg l _,fun _=>⟨Cp,fun _ hm=>(nomatch hm)⟩⟩,h2,h3,h4⟩
end Att
namespace L2
open PySem PySem.Spec PyProof.Rows
def zhj:∀ {vs:List Value} {ns:List Int},IntsAre vs ns->Vals (ns.map V.int) vs
 | _,_,.nil=>.nil
 | _,_,.cons n t h=>.cons ⟨t,rfl⟩ (zhj h)
def Only(H:Hp):Prop:=∀ b,H b=none\/∃ o xs,H b=some (.frz o (.lst xs))
def znZ{P:Program}{w:World}{K:Ab}{mg mb:Str->Option Value}{CX:CXT}{k:Nat}{fa a:Addr}{fd:FuncData}{x:Str}{sp:Sp}{s₁:Shared}{vs:List Value}{ns:List Int}
   (KX:K.In s₁.heap) (hns:s₁.heap.Ns mainGlobals mg) (hb:s₁.heap.Ns builtinsNs mb) (hbb:∀ x:Str,x≠"__name__"->mb x=bootBuiltins x) (hlim:s₁.heap.NoLimit) (hg:s₁.gens=#[])
   (ha:s₁.heap.get? a=some { cls:=.type "list",data:=.seq vs.toArray }) (hi:IntsAre vs ns) (hl:ns.length<=sizeLine) (hr:Room k callerA)
   (F:∀ base:Heap,K.In base->base.Ns mainGlobals mg->FnOk P w K mg base CX k fa fd [x] sp) (hbind:∀ (s:Shared) (u:Value),BindsTo s fd ⟨[u],[]⟩ [(x,u)])
   (hsp:∀ H:Hp,Only H->SqL K H a (ns.map V.int)->sp [.ref a] H (fun v _=>v=.bl true) fun _ _ _=>False)
   (hCX:∀ H e s',CX [] H s₁ (fun _ _ _=>False) e s'->False) :
   codeAny (model P w) callerA (.call (.ref fa) ⟨[.ref a],[]⟩) (fun r s'=>r=.ok (.ret (.bool true))/\OldK s₁.heap s'.heap/\s'.os=s₁.os/\AllBare s'.gens) s₁:=by
 have rv:=zhj hi;have lenV:=hi.length
 -- from an abstract heap in which nothing but the script may be tracked
 have core:∀ H:Hp,Only H->SqL K H a (ns.map V.int)->HOk P w H s₁.heap->(∀ b,H b≠none->b=a)->(H a≠none->K.lookup a=none) ->
     codeAny (model P w) callerA (.call (.ref fa) ⟨[.ref a],[]⟩) (fun r s'=>r=.ok (.ret (.bool true))/\OldK s₁.heap s'.heap/\s'.os=s₁.os/\AllBare s'.gens) s₁:=by
   intro H hO hS hok hA hK;have base_of:∀ {b:Addr} {o:Obj},s₁.heap.get? b=some o->H b=none->(hidT s₁.heap H).get? b=some o:=fun e n=>zn6 e n;have noA:∀ {b:Addr} {o:Obj} {es:Array DictEntry} {ep:Nat},s₁.heap.get? b=some o->o.data=.dict es ep->H b=none:=fun {b o es ep} e d=>by
     cases q:H b with
     | none=>rfl
     | some u =>
       have e':b=a:=hA b (by rw[q];simp);subst e';rw[ha] at e;cases e;have d':Data.seq vs.toArray _=Data.dict es ep:=d;cases d'
   have nsK:∀ {b:Addr} {m:Str->Option Value},s₁.heap.Ns b m->(hidT s₁.heap H).Ns b m:=fun {b m} ⟨o,es,ep,e,d,r⟩=>⟨o,es,ep,base_of e (noA e d),d,r⟩
   have hKb:K.In (hidT s₁.heap H):=fun b o e=>base_of (KX b o e) (by
     cases q:H b with
     | none=>rfl
     | some u =>
       have e':b=a:=hA b (by rw[q];simp);subst e';rw[hK (by rw[q];simp)] at e;cases e)
   have hM:Mod K mg (hidT s₁.heap H):=⟨hKb,nsK hns,⟨mb,nsK hb,hbb⟩,let ⟨mc,h1,h2⟩:=hlim;⟨mc,nsK h1,h2⟩⟩
   have e0:Env0 P w K mg (hidT s₁.heap H) callerA [] s₁ H:=⟨rfl,hM,fun b o e=>zpR e,DP (zlN _ _),trivial,fun b hb=>absurd (show b∈([]:List Addr) from hb) (by simp),hok,.of_eq hg⟩
   refine DR ((F _ hKb (nsK hns)).run callerA [] s₁ H ⟨[.ref a],[]⟩ [.ref a] [.ref a] _ _ hr e0 (hbind s₁ (.ref a)) (.cons rfl .nil) (hsp H hO hS)) fun r s' h=>?_
   cases r with
   | error e=>exact (hCX H e s' h).elim
   | ok fl =>
     cases fl with
     | next=>exact False.elim h
     | brk=>exact False.elim h
     | cont=>exact False.elim h
     | ret u =>
       obtain⟨v,H',os,bare,un,hok',r',q⟩:=h;have q':v=.bl true:=q;subst q';obtain rfl:u=EA true:=r';refine⟨rfl,OldK.of_keep fun b o e=>?_,os,bare⟩
       cases q:H b with
       | none=>exact un.keep b o e q (by intro z;exact absurd (show b∈([]:List Addr) from z) (by simp)) (by simp)
       | some u =>
         rcases hO b with z | ⟨ob,xs,z⟩
         . rw[q] at z;cases z
         . have z2:=un.frzs b ob _ z;obtain⟨e1,_⟩:=hok b _ z;obtain⟨e2,_⟩:=hok' b _ z2;rw[e] at e1;cases e1;exact e2
 cases hk:K.lookup a with
 | some o =>
   -- the script is one of the module's own objects
   have e:=KX a o hk;rw[ha] at e;cases e;refine core (fun _=>none) (fun _=>.inl rfl) (.inr ⟨_,vs.toArray,_,hk,rfl,rfl,rfl,by rw[AB,lenV];exact hl,by simpa using rv⟩) (fun b u z=>by have z':(none:Option HO)=some u:=z;cases z') (fun b z=>absurd rfl z) fun z=>absurd rfl z
 | none =>
   refine core (fun b=>if b=a then some (.frz { cls:=.type "list",data:=.seq vs.toArray } (.lst (ns.map V.int))) else none) (fun b=>?_) (.inl (.inr ⟨{ cls:=.type "list",data:=.seq vs.toArray },if_pos rfl⟩)) (fun b u z=>?_) (fun b z=>?_) fun _=>hk
   . by_cases hb:b=a
     . exact .inr ⟨_,_,if_pos hb⟩
     . exact .inl (if_neg hb)
   . by_cases hb:b=a
     . have z':=(if_pos hb).symm.trans z;cases z';subst hb;exact⟨ha,by rw[Ag];exact hl,vs,_,rv,ha⟩
     . have z':=(if_neg hb).symm.trans z;cases z'
   . by_cases hb:b=a
     . exact hb
     . exact absurd (if_neg hb) z
def walk_of{l:D6}{n k:Nat}{q:Program}{loose:List Str}{XP:(Str->Option Value)->Heap->Prop}{YP:World->Heap->Prop}{d:DefRec}{K:Params->Ab}{CX:World->CXT}{sp:World->Sp}{x:Str}
   (hn:l.most=some n) (hn2:n<=sizeLine) (hdf:d.params.defaults=[]) (hr:Room k callerA)
   (hY:∀ (w:World) (h:Heap),YP w h->(K w.params).In h)
   (F:∀ (w:World) (mg:Str->Option Value) (fa:Addr) (h:Heap),(K w.params).In h->h.Ns mainGlobals mg->mg d.name=some (.ref fa) ->
     ∃ fd:FuncData,(∀ (s:Shared) (u:Value),BindsTo s fd ⟨[u],[]⟩ [(x,u)]) /\
       ∀ base:Heap,(K w.params).In base->base.Ns mainGlobals mg->FnOk l.prog w (K w.params) mg base (CX w) k fa fd [x] (sp w))
   (hsp:∀ (w:World) (H:Hp) (a:Addr) (ns:List Int),ns.length<=n->Only H->SqL (K w.params) H a (ns.map V.int)->sp w [.ref a] H (fun v _=>v=.bl true) fun _ _ _=>False)
   (hCX:∀ (w:World) (H:Hp) (s:Shared) (e:Value) (s':Shared),CX w [] H s (fun _ _ _=>False) e s'->False) :
   PySem.W.WalkO q loose XP YP l.row.toRowW d [] (fun f vs=>FY f vs):=by
 refine Att.attach_call hn hdf fun w s₀ s₁ mg mb fa o pm cd doc a vs ns G Y ho hd hcd hmg hobj hints hlen hg=>?_;have KX:=hY w _ Y;obtain⟨fd,hb,hF⟩:=F w mg fa _ KX G.T.g hmg;exact znZ KX G.T.g G.T.b G.T.builtins G.T.nolimit hg hobj hints (Az hlen hn2) hr hF hb (fun H hO hS=>hsp w H a ns hlen hO hS) fun H e s'=>hCX w H s₁ e s'
def inClass(s:Stmt)(j:Nat):Stmt:=match s with
 | .ClassDef _ _ _ body _ _ _ _ _ _ _=>body.getD j (.Pass ⟨0,0,0,0⟩)
 | _=>.Pass ⟨0,0,0,0⟩
def zcd(s:Stmt):Arguments:=match s with
 | .FunctionDef _ a _ _ _ _ _ _ _ _=>a
 | _=>{ posonlyargs:=[],args:=[],vararg:=none,kwonlyargs:=[],kw_defaults:=[],kwarg:=none,defaults:=[] }
def zbB(s:Stmt):List Stmt:=match s with
 | .FunctionDef _ _ b _ _ _ _ _ _ _=>b
 | _=>[]
def zaj(s:Stmt):Scope:=match s with
 | .FunctionDef _ _ _ _ _ _ sc _ _ _=>sc
 | _=>{ kind:=.function,names:=[],isGenerator:=false,isCoroutine:=false }
noncomputable abbrev CX0:CXT:=fun _ _ _ _ _ _=>False
noncomputable abbrev E0:XK:=fun _ _ _=>False
def zq0{X:Cx}:Passes CX0 X E0:=fun _ _ _ _ _ _ _ h=>h.elim
structure Fun(K:Ab)(x qual:Str)(st:Stmt)(f:Addr)(fd:FuncData):Prop where
 ex:∃ (oc:Value) (od:Option Addr) (kV doc pm:Value) (an:Option Addr) (cdv ct:Value) (osl:Array (Option Value)),
   fd=Bn x qual (zcd st) (zbB st) (zaj st) .none kV doc pm an cdv ct/\K.lookup f=some ⟨oc,od,.func fd,osl⟩/\B6 K cdv qual=true
 kp:A9 K (.ref f)=true
section
variable {P:Program} {w:World} {K:Ab} {mg:Str->Option Value} {base:Heap}
def Fun.ok{x qual:Str}{st:Stmt}{f:Addr}{fd:FuncData}{N ps:List Str}{k:Nat}{sp:Sp}(F:Fun K x qual st f fd)(S:FnScope N ps (zaj st))(len:∀ vs H Q E,sp vs H Q E->vs.length=ps.length)
   (hbody:∀ (cdv:Value) (A:Around) (outer:List Env) (s:Shared) (H:Hp) (vs:List V) (Q:VK) (E:XK),Room k (A.deeper (envOfC qual (zaj st) s.heap.objs.size f cdv))->sp vs H Q E ->
     ∃ t,PSs (cxOf CX0 P w K mg base N qual (zaj st) f cdv A outer s H E).nox (zbB st) t/\t { nx:=fun _ H'=>Q .non H',rt:=Q } (start N vs) H):FnOk P w K mg base CX0 (k+1) f fd ps sp:=by
 obtain⟨oc,od,kV,doc,pm,an,cdv,ct,osl,rfl,lk,hcd⟩:=F.ex;refine zuo lk hcd S len fun A outer s H vs Q E hr hsp=>?_;obtain⟨t,h,q⟩:=hbody cdv A outer s H vs Q E hr hsp;exact⟨t,h.nox,q⟩
def Fun.binds{x qual:Str}{st:Stmt}{f:Addr}{fd:FuncData}{ps:List Str}(F:Fun K x qual st f fd)
   (h:∀ (kV doc pm:Value) (an:Option Addr) (cdv ct:Value) (us:List Value),us.length=ps.length->bindArgs (Bn x qual (zcd st) (zbB st) (zaj st) .none kV doc pm an cdv ct) ⟨us,[]⟩=pure (ps.zip us)):Binds K fd ps []:=by
 obtain⟨oc,od,kV,doc,pm,an,cdv,ct,osl,rfl,lk,hcd⟩:=F.ex;exact .all (h kV doc pm an cdv ct)
def zhf{x qual:Str}{st:Stmt}{f:Addr}{oc:Value}{od an:Option Addr}{osl:Array (Option Value)}{kV doc pm cdv ct:Value}(l:K.lookup f=some ⟨oc,od,.func (Bn x qual (zcd st) (zbB st) (zaj st) .none kV doc pm an cdv ct),osl⟩)
   (c:B6 K cdv qual=true) (k:A9 K (.ref f)=true):Fun K x qual st f (Bn x qual (zcd st) (zbB st) (zaj st) .none kV doc pm an cdv ct):=⟨⟨oc,od,kV,doc,pm,an,cdv,ct,osl,rfl,l,c⟩,k⟩
end
def zaG{A:Around}{k:Nat}(hr:Room k A):A.units+1 < cLine:=BG (Dk (by decide:1<=64) _) hr.units
end L2
namespace L2.MP
open PySem PySem.Spec PyProof.Rows
inductive D where
 | non | bl (b:Bool) | int (i:Int) | str (x:Str) | tup (xs:List D) | ref (n:Nat) | kl (xs:List D) | fn (x:Str)
inductive O where
 | lst (xs:List D) | fz (xs:List D) | dk (kvs:List (Key×D)) | dt (kvs:List (List Key×D)) | fk (kvs:List (Key×D)) | ft (kvs:List (List Key×D)) | ob (C:Addr) (fs:List (Str×D)) | sz (n:Nat)
noncomputable abbrev Sto:=List O
noncomputable abbrev Rho:=List (Option D)
structure Kp(H H':Hp):Prop where
 tup:∀ a xs,H a=some (.tup xs)->H' a=some (.tup xs)
 frz:∀ a o u,H a=some (.frz o u)->H' a=some (.frz o u)
def SqF(K:Ab)(H:Hp)(a:Addr)(xs:List V):Prop :=
 (∃ o,H a=some (.frz o (.lst xs)))\/∃ (o:Obj) (its:Array Value) (n:Nat),K.lookup a=some o/\o.cls=.type "list"/\o.dict=none/\o.data=.seq its n/\its.size<=sizeLine/\Vals xs its.toList
def SqF.sq{K:Ab}{H:Hp}{a:Addr}{xs:List V}(h:SqF K H a xs):SqL K H a xs:=by
 rcases h with h | h
 . exact .inl (.inr h)
 . exact .inr h
def SqF.kp{K:Ab}{H H':Hp}{a:Addr}{xs:List V}(T:Kp H H')(h:SqF K H a xs):SqF K H' a xs:=by
 rcases h with ⟨o,h⟩ | h
 . exact .inl ⟨o,T.frz _ _ _ h⟩
 . exact .inr h
def FnA(K:Ab)(x:Str)(a:Addr):Prop:=AR K mainGlobals x=some (some (.ref a))
mutual
def Rep(K:Ab)(H:Hp)(io:List Addr):V->D->Prop
 | v,.non=>v=.non
 | v,.bl b=>v=.bl b
 | v,.int i=>v=.int i
 | v,.str x=>v=.str x
 | v,.tup ds=>∃ a xs,v=.ref a/\H a=some (.tup xs)/\Reps K H io xs ds
 | v,.ref n=>∃ a,v=.ref a/\io[n]?=some a
 | v,.kl ds=>∃ a xs,v=.ref a/\SqF K H a xs/\Reps K H io xs ds
 | v,.fn x=>∃ a,v=.ref a/\FnA K x a
def Reps(K:Ab)(H:Hp)(io:List Addr):List V->List D->Prop
 | xs,[]=>xs=[]
 | xs,d::ds=>∃ y ys,xs=y::ys/\Rep K H io y d/\Reps K H io ys ds
end
mutual
def Rep.mono{K:Ab}{H H':Hp}{io ka:List Addr}(T:Kp H H'):∀ {v:V} {d:D},Rep K H io v d->Rep K H' (io++ka) v d
 | _,.non,h=>h
 | _,.bl _,h=>h
 | _,.int _,h=>h
 | _,.str _,h=>h
 | _,.tup ds,h=>by
   obtain⟨a,xs,e,q,r⟩:=h;exact⟨a,xs,e,T.tup a xs q,Reps.mono T r⟩
 | _,.ref n,h=>by
   obtain⟨a,e,q⟩:=h;exact⟨a,e,by rw[Al (List.getElem?_eq_some_iff.mp q).1];exact q⟩
 | _,.kl ds,h=>by
   obtain⟨a,xs,e,q,r⟩:=h;exact⟨a,xs,e,q.kp T,Reps.mono T r⟩
 | _,.fn _,h=>h
def Reps.mono{K:Ab}{H H':Hp}{io ka:List Addr}(T:Kp H H'):∀ {xs:List V} {ds:List D},Reps K H io xs ds->Reps K H' (io++ka) xs ds
 | _,[],h=>h
 | _,d::ds,h=>by
   obtain⟨y,ys,e,r,rs⟩:=h;exact⟨y,ys,e,Rep.mono T r,Reps.mono T rs⟩
end
section
variable {K:Ab} {H H' H1 H2:Hp} {io ka kb:List Addr} {st st':Sto} {xs ys:List V} {ds es:List D}
def Reps.length:∀ {xs:List V} {ds:List D},Reps K H io xs ds->xs.length=ds.length
 | _,[],h=>by rw[show _=[] from h];rfl
 | _,d::ds,h=>by
   obtain⟨y,ys,e,_,rs⟩:=h;rw[e,Ar,Ar,Reps.length rs]
def Reps.get:∀ {xs:List V} {ds:List D} {i:Nat} {d:D},Reps K H io xs ds->ds[i]?=some d->∃ v,xs[i]?=some v/\Rep K H io v d
 | _,[],_,_,_,e=>by simp at e
 | _,a::ds,0,d,h,e=>by
   obtain⟨y,ys,rfl,r,_⟩:=h;have e':a=d:=by simpa using e
   subst e';exact⟨y,rfl,r⟩
 | _,a::ds,i+1,d,h,e=>by
   obtain⟨y,ys,rfl,_,rs⟩:=h;exact Reps.get (i:=i) rs (by simpa using e)
def Reps.append:∀ {xs ys:List V} {ds es:List D},Reps K H io xs ds->Reps K H io ys es->Reps K H io (xs++ys) (ds++es)
 | _,_,[],_,h,q=>by rw[show _=[] from h];exact q
 | _,_,d::ds,_,h,q=>by
   obtain⟨y,ys,rfl,r,rs⟩:=h;exact⟨y,_,rfl,r,Reps.append rs q⟩
def Reps.set:∀ {xs:List V} {ds:List D} {v:V} {d:D} (i:Nat),Reps K H io xs ds->Rep K H io v d->Reps K H io (xs.set i v) (ds.set i d)
 | _,[],_,_,_,h,_=>by rw[show _=[] from h];exact rfl
 | _,a::ds,v,d,0,h,q=>by
   obtain⟨y,ys,rfl,_,rs⟩:=h;exact⟨v,ys,rfl,q,rs⟩
 | _,a::ds,v,d,i+1,h,q=>by
   obtain⟨y,ys,rfl,r,rs⟩:=h;exact⟨y,_,rfl,r,Reps.set i rs q⟩
def Reps.take:∀ {xs:List V} {ds:List D} (n:Nat),Reps K H io xs ds->Reps K H io (xs.take n) (ds.take n)
 | _,[],n,h=>by rw[show _=[] from h];simp[Reps]
 | _,_::_,0,_=>by simp[Reps]
 | _,d::ds,n+1,h=>by
   obtain⟨y,ys,rfl,r,rs⟩:=h;exact⟨y,_,rfl,r,Reps.take n rs⟩
def Reps.drop:∀ {xs:List V} {ds:List D} (n:Nat),Reps K H io xs ds->Reps K H io (xs.drop n) (ds.drop n)
 | _,[],n,h=>by rw[show _=[] from h];simp[Reps]
 | _,_::_,0,h=>h
 | _,d::ds,n+1,h=>by
   obtain⟨y,ys,rfl,r,rs⟩:=h;exact Reps.drop n rs
theorem Reps.nil:Reps K H io [] []:=rfl
def Reps.cons{v:V}{d:D}(r:Rep K H io v d)(rs:Reps K H io xs ds):Reps K H io (v::xs) (d::ds):=⟨v,xs,rfl,r,rs⟩
def Reps.one{d:D}(r:Reps K H io xs [d]):∃ v,xs=[v]/\Rep K H io v d:=by
 obtain⟨y,ys,rfl,r,e⟩:=r
 cases (show ys=[] from e)
 exact⟨y,rfl,r⟩
def Reps.two{d e:D}(r:Reps K H io xs [d,e]):∃ v u,xs=[v,u]/\Rep K H io v d/\Rep K H io u e:=by
 obtain⟨y,ys,rfl,r,q⟩:=r;obtain⟨v,rfl,q'⟩:=q.one;exact⟨y,v,rfl,r,q'⟩
noncomputable abbrev KR (κ:Type) (K:Ab) (H:Hp) (io:List Addr):List (κ×V)->List (κ×D)->Prop:=Paired fun (p:κ×V) (q:κ×D)=>p.1=q.1/\Rep K H io p.2 q.2
def SetZ(a:Addr)(n:Nat)(h:Heap):Prop:=∃ o es ep t,h.get? a=some o/\o.ExactSet/\o.data=.set es ep t/\es.size < scanBound/\t.fits es.size=true/\es.size=n
def OR(K:Ab)(H:Hp)(io:List Addr)(a:Addr):O->Prop
 | .lst ds=>∃ xs,H a=some (.lst xs)/\Reps K H io xs ds
 | .fz ds=>∃ o xs,H a=some (.frz o (.lst xs))/\Reps K H io xs ds
 | .dk kvs=>∃ ps,H a=some (.dK ps)/\KR Key K H io ps kvs
 | .dt kvs=>∃ ps,H a=some (.dT ps)/\KR (List Key) K H io ps kvs
 | .fk kvs=>∃ o ps,H a=some (.frz o (.dK ps))/\KR Key K H io ps kvs
 | .ft kvs=>∃ o ps,H a=some (.frz o (.dT ps))/\KR (List Key) K H io ps kvs
 | .ob C fs=>∃ dx ps,H a=some (.ins C dx ps)/\KR Str K H io ps fs
 | .sz n=>H a=some (.ext (SetZ a n))
structure StR(K:Ab)(H:Hp)(io:List Addr)(st:Sto):Prop where
 len:io.length=st.length
 nd:io.Nodup
 ob:∀ (n:Nat) (a:Addr) (o:O),io[n]?=some a->st[n]?=some o->OR K H io a o
structure EnvR(K:Ab)(H:Hp)(io:List Addr)(σ:St)(ρ:Rho):Prop where
 len:σ.length=ρ.length
 at_:∀ (i:Nat) (d:D),ρ[i]?=some (some d)->∃ v,σ[i]?=some (some v)/\Rep K H io v d
structure Ext(io ka:List Addr)(H H':Hp):Prop where
 keep:∀ b o,H b=some o->b ∉ io->H' b=some o
 fresh:∀ b,b∈ka->H b=none
 frz:∀ b o u,H b=some (.frz o u)->H' b=some (.frz o u)
def OR.stands{a:Addr}{o:O}(h:OR K H io a o):∃ u,H a=some u/\∀ xs,u≠.tup xs/\∀ ob,u≠.frz ob (.tup xs):=by
 cases o with
 | lst ds=>obtain⟨xs,e,_⟩:=h;exact⟨_,e,fun _=>⟨by simp,by simp⟩⟩
 | fz ds=>obtain⟨ob,xs,e,_⟩:=h;exact⟨_,e,fun _=>⟨by simp,by simp⟩⟩
 | dk kvs=>obtain⟨xs,e,_⟩:=h;exact⟨_,e,fun _=>⟨by simp,by simp⟩⟩
 | dt kvs=>obtain⟨xs,e,_⟩:=h;exact⟨_,e,fun _=>⟨by simp,by simp⟩⟩
 | fk kvs=>obtain⟨ob,xs,e,_⟩:=h;exact⟨_,e,fun _=>⟨by simp,by simp⟩⟩
 | ft kvs=>obtain⟨ob,xs,e,_⟩:=h;exact⟨_,e,fun _=>⟨by simp,by simp⟩⟩
 | ob C fs=>obtain⟨dx,xs,e,_⟩:=h;exact⟨_,e,fun _=>⟨by simp,by simp⟩⟩
 | sz n=>exact⟨_,h,fun _=>⟨by simp,by simp⟩⟩
def StR.mem(S:StR K H io st){a:Addr}(h:a∈io):∃ u,H a=some u/\∀ xs,u≠.tup xs/\∀ ob,u≠.frz ob (.tup xs):=by
 obtain⟨n,hn,e⟩:=Dl h;have h1:io[n]?=some a:=by rw[Ah hn,e]
 have h2:n < st.length:=by rw[<-S.len];exact hn
 exact (S.ob n a _ h1 (Ah h2)).stands
def Ext.sqT(S:StR K H io st)(E:Ext io ka H H'):∀ a xs,H a=some (.tup xs)->H' a=some (.tup xs):=by
 intro a xs h;refine E.keep _ _ h fun m=>?_;obtain⟨u,e,q⟩:=S.mem m;rw[h] at e;exact (q xs).1 (Ay e).symm
def Ext.kp(S:StR K H io st)(E:Ext io ka H H'):Kp H H':=⟨E.sqT S,E.frz⟩
def Ext.refl:Ext io [] H H:=⟨fun _ _ h _=>h,fun _ h=>absurd h (by simp),fun _ _ _ h=>h⟩
def Ext.trans(S1:StR K H1 (io++ka) st)(E1:Ext io ka H H1)(E2:Ext (io++ka) kb H1 H2):Ext io (ka++kb) H H2 where
 keep:=fun b o h n=>E2.keep b o (E1.keep b o h n) fun m=>by
   rcases List.mem_append.mp m with m | m
   . exact n m
   . rw[E1.fresh b m] at h;cases h
 fresh:=fun b m=>by
   rcases List.mem_append.mp m with m | m
   . exact E1.fresh b m
   . have h1:=E2.fresh b m
     cases e:H b with
     | none=>rfl
     | some o =>
       by_cases hb:b∈io
       . obtain⟨u,e',_⟩:=S1.mem (Bw _ hb);rw[e'] at h1;cases h1
       . rw[E1.keep b o e hb] at h1;cases h1
 frz:=fun b o u h=>E2.frz b o u (E1.frz b o u h)
def Ext.app(E:Ext io (ka++[]) H H'):Ext io ka H H':=by rw[Ap] at E;exact E
def Rep.ext{v:V}{d:D}(S:StR K H io st)(E:Ext io ka H H')(h:Rep K H io v d):Rep K H' (io++ka) v d:=Rep.mono (E.kp S) h
def Reps.ext(S:StR K H io st)(E:Ext io ka H H')(h:Reps K H io xs ds):Reps K H' (io++ka) xs ds:=Reps.mono (E.kp S) h
def EnvR.ext{σ:St}{ρ:Rho}(h:EnvR K H io σ ρ)(S:StR K H io st)(E:Ext io ka H H'):EnvR K H' (io++ka) σ ρ :=
 ⟨h.len,fun i d e=>let ⟨v,q,r⟩:=h.at_ i d e;⟨v,q,r.ext S E⟩⟩
def EnvR.set{σ:St}{ρ:Rho}{v:V}{d:D}(i:Nat)(h:EnvR K H io σ ρ)(r:Rep K H io v d):EnvR K H io (σ.set i (some v)) (ρ.set i (some d)):=by
 refine⟨by rw[Bj,Bj];exact h.len,fun j e q=>?_⟩
 by_cases hij:i=j
 . subst hij;rw[CU] at q;rw[if_pos rfl] at q
   split at q
   . rename_i hl
     cases (Ay (Ay q))
     exact⟨v,by rw[CU,if_pos rfl,if_pos (by rw[h.len];exact hl)],r⟩
   . cases q
 . rw[Ai hij] at q;obtain⟨u,q',r'⟩:=h.at_ j e q;exact⟨u,by rw[Ai hij];exact q',r'⟩
def StR.nil(S:StR K H io st):StR K H (io++[]) st:=by rw[Ap];exact S
def KR.mono{κ:Type}{ps:List (κ×V)}{kvs:List (κ×D)}(T:Kp H H')(h:KR κ K H io ps kvs):KR κ K H' (io++ka) ps kvs:=Paired.mapP h fun _ _ z=>⟨z.1,Rep.mono T z.2⟩
def OR.mono{a:Addr}{o:O}(T:Kp H H')(e:H' a=H a)(h:OR K H io a o):OR K H' (io++ka) a o:=by
 cases o with
 | lst ds=>obtain⟨xs,q,r⟩:=h;exact⟨xs,e.trans q,Reps.mono T r⟩
 | fz ds=>obtain⟨ob,xs,q,r⟩:=h;exact⟨ob,xs,e.trans q,Reps.mono T r⟩
 | dk kvs=>obtain⟨xs,q,r⟩:=h;exact⟨xs,e.trans q,KR.mono T r⟩
 | dt kvs=>obtain⟨xs,q,r⟩:=h;exact⟨xs,e.trans q,KR.mono T r⟩
 | fk kvs=>obtain⟨ob,xs,q,r⟩:=h;exact⟨ob,xs,e.trans q,KR.mono T r⟩
 | ft kvs=>obtain⟨ob,xs,q,r⟩:=h;exact⟨ob,xs,e.trans q,KR.mono T r⟩
 | ob C fs=>obtain⟨dx,xs,q,r⟩:=h;exact⟨dx,xs,e.trans q,KR.mono T r⟩
 | sz n=>exact e.trans h
def zf8{p:Addr}{o:HO}(S:StR K H io st)(hp:H p=none):Ext io [] H (upd H p o)/\StR K (upd H p o) (io++[]) st:=by
 have E:Ext io [] H (upd H p o):=⟨fun b u h _=>by rw[zat (zau h hp)];exact h,fun _ h=>absurd h (by simp),fun b u v h=>by rw[zat (zau h hp)];exact h⟩
 refine⟨E,?_⟩;refine⟨by rw[Ap];exact S.len,by rw[Ap];exact S.nd,fun n a ob h1 h2=>?_⟩;rw[Ap] at h1;obtain⟨u,hu,_⟩:=(S.ob n a ob h1 h2).stands;exact OR.mono (E.kp S) (zat (zau hu hp)) (S.ob n a ob h1 h2)
def zix{p:Addr}{o:HO}{ob:O}(S:StR K H io st)(hp:H p=none)(new:∀ H',Kp H H'->H' p=some o->OR K H' (io++[p]) p ob):Ext io [p] H (upd H p o)/\StR K (upd H p o) (io++[p]) (st++[ob]):=by
 have E:Ext io [p] H (upd H p o):=⟨fun b u h _=>by rw[zat (zau h hp)];exact h,fun b h=>by rw[List.mem_singleton.mp h];exact hp,fun b u v h=>by rw[zat (zau h hp)];exact h⟩
 have np:p ∉ io:=fun m=>by
   obtain⟨u,hu,_⟩:=S.mem m;rw[hp] at hu;cases hu
 refine⟨E,by simp[S.len],?_,fun n a ob' h1 h2=>?_⟩
 . rw[Ft];refine⟨S.nd,by simp,fun a ha b hb=>?_⟩;rw[List.mem_singleton.mp hb];rintro rfl;exact np ha
 . by_cases hn:n < io.length
   . rw[Al hn] at h1;rw[Al (by rw[<-S.len];exact hn)] at h2;obtain⟨u,hu,_⟩:=(S.ob n a ob' h1 h2).stands;exact OR.mono (E.kp S) (zat (zau hu hp)) (S.ob n a ob' h1 h2)
   . have hl:n < (io++[p]).length:=(List.getElem?_eq_some_iff.mp h1).1;rw[AH,B0] at hl;have e:n=io.length:=by omega
     subst e;rw[AW (Af _),C8] at h1;rw[S.len,AW (Af _),C8] at h2
     cases (Ay h1)
     cases (Ay h2)
     exact new _ (E.kp S) zbi
def zgV{p:Addr}{n:Nat}{o:HO}{ob old:O}(S:StR K H io st)(hn:io[n]?=some p)(ho:st[n]?=some old)(nf:∀ o u,H p≠some (.frz o u))(new:∀ H',Kp H H'->H' p=some o->OR K H' (io++[]) p ob):Ext io [] H (upd H p o)/\StR K (upd H p o) (io++[]) (st.set n ob):=by
 have hp:p∈io:=A3 hn;have E:Ext io [] H (upd H p o):=⟨fun b u h nb=>by rw[zat (fun e=>nb (by rw[e];exact hp))];exact h,fun b h=>absurd h (by simp),fun b u v h=>by
   by_cases hb:b=p
   . subst hb;exact absurd h (nf u v)
   . rw[zat hb];exact h⟩
 refine⟨E,by simp[S.len],by rw[Ap];exact S.nd,fun m a ob' h1 h2=>?_⟩;rw[Ap] at h1
 by_cases hm:m=n
 . subst hm;rw[hn] at h1
   cases (Ay h1)
   rw[CU,if_pos rfl] at h2
   split at h2
   . cases (Ay h2)
     exact new _ (E.kp S) zbi
   . cases h2
 . rw[Ai (fun e=>hm e.symm)] at h2;have hap:a≠p:=fun e=>by
     subst e;exact hm ((Fu (List.getElem?_eq_some_iff.mp h1).1 S.nd).mp (h1.trans hn.symm))
   exact OR.mono (E.kp S) (zat hap) (S.ob m a ob' h1 h2)
end
noncomputable abbrev ME:=Rho->Sto->Option (D×Sto)
noncomputable abbrev MT:=Rho->Sto->Option (Bool×Sto)
noncomputable abbrev MA:=Rho->Sto->Option (List D×Sto)
inductive Fl where
 | nx (ρ:Rho) | rt (d:D) | bk (ρ:Rho) | ct (ρ:Rho)
noncomputable abbrev MS:=Rho->Sto->Option (Fl×Sto)
noncomputable abbrev MG:=D->Rho->Sto->Option (Rho×Sto)
noncomputable abbrev MGs:=List D->Rho->Sto->Option (Rho×Sto)
def Bh(K:Ab)(io:List Addr)(H:Hp)(st':Sto)(d:D)(Q:VK):Prop:=∀ v H' ka,Ext io ka H H'->StR K H' (io++ka) st'->Rep K H' (io++ka) v d->Q v H'
inductive tE (K:Ab) (m:ME) (σ:L2.St) (H:Hp) (Q:VK):Prop
 | mk (ρ:Rho) (st:Sto) (io:List Addr) (d:D) (st':Sto) (h1:EnvR K H io σ ρ) (h2:StR K H io st) (h3:m ρ st=some (d,st')) (h4:Bh K io H st' d Q)
inductive tT (K:Ab) (m:MT) (σ:L2.St) (H:Hp) (Q:Bool->Hp->Prop):Prop
 | mk (ρ:Rho) (st:Sto) (io:List Addr) (b:Bool) (st':Sto) (h1:EnvR K H io σ ρ) (h2:StR K H io st) (h3:m ρ st=some (b,st')) (h4:∀ H' ka,Ext io ka H H'->StR K H' (io++ka) st'->Q b H')
inductive tA (K:Ab) (m:MA) (σ:L2.St) (H:Hp) (Q:List V->Hp->Prop):Prop
 | mk (ρ:Rho) (st:Sto) (io:List Addr) (ds:List D) (st':Sto) (h1:EnvR K H io σ ρ) (h2:StR K H io st) (h3:m ρ st=some (ds,st')) (h4:∀ vs H' ka,Ext io ka H H'->StR K H' (io++ka) st'->Reps K H' (io++ka) vs ds->Q vs H')
def tS(K:Ab)(m:MS):TS:=fun N σ H=>∃ ρ st io f st',EnvR K H io σ ρ/\StR K H io st/\m ρ st=some (f,st') /\
 match f with
 | .nx ρ'=>∀ σ' H' ka,Ext io ka H H'->StR K H' (io++ka) st'->EnvR K H' (io++ka) σ' ρ'->N.nx σ' H'
 | .bk ρ'=>∀ σ' H' ka,Ext io ka H H'->StR K H' (io++ka) st'->EnvR K H' (io++ka) σ' ρ'->N.bk σ' H'
 | .ct ρ'=>∀ σ' H' ka,Ext io ka H H'->StR K H' (io++ka) st'->EnvR K H' (io++ka) σ' ρ'->N.ct σ' H'
 | .rt d=>Bh K io H st' d N.rt
inductive tG (K:Ab) (m:MG) (v:V) (σ:L2.St) (H:Hp) (Q:L2.St->Hp->Prop):Prop
 | mk (d:D) (ρ:Rho) (st:Sto) (io:List Addr) (ρ':Rho) (st':Sto) (h0:Rep K H io v d) (h1:EnvR K H io σ ρ) (h2:StR K H io st) (h3:m d ρ st=some (ρ',st')) (h4:∀ σ' H' ka,Ext io ka H H'->StR K H' (io++ka) st'->EnvR K H' (io++ka) σ' ρ'->Q σ' H')
inductive tGs (K:Ab) (m:MGs) (vs:List V) (σ:L2.St) (H:Hp) (Q:L2.St->Hp->Prop):Prop
 | mk (ds:List D) (ρ:Rho) (st:Sto) (io:List Addr) (ρ':Rho) (st':Sto) (h0:Reps K H io vs ds) (h1:EnvR K H io σ ρ) (h2:StR K H io st) (h3:m ds ρ st=some (ρ',st')) (h4:∀ σ' H' ka,Ext io ka H H'->StR K H' (io++ka) st'->EnvR K H' (io++ka) σ' ρ'->Q σ' H')
def SE(X:Cx)(e:Expr)(m:ME):Prop:=PE X e (tE X.K m)
def SB(X:Cx)(e:Expr)(m:MT):Prop:=PT X e (tT X.K m)
def SA(X:Cx)(es:List Expr)(m:MA):Prop:=PA X es (tA X.K m)
def SS(X:Cx)(s:Stmt)(m:MS):Prop:=PS X s (tS X.K m)
def SSs(X:Cx)(s:List Stmt)(m:MS):Prop:=PSs X s (tS X.K m)
def SG(X:Cx)(e:Expr)(m:MG):Prop:=PG X e (tG X.K m)
def SGs(X:Cx)(e:List Expr)(m:MGs):Prop:=PGs X e (tGs X.K m)
section
variable {X:Cx} {e a b c:Expr} {es:List Expr} {st1 st2:Stmt} {rest body orelse:List Stmt} {pos:Pos} {m ma mb mc:ME} {mt mu:MT} {mm:MA} {ms mq mr:MS} {mg:MG} {mgs:MGs}
def PE.imp{t u:TE}(h:PE X e t)(k:∀ σ H Q,u σ H Q->t σ H Q):PE X e u:=fun pins s σ H Q I q=>h pins s σ H Q I (k σ H Q q)
def PT.imp{t u:TT}(h:PT X e t)(k:∀ σ H Q,u σ H Q->t σ H Q):PT X e u:=fun pins s σ H Q I q=>h pins s σ H Q I (k σ H Q q)
def PA.imp{t u:TA}(h:PA X es t)(k:∀ σ H Q,u σ H Q->t σ H Q):PA X es u:=fun p pins s σ H Q I q=>h p pins s σ H Q I (k σ H Q q)
def PS.imp{t u:TS}(h:PS X st1 t)(k:∀ N σ H,u N σ H->t N σ H):PS X st1 u:=fun pins s σ H N I q=>h pins s σ H N I (k N σ H q)
def PSs.imp{t u:TS}(h:PSs X rest t)(k:∀ N σ H,u N σ H->t N σ H):PSs X rest u:=fun pins s σ H N I q=>h pins s σ H N I (k N σ H q)
def PG.imp{t u:TG}(h:PG X e t)(k:∀ v σ H Q,u v σ H Q->t v σ H Q):PG X e u:=fun pins s σ H v w Q I r q=>h pins s σ H v w Q I r (k v σ H Q q)
def PGs.imp{t u:TGs}(h:PGs X es t)(k:∀ v σ H Q,u v σ H Q->t v σ H Q):PGs X es u:=fun pins s σ H v w Q I r q=>h pins s σ H v w Q I r (k v σ H Q q)
def zad{α β:Type}{x:Option α}{f:α->Option β}{y:β}(h:x.bind f=some y):∃ z,x=some z/\f z=some y:=by
 cases x with
 | none=>cases h
 | some z=>exact⟨z,rfl,h⟩
variable {K:Ab} {H H1 H2:Hp} {io ka kb:List Addr} {st st':Sto}
def Bh.now{d:D}{Q:VK}{v:V}(h:Bh K io H st d Q)(S:StR K H io st)(r:Rep K H io v d):Q v H:=h v H [] Ext.refl S.nil (by rw[Ap];exact r)
def Bh.on{d:D}{Q:VK}(h:Bh K io H st' d Q)(S1:StR K H1 (io++ka) st)(E:Ext io ka H H1):Bh K (io++ka) H1 st' d Q:=fun v H' kb E' S' r =>
 h v H' (ka++kb) (E.trans S1 E') (by rw[<-Aq];exact S') (by rw[<-Aq];exact r)
def mVar(i:Nat):ME:=fun ρ st=>match ρ[i]? with
 | some (some d)=>some (d,st)
 | _=>none
def zab(i:Nat){x:Str}{pos:Pos}(hN:X.N[i]?=some x:=by rfl)(hv:Vis X.env.scope x:=by first | exact Aw rfl | exact Au (Aw rfl) | exact Au (Au rfl))(hd:(x==("__debug__":Str))=false:=by decide)
   (hcd:(x==("__classdict__":Str))=false:=by decide):SE X (.Name x pos) (mVar i):=PE.imp (zr1 hN hv hd hcd) <| by
 rintro σ H Q ⟨ρ,st,io,d,st',E,S,e,k⟩;unfold mVar at e
 split at e
 . rename_i d' he;cases e;obtain⟨v,hv,r⟩:=E.at_ i _ he;exact⟨v,hv,k.now S r⟩
 . cases e
def mCon(d:D):ME:=fun _ st=>some (d,st)
def zaf{i j pos}:SE X (.Constant (.int i) j pos) (mCon (.int i)):=PE.imp zr8 <| by
 rintro σ H Q ⟨ρ,st,io,d,st',E,S,e,k⟩
 cases e;exact k.now S rfl
def zrF{b j pos}:SE X (.Constant (.bool b) j pos) (mCon (.bl b)):=PE.imp zt0 <| by
 rintro σ H Q ⟨ρ,st,io,d,st',E,S,e,k⟩
 cases e;exact k.now S rfl
def zdV{x j pos}:SE X (.Constant (.str x) j pos) (mCon (.str x)):=PE.imp zr3 <| by
 rintro σ H Q ⟨ρ,st,io,d,st',E,S,e,k⟩
 cases e;exact k.now S rfl
def zk7{j pos}:SE X (.Constant .none j pos) (mCon .non):=PE.imp zr6 <| by
 rintro σ H Q ⟨ρ,st,io,d,st',E,S,e,k⟩
 cases e;exact k.now S rfl
noncomputable abbrev G2:=D->D->Sto->Option (D×Sto)
inductive r2M (K:Ab) (g:G2) (x y:V) (H:Hp) (Q:VK):Prop
 | mk (dx dy:D) (st:Sto) (io:List Addr) (d:D) (st':Sto) (h0:Rep K H io x dx) (h1:Rep K H io y dy) (h2:StR K H io st) (h3:g dx dy st=some (d,st')) (h4:Bh K io H st' d Q)
def OpM(X:Cx)(f:Value->Value->Sem Value)(g:G2):Prop:=OpR X f (r2M X.K g)
def mBin(g:G2)(ma mb:ME):ME:=fun ρ st=>(ma ρ st).bind fun (x,s1)=>(mb ρ s1).bind fun (y,s2)=>g x y s2
def zdO{g:G2}{σ:L2.St}{H:Hp}{Q:VK}(h:tE K (mBin g ma mb) σ H Q):tOp (r2M K g) (tE K ma) (tE K mb) σ H Q:=by
 obtain⟨ρ,st,io,d,st',E,S,e,k⟩:=h;obtain⟨⟨x,s1⟩,e1,e⟩:=zad e;obtain⟨⟨y,s2⟩,e2,e3⟩:=zad e;refine⟨ρ,st,io,x,s1,E,S,e1,fun v1 H1 k1 X1 S1 R1=>?_⟩;refine⟨ρ,s1,io++k1,y,s2,E.ext S X1,S1,e2,fun v2 H2 k2 X2 S2 R2=>?_⟩;exact⟨x,y,s2,(io++k1)++k2,d,st',R1.ext S1 X2,R2,S2,e3,(k.on S1 X1).on S2 X2⟩
def zas{op:Operator}{g:G2}(ho:OpM X (binaryOp op) g)(ha:SE X a ma)(hb:SE X b mb):SE X (.BinOp a op b pos) (mBin g ma mb):=PE.imp (ztX ho ha hb) fun _ _ _ h=>zdO h
def zpc{op:CmpOp}{g:G2}(ho:OpM X (compareOp op) g)(ha:SE X a ma)(hb:SE X b mb)(hm:behindInMarks op b=false):SE X (.Compare a [op] [b] pos) (mBin g ma mb):=PE.imp (zpD ho ha hb hm) fun _ _ _ h=>zdO h
def mTst(m:ME):MT:=fun ρ st=>(m ρ st).bind fun (x,s1)=>match x with
 | .bl b=>some (b,s1)
 | _=>none
def zkW{ρ:Rho}{b:Bool}(e:mTst m ρ st=some (b,st')):m ρ st=some (.bl b,st'):=by
 obtain⟨⟨x,s1⟩,e1,e⟩:=zad e;dsimp only at e
 split at e
 . cases e;exact e1
 . cases e
def zc1{σ:L2.St}{H:Hp}{Q:Bool->Hp->Prop}(h:tT K (mTst m) σ H Q):tE K m σ H fun x H'=>∃ b,x=.bl b/\Q b H':=by
 obtain⟨ρ,st,io,b,st',E,S,e,k⟩:=h;exact⟨ρ,st,io,_,st',E,S,zkW e,fun v H' ka X' S' R'=>⟨b,R',k H' ka X' S'⟩⟩
def zb9{op:CmpOp}{g:G2}(ho:OpM X (compareOp op) g)(ha:SE X a ma)(hb:SE X b mb)(hm:behindInMarks op b=false):SB X (.Compare a [op] [b] pos) (mTst (mBin g ma mb)) :=
 PT.imp (zpn ho ha hb hm) fun σ H Q h=>zdO (zc1 h)
def zrI(h:SE X a m)(he:∀ whole,isTrue a X.env whole=(do let v <-whole;standAt a.pos;holding [v] (truthy v)):=by intro _;rfl):SB X a (mTst m) :=
 PT.imp (zjs h he) fun σ H Q h=>by
   obtain⟨ρ,st,io,b,st',E,S,e,k⟩:=zc1 h;refine⟨ρ,st,io,b,st',E,S,e,fun v H' ka X' S' R'=>?_⟩;obtain⟨c,hc,q⟩:=k v H' ka X' S' R';subst hc;exact⟨c,rfl,q⟩
def znQ(m:MT):MT:=fun ρ st=>(m ρ st).map fun (b,s)=>(!b,s)
def zpg(h:SB X a mt):SB X (.UnaryOp .Not a pos) (znQ mt):=PT.imp (zrQ h) <| by
 rintro σ H Q ⟨ρ,st,io,b,st',E,S,e,k⟩;unfold znQ at e
 cases e1:mt ρ st with
 | none=>rw[e1] at e;cases e
 | some p=>rw[e1] at e;cases e;exact⟨ρ,st,io,_,_,E,S,e1,fun H' ka X' S'=>k H' ka X' S'⟩
def zms(m n:MT):MT:=fun ρ st=>(m ρ st).bind fun (b,s)=>if b=true then n ρ s else some (false,s)
def mOrT(m n:MT):MT:=fun ρ st=>(m ρ st).bind fun (b,s)=>if b=true then some (true,s) else n ρ s
def SW(X:Cx)(e:Expr)(m:MT):Prop:=PW X e (tT X.K m)
def PW.imp{t u:TT}(h:PW X e t)(k:∀ σ H Q,u σ H Q->t σ H Q):PW X e u:=fun w pins s σ H Q I q=>h w pins s σ H Q I (k σ H Q q)
def SW.sb(h:SW X a mt):SB X a mt:=PW.pt h
def zhm(ha:SB X a mt):SW X (.BoolOp .And [a] pos) mt:=pw_and1 ha
def zrq(ha:SB X a mt):SW X (.BoolOp .Or [a] pos) mt:=pw_or1 ha
def zjC{n:MT}{σ:L2.St}{ρ:Rho}{Q:Bool->Hp->Prop}{b:Bool}{s1:Sto}(E:EnvR K H io σ ρ)(S:StR K H io st)(X1:Ext io ka H H1)(S1:StR K H1 (io++ka) s1)(e:n ρ s1=some (b,st'))(k:∀ H' ka,Ext io ka H H'->StR K H' (io++ka) st'->Q b H'):tT K n σ H1 Q :=
 ⟨ρ,s1,io++ka,b,st',E.ext S X1,S1,e,fun H' kb X' S'=>k H' (ka++kb) (X1.trans S1 X') (by rw[<-Aq];exact S')⟩
def zi2{rs:List Expr}(ha:SB X a mt)(hb:SW X (.BoolOp .And (b::rs) pos) mu):SW X (.BoolOp .And (a::b::rs) pos) (zms mt mu):=PW.imp (pw_and ha hb) <| by
 rintro σ H Q ⟨ρ,st,io,v,st',E,S,e,k⟩;obtain⟨⟨x,s1⟩,e1,e⟩:=zad e;refine⟨ρ,st,io,x,s1,E,S,e1,fun H1 k1 X1 S1=>?_⟩
 cases x with
 | true=>rw[if_pos rfl];exact zjC E S X1 S1 e k
 | false =>
   rw[if_neg (by decide)];have e':some (false,s1)=some (v,st'):=e;cases e';exact k H1 k1 X1 S1
def ztM{rs:List Expr}(ha:SB X a mt)(hb:SW X (.BoolOp .Or (b::rs) pos) mu):SW X (.BoolOp .Or (a::b::rs) pos) (mOrT mt mu):=PW.imp (pw_or ha hb) <| by
 rintro σ H Q ⟨ρ,st,io,v,st',E,S,e,k⟩;obtain⟨⟨x,s1⟩,e1,e⟩:=zad e;refine⟨ρ,st,io,x,s1,E,S,e1,fun H1 k1 X1 S1=>?_⟩
 cases x with
 | false=>rw[if_neg (by decide)];exact zjC E S X1 S1 e k
 | true =>
   rw[if_pos rfl];have e':some (true,s1)=some (v,st'):=e;cases e';exact k H1 k1 X1 S1
def znU(m n:ME):ME:=fun ρ st=>(mTst m ρ st).bind fun (b,s)=>if b=true then n ρ s else some (.bl false,s)
def zq8(m:ME):ME:=fun ρ st=>(mTst m ρ st).map fun (b,s)=>(.bl !b,s)
def znF{n:ME}{σ:L2.St}{ρ:Rho}{Q:VK}{d:D}{s1:Sto}(E:EnvR K H io σ ρ)(S:StR K H io st)(X1:Ext io ka H H1)(S1:StR K H1 (io++ka) s1)(e:n ρ s1=some (d,st'))(k:Bh K io H st' d Q):tE K n σ H1 Q :=
 ⟨ρ,s1,io++ka,d,st',E.ext S X1,S1,e,k.on S1 X1⟩
def zjh(ha:SE X a ma):SE X (.BoolOp .And [a] pos) ma:=zr4 ha
def zji{rs:List Expr}(ha:SE X a ma)(hb:SE X (.BoolOp .And (b::rs) pos) mb):SE X (.BoolOp .And (a::b::rs) pos) (znU ma mb):=PE.imp (zsa ha hb) <| by
 rintro σ H Q ⟨ρ,st,io,v,st',E,S,e,k⟩;obtain⟨⟨x,s1⟩,e1,e⟩:=zad e;refine⟨ρ,st,io,.bl x,s1,E,S,zkW e1,fun v1 H1 k1 X1 S1 R1=>⟨x,R1,?_⟩⟩
 cases x with
 | true=>rw[if_pos rfl];exact znF E S X1 S1 e k
 | false =>
   rw[if_neg (by decide)];have e':some (D.bl false,s1)=some (v,st'):=e;cases e';exact k _ H1 k1 X1 S1 rfl
def zrC(ha:SE X a ma):SE X (.UnaryOp .Not a pos) (zq8 ma):=PE.imp (zr5 ha) <| by
 rintro σ H Q ⟨ρ,st,io,v,st',E,S,e,k⟩;unfold zq8 at e
 cases e1:mTst ma ρ st with
 | none=>rw[e1] at e;cases e
 | some p =>
   rw[e1] at e;cases e;exact⟨ρ,st,io,_,_,E,S,zkW e1,fun v1 H1 k1 X1 S1 R1=>⟨_,R1,k _ H1 k1 X1 S1 rfl⟩⟩
def mIte(c:MT)(m n:ME):ME:=fun ρ st=>(c ρ st).bind fun (b,s)=>if b=true then m ρ s else n ρ s
def zrE(hc:SB X c mt)(ha:SE X a ma)(hb:SE X b mb):SE X (.IfExp c a b pos) (mIte mt ma mb):=PE.imp (znv hc ha hb) <| by
 rintro σ H Q ⟨ρ,st,io,v,st',E,S,e,k⟩;obtain⟨⟨x,s1⟩,e1,e⟩:=zad e;refine⟨ρ,st,io,x,s1,E,S,e1,fun H1 k1 X1 S1=>?_⟩
 cases x with
 | true=>rw[if_pos rfl];exact znF E S X1 S1 e k
 | false=>rw[if_neg (by decide)];exact znF E S X1 S1 e k
end
end L2.MP
set_option linter.unusedVariables false
namespace L2.MP
open PySem PySem.Spec PyProof.Rows
section
variable {X:Cx} {e a b c:Expr} {es:List Expr} {st1 st2:Stmt} {rest body orelse:List Stmt} {pos:Pos} {m ma mb mc:ME} {mt mu:MT} {mm:MA} {ms mq mr:MS} {mg:MG} {mgs:MGs}
variable {K:Ab} {H H1 H2:Hp} {io ka kb:List Addr} {st st':Sto}
def mNil:MA:=fun _ st=>some ([],st)
def zae(m:ME)(mm:MA):MA:=fun ρ st=>(m ρ st).bind fun (x,s1)=>(mm ρ s1).bind fun (xs,s2)=>some (x::xs,s2)
def zai:SA X [] mNil:=PA.imp zpG <| by
 rintro σ H Q ⟨ρ,st,io,ds,st',E,S,e,k⟩
 cases e;exact k [] H [] Ext.refl S.nil Reps.nil
def zaa(ha:SE X e m)(hr:SA X es mm)(hs:starEach (e::es) X.env=(false,eval e X.env)::starEach es X.env:=by rfl):SA X (e::es) (zae m mm):=PA.imp (zjw ha hr hs) <| by
 rintro σ H Q ⟨ρ,st,io,ds,st',E,S,e,k⟩;obtain⟨⟨x,s1⟩,e1,e⟩:=zad e;obtain⟨⟨xs,s2⟩,e2,e⟩:=zad e;cases e;refine⟨ρ,st,io,x,s1,E,S,e1,fun v1 H1 k1 X1 S1 R1=>⟨ρ,s1,io++k1,xs,_,E.ext S X1,S1,e2,fun vs H2 k2 X2 S2 R2=>?_⟩⟩;exact k _ H2 (k1++k2) (X1.trans S1 X2) (by rw[<-Aq];exact S2) (by rw[<-Aq];exact Reps.cons (R1.ext S1 X2) R2)
def fits(n:Nat):Bool:=decide (n<=sizeLine)
def mTup(mm:MA):ME:=fun ρ st=>(mm ρ st).bind fun (xs,s)=>if fits xs.length=true then some (.tup xs,s) else none
def mLst(mm:MA):ME:=fun ρ st=>(mm ρ st).bind fun (xs,s)=>if fits xs.length=true then some (.ref s.length,s++[.lst xs]) else none
def zam{α:Type}{c:Prop}[Decidable c]{x:Option α}{y:α}(h:(if c then x else none)=some y):c/\x=some y:=by
 by_cases hc:c
 . rw[if_pos hc] at h;exact⟨hc,h⟩
 . rw[if_neg hc] at h;cases h
def Bh.tup{ds:List D}{vs:List V}{Q:VK}{p:Addr}(k:Bh K io H st (.tup ds) Q)(S:StR K H io st)(R:Reps K H io vs ds)(hp:H p=none):Q (.ref p) (upd H p (.tup vs)):=by
 obtain⟨E,S'⟩:=zf8 (o:=.tup vs) S hp;refine k _ _ [] E S' ⟨p,vs,rfl,zbi,R.ext S E⟩
def getElem?_len{α:Type}(l:List α)(x:α):(l++[x])[l.length]?=some x:=by
 rw[AW (Af _),C8];rfl
def Bh.lst{ds:List D}{vs:List V}{Q:VK}{p:Addr}(k:Bh K io H (st++[.lst ds]) (.ref st.length) Q)(S:StR K H io st)(R:Reps K H io vs ds)(hp:H p=none):Q (.ref p) (upd H p (.lst vs)):=by
 obtain⟨E,S'⟩:=zix (o:=.lst vs) (ob:=.lst ds) S hp fun H' T e=>⟨vs,e,Reps.mono T R⟩
 exact k _ _ [p] E S' ⟨p,rfl,by rw[<-S.len];exact getElem?_len io p⟩
def zbs{x1}(h:SA X es mm):SE X (.Tuple es x1 pos) (mTup mm):=PE.imp (zr2 h) <| by
 rintro σ H Q ⟨ρ,st,io,d,st',E,S,e,k⟩;obtain⟨⟨xs,s1⟩,e1,e⟩:=zad e;obtain⟨hf,e⟩:=zam e;cases e;refine⟨ρ,st,io,xs,_,E,S,e1,fun vs H1 k1 X1 S1 R1=>⟨by rw[R1.length];exact of_decide_eq_true hf,fun p hp=>(k.on S1 X1).tup S1 R1 hp⟩⟩
def zcb(h:SA X es mm):SE X (.List es pos) (mLst mm):=PE.imp (zr7 h) <| by
 rintro σ H Q ⟨ρ,st,io,d,st',E,S,e,k⟩;obtain⟨⟨xs,s1⟩,e1,e⟩:=zad e;obtain⟨hf,e⟩:=zam e;cases e;refine⟨ρ,st,io,xs,_,E,S,e1,fun vs H1 k1 X1 S1 R1=>⟨by rw[R1.length];exact of_decide_eq_true hf,fun p hp=>(k.on S1 X1).lst S1 R1 hp⟩⟩
noncomputable abbrev GN:=List D->Sto->Option (D×Sto)
inductive rNM (K:Ab) (g:GN) (xs:List V) (H:Hp) (Q:VK):Prop
 | mk (ds:List D) (st:Sto) (io:List Addr) (d:D) (st':Sto) (h1:Reps K H io xs ds) (h2:StR K H io st) (h3:g ds st=some (d,st')) (h4:Bh K io H st' d Q)
def zdf(X:Cx)(f:Value)(g:GN):Prop:=zkQ X f (rNM X.K g)
def zav(g:GN)(mm:MA):ME:=fun ρ st=>(mm ρ st).bind fun (xs,s)=>g xs s
def zgn{g:GN}{σ:L2.St}{Q:VK}(h:tE K (zav g mm) σ H Q):tCB (rNM K g) (tA K mm) σ H Q:=by
 obtain⟨ρ,st,io,d,st',E,S,e,k⟩:=h;obtain⟨⟨xs,s1⟩,e1,e⟩:=zad e;exact⟨ρ,st,io,xs,s1,E,S,e1,fun vs H1 k1 X1 S1 R1=>⟨xs,s1,io++k1,d,st',R1,S1,e,k.on S1 X1⟩⟩
def zaR{x:Str}{p:Pos}{id:String}{g:GN}(hc:zdf X (.builtin id) g)(hg:Gl X x)(hm:X.mg x=none)(hv:bootBuiltins x=some (.builtin id))(ha:SA X (e::es) mm)(hn:x≠"__name__":=by decide)(hdb:(x==("__debug__":Str))=false:=by decide)
   (he:starEach (e::es) X.env=(false,eval e X.env)::starEach es X.env:=by rfl) (hpl:(backTo pos (starEach es X.env)).any (·.1)=false:=by rfl):SE X (.Call (.Name x p) (e::es) [] pos) (zav g mm) :=
 PE.imp (zjv hc hg hm hv ha hn hdb he hpl) fun _ _ _ h=>zgn h
def zbd{x:Str}{p:Pos}{T:String}{g:GN}(hc:zdf X (.type T) g)(hg:Gl X x)(hm:X.mg x=none)(hv:bootBuiltins x=some (.type T))(ha:SA X (e::es) mm)(hn:x≠"__name__":=by decide)(hdb:(x==("__debug__":Str))=false:=by decide)
   (he:starEach (e::es) X.env=(false,eval e X.env)::starEach es X.env:=by rfl) (hpl:(backTo pos (starEach es X.env)).any (·.1)=false:=by rfl):SE X (.Call (.Name x p) (e::es) [] pos) (zav g mm) :=
 PE.imp (zll hc hg hm hv ha hn hdb he hpl) fun _ _ _ h=>zgn h
def spM(K:Ab)(n:Nat)(g:GN):Sp:=fun vs H Q _=>∃ ds st io d st',vs.length=n/\Reps K H io vs ds/\StR K H io st/\g ds st=some (d,st')/\Bh K io H st' d Q
def zpd{x:Str}{p:Pos}{k:Nat}{f:Addr}{fd:FuncData}{ps:List Str}{n:Nat}{g:GN}(F:FnOk X.prog X.w X.K X.mg X.base CX0 k f fd ps (spM X.K n g))(hr:Room k X.A)(hg:Gl X x)(hm:X.mg x=some (.ref f))(hk:A9 X.K (.ref f)=true)(hb:Binds X.K fd ps [])
   (ha:SA X (e::es) mm) (hdb:(x==("__debug__":Str))=false:=by decide) (he:starEach (e::es) X.env=(false,eval e X.env)::starEach es X.env:=by rfl) (hpl:(backTo pos (starEach es X.env)).any (·.1)=false:=by rfl) (hn:(e::es).length=n:=by rfl)
   (hl:∀ ρ st xs s,mm ρ st=some (xs,s)->xs.length=n) :
   SE X (.Call (.Name x p) (e::es) [] pos) (zav g mm):=PE.imp (zpE F hr hg hm hk hb .nil zq0 ha hdb he hpl) <| by
 rintro σ H Q ⟨ρ,st,io,d,st',E,S,e,k⟩;obtain⟨⟨xs,s1⟩,e1,e⟩:=zad e;refine⟨ρ,st,io,xs,s1,E,S,e1,fun vs H1 k1 X1 S1 R1=>⟨xs,s1,io++k1,d,st',?_,?_,S1,e,k.on S1 X1⟩⟩
 . rw[Ap,R1.length];exact hl _ _ _ _ e1
 . rw[Ap];exact R1
def znR{ρ:Rho}{st:Sto}{xs:List D}{s:Sto}(h:mNil ρ st=some (xs,s)):xs.length=0:=by cases h;rfl
def zlA{ρ:Rho}{st:Sto}{xs:List D}{s:Sto}{n:Nat}(hr:∀ ρ st xs s,mm ρ st=some (xs,s)->xs.length=n)(h:zae m mm ρ st=some (xs,s)):xs.length=n+1:=by
 obtain⟨⟨x,s1⟩,e1,e⟩:=zad h;obtain⟨⟨ys,s2⟩,e2,e⟩:=zad e;cases e;rw[Ar,hr _ _ _ _ e2]
def Wn(K:Ab)(io:List Addr)(H:Hp)(st':Sto)(N:Ends):Fl->Prop
 | .nx ρ'=>∀ σ' H' ka,Ext io ka H H'->StR K H' (io++ka) st'->EnvR K H' (io++ka) σ' ρ'->N.nx σ' H'
 | .bk ρ'=>∀ σ' H' ka,Ext io ka H H'->StR K H' (io++ka) st'->EnvR K H' (io++ka) σ' ρ'->N.bk σ' H'
 | .ct ρ'=>∀ σ' H' ka,Ext io ka H H'->StR K H' (io++ka) st'->EnvR K H' (io++ka) σ' ρ'->N.ct σ' H'
 | .rt d=>Bh K io H st' d N.rt
inductive tSi (K:Ab) (m:MS) (N:Ends) (σ:L2.St) (H:Hp):Prop
 | mk (ρ:Rho) (st:Sto) (io:List Addr) (f:Fl) (st':Sto) (h1:EnvR K H io σ ρ) (h2:StR K H io st) (h3:m ρ st=some (f,st')) (h4:Wn K io H st' N f)
def zcG{N:Ends}{σ:L2.St}{H:Hp}:tS K ms N σ H ↔ tSi K ms N σ H:=by
 constructor
 . rintro ⟨ρ,st,io,f,st',E,S,e,k⟩;exact⟨ρ,st,io,f,st',E,S,e,by cases f <;> exact k⟩
 . rintro ⟨ρ,st,io,f,st',E,S,e,k⟩;exact⟨ρ,st,io,f,st',E,S,e,by cases f <;> exact k⟩
def zf4{P:L2.St->Hp->Prop}{ρ':Rho}(h:∀ σ' H' ka,Ext io ka H H'->StR K H' (io++ka) st'->EnvR K H' (io++ka) σ' ρ'->P σ' H')(X1:Ext io ka H H1)(S1:StR K H1 (io++ka) st) :
   ∀ σ' H' kb,Ext (io++ka) kb H1 H'->StR K H' ((io++ka)++kb) st'->EnvR K H' ((io++ka)++kb) σ' ρ'->P σ' H':=fun σ' H' kb E' S' R' =>
 h σ' H' (ka++kb) (X1.trans S1 E') (by rw[<-Aq];exact S') (by rw[<-Aq];exact R')
def Wn.on{N:Ends}{f:Fl}(h:Wn K io H st' N f)(X1:Ext io ka H H1)(S1:StR K H1 (io++ka) st):Wn K (io++ka) H1 st' N f:=by
 cases f with
 | nx ρ'=>exact zf4 h X1 S1
 | bk ρ'=>exact zf4 h X1 S1
 | ct ρ'=>exact zf4 h X1 S1
 | rt d=>exact Bh.on h S1 X1
def zmO{N:Ends}{σ:L2.St}{ρ:Rho}{f:Fl}(E:EnvR K H io σ ρ)(S:StR K H io st)(e:ms ρ st=some (f,st'))(w:Wn K io H st' N f):tS K ms N σ H:=zcG.mpr ⟨ρ,st,io,f,st',E,S,e,w⟩
def zrk{N:Ends}{σ:L2.St}{ρ:Rho}{f:Fl}{s1:Sto}(X1:Ext io ka H H1)(S1:StR K H1 (io++ka) s1)(E:EnvR K H1 (io++ka) σ ρ)(e:ms ρ s1=some (f,st'))(w:Wn K io H st' N f):tS K ms N σ H1 :=
 zmO E S1 e (w.on X1 S1)
def zdm:MS:=fun ρ st=>some (.nx ρ,st)
def zoU:SSs X [] zdm:=PSs.imp zpq fun N σ H h=>by
 obtain⟨ρ,st,io,f,st',E,S,e,w⟩:=zcG.mp h;cases e;exact w σ H [] Ext.refl S.nil (by rw[Ap];exact E)
def zmc:SS X (.Pass pos) zdm:=PS.imp zpr fun N σ H h=>by
 obtain⟨ρ,st,io,f,st',E,S,e,w⟩:=zcG.mp h;cases e;exact w σ H [] Ext.refl S.nil (by rw[Ap];exact E)
def mSeq(m n:MS):MS:=fun ρ st=>(m ρ st).bind fun (f,s)=>match f with
 | .nx ρ1=>n ρ1 s
 | f=>some (f,s)
def zmU(h1:SS X st1 ms)(h2:SSs X rest mq):SSs X (st1::rest) (mSeq ms mq):=PSs.imp (znl h1 h2) fun N σ H h=>by
 obtain⟨ρ,st,io,f,st',E,S,e,w⟩:=zcG.mp h;obtain⟨⟨f1,s1⟩,e1,e⟩:=zad e;refine zmO E S e1 ?_
 cases f1 with
 | nx ρ1=>exact fun σ' H' ka X' S' R'=>zrk X' S' R' e w
 | bk ρ1=>cases e;exact w
 | ct ρ1=>cases e;exact w
 | rt d=>cases e;exact w
def zoT(h1:SS X st1 ms):SSs X [st1] ms:=zpp h1
def mExp(m:ME):MS:=fun ρ st=>(m ρ st).map fun (_,s)=>(.nx ρ,s)
def mRet(m:ME):MS:=fun ρ st=>(m ρ st).map fun (d,s)=>(.rt d,s)
def zag{α β:Type}{x:Option α}{f:α->β}{y:β}(h:x.map f=some y):∃ z,x=some z/\f z=y:=by
 cases x with
 | none=>cases h
 | some z=>exact⟨z,rfl,Ay h⟩
def zbM(he:SE X e m)(hs:swapsWith e none pos.line X.env=pure false:=by rfl):SS X (.Expr e pos) (mExp m):=PS.imp (zps he hs) fun N σ H h=>by
 obtain⟨ρ,st,io,f,st',E,S,e,w⟩:=zcG.mp h;obtain⟨⟨d,s1⟩,e1,e⟩:=zag e;cases e;exact⟨ρ,st,io,d,_,E,S,e1,fun v H' ka X' S' R'=>w σ H' ka X' S' (E.ext S X')⟩
def za9(he:SE X e m):SS X (.Return (some e) pos) (mRet m):=PS.imp (zrS he) fun N σ H h=>by
 obtain⟨ρ,st,io,f,st',E,S,e,w⟩:=zcG.mp h;obtain⟨⟨d,s1⟩,e1,e⟩:=zag e;cases e;exact⟨ρ,st,io,d,_,E,S,e1,w⟩
def mIf(c:MT)(m n:MS):MS:=fun ρ st=>(c ρ st).bind fun (b,s)=>if b=true then m ρ s else n ρ s
def ztO(hc:SB X c mt)(h1:SSs X body ms)(h2:SSs X orelse mq):SS X (.If c body orelse pos) (mIf mt ms mq):=PS.imp (ztV hc h1 h2) fun N σ H h=>by
 obtain⟨ρ,st,io,f,st',E,S,e,w⟩:=zcG.mp h;obtain⟨⟨x,s1⟩,e1,e⟩:=zad e;refine⟨ρ,st,io,x,s1,E,S,e1,fun H1 k1 X1 S1=>?_⟩
 cases x with
 | true=>rw[if_pos rfl];exact zrk X1 S1 (E.ext S X1) e w
 | false=>rw[if_neg (by decide)];exact zrk X1 S1 (E.ext S X1) e w
def gNm(i:Nat):MG:=fun d ρ st=>some (ρ.set i (some d),st)
def zaC{i:Nat}{x:Str}(hN:X.N.Nodup)(hi:X.N[i]?=some x)(hx:Loc X.env.scope x)(hf:X.fn x=true\/X.env.scope.names.lookup x=some .local:=by first | exact .inl rfl | exact .inr rfl | assumption):SG X (.Name x pos) (gNm i) :=
 PG.imp (zpz hN hi hx hf) <| by
   rintro v σ H Q ⟨d,ρ,st,io,ρ',st',R,E,S,e,k⟩;cases e;exact k _ H [] Ext.refl S.nil (by rw[Ap];exact E.set i R)
def gN0:MGs:=fun ds ρ st=>match ds with
 | []=>some (ρ,st)
 | _=>none
def gC(g:MG)(h:MGs):MGs:=fun ds ρ st=>match ds with
 | d::r=>(g d ρ st).bind fun (ρ1,s1)=>h r ρ1 s1
 | []=>none
def zdU:SGs X [] gN0:=PGs.imp zpy <| by
 rintro v σ H Q ⟨ds,ρ,st,io,ρ',st',R,E,S,e,k⟩
 cases ds with
 | nil=>cases e;exact⟨R,k σ H [] Ext.refl S.nil (by rw[Ap];exact E)⟩
 | cons d r=>cases e
def zbj(h1:SG X e mg)(h2:SGs X es mgs)(hs:(assignEach (e::es) X.env).map (·.2)=assign e X.env::(assignEach es X.env).map (·.2):=by rfl):SGs X (e::es) (gC mg mgs) :=
 PGs.imp (znt h1 h2 hs) <| by
   rintro v σ H Q ⟨ds,ρ,st,io,ρ',st',R,E,S,e,k⟩
   cases ds with
   | nil=>cases e
   | cons d r =>
     obtain⟨y,ys,rfl,r1,rs⟩:=R;obtain⟨⟨ρ1,s1⟩,e1,e⟩:=zad e;refine⟨y,ys,rfl,d,ρ,st,io,ρ1,s1,r1,E,S,e1,fun σ1 H1 k1 X1 S1 E1=>?_⟩;exact⟨r,ρ1,s1,io++k1,ρ',st',rs.ext S X1,E1,S1,e,zf4 k X1 S1⟩
def gTp(n:Nat)(h:MGs):MG:=fun d ρ st=>match d with
 | .tup ds=>if ds.length=n then h ds ρ st else none
 | _=>none
def zgM{k:Nat}{n:Nat}(hc:X.calm=true)(h:SGs X es mgs)(hn:(assignEach es X.env).length=n:=by rfl)(hst:(assignEach es X.env).findIdx? (·.1)=none:=by rfl):SG X (.Tuple es k pos) (gTp n mgs) :=
 PG.imp (zrZ hc h hn hst) <| by
   rintro v σ H Q ⟨d,ρ,st,io,ρ',st',R,E,S,e,k⟩
   cases d with
   | tup ds =>
     obtain⟨a,xs,rfl,hq,rs⟩:=R;obtain⟨hl,e⟩:=zam e;exact⟨a,xs,rfl,SqT.of hq,by rw[rs.length];exact hl,ds,ρ,st,io,ρ',st',rs,E,S,e,k⟩
   | _=>cases e
noncomputable abbrev G3:=D->D->D->Sto->Option Sto
inductive tSetM (K:Ab) (g:G3) (o i v:V) (H:Hp) (Q:Hp->Prop):Prop
 | mk (d1 d2 d3:D) (st:Sto) (io:List Addr) (st':Sto) (h0:Rep K H io o d1) (h1:Rep K H io i d2) (h2:Rep K H io v d3) (h3:StR K H io st) (h4:g d1 d2 d3 st=some st') (h5:∀ H' ka,Ext io ka H H'->StR K H' (io++ka) st'->Q H')
def SetM(X:Cx)(g:G3):Prop:=PSet X (tSetM X.K g)
def gSb(g:G3)(mo mi:ME):MG:=fun d ρ st=>(mo ρ st).bind fun (o,s1)=>(mi ρ s1).bind fun (i,s2)=>(g o i d s2).map fun s3=>(ρ,s3)
def zrA{o i:Expr}{mo mi:ME}{g:G3}(ho:SE X o mo)(hi:SE X i mi)(hs:SetM X g)
   (ha:∀ v,assign (.Subscript o i pos) X.env v=(do
     let ov <-holding [v] (eval o X.env)
     let iv <-holding [v,ov] (eval i X.env)
     standAt pos
     holding [v,ov,iv] (setItem ov iv v)
     release [v,ov,iv] []):=by intro _;rfl):SG X (.Subscript o i pos) (gSb g mo mi) :=
 PG.imp (zr0 ho hi hs ha) <| by
   rintro v σ H Q ⟨d,ρ,st,io,ρ',st',R,E,S,e,k⟩;obtain⟨⟨x,s1⟩,e1,e⟩:=zad e;obtain⟨⟨y,s2⟩,e2,e⟩:=zad e;obtain⟨s3,e3,e⟩:=zag e;cases e;refine⟨ρ,st,io,x,s1,E,S,e1,fun v1 H1 k1 X1 S1 R1=>⟨ρ,s1,io++k1,y,s2,E.ext S X1,S1,e2,fun v2 H2 k2 X2 S2 R2=>?_⟩⟩;have X12:=X1.trans S1 X2;refine⟨x,y,d,s2,(io++k1)++k2,_,R1.ext S1 X2,R2,(R.ext S X1).ext S1 X2,S2,e3,fun H3 k3 X3 S3=>?_⟩;rw[Aq] at X3 S2;rw[Aq,Aq] at S3;refine k σ H3 ((k1++k2)++k3) (X12.trans S2 X3) (by simpa using S3) ?_;have E2:EnvR X.K H2 (io++(k1++k2)) σ ρ:=E.ext S X12;have:=E2.ext S2 X3;simpa using this
def mAsg(m:ME)(g:MG):MS:=fun ρ st=>(m ρ st).bind fun (d,s1)=>(g d ρ s1).map fun (ρ',s2)=>(.nx ρ',s2)
def zl6{N:Ends}{σ:L2.St}{H:Hp}(h:tS K (mAsg m mg) N σ H):tAsg (tE K m) (tG K mg) N σ H:=by
 obtain⟨ρ,st,io,f,st',E,S,e,w⟩:=zcG.mp h;obtain⟨⟨x,s1⟩,e1,e⟩:=zad e;obtain⟨⟨ρ',s2⟩,e2,e⟩:=zag e;cases e;exact⟨ρ,st,io,x,s1,E,S,e1,fun v1 H1 k1 X1 S1 R1=>⟨x,ρ,s1,io++k1,ρ',_,R1,E.ext S X1,S1,e2,zf4 w X1 S1⟩⟩
def zmW{tg:Expr}(he:SE X e m)(hg:SG X tg mg)(hs:swapsWithSole [tg] e pos.line X.env=pure false:=by rfl)(hw:swappedStores [tg] e X.env=pure none:=by rfl)
   (h1:(assignEach [tg] X.env).map (·.2)=[assign tg X.env]:=by rfl):SS X (.Assign [tg] e pos) (mAsg m mg):=PS.imp (zrW he hg hs hw h1) fun _ _ _ h=>zl6 h
def za3{i:Nat}{x:Str}{pos':Pos}(hN:X.N.Nodup)(hi:X.N[i]?=some x)(hx:Loc X.env.scope x)(he:SE X e m)(hs:swapsWith e (some (.Name x pos')) pos.line X.env=pure false:=by rfl)(hf:X.fn x=true\/X.env.scope.names.lookup x=some .local:=by first | exact .inl rfl | exact .inr rfl | assumption) :
   SS X (.Assign [.Name x pos'] e pos) (mAsg m (gNm i)):=PS.imp (zrR hN hi hx he hs hf) fun N σ H h=>by
 obtain⟨ρ,st,io,f,st',E,S,e,w⟩:=zcG.mp h;obtain⟨⟨x,s1⟩,e1,e⟩:=zad e;obtain⟨⟨ρ',s2⟩,e2,e⟩:=zag e;cases e;cases e2;exact⟨ρ,st,io,x,_,E,S,e1,fun v1 H1 k1 X1 S1 R1=>w _ H1 k1 X1 S1 ((E.ext S X1).set i R1)⟩
structure Wk where
 ds:List D
 g:List (Nat×List D)
def stays(W:Wk)(st:Sto):Prop:=∀ p,p∈W.g->st[p.1]?=some (.lst p.2)\/st[p.1]?=some (.fz p.2)
structure ItOk(K:Ab)(H0:Hp)(io:List Addr)(W:Wk)(J:It):Prop where
 go:∀ i d H ka st,W.ds[i]?=some d->Ext io ka H0 H->StR K H (io++ka) st->stays W st->J.go i H/\∀ x H',J.yld i H x H'->Ext (io++ka) [] H H'/\StR K H' (io++ka) st/\Rep K H' (io++ka) x d
 stop:∀ H ka st,Ext io ka H0 H->StR K H (io++ka) st->stays W st->J.stop W.ds.length H
 stop':∀ H ka st i,W.ds.length<=i->Ext io ka H0 H->StR K H (io++ka) st->stays W st->J.stop i H
noncomputable abbrev MI:=Rho->Sto->Option (Wk×Sto)
inductive tI (K:Ab) (m:MI) (σ:L2.St) (H:Hp) (R:It->Hp->Prop):Prop
 | mk (ρ:Rho) (st:Sto) (io:List Addr) (W:Wk) (st':Sto) (h1:EnvR K H io σ ρ) (h2:StR K H io st) (h3:m ρ st=some (W,st')) (h4:∀ J H' ka,Ext io ka H H'->StR K H' (io++ka) st'->ItOk K H' (io++ka) W J->R J H')
def SI(X:Cx)(tg iter:Expr)(m:MI):Prop:=PI X tg iter (tI X.K m)
def PI.imp{tg iter:Expr}{t u:TI}(h:PI X tg iter t)(k:∀ σ H R,u σ H R->t σ H R):PI X tg iter u:=fun pins s σ H R I q=>h pins s σ H R I (k σ H R q)
end
mutual
def D.eqb:D->D->Bool
 | .non,.non=>true
 | .bl a,.bl b=>a==b
 | .int a,.int b=>decide (a=b)
 | .str a,.str b=>decide (a=b)
 | .tup a,.tup b=>D.eqbs a b
 | .ref a,.ref b=>decide (a=b)
 | .kl a,.kl b=>D.eqbs a b
 | .fn a,.fn b=>decide (a=b)
 | _,_=>false
def D.eqbs:List D->List D->Bool
 | [],[]=>true
 | a::as,b::bs=>D.eqb a b&&D.eqbs as bs
 | _,_=>false
end
mutual
def D.eqb_refl:∀ a:D,D.eqb a a=true
 | .non=>rfl
 | .bl a=>by simp[D.eqb]
 | .int a=>by simp[D.eqb]
 | .str a=>by simp[D.eqb]
 | .tup a=>by rw[D.eqb];exact D.eqbs_refl a
 | .ref a=>by simp[D.eqb]
 | .kl a=>by rw[D.eqb];exact D.eqbs_refl a
 | .fn a=>by simp[D.eqb]
def D.eqbs_refl:∀ a:List D,D.eqbs a a=true
 | []=>rfl
 | a::as=>by rw[D.eqbs,D.eqb_refl a,D.eqbs_refl as];rfl
end
mutual
def D.eq_of:∀ {a b:D},D.eqb a b=true->a=b
 | .non,b,h=>by cases b <;> simp[D.eqb] at h ⊢
 | .bl a,b,h=>by cases b <;> simp[D.eqb] at h ⊢;exact h
 | .int a,b,h=>by cases b <;> simp[D.eqb] at h ⊢;exact h
 | .str a,b,h=>by cases b <;> simp[D.eqb] at h ⊢;exact h
 | .tup a,.tup b,h=>by rw[D.eqb] at h;rw[D.eqs_of h]
 | .tup a,.non,h=>by simp[D.eqb] at h
 | .tup a,.bl _,h=>by simp[D.eqb] at h
 | .tup a,.int _,h=>by simp[D.eqb] at h
 | .tup a,.str _,h=>by simp[D.eqb] at h
 | .tup a,.ref _,h=>by simp[D.eqb] at h
 | .tup a,.kl _,h=>by simp[D.eqb] at h
 | .tup a,.fn _,h=>by simp[D.eqb] at h
 | .kl a,.kl b,h=>by rw[D.eqb] at h;rw[D.eqs_of h]
 | .kl a,.non,h=>by simp[D.eqb] at h
 | .kl a,.bl _,h=>by simp[D.eqb] at h
 | .kl a,.int _,h=>by simp[D.eqb] at h
 | .kl a,.str _,h=>by simp[D.eqb] at h
 | .kl a,.ref _,h=>by simp[D.eqb] at h
 | .kl a,.tup _,h=>by simp[D.eqb] at h
 | .kl a,.fn _,h=>by simp[D.eqb] at h
 | .fn a,b,h=>by cases b <;> simp[D.eqb] at h ⊢;exact h
 | .ref a,b,h=>by cases b <;> simp[D.eqb] at h ⊢;exact h
def D.eqs_of:∀ {a b:List D},D.eqbs a b=true->a=b
 | [],[],_=>rfl
 | [],_::_,h=>by simp[D.eqbs] at h
 | _::_,[],h=>by simp[D.eqbs] at h
 | a::as,b::bs,h=>by
   rw[D.eqbs,Ao] at h;rw[D.eq_of h.1,D.eqs_of h.2]
end
noncomputable instance:DecidableEq D:=fun a b=>if h:D.eqb a b=true then .isTrue (D.eq_of h) else .isFalse fun e=>h (by rw[e];exact D.eqb_refl b)
def zj5(st:Sto)(n:Nat)(ds:List D):Bool:=match st[n]? with
 | some (.lst xs)=>D.eqbs xs ds
 | some (.fz xs)=>D.eqbs xs ds
 | _=>false
def zlM{st:Sto}{n:Nat}{ds:List D}(h:zj5 st n ds=true):st[n]?=some (.lst ds)\/st[n]?=some (.fz ds):=by
 unfold zj5 at h
 split at h
 . rename_i xs e;rw[D.eqs_of h] at e;exact .inl e
 . rename_i xs e;rw[D.eqs_of h] at e;exact .inr e
 . cases h
def zj4{st:Sto}{n:Nat}{ds:List D}(h:st[n]?=some (.lst ds)):zj5 st n ds=true:=by unfold zj5;rw[h];exact D.eqbs_refl ds
section
variable {X:Cx} {e a b c:Expr} {es:List Expr} {st1 st2:Stmt} {rest body orelse:List Stmt} {pos:Pos} {m ma mb mc:ME} {mt mu:MT} {mm:MA} {ms mq mr:MS} {mg:MG} {mgs:MGs} {mi:MI}
variable {K:Ab} {H H1 H2:Hp} {io ka kb:List Addr} {st st':Sto}
def walked(W:Wk)(st:Sto):Bool:=W.g.all fun p=>zj5 st p.1 p.2
def zcZ{W:Wk}(h:walked W st=true):stays W st:=fun p hp=>zlM (List.all_eq_true.mp h p hp)
def zft(W:Wk)(g:MG)(m:MS):List D->Rho->Sto->Option (Fl×Sto)
 | [],ρ,st=>if walked W st=true then some (.nx ρ,st) else none
 | d::ds,ρ,st=>if walked W st=true then (g d ρ st).bind fun (ρ1,s1)=>(m ρ1 s1).bind fun (f,s2)=>match f with
   | .nx ρ2=>zft W g m ds ρ2 s2
   | .ct ρ2=>zft W g m ds ρ2 s2
   | .bk ρ2=>some (.nx ρ2,s2)
   | .rt d=>some (.rt d,s2) else none
def mFor(mi:MI)(g:MG)(m:MS):MS:=fun ρ st=>(mi ρ st).bind fun (W,s)=>zft W g m W.ds ρ s
def zrt{tg iter:Expr}(hp:PassesOwn (model X.prog X.w) X.A X.env X.xe)(hc:X.calm=true)(hi:SI X tg iter mi)(hg:SG X tg mg)(hb:SSs X body ms)
   (hs:∀ x,foldedSetIterable iter X.env x=pure x:=by intro _;rfl):SS X (.For tg iter body [] pos) (mFor mi mg ms):=PS.imp (zrU hp hc hi hg hb hs) fun N σ H h=>by
 obtain⟨ρ,st,io,f,st',E,S,e,w⟩:=zcG.mp h;obtain⟨⟨W,s1⟩,e1,e⟩:=zad e;refine⟨ρ,st,io,W,s1,E,S,e1,fun J H1 k1 X1 S1 IO=>?_⟩;refine⟨fun i n σ2 H2=>n=W.ds.length - i/\∃ ρ2 s2 k2,Ext (io++k1) k2 H1 H2/\StR X.K H2 ((io++k1)++k2) s2/\EnvR X.K H2 ((io++k1)++k2) σ2 ρ2/\zft W mg ms (W.ds.drop i) ρ2 s2=some (f,st'),
   ⟨_,rfl,ρ,s1,[],Ext.refl,by rw[Ap];exact S1,by rw[Ap];exact E.ext S X1,by rw[Gh];exact e⟩,?_⟩
 rintro i n σ2 H2 ⟨rfl,ρ2,s2,k2,X2,S2,E2,e2⟩;have w2:Wn X.K ((io++k1)++k2) H2 st' N f:=(w.on X1 S1).on X2 S2
 cases hd:W.ds[i]? with
 | none =>
   have hl:W.ds.length<=i:=List.getElem?_eq_none_iff.mp hd;rw[Ej hl] at e2;obtain⟨hw,e2⟩:=zam e2;cases e2;refine .inl ⟨?_,w2 σ2 H2 [] Ext.refl S2.nil (by rw[Ap];exact E2)⟩
   -- the end may lie behind
   by_cases hi:i=W.ds.length
   . rw[hi];exact IO.stop H2 k2 _ X2 S2 (zcZ hw)
   . exact IO.stop' H2 k2 _ i hl X2 S2 (zcZ hw)
 | some d =>
   have hl:i < W.ds.length:=(List.getElem?_eq_some_iff.mp hd).1;have hdr:W.ds.drop i=d::W.ds.drop (i+1):=by
     rw[DL hl,(List.getElem?_eq_some_iff.mp hd).2]
   rw[hdr] at e2;obtain⟨hw,e2⟩:=zam e2;obtain⟨⟨ρ3,s3⟩,e3,e2⟩:=zad e2;obtain⟨⟨f4,s4⟩,e4,e2⟩:=zad e2;obtain⟨go,yl⟩:=IO.go i d H2 k2 s2 hd X2 S2 (zcZ hw);refine .inr ⟨go,fun σ5 H5=>∃ ρ5 s5 k5,Ext (io++k1) k5 H1 H5/\StR X.K H5 ((io++k1)++k5) s5/\EnvR X.K H5 ((io++k1)++k5) σ5 ρ5/\zft W mg ms (W.ds.drop (i+1)) ρ5 s5=some (f,st'),
     fun σ5 H5 h5=>⟨W.ds.length - (i+1),by omega,rfl,h5⟩,fun x H' y=>?_⟩
   obtain⟨X3,S3,R3⟩:=yl x H' y;have X23:Ext (io++k1) k2 H1 H':=(X2.trans S2 X3).app;refine⟨d,ρ2,s2,(io++k1)++k2,ρ3,s3,R3,?_,S3,e3,fun σ6 H6 k6 X6 S6 E6=>?_⟩
   . have:=E2.ext S2 X3;rw[Ap] at this;exact this
   . refine zmO E6 S6 e4 ?_;have X26:=X23.trans S3 X6;have S6':StR X.K H6 ((io++k1)++(k2++k6)) s3:=by rw[<-Aq];exact S6
     have fin:∀ {ρ7:Rho},zft W mg ms (W.ds.drop (i+1)) ρ7 s4=some (f,st')->∀ σ7 H7 k7,Ext ((io++k1)++k2++k6) k7 H6 H7->StR X.K H7 ((io++k1)++k2++k6++k7) s4->EnvR X.K H7 ((io++k1)++k2++k6++k7) σ7 ρ7 ->
         ∃ ρ5 s5 k5,Ext (io++k1) k5 H1 H7/\StR X.K H7 ((io++k1)++k5) s5/\EnvR X.K H7 ((io++k1)++k5) σ7 ρ5/\zft W mg ms (W.ds.drop (i+1)) ρ5 s5=some (f,st'):=by
       intro ρ7 e7 σ7 H7 k7 X7 S7 E7;rw[Aq (io++k1)] at X7;rw[Aq (io++k1),Aq (io++k1)] at S7 E7;exact⟨ρ7,s4,(k2++k6)++k7,X26.trans S6' X7,S7,E7,e7⟩
     cases f4 with
     | nx ρ7=>exact fin e2
     | ct ρ7=>exact fin e2
     | bk ρ7 =>
       cases e2;exact ((w.on X1 S1).on X23 S3).on X6 S6
     | rt dd =>
       cases e2;exact ((w.on X1 S1).on X23 S3).on X6 S6
end
section
variable {X:Cx} {e a b c:Expr} {es:List Expr} {st1 st2:Stmt} {rest body orelse:List Stmt} {pos:Pos} {m ma mb mc:ME} {mt mu:MT} {mm:MA} {ms mq mr:MS} {mg:MG} {mgs:MGs} {mi:MI}
variable {K:Ab} {H H1 H2:Hp} {io ka kb:List Addr} {st st':Sto}
def zfu{ρ:Rho}{x:D}{xs:List D}{s s1 s2:Sto}(h1:m ρ s=some (x,s1))(h2:mm ρ s1=some (xs,s2)):zae m mm ρ s=some (x::xs,s2):=by
 unfold zae;rw[h1];show GD (mm ρ s1) _=_;rw[h2];rfl
def zbA(st:Sto)(n:Nat):Option (List D):=match st[n]? with
 | some (.lst ds)=>some ds
 | some (.fz ds)=>some ds
 | _=>none
def zaZ{n:Nat}{p:Addr}{ds:List D}(S:StR K H io st)(hn:io[n]?=some p)(h:zbA st n=some ds):∃ xs,SqL K H p xs/\Reps K H io xs ds:=by
 unfold zbA at h
 split at h
 . rename_i o he;cases h;obtain⟨xs,e,r⟩:=S.ob n p _ hn he;exact⟨xs,SqL.of e,r⟩
 . rename_i o he;cases h;obtain⟨ob,xs,e,r⟩:=S.ob n p _ hn he;exact⟨xs,.inl (.inr ⟨ob,e⟩),r⟩
 . cases h
def zdn{n:Nat}{ds:List D}{W:Wk}(hm:(n,ds)∈W.g)(h:stays W st):zbA st n=some ds:=by
 unfold zbA
 rcases h _ hm with h | h
 . have h:st[n]?=some (.lst ds):=h;rw[h]
 . have h:st[n]?=some (.fz ds):=h;rw[h]
def mWL(m:ME):MI:=fun ρ st=>(m ρ st).bind fun (d,s)=>match d with
 | .ref n=>(zbA s n).map fun ds=>(⟨ds,[(n,ds)]⟩,s)
 | _=>none
def mWT(m:ME):MI:=fun ρ st=>(m ρ st).bind fun (d,s)=>match d with
 | .tup ds=>some (⟨ds,[]⟩,s)
 | _=>none
def za4{io ka:List Addr}{n:Nat}{p:Addr}(h:io[n]?=some p):(io++ka)[n]?=some p:=by
 rw[Al (List.getElem?_eq_some_iff.mp h).1];exact h
def zsM{n:Nat}{p:Addr}{ds:List D}(hn:io[n]?=some p):ItOk K H io ⟨ds,[(n,ds)]⟩ (Itl K p) where
 go:=fun i d H1 k1 s hd X1 S1 hs=>by
   obtain⟨xs,hx,r⟩:=zaZ S1 (za4 hn) (zdn An hs);obtain⟨v,hv,rv⟩:=r.get hd;refine⟨⟨xs,v,hx,hv⟩,fun x H' y=>?_⟩;obtain⟨rfl,y⟩:=y;have e:=y xs hx;rw[hv] at e;cases e;exact⟨Ext.refl,S1,rv⟩
 stop:=fun H1 k1 s X1 S1 hs=>by
   obtain⟨xs,hx,r⟩:=zaZ S1 (za4 hn) (zdn An hs);exact⟨xs,hx,by rw[r.length];exact Af _⟩
 stop':=fun H1 k1 s i hi X1 S1 hs=>by
   obtain⟨xs,hx,r⟩:=zaZ S1 (za4 hn) (zdn An hs);exact⟨xs,hx,by rw[r.length];exact hi⟩
def zo1{tg l:Expr}(hl:SE X l m):SI X tg l (mWL m):=PI.imp (zpx hl) <| by
 rintro σ H R ⟨ρ,st,io,W,st',E,S,e,k⟩;obtain⟨⟨d,s1⟩,e1,e⟩:=zad e;dsimp only at e
 split at e
 . rename_i n;obtain⟨ds,e2,e⟩:=zag e;cases e;refine⟨ρ,st,io,_,_,E,S,e1,fun v H1 k1 X1 S1 R1=>?_⟩;obtain⟨p,rfl,hn⟩:=R1;obtain⟨xs,hx,r⟩:=zaZ S1 hn e2;exact⟨p,rfl,⟨xs,hx⟩,k _ H1 k1 X1 S1 (zsM hn)⟩
 . cases e
def zsK{st:Sto}{p:Addr}{xs:List V}{ds:List D}(S:StR K H io st)(hp:H p=some (.tup xs))(r:Reps K H io xs ds):ItOk K H io ⟨ds,[]⟩ (Itt K p) where
 go:=fun i d H1 k1 s hd X1 S1 hs=>by
   obtain⟨v,hv,rv⟩:=(r.ext S X1).get hd;have hx:SqT K H1 p xs:=SqT.of (X1.sqT S p xs hp);refine⟨⟨xs,v,hx,hv⟩,fun x H' y=>?_⟩;obtain⟨rfl,y⟩:=y;have e:=y xs hx;rw[hv] at e;cases e;exact⟨Ext.refl,S1,rv⟩
 stop:=fun H1 k1 s X1 S1 hs=>⟨xs,SqT.of (X1.sqT S p xs hp),by rw[r.length];exact Af _⟩
 stop':=fun H1 k1 s i hi X1 S1 hs=>⟨xs,SqT.of (X1.sqT S p xs hp),by rw[r.length];exact hi⟩
def zry{tg l:Expr}(hl:SE X l m):SI X tg l (mWT m):=PI.imp (zrX hl) <| by
 rintro σ H R ⟨ρ,st,io,W,st',E,S,e,k⟩;obtain⟨⟨d,s1⟩,e1,e⟩:=zad e;dsimp only at e
 split at e
 . rename_i ds;cases e;refine⟨ρ,st,io,_,_,E,S,e1,fun v H1 k1 X1 S1 R1=>?_⟩;obtain⟨p,xs,rfl,hp,r⟩:=R1;exact⟨p,rfl,⟨xs,SqT.of hp⟩,k _ H1 k1 X1 S1 (zsK S1 hp r)⟩
 . cases e
def run(lo:Int)(n:Nat):List D:=(AA n).map fun (k:Nat)=>D.int (lo+(k:Int))
def zbW(lo:Int)(n:Nat):(run lo n).length=n:=by unfold run;rw[Ag,Cq]
def run_get{lo:Int}{n i:Nat}{d:D}(h:(run lo n)[i]?=some d):i < n/\d=.int (lo+(i:Int)):=by
 have hi:i < n:=by
   have q:=(List.getElem?_eq_some_iff.mp h).1
   rwa [zbW] at q
 unfold run at h;rw[AD,Dm hi] at h;exact⟨hi,(Ay h).symm⟩
def zsL(lo:Int)(n:Nat):ItOk K H io ⟨run lo n,[]⟩ (Itr lo n) where
 go:=fun i d H1 k1 s hd X1 S1 hs=>by
   obtain⟨hi,rfl⟩:=run_get hd;refine⟨hi,fun x H' y=>?_⟩;obtain⟨rfl,rfl⟩:=y;exact⟨Ext.refl,S1,rfl⟩
 stop:=fun H1 k1 s X1 S1 hs=>by
   show n<=_;rw[zbW];exact Af _
 stop':=fun H1 k1 s i hi X1 S1 hs=>by
   show n<=i;have hi:(run lo n).length<=i:=hi
   rwa [zbW] at hi
def small(j:Int):Bool:=decide (-(2 ^ 62)<=j)&&decide (j < 2 ^ 62)
def zi8{j:Int}(h:small j=true):-(2 ^ 62)<=j/\j < 2 ^ 62:=by
 unfold small at h;rw[Ao] at h;exact⟨of_decide_eq_true h.1,of_decide_eq_true h.2⟩
def mR1(m:ME):MI:=fun ρ st=>(m ρ st).bind fun (d,s)=>match d with
 | .int j=>if small j=true then some (⟨run 0 j.toNat,[]⟩,s) else none
 | _=>none
def zba{tg a:Expr}{p pos:Pos}(hg:Gl X "range")(hm:X.mg "range"=none)(ha:SE X a m)(hs:starEach [a] X.env=[(false,eval a X.env)]:=by rfl):SI X tg (.Call (.Name "range" p) [a] [] pos) (mR1 m) :=
 PI.imp (zlj hg hm (zaa ha zai hs) hs) <| by
   rintro σ H R ⟨ρ,st,io,W,st',E,S,e,k⟩;obtain⟨⟨d,s1⟩,e1,e⟩:=zad e;dsimp only at e
   split at e
   . rename_i j;obtain⟨hj,e⟩:=zam e;cases e;refine⟨ρ,st,io,[.int j],_,E,S,(zfu e1 rfl),fun vs H1 k1 X1 S1 R1=>?_⟩;obtain⟨v,rfl,rfl⟩:=R1.one;exact⟨j,rfl,(zi8 hj).1,(zi8 hj).2,k _ H1 k1 X1 S1 (zsL 0 _)⟩
   . cases e
end
def rho(n:Nat)(ds:List D):Rho:=ds.map some++Bx (n - ds.length) none
def fnM(n:Nat)(m:MS):GN:=fun ds st=>(m (rho n ds) st).bind fun (f,s)=>match f with
 | .rt d=>some (d,s)
 | .nx _=>some (.non,s)
 | _=>none
def zlS{K:Ab}{H:Hp}{io:List Addr}{N:List Str}{vs:List V}{ds:List D}(R:Reps K H io vs ds):EnvR K H io (start N vs) (rho N.length ds):=by
 have hl:=R.length;refine⟨by unfold start rho;simp[hl],fun i d h=>?_⟩;unfold rho at h;unfold start
 by_cases hi:i < ds.length
 . rw[Al (by simpa using hi),AD] at h
   cases e:ds[i]? with
   | none=>rw[e] at h;cases h
   | some d' =>
     rw[e] at h
     cases (Ay (Ay h))
     obtain⟨v,hv,r⟩:=R.get e;exact⟨v,by rw[Al (by simpa[hl] using hi),AD,hv];rfl,r⟩
 . rw[AW (by simpa using hi),Cc] at h
   split at h <;> cases h
section
variable {P:Program} {w:World} {K:Ab} {mg:Str->Option Value} {base:Heap}
def fn_m{x qual:Str}{st:Stmt}{f:Addr}{fd:FuncData}{N ps:List Str}{k:Nat}{m:MS}(F:Fun K x qual st f fd)(S:FnScope N ps (zaj st))
   (hbody:∀ (cdv:Value) (A:Around) (outer:List Env) (s:Shared) (H:Hp) (E:XK),Room k (A.deeper (envOfC qual (zaj st) s.heap.objs.size f cdv)) ->
     SSs (cxOf CX0 P w K mg base N qual (zaj st) f cdv A outer s H E).nox (zbB st) m):FnOk P w K mg base CX0 (k+1) f fd ps (spM K ps.length (fnM N.length m)):=by
 refine F.ok S (fun vs H Q E ⟨_,_,_,_,_,h,_⟩=>h) fun cdv A outer s H vs Q E hr h=>?_;obtain⟨ds,st0,io,d,st',hl,R,SR,e,k'⟩:=h;refine⟨_,hbody cdv A outer s H E hr,?_⟩;obtain⟨⟨fl,s1⟩,e1,e⟩:=zad e;refine zmO (zlS R) SR e1 ?_
 cases fl with
 | rt dd=>cases e;exact k'
 | nx ρ=>cases e;exact fun σ' H' ka X' S' E'=>k' .non H' ka X' S' rfl
 | bk ρ=>cases e
 | ct ρ=>cases e
end
def clOf(cells:List (Str×Addr)):List (Str×NameKind)->List (Str×Addr)->List (Str×Addr)
 | [],acc=>acc
 | (n,k)::r,acc=>if k==.free then clOf cells r ((n,(cells.lookup n).getD 0)::acc) else clOf cells r acc
def zee{env:Env}(f:Str×NameKind->List (Str×Addr)->Sem (ForInStep (List (Str×Addr))))
   (hf:∀ n k acc,f (n,k) acc=if k==.free then (do let c <-cellOf env n;pure (.yield ((n,c)::acc))) else pure (.yield acc)) :
   ∀ (names:List (Str×NameKind)) (acc:List (Str×Addr)),(∀ n,(n,AG)∈names->∃ c,env.cells.lookup n=some c)->(forIn names acc f:Sem (List (Str×Addr)))=pure (clOf env.cells names acc)
 | [],acc,_=>by rw[CP];rfl
 | (n,k)::r,acc,h=>by
   rw[D7,hf];unfold clOf
   cases hk:k==AG with
   | false =>
     rw[if_neg (by simp),if_neg (by simp)];have:=zee f hf r acc fun m hm=>h m (Ak _ hm);rw[<-this];rfl
   | true =>
     rw[if_pos rfl,if_pos rfl];have hk':k=AG:=by simpa using hk
     obtain⟨c,hc⟩:=h n (by rw[hk'];exact An);have:=zee f hf r ((n,c)::acc) fun m hm=>h m (Ak _ hm);rw[hc,C1,<-this];unfold cellOf;rw[hc];rfl
def zkp{env:Env}{scope:Scope}(h:∀ n,(n,AG)∈scope.names->∃ c,env.cells.lookup n=some c):closureFor scope env=pure (clOf env.cells scope.names []):=by
 unfold closureFor;have:=zee (env:=env) (fun x acc=>(match x with | (n,k)=>if k==.free then (do let c <-cellOf env n;pure (.yield ((n,c)::acc))) else pure (.yield acc))) (fun _ _ _=>rfl) scope.names [] h;refine Eq.trans ?_ this;simp only[bind_pure]
def zhg{cells:List (Str×Addr)}:∀ {names:List (Str×NameKind)} {acc:List (Str×Addr)} {p:Str×Addr},p∈clOf cells names acc->p∈acc\/((p.1,AG)∈names/\p.2=(cells.lookup p.1).getD 0)
 | [],acc,p,h=>.inl h
 | (n,k)::r,acc,p,h=>by
   unfold clOf at h
   cases hk:k==AG with
   | false =>
     rw[hk,if_neg (by simp)] at h
     rcases zhg h with h | h
     . exact .inl h
     . exact .inr ⟨Ak _ h.1,h.2⟩
   | true =>
     rw[hk,if_pos rfl] at h;have hk':k=AG:=by simpa using hk
     rcases zhg h with h | h
     . rcases List.mem_cons.mp h with h | h
       . subst h;exact .inr ⟨by rw[hk'];exact An,rfl⟩
       . exact .inl h
     . exact .inr ⟨Ak _ h.1,h.2⟩
def zfE{cells:List (Str×Addr)}:∀ {names:List (Str×NameKind)} {acc:List (Str×Addr)} {x:Str},((x,AG)∈names\/(acc.lookup x).isSome=true)->((clOf cells names acc).lookup x).isSome=true
 | [],acc,x,h=>by
   rcases h with h | h
   . exact absurd h (by simp)
   . exact h
 | (n,k)::r,acc,x,h=>by
   unfold clOf
   cases hk:k==AG with
   | false =>
     rw[if_neg (by simp)];refine zfE ?_
     rcases h with h | h
     . rcases List.mem_cons.mp h with h | h
       . have:k=AG:=(Bk h).2.symm;rw[this] at hk;exact absurd hk (by decide)
       . exact .inl h
     . exact .inr h
   | true =>
     rw[if_pos rfl];refine zfE ?_
     by_cases hx:x=n
     . subst hx;exact .inr (by simp)
     . rcases h with h | h
       . rcases List.mem_cons.mp h with h | h
         . exact absurd (Bk h).1 hx
         . exact .inl h
       . refine .inr ?_;rw[A1];have:(x==n)=false:=by simpa using hx
         rw[this];exact h
def zfi:∀ {names:List (Str×NameKind)} {n:Nat} {acc:List (Str×Addr)} {p:Str×Addr},p∈cellsFrom n names acc->p∈acc\/n<=p.2
 | [],_,_,_,h=>.inl h
 | (x,k)::r,n,acc,p,h=>by
   unfold cellsFrom at h
   split at h
   . rcases zfi h with h | h
     . rcases List.mem_cons.mp h with h | h
       . subst h;exact .inr (Af _)
       . exact .inl h
     . exact .inr (B4 h)
   . exact zfi h
def zdt:∀ {names:List (Str×NameKind)} {n:Nat} {acc:List (Str×Addr)},(acc.Pairwise fun x y=>x.2≠y.2)->(∀ p∈acc,p.2 < n)->(cellsFrom n names acc).Pairwise fun x y=>x.2≠y.2
 | [],_,_,h,_=>h
 | (x,k)::r,n,acc,h,hl=>by
   unfold cellsFrom
   split
   . refine zdt (List.pairwise_cons.mpr ⟨fun y hy e=>?_,h⟩) fun p hp=>?_
     . have q:=hl y hy;have e':n=y.2:=e;rw[<-e'] at q;exact AN _ q
     . rcases List.mem_cons.mp hp with rfl | hp
       . exact B7 _
       . exact CV (hl p hp)
   . exact zdt h hl
def zjx:∀ {names:List (Str×NameKind)} {n:Nat} {acc:List (Str×Addr)} {x:Str},((x,AQ)∈names\/(acc.lookup x).isSome=true)->((cellsFrom n names acc).lookup x).isSome=true
 | [],n,acc,x,h=>by
   rcases h with h | h
   . exact absurd h (by simp)
   . exact h
 | (m,k)::r,n,acc,x,h=>by
   unfold cellsFrom
   cases hk:k==AQ with
   | false =>
     rw[if_neg (by simp)];refine zjx ?_
     rcases h with h | h
     . rcases List.mem_cons.mp h with h | h
       . have:k=AQ:=(Bk h).2.symm;rw[this] at hk;exact absurd hk (by decide)
       . exact .inl h
     . exact .inr h
   | true =>
     rw[if_pos rfl];refine zjx ?_
     by_cases hx:x=m
     . subst hx;exact .inr (by simp)
     . rcases h with h | h
       . rcases List.mem_cons.mp h with h | h
         . exact absurd (Bk h).1 hx
         . exact .inl h
       . refine .inr ?_;rw[A1];have:(x==m)=false:=by simpa using hx
         rw[this];exact h
def zfh:∀ {names:List (Str×NameKind)} {n:Nat} {acc:List (Str×Addr)} {x:Str},(x,AQ) ∉ names->(cellsFrom n names acc).lookup x=acc.lookup x
 | [],_,_,_,_=>rfl
 | (m,k)::r,n,acc,x,h=>by
   unfold cellsFrom
   cases hk:k==AQ with
   | false=>rw[if_neg (by simp)];exact zfh fun q=>h (Ak _ q)
   | true =>
     rw[if_pos rfl,zfh fun q=>h (Ak _ q),A1];have hk':k=AQ:=by simpa using hk
     have:(x==m)=false:=by
       cases e:x==m with
       | false=>rfl
       | true=>exact absurd (by rw[hk',show x=m by simpa using e];exact An) h
     rw[this]
def zjy:∀ {names:List (Str×NameKind)} {n:Nat} {acc:List (Str×Addr)} {x:Str} {c:Addr},(x,AQ)∈names->(cellsFrom n names acc).lookup x=some c->n<=c
 | [],_,_,_,_,h,_=>absurd h (by simp)
 | (m,k)::r,n,acc,x,c,h,e=>by
   unfold cellsFrom at e
   cases hk:k==AQ with
   | false =>
     rw[hk,if_neg (by simp)] at e
     rcases List.mem_cons.mp h with h | h
     . have:k=AQ:=(Bk h).2.symm;rw[this] at hk;exact absurd hk (by decide)
     . exact zjy h e
   | true =>
     rw[hk,if_pos rfl] at e
     by_cases hr:(x,AQ)∈r
     . exact B4 (zjy hr e)
     . rw[zfh hr] at e
       rcases List.mem_cons.mp h with h | h
       . have hx:x=m:=(Bk h).1;subst hx;rw[List.lookup_cons_self] at e;exact DP (Ay e)
       . exact absurd h hr
def zfe:∀ {names:List (Str×NameKind)} {h:Heap} {acc:List (Str×Addr)} {p:Str×Addr},p∈cellsFrom h.objs.size names acc->p∈acc\/(pushCells h names).IsCell p.2 none
 | [],_,_,_,h=>.inl h
 | (x,k)::r,h,acc,p,e=>by
   unfold cellsFrom at e;unfold pushCells
   split at e
   . rename_i hk;rw[if_pos hk];have sz:(h.push { cls:=.type "cell",data:=.cell none }).objs.size=h.objs.size+1:=A6 ..;rw[<-sz] at e
     rcases zfe e with q | q
     . rcases List.mem_cons.mp q with q | q
       . subst q;exact .inr ⟨_,C9 _ _ _ _ (Am _ rfl),rfl⟩
       . exact .inl q
     . exact .inr q
   . rename_i hk;rw[if_neg hk];exact zfe e
def zda(X:Cx)(scope:Scope)(N':List Str)(cells:List (Str×Addr))(C:Addr)(s0:Shared)(H0:Hp)(ex:List Addr):Cx :=
 { X with N:=N',s₀:=s0,H₀:=H0,env:=compEnvC scope cells C X.env,outer:=X.stack,ex:=ex,fn:=fun x=>scope.names.any fun p=>p.1==x&&p.2==.cell,pn:=[],xe:=fun _ _=>False }
structure CompS(X:Cx)(scope:Scope)(N':List Str)(nt:Nat)(fr:List Nat):Prop where
 kind:scope.kind=.function
 nd:(scope.names.map (·.1)).Nodup
 len:N'.length=nt+fr.length
 cap:∀ (i j:Nat) (x:Str),fr[i]?=some j->N'[nt+i]?=some x->X.N[j]?=some x/\(x,AG)∈scope.names
 out:∀ x,(x,AG)∈scope.names->X.env.kindOf x=some .cell\/X.env.kindOf x=some .free
def lookup_mem:∀ {l:List (Str×NameKind)} {x:Str} {k:NameKind},(l.map (·.1)).Nodup->(x,k)∈l->l.lookup x=some k
 | [],_,_,_,h=>absurd h (by simp)
 | (n,j)::r,x,k,nd,h=>by
   rw[Av,Da] at nd;rw[A1]
   rcases List.mem_cons.mp h with h | h
   . cases h;simp
   . have:x≠n:=fun e=>nd.1 (by rw[<-e];exact List.mem_map.mpr ⟨_,h,rfl⟩);have:(x==n)=false:=by simpa using this
     rw[this];exact lookup_mem nd.2 h
def zbJ{env:Env}:∀ {l:List (Str×NameKind)} {x:Str} {k:NameKind},(l.map fun (n,k)=>if (k==AG&&env.scope.kind==.function&&env.kindOf n==some .cell) then (n,AQ) else (n,k)).lookup x=some k ->
   ∃ k',l.lookup x=some k'/\(k'=k\/k'=.free)
 | [],_,_,h=>by simp at h
 | (n,j)::r,x,k,h=>by
   rw[Av] at h;dsimp only at h
   by_cases hc:(j==AG&&env.scope.kind==.function&&env.kindOf n==some .cell)=true
   . rw[if_pos hc,A1] at h;rw[A1]
     cases hx:x==n with
     | true =>
       have:j=.free:=by
         rw[Ao,Ao] at hc;simpa using hc.1.1
       exact⟨j,rfl,.inr this⟩
     | false=>rw[hx] at h;exact zbJ h
   . rw[if_neg hc,A1] at h;rw[A1]
     cases hx:x==n with
     | true=>rw[hx] at h;cases h;exact⟨j,rfl,.inl rfl⟩
     | false=>rw[hx] at h;exact zbJ h
def zcP{env:Env}:∀ {l:List (Str×NameKind)} {x:Str},l.lookup x=some .free ->
   (l.map fun (n,k)=>if (k==AG&&env.scope.kind==.function&&env.kindOf n==some .cell) then (n,AQ) else (n,k)).lookup x=some .cell \/
   (l.map fun (n,k)=>if (k==AG&&env.scope.kind==.function&&env.kindOf n==some .cell) then (n,AQ) else (n,k)).lookup x=some .free
 | [],_,h=>by simp at h
 | (n,j)::r,x,h=>by
   rw[Av];dsimp only;rw[A1] at h
   by_cases hc:(j==AG&&env.scope.kind==.function&&env.kindOf n==some .cell)=true
   . rw[if_pos hc,A1]
     cases hx:x==n with
     | true=>exact .inl rfl
     | false=>rw[hx] at h;exact zcP h
   . rw[if_neg hc,A1]
     cases hx:x==n with
     | true=>rw[hx] at h;cases h;exact .inr rfl
     | false=>rw[hx] at h;exact zcP h
section
variable {X:Cx} {scope:Scope} {N':List Str} {nt:Nat} {fr:List Nat} {pins:List (Addr×Obj)} {σ:L2.St} {H:Hp} {s:Shared}
noncomputable abbrev clX (X:Cx) (scope:Scope):List (Str×Addr):=clOf X.env.cells scope.names []
noncomputable abbrev zdb (X:Cx) (scope:Scope) (C:Nat):List (Str×Addr):=cellsFrom (C+1) scope.names (clX X scope)
def zkq(Z:CompS X scope N' nt fr)(ok:X.Ok){p:Str×Addr}(h:p∈clX X scope):(p.1,AG)∈scope.names/\X.env.cells.lookup p.1=some p.2:=by
 rcases zhg h with h | ⟨h1,h2⟩
 . exact absurd h (by simp)
 . obtain⟨c,hc⟩:=ok.has p.1 (Z.out p.1 h1);rw[hc,C1] at h2;exact⟨h1,by rw[hc,h2]⟩
def zlZ(Z:CompS X scope N' nt fr)(ok:X.Ok){x:Str}(h:(x,AG)∈scope.names):∃ c,X.env.cells.lookup x=some c/\∀ C,(zdb X scope C).lookup x=some c:=by
 obtain⟨c,hc⟩:=ok.has x (Z.out x h);refine⟨c,hc,fun C=>?_⟩;have no:(x,AQ) ∉ scope.names:=fun q=>by
   have a:=lookup_mem Z.nd h;have b:=lookup_mem Z.nd q;rw[a] at b;cases b
 rw[zfh no];have q:=zfE (cells:=X.env.cells) (acc:=[]) (.inl h);obtain⟨c',e⟩:=Option.isSome_iff_exists.mp q;have:=(zkq Z ok (AO e)).2;have this:X.env.cells.lookup x=some c':=this;rw[hc] at this;rw[e,this]
def zop(Z:CompS X scope N' nt fr)(ok:X.Ok):(clX X scope).Pairwise fun x y=>x.2≠y.2:=by
 have gen:∀ (names:List (Str×NameKind)) (acc:List (Str×Addr)),(∀ n,(n,AG)∈names->∃ c,X.env.cells.lookup n=some c)->(names.map (·.1)).Nodup->(∀ p∈acc,p.1 ∉ names.map (·.1)/\X.env.cells.lookup p.1=some p.2)->(acc.Pairwise fun x y=>x.2≠y.2) ->
     (clOf X.env.cells names acc).Pairwise fun x y=>x.2≠y.2:=by
   intro names
   induction names with
   | nil=>intro acc _ _ _ h;exact h
   | cons p r ih =>
     intro acc hf nd ha hp;obtain⟨n,k⟩:=p;rw[Av,Da] at nd;unfold clOf
     cases hk:k==AG with
     | false =>
       rw[if_neg (by simp)];exact ih acc (fun m hm=>hf m (Ak _ hm)) nd.2 (fun q hq=>⟨fun z=>(ha q hq).1 (by rw[Av];exact Ak _ z),(ha q hq).2⟩) hp
     | true =>
       rw[if_pos rfl];have hk':k=AG:=by simpa using hk
       obtain⟨c,hc⟩:=hf n (by rw[hk'];exact An);refine ih _ (fun m hm=>hf m (Ak _ hm)) nd.2 (fun q hq=>?_) (List.pairwise_cons.mpr ⟨fun y hy e=>?_,hp⟩)
       . rcases List.mem_cons.mp hq with rfl | hq
         . exact⟨nd.1,by rw[hc];rfl⟩
         . exact⟨fun z=>(ha q hq).1 (by rw[Av];exact Ak _ z),(ha q hq).2⟩
       . have e1:(X.env.cells.lookup n).getD 0=y.2:=e;rw[hc,C1] at e1;have e2:=(ha y hy).2;rw[<-e1] at e2;have:=ok.inj _ _ _ e2 hc;exact (ha y hy).1 (by rw[this,Av];exact An)
 exact gen scope.names [] (fun n hn=>ok.has n (Z.out n hn)) Z.nd (fun p hp=>absurd hp (by simp)) Cp
def zoo{M:Model}{A:Around}{E:Value->Shared->Prop}{env:Env}{cl:List (Str×Addr)}{Q:Env->Shared->Prop}
   (h:Q { scope:=scope,locals:=s.heap.objs.size,globals:=env.globals,cells:=cellsFrom (s.heap.objs.size+1) scope.names cl,qual:=env.qual,func:=none,code:=env.code,frame:=env.frame,builtins:=env.builtins }
     { s with heap:=pushCells (s.heap.push { cls:=.type "dict",data:=.dict #[] }) scope.names }) :
   wpAny M A (newFunctionEnv scope env.globals cl [] env.qual none .none (some env)) Q E s:=by
 simp only[newFunctionEnv,EY,if_true];refine Aa (wpAny_alloc ?_);refine Aa (wpAny_layCells _ (fun name kind cells=>by cases hkc:kind==AQ <;> simp[hkc]) _ _ _ _ ?_);rw[show ({ s with heap:=s.heap.push { cls:=.type "dict",data:=.dict #[] } }:Shared).heap.objs.size=s.heap.objs.size+1 from A6 ..];rw[CP];exact Aa (Ad (Ad h))
def zlX(σ:L2.St)(nt:Nat)(fr:List Nat):L2.St:=Bx nt none++fr.map fun (j:Nat)=>(σ[j]?).join
def zn4{fp:List Addr}(Z:CompS X scope N' nt fr)(I:Inv X pins σ H s)(hf:∀ b∈fp,FpOk X pins H b)(hlt:∀ b∈fp,b < s.heap.objs.size) :
   Inv (zda X scope N' (zdb X scope s.heap.objs.size) s.heap.objs.size s H fp) [] (zlX σ nt fr) H { s with heap:=pushCells (s.heap.push { cls:=.type "dict",data:=.dict #[] }) scope.names }:=by
 have ok:=I.ok;have kp:∀ b o,s.heap.get? b=some o->(pushCells (s.heap.push { cls:=.type "dict",data:=.dict #[] }) scope.names).get? b=some o:=fun b o e=>C9 _ _ b o (Ac _ e);have clt:∀ p∈clX X scope,p.2 < s.heap.objs.size:=fun p hp=>by
   obtain⟨_,e⟩:=zkq Z ok hp;obtain⟨v,q⟩:=I.cell p.1 p.2 e;exact q.lt
 have sz:(s.heap.push { cls:=.type "dict",data:=.dict #[] }).objs.size=s.heap.objs.size+1:=A6 ..;have cells:∀ x c,(zdb X scope s.heap.objs.size).lookup x=some c->(X.env.cells.lookup x=some c)\/(s.heap.objs.size+1<=c/\(pushCells (s.heap.push { cls:=.type "dict",data:=.dict #[] }) scope.names).IsCell c none):=fun x c e=>by
   have m:=AO e
   rcases zfi m with h | h
   . exact .inl (zkq Z ok h).2
   . refine .inr ⟨h,?_⟩;have m':(x,c)∈cellsFrom (s.heap.push { cls:=.type "dict",data:=.dict #[] }).objs.size scope.names (clX X scope):=by rw[sz];exact m
     rcases zfe m' with q | q
     . have l:=clt _ q;exact absurd (AC l (B4 h)) (AN _)
     . exact q
 refine⟨⟨ok.mod,Z.kind,ok.glob,ok.blt,Af _,fun x y c h1 h2=>?_,fun x hx=>?_,fun x c h1 h2=>?_,ok.hd,ok.frames,.inl rfl,fun b hb=>?_,I.bs,Az ok.bsz I.sz,fun b o e hb=>?_,fun b hb=>?_,I.stack,I.stkFree⟩,
   rfl,I.bare,Un.kept kp,⟨fun _=>none,?_,fun i x v h1 h2 h3=>?_⟩,fun x c e=>?_,I.hok.fresh (Af _),fun x c e=>?_,fun p hp=>absurd hp (by simp[zda]),I.hok.kept kp,?_⟩
 . exact name_of_addr (zdt (zop Z ok) fun p hp=>CV (clt p hp)) (AO h1) (AO h2)
 . have hx:(relabel scope X.env).names.lookup x=some .cell\/(relabel scope X.env).names.lookup x=some .free:=hx;have q:(x,AQ)∈scope.names\/(x,AG)∈scope.names:=by
     rcases hx with hx | hx
     . obtain⟨k',e,z | z⟩:=zbJ hx
       . subst z;exact .inl (AO e)
       . subst z;exact .inr (AO e)
     . obtain⟨k',e,z | z⟩:=zbJ hx
       . subst z;exact .inr (AO e)
       . subst z;exact .inr (AO e)
   refine Option.isSome_iff_exists.mp (zjx (n:=s.heap.objs.size+1) (acc:=clX X scope) ?_)
   rcases q with q | q
   . exact .inl q
   . exact .inr (zfE (.inl q))
 . have h1:(scope.names.any fun p=>p.1==x&&p.2==AQ)=true:=h1;obtain⟨p,hp,e⟩:=List.any_eq_true.mp h1;rw[Ao] at e;have e1:p.1=x:=by simpa using e.1
   have e2:p.2=AQ:=by simpa using e.2
   have hm:(x,AQ)∈scope.names:=by rw[<-e1,<-e2];exact hp
   exact B4 (zjy hm h2)
 . refine⟨As (hlt b hb),fun x c e z=>?_⟩
   rcases cells x c e with q | ⟨q,_⟩
   . exact (hf b hb).2.2.2.2.1 x c q z
   . have l:=hlt b hb;rw[<-z] at l;exact absurd (AC l (B4 q)) (AN _)
 . rcases (hf b hb).2.2.2.1 with z | z
   . exact ok.noex b o e z
   . exact absurd (AC (Aj e) (Az ok.bsz z)) (AN _)
 . intro hs
   rcases List.mem_cons.mp (I.stkSub b hs) with e | e
   . exact (hf b hb).2.1 e
   . exact (hf b hb).2.2.1 e
 . exact (Heap.Ns.new s.heap (.type "dict")).keeps (C9 _ _)
 . -- a captured name
   have hi:nt<=i:=by
     by_cases hi:i < nt
     . unfold zlX at h2;rw[Al (by simpa using hi),Cc,if_pos hi] at h2;cases h2
     . omega
   obtain⟨i',rfl⟩:∃ i',i=nt+i':=⟨i - nt,by omega⟩
   unfold zlX at h2;rw[AW (by simp),BE,Nat.add_sub_cancel_left,AD] at h2
   cases ej:fr[i']? with
   | none=>rw[ej] at h2;cases h2
   | some j =>
     rw[ej] at h2;have h2:(σ[j]?).join=some v:=Ay h2;have h2:σ[j]?=some (some v):=by
       cases q:σ[j]? with
       | none=>rw[q] at h2;cases h2
       | some w=>rw[q] at h2;cases w with
         | none=>cases h2
         | some w=>cases h2;rfl
     obtain⟨hN,hfree⟩:=Z.cap i' j x ej h1;obtain⟨c,hc,hcc⟩:=zlZ Z ok hfree;have ho:=Z.out x hfree;obtain⟨m,hn,hl⟩:=I.loc;obtain⟨u,r,l⟩:=hl j x v hN h2 (ho.elim (fun z=>.inr (.inl z)) fun z=>.inr (.inr z));refine⟨u,r,.inr ⟨?_,c,hcc _,?_⟩⟩
     . exact zcP (lookup_mem Z.nd hfree)
     . rcases l with ⟨k,_⟩ | ⟨_,c',e',z⟩
       . rcases ho with q | q
         . rw[k] at q;cases q
         . rw[k] at q;cases q
       . rw[hc] at e';cases e';exact z.keeps kp
 . rcases cells x c e with q | ⟨_,q⟩
   . obtain⟨v,z⟩:=I.cell x c q;exact⟨v,z.keeps kp⟩
   . exact⟨none,q⟩
 . rcases cells x c e with q | ⟨q,_⟩
   . exact I.freeC x c q
   . exact I.hok.fresh (B4 q)
 . show _=N'.length;unfold zlX;rw[Z.len,AH,BE,Ag]
end
noncomputable abbrev FF:Value->Shared->Prop:=fun _ _=>False
def ziF{prog:Program}{w:World}{A:Around}{R:Result->Shared->Prop}{s:Shared}{elt target iter:Expr}{ifs:List Expr}{scope:Scope}{pos:Pos}{it acc:Value}{env:Env}(I:Nat->Shared->Prop)
   (turn:∀ n s,I n s->wpAny (model prog w) A (pyNext it) (fun r s1=>match r with
     | none=>R (.ok .next) s1
     | some v=>wpAny (model prog w) A (letOwnedTupleGo target it v) (fun _ s1=>wpAny (model prog w) A (assign target env v) (fun _ s2 =>
         wpAny (model prog w) A (forIn ifs true fun c r=>if r=true then do let ok <-isTrue c env (eval c env);pure (Dc ok) else pure (Dc r)) (fun ok s3 =>
           if ok=true then wpAny (model prog w) A (eval elt env) (fun x s4 =>
             wpAny (model prog w) A (call (.builtin "list.append") [acc,x]) (fun _ s5=>∃ m,m < n/\I m s5) FF s4) FF s3
           else ∃ m,m < n/\I m s3) FF s2) FF s1) FF s1) FF s)
   (n:Nat) (h:I n s) :
   codeAny (model prog w) A (.compLoop (.ListComp elt [⟨target,iter,ifs,0⟩] scope pos) 0 it acc env) R s:=by
 refine codeAny_loop rfl I (fun n s hI=>?_) n h;show wpAny _ A ((compTurn (.ListComp elt [⟨target,iter,ifs,0⟩] scope pos) 0 it acc env).onRaise (fun x=>do noteFrame x env;theTreesLotGoes x)) _ _ s;refine wpAny_noted ?_;rw[compTurn_list];refine Aa (DC (Aa (Bs (turn n s hI) (fun r s₁ h₁=>?_) fun _ _ h'=>False.elim h')))
 cases r with
 | none=>exact Ad h₁
 | some v =>
   refine Aa (Bs h₁ (fun _ s₂ h₂=>?_) fun _ _ h'=>False.elim h');refine Aa (Bs h₂ (fun _ s₂ h₂=>Aa (Bs h₂ (fun ok s₃ h₃=>?_) fun _ _ h'=>False.elim h')) fun _ _ h'=>False.elim h')
   cases ok with
   | false=>exact Ad ⟨rfl,h₃⟩
   | true =>
     exact Aa (Aa (Bs h₃ (fun x s₄ h₄=>Aa (Bs h₄ (fun _ s₅ h₅=>Ad (Ad ⟨rfl,h₅⟩)) fun _ _ h'=>False.elim h')) fun _ _ h'=>False.elim h'))
def mCI(W:Wk)(g:MG)(c:MT)(m:ME):List D->Rho->Sto->Option (List D×Sto)
 | [],ρ,st=>if walked W st=true then some ([],st) else none
 | d::ds,ρ,st=>if walked W st=true then (g d ρ st).bind fun (ρ1,s1)=>(c ρ1 s1).bind fun (b,s2) =>
     if b=true then (m ρ1 s2).bind fun (x,s3)=>(mCI W g c m ds ρ1 s3).map fun (xs,s4)=>(x::xs,s4) else mCI W g c m ds ρ1 s2 else none
def rho0(ρ:Rho)(nt:Nat)(fr:List Nat):Rho:=Bx nt none++fr.map fun (j:Nat)=>(ρ[j]?).join
def zde(mi:MI)(nt:Nat)(fr:List Nat)(g:MG)(c:MT)(m:ME):ME:=fun ρ st=>(mi ρ st).bind fun (W,s1)=>(mCI W g c m W.ds (rho0 ρ nt fr) s1).bind fun (xs,s2) =>
 if fits xs.length=true then some (.ref s2.length,s2++[.lst xs]) else none
def zco:MT:=fun _ st=>some (true,st)
def SC(X:Cx)(ifs:List Expr)(m:MT):Prop:=∀ (pins:List (Addr×Obj)) (s:Shared) (σ:L2.St) (H:Hp) (Q:Bool->Hp->Prop),Inv X pins σ H s->tT X.K m σ H Q ->
 wpAny (model X.prog X.w) X.A (forIn ifs true fun c r=>if r=true then do let ok <-isTrue c X.env (eval c X.env);pure (Dc ok) else pure (Dc r)) (TP X pins σ Q) X.xe s
def zfb{X:Cx}:SC X [] zco:=by
 rintro pins s σ H Q I ⟨ρ,st,io,b,st',E,S,e,k⟩;cases e;rw[CP];exact Ad ⟨H,I,k H [] Ext.refl S.nil⟩
def zpe{X:Cx}{c:Expr}{m:MT}(h:SB X c m):SC X [c] m:=fun pins s σ H Q I q=>PySem.wpAny_tests_one (h pins s σ H Q I q)
section
variable {K:Ab} {H H1:Hp} {io ka:List Addr} {st:Sto} {σ:L2.St} {ρ:Rho}
def zof{nt:Nat}{fr:List Nat}(h:EnvR K H io σ ρ):EnvR K H io (zlX σ nt fr) (rho0 ρ nt fr):=by
 refine⟨by unfold zlX rho0;simp,fun i d e=>?_⟩;unfold rho0 at e;unfold zlX
 by_cases hi:i < nt
 . rw[Al (by simpa using hi),Cc,if_pos hi] at e;cases e
 . rw[AW (by simpa using hi),BE,AD] at e ⊢
   cases ej:fr[i - nt]? with
   | none=>rw[ej] at e;cases e
   | some j =>
     rw[ej] at e;have e:(ρ[j]?).join=some d:=Ay e;have e:ρ[j]?=some (some d):=by
       cases q:ρ[j]? with
       | none=>rw[q] at e;cases e
       | some w=>rw[q] at e;cases w with
         | none=>cases e
         | some w=>cases e;rfl
     obtain⟨v,hv,r⟩:=h.at_ j d e;exact⟨v,by simp[hv],r⟩
def adopt{p:Addr}{xs:List V}{ds:List D}(S:StR K H io st)(hp:H p=some (.lst xs))(np:p ∉ io)(R:Reps K H io xs ds):StR K H (io++[p]) (st++[.lst ds]):=by
 refine⟨by simp[S.len],?_,fun n a ob h1 h2=>?_⟩
 . rw[Ft];refine⟨S.nd,by simp,fun a ha b hb=>?_⟩;rw[List.mem_singleton.mp hb];rintro rfl;exact np ha
 . by_cases hn:n < io.length
   . rw[Al hn] at h1;rw[Al (by rw[<-S.len];exact hn)] at h2;exact OR.mono ⟨fun _ _ h=>h,fun _ _ _ h=>h⟩ rfl (S.ob n a ob h1 h2)
   . have hl:n < (io++[p]).length:=(List.getElem?_eq_some_iff.mp h1).1;rw[AH,B0] at hl;have e:n=io.length:=by omega
     subst e;rw[AW (Af _),C8] at h1;rw[S.len,AW (Af _),C8] at h2
     cases (Ay h1)
     cases (Ay h2)
     exact⟨xs,hp,Reps.mono ⟨fun _ _ h=>h,fun _ _ _ h=>h⟩ R⟩
end
section
variable {X:Cx} {scope:Scope} {N':List Str} {nt:Nat} {fr:List Nat} {elt tg iter:Expr} {ifs:List Expr} {pos:Pos} {mi:MI} {g:MG} {c:MT} {m:ME}
structure CompEnd(X:Cx)(pins:List (Addr×Obj))(σ:L2.St)(H:Hp)(io:List Addr)(d:D)(st':Sto)(Dd C:Addr)(H5:Hp)(s6:Shared):Prop where
 inv:Inv X pins σ H5 s6
 ns:∃ m,s6.heap.Ns C m
 free:H5 C=none
 ne:C≠X.env.locals
 young:X.s₀.heap.objs.size<=C
 cells:∀ x c,X.env.cells.lookup x=some c->c≠C
 pin:∀ p∈X.pn++pins,p.1≠C
 val:∃ ka,Ext io ka H H5/\StR X.K H5 (io++ka) st'/\Rep X.K H5 (io++ka) (.ref Dd) d
inductive CompI (X Y:Cx) (W:Wk) (tn:Nat->Heap->Prop) (fp io:List Addr) (H1:Hp) (Dd:Addr) (g:MG) (c:MT) (m:ME) (t2:Sto) (xs:List D) (n:Nat) (s5:Shared):Prop
 | mk (i:Nat) (σ5:L2.St) (H5:Hp) (ρ5:Rho) (st5:Sto) (k5:List Addr) (ac rs:List D) (h0:n=W.ds.length - i) (h1:Inv Y [] σ5 H5 s5) (h2:tn i s5.heap) (h3:∀ b∈fp,H5 b=none) (h4:Ext io k5 H1 H5) (h5:Dd ∉ k5) (h6:StR X.K H5 (io++k5) st5) (h7:EnvR X.K H5 (io++k5) σ5 ρ5) (h8:∃ vs,H5 Dd=some (.lst vs)/\Reps X.K H5 (io++k5) vs ac) (h9:mCI W g c m (W.ds.drop i) ρ5 st5=some (rs,t2)) (h10:xs=ac++rs)
def zko(hx:X.xe=FF)(hc:X.calm=true)(Z:CompS X scope N' nt fr)(hi:SI X tg iter mi)
   (hg:∀ C s0 H0 fp,SG (zda X scope N' (zdb X scope C) C s0 H0 fp) tg g) (ht:∀ C s0 H0 fp,SC (zda X scope N' (zdb X scope C) C s0 H0 fp) ifs c) (he:∀ C s0 H0 fp,SE (zda X scope N' (zdb X scope C) C s0 H0 fp) elt m)
   (hs:∀ x,foldedSetIterable iter X.env x=pure x) {pins:List (Addr×Obj)} {s:Shared} {σ:L2.St} {H:Hp} {ρ:Rho} {st st':Sto} {io:List Addr} {d:D} {use:Option (Value->Sem Unit)} {Qf:Value->Shared->Prop} {ps:Pos}
   (I:Inv X pins σ H s) (E:EnvR X.K H io σ ρ) (S:StR X.K H io st) (e:zde mi nt fr g c m ρ st=some (d,st'))
   (kf:∀ Dd C H5 s6,CompEnd X pins σ H io d st' Dd C H5 s6->compPost (model X.prog X.w) X.A X.xe use Qf (.ref Dd) C (.ok .next) s6) :
   wpAny (model X.prog X.w) X.A (comprehension (.ListComp elt [⟨tg,iter,ifs,0⟩] scope pos) scope X.env ps (newList []) false (eval iter X.env) use) Qf X.xe s:=by
 obtain⟨⟨W,t1⟩,e1,e⟩:=zad e;obtain⟨⟨xs,t2⟩,e2,e⟩:=zad e;obtain⟨hfit,e⟩:=zam e;cases e;refine wpAny_comprehension_free (use:=use) rfl hs (zkp fun n hn=>I.ok.has n (Z.out n hn)) Z.kind (fun x hx hl=>by
   obtain⟨n,k⟩:=x
   cases (show k=.local from hl)
   exact lookup_mem Z.nd hx) ?_
 refine thn (hi pins s σ H (fun J H1=>∃ ka,Ext io ka H H1/\StR X.K H1 (io++ka) t1/\ItOk X.K H1 (io++ka) W J) I ⟨ρ,st,io,W,t1,E,S,e1,fun J H' ka X' S' O'=>⟨ka,X',S',O'⟩⟩) fun v sa ha=>?_;refine thn ha ?_;rintro itv s2 ⟨it,fp,tn,J,H1,eit,I1,T,tn0,fpok,k1,X1,S1,IO⟩;subst eit;refine AI ?_
 -- the new list
 have hD:H1 s2.heap.objs.size=none:=I1.hok.fresh (Af _);have I3:Inv X pins σ (upd H1 s2.heap.objs.size (.lst [])) { s2 with heap:=s2.heap.push { cls:=.type "list",data:=.seq ([]:List Value).toArray },toks:=s2.toks }:=I1.lnew .nil (A0 _);obtain⟨X2,S2a⟩:=zf8 (o:=.lst []) S1 hD;rw[Ap] at S2a;have S2:StR X.K (upd H1 s2.heap.objs.size (.lst [])) (io++k1) t1:=S2a;clear S2a;generalize hH3:upd H1 s2.heap.objs.size (.lst [])=H3 at I3 X2 S2;have H3D:H3 s2.heap.objs.size=some (.lst []):=by rw[<-hH3];exact zbi
 generalize hD':s2.heap.objs.size=Dd at hD I3 X2 S2 hH3 H3D ⊢;generalize hs3:({ s2 with heap:=s2.heap.push { cls:=.type "list",data:=.seq ([]:List Value).toArray },toks:=s2.toks }:Shared)=s3 at I3;have fplt:∀ b∈fp,b < s3.heap.objs.size:=fun b hb=>by
   obtain⟨o,ho,_⟩:=T.obj 0 _ tn0 b hb;rw[<-hs3];exact AC (Aj ho) (by show _<=(s2.heap.push _).objs.size;rw[A6];exact Cm _)
 have fpD:∀ b∈fp,b≠Dd:=fun b hb z=>by
   obtain⟨o,ho,_⟩:=T.obj 0 _ tn0 b hb;have:=Aj ho;rw[z,<-hD'] at this;exact AN _ this
 have fp3:∀ b∈fp,FpOk X pins H3 b:=fun b hb=>⟨by rw[<-hH3,zat (fpD b hb)];exact (fpok b hb).1,(fpok b hb).2⟩
 have tn3:tn 0 s3.heap:=T.keep 0 _ _ tn0 fun b _ o ho=>by rw[<-hs3];exact Ac _ ho
 refine zoo ?_;have I4:=zn4 (fp:=fp) Z I3 fp3 fplt;have tn4:tn 0 (pushCells (s3.heap.push { cls:=.type "dict",data:=.dict #[] }) scope.names):=T.keep 0 _ _ tn3 fun b _ o ho=>C9 _ _ _ _ (Ac _ ho);generalize hs4:({ s3 with heap:=pushCells (s3.heap.push { cls:=.type "dict",data:=.dict #[] }) scope.names }:Shared)=s4 at I4;have tn4:tn 0 s4.heap:=by rw[<-hs4];exact tn4
 show codeAny (model X.prog X.w) X.A (.compStart (.ListComp elt [⟨tg,iter,ifs,0⟩] scope pos) 0 (.ref it) (.ref Dd) (zda X scope N' (zdb X scope s3.heap.objs.size) s3.heap.objs.size s3 H3 fp).env) _ _;generalize hY:zda X scope N' (zdb X scope s3.heap.objs.size) s3.heap.objs.size s3 H3 fp=Y at I4;have yP:Y.prog=X.prog:=by rw[<-hY];rfl
 have yW:Y.w=X.w:=by rw[<-hY];rfl
 have yK:Y.K=X.K:=by rw[<-hY];rfl
 have yC:Y.calm=true:=by rw[<-hY];exact hc
 have yA:Y.A=X.A:=by rw[<-hY];rfl
 have yx:Y.xe=FF:=by rw[<-hY];rfl
 have hg:=hg s3.heap.objs.size s3 H3 fp;have ht:=ht s3.heap.objs.size s3 H3 fp;have he:=he s3.heap.objs.size s3 H3 fp;rw[hY] at hg ht he;have yex:Y.ex=fp:=by rw[<-hY];rfl
 have yfs:∀ b∈fp,b ∉ Y.fs:=fun b hb hs=>by
   rw[<-hY] at hs;have hs:b∈frs X.stack:=hs
   rcases List.mem_cons.mp (I3.stkSub b hs) with z | z
   . exact (fp3 b hb).2.1 z
   . exact (fp3 b hb).2.2.1 z
 have yL:Y.env.locals=s3.heap.objs.size:=by rw[<-hY];rfl
 -- the loop
 have hio:Dd ∉ io++k1:=fun hm=>by
   obtain⟨u,hu,_⟩:=S1.mem hm;rw[hD] at hu;cases hu
 have start:∀ {H':Hp} {sx:Shared} {σ':L2.St},Inv Y [] σ' H' sx->(∀ b∈fp,H' b=none)->∀ b∈fp,FpOk Y [] H' b:=fun {H' sx σ'} I' hn b hb=>by
   refine⟨hn b hb,fun z=>?_,yfs b hb,.inl (by rw[yex];exact hb),fun x cc e z=>?_,fun p hp=>absurd hp (by rw[<-hY];simp[zda])⟩
   . rw[yL] at z;exact absurd (fplt b hb) (by rw[z];exact AN _)
   . exact (I'.ok.exf b (by rw[yex];exact hb)).2 x cc e z
 have loop:∀ sx:Shared,Inv Y [] (zlX σ nt fr) H3 sx->tn 0 sx.heap->codeAny (model X.prog X.w) X.A (.compLoop (.ListComp elt [⟨tg,iter,ifs,0⟩] scope pos) 0 (.ref it) (.ref Dd) Y.env) (compPost (model X.prog X.w) X.A X.xe use Qf (.ref Dd) s3.heap.objs.size) sx:=by
   intro sx Ix tnx;refine ziF (CompI X Y W tn fp (io++k1) H1 Dd g c m t2 xs) ?_ (W.ds.length - 0)
     ⟨0,zlX σ nt fr,H3,rho0 ρ nt fr,t1,[],[],xs,rfl,Ix,tnx,fun b hb=>(fp3 b hb).1,X2,by simp,S2.nil,by rw[Ap];exact zof (by have:=(E.ext S X1).ext S1 X2;rw[Ap] at this;exact this),⟨[],H3D,rfl⟩,by rw[Gh];exact e2,rfl⟩
   rintro n s5 ⟨i,σ5,H5,ρ5,st5,k5,ac,rs,rfl,I5,tn5,fr5,X25,nk5,S5,E5,⟨vs,hvs,Rvs⟩,e5,exs⟩;have nD:∀ {kk:List Addr},Dd ∉ kk->Dd ∉ (io++k1)++kk:=fun {kk} hk hm=>(List.mem_append.mp hm).elim hio hk;have nF:∀ {kk jj:List Addr} {Ha Hb:Hp} {vv:List V},Ext jj kk Ha Hb->Ha Dd=some (.lst vv)->Dd ∉ kk:=fun {kk jj Ha Hb vv} Xx hv hm=>by
     have q:=Xx.fresh Dd hm;rw[hv] at q;cases q
   cases hd:W.ds[i]? with
   | none =>
     have hl:W.ds.length<=i:=List.getElem?_eq_none_iff.mp hd;rw[Ej hl] at e5;obtain⟨hw,e5⟩:=zam e5;cases e5;have:=T.done Y yP yW yK yC i [] s5 σ5 H5 FF I5 (start I5 fr5) tn5 (IO.stop' H5 k5 _ i hl X25 S5 (zcZ hw));rw[yA] at this;refine thn this ?_;rintro r s6 ⟨hr,I6⟩;subst hr;obtain⟨mm,hn,_⟩:=id I6.loc;rw[yL] at hn
     -- back in the frame
     have base:Un (frs X.stack) fp H3 H5 s3.heap s6.heap:=by
       have b:=I6.base;rw[<-hY] at b;exact b
     have os:s6.os=s3.os:=by
       have b:=I6.os;rw[<-hY] at b;exact b
     have free:H5 s3.heap.objs.size=none:=by
       have b:=I6.free;rw[yL] at b;exact b
     have hok:HOk X.prog X.w H5 s6.heap:=by
       have b:=I6.hok;rw[yP,yW] at b;exact b
     have I7:Inv X pins σ H5 s6:=Inv.call' (s':=s6) (ch:=fp) I3 os base hok I6.bare fun b hb=>⟨(fp3 b hb).2.2.2.1,(fp3 b hb).2.1,(fp3 b hb).2.2.2.2.1,(fp3 b hb).2.2.2.2.2⟩
     have np:Dd ∉ (io++k1)++k5:=nD nk5;rw[Ap] at exs;subst exs;have SA:=adopt S5 hvs np Rvs;have X6:Ext io (k1++k5) H H5:=X1.trans S1 X25;have lt3:X.env.locals < s3.heap.objs.size:=I3.lt;refine kf Dd s3.heap.objs.size H5 s6 ⟨I7,⟨mm,hn⟩,free,CJ lt3,I3.sz,fun x cc e z=>?_,fun p hp z=>?_,?_⟩
     . obtain⟨vv,q⟩:=I3.cell x cc e;have:=q.lt;rw[z] at this;exact AN _ this
     . have:=Aj (I3.pin p hp).1;rw[z] at this;exact AN _ this
     refine⟨(k1++k5)++[Dd],⟨fun b o hb nb=>X6.keep b o hb nb,fun b hb=>?_,X6.frz⟩,(by simpa using SA),⟨Dd,rfl,?_⟩⟩
     . rcases List.mem_append.mp hb with hb | hb
       . exact X6.fresh b hb
       . rw[List.mem_singleton.mp hb]
         cases q:H Dd with
         | none=>rfl
         | some o =>
           by_cases hb:Dd∈io
           . exact absurd (Bw _ hb) hio
           . have:=X1.keep Dd o q hb;rw[hD] at this;cases this
     . have:=getElem?_len ((io++k1)++k5) Dd;rw[<-S5.len];simpa using this
   | some dd =>
     have hl:i < W.ds.length:=(List.getElem?_eq_some_iff.mp hd).1;have hdr:W.ds.drop i=dd::W.ds.drop (i+1):=by
       rw[DL hl,(List.getElem?_eq_some_iff.mp hd).2]
     rw[hdr] at e5;obtain⟨hw,e5⟩:=zam e5;obtain⟨⟨ρ6,t6⟩,e6,e5⟩:=zad e5;obtain⟨⟨b7,t7⟩,e7,e5⟩:=zad e5;obtain⟨go,yl⟩:=IO.go i dd H5 k5 st5 hd X25 S5 (zcZ hw);have hit:=T.item Y yP yW yK yC i [] s5 σ5 H5 FF I5 (start I5 fr5) tn5 go;rw[yA] at hit;refine thn hit ?_;rintro r s6 ⟨u,hr,h6⟩;subst hr;refine thn h6 ?_;rintro _ s7 ⟨x,H7,I7,r7,y7,tn7,fr7⟩;obtain⟨X7,S7,R7⟩:=yl x H7 y7;have X57:Ext (io++k1) k5 H1 H7:=(X25.trans S5 X7).app;have hv7:H7 Dd=some (.lst vs):=X7.keep _ _ hvs (nD nk5);have E7:EnvR X.K H7 ((io++k1)++k5) σ5 ρ5:=by
       have:=E5.ext S5 X7;rw[Ap] at this;exact this
     have R7v:Reps X.K H7 ((io++k1)++k5) vs ac:=by
       have:=Rvs.ext S5 X7;rw[Ap] at this;exact this
     have I7p:=I7.pinned (start I7 fr7) (T.obj _ _ tn7);rw[<-yA,<-yP,<-yW];rw[<-yx];refine thn (hg _ s7 σ5 H7 x u (fun σ8 H8=>∃ k8,Ext ((io++k1)++k5) k8 H7 H8/\StR X.K H8 (((io++k1)++k5)++k8) t6/\EnvR X.K H8 (((io++k1)++k5)++k8) σ8 ρ6) I7p r7 (by rw[yK];exact⟨dd,ρ5,st5,(io++k1)++k5,ρ6,t6,R7,E7,S7,e6,fun σ8 H8 k8 X8 S8 E8=>⟨k8,X8,S8,E8⟩⟩)) ?_;rintro _ s8 ⟨σ8,H8,I8,k8,X8,S8,E8⟩;have S8':StR X.K H8 ((io++k1)++(k5++k8)) t6:=by rw[<-Aq];exact S8
     have E8':EnvR X.K H8 ((io++k1)++(k5++k8)) σ8 ρ6:=by rw[<-Aq];exact E8
     have X38:Ext (io++k1) (k5++k8) H1 H8:=X57.trans S7 X8;have nk8:Dd ∉ k5++k8:=fun hm=>(List.mem_append.mp hm).elim nk5 (nF X8 hv7);refine thn (ht _ s8 σ8 H8 (fun b H9=>b=b7/\∃ k9,Ext ((io++k1)++(k5++k8)) k9 H8 H9/\StR X.K H9 (((io++k1)++(k5++k8))++k9) t7) I8 (by rw[yK];exact⟨ρ6,t6,(io++k1)++(k5++k8),b7,t7,E8',S8',e7,fun H9 k9 X9 S9=>⟨rfl,k9,X9,S9⟩⟩)) ?_;rintro ok s9 ⟨H9,I9,eb,k9,X9,S9⟩;subst eb;have X39:Ext (io++k1) ((k5++k8)++k9) H1 H9:=X38.trans S8' X9;have S9':StR X.K H9 ((io++k1)++((k5++k8)++k9)) t7:=by rw[<-Aq];exact S9
     have E9:EnvR X.K H9 ((io++k1)++((k5++k8)++k9)) σ8 ρ6:=by
       have:=E8'.ext S8' X9;rw[Aq] at this;exact this
     have hv8:H8 Dd=some (.lst vs):=X8.keep _ _ hv7 (nD nk5);have hv9:H9 Dd=some (.lst vs):=X9.keep _ _ hv8 (nD nk8);have nk9:Dd ∉ (k5++k8)++k9:=fun hm=>(List.mem_append.mp hm).elim nk8 (nF X9 hv8);have R8v:Reps X.K H8 ((io++k1)++(k5++k8)) vs ac:=by
       have:=R7v.ext S7 X8;rw[Aq] at this;exact this
     have R9v:Reps X.K H9 ((io++k1)++((k5++k8)++k9)) vs ac:=by
       have:=R8v.ext S8' X9;rw[Aq] at this;exact this
     have back:∀ {Hx:Hp} {sx:Shared} {σx:L2.St},Inv Y ([]++zju fp s7.heap) σx Hx sx->Inv Y [] σx Hx sx/\tn (i+1) sx.heap/\∀ b∈fp,Hx b=none:=fun {Hx sx σx} Ix=>by
       refine⟨Ix.unpinned,T.keep _ _ _ tn7 fun b hb o e=>(Ix.pin (b,o) (AM _ (AM _ (zc7 hb e)))).1,fun b hb=>?_⟩;obtain⟨o,e,dn⟩:=T.obj _ _ tn7 b hb;exact (Ix.pin (b,o) (AM _ (AM _ (zc7 hb e)))).2.1
     cases ok with
     | false =>
       rw[if_neg (by decide)];have e5:mCI W g c m (W.ds.drop (i+1)) ρ6 t7=some (rs,t2):=e5;obtain⟨Ib,tnb,frb⟩:=back I9;exact⟨W.ds.length - (i+1),by omega,i+1,σ8,H9,ρ6,t7,(k5++k8)++k9,ac,rs,rfl,Ib,tnb,frb,X39,nk9,S9',E9,⟨vs,hv9,R9v⟩,e5,exs⟩
     | true =>
       rw[if_pos rfl];have e5:((m ρ6 t7).bind fun (x,s3)=>(mCI W g c m (W.ds.drop (i+1)) ρ6 s3).map fun (xs,s4)=>(x::xs,s4))=some (rs,t2):=e5;obtain⟨⟨x10,t10⟩,e10,e5⟩:=zad e5;obtain⟨⟨rs',t11⟩,e11,e5⟩:=zag e5;cases e5;refine thn (he _ s9 σ8 H9 (fun v H10=>∃ k10,Ext ((io++k1)++((k5++k8)++k9)) k10 H9 H10/\StR X.K H10 (((io++k1)++((k5++k8)++k9))++k10) t10/\Rep X.K H10 (((io++k1)++((k5++k8)++k9))++k10) v x10) I9
         (by rw[yK];exact⟨ρ6,t7,(io++k1)++((k5++k8)++k9),x10,t10,E9,S9',e10,fun v H10 k10 X10 S10 R10=>⟨k10,X10,S10,R10⟩⟩)) fun u10 s10 ⟨v10,H10,I10,r10,k10,X10,S10,R10⟩=>?_
       have X310:Ext (io++k1) (((k5++k8)++k9)++k10) H1 H10:=X39.trans S9' X10;have nk10:Dd ∉ ((k5++k8)++k9)++k10:=fun hm=>(List.mem_append.mp hm).elim nk9 (nF X10 hv9);have S10':StR X.K H10 ((io++k1)++(((k5++k8)++k9)++k10)) t10:=by rw[<-Aq];exact S10
       have hv10:H10 Dd=some (.lst vs):=X10.keep _ _ hv9 (nD nk9);have E10:EnvR X.K H10 ((io++k1)++(((k5++k8)++k9)++k10)) σ8 ρ6:=by
         have:=E9.ext S9' X10;rw[Aq] at this;exact this
       have R10v:Reps X.K H10 ((io++k1)++(((k5++k8)++k9)++k10)) (vs++[v10]) (ac++[x10]):=by
         have a:=R9v.ext S9' X10;rw[Aq] at a;rw[Aq] at R10;exact a.append (Reps.cons R10 Reps.nil)
       have hlen:vs.length < sizeLine:=by
         rw[R9v.length];have:=of_decide_eq_true hfit;rw[exs] at this;simp at this;omega
       refine thn (zhH _ s10 σ8 H10 (.ref Dd) [v10] (.ref Dd) [u10] (fun _ H11=>H11=upd H10 Dd (.lst (vs++[v10]))) I10 rfl (.cons r10 .nil) ⟨Dd,vs,v10,rfl,rfl,hv10,hlen,rfl⟩) ?_;rintro _ s11 ⟨_,H11,I11,_,e11'⟩;subst e11';have nD10:=nD nk10
       -- the new list is written: nothing of the store
       have XU:∀ b o,H10 b=some o->b≠Dd->upd H10 Dd (.lst (vs++[v10])) b=some o:=fun b o hb hn=>by rw[zat hn];exact hb
       have TU:Kp H10 (upd H10 Dd (.lst (vs++[v10]))):=⟨fun a ys hb=>XU a _ hb (zq2 hb hv10 (by simp)),fun a o u hb=>XU a _ hb (zq2 hb hv10 (by simp))⟩
       have S11:StR X.K (upd H10 Dd (.lst (vs++[v10]))) ((io++k1)++(((k5++k8)++k9)++k10)) t10:=by
         refine⟨S10'.len,S10'.nd,fun n a ob h1 h2=>?_⟩;have hne:a≠Dd:=fun z=>nD10 (by rw[<-z];exact A3 h1);have:=OR.mono (ka:=[]) TU (zat hne) (S10'.ob n a ob h1 h2);rw[Ap] at this;exact this
       have mono0:∀ {v:V} {d:D},Rep X.K H10 ((io++k1)++(((k5++k8)++k9)++k10)) v d->Rep X.K (upd H10 Dd (.lst (vs++[v10]))) ((io++k1)++(((k5++k8)++k9)++k10)) v d:=fun {v d} h=>by
         have:=Rep.mono (ka:=[]) TU h;rw[Ap] at this;exact this
       have mono1:∀ {v:List V} {d:List D},Reps X.K H10 ((io++k1)++(((k5++k8)++k9)++k10)) v d->Reps X.K (upd H10 Dd (.lst (vs++[v10]))) ((io++k1)++(((k5++k8)++k9)++k10)) v d:=fun {v d} h=>by
         have:=Reps.mono (ka:=[]) TU h;rw[Ap] at this;exact this
       obtain⟨Ib,tnb,frb⟩:=back I11;refine⟨W.ds.length - (i+1),by omega,i+1,σ8,upd H10 Dd (.lst (vs++[v10])),ρ6,t10,((k5++k8)++k9)++k10,ac++[x10],rs',rfl,Ib,tnb,frb,⟨fun b o hb nb=>XU b o (X310.keep b o hb nb) (fun z=>by rw[z,hD] at hb;cases hb),X310.fresh,fun b o u hb=>XU b _ (X310.frz b o u hb) (fun z=>by rw[z,hD] at hb;cases hb)⟩,nk10,S11,⟨E10.len,fun j dj hj=>?_⟩,⟨_,zbi,mono1 R10v⟩,e11,by rw[exs,Aq];rfl⟩;obtain⟨v,q,r⟩:=E10.at_ j dj hj;exact⟨v,q,mono0 r⟩
 have l4:=loop s4 I4 tn4;exact codeAny_compStart_list l4 (T.self _ 0 _ _ _ tn4 l4)
def zdy(hx:X.xe=FF)(hc:X.calm=true)(Z:CompS X scope N' nt fr)(hi:SI X tg iter mi)
   (hg:∀ C s0 H0 fp,SG (zda X scope N' (zdb X scope C) C s0 H0 fp) tg g) (ht:∀ C s0 H0 fp,SC (zda X scope N' (zdb X scope C) C s0 H0 fp) ifs c) (he:∀ C s0 H0 fp,SE (zda X scope N' (zdb X scope C) C s0 H0 fp) elt m)
   (hs:∀ x,foldedSetIterable iter X.env x=pure x:=by intro _;rfl):SE X (.ListComp elt [⟨tg,iter,ifs,0⟩] scope pos) (zde mi nt fr g c m):=by
 rintro pins s σ H Q I ⟨ρ,st,io,d,st',E,S,e,k⟩;rw[eval_ListComp];refine zko (use:=none) hx hc Z hi hg ht he hs I E S e fun Dd C H5 s6 R=>?_;obtain⟨m5,hn⟩:=R.ns;refine⟨m5,hn,fun h' hsb=>?_⟩;obtain⟨ka,X5,S5,R5⟩:=R.val;exact⟨.ref Dd,H5,R.inv.turned (t':=s6.toks) (it:=C) (fun b o hb q=>(hsb.2 b hb).trans q) R.free R.ne (.inr R.young) R.cells R.pin,rfl,k _ _ ka X5 S5 R5⟩
def zdg{i:Nat}{x:Str}{pos' spos:Pos}(hx:X.xe=FF)(hc:X.calm=true)(Z:CompS X scope N' nt fr)(hi:SI X tg iter mi)
   (hg:∀ C s0 H0 fp,SG (zda X scope N' (zdb X scope C) C s0 H0 fp) tg g) (ht:∀ C s0 H0 fp,SC (zda X scope N' (zdb X scope C) C s0 H0 fp) ifs c) (he:∀ C s0 H0 fp,SE (zda X scope N' (zdb X scope C) C s0 H0 fp) elt m)
   (hN:X.N.Nodup) (hi':X.N[i]?=some x) (hl:X.env.scope.names.lookup x=some .local)
   (hsw:swapsWith (.ListComp elt [⟨tg,iter,ifs,0⟩] scope pos) (some (.Name x pos')) spos.line X.env=pure true:=by rfl)
   (hs:∀ x,foldedSetIterable iter X.env x=pure x:=by intro _;rfl):SS X (.Assign [.Name x pos'] (.ListComp elt [⟨tg,iter,ifs,0⟩] scope pos) spos) (mAsg (zde mi nt fr g c m) (gNm i)):=by
 intro pins s σ H N I h;obtain⟨ρ,st,io,f,st',E,S,e,w⟩:=zcG.mp h;obtain⟨⟨d,s1⟩,e1,e⟩:=zad e;obtain⟨⟨ρ',s2⟩,e2,e⟩:=zag e;cases e;cases e2;rw[exec_Assign_Name_used _ _ _ _ hsw];refine Aa (DC (Aa ?_));show wpAny _ X.A (do let _ <-comprehension (.ListComp elt [⟨tg,iter,ifs,0⟩] scope pos) scope X.env _ (newList []) false (eval iter X.env) (some (assign (.Name x pos') X.env))) _ _ s;refine Aa (thn (zko (use:=some (assign (.Name x pos') X.env)) (Qf:=fun _ s'=>SP X pins N .next s') hx hc Z hi hg ht he hs I E S e1 fun Dd C H5 s6 R=>?_) fun _ s' hq=>Ad (Ad hq));obtain⟨m5,hn⟩:=R.ns;obtain⟨ka,X5,S5,R5⟩:=R.val;show wpAny _ _ (assign (.Name x pos') X.env (.ref Dd)) _ _ _;refine Fk (zho (v:=.ref Dd) R.inv hN hi' (.inl hl) rfl (?_) (.inr hl));rintro s7 I7 ⟨a,sb,ha⟩;have hCa:C≠a:=fun z=>by
   rcases ha with q | q
   . exact R.ne (z.trans q)
   . exact R.cells _ _ q z.symm
 refine⟨m5,hn.sameBut sb hCa,fun h' hsb=>?_⟩;refine⟨_,H5,I7.turned (t':=s7.toks) (it:=C) (fun b o hb q=>(hsb.2 b hb).trans q) R.free R.ne (.inr R.young) R.cells R.pin,?_⟩;exact w _ _ ka X5 S5 ((E.ext S X5).set i R5)
end
section
variable {X:Cx} {e a b c:Expr} {es:List Expr} {pos:Pos} {m ma mb mc:ME} {mm:MA}
variable {K:Ab} {H:Hp} {io ka:List Addr} {st st':Sto}
def addD:G2
 | .int i,.int j,st=>some (.int (i+j),st)
 | .str a,.str b,st=>if fits (a.length+b.length)=true then some (.str (a++b),st) else none
 | .tup a,.tup b,st=>if (!a.isEmpty&&fits (a.length+b.length))=true then some (.tup (a++b),st) else none
 | .ref a,.ref b,st=>match st[a]?,st[b]? with
   | some (.lst x),some (.lst y)=>if fits (x.length+y.length)=true then some (.ref st.length,st++[.lst (x++y)]) else none
   | _,_=>none
 | _,_,_=>none
def zaJ:OpM X (binaryOp .Add) addD:=by
 rintro pins s σ H x y v u Q I rx ry ⟨dx,dy,st,io,d,st',Rx,Ry,S,e,k⟩
 cases dx with
 | int i =>
   cases dy with
   | int j=>cases e;exact zsl pins s σ H x y v u Q I rx ry ⟨i,j,Rx,Ry,k.now S rfl⟩
   | _=>cases e
 | str i =>
   cases dy with
   | str j =>
     obtain⟨hf,e⟩:=zam e
     cases e;exact zjB pins s σ H x y v u Q I rx ry ⟨i,j,Rx,Ry,of_decide_eq_true hf,k.now S rfl⟩
   | _=>cases e
 | tup i =>
   cases dy with
   | tup j =>
     obtain⟨hf,e⟩:=zam e;cases e;rw[Ao] at hf;obtain⟨p,xs,ex,hp,r1⟩:=Rx;obtain⟨q,ys,ey,hq,r2⟩:=Ry;refine zpM pins s σ H x y v u Q I rx ry ⟨p,q,xs,ys,ex,ey,SqT.of hp,SqT.of hq,fun z=>?_,by rw[r1.length,r2.length];exact of_decide_eq_true hf.2,fun z=>?_,fun z p hp=>k.tup S (r1.append r2) hp⟩
     . have:=r1.length;rw[z] at this;have:i=[]:=Co this.symm;rw[this] at hf;exact absurd hf.1 (by decide)
     . have:=r2.length;rw[z] at this;have:j=[]:=Co this.symm;subst this;rw[Ap] at k;exact k.now S ⟨p,xs,rfl,hp,r1⟩
   | _=>cases e
 | ref i =>
   cases dy with
   | ref j =>
     unfold addD at e;dsimp only at e
     split at e
     . rename_i l1 l2 e1 e2;obtain⟨hf,e⟩:=zam e;cases e;obtain⟨p,ex,hp⟩:=Rx;obtain⟨q,ey,hq⟩:=Ry;obtain⟨xs,h1,r1⟩:=S.ob i p _ hp e1;obtain⟨ys,h2,r2⟩:=S.ob j q _ hq e2;exact zsk pins s σ H x y v u Q I rx ry ⟨p,q,xs,ys,ex,ey,h1,h2,by rw[r1.length,r2.length];exact of_decide_eq_true hf,fun p hp=>k.lst S (r1.append r2) hp⟩
     . cases e
   | _=>cases e
 | _=>cases e
def intD(c:Int->Int->Bool)(g:Int->Int->D):G2
 | .int i,.int j,st=>if c i j=true then some (g i j,st) else none
 | _,_,_=>none
def zeK{f:Value->Value->Sem Value}{C:Int->Int->Prop}{c:Int->Int->Bool}{g:Int->Int->Int}(h:OpR X f (rI C fun i j=>.int (g i j)))(hc:∀ i j,c i j=true->C i j):OpM X f (intD c fun i j=>.int (g i j)):=by
 rintro pins s σ H x y v u Q I rx ry ⟨dx,dy,st,io,d,st',Rx,Ry,S,e,k⟩
 cases dx with
 | int i =>
   cases dy with
   | int j =>
     obtain⟨hf,e⟩:=zam e
     cases e;exact h pins s σ H x y v u Q I rx ry ⟨i,j,Rx,Ry,hc i j hf,k.now S rfl⟩
   | _=>cases e
 | _=>cases e
def tt2:Int->Int->Bool:=fun _ _=>true
def subD:G2:=intD tt2 fun i j=>.int (i - j)
def zeI:OpM X (binaryOp .Sub) subD:=zeK (C:=fun _ _=>True) (fun pins s σ H x y v u Q I rx ry ⟨i,j,h1,h2,_,q⟩=>zsf pins s σ H x y v u Q I rx ry ⟨i,j,h1,h2,q⟩) fun _ _ _=>trivial
def in64(i:Int):Bool:=decide (-(2 ^ 64) < i)&&decide (i < 2 ^ 64)
def mulD:G2:=intD (fun i j=>in64 i || in64 j) fun i j=>.int (i*j)
def zpJ:OpM X (binaryOp .Mult) mulD:=zeK zsg fun i j h=>by
 rw[FZ] at h;unfold in64 at h;rw[Ao,Ao] at h
 rcases h with h | h
 . exact .inl ⟨of_decide_eq_true h.1,of_decide_eq_true h.2⟩
 . exact .inr ⟨of_decide_eq_true h.1,of_decide_eq_true h.2⟩
def modD:G2:=intD (fun _ j=>decide (0 < j)) fun i j=>.int (i % j)
def zcm:OpM X (binaryOp .Mod) modD:=zeK zsh fun i j h=>of_decide_eq_true h
def cmpD(g:Int->Int->Bool):G2
 | .int i,.int j,st=>some (.bl (g i j),st)
 | _,_,_=>none
def zhD{f:Value->Value->Sem Value}{g:Int->Int->Bool}(h:OpR X f (rI0 fun i j=>.bl (g i j))):OpM X f (cmpD g):=by
 rintro pins s σ H x y v u Q I rx ry ⟨dx,dy,st,io,d,st',Rx,Ry,S,e,k⟩
 cases dx with
 | int i =>
   cases dy with
   | int j=>cases e;exact h pins s σ H x y v u Q I rx ry ⟨i,j,Rx,Ry,k.now S rfl⟩
   | _=>cases e
 | _=>cases e
def ltD:G2:=cmpD fun i j=>decide (i < j)
def leD:G2:=cmpD fun i j=>decide (i<=j)
def gtD:G2:=cmpD fun i j=>decide (j < i)
def geD:G2:=cmpD fun i j=>decide (j<=i)
def zpK:OpM X (compareOp .Lt) ltD:=zhD zt1
def znD:OpM X (compareOp .LtE) leD:=zhD zt2
def zsj:OpM X (compareOp .Gt) gtD:=zhD zt3
def znE:OpM X (compareOp .GtE) geD:=zhD zt4
def zkO:D->Bool
 | .non=>true
 | _=>false
def zmm:G2:=fun x y st=>match y with
 | .non=>some (.bl !zkO x,st)
 | _=>none
def zpk{v:V}{d:D}(h:Rep K H io v d):decide (v=.non)=zkO d:=by
 cases d with
 | non=>cases (show v=.non from h);rfl
 | bl b=>cases (show v=.bl b from h);rfl
 | int b=>cases (show v=.int b from h);rfl
 | str b=>cases (show v=.str b from h);rfl
 | tup b=>obtain⟨a,xs,rfl,_⟩:=h;rfl
 | ref b=>obtain⟨a,rfl,_⟩:=h;rfl
 | kl b=>obtain⟨a,xs,rfl,_⟩:=h;rfl
 | fn b=>obtain⟨a,rfl,_⟩:=h;rfl
def zjz:OpM X (compareOp .IsNot) zmm:=by
 rintro pins s σ H x y v u Q I rx ry ⟨dx,dy,st,io,d,st',Rx,Ry,S,e,k⟩
 cases dy with
 | non =>
   cases e;refine zpH pins s σ H x y v u Q I rx ry ⟨Ry,?_⟩;rw[zpk Rx];exact k.now S rfl
 | _=>cases e
def negD:D->Sto->Option (D×Sto)
 | .int i,st=>some (.int (-i),st)
 | _,_=>none
def mNeg(m:ME):ME:=fun ρ st=>(m ρ st).bind fun (x,s)=>negD x s
def zrD(ha:SE X a ma):SE X (.UnaryOp .USub a pos) (mNeg ma):=PE.imp (ztW zri ha) <| by
 rintro σ H Q ⟨ρ,st,io,d,st',E,S,e,k⟩;obtain⟨⟨x,s1⟩,e1,e⟩:=zad e
 cases x with
 | int i =>
   cases e;exact⟨ρ,st,io,.int i,_,E,S,e1,fun v H1 k1 X1 S1 R1=>⟨i,R1,k _ H1 k1 X1 S1 rfl⟩⟩
 | _=>cases e
def idxD:G2
 | .tup ds,.int i,st=>(atI ds i).map fun d=>(d,st)
 | .ref n,.int i,st=>(zbA st n).bind fun ds=>(atI ds i).map fun d=>(d,st)
 | .kl ds,.int i,st=>(atI ds i).map fun d=>(d,st)
 | .str z,.int i,st=>if fits z.length=true then (atI z.cps.toList i).map fun c=>(.str ⟨#[c]⟩,st) else none
 | _,_,_=>none
def zkD{xs:List V}{ds:List D}{i:Int}{d:D}(r:Reps K H io xs ds)(h:atI ds i=some d):∃ v,atI xs i=some v/\Rep K H io v d:=by
 unfold atI at h ⊢;rw[r.length];obtain⟨j,hj,h⟩:=zad h;obtain⟨v,hv,rv⟩:=r.get h;exact⟨v,by rw[hj];exact hv,rv⟩
def ix_M:IxR X (r2M X.K idxD):=by
 rintro value slice pins s σ H x y v u Q I rx ry ⟨dx,dy,st,io,d,st',Rx,Ry,S,e,k⟩ hs
 cases dy with
 | int i =>
   cases dx with
   | tup ds =>
     obtain⟨d',e1,e⟩:=zag e;cases e;obtain⟨p,xs,ex,hp,r⟩:=Rx;obtain⟨w,hw,rw'⟩:=zkD r e1;exact zaS value slice pins s σ H x y v u Q I rx ry ⟨p,xs,i,w,ex,Ry,SqT.of hp,hw,k.now S rw'⟩ hs
   | ref n =>
     obtain⟨ds,e0,e⟩:=zad e;obtain⟨d',e1,e⟩:=zag e;cases e;obtain⟨p,ex,hp⟩:=Rx;obtain⟨xs,hx,r⟩:=zaZ S hp e0;obtain⟨w,hw,rw'⟩:=zkD r e1;exact zmy value slice pins s σ H x y v u Q I rx ry ⟨p,xs,i,w,ex,Ry,hx,hw,k.now S rw'⟩ hs
   | kl ds =>
     obtain⟨d',e1,e⟩:=zag e;cases e;obtain⟨p,xs,ex,hx,r⟩:=Rx;obtain⟨w,hw,rw'⟩:=zkD r e1;exact zmy value slice pins s σ H x y v u Q I rx ry ⟨p,xs,i,w,ex,Ry,hx.sq,hw,k.now S rw'⟩ hs
   | str z =>
     obtain⟨hf,e⟩:=zam e;obtain⟨d',e1,e⟩:=zag e;cases e;exact zjY value slice pins s σ H x y v u Q I rx ry ⟨z,i,d',Rx,Ry,of_decide_eq_true hf,e1,k.now S rfl⟩ hs
   | _=>cases e
 | _=>cases dx <;> cases e
def ztQ(ha:SE X a ma)(hb:SE X b mb)(hs:zkK b:=by intro _ _;rfl):SE X (.Subscript a b pos) (mBin idxD ma mb):=PE.imp (ztY ix_M ha hb hs) fun _ _ _ h=>zdO h
def lenD:GN
 | [.tup ds],st=>some (.int ds.length,st)
 | [.ref n],st=>(zbA st n).map fun ds=>(.int ds.length,st)
 | [.kl ds],st=>some (.int ds.length,st)
 | [.str z],st=>if fits z.length=true then some (.int z.length,st) else none
 | _,_=>none
def zbY:zdf X (.builtin "len") lenD:=by
 rintro pins s σ H xs us Q I r ⟨ds,st,io,d,st',R,S,e,k⟩
 cases ds with
 | nil=>cases e
 | cons d0 r0 =>
 cases r0 with
 | cons d1 r1=>cases d0 <;> cases e
 | nil =>
 cases d0 with
 | tup ts =>
   cases e;obtain⟨v,rfl,p,ys,rfl,hp,r1⟩:=R.one;refine zcU pins s σ H _ us Q I r ⟨p,ys,rfl,.inr (SqT.of hp),?_⟩;rw[r1.length];exact k.now S rfl
 | ref n =>
   obtain⟨ts,e0,e⟩:=zag e;cases e;obtain⟨v,rfl,p,rfl,hp⟩:=R.one;obtain⟨ys,hx,r1⟩:=zaZ S hp e0;refine zcU pins s σ H _ us Q I r ⟨p,ys,rfl,.inl hx,?_⟩;rw[r1.length];exact k.now S rfl
 | kl ts =>
   cases e;obtain⟨v,rfl,p,ys,rfl,hx,r1⟩:=R.one;refine zcU pins s σ H _ us Q I r ⟨p,ys,rfl,.inl hx.sq,?_⟩;rw[r1.length];exact k.now S rfl
 | str z =>
   obtain⟨hf,e⟩:=zam e;cases e;obtain⟨v,rfl,rfl⟩:=R.one;exact zhh pins s σ H _ us Q I r ⟨z,rfl,of_decide_eq_true hf,k.now S rfl⟩
 | _=>cases e
def intC:GN
 | [.int i],st=>some (.int i,st)
 | [.bl b],st=>some (.int (if b then 1 else 0),st)
 | _,_=>none
def zl4:zdf X (.type "int") intC:=by
 rintro pins s σ H xs us Q I r ⟨ds,st,io,d,st',R,S,e,k⟩
 cases ds with
 | nil=>cases e
 | cons d0 r0 =>
 cases r0 with
 | cons d1 r1=>cases d0 <;> cases e
 | nil =>
 cases d0 with
 | int i =>
   cases e;obtain⟨v,rfl,rfl⟩:=R.one;exact zh1 pins s σ H _ us Q I r (.inl ⟨i,rfl,k.now S rfl⟩)
 | bl b =>
   cases e;obtain⟨v,rfl,rfl⟩:=R.one;exact zh1 pins s σ H _ us Q I r (.inr ⟨b,rfl,k.now S rfl⟩)
 | _=>cases e
def zp7:GN
 | [.int i,.int j],st=>some (.int (if j < i then j else i),st)
 | _,_=>none
def zl2(hc:X.calm=true):zdf X (.builtin "min") zp7:=by
 rintro pins s σ H xs us Q I r ⟨ds,st,io,d,st',R,S,e,k⟩;unfold zp7 at e
 split at e
 . rename_i i j;cases e;obtain⟨v,u,rfl,rfl,rfl⟩:=R.two;exact zl3 hc pins s σ H _ us Q I r ⟨i,j,rfl,k.now S rfl⟩
 . cases e
def zra:GN
 | [.tup ds],st=>if fits ds.length=true then some (.ref st.length,st++[.lst ds]) else none
 | [.ref n],st=>(zbA st n).bind fun ds=>if fits ds.length=true then some (.ref st.length,st++[.lst ds]) else none
 | [.kl ds],st=>if fits ds.length=true then some (.ref st.length,st++[.lst ds]) else none
 | _,_=>none
def zku:zdf X (.type "list") zra:=by
 rintro pins s σ H xs us Q I r ⟨ds,st,io,d,st',R,S,e,k⟩
 cases ds with
 | nil=>cases e
 | cons d0 r0 =>
 cases r0 with
 | cons d1 r1=>cases d0 <;> cases e
 | nil =>
 cases d0 with
 | tup ts =>
   obtain⟨hf,e⟩:=zam e;cases e;obtain⟨v,rfl,p,ys,rfl,hp,r1⟩:=R.one;exact zcT pins s σ H _ us Q I r ⟨p,ys,rfl,.inr (SqT.of hp),fun l hl=>k.lst S r1 hl⟩
 | ref n =>
   obtain⟨ts,e0,e⟩:=zad e;obtain⟨hf,e⟩:=zam e;cases e;obtain⟨v,rfl,p,rfl,hp⟩:=R.one;obtain⟨ys,hx,r1⟩:=zaZ S hp e0;exact zcT pins s σ H _ us Q I r ⟨p,ys,rfl,.inl hx,fun l hl=>k.lst S r1 hl⟩
 | kl ts =>
   obtain⟨hf,e⟩:=zam e;cases e;obtain⟨v,rfl,p,ys,rfl,hx,r1⟩:=R.one;exact zcT pins s σ H _ us Q I r ⟨p,ys,rfl,.inl hx.sq,fun l hl=>k.lst S r1 hl⟩
 | _=>cases e
def zc0:GN
 | [.tup ds],st=>some (.tup ds,st)
 | [.ref n],st=>(zbA st n).map fun ds=>(.tup ds,st)
 | _,_=>none
def zbu:zdf X (.type "tuple") zc0:=by
 rintro pins s σ H xs us Q I r ⟨ds,st,io,d,st',R,S,e,k⟩
 cases ds with
 | nil=>cases e
 | cons d0 r0 =>
 cases r0 with
 | cons d1 r1=>cases d0 <;> cases e
 | nil =>
 cases d0 with
 | tup ts =>
   cases e;obtain⟨v,rfl,p,ys,rfl,hp,r1⟩:=R.one;exact zdB pins s σ H _ us Q I r ⟨p,ys,rfl,.inr ⟨SqT.of hp,k.now S ⟨p,ys,rfl,hp,r1⟩⟩⟩
 | ref n =>
   obtain⟨ts,e0,e⟩:=zag e;cases e;obtain⟨v,rfl,p,rfl,hp⟩:=R.one;obtain⟨ys,hx,r1⟩:=zaZ S hp e0;exact zdB pins s σ H _ us Q I r ⟨p,ys,rfl,.inl ⟨hx,fun l hl=>k.tup S r1 hl⟩⟩
 | _=>cases e
end
def toPs(f:D->Option PyData):List D->Option (List PyData)
 | []=>some []
 | d::ds=>(f d).bind fun p=>(toPs f ds).map fun ps=>p::ps
def toP:Nat->Sto->D->Option PyData
 | 0,_,_=>none
 | n+1,st,d=>match d with
   | .non=>some .none
   | .bl b=>some (.bool b)
   | .int i=>some (.int i)
   | .str x=>if Bg x=true then some (.str x) else none
   | .tup ds=>(toPs (toP n st) ds).map .tuple
   | .ref k=>(zbA st k).bind fun ds=>(toPs (toP n st) ds).map .list
   | .kl _=>none
   | .fn _=>none
def zds{n:Nat}:∀ {ps:List PyData},(∀ p∈ps,p.depth<=n)->D8 ps<=n
 | [],_=>by rw[D8];exact A0 _
 | p::ps,h=>by
   rw[D8];exact Nat.max_le.mpr ⟨h p An,zds fun q hq=>h q (Ak _ hq)⟩
def zeg{ps:List PyData}:(∀ p∈ps,p.canLay0=true)->BA ps=true:=by
 induction ps with
 | nil=>intro _;simp only[BA]
 | cons p ps ih =>
   intro h;simp only[BA];rw[h p An,ih fun q hq=>h q (Ak _ hq)];rfl
def zgD{f:D->Option PyData}:∀ {ds:List D} {ps:List PyData},toPs f ds=some ps->∀ p∈ps,∃ d,f d=some p
 | [],ps,h,p,hp=>by cases h;exact absurd hp (by simp)
 | d::ds,ps,h,p,hp=>by
   obtain⟨q,e1,h⟩:=zad h;obtain⟨qs,e2,h⟩:=zag h;subst h
   rcases List.mem_cons.mp hp with rfl | hp
   . exact⟨d,e1⟩
   . exact zgD e2 p hp
def zdP:∀ {n:Nat} {st:Sto} {d:D} {p:PyData},toP n st d=some p->p.canLay0=true/\p.depth<=n
 | 0,_,_,_,h=>by cases h
 | n+1,st,d,p,h=>by
   cases d with
   | non=>cases h;exact⟨by simp only[Bz],by simp only[CM];exact A0 _⟩
   | bl b=>cases h;exact⟨by simp only[Bz],by simp only[CM];exact A0 _⟩
   | int b=>cases h;exact⟨by simp only[Bz],by simp only[CM];exact A0 _⟩
   | str b =>
     obtain⟨hs,h⟩:=zam h
     cases h;exact⟨by simp only[Bz];exact hs,by simp only[CM];exact A0 _⟩
   | tup ds =>
     obtain⟨ps,e,h⟩:=zag h;subst h;have q:∀ p∈ps,p.canLay0=true/\p.depth<=n:=fun p hp=>let ⟨d,hd⟩:=zgD e p hp;zdP hd
     exact⟨by simp only[Bz];exact zeg fun p hp=>(q p hp).1,by simp only[CM];exact CA (zds fun p hp=>(q p hp).2)⟩
   | kl ds=>cases h
   | fn ds=>cases h
   | ref k =>
     obtain⟨ds,e0,h⟩:=zad h;obtain⟨ps,e,h⟩:=zag h;subst h;have q:∀ p∈ps,p.canLay0=true/\p.depth<=n:=fun p hp=>let ⟨d,hd⟩:=zgD e p hp;zdP hd
     exact⟨by simp only[Bz];exact zeg fun p hp=>(q p hp).1,by simp only[CM];exact CA (zds fun p hp=>(q p hp).2)⟩
section
variable {X:Cx} {a b:Expr} {pos:Pos} {ma mb:ME} {pins:List (Addr×Obj)} {σ:L2.St} {H:Hp} {s:Shared} {io:List Addr} {st:Sto}
def zdi{f:D->Option PyData}(hf:∀ {v:V} {u:Value} {d:D} {p:PyData},Rep X.K H io v d->RelV v u->f d=some p->∃ as,Reads s.heap u p as) :
   ∀ {xs:List V} {us:List Value} {ds:List D} {ps:List PyData},Reps X.K H io xs ds->Vals xs us->toPs f ds=some ps->∃ as,ReadsAll s.heap us ps as
 | _,_,[],ps,h,r,e=>by
   cases (show _=[] from h)
   cases r;cases e;exact⟨_,.nil⟩
 | _,_,d::ds,ps,h,r,e=>by
   obtain⟨y,ys,rfl,h1,h2⟩:=h
   cases r with
   | cons r1 r2 =>
     obtain⟨q,e1,e⟩:=zad e;obtain⟨qs,e2,e⟩:=zag e;subst e;obtain⟨as,ra⟩:=hf h1 r1 e1;obtain⟨bs,rb⟩:=zdi hf h2 r2 e2;exact⟨_,.cons ra rb⟩
def zbO(I:Inv X pins σ H s)(S:StR X.K H io st):∀ {n:Nat} {v:V} {u:Value} {d:D} {p:PyData},Rep X.K H io v d->RelV v u->toP n st d=some p->∃ as,Reads s.heap u p as
 | 0,_,_,_,_,_,_,h=>by cases h
 | n+1,v,u,d,p,h,r,e=>by
   cases d with
   | non=>cases e;cases (show v=.non from h);cases r;exact⟨_,.none⟩
   | bl b=>cases e;cases (show v=.bl b from h);cases r;exact⟨_,.bool _⟩
   | int b=>cases e;cases (show v=.int b from h);obtain⟨t,rfl⟩:=r;exact⟨_,.int _ _⟩
   | str b =>
     obtain⟨hs,e⟩:=zam e
     cases e;cases (show v=.str b from h);obtain⟨t,rfl⟩:=r;exact⟨_,.str _ _⟩
   | tup ds =>
     obtain⟨ps,e',q⟩:=zag e;subst q;obtain⟨a,xs,rfl,ha,rs⟩:=h;cases r;obtain⟨its,rv,⟨o,ho,hc,k,hd⟩,hz⟩:=I.tuple (SqT.of ha);obtain⟨as,ra⟩:=zdi (f:=toP n st) (fun h r e=>zbO I S h r e) rs rv e';exact⟨_,.tuple ho hc hd (by simpa using ra)⟩
   | kl ds=>cases e
   | fn ds=>cases e
   | ref k =>
     obtain⟨ds,e0,e⟩:=zad e;obtain⟨ps,e',q⟩:=zag e;subst q;obtain⟨a,rfl,ha⟩:=h;cases r;obtain⟨xs,hx,rs⟩:=zaZ S ha e0;obtain⟨its,rv,⟨o,k,ho,hc,_,hd⟩,hz⟩:=I.list hx;obtain⟨as,ra⟩:=zdi (f:=toP n st) (fun h r e=>zbO I S h r e) rs rv e';exact⟨_,.list ho hc hd (by simpa using ra)⟩
def eqD:G2:=fun x y st=>(toP 100 st x).bind fun p=>(toP 100 st y).map fun q=>(.bl (De p q),st)
def neD:G2:=fun x y st=>(toP 100 st x).bind fun p=>(toP 100 st y).map fun q=>(.bl !PyData.eqv p q,st)
def zf3(hu:X.A.units+100 < cLine):OpM X (compareOp .Eq) eqD:=by
 rintro pins s σ H x y v u Q I rx ry ⟨dx,dy,st,io,d,st',Rx,Ry,S,e,k⟩;obtain⟨p,e1,e⟩:=zad e;obtain⟨q,e2,e⟩:=zag e;cases e;obtain⟨as,ra⟩:=zbO I S Rx rx e1;obtain⟨bs,rb⟩:=zbO I S Ry ry e2;have h1:=zdP e1;have h2:=zdP e2;exact PySem.SeqAt.compareEq_reads ra rb h1.1 h2.1 (BG (Dk (Az (F3 _ _) h1.2) _) hu) ⟨.bl _,H,I,rfl,k.now S rfl⟩
def znB(hu:X.A.units+100 < cLine):OpM X (compareOp .NotEq) neD:=by
 rintro pins s σ H x y v u Q I rx ry ⟨dx,dy,st,io,d,st',Rx,Ry,S,e,k⟩;obtain⟨p,e1,e⟩:=zad e;obtain⟨q,e2,e⟩:=zag e;cases e;obtain⟨as,ra⟩:=zbO I S Rx rx e1;obtain⟨bs,rb⟩:=zbO I S Ry ry e2;have h1:=zdP e1;have h2:=zdP e2;exact PySem.SeqAt.compareNe_reads ra rb h1.1 h2.1 (BG (Dk (Az (F3 _ _) h1.2) _) hu) ⟨.bl _,H,I,rfl,k.now S rfl⟩
def zbN{k:Nat}{A:Around}(hr:Room k A):A.units+100 < cLine:=by have:=hr.un;omega
end
section
variable {X:Cx} {pins:List (Addr×Obj)} {σ:L2.St} {H:Hp} {s:Shared} {h':Heap}
def Inv.turnNew{t':Nat}{fp:List Addr}{p:Addr}{o:HO}(I:Inv X pins σ H s)(hf:∀ b∈fp,FpOk X pins H b)(k:∀ b ob,b ∉ fp->s.heap.get? b=some ob->h'.get? b=some ob)(hp:s.heap.objs.size<=p)
   (hfp:∀ b∈fp,∀ ob,s.heap.get? b=some ob->∃ ob',h'.get? b=some ob') (new:zcW X.prog X.w (upd H p o) h' p o):Inv X pins σ (upd H p o) { s with heap:=h',toks:=t' }:=by
 have hpn:=I.hok.fresh hp;have nlt:∀ b ob,s.heap.get? b=some ob->b≠p:=fun b ob e=>As (AC (Aj e) hp);refine Inv.step (ch:=fp) (g':=s.gens) (d':=s.drawn) I (fun b hb=>⟨(hf b hb).2.2.2.1,(hf b hb).2.1,(hf b hb).2.2.2.2.1,(hf b hb).2.2.2.2.2⟩) (fun b ob _ _ hc e _=>k b ob hc e) (fun b ob _ _ hc e _=>⟨ob.slots,k b ob hc e⟩)
   (fun b ob hc e n=>by rw[zat (nlt b ob e)];exact n) (fun b ob hc e=>⟨ob,k b ob hc e⟩) (fun b xs e=>by rw[zat (zau e hpn)];exact e) (fun b ob u e=>by rw[zat (zau e hpn)];exact e)
   (fun b ps e=>⟨#[],by rw[zat (zau e hpn),e];simp⟩) (fun m hm=>?_) (fun b u e=>?_) I.bare
 . obtain⟨ob,es,ep,ho,r⟩:=hm;exact⟨ob,es,ep,k _ ob (fun z=>(hf _ z).2.1 rfl) ho,r⟩
 . by_cases hb:b=p
   . subst hb;rw[zbi] at e;cases e;exact new
   . rw[zat hb] at e;refine (I.hok b u e).stay (fun c v hc q=>k c v (fun z=>?_) q) (fun c q=>by rw[zat (zau q hpn)];exact q) fun c xs q=>by rw[zat (zau q hpn)];exact q
     have hz:=(hf c z).1
     rcases hc with rfl | hc
     . rw[hz] at e;cases e
     . rw[hz] at hc;cases hc
def Inv.turnAll{t':Nat}{fp:List Addr}(I:Inv X pins σ H s)(hf:∀ b∈fp,FpOk X pins H b)(k:∀ b ob,b ∉ fp->s.heap.get? b=some ob->h'.get? b=some ob):Inv X pins σ H { s with heap:=h',toks:=t' }:=by
 refine Inv.step (ch:=fp) (g':=s.gens) (d':=s.drawn) I (fun b hb=>⟨(hf b hb).2.2.2.1,(hf b hb).2.1,(hf b hb).2.2.2.2.1,(hf b hb).2.2.2.2.2⟩) (fun b ob _ _ hc e _=>k b ob hc e) (fun b ob _ _ hc e _=>⟨ob.slots,k b ob hc e⟩)
   (fun b ob hc e n=>n) (fun b ob hc e=>⟨ob,k b ob hc e⟩) (fun b xs e=>e) (fun b ob u e=>e)
   (fun b ps e=>⟨#[],by rw[e];simp⟩) (fun m hm=>?_) (fun b u e=>?_) I.bare
 . obtain⟨ob,es,ep,ho,r⟩:=hm;exact⟨ob,es,ep,k _ ob (fun z=>(hf _ z).2.1 rfl) ho,r⟩
 . refine (I.hok b u e).stay (fun c v hc q=>k c v (fun z=>?_) q) (fun c q=>q) fun c xs q=>q;have hz:=(hf c z).1
   rcases hc with rfl | hc
   . rw[hz] at e;cases e
   . rw[hz] at hc;cases hc
end
section
variable {X:Cx} {m:ME}
def boot_enumerate:bootBuiltins "enumerate"=some (.type "enumerate"):=by decide +kernel
def pairs(ds:List D):List D:=(ds.zipIdx).map fun (d,k)=>.tup [.int (k:Nat),d]
def zhC{ds:List D}{i:Nat}{d:D}(h:(pairs ds)[i]?=some d):∃ e,ds[i]?=some e/\d=.tup [.int (i:Nat),e]:=by
 unfold pairs at h;rw[AD,List.getElem?_zipIdx] at h
 cases e:ds[i]? with
 | none=>rw[e] at h;cases h
 | some x =>
   rw[e] at h;simp at h;exact⟨x,rfl,h.symm⟩
def pairs_len(ds:List D):(pairs ds).length=ds.length:=by unfold pairs;simp
end
section
variable {κ:Type} [DecidableEq κ] {K:Ab} {H:Hp} {io:List Addr}
def valD(kvs:List (κ×D))(k:κ):Option D:=(kvs.find? fun kv=>decide (kv.1=k)).map (·.2)
def putD(kvs:List (κ×D))(k:κ)(d:D):List (κ×D) :=
 if (kvs.any fun kv=>decide (kv.1=k))=true then kvs.map (fun kv=>if kv.1=k then (kv.1,d) else kv) else kvs++[(k,d)]
def KR.any{ps:List (κ×V)}{kvs:List (κ×D)}(r:KR κ K H io ps kvs)(k:κ):(ps.any fun kv=>decide (kv.1=k))=(kvs.any fun kv=>decide (kv.1=k)):=by
 induction r with
 | nil=>rfl
 | cons z t ih=>rw[B2,B2,ih,z.1]
def KR.length{ps:List (κ×V)}{kvs:List (κ×D)}(r:KR κ K H io ps kvs):ps.length=kvs.length:=Bf r
def KR.val{ps:List (κ×V)}{kvs:List (κ×D)}(r:KR κ K H io ps kvs)(k:κ):(valD kvs k=none/\valV ps k=none)\/∃ d v,valD kvs k=some d/\valV ps k=some v/\Rep K H io v d:=by
 induction r with
 | nil=>exact .inl ⟨rfl,rfl⟩
 | @cons p q l1 l2 z t ih =>
   unfold valD valV at *;rw[AL,AL,z.1]
   by_cases e:q.1=k
   . rw[decide_eq_true e];exact .inr ⟨q.2,p.2,rfl,rfl,z.2⟩
   . rw[decide_eq_false e];exact ih
def KR.append{ps qs:List (κ×V)}{kvs lvs:List (κ×D)}(r:KR κ K H io ps kvs)(r':KR κ K H io qs lvs):KR κ K H io (ps++qs) (kvs++lvs):=by
 induction r with
 | nil=>exact r'
 | cons z t ih=>exact .cons z ih
def KR.put{ps:List (κ×V)}{kvs:List (κ×D)}(r:KR κ K H io ps kvs)(k:κ){v:V}{d:D}(rv:Rep K H io v d):KR κ K H io (putK ps k v) (putD kvs k d):=by
 unfold putK putD;rw[KR.any r k]
 by_cases e:(kvs.any fun kv=>decide (kv.1=k))=true
 . rw[if_pos e,if_pos e]
   induction r with
   | nil=>exact .nil
   | @cons p q l1 l2 z t ih =>
     rw[Av,Av];have hrest:KR κ K H io (l1.map fun kv=>if kv.1=k then (kv.1,v) else kv) (l2.map fun kv=>if kv.1=k then (kv.1,d) else kv):=by
       clear ih e
       induction t with
       | nil=>exact .nil
       | @cons p q l1 l2 z t ih =>
         rw[Av,Av];refine .cons ?_ ih;rw[z.1]
         by_cases e:q.1=k
         . rw[if_pos e,if_pos e];exact⟨rfl,rv⟩
         . rw[if_neg e,if_neg e];exact z
     refine .cons ?_ hrest;rw[z.1]
     by_cases e:q.1=k
     . rw[if_pos e,if_pos e];exact⟨rfl,rv⟩
     . rw[if_neg e,if_neg e];exact z
 . rw[if_neg e,if_neg e];exact KR.append r (.cons ⟨rfl,rv⟩ .nil)
end
def keyOf:D->Option Key
 | .int i=>some (.inl i)
 | .str x=>some (.inr x)
 | _=>none
def keysOf:List D->Option (List Key)
 | []=>some []
 | d::ds=>(keyOf d).bind fun k=>(keysOf ds).map fun ks=>k::ks
section
variable {X:Cx} {K:Ab} {H:Hp} {io:List Addr} {st st':Sto} {a b e:Expr} {es:List Expr} {ma mb m:ME} {mm:MA} {pos:Pos}
def zdM{v:V}{d:D}{k:Key}(h:Rep K H io v d)(e:keyOf d=some k):v=kV k:=by
 cases d with
 | int i=>cases e;exact h
 | str i=>cases e;exact h
 | _=>cases e
def zcc:∀ {xs:List V} {ds:List D} {ks:List Key},Reps K H io xs ds->keysOf ds=some ks->xs=ks.map kV
 | _,[],ks,h,e=>by cases e;exact h
 | _,d::ds,ks,h,e=>by
   obtain⟨y,ys,rfl,h1,h2⟩:=h;obtain⟨k,e1,e⟩:=zad e;obtain⟨ks',e2,e⟩:=zag e;subst e;rw[zdM h1 e1,zcc h2 e2];rfl
def look(st:Sto)(n:Nat)(k:D):Option (Option D):=match st[n]? with
 | some (.dk kvs)=>(keyOf k).map fun q=>valD kvs q
 | some (.dt kvs)=>match k with
   | .tup ds=>(keysOf ds).map fun q=>valD kvs q
   | _=>none
 | _=>none
def zg8{n:Nat}{p:Addr}{k:D}{y:V}{r:Option D}(S:StR K H io st)(hp:io[n]?=some p)(ry:Rep K H io y k)(h:look st n k=some r):∃ o,DGet H p y o/\((r=none/\o=none)\/∃ d v,r=some d/\o=some v/\Rep K H io v d):=by
 unfold look at h
 split at h
 . rename_i kvs e;obtain⟨q,e1,h⟩:=zag h;subst h;obtain⟨ps,hH,r⟩:=S.ob n p _ hp e;have ey:=zdM ry e1;subst ey;refine⟨_,DGet.k hH,?_⟩
   rcases KR.val r q with ⟨h1,h2⟩ | ⟨d,v,h1,h2,h3⟩
   . exact .inl ⟨h1,h2⟩
   . exact .inr ⟨d,v,h1,h2,h3⟩
 . rename_i kvs e
   split at h
   . rename_i ds;obtain⟨q,e1,h⟩:=zag h;subst h;obtain⟨ps,hH,r⟩:=S.ob n p _ hp e;obtain⟨b,xs,rfl,hb,rs⟩:=ry;have ex:=zcc rs e1;subst ex;refine⟨_,DGet.t hH hb,?_⟩
     rcases KR.val r q with ⟨h1,h2⟩ | ⟨d,v,h1,h2,h3⟩
     . exact .inl ⟨h1,h2⟩
     . exact .inr ⟨d,v,h1,h2,h3⟩
   . cases h
 . cases h
def ztk(md mk:ME):ME:=fun ρ st=>(md ρ st).bind fun (d,s1)=>(mk ρ s1).bind fun (k,s2)=>match d with
 | .ref n=>(look s2 n k).bind fun r=>r.map fun v=>(v,s2)
 | _=>none
def zpb{o i:Expr}{md mk:ME}(hu:X.A.units+1 < cLine)(ho:SE X o md)(hi:SE X i mk)(hs:NoSl i:=by intro _ _;rfl):SE X (.Subscript o i pos) (ztk md mk):=PE.imp (zml hu ho hi hs) <| by
 rintro σ H Q ⟨ρ,st,io,d,st',E,S,e,k⟩;obtain⟨⟨x,s1⟩,e1,e⟩:=zad e;obtain⟨⟨y,s2⟩,e2,e⟩:=zad e
 cases x with
 | ref n =>
   obtain⟨r,e3,e⟩:=zad e;obtain⟨w,e4,e⟩:=zag e;cases e;subst e4;refine⟨ρ,st,io,_,s1,E,S,e1,fun v1 H1 k1 X1 S1 R1=>⟨ρ,s1,io++k1,y,_,E.ext S X1,S1,e2,fun v2 H2 k2 X2 S2 R2=>?_⟩⟩;obtain⟨p,rfl,hp⟩:=R1;obtain⟨o,g,⟨z,_⟩ | ⟨d',v,hd,hv,rv⟩⟩:=zg8 S2 (za4 hp) R2 e3
   . cases z
   . cases hd;subst hv;exact⟨p,v,rfl,g,((k.on S1 X1).on S2 X2).now S2 rv⟩
 | _=>cases e
def mDIn(neg:Bool)(mk md:ME):ME:=fun ρ st=>(mk ρ st).bind fun (k,s1)=>(md ρ s1).bind fun (d,s2)=>match d with
 | .ref n=>(look s2 n k).map fun r=>(.bl (if neg then !r.isSome else r.isSome),s2)
 | _=>none
def zhX{neg:Bool}{mk md:ME}{σ:L2.St}{Q:VK}(h:tE K (mDIn neg mk md) σ H Q):tE K mk σ H fun y H1=>tE K md σ H1 fun x H2=>∃ a o,x=.ref a/\DGet H2 a y o/\Q (.bl (if neg then !o.isSome else o.isSome)) H2:=by
 obtain⟨ρ,st,io,d,st',E,S,e,k⟩:=h;obtain⟨⟨y,s1⟩,e1,e⟩:=zad e;obtain⟨⟨x,s2⟩,e2,e⟩:=zad e
 cases x with
 | ref n =>
   obtain⟨r,e3,e⟩:=zag e;cases e;refine⟨ρ,st,io,y,s1,E,S,e1,fun v1 H1 k1 X1 S1 R1=>⟨ρ,s1,io++k1,_,_,E.ext S X1,S1,e2,fun v2 H2 k2 X2 S2 R2=>?_⟩⟩;obtain⟨p,rfl,hp⟩:=R2;obtain⟨o,g,z⟩:=zg8 S2 hp (R1.ext S1 X2) e3;have:o.isSome=r.isSome:=by
     rcases z with ⟨a,b⟩ | ⟨d',v,a,b,_⟩
     . rw[a,b];rfl
     . rw[a,b];rfl
   exact⟨p,o,rfl,g,by rw[this];exact ((k.on S1 X1).on S2 X2).now S2 rfl⟩
 | _=>cases e
end
section
variable {X:Cx} {K:Ab} {H:Hp} {io:List Addr} {st st':Sto} {a b c e:Expr} {es:List Expr} {ma mb mc m:ME} {mm:MA} {pos:Pos}
def zrJ{o i:Expr}{md mk:ME}(hu:X.A.units+1 < cLine)(hi:SE X i mk)(ho:SE X o md)(hm:behindInMarks .In o=false:=by rfl):SB X (.Compare i [.In] [o] pos) (mTst (mDIn false mk md)) :=
 PT.imp (zpo (zsb hu hi ho) hm) fun σ H Q h=>zhX (zc1 h)
def zlb{o i:Expr}{md mk:ME}(hu:X.A.units+1 < cLine)(hi:SE X i mk)(ho:SE X o md)(hm:behindInMarks .NotIn o=false:=by rfl):SB X (.Compare i [.NotIn] [o] pos) (mTst (mDIn true mk md)) :=
 PT.imp (zpo (zlm hu hi ho) hm) fun σ H Q h=>zhX (zc1 h)
def dput(st:Sto)(n:Nat)(k d:D):Option Sto:=match st[n]? with
 | some (.dk kvs)=>(keyOf k).bind fun q=>if decide (kvs.length < sizeLine)=true then some (st.set n (.dk (putD kvs q d))) else none
 | some (.dt kvs)=>match k with
   | .tup ds=>(keysOf ds).bind fun q=>if decide (kvs.length < sizeLine)=true then some (st.set n (.dt (putD kvs q d))) else none
   | _=>none
 | _=>none
def zok{n:Nat}{p:Addr}{k d:D}{y v:V}(S:StR K H io st)(hp:io[n]?=some p)(ry:Rep K H io y k)(rv:Rep K H io v d)(h:dput st n k d=some st'):∃ H',DPut H p y v H'/\Ext io [] H H'/\StR K H' (io++[]) st':=by
 unfold dput at h
 split at h
 . rename_i kvs e;obtain⟨q,e1,h⟩:=zad h;obtain⟨hl,h⟩:=zam h;cases h;obtain⟨ps,hH,r⟩:=S.ob n p _ hp e;have ey:=zdM ry e1;subst ey;have:=KR.length r;refine⟨_,DPut.k hH (by rw[this];exact of_decide_eq_true hl),?_⟩;exact zgV S hp e (fun o u z=>by rw[hH] at z;cases z) fun H' T e'=>⟨_,e',KR.put (KR.mono T r) q (Rep.mono T rv)⟩
 . rename_i kvs e
   split at h
   . rename_i ds;obtain⟨q,e1,h⟩:=zad h;obtain⟨hl,h⟩:=zam h;cases h;obtain⟨ps,hH,r⟩:=S.ob n p _ hp e;obtain⟨b,xs,rfl,hb,rs⟩:=ry;have ex:=zcc rs e1;subst ex;have:=KR.length r;refine⟨_,DPut.t hH hb (by rw[this];exact of_decide_eq_true hl),?_⟩;exact zgV S hp e (fun o u z=>by rw[hH] at z;cases z) fun H' T e'=>⟨_,e',KR.put (KR.mono T r) q (Rep.mono T rv)⟩
   . cases h
 . cases h
def zmr(md mk mv:ME):MS:=fun ρ st=>(mv ρ st).bind fun (v,s1)=>(md ρ s1).bind fun (d,s2)=>(mk ρ s2).bind fun (k,s3)=>match d with
 | .ref n=>(dput s3 n k v).map fun s4=>(.nx ρ,s4)
 | _=>none
def zoW{o i value:Expr}{md mk mv:ME}{pos':Pos}(hu:X.A.units+1 < cLine)(ho:SE X o md)(hi:SE X i mk)(hv:SE X value mv)(hs:swapsWith value (some (.Subscript o i pos')) pos.line X.env=pure false:=by rfl) :
   SS X (.Assign [.Subscript o i pos'] value pos) (zmr md mk mv):=PS.imp (zpt hu ho hi hv hs) fun N σ H h=>by
 obtain⟨ρ,st,io,f,st',E,S,e,w⟩:=zcG.mp h;obtain⟨⟨v,s1⟩,e1,e⟩:=zad e;obtain⟨⟨d,s2⟩,e2,e⟩:=zad e;obtain⟨⟨k,s3⟩,e3,e⟩:=zad e
 cases d with
 | ref n =>
   obtain⟨s4,e4,e⟩:=zag e;cases e;refine⟨ρ,st,io,v,s1,E,S,e1,fun v1 H1 k1 X1 S1 R1=>⟨ρ,s1,io++k1,_,s2,E.ext S X1,S1,e2,fun v2 H2 k2 X2 S2 R2=>⟨ρ,s2,(io++k1)++k2,k,s3,(E.ext S X1).ext S1 X2,S2,e3,fun v3 H3 k3 X3 S3 R3=>?_⟩⟩⟩;obtain⟨p,rfl,hp⟩:=R2;obtain⟨H4,g,X4,S4⟩:=zok S3 (za4 hp) R3 ((R1.ext S1 X2).ext S2 X3) e4;refine⟨p,H4,rfl,g,?_⟩;have w3:∀ σ' H' kb,Ext (((io++k1)++k2)++k3) kb H3 H'->_:=zf4 (zf4 (zf4 w X1 S1) X2 S2) X3 S3;exact w3 σ H4 [] X4 S4 ((((E.ext S X1).ext S1 X2).ext S2 X3).ext S3 X4)
 | _=>cases e
def znT(t:Bool):ME:=fun _ st=>some (.ref st.length,st++[if t then .dt [] else .dk []])
def zgQ:SE X (.Dict [] [] pos) (znT true):=PE.imp znw <| by
 rintro σ H Q ⟨ρ,st,io,d,st',E,S,e,k⟩;cases e;intro p hp;obtain⟨E',S'⟩:=zix (o:=.dT []) (ob:=.dt []) S hp fun H' T e=>⟨[],e,.nil⟩
 exact k _ _ [p] E' S' ⟨p,rfl,by rw[<-S.len];exact getElem?_len io p⟩
inductive mtM (K:Ab) (g:D->List D->Sto->Option (D×Sto)) (x:V) (xs:List V) (H:Hp) (Q:VK):Prop
 | mk (dx:D) (ds:List D) (st:Sto) (io:List Addr) (d:D) (st':Sto) (h0:Rep K H io x dx) (h1:Reps K H io xs ds) (h2:StR K H io st) (h3:g dx ds st=some (d,st')) (h4:Bh K io H st' d Q)
def zbQ:D->List D->Sto->Option (D×Sto):=fun x xs st=>match x,xs with
 | .ref n,[d]=>match st[n]? with
   | some (.lst ds)=>if decide (ds.length < sizeLine)=true then some (.non,st.set n (.lst (ds++[d]))) else none
   | _=>none
 | _,_=>none
def append_in{n:Nat}{d:D}{ds:List D}{xs:List D}(h:zbQ (.ref n) xs st=some (d,st')):∃ ds x,st[n]?=some (.lst ds)/\xs=[x]/\ds.length < sizeLine/\d=.non/\st'=st.set n (.lst (ds++[x])):=by
 unfold zbQ at h
 match xs,h with
 | [x],h =>
   dsimp only at h
   split at h
   . rename_i ds e;obtain⟨hl,h⟩:=zam h;cases h;exact⟨ds,x,e,rfl,of_decide_eq_true hl,rfl,rfl⟩
   . cases h
 | [],h=>cases h
 | _::_::_,h=>cases h
def zjH:MtR X "list.append" (mtM X.K zbQ):=by
 rintro pins s σ H x xs v us Q I rx rs ⟨dx,ds,st,io,d,st',Rx,Rs,S,e,k⟩
 cases dx with
 | ref n =>
   obtain⟨l,y,e1,rfl,hl,rfl,rfl⟩:=append_in (ds:=[]) e;obtain⟨p,rfl,hp⟩:=Rx;obtain⟨w,rfl,Rw⟩:=Rs.one;obtain⟨ys,hH,r⟩:=S.ob n p _ hp e1;refine zhH pins s σ H _ _ v us Q I rx rs ⟨p,ys,w,rfl,rfl,hH,by rw[r.length];exact hl,?_⟩;obtain⟨E',S'⟩:=zgV (o:=.lst (ys++[w])) (ob:=.lst (l++[y])) S hp e1 (fun o u z=>by rw[hH] at z;cases z) fun H' T e'=>⟨_,e',(Reps.mono T r).append (Reps.cons (Rep.mono T Rw) Reps.nil)⟩
   exact k _ _ [] E' S' rfl
 | _=>unfold zbQ at e;cases ds <;> cases e
def zmL{n:Nat}{v:V}{l:List D}(R:Rep K H io v (.ref n))(S:StR K H io st)(h:zbA st n=some l):tyV K "list" v H:=by
 obtain⟨p,rfl,hp⟩:=R;obtain⟨xs,hx,_⟩:=zaZ S hp h;exact .inl ⟨rfl,xs,hx⟩
def mApp(m:ME)(mm:MA):ME:=fun ρ st=>(m ρ st).bind fun (x,s1)=>match x with
 | .ref n=>(zbA s1 n).bind fun _=>(mm ρ s1).bind fun (xs,s2)=>zbQ x xs s2
 | _=>none
def zbI{o:Expr}{apos cpos:Pos}(ho:SE X o m)(ha:SA X (e::es) mm)
   (hbase:attributeBase o "append" X.env (eval o X.env)=eval o X.env:=by rfl)
   (hfew:((backTo cpos (starEach (e::es) X.env)).all (fun x=>!x.1)&&(backToKw cpos (keywordEach [] X.env)).all (fun x=>x.1.isSome)
    &&decide ((e::es).length+([]:List Keyword).length+(if ([]:List Keyword).isEmpty then 0 else 1) < 30))=true:=by rfl)
   (hline:(apos.endLine==cpos.line)=true:=by rfl) (hs:starEach (e::es) X.env=(false,eval e X.env)::starEach es X.env:=by rfl) (hplain:(backTo cpos (starEach es X.env)).any (·.1)=false:=by rfl) :
   SE X (.Call (.Attribute o "append" apos) (e::es) [] cpos) (mApp m mm) :=
 PE.imp (ztZ PySem.F.plainAttrs_list PySem.F.slot_list_append PySem.F.type_list_append zjH ho ha hbase hfew hline hs hplain) <| by
   rintro σ H Q ⟨ρ,st,io,d,st',E,S,e,k⟩;obtain⟨⟨x,s1⟩,e1,e⟩:=zad e
   cases x with
   | ref n =>
     obtain⟨l,e0,e⟩:=zad e;obtain⟨⟨xs,s2⟩,e2,e⟩:=zad e;refine⟨ρ,st,io,_,s1,E,S,e1,fun v1 H1 k1 X1 S1 R1=>⟨zmL R1 S1 e0,ρ,s1,io++k1,xs,s2,E.ext S X1,S1,e2,fun vs H2 k2 X2 S2 R2=>?_⟩⟩;exact⟨_,xs,s2,(io++k1)++k2,d,st',R1.ext S1 X2,R2,S2,e,(k.on S1 X1).on S2 X2⟩
   | _=>cases e
noncomputable abbrev MO:=Rho->Sto->Option (Option Int×Sto)
inductive tOm (K:Ab) (m:MO) (σ:L2.St) (H:Hp) (Q:Option Int->Hp->Prop):Prop
 | mk (ρ:Rho) (st:Sto) (io:List Addr) (d:Option Int) (st':Sto) (h1:EnvR K H io σ ρ) (h2:StR K H io st) (h3:m ρ st=some (d,st')) (h4:∀ H' ka,Ext io ka H H'->StR K H' (io++ka) st'->Q d H')
def SO(X:Cx)(e:Option Expr)(m:MO):Prop:=PO X e (tOm X.K m)
def zkN:MO:=fun _ st=>some (none,st)
def zkM(m:ME):MO:=fun ρ st=>(m ρ st).bind fun (d,s)=>match d with
 | .int i=>some (some i,s)
 | _=>none
def zfP:SO X none zkN:=fun pins s σ H Q I ⟨ρ,st,io,d,st',E,S,e,k⟩=>zpw pins s σ H Q I (by cases e;exact k H [] Ext.refl S.nil)
def zfO(h:SE X e m):SO X (some e) (zkM m):=fun pins s σ H Q I ⟨ρ,st,io,d,st',E,S,e,k⟩=>zmk h pins s σ H Q I (by
 obtain⟨⟨x,s1⟩,e1,e⟩:=zad e
 cases x with
 | int i =>
   cases e;exact⟨ρ,st,io,_,_,E,S,e1,fun v1 H1 k1 X1 S1 R1=>⟨i,R1,k H1 k1 X1 S1⟩⟩
 | _=>cases e)
def cutD(xs:List D)(lo hi:Option Int):List D:=(xs.drop (HT.sIx xs.length 0 lo)).take (HT.sIx xs.length xs.length hi - HT.sIx xs.length 0 lo)
def zkn{xs:List V}{ds:List D}(r:Reps K H io xs ds)(lo hi:Option Int):Reps K H io (cutV xs lo hi) (cutD ds lo hi):=by
 unfold cutV cutD;rw[r.length];exact (r.drop _).take _
def slD:D->Option Int->Option Int->Sto->Option (D×Sto):=fun x lo hi st=>match x with
 | .tup ds=>if (decide (HT.sIx ds.length 0 lo=0)&&decide (HT.sIx ds.length ds.length hi=ds.length))=true then none else some (.tup (cutD ds lo hi),st)
 | .ref n=>(zbA st n).map fun ds=>(.ref st.length,st++[.lst (cutD ds lo hi)])
 | _=>none
def mSl(m:ME)(l h:MO):ME:=fun ρ st=>(m ρ st).bind fun (x,s1)=>(l ρ s1).bind fun (lo,s2)=>(h ρ s2).bind fun (hi,s3)=>slD x lo hi s3
def rSlM(K:Ab):V->Option Int->Option Int->Hp->VK->Prop:=fun x lo hi H Q=>rSlT K x lo hi H Q\/rSlL K x lo hi H Q
def sl_M:SlR X (rSlM X.K):=by
 intro pins s σ H x v vl vu lo hi sl Q I rx hs pl pu h
 rcases h with h | h
 . exact zrv pins s σ H x v vl vu lo hi sl Q I rx hs pl pu h
 . exact zmd pins s σ H x v vl vu lo hi sl Q I rx hs pl pu h
def zm5{lo hi:Option Expr}{ml mh:MO}{p2:Pos}(he:SE X e m)(hl:SO X lo ml)(hu:SO X hi mh):SE X (.Subscript e (.Slice lo hi none p2) pos) (mSl m ml mh):=PE.imp (zgY sl_M he hl hu) <| by
 rintro σ H Q ⟨ρ,st,io,d,st',E,S,e,k⟩;obtain⟨⟨x,s1⟩,e1,e⟩:=zad e;obtain⟨⟨lo',s2⟩,e2,e⟩:=zad e;obtain⟨⟨hi',s3⟩,e3,e⟩:=zad e;refine⟨ρ,st,io,x,s1,E,S,e1,fun v1 H1 k1 X1 S1 R1=>⟨ρ,s1,io++k1,lo',s2,E.ext S X1,S1,e2,fun H2 k2 X2 S2=>⟨ρ,s2,(io++k1)++k2,hi',s3,(E.ext S X1).ext S1 X2,S2,e3,fun H3 k3 X3 S3=>?_⟩⟩⟩;have R3:=(R1.ext S1 X2).ext S2 X3;have k':=((k.on S1 X1).on S2 X2).on S3 X3
 cases x with
 | tup ds =>
   have e:(if (decide (HT.sIx ds.length 0 lo'=0)&&decide (HT.sIx ds.length ds.length hi'=ds.length))=true then none else some (D.tup (cutD ds lo' hi'),s3))=some (d,st'):=e
   by_cases hw:(decide (HT.sIx ds.length 0 lo'=0)&&decide (HT.sIx ds.length ds.length hi'=ds.length))=true
   . rw[if_pos hw] at e;cases e
   . rw[if_neg hw] at e;cases e;obtain⟨p,xs,rfl,hp,r⟩:=R3;refine .inl ⟨p,xs,rfl,SqT.of hp,fun z=>hw ?_,fun q hq=>k'.tup S3 (zkn r _ _) hq⟩;rw[r.length] at z;rw[Ao];exact⟨decide_eq_true z.1,decide_eq_true z.2⟩
 | ref n =>
   obtain⟨ds,e0,e⟩:=zag e;cases e;obtain⟨p,rfl,hp⟩:=R3;obtain⟨xs,hx,r⟩:=zaZ S3 hp e0;exact .inr ⟨p,xs,rfl,hx,fun q hq=>k'.lst S3 (zkn r _ _) hq⟩
 | _=>cases e
def zkP:G2:=intD (fun _ j=>decide (0 < j)&&decide (j < 2 ^ 128)) fun i j=>.int (i / j)
def zg0:OpM X (binaryOp .FloorDiv) zkP:=zeK (C:=fun i j=>0 < j/\j < 2 ^ 128) (opI fun i j _ _ _ _ _ hc q=>by
 refine floordiv_int (by omega) (by rw[Int.fdiv_eq_ediv_of_nonneg i (by omega)];exact q) (.inl (PyProof.noPylong_of_log2 ?_));have h0:j.natAbs≠0:=by omega
 have h1:j.natAbs < 2 ^ 128:=by omega
 exact BU ((FH h0).mpr h1) (by decide)) fun i j h=>by
   rw[Ao] at h;exact⟨of_decide_eq_true h.1,of_decide_eq_true h.2⟩
def powB:G2:=intD (fun i j=>decide (0<=j)&&decide ((Builtin.Int.intBits i:Int)*j<=2 ^ 27)) fun i j=>.int (i ^ j.toNat)
def zeJ:OpM X (binaryOp .Pow) powB:=zeK (C:=fun i j=>0<=j/\(Builtin.Int.intBits i:Int)*j<=2 ^ 27) (opI fun i j _ _ _ _ _ hc q=>pow_int hc.1 hc.2 q) fun i j h=>by
   rw[Ao] at h;exact⟨of_decide_eq_true h.1,of_decide_eq_true h.2⟩
end
def subT(t T:String):Bool:=t==T || (t=="bool"&&T=="int")
def sorts:List String:=["NoneType","bool","int","str","tuple","list","dict"]
def kinds:List String:=["bool","int","str","tuple","list","dict"]
def zqh{K:Ab}{t T:String}(ht:t∈sorts)(hT:T∈kinds):Gi K (.type t) (.type T)=some (subT t T):=by
 have all:∀ t∈sorts,∀ T∈kinds,Gi K (.type t) (.type T)=some (subT t T):=by
   intro t ht T hT;simp only[sorts,kinds,Ba,Bd,or_false] at ht hT
   rcases ht with rfl | rfl | rfl | rfl | rfl | rfl | rfl <;> rcases hT with rfl | rfl | rfl | rfl | rfl | rfl <;> rfl
 exact all t ht T hT
def tyName(st:Sto):D->Option String
 | .non=>some "NoneType"
 | .bl _=>some "bool"
 | .int _=>some "int"
 | .str _=>some "str"
 | .tup _=>some "tuple"
 | .ref n=>match st[n]? with
   | some (.lst _)=>some "list"
   | some (.fz _)=>some "list"
   | some (.dk _)=>some "dict"
   | some (.dt _)=>some "dict"
   | _=>none
 | .kl _=>none
 | .fn _=>none
section
variable {X:Cx} {K:Ab} {H:Hp} {io:List Addr} {st st':Sto} {a:Expr} {m:ME} {pos:Pos} {pins:List (Addr×Obj)} {σ:L2.St} {s:Shared}
def zjT{xs:List V}{p:Addr}(I:Inv X pins σ H s)(h:SqL X.K H p xs):EK p "list" s.heap:=by
 obtain⟨its,_,⟨o,n,e,c,_,_⟩,_⟩:=I.list h;exact⟨o,e,c⟩
def zlH{ps:List (Key×V)}{p:Addr}(I:Inv X pins σ H s)(h:H p=some (.dK ps)):EK p "dict" s.heap:=by
 obtain⟨_,_,_,_,o,_,_,e,ex,_⟩:=I.hok p _ h;exact⟨o,e,ex.1⟩
def zlG{ps:List (List Key×V)}{p:Addr}(I:Inv X pins σ H s)(h:H p=some (.dT ps)):EK p "dict" s.heap:=by
 obtain⟨_,_,_,_,o,_,_,e,ex,_⟩:=I.hok p _ h;exact⟨o,e,ex.1⟩
def zqj{d:D}{v:V}{u:Value}{t T:String}{Q:Value->Shared->Prop}{E:Value->Shared->Prop}(I:Inv X pins σ H s)(S:StR X.K H io st)(R:Rep X.K H io v d)(r:RelV v u)(ht:tyName st d=some t)(hT:T∈kinds)
   (q:∀ tk,Q (.bool (subT t T)) { s with toks:=tk }):wpAny (model X.prog X.w) X.A (call (.builtin "isinstance") [u,.type T]) Q E s:=by
 have k:=fun {x:Value} {HH:Heap->Prop} (hs:t∈sorts) (Z:PySem.W.KitX X.K x (.type t) HH) (p:HH s.heap) (hx:x≠.builtin "__main__.__loader__#opaque")=>PySem.W.kia_one (prog:=X.prog) (w:=X.w) (A:=X.A) (E:=E) Z I.kIn p (zqh hs hT) hx q
 cases d with
 | non=>cases ht;cases (show v=.non from R);cases r;exact k (by decide) PySem.W.kitx_none trivial (by intro e;cases e)
 | bl b=>cases ht;cases (show v=.bl b from R);cases r;exact k (by decide) PySem.W.kitx_bool trivial (by intro e;cases e)
 | int b=>cases ht;cases (show v=.int b from R);obtain⟨t,rfl⟩:=r;exact k (by decide) PySem.W.kitx_int trivial (by intro e;cases e)
 | str b=>cases ht;cases (show v=.str b from R);obtain⟨t,rfl⟩:=r;exact k (by decide) PySem.W.kitx_str trivial (by intro e;cases e)
 | tup ds =>
   cases ht;obtain⟨p,xs,rfl,hp,_⟩:=R;cases r;obtain⟨its,_,⟨o,e,c,_⟩,_⟩:=I.tuple (SqT.of hp);exact k (by decide) PySem.W.kitx_tuple ⟨o,e,c⟩ (by intro e;cases e)
 | ref n =>
   obtain⟨p,rfl,hp⟩:=R;cases r;unfold tyName at ht;dsimp only at ht
   split at ht
   . rename_i o e;cases ht;obtain⟨xs,hH,_⟩:=S.ob n p _ hp e;exact k (by decide) Fv (zjT I (SqL.of hH)) (by intro e;cases e)
   . rename_i o e;cases ht;obtain⟨ob,xs,hH,_⟩:=S.ob n p _ hp e;exact k (by decide) Fv (zjT I (.inl (.inr ⟨ob,hH⟩))) (by intro e;cases e)
   . rename_i o e;cases ht;obtain⟨xs,hH,_⟩:=S.ob n p _ hp e;exact k (by decide) Fw (zlH I hH) (by intro e;cases e)
   . rename_i o e;cases ht;obtain⟨xs,hH,_⟩:=S.ob n p _ hp e;exact k (by decide) Fw (zlG I hH) (by intro e;cases e)
   . cases ht
 | kl ds=>cases ht
 | fn ds=>cases ht
def rIsi(K:Ab)(T:String):List V->Hp->VK->Prop:=fun xs H Q=>∃ x d st io t,xs=[x,.ty T]/\Rep K H io x d/\StR K H io st/\tyName st d=some t/\Q (.bl (subT t T)) H
def zor{T:String}(hT:T∈kinds):zkQ X (.builtin "isinstance") (rIsi X.K T):=by
 rintro pins s σ H xs us Q I r ⟨x,d,st,io,t,e,R,S,ht,q⟩;subst e;obtain⟨u,w,rfl,ru,rw'⟩:=r.two;cases rw';exact zqj I S R ru ht hT fun tk=>⟨.bl _,H,I.tok tk,rfl,q⟩
def mIsi(T:String)(m:ME):ME:=fun ρ st=>(m ρ st).bind fun (x,s)=>(tyName s x).map fun t=>(.bl (subT t T),s)
def zm7{T:String}{x y:Str}{p p2:Pos}(hT:T∈kinds)(hg:Gl X "isinstance")(hm:X.mg "isinstance"=none)(ha:SE X a m)(hgy:Gl X y)(hmy:X.mg y=none)(hvy:bootBuiltins y=some (.type T))(hny:y≠"__name__":=by decide)(hdy:(y==("__debug__":Str))=false:=by decide)
   (hs:starEach [a,.Name y p2] X.env=(false,eval a X.env)::starEach [.Name y p2] X.env:=by rfl) (hs2:starEach [.Name y p2] X.env=[(false,eval (.Name y p2) X.env)]:=by rfl) (hpl:(backTo pos (starEach [.Name y p2] X.env)).any (·.1)=false:=by rfl) :
   SE X (.Call (.Name "isinstance" p) [a,.Name y p2] [] pos) (mIsi T m) :=
 PE.imp (zjv (zor hT) hg hm (by decide +kernel) (zjw ha (zjw (zpF (v:=.ty T) hgy hmy hvy rfl hny hdy) zpG hs2) hs) (by decide) (by decide) hs hpl) <| by
   rintro σ H Q ⟨ρ,st,io,d,st',E,S,e,k⟩;obtain⟨⟨x,s1⟩,e1,e⟩:=zad e;obtain⟨t,e2,e⟩:=zag e;cases e;exact⟨ρ,st,io,x,_,E,S,e1,fun v1 H1 k1 X1 S1 R1=>⟨v1,x,_,io++k1,t,rfl,R1,S1,e2,k _ H1 k1 X1 S1 rfl⟩⟩
end
def zdR{α:Type}{le:α->α->Prop}:∀ {l1 l2:List α},l1.Perm l2->l1.Pairwise le->l2.Pairwise le->(∀ a∈l1,∀ b∈l1,le a b->le b a->a=b)->l1=l2
 | [],l2,p,_,_,_=>(List.Perm.nil_eq p)
 | a::l1,[],p,_,_,_=>absurd p.symm (by intro h;have:=h.length_eq;simp at this)
 | a::l1,b::l2,p,h1,h2,an=>by
   obtain⟨ha,h1'⟩:=List.pairwise_cons.mp h1;obtain⟨hb,h2'⟩:=List.pairwise_cons.mp h2;have e:a=b:=by
     have m1:a∈b::l2:=p.mem_iff.mp An;have m2:b∈a::l1:=p.mem_iff.mpr An
     rcases List.mem_cons.mp m1 with q | q
     . exact q
     . rcases List.mem_cons.mp m2 with r | r
       . exact r.symm
       . exact an a An b (Ak _ r) (ha b r) (hb a q)
   subst e;rw[zdR ((List.perm_cons a).mp p) h1' h2' fun x hx y hy=>an x (Ak _ hx) y (Ak _ hy)]
def sle(a b:Str):Bool:=!decide (b.cps.toList < a.cps.toList)
def zdx(ss:List Str):List Str:=ss.mergeSort sle
def zma{a b:Str}(h:a.cps.toList=b.cps.toList):a=b:=by
 obtain⟨x⟩:=a;obtain⟨y⟩:=b;have:x=y:=by
   have h':x.toList=y.toList:=h;exact Array.toList_inj.mp h'
 rw[this]
def zk3(a b:Str):(sle a b || sle b a)=true:=by
 unfold sle;rw[FZ,BM,BM,decide_eq_false_iff_not,decide_eq_false_iff_not]
 by_cases h:b.cps.toList < a.cps.toList
 . exact .inr (List.lt_asymm h)
 . exact .inl h
def zhr(a b c:Str)(h1:sle a b=true)(h2:sle b c=true):sle a c=true:=by
 unfold sle at *;rw[BM,decide_eq_false_iff_not] at *;have h1:a.cps.toList<=b.cps.toList:=h1;have h2:b.cps.toList<=c.cps.toList:=h2;exact List.le_trans h1 h2
def zm2{a b:Str}(h1:sle a b=true)(h2:sle b a=true):a=b:=by
 unfold sle at *;rw[BM,decide_eq_false_iff_not] at *;exact zma (List.le_antisymm h1 h2)
def zeG:∀ {ss:List Str} {p:Str},risingS p ss=true->(p::ss).Pairwise fun a b=>sle a b=true
 | [],p,_=>by simp
 | s::ss,p,h=>by
   have h':(!ltCps s.cps.toList p.cps.toList&&risingS s ss)=true:=h;rw[Ao] at h';have ih:=zeG h'.2;have hps:sle p s=true:=by
     have:=h'.1;rw[ltCps_eq] at this;exact this
   refine List.pairwise_cons.mpr ⟨fun x hx=>?_,ih⟩
   rcases List.mem_cons.mp hx with rfl | hx
   . exact hps
   . exact zhr _ _ _ hps ((List.pairwise_cons.mp ih).1 x hx)
def zfL{ss ss':List Str}(p:ss'.Perm ss)(h:sortedS ss'=true):ss'=zdx ss:=by
 have hp:ss'.Pairwise fun a b=>sle a b=true:=by
   cases ss' with
   | nil=>exact Cp
   | cons x r=>exact zeG h
 refine zdR (p.trans (CC ss sle).symm) hp (D2 (fun a b c=>zhr a b c) zk3 ss) fun a _ b _=>zm2
section
variable {X:Cx} {K:Ab} {H:Hp} {io:List Addr} {st st':Sto} {a b c e:Expr} {es:List Expr} {ma mb mc m:ME} {mm:MA} {pos:Pos} {pins:List (Addr×Obj)} {σ:L2.St} {s:Shared}
def strsOf:List D->Option (List Str)
 | []=>some []
 | .str x::r=>(strsOf r).map fun xs=>x::xs
 | _=>none
def zia{d:D}{r:List D}{ss:List Str}(h:strsOf (d::r)=some ss):∃ x xs,d=.str x/\strsOf r=some xs/\ss=x::xs:=by
 cases d with
 | str x =>
   obtain⟨xs,e,h⟩:=zag h;exact⟨x,xs,rfl,e,h.symm⟩
 | _=>cases h
def zfK(ss:List Str):strsOf (ss.map D.str)=some ss:=by
 induction ss with
 | nil=>rfl
 | cons x r ih=>show (strsOf (r.map D.str)).map _=_;rw[ih];rfl
def zgG:∀ {xs:List V} {us:List Value} {ds:List D} {ss:List Str},Reps K H io xs ds->Vals xs us->strsOf ds=some ss->StrsAre us ss
 | _,_,[],ss,h,r,e=>by
   cases (show _=[] from h);cases r;cases e;exact .nil
 | _,_,d::ds,ss,h,r,e=>by
   obtain⟨y,ys,rfl,h1,h2⟩:=h;obtain⟨x,rest,rfl,e2,rfl⟩:=zia e
   cases r with
   | cons r1 r2 =>
     cases (show y=.str x from h1)
     obtain⟨t,rfl⟩:=r1;exact .cons x t (zgG h2 r2 e2)
def zeZ:∀ {us:List Value} {ss:List Str},StrsAre us ss->Vals (ss.map V.str) us
 | _,_,.nil=>.nil
 | _,_,.cons y t r=>.cons ⟨t,rfl⟩ (zeZ r)
def zkZ(ss:List Str):Reps K H io (ss.map V.str) (ss.map D.str):=by
 induction ss with
 | nil=>exact rfl
 | cons x r ih=>exact Reps.cons rfl ih
def lt64{n:Nat}(h:n < 64):n<=sizeLine:=Az (Cs h) (by decide)
def zcM:GN
 | [.ref n],st=>(zbA st n).bind fun ds=>(strsOf ds).bind fun ss=>if decide (ss.length < 64)=true then some (.ref st.length,st++[.lst ((zdx ss).map D.str)]) else none
 | _,_=>none
def zgq:zdf X (.builtin "sorted") zcM:=by
 rintro pins s σ H xs us Q I r ⟨ds,st,io,d,st',R,S,e,k⟩;unfold zcM at e
 split at e
 . rename_i n;obtain⟨ts,e0,e⟩:=zad e;obtain⟨ss,e1,e⟩:=zad e;obtain⟨hl,e⟩:=zam e;cases e;have hl:=of_decide_eq_true hl;obtain⟨v,rfl,p,rfl,hp⟩:=R.one;obtain⟨u,rfl,ru⟩:=r.one;cases ru;obtain⟨ys,hx,r1⟩:=zaZ S hp e0;obtain⟨its,rv,pl,hz⟩:=I.list hx;have hS:=zgG r1 rv e1;have hlen:its.length=ss.length:=by
     have h1:=rv.length;have h2:=(zeZ hS).length;rw[Ag] at h2;omega
   refine sorted_strs pl.isList hS (by omega) fun out ss' a1 a2 a3=>?_;have es:=zfL a2 a3;obtain⟨ep,hat⟩:=sortedAll_at s.heap its out;have hv:=zeZ a1;have hfree:H (s.heap.objs.size+1)=none:=I.hok.fresh (Cm _);have hlen':(ss'.map V.str).length<=sizeLine:=by rw[Ag,a2.length_eq];exact lt64 hl
   refine⟨.ref (s.heap.objs.size+1),upd H (s.heap.objs.size+1) (.lst (ss'.map V.str)),I.laid (t':=s.toks) (a:=s.heap.objs.size+1) (fun b o q=>sortedAll_old q) (Cm _) ⟨hlen',out.toList,ep,hv,by simpa using hat⟩,rfl,?_⟩;rw[es] at *;exact k.lst S (zkZ _) hfree
 . cases e
def rSlS:V->Option Int->Option Int->Hp->VK->Prop:=fun x lo hi H Q=>∃ z,x=.str z/\z.length<=sizeLine/\Q (.str (Gk z lo hi)) H
def zrw:SlR X rSlS:=by
 rintro pins s σ H x v vl vu lo hi sl Q I rx hs pl pu ⟨z,e,hz,q⟩;subst e;obtain⟨t,rfl⟩:=rx;refine⟨"str",_,F.slot_str_getitem.lookup,FW _ _ _,?_⟩;have fin:∀ t' k,EP X pins σ Q (.str (Gk z lo hi) t') { s with toks:=k }:=fun t' k=>⟨.str _,H,I.tok k,⟨t',rfl⟩,q⟩
 cases pl with
 | none =>
   cases pu with
   | none=>exact Cd (l:=none) (u:=none) (st:=none) hs rfl (CG ⟨Az (DV z _ _) hz,fin⟩)
   | int j tj=>exact Cd (l:=none) (u:=some (j,tj)) (st:=none) hs rfl (CG ⟨Az (DV z _ _) hz,fin⟩)
 | int i ti =>
   cases pu with
   | none=>exact Cd (l:=some (i,ti)) (u:=none) (st:=none) hs rfl (CG ⟨Az (DV z _ _) hz,fin⟩)
   | int j tj=>exact Cd (l:=some (i,ti)) (u:=some (j,tj)) (st:=none) hs rfl (CG ⟨Az (DV z _ _) hz,fin⟩)
def slS:D->Option Int->Option Int->Sto->Option (D×Sto):=fun x lo hi st=>match x with
 | .str z=>if fits z.length=true then some (.str (Gk z lo hi),st) else none
 | _=>none
def mSlS(m:ME)(l h:MO):ME:=fun ρ st=>(m ρ st).bind fun (x,s1)=>(l ρ s1).bind fun (lo,s2)=>(h ρ s2).bind fun (hi,s3)=>slS x lo hi s3
def zk5{lo hi:Option Expr}{ml mh:MO}{p2:Pos}(he:SE X e m)(hl:SO X lo ml)(hu:SO X hi mh):SE X (.Subscript e (.Slice lo hi none p2) pos) (mSlS m ml mh):=PE.imp (zgY zrw he hl hu) <| by
 rintro σ H Q ⟨ρ,st,io,d,st',E,S,e,k⟩;obtain⟨⟨x,s1⟩,e1,e⟩:=zad e;obtain⟨⟨lo',s2⟩,e2,e⟩:=zad e;obtain⟨⟨hi',s3⟩,e3,e⟩:=zad e;refine⟨ρ,st,io,x,s1,E,S,e1,fun v1 H1 k1 X1 S1 R1=>⟨ρ,s1,io++k1,lo',s2,E.ext S X1,S1,e2,fun H2 k2 X2 S2=>⟨ρ,s2,(io++k1)++k2,hi',s3,(E.ext S X1).ext S1 X2,S2,e3,fun H3 k3 X3 S3=>?_⟩⟩⟩;have k':=((k.on S1 X1).on S2 X2).on S3 X3
 cases x with
 | str z =>
   obtain⟨hf,e⟩:=zam e;cases e;exact⟨z,R1,of_decide_eq_true hf,k'.now S3 rfl⟩
 | _=>cases e
def repS(x:Str)(n:Int):Str:=if n < 1 then EW else if (n==1 || x.length==0)=true then x else ⟨(Bx n.toNat x.cps).foldl (·++·) #[]⟩
def zq7:G2
 | .str x,.int n,st=>if (decide (-(2 ^ 62)<=n)&&decide (n < 2 ^ 20)&&decide (x.length*n.toNat<=sizeLine)&&decide ((repS x n).length<=sizeLine))=true then some (.str (repS x n),st) else none
 | _,_,_=>none
def znC:OpM X (binaryOp .Mult) zq7:=by
 rintro pins s σ H x y v u Q I rx ry ⟨dx,dy,st,io,d,st',Rx,Ry,S,e,k⟩;unfold zq7 at e
 split at e
 . rename_i z n;obtain⟨hc,e⟩:=zam e;cases e;rw[Ao,Ao,Ao] at hc;obtain⟨⟨⟨h1,h2⟩,h3⟩,h4⟩:=hc;have h1:=of_decide_eq_true h1;have h2:=of_decide_eq_true h2;have h3:=of_decide_eq_true h3;have h4:=of_decide_eq_true h4
   cases (show x=.str z from Rx)
   cases (show y=.int n from Ry)
   obtain⟨t,rfl⟩:=rx;obtain⟨t2,rfl⟩:=ry;have fin:∀ t' k',EP X pins σ Q (.str (repS z n) t') { s with toks:=k' }:=fun t' k'=>⟨.str _,H,I.tok k',⟨t',rfl⟩,k.now S rfl⟩
   refine PySem.P.mul_str (by rw[decide_eq_false (by omega),decide_eq_false (by omega)];rfl) (fun hn _=>?_) (fun hn _=>?_) ?_
   . have hs:sizeLine=16777216:=Cj;have hnn:((n.toNat:Nat):Int)=n:=Cb (by omega);have hm:(z.length:Int)*n<=2 ^ 63 - 1:=by
       rw[<-hnn,<-F4];omega
     have:=Int.le_ediv_of_mul_le (by omega:0 < n) hm;omega
   . unfold Builtin.Str.tooLong;exact decide_eq_false (by omega)
   . unfold repS at fin h4
     by_cases hn:n < 1
     . rw[if_pos hn] at fin h4 ⊢;exact⟨h4,fin s.toks (s.toks+1)⟩
     . rw[if_neg hn] at fin h4 ⊢;exact CG ⟨h4,fin⟩
 . cases e
end
section
variable {X:Cx} {K:Ab} {H:Hp} {io:List Addr} {st st':Sto} {a b c e:Expr} {es:List Expr} {ma mb mc m:ME} {mm:MA} {pos:Pos} {pins:List (Addr×Obj)} {σ:L2.St} {s:Shared}
def memP(p:PyData):PyData->Option Bool
 | .list xs=>some (xs.any fun y=>De y p)
 | .tuple xs=>some (xs.any fun y=>De y p)
 | _=>none
def inD(neg:Bool):G2:=fun x y st=>(toP 50 st x).bind fun p=>(toP 50 st y).bind fun q=>(memP p q).map fun b=>(.bl (if neg then !b else b),st)
def zeT{xs:List PyData}(h:(PyData.list xs).canLay0=true):BA xs=true:=by simpa only [Bz] using h
def zef{xs:List PyData}(h:(PyData.tuple xs).canLay0=true):BA xs=true:=by simpa only [Bz] using h
def zsi(hu:X.A.units+100 < cLine):OpM X (compareOp .In) (inD false):=by
 rintro pins s σ H x y v u Q I rx ry ⟨dx,dy,st,io,d,st',Rx,Ry,S,e,k⟩;obtain⟨p,e1,e⟩:=zad e;obtain⟨q,e2,e⟩:=zad e;obtain⟨r,e3,e⟩:=zag e;cases e;obtain⟨as,ra⟩:=zbO I S Rx rx e1;obtain⟨bs,rb⟩:=zbO I S Ry ry e2;have h1:=zdP e1;have h2:=zdP e2;have hb:∀ n,X.A.units+1+min n p.depth < cLine:=fun n=>by have:=DU n p.depth;omega
 cases q with
 | list xs=>cases e3;exact PySem.SeqAt.in_list_reads rb ra (zeT h2.1) h1.1 (hb _) ⟨.bl _,H,I,rfl,k.now S rfl⟩
 | tuple xs=>cases e3;exact PySem.SeqAt.in_tuple_reads rb ra (zef h2.1) h1.1 (hb _) ⟨.bl _,H,I,rfl,k.now S rfl⟩
 | _=>cases e3
def zlo(hu:X.A.units+100 < cLine):OpM X (compareOp .NotIn) (inD true):=by
 rintro pins s σ H x y v u Q I rx ry ⟨dx,dy,st,io,d,st',Rx,Ry,S,e,k⟩;obtain⟨p,e1,e⟩:=zad e;obtain⟨q,e2,e⟩:=zad e;obtain⟨r,e3,e⟩:=zag e;cases e;obtain⟨as,ra⟩:=zbO I S Rx rx e1;obtain⟨bs,rb⟩:=zbO I S Ry ry e2;have h1:=zdP e1;have h2:=zdP e2;have hb:∀ n,X.A.units+1+min n p.depth < cLine:=fun n=>by have:=DU n p.depth;omega
 cases q with
 | list xs=>cases e3;exact PySem.SeqAt.notIn_list_reads rb ra (zeT h2.1) h1.1 (hb _) ⟨.bl _,H,I,rfl,k.now S rfl⟩
 | tuple xs=>cases e3;exact PySem.SeqAt.notIn_tuple_reads rb ra (zef h2.1) h1.1 (hb _) ⟨.bl _,H,I,rfl,k.now S rfl⟩
 | _=>cases e3
def inSD:G2
 | .str i,.str j,st=>some (.bl (!(Builtin.Str.occurrences j i 0 j.length 1).isEmpty),st)
 | _,_,_=>none
def zpL:OpM X (compareOp .In) inSD:=by
 rintro pins s σ H x y v u Q I rx ry ⟨dx,dy,st,io,d,st',Rx,Ry,S,e,k⟩;unfold inSD at e
 split at e
 . rename_i i j
   cases e;exact zlp pins s σ H x y v u Q I rx ry ⟨i,j,Rx,Ry,k.now S rfl⟩
 . cases e
end
end L2.MP
namespace Srt
open PySem PySem.W PyProof.Rows
def Hd(n:Nat)(r:Nat->Int){α:Type}:KasT α->(α->Prop)->Prop
 | .ret a,Q=>Q a
 | .ask i j k,Q=>(i < n/\j < n)/\Hd n r (k (decide (r i < r j))) Q
section
variable {n:Nat} {r:Nat->Int} {α β:Type}
def Hd.bind{f:α->KasT β}{Q:β->Prop}:∀ {t:KasT α},Hd n r t (fun a=>Hd n r (f a) Q)->Hd n r (t.bind f) Q
 | .ret _,h=>h
 | .ask i j k,h=>⟨h.1,Hd.bind (t:=k _) h.2⟩
def Hd.mono{P Q:α->Prop}(k:∀ a,P a->Q a):∀ {t:KasT α},Hd n r t P->Hd n r t Q
 | .ret a,h=>k a h
 | .ask i j f,h=>⟨h.1,Hd.mono k (t:=f _) h.2⟩
def zj6{c:Prop}[Decidable c]{A B:KasT α}{Q:α->Prop}(hc:c)(h:Hd n r A Q):Hd n r (if decide c=true then A else B) Q:=by
 rw[decide_eq_true hc,if_pos rfl];exact h
def zj7{c:Prop}[Decidable c]{A B:KasT α}{Q:α->Prop}(hc:¬ c)(h:Hd n r B Q):Hd n r (if decide c=true then A else B) Q:=by
 rw[decide_eq_false hc,if_neg AV];exact h
def Bel(n:Nat)(p:Array Nat):Prop:=∀ k,p.getD k 0 < n
def R(r:Nat->Int)(p:Array Nat)(k:Nat):Int:=r (p.getD k 0)
def Up(r:Nat->Int)(p:Array Nat)(m:Nat):Prop:=∀ i j,i<=j->j < m->R r p i<=R r p j
def Dn(r:Nat->Int)(p:Array Nat)(m:Nat):Prop:=∀ i j,i<=j->j < m->R r p j<=R r p i
def getD_eq{p q:Array Nat}{i j:Nat}(h:p[i]?=q[j]?):p.getD i 0=q.getD j 0:=by
 rw[BW,BW,h]
def zhv{p:Array Nat}{i j:Nat}(hj:j<=p.size)(k:Nat):(kas_rev p i j).getD k 0=if i<=k/\k < j then p.getD (i+j - 1 - k) 0 else p.getD k 0:=by
 have e:=getElem?_mirror_all (i:=i) hj k;unfold kas_rev
 by_cases h:i<=k/\k < j
 . rw[if_pos h] at e ⊢;exact getD_eq e
 . rw[if_neg h] at e ⊢;exact getD_eq e
def zmG{p:Array Nat}{src d:Nat}(hs:src < p.size)(hd:d<=src)(k:Nat):(bubble p src d).getD k 0=if k=src - d then p.getD src 0 else if src - d < k/\k<=src then p.getD (k - 1) 0 else p.getD k 0:=by
 have e:=getElem?_bubble hs d hd k
 by_cases h1:k=src - d
 . rw[if_pos h1] at e ⊢;exact getD_eq e
 . rw[if_neg h1] at e ⊢
   by_cases h2:src - d < k/\k<=src
   . rw[if_pos h2] at e ⊢;exact getD_eq e
   . rw[if_neg h2] at e ⊢;exact getD_eq e
def zfY{p:Array Nat}{i j:Nat}(hj:j<=p.size)(h:Bel n p):Bel n (kas_rev p i j):=fun k=>by
 rw[zhv hj];split
 . exact h _
 . exact h _
def zqF{p:Array Nat}{src d:Nat}(hs:src < p.size)(hd:d<=src)(h:Bel n p):Bel n (bubble p src d):=fun k=>by
 rw[zmG hs hd]
 by_cases h1:k=src - d
 . rw[if_pos h1];exact h _
 . rw[if_neg h1]
   by_cases h2:src - d < k/\k<=src
   . rw[if_pos h2];exact h _
   . rw[if_neg h2];exact h _
def zne(p:Array Nat)(i j:Nat):(kas_rev p i j).size=p.size:=mirror_size _ _ _ _
def zlc(p:Array Nat)(i j:Nat):(kas_rev p i j).Perm p:=mirror_perm _ _ _ _
def Up.more{p:Array Nat}{m:Nat}(h:Up r p m)(hl:m=0\/R r p (m - 1)<=R r p m):Up r p (m+1):=fun i j hij hj=>by
 by_cases hm:j < m
 . exact h i j hij hm
 . have e:j=m:=by omega
   subst e
   by_cases hi:i=j
   . rw[hi];exact CZ _
   . rcases hl with hl | hl
     . omega
     . exact Df (h i (j - 1) (by omega) (by omega)) hl
def Dn.more{p:Array Nat}{m:Nat}(h:Dn r p m)(hl:m=0\/R r p m<=R r p (m - 1)):Dn r p (m+1):=fun i j hij hj=>by
 by_cases hm:j < m
 . exact h i j hij hm
 . have e:j=m:=by omega
   subst e
   by_cases hi:i=j
   . rw[hi];exact CZ _
   . rcases hl with hl | hl
     . omega
     . exact Df hl (h i (j - 1) (by omega) (by omega))
def zou{p:Array Nat}(hb:Bel n p):∀ (f m:Nat),1<=m->Up r p m->Hd n r (kas_asc p f m) fun m'=>m<=m'/\m'<=m+f/\Up r p m'/\(m' < m+f->R r p m' < R r p (m' - 1))
 | 0,m,h1,h=>⟨Af _,Af _,h,fun z=>absurd z (AN _)⟩
 | f+1,m,h1,h=>by
   refine⟨⟨hb _,hb _⟩,?_⟩
   by_cases c:r (p.getD m 0) < r (p.getD (m - 1) 0)
   . refine zj6 c ?_;exact⟨Af _,B8 _ _,h,fun _=>c⟩
   . refine zj7 c ?_;refine Hd.mono (fun m' h'=>?_) (zou hb f (m+1) (by omega) (h.more (.inr (Int.not_lt.mp c))));exact⟨by omega,by omega,h'.2.2.1,fun z=>h'.2.2.2 (by omega)⟩
def Eqs(r:Nat->Int)(p:Array Nat)(i j:Nat):Prop:=∀ k,i<=k->k < j->R r p k=R r p (j - 1)
def zjm{p:Array Nat}{i j:Nat}(hj:j<=p.size)(h:Eqs r p i j)(k:Nat):R r (kas_rev p i j) k=R r p k:=by
 unfold R;rw[zhv hj]
 split
 . rename_i hk;have h1:=h (i+j - 1 - k) (by omega) (by omega);have h2:=h k hk.1 hk.2;exact h1.trans h2.symm
 . rfl
def Dn.same{p p':Array Nat}{m:Nat}(h:Dn r p m)(e:∀ k,R r p' k=R r p k):Dn r p' m:=fun i j a b=>by rw[e,e];exact h i j a b
def zrM{p:Array Nat}{m:Nat}(hm:m<=p.size)(h:Dn r p m):Up r (kas_rev p 0 m) m:=fun i j hij hj=>by
 unfold R;rw[zhv hm,zhv hm,if_pos (by omega),if_pos (by omega)];exact h (0+m - 1 - j) (0+m - 1 - i) (by omega) (by omega)
def zhY{N:Nat}:∀ (f:Nat) (p:Array Nat) (m q:Nat),Bel n p->p.size=N->1<=m->m+f<=N->q+1<=m->Dn r p m->Eqs r p (m - (q+1)) m ->
   Hd n r (kas_desc f p m q) fun t=>Bel n t.1/\t.1.Perm p/\m<=t.2.1/\t.2.1<=m+f/\t.2.2+1<=t.2.1/\Dn r t.1 t.2.1/\Eqs r t.1 (t.2.1 - (t.2.2+1)) t.2.1
 | 0,p,m,q,hb,hs,h1,h2,h3,hd,he=>⟨hb,CH _,Af _,Af _,h3,hd,he⟩
 | f+1,p,m,q,hb,hs,h1,h2,h3,hd,he=>by
   refine⟨⟨hb _,hb _⟩,?_⟩
   by_cases c:r (p.getD m 0) < r (p.getD (m - 1) 0)
   . refine zj6 c ?_;have one:∀ p':Array Nat,Eqs r p' (m+1 - (0+1)) (m+1):=fun p' k h1 h2=>by
       have e:k=m+1 - 1:=by omega
       subst e;rfl
     by_cases hq:q > 0
     . rw[if_pos hq];have hz:m<=p.size:=by omega
       have e:=zjm hz he;refine Hd.mono (fun t ht=>?_) (zhY f (kas_rev p (m - (q+1)) m) (m+1) 0 (zfY hz hb) ((zne _ _ _).trans hs) (by omega) (by omega) (by omega) ((hd.more (.inr (Dg c))).same e) (one _));exact⟨ht.1,ht.2.1.trans (zlc _ _ _),by omega,by omega,ht.2.2.2.2⟩
     . rw[if_neg hq];refine Hd.mono (fun t ht=>?_) (zhY f p (m+1) 0 hb hs (by omega) (by omega) (by omega) (hd.more (.inr (Dg c))) (one _));exact⟨ht.1,ht.2.1,by omega,by omega,ht.2.2.2.2⟩
   . refine zj7 c ?_;refine⟨⟨hb _,hb _⟩,?_⟩
     by_cases d:r (p.getD (m - 1) 0) < r (p.getD m 0)
     . refine zj6 d ?_;exact⟨hb,CH _,Af _,B8 _ _,h3,hd,he⟩
     . refine zj7 d ?_;have eq:R r p m=R r p (m - 1):=F5 (Int.not_lt.mp d) (Int.not_lt.mp c);refine Hd.mono (fun t ht=>?_) (zhY f p (m+1) (q+1) hb hs (by omega) (by omega) (by omega) (hd.more (.inr (Int.not_lt.mp d))) fun k k1 k2=>?_)
       . exact⟨ht.1,ht.2.1,by omega,by omega,ht.2.2.2.2⟩
       . show R r p k=R r p (m+1 - 1)
         by_cases hk:k=m
         . rw[hk];rfl
         . rw[Nat.add_sub_cancel,eq];exact he k (by omega) (by omega)
def zs9(n N:Nat)(r:Nat->Int)(p:Array Nat)(t:Nat×Array Nat):Prop:=Bel n t.2/\t.2.Perm p/\1<=t.1/\t.1<=N/\Up r t.2 t.1
def zi1{N m:Nat}{p:Array Nat}(hb:Bel n p)(hs:p.size=N)(h1:1<=m)(h2:m<=N)(hd:Dn r p m):Hd n r (kas_tail3 m N p) (zs9 n N r p):=by
 unfold kas_tail3;have hz:m<=p.size:=by omega
 refine Hd.bind (Hd.mono (fun m' h'=>?_) (zou (zfY hz hb) (N - m) m h1 (zrM hz hd)));exact⟨zfY hz hb,zlc _ _ _,by omega,by omega,h'.2.2.1⟩
def zeQ{N m:Nat}{p:Array Nat}(hb:Bel n p)(hs:p.size=N)(h1:1<=m)(h2:m+1<=N)(hd:Dn r p (m+1)):Hd n r (kas_descPart m N p) (zs9 n N r p):=by
 unfold kas_descPart;refine Hd.bind (Hd.mono (fun t ht=>?_) (zhY (N:=N) (N - (m+1)) p (m+1) 0 hb hs (by omega) (by omega) (by omega) hd fun k k1 k2=>by
   have:k=m+1 - 1:=by omega
   rw[this]))
 obtain⟨t1,t2,t3,t4,t5,t6,t7⟩:=ht;have hsz:t.1.size=N:=t2.size_eq.trans hs
 by_cases hq:t.2.2 > 0
 . rw[if_pos hq];have hz:t.2.1<=t.1.size:=by omega
   refine Hd.mono (fun u hu=>?_) (zi1 (zfY hz t1) ((zne _ _ _).trans hsz) (by omega) (by omega) (t6.same (zjm hz t7)));exact⟨hu.1,(hu.2.1.trans (zlc _ _ _)).trans t2,hu.2.2⟩
 . rw[if_neg hq];refine Hd.mono (fun u hu=>?_) (zi1 t1 hsz (by omega) (by omega) t6);exact⟨hu.1,hu.2.1.trans t2,hu.2.2⟩
def zon{N:Nat}{p:Array Nat}(hb:Bel n p)(hs:p.size=N)(hN:1<=N):Hd n r (kas_count N p) (zs9 n N r p):=by
 unfold kas_count;have up1:Up r p 1:=fun i j a b=>by
   have:i=j:=by omega
   rw[this];exact CZ _
 refine Hd.bind (Hd.mono (fun m hm=>?_) (zou hb (N - 1) 1 (Af _) up1));obtain⟨m1,m2,m3,m4⟩:=hm
 by_cases e:(m==N)=true
 . rw[if_pos e];exact⟨hb,CH _,m1,by omega,m3⟩
 . rw[if_neg e];have ne:m≠N:=fun z=>e (by simp[z]);have lt:=m4 (by omega)
   by_cases g:m > 1
   . rw[if_pos g];refine⟨⟨hb _,hb _⟩,?_⟩
     by_cases c:r (p.getD 0 0) < r (p.getD (m - 1) 0)
     . refine zj6 c ?_;exact⟨hb,CH _,m1,by omega,m3⟩
     . refine zj7 c ?_;have hz:m<=p.size:=by omega
       have all:∀ k,k < m->R r p k=R r p (m - 1):=fun k hk=>F5 (m3 k (m - 1) (by omega) (by omega)) (Df (Int.not_lt.mp c) (m3 0 k (by omega) hk));have e:=zjm (i:=0) hz fun k _ hk=>all k hk;have dn:Dn r p m:=fun i j a b=>by rw[all i (by omega),all j b];exact CZ _
       refine Hd.mono (fun u hu=>?_) (zeQ (zfY (i:=0) hz hb) ((zne _ _ _).trans hs) m1 (by omega) ((dn.more (.inr (Dg lt))).same e));exact⟨hu.1,hu.2.1.trans (zlc _ _ _),hu.2.2⟩
   . rw[if_neg g];have m1':m=1:=by omega
     subst m1';have dn:Dn r p 1:=fun i j a b=>by
       have:i=j:=by omega
       rw[this];exact CZ _
     exact zeQ hb hs (Af _) (by omega) (dn.more (.inr (Dg lt)))
def zd1{p:Array Nat}{k:Nat}(hb:Bel n p)(hu:Up r p k):∀ (f a b:Nat),a<=b->b<=k->b<=a+f->(∀ x,x < a->R r p x<=R r p k)->(∀ x,b<=x->x < k->R r p k<=R r p x) ->
   Hd n r (kas_place p k f a b) fun l=>l<=k/\(∀ x,x < l->R r p x<=R r p k)/\∀ x,l<=x->x < k->R r p k<=R r p x
 | 0,a,b,h1,h2,h3,hl,hr=>by
   have:a=b:=by omega
   subst this;exact⟨h2,hl,hr⟩
 | f+1,a,b,h1,h2,h3,hl,hr=>by
   unfold kas_place
   by_cases g:a ≥ b
   . rw[if_pos g];have:a=b:=by omega
     subst this;exact⟨h2,hl,hr⟩
   . rw[if_neg g];refine⟨⟨hb _,hb _⟩,?_⟩
     by_cases c:r (p.getD k 0) < r (p.getD ((a+b) / 2) 0)
     . refine zj6 c ?_;refine zd1 hb hu f a ((a+b) / 2) (by omega) (by omega) (by omega) hl fun x x1 x2=>?_;exact Df (Dg c) (hu ((a+b) / 2) x x1 x2)
     . refine zj7 c ?_;refine zd1 hb hu f ((a+b) / 2+1) b (by omega) h2 (by omega) (fun x hx=>?_) hr;exact Df (hu x ((a+b) / 2) (by omega) (by omega)) (Int.not_lt.mp c)
def zqM{N:Nat}:∀ (f:Nat) (p:Array Nat) (k:Nat),Bel n p->p.size=N->k+f=N->Up r p k->Hd n r (kas_bin f p k) fun q=>q.Perm p/\Up r q N
 | 0,p,k,hb,hs,hk,hu=>⟨CH _,by rw[<-hk];exact hu⟩
 | f+1,p,k,hb,hs,hk,hu=>by
   unfold kas_bin;refine Hd.bind (Hd.mono (fun l hl=>?_) (zd1 hb hu k 0 k (A0 _) (Af _) (by omega) (fun x hx=>absurd hx (F6 _)) fun x a b=>absurd (AC b a) (AN _)));obtain⟨l1,l2,l3⟩:=hl;have hks:k < p.size:=by omega
   refine Hd.mono (fun q hq=>⟨hq.1.trans (bubble_perm _ _ _),hq.2⟩) (zqM f (bubble p k (k - l)) (k+1) (zqF hks (by omega) hb) ((bubble_size _ _ _).trans hs) (by omega) fun i j hij hj=>?_);have g:∀ x,R r (bubble p k (k - l)) x=if x=l then R r p k else if l < x/\x<=k then R r p (x - 1) else R r p x:=fun x=>by
     unfold R;rw[zmG hks (by omega)];have e:k - (k - l)=l:=by omega
     rw[e]
     by_cases a1:x=l
     . rw[if_pos a1,if_pos a1]
     . rw[if_neg a1,if_neg a1]
       by_cases a2:l < x/\x<=k
       . rw[if_pos a2,if_pos a2]
       . rw[if_neg a2,if_neg a2]
   rw[g i,g j]
   by_cases h1:i=l
   . rw[if_pos h1]
     by_cases h2:j=l
     . rw[if_pos h2];exact CZ _
     . rw[if_neg h2,if_pos (by omega)];exact l3 (j - 1) (by omega) (by omega)
   . rw[if_neg h1]
     by_cases h2:j=l
     . rw[if_pos h2,if_neg (by omega)];exact l2 i (by omega)
     . rw[if_neg h2]
       by_cases h3:l < i/\i<=k
       . rw[if_pos h3,if_pos (by omega)];exact hu (i - 1) (j - 1) (by omega) (by omega)
       . rw[if_neg h3]
         by_cases h4:l < j/\j<=k
         . rw[if_pos h4];exact hu i (j - 1) (by omega) (by omega)
         . rw[if_neg h4];exact hu i j hij (by omega)
def zld{n:Nat}(hn:1<=n):Bel n (BX (AA n)):=fun k=>by
 rw[BW,List.getElem?_toArray]
 by_cases h:k < n
 . rw[Dm h];exact h
 . rw[List.getElem?_eq_none_iff.mpr (by rw[Cq];omega)];exact hn
def sort_ok(hn:1<=n):Hd n r (kas_sort n) fun q=>q.Perm (BX (AA n))/\Up r q n:=by
 unfold kas_sort;have hs:(BX (AA n)).size=n:=by simp
 refine Hd.bind (Hd.mono (fun t ht=>?_) (zon (zld hn) hs hn));obtain⟨t1,t2,t3,t4,t5⟩:=ht
 by_cases h:t.1 < n
 . rw[if_pos h];have e:max t.1 1=t.1:=Nat.max_eq_left t3;rw[e];refine Hd.mono (fun q hq=>⟨hq.1.trans t2,hq.2⟩) (zqM (N:=n) (n - t.1) t.2 t.1 t1 (t2.size_eq.trans hs) (by omega) t5)
 . rw[if_neg h];have e:t.1=n:=by omega
   exact⟨t2,by rw[<-e];exact t5⟩
end
end Srt
namespace L2.MP
open PySem PySem.Spec PyProof.Rows
def zqc:∀ a:List Int,HT.lexLt a a=false
 | []=>rfl
 | x::r=>by rw[HT.lexLt_cons,if_pos rfl];exact zqc r
def zmu:∀ {a b:List Int},HT.lexLt a b=false->HT.lexLt b a=false->a=b
 | [],[],_,_=>rfl
 | [],_::_,h,_=>by rw[HT.lexLt_nil_cons] at h;cases h
 | _::_,[],_,h=>by rw[HT.lexLt_nil_cons] at h;cases h
 | x::a,y::b,h1,h2=>by
   rw[HT.lexLt_cons] at h1 h2
   by_cases e:x=y
   . subst e;rw[if_pos rfl] at h1 h2;rw[zmu h1 h2]
   . rw[if_neg e] at h1;rw[if_neg (BB e)] at h2;have a1:=of_decide_eq_false h1;have a2:=of_decide_eq_false h2;omega
def zjQ:∀ {a b c:List Int},HT.lexLt b a=false->HT.lexLt c b=false->HT.lexLt c a=false
 | a,[],c,_,h2=>by
   cases c with
   | nil =>
     cases a with
     | nil=>rfl
     | cons x a=>rename_i h1;rw[HT.lexLt_nil_cons] at h1;cases h1
   | cons z c =>
     cases a with
     | nil=>exact HT.lexLt_cons_nil _ _
     | cons x a=>rename_i h1;rw[HT.lexLt_nil_cons] at h1;cases h1
 | a,y::b,[],_,h2=>by rw[HT.lexLt_nil_cons] at h2;cases h2
 | [],y::b,z::c,_,_=>HT.lexLt_cons_nil _ _
 | x::a,y::b,z::c,h1,h2=>by
   rw[HT.lexLt_cons] at h1 h2 ⊢
   by_cases e1:y=x
   . subst e1;rw[if_pos rfl] at h1
     by_cases e2:z=y
     . subst e2;rw[if_pos rfl] at h2 ⊢;exact zjQ h1 h2
     . rw[if_neg e2] at h2 ⊢;exact h2
   . rw[if_neg e1] at h1;have a1:=of_decide_eq_false h1
     by_cases e2:z=y
     . subst e2;rw[if_neg e1];exact h1
     . rw[if_neg e2] at h2;have a2:=of_decide_eq_false h2;rw[if_neg (by omega)];exact decide_eq_false (by omega)
def zmt{a b:List Int}(h:HT.lexLt a b=true):HT.lexLt b a=false:=by
 cases e:HT.lexLt b a with
 | false=>rfl
 | true =>
   -- b < a and a < b: then not (a < a) breaks
   exfalso;have:∀ {a b:List Int},HT.lexLt a b=true->HT.lexLt b a=true->False:=by
     intro a
     induction a with
     | nil=>intro b h1 h2;cases b with
       | nil=>rw[HT.lexLt_nil_nil] at h1;cases h1
       | cons y b=>rw[HT.lexLt_cons_nil] at h2;cases h2
     | cons x a ih=>intro b h1 h2;cases b with
       | nil=>rw[HT.lexLt_cons_nil] at h1;cases h1
       | cons y b =>
         rw[HT.lexLt_cons] at h1 h2
         by_cases q:x=y
         . subst q;rw[if_pos rfl] at h1 h2;exact ih h1 h2
         . rw[if_neg q] at h1;rw[if_neg (BB q)] at h2;have a1:=of_decide_eq_true h1;have a2:=of_decide_eq_true h2;omega
   exact this h e
def tle(a b:List Int):Bool:=!HT.lexLt b a
def zi7(ts:List (List Int)):List (List Int):=ts.mergeSort tle
def zeY(a b c:List Int)(h1:tle a b=true)(h2:tle b c=true):tle a c=true:=by
 unfold tle at *;rw[BM] at *;exact zjQ h1 h2
def zkX(a b:List Int):(tle a b || tle b a)=true:=by
 unfold tle
 cases e:HT.lexLt b a with
 | false=>rfl
 | true=>rw[zmt e];rfl
def zmP{a b:List Int}(h1:tle a b=true)(h2:tle b a=true):a=b:=by
 unfold tle at *;rw[BM] at *;exact zmu h2 h1
def rank(ts:List (List Int))(i:Nat):Int:=((ts.countP fun t=>HT.lexLt t (ts.getD i [])):Nat)
def zmg{ts:List (List Int)}{i j:Nat}(hi:i < ts.length):(decide (rank ts i < rank ts j))=HT.lexLt (ts.getD i []) (ts.getD j []):=by
 unfold rank
 cases e:HT.lexLt (ts.getD i []) (ts.getD j []) with
 | true =>
   refine decide_eq_true ?_;have le:ts.countP (fun t=>HT.lexLt t (ts.getD i [])) < ts.countP (fun t=>HT.lexLt t (ts.getD j [])):=by
     have hm:ts.getD i []∈ts:=by rw[Ax,Ah hi];exact Bm hi
     generalize ha:ts.getD i []=a at *;generalize hb:ts.getD j []=b at *;clear ha hb hi;have sub:∀ t,HT.lexLt t a=true->HT.lexLt t b=true:=fun t ht=>by
       cases q:HT.lexLt t b with
       | true=>rfl
       | false =>
         exfalso
         -- b<=t,t < a,a < b
         have h1:HT.lexLt a t=false:=zmt ht;have:HT.lexLt a b=false:=by
           have h2:tle b t=true:=by unfold tle;rw[q];rfl
           have h3:tle t a=true:=by unfold tle;rw[h1];rfl
           have:=zeY b t a h2 h3;unfold tle at this;rw[BM] at this;exact this
         rw[e] at this;cases this
     induction ts with
     | nil=>exact absurd hm (by simp)
     | cons t r ih =>
       rw[FN,FN]
       rcases List.mem_cons.mp hm with q | q
       . subst q;rw[zqc,e];have:r.countP (fun t=>HT.lexLt t a)<=r.countP (fun t=>HT.lexLt t b):=Ep fun t _ ht=>sub t ht;simp only[AX,if_false,if_true];omega
       . have:=ih q
         by_cases c:HT.lexLt t a=true
         . rw[if_pos c,if_pos (sub t c)];omega
         . rw[if_neg c];split <;> omega
   omega
 | false =>
   refine decide_eq_false ?_;have le:ts.countP (fun t=>HT.lexLt t (ts.getD j []))<=ts.countP (fun t=>HT.lexLt t (ts.getD i [])):=Ep fun t _ ht=>by
     cases q:HT.lexLt t (ts.getD i []) with
     | true=>rfl
     | false =>
       exfalso;have h2:tle (ts.getD j []) (ts.getD i [])=true:=by unfold tle;rw[e];rfl
       have h3:tle (ts.getD i []) t=true:=by unfold tle;rw[q];rfl
       have h4:=zeY _ _ _ h2 h3;unfold tle at h4;rw[ht] at h4;cases h4
   omega
def zsO{n:Nat}{r:Nat->Int}{α:Type}{P:α->Prop}{Q:α->Shared->Prop}{s:Shared}{cmp:Nat->Nat->(Bool->Shared->Prop)->Shared->Prop}(hc:∀ i j,i < n->j < n->∀ C:Bool->Shared->Prop,C (decide (r i < r j)) s->cmp i j C s)(hq:∀ a,P a->Q a s) :
   ∀ {t:PySem.W.KasT α},Srt.Hd n r t P->t.kasWp cmp Q s
 | .ret a,h=>hq a h
 | .ask i j k,h=>hc i j h.1.1 h.1.2 _ (zsO hc hq (t:=k _) h.2)
section
variable {prog:Program} {w:World} {A:Around} {E:Value->Shared->Prop} {s:Shared}
def zeO{Q:Bool->Shared->Prop}:∀ {xs ys:List Int} {us ws:List Value} (i:Nat),Vals (xs.map V.int) us->Vals (ys.map V.int) ws->Q (HT.lexLt xs ys) s->PySem.W.KatLex prog w A true (decide (us.length < ws.length)) Q (us.zip ws) i s
 | [],[],_,_,i,.nil,.nil,h=>h
 | [],y::ys,_,_,i,.nil,.cons r t,h=>by
   show Q (decide (_ < _)) s;rw[decide_eq_true (by simp)];exact h
 | x::xs,[],_,_,i,.cons r t,.nil,h=>by
   show Q (decide (_ < _)) s;rw[decide_eq_false (by simp)];exact h
 | x::xs,y::ys,_,_,i,.cons r1 t1,.cons r2 t2,h=>by
   obtain⟨a1,rfl⟩:=r1;obtain⟨a2,rfl⟩:=r2;rw[HT.lexLt_cons] at h;refine EZ x a1 y a2 prog w _ _ ?_
   by_cases e:x=y
   . subst e;rw[if_pos rfl] at h;rw[beq_self_eq_true,if_pos rfl];have:=zeO (Q:=Q) (i+1) t1 t2 h;rw[Ar,Ar];have e2:∀ a b:Nat,decide (a+1 < b+1)=decide (a < b):=fun a b=>by
       by_cases q:a < b
       . rw[decide_eq_true q,decide_eq_true (by omega)]
       . rw[decide_eq_false q,decide_eq_false (by omega)]
     rw[e2];exact this
   . rw[if_neg e] at h;have hb:(x==y)=false:=by simpa using e
     rw[hb,if_neg AV]
     by_cases hi:i=0
     . subst hi;exact oneLt_int h
     . have:(true&&i==0)=false:=by simpa using hi
       rw[this];exact PySem.W.kat_one _ _ (FS h)
end
section
variable {X:Cx} {pins:List (Addr×Obj)} {σ:L2.St} {H:Hp} {s:Shared}
def ziP(H:Hp):List V->List (List Int)->Prop:=Paired fun v t=>∃ a,v=.ref a/\H a=some (.tup (t.map V.int))/\t≠[]
def zeX:∀ {xs:List V} {ts:List (List Int)} {i:Nat},ziP H xs ts->i < ts.length->∃ a,xs[i]?=some (.ref a)/\H a=some (.tup ((ts.getD i []).map V.int))/\ts.getD i []≠[]
 | _,[],i,_,hi=>absurd hi (by simp)
 | _,t::ts,0,.cons r q,_=>by
   obtain⟨a,rfl,ha,hn⟩:=r;exact⟨a,rfl,ha,hn⟩
 | _,t::ts,i+1,.cons r q,hi=>by
   have:=zeX (i:=i) q (by simpa using hi);simpa using this
def zqR{A:Around}{xs:List V}{us:List Value}{ts:List (List Int)}{s':Shared}(I:Inv X pins σ H s)(hk:∀ b o,H b≠none->s.heap.get? b=some o->s'.heap.get? b=some o)(T:ziP H xs ts)(r:Vals xs us){i j:Nat}(hi:i < ts.length)(hj:j < ts.length)(C:Bool->Shared->Prop)
   (h:C (decide (rank ts i < rank ts j)) s'):F7 X.prog X.w A (PyProof.Rows.tuples' true) us i j C s':=by
 rw[zmg hi] at h;obtain⟨a,ea,ha,_⟩:=zeX T hi;obtain⟨b,eb,hb,_⟩:=zeX T hj;obtain⟨u,eu,ru⟩:=r.get ea;obtain⟨u2,eu2,ru2⟩:=r.get eb;cases ru;cases ru2;obtain⟨ia,va,⟨oa,ga,ca,na,da⟩,_⟩:=I.tuple (SqT.of (K:=X.K) ha);obtain⟨ib,vb,⟨ob,gb,cb,nb,db⟩,_⟩:=I.tuple (SqT.of (K:=X.K) hb);unfold F7;rw[Ax,Ax,eu,eu2];refine PySem.W.kat_lt (hk _ _ (by rw[ha];simp) ga) da (hk _ _ (by rw[hb];simp) gb) db ?_;have:=zeO (prog:=X.prog) (w:=X.w) (A:=A) (Q:=C) (s:=s') 0 va vb h;simpa using this
end
section
variable {X:Cx} {pins:List (Addr×Obj)} {σ:L2.St} {H:Hp} {s:Shared}
def zhd{h':Heap}(I:Inv X pins σ H s)(hk:∀ b o,H b≠none->s.heap.get? b=some o->h'.get? b=some o):∀ {xs:List V} {us:List Value} {ts:List (List Int)},ziP H xs ts->Vals xs us ->
   ∃ fs:List Value,PySem.W.KatTups h' us fs/\fs.length=us.length/\∀ v∈fs,∃ i t,v=Dv i t
 | _,_,[],.nil,.nil=>⟨[],GJ,rfl,fun v hv=>absurd hv (by simp)⟩
 | _,_,t::ts,.cons r q,.cons rv rvs=>by
   obtain⟨a,rfl,ha,hn⟩:=r;cases rv;obtain⟨fs,h1,h2,h3⟩:=zhd I hk q rvs;obtain⟨its,va,⟨o,g,c,n,d⟩,_⟩:=I.tuple (SqT.of (K:=X.K) ha)
   cases t with
   | nil=>exact absurd rfl hn
   | cons x t =>
     cases va with
     | @cons _ u _ us' ru rus =>
       obtain⟨tk,rfl⟩:=ru;refine⟨.int x tk::fs,GG (hk _ _ (by rw[ha];simp) g) c d (by simp) h1,by rw[Ar,Ar,h2],fun v hv=>?_⟩
       rcases List.mem_cons.mp hv with rfl | hv
       . exact⟨x,tk,rfl⟩
       . exact h3 v hv
end
def zhE{P:Program}{w:World}{H:Hp}{h:Heap}{a:Addr}{o:HO}(x:zcW P w H h a o):∃ u,h.get? a=some u:=by
 cases o with
 | lst xs=>obtain⟨_,_,_,_,e⟩:=x;exact⟨_,e⟩
 | tup xs=>obtain⟨_,_,_,o,e,_⟩:=x;exact⟨_,e⟩
 | dK kvs=>obtain⟨_,_,_,_,o,_,_,e,_⟩:=x;exact⟨_,e⟩
 | dT kvs=>obtain⟨_,_,_,_,o,_,_,e,_⟩:=x;exact⟨_,e⟩
 | set S n=>obtain⟨o,_,_,_,e,_⟩:=x;exact⟨_,e⟩
 | ins C dx fs=>obtain⟨_,_,_,e,_⟩:=x;exact⟨_,e⟩
 | own y=>exact x
 | xd fs=>obtain⟨_,⟨_,_,_,e,_⟩,_⟩:=x;exact⟨_,e⟩
 | rng lo hi=>obtain⟨_,_,_,e⟩:=x;exact⟨_,e⟩
 | frz ob u=>obtain⟨e,_⟩:=x;exact⟨_,e⟩
 | tbl ps=>exact⟨_,x⟩
 | met f y=>exact⟨_,x⟩
 | ext φ=>obtain⟨_,e,_⟩:=x;exact e
def zpS{h:Heap}{a:Addr}{m m':Str->Option Value}(x:h.Ns a m)(y:h.Ns a m'):m=m':=by
 obtain⟨o,es,ep,ho,hd,_,hm⟩:=x;obtain⟨o',es',ep',ho',hd',_,hm'⟩:=y;rw[ho] at ho';cases ho';rw[hd] at hd';cases hd'
 funext n
 rw[<-hm n,hm' n]
section
variable {X:Cx} {pins:List (Addr×Obj)} {σ:L2.St} {H:Hp} {s:Shared}
def Inv.laidAt{h':Heap}{m:Str->Option Value}{a:Addr}{o:HO}(I:Inv X pins σ H s)(k:∀ b u,b≠X.env.locals->s.heap.get? b=some u->h'.get? b=some u)(ns:∀ m,s.heap.Ns X.env.locals m->h'.Ns X.env.locals m)(hL:∃ u,h'.get? X.env.locals=some u)
   (ha:s.heap.get? a=none) (hH:H a=none) (haL:a≠X.env.locals) (new:zcW X.prog X.w (upd H a o) h' a o):Inv X pins σ (upd H a o) { s with heap:=h' }:=by
 have na:∀ b u,s.heap.get? b=some u->b≠a:=fun b u e z=>by rw[z,ha] at e;cases e
 refine Inv.step (t':=s.toks) (ch:=[]) (g':=s.gens) (d':=s.drawn) I (fun b hb=>absurd hb (by simp)) (fun b u h1 _ _ e _=>k b u h1 e) (fun b u h1 _ _ e _=>⟨u.slots,k b u h1 e⟩) (fun b u _ e n=>by rw[zat (na b u e)];exact n) (fun b u _ e=>?_)
   (fun b xs e=>by rw[zat (zau e hH)];exact e) (fun b u v e=>by rw[zat (zau e hH)];exact e) (fun b ps e=>⟨#[],by rw[zat (zau e hH),e];simp⟩) ns (fun b u e=>?_) I.bare
 . by_cases hb:b=X.env.locals
   . rw[hb];exact hL
   . exact⟨u,k b u hb e⟩
 . by_cases hb:b=a
   . subst hb;rw[zbi] at e;cases e;exact new
   . rw[zat hb] at e;refine (I.hok b u e).stay (fun c v hc q=>k c v (fun z=>?_) q) (fun c q=>by rw[zat (zau q hH)];exact q) fun c xs q=>by rw[zat (zau q hH)];exact q
     subst z
     rcases hc with rfl | hc
     . rw[I.free] at e;cases e
     . rw[I.free] at hc;cases hc
def zid{xs:List V}{ts:List (List Int)}{l:Addr}{Q:VK}(I:Inv X pins σ H s)(hl:SqL X.K H l xs)(T:ziP H xs ts)(h2:2<=ts.length)(h64:ts.length < 64)
   (h:∀ (q:Array Nat) (p:Addr),q.Perm (BX (AA ts.length))->Srt.Up (rank ts) q ts.length->H p=none->Q (.ref p) (upd H p (.lst (q.toList.map fun i=>xs.getD i .non)))) :
   wpAny (model X.prog X.w) X.A (call (.builtin "sorted") [.ref l]) (EP X pins σ Q) X.xe s:=by
 obtain⟨its,rv,pl,hz⟩:=I.list hl;have hlen:its.length=ts.length:=by
   have a:=rv.length;have b:=Bf T;omega
 obtain⟨m,F⟩:=I.fr;have trkL:∀ b,H b≠none->b≠X.env.locals:=fun b hb z=>hb (by rw[z];exact I.free);have trkB:∀ b,H b≠none->X.base.get? b=none:=fun b hb=>by
   cases e:X.base.get? b with
   | none=>rfl
   | some o=>exact absurd (I.bs b o e).2 hb
 refine PySem.W.kat_sorted F (zg5 (g:=X.base) (h:=s.heap) (L:=X.env.locals)) pl.isList (by omega) (by omega) fun D e1 h' F' N' hlt=>?_;have keep:∀ {h2:Heap} {o:Obj},Fr X.base X.env.locals h2 m->News X.base X.env.locals h2 ((D,o)::zel X.base s.heap X.env.locals)->∀ b u,b≠X.env.locals->s.heap.get? b=some u->h2.get? b=some u:=fun {h2 o} F2 N2 b u hb e=>by
   cases q:X.base.get? b with
   | some v =>
     have z:=(I.bs b v q).1;rw[e] at z;cases z;exact F2.keep b _ q
   | none=>exact (N2 (b,u) (Ak _ (zdl hb q e))).1
 have hk:∀ b o,H b≠none->s.heap.get? b=some o->h'.get? b=some o:=fun b o hb e=>keep F' N' b o (trkL b hb) e;have hDD:=N' _ An;have hsD:s.heap.get? D=none:=by
   cases e:s.heap.get? D with
   | none=>rfl
   | some u=>exact absurd (hlt _ (zdl hDD.2.1 hDD.2.2 e)) (AN _)
 have hHD:H D=none:=by
   cases e:H D with
   | none=>rfl
   | some o =>
     obtain⟨u,hu⟩:=zhE (I.hok D o e);rw[hsD] at hu;cases hu
 obtain⟨fs,k1,k2,k3⟩:=zhd (h':=h') I hk T rv;refine FO (s:={ s with heap:=h' }) (T:=.type "int") k1 (by omega) (fun v hv=>?_) rfl ?_
 . obtain⟨i,t,rfl⟩:=k3 v hv;exact Er rfl
 have ok:=Srt.sort_ok (n:=its.length) (r:=rank ts) (by omega);refine zsO (n:=its.length) (r:=rank ts) (s:={ s with heap:=h' }) (fun i j hi hj C hC=>zqR (s':={ s with heap:=h' }) I hk T rv (by omega) (by omega) C hC) (fun q hq=>?_) ok;refine EC F' N' (Fx fun p hp=>As (hlt p hp)) fun h2 c F2 N2=>?_;have hD2:=(N2 _ An).1;rw[hlen] at hq;have vals:Vals (q.toList.map fun i=>xs.getD i .non) (q.toList.map fun i=>its.getD i Be):=by
   have hmem:∀ i∈q.toList,i < xs.length:=fun i hi=>by
     have:i∈(BX (AA ts.length)).toList:=(Array.perm_iff_toList_perm.mp hq.1).mem_iff.mp hi;have hr:=rv.length;simp at this;omega
   generalize q.toList=ql at hmem
   induction ql with
   | nil=>exact .nil
   | cons i r ih =>
     refine .cons ?_ (ih fun j hj=>hmem j (Ak _ hj));have hi:=hmem i An;obtain⟨u,eu,ru⟩:=rv.get (Ah hi);show RelV (xs.getD i V.non) (its.getD i Be);rw[Ax,Ax,Ah hi,eu];exact ru
 have hql:q.toList.length=ts.length:=by
   have:=(Array.perm_iff_toList_perm.mp hq.1).length_eq;simpa using this
 have J:Inv X pins σ (upd H D (.lst (q.toList.map fun i=>xs.getD i .non))) { s with heap:=h2 } :=
   Inv.laidAt (m:=m) I (keep F2 N2) (fun m' hm'=>by rw[zpS hm' F.ns];exact F2.ns) (let ⟨o,_,_,e,_⟩:=F2.ns;⟨o,e⟩) hsD hHD hDD.2.1 ⟨by rw[Ag,hql];exact lt64 h64,_,c,vals,hD2⟩
 exact⟨.ref D,_,J,rfl,h q D hq.1 hq.2 hHD⟩
end
def zfs{α:Type}(ts:List α)(d:α):(AA ts.length).map (fun i=>ts.getD i d)=ts:=by
 apply List.ext_getElem
 . simp
 . intro i h1 h2;simp[Ax,Ah h2]
def zeH{ts:List (List Int)}{q:Array Nat}(hp:q.Perm (BX (AA ts.length)))(hu:Srt.Up (rank ts) q ts.length):q.toList.map (fun i=>ts.getD i [])=zi7 ts:=by
 have hl:=Array.perm_iff_toList_perm.mp hp;have hl:q.toList.Perm (AA ts.length):=by simpa using hl
 have hsz:q.toList.length=ts.length:=by rw[hl.length_eq,Cq]
 have p1:(q.toList.map fun i=>ts.getD i []).Perm ts:=by
   have:=hl.map fun i=>ts.getD i [];rw[zfs] at this;exact this
 refine zdR (le:=fun a b=>tle a b=true) (p1.trans (CC ts tle).symm) ?_ (D2 (fun a b c=>zeY a b c) zkX ts) fun a _ b _=>zmP;rw[List.pairwise_iff_getElem];intro i j hi hj hij;rw[FP,FP];rw[Ag] at hi hj;have hu:=hu i j (Cs hij) (by omega);have gi:∀ (k:Nat) (hk:k < q.toList.length),q.getD k 0=q.toList[k]:=fun k hk=>by
   rw[BW,<-BH,Ah hk];rfl
 unfold Srt.R at hu;rw[gi i hi,gi j hj] at hu;have lt:∀ k∈q.toList,k < ts.length:=fun k hk=>List.mem_range.mp (hl.mem_iff.mp hk);have e:=zmg (ts:=ts) (i:=q.toList[j]) (j:=q.toList[i]) (lt _ (Bm hj));rw[decide_eq_false (by omega)] at e;unfold tle;rw[<-e];rfl
def intsOf:List D->Option (List Int)
 | []=>some []
 | .int i::r=>(intsOf r).map fun is=>i::is
 | _=>none
def ziD{d:D}{r:List D}{ss:List Int}(h:intsOf (d::r)=some ss):∃ x xs,d=.int x/\intsOf r=some xs/\ss=x::xs:=by
 cases d with
 | int x =>
   obtain⟨xs,e,h⟩:=zag h;exact⟨x,xs,rfl,e,h.symm⟩
 | _=>cases h
def rowOf:D->Option (List Int)
 | .tup ds=>(intsOf ds).bind fun t=>if (!t.isEmpty)=true then some t else none
 | _=>none
def rowsOf:List D->Option (List (List Int))
 | []=>some []
 | d::r=>(rowOf d).bind fun t=>(rowsOf r).map fun ts=>t::ts
def tupD(t:List Int):D:=.tup (t.map D.int)
section
variable {X:Cx} {K:Ab} {H:Hp} {io:List Addr} {st st':Sto}
def ints_rep:∀ {xs:List V} {ds:List D} {t:List Int},Reps K H io xs ds->intsOf ds=some t->xs=t.map V.int/\ds=t.map D.int
 | _,[],t,h,e=>by cases e;exact⟨h,rfl⟩
 | _,d::ds,t,h,e=>by
   obtain⟨y,ys,rfl,h1,h2⟩:=h;obtain⟨x,rest,rfl,e2,rfl⟩:=ziD e;obtain⟨a,b⟩:=ints_rep h2 e2
   cases (show y=.int x from h1)
   rw[a,b];exact⟨rfl,rfl⟩
def zht:∀ {xs:List V} {ds:List D} {ts:List (List Int)},Reps K H io xs ds->rowsOf ds=some ts->ziP H xs ts/\ds=ts.map tupD
 | _,[],ts,h,e=>by
   cases e;cases (show _=[] from h);exact⟨.nil,rfl⟩
 | _,d::ds,ts,h,e=>by
   obtain⟨y,ys,rfl,h1,h2⟩:=h;obtain⟨t,e1,e⟩:=zad e;obtain⟨us,e2,e⟩:=zag e;subst e;obtain⟨a,b⟩:=zht h2 e2
   cases d with
   | tup zs =>
     obtain⟨t',f1,f2⟩:=zad e1;obtain⟨hn,f2⟩:=zam f2;cases f2;obtain⟨p,vs,rfl,hp,rs⟩:=h1;obtain⟨q1,q2⟩:=ints_rep rs f1;subst q1;refine⟨.cons ⟨p,rfl,hp,fun z=>?_⟩ a,?_⟩
     . rw[z] at hn;exact absurd hn (by decide)
     . rw[b,q2];rfl
   | _=>cases e1
def ze2:GN
 | [.ref n],st=>(zbA st n).bind fun ds=>(rowsOf ds).bind fun ts=>if (decide (2<=ts.length)&&decide (ts.length < 64))=true then some (.ref st.length,st++[.lst ((zi7 ts).map tupD)]) else none
 | _,_=>none
def zfg{xs:List V}{ts:List (List Int)}(r:Reps K H io xs (ts.map tupD)):∀ {q:List Nat},(∀ i∈q,i < ts.length)->Reps K H io (q.map fun i=>xs.getD i .non) ((q.map fun i=>ts.getD i []).map tupD)
 | [],_=>rfl
 | i::q,h=>by
   have hi:=h i An;have hg:(ts.map tupD)[i]?=some (tupD (ts.getD i [])):=by
     rw[AD,Ah hi,Ax,Ah hi];rfl
   obtain⟨v,hv,rv⟩:=r.get hg;refine⟨_,_,rfl,?_,zfg r fun j hj=>h j (Ak _ hj)⟩;show Rep K H io (xs.getD i .non) _;rw[Ax,hv];exact rv
def zgp:zdf X (.builtin "sorted") ze2:=by
 rintro pins s σ H xs us Q I r ⟨ds,st,io,d,st',R,S,e,k⟩;unfold ze2 at e
 split at e
 . rename_i n;obtain⟨zs,e0,e⟩:=zad e;obtain⟨ts,e1,e⟩:=zad e;obtain⟨hl,e⟩:=zam e;cases e;rw[Ao] at hl;obtain⟨v,rfl,p,rfl,hp⟩:=R.one;obtain⟨u,rfl,ru⟩:=r.one;cases ru;obtain⟨ys,hx,r1⟩:=zaZ S hp e0;obtain⟨T,hd⟩:=zht r1 e1;subst hd;refine zid I hx T (of_decide_eq_true hl.1) (of_decide_eq_true hl.2) fun q p' hq hu hf=>?_;have hm:∀ i∈q.toList,i < ts.length:=fun i hi=>by
     have:=(Array.perm_iff_toList_perm.mp hq).mem_iff.mp hi;simpa using this
   have rr:=zfg r1 hm;rw[zeH hq hu] at rr;exact k.lst S rr hf
 . cases e
end
section
variable {X:Cx} {K:Ab} {H:Hp} {io:List Addr} {st st':Sto} {a b c e:Expr} {es:List Expr} {ma mb mc m:ME} {mm:MA} {pos:Pos} {pins:List (Addr×Obj)} {σ:L2.St} {s:Shared}
def orO{α:Type}:Option α->Option α->Option α
 | some x,_=>some x
 | none,y=>y
def zch{α:Type}{x y:Option α}{z:α}(h:orO x y=some z):x=some z\/y=some z:=by
 cases x with
 | none=>exact .inr h
 | some w=>exact .inl h
def orG(g h:G2):G2:=fun x y st=>orO (g x y st) (h x y st)
def orN(g h:GN):GN:=fun xs st=>orO (g xs st) (h xs st)
def znz{f:Value->Value->Sem Value}{g h:G2}(p:OpM X f g)(q:OpM X f h):OpM X f (orG g h):=by
 rintro pins s σ H x y v u Q I rx ry ⟨dx,dy,st,io,d,st',Rx,Ry,S,e,k⟩
 rcases zch e with e | e
 . exact p pins s σ H x y v u Q I rx ry ⟨dx,dy,st,io,d,st',Rx,Ry,S,e,k⟩
 . exact q pins s σ H x y v u Q I rx ry ⟨dx,dy,st,io,d,st',Rx,Ry,S,e,k⟩
def zdu{f:Value}{g h:GN}(p:zdf X f g)(q:zdf X f h):zdf X f (orN g h):=by
 rintro pins s σ H xs us Q I r ⟨ds,st,io,d,st',R,S,e,k⟩
 rcases zch e with e | e
 . exact p pins s σ H xs us Q I r ⟨ds,st,io,d,st',R,S,e,k⟩
 . exact q pins s σ H xs us Q I r ⟨ds,st,io,d,st',R,S,e,k⟩
def zhK{g:G2}{ρ:Rho}{x y:D}{s0 s1 s2:Sto}{r:D×Sto}(h1:ma ρ s0=some (x,s1))(h2:mb ρ s1=some (y,s2))(h3:g x y s2=some r):mBin g ma mb ρ s0=some r:=by
 unfold mBin;rw[h1];show GD (mb ρ s1) _=_;rw[h2];exact h3
def zrB{g h:G2}(p:SE X e (mBin g ma mb))(q:SE X e (mBin h ma mb)):SE X e (mBin (orG g h) ma mb):=by
 rintro pins s σ H Q I ⟨ρ,st,io,d,st',E,S,e,k⟩;obtain⟨⟨x,s1⟩,e1,e⟩:=zad e;obtain⟨⟨y,s2⟩,e2,e⟩:=zad e
 rcases zch e with e | e
 . exact p pins s σ H Q I ⟨ρ,st,io,d,st',E,S,zhK e1 e2 e,k⟩
 . exact q pins s σ H Q I ⟨ρ,st,io,d,st',E,S,zhK e1 e2 e,k⟩
def zm9{g h:G2}(p:SB X e (mTst (mBin g ma mb)))(q:SB X e (mTst (mBin h ma mb))):SB X e (mTst (mBin (orG g h) ma mb)):=by
 rintro pins s σ H Q I ⟨ρ,st,io,d,st',E,S,e,k⟩;have e:=zkW e;obtain⟨⟨x,s1⟩,e1,e⟩:=zad e;obtain⟨⟨y,s2⟩,e2,e⟩:=zad e
 rcases zch e with e | e
 . exact p pins s σ H Q I ⟨ρ,st,io,d,st',E,S,by unfold mTst;rw[zhK e1 e2 e];rfl,k⟩
 . exact q pins s σ H Q I ⟨ρ,st,io,d,st',E,S,by unfold mTst;rw[zhK e1 e2 e];rfl,k⟩
def zsX:G2:=fun d k st=>match d with
 | .ref n=>(look st n k).bind fun r=>r.map fun v=>(v,st)
 | _=>none
def ixA:G2:=orG idxD zsX
def zap(hu:X.A.units+1 < cLine)(ha:SE X a ma)(hb:SE X b mb)(hs:zkK b:=by intro _ _;rfl)(hs':NoSl b:=by intro _ _;rfl):SE X (.Subscript a b pos) (mBin ixA ma mb) :=
 zrB (ztQ ha hb hs) (show SE X (.Subscript a b pos) (ztk ma mb) from zpb hu ha hb hs')
def dinD(neg:Bool):G2:=fun k d st=>match d with
 | .ref n=>(look st n k).map fun r=>(.bl (if neg then !r.isSome else r.isSome),st)
 | _=>none
def inA:G2:=orG (orG (inD false) inSD) (dinD false)
def znG:G2:=orG (inD true) (dinD true)
def zph(hu:X.A.units+100 < cLine)(ha:SE X a ma)(hb:SE X b mb)(hm:behindInMarks .In b=false:=by rfl):SB X (.Compare a [.In] [b] pos) (mTst (mBin inA ma mb)) :=
 zm9 (zb9 (znz (zsi hu) zpL) ha hb hm) (show SB X _ (mTst (mDIn false ma mb)) from zrJ (by omega) ha hb hm)
def zla(hu:X.A.units+100 < cLine)(ha:SE X a ma)(hb:SE X b mb)(hm:behindInMarks .NotIn b=false:=by rfl):SB X (.Compare a [.NotIn] [b] pos) (mTst (mBin znG ma mb)) :=
 zm9 (zb9 (zlo hu) ha hb hm) (show SB X _ (mTst (mDIn true ma mb)) from zlb (by omega) ha hb hm)
def slA:D->Option Int->Option Int->Sto->Option (D×Sto):=fun x lo hi st=>orO (slD x lo hi st) (slS x lo hi st)
def mSlA(m:ME)(l h:MO):ME:=fun ρ st=>(m ρ st).bind fun (x,s1)=>(l ρ s1).bind fun (lo,s2)=>(h ρ s2).bind fun (hi,s3)=>slA x lo hi s3
def zk6{lo hi:Option Expr}{ml mh:MO}{p2:Pos}(he:SE X e m)(hl:SO X lo ml)(hu:SO X hi mh):SE X (.Subscript e (.Slice lo hi none p2) pos) (mSlA m ml mh):=by
 rintro pins s σ H Q I ⟨ρ,st,io,d,st',E,S,e0,k⟩;obtain⟨⟨x,s1⟩,e1,e0⟩:=zad e0;obtain⟨⟨lo',s2⟩,e2,e0⟩:=zad e0;obtain⟨⟨hi',s3⟩,e3,e0⟩:=zad e0
 rcases zch e0 with e0 | e0
 . exact zm5 he hl hu pins s σ H Q I ⟨ρ,st,io,d,st',E,S,by simp only[mSl,e1,e2,e3,Ae];exact e0,k⟩
 . exact zk5 he hl hu pins s σ H Q I ⟨ρ,st,io,d,st',E,S,by simp only[mSlS,e1,e2,e3,Ae];exact e0,k⟩
def zkT:D->Sto->Option (Wk×Sto)
 | .ref n,s=>(zbA s n).map fun ds=>(⟨ds,[(n,ds)]⟩,s)
 | .tup ds,s=>some (⟨ds,[]⟩,s)
 | _,_=>none
def mW(m:ME):MI:=fun ρ st=>(m ρ st).bind fun (d,s)=>zkT d s
def zo0{tg l:Expr}(hl:SE X l m):SI X tg l (mW m):=by
 rintro pins s σ H R I ⟨ρ,st,io,W,st',E,S,e0,k⟩;obtain⟨⟨d,s1⟩,e1,e0⟩:=zad e0
 cases d with
 | ref n=>exact zo1 hl pins s σ H R I ⟨ρ,st,io,W,st',E,S,by unfold mWL;rw[e1];exact e0,k⟩
 | tup ds=>exact zry hl pins s σ H R I ⟨ρ,st,io,W,st',E,S,by unfold mWT;rw[e1];exact e0,k⟩
 | _=>cases e0
def setD:G3:=fun o i v st=>match o,i with
 | .ref n,.int k=>match st[n]? with
   | some (.lst ds)=>(ixN ds.length k).map fun j=>st.set n (.lst (ds.set j v))
   | _=>none
 | _,_=>none
def ztP:SetM X setD:=by
 rintro pins s σ H o i v ov iv u Q I ro ri rv ⟨d1,d2,d3,st,io,st',R1,R2,R3,S,e,k⟩
 cases d1 with
 | ref n =>
   cases d2 with
   | int j =>
     unfold setD at e;dsimp only at e
     split at e
     . rename_i ds e0;obtain⟨q,e1,e⟩:=zag e;cases e;obtain⟨p,rfl,hp⟩:=R1;obtain⟨ys,hH,r⟩:=S.ob n p _ hp e0;refine set_list pins s σ H _ _ v ov iv u Q I ro ri rv ⟨p,ys,j,q,rfl,R2,hH,by rw[r.length];exact e1,?_⟩;obtain⟨E',S'⟩:=zgV (o:=.lst (ys.set q v)) (ob:=.lst (ds.set q d3)) S hp e0 (fun o u z=>by rw[hH] at z;cases z) fun H' T e'=>⟨_,e',(Reps.mono T r).set q (Rep.mono T R3)⟩
       exact k _ [] E' S'
     . cases e
   | _=>cases e
 | _=>cases d2 <;> cases e
def putA(mo mi mv:ME):MS:=fun ρ st=>orO (mAsg mv (gSb setD mo mi) ρ st) (zmr mo mi mv ρ st)
def zgJ{o i value:Expr}{mo mi mv:ME}{pos':Pos}(hu:X.A.units+1 < cLine)(ho:SE X o mo)(hi:SE X i mi)(hv:SE X value mv)(hs:swapsWith value (some (.Subscript o i pos')) pos.line X.env=pure false:=by rfl)
   (ha:∀ v,assign (.Subscript o i pos') X.env v=(do
     let ov <-holding [v] (eval o X.env)
     let iv <-holding [v,ov] (eval i X.env)
     standAt pos'
     holding [v,ov,iv] (setItem ov iv v)
     release [v,ov,iv] []):=by intro _;rfl)
   (hs2:swapsWithSole [.Subscript o i pos'] value pos.line X.env=pure false:=by rfl) (hw:swappedStores [.Subscript o i pos'] value X.env=pure none:=by rfl)
   (h1:(assignEach [.Subscript o i pos'] X.env).map (·.2)=[assign (.Subscript o i pos') X.env]:=by rfl):SS X (.Assign [.Subscript o i pos'] value pos) (putA mo mi mv):=by
 intro pins s σ H N I h;obtain⟨ρ,st,io,f,st',E,S,e,w⟩:=zcG.mp h
 rcases zch e with e | e
 . exact zmW hv (zrA ho hi ztP ha) hs2 hw h1 pins s σ H N I (zmO E S e w)
 . exact zoW hu ho hi hv hs pins s σ H N I (zmO E S e w)
def mPar(i j:Nat)(mm:MA):MS:=fun ρ st=>(mm ρ st).bind fun (xs,s)=>match xs with
 | [x,y]=>some (.nx ((ρ.set i (some x)).set j (some y)),s)
 | _=>none
def zoV{i j:Nat}{x y:Str}{px py pt:Pos}{kt k2 pt2}(hc:X.calm=true)(hN:X.N.Nodup)(hi:X.N[i]?=some x)(hj:X.N[j]?=some y)(hij:i≠j)
   (hx:X.env.scope.names.lookup x=some .local) (hy:X.env.scope.names.lookup y=some .local) (ha:SA X [a,b] mm)
   (hw:swappedStores [.Tuple [.Name x px,.Name y py] kt pt] (.Tuple [a,b] k2 pt2) X.env=pure (some [x,y]):=by rfl)
   (hs:swapsWithSole [.Tuple [.Name x px,.Name y py] kt pt] (.Tuple [a,b] k2 pt2) pos.line X.env=pure false:=by rfl) :
   SS X (.Assign [.Tuple [.Name x px,.Name y py] kt pt] (.Tuple [a,b] k2 pt2) pos) (mPar i j mm):=PS.imp (zrT hc hN hi hj hij hx hy ha hw hs) fun N σ H h=>by
 obtain⟨ρ,st,io,f,st',E,S,e,w⟩:=zcG.mp h;obtain⟨⟨xs,s1⟩,e1,e⟩:=zad e
 match xs,e,e1 with
 | [u,v],e,e1 =>
   cases e;refine⟨ρ,st,io,_,_,E,S,e1,fun vs H1 k1 X1 S1 R1=>?_⟩;obtain⟨p,q,rfl,r1,r2⟩:=R1.two;exact⟨p,q,rfl,w _ H1 k1 X1 S1 (((E.ext S X1).set i r1).set j r2)⟩
def zbx(P:Program)(w:World)(K:Ab)(mg:Str->Option Value)(base:Heap)(k:Nat)(x:Str)(n:Nat)(g:GN):Prop :=
 ∃ f fd ps,FnOk P w K mg base CX0 k f fd ps (spM K n g)/\mg x=some (.ref f)/\A9 K (.ref f)=true/\Binds K fd ps []
def zao(n:Nat)(mm:MA):Prop:=∀ ρ st xs s,mm ρ st=some (xs,s)->xs.length=n
def zao.nil:zao 0 mNil:=fun _ _ _ _ h=>znR h
def zao.cons{n:Nat}(h:zao n mm):zao (n+1) (zae m mm):=fun _ _ _ _ q=>zlA h q
def zak{x:Str}{p:Pos}{k n:Nat}{g:GN}(F:zbx X.prog X.w X.K X.mg X.base k x n g)(hr:Room k X.A)(hg:Gl X x)(ha:SA X (e::es) mm)(hl:zao n mm)(hdb:(x==("__debug__":Str))=false:=by decide)
   (he:starEach (e::es) X.env=(false,eval e X.env)::starEach es X.env:=by rfl) (hpl:(backTo pos (starEach es X.env)).any (·.1)=false:=by rfl) (hn:(e::es).length=n:=by rfl) :
   SE X (.Call (.Name x p) (e::es) [] pos) (zav g mm):=by
 obtain⟨f,fd,ps,F,hm,hk,hb⟩:=F;exact zpd F hr hg hm hk hb ha hdb he hpl hn hl
def Laid(K:Ab)(mg:Str->Option Value)(x:Str)(st:Stmt)(ps:List Str):Prop:=∃ f fd,Fun K x x st f fd/\mg x=some (.ref f)/\Binds K fd ps []
def zbC{P:Program}{w:World}{mg:Str->Option Value}{base:Heap}{x:Str}{st:Stmt}{N ps:List Str}{k:Nat}{m:MS}(L:Laid K mg x st ps)(S:FnScope N ps (zaj st))
   (hbody:∀ (f:Addr) (cdv:Value) (A:Around) (outer:List Env) (s:Shared) (H:Hp) (E:XK),Room k (A.deeper (envOfC x (zaj st) s.heap.objs.size f cdv)) ->
     SSs (cxOf CX0 P w K mg base N x (zaj st) f cdv A outer s H E).nox (zbB st) m):zbx P w K mg base (k+1) x ps.length (fnM N.length m):=by
 obtain⟨f,fd,F,hm,hb⟩:=L;exact⟨f,fd,ps,fn_m F S (hbody f),hm,F.kp,hb⟩
end
section
variable {prog:Program} {w:World} {A:Around} {E:Value->Shared->Prop} {s:Shared}
def zk2{at_:Addr}{v:Value}{k:Nat}{R:PySem.Fin->Shared->Prop}(g0:s.heap.get? at_=some (seqObj "list" #[v] k))(fin:R (.done (.ret .none)) { s with heap:=sortedHeap s.heap at_ [v] #[v] }) :
   wpAny (model prog w) A (Builtin.«list.sort» ⟨[.ref at_],[]⟩) R E s:=by
 have lt0:=Aj g0;obtain⟨ep,g1⟩:∃ ep,(s.heap.update at_ (By fun _=>(#[]:Array Value))).get? at_=some (seqObj "list" #[] ep):=⟨_,get?_update_seq g0 fun _=>#[]⟩
 have g2:(((s.heap.update at_ (By fun _=>(#[]:Array Value))).push (seqObj "tuple" #[v] 0)).push (seqObj "list" #[] 0)).get? at_=some (seqObj "list" #[] ep):=Ac _ (Ac _ g1);rw[list_sort_plain];refine Aa (listItems_at g0 rfl (Aa (DD g0 rfl (Aa (Ek g1 rfl (Aa (Es (Aa (DE (AK ?_))))))))));show wpAny (model prog w) A _ R E { s with heap:=((s.heap.update at_ (By fun _=>(#[]:Array Value))).push (seqObj "tuple" #[v] 0)).push (seqObj "list" #[] 0) };have two:(#[v]:Array Value).size < 2:=by show 1 < 2;decide
 have same:(arrOf (GH general' ((#[v]:Array Value).zip #[v]) #[] 7 none)).map (·.2)=#[v]:=by
   show (((#[v]:Array Value).zip #[v]).map (·.2))=#[v];simp
 dsimp only;rw[if_pos two,if_pos two];refine Aa (Ad ?_);rw[F8];refine Aa (Ad ?_);dsimp only;rw[same];refine Aa (Ek g2 rfl (Aa (DD g2 rfl ?_)));simp only[bne_self_eq_false,AX,if_false];exact Ad fin
def zie{l:Addr}{v:Value}{R:Value->Shared->Prop}(hl:s.heap.IsList l [v].toArray)(fin:R (.ref (s.heap.objs.size+1)) { s with heap:=sortedAll s.heap [v] #[v] }) :
   wpAny (model prog w) A (call (.builtin "sorted") [.ref l]) R E s:=by
 have sz:((s.heap.push (seqObj "list" #[] 0)).update s.heap.objs.size (By (·++[v].toArray))).objs.size=s.heap.objs.size+1:=(Heap.size_update ..).trans (size_push' ..);have g0:(((s.heap.push (seqObj "list" #[] 0)).update s.heap.objs.size (By (·++[v].toArray))).push (seqObj "list" [v].toArray 0)).get? (s.heap.objs.size+1)=some (seqObj "list" [v].toArray 0):=by
   rw[<-sz];exact Am _ rfl
 refine DM kind_sorted plain_sorted entry_sorted (args_sorted1 _) ?_;unfold Builtin.«sorted»;refine Aa (m:=checkCount "sorted" 1 1 _) (Ad (Aa (collect_list hl (Aa (DE ?_)))));show wpAny _ _ _ _ _ { s with heap:=((s.heap.push (seqObj "list" #[] 0)).update s.heap.objs.size (By (·++[v].toArray))).push (seqObj "list" [v].toArray 0) };rw[sz];exact Aa (AK (Bc slot_list_sort ⟨_,g0,rfl⟩ entry_list_sort (zk2 g0 ⟨_,rfl,Ad ⟨_,rfl,fin⟩⟩) (args_list_sort _)))
end
section
variable {X:Cx} {K:Ab} {H:Hp} {io:List Addr} {st st':Sto}
def zdS:GN
 | [.ref n],st=>(zbA st n).bind fun ds=>if decide (ds.length=1)=true then some (.ref st.length,st++[.lst ds]) else none
 | _,_=>none
def zgr:zdf X (.builtin "sorted") zdS:=by
 rintro pins s σ H xs us Q I r ⟨ds,st,io,d,st',R,S,e,k⟩;unfold zdS at e
 split at e
 . rename_i n;obtain⟨zs,e0,e⟩:=zad e;obtain⟨hl,e⟩:=zam e;cases e;obtain⟨y,rfl⟩:=List.length_eq_one_iff.mp (of_decide_eq_true hl);obtain⟨v,rfl,p,rfl,hp⟩:=R.one;obtain⟨u,rfl,ru⟩:=r.one;cases ru;obtain⟨ys,hx,r1⟩:=zaZ S hp e0;obtain⟨its,rv,pl,hz⟩:=I.list hx;obtain⟨y',rfl,ry⟩:=r1.one;obtain⟨i,rfl,ri⟩:=rv.one;refine zie pl.isList ?_;obtain⟨ep,hat⟩:=sortedAll_at s.heap [i] #[i];have hfree:H (s.heap.objs.size+1)=none:=I.hok.fresh (Cm _);refine⟨.ref (s.heap.objs.size+1),upd H (s.heap.objs.size+1) (.lst [y']),I.laid (t':=s.toks) (a:=s.heap.objs.size+1) (fun b o q=>sortedAll_old q) (Cm _) ⟨by show 1<=sizeLine;decide,[i],ep,rv,by simpa using hat⟩,rfl,?_⟩;exact k.lst S r1 hfree
 . cases e
def zcr:GN:=orN zcM (orN zdS ze2)
def zcS:zdf X (.builtin "sorted") zcr:=zdu zgq (zdu zgr zgp)
end
section
variable {X:Cx} {pins:List (Addr×Obj)} {σ:L2.St} {H:Hp} {s:Shared}
def Inv.freeze{d:Addr}{o:Obj}{u:HO}(I:Inv X pins σ H s)(hd:H d=some u)(g:s.heap.get? d=some o)(n1:∀ xs,u≠.tup xs)(n2:∀ x,u≠.own x)(n3:∀ o w,u≠.frz o w)(n4:∀ ps,u≠.tbl ps):Inv X pins σ (upd H d (.frz o u)) s:=by
 have ne:∀ {b:Addr} {v:HO},H b=some v->v≠u->b≠d:=fun {b v} q nv z=>by
   subst z;rw[hd] at q;exact nv (Ay q).symm
 refine Inv.step (h':=s.heap) (t':=s.toks) (g':=s.gens) (d':=s.drawn) (ch:=[]) I (fun _ z=>nomatch z) (fun b v _ _ _ q _=>q) (fun b v _ _ _ q _=>⟨v.slots,q⟩) (fun b v _ q n=>?_) (fun b v _ q=>⟨v,q⟩) (fun b xs q=>?_) (fun b v w q=>?_) (fun b ps q=>⟨#[],?_⟩) (fun m hm=>hm) (fun b v q=>?_) I.bare
 . have:b≠d:=fun z=>by
     rw[z,hd] at n;cases n
   rw[zat this];exact n
 . rw[zat (ne q (fun z=>n1 xs z.symm))];exact q
 . rw[zat (ne q (fun z=>n3 v w z.symm))];exact q
 . rw[zat (ne q (fun z=>n4 ps z.symm)),q];simp
 . by_cases hb:b=d
   . subst hb;rw[zbi] at q;cases q;refine⟨g,?_⟩;exact (I.hok b u hd).stay (fun c x _ y=>y) (fun c y=>by rw[zat (ne y (fun z=>n2 b z.symm))];exact y) fun c xs y=>by rw[zat (ne y (fun z=>n1 xs z.symm))];exact y
   . rw[zat hb] at q;exact (I.hok b v q).stay (fun c x _ y=>y) (fun c y=>by rw[zat (ne y (fun z=>n2 b z.symm))];exact y) fun c xs y=>by rw[zat (ne y (fun z=>n1 xs z.symm))];exact y
end
def zed{P:Program}{w:World}{H:Hp}{h:Heap}{d:Addr}{o:Obj}{ps:List (List Key×V)}{es:Array DictEntry}{ep:Nat}(x:zcW P w H h d (.frz o (.dT ps)))(dd:o.data=.dict es ep) :
   h.get? d=some o/\es.size=ps.length/\∀ (i:Nat) (k:List Key) (v:V),ps[i]?=some (k,v)->∃ (en:DictEntry) (b:Addr),es[i]?=some en/\en.key=.ref b/\H b=some (.tup (k.map kV))/\RelV v en.val:=by
 obtain⟨g,z,y,xs,r,o',es',ep',g',ex,dd',et,nd⟩:=x;rw[g] at g';cases g';rw[dd] at dd';cases dd';have hl:es.size=ps.length:=by
   have h1:=congrArg FE et;have h2:=Bf r;simp at h1;omega
 refine⟨g,hl,fun i k v hi=>?_⟩;have get:∀ {l:List (List Key×V)} {m:List (List Key×Addr×Value)} {i:Nat},Paired (fun (p:List Key×V) (q:List Key×Addr×Value)=>p.1=q.1/\H q.2.1=some (.tup (p.1.map kV))/\RelV p.2 q.2.2) l m->l[i]?=some (k,v)->∃ q,m[i]?=some q/\H q.2.1=some (.tup (k.map kV))/\RelV v q.2.2:=by
   intro l m i q
   induction q generalizing i with
   | nil=>intro e;simp at e
   | cons h t ih =>
     cases i with
     | zero =>
       intro e;simp at e;subst e;exact⟨_,rfl,h.2.1,h.2.2⟩
     | succ j=>intro e;exact ih (by simpa using e)
 obtain⟨q,hq,h1,h2⟩:=get r hi;have he:es[i]?=some (entryOfKey (tupleKind (zaB P w)) q):=by
   have:es.toList[i]?=some (entryOfKey (tupleKind (zaB P w)) q):=by rw[et,AD,hq];rfl
   simpa using this
 exact⟨_,q.2.1,he,rfl,h1,h2⟩
section
variable {X:Cx} {K:Ab} {H:Hp} {io:List Addr} {m:ME} {st st':Sto}
def keyD:Key->D
 | .inl i=>.int i
 | .inr x=>.str x
def zfy:∀ (ks:List Key),Reps K H io (ks.map kV) (ks.map keyD)
 | []=>rfl
 | .inl i::r=>⟨_,_,rfl,rfl,zfy r⟩
 | .inr x::r=>⟨_,_,rfl,rfl,zfy r⟩
end
inductive Sr where
 | l (a:Addr) | t (a:Addr)
def Sr.ad:Sr->Addr
 | .l a=>a
 | .t a=>a
def Sr.ob:Sr->Obj
 | .l a=>{ cls:=.type "list_iterator",data:=.fields #[.ref a,.int 0 0] }
 | .t a=>{ cls:=.type "tuple_iterator",data:=.fields #[.ref a,.int 0 0] }
def Sr.is(h:Heap)(xs:Array Value):Sr->Prop
 | .l a=>h.IsList a xs
 | .t a=>IsTup h a xs
def Sr.at_(h:Heap)(i:Addr)(k:Nat):Sr->Prop
 | .l a=>h.IsListIter i a k
 | .t a=>IsTupIter h i a k
def Sr.is_keep{h h':Heap}{xs:Array Value}{x:Sr}(q:x.is h xs)(k:∀ u,h.get? x.ad=some u->h'.get? x.ad=some u):x.is h' xs:=by
 cases x with
 | l a=>exact Dt q k
 | t a=>obtain⟨o,g,c⟩:=q;exact⟨o,k o g,c⟩
def Sr.at_keep{h h':Heap}{i:Addr}{n:Nat}{x:Sr}(q:x.at_ h i n)(k:∀ u,h.get? i=some u->h'.get? i=some u):x.at_ h' i n:=by
 cases x with
 | l a=>exact Fd q k
 | t a=>obtain⟨o,g,c⟩:=q;exact⟨o,k o g,c⟩
def Sr.at_get{h:Heap}{i:Addr}{n:Nat}{x:Sr}(q:x.at_ h i n):∃ o vs,h.get? i=some o/\o.data=.fields vs:=by
 cases x with
 | l a=>obtain⟨o,g,c,d⟩:=q;exact⟨o,_,g,d⟩
 | t a=>obtain⟨o,g,c,d⟩:=q;exact⟨o,_,g,d⟩
section
variable {prog:Program} {w:World} {A:Around} {E:Value->Shared->Prop} {s:Shared}
def Sr.iter{x:Sr}{xs:Array Value}{R:Value->Shared->Prop}(h:x.is s.heap xs)(k:R (.ref s.heap.objs.size) { s with heap:=s.heap.push x.ob }):wpAny (model prog w) A (pyIter (.ref x.ad)) R E s:=by
 cases x with
 | l a=>exact CS h k
 | t a=>exact iter_tuple h k
def zjG{it a:Addr}{i:Nat}{xs:Array Value}{v:Value}{R:Value->Shared->Prop}(hit:IsTupIter s.heap it a i)(ht:IsTup s.heap a xs)(hx:xs[i]?=some v)
   (k:∀ h',IsTupIter h' it a (i+1)->BC it s.heap h'->R v { s with heap:=h' }):wpAny (model prog w) A (Builtin.SmallTypes.nextOf (.ref it)) R E s:=by
 obtain⟨ro,rg,rc,rd⟩:=id hit;obtain⟨to,tg,_,tn,td⟩:=ht;unfold Builtin.SmallTypes.nextOf;refine Aa (A2 (name:=Bu "__next__") hit.typeIs CD (Bc CD hit.typeIs ED ?_ (EN _)));show wpAny _ _ (field (.ref it) 0 >>= _) _ _ s;refine Aa (A5 rg rd (x:=.ref a) rfl ?_);show wpAny _ _ (if (AF a==Be)=true then _ else _) _ _ s;rw[if_neg (show ¬ (AF a==Be)=true from fun z=>AV z)];show wpAny _ _ (field (.ref it) 1 >>= _) _ _ s;refine Aa (A5 rg rd (x:=.int i 0) rfl ?_);show wpAny _ _ (seqItems? (.ref a) >>= _) _ _ s;refine Aa (Bo tg td ?_);simp only[Br,hx];refine Aa (Du rg rd (by simp) (Ad ⟨v,rfl,Ad (k _ ⟨_,BF _ rg (Et (CN rd _)),(Fy ..).trans rc,?_⟩ (BQ ..))⟩));rw[CN rd];simp[rawInt]
def zfr{it a:Addr}{i:Nat}{xs:Array Value}{R:Value->Shared->Prop}(hh:A.handled=none)(hit:IsTupIter s.heap it a i)(ht:IsTup s.heap a xs)(hx:xs[i]?=none)
   (k:∀ h' e,El it s.heap h'->(∃ o,h'.get? e=some o/\o.cls=.type "StopIteration")->E (.ref e) { s with heap:=h' }):wpAny (model prog w) A (Builtin.SmallTypes.nextOf (.ref it)) R E s:=by
 obtain⟨ro,rg,rc,rd⟩:=id hit;obtain⟨to,tg,_,tn,td⟩:=ht;unfold Builtin.SmallTypes.nextOf;refine Aa (A2 (name:=Bu "__next__") hit.typeIs CD (Bc CD hit.typeIs ED ?_ (EN _)));show wpAny _ _ (field (.ref it) 0 >>= _) _ _ s;refine Aa (A5 rg rd (x:=.ref a) rfl ?_);show wpAny _ _ (if (AF a==Be)=true then _ else _) _ _ s;rw[if_neg (show ¬ (AF a==Be)=true from fun z=>AV z)];show wpAny _ _ (field (.ref it) 1 >>= _) _ _ s;refine Aa (A5 rg rd (x:=.int i 0) rfl ?_);show wpAny _ _ (seqItems? (.ref a) >>= _) _ _ s;refine Aa (Bo tg td ?_);simp only[Br,hx];refine Aa (BL (Aa (Du rg rd (by simp) ?_)));show wpAny _ _ (newExc (.type "StopIteration") [] >>= _) _ _ _;simp only[newExc,newTuple];refine Aa (Aa (AI (Aa (m:=firstArgMember _ _) (FI (a:=Be) (by first | rfl | (simp only[firstArgMember];rfl)) (AI ?_ (by size_fits)))) (by size_fits)));simp only[raiseNew];refine Aa (wpAny_handled ?_)
 first | rw[show A.in1.handled=none from hh] | rw[hh]
 refine Aa (Ad (wpAny_throw ?_));exact k _ _ (((BQ ..).extBut.push _).push _) ⟨_,Am _ rfl,rfl⟩
def Sr.next{x:Sr}{it:Addr}{i:Nat}{xs:Array Value}{v:Value}{R:Value->Shared->Prop}(hit:x.at_ s.heap it i)(h:x.is s.heap xs)(hx:xs[i]?=some v)(k:∀ h',x.at_ h' it (i+1)->BC it s.heap h'->R v { s with heap:=h' }) :
   wpAny (model prog w) A (Builtin.SmallTypes.nextOf (.ref it)) R E s:=by
 cases x with
 | l a=>exact wpAny_nextOf_list_item hit h hx k
 | t a=>exact zjG hit h hx k
def Sr.stop{x:Sr}{it:Addr}{i:Nat}{xs:Array Value}{R:Value->Shared->Prop}(hh:A.handled=none)(hit:x.at_ s.heap it i)(h:x.is s.heap xs)(hx:xs[i]?=none)
   (k:∀ h' e,El it s.heap h'->(∃ o,h'.get? e=some o/\o.cls=.type "StopIteration")->E (.ref e) { s with heap:=h' }):wpAny (model prog w) A (Builtin.SmallTypes.nextOf (.ref it)) R E s:=by
 cases x with
 | l a=>exact wpAny_nextOf_list_end hh hit h hx k
 | t a=>exact zfr hh hit h hx k
end
def Sr.at_new{h:Heap}{x:Sr}{i:Addr}(g:h.get? i=some x.ob):x.at_ h i 0:=by
 cases x with
 | l a=>exact⟨_,g,rfl,rfl⟩
 | t a=>exact⟨_,g,rfl,rfl⟩
noncomputable abbrev zp1 (h:Heap) (x:Sr):Heap:=h.push x.ob
noncomputable abbrev zp2 (h:Heap) (x y:Sr):Heap:=(zp1 h x).push y.ob
noncomputable abbrev zp3 (h:Heap) (x y:Sr):Heap:=(zp2 h x y).push { cls:=.type "tuple",data:=.seq #[.ref h.objs.size,.ref (zp1 h x).objs.size] }
noncomputable abbrev zp4 (h:Heap) (x y:Sr):Heap:=(zp3 h x y).push { cls:=.type "tuple",data:=.seq #[.none,.none] }
noncomputable abbrev zp5 (h:Heap) (x y:Sr):Heap:=(zp4 h x y).push { cls:=.type "zip",data:=.fields #[.none,.bool false,.bool false,.ref (zp2 h x y).objs.size,.ref (zp3 h x y).objs.size] }
def zkR(x y:Sr)(xs ys:Array Value):Meets (Builtin.«zip.__new__» ⟨[.type "zip",.ref x.ad,.ref y.ad],[]⟩) (fun _ R s=>x.is s.heap xs/\y.is s.heap ys/\R (.ok (.ret (.ref (zp4 s.heap x y).objs.size))) { s with heap:=zp5 s.heap x y }) :=
 .of_wp fun prog w A R s h=>by
   obtain⟨hp,g,d,tk,os⟩:=s;obtain⟨h1,h2,h⟩:=h;have hsub:=sub_zip;have hx:x.is (Shared.heap ⟨hp,g,d,tk,os⟩) xs:=h1;have hy:y.is (Shared.heap ⟨hp.push x.ob,g,d,tk,os⟩) ys:=Sr.is_keep h2 fun u q=>Ac _ q
   wp_walk using Sr.iter hx,Sr.iter hy
   exact⟨_,rfl,h⟩
structure Zp(z TI TO i j:Addr):Prop where
 TIz:TI≠z
 TOz:TO≠z
 iz:i≠z
 jz:j≠z
 TIO:TI≠TO
 TIi:TI≠i
 TIj:TI≠j
 TOi:TO≠i
 TOj:TO≠j
 ij:i≠j
def neq{a b:Nat}(h:a≠b):(show Addr from a)≠(show Addr from b):=h
def Zp.new(n:Nat):Zp (n+4) (n+2) (n+3) n (n+1):=⟨neq (by omega),neq (by omega),neq (by omega),neq (by omega),neq (by omega),neq (by omega),neq (by omega),neq (by omega),neq (by omega),neq (by omega)⟩
section
variable {prog:Program} {w:World} {A:Around} {E:Value->Shared->Prop} {s:Shared}
def zl0{x y:Sr}{xs ys:Array Value}{R:Value->Shared->Prop}(hx:x.is s.heap xs)(hy:y.is s.heap ys)
   (k:∀ h',IsZip h' (s.heap.objs.size+4) (s.heap.objs.size+2) (s.heap.objs.size+3) .none->IsPair h' (s.heap.objs.size+2) (.ref s.heap.objs.size) (.ref (s.heap.objs.size+1))->IsPair h' (s.heap.objs.size+3) .none .none ->
     x.at_ h' s.heap.objs.size 0->y.at_ h' (s.heap.objs.size+1) 0->(∀ c u,s.heap.get? c=some u->h'.get? c=some u)->R (.ref (s.heap.objs.size+4)) { s with heap:=h' }):wpAny (model prog w) A (call (.type "zip") [.ref x.ad,.ref y.ad]) R E s:=by
 refine callType_new F.called_zip (by decide) (F.typeCall_zip_2 _ _) (F.newCall_zip_2 _ _) (fun obj=>F.args_object_init_3 obj _ _) F.entry_zip_new (zkR x y xs ys) ⟨hx,hy,?_⟩;have e1:(zp1 s.heap x).objs.size=s.heap.objs.size+1:=A6 ..;have e2:(zp2 s.heap x y).objs.size=s.heap.objs.size+2:=(A6 ..).trans (by rw[e1]);have e3:(zp3 s.heap x y).objs.size=s.heap.objs.size+3:=(A6 ..).trans (by rw[e2]);have e4:(zp4 s.heap x y).objs.size=s.heap.objs.size+4:=(A6 ..).trans (by rw[e3]);have up:∀ c u,(zp1 s.heap x).get? c=some u->(zp5 s.heap x y).get? c=some u:=fun c u q=>Ac _ (Ac _ (Ac _ (Ac _ q)));have f5:(zp5 s.heap x y).get? (zp4 s.heap x y).objs.size=some { cls:=.type "zip",data:=.fields #[.none,.bool false,.bool false,.ref (zp2 s.heap x y).objs.size,.ref (zp3 s.heap x y).objs.size] }:=Am _ rfl;have f4:(zp5 s.heap x y).get? (zp3 s.heap x y).objs.size=some { cls:=.type "tuple",data:=.seq #[.none,.none] }:=Ac _ (Am _ rfl);have f3:(zp5 s.heap x y).get? (zp2 s.heap x y).objs.size=some { cls:=.type "tuple",data:=.seq #[.ref s.heap.objs.size,.ref (zp1 s.heap x).objs.size] }:=Ac _ (Ac _ (Am _ rfl));have f2:(zp5 s.heap x y).get? (zp1 s.heap x).objs.size=some y.ob:=Ac _ (Ac _ (Ac _ (Am _ (by cases y <;> rfl))));have f1:(zp5 s.heap x y).get? s.heap.objs.size=some x.ob:=up _ _ (Am _ (by cases x <;> rfl));rw[e2,e3,e4] at f5;rw[e1,e2] at f3;rw[e3] at f4;rw[e1] at f2;show _/\_;rw[e4];exact⟨⟨_,f5,rfl⟩,k _ f5 f3 f4 (Sr.at_new f1) (Sr.at_new f2) fun c u q=>up c u (Ac _ q)⟩
def zmI{z TI TO i j:Addr}{x y:Sr}{n m:Nat}{xs ys:Array Value}{u v a b:Value}{R:Option Value->Shared->Prop}(D:Zp z TI TO i j)(xz:x.ad≠z/\x.ad≠TO/\x.ad≠i/\x.ad≠j)(yz:y.ad≠z/\y.ad≠TO/\y.ad≠i/\y.ad≠j)
   (hz:IsZip s.heap z TI TO .none) (hTI:IsPair s.heap TI (.ref i) (.ref j)) (hTO:IsPair s.heap TO a b) (hi:x.at_ s.heap i n) (hj:y.at_ s.heap j m) (hx:x.is s.heap xs) (hy:y.is s.heap ys) (gx:xs[n]?=some u) (gy:ys[m]?=some v)
   (k:∀ h',IsZip h' z TI TO (rawInt s.heap.objs.size)->IsPair h' TI (.ref i) (.ref j)->IsPair h' TO u v->x.at_ h' i (n+1)->y.at_ h' j (m+1)->IsPair h' s.heap.objs.size u v ->
     (∀ c o,c≠z->c≠TO->c≠i->c≠j->s.heap.get? c=some o->h'.get? c=some o)->R (some (.ref s.heap.objs.size)) { s with heap:=h' }):wpAny (model prog w) A (pyNext (.ref z)) R E s:=by
 have ty:s.TypeIs (.ref z) "zip":=⟨_,hz,rfl⟩
 unfold pyNext;refine Aa (DF (A2 (name:=Bu "__next__") ty F.slot_zip_next (Bc F.slot_zip_next ty F.entry_zip_next ?_ (F.args_zip_next_1 _))));show wpAny _ _ (field (.ref z) 2 >>= _) _ _ _;refine Aa (A5 hz rfl (x:=.bool false) rfl ?_);show wpAny _ _ (field (.ref z) 3 >>= _) _ _ _;refine Aa (A5 hz rfl (x:=.ref TI) rfl (Aa (Bo hTI rfl ?_)));show wpAny _ _ (Builtin.SmallTypes.ownedTupleIsFree (.ref z) >>= _) _ _ _;unfold Builtin.SmallTypes.ownedTupleIsFree;refine Aa (Aa (A5 hz rfl (x:=.none) rfl (Ad ?_)));simp only[if_true];refine Aa (BL (Aa (A5 hz rfl (x:=.ref TO) rfl (Aa (BY hz (by simp) fun g1 z1 s1=>?_)))))
 replace z1:IsZip g1 z TI TO .ellipsis:=z1
 have k1:∀ c o,c≠z->s.heap.get? c=some o->g1.get? c=some o:=fun c o nc q=>s1.extBut c o nc q;simp only[FQ,F9,D7,CP];refine Aa (Aa (Aa (DG ?_)));show wpAny _ _ (Builtin.SmallTypes.nextOf (.ref i) >>= _) _ _ _;refine Aa (Sr.next (Sr.at_keep hi fun o q=>k1 _ o D.iz q) (Sr.is_keep hx fun o q=>k1 _ o xz.1 q) gx fun g2 i2 s2=>Ad ?_);have k2:∀ c o,c≠z->c≠i->s.heap.get? c=some o->g2.get? c=some o:=fun c o nc ni q=>s2.extBut c o ni (k1 c o nc q);have o2:IsPair g2 TO a b:=k2 _ _ D.TOz D.TOi hTO;refine Aa (Bo o2 rfl (Aa (Dh o2 fun g3 o3 s3=>(Aa (BR (Ad ?_))))))
 replace o3:IsPair g3 TO u b:=o3
 have k3:∀ c o,c≠z->c≠i->c≠TO->s.heap.get? c=some o->g3.get? c=some o:=fun c o nc ni nt q=>s3.extBut c o nt (k2 c o nc ni q);refine Aa (Aa (DG ?_));show wpAny _ _ (Builtin.SmallTypes.nextOf (.ref j) >>= _) _ _ _;refine Aa (Sr.next (Sr.at_keep hj fun o q=>k3 _ o D.jz D.ij.symm D.TOj.symm q) (Sr.is_keep hy fun o q=>k3 _ o yz.1 yz.2.2.1 yz.2.1 q) gy fun g4 j4 s4=>Ad ?_);have o4:IsPair g4 TO u b:=s4.extBut _ _ D.TOj o3;refine Aa (Bo o4 rfl (Aa (Dh o4 fun g5 o5 s5=>(Aa (BR (Ad (Ad ?_)))))))
 replace o5:IsPair g5 TO u v:=o5
 refine Aa (Bo o5 rfl (Aa (Es ?_)));have sz:g5.objs.size=s.heap.objs.size:=by rw[s5.1,s4.1,s3.1,s2.1,s1.1]
 have z5:IsZip g5 z TI TO .ellipsis:=s5.extBut _ _ D.TOz.symm (s4.extBut _ _ D.jz.symm (s3.extBut _ _ D.TOz.symm (s2.extBut _ _ D.iz.symm z1)));have k5:∀ c o,c≠z->c≠TO->c≠i->c≠j->s.heap.get? c=some o->g5.get? c=some o:=fun c o c1 c2 c3 c4 q=>s5.extBut c o c2 (s4.extBut c o c4 (k3 c o c1 c3 c2 q));have i5:x.at_ g5 i (n+1):=Sr.at_keep i2 fun o q=>s5.extBut _ _ D.TOi.symm (s4.extBut _ _ D.ij (s3.extBut _ _ D.TOi.symm q));have j5:y.at_ g5 j (m+1):=Sr.at_keep j4 fun o q=>s5.extBut _ _ D.TOj.symm q;have lz:z < g5.objs.size:=Aj z5;show wpAny _ _ (Builtin.SmallTypes.ownedTupleHandOut (.ref z) (.ref g5.objs.size) >>= _) _ _ _;unfold Builtin.SmallTypes.ownedTupleHandOut;have z6:IsZip (g5.push { cls:=.type "tuple",data:=.seq #[u,v] }) z TI TO .ellipsis:=Ac _ z5;refine Aa (Aa (BY z6 (by simp) fun g7 z7 s7=>?_))
 replace z7:IsZip g7 z TI TO (rawInt g5.objs.size):=z7
 refine BY z7 (by simp) fun g8 z8 s8=>?_
 replace z8:IsZip g8 z TI TO (rawInt g5.objs.size):=z8
 have up:∀ c o,c≠z->g5.get? c=some o->g8.get? c=some o:=fun c o nc q=>s8.extBut c o nc (s7.extBut c o nc (Ac _ q));have t8:IsPair g8 g5.objs.size u v:=s8.extBut _ _ (CJ lz) (s7.extBut _ _ (CJ lz) (Am _ rfl));rw[sz] at z8 t8;refine Ad ⟨_,rfl,Ad ?_⟩;show R (some (.ref g5.objs.size)) _;rw[sz];exact k g8 z8 (up _ _ D.TIz (k5 _ _ D.TIz D.TIO D.TIi D.TIj hTI)) (up _ _ D.TOz o5) (Sr.at_keep i5 fun o q=>up _ o D.iz q) (Sr.at_keep j5 fun o q=>up _ o D.jz q) t8 fun c o c1 c2 c3 c4 q=>up c o c1 (k5 c o c1 c2 c3 c4 q)
def zoI{z TI TO i j:Addr}{x y:Sr}{n m:Nat}{xs ys:Array Value}{a b:Value}{R:Option Value->Shared->Prop}(hh:A.handled=none)(D:Zp z TI TO i j)(xz:x.ad≠z/\x.ad≠TO/\x.ad≠i/\x.ad≠j)(yz:y.ad≠z/\y.ad≠TO/\y.ad≠i/\y.ad≠j)
   (hz:IsZip s.heap z TI TO .none) (hTI:IsPair s.heap TI (.ref i) (.ref j)) (hTO:IsPair s.heap TO a b) (hi:x.at_ s.heap i n) (hj:y.at_ s.heap j m) (hx:x.is s.heap xs) (hy:y.is s.heap ys) (he:xs[n]?=none\/ys[m]?=none)
   (k:∀ h',(∀ c o,c≠z->c≠TO->c≠i->c≠j->s.heap.get? c=some o->h'.get? c=some o)->R none { s with heap:=h' }):wpAny (model prog w) A (pyNext (.ref z)) R E s:=by
 have ty:s.TypeIs (.ref z) "zip":=⟨_,hz,rfl⟩
 have halt:∀ h' e,(∀ c o,c≠z->c≠TO->c≠i->c≠j->s.heap.get? c=some o->h'.get? c=some o)->(∃ o,h'.get? e=some o/\o.cls=.type "StopIteration") ->
     wpAny (model prog w) A (do if <-isInstance (.ref e) (.type "StopIteration") then pure none else throw (AF e)) R E { s with heap:=h' }:=fun h' e q ⟨o,g,c⟩ =>
   Aa (wpAny_isInstance (T:="StopIteration") (b:=true) ⟨o,g,c⟩ isSubtype_stop (Ad (k h' q)))
 unfold pyNext;refine Aa (DF (A2 (name:=Bu "__next__") ty F.slot_zip_next (Bc F.slot_zip_next ty F.entry_zip_next ?_ (F.args_zip_next_1 _))));show wpAny _ _ (field (.ref z) 2 >>= _) _ _ _;refine Aa (A5 hz rfl (x:=.bool false) rfl ?_);show wpAny _ _ (field (.ref z) 3 >>= _) _ _ _;refine Aa (A5 hz rfl (x:=.ref TI) rfl (Aa (Bo hTI rfl ?_)));show wpAny _ _ (Builtin.SmallTypes.ownedTupleIsFree (.ref z) >>= _) _ _ _;unfold Builtin.SmallTypes.ownedTupleIsFree;refine Aa (Aa (A5 hz rfl (x:=.none) rfl (Ad ?_)));simp only[if_true];refine Aa (BL (Aa (A5 hz rfl (x:=.ref TO) rfl (Aa (BY hz (by simp) fun g1 z1 s1=>?_)))))
 replace z1:IsZip g1 z TI TO .ellipsis:=z1
 have k1:∀ c o,c≠z->s.heap.get? c=some o->g1.get? c=some o:=fun c o nc q=>s1.extBut c o nc q;have sep:∀ {g:Heap} {e:Addr} {o:Obj},IsZip g z TI TO .ellipsis->g.get? e=some o->o.cls=.type "StopIteration"->e≠z:=fun {g e o} q h c r=>by
   subst r;rw[q] at h;cases h;simp at c
 simp only[FQ,F9,D7,CP];refine Aa (Aa (Aa (DG ?_)));show wpAny _ _ (Builtin.SmallTypes.nextOf (.ref i) >>= _) _ _ _
 cases gx:xs[n]? with
 | none =>
   refine Aa (Sr.stop hh (Sr.at_keep hi fun o q=>k1 _ o D.iz q) (Sr.is_keep hx fun o q=>k1 _ o xz.1 q) gx ?_);rintro g2 e s2 ⟨oe,he,ce⟩;have z2:IsZip g2 z TI TO .ellipsis:=s2 _ _ D.iz.symm z1;exact BY z2 (by simp) fun g3 _ s3=>halt g3 e (fun c o c1 _ c3 _ q=>s3.extBut c o c1 (s2 c o c3 (k1 c o c1 q))) ⟨oe,s3.extBut _ _ (sep z2 he ce) he,ce⟩
 | some u =>
   have gy:ys[m]?=none:=he.resolve_left (by rw[gx];simp);refine Aa (Sr.next (Sr.at_keep hi fun o q=>k1 _ o D.iz q) (Sr.is_keep hx fun o q=>k1 _ o xz.1 q) gx fun g2 i2 s2=>Ad ?_);have k2:∀ c o,c≠z->c≠i->s.heap.get? c=some o->g2.get? c=some o:=fun c o nc ni q=>s2.extBut c o ni (k1 c o nc q);have o2:IsPair g2 TO a b:=k2 _ _ D.TOz D.TOi hTO;refine Aa (Bo o2 rfl (Aa (Dh o2 fun g3 o3 s3=>(Aa (BR (Ad ?_))))));have k3:∀ c o,c≠z->c≠i->c≠TO->s.heap.get? c=some o->g3.get? c=some o:=fun c o nc ni nt q=>s3.extBut c o nt (k2 c o nc ni q);refine Aa (Aa (DG ?_));show wpAny _ _ (Builtin.SmallTypes.nextOf (.ref j) >>= _) _ _ _;refine Aa (Sr.stop hh (Sr.at_keep hj fun o q=>k3 _ o D.jz D.ij.symm D.TOj.symm q) (Sr.is_keep hy fun o q=>k3 _ o yz.1 yz.2.2.1 yz.2.1 q) gy ?_);rintro g4 e s4 ⟨oe,he,ce⟩;have z4:IsZip g4 z TI TO .ellipsis:=s4 _ _ D.jz.symm (s3.extBut _ _ D.TOz.symm (s2.extBut _ _ D.iz.symm z1));exact BY z4 (by simp) fun g5 _ s5=>halt g5 e (fun c o c1 c2 c3 c4 q=>s5.extBut c o c1 (s4 c o c4 (k3 c o c1 c3 c2 q))) ⟨oe,s5.extBut _ _ (sep z4 he ce) he,ce⟩
end
def Sr.sq(H:Hp)(xs:List V):Sr->Prop
 | .l a=>H a=some (.lst xs)\/∃ o,H a=some (.frz o (.lst xs))
 | .t a=>H a=some (.tup xs)
def Sr.sq_ne{H:Hp}{xs:List V}{x:Sr}{b:Addr}(h:x.sq H xs)(hb:H b=none):x.ad≠b:=by
 cases x with
 | l a=>rcases h with h | ⟨o,h⟩ <;> exact zau h hb
 | t a=>exact zau (show H a=some (.tup xs) from h) hb
def Sr.sq_inj{H:Hp}{xs ys:List V}{x:Sr}(h:x.sq H xs)(h':x.sq H ys):xs=ys:=by
 cases x with
 | l a=>rcases h with h | ⟨o,h⟩ <;> rcases h' with h' | ⟨o',h'⟩ <;> rw[h] at h' <;> cases h' <;> rfl
 | t a =>
   have h:H a=some (.tup xs):=h;have h':H a=some (.tup ys):=h';rw[h] at h';cases h';rfl
def Sr.sq_is{X:Cx}{pins:List (Addr×Obj)}{σ:L2.St}{H:Hp}{s:Shared}{xs:List V}{x:Sr}(I:Inv X pins σ H s)(h:x.sq H xs):∃ its:List Value,Vals xs its/\x.is s.heap its.toArray:=by
 cases x with
 | l a =>
   obtain⟨its,rv,p,_⟩:=I.list (show SqL X.K H a xs from .inl h);exact⟨its,rv,p.isList⟩
 | t a =>
   obtain⟨its,rv,p,_⟩:=I.tuple (SqT.of (K:=X.K) h);exact⟨its,rv,p⟩
def Itz(x y:Sr):It :=
 ⟨fun i H=>∃ xs ys u v,x.sq H xs/\y.sq H ys/\xs[i]?=some u/\ys[i]?=some v,fun i H r H'=>∃ p u v,H p=none/\H'=upd H p (.tup [u,v])/\r=.ref p/\(∀ xs,x.sq H xs->xs[i]?=some u)/\∀ ys,y.sq H ys->ys[i]?=some v,
   fun i H=>∃ xs ys,x.sq H xs/\y.sq H ys/\(xs.length<=i\/ys.length<=i)⟩
def zmM{P:Program}{w:World}{K:Ab}{elts:List Expr}{x1}{pos:Pos}(x y:Sr){z TI TO i j:Addr}(D:Zp z TI TO i j) :
   Turn P w K (.Tuple elts x1 pos) (Itz x y) [z,TI,TO,i,j] z (fun n h=>IsZip h z TI TO .none/\IsPair h TI (.ref i) (.ref j)/\(∃ a b,IsPair h TO a b)/\x.at_ h i n/\y.at_ h j n) where
 mem:=by simp
 obj:=fun n h st b hb=>by
   obtain⟨hz,hTI,⟨a,c,hTO⟩,hi,hj⟩:=st;simp only[Ba,Bd,or_false] at hb
   rcases hb with rfl | rfl | rfl | rfl | rfl
   . exact⟨_,hz,fun v q=>by cases q⟩
   . exact⟨_,hTI,fun v q=>by cases q⟩
   . exact⟨_,hTO,fun v q=>by cases q⟩
   . obtain⟨o,vs,g,d⟩:=Sr.at_get hi;exact⟨o,g,fun v q=>by rw[d] at q;cases q⟩
   . obtain⟨o,vs,g,d⟩:=Sr.at_get hj;exact⟨o,g,fun v q=>by rw[d] at q;cases q⟩
 keep:=fun n h h' st k=>by
   obtain⟨hz,hTI,⟨a,c,hTO⟩,hi,hj⟩:=st;exact⟨k z (by simp) _ hz,k TI (by simp) _ hTI,⟨a,c,k TO (by simp) _ hTO⟩,Sr.at_keep hi fun o q=>k i (by simp) o q,Sr.at_keep hj fun o q=>k j (by simp) o q⟩
 item:=by
   intro X hP hw hK hc n pins s σ H E I hf st hg;subst hP hw hK;obtain⟨xs,ys,u,v,hx,hy,gu,gv⟩:=hg;obtain⟨hz,hTI,⟨a,c,hTO⟩,hi,hj⟩:=st;obtain⟨its,rx,ix⟩:=Sr.sq_is I hx;obtain⟨jts,ry,iy⟩:=Sr.sq_is I hy;obtain⟨u',gu',ru⟩:=rx.get gu;obtain⟨v',gv',rv⟩:=ry.get gv;have fz:=(hf z (by simp)).1;have fTO:=(hf TO (by simp)).1;have fi:=(hf i (by simp)).1;have fj:=(hf j (by simp)).1;refine zmI D ⟨Sr.sq_ne hx fz,Sr.sq_ne hx fTO,Sr.sq_ne hx fi,Sr.sq_ne hx fj⟩ ⟨Sr.sq_ne hy fz,Sr.sq_ne hy fTO,Sr.sq_ne hy fi,Sr.sq_ne hy fj⟩ hz hTI hTO hi hj ix iy (u:=u') (v:=v') (by simpa using gu') (by simpa using gv') fun h1 z1 ti1 to1 i1 j1 t1 k1=>?_;refine⟨_,rfl,wpAny_letOwnedTupleGo_zip (s:={ s with heap:=h1 }) z1 fun h2 z2 b2=>?_⟩;have up:∀ b o,b≠z->h1.get? b=some o->h2.get? b=some o:=fun b o nb q=>(b2.2 b nb).trans q;have k2:∀ b o,b ∉ [z,TI,TO,i,j]->s.heap.get? b=some o->h2.get? b=some o:=fun b o hb q=>by
     simp only[Ba,Bd,or_false,not_or] at hb;exact up b o hb.1 (k1 b o hb.1 hb.2.2.1 hb.2.2.2.1 hb.2.2.2.2 q)
   have lt:∀ b∈[z,TI,TO,i,j],b < s.heap.objs.size:=fun b hb=>by
     simp only[Ba,Bd,or_false] at hb
     rcases hb with rfl | rfl | rfl | rfl | rfl
     . exact Aj hz
     . exact Aj hTI
     . exact Aj hTO
     . obtain⟨o,vs,g,d⟩:=Sr.at_get hi;exact Aj g
     . obtain⟨o,vs,g,d⟩:=Sr.at_get hj;exact Aj g
   have t2:h2.get? s.heap.objs.size=some { cls:=.type "tuple",data:=.seq #[u',v'] }:=up _ _ (CJ (lt z (by simp))) t1;have st2:IsZip h2 z TI TO .none/\IsPair h2 TI (.ref i) (.ref j)/\(∃ a b,IsPair h2 TO a b)/\x.at_ h2 i (n+1)/\y.at_ h2 j (n+1) :=
     ⟨z2,up _ _ D.TIz ti1,⟨_,_,up _ _ D.TOz to1⟩,Sr.at_keep i1 fun o q=>up _ o D.iz q,Sr.at_keep j1 fun o q=>up _ o D.jz q⟩
   refine⟨.ref s.heap.objs.size,upd H s.heap.objs.size (.tup [u,v]),?_,rfl,⟨_,u,v,I.hok.fresh (Af _),rfl,rfl,fun zs h=>by rw[Sr.sq_inj h hx];exact gu,fun zs h=>by rw[Sr.sq_inj h hy];exact gv⟩,st2,fun b hb=>?_⟩
   . refine Inv.turnNew (s:=s) (h':=h2) (t':=s.toks) I hf k2 (Af _) (fun b hb ob q=>?_) ⟨by show 2<=sizeLine;decide,[u',v'],.cons ru (.cons rv .nil),⟨_,t2,rfl,rfl,_,rfl⟩⟩;simp only[Ba,Bd,or_false] at hb
     rcases hb with rfl | rfl | rfl | rfl | rfl
     . exact⟨_,z2⟩
     . exact⟨_,st2.2.1⟩
     . obtain⟨_,_,q⟩:=st2.2.2.1;exact⟨_,q⟩
     . obtain⟨o,vs,g,d⟩:=Sr.at_get st2.2.2.2.1;exact⟨o,g⟩
     . obtain⟨o,vs,g,d⟩:=Sr.at_get st2.2.2.2.2;exact⟨o,g⟩
   . rw[zat (As (lt b hb))];exact (hf b hb).1
 done:=by
   intro X hP hw hK hc n pins s σ H E I hf st hg;subst hP hw hK;obtain⟨xs,ys,hx,hy,he⟩:=hg;obtain⟨hz,hTI,⟨a,c,hTO⟩,hi,hj⟩:=st;obtain⟨its,rx,ix⟩:=Sr.sq_is I hx;obtain⟨jts,ry,iy⟩:=Sr.sq_is I hy;have fz:=(hf z (by simp)).1;have fTO:=(hf TO (by simp)).1;have fi:=(hf i (by simp)).1;have fj:=(hf j (by simp)).1;have l1:=rx.length;have l2:=ry.length;exact zoI (I.ok.hd hc) D ⟨Sr.sq_ne hx fz,Sr.sq_ne hx fTO,Sr.sq_ne hx fi,Sr.sq_ne hx fj⟩ ⟨Sr.sq_ne hy fz,Sr.sq_ne hy fTO,Sr.sq_ne hy fi,Sr.sq_ne hy fj⟩ hz hTI hTO hi hj ix iy (by
     rcases he with h | h
     . exact .inl (by simp;omega)
     . exact .inr (by simp;omega)) fun h' k=>⟨rfl,Inv.turnAll (t':=s.toks) I hf fun b o hb q=>by
       simp only[Ba,Bd,or_false,not_or] at hb;exact k b o hb.1 hb.2.2.1 hb.2.2.2.1 hb.2.2.2.2 q⟩
 self:=fun _ _ _ _ _ st h=>wpAny_pyIter_zip st.1 h
section
variable {X:Cx} {K:Ab} {H:Hp} {io:List Addr} {ma mb:ME} {st st':Sto}
def seqD(s:Sto):D->Option (List D×List (Nat×List D))
 | .ref n=>(zbA s n).map fun ds=>(ds,[(n,ds)])
 | .tup ds=>some (ds,[])
 | _=>none
def pairD(a b:List D):List D:=(a.zip b).map fun p=>.tup [p.1,p.2]
def zipW(x y:D)(s:Sto):Option (Wk×Sto):=(seqD s x).bind fun (a,f)=>(seqD s y).map fun (b,g)=>(⟨pairD a b,f++g⟩,s)
def mZip(ma mb:ME):MI:=fun ρ st=>(ma ρ st).bind fun (x,s1)=>(mb ρ s1).bind fun (y,s2)=>zipW x y s2
def zjc{d:D}{v:V}{ds:List D}{g:List (Nat×List D)}(S:StR K H io st)(R:Rep K H io v d)(h:seqD st d=some (ds,g)):∃ x:Sr,v=.ref x.ad/\(∃ xs,x.sq H xs) /\
   ∀ H1 ka s1,Ext io ka H H1->StR K H1 (io++ka) s1->(∀ p,p∈g->s1[p.1]?=some (.lst p.2)\/s1[p.1]?=some (.fz p.2))->∃ xs,x.sq H1 xs/\Reps K H1 (io++ka) xs ds:=by
 cases d with
 | ref n =>
   obtain⟨l,e,q⟩:=zag h;cases q;obtain⟨p,rfl,hp⟩:=R;refine⟨.l p,rfl,?_,fun H1 ka s1 X1 S1 hs=>?_⟩
   . unfold zbA at e
     split at e
     . rename_i o he;cases e;obtain⟨xs,q,_⟩:=S.ob n p _ hp he;exact⟨xs,.inl q⟩
     . rename_i o he;cases e;obtain⟨ob,xs,q,_⟩:=S.ob n p _ hp he;exact⟨xs,.inr ⟨ob,q⟩⟩
     . cases e
   . rcases hs (n,ds) An with q | q
     . obtain⟨xs,q',r⟩:=S1.ob n p _ (za4 hp) q;exact⟨xs,.inl q',r⟩
     . obtain⟨ob,xs,q',r⟩:=S1.ob n p _ (za4 hp) q;exact⟨xs,.inr ⟨ob,q'⟩,r⟩
 | tup ts =>
   cases h;obtain⟨p,xs,rfl,hp,r⟩:=R;exact⟨.t p,rfl,⟨xs,hp⟩,fun H1 ka s1 X1 S1 _=>⟨xs,X1.sqT S p xs hp,r.ext S X1⟩⟩
 | _=>cases h
def zln{a b:List D}{i:Nat}{d:D}(h:(pairD a b)[i]?=some d):∃ x y,a[i]?=some x/\b[i]?=some y/\d=.tup [x,y]:=by
 unfold pairD at h;rw[AD] at h;obtain⟨⟨x,y⟩,e,q⟩:=zag h;rw[List.getElem?_zip_eq_some] at e;exact⟨x,y,e.1,e.2,q.symm⟩
def boot_zip:bootBuiltins "zip"=some (.type "zip"):=by decide +kernel
def zrx{elts:List Expr}{x1}{tp:Pos}{a b:Expr}{p pos:Pos}(hg:Gl X "zip")(hm:X.mg "zip"=none)(ha:SE X a ma)(hb:SE X b mb)(hs:starEach [a,b] X.env=[(false,eval a X.env),(false,eval b X.env)]:=by rfl)
   (hs2:starEach [b] X.env=[(false,eval b X.env)]:=by rfl) (hpl:(backTo pos (starEach [b] X.env)).any (·.1)=false:=by rfl):SI X (.Tuple elts x1 tp) (.Call (.Name "zip" p) [a,b] [] pos) (mZip ma mb):=by
 rintro pins s σ H R I ⟨ρ,st,io,W,st',E,S,e,k⟩;obtain⟨⟨x,s1⟩,e1,e⟩:=zad e;obtain⟨⟨y,s2⟩,e2,e⟩:=zad e;obtain⟨⟨as,f⟩,e3,e⟩:=zad e;obtain⟨⟨bs,g⟩,e4,e⟩:=zag e;cases e;have hs1:starEach [a,b] X.env=(false,eval a X.env)::starEach [b] X.env:=by rw[hs,hs2]
 refine Call_ (ziC I hg hm boot_zip (BS (thn (zaa ha (zaa hb zai hs2) hs1 pos pins s σ H (fun vs H'=>∃ ka,Ext io ka H H'/\StR X.K H' (io++ka) st'/\Reps X.K H' (io++ka) vs [x,y]) I ⟨ρ,st,io,[x,y],st',E,S,zfu e1 (zfu e2 rfl),fun vs H1 k1 X1 S1 R1=>⟨k1,X1,S1,R1⟩⟩) ?_) hs1 hpl));rintro us t1 ⟨vs,H1,I1,r1,k1,X1,S1,R1⟩;obtain⟨v,u,rfl,Rx,Ry⟩:=R1.two;obtain⟨v',u',rfl,rv,ru⟩:=r1.two;obtain⟨xx,rfl,⟨xs,hx⟩,kx⟩:=zjc S1 Rx e3;obtain⟨yy,rfl,⟨ys,hy⟩,ky⟩:=zjc S1 Ry e4;cases rv;cases ru;obtain⟨its,vx,ix⟩:=Sr.sq_is I1 hx;obtain⟨jts,vy,iy⟩:=Sr.sq_is I1 hy;refine zl0 ix iy fun h' hz hTI hTO hi hj kk=>wpAny_pyIter_zip hz ?_;refine⟨_,_,_,_,H1,rfl,I1.kept (t':=t1.toks) kk,zmM xx yy (Zp.new t1.heap.objs.size),⟨hz,hTI,⟨_,_,hTO⟩,hi,hj⟩,fun b hb=>?_,?_⟩
 . have hle:t1.heap.objs.size<=b:=by
     simp only[Ba,Bd,or_false] at hb
     rcases hb with rfl | rfl | rfl | rfl | rfl
     . exact B8 _ 4
     . exact B8 _ 2
     . exact B8 _ 3
     . exact Af _
     . exact B8 _ 1
   exact I1.fpOk hle (I1.hok.fresh hle)
 . refine k _ H1 k1 X1 S1 ?_;have st1:∀ {s3:Sto},stays ⟨pairD as bs,f++g⟩ s3->(∀ p,p∈f->s3[p.1]?=some (.lst p.2)\/s3[p.1]?=some (.fz p.2))/\∀ p,p∈g->s3[p.1]?=some (.lst p.2)\/s3[p.1]?=some (.fz p.2):=fun {s3} h=>⟨fun p hp=>h p (Bw _ hp),fun p hp=>h p (AM _ hp)⟩
   have len:∀ {a b:List D},(pairD a b).length=min a.length b.length:=fun {a b}=>by unfold pairD;rw[Ag,Ga]
   refine⟨fun i d H2 k2 s3 hd X2 S2 hs=>?_,fun H2 k2 s3 X2 S2 hs=>?_,fun H2 k2 s3 i hi X2 S2 hs=>?_⟩
   . obtain⟨xs2,qx,rx⟩:=kx H2 k2 s3 X2 S2 (st1 hs).1;obtain⟨ys2,qy,ry⟩:=ky H2 k2 s3 X2 S2 (st1 hs).2;obtain⟨dx,dy,g1,g2,rfl⟩:=zln hd;obtain⟨u1,gu,ru⟩:=rx.get g1;obtain⟨v1,gv,rv⟩:=ry.get g2;refine⟨⟨xs2,ys2,u1,v1,qx,qy,gu,gv⟩,fun r H' yl=>?_⟩;obtain⟨q,u2,v2,hq,rfl,rfl,yu,yv⟩:=yl;have e5:=yu xs2 qx;have e6:=yv ys2 qy;rw[gu] at e5;rw[gv] at e6;cases e5;cases e6;obtain⟨E',S'⟩:=zf8 (o:=.tup [u1,v1]) S2 hq;rw[Ap] at S';refine⟨E',S',⟨q,_,rfl,zbi,?_⟩⟩;have r2:=ru.ext S2 E';have r3:=rv.ext S2 E';rw[Ap] at r2 r3;exact Reps.cons r2 (Reps.cons r3 Reps.nil)
   . obtain⟨xs2,qx,rx⟩:=kx H2 k2 s3 X2 S2 (st1 hs).1;obtain⟨ys2,qy,ry⟩:=ky H2 k2 s3 X2 S2 (st1 hs).2;refine⟨xs2,ys2,qx,qy,?_⟩;show xs2.length<=(pairD as bs).length\/ys2.length<=(pairD as bs).length;rw[len,rx.length,ry.length];omega
   . obtain⟨xs2,qx,rx⟩:=kx H2 k2 s3 X2 S2 (st1 hs).1;obtain⟨ys2,qy,ry⟩:=ky H2 k2 s3 X2 S2 (st1 hs).2;refine⟨xs2,ys2,qx,qy,?_⟩;have hi:(pairD as bs).length<=i:=hi;rw[len] at hi;rw[rx.length,ry.length];omega
end
def Caps(X:Cx)(fs:List Str):List Nat->List Str->Prop
 | [],[]=>True
 | j::js,x::xs=>(X.N[j]?=some x/\x∈fs)/\Caps X fs js xs
 | _,_=>False
def Outs(X:Cx):List Str->Prop
 | []=>True
 | x::xs=>(X.env.kindOf x=some .cell\/X.env.kindOf x=some .free)/\Outs X xs
def Outs.get{X:Cx}:∀ {fs:List Str} {x:Str},Outs X fs->x∈fs->X.env.kindOf x=some .cell\/X.env.kindOf x=some .free
 | [],_,_,m=>nomatch m
 | y::ys,x,h,m=>by
   rcases List.mem_cons.mp m with rfl | m
   . exact h.1
   . exact Outs.get h.2 m
def Caps.get{X:Cx}{fs:List Str}:∀ {fr:List Nat} {xs:List Str} {i j:Nat} {x:Str},Caps X fs fr xs->fr[i]?=some j->xs[i]?=some x->X.N[j]?=some x/\x∈fs
 | [],[],i,j,x,_,h,_=>by simp at h
 | [],_::_,i,j,x,h,_,_=>h.elim
 | _::_,[],i,j,x,h,_,_=>h.elim
 | k::ks,y::ys,0,j,x,h,h1,h2=>by
   simp at h1 h2;subst h1 h2;exact h.1
 | k::ks,y::ys,i+1,j,x,h,h1,h2=>Caps.get (i:=i) h.2 (by simpa using h1) (by simpa using h2)
def zbP{X:Cx}{scope:Scope}{N':List Str}{nt:Nat}{fr:List Nat}(fs:List Str)(kind:scope.kind=.function)(nd:(scope.names.map (·.1)).Nodup)(hf:scope.names.all (fun p=>!(p.2==AG) || fs.contains p.1)=true)
   (hb:fs.all (fun x=>scope.names.contains (x,AG))=true) (len:N'.length=nt+fr.length) (cap:Caps X fs fr (N'.drop nt)) (out:Outs X fs):CompS X scope N' nt fr:=by
 refine⟨kind,nd,len,fun i j x h1 h2=>?_,fun x hx=>?_⟩
 . have h2':(N'.drop nt)[i]?=some x:=by rw[List.getElem?_drop];exact h2
   obtain⟨a,b⟩:=cap.get h1 h2';refine⟨a,?_⟩;have:=List.all_eq_true.mp hb x b;simpa using this
 . have:=List.all_eq_true.mp hf _ hx;have hm:x∈fs:=by simpa using this
   exact out.get hm
def zgt:bootBuiltins "len"=some (.builtin "len"):=by decide +kernel
def zqH:bootBuiltins "min"=some (.builtin "min"):=by decide +kernel
def zdN:bootBuiltins "sorted"=some (.builtin "sorted"):=by decide +kernel
def zqJ:bootBuiltins "int"=some (.type "int"):=by decide +kernel
def zqK:bootBuiltins "bool"=some (.type "bool"):=by decide +kernel
def zqI:bootBuiltins "list"=some (.type "list"):=by decide +kernel
def zcj:bootBuiltins "tuple"=some (.type "tuple"):=by decide +kernel
def zkA:bootBuiltins "dict"=some (.type "dict"):=by decide +kernel
def mulA:G2:=orG mulD zq7
def zcl{X:Cx}:OpM X (binaryOp .Mult) mulA:=znz zpJ znC
def zj1{K:Ab}{H:Hp}{io:List Addr}:∀ (ns:List Int),Reps K H io (ns.map V.int) (ns.map D.int)
 | []=>rfl
 | n::ns=>⟨_,_,rfl,rfl,zj1 ns⟩
def zmY{K:Ab}{H:Hp}{a:Addr}{ns:List Int}{g:GN}{st:Sto}{E:XK}(hO:Only H)(hS:SqL K H a (ns.map V.int))(e:g [.kl (ns.map D.int)] []=some (.bl true,st)):spM K 1 g [.ref a] H (fun v _=>v=.bl true) E:=by
 have hF:SqF K H a (ns.map V.int):=by
   rcases hS with (h | h) | h
   . rcases hO a with z | ⟨o,xs,z⟩
     . rw[z] at h;cases h
     . rw[z] at h;cases h
   . exact .inl h
   . exact .inr h
 refine⟨_,[],[],_,_,rfl,Reps.cons (show Rep K H [] (.ref a) (.kl (ns.map D.int)) from ⟨a,_,rfl,hF,zj1 ns⟩) Reps.nil,⟨rfl,Gg,fun n b o h=>by simp at h⟩,e,fun v H' ka E' S' R'=>R'⟩
end L2.MP
namespace L2.MP
structure Y3(a b c:Prop):Prop where
 h1:a
 h2:b
 h3:c
structure Y4(a b c d:Prop):Prop where
 h1:a
 h2:b
 h3:c
 h4:d
structure Y5(a b c d e:Prop):Prop where
 h1:a
 h2:b
 h3:c
 h4:d
 h5:e
structure Y6(a b c d e f:Prop):Prop where
 h1:a
 h2:b
 h3:c
 h4:d
 h5:e
 h6:f
structure Y7(a b c d e f g:Prop):Prop where
 h1:a
 h2:b
 h3:c
 h4:d
 h5:e
 h6:f
 h7:g
structure Y8(a b c d e f g h:Prop):Prop where
 h1:a
 h2:b
 h3:c
 h4:d
 h5:e
 h6:f
 h7:g
 h8:h
open PySem
structure Gr(st st':Sto):Prop where
 len:st.length<=st'.length
 old:∀ k,k < st.length->st'[k]?=st[k]?
structure Fr(n:Nat)(st st':Sto):Prop where
 len:st.length<=st'.length
 old:∀ k,k < st.length->k≠n->st'[k]?=st[k]?
def Gr.refl(st:Sto):Gr st st:=⟨Af _,fun _ _=>rfl⟩
def Fr.refl(n:Nat)(st:Sto):Fr n st st:=⟨Af _,fun _ _ _=>rfl⟩
def Gr.fr{st st':Sto}(h:Gr st st')(n:Nat):Fr n st st':=⟨h.len,fun k hk _=>h.old k hk⟩
def Gr.trans{a b c:Sto}(h:Gr a b)(h':Gr b c):Gr a c:=⟨Az h.len h'.len,fun k hk=>(h'.old k (AC hk h.len)).trans (h.old k hk)⟩
def Fr.trans{n:Nat}{a b c:Sto}(h:Fr n a b)(h':Fr n b c):Fr n a c:=⟨Az h.len h'.len,fun k hk nk=>(h'.old k (AC hk h.len) nk).trans (h.old k hk nk)⟩
def Gr.app(st:Sto)(l:List O):Gr st (st++l):=⟨by simp,fun k hk=>Al hk⟩
def Fr.app(n:Nat)(st:Sto)(l:List O):Fr n st (st++l):=(Gr.app st l).fr n
def Gb(n:Nat)(st:Sto)(o:O):Fr n st (st.set n o):=⟨by simp,fun k _ hk=>by rw[Ai (fun h=>hk h.symm)]⟩
def getElem?_lt{α:Type}{l:List α}{n:Nat}{x:α}(h:l[n]?=some x):n < l.length:=(List.getElem?_eq_some_iff.mp h).1
def zaQ(st:Sto)(o:O):(st++[o])[st.length]?=some o:=getElem?_len st o
def zbX{W:Wk}{g:MG}{m:MS}:∀ {ds:List D} {Inv:Nat->Rho->Sto->Prop} {ρ:Rho} {st:Sto},Inv 0 ρ st->(∀ k ρ s,k<=ds.length->Inv k ρ s->walked W s=true) ->
   (∀ k d ρ s,ds[k]?=some d->Inv k ρ s->∃ ρ1 s1 ρ2 s2,g d ρ s=some (ρ1,s1)/\m ρ1 s1=some (.nx ρ2,s2)/\Inv (k+1) ρ2 s2)->∃ ρ' s',zft W g m ds ρ st=some (.nx ρ',s')/\Inv ds.length ρ' s'
 | [],Inv,ρ,st,h0,wk,step=>⟨ρ,st,by unfold zft;rw[if_pos (wk 0 ρ st (Af _) h0)],h0⟩
 | d::ds,Inv,ρ,st,h0,wk,step=>by
   obtain⟨ρ1,s1,ρ2,s2,e1,e2,h1⟩:=step 0 d ρ st rfl h0;obtain⟨ρ',s',e,h⟩:=zbX (W:=W) (g:=g) (m:=m) (ds:=ds) (Inv:=fun k=>Inv (k+1)) h1 (fun k ρ s hk h=>wk (k+1) ρ s (CA hk) h) (fun k d ρ s hd h=>step (k+1) d ρ s (by simpa using hd) h);refine⟨ρ',s',?_,h⟩;unfold zft;rw[if_pos (wk 0 ρ st (A0 _) h0),e1];simp only[Ae,e2];exact e
def zoq{W:Wk}{g:MG}{c:MT}{m:ME}:∀ {ds:List D} {Inv:Nat->List D->Rho->Sto->Prop} {acc:List D} {ρ:Rho} {st:Sto},Inv 0 acc ρ st->(∀ k a ρ s,k<=ds.length->Inv k a ρ s->walked W s=true) ->
   (∀ k d a ρ s,ds[k]?=some d->Inv k a ρ s->∃ ρ1 s1 b s2,g d ρ s=some (ρ1,s1)/\c ρ1 s1=some (b,s2)/\((b=true/\∃ x s3,m ρ1 s2=some (x,s3)/\Inv (k+1) (a++[x]) ρ1 s3)\/(b=false/\Inv (k+1) a ρ1 s2))) ->
   ∃ xs ρ' s',mCI W g c m ds ρ st=some (xs,s')/\Inv ds.length (acc++xs) ρ' s'
 | [],Inv,acc,ρ,st,h0,wk,step=>⟨[],ρ,st,by unfold mCI;rw[if_pos (wk 0 acc ρ st (Af _) h0)],by rw[Ap];exact h0⟩
 | d::ds,Inv,acc,ρ,st,h0,wk,step=>by
   obtain⟨ρ1,s1,b,s2,e1,e2,h1⟩:=step 0 d acc ρ st rfl h0;have wk':∀ k a ρ s,k<=ds.length->Inv (k+1) a ρ s->walked W s=true:=fun k a ρ s hk h=>wk (k+1) a ρ s (CA hk) h;have st':∀ k d a ρ s,ds[k]?=some d->Inv (k+1) a ρ s->∃ ρ1 s1 b s2,g d ρ s=some (ρ1,s1)/\c ρ1 s1=some (b,s2)/\((b=true/\∃ x s3,m ρ1 s2=some (x,s3)/\Inv (k+1+1) (a++[x]) ρ1 s3)\/(b=false/\Inv (k+1+1) a ρ1 s2)):=fun k d a ρ s hd h=>step (k+1) d a ρ s (by simpa using hd) h
   rcases h1 with ⟨rfl,x,s3,e3,h1⟩ | ⟨rfl,h1⟩
   . obtain⟨xs,ρ',s',e,h⟩:=zoq (W:=W) (g:=g) (c:=c) (m:=m) (ds:=ds) (Inv:=fun k=>Inv (k+1)) h1 wk' st';refine⟨x::xs,ρ',s',?_,by simpa using h⟩;unfold mCI;rw[if_pos (wk 0 acc ρ st (A0 _) h0),e1];simp only[Ae,e2,if_true,e3,e,Bi]
   . obtain⟨xs,ρ',s',e,h⟩:=zoq (W:=W) (g:=g) (c:=c) (m:=m) (ds:=ds) (Inv:=fun k=>Inv (k+1)) h1 wk' st';refine⟨xs,ρ',s',?_,h⟩;unfold mCI;rw[if_pos (wk 0 acc ρ st (A0 _) h0),e1];simp only[Ae,e2,AX,if_false,e]
def ziG{W:Wk}{g:MG}{c:MT}{m:ME}{α:Type}{f h:α->D}{R:Rho->Prop}:∀ {as:List α} {ρ:Rho} {st:Sto},R ρ->walked W st=true->(∀ a∈as,∀ ρ,R ρ->∃ ρ1,g (f a) ρ st=some (ρ1,st)/\c ρ1 st=some (true,st)/\m ρ1 st=some (h a,st)/\R ρ1) ->
   mCI W g c m (as.map f) ρ st=some (as.map h,st)
 | [],ρ,st,r,wk,_=>by unfold mCI;rw[Cu];simp only[wk,if_true,Cu]
 | a::as,ρ,st,r,wk,hs=>by
   obtain⟨ρ1,e1,e2,e3,r1⟩:=hs a An ρ r;have e:=ziG (W:=W) (g:=g) (c:=c) (m:=m) (f:=f) (h:=h) (R:=R) (as:=as) r1 wk fun b hb=>hs b (Ak _ hb);rw[Av];unfold mCI;rw[if_pos wk,e1];simp only[Ae,e2,if_true,e3,e,Bi,Av]
def zcY{ds xs:List D}{n:Nat}{s:Sto}(h:s[n]?=some (.lst xs)):walked ⟨ds,[(n,xs)]⟩ s=true:=by
 unfold walked;simp only[Gn,List.all_nil,Gp];exact zj4 h
def zaw{n:Nat}(h:n<=10000):fits n=true:=by
 unfold fits;exact decide_eq_true (Az h (by decide))
end L2.MP
namespace L2.MP
@[simp] theorem zf1{α:Type}(x:α)(y:Option α):orO (some x) y=some x:=rfl
@[simp] theorem zio{α:Type}(y:Option α):orO none y=y:=rfl
end L2.MP
namespace L2.MP.Hn
open PySem L2.MP
end L2.MP.Hn
namespace L2.MP
open PySem
section
variable {ρ ρ1:Rho} {st s1:Sto} {m n ma mb:ME} {mm:MA} {ms mq:MS} {mt mu:MT} {g:G2} {gn:GN} {d:D} {i j:Nat} {ds:List D} {mg:MG} {mgs:MGs} {ml mh:MO}
@[simp] theorem zov:mVar i ρ st=match ρ[i]? with
 | some (some d)=>some (d,st)
 | _=>none:=rfl
@[simp] theorem zox:mCon d ρ st=some (d,st):=rfl
@[simp] theorem ziN:mBin g ma mb ρ st=(ma ρ st).bind fun p=>(mb ρ p.2).bind fun q=>g p.1 q.1 q.2:=rfl
@[simp] theorem zs4:mTst m ρ st=(m ρ st).bind fun p=>match p.1 with
 | .bl b=>some (b,p.2)
 | _=>none:=rfl
@[simp] theorem zmH:znQ mt ρ st=(mt ρ st).map fun p=>(!p.1,p.2):=rfl
@[simp] theorem zty:zms mt mu ρ st=(mt ρ st).bind fun p=>if p.1=true then mu ρ p.2 else some (false,p.2):=rfl
@[simp] theorem zuH:mOrT mt mu ρ st=(mt ρ st).bind fun p=>if p.1=true then some (true,p.2) else mu ρ p.2:=rfl
@[simp] theorem ztx:znU m n ρ st=(mTst m ρ st).bind fun p=>if p.1=true then n ρ p.2 else some (.bl false,p.2):=rfl
@[simp] theorem ztv:zq8 m ρ st=(mTst m ρ st).map fun p=>(.bl !p.1,p.2):=rfl
@[simp] theorem zqV:zav gn mm ρ st=(mm ρ st).bind fun p=>gn p.1 p.2:=rfl
@[simp] theorem zqU:zae m mm ρ st=(m ρ st).bind fun p=>(mm ρ p.2).bind fun q=>some (p.1::q.1,q.2):=rfl
@[simp] theorem zs5:mNil ρ st=some ([],st):=rfl
@[simp] theorem zuD:mTup mm ρ st=(mm ρ st).bind fun p=>if fits p.1.length=true then some (.tup p.1,p.2) else none:=rfl
@[simp] theorem zuJ:mLst mm ρ st=(mm ρ st).bind fun p=>if fits p.1.length=true then some (.ref p.2.length,p.2++[.lst p.1]) else none:=rfl
@[simp] theorem zuF:mRet m ρ st=(m ρ st).map fun p=>(.rt p.1,p.2):=rfl
@[simp] theorem zgu:mExp m ρ st=(m ρ st).map fun p=>(.nx ρ,p.2):=rfl
@[simp] theorem zgv:mAsg m mg ρ st=(m ρ st).bind fun p=>(mg p.1 ρ p.2).map fun q=>(.nx q.1,q.2):=rfl
@[simp] theorem zu7:gNm i d ρ st=some (ρ.set i (some d),st):=rfl
@[simp] theorem zqT:zdm ρ st=some (.nx ρ,st):=rfl
@[simp] theorem zuI:mNeg m ρ st=(m ρ st).bind fun p=>negD p.1 p.2:=rfl
@[simp] theorem zl7:mIf mt ms mq ρ st=(mt ρ st).bind fun p=>if p.1=true then ms ρ p.2 else mq ρ p.2:=rfl
@[simp] theorem zkF:putA ma mb m ρ st=orO (mAsg m (gSb setD ma mb) ρ st) (zmr ma mb m ρ st):=rfl
@[simp] theorem zu4{g3:G3}:gSb g3 ma mb d ρ st=(ma ρ st).bind fun p=>(mb ρ p.2).bind fun q=>(g3 p.1 q.1 d q.2).map fun s=>(ρ,s):=rfl
@[simp] theorem zu3:gTp i mgs d ρ st=match d with
 | .tup ds=>if ds.length=i then mgs ds ρ st else none
 | _=>none:=rfl
@[simp] theorem zuL:gN0 [] ρ st=some (ρ,st):=rfl
@[simp] theorem zu8:gC mg mgs (d::ds) ρ st=(mg d ρ st).bind fun p=>mgs ds p.1 p.2:=rfl
@[simp] theorem ztu:mR1 m ρ st=(m ρ st).bind fun p=>match p.1 with
 | .int j=>if small j=true then some (⟨run 0 j.toNat,[]⟩,p.2) else none
 | _=>none:=rfl
@[simp] theorem ztt:zco ρ st=some (true,st):=rfl
theorem zaX{mi:MI}{k:Nat}{fr:List Nat}:zde mi k fr mg mt m ρ st=(mi ρ st).bind fun p=>(mCI p.1 mg mt m p.1.ds (rho0 ρ k fr) p.2).bind fun q=>if fits q.1.length=true then some (.ref q.2.length,q.2++[.lst q.1]) else none:=rfl
@[simp] theorem zcV{mi:MI}:mFor mi mg ms ρ st=(mi ρ st).bind fun p=>zft p.1 mg ms p.1.ds ρ p.2:=rfl
@[simp] theorem zu6:zkN ρ st=some (none,st):=rfl
@[simp] theorem zu5:zkM m ρ st=(m ρ st).bind fun p=>match p.1 with
 | .int i=>some (some i,p.2)
 | _=>none:=rfl
@[simp] theorem zuK{T:String}:mIsi T m ρ st=(m ρ st).bind fun p=>(tyName p.2 p.1).map fun t=>(.bl (subT t T),p.2):=rfl
@[simp] theorem zuM:mApp m mm ρ st=(m ρ st).bind fun p=>match p.1 with
 | .ref n=>(zbA p.2 n).bind fun _=>(mm ρ p.2).bind fun q=>zbQ p.1 q.1 q.2
 | _=>none:=rfl
@[simp] theorem zuG:mPar i j mm ρ st=(mm ρ st).bind fun p=>match p.1 with
 | [x,y]=>some (.nx ((ρ.set i (some x)).set j (some y)),p.2)
 | _=>none:=rfl
@[simp] theorem zs3:mZip ma mb ρ st=(ma ρ st).bind fun p=>(mb ρ p.2).bind fun q=>zipW p.1 q.1 q.2:=rfl
@[simp] theorem zs6:znT true ρ st=some (.ref st.length,st++[.dt []]):=rfl
@[simp] theorem zs7:znT false ρ st=some (.ref st.length,st++[.dk []]):=rfl
def zan{r:Option (Fl×Sto)}(h:ms ρ st=some (.nx ρ1,s1))(k:mq ρ1 s1=r):mSeq ms mq ρ st=r:=by
 unfold mSeq;rw[h];exact k
def zfT{s:Sto}(h:ms ρ st=some (.rt d,s)):mSeq ms mq ρ st=some (.rt d,s):=by
 unfold mSeq;rw[h];rfl
def zcn{N:Nat}{s:Sto}(h:ms (rho N ds) st=some (.rt d,s)):fnM N ms ds st=some (d,s):=by
 unfold fnM;rw[h];rfl
def zci{k:Nat}(h:k<=10000:=by decide):fits k=true:=zaw h
@[simp] theorem zuV:fits 0=true:=zci
@[simp] theorem zuU:fits 1=true:=zci
@[simp] theorem zuT:fits 2=true:=zci
@[simp] theorem zuS:fits 3=true:=zci
@[simp] theorem zuR:fits 4=true:=zci
@[simp] theorem zuQ:fits 5=true:=zci
@[simp] theorem zuP:fits 6=true:=zci
@[simp] theorem zuO:fits 7=true:=zci
@[simp] theorem zuN:fits 8=true:=zci
def zbV{k:Int}(h0:0<=k)(h1:k<=1000000):small k=true:=by
 unfold small;simp;omega
def zcp{n:Nat}{ds:List D}{k:Int}{x:D}(h:st[n]?=some (.lst ds))(h0:0<=k)(hx:ds[k.toNat]?=some x):ixA (.ref n) (.int k) st=some (x,st):=by
 have hl:=getElem?_lt hx;have h1:k < ds.length:=by omega
 simp[ixA,orG,idxD,zbA,h,atI,ixN,h0,h1,zf1];exact (List.getElem?_eq_some_iff.mp hx).2
def zaS{ds:List D}{k:Int}{x:D}(h0:0<=k)(hx:ds[k.toNat]?=some x):ixA (.tup ds) (.int k) st=some (x,st):=by
 have hl:=getElem?_lt hx;have h1:k < ds.length:=by omega
 simp[ixA,orG,idxD,atI,ixN,h0,h1,zf1];exact (List.getElem?_eq_some_iff.mp hx).2
def zui{ds:List D}{k:Int}{x:D}(h0:0<=k)(hx:ds[k.toNat]?=some x):ixA (.kl ds) (.int k) st=some (x,st):=by
 have hl:=getElem?_lt hx;have h1:k < ds.length:=by omega
 simp[ixA,orG,idxD,atI,ixN,h0,h1,zf1];exact (List.getElem?_eq_some_iff.mp hx).2
def zjY{z:Str}{k:Int}{c:Nat}(hz:z.length<=10000)(h0:0<=k)(hx:z.cps[k.toNat]?=some c):ixA (.str z) (.int k) st=some (.str ⟨#[c]⟩,st):=by
 have hl:k.toNat < z.cps.size:=(Array.getElem?_eq_some_iff.mp hx).1;have h1:k < z.cps.size:=by omega
 have hf:fits z.length=true:=zaw hz;simp[ixA,orG,idxD,atI,ixN,h0,h1,zf1,hf];exact (Array.getElem?_eq_some_iff.mp hx).2
def zmv{n:Nat}(h:st[n]?=some (.lst ds)):lenD [.ref n] st=some (.int ds.length,st):=by simp[lenD,zbA,h]
theorem zhM:lenD [.tup ds] st=some (.int ds.length,st):=rfl
theorem znX:lenD [.kl ds] st=some (.int ds.length,st):=rfl
def zbH{n:Nat}(h:st[n]?=some (.lst ds)):zc0 [.ref n] st=some (.tup ds,st):=by simp[zc0,zbA,h]
@[simp] theorem add_int(a b:Int):addD (.int a) (.int b) st=some (.int (a+b),st):=rfl
@[simp] theorem sub_int(a b:Int):subD (.int a) (.int b) st=some (.int (a - b),st):=rfl
def mul_int{a b:Int}(h:-1000000<=a/\a<=1000000):mulA (.int a) (.int b) st=some (.int (a*b),st):=by
 have:in64 a=true:=by unfold in64;simp;omega
 simp[mulA,orG,mulD,intD,this,zf1]
def zkI{a b:List D}(ha:a≠[])(h:a.length+b.length<=10000):addD (.tup a) (.tup b) st=some (.tup (a++b),st):=by
 have:fits (a.length+b.length)=true:=zaw h
 cases a with
 | nil=>exact absurd rfl ha
 | cons x a=>simp[addD,this] at *
def zqY{a b:Nat}{x y:List D}(ha:st[a]?=some (.lst x))(hb:st[b]?=some (.lst y))(h:x.length+y.length<=10000):addD (.ref a) (.ref b) st=some (.ref st.length,st++[.lst (x++y)]):=by
 have:fits (x.length+y.length)=true:=zaw h;simp[addD,ha,hb,this]
def append_at{n:Nat}{x:D}(h:st[n]?=some (.lst ds))(hl:ds.length<=10000):zbQ (.ref n) [x] st=some (.non,st.set n (.lst (ds++[x]))):=by
 have:ds.length < sizeLine:=BG hl (by decide);simp[zbQ,h,this]
end
end L2.MP
set_option linter.unusedSimpArgs false
namespace L2.MP.Hn
open PySem L2.MP
end L2.MP.Hn
namespace L2.MP
open PySem PySem.Builtin PySem.Builtin.Str
theorem len_list(a:Str):a.length=a.cps.toList.length:=rfl
end L2.MP
namespace L2.MP
open PySem
def zhl{n:Nat}{st:Sto}{x:Str}(h:Bg x=true):toP (n+1) st (.str x)=some (.str x):=by
 rw[toP];simp[h]
def eq_int(a b:Int)(st:Sto):eqD (.int a) (.int b) st=some (.bl (a==b),st):=by
 unfold eqD;rw[toP,toP];simp[De]
end L2.MP
namespace L2.MP.Hn
open PySem L2.MP
noncomputable abbrev zaN:Str:="abcdefghijklmnopqrstuvwxyz"
def zc8:∀ k:Nat,k < 26->zaN.cps[k]?=some (97+k):=by decide +kernel
end L2.MP.Hn
namespace L2.MP
open PySem
def zbL(p:Str×Int):D:=.tup [.str p.1,.int p.2]
def zbU(k:List Str):D:=.tup (k.map D.str)
end L2.MP
namespace L2.MP.Hn
open PySem L2.MP
def ze1{st:Sto}{l:Nat}{ss:List Str}(hl:st[l]?=some (.lst (ss.map D.str)))(h:ss.length < 64):zcr [.ref l] st=some (.ref st.length,st++[.lst ((zdx ss).map D.str)]):=by
 simp[zcr,orN,zcM,zbA,hl,zfK,h,zf1]
end L2.MP.Hn
namespace L2.MP
open PySem
def zgh:∀ t:List Int,intsOf (t.map D.int)=some t
 | []=>rfl
 | x::t=>by rw[Av,intsOf,zgh t];rfl
def zd0:∀ {rows:List (List Int)},(∀ r∈rows,r≠[])->rowsOf (rows.map tupD)=some rows
 | [],_=>rfl
 | r::rows,h=>by
   have hr:rowOf (tupD r)=some r:=by
     unfold rowOf tupD;simp only[zgh,Ae];have:r.isEmpty=false:=by
       cases r with
       | nil=>exact absurd rfl (h [] An)
       | cons a b=>rfl
     simp[this]
   rw[Av,rowsOf,hr,Ae,zd0 fun q hq=>h q (Ak _ hq)];rfl
def zi6{st:Sto}{l:Nat}{rows:List (List Int)}(hl:st[l]?=some (.lst (rows.map tupD)))(h:∀ r∈rows,r≠[])(h64:rows.length < 64):zcr [.ref l] st=some (.ref st.length,st++[.lst ((zi7 rows).map tupD)]):=by
 match rows,hl,h,h64 with
 | [],hl,h,h64=>simp[zcr,orN,zcM,zbA,hl,strsOf,zdx,zi7,zf1]
 | [r],hl,h,h64 =>
   have e:strsOf [tupD r]=none:=rfl;simp[zcr,orN,zcM,zdS,zbA,hl,e,zi7,zf1,zio]
 | r::q::rows,hl,h,h64 =>
   have e:strsOf (tupD r::tupD q::rows.map tupD)=none:=rfl;have e2:=zd0 h;simp only[Av] at e2;simp at h64;have h2:rows.length+1+1 < 64:=by omega
   simp[zcr,orN,zcM,zdS,ze2,zbA,hl,e,e2,zf1,zio,h2]
def zfN(rows:List (List Int)):(zi7 rows).Perm rows:=CC _ _
noncomputable abbrev Tl:=Int×Int×Int
def kvOf(t:Tl):List Key×D:=([CB t.1,CB t.2.1],.int t.2.2)
def rowT(t:Tl):List Int:=[t.1,t.2.1,t.2.2]
def zby(a b:Tl):Bool:=decide (a.1=b.1)&&decide (a.2.1=b.2.1)
def putT(l:List Tl)(t:Tl):List Tl:=if l.any (fun u=>zby u t)=true then l.map (fun u=>if zby u t=true then t else u) else l++[t]
def zjV(u t:Tl):decide ((kvOf u).1=(kvOf t).1)=zby u t:=by
 unfold kvOf zby
 by_cases h1:u.1=t.1 <;> by_cases h2:u.2.1=t.2.1 <;> simp[h1,h2]
def zmh(l:List Tl)(t:Tl):putD (l.map kvOf) (kvOf t).1 (kvOf t).2=(putT l t).map kvOf:=by
 unfold putD putT;have e:((l.map kvOf).any fun kv=>decide (kv.1=(kvOf t).1))=l.any fun u=>zby u t:=by
   rw[List.any_map]
   congr 1
   funext u
   exact zjV u t
 rw[e]
 split
 . rw[A7,A7];apply Do;intro u _;show (if (kvOf u).1=(kvOf t).1 then _ else _)=kvOf (if zby u t=true then t else u)
   by_cases h:zby u t=true
   . have h':(kvOf u).1=(kvOf t).1:=of_decide_eq_true ((zjV u t).trans h);rw[if_pos h',if_pos h,h']
   . have h':¬ (kvOf u).1=(kvOf t).1:=fun z=>h ((zjV u t).symm.trans (decide_eq_true z));rw[if_neg h',if_neg h]
 . rw[AZ];rfl
def PlNd(l:List Tl):Prop:=l.Pairwise fun a b=>zby a b=false
def zeF(a b:Tl):zby a b=zby b a:=by
 unfold zby
 by_cases h1:a.1=b.1 <;> by_cases h2:a.2.1=b.2.1 <;> simp[h1,h2,eq_comm]
def zpm{l:List Tl}{t:Tl}(h:PlNd l):PlNd (putT l t):=by
 unfold putT
 split
 . unfold PlNd at *;rw[List.pairwise_map];refine h.imp fun {a b} hab=>?_;have eqp:∀ {a b c:Tl},zby a b=true->zby a c=zby b c:=fun {a b c} q=>by
     unfold zby at *;simp at q;rw[q.1,q.2]
   by_cases ha:zby a t=true
   . by_cases hb:zby b t=true
     . have h1:zby a b=zby t b:=eqp ha;rw[zeF] at hb;rw[h1,hb] at hab;cases hab
     . rw[if_pos ha,if_neg hb,zeF];simpa using hb
   . by_cases hb:zby b t=true
     . rw[if_neg ha,if_pos hb];simpa using ha
     . rw[if_neg ha,if_neg hb];exact hab
 . rename_i hn;unfold PlNd at *;rw[List.pairwise_append];refine⟨h,List.pairwise_singleton _ _,fun a ha b hb=>?_⟩;rw[List.mem_singleton.mp hb]
   cases e:zby a t with
   | false=>rfl
   | true=>exact absurd (List.any_eq_true.mpr ⟨a,ha,e⟩) hn
def znj{P:Tl->Prop}{l:List Tl}{t:Tl}(h:∀ u∈l,P u)(ht:P t):∀ u∈putT l t,P u:=by
 unfold putT
 split
 . intro u hu;obtain⟨v,hv,rfl⟩:=List.mem_map.mp hu
   split
   . exact ht
   . exact h v hv
 . intro u hu
   rcases List.mem_append.mp hu with hu | hu
   . exact h u hu
   . rw[List.mem_singleton.mp hu];exact ht
def zjr(l:List Tl)(t:Tl):(putT l t).length<=l.length+1:=by
 unfold putT
 split
 . rw[Ag];omega
 . simp
def zhW{st:Sto}{t:Nat}{l:List Tl}{x y k:Int}(h:st[t]?=some (.dt (l.map kvOf)))(hl:l.length<=1000):dput st t (.tup [.int x,.int y]) (.int k)=some (st.set t (.dt ((putT l (x,y,k)).map kvOf))):=by
 have h1:(l.map kvOf).length < sizeLine:=BG (by rw[Ag];exact hl) (by decide);have e:=zmh l (x,y,k);have e1:keysOf [.int x,.int y]=some (kvOf (x,y,k)).1:=rfl;have e2:D.int k=(kvOf (x,y,k)).2:=rfl;unfold dput;simp only[h,e1,Ae];rw[e2,e,if_pos (decide_eq_true h1)]
end L2.MP
namespace L2.MP.Hn
open PySem L2.MP
def zaF(ts:List Tl):D:=.tup (ts.map fun t=>tupD (rowT t))
def zs2(r:List Int):Tl:=(r.getD 0 0,r.getD 1 0,r.getD 2 0)
def srtT(l:List Tl):List Tl:=(zi7 (l.map rowT)).map zs2
def zaA(l:List Tl):(srtT l).Perm l:=by
 have:=(zfN (l.map rowT)).map zs2;rw[A7] at this;have e:zs2 ∘ rowT=id:=by funext t;rfl
 rw[e,List.map_id] at this;exact this
def zhp(l:List Tl):(srtT l).map rowT=zi7 (l.map rowT):=by
 unfold srtT;rw[A7]
 conv=>rhs;rw[<-List.map_id (zi7 (l.map rowT))]
 apply Do;intro r hr;obtain⟨t,_,rfl⟩:=List.mem_map.mp ((zfN _).mem_iff.mp hr);rfl
def zar{st:Sto}{l:Nat}{ts:List Tl}(hl:st[l]?=some (.lst (ts.map fun t=>tupD (rowT t))))(h64:ts.length < 64):zcr [.ref l] st=some (.ref st.length,st++[.lst ((srtT ts).map fun t=>tupD (rowT t))]):=by
 have hl':st[l]?=some (.lst ((ts.map rowT).map tupD)):=by rw[A7];exact hl
 have e:=zi6 hl' (fun r hr=>by obtain⟨t,_,rfl⟩:=List.mem_map.mp hr;simp[rowT]) (by rw[Ag];exact h64);rw[<-zhp,A7] at e;exact e
end L2.MP.Hn
namespace L2.MP
open PySem PySem.Spec PyProof.Rows
end L2.MP
namespace L2.MP
open PySem
def zhZ{W:Wk}{g:MG}{c:MT}{m:ME}{α:Type}{f h:α->D}{p:α->Bool}{R:Rho->Prop}:∀ {as:List α} {ρ:Rho} {st:Sto},R ρ->walked W st=true->(∀ a∈as,∀ ρ,R ρ->∃ ρ1,g (f a) ρ st=some (ρ1,st)/\c ρ1 st=some (p a,st)/\(p a=true->m ρ1 st=some (h a,st))/\R ρ1) ->
   mCI W g c m (as.map f) ρ st=some ((as.filter p).map h,st)
 | [],ρ,st,r,wk,_=>by unfold mCI;rw[Cu];simp only[wk,if_true,Gc,Cu]
 | a::as,ρ,st,r,wk,hs=>by
   obtain⟨ρ1,e1,e2,e3,r1⟩:=hs a An ρ r;have e:=zhZ (W:=W) (g:=g) (c:=c) (m:=m) (f:=f) (h:=h) (p:=p) (R:=R) (as:=as) r1 wk fun b hb=>hs b (Ak _ hb);rw[Av];unfold mCI;rw[if_pos wk,e1]
   cases hp:p a with
   | true =>
     rw[hp] at e2;simp only[Ae,e2,if_true,e3 hp,e,Bi,B9,hp,Av]
   | false =>
     rw[hp] at e2;simp only[Ae,e2,AX,if_false,e,B9,hp]
end L2.MP
namespace L2.MP.Hn
open PySem L2.MP
end L2.MP.Hn
namespace L2.MP
open PySem PySem.Spec PyProof.Rows
section
def zki(x:Sr)(o:Obj)(xs:Array Value):Meets (Builtin.«enumerate.__new__» ⟨[.type "enumerate",.ref x.ad],[]⟩) (fun _ R s=>s.heap.get? x.ad=some o/\x.is s.heap xs /\
     R (.ok (.ret (.ref (s.heap.push x.ob).objs.size))) { s with heap:=(s.heap.push x.ob).push { cls:=.type "enumerate",data:=.fields #[.none,.bool false,.ref s.heap.objs.size,rawInt 0,.none,.none] } }) :=
 .of_wp fun prog w A R s h=>by
   obtain⟨hp,g,d,tk,os⟩:=s;obtain⟨h1,h2,h⟩:=h;have hsub:=sub_enumerate;have hx:x.is (Shared.heap ⟨hp,g,d,tk,os⟩) xs:=h2
   wp_walk using Ca h1
   refine wpAny_stack_any fun sk=>Ad ?_
   split
   . rename_i c _ _ _ _ _
     cases (c==FU "enumerate")
     . wp_walk using Ca h1,Sr.iter hx
       exact⟨_,rfl,h⟩
     . wp_walk using Ca h1,Sr.iter hx
       exact⟨_,rfl,h⟩
   . wp_walk using Ca h1,Sr.iter hx
     exact⟨_,rfl,h⟩
end
section
variable {prog:Program} {w:World} {A:Around} {E:Value->Shared->Prop} {s:Shared}
def Sr.is_get{h:Heap}{xs:Array Value}{x:Sr}(q:x.is h xs):∃ o,h.get? x.ad=some o:=by
 cases x with
 | l a=>obtain⟨o,g,_⟩:=q;exact⟨o,g⟩
 | t a=>obtain⟨o,g,_⟩:=q;exact⟨o,g⟩
def zkx{x:Sr}{xs:Array Value}{R:Value->Shared->Prop}(hx:x.is s.heap xs)(k:∀ h',IsEnum h' (s.heap.objs.size+1) s.heap.objs.size 0 .none->x.at_ h' s.heap.objs.size 0->(∀ c u,s.heap.get? c=some u->h'.get? c=some u)->R (.ref (s.heap.objs.size+1)) { s with heap:=h' }) :
   wpAny (model prog w) A (call (.type "enumerate") [.ref x.ad]) R E s:=by
 obtain⟨o,g⟩:=Sr.is_get hx;refine callType_new F.called_enumerate (by decide) (F.typeCall_enumerate_1 _) (F.newCall_enumerate_1 _) (fun obj=>F.args_object_init_2 obj _) F.entry_enumerate_new (zki x o xs) ⟨g,hx,?_⟩;have z1:(s.heap.push x.ob).objs.size=s.heap.objs.size+1:=A6 ..;have f2:((s.heap.push x.ob).push { cls:=.type "enumerate",data:=.fields #[.none,.bool false,.ref s.heap.objs.size,rawInt 0,.none,.none] }).get? (s.heap.push x.ob).objs.size=some { cls:=.type "enumerate",data:=.fields #[.none,.bool false,.ref s.heap.objs.size,rawInt 0,.none,.none] }:=Am _ rfl;have f1:((s.heap.push x.ob).push { cls:=.type "enumerate",data:=.fields #[.none,.bool false,.ref s.heap.objs.size,rawInt 0,.none,.none] }).get? s.heap.objs.size=some x.ob:=Ac _ (Am _ (by cases x <;> rfl));show _/\_;rw[z1] at f2 ⊢;exact⟨⟨_,f2,rfl⟩,k _ f2 (Sr.at_new f1) fun c u q=>Ac _ (Ac _ q)⟩
end
def Sr.draws{prog:Program}{w:World}{A:Around}(hh:A.handled=none)(it:Addr)(x:Sr)(hne:x.ad≠it)(items:Array Value):Draws prog w A it [it,x.ad] items.size (fun i v=>items[i]?=some v) (fun i h=>x.at_ h it i/\x.is h items) where
 live:=fun _ _ q=>let ⟨o,_,g,_⟩:=Sr.at_get q.1;⟨o,g⟩
 frame:=fun _ _ _ q k=>⟨Sr.at_keep q.1 fun o e=>k it (by simp) o e,Sr.is_keep q.2 fun o e=>k x.ad (by simp) o e⟩
 item:=fun i s Q E hi q k=>by
   refine Sr.next q.1 q.2 (v:=items[i]) (by simp[hi]) fun h' a b=>?_;exact k _ h' s.toks (by simp[hi]) ⟨a,Sr.is_keep q.2 fun o e=>b.extBut _ _ hne e⟩ b
 done:=fun s Q E q k=>Sr.stop hh q.1 q.2 (by simp) k
def Sr.drawsEnd{prog:Program}{w:World}{A:Around}(hh:A.handled=none)(it:Addr)(x:Sr)(items:Array Value)(n:Nat)(hn:items[n]?=none):Draws prog w A it [it,x.ad] n (fun _ _=>True) (fun j h=>j=n/\x.at_ h it n/\x.is h items) where
 live:=fun _ _ q=>let ⟨o,_,g,_⟩:=Sr.at_get q.2.1;⟨o,g⟩
 frame:=fun _ _ _ q k=>⟨q.1,Sr.at_keep q.2.1 fun o e=>k it (by simp) o e,Sr.is_keep q.2.2 fun o e=>k x.ad (by simp) o e⟩
 item:=fun i s Q E hi q k=>absurd q.1 (As hi)
 done:=fun s Q E q k=>Sr.stop hh q.2.1 q.2.2 hn k
def Itn(x:Sr):It :=
 ⟨fun i H=>∃ xs v,x.sq H xs/\xs[i]?=some v,fun i H r H'=>∃ p v,H p=none/\H'=upd H p (.tup [.int (i:Nat),v])/\r=.ref p/\∀ xs,x.sq H xs->xs[i]?=some v,fun i H=>∃ xs,x.sq H xs/\xs.length<=i⟩
def ziY{P:Program}{w:World}{K:Ab}{elts:List Expr}{x1}{pos:Pos}(x:Sr)(it e:Addr)(hne:e≠it) :
   Turn P w K (.Tuple elts x1 pos) (Itn x) [e,it] e (fun i h=>(∃ old,IsEnum h e it (i:Nat) old)/\x.at_ h it i) where
 mem:=by simp
 obj:=fun i h st b hb=>by
   obtain⟨⟨old,he⟩,hi⟩:=st
   rcases List.mem_cons.mp hb with rfl | hb
   . exact⟨_,he,fun v z=>by cases z⟩
   . rw[List.mem_singleton.mp hb];obtain⟨o,vs,g,d⟩:=Sr.at_get hi;exact⟨o,g,fun v z=>by rw[d] at z;cases z⟩
 keep:=fun i h h' st k=>by
   obtain⟨⟨old,he⟩,hi⟩:=st;exact⟨⟨old,k e (by simp) _ he⟩,Sr.at_keep hi fun o q=>k it (by simp) o q⟩
 item := by
   intro X hP hw hK hc i pins s σ H E I hf st hg;subst hP hw hK;obtain⟨xs,v,hx,hv⟩:=hg;obtain⟨⟨old,he⟩,hi⟩:=st;obtain⟨its,rx,ix⟩:=Sr.sq_is I hx;obtain⟨v',gv,rv⟩:=rx.get hv;have fit:=(hf it (by simp)).1;have fe:=(hf e (by simp)).1;have hlt:i < its.toArray.size:=by have:=(List.getElem?_eq_some_iff.mp gv).1;simpa using this
   refine wpAny_pyNext_enum_itemD (Sr.draws (A:=X.A.in1) (I.ok.hd hc) it x (Sr.sq_ne hx fit) its.toArray) he ⟨hi,ix⟩ hlt hne (by
     simp only[Ba,Bd,or_false,not_or];exact⟨hne,fun z=>Sr.sq_ne hx fe z.symm⟩) fun y h1 tk hy he1 st1 t1 z1 k1=>?_
   have ey:y=v':=by
     have:its[i]?=some y:=by simpa using hy
     rw[gv] at this;exact (Ay this).symm
   subst ey;refine⟨_,rfl,wpAny_letOwnedTupleGo_enum (s:={ s with heap:=h1,toks:=tk+1 }) he1 fun h2 he2 hb2=>?_⟩;have k2:∀ b o,b ∉ [e,it]->s.heap.get? b=some o->h2.get? b=some o:=fun b o hb q=>by
     have n1:b≠e:=fun z=>hb (by simp[z]);have n2:b≠it:=fun z=>hb (by simp[z]);exact (hb2.2 b n1).trans (k1 b o n1 n2 q)
   have hsz:e≠s.heap.objs.size:=As (Aj he);have t2:h2.get? s.heap.objs.size=some { cls:=.type "tuple",data:=.seq #[.int i tk,y] }:=(hb2.2 _ hsz.symm).trans t1;have hi2:x.at_ h2 it (i+1):=Sr.at_keep st1.1 fun o q=>(hb2.2 it hne.symm).trans q;refine⟨.ref s.heap.objs.size,upd H s.heap.objs.size (.tup [.int (i:Nat),v]),?_,rfl,⟨_,v,I.hok.fresh (Af _),rfl,rfl,fun ys hy=>by rw[Sr.sq_inj hy hx];exact hv⟩,⟨⟨_,by exact_mod_cast he2⟩,hi2⟩,fun b hb=>?_⟩
   . exact Inv.turnNew (s:=s) (h':=h2) (t':=tk+1) I hf k2 (Af _) (fun b hb ob q=>by
       rcases List.mem_cons.mp hb with rfl | hb
       . exact⟨_,he2⟩
       . rw[List.mem_singleton.mp hb];obtain⟨o,vs,g,d⟩:=Sr.at_get hi2;exact⟨o,g⟩) ⟨by show 2<=sizeLine;decide,[.int i tk,y],.cons ⟨_,rfl⟩ (.cons rv .nil),⟨_,t2,rfl,rfl,_,rfl⟩⟩
   . rw[zat (fun z=>?_)]
     . exact (hf b hb).1
     . rcases List.mem_cons.mp hb with q | hb
       . exact hsz (q.symm.trans z)
       . have q:=List.mem_singleton.mp hb;obtain⟨o,vs,g,d⟩:=Sr.at_get hi;exact (As (Aj g)) (q.symm.trans z)
 done:=by
   intro X hP hw hK hc i pins s σ H E I hf st hg;subst hP hw hK;obtain⟨xs,hx,hl⟩:=hg;obtain⟨⟨old,he⟩,hi⟩:=st;obtain⟨its,rx,ix⟩:=Sr.sq_is I hx;have l1:=rx.length;exact wpAny_pyNext_enum_endD (Sr.drawsEnd (A:=X.A.in1) (I.ok.hd hc) it x its.toArray i (by simp;omega)) he ⟨rfl,hi,ix⟩ fun h' eb=>⟨rfl,Inv.turnAll (t':=s.toks) I hf fun b o hb q=>eb b o (fun z=>hb (by simp[z])) q⟩
 self:=fun _ _ _ _ _ st h=>by
   obtain⟨⟨old,he⟩,_⟩:=st;exact Fz he h
section
variable {X:Cx} {K:Ab} {H:Hp} {io:List Addr} {m:ME} {st st':Sto}
def ztr(x:D)(s:Sto):Option (Wk×Sto):=(seqD s x).map fun (a,f)=>(⟨pairs a,f⟩,s)
def zoE(m:ME):MI:=fun ρ st=>(m ρ st).bind fun (x,s1)=>ztr x s1
def zmf{elts:List Expr}{x1}{tp:Pos}{a:Expr}{p pos:Pos}(hg:Gl X "enumerate")(hm:X.mg "enumerate"=none)(ha:SE X a m)(hs:starEach [a] X.env=[(false,eval a X.env)]:=by rfl) :
   SI X (.Tuple elts x1 tp) (.Call (.Name "enumerate" p) [a] [] pos) (zoE m):=by
 rintro pins s σ H R I ⟨ρ,st,io,W,st',E,S,e,k⟩;obtain⟨⟨x,s1⟩,e1,e⟩:=zad e;obtain⟨⟨as,f⟩,e3,e⟩:=zag e;cases e;refine Call_ (ziC I hg hm boot_enumerate (BS (thn (zaa ha zai hs pos pins s σ H (fun vs H'=>∃ ka,Ext io ka H H'/\StR X.K H' (io++ka) st'/\Reps X.K H' (io++ka) vs [x]) I ⟨ρ,st,io,[x],st',E,S,zfu e1 rfl,fun vs H1 k1 X1 S1 R1=>⟨k1,X1,S1,R1⟩⟩) ?_) hs rfl));rintro us t1 ⟨vs,H1,I1,r1,k1,X1,S1,R1⟩;obtain⟨v,rfl,Rx⟩:=R1.one;obtain⟨v',rfl,rv⟩:=r1.one;obtain⟨xx,rfl,⟨xs,hx⟩,kx⟩:=zjc S1 Rx e3;cases rv;obtain⟨its,vx,ix⟩:=Sr.sq_is I1 hx;refine zkx ix fun h' he hi kk=>Fz he ?_;refine⟨_,_,_,_,H1,rfl,I1.kept (t':=t1.toks) kk,ziY xx t1.heap.objs.size (t1.heap.objs.size+1) (Nat.succ_ne_self _),⟨⟨_,he⟩,hi⟩,fun b hb=>?_,?_⟩
 . have hle:t1.heap.objs.size<=b:=by
     rcases List.mem_cons.mp hb with q | hb
     . rw[q];exact Cm _
     . rw[List.mem_singleton.mp hb];exact Af _
   exact I1.fpOk hle (I1.hok.fresh hle)
 . refine k _ H1 k1 X1 S1 ?_;refine⟨fun i d H2 k2 s3 hd X2 S2 hs=>?_,fun H2 k2 s3 X2 S2 hs=>?_,fun H2 k2 s3 i hi X2 S2 hs=>?_⟩
   . obtain⟨xs2,qx,rx⟩:=kx H2 k2 s3 X2 S2 hs;obtain⟨dx,g1,rfl⟩:=zhC hd;obtain⟨u1,gu,ru⟩:=rx.get g1;refine⟨⟨xs2,u1,qx,gu⟩,fun r H' yl=>?_⟩;obtain⟨q,u2,hq,rfl,rfl,yu⟩:=yl;have e5:=yu xs2 qx;rw[gu] at e5;cases e5;obtain⟨E',S'⟩:=zf8 (o:=.tup [.int (i:Nat),u1]) S2 hq;rw[Ap] at S';refine⟨E',S',⟨q,_,rfl,zbi,?_⟩⟩;have r2:=ru.ext S2 E';rw[Ap] at r2;exact Reps.cons rfl (Reps.cons r2 Reps.nil)
   . obtain⟨xs2,qx,rx⟩:=kx H2 k2 s3 X2 S2 hs;exact⟨xs2,qx,by show xs2.length<=(pairs as).length;rw[pairs_len,rx.length];exact Af _⟩
   . obtain⟨xs2,qx,rx⟩:=kx H2 k2 s3 X2 S2 hs;have hi:(pairs as).length<=i:=hi;rw[pairs_len] at hi;exact⟨xs2,qx,by rw[rx.length];exact hi⟩
end
section
variable {X:Cx} {K:Ab} {H:Hp} {io:List Addr} {m:ME} {st st':Sto}
@[simp] theorem ztw{ρ:Rho}:zoE m ρ st=(m ρ st).bind fun p=>ztr p.1 p.2:=rfl
end
section
variable {X:Cx} {K:Ab} {H:Hp} {io:List Addr} {m ma mb mc:ME} {st st':Sto} {a b c:Expr} {pos:Pos}
def zeB(g g':G2)(ma mb mc:ME):ME:=fun ρ st=>(ma ρ st).bind fun (x,s1)=>(mb ρ s1).bind fun (y,s2)=>(g x y s2).bind fun (z,s3)=>match z with
 | .bl q=>if q=true then (mc ρ s3).bind fun (w,s4)=>g' y w s4 else some (.bl false,s3)
 | _=>none
def zeS{g g':G2}{σ:L2.St}{H:Hp}{Q:VK}(h:tE K (zeB g g' ma mb mc) σ H Q):zmS (r2M K g) (r2M K g') (tE K ma) (tE K mb) (tE K mc) σ H Q:=by
 obtain⟨ρ,st,io,d,st',E,S,e,k⟩:=h;obtain⟨⟨x,s1⟩,e1,e⟩:=zad e;obtain⟨⟨y,s2⟩,e2,e⟩:=zad e;obtain⟨⟨z,s3⟩,e3,e⟩:=zad e;refine⟨ρ,st,io,x,s1,E,S,e1,fun v1 H1 k1 X1 S1 R1=>?_⟩;refine⟨ρ,s1,io++k1,y,s2,E.ext S X1,S1,e2,fun v2 H2 k2 X2 S2 R2=>?_⟩;refine⟨x,y,s2,(io++k1)++k2,z,s3,R1.ext S1 X2,R2,S2,e3,fun v3 H3 k3 X3 S3 R3=>?_⟩;have k':=((k.on S1 X1).on S2 X2).on S3 X3;dsimp only at e
 split at e
 . rename_i q;refine⟨q,R3,?_⟩
   cases q with
   | true =>
     rw[if_pos rfl] at e ⊢;obtain⟨⟨w,s4⟩,e4,e5⟩:=zad e;refine⟨ρ,s3,((io++k1)++k2)++k3,w,s4,((E.ext S X1).ext S1 X2).ext S2 X3,S3,e4,fun v4 H4 k4 X4 S4 R4=>?_⟩;exact⟨y,w,s4,(((io++k1)++k2)++k3)++k4,d,st',(R2.ext S2 X3).ext S3 X4,R4,S4,e5,k'.on S4 X4⟩
   | false =>
     rw[if_neg AV] at e ⊢;cases e;exact Bh.now k' S3 rfl
 . cases e
def zm8{op op':CmpOp}{g g':G2}(ho:OpM X (compareOp op) g)(ho':OpM X (compareOp op') g')(ha:SE X a ma)(hb:SE X b mb)(hc:SE X c mc)(hm:lastMarks [op,op'] [b,c]=false:=by with_unfolding_all rfl) :
   SE X (.Compare a [op,op'] [b,c] pos) (zeB g g' ma mb mc):=PE.imp (zny ho ho' ha hb hc hm) fun _ _ _ h=>zeS h
def zna{op op':CmpOp}{g g':G2}(ho:OpM X (compareOp op) g)(ho':OpM X (compareOp op') g')(ha:SE X a ma)(hb:SE X b mb)(hc:SE X c mc)(hm:lastMarks [op,op'] [b,c]=false:=by with_unfolding_all rfl) :
   SB X (.Compare a [op,op'] [b,c] pos) (mTst (zeB g g' ma mb mc)):=PT.imp (znk ho ho' ha hb hc hm) fun _ _ _ h=>zeS (zc1 h)
end
section
variable {X:Cx} {K:Ab} {H:Hp} {io:List Addr} {m mk:ME} {st st':Sto} {e se:Expr} {te:TE} {ts:TO} {p2 pos:Pos}
def zhi{x:V}{u:Value}:∀ {xs:List V} {us:List Value},Vals xs us->RelV x u->Vals (xs++[x]) (us++[u])
 | [],_,.nil,r=>.cons r .nil
 | y::xs,_,.cons z t,r=>.cons z (zhi t r)
def ziT:∀ {xs:List V} {us:List Value},Vals xs us->Vals xs.reverse us.reverse
 | [],_,.nil=>.nil
 | x::xs,_,.cons r t=>by
   rw[CW,CW];exact zhi (ziT t) r
def zhw:∀ {xs:List V} {ds:List D} {x:V} {d:D},Reps K H io xs ds->Rep K H io x d->Reps K H io (xs++[x]) (ds++[d])
 | _,[],x,d,h,r=>by
   cases (show _=[] from h)
   exact⟨x,[],rfl,r,rfl⟩
 | _,e::ds,x,d,h,r=>by
   obtain⟨y,ys,rfl,h1,h2⟩:=h;exact⟨y,ys++[x],rfl,h1,zhw h2 r⟩
def zjn:∀ {ds:List D} {xs:List V},Reps K H io xs ds->Reps K H io xs.reverse ds.reverse
 | [],xs,h=>by
   cases (show xs=[] from h)
   exact rfl
 | d::ds,xs,h=>by
   obtain⟨y,ys,rfl,h1,h2⟩:=h;rw[CW,CW];exact zhw (zjn h2) h1
end
def zg9:typeLookup (.type "list") "keys"=pure none:=by rw[typeLookup_type,Eu];kernel_rfl
def zcC:entryFor table "dict.update.loop"=some Builtin.«dict.update.loop»:=entryFor_of_fast (by kernel_rfl)
def zbe:plainId "dict.update.loop"=true:=by decide +kernel
section
variable {prog:Program} {w:World} {A:Around} {E:Value->Shared->Prop} {s:Shared} {a:Addr}
def zhP{Q:Option Value->Shared->Prop}{xs:Array Value}{k:Nat}{sl:Array (Option Value)}(hx:s.heap.get? a=some { cls:=.type "list",dict:=none,data:=.seq xs k,slots:=sl })(hA:A.handled=none)
   (h:∀ h' tk,(∀ b u,s.heap.get? b=some u->h'.get? b=some u)->Q none { s with heap:=h',toks:=tk }):wpAny (model prog w) A (getAttr? (.ref a) "keys") Q E s:=by
 obtain⟨hp,g,d,tk,os⟩:=s;have hT:∀ tk',(⟨hp,g,d,tk',os⟩:Shared).TypeIs (.ref a) "list":=fun _=>⟨_,hx,rfl⟩
 have f1:=Fe;have f3:=F.slot_list_getattribute.lookup;have f4:=F.slot_list_getattribute.bind (.ref a);have f5:=am_list_getattr_none;unfold getAttr? getAttrBy? getAttrBy
 repeat (any_goals (first | assumption | exact hT _ | ((with_reducible show wpAny _ _ (call (Gq "list.__getattribute__") _ _) _ _ _);refine FX F.slot_list_getattribute (hT _) am_entry_list_getattribute (F.args_list_getattribute_2 _ _) (meets_getattribute_miss_list a xs k sl _ _ zg9 (by decide +kernel)) ⟨hx,hA,fun h' tk' e hx'=>?_⟩) | wp_step))
 obtain⟨t',u',he⟩:=hx'.there;show wpAny _ _ (getattributeRaised _ _ _ _ _ _ _) _ _ _;unfold getattributeRaised
 repeat (any_goals (first | assumption | wp_step))
 exact h _ _ hx'.keeps
def zgw(prog:Program)(w:World)(h:Heap)(v:Value)(kv:Key×Value):Prop:=∃ p kx,v=.ref p/\IsTup h p #[kx,kv.2]/\(zaB prog w).is kv.1 kx=true
def zgw.keep{h h':Heap}{v:Value}{kv:Key×Value}(q:zgw prog w h v kv)(k:∀ b o,v=.ref b->h.get? b=some o->h'.get? b=some o):zgw prog w h' v kv:=by
 obtain⟨p,kx,rfl,⟨o,g,c⟩,i⟩:=q;exact⟨p,kx,rfl,⟨o,k p o rfl g,c⟩,i⟩
def zd3{p:Addr}{xs:Array Value}{Q:List Value->Shared->Prop}(ht:IsTup s.heap p xs)(h:Q xs.toList s):wpAny (model prog w) A (Builtin.Dict.pairItems (.ref p)) Q E s:=by
 obtain⟨hp,g,d,tk,os⟩:=s;obtain⟨o,g0,c,n,dd⟩:=ht;have hT:(⟨hp,g,d,tk,os⟩:Shared).TypeIs (.ref p) "tuple":=⟨_,g0,c⟩
 unfold Builtin.Dict.pairItems seqItems?
 repeat (any_goals (first | assumption | wp_step))
 rw[dd];exact Ad (Ad h)
end
section
variable {prog:Program} {w:World} {A:Around} {E:Value->Shared->Prop} {s:Shared} {a:Addr}
def zi3{K:Type}[DecidableEq K](kvs:List (K×Value))(k:K)(v:Value):(stored kvs k v).length<=kvs.length+1:=by
 unfold stored
 split <;> simp
def zd7{K:Type}[DecidableEq K]:∀ (more kvs:List (K×Value)),(merged kvs more).length<=kvs.length+more.length
 | [],kvs=>by show kvs.length<=kvs.length+0;omega
 | p::r,kvs=>by
   have h1:=zd7 r (stored kvs p.1 p.2);have h2:=zi3 kvs p.1 p.2;show (merged (stored kvs p.1 p.2) r).length<=_;rw[Ar];omega
def zuv{R:Result->Shared->Prop}{D I l:Addr}{its:List Value}{kvs:List (Key×Value)}{h0:Heap}(hh:A.in1.handled=none)(hl:its.length=kvs.length)(hz:kvs.length<=sizeLine)(hDI:D≠I)(hlD:l≠D)(hlI:l≠I) :
   ∀ (k i:Nat) (s:Shared),kvs.length - i=k->i<=kvs.length->s.heap.IsListIter I l i->s.heap.IsList l its.toArray->s.heap.DictOf (zaB prog w) D (merged [] (kvs.take i)) ->
   (∀ (j:Nat) (v:Value) (kv:Key×Value),its[j]?=some v->kvs[j]?=some kv->zgw prog w s.heap v kv/\v≠.ref D/\v≠.ref I)->(∀ b o,b≠D->b≠I->h0.get? b=some o->s.heap.get? b=some o) ->
   (∀ h' tk,h'.DictOf (zaB prog w) D (merged [] kvs)->(∀ b o,b≠D->b≠I->h0.get? b=some o->h'.get? b=some o)->R (.ok (.ret .none)) { s with heap:=h',toks:=tk }) ->
   codeAny (model prog w) A (.builtin "dict.update.loop" ⟨[.ref D,.ref I,rawInt i,.none],[]⟩) R s:=by
 intro k
 induction k with
 | zero =>
   intro i s hk hi hit hlist hd hp h0k hR;have hin:i=kvs.length:=by omega
   subst hin;refine Bt zcC ?_;rw[A4 zbe _];show wpAny _ A.in1 (pyNext (.ref I) >>= _) _ _ s;refine Aa (Ct hh hit hlist (by simp[hl]) fun h' hx=>?_);show wpAny _ A.in1 (Builtin.Dict.addKeywords D [] >>= fun _=>ret .none) _ _ _;refine Aa (Ad (Ad ?_));rw[BD] at hd;refine hR h' s.toks ?_ fun b o h1 h2 e=>hx b o h2 (h0k b o h1 h2 e);obtain⟨o,es,ep,ho,r⟩:=hd;exact⟨o,es,ep,hx D o hDI ho,r⟩
 | succ k ih =>
   intro i s hk hi hit hlist hd hp h0k hR;have hlt:i < kvs.length:=by omega
   have hlt':i < its.length:=by omega
   refine Bt zcC ?_;rw[A4 zbe _];show wpAny _ A.in1 (pyNext (.ref I) >>= _) _ _ s;have hv:its[i]?=some its[i]:=Ah hlt';have hkv:kvs[i]?=some kvs[i]:=Ah hlt;refine Aa (Ci (x:=its[i]) hit hlist (by simp[hlt']) fun h' hit' hx=>?_);obtain⟨pa,nD,nI⟩:=hp i _ _ hv hkv;have pa':zgw prog w h' its[i] kvs[i]:=pa.keep fun b o e g=>hx.extBut b o (fun z=>nI (by rw[e,z])) g;obtain⟨p,kx,ep,tp,ik⟩:=pa';have hd':h'.DictOf (zaB prog w) D (merged [] (kvs.take i)):=by
     obtain⟨o,es,ep,ho,r⟩:=hd;exact⟨o,es,ep,hx.extBut D o hDI ho,r⟩
   have hlen:(merged [] (kvs.take i)).length<=sizeLine:=by
     have:=zd7 (kvs.take i) [];rw[Bl,Bb] at this;omega
   rw[ep];refine Aa (AK (Aa (Cv (zd3 (s:={ s with heap:=h' }) tp ?_))));refine AK (EO (s:={ s with heap:=h' }) ik hd' (fun h2 hd2 hs2=>?_) hlen);have hI2:∀ b o,b≠D->h'.get? b=some o->h2.get? b=some o:=fun b o hb e=>hs2.extBut b o hb e;have e1:stored (merged [] (kvs.take i)) kvs[i].1 kvs[i].2=merged [] (kvs.take (i+1)):=(merged_take_succ [] kvs i _ hkv).symm;refine Ad ⟨Bv zbe _,?_⟩;refine ih (i+1) { s with heap:=h2,toks:=s.toks+1 } (by omega) (by omega) ?_ ?_ (by rw[<-e1];exact hd2) (fun j v kv h1 h2'=>?_) (fun b o b1 b2 e=>hI2 b o b1 (hx.extBut b o b2 (h0k b o b1 b2 e))) fun h3 tk3 d3 k3=>hR h3 tk3 d3 k3
   . exact Fd hit' fun u e=>hI2 I u (BB hDI) e
   . exact Dt (Dt hlist fun u e=>hx.extBut l u hlI e) fun u e=>hI2 l u hlD e
   . obtain⟨q,q1,q2⟩:=hp j v kv h1 h2';exact⟨(q.keep fun b o e g=>hx.extBut b o (fun z=>q2 (by rw[e,z])) g).keep fun b o e g=>hI2 b o (fun z=>q1 (by rw[e,z])) g,q1,q2⟩
def zgs{l:Addr}{its:List Value}{kvs:List (Key×Value)}{Q:Value->Shared->Prop}(hh:A.handled=none)(hpl:PlainL s.heap l its.toArray)(hl:its.length=kvs.length)(hz:kvs.length<=sizeLine)
   (hp:∀ (j:Nat) (v:Value) (kv:Key×Value),its[j]?=some v->kvs[j]?=some kv->zgw prog w s.heap v kv)
   (h:∀ h' tk,h'.DictOf (zaB prog w) s.heap.objs.size (merged [] kvs)->(∀ b o,s.heap.get? b=some o->h'.get? b=some o)->Q (.ref s.heap.objs.size) { s with heap:=h',toks:=tk }) :
   wpAny (model prog w) A (call (.type "dict") [.ref l]) Q E s:=by
 refine callType_codes (Q₁:=fun obj s₁=>obj=.ref s.heap.objs.size/\s₁={ s with heap:=s.heap.push { cls:=.type "dict",data:=.dict #[] } }) F.kt_called_dict (F.kt_typeCall_dict_1 _) F.entry_dict_init (kt_code_dict_new _ ⟨rfl,rfl⟩) ?_;rintro obj s₁ ⟨rfl,rfl⟩;have hnew:(s.heap.push { cls:=.type "dict",data:=.dict #[] }).DictOf (zaB prog w) s.heap.objs.size []:=Gd s.heap;have k1:∀ b o,s.heap.get? b=some o->(s.heap.push { cls:=.type "dict",data:=.dict #[] }).get? b=some o:=fun b o e=>Ac _ e;have hpl1:=hpl.keeps k1;obtain⟨⟨cl,di,da,sl⟩,n,g1,c1,c2,c3⟩:=id hpl1;simp only at c1 c2 c3;subst c1 c2 c3;have hlt:∀ b o,s.heap.get? b=some o->b < s.heap.objs.size:=fun b o e=>Aj e;have hll:l < s.heap.objs.size:=by obtain⟨o,_,g,_⟩:=hpl;exact hlt l o g
 refine⟨hnew.typeIs,F.args_dict_init_2 _ _,?_⟩;unfold Builtin.«dict.__init__»;refine Aa ?_;unfold Builtin.Dict.selfAndRest;refine Aa (Cw hnew.typeIs ?_);show wpAny _ _ (pure (s.heap.objs.size,[AF l])) _ _ _;refine Ad ?_;show wpAny _ _ (Builtin.Dict.updateFrom "dict.__init__" s.heap.objs.size (.ref l) [] .none) _ _ _;unfold Builtin.Dict.updateFrom;refine Aa (C7 (show Shared.TypeIs { s with heap:=s.heap.push { cls:=.type "dict",data:=.dict #[] } } (.ref l) "list" from ⟨_,g1,rfl⟩) ?_);rw[if_pos (by decide)];refine Aa (zhP g1 hh fun h2 tk2 k2=>?_);have hpl2:=hpl1.keeps k2;have hd2:h2.DictOf (zaB prog w) s.heap.objs.size []:=by
   obtain⟨o,es,ep,ho,r⟩:=hnew;exact⟨o,es,ep,k2 _ o ho,r⟩
 have hsz:s.heap.objs.size < h2.objs.size:=by
   obtain⟨o,es,ep,ho,r⟩:=hd2;exact Aj ho
 simp only[Cf,if_true];refine Aa (BL ?_);refine Aa (Sr.iter (x:=.l l) (s:={ s with heap:=h2,toks:=tk2 }) (xs:=its.toArray) hpl2.isList ?_);have k3:∀ b o,h2.get? b=some o->(h2.push (Sr.ob (.l l))).get? b=some o:=fun b o e=>Ac _ e;refine Ad ⟨Bv zbe _,?_⟩;have n1:s.heap.objs.size≠h2.objs.size:=As hsz;have n2:l≠s.heap.objs.size:=As hll;have n3:l≠h2.objs.size:=As (BU hll hsz);show codeAny (model prog w) A.in1 (.builtin "dict.update.loop" ⟨[.ref s.heap.objs.size,.ref h2.objs.size,rawInt (0:Nat),.none],[]⟩) _ { s with heap:=h2.push (Sr.ob (.l l)),toks:=tk2 };refine zuv (A:=A.in1) (h0:=s.heap) (l:=l) (its:=its) (kvs:=kvs) (D:=s.heap.objs.size) (I:=h2.objs.size) hh hl hz n1 n2 n3 kvs.length 0 { s with heap:=h2.push (Sr.ob (.l l)),toks:=tk2 } rfl (A0 _) ?_ (hpl2.keeps k3).isList ?_ (fun j v kv e1 e2=>?_) (fun b o _ _ e=>k3 b o (k2 b o (k1 b o e))) (fun h' tk d' k'=>?_)
 . exact Sr.at_new (x:=.l l) (Am _ rfl)
 . obtain⟨o,es,ep,ho,r⟩:=hd2;exact⟨o,es,ep,k3 _ o ho,r⟩
 . have q:=hp j v kv e1 e2;have nn:∀ b,v=.ref b->b < s.heap.objs.size:=fun b e=>by
     obtain⟨p,kx,rfl,⟨o,g,_⟩,_⟩:=q;cases e;exact hlt _ o g
   refine⟨q.keep fun b o _ g=>k3 b o (k2 b o (k1 b o g)),fun e=>?_,fun e=>?_⟩
   . exact absurd (nn _ e) (AN _)
   . exact absurd (nn _ e) (Nat.not_lt_of_lt hsz)
 . exact⟨rfl,h h' tk d' fun b o e=>k' b o (As (hlt b o e)) (As (BU (hlt b o e) hsz)) e⟩
end
def prOf:D->Option (Key×D)
 | .tup [k,v]=>(keyOf k).map fun q=>(q,v)
 | _=>none
def zoD:List D->Option (List (Key×D))
 | []=>some []
 | d::r=>(prOf d).bind fun t=>(zoD r).map fun ts=>t::ts
def zgc(kvs more:List (Key×D)):List (Key×D):=more.foldl (fun acc kv=>putD acc kv.1 kv.2) kvs
section
variable {X:Cx} {K:Ab} {H:Hp} {io:List Addr} {st st':Sto} {pins:List (Addr×Obj)} {σ:L2.St} {s:Shared}
def zjL:∀ {more:List (Key×V)} {mds:List (Key×D)} {kvs:List (Key×V)} {kds:List (Key×D)},KR Key K H io more mds->KR Key K H io kvs kds->KR Key K H io (zeA kvs more) (zgc kds mds):=by
 intro more mds kvs kds r;unfold KR at r
 induction r generalizing kvs kds with
 | nil=>intro q;exact q
 | @cons p q ps qs h t ih =>
   intro r0;have e:KR Key K H io (putK kvs p.1 p.2) (putD kds q.1 q.2):=by
     rw[<-h.1];exact KR.put r0 p.1 h.2
   exact ih e
def znn(I:Inv X pins σ H s):∀ {ys:List V} {ds:List D} {kds:List (Key×D)} {its:List Value},Reps X.K H io ys ds->zoD ds=some kds->Vals ys its ->
   ∃ (kvV:List (Key×V)) (kvs:List (Key×Value)),KR Key X.K H io kvV kds/\KV kvV kvs/\its.length=kvs.length/\kvs.length=kds.length/\∀ (j:Nat) (v:Value) (kv:Key×Value),its[j]?=some v->kvs[j]?=some kv->zgw X.prog X.w s.heap v kv
 | _,[],kds,_,h,e,r=>by
   cases e
   cases (show _=[] from h)
   cases r;exact⟨[],[],.nil,.nil,rfl,rfl,fun j v kv h=>by simp at h⟩
 | _,d::ds,kds,_,h,e,r=>by
   obtain⟨y,ys,rfl,h1,h2⟩:=h;obtain⟨t,e1,e⟩:=zad e;obtain⟨ts,e2,e⟩:=zag e;subst e
   cases r with
   | @cons _ u _ us ru rus =>
     obtain⟨kvV,kvs,a1,a2,a3,a4,a5⟩:=znn I h2 e2 rus;unfold prOf at e1
     split at e1
     . rename_i k v;obtain⟨q,eq1,e1⟩:=zag e1;subst e1;obtain⟨p,vs,rfl,hp,rs⟩:=h1;obtain⟨v1,w1,rfl,q1,rs⟩:=rs;obtain⟨v2,w2,rfl,q2,rs⟩:=rs
       cases (show w2=[] from rs)
       have ek:=zdM q1 eq1;subst ek;cases ru;obtain⟨ia,va,ht,_⟩:=I.tuple (SqT.of (K:=X.K) hp)
       cases va with
       | cons r1 t1 =>
         cases t1 with
         | cons r2 t2 =>
           cases t2;rename_i u1 u2;refine⟨(q,v2)::kvV,(q,u2)::kvs,.cons ⟨rfl,q2⟩ a1,.cons ⟨rfl,r2⟩ a2,by rw[Ar,Ar,a3],by rw[Ar,Ar,a4],fun j v kv e1 e2=>?_⟩
           cases j with
           | zero =>
             cases e1;cases e2;exact⟨p,u1,rfl,ht,zn3 r1⟩
           | succ j=>exact a5 j v kv e1 e2
     . cases e1
def zrf:GN
 | [.ref n],st=>(zbA st n).bind fun ds=>(zoD ds).bind fun kds=>if fits kds.length=true then some (.ref st.length,st++[.dk (zgc [] kds)]) else none
 | _,_=>none
def zky(hc:X.calm=true):zdf X (.type "dict") zrf:=by
 rintro pins s σ H xs us Q I r ⟨ds,st,io,d,st',R,S,e,k⟩;unfold zrf at e
 split at e
 . rename_i n;obtain⟨zs,e0,e⟩:=zad e;obtain⟨kds,e1,e⟩:=zad e;obtain⟨hf,e⟩:=zam e;cases e;obtain⟨v,rfl,p,rfl,hp⟩:=R.one;obtain⟨u,rfl,ru⟩:=r.one;cases ru;obtain⟨ys,hx,r1⟩:=zaZ S hp e0;obtain⟨its,rv,pl,hz⟩:=I.list hx;obtain⟨kvV,kvs,a1,a2,a3,a4,a5⟩:=znn I r1 e1 rv;have hzk:kvs.length<=sizeLine:=by
     rw[a4];exact of_decide_eq_true hf
   refine zgs (I.ok.hd hc) pl a3 hzk a5 fun h' tk d' kk=>?_;have hlV:kvV.length=kvs.length:=Bf a2;have hm:(zeA [] kvV).length<=sizeLine:=by
     have:=zcs kvV [];rw[Bb] at this;omega
   have hd:(s.heap.objs.size==sysModules)=false:=beq_eq_false_iff_ne.mpr (BB (As I.big));refine⟨.ref s.heap.objs.size,_,I.laid (a:=s.heap.objs.size) (o:=.dK (zeA [] kvV)) (t':=tk) kk (Af _) (zom hm hd (a2.merge .nil) d'),rfl,?_⟩;obtain⟨E',S'⟩:=zix (o:=.dK (zeA [] kvV)) (ob:=.dk (zgc [] kds)) S (I.hok.fresh (Af _)) fun H' T e=>⟨_,e,zjL (KR.mono T a1) .nil⟩
   exact k _ _ [s.heap.objs.size] E' S' ⟨s.heap.objs.size,rfl,by rw[<-S.len];exact getElem?_len io _⟩
 . cases e
end
def Itw(n:Nat)(f:Nat->Option V):It:=⟨fun i _=>i < n,fun i H v H'=>H'=H/\f i=some v,fun i _=>n<=i⟩
def zjW:List String:=["enumerate","zip","dict_itemiterator","dict_reverseitemiterator","odict_iterator","itertools.zip_longest","itertools.pairwise"]
def ziV{P:Program}{w:World}{K:Ab}{tg:Expr}(it:Addr)(n:Nat)(f:Nat->Option V){R:Nat->Value->Prop}{T:Nat->Heap->Prop}(W:∀ A:Around,A.handled=none->Walks P w A it [it] [it] n R T)
   (hr:∀ i v,R i v->∃ x,f i=some x/\RelV x v) (hob:∀ i h,T i h->∃ o nm vs,h.get? it=some o/\o.cls=.type nm/\o.data=.fields vs/\zjW.contains nm=false)
   (hself:∀ (A:Around) (i:Nat) (s:Shared) (Q:Value->Shared->Prop) (E:Value->Shared->Prop),T i s.heap->Q (.ref it) s->wpAny (model P w) A (pyIter (.ref it)) Q E s) :
   Turn P w K tg (Itw n f) [it] it (fun i h=>i<=n/\T i h) where
 mem:=by simp
 obj:=fun i h st b hb=>by
   have e:b=it:=by simpa using hb
   subst e;obtain⟨o,nm,vs,e,c,d,_⟩:=hob i h st.2;exact⟨o,e,fun v z=>by rw[d] at z;cases z⟩
 keep:=fun i h h' st k=>⟨st.1,(W {} rfl).frame i h h' st.2 k⟩
 item:=by
   intro X hP hw hK hc i pins s σ H E I hf st hg;subst hP hw hK;obtain⟨f0,f1,f2,f3,f4,f5⟩:=hf it (by simp);refine (W X.A (I.ok.hd hc)).item i s _ _ hg st.2 fun v h' tk hv st' kk=>?_;obtain⟨x,hx,rx⟩:=hr i v hv;have I1:Inv X pins σ H { s with heap:=h',toks:=tk }:=I.turned (fun b o hb e=>kk b o (by simpa using hb) e) f0 f1 f3 f4 f5;obtain⟨o,nm,vs,e,c,d,hn⟩:=hob (i+1) h' st';exact⟨_,rfl,zqn (s:={ s with heap:=h',toks:=tk }) e c d hn ⟨x,H,I1,rx,⟨rfl,hx⟩,⟨hg,st'⟩,fun b hb=>(hf b hb).1⟩⟩
 done:=by
   intro X hP hw hK hc i pins s σ H E I hf st hg;subst hP hw hK;obtain⟨f0,f1,f2,f3,f4,f5⟩:=hf it (by simp);have e:i=n:=Nat.le_antisymm st.1 hg;subst e;exact (W X.A (I.ok.hd hc)).done s _ _ st.2 fun h' tk kk=>⟨rfl,I.turned (fun b o hb e=>kk b o (by simpa using hb) e) f0 f1 f3 f4 f5⟩
 self:=fun A i s Q E st h=>hself A i s Q E st.2 h
def zsJ{K:Ab}{H:Hp}{io:List Addr}{ds:List D}{n:Nat}{f:Nat->Option V}(hn:n=ds.length)(hf:∀ i d,ds[i]?=some d->∃ v,f i=some v/\∀ H io,Rep K H io v d):ItOk K H io ⟨ds,[]⟩ (Itw n f) where
 go:=fun i d H1 k1 s hd X1 S1 hs=>by
   have hi:i < ds.length:=(List.getElem?_eq_some_iff.mp hd).1;refine⟨by show i < n;omega,fun x H' y=>?_⟩;obtain⟨rfl,y⟩:=y;obtain⟨v,hv,rv⟩:=hf i d hd;rw[hv] at y;cases y;exact⟨Ext.refl,S1,rv _ _⟩
 stop:=fun H1 k1 s X1 S1 hs=>by show n<=ds.length;omega
 stop':=fun H1 k1 s i hi X1 S1 hs=>by
   show n<=i;have hi:ds.length<=i:=hi;omega
section
variable {X:Cx} {K:Ab} {H:Hp} {io:List Addr} {st st':Sto} {a b c e:Expr} {es:List Expr} {ma mb mc m:ME} {mm:MA} {mt:MT} {ms:MS} {pos:Pos} {tg:Expr} {body:List Stmt}
def signs(z:Str):List D:=z.cps.toList.map fun c=>D.str ⟨#[c]⟩
def zoC(z:Str)(i:Nat):Option V:=z.cps[i]?.map fun c=>V.str ⟨#[c]⟩
def zkS{P:Program}{w:World}{A:Around}(hh:A.handled=none)(I:Addr)(x:Str)(t:Tok):Walks P w A I [I] [I] x.cps.size (SignAt x) (fun i h=>h.IsStrIter I (strIterType x) x t i):=by
 unfold strIterType
 cases x.cps.all (· < 128)
 . exact Walks.strWide hh I x t
 . exact Walks.strAscii hh I x t
def zmN{P:Program}{w:World}{K:Ab}{tg:Expr}(it:Addr)(x:Str)(t:Tok):Turn P w K tg (Itw x.cps.size (zoC x)) [it] it (fun i h=>i<=x.cps.size/\h.IsStrIter it (strIterType x) x t i) :=
 ziV it x.cps.size (zoC x) (fun A hA=>zkS hA it x t) (fun i v ⟨c,u,hc,hv⟩=>⟨.str ⟨#[c]⟩,by unfold zoC;rw[hc];rfl,u,hv⟩)
   (fun i h ⟨o,e,c,d⟩=>⟨o,_,_,e,c,d,by unfold strIterType;split <;> decide⟩) fun A i s Q E st h=>by
     unfold strIterType at st
     split at st
     . exact wpAny_pyIter_striter_ascii st h
     . exact wpAny_pyIter_striter_wide st h
def iStr(tl:TE):TI:=fun σ H R=>tl σ H fun x H1=>∃ z,x=.str z/\R (Itw z.cps.size (zoC z)) H1
def zrY{l:Expr}{tl:TE}(hl:PE X l tl):PI X tg l (iStr tl):=by
 intro pins s σ H R I h;refine thn (hl pins s σ H _ I h) ?_;rintro v s1 ⟨x,H1,I1,r1,q1⟩;obtain⟨z,e,q⟩:=q1;subst e;obtain⟨t,rfl⟩:=r1;refine wpAny_pyIter_strU ?_;refine⟨s1.heap.objs.size,[s1.heap.objs.size],_,_,H1,rfl,I1.kept (t':=s1.toks) fun b o e=>Ac _ e,zmN _ z t,⟨A0 _,_,Am _ rfl,rfl,rfl⟩,fun b hb=>?_,q⟩;have e:b=s1.heap.objs.size:=by simpa using hb
 subst e;exact I1.fpOk (Af _) (I1.hok.fresh (Af _))
def signs_get{z:Str}{i:Nat}{d:D}(h:(signs z)[i]?=some d):∃ v,zoC z i=some v/\∀ H io,Rep K H io v d:=by
 unfold signs at h;rw[AD] at h;obtain⟨c,hc,e⟩:=zag h;subst e;refine⟨.str ⟨#[c]⟩,?_,fun H io=>rfl⟩;unfold zoC;rw[BH] at hc;rw[hc];rfl
def zk4(z:Str):z.cps.size=(signs z).length:=by unfold signs;rw[Ag,AY]
def mWS(m:ME):MI:=fun ρ st=>(m ρ st).bind fun (d,s)=>match d with
 | .str z=>some (⟨signs z,[]⟩,s)
 | _=>none
def zrz{l:Expr}(hl:SE X l m):SI X tg l (mWS m):=PI.imp (zrY hl) <| by
 rintro σ H R ⟨ρ,st,io,W,st',E,S,e,k⟩;obtain⟨⟨d,s1⟩,e1,e⟩:=zad e;dsimp only at e
 split at e
 . rename_i z;cases e;refine⟨ρ,st,io,_,_,E,S,e1,fun v H1 k1 X1 S1 R1=>?_⟩;exact⟨z,R1,k _ H1 k1 X1 S1 (zsJ (zk4 z) fun i d h=>signs_get h)⟩
 . cases e
def mWA(m:ME):MI:=fun ρ st=>(m ρ st).bind fun (d,s)=>orO (zkT d s) (match d with | .str z=>some (⟨signs z,[]⟩,s) | _=>none)
def zdh{l:Expr}(hl:SE X l m):SI X tg l (mWA m):=by
 rintro pins s σ H R I ⟨ρ,st,io,W,st',E,S,e0,k⟩;obtain⟨⟨d,s1⟩,e1,e0⟩:=zad e0
 rcases zch e0 with e0 | e0
 . exact zo0 hl pins s σ H R I ⟨ρ,st,io,W,st',E,S,by unfold mW;rw[e1];exact e0,k⟩
 . exact zrz hl pins s σ H R I ⟨ρ,st,io,W,st',E,S,by unfold mWS;rw[e1];exact e0,k⟩
end
section
variable {X:Cx} {K:Ab} {H:Hp} {io:List Addr} {st st':Sto} {a b c e:Expr} {es:List Expr} {ma mb mc m:ME} {mm:MA} {mt:MT} {ms:MS} {pos:Pos} {tg:Expr} {body:List Stmt}
def mWhF(c:MT)(m:MS):Nat->MS
 | 0=>fun _ _=>none
 | n+1=>fun ρ st=>(c ρ st).bind fun (b,s)=>if b=true then (m ρ s).bind fun (f,s2)=>match f with
     | .nx ρ2=>mWhF c m n ρ2 s2
     | .ct ρ2=>mWhF c m n ρ2 s2
     | .bk ρ2=>some (.nx ρ2,s2)
     | .rt d=>some (.rt d,s2)
   else some (.nx ρ,s)
def zmV{n:Nat}{c:Expr}(hp:PassesOwn (model X.prog X.w) X.A X.env X.xe)(hc:SB X c mt)(hb:SSs X body ms):SS X (.While c body [] pos) (mWhF mt ms n):=PS.imp (znm hp hc hb) fun N σ H h=>by
 obtain⟨ρ,st,io,f,st',E,S,e,w⟩:=zcG.mp h;refine⟨fun k σ2 H2=>∃ ρ2 s2 k2,Ext io k2 H H2/\StR X.K H2 (io++k2) s2/\EnvR X.K H2 (io++k2) σ2 ρ2/\mWhF mt ms k ρ2 s2=some (f,st'),⟨n,ρ,st,[],Ext.refl,S.nil,by rw[Ap];exact E,e⟩,?_⟩;rintro k σ2 H2 ⟨ρ2,s2,k2,X2,S2,E2,e2⟩;have w2:Wn X.K (io++k2) H2 st' N f:=w.on X2 S2
 cases k with
 | zero=>cases e2
 | succ k =>
   obtain⟨⟨b,s3⟩,e3,e2⟩:=zad e2;refine⟨ρ2,s2,io++k2,b,s3,E2,S2,e3,fun H3 k3 X3 S3=>?_⟩;have X23:=X2.trans S2 X3;have S3':StR X.K H3 (io++(k2++k3)) s3:=by rw[<-Aq];exact S3
   dsimp only
   cases b with
   | false =>
     rw[if_neg (by decide)];have e2:some (Fl.nx ρ2,s3)=some (f,st'):=e2;cases e2;exact w2 σ2 H3 k3 X3 S3 (E2.ext S2 X3)
   | true =>
     rw[if_pos rfl];obtain⟨⟨f4,s4⟩,e4,e2⟩:=zad (show (ms ρ2 s3).bind _=some (f,st') from e2);refine⟨fun σ5 H5=>∃ ρ5 s5 k5,Ext io k5 H H5/\StR X.K H5 (io++k5) s5/\EnvR X.K H5 (io++k5) σ5 ρ5/\mWhF mt ms k ρ5 s5=some (f,st'),fun σ5 H5 h5=>⟨k,B7 k,h5⟩,?_⟩;refine zmO (E2.ext S2 X3) S3 e4 ?_;have fin:∀ {ρ7:Rho},mWhF mt ms k ρ7 s4=some (f,st')->∀ σ7 H7 k7,Ext (io++k2++k3) k7 H3 H7->StR X.K H7 (io++k2++k3++k7) s4->EnvR X.K H7 (io++k2++k3++k7) σ7 ρ7 ->
         ∃ ρ5 s5 k5,Ext io k5 H H7/\StR X.K H7 (io++k5) s5/\EnvR X.K H7 (io++k5) σ7 ρ5/\mWhF mt ms k ρ5 s5=some (f,st'):=by
       intro ρ7 e7 σ7 H7 k7 X7 S7 E7;rw[Aq io] at X7;rw[Aq io,Aq io] at S7 E7;exact⟨ρ7,s4,(k2++k3)++k7,X23.trans S3' X7,S7,E7,e7⟩
     cases f4 with
     | nx ρ7=>exact fin e2
     | ct ρ7=>exact fin e2
     | bk ρ7 =>
       cases e2;exact w2.on X3 S3
     | rt dd =>
       cases e2;exact w2.on X3 S3
def znV:GN
 | [.str z],st=>if fits z.cps.size=true then some (.ref st.length,st++[.lst (signs z)]) else none
 | _,_=>none
def zi9{z:Str}{acc:Array Value}(h:ItemsOf (SignAt z) acc z.cps.size):Vals (z.cps.toList.map fun c=>V.str ⟨#[c]⟩) acc.toList:=by
 have aux:∀ (l:List Nat) (vs:List Value),vs.length=l.length->(∀ (j:Nat) (v:Value),vs[j]?=some v->∃ (c:Nat) (u:Tok),l[j]?=some c/\v=D4 ⟨#[c]⟩ u)->Vals (l.map fun c=>V.str ⟨#[c]⟩) vs:=by
   intro l
   induction l with
   | nil=>intro vs hl _;cases (Co hl);exact .nil
   | cons c l ih =>
     intro vs hl hv
     cases vs with
     | nil=>simp at hl
     | cons v vs =>
       obtain⟨c',u,hc,rfl⟩:=hv 0 v rfl
       cases (show c=c' by simpa using hc)
       exact .cons ⟨u,rfl⟩ (ih vs (by simpa using hl) fun j v h=>by simpa using hv (j+1) v (by simpa using h))
 refine aux _ _ (by rw[AY,h.1,AY]) fun j v hj=>?_;obtain⟨c,u,hc,hv⟩:=h.2 j v (by rw[<-BH];exact hj);exact⟨c,u,by rw[BH];exact hc,hv⟩
def zja(z:Str):Reps K H io (z.cps.toList.map fun c=>V.str ⟨#[c]⟩) (signs z):=by
 unfold signs;generalize z.cps.toList=l
 induction l with
 | nil=>exact rfl
 | cons c l ih=>exact Reps.cons rfl ih
def ziH(hc:X.calm=true):zdf X (.type "list") znV:=by
 rintro pins s σ H xs us Q I r ⟨ds,st,io,d,st',R,S,e,k⟩;unfold znV at e
 split at e
 . rename_i z;obtain⟨hf,e⟩:=zam e;cases e;obtain⟨v,rfl,rfl⟩:=R.one;obtain⟨u,rfl,ru⟩:=r.one;obtain⟨t,rfl⟩:=ru;have hz:z.cps.size<=sizeLine:=of_decide_eq_true hf;refine call_list_str (hn:=hz) (I.ok.hd hc) z t fun h' tk acc c' hk hat hacc=>?_;refine⟨.ref s.heap.objs.size,upd H s.heap.objs.size (.lst (z.cps.toList.map fun c=>V.str ⟨#[c]⟩)),I.laid (t':=tk) (fun b o q=>hk b o q) (Af _) ⟨by rw[Ag,AY];exact hz,acc.toList,c',zi9 hacc,by simpa using hat⟩,rfl,?_⟩;exact k.lst S (zja z) (I.hok.fresh (Af _))
 . cases e
def zsy:GN:=orN zra znV
def zkw(hc:X.calm=true):zdf X (.type "list") zsy:=zdu zku (ziH hc)
def slK:D->Option Int->Option Int->Sto->Option (D×Sto):=fun x lo hi st=>match x with
 | .kl ds=>some (.ref st.length,st++[.lst (cutD ds lo hi)])
 | _=>none
def slB:D->Option Int->Option Int->Sto->Option (D×Sto):=fun x lo hi st=>orO (slA x lo hi st) (slK x lo hi st)
def mSlB(m:ME)(l h:MO):ME:=fun ρ st=>(m ρ st).bind fun (x,s1)=>(l ρ s1).bind fun (lo,s2)=>(h ρ s2).bind fun (hi,s3)=>slB x lo hi s3
def zc4{lo hi:Option Expr}{ml mh:MO}{p2:Pos}(he:SE X e m)(hl:SO X lo ml)(hu:SO X hi mh):SE X (.Subscript e (.Slice lo hi none p2) pos) (mSlB m ml mh):=by
 rintro pins s σ H Q I ⟨ρ,st,io,d,st',E,S,e0,k⟩;obtain⟨⟨x,s1⟩,e1,e0⟩:=zad e0;obtain⟨⟨lo',s2⟩,e2,e0⟩:=zad e0;obtain⟨⟨hi',s3⟩,e3,e0⟩:=zad e0
 rcases zch e0 with e0 | e0
 . exact zk6 he hl hu pins s σ H Q I ⟨ρ,st,io,d,st',E,S,by simp only[mSlA,e1,e2,e3,Ae];exact e0,k⟩
 . refine zgY zmd he hl hu pins s σ H Q I ?_;refine⟨ρ,st,io,x,s1,E,S,e1,fun v1 H1 k1 X1 S1 R1=>⟨ρ,s1,io++k1,lo',s2,E.ext S X1,S1,e2,fun H2 k2 X2 S2=>⟨ρ,s2,(io++k1)++k2,hi',s3,(E.ext S X1).ext S1 X2,S2,e3,fun H3 k3 X3 S3=>?_⟩⟩⟩;have R3:=(R1.ext S1 X2).ext S2 X3;have k':=((k.on S1 X1).on S2 X2).on S3 X3
   cases x with
   | kl ds =>
     cases e0;obtain⟨p,xs,rfl,hx,r⟩:=R3;exact⟨p,xs,rfl,hx.sq,fun q hq=>k'.lst S3 (zkn r _ _) hq⟩
   | _=>cases e0
def zmn:G2
 | .str i,.str j,st=>some (.bl (!(!(Builtin.Str.occurrences j i 0 j.length 1).isEmpty)),st)
 | _,_,_=>none
def zjA:OpM X (compareOp .NotIn) zmn:=by
 rintro pins s σ H x y v u Q I rx ry ⟨dx,dy,st,io,d,st',Rx,Ry,S,e,k⟩
 cases dx with
 | str i =>
   cases dy with
   | str j=>cases e;exact zgZ pins s σ H x y v u Q I rx ry ⟨i,j,Rx,Ry,k.now S rfl⟩
   | _=>cases e
 | _=>cases e
def zez:G2:=orG znG zmn
def zhs(hu:X.A.units+100 < cLine)(ha:SE X a ma)(hb:SE X b mb)(hm:behindInMarks .NotIn b=false:=by rfl):SB X (.Compare a [.NotIn] [b] pos) (mTst (mBin zez ma mb)) :=
 zm9 (zla hu ha hb hm) (zb9 zjA ha hb hm)
end
end L2.MP
namespace PySem.F
end PySem.F
namespace PySem
open Builtin
end PySem
namespace L2.MP
open PySem PySem.Spec PyProof.Rows
section
variable {ρ ρ1:Rho} {st s1:Sto} {m n o ma mb:ME} {mm:MA} {ms mq:MS} {mt mu:MT} {d:D} {ml mh:MO}
@[simp] theorem zu2:mWA m ρ st=(m ρ st).bind fun p=>orO (zkT p.1 p.2) (match p.1 with | .str z=>some (⟨signs z,[]⟩,p.2) | _=>none):=rfl
@[simp] theorem zuE:mSlB m ml mh ρ st=(m ρ st).bind fun p=>(ml ρ p.2).bind fun q=>(mh ρ q.2).bind fun r=>slB p.1 q.1 r.1 r.2:=rfl
end
def zqG:bootBuiltins "sum"=some (.builtin "sum"):=by decide +kernel
def zkz:bootBuiltins "repr"=some (.builtin "repr"):=by decide +kernel
def zs1:bootBuiltins "any"=some (.builtin "any"):=by decide +kernel
section
variable {X:Cx} {K:Ab} {H:Hp} {io:List Addr} {st st':Sto} {a b c e:Expr} {es:List Expr} {ma mb mc m:ME} {mm:MA} {pos:Pos} {pins:List (Addr×Obj)} {σ:L2.St} {s:Shared}
def zqk:List D->Option (List Int)
 | []=>some []
 | .int i::r=>(zqk r).map fun is=>i::is
 | _=>none
def zj2:∀ {ys:List V} {its:List Value} {ds:List D} {ns:List Int},Reps K H io ys ds->Vals ys its->zqk ds=some ns->its.length=ns.length/\∀ (j:Nat) (v:Value),its[j]?=some v->∃ t,v=Dv (ns.getD j 0) t
 | _,_,[],ns,h,r,e=>by
   cases e
   cases (show _=[] from h)
   cases r;exact⟨rfl,fun j v h=>by simp at h⟩
 | _,_,d::ds,ns,h,r,e=>by
   obtain⟨y,ys,rfl,h1,h2⟩:=h
   cases d with
   | int i =>
     obtain⟨is,e2,e⟩:=zag e;subst e
     cases r with
     | cons r1 r2 =>
       cases (show y=.int i from h1)
       obtain⟨t,rfl⟩:=r1;obtain⟨l,q⟩:=zj2 h2 r2 e2;refine⟨by simp[l],fun j v hj=>?_⟩
       cases j with
       | zero=>cases hj;exact⟨t,rfl⟩
       | succ j=>simpa using q j v (by simpa using hj)
   | _=>cases e
def zfQ(i:Int):Bool:=decide (-1000000<=i)&&decide (i<=1000000)
def sumC:GN
 | [.ref n],st=>(zbA st n).bind fun ds=>(zqk ds).bind fun ns=>if (ns.all zfQ&&decide (ns.length<=100000))=true then some (.int ns.sum,st) else none
 | _,_=>none
def zff:∀ (ns:List Int) (j:Nat),j<=ns.length->preSum (fun i=>ns.getD i 0) j=(ns.take j).sum
 | ns,0,_=>by simp[preSum]
 | ns,j+1,h=>by
   have hj:j < ns.length:=h;have e1:(ns.take (j+1)).sum=(ns.take j).sum+ns[j]:=by
     rw[BN,Ah hj];simp only[Option.toList_some,List.sum_append,Gs,List.sum_nil,Int.add_zero]
   rw[preSum,zff ns j (by omega),e1];simp only[Ax,Ah hj,C1]
def zhn:∀ {ns:List Int},ns.all zfQ=true->-1000000*(ns.length:Int)<=ns.sum/\ns.sum<=1000000*(ns.length:Int)
 | [],_=>by simp
 | i::ns,h=>by
   rw[Gn,Ao] at h;obtain⟨h1,h2⟩:=h;unfold zfQ at h1;rw[Ao] at h1;have a1:=of_decide_eq_true h1.1;have a2:=of_decide_eq_true h1.2;have ih:=zhn h2;rw[Gs,Ar]
   push_cast
   omega
def zh0(hc:X.calm=true):zdf X (.builtin "sum") sumC:=by
 rintro pins s σ H xs us Q I r ⟨ds,st,io,d,st',R,S,e,k⟩;unfold sumC at e
 split at e
 . rename_i n;obtain⟨ts,e0,e⟩:=zad e;obtain⟨ns,e1,e⟩:=zad e;obtain⟨hf,e⟩:=zam e;cases e;rw[Ao] at hf;have hall:=hf.1;have hlen:=of_decide_eq_true hf.2;obtain⟨v,rfl,p,rfl,hp⟩:=R.one;obtain⟨u,rfl,ru⟩:=r.one;cases ru;obtain⟨ys,hx,r1⟩:=zaZ S hp e0;obtain⟨its,rv,pl,hz⟩:=I.list hx;obtain⟨hl,hval⟩:=zj2 r1 rv e1;refine call_sum_walk (CS pl.isList ?_);have hlt:p < s.heap.objs.size:=by
     obtain⟨o,_,e,_⟩:=pl;exact Aj e
   refine⟨_,_,_,_,_,_,fun i=>ns.getD i 0,rfl,Walks.list (A:=X.A.in1) (I.ok.hd hc) s.heap.objs.size p (As hlt) its.toArray,⟨⟨_,Am _ rfl,rfl,rfl⟩,?_⟩,?_,?_,?_,fun h' tk t' hk=>?_⟩
   . obtain⟨o,nn,e,c,dd,sq⟩:=pl;exact⟨o,Ac _ e,c,nn,sq⟩
   . intro b hb;rw[A6];simp at hb
     rcases hb with hb | hb
     . rw[hb];exact B7 _
     . rw[hb];exact CV hlt
   . intro i v hv;exact hval i v (by simpa using hv)
   . intro j hj;have hj:j < ns.length:=by simpa[hl] using hj
     have b1:zfQ (ns.getD j 0)=true:=by
       rw[Ax,Ah hj];exact List.all_eq_true.mp hall _ (Bm hj)
     have b2:(ns.take (j+1)).all zfQ=true:=List.all_eq_true.mpr fun x hx=>List.all_eq_true.mp hall x (EE hx);have b3:=zhn b2;rw[zff ns (j+1) hj];unfold zfQ at b1;rw[Ao] at b1;have a1:=of_decide_eq_true b1.1;have a2:=of_decide_eq_true b1.2;have hl2:(ns.take (j+1)).length<=100000:=by rw[Bl];omega
     unfold InLong;dsimp only;omega
   . refine⟨.int _,H,I.kept (t':=tk) fun b o q=>hk b o ?_ (Ac _ q),⟨t',rfl⟩,?_⟩
     . simp;exact As (Aj q)
     . have e2:preSum (fun i=>ns.getD i 0) its.toArray.size=ns.sum:=by
         rw[AB,hl,zff ns ns.length (Af _),BD]
       rw[e2];exact k.now S rfl
 . cases e
def zjo:GN
 | [x],st=>(toP 100 st x).bind fun p=>if (Di p&&!p.hasDict&&fits p.shown.length)=true then some (.str p.shown,st) else none
 | _,_=>none
def zei(hg:X.A.guards=some [])(hu:X.A.units+110 < cLine):zdf X (.builtin "repr") zjo:=by
 rintro pins s σ H xs us Q I r ⟨ds,st,io,d,st',R,S,e,k⟩;unfold zjo at e
 split at e
 . rename_i x;obtain⟨p,e1,e⟩:=zad e;obtain⟨hf,e⟩:=zam e;cases e;rw[Ao,Ao] at hf;obtain⟨⟨h1,h2⟩,h3⟩:=hf;have hz:p.shown.length<=sizeLine:=of_decide_eq_true h3;have hnd:p.hasDict=false:=by simpa using h2
   obtain⟨v,rfl,rx⟩:=R.one;obtain⟨u,rfl,ru⟩:=r.one;have hdep:=(zdP e1).2;obtain⟨as,rd⟩:=zbO I S rx ru e1;have fin:∀ h' u tk,(∀ b o,s.heap.get? b=some o->h'.get? b=some o)->EP X pins σ Q (.str p.shown u) { s with heap:=h',toks:=tk }:=fun h' u tk hk=>⟨.str p.shown,H,I.kept (t':=tk) fun b o q=>hk b o q,⟨u,rfl⟩,k.now S rfl⟩
   cases u with
   | ref a=>exact repr_of_reads' rd h1 (fun z=>by rw[hnd] at z;cases z) hg (by omega) (fun b o q=>q) fin hz
   | int i t =>
     cases rd;exact PySem.P.repr_of_int (by simpa[Di] using h1) (fin s.heap s.toks _ fun b o q=>q)
   | str z t =>
     cases rd;exact PySem.P.repr_of_str (fin s.heap s.toks _ fun b o q=>q) (by simpa[PyData.shown] using hz)
   | bool b =>
     cases rd;exact PySem.P.repr_of_bool (fin s.heap s.toks _ fun b o q=>q)
   | none =>
     cases rd;exact PySem.P.repr_of_none (fin s.heap s.toks _ fun b o q=>q)
   | _=>cases rd
 . cases e
end
section
variable {prog:Program} {w:World} {A:Around} {E:Value->Shared->Prop} {s:Shared}
def zfA{d:Addr}{o:Obj}{es:Array DictEntry}{ep:Nat}{R:Value->Shared->Prop}(ty:s.TypeIs (.ref d) "dict")(hd:(d==sysModules)=false)(g:s.heap.get? d=some o)(dd:o.data=.dict es ep)
   (k:R (.ref s.heap.objs.size) { s with heap:=s.heap.push { cls:=.type "dict_keyiterator",data:=.fields #[.ref d,.int 0 0,.int es.size 0,.int ep 0] } }):wpAny (model prog w) A (pyIter (.ref d)) R E s:=by
 refine wpAny_pyIter_slot ty F.slot_dict_iter (Bc F.slot_dict_iter ty F.entry_dict_iter ?go (F.args_dict_iter_1 _));unfold Builtin.«dict.__iter__»;refine Aa ?_;unfold Builtin.Dict.dictSlotNone;refine Aa (Cw ty ?_);show wpAny _ _ (pure (AF d)) _ _ s;refine Ad ?_;show wpAny _ _ (Builtin.Dict.showsAll d >>= _) _ _ s;unfold Builtin.Dict.showsAll;rw[if_neg (by rw[hd];exact AV)];refine Aa (Ad (Aa (B5 g dd (Aa (D9 g dd ?_)))));refine Aa (AI (Ad ⟨_,rfl,"dict_keyiterator",_,⟨_,Am _ rfl,rfl⟩,F.slot_dict_keyiterator_next.lookup,?_⟩));simpa[rawInt] using k
def zhO{it d:Addr}{i ep:Nat}{o:Obj}{es:Array DictEntry}{en:DictEntry}{R:Option Value->Shared->Prop}(hit:s.heap.IsKeyIter it d i es.size ep)(g:s.heap.get? d=some o)(dd:o.data=.dict es ep)(hx:es[i]?=some en)
   (k:∀ h',h'.IsKeyIter it d (i+1) es.size ep->BC it s.heap h'->R (some en.key) { s with heap:=h' }):wpAny (model prog w) A (pyNext (.ref it)) R E s:=by
 obtain⟨io,ig,ic,idt⟩:=id hit;have own:Builtin.Dict_items.ownsTuple "dict_keyiterator"=false:=by decide
 unfold pyNext;refine Aa (DF (A2 (name:=Bu "__next__") hit.typeIs F.slot_dict_keyiterator_next (Bc F.slot_dict_keyiterator_next hit.typeIs F.entry_dict_keyiterator_next ?_ (F.args_dict_keyiterator_next_1 _))));refine Aa (Ad (Aa (Aa ?_)));refine Aa (BO hit.typeIs (Ad (Aa (wpAny_fieldsOf ig idt ?_))));simp only[own,AX,if_false];show wpAny _ _ (if (AF d==Be)=true then _ else _) _ _ s;rw[if_neg (show ¬ (AF d==Be)=true from fun z=>AV z)];refine Aa (Ad (Aa (B5 g dd ?_)));rw[if_neg (by simp)];refine Aa (Ad (Aa (D9 g dd ?_)));rw[if_neg (by simp)];refine Ad ?_;have ni:¬ ((i:Int) < 0):=by omega
 simp only[ni,if_false,Br,hx];refine Aa (Aa (BO hit.typeIs (Ad (Aa (Ew hit.typeIs ?_)))));show wpAny _ _ (setField (.ref it) 1 (rawInt ((i:Int)+1)) >>= _) _ _ s;refine Aa (Du ig idt (by simp) ?_);have h2:(s.heap.update it (Gu (·.setIfInBounds 1 (rawInt ((i:Int)+1))))).IsKeyIter it d (i+1) es.size ep:=⟨_,BF _ ig (Et (CN idt _)),(Fy ..).trans ic,by rw[CN idt];simp[rawInt]⟩
 refine Aa (AK (Aa (Ew (s:={ s with heap:=s.heap.update it (Gu (·.setIfInBounds 1 (rawInt ((i:Int)+1)))) }) h2.typeIs ?_)));show wpAny _ _ (pure en.key) _ _ _;exact Ad (Ad ⟨_,rfl,Ad (k _ h2 (BQ ..))⟩)
def zhN{it d:Addr}{i ep:Nat}{o:Obj}{es:Array DictEntry}{R:Option Value->Shared->Prop}(hh:A.handled=none)(hit:s.heap.IsKeyIter it d i es.size ep)(g:s.heap.get? d=some o)(dd:o.data=.dict es ep)(hx:es[i]?=none)
   (k:∀ h',El it s.heap h'->R none { s with heap:=h' }):wpAny (model prog w) A (pyNext (.ref it)) R E s:=by
 obtain⟨io,ig,ic,idt⟩:=id hit;have own:Builtin.Dict_items.ownsTuple "dict_keyiterator"=false:=by decide
 unfold pyNext;refine Aa (DF (A2 (name:=Bu "__next__") hit.typeIs F.slot_dict_keyiterator_next (Bc F.slot_dict_keyiterator_next hit.typeIs F.entry_dict_keyiterator_next ?_ (F.args_dict_keyiterator_next_1 _))));refine Aa (Ad (Aa (Aa ?_)));refine Aa (BO hit.typeIs (Ad (Aa (wpAny_fieldsOf ig idt ?_))));simp only[own,AX,if_false];show wpAny _ _ (if (AF d==Be)=true then _ else _) _ _ s;rw[if_neg (show ¬ (AF d==Be)=true from fun z=>AV z)];refine Aa (Ad (Aa (B5 g dd ?_)));rw[if_neg (by simp)];refine Aa (Ad (Aa (D9 g dd ?_)));rw[if_neg (by simp)];refine Ad ?_;have ni:¬ ((i:Int) < 0):=by omega
 simp only[ni,if_false,Br,hx];refine Aa (Aa (BO hit.typeIs (Ad ?_)));show wpAny _ _ (setField (.ref it) 0 .none >>= _) _ _ s;refine Aa (Du ig idt (by simp) ?_);show wpAny _ _ (newExc (.type "StopIteration") [] >>= _) _ _ _;simp only[newExc,newTuple];refine Aa (Aa (AI (Aa (m:=firstArgMember _ _) (FI (a:=Be) (by first | rfl | (simp only[firstArgMember];rfl)) (AI ?_ (by size_fits)))) (by size_fits)));simp only[raiseNew];refine Aa (wpAny_handled ?_);rw[show A.in1.handled=none from hh];refine Aa (Ad (wpAny_throw ?_));refine Aa (wpAny_isInstance (T:="StopIteration") (b:=true) ⟨_,Am _ rfl,rfl⟩ isSubtype_stop (Ad ?_));exact k _ (((BQ ..).extBut.push _).push _)
end
def Itk(o:Obj)(d:Addr):It :=
 ⟨fun i H=>∃ ps p,H d=some (.frz o (.dT ps))/\ps[i]?=some p,fun i H x H'=>∃ b ps k v,H'=H/\x=.ref b/\H d=some (.frz o (.dT ps))/\ps[i]?=some (k,v)/\H b=some (.tup (k.map kV)),
   fun i H=>∃ ps,H d=some (.frz o (.dT ps))/\ps.length<=i⟩
def zkV{P:Program}{w:World}{K:Ab}{tg:Expr}{o:Obj}{es:Array DictEntry}{ep:Nat}(d it:Addr)(dd:o.data=.dict es ep) :
   Turn P w K tg (Itk o d) [it] it (fun i h=>h.IsKeyIter it d i es.size ep) where
 mem:=by simp
 obj:=fun i h st b hb=>by
   obtain⟨ob,e,c,dt⟩:=st;rw[List.mem_singleton.mp hb];exact⟨_,e,fun v z=>by rw[dt] at z;cases z⟩
 keep:=fun i h h' st k=>st.at fun ob e=>k it (by simp) ob e
 item:=by
   intro X hP hw hK hc i pins s σ H E I hf st hg;subst hP hw hK;obtain⟨ps,⟨k,v⟩,hq,hx⟩:=hg;obtain⟨g,hl,ent⟩:=zed (I.hok d _ hq) dd;obtain⟨en,b,he,hkey,hb,hv⟩:=ent i k v hx;obtain⟨f0,f1,f2,f3,f4,f5⟩:=hf it (by simp);refine zhO st g dd he fun h' st' sb=>?_;have I1:Inv X pins σ H { s with heap:=h' }:=I.turned (t':=s.toks) (fun b o hb e=>(sb.2 b hb).trans e) f0 f1 f3 f4 f5;obtain⟨ob,e,c,dt⟩:=id st';exact⟨en.key,rfl,zqn (s:={ s with heap:=h' }) e c dt (by decide) ⟨.ref b,H,I1,by rw[hkey];rfl,⟨b,ps,k,v,rfl,rfl,hq,hx,hb⟩,st',fun b hb=>(hf b hb).1⟩⟩
 done:=by
   intro X hP hw hK hc i pins s σ H E I hf st hg;subst hP hw hK;obtain⟨ps,hq,hx⟩:=hg;obtain⟨g,hl,_⟩:=zed (I.hok d _ hq) dd;obtain⟨f0,f1,f2,f3,f4,f5⟩:=hf it (by simp);exact zhN (I.ok.hd hc) st g dd (by simp;omega) fun h' eb=>⟨rfl,I.turned (t':=s.toks) (fun b o hb e=>eb b o hb e) f0 f1 f3 f4 f5⟩
 self:=fun _ _ _ _ _ st h=>EF st h
section
variable {X:Cx} {K:Ab} {H:Hp} {io:List Addr} {m:ME} {st st':Sto} {tg:Expr}
def zdA(kvs:List (List Key×D)):List D:=kvs.map fun p=>.tup (p.1.map keyD)
def zoB:D->Sto->Option (Wk×Sto)
 | .ref n,s=>match s[n]? with
   | some (.dt kvs)=>some (⟨zdA kvs,[]⟩,s.set n (.ft kvs))
   | _=>none
 | _,_=>none
def zsN{n:Nat}{p:Addr}{o:Obj}{ps:List (List Key×V)}{kvs:List (List Key×D)}(S:StR K H io st)(hn:io[n]?=some p)(hp:H p=some (.frz o (.dT ps)))(r:KR (List Key) K H io ps kvs):ItOk K H io ⟨zdA kvs,[]⟩ (Itk o p) where
 go := fun i d H1 k1 s hd X1 S1 hs=>by
   have h1:=X1.frz _ _ _ hp;have hd:(zdA kvs)[i]?=some d:=hd;unfold zdA at hd;rw[AD] at hd;obtain⟨⟨k,y⟩,hk,rfl⟩:=zag hd;have get:∀ {l:List (List Key×V)} {m:List (List Key×D)} {i:Nat},KR (List Key) K H io l m->m[i]?=some (k,y)->∃ v,l[i]?=some (k,v):=by
     intro l m i q
     induction q generalizing i with
     | nil=>intro e;simp at e
     | @cons a b _ _ h t ih =>
       cases i with
       | zero =>
         intro e;simp at e;subst e;obtain⟨a1,a2⟩:=a;have z:a1=k:=h.1;subst z;exact⟨a2,rfl⟩
       | succ j=>intro e;exact ih (by simpa using e)
   obtain⟨v,hv⟩:=get r hk;refine⟨⟨ps,_,h1,hv⟩,fun x H' y'=>?_⟩;obtain⟨b,ps',k',v',rfl,rfl,h1',hv',hb⟩:=y';rw[h1] at h1';cases h1';rw[hv] at hv';cases hv';exact⟨Ext.refl,S1,⟨b,_,rfl,hb,zfy k⟩⟩
 stop:=fun H1 k1 s X1 S1 hs=>⟨ps,X1.frz _ _ _ hp,by show ps.length<=(zdA kvs).length;unfold zdA;rw[Ag,KR.length r];exact Af _⟩
 stop':=fun H1 k1 s i hi X1 S1 hs=>⟨ps,X1.frz _ _ _ hp,by have hi:(zdA kvs).length<=i:=hi;unfold zdA at hi;rw[Ag,<-KR.length r] at hi;exact hi⟩
def mWK(m:ME):MI:=fun ρ st=>(m ρ st).bind fun (d,s)=>zoB d s
def zme{o:Expr}(ho:SE X o m):SI X tg o (mWK m):=by
 rintro pins s σ H R I ⟨ρ,st,io,W,st',E,S,e,k⟩;obtain⟨⟨d,s1⟩,e1,e⟩:=zad e
 cases d with
 | ref n =>
   unfold zoB at e;dsimp only at e
   split at e
   . rename_i kvs en;cases e;refine thn (ho pins s σ H (fun v H'=>∃ ka,Ext io ka H H'/\StR X.K H' (io++ka) s1/\Rep X.K H' (io++ka) v (.ref n)) I ⟨ρ,st,io,_,s1,E,S,e1,fun v1 H1 k1 X1 S1 R1=>⟨k1,X1,S1,R1⟩⟩) ?_;rintro v s2 ⟨x,H1,I1,r1,k1,X1,S1,R1⟩;obtain⟨p,rfl,hp⟩:=R1;cases r1;obtain⟨ps,hH,r⟩:=S1.ob n p _ hp en;obtain⟨t1,t2,hs⟩:=zhe I1 (.inr ⟨ps,.inl hH⟩);obtain⟨_,_,xs,_,o,es,ep,g,_,dd,_,_⟩:=I1.hok p _ hH;refine zfA (o:=o) (es:=es) (ep:=ep) t1 hs g dd ?_;have J:=I1.kept (t':=s2.toks) (h':=s2.heap.push { cls:=.type "dict_keyiterator",data:=.fields #[.ref p,.int 0 0,.int es.size 0,.int ep 0] }) fun b u q=>Ac _ q;have J2:=Inv.freeze J hH (Ac _ g) (by simp) (by simp) (by simp) (by simp);obtain⟨X2,S2⟩:=zgV (o:=.frz o (.dT ps)) (ob:=.ft kvs) S1 hp en (fun o u z=>by rw[hH] at z;cases z) fun H' T e'=>⟨o,ps,e',KR.mono T r⟩
     refine⟨_,[_],_,_,_,rfl,J2,zkV p _ dd,⟨_,Am _ rfl,rfl,rfl⟩,fun b hb=>?_,?_⟩
     . rw[List.mem_singleton.mp hb];refine I1.fpOk (Af _) ?_;rw[zat (BB (As (Aj g)))];exact I1.hok.fresh (Af _)
     . have hn':((io++k1)++[])[n]?=some p:=by rw[Ap];exact hp
       have r2:=KR.mono (ka:=[]) (X2.kp S1) r;have ok:=zsN S2 hn' zbi r2;refine k _ _ (k1++[]) (X1.trans S1 X2) (by rw[<-Aq];exact S2) (by rw[<-Aq];exact ok)
   . cases e
 | _=>cases e
def lookF(st:Sto)(n:Nat)(k:D):Option (Option D):=match st[n]? with
 | some (.ft kvs)=>match k with
   | .tup ds=>(keysOf ds).map fun q=>valD kvs q
   | _=>none
 | _=>none
def zhL{n:Nat}{p:Addr}{k:D}{y:V}{r:Option D}(S:StR K H io st)(hp:io[n]?=some p)(ry:Rep K H io y k)(h:lookF st n k=some r):∃ o,DGet H p y o/\((r=none/\o=none)\/∃ d v,r=some d/\o=some v/\Rep K H io v d):=by
 unfold lookF at h
 split at h
 . rename_i kvs e
   split at h
   . rename_i ds;obtain⟨q,e1,h⟩:=zag h;subst h;obtain⟨ob,ps,hH,r⟩:=S.ob n p _ hp e;obtain⟨b,xs,rfl,hb,rs⟩:=ry;have ex:=zcc rs e1;subst ex;refine⟨_,.inr ⟨ps,q,b,.inr ⟨ob,hH⟩,rfl,hb,rfl⟩,?_⟩
     rcases KR.val r q with ⟨h1,h2⟩ | ⟨d,v,h1,h2,h3⟩
     . exact .inl ⟨h1,h2⟩
     . exact .inr ⟨d,v,h1,h2,h3⟩
   . cases h
 . cases h
end
section
variable {prog:Program} {w:World} {A:Around} {E:Value->Shared->Prop} {s:Shared}
def ziM{sl:Addr}{t:Tok}{n:Nat}{Q:Int×Int×Nat->Shared->Prop}(hs:s.heap.IsSliceOf sl .none .none (.int (-1) t))(h:Q ((n:Int) - 1,-1,n) s):wpAny (model prog w) A (Builtin.Slice.sliceApplied (.ref sl) (pure (n:Int))) Q E s:=by
 obtain⟨os,hos,hcs,hds⟩:=id hs;unfold Builtin.Slice.sliceApplied Builtin.Slice.sliceFields;refine Aa (Aa (A5 hos hds (x:=.none) rfl (Aa (A5 hos hds (x:=.none) rfl (Aa (A5 hos hds (x:=.int (-1) t) rfl (Ad ?_)))))));refine Aa (HT.slicePart_ (.int (-1) t) ?_);show wpAny _ _ (if ((-1:Int)==0)=true then _ else _) _ _ s;rw[if_neg (by decide)];refine Aa (HT.slicePart_ .none (Aa (HT.slicePart_ .none (Aa (Ad ?_)))));have e1:Builtin.Slice.sliceAdjust none none (-1) (n:Int)=((n:Int) - 1,-1):=by
   unfold Builtin.Slice.sliceAdjust;simp
 have e2:Builtin.Slice.slicePlaces ((n:Int) - 1) (-1) (-1)=n:=by
   unfold Builtin.Slice.slicePlaces;have h1:¬ ((-1:Int) > 0):=by decide
   simp only[h1,if_false]
   by_cases hn:(-1:Int) < (n:Int) - 1
   . simp[hn]
   . simp[hn];omega
 show wpAny _ _ (match Builtin.Slice.sliceAdjust none none (-1) (n:Int) with | (lo,hi)=>pure (lo,(-1:Int),Builtin.Slice.slicePlaces lo hi (-1))) _ _ s;rw[e1];show wpAny _ _ (pure ((n:Int) - 1,(-1:Int),Builtin.Slice.slicePlaces ((n:Int) - 1) (-1) (-1))) _ _ s;rw[e2];exact Ad h
def zkd{α β:Type}{f g:α->Option β}:∀ {l:List α},(∀ x∈l,f x=g x)->l.filterMap f=l.filterMap g
 | [],_=>rfl
 | a::l,h=>by
   rw[BP,BP,h a An,zkd fun x hx=>h x (Ak _ hx)]
def znr(xs:Array Value):((AA xs.size).filterMap fun (m:Nat)=>xs[(((xs.size:Int) - 1)+(m:Int)*-1).toNat]?).toArray=xs.toList.reverse.toArray:=by
 congr 1
 have e:∀ m∈AA xs.size,xs[(((xs.size:Int) - 1)+(m:Int)*-1).toNat]?=xs[xs.size - 1 - m]?:=fun m hm=>by
   have:=List.mem_range.mp hm;have:(((xs.size:Int) - 1)+(m:Int)*-1).toNat=xs.size - 1 - m:=by omega
   rw[this]
 rw[zkd e];have h2:(AA xs.size).filterMap (fun m=>xs[xs.size - 1 - m]?)=((AA xs.size).map fun k=>xs.size - 1 - k).filterMap (xs[·]?):=by
   rw[E3];rfl
 rw[h2,PySem.W.krv_range,List.filterMap_reverse,PySem.W.krv_all]
def zdK{t sl:Addr}{items:Array Value}{tk:Tok}{Q:Value->Shared->Prop}(ht:IsTup s.heap t items)(hs:s.heap.IsSliceOf sl .none .none (.int (-1) tk))
   (h:Q (.ref s.heap.objs.size) { s with heap:=s.heap.push { cls:=.type "tuple",data:=.seq items.toList.reverse.toArray } }) (hsz:items.size<=sizeLine):wpAny (model prog w) A (getItem (.ref t) (.ref sl)) Q E s:=by
 have htake:sizeOk (.seq items.toList.reverse.toArray):=by
   show items.toList.reverse.toArray.size<=sizeLine;rw[AB,ER,AY];exact hsz
 obtain⟨os,hos,hcs,hds⟩:=id hs;have hTs:s.TypeIs (.ref sl) "slice":=⟨os,hos,hcs⟩
 unfold getItem
 try with_reducible refine AK ?_
 first | refine Aa (Ad ?_) | skip
 refine Aa (Fs ht.typeIs (by decide) ?_);refine Aa (A2 (name:=Bu "__getitem__") ht.typeIs BJ (Bc BJ ht.typeIs EM ?_ (E4 _ _)));show wpAny _ _ (Builtin.Tuple.tupleItemsOf (.ref t) >>= _) _ _ s;refine Aa (tupleItemsOf_ ht ?_);refine Aa (C7 hTs ?_);rw[if_pos (by decide)];refine Aa (ziM hs ?_);have hno:¬ ((((items.size:Int) - 1)==0&&(-1:Int)==1&&items.size==items.size)=true):=by
   intro q;rw[Ao,Ao] at q;exact absurd q.1.2 (by decide)
 show wpAny _ _ (if (((items.size:Int) - 1)==0&&(-1:Int)==1&&items.size==items.size)=true then _ else _) _ _ s;rw[if_neg hno,znr]
 first
   | exact Aa (m:=Builtin.Tuple.tupleExact _) (AI (Ad ⟨_,rfl,Ad h⟩) htake)
   | exact Aa (m:=Builtin.Tuple.tupleExact _) (AI (Aa (Ad (Ad ⟨_,rfl,Ad h⟩))) htake)
   | exact Aa (Aa (m:=Builtin.Tuple.tupleExact _) (AI (Ad (Ad ⟨_,rfl,Ad h⟩)) htake))
   | exact Aa (Aa (m:=Builtin.Tuple.tupleExact _) (AI (Ad ⟨_,rfl,Ad h⟩) htake))
end
section
variable {X:Cx} {K:Ab} {H:Hp} {io:List Addr} {st st':Sto} {a b c e:Expr} {es:List Expr} {ma mb mc m mk:ME} {mm:MA} {pos:Pos} {pins:List (Addr×Obj)} {σ:L2.St} {s:Shared}
def zq9(st:Sto)(n:Nat)(k:D):Option (Option D):=orO (look st n k) (lookF st n k)
def zlD{n:Nat}{p:Addr}{k:D}{y:V}{r:Option D}(S:StR K H io st)(hp:io[n]?=some p)(ry:Rep K H io y k)(h:zq9 st n k=some r):∃ o,DGet H p y o/\((r=none/\o=none)\/∃ d v,r=some d/\o=some v/\Rep K H io v d):=by
 rcases zch h with h | h
 . exact zg8 S hp ry h
 . exact zhL S hp ry h
def zmA(st:Sto)(n:Nat):Bool:=match st[n]? with
 | some (.dk _)=>true
 | some (.dt _)=>true
 | some (.fk _)=>true
 | some (.ft _)=>true
 | _=>false
def zj0{n:Nat}{p:Addr}(S:StR K H io st)(hp:io[n]?=some p)(h:zmA st n=true):IsD H p:=by
 unfold zmA at h
 split at h
 . rename_i kvs e;obtain⟨ps,q,_⟩:=S.ob n p _ hp e;exact .inl ⟨ps,.inl q⟩
 . rename_i kvs e;obtain⟨ps,q,_⟩:=S.ob n p _ hp e;exact .inr ⟨ps,.inl q⟩
 . rename_i kvs e;obtain⟨o,ps,q,_⟩:=S.ob n p _ hp e;exact .inl ⟨ps,.inr ⟨o,q⟩⟩
 . rename_i kvs e;obtain⟨o,ps,q,_⟩:=S.ob n p _ hp e;exact .inr ⟨ps,.inr ⟨o,q⟩⟩
 . cases h
def znS(md mk:ME):ME:=fun ρ st=>(md ρ st).bind fun (d,s1)=>match d with
 | .ref n=>if zmA s1 n=true then (mk ρ s1).bind fun (k,s2)=>(zq9 s2 n k).map fun r=>(r.getD .non,s2) else none
 | _=>none
def zpa{o:Expr}{md:ME}{apos cpos:Pos}(hu:X.A.units+1 < cLine)(ho:SE X o md)(he:SE X e mk)(mm:M1 X o "get" apos e cpos:=by exact⟨rfl,rfl,rfl,rfl⟩):SE X (.Call (.Attribute o "get" apos) [e] [] cpos) (znS md mk) :=
 PE.imp (znx hu ho he mm) <| by
   rintro σ H Q ⟨ρ,st,io,d,st',E,S,e,k⟩;obtain⟨⟨x,s1⟩,e1,e⟩:=zad e
   cases x with
   | ref n =>
     obtain⟨hd,e⟩:=zam e;obtain⟨⟨y,s2⟩,e2,e⟩:=zad e;obtain⟨r,e3,e⟩:=zag e;cases e;refine⟨ρ,st,io,_,s1,E,S,e1,fun v1 H1 k1 X1 S1 R1=>?_⟩;obtain⟨p,rfl,hp⟩:=R1;refine⟨p,rfl,zj0 S1 hp hd,ρ,s1,io++k1,y,_,E.ext S X1,S1,e2,fun v2 H2 k2 X2 S2 R2=>?_⟩;obtain⟨o,g,z⟩:=zlD S2 (za4 hp) R2 e3;refine⟨o,g,?_⟩
     rcases z with ⟨rfl,rfl⟩ | ⟨d',v,rfl,rfl,rv⟩
     . exact ((k.on S1 X1).on S2 X2).now S2 rfl
     . exact ((k.on S1 X1).on S2 X2).now S2 rv
   | _=>cases e
def zlU:G2:=fun d k st=>match d with
 | .ref n=>(lookF st n k).bind fun r=>r.map fun v=>(v,st)
 | _=>none
def zjg{o i:Expr}{md mk:ME}(hu:X.A.units+1 < cLine)(ho:SE X o md)(hi:SE X i mk)(hs:NoSl i:=by intro _ _;rfl):SE X (.Subscript o i pos) (mBin zlU md mk):=PE.imp (zml hu ho hi hs) <| by
 rintro σ H Q ⟨ρ,st,io,d,st',E,S,e,k⟩;obtain⟨⟨x,s1⟩,e1,e⟩:=zad e;obtain⟨⟨y,s2⟩,e2,e⟩:=zad e
 cases x with
 | ref n =>
   obtain⟨r,e3,e⟩:=zad (show (lookF s2 n y).bind _=some (d,st') from e);obtain⟨w,e4,e⟩:=zag e;cases e;subst e4;refine⟨ρ,st,io,_,s1,E,S,e1,fun v1 H1 k1 X1 S1 R1=>⟨ρ,s1,io++k1,y,_,E.ext S X1,S1,e2,fun v2 H2 k2 X2 S2 R2=>?_⟩⟩;obtain⟨p,rfl,hp⟩:=R1;obtain⟨o,g,⟨z,_⟩ | ⟨d',v,hd,hv,rv⟩⟩:=zhL S2 (za4 hp) R2 e3
   . cases z
   . cases hd;subst hv;exact⟨p,v,rfl,g,((k.on S1 X1).on S2 X2).now S2 rv⟩
 | _=>cases e
def ztD(K:Ab)(te:TE)(ts:TO):TE:=fun σ H Q=>te σ H fun x H1=>ts σ H1 fun k H2=>k=some (-1)/\∃ a xs,x=.ref a/\H2 a=some (.tup xs)/\∀ p,H2 p=none->Q (.ref p) (upd H2 p (.tup xs.reverse))
def zpA{te:TE}{ts:TO}{p2:Pos}{se:Expr}(he:PE X e te)(hs:PO X (some se) ts):PE X (.Subscript e (.Slice none none (some se) p2) pos) (ztD X.K te ts):=by
 intro pins s σ H Q I h;refine EB (thn (he pins s σ H _ I h) ?_);rintro v s1 ⟨x,H1,I1,r1,q1⟩;refine wpAny_Slice ?_;rw[EJ];refine Ad (Ad ?_);refine thn (hs pins s1 σ H1 _ I1 q1) ?_;rintro vs s3 ⟨k,H3,I3,pk,hk,a,xs,hx,hq,q3⟩;subst hk;subst hx;cases r1;have I4:Inv X pins σ H3 { s3 with heap:=s3.heap.push { cls:=.type "slice",data:=.fields #[.none,.none,vs] } }:=I3.kept (t':=s3.toks) fun b ob q=>Ac _ q;obtain⟨its,r,ht,hz⟩:=I4.tuple (SqT.of (K:=X.K) hq);have hlen:=r.length;show wpAny (model X.prog X.w) X.A (subscriptTail e (.Slice none none (some se) p2) (.ref a) (.ref s3.heap.objs.size)) (EP X pins σ Q) X.xe { s3 with heap:=s3.heap.push { cls:=.type "slice",data:=.fields #[.none,.none,vs] } }
 cases pk with
 | int i ti =>
 refine tail_any (ops:=[.ref a,.ref s3.heap.objs.size]) ht.typeIs PyProof.Rows.slot_tuple_getitem.lookup ?_ (by with_unfolding_all rfl);refine zdK ht (Fb ..) ?_ (by rw[AB];omega);refine⟨.ref (s3.heap.push { cls:=.type "slice",data:=.fields #[.none,.none,.int (-1) ti] }).objs.size,_,I4.laid (t':=s3.toks) (o:=.tup xs.reverse) (fun b ob q=>Ac _ q) (Af _) ?_,rfl,q3 _ (I4.hok.fresh (Af _))⟩;exact⟨by rw[ER];exact hz,_,ziT r,zcX.new _ _⟩
def zsx(m mk:ME):ME:=fun ρ st=>(m ρ st).bind fun (x,s1)=>(mk ρ s1).bind fun (k,s2)=>match x,k with
 | .tup ds,.int i=>if (decide (i=-1))=true then some (.tup ds.reverse,s2) else none
 | _,_=>none
def zo7{p2:Pos}{se:Expr}(he:SE X e m)(hk:SE X se mk):SE X (.Subscript e (.Slice none none (some se) p2) pos) (zsx m mk) :=
 PE.imp (zpA he (zmk hk)) <| by
   rintro σ H Q ⟨ρ,st,io,d,st',E,S,e,k⟩;obtain⟨⟨x,s1⟩,e1,e⟩:=zad e;obtain⟨⟨y,s2⟩,e2,e⟩:=zad e;refine⟨ρ,st,io,x,s1,E,S,e1,fun v1 H1 k1 X1 S1 R1=>?_⟩;refine⟨ρ,s1,io++k1,y,s2,E.ext S X1,S1,e2,fun v2 H2 k2 X2 S2 R2=>?_⟩
   cases x with
   | tup ds =>
     cases y with
     | int i =>
       obtain⟨hi,e⟩:=zam e;cases e;have hi1:=of_decide_eq_true hi;subst hi1;obtain⟨p,xs,rfl,hp,r⟩:=R1.ext S1 X2;exact⟨_,R2,rfl,p,xs,rfl,hp,fun l hl=>((k.on S1 X1).on S2 X2).tup S2 (zjn r) hl⟩
     | _=>cases e
   | _=>cases e
end
def zgd:typeLookup (.type "tuple") "keys"=pure none:=by rw[typeLookup_type,Eu];kernel_rfl
structure Fill(prog:Program)(w:World)(A:Around)(D I:Addr)(n:Nat)(key val:Nat->Value)(T:Nat->Heap->Prop):Prop where
 keep:∀ i h h',T i h->(∀ b o,b≠I->h.get? b=some o->h'.get? b=some o)->T i h'
 step:∀ i (s:Shared) (Q:Unit->Shared->Prop) (E:Value->Shared->Prop),i < n->T i s.heap->(∀ h' tk,T (i+1) h'->BC D s.heap h'->Q () { s with heap:=h',toks:=tk })->wpAny (model prog w) A (dictSet D (key i) (val i)) Q E s
section
variable {prog:Program} {w:World} {A:Around} {E:Value->Shared->Prop} {s:Shared} {a:Addr}
def zjU{Q:Option Value->Shared->Prop}{xs:Array Value}{k:Nat}{sl:Array (Option Value)}(hx:s.heap.get? a=some { cls:=.type "tuple",dict:=none,data:=.seq xs k,slots:=sl })(hA:A.handled=none)
   (h:∀ h' tk,(∀ b u,s.heap.get? b=some u->h'.get? b=some u)->Q none { s with heap:=h',toks:=tk }):wpAny (model prog w) A (getAttr? (.ref a) "keys") Q E s:=by
 obtain⟨hp,g,d,tk,os⟩:=s;have hT:∀ tk',(⟨hp,g,d,tk',os⟩:Shared).TypeIs (.ref a) "tuple":=fun _=>⟨_,hx,rfl⟩
 have f1:=Fe;have f3:=F.slot_tuple_getattribute.lookup;have f4:=F.slot_tuple_getattribute.bind (.ref a);have f5:=am_tuple_getattr_none;unfold getAttr? getAttrBy? getAttrBy
 repeat (any_goals (first | assumption | exact hT _ | ((with_reducible show wpAny _ _ (call (Gq "tuple.__getattribute__") _ _) _ _ _);refine FX F.slot_tuple_getattribute (hT _) am_entry_tuple_getattribute (F.args_tuple_getattribute_2 _ _) (meets_getattribute_miss_tuple a xs k sl _ _ zgd (by decide +kernel)) ⟨hx,hA,fun h' tk' e hx'=>?_⟩) | wp_step))
 obtain⟨t',u',he⟩:=hx'.there;show wpAny _ _ (getattributeRaised _ _ _ _ _ _ _) _ _ _;unfold getattributeRaised
 repeat (any_goals (first | assumption | wp_step))
 exact h _ _ hx'.keeps
def Sr.nextN{x:Sr}{it:Addr}{i:Nat}{xs:Array Value}{v:Value}{R:Option Value->Shared->Prop}(hit:x.at_ s.heap it i)(h:x.is s.heap xs)(hx:xs[i]?=some v)(k:∀ h',x.at_ h' it (i+1)->BC it s.heap h'->R (some v) { s with heap:=h' }) :
   wpAny (model prog w) A (pyNext (.ref it)) R E s:=by
 cases x with
 | l a=>exact Ci hit h hx k
 | t a=>exact DY (show s.heap.IsTupleIter it a i from hit) (show s.heap.IsTuple a xs from h) hx k
def Sr.stopN{x:Sr}{it:Addr}{i:Nat}{xs:Array Value}{R:Option Value->Shared->Prop}(hh:A.handled=none)(hit:x.at_ s.heap it i)(h:x.is s.heap xs)(hx:xs[i]?=none)(k:∀ h',El it s.heap h'->R none { s with heap:=h' }) :
   wpAny (model prog w) A (pyNext (.ref it)) R E s:=by
 cases x with
 | l a=>exact Ct hh hit h hx k
 | t a=>exact Ee hh (show s.heap.IsTupleIter it a i from hit) (show s.heap.IsTuple a xs from h) hx k
def zum{R:Result->Shared->Prop}{D I:Addr}{x:Sr}{its:List Value}{n:Nat}{key val:Nat->Value}{T:Nat->Heap->Prop}{h0:Heap}(F:Fill prog w A.in1 D I n key val T)(hh:A.in1.handled=none)(hl:its.length=n)(hDI:D≠I)(hxD:x.ad≠D)(hxI:x.ad≠I) :
   ∀ (k i:Nat) (s:Shared),n - i=k->i<=n->x.at_ s.heap I i->x.is s.heap its.toArray->T i s.heap ->
   (∀ (j:Nat) (v:Value),its[j]?=some v->∃ p,v=.ref p/\IsTup s.heap p #[key j,val j]/\p≠D/\p≠I)->(∀ b o,b≠D->b≠I->h0.get? b=some o->s.heap.get? b=some o) ->
   (∀ h' tk,T n h'->(∀ b o,b≠D->b≠I->h0.get? b=some o->h'.get? b=some o)->R (.ok (.ret .none)) { s with heap:=h',toks:=tk }) ->
   codeAny (model prog w) A (.builtin "dict.update.loop" ⟨[.ref D,.ref I,rawInt i,.none],[]⟩) R s:=by
 intro k
 induction k with
 | zero =>
   intro i s hk hi hit hlist hd hp h0k hR;have hin:i=n:=by omega
   subst hin;refine Bt zcC ?_;rw[A4 zbe _];show wpAny _ A.in1 (pyNext (.ref I) >>= _) _ _ s;refine Aa (Sr.stopN hh hit hlist (by simp[hl]) fun h' hx=>?_);show wpAny _ A.in1 (Builtin.Dict.addKeywords D [] >>= fun _=>ret .none) _ _ _;exact Aa (Ad (Ad (hR h' s.toks (F.keep _ _ _ hd fun b o hb e=>hx b o hb e) fun b o h1 h2 e=>hx b o h2 (h0k b o h1 h2 e))))
 | succ k ih =>
   intro i s hk hi hit hlist hd hp h0k hR;have hlt:i < n:=by omega
   have hlt':i < its.length:=by omega
   refine Bt zcC ?_;rw[A4 zbe _];show wpAny _ A.in1 (pyNext (.ref I) >>= _) _ _ s;have hv:its[i]?=some its[i]:=Ah hlt';refine Aa (Sr.nextN (v:=its[i]) hit hlist (by simp[hlt']) fun h' hit' hx=>?_);obtain⟨p,ep,tp,nD,nI⟩:=hp i _ hv;have tp':IsTup h' p #[key i,val i]:=by
     obtain⟨o,g,c⟩:=tp;exact⟨o,hx.extBut p o nI g,c⟩
   have hd':T i h':=F.keep _ _ _ hd fun b o hb e=>hx.extBut b o hb e;rw[ep];refine Aa (AK (Aa (Cv (zd3 (s:={ s with heap:=h' }) tp' ?_))));refine AK (F.step i { s with heap:=h' } _ _ hlt hd' fun h2 tk2 hd2 hs2=>?_);have hI2:∀ b o,b≠D->h'.get? b=some o->h2.get? b=some o:=fun b o hb e=>hs2.extBut b o hb e;refine Ad ⟨Bv zbe _,?_⟩;refine ih (i+1) { s with heap:=h2,toks:=tk2 } (by omega) (by omega) ?_ ?_ hd2 (fun j v h1=>?_) (fun b o b1 b2 e=>hI2 b o b1 (hx.extBut b o b2 (h0k b o b1 b2 e))) fun h3 tk3 d3 k3=>hR h3 tk3 d3 k3
   . exact Sr.at_keep hit' fun u e=>hI2 I u (BB hDI) e
   . exact Sr.is_keep (Sr.is_keep hlist fun u e=>hx.extBut _ u hxI e) fun u e=>hI2 _ u hxD e
   . obtain⟨q,e,⟨o,g,c⟩,q1,q2⟩:=hp j v h1;exact⟨q,e,⟨o,hI2 q o q1 (hx.extBut q o q2 g),c⟩,q1,q2⟩
def Sr.pl(h:Heap)(xs:Array Value):Sr->Prop
 | .l a=>PlainL h a xs
 | .t a=>zcX h a xs
def Sr.pl_is{h:Heap}{xs:Array Value}{x:Sr}(q:x.pl h xs):x.is h xs:=by
 cases x with
 | l a=>exact PlainL.isList q
 | t a=>exact zcX.t q
def Sr.pl_keep{h h':Heap}{xs:Array Value}{x:Sr}(q:x.pl h xs)(k:∀ b u,h.get? b=some u->h'.get? b=some u):x.pl h' xs:=by
 cases x with
 | l a=>exact PlainL.keeps q k
 | t a=>exact zcX.keeps q k
def zdC{x:Sr}{its:List Value}{n:Nat}{key val:Nat->Value}{T:Nat->Heap->Prop}{Q:Value->Shared->Prop}(hh:A.handled=none)(hpl:x.pl s.heap its.toArray)(hl:its.length=n)
   (hF:∀ I:Addr,s.heap.objs.size < I->Fill prog w A.in1.in1 s.heap.objs.size I n key val T) (h0:T 0 (s.heap.push { cls:=.type "dict",data:=.dict #[] }))
   (hp:∀ (j:Nat) (v:Value),its[j]?=some v->∃ p,v=.ref p/\IsTup s.heap p #[key j,val j])
   (h:∀ h' tk,T n h'->(∀ b o,s.heap.get? b=some o->h'.get? b=some o)->Q (.ref s.heap.objs.size) { s with heap:=h',toks:=tk }) :
   wpAny (model prog w) A (call (.type "dict") [.ref x.ad]) Q E s:=by
 refine callType_codes (Q₁:=fun obj s₁=>obj=.ref s.heap.objs.size/\s₁={ s with heap:=s.heap.push { cls:=.type "dict",data:=.dict #[] } }) F.kt_called_dict (F.kt_typeCall_dict_1 _) F.entry_dict_init (kt_code_dict_new _ ⟨rfl,rfl⟩) ?_;rintro obj s₁ ⟨rfl,rfl⟩;have hnt:Shared.TypeIs { s with heap:=s.heap.push { cls:=.type "dict",data:=.dict #[] } } (.ref s.heap.objs.size) "dict":=⟨_,Am _ rfl,rfl⟩
 have k1:∀ b o,s.heap.get? b=some o->(s.heap.push { cls:=.type "dict",data:=.dict #[] }).get? b=some o:=fun b o e=>Ac _ e;have hpl1:=Sr.pl_keep hpl k1;have hlt:∀ b o,s.heap.get? b=some o->b < s.heap.objs.size:=fun b o e=>Aj e;have hll:x.ad < s.heap.objs.size:=by obtain⟨o,g⟩:=Sr.is_get (Sr.pl_is hpl);exact hlt _ o g
 refine⟨hnt,F.args_dict_init_2 _ _,?_⟩;unfold Builtin.«dict.__init__»;refine Aa ?_;unfold Builtin.Dict.selfAndRest;refine Aa (Cw hnt ?_);show wpAny _ _ (pure (s.heap.objs.size,[AF x.ad])) _ _ _;refine Ad ?_;show wpAny _ _ (Builtin.Dict.updateFrom "dict.__init__" s.heap.objs.size (.ref x.ad) [] .none) _ _ _;unfold Builtin.Dict.updateFrom;have rest:∀ (h2:Heap) (tk2:Nat),(∀ b u,(s.heap.push { cls:=.type "dict",data:=.dict #[] }).get? b=some u->h2.get? b=some u) ->
     codeAny (model prog w) A.in1 (.builtin "dict.update.loop" ⟨[.ref s.heap.objs.size,.ref h2.objs.size,rawInt (0:Nat),.none],[]⟩) (wants (fun r s₂=>r=.none/\Q (.ref s.heap.objs.size) s₂) E) { s with heap:=h2.push x.ob,toks:=tk2 }:=by
   intro h2 tk2 k2;have hpl2:=Sr.pl_keep hpl1 k2;have hsz:s.heap.objs.size < h2.objs.size:=by
     obtain⟨o,ho,_⟩:=hnt;exact Aj (k2 _ o ho)
   have k3:∀ b o,h2.get? b=some o->(h2.push x.ob).get? b=some o:=fun b o e=>Ac _ e;have n1:s.heap.objs.size≠h2.objs.size:=As hsz;have n2:x.ad≠s.heap.objs.size:=As hll;have n3:x.ad≠h2.objs.size:=As (BU hll hsz);have FF:=hF h2.objs.size hsz;refine zum (A:=A.in1) (h0:=s.heap) (x:=x) (its:=its) FF hh hl n1 n2 n3 n 0 { s with heap:=h2.push x.ob,toks:=tk2 } rfl (A0 _) ?_ (Sr.pl_is (Sr.pl_keep hpl2 k3)) ?_ (fun j v e1=>?_) (fun b o _ _ e=>k3 b o (k2 b o (k1 b o e))) (fun h' tk d' k'=>?_)
   . exact Sr.at_new (Am _ (by cases x <;> rfl))
   . exact FF.keep _ _ _ h0 fun b o _ e=>k3 b o (k2 b o e)
   . obtain⟨p,e,⟨o,g,c⟩⟩:=hp j v e1;exact⟨p,e,⟨o,k3 p o (k2 p o (k1 p o g)),c⟩,As (hlt p o g),As (BU (hlt p o g) hsz)⟩
   . exact⟨rfl,h h' tk d' fun b o e=>k' b o (As (hlt b o e)) (As (BU (hlt b o e) hsz)) e⟩
 cases x with
 | l a =>
   obtain⟨⟨cl,di,da,sl⟩,nn,g1,c1,c2,c3⟩:=id hpl1;simp only at c1 c2 c3;subst c1 c2 c3;refine Aa (C7 (show Shared.TypeIs { s with heap:=s.heap.push { cls:=.type "dict",data:=.dict #[] } } (.ref a) "list" from ⟨_,g1,rfl⟩) ?_);rw[if_pos (by decide)];refine Aa (zhP g1 hh fun h2 tk2 k2=>?_);simp only[Cf,if_true];refine Aa (BL ?_);refine Aa (Sr.iter (x:=.l a) (s:={ s with heap:=h2,toks:=tk2 }) (xs:=its.toArray) (Sr.pl_is (x:=.l a) (Sr.pl_keep (x:=.l a) hpl1 k2)) ?_);exact Ad ⟨Bv zbe _,rest h2 tk2 k2⟩
 | t a =>
   obtain⟨⟨cl,di,da,sl⟩,g1,c1,c2,nn,c3⟩:=id hpl1;simp only at c1 c2 c3;subst c1 c2 c3;refine Aa (C7 (show Shared.TypeIs { s with heap:=s.heap.push { cls:=.type "dict",data:=.dict #[] } } (.ref a) "tuple" from ⟨_,g1,rfl⟩) ?_);rw[if_pos (by decide)];refine Aa (zjU g1 hh fun h2 tk2 k2=>?_);simp only[Cf,if_true];refine Aa (BL ?_);refine Aa (Sr.iter (x:=.t a) (s:={ s with heap:=h2,toks:=tk2 }) (xs:=its.toArray) (Sr.pl_is (x:=.t a) (Sr.pl_keep (x:=.t a) hpl1 k2)) ?_);exact Ad ⟨Bv zbe _,rest h2 tk2 k2⟩
end
noncomputable abbrev TE3:=List Key×Addr×Value
def zjq(acc xs:List TE3):List TE3:=xs.foldl (fun acc x=>storedH acc x.1 x.2.1 x.2.2) acc
def zib{acc:List TE3}{k:List Key}{a:Addr}{v:Value}{x:TE3}(h:x∈storedH acc k a v):(∃ y∈acc,y.1=x.1/\y.2.1=x.2.1)\/(x.1=k/\x.2.1=a):=by
 unfold storedH at h
 split at h
 . obtain⟨y,hy,e⟩:=List.mem_map.mp h;refine .inl ⟨y,hy,?_⟩;rw[<-e];unfold putAt
   split <;> exact⟨rfl,rfl⟩
 . rcases List.mem_append.mp h with h | h
   . exact .inl ⟨x,h,rfl,rfl⟩
   . rw[List.mem_singleton.mp h];exact .inr ⟨rfl,rfl⟩
def zhy:∀ {xs acc:List TE3} {x:TE3},x∈zjq acc xs->(∃ y∈acc,y.1=x.1/\y.2.1=x.2.1)\/∃ y∈xs,y.1=x.1/\y.2.1=x.2.1
 | [],acc,x,h=>.inl ⟨x,h,rfl,rfl⟩
 | z::zs,acc,x,h=>by
   rcases zhy (xs:=zs) (acc:=storedH acc z.1 z.2.1 z.2.2) h with ⟨y,hy,e1,e2⟩ | ⟨y,hy,e⟩
   . rcases zib hy with ⟨u,hu,f1,f2⟩ | ⟨f1,f2⟩
     . exact .inl ⟨u,hu,f1.trans e1,f2.trans e2⟩
     . exact .inr ⟨z,An,f1.symm.trans e1,f2.symm.trans e2⟩
   . exact .inr ⟨y,Ak _ hy,e⟩
def zic(acc:List TE3)(k:List Key)(a:Addr)(v:Value):(storedH acc k a v).length<=acc.length+1:=by
 unfold storedH
 split <;> simp
def zfd:∀ (xs acc:List TE3),(zjq acc xs).length<=acc.length+xs.length
 | [],acc=>by show acc.length<=acc.length+0;omega
 | z::zs,acc=>by
   have h1:=zfd zs (storedH acc z.1 z.2.1 z.2.2);have h2:=zic acc z.1 z.2.1 z.2.2;show (zjq (storedH acc z.1 z.2.1 z.2.2) zs).length<=_;rw[Ar];omega
def zjp{xs:List TE3}{i:Nat}{x:TE3}(e:xs[i]?=some x):zjq [] (xs.take (i+1))=storedH (zjq [] (xs.take i)) x.1 x.2.1 x.2.2:=by
 rw[BN,e];unfold zjq;rw[FA];rfl
def kAt(xs:List TE3)(i:Nat):Value:=match xs[i]? with | some x=>.ref x.2.1 | none=>.none
def vAt(xs:List TE3)(i:Nat):Value:=match xs[i]? with | some x=>x.2.2 | none=>.none
section
variable {prog:Program} {w:World} {A:Around} {E:Value->Shared->Prop} {s:Shared} {a:Addr}
def FT(prog:Program)(w:World)(D:Addr)(xs:List TE3)(i:Nat)(h:Heap):Prop :=
 h.DictOfH (tupleKind (zaB prog w)) D (zjq [] (xs.take i))/\∀ x∈xs,(tupleKind (zaB prog w)).is h x.1 x.2.1
def zhc{h h':Heap}{k:List Key}{b:Addr}(q:(tupleKind (zaB prog w)).is h k b)(kk:∀ o,h.get? b=some o->h'.get? b=some o):(tupleKind (zaB prog w)).is h' k b:=by
 obtain⟨o,its,n,h1,r⟩:=q;exact⟨o,its,n,kk o h1,r⟩
def zup{D I:Addr}{xs:List TE3}(hu:A.units < cLine)(hDI:D≠I)(hI:∀ x∈xs,x.2.1≠I)(hD:∀ x∈xs,x.2.1≠D)(hz:xs.length<=sizeLine):Fill prog w A D I xs.length (kAt xs) (vAt xs) (FT prog w D xs) where
 keep:=by
   rintro i h h' ⟨⟨o,es,ep,ho,hc,hd,he,his,hn⟩,hk⟩ k;have all:∀ x∈xs,(tupleKind (zaB prog w)).is h' x.1 x.2.1:=fun x hx=>zhc (hk x hx) fun o e=>k _ o (hI x hx) e;refine⟨⟨o,es,ep,k _ o hDI ho,hc,hd,he,fun x hx=>?_,hn⟩,all⟩
   rcases zhy hx with ⟨y,hy,_⟩ | ⟨y,hy,e1,e2⟩
   . exact nomatch hy
   . have:=all y (EE hy);rw[e1,e2] at this;exact this
 step:=by
   rintro i s Q E hi ⟨hd,hk⟩ h;have e:xs[i]?=some xs[i]:=Ah hi;have ek:kAt xs i=.ref xs[i].2.1:=by unfold kAt;rw[e]
   have ev:vAt xs i=xs[i].2.2:=by unfold vAt;rw[e]
   rw[ek,ev];have hl:(zjq [] (xs.take i)).length<=sizeLine:=by
     have:=zfd (xs.take i) [];rw[Bl,Bb] at this;omega
   refine wpAny_dictSet_heap (hsz:=hl) hu (hk _ (Bm hi)) hd fun h' hd' hs=>h h' _ ⟨?_,fun x hx=>?_⟩ hs
   . rw[zjp e];exact hd'
   . exact zhc (hk x hx) fun o g=>hs.extBut _ o (hD x hx) g
end
def zga{κ:Type}[DecidableEq κ](kvs more:List (κ×V)):List (κ×V):=more.foldl (fun acc kv=>putK acc kv.1 kv.2) kvs
def zgb(kvs more:List (List Key×D)):List (List Key×D):=more.foldl (fun acc kv=>putD acc kv.1 kv.2) kvs
def zte:D->Option (List Key×D)
 | .tup [.tup ks,v]=>(keysOf ks).map fun q=>(q,v)
 | _=>none
def zgX:List D->Option (List (List Key×D))
 | []=>some []
 | d::r=>(zte d).bind fun t=>(zgX r).map fun ts=>t::ts
section
variable {X:Cx} {K:Ab} {H:Hp} {io:List Addr} {st st':Sto} {pins:List (Addr×Obj)} {σ:L2.St} {s:Shared}
def znL:∀ {more:List (List Key×V)} {mx:List TE3} {kvs:List (List Key×V)} {xs:List TE3},KT H more mx->KT H kvs xs->KT H (zga kvs more) (zjq xs mx):=by
 intro more mx kvs xs r
 induction r generalizing kvs xs with
 | nil=>intro q;exact q
 | @cons p q ps qs h t ih =>
   intro r0;have e:KT H (putK kvs p.1 p.2) (storedH xs q.1 q.2.1 q.2.2):=by
     rw[<-h.1];exact KT.put r0 p.1 h.2.1 h.2.2
   exact ih e
def zlx:∀ {more:List (List Key×V)} {mds:List (List Key×D)} {kvs:List (List Key×V)} {kds:List (List Key×D)},KR (List Key) K H io more mds->KR (List Key) K H io kvs kds->KR (List Key) K H io (zga kvs more) (zgb kds mds):=by
 intro more mds kvs kds r;unfold KR at r
 induction r generalizing kvs kds with
 | nil=>intro q;exact q
 | @cons p q ps qs h t ih =>
   intro r0;have e:KR (List Key) K H io (putK kvs p.1 p.2) (putD kds q.1 q.2):=by
     rw[<-h.1];exact KR.put r0 p.1 h.2
   exact ih e
def zmi(I:Inv X pins σ H s):∀ {ys:List V} {ds:List D} {kds:List (List Key×D)} {its:List Value},Reps X.K H io ys ds->zgX ds=some kds->Vals ys its ->
   ∃ (kvV:List (List Key×V)) (xs:List TE3),KR (List Key) X.K H io kvV kds/\KT H kvV xs/\its.length=xs.length/\xs.length=kds.length/\∀ (j:Nat) (v:Value) (x:TE3),its[j]?=some v->xs[j]?=some x->∃ p,v=.ref p/\IsTup s.heap p #[.ref x.2.1,x.2.2]
 | _,[],kds,_,h,e,r=>by
   cases e
   cases (show _=[] from h)
   cases r;exact⟨[],[],.nil,.nil,rfl,rfl,fun j v kv h=>by simp at h⟩
 | _,d::ds,kds,_,h,e,r=>by
   obtain⟨y,ys,rfl,h1,h2⟩:=h;obtain⟨t,e1,e⟩:=zad e;obtain⟨ts,e2,e⟩:=zag e;subst e
   cases r with
   | @cons _ u _ us ru rus =>
     obtain⟨kvV,xs,a1,a2,a3,a4,a5⟩:=zmi I h2 e2 rus;unfold zte at e1
     split at e1
     . rename_i ks v;obtain⟨q,eq1,e1⟩:=zag e1;subst e1;obtain⟨p,vs,rfl,hp,rs⟩:=h1;obtain⟨v1,w1,rfl,q1,rs⟩:=rs;obtain⟨v2,w2,rfl,q2,rs⟩:=rs
       cases (show w2=[] from rs)
       obtain⟨b,zs,rfl,hb,rz⟩:=q1;have ek:=zcc rz eq1;subst ek;cases ru;obtain⟨ia,va,ht,_⟩:=I.tuple (SqT.of (K:=X.K) hp)
       cases va with
       | cons r1 t1 =>
         cases t1 with
         | cons r2 t2 =>
           cases t2;rename_i u1 u2
           cases (show u1=AF b from r1)
           refine⟨(q,v2)::kvV,(q,b,u2)::xs,.cons ⟨rfl,q2⟩ a1,.cons ⟨rfl,hb,r2⟩ a2,by rw[Ar,Ar,a3],by rw[Ar,Ar,a4],fun j v kv e1 e2=>?_⟩
           cases j with
           | zero =>
             cases e1;cases e2;exact⟨p,rfl,ht⟩
           | succ j=>exact a5 j v kv e1 e2
     . cases e1
def ztS{k:Nat}{A:Around}(hr:Room k A):A.units+2 < cLine:=by have:=hr.un;omega
def zqA:GN
 | [.ref n],st=>(zbA st n).bind fun ds=>(zgX ds).bind fun kds=>if fits kds.length=true then some (.ref st.length,st++[.dt (zgb [] kds)]) else none
 | [.tup ds],st=>(zgX ds).bind fun kds=>if fits kds.length=true then some (.ref st.length,st++[.dt (zgb [] kds)]) else none
 | _,_=>none
def zkl{x:Sr}{ys:List V}{ds:List D}{kds:List (List Key×D)}{its:List Value}{A:Around}{Q:Value->Shared->Prop}{E:Value->Shared->Prop}(I:Inv X pins σ H s)(hh:A.handled=none)(hu:A.units+2 < cLine)(pl:x.pl s.heap its.toArray)(rv:Vals ys its)(r1:Reps X.K H io ys ds)(e1:zgX ds=some kds)(hf:kds.length<=sizeLine)
   (h:∀ s' kvV,Inv X pins σ (upd H s.heap.objs.size (.dT (zga [] kvV))) s'->KR (List Key) X.K H io kvV kds->Q (.ref s.heap.objs.size) s'):wpAny (model X.prog X.w) A (call (.type "dict") [.ref x.ad]) Q E s:=by
 obtain⟨kvV,xs,a1,a2,a3,a4,a5⟩:=zmi I r1 e1 rv;have hz:xs.length<=sizeLine:=by rw[a4];exact hf
 have hkey:∀ y∈xs,(tupleKind (zaB X.prog X.w)).is s.heap y.1 y.2.1:=by
   clear a5 a4 a3 hz a1
   induction a2 with
   | nil=>intro y hy;exact nomatch hy
   | @cons p q ps qs hq t ih =>
     intro y hy
     rcases List.mem_cons.mp hy with e | hy
     . subst e;exact zge I.hok (by rw[<-hq.1];exact hq.2.1)
     . exact ih y hy
 have hlt:∀ y∈xs,y.2.1 < s.heap.objs.size:=fun y hy=>by
   obtain⟨o,_,_,g,_⟩:=hkey y hy;exact Aj g
 refine zdC (T:=FT X.prog X.w s.heap.objs.size xs) (key:=kAt xs) (val:=vAt xs) hh pl a3 (fun i hi=>zup hu (As hi) (fun y hy=>As (BU (hlt y hy) hi)) (fun y hy=>As (hlt y hy)) hz) ⟨Heap.DictOfH.new s.heap,fun y hy=>zhc (hkey y hy) fun o g=>Ac _ g⟩ (fun j v e=>?_) fun h' tk d' kk=>?_
 . have hj:j < xs.length:=by
     rw[<-a3];exact (List.getElem?_eq_some_iff.mp e).1
   have ex:xs[j]?=some xs[j]:=Ah hj;obtain⟨p,ep,tp⟩:=a5 j v _ e ex;refine⟨p,ep,?_⟩;unfold kAt vAt;rw[ex];exact tp
 . have hlV:kvV.length=xs.length:=Bf a2;obtain⟨⟨o,es,ep,ho,hc,hdd,he,his,hn⟩,_⟩:=d';rw[BD] at he his hn;have km:KT H (zga [] kvV) (zjq [] xs):=znL a2 .nil;have hm:(zga [] kvV).length<=sizeLine:=by
     have:=zfd xs [];rw[Bf km];rw[Bb] at this;omega
   have hd:(s.heap.objs.size==sysModules)=false:=beq_eq_false_iff_ne.mpr (BB (As I.big));refine h _ kvV (I.laid (a:=s.heap.objs.size) (o:=.dT (zga [] kvV)) (t':=tk) kk (Af _) ⟨hm,hd,zjq [] xs,?_,o,es,ep,ho,hc,hdd,he,hn⟩) a1;exact KT.keeps km fun b ys e=>by
     rw[zat (zau e (I.hok.fresh (Af _)))];exact e
def ziJ(hc:X.calm=true)(hu:X.A.units+2 < cLine):zdf X (.type "dict") zqA:=by
 rintro pins s σ H xs us Q I r ⟨ds,st,io,d,st',R,S,e,k⟩;have fin:∀ (kds:List (List Key×D)),(d,st')=(D.ref st.length,st++[O.dt (zgb [] kds)])->∀ s' kvV,Inv X pins σ (upd H s.heap.objs.size (.dT (zga [] kvV))) s'->KR (List Key) X.K H io kvV kds->∃ v H',Inv X pins σ H' s'/\RelV v (.ref s.heap.objs.size)/\Q v H':=fun kds ed s' kvV I' a1=>by
   cases ed;obtain⟨E',S'⟩:=zix (o:=.dT (zga [] kvV)) (ob:=.dt (zgb [] kds)) S (I.hok.fresh (Af _)) fun H' T e=>⟨_,e,zlx (KR.mono T a1) .nil⟩
   exact⟨.ref s.heap.objs.size,_,I',rfl,k _ _ [s.heap.objs.size] E' S' ⟨s.heap.objs.size,rfl,by rw[<-S.len];exact getElem?_len io _⟩⟩
 unfold zqA at e
 split at e
 . rename_i n;obtain⟨zs,e0,e⟩:=zad e;obtain⟨kds,e1,e⟩:=zad e;obtain⟨hf,e⟩:=zam e;obtain⟨v,rfl,p,rfl,hp⟩:=R.one;obtain⟨u,rfl,ru⟩:=r.one;cases ru;obtain⟨ys,hx,r1⟩:=zaZ S hp e0;obtain⟨its,rv,pl,hz⟩:=I.list hx;exact zkl (x:=.l p) I (I.ok.hd hc) hu pl rv r1 e1 (of_decide_eq_true hf) (fin kds (by cases e;rfl))
 . rename_i zs;obtain⟨kds,e1,e⟩:=zad e;obtain⟨hf,e⟩:=zam e;obtain⟨v,rfl,p,ys,rfl,hp,r1⟩:=R.one;obtain⟨u,rfl,ru⟩:=r.one;cases ru;obtain⟨hz,its,rv,pl⟩:=(show zcW X.prog X.w H s.heap p (.tup ys) from I.hok p _ hp)
   exact zkl (x:=.t p) I (I.ok.hd hc) hu pl rv r1 e1 (of_decide_eq_true hf) (fin kds (by cases e;rfl))
 . cases e
end
def zjl{k:Nat}{A:Around}(hr:Room k A):A.units+110 < cLine:=by have:=hr.un;omega
section
variable {X:Cx}
def mulB:G2:=intD (fun i j=>decide (Builtin.Int.intBits i<=2 ^ 20)&&decide (Builtin.Int.intBits j<=2 ^ 20)) fun i j=>.int (i*j)
def zf2:OpM X (binaryOp .Mult) mulB:=zeK (C:=fun i j=>Builtin.Int.intBits i<=2 ^ 20/\Builtin.Int.intBits j<=2 ^ 20) (opI fun i j _ _ _ _ _ hc q=>PyProof.Rows.mul_int q (IntMulOk.of_bits hc.1 hc.2)) fun i j h=>by
   rw[Ao] at h;exact⟨of_decide_eq_true h.1,of_decide_eq_true h.2⟩
def neS:G2
 | .str x,.str y,st=>some (.bl (x != y),st)
 | _,_,_=>none
def zpI:OpM X (compareOp .NotEq) neS:=by
 rintro pins s σ H x y v u Q I rx ry ⟨dx,dy,st,io,d,st',Rx,Ry,S,e,k⟩;unfold neS at e
 split at e
 . cases e
   cases (show x=_ from Rx)
   cases (show y=_ from Ry)
   obtain⟨t,rfl⟩:=rx;obtain⟨t',rfl⟩:=ry;exact PyProof.Rows.ne_str ⟨.bl _,H,I,rfl,k.now S rfl⟩
 . cases e
end
section
variable {prog:Program} {w:World} {A:Around} {E:Value->Shared->Prop} {s:Shared} {a:Addr}
def FK(prog:Program)(w:World)(D:Addr)(kvs:List (Key×Value))(i:Nat)(h:Heap):Prop:=h.DictOf (zaB prog w) D (merged [] (kvs.take i))
def xAt(xs:List Value)(i:Nat):Value:=match xs[i]? with | some x=>x | none=>.none
def wAt(xs:List (Key×Value))(i:Nat):Value:=match xs[i]? with | some x=>x.2 | none=>.none
def zuq{D I:Addr}{kvs:List (Key×Value)}{kxs:List Value}(hDI:D≠I)(hz:kvs.length<=sizeLine)(hk:∀ (j:Nat) (kv:Key×Value),kvs[j]?=some kv->(zaB prog w).is kv.1 (xAt kxs j)=true):Fill prog w A D I kvs.length (xAt kxs) (wAt kvs) (FK prog w D kvs) where
 keep:=fun i h h' ⟨o,es,ep,ho,r⟩ k=>⟨o,es,ep,k D o hDI ho,r⟩
 step:=fun i s Q E hi hd h=>by
   have e:kvs[i]?=some kvs[i]:=Ah hi;have ev:wAt kvs i=kvs[i].2:=by unfold wAt;rw[e]
   rw[ev];have hl:(merged [] (kvs.take i)).length<=sizeLine:=by
     have:=zd7 (kvs.take i) [];rw[Bl,Bb] at this;omega
   refine EO (hk i _ e) hd (fun h' hd' hs=>h h' _ ?_ hs) hl;have e1:stored (merged [] (kvs.take i)) kvs[i].1 kvs[i].2=merged [] (kvs.take (i+1)):=(merged_take_succ [] kvs i _ e).symm;unfold FK;rw[<-e1];exact hd'
def zhB{h:Heap}:∀ {its:List Value} {kvs:List (Key×Value)},its.length=kvs.length->(∀ (j:Nat) (v:Value) (kv:Key×Value),its[j]?=some v->kvs[j]?=some kv->zgw prog w h v kv) ->
   ∃ kxs:List Value,∀ (j:Nat) (v:Value) (kv:Key×Value),its[j]?=some v->kvs[j]?=some kv->∃ p,v=.ref p/\IsTup h p #[xAt kxs j,kv.2]/\(zaB prog w).is kv.1 (xAt kxs j)=true
 | [],kvs,_,_=>⟨[],fun j v kv e=>by simp at e⟩
 | v::its,[],e,_=>by cases e
 | v::its,kv::kvs,e,hp=>by
   obtain⟨kxs,hk⟩:=zhB (its:=its) (kvs:=kvs) (by simpa using e) fun j u q e1 e2=>hp (j+1) u q e1 e2;obtain⟨p,kx,e1,e2,e3⟩:=hp 0 v kv rfl rfl;refine⟨kx::kxs,fun j u q f1 f2=>?_⟩
   cases j with
   | zero =>
     cases f1;cases f2;exact⟨p,e1,e2,e3⟩
   | succ j=>exact hk j u q f1 f2
end
section
variable {X:Cx} {K:Ab} {H:Hp} {io:List Addr} {st st':Sto} {pins:List (Addr×Obj)} {σ:L2.St} {s:Shared}
def zre:GN
 | [.tup ds],st=>(zoD ds).bind fun kds=>if fits kds.length=true then some (.ref st.length,st++[.dk (zgc [] kds)]) else none
 | _,_=>none
def ziK(hc:X.calm=true):zdf X (.type "dict") zre:=by
 rintro pins s σ H xs us Q I r ⟨ds,st,io,d,st',R,S,e,k⟩;unfold zre at e
 split at e
 . rename_i zs;obtain⟨kds,e1,e⟩:=zad e;obtain⟨hf,e⟩:=zam e;cases e;obtain⟨v,rfl,p,ys,rfl,hp,r1⟩:=R.one;obtain⟨u,rfl,ru⟩:=r.one;cases ru;obtain⟨hz,its,rv,pl⟩:=(show zcW X.prog X.w H s.heap p (.tup ys) from I.hok p _ hp)
   obtain⟨kvV,kvs,a1,a2,a3,a4,a5⟩:=znn I r1 e1 rv;have hzk:kvs.length<=sizeLine:=by
     rw[a4];exact of_decide_eq_true hf
   obtain⟨kxs,hk⟩:=zhB a3 a5;have hkk:∀ (j:Nat) (kv:Key×Value),kvs[j]?=some kv->(zaB X.prog X.w).is kv.1 (xAt kxs j)=true:=fun j kv e=>by
     have hj:j < its.length:=by rw[a3];exact (List.getElem?_eq_some_iff.mp e).1
     obtain⟨_,_,_,q⟩:=hk j _ kv (Ah hj) e;exact q
   refine zdC (x:=.t p) (T:=FK X.prog X.w s.heap.objs.size kvs) (key:=xAt kxs) (val:=wAt kvs) (I.ok.hd hc) pl a3 (fun i hi=>zuq (As hi) hzk hkk) (Gd s.heap) (fun j v e=>?_) fun h' tk d' kk=>?_
   . have hj:j < kvs.length:=by
       rw[<-a3];exact (List.getElem?_eq_some_iff.mp e).1
     have ex:kvs[j]?=some kvs[j]:=Ah hj;obtain⟨p',ep,tp,_⟩:=hk j v _ e ex;refine⟨p',ep,?_⟩;unfold wAt;rw[ex];exact tp
   . have d':h'.DictOf (zaB X.prog X.w) s.heap.objs.size (merged [] kvs):=by
       have:FK X.prog X.w s.heap.objs.size kvs kvs.length h':=d';unfold FK at this
       rwa [BD] at this
     have hlV:kvV.length=kvs.length:=Bf a2;have hm:(zeA [] kvV).length<=sizeLine:=by
       have:=zcs kvV [];rw[Bb] at this;omega
     have hd:(s.heap.objs.size==sysModules)=false:=beq_eq_false_iff_ne.mpr (BB (As I.big));refine⟨.ref s.heap.objs.size,_,I.laid (a:=s.heap.objs.size) (o:=.dK (zeA [] kvV)) (t':=tk) kk (Af _) (zom hm hd (a2.merge .nil) d'),rfl,?_⟩;obtain⟨E',S'⟩:=zix (o:=.dK (zeA [] kvV)) (ob:=.dk (zgc [] kds)) S (I.hok.fresh (Af _)) fun H' T e=>⟨_,e,zjL (KR.mono T a1) .nil⟩
     exact k _ _ [s.heap.objs.size] E' S' ⟨s.heap.objs.size,rfl,by rw[<-S.len];exact getElem?_len io _⟩
 . cases e
def zoG:GN:=orN zrf zre
def zeU(hc:X.calm=true):zdf X (.type "dict") zoG:=zdu (zky hc) (ziK hc)
end
section
variable {prog:Program} {w:World} {A:Around} {E:Value->Shared->Prop}
def zqv:entryFor table "any.loop"=some Builtin.«any.loop»:=F.entry_any_loop
def zli:plainId "any.loop"=true:=F.plain_any_loop
def isT(z:Str):Bool:=(z.length:Int) != 0
def zqW{R:Result->Shared->Prop}{I l:Addr}{its:List Value}(hh:A.in1.handled=none)(hlI:l≠I):∀ (ss:List Str) (i:Nat) (s:Shared),StrsAre (its.drop i) ss->(∀ z∈ss,z.length<=sizeLine)->s.heap.IsListIter I l i->s.heap.IsList l its.toArray ->
   (∀ h' tk,(∀ b o,b≠I->s.heap.get? b=some o->h'.get? b=some o)->R (.ok (.ret (.bool (ss.any isT)))) { s with heap:=h',toks:=tk })->codeAny (model prog w) A (.builtin "any.loop" ⟨[.ref I],[]⟩) R s:=by
 intro ss
 induction ss with
 | nil =>
   intro i s hs hz hit hl hR;have hd:its.drop i=[]:=by generalize its.drop i=d at hs;cases hs;rfl
   have hn:its[i]?=none:=List.getElem?_eq_none (by have:=congrArg FE hd;simp at this;omega);refine Bt zqv (by
     rw[A4 zli _];refine Aa (Ct hh hit hl (by simpa using hn) fun h' hx=>Aa (BL (Ad ?_)));exact hR h' s.toks fun b o hb e=>hx b o hb e)
 | cons z zs ih =>
   intro i s hs hz hit hl hR;obtain⟨t,rest,hd,hr⟩:∃ t rest,its.drop i=.str z t::rest/\StrsAre rest zs:=by
     generalize its.drop i=d at hs
     cases hs with
     | cons y t r=>exact⟨t,_,rfl,r⟩
   have hx:its[i]?=some (.str z t):=by
     have:=congrArg (fun l=>l[0]?) hd;simpa using this
   have hd2:its.drop (i+1)=rest:=by
     have:=congrArg List.tail hd;simpa using this
   have hsl:sizeLine=16777216:=Cj;have hzl:=hz z An;refine Bt zqv (by
     rw[A4 zli _];refine Aa (Ci hit hl (by simpa using hx) fun h' hit' hx'=>Aa (AK (EV (by omega) (Aa (BR ?_)))));have kp:∀ b o,b≠I->s.heap.get? b=some o->h'.get? b=some o:=fun b o hb e=>hx'.extBut b o hb e;show wpAny _ _ (if isT z=true then _ else _) _ _ _
     cases hb:isT z with
     | true =>
       rw[if_pos rfl];refine Aa (BL (Ad ?_));have q:=hR h' (s.toks+1+1) kp;rw[B2,hb] at q;exact q
     | false =>
       rw[if_neg (by decide)];refine Ad ⟨Bv zli _,ih (i+1) _ (by rw[hd2];exact hr) (fun u hu=>hz u (Ak _ hu)) hit' (Dt hl fun u e=>kp l u hlI e) fun h2 tk2 k2=>?_⟩;have q:=hR h2 tk2 fun b o hb' e=>k2 b o hb' (kp b o hb' e);rw[B2,hb] at q;exact q)
end
section
variable {X:Cx} {K:Ab} {H:Hp} {io:List Addr} {st st':Sto} {pins:List (Addr×Obj)} {σ:L2.St} {s:Shared}
def anyT:GN
 | [.ref n],st=>(zbA st n).bind fun ds=>(strsOf ds).bind fun ss=>if (ss.all fun z=>decide (z.length<=sizeLine))=true then some (.bl (ss.any isT),st) else none
 | _,_=>none
def zl5(hc:X.calm=true):zdf X (.builtin "any") anyT:=by
 rintro pins s σ H xs us Q I r ⟨ds,st,io,d,st',R,S,e,k⟩;unfold anyT at e
 split at e
 . rename_i n;obtain⟨ts,e0,e⟩:=zad e;obtain⟨ss,e1,e⟩:=zad e;obtain⟨hall,e⟩:=zam e;cases e;obtain⟨v,rfl,p,rfl,hp⟩:=R.one;obtain⟨u,rfl,ru⟩:=r.one;cases ru;obtain⟨ys,hx,r1⟩:=zaZ S hp e0;obtain⟨its,rv,pl,hz⟩:=I.list hx;have hs:=zgG r1 rv e1;have hlt:p < s.heap.objs.size:=by
     obtain⟨o,_,e,_⟩:=pl;exact Aj e
   have hzz:∀ z∈ss,z.length<=sizeLine:=fun z hz=>of_decide_eq_true (List.all_eq_true.mp hall z hz);refine Ff F.kind_any F.plain_any F.entry_any (F.args_any1 _) (by
     unfold Builtin.«any»;refine Aa (m:=oneArg "any" _) (Ad (Aa (CS pl.isList (Ad ⟨Bv zli _,?_⟩))));refine zqW (I.ok.hd hc) (As hlt) ss 0 _ (by simpa using hs) hzz ⟨_,Am _ rfl,rfl,rfl⟩ (pl.keeps fun b o e=>Ac _ e).isList fun h' tk kk=>?_;exact⟨.bl _,H,I.kept (t':=tk) fun b o q=>kk b o (As (Aj q)) (Ac _ q),rfl,k.now S rfl⟩)
 . cases e
end
def zdL{κ α:Type}[DecidableEq κ](kvs:List (κ×α))(q:κ):List (κ×α):=kvs.eraseIdx (kvs.findIdx fun kv=>decide (kv.1=q))
def zd2{α β:Type}{R:α->β->Prop}:∀ {l:List α} {m:List β} (j:Nat),Paired R l m->Paired R (l.eraseIdx j) (m.eraseIdx j):=by
 intro l m j h
 induction h generalizing j with
 | nil=>exact .nil
 | cons z t ih =>
   cases j with
   | zero=>exact t
   | succ j=>exact .cons z (ih j)
def zf0{κ α β:Type}[DecidableEq κ]{R:κ×α->κ×β->Prop}(hR:∀ p q,R p q->p.1=q.1){l:List (κ×α)}{m:List (κ×β)}(q:κ)(h:Paired R l m):(l.findIdx fun kv=>decide (kv.1=q))=m.findIdx fun kv=>decide (kv.1=q):=by
 induction h with
 | nil=>rfl
 | @cons a b l m z t ih=>rw[Cr,Cr,hR _ _ z,ih]
def zec{α β:Type}(f:α->β):∀ (l:List α) (k:Nat),(l.map f).eraseIdx k=(l.eraseIdx k).map f
 | [],_=>rfl
 | _::_,0=>rfl
 | a::l,k+1=>by
   show f a::(l.map f).eraseIdx k=f a::(l.eraseIdx k).map f;rw[zec f l k]
def zqm{κ α:Type}[DecidableEq κ]{k:κ}{p:α}:∀ {xs:List (κ×α)} {j:Nat},(xs.map (·.1)).Nodup->xs[j]?=some (k,p)->(xs.findIdx fun kv=>decide (kv.1=k))=j
 | [],j,_,h=>by simp at h
 | x::xs,0,_,h=>by
   have h:x=(k,p):=by simpa using h
   rw[Cr,h,decide_eq_true rfl];rfl
 | x::xs,j+1,hn,h=>by
   have h:xs[j]?=some (k,p):=by simpa using h
   rw[Av,Da] at hn;have hne:¬ x.1=k:=fun e=>hn.1 (List.mem_map.mpr ⟨(k,p),A3 h,e.symm⟩);rw[Cr,decide_eq_false hne,zqm hn.2 h];rfl
section
variable {prog:Program} {w:World} {A:Around} {E:Value->Shared->Prop} {s:Shared} {K:Type} [DecidableEq K] {knd:HeapKind prog w K}
def ztC{d a:Addr}{xs:List (K×Addr×Value)}{k:K}{Q:Option DictEntry->Shared->Prop}(hu:knd.room A)(hkey:knd.is s.heap k a)(hm:s.heap.DictOfH knd d xs)(hz:xs.length<=sizeLine)(hin:∃ (j:Nat) (p:Addr×Value),xs[j]?=some (k,p))
   (hQ:∀ (j:Nat) (p:Addr×Value) h',xs[j]?=some (k,p)->h'.DictOfH knd d (xs.eraseIdx j)->BC d s.heap h'->Q (some ⟨knd.hash k,.ref p.1,p.2⟩) { s with heap:=h',toks:=s.toks+knd.draws k }) :
   wpAny (model prog w) A (Builtin.Dict.takeOut d (.ref a)) Q E s:=by
 obtain⟨o,es,ep,ho,hc,hd,he,his,hn⟩:=hm;have hes:es.size<=sizeLine:=by have e:=size_of_entries he;omega
 unfold Builtin.Dict.takeOut
 try with_reducible refine AK ?_
 refine Aa (knd.pyHash hu hkey (Aa (ES (s:={ s with toks:=s.toks+knd.draws k }) hu hkey ho hd he his hn (fun hno=>?_) fun j p hj=>?_)))
 . obtain⟨j,p,hj⟩:=hin;exact absurd hj (hno j p)
 . refine Aa (B5 (s:={ s with toks:=s.toks+knd.draws k }) ho hd ?_);rw[entry_at he j,hj];refine Aa (wpAny_updateDictKeys (hz:=hes) (s:={ s with toks:=s.toks+knd.draws k }) ho hd (Ad (hQ j p _ hj ⟨_,_,ep+1,BF _ ho (Obj.isFreed_of_dict (EG hd _)),hc.mapDictKeys _,EG hd _,?_,?_,?_⟩ (BQ ..))))
   . have e1:(es.eraseIdxIfInBounds j).toList=es.toList.eraseIdx j:=by obtain⟨l⟩:=es;simp
     rw[e1,he,zec]
   . intro x hx;exact knd.keeps (his x (List.mem_of_mem_eraseIdx hx)) ho hd (BQ ..)
   . rw[<-zec];exact hn.sublist (List.eraseIdx_sublist _ _)
end
section
variable {X:Cx} {K:Ab} {H:Hp} {io:List Addr} {st st':Sto} {pins:List (Addr×Obj)} {σ:L2.St} {s:Shared} {m mk:ME} {e:Expr} {pos:Pos}
def zoK{kvs:List (List Key×V)}{xs:List (List Key×Addr×Value)}{k:List Key}{v:V}(r:KT H kvs xs)(l:valV kvs k=some v):∃ (j:Nat) (p:Addr×Value),xs[j]?=some (k,p):=by
 have h:=r.val k;rw[l] at h
 cases ha:atKey xs k with
 | none=>rw[ha] at h;exact h.elim
 | some p =>
   unfold atKey at ha;obtain⟨x,hx,hp⟩:=zag ha;have hk:x.1=k:=by have h0:=List.find?_some hx;simpa using h0
   obtain⟨j,hj,e⟩:=Dl (DN hx);exact⟨j,x.2,by rw[Ah hj,e,<-hk]⟩
end
end L2.MP
namespace L2.MP
section
open PySem PySem.Spec PyProof.Rows PySem.Builtin PySem.Builtin.Str
variable {prog:Program} {w:World} {A:Around} {E:Value->Shared->Prop} {s:Shared} {z y:Str} {t u:Tok} {Q:Value->Shared->Prop}
end
section
open PySem PySem.Spec PyProof.Rows
variable {X:Cx} {K:Ab} {H:Hp} {io:List Addr} {st st':Sto} {a b c e:Expr} {es:List Expr} {ma mb mc m:ME} {mm:MA} {pos:Pos}
end
end L2.MP
namespace L2.MP
open PySem
theorem zow{c:MT}{m n:ME}{ρ:Rho}{st:Sto}:mIte c m n ρ st=(c ρ st).bind fun p=>if p.1=true then m ρ p.2 else n ρ p.2:=rfl
def zqd{W:Wk}{g:MG}{m:MS}{d r:D}{ds:List D}{ρ ρ1:Rho}{st s1 s2:Sto}(wk:walked W st=true)(e1:g d ρ st=some (ρ1,s1))(e2:m ρ1 s1=some (.rt r,s2)):zft W g m (d::ds) ρ st=some (.rt r,s2):=by
 unfold zft;rw[if_pos wk,e1];simp only[Ae,e2]
def zqe{W:Wk}{g:MG}{m:MS}{d:D}{ds:List D}{ρ ρ1 ρ2:Rho}{st s1 s2:Sto}(wk:walked W st=true)(e1:g d ρ st=some (ρ1,s1))(e2:m ρ1 s1=some (.nx ρ2,s2)):zft W g m (d::ds) ρ st=zft W g m ds ρ2 s2:=by
 conv=>lhs;unfold zft
 rw[if_pos wk,e1];simp only[Ae,e2]
end L2.MP
namespace L2.MP
open PySem PySem.Spec PyProof.Rows
@[irreducible] def JSs (X:Cx) (s:List Stmt) (m:MS):Prop:=SSs X s m
@[irreducible] def JS (X:Cx) (s:Stmt) (m:MS):Prop:=SS X s m
@[irreducible] def JA (X:Cx) (es:List Expr) (m:MA):Prop:=SA X es m
section
variable {X:Cx} {e a b c:Expr} {es:List Expr} {st1 st2:Stmt} {rest body orelse:List Stmt} {pos:Pos} {m ma mb mc:ME} {mt mu:MT} {mm:MA} {ms mq mr:MS} {mg:MG} {mi:MI}
def JSs.out(h:JSs X body ms):SSs X body ms:=by unfold JSs at h;exact h
def JSs.mk(h:SSs X body ms):JSs X body ms:=by unfold JSs;exact h
def JS.out(h:JS X st1 ms):SS X st1 ms:=by unfold JS at h;exact h
def JS.mk(h:SS X st1 ms):JS X st1 ms:=by unfold JS;exact h
def JA.out(h:JA X es mm):SA X es mm:=by unfold JA at h;exact h
def JA.mk(h:SA X es mm):JA X es mm:=by unfold JA;exact h
def zbG:JSs X [] zdm:=.mk zoU
def zal(h:JS X st1 ms):JSs X [st1] ms:=.mk (zoT h.out)
def zah(h:JS X st1 ms)(h2:JSs X rest mq):JSs X (st1::rest) (mSeq ms mq):=.mk (zmU h.out h2.out)
def zgf(hc:SB X c mt)(h1:JSs X body ms)(h2:JSs X orelse mq):JS X (.If c body orelse pos) (mIf mt ms mq):=.mk (ztO hc h1.out h2.out)
def zc9{tg iter:Expr}(hp:PassesOwn (model X.prog X.w) X.A X.env X.xe)(hc:X.calm=true)(hi:SI X tg iter mi)(hg:SG X tg mg)(hb:JSs X body ms)(hs:∀ x,foldedSetIterable iter X.env x=pure x:=by intro _;rfl):JS X (.For tg iter body [] pos) (mFor mi mg ms):=.mk (zrt hp hc hi hg hb.out hs)
def zjX{n:Nat}(hp:PassesOwn (model X.prog X.w) X.A X.env X.xe)(hc:SB X c mt)(hb:JSs X body ms):JS X (.While c body [] pos) (mWhF mt ms n):=.mk (zmV hp hc hb.out)
def zdq:JA X [] mNil:=.mk zai
def zaq(ha:SE X e m)(hr:JA X es mm)(hs:∀ q,starEach (e::q) X.env=(false,eval e X.env)::starEach q X.env:=by intro _;rfl):JA X (e::es) (zae m mm):=.mk (zaa ha hr.out (hs _))
end
section
variable {X:Cx} {K:Ab} {H:Hp} {io:List Addr} {st st':Sto} {a b c e o:Expr} {es:List Expr} {ma mb mc m:ME} {mm:MA} {pos apos cpos:Pos}
def truD:D->Sto->Option Bool
 | .bl b,_=>some b
 | .non,_=>some false
 | .int i,_=>some (i != 0)
 | .tup ds,_=>some (!ds.isEmpty)
 | .ref n,st=>(zbA st n).map fun ds=>!ds.isEmpty
 | _,_=>none
def mTru(m:ME):MT:=fun ρ st=>(m ρ st).bind fun (x,s1)=>(truD x s1).map fun b=>(b,s1)
def zfZ{xs:List V}{ds:List D}(r:Reps K H io xs ds):(!xs.isEmpty)=!ds.isEmpty:=by
 have:=r.length
 cases xs <;> cases ds <;> simp_all
def zrH(h:SE X a m)(he:∀ whole,isTrue a X.env whole=(do let v <-whole;standAt a.pos;holding [v] (truthy v)):=by intro _;rfl):SB X a (mTru m) :=
 PT.imp (zjs h he) <| by
   rintro σ H Q ⟨ρ,st,io,b,st',E,S,e,k⟩;obtain⟨⟨x,s1⟩,e1,e⟩:=zad e;obtain⟨b',e2,e⟩:=zag e;cases e;refine⟨ρ,st,io,x,st',E,S,e1,fun v H' ka X' S' R'=>⟨b,?_,k H' ka X' S'⟩⟩;unfold truD at e2
   split at e2
   . cases e2
     cases (show v=_ from R')
     exact rfl
   . cases e2
     cases (show v=_ from R')
     exact rfl
   . cases e2
     cases (show v=_ from R')
     exact rfl
   . cases e2;obtain⟨p,xs,rfl,hH,r⟩:=R';exact .inr (.inl ⟨xs,.inl (.inl hH),(zfZ r).symm⟩)
   . obtain⟨ds,e3,e2⟩:=zag e2;cases e2;obtain⟨p,rfl,hp⟩:=R';obtain⟨ys,hx,r1⟩:=zaZ S' hp e3;exact .inl ⟨ys,hx,(zfZ r1).symm⟩
   . cases e2
theorem zqS{ρ:Rho}:mTru m ρ st=(m ρ st).bind fun p=>(truD p.1 p.2).map fun b=>(b,p.2):=rfl
end
section
variable {prog:Program} {w:World} {A:Around}
def zfG(hh:A.handled=none)(it d:Addr)(hne:d≠it){o:Obj}{es:Array DictEntry}{ep:Nat}(dd:o.data=.dict es ep) :
   Walks prog w A it [it,d] [it] es.size (fun i v=>∃ en,es[i]?=some en/\v=en.key) (fun i h=>h.IsKeyIter it d i es.size ep/\h.get? d=some o) where
 sub:=fun b hb=>by simp at hb;simp[hb]
 frame:=fun _ _ _ st hk=>⟨st.1.at fun o e=>hk it (by simp) o e,hk d (by simp) o st.2⟩
 item:=fun i s Q E hi st hQ=>by
   have hx:es[i]?=some es[i]:=Array.getElem?_eq_getElem hi;refine zhO st.1 st.2 dd hx fun h' st' sb=>?_;exact hQ _ h' s.toks ⟨_,hx,rfl⟩ ⟨st',(sb.2 d hne).trans st.2⟩ fun b ob hb e=>(sb.2 b (fun z=>hb (by simp[z]))).trans e
 done:=fun s Q E st hQ=>zhN hh st.1 st.2 dd (by simp) fun h' eb=>hQ h' s.toks fun b ob hb e=>eb b ob (fun z=>hb (by simp[z])) e
 self:=fun _ _ _ _ st hQ=>EF st.1 hQ
def zmX{d:Addr}{o:Obj}{es:Array DictEntry}{ep:Nat}(dd:o.data=.dict es ep)(hd:(d==sysModules)=false)(ty:∀ s:Shared,s.heap.get? d=some o->s.TypeIs (.ref d) "dict") :
   PySem.W.KdlSrc prog w "dict" d d es.size (fun i v=>∃ en,es[i]?=some en/\v=en.key) (fun h=>h.get? d=some o) where
 type:=ty
 there:=fun _ g=>⟨Aj g,Aj g⟩
 keep:=fun _ _ g hk=>hk d (.inl rfl) o g
 notList:=by decide
 notTuple:=by decide
 hint:=fun _ _ s _ g hq=>PySem.W.kdl_hint_dict (ty s g) hq
 iter:=fun A' s hh g=>⟨_,_,fun _ _ hq=>zfA (ty s g) hd g dd hq,zfG hh _ d (As (Aj g)) dd,⟨⟨_,Am _ rfl,rfl,rfl⟩,Ac _ g⟩⟩
end
section
variable {X:Cx} {K:Ab} {H:Hp} {io:List Addr} {st st':Sto}
def zfx{K:Ab}{H:Hp}{io:List Addr}:∀ {vs:List Value} {ps:List (List Key×V)} {kvs:List (List Key×D)},KR (List Key) K H io ps kvs->vs.length=ps.length->(∀ (j:Nat) (v:Value) (p:List Key×V),vs[j]?=some v->ps[j]?=some p->∃ b,v=.ref b/\H b=some (.tup (p.1.map kV)))->∃ ys,Vals ys vs/\Reps K H io ys (zdA kvs)
 | [],_,_,.nil,_,_=>⟨[],.nil,rfl⟩
 | [],_::_,_,.cons _ _,hl,_=>by simp at hl
 | v::vs,_,_,.nil,hl,_=>by simp at hl
 | v::vs,p::ps,q::kvs,.cons h t,hl,hv=>by
   obtain⟨b,rfl,hb⟩:=hv 0 v p rfl rfl;obtain⟨ys,r1,r2⟩:=zfx (vs:=vs) t (by simpa using hl) fun j v p e1 e2=>hv (j+1) v p (by simpa using e1) (by simpa using e2);refine⟨.ref b::ys,.cons rfl r1,Reps.cons ⟨b,_,rfl,hb,?_⟩ r2⟩;rw[h.1];exact zfy _
def znW:GN
 | [.ref n],st=>match st[n]? with
   | some (.dt kvs)=>if fits kvs.length=true then some (.ref st.length,st++[.lst (zdA kvs)]) else none
   | _=>none
 | _,_=>none
def ziI(hc:X.calm=true):zdf X (.type "list") znW:=by
 rintro pins s σ H xs us Q I r ⟨ds,st,io,d,st',R,S,e,k⟩;unfold znW at e
 split at e
 . rename_i n
   split at e
   . rename_i kvs en;obtain⟨hf,e⟩:=zam e;cases e;obtain⟨v,rfl,p,rfl,hp⟩:=R.one;obtain⟨u,rfl,ru⟩:=r.one;cases ru;obtain⟨ps,hH,rk⟩:=S.ob n p _ hp en;obtain⟨t1,t2,hs⟩:=zhe I (.inr ⟨ps,.inl hH⟩);obtain⟨z,y,xs,r0,o,es,ep,g,ex,dd,et,nd⟩:=I.hok p _ hH;have x:=I.hok p _ hH;have fz:zcW X.prog X.w H s.heap p (.frz o (.dT ps)):=⟨g,x⟩
     obtain⟨g',hl,ent⟩:=zed fz dd;have hsz:es.size<=sizeLine:=by
       rw[hl,KR.length rk];exact of_decide_eq_true hf
     refine PySem.W.kdl_call (zmX (prog:=X.prog) (w:=X.w) dd hs (fun s' g'=>?_)) (I.ok.hd hc) g hsz fun h' tk acc c' hk hat hacc=>?_
     . obtain⟨o',ho',hc'⟩:=t1;rw[g] at ho';cases ho';exact⟨o,g',hc'⟩
     . obtain⟨ys,rv,rr⟩:=zfx (vs:=acc.toList) rk (by rw[AY,hacc.1,hl]) fun j v q e1 e2=>by
         obtain⟨en',h1,h2⟩:=hacc.2 j v (by rw[<-BH];exact e1);obtain⟨en2,b,h3,h4,h5,_⟩:=ent j q.1 q.2 e2;rw[h1] at h3;cases h3;exact⟨b,by rw[h2,h4],h5⟩
       have hyl:ys.length<=sizeLine:=by rw[rv.length,AY,hacc.1];exact hsz
       refine⟨.ref s.heap.objs.size,upd H s.heap.objs.size (.lst ys),I.laid (t':=tk) (fun b o q=>hk b o q) (Af _) ⟨hyl,acc.toList,c',rv,by simpa using hat⟩,rfl,?_⟩;exact k.lst S rr (I.hok.fresh (Af _))
   . cases e
 . cases e
def zrb:GN:=orN zsy znW
def zkv(hc:X.calm=true):zdf X (.type "list") zrb:=zdu (zkw hc) (ziI hc)
end
section
variable {X:Cx} {K:Ab} {H:Hp} {io:List Addr} {st st':Sto} {body:List Stmt} {ms:MS} {pos:Pos}
def zq1:G2:=orG zmm fun x y st=>match x,y with
 | .bl a,.bl b=>some (.bl (a != b),st)
 | _,_=>none
def znA:OpM X (compareOp .IsNot) zq1:=znz zjz (by
 rintro pins s σ H x y v u Q I rx ry ⟨dx,dy,st,io,d,st',Rx,Ry,S,e,k⟩
 (try dsimp only at e)
 split at e
 . cases e
   cases (show x=_ from Rx)
   cases (show y=_ from Ry)
   cases rx;cases ry;exact PyProof.Rows.isnot_bool ⟨.bl _,H,I,rfl,k.now S rfl⟩
 . cases e)
end
structure Kl(H H':Hp):Prop where
 tup:∀ a xs,H a=some (.tup xs)->H' a=some (.tup xs)
 lst:∀ a o xs,H a=some (.frz o (.lst xs))->H' a=some (.frz o (.lst xs))
section
variable {K:Ab} {H H':Hp} {io:List Addr}
def SqF.kl{a:Addr}{xs:List V}(T:Kl H H')(h:SqF K H a xs):SqF K H' a xs:=by
 rcases h with ⟨o,h⟩ | h
 . exact .inl ⟨o,T.lst _ _ _ h⟩
 . exact .inr h
mutual
def Rep.thawn{K:Ab}{H H':Hp}{io:List Addr}(T:Kl H H'):∀ {v:V} {d:D},Rep K H io v d->Rep K H' io v d
 | _,.non,h=>h
 | _,.bl _,h=>h
 | _,.int _,h=>h
 | _,.str _,h=>h
 | _,.tup ds,h=>by
   obtain⟨a,xs,e,q,r⟩:=h;exact⟨a,xs,e,T.tup a xs q,Reps.thawn T r⟩
 | _,.ref n,h=>h
 | _,.kl ds,h=>by
   obtain⟨a,xs,e,q,r⟩:=h;exact⟨a,xs,e,q.kl T,Reps.thawn T r⟩
 | _,.fn _,h=>h
def Reps.thawn{K:Ab}{H H':Hp}{io:List Addr}(T:Kl H H'):∀ {xs:List V} {ds:List D},Reps K H io xs ds->Reps K H' io xs ds
 | _,[],h=>h
 | _,d::ds,h=>by
   obtain⟨y,ys,e,r,rs⟩:=h;exact⟨y,ys,e,Rep.thawn T r,Reps.thawn T rs⟩
end
def KR.thawn{κ:Type}{ps:List (κ×V)}{kvs:List (κ×D)}(T:Kl H H')(h:KR κ K H io ps kvs):KR κ K H' io ps kvs:=Paired.mapP h fun _ _ z=>⟨z.1,Rep.thawn T z.2⟩
def OR.thawn{a:Addr}{o:O}(T:Kl H H')(e:H' a=H a)(h:OR K H io a o):OR K H' io a o:=by
 cases o with
 | lst ds=>obtain⟨xs,q,r⟩:=h;exact⟨xs,e.trans q,Reps.thawn T r⟩
 | fz ds=>obtain⟨ob,xs,q,r⟩:=h;exact⟨ob,xs,e.trans q,Reps.thawn T r⟩
 | dk kvs=>obtain⟨xs,q,r⟩:=h;exact⟨xs,e.trans q,KR.thawn T r⟩
 | dt kvs=>obtain⟨xs,q,r⟩:=h;exact⟨xs,e.trans q,KR.thawn T r⟩
 | fk kvs=>obtain⟨ob,xs,q,r⟩:=h;exact⟨ob,xs,e.trans q,KR.thawn T r⟩
 | ft kvs=>obtain⟨ob,xs,q,r⟩:=h;exact⟨ob,xs,e.trans q,KR.thawn T r⟩
 | ob C fs=>obtain⟨dx,xs,q,r⟩:=h;exact⟨dx,xs,e.trans q,KR.thawn T r⟩
 | sz n=>exact e.trans h
end
section
variable {X:Cx} {pins:List (Addr×Obj)} {σ:List (Option V)} {H:Hp} {s:Shared}
def Inv.thaw{d:Addr}{o:Obj}{ps:List (List Key×V)}(I:Inv X pins σ H s)(hd:H d=some (.frz o (.dT ps)))(n0:∀ o u,X.H₀ d≠some (.frz o u)):Inv X pins σ (upd H d (.dT ps)) s:=by
 have ne:∀ {b:Addr} {v:HO},H b=some v->v≠.frz o (.dT ps)->b≠d:=fun {b v} q nv z=>by
   subst z;rw[hd] at q;exact nv (Ay q).symm
 have nn:∀ {b:Addr},H b=none->b≠d:=fun {b} q z=>by
   rw[z,hd] at q;cases q
 refine⟨I.ok,I.os,I.bare,⟨I.base.keep,I.base.slot,fun b v q n hx=>?_,I.base.there,fun b xs q=>?_,fun b v u q=>?_,fun b xs q=>?_⟩,I.loc,I.cell,?_,fun x c q=>?_,fun p hp=>?_,fun b v q=>?_,I.len⟩
 . have:=I.base.free b v q n hx;rw[zat (nn this)];exact this
 . have:=I.base.tups b xs q;rw[zat (ne this (by simp))];exact this
 . have h:=I.base.frzs b v u q;have:b≠d:=fun z=>n0 v u (by rw[<-z];exact q);rw[zat this];exact h
 . obtain⟨m,h⟩:=I.base.tbls b xs q;exact⟨m,by rw[zat (ne h (by simp))];exact h⟩
 . rw[zat (nn I.free)];exact I.free
 . rw[zat (nn (I.freeC x c q))];exact I.freeC x c q
 . obtain⟨a,b,c⟩:=I.pin p hp;exact⟨a,by rw[zat (nn b)];exact b,c⟩
 . by_cases hb:b=d
   . subst hb;rw[zbi] at q;cases q;exact (I.hok b _ hd).2.stay (fun c x _ y=>y) (fun c y=>by rw[zat (ne y (by simp))];exact y) fun c xs y=>by rw[zat (ne y (by simp))];exact y
   . rw[zat hb] at q;exact (I.hok b v q).stay (fun c x _ y=>y) (fun c y=>by rw[zat (ne y (by simp))];exact y) fun c xs y=>by rw[zat (ne y (by simp))];exact y
end
def zmR(n:Nat)(st0 st:Sto):Option Sto:=match st0[n]? with
 | some (.dt _)=>match st[n]? with
   | some (.ft kvs)=>some (st.set n (.dt kvs))
   | _=>none
 | _=>none
def zqa(i:Nat)(m:ME):ME:=fun ρ st=>match ρ[i]? with
 | some (some (.ref n))=>(m ρ st).bind fun (d,s)=>(zmR n st s).map fun t=>(d,t)
 | _=>none
section
variable {X:Cx} {e:Expr} {m:ME} {i:Nat}
def zoN{K:Ab}{H H1:Hp}{io ka:List Addr}{st s1:Sto}{n:Nat}{p:Addr}{o:Obj}{ps ps0:List (List Key×V)}{kvs:List (List Key×D)}(S:StR K H io st)(X1:Ext io ka H H1)(S1:StR K H1 (io++ka) s1)
   (hn:io[n]?=some p) (h0:H p=some (.dT ps0)) (en:s1[n]?=some (.ft kvs)) (hp:H1 p=some (.frz o (.dT ps))) (r:KR (List Key) K H1 (io++ka) ps kvs) :
   Kl H1 (upd H1 p (.dT ps))/\Ext io ka H (upd H1 p (.dT ps))/\StR K (upd H1 p (.dT ps)) (io++ka) (s1.set n (.dt kvs)):=by
 have ne:∀ {b:Addr} {v:HO},H1 b=some v->v≠.frz o (.dT ps)->b≠p:=fun {b v} q nv z=>by
   subst z;rw[hp] at q;exact nv (Ay q).symm
 have T:Kl H1 (upd H1 p (.dT ps)):=⟨fun a xs q=>by rw[zat (ne q (by simp))];exact q,fun a v xs q=>by rw[zat (ne q (by simp))];exact q⟩
 have hn':(io++ka)[n]?=some p:=by rw[Al (List.getElem?_eq_some_iff.mp hn).1];exact hn
 refine⟨T,⟨fun b u h nb=>?_,X1.fresh,fun b v u h=>?_⟩,by rw[Bj];exact S1.len,S1.nd,fun k a ob h1 h2=>?_⟩
 . rw[zat (fun z=>nb (by rw[z];exact A3 hn))];exact X1.keep b u h nb
 . have:b≠p:=fun z=>by
     rw[z,h0] at h;cases h
   rw[zat this];exact X1.frz b v u h
 . by_cases hk:k=n
   . subst hk;rw[hn'] at h1
     cases (Ay h1)
     rw[CU,if_pos rfl] at h2
     split at h2
     . cases (Ay h2)
       exact⟨ps,zbi,KR.thawn T r⟩
     . cases h2
   . rw[Ai (fun z=>hk z.symm)] at h2;have hap:a≠p:=fun z=>by
       subst z;exact hk ((Fu (List.getElem?_eq_some_iff.mp h1).1 S1.nd).mp (h1.trans hn'.symm))
     exact OR.thawn T (zat hap) (S1.ob k a ob h1 h2)
def zo6(h:SE X e m):SE X e (zqa i m):=by
 rintro pins s σ H Q I ⟨ρ,st,io,d,st',E,S,e0,k⟩;unfold zqa at e0
 split at e0
 . rename_i n _;obtain⟨⟨d1,s1⟩,e1,e0⟩:=zad e0;obtain⟨t,e2,e0⟩:=zag e0;cases e0;unfold zmR at e2
   split at e2
   . rename_i kvs0 en0
     split at e2
     . rename_i kvs en;cases e2;refine thn (h pins s σ H (fun v H'=>∃ ka,Ext io ka H H'/\StR X.K H' (io++ka) s1/\Rep X.K H' (io++ka) v d) I ⟨ρ,st,io,d,s1,E,S,e1,fun v1 H1 k1 X1 S1 R1=>⟨k1,X1,S1,R1⟩⟩) ?_;rintro v s2 ⟨x,H1,I1,r1,k1,X1,S1,R1⟩;have hl:n < io.length:=by rw[S.len];exact (List.getElem?_eq_some_iff.mp en0).1
       obtain⟨ps0,h0,_⟩:=S.ob n _ _ (Ah hl) en0;have hn':(io++k1)[n]?=some io[n]:=by rw[Al hl];exact Ah hl
       obtain⟨o,ps,hp,r⟩:=S1.ob n _ _ hn' en;obtain⟨T,X2,S2⟩:=zoN S X1 S1 (Ah hl) h0 en hp r;refine⟨x,_,Inv.thaw I1 hp (fun o u z=>?_),r1,k _ _ _ X2 S2 (Rep.thawn T R1)⟩;have:=I.base.frzs _ _ _ z;rw[h0] at this;cases this
     . cases e2
   . cases e2
 . cases e0
end
section
variable {prog:Program} {w:World} {A:Around} {E:Value->Shared->Prop} {s:Shared}
def zhq{l:Addr}{vs:List Value}{R:Value->Shared->Prop}(ht:IsTup s.heap l vs.toArray)(hz:vs.length<=sizeLine)
   (go:∀ D h',(∀ b o,s.heap.get? b=some o->h'.get? b=some o)->s.heap.get? D=none->h'.get? D=some (seqObj "list" vs.toArray 0)->wpAny (model prog w) A.in1.in1 (Builtin.«list.sort» ⟨[.ref D],[]⟩) (fun f s'=>f=.done (.ret .none)/\R (.ref D) s') (fun _ _=>False) { s with heap:=h' }) :
   wpAny (model prog w) A (call (.builtin "sorted") [.ref l]) R E s:=by
 obtain⟨o,g,c,n,d⟩:=ht;refine DM kind_sorted plain_sorted entry_sorted (args_sorted1 _) ?_;unfold Builtin.«sorted»;refine Aa (m:=checkCount "sorted" 1 1 _) (Ad (Aa (PySem.wpAny_collect_seq l (.inr rfl) g c d (fun h1 k1=>Aa (DE ?_ (by simpa using hz))) (by simpa using hz))));have g0:(h1.push (seqObj "list" vs.toArray 0)).get? h1.objs.size=some (seqObj "list" vs.toArray 0):=Am _ rfl;have fr:s.heap.get? h1.objs.size=none:=by
   cases e:s.heap.get? h1.objs.size with
   | none=>rfl
   | some u=>exact absurd (Aj (k1 _ _ e)) (AN _)
 refine Aa (AK (Bc slot_list_sort ⟨_,g0,rfl⟩ entry_list_sort (Bs (go _ _ (fun b u e=>Ac _ (k1 b u e)) fr g0) (fun f s' ⟨e,r⟩=>?_) fun _ _ x=>x.elim) (args_list_sort _)));subst e;exact⟨_,rfl,Ad ⟨_,rfl,r⟩⟩
def zm1{at_:Addr}{vs:List Value}{k:Nat}{R:PySem.Fin->Shared->Prop}(hv:vs.length < 2)(g0:s.heap.get? at_=some (seqObj "list" vs.toArray k))(fin:R (.done (.ret .none)) { s with heap:=sortedHeap s.heap at_ vs vs.toArray }) :
   wpAny (model prog w) A (Builtin.«list.sort» ⟨[.ref at_],[]⟩) R E s:=by
 have lt0:=Aj g0;have hz:vs.length<=sizeLine:=Az (Cs hv) (by decide);obtain⟨ep,g1⟩:∃ ep,(s.heap.update at_ (By fun _=>(#[]:Array Value))).get? at_=some (seqObj "list" #[] ep):=⟨_,get?_update_seq g0 fun _=>#[]⟩
 have g2:(((s.heap.update at_ (By fun _=>(#[]:Array Value))).push (seqObj "tuple" vs.toArray 0)).push (seqObj "list" #[] 0)).get? at_=some (seqObj "list" #[] ep):=Ac _ (Ac _ g1);rw[list_sort_plain];refine Aa (listItems_at g0 rfl (Aa (DD g0 rfl (Aa (Ek g1 rfl (Aa (Es (Aa (DE (AK ?_))) (by simpa using hz))))) (by simpa using hz))));show wpAny (model prog w) A _ R E { s with heap:=((s.heap.update at_ (By fun _=>(#[]:Array Value))).push (seqObj "tuple" vs.toArray 0)).push (seqObj "list" #[] 0) };have two:vs.toArray.size < 2:=by simpa using hv
 have same:(arrOf (GH general' (vs.toArray.zip vs.toArray) #[] 7 none)).map (·.2)=vs.toArray:=by
   show ((vs.toArray.zip vs.toArray).map (·.2))=vs.toArray;simp;clear two g2 g1 g0 hz fin hv
   induction vs with
   | nil=>rfl
   | cons a r ih=>simpa using ih
 dsimp only;rw[if_pos two,if_pos two];refine Aa (Ad ?_);rw[F8];refine Aa (Ad ?_);dsimp only;rw[same];refine Aa (Ek g2 rfl (Aa (DD g2 rfl ?_ (hsz2:=by simp;omega))));simp only[bne_self_eq_false,AX,if_false];exact Ad fin
end
section
variable {X:Cx} {pins:List (Addr×Obj)} {σ:L2.St} {H:Hp} {s:Shared}
def Inv.notL(I:Inv X pins σ H s){D:Addr}(h:s.heap.get? D=none):D≠X.env.locals/\X.base.get? D=none/\H D=none:=by
 refine⟨fun z=>?_,?_,?_⟩
 . obtain⟨m,⟨o,_,_,e,_⟩,_⟩:=I.loc;rw[<-z,h] at e;cases e
 . cases e:X.base.get? D with
   | none=>rfl
   | some u=>rw[(I.bs D u e).1] at h;cases h
 . cases e:H D with
   | none=>rfl
   | some o =>
     obtain⟨u,hu⟩:=zhE (I.hok D o e);rw[h] at hu;cases hu
def zm0{xs:List V}{its:List Value}{D:Addr}{h':Heap}{Q:VK}(I:Inv X pins σ H s)(rv:Vals xs its)(h2:xs.length < 2)(k:∀ b o,s.heap.get? b=some o->h'.get? b=some o)(hD:s.heap.get? D=none)(gD:h'.get? D=some (seqObj "list" its.toArray 0))(h:∀ p,H p=none->Q (.ref p) (upd H p (.lst xs))) :
   wpAny (model X.prog X.w) X.A.in1.in1 (Builtin.«list.sort» ⟨[.ref D],[]⟩) (fun f s'=>f=.done (.ret .none)/\EP X pins σ Q (.ref D) s') (fun _ _=>False) { s with heap:=h' }:=by
 have hlen:=rv.length;have hz:xs.length<=sizeLine:=Az (Cs h2) (by decide);refine zm1 (by omega) gD ⟨rfl,?_⟩;obtain⟨n1,n2,n3⟩:=Inv.notL I hD;obtain⟨ep,e⟩:=sortedHeap_at (out:=its.toArray) gD;have kk:∀ b u,s.heap.get? b=some u->(sortedHeap h' D its its.toArray).get? b=some u:=fun b u q=>by
   have hb:b≠D:=fun z=>by rw[z,hD] at q;cases q
   rw[sortedHeap_old hb (Aj (k b u q))];exact k b u q
 have J:Inv X pins σ (upd H D (.lst xs)) { s with heap:=sortedHeap h' D its its.toArray }:=by
   obtain⟨m,F⟩:=I.fr;refine Inv.laidAt (m:=m) I (fun b u _=>kk b u) (fun m' ⟨o,a1,a2,q,a3⟩=>⟨o,a1,a2,kk _ _ q,a3⟩) (let ⟨m',⟨o,_,_,q,_⟩,_⟩:=I.loc;⟨o,kk _ _ q⟩) hD n3 n1 ⟨hz,its,ep,rv,e⟩
 exact⟨.ref D,_,J,rfl,h D n3⟩
def zmZ{xs:List V}{its:List Value}{ts:List (List Int)}{D:Addr}{h0:Heap}{Q:VK}(I:Inv X pins σ H s)(rv:Vals xs its)(T:ziP H xs ts)(h2:2<=ts.length)(h64:ts.length < 64)(k0:∀ b o,s.heap.get? b=some o->h0.get? b=some o)(hsD:s.heap.get? D=none)(gD:h0.get? D=some (seqObj "list" its.toArray 0))
   (h:∀ (q:Array Nat) (p:Addr),q.Perm (BX (AA ts.length))->Srt.Up (rank ts) q ts.length->H p=none->Q (.ref p) (upd H p (.lst (q.toList.map fun i=>xs.getD i .non)))) :
   wpAny (model X.prog X.w) X.A.in1.in1 (Builtin.«list.sort» ⟨[.ref D],[]⟩) (fun f s'=>f=.done (.ret .none)/\EP X pins σ Q (.ref D) s') (fun _ _=>False) { s with heap:=h0 }:=by
 have hlen:its.length=ts.length:=by
   have a:=rv.length;have b:=Bf T;omega
 obtain⟨m,F⟩:=I.fr;have trkL:∀ b,H b≠none->b≠X.env.locals:=fun b hb z=>hb (by rw[z];exact I.free);obtain⟨n1,n2,hHD⟩:=Inv.notL I hsD;have nD:∀ p∈zel X.base s.heap X.env.locals,p.1≠D:=fun p hp z=>by
   have q:=(zg5 (g:=X.base) (h:=s.heap) (L:=X.env.locals) p hp).1;rw[z,hsD] at q;cases q
 refine PySem.W.kat_list_sort (s:={ s with heap:=h0 }) (news:=zel X.base s.heap X.env.locals) (F.kept k0) ((zg5 (g:=X.base) (h:=s.heap) (L:=X.env.locals)).grown k0) gD n1 n2 nD (by omega) (by omega) fun e1 h' F' N'=>?_;have keep:∀ {h2:Heap} {o:Obj},PyProof.Rows.Fr X.base X.env.locals h2 m->News X.base X.env.locals h2 ((D,o)::zel X.base s.heap X.env.locals)->∀ b u,b≠X.env.locals->s.heap.get? b=some u->h2.get? b=some u:=fun {h2 o} F2 N2 b u hb e=>by
   cases q:X.base.get? b with
   | some v =>
     have z:=(I.bs b v q).1;rw[e] at z;cases z;exact F2.keep b _ q
   | none=>exact (N2 (b,u) (Ak _ (zdl hb q e))).1
 have hk:∀ b o,H b≠none->s.heap.get? b=some o->h'.get? b=some o:=fun b o hb e=>keep F' N' b o (trkL b hb) e;obtain⟨fs,k1,k2,k3⟩:=zhd (h':=h') I hk T rv;refine FO (s:={ s with heap:=h' }) (T:=.type "int") k1 (by omega) (fun v hv=>?_) rfl ?_
 . obtain⟨i,t,rfl⟩:=k3 v hv;exact Er rfl
 have ok:=Srt.sort_ok (n:=its.length) (r:=rank ts) (by omega);refine zsO (n:=its.length) (r:=rank ts) (s:={ s with heap:=h' }) (fun i j hi hj C hC=>zqR (s':={ s with heap:=h' }) I hk T rv (by omega) (by omega) C hC) (fun q hq=>?_) ok;refine EC F' N' (Fx nD) fun h2 c F2 N2=>⟨rfl,?_⟩
 have hD2:=(N2 _ An).1;rw[hlen] at hq;have vals:Vals (q.toList.map fun i=>xs.getD i .non) (q.toList.map fun i=>its.getD i Be):=by
   have hmem:∀ i∈q.toList,i < xs.length:=fun i hi=>by
     have:i∈(BX (AA ts.length)).toList:=(Array.perm_iff_toList_perm.mp hq.1).mem_iff.mp hi;have hr:=rv.length;simp at this;omega
   generalize q.toList=ql at hmem
   induction ql with
   | nil=>exact .nil
   | cons i r ih =>
     refine .cons ?_ (ih fun j hj=>hmem j (Ak _ hj));have hi:=hmem i An;obtain⟨u,eu,ru⟩:=rv.get (Ah hi);show RelV (xs.getD i V.non) (its.getD i Be);rw[Ax,Ax,Ah hi,eu];exact ru
 have hql:q.toList.length=ts.length:=by
   have:=(Array.perm_iff_toList_perm.mp hq.1).length_eq;simpa using this
 have J:Inv X pins σ (upd H D (.lst (q.toList.map fun i=>xs.getD i .non))) { s with heap:=h2 } :=
   Inv.laidAt (m:=m) I (keep F2 N2) (fun m' hm'=>by rw[zpS hm' F.ns];exact F2.ns) (let ⟨o,_,_,e,_⟩:=F2.ns;⟨o,e⟩) hsD hHD n1 ⟨by rw[Ag,hql];exact lt64 h64,_,c,vals,hD2⟩
 exact⟨.ref D,_,J,rfl,h q D hq.1 hq.2 hHD⟩
end
section
variable {X:Cx} {K:Ab} {H:Hp} {io:List Addr} {st st':Sto}
def zif{Q:VK}{xs:List V}{ts:List (List Int)}{p:Addr}{q:Array Nat}(S:StR K H io st)(r1:Reps K H io xs (ts.map tupD))(hq:q.Perm (BX (AA ts.length)))(hu:Srt.Up (rank ts) q ts.length)(hf:H p=none)(k:Bh K io H (st++[.lst ((zi7 ts).map tupD)]) (.ref st.length) Q):Q (.ref p) (upd H p (.lst (q.toList.map fun i=>xs.getD i .non))):=by
 have hm:∀ i∈q.toList,i < ts.length:=fun i hi=>by
   have:=(Array.perm_iff_toList_perm.mp hq).mem_iff.mp hi;simpa using this
 have rr:=zfg r1 hm;rw[zeH hq hu] at rr;exact k.lst S rr hf
def zgK:GN
 | [.tup ds],st=>if decide (ds.length < 2)=true then some (.ref st.length,st++[.lst ds]) else (rowsOf ds).bind fun ts=>if (decide (2<=ts.length)&&decide (ts.length < 64))=true then some (.ref st.length,st++[.lst ((zi7 ts).map tupD)]) else none
 | _,_=>none
def zgo:zdf X (.builtin "sorted") zgK:=by
 rintro pins s σ H xs us Q I r ⟨ds,st,io,d,st',R,S,e,k⟩;unfold zgK at e
 split at e
 . rename_i zs;obtain⟨v,rfl,p,ys,rfl,hp,r1⟩:=R.one;obtain⟨u,rfl,ru⟩:=r.one;cases ru;have hx:SqT X.K H p ys:=.inl (.inl hp)
   split at e
   . rename_i hl;cases e;have e2:=r1.length;obtain⟨its,rv,pl,hz⟩:=I.tuple hx;exact zhq pl (by have:=rv.length;omega) fun D h' k0 hD gD=>zm0 I rv (by rw[e2];exact of_decide_eq_true hl) k0 hD gD fun q hf=>k.lst S r1 hf
   . obtain⟨ts,e1,e⟩:=zad e;obtain⟨hl,e⟩:=zam e;cases e;rw[Ao] at hl;obtain⟨T,hd⟩:=zht r1 e1;subst hd;obtain⟨its,rv,pl,hz⟩:=I.tuple hx;refine zhq pl (by have:=rv.length;omega) fun D h' k0 hD gD=>zmZ I rv T (of_decide_eq_true hl.1) (of_decide_eq_true hl.2) k0 hD gD fun q p' hq hu hf=>zif S r1 hq hu hf k
 . cases e
def zfM:GN:=orN zcr zgK
def zeh:zdf X (.builtin "sorted") zfM:=zdu zcS zgo
end
end L2.MP
namespace L2.MP
open PySem PySem.Spec PyProof.Rows PySem.SeqAt PySem.MeetsSeq PySem.MeetsSeq2 PySem.MeetsSeq3
end L2.MP
namespace L2.MP
open PySem L2 PySem.Spec PyProof.Rows
section
variable {K:Ab} {x:Str} {st:Stmt} {f:Addr}
structure FdIn(K:Ab)(x:Str)(st:Stmt)(f:Addr):Prop where
 ex:∃ (oc:Value) (od:Option Addr) (kV dc pm:Value) (an:Option Addr) (cd ct:Value) (sl:Array (Option Value)),K.lookup f=some ⟨oc,od,.func (Bn x x (zcd st) (zbB st) (zaj st) .none kV dc pm an cd ct),sl⟩/\B6 K cd x=true
 ns:AR K mainGlobals x=some (some (.ref f))
 kp:A9 K (.ref f)=true
def zus{oc kV dc pm cd ct:Value}{od an:Option Addr}{sl:Array (Option Value)}(a:AR K mainGlobals x=some (some (.ref f)))(l:K.lookup f=some ⟨oc,od,.func (Bn x x (zcd st) (zbB st) (zaj st) .none kV dc pm an cd ct),sl⟩)(c:B6 K cd x=true)(k:A9 K (.ref f)=true):FdIn K x st f :=
 ⟨⟨oc,od,kV,dc,pm,an,cd,ct,sl,l,c⟩,a,k⟩
def zaW{h:Heap}{mg:Str->Option Value}{ps:List Str}(F:FdIn K x st f)(X:K.In h)(G:h.Ns mainGlobals mg)(b:∀ (kV doc pm:Value) (an:Option Addr) (cdv ct:Value) (us:List Value),us.length=ps.length->bindArgs (Bn x x (zcd st) (zbB st) (zaj st) .none kV doc pm an cdv ct) ⟨us,[]⟩=pure (ps.zip us)):Laid K mg x st ps:=by
 obtain⟨⟨oc,od,kV,dc,pm,an,cd,ct,sl,l,c⟩,a,k⟩:=F;exact⟨_,_,zhf l c k,EL X G a,(zhf l c k).binds b⟩
end
def len1{α:Type}{P:List α->Prop}(h:∀ a,P [a])(l:List α)(e:l.length=1):P l:=by
 rcases l with _ | ⟨a,_ | ⟨b,l⟩⟩
 . cases e
 . exact h a
 . cases e
def len2{α:Type}{P:List α->Prop}(h:∀ a b,P [a,b])(l:List α)(e:l.length=2):P l:=by
 rcases l with _ | ⟨a,l⟩
 . cases e
 . exact len1 (P:=fun l=>P (a::l)) (h a) l (Fg e)
def len3{α:Type}{P:List α->Prop}(h:∀ a b c,P [a,b,c])(l:List α)(e:l.length=3):P l:=by
 rcases l with _ | ⟨a,l⟩
 . cases e
 . exact len2 (P:=fun l=>P (a::l)) (h a) l (Fg e)
def len4{α:Type}{P:List α->Prop}(h:∀ a b c d,P [a,b,c,d])(l:List α)(e:l.length=4):P l:=by
 rcases l with _ | ⟨a,l⟩
 . cases e
 . exact len3 (P:=fun l=>P (a::l)) (h a) l (Fg e)
end L2.MP
namespace L2.MP
open PySem PySem.Spec PyProof.Rows
section
variable {X:Cx} {K:Ab} {H:Hp} {io:List Addr} {st st':Sto}
def Inv.tk{pins:List (Addr×Obj)}{σ:L2.St}{s:Shared}(I:Inv X pins σ H s)(t':Nat):Inv X pins σ H { s with toks:=t' }:=Inv.step (t':=t') (ch:=[]) (g':=s.gens) (d':=s.drawn) I (fun b hb=>absurd hb (by simp)) (fun b u _ _ _ e _=>e) (fun b u _ _ _ e _=>⟨u.slots,e⟩) (fun b u _ e n=>n) (fun b u _ e=>⟨u,e⟩)
   (fun b xs e=>e) (fun b u v e=>e) (fun b ps e=>⟨#[],by rw[e];simp⟩) (fun m h=>h) (fun b u e=>I.hok b u e) I.bare
end
section
variable {X:Cx} {K:Ab} {H:Hp} {io:List Addr} {st st':Sto} {o e value:Expr} {es:List Expr} {m mo mv:ME} {mm:MA} {pos pos' apos:Pos} {C:Addr} {f:Str}
def zbb(f:Str)(d:D):List (Str×D)->List (Str×D)
 | []=>[(f,d)]
 | (g,x)::r=>if g=f then (g,d)::r else (g,x)::zbb f d r
def KR.lookF{f:Str}:∀ {ps:List (Str×V)} {fs:List (Str×D)},KR Str K H io ps fs->(ps.lookup f=none/\fs.lookup f=none)\/∃ v d,ps.lookup f=some v/\fs.lookup f=some d/\Rep K H io v d
 | _,_,.nil=>.inl ⟨rfl,rfl⟩
 | (a,v)::ps,(b,d)::fs,.cons h t=>by
   obtain⟨e,r⟩:=h
   cases (show a=b from e)
   simp only[Ck]
   cases f==a with
   | true=>exact .inr ⟨v,d,rfl,rfl,r⟩
   | false=>exact KR.lookF t
def KR.putF{f:Str}{v:V}{d:D}(r:Rep K H io v d):∀ {ps:List (Str×V)} {fs:List (Str×D)},KR Str K H io ps fs->KR Str K H io (L2.putF f v ps) (zbb f d fs)
 | _,_,.nil=>.cons ⟨rfl,r⟩ .nil
 | (a,x)::ps,(b,y)::fs,.cons h t=>by
   obtain⟨e,q⟩:=h
   cases (show a=b from e)
   unfold L2.putF zbb
   by_cases z:a=f
   . rw[if_pos z,if_pos z];exact .cons ⟨rfl,r⟩ t
   . rw[if_neg z,if_neg z];exact .cons ⟨rfl,q⟩ (KR.putF r t)
def mFld(C:Addr)(f:Str)(m:ME):ME:=fun ρ st=>(m ρ st).bind fun (x,s1)=>match x with
 | .ref n=>match s1[n]? with
   | some (.ob C' fs)=>if decide (C'=C)=true then (fs.lookup f).map fun d=>(d,s1) else none
   | _=>none
 | _=>none
def zcH(hc:Cls X.K C)(hn:zbz X.K C f)(ho:SE X e m)(hb:attributeBase e f X.env (eval e X.env)=eval e X.env:=by rfl):SE X (.Attribute e f pos) (mFld C f m):=PE.imp (zr9 ho hb) <| by
 rintro σ H Q ⟨ρ,st,io,d,st',E,S,e,k⟩;obtain⟨⟨x,s1⟩,e1,e⟩:=zad e;refine⟨ρ,st,io,x,s1,E,S,e1,fun v1 H1 k1 X1 S1 R1=>?_⟩
 cases x with
 | ref n =>
   dsimp only at e
   split at e
   . rename_i C' fs en;obtain⟨hC,e⟩:=zam e;obtain⟨d',el,e⟩:=zag e;cases e
     cases (of_decide_eq_true hC)
     obtain⟨p,rfl,hp⟩:=R1;obtain⟨dx,ps,hH,rk⟩:=S1.ob n p _ hp en
     rcases KR.lookF (f:=f) rk with ⟨_,z⟩ | ⟨v,d2,hv,hd,rv⟩
     . rw[el] at z;cases z
     . rw[el] at hd;cases hd;exact⟨p,C,dx,ps,v,rfl,hH,hc,hn,hv,k _ _ _ X1 S1 rv⟩
   . cases e
 | _=>cases e
def ziB(C:Addr)(f:Str)(mo mv:ME):MS:=fun ρ st=>(mv ρ st).bind fun (y,s1)=>(mo ρ s1).bind fun (x,s2)=>match x with
 | .ref n=>match s2[n]? with
   | some (.ob C' fs)=>if (decide (C'=C)&&decide (fs.length < 1000))=true then some (.nx ρ,s2.set n (.ob C' (zbb f y fs))) else none
   | _=>none
 | _=>none
def zi5(hc:Cls X.K C)(hn:zbz X.K C f)(ho:SE X o mo)(hv:SE X value mv)(hs:swapsWith value (some (.Attribute o f pos')) pos.line X.env=pure false:=by rfl):SS X (.Assign [.Attribute o f pos'] value pos) (ziB C f mo mv):=PS.imp (zrV ho hv hs) <| by
 intro N σ H h;obtain⟨ρ,st,io,fl,st',E,S,e,w⟩:=zcG.mp h;obtain⟨⟨y,s1⟩,e1,e⟩:=zad e;obtain⟨⟨x,s2⟩,e2,e⟩:=zad e;refine⟨ρ,st,io,y,s1,E,S,e1,fun v1 H1 k1 X1 S1 R1=>⟨ρ,s1,io++k1,x,s2,E.ext S X1,S1,e2,fun v2 H2 k2 X2 S2 R2=>?_⟩⟩
 cases x with
 | ref n =>
   dsimp only at e
   split at e
   . rename_i C' fs en;obtain⟨hC,e⟩:=zam e;rw[Ao] at hC;cases e
     cases (of_decide_eq_true hC.1)
     obtain⟨p,rfl,hp⟩:=R2;obtain⟨dx,ps,hH,rk⟩:=S2.ob n p _ hp en;have hl:ps.length < 1000:=by rw[KR.length rk];exact of_decide_eq_true hC.2
     have ry:=R1.ext S1 X2;obtain⟨E',S'⟩:=zgV (o:=.ins C dx (L2.putF f v1 ps)) (ob:=.ob C (zbb f y fs)) S2 hp en (fun o u z=>by rw[hH] at z;cases z) fun H' T e'=>⟨dx,_,e',KR.putF (Rep.mono T ry) (KR.mono T rk)⟩
     refine⟨p,C,dx,ps,rfl,hH,hc,hn,hl,?_⟩;have Ea:=(E.ext S X1).ext S1 X2;exact ((w.on X1 S1).on X2 S2) σ _ [] E' S' (Ea.ext S2 E')
   . cases e
 | _=>cases e
def zg7(C:Addr)(f:Str)(g:GN)(mo:ME)(mm:MA):ME:=fun ρ st=>(mo ρ st).bind fun (x,s1)=>match x with
 | .ref n=>match s1[n]? with
   | some (.ob C' fs)=>if (decide (C'=C)&&(fs.lookup f).isNone)=true then (mm ρ s1).bind fun (ds,s2)=>g (.ref n::ds) s2 else none
   | _=>none
 | _=>none
def zcI(P:Program)(w:World)(K:Ab)(mg:Str->Option Value)(base:Heap)(k:Nat)(C:Addr)(f:Str)(n:Nat)(g:GN):Prop:=∃ a fd ps,FnOk P w K mg base CX0 k a fd ps (spM K n g)/\Meth K C f a/\Binds K fd ps []
def zp8{σ:L2.St}{H:Hp}{Q:VK}{n:Nat}{g:GN}{Ex:XK}(hl:zao n mm)(h:tE X.K (zg7 C f g mo mm) σ H Q):zrn C f (spM X.K (n+1) g) [] Ex (tE X.K mo) (tA X.K mm) σ H Q:=by
 obtain⟨ρ,st,io,d,st',E,S,e,k⟩:=h;obtain⟨⟨x,s1⟩,e1,e⟩:=zad e;refine⟨ρ,st,io,x,s1,E,S,e1,fun v1 H1 k1 X1 S1 R1=>?_⟩
 cases x with
 | ref n =>
   dsimp only at e
   split at e
   . rename_i C' fs en;obtain⟨hC,e⟩:=zam e;rw[Ao] at hC;obtain⟨⟨ds,s2⟩,e2,e⟩:=zad e;have hC1:=of_decide_eq_true hC.1;obtain⟨p,rfl,hp⟩:=id R1;obtain⟨dx,ps,hH,rk⟩:=S1.ob n p _ hp en;rw[hC1] at hH;have hno:ps.lookup f=none:=by
       rcases KR.lookF (f:=f) rk with ⟨z,_⟩ | ⟨v,d2,hv,hd,rv⟩
       . exact z
       . rw[hd] at hC;cases hC.2
     refine⟨p,dx,ps,rfl,hH,hno,ρ,s1,io++k1,ds,s2,E.ext S X1,S1,e2,fun vs H2 k2 X2 S2 R2=>?_⟩;refine⟨.ref n::ds,s2,(io++k1)++k2,d,st',?_,?_,S2,e,(k.on S1 X1).on S2 X2⟩
     . rw[Ap,Ar,R2.length,hl _ _ _ _ e2]
     . rw[Ap];exact Reps.cons (R1.ext S1 X2) R2
   . cases e
 | _=>cases e
def zfU{pl:Sem Bool}{k n:Nat}{g:GN}(F:zcI X.prog X.w X.K X.mg X.base k C f (n+1) g)(hc:Cls X.K C)(hr:Room k X.A)(ho:SE X o mo)(ha:SA X (e::es) mm)(hl:zao n mm)
   (hst:starEach (e::es) X.env=(false,eval e X.env)::starEach es X.env:=by rfl) (hpl:(backTo pos (starEach es X.env)).any (·.1)=false:=by rfl)
   (ht:eval (.Call (.Attribute o f apos) (e::es) [] pos) X.env=(do
     let ov <-eval o X.env
     standAt apos.atName
     let (f,first) <-holding [ov] (getMethod ov f pl)
     callWith pos f first (backTo pos (starEach (e::es) X.env)) (backToKw pos (keywordEach [] X.env))):=by rfl):SE X (.Call (.Attribute o f apos) (e::es) [] pos) (zg7 C f g mo mm):=by
 obtain⟨a,fd,ps,F,hm,hb⟩:=F;exact PE.imp (zpB ho hc hm F hr hb .nil zq0 ha hst hpl ht) fun σ H Q h=>zp8 hl h
def zgP{pl:Sem Bool}{k:Nat}{g:GN}(F:zcI X.prog X.w X.K X.mg X.base k C f 1 g)(hc:Cls X.K C)(hr:Room k X.A)(ho:SE X o mo)
   (ht:eval (.Call (.Attribute o f apos) [] [] pos) X.env=(do
     let ov <-eval o X.env
     standAt apos.atName
     let (f,first) <-holding [ov] (getMethod ov f pl)
     callWith pos f first (backTo pos (starEach [] X.env)) (backToKw pos (keywordEach [] X.env))):=by rfl):SE X (.Call (.Attribute o f apos) [] [] pos) (zg7 C f g mo mNil):=by
 obtain⟨a,fd,ps,F,hm,hb⟩:=F;refine PE.imp (znu ho hc hm F hr hb .nil zq0 ht) fun σ H Q h=>?_;have t:=zp8 (n:=0) (Ex:=E0) zao.nil h;obtain⟨ρ,st,io,d,st',E,S,e,k⟩:=t;refine⟨ρ,st,io,d,st',E,S,e,fun v1 H1 k1 X1 S1 R1=>?_⟩;obtain⟨p,dx,ps,e1,e2,e3,ρ2,s2,io2,ds,s3,E2,S2,e4,k4⟩:=k v1 H1 k1 X1 S1 R1;refine⟨p,dx,ps,e1,e2,e3,?_⟩;cases e4;exact k4 [] H1 [] Ext.refl S2.nil rfl
def zqb(C:Addr)(g:GN)(mm:MA):ME:=fun ρ st=>(mm ρ st).bind fun (ds,s1)=>(g (.ref s1.length::ds) (s1++[.ob C []])).bind fun (d,s2)=>match d with
 | .non=>some (.ref s1.length,s2)
 | _=>none
def zo9{x:Str}{p:Pos}{k n:Nat}{g:GN}{a:Addr}{fd:FuncData}{ps:List Str}(M:Mk X.K C a)(F:FnOk X.prog X.w X.K X.mg X.base CX0 k a fd ps (spM X.K (n+1) g))(hb:Binds X.K fd ps [])(hr:Room (k+1) X.A)(hg:Gl X x)(hm:X.mg x=some (.ref C))(ha:SA X (e::es) mm)(hl:zao n mm)
   (hdb:(x==("__debug__":Str))=false:=by decide) (he:starEach (e::es) X.env=(false,eval e X.env)::starEach es X.env:=by rfl) (hpl:(backTo pos (starEach es X.env)).any (·.1)=false:=by rfl) :
   SE X (.Call (.Name x p) (e::es) [] pos) (zqb C g mm):=PE.imp (zpC M F hr hg hm hb .nil zq0 ha hdb he hpl) <| by
 rintro σ H Q ⟨ρ,st,io,d,st',E,S,e,k⟩;obtain⟨⟨ds,s1⟩,e1,e⟩:=zad e;obtain⟨⟨r,s2⟩,e2,e⟩:=zad e;refine⟨ρ,st,io,ds,s1,E,S,e1,fun vs H1 k1 X1 S1 R1 x dx hx hdx hne=>?_⟩
 cases r with
 | non =>
   cases e;obtain⟨Xa,Sa⟩:=zf8 (o:=.own x) S1 hdx;have hx2:upd H1 dx (.own x) x=none:=by rw[zat (fun z=>hne z.symm)];exact hx
   obtain⟨Xb,Sb⟩:=zix (o:=.ins C dx []) (ob:=.ob C []) Sa hx2 fun H' T e'=>⟨dx,[],e',.nil⟩
   have R2:=(R1.ext S1 Xa).ext Sa Xb;refine⟨.ref s1.length::ds,s1++[.ob C []],((io++k1)++[])++[x],.non,_,?_,?_,Sb,e2,fun v H' ka X' S' R'=>⟨R',?_⟩⟩
   . rw[Ap,Ar,R1.length,hl _ _ _ _ e1]
   . rw[Ap vs];exact Reps.cons ⟨x,rfl,by rw[<-Sa.len];exact getElem?_len _ x⟩ R2
   . have kk:=((k.on S1 X1).on Sa Xa).on Sb Xb;exact kk _ _ ka X' S' ⟨x,rfl,za4 (by rw[<-Sa.len];exact getElem?_len _ x)⟩
 | _=>cases e
def zh7(K:Ab)(C:Addr)(x qual:Str)(st:Stmt)(ps:List Str):Prop:=∃ f fd,Fun K x qual st f fd/\Meth K C x f/\Binds K fd ps []
def zeL{P:Program}{w:World}{mg:Str->Option Value}{base:Heap}{x qual:Str}{st:Stmt}{N ps:List Str}{k:Nat}{m:MS}(L:zh7 K C x qual st ps)(S:FnScope N ps (zaj st))
   (hbody:∀ (f:Addr) (cdv:Value) (A:Around) (outer:List Env) (s:Shared) (H:Hp) (E:XK),Room k (A.deeper (envOfC qual (zaj st) s.heap.objs.size f cdv)) ->
     SSs (cxOf CX0 P w K mg base N qual (zaj st) f cdv A outer s H E).nox (zbB st) m):zcI P w K mg base (k+1) C x ps.length (fnM N.length m):=by
 obtain⟨f,fd,F,hm,hb⟩:=L;exact⟨f,fd,ps,fn_m F S (hbody f),hm,hb⟩
def zl9(P:Program)(w:World)(K:Ab)(mg:Str->Option Value)(base:Heap)(k:Nat)(C:Addr)(x:Str)(n:Nat)(g:GN):Prop:=∃ a fd ps,Mk K C a/\FnOk P w K mg base CX0 k a fd ps (spM K n g)/\Binds K fd ps []/\mg x=some (.ref C)
def zm6{x:Str}{p:Pos}{k n:Nat}{g:GN}(F:zl9 X.prog X.w X.K X.mg X.base k C x (n+1) g)(hr:Room (k+1) X.A)(hg:Gl X x)(ha:SA X (e::es) mm)(hl:zao n mm)
   (hdb:(x==("__debug__":Str))=false:=by decide) (he:starEach (e::es) X.env=(false,eval e X.env)::starEach es X.env:=by rfl) (hpl:(backTo pos (starEach es X.env)).any (·.1)=false:=by rfl) :
   SE X (.Call (.Name x p) (e::es) [] pos) (zqb C g mm):=by
 obtain⟨a,fd,ps,M,F,hb,hm⟩:=F;exact zo9 M F hb hr hg hm ha hl hdb he hpl
def zrg(K:Ab)(mg:Str->Option Value)(C:Addr)(c x qual:Str)(st:Stmt)(ps:List Str):Prop:=∃ f fd,Fun K x qual st f fd/\Mk K C f/\Binds K fd ps []/\mg c=some (.ref C)
def zp9{P:Program}{w:World}{mg:Str->Option Value}{base:Heap}{c x qual:Str}{st:Stmt}{N ps:List Str}{k:Nat}{m:MS}(L:zrg K mg C c x qual st ps)(S:FnScope N ps (zaj st))
   (hbody:∀ (f:Addr) (cdv:Value) (A:Around) (outer:List Env) (s:Shared) (H:Hp) (E:XK),Room k (A.deeper (envOfC qual (zaj st) s.heap.objs.size f cdv)) ->
     SSs (cxOf CX0 P w K mg base N qual (zaj st) f cdv A outer s H E).nox (zbB st) m):zl9 P w K mg base (k+1) C c ps.length (fnM N.length m):=by
 obtain⟨f,fd,F,M,hb,hm⟩:=L;exact⟨f,fd,ps,M,fn_m F S (hbody f),hb,hm⟩
def inClass(st:Stmt)(j:Nat):Stmt:=match st with
 | .ClassDef _ _ _ body _ _ _ _ _ _ _=>body.getD j (.Pass ⟨0,0,0,0⟩)
 | _=>.Pass ⟨0,0,0,0⟩
end
section
variable {prog:Program} {w:World} {A:Around} {E:Value->Shared->Prop} {s:Shared} {K:Type} [DecidableEq K] {knd:HeapKind prog w K}
def ztB{d a:Addr}{xs:List (K×Addr×Value)}{k:K}{Q:Option DictEntry->Shared->Prop}(hu:knd.room A)(hkey:knd.is s.heap k a)(hm:s.heap.DictOfH knd d xs)(hno:∀ (j:Nat) (p:Addr×Value),xs[j]?≠some (k,p))
   (hQ:Q none { s with toks:=s.toks+knd.draws k }):wpAny (model prog w) A (Builtin.Dict.takeOut d (.ref a)) Q E s:=by
 obtain⟨o,es,ep,ho,hc,hd,he,his,hn⟩:=hm;unfold Builtin.Dict.takeOut
 try with_reducible refine AK ?_
 exact Aa (knd.pyHash hu hkey (Aa (ES (s:={ s with toks:=s.toks+knd.draws k }) hu hkey ho hd he his hn (fun _=>Ad hQ) fun j p hj=>absurd hj (hno j p))))
def zly(d a:Addr)(x:Value):MeetsIn prog w (Builtin.«dict.pop» ⟨[.ref d,.ref a,x],[]⟩) (fun A R s=>knd.room A.in1/\(d==sysModules)=false/\∃ k xs,knd.is s.heap k a/\s.heap.DictOfH knd d xs/\xs.length<=sizeLine /\
   (∀ (j:Nat) (p:Addr×Value) h' tk,xs[j]?=some (k,p)->h'.DictOfH knd d (xs.eraseIdx j)->BC d s.heap h'->R (.ok (.ret p.2)) { s with heap:=h',toks:=tk }) /\
   ((∀ (j:Nat) (p:Addr×Value),xs[j]?≠some (k,p))->∀ tk,R (.ok (.ret x)) { s with toks:=tk })) :=
 .of_wp <| by
   rintro A R s ⟨hu,hs,k,xs,hkey,hm,hz,h,h'⟩;unfold Builtin.«dict.pop»;refine Aa ?_;unfold Builtin.Dict.keyAndDefault;refine Aa (Cw hm.typeIs (Ad ?_));have hp:(keyPart (AF a)).isSome=false:=rfl;obtain⟨o,es,ep,ho,hc,hd,he,his,hn⟩:=id hm;simp only[hp,AX,if_false];refine Aa (B5 ho hd (Aa (Ad ?_)));have h1:=size_of_entries he
   cases hne:es.isEmpty with
   | true =>
     have h0:xs.length=0:=by
       have:es.size=0:=by simpa using hne
       omega
     simp only[if_true];refine Aa (BL (Aa (Ad ?_)));simp only[Cf,if_true];refine Aa (DO hs ?_);exact Aa (BL (Ad ⟨x,rfl,h' (fun j p hj=>absurd (List.getElem?_eq_some_iff.mp hj).1 (by omega)) _⟩))
   | false =>
     simp only[AX,if_false]
     by_cases hin:∃ (j:Nat) (p:Addr×Value),xs[j]?=some (k,p)
     . refine Aa (ztC hu hkey hm hz hin fun j p h2 hj hd' hsb=>?_);rw[show (some (⟨knd.hash k,.ref p.1,p.2⟩:DictEntry)).isNone=false from rfl];refine Aa (BR (Ad ⟨p.2,rfl,?_⟩));exact h j p h2 _ hj hd' hsb
     . have hno:∀ (j:Nat) (p:Addr×Value),xs[j]?≠some (k,p):=fun j p z=>hin ⟨j,p,z⟩;refine Aa (ztB hu hkey hm hno ?_);simp only[Cf,if_true];refine Aa (DO hs ?_);exact Aa (BL (Ad ⟨x,rfl,h' hno _⟩))
end
section
variable {X:Cx} {K:Ab} {H:Hp} {io:List Addr} {st st':Sto} {pins:List (Addr×Obj)} {σ:L2.St} {s:Shared} {m mk mx:ME} {e f:Expr} {pos:Pos}
def zqB{A:Around}{E:Value->Shared->Prop}{a b:Addr}{kvs:List (List Key×V)}{k:List Key}{z:V}{u:Value}{Q:Value->Shared->Prop}(hu:A.units+1 < cLine)(I:Inv X pins σ H s)(e:H a=some (.dT kvs))(eb:H b=some (.tup (k.map kV)))(rz:RelV z u)
   (h:∀ v w' s',valV kvs k=some v->Inv X pins σ (upd H a (.dT (zdL kvs k))) s'->RelV v w'->Q w' s') (h':∀ s',valV kvs k=none->Inv X pins σ H s'->Q u s'):wpAny (model X.prog X.w) A (call (.builtin "dict.pop") [.ref a,.ref b,u]) Q E s:=by
 obtain⟨z0,hd,xs,rel,dd⟩:=zts I.hok e;obtain⟨t1,t2,hs⟩:=zhe I (.inr ⟨kvs,.inl e⟩);have hz:xs.length<=sizeLine:=by rw[<-Bf rel];exact z0
 have hn:(xs.map (·.1)).Nodup:=by obtain⟨_,_,_,_,_,_,_,_,hn⟩:=dd;exact hn
 refine DS Ey dd.typeIs PySem.F.entry_dict_pop (PySem.F.args_dict_pop_3 _ _ _) (zly (knd:=tupleKind (zaB X.prog X.w)) a b u) ⟨BV hu,hs,k,xs,zge I.hok eb,dd,hz,fun j p h2 tk hj dd' hsb=>?_,fun hno tk=>?_⟩
 . have h1:=rel.val k;rw[atKey_of_get hn hj] at h1
   cases l:valV kvs k with
   | none=>rw[l] at h1;exact h1.elim
   | some v =>
     rw[l] at h1;refine h v p.2 _ l ?_ h1;obtain⟨q,es,ep,hq,h2',h3,h4,_,h5⟩:=dd';have hi:(kvs.findIdx fun kv=>decide (kv.1=k))=j:=(zf0 (fun p q z=>z.1) k rel).trans (zqm hn hj);have hl:(zdL kvs k).length<=sizeLine:=Az (List.length_eraseIdx_le _ _) z0;have rel':KT H (zdL kvs k) (xs.eraseIdx j):=by
       unfold zdL;rw[hi];exact zd2 j rel
     refine zkm I (by rw[e];exact CO) hsb ⟨q,hq⟩ ⟨hl,hd,_,rel'.keeps fun c ys ec=>?_,q,es,ep,hq,h2',h3,h4,h5⟩;rw[zat (zq2 ec e (fun z=>nomatch z))];exact ec
 . have l:valV kvs k=none:=by
     cases l:valV kvs k with
     | none=>rfl
     | some v =>
       obtain⟨j,p,hj⟩:=zoK rel l;exact absurd hj (hno j p)
   exact h' _ l (Inv.tk I tk)
def zoP(td ty tx:TE):TE:=fun σ H Q=>td σ H fun x H1=>∃ a,x=.ref a/\IsD H1 a/\ty σ H1 fun y H2=>tx σ H2 fun z H3=>∃ kvs k b,H3 a=some (.dT kvs)/\y=.ref b/\H3 b=some (.tup (k.map kV))/\(∀ v,valV kvs k=some v->Q v (upd H3 a (.dT (zdL kvs k))))/\(valV kvs k=none->Q z H3)
def zlk{o:Expr}{apos cpos:Pos}{td ty tx:TE}(hu:X.A.units+1 < cLine)(ho:PE X o td)(he:PE X e ty)(hf:PE X f tx)(m:M2 X o "pop" apos e f cpos):PE X (.Call (.Attribute o "pop" apos) [e,f] [] cpos) (zoP td ty tx):=by
 intro pins s σ H Q I h;refine Fp m.base m.few m.line D0 Ey PySem.F.type_dict_pop (thn (ho pins s σ H _ I h) ?_);rintro u s1 ⟨x,H1,I1,rx,a,ex,d,q1⟩;subst ex;obtain rfl:u=AF a:=rx;obtain⟨t1,t2,_⟩:=zhe I1 d;refine⟨t1,t2,?_⟩;rw[m.trees];refine CY rfl (C6 (CK (thn (he pins s1 σ H1 _ I1 q1) fun iv s2 ⟨y,H2,I2,ry,q2⟩ =>
   CK (thn (hf pins s2 σ H2 _ I2 q2) fun fv s3 ⟨z,H3,I3,rz,kvs,k,b,ea,ey,eb,q3,q4⟩=>DK ?_))))
 subst ey;obtain rfl:iv=AF b:=ry;exact zqB hu I3 ea eb rz (fun v w' s4 l I4 rw'=>⟨v,_,I4,rw',q3 v l⟩) fun s4 l I4=>⟨z,H3,I4,rz,q4 l⟩
def zmq(md mk mx:ME):ME:=fun ρ st=>(md ρ st).bind fun (d,s1)=>match d with
 | .ref n=>if zmA s1 n=true then (mk ρ s1).bind fun (k,s2)=>(mx ρ s2).bind fun (x,s3)=>match k,s3[n]? with
     | .tup ds,some (.dt kvs)=>(keysOf ds).bind fun q=>match valD kvs q with
         | some v=>some (v,s3.set n (.dt (zdL kvs q)))
         | none=>some (x,s3)
     | _,_=>none
   else none
 | _=>none
def zo8{o:Expr}{md:ME}{apos cpos:Pos}(hu:X.A.units+1 < cLine)(ho:SE X o md)(he:SE X e mk)(hf:SE X f mx)(mm:M2 X o "pop" apos e f cpos:=by exact⟨rfl,rfl,rfl,rfl⟩):SE X (.Call (.Attribute o "pop" apos) [e,f] [] cpos) (zmq md mk mx) :=
 PE.imp (zlk hu ho he hf mm) <| by
   rintro σ H Q ⟨ρ,st,io,d,st',E,S,e,k⟩;obtain⟨⟨x,s1⟩,e1,f1⟩:=zad e;clear e
   cases x with
   | ref n =>
     obtain⟨hd,f2⟩:=zam f1;obtain⟨⟨y,s2⟩,e2,f3⟩:=zad f2;obtain⟨⟨z,s3⟩,e3,e⟩:=zad f3;clear f1 f2 f3;refine⟨ρ,st,io,_,s1,E,S,e1,fun v1 H1 k1 X1 S1 R1=>?_⟩;obtain⟨p,rfl,hp⟩:=R1;refine⟨p,rfl,zj0 S1 hp hd,ρ,s1,io++k1,y,_,E.ext S X1,S1,e2,fun v2 H2 k2 X2 S2 R2=>⟨ρ,s2,(io++k1)++k2,z,_,(E.ext S X1).ext S1 X2,S2,e3,fun v3 H3 k3 X3 S3 R3=>?_⟩⟩;dsimp only at e
     split at e
     . rename_i ds kvs ek;obtain⟨q,eq1,e⟩:=zad e;have hp3:=za4 (ka:=k3) (za4 (ka:=k2) hp);obtain⟨ps,hH,r⟩:=S3.ob n p _ hp3 ek;obtain⟨b,xs,rfl,hb,rs⟩:=R2.ext S2 X3;have ex:=zcc rs eq1;subst ex;refine⟨ps,q,b,hH,rfl,hb,fun v hv=>?_,fun hv=>?_⟩
       . rcases KR.val r q with ⟨z1,z2⟩ | ⟨d',v',hd',hv',rv⟩
         . rw[hv] at z2;cases z2
         . rw[hv] at hv';cases hv';rw[hd'] at e;cases e;obtain⟨E',S'⟩:=zgV (o:=.dT (zdL ps q)) (ob:=.dt (zdL kvs q)) S3 hp3 ek (fun o u z=>by rw[hH] at z;cases z) fun H' T e'=>⟨_,e',by
             have hi:=zf0 (fun p q z=>z.1) q (KR.mono (ka:=[]) T r);unfold zdL;rw[hi];exact zd2 _ (KR.mono T r)⟩
           exact (((k.on S1 X1).on S2 X2).on S3 X3) _ _ [] E' S' (Rep.ext S3 E' rv)
       . rcases KR.val r q with ⟨z1,z2⟩ | ⟨d',v',hd',hv',rv⟩
         . rw[z1] at e;cases e;exact (((k.on S1 X1).on S2 X2).on S3 X3).now S3 R3
         . rw[hv] at hv';cases hv'
     . cases e
   | _=>cases f1
end
section
variable {prog:Program} {w:World} {A:Around} {E:Value->Shared->Prop} {s:Shared} {a:Addr} {q:Obj} {es:Array DictEntry} {ep:Nat}
def zrN(hs:(a==sysModules)=false):MeetsIn prog w (Builtin.«dict.__len__» ⟨[.ref a],[]⟩) (fun _ R s=>∃ q es ep,s.heap.get? a=some q/\q.data=.dict es ep/\R (.ok (.ret (.int es.size s.toks))) { s with toks:=s.toks+1 }):=.of_wp <| by
 rintro A R s ⟨q,es,ep,g,dd,h⟩;show wpAny _ _ (dictSize a >>= _) _ _ s;unfold dictSize;refine Aa (Aa (B5 g dd (Ad ?_)));show wpAny _ _ (Builtin.Dict.pendingCount a >>= _) _ _ s;refine Aa (wpAny_pendingCount_other hs (wpAny_ret_mkInt ?_));rw[Nat.add_zero];exact h
def zng{Q:Bool->Shared->Prop}(hs:(a==sysModules)=false)(g:s.heap.get? a=some q)(dd:q.data=.dict es ep)(ty:s.TypeIs (.ref a) "dict")(hz:es.size<=sizeLine)(h:∀ tk,Q (!es.isEmpty) { s with toks:=tk }):wpAny (model prog w) A (truthy (.ref a)) Q E s:=by
 have hb:(es.size:Int) < 2 ^ 63:=by have:=Cj;omega
 have ne:((es.size:Int) != 0)=!es.isEmpty:=by
   obtain⟨l⟩:=es
   cases l <;> simp <;> omega
 have body:wpAny (model prog w) A (runValue (.builtin "len" ⟨[.ref a],[]⟩)) (fun r s'=>r=.int es.size (s.toks+1)/\Q (!es.isEmpty) s') E s:=by
   refine wpAny_runValue (Bt entry_len ?_);rw[A4 plain_len _];unfold Builtin.«len»;refine Aa (m:=oneArg "len" _) (Ad (Aa (m:=callSpecial? (.ref a) (Bu "__len__")) (A2 (name:=Bu "__len__") ty F.slot_dict_len (DS F.slot_dict_len ty F.entry_dict_len (F.args_dict_len_1 _) (zrN hs) ⟨q,es,ep,g,dd,?_⟩))));show wpAny _ _ _ _ _ { s with toks:=s.toks+1 };refine Aa (AK (Ad (Aa (BR ?_))));show wpAny _ _ (if (es.size:Int) < 0 then _ else _) _ _ _;rw[if_neg (by omega)];show wpAny _ _ (if (es.size:Int) ≥ 2 ^ 63 then _ else _) _ _ _;rw[if_neg (by omega)];exact Aa (wpAny_mkInt (Ad ⟨rfl,h _⟩))
 unfold truthy;refine Aa (wpAny_callSpecial?_none (name:=Bu "__bool__") ty noBool_dict (Aa (wpAny_specialOf (name:=Bu "__len__") ty F.slot_dict_len.lookup (Aa (Bs body (fun r s' z=>?_) fun _ _ z=>z)))));obtain⟨rfl,z⟩:=z;exact Ad (ne ▸ z)
end
section
variable {X:Cx} {K:Ab} {H:Hp} {io:List Addr} {st st':Sto} {m:ME} {a:Expr}
def znP(m:ME):MT:=fun ρ st=>(m ρ st).bind fun (x,s1)=>match x with
 | .ref n=>match s1[n]? with
   | some (.dt kvs)=>if fits kvs.length=true then some (!kvs.isEmpty,s1) else none
   | _=>none
 | _=>none
def zpf(h:SE X a m)(he:∀ whole,isTrue a X.env whole=(do let v <-whole;standAt a.pos;holding [v] (truthy v)):=by intro _;rfl):SB X a (znP m):=by
 rintro pins s σ H Q I ⟨ρ,st,io,b,st',E,S,e,k⟩;obtain⟨⟨x,s1⟩,e1,e⟩:=zad e;refine isTrue_plain (thn (h pins s σ H (fun v H1=>∃ ka,Ext io ka H H1/\StR X.K H1 (io++ka) s1/\Rep X.K H1 (io++ka) v x) I ⟨ρ,st,io,x,s1,E,S,e1,fun v H1 ka X1 S1 R1=>⟨ka,X1,S1,R1⟩⟩) ?_) (he _);rintro u s2 ⟨v,H1,I1,rv,ka,X1,S1,R1⟩
 cases x with
 | ref n =>
   dsimp only at e
   split at e
   . rename_i kvs en;obtain⟨hf,e⟩:=zam e;cases e;obtain⟨p,rfl,hp⟩:=R1;cases rv;obtain⟨ps,hH,rk⟩:=S1.ob n p _ hp en;obtain⟨t1,t2,hs⟩:=zhe I1 (.inr ⟨ps,.inl hH⟩);obtain⟨z,y,xs,r0,o,es,ep,g,ex,dd,et,nd⟩:=I1.hok p _ hH;have fz:zcW X.prog X.w H1 s2.heap p (.frz o (.dT ps)):=⟨g,I1.hok p _ hH⟩
     obtain⟨g',hl,ent⟩:=zed fz dd;have hz:es.size=kvs.length:=by rw[hl,KR.length rk]
     refine zng hs g dd t1 (by rw[hz];exact of_decide_eq_true hf) fun tk=>⟨H1,Inv.tk I1 tk,?_⟩
     have hb:(!es.isEmpty)=!kvs.isEmpty:=by
       obtain⟨l⟩:=es
       cases l <;> cases kvs <;> simp at hz ⊢
     rw[hb];exact k _ _ X1 S1
   . cases e
 | _=>cases e
end
section
variable {prog:Program} {w:World} {A:Around} {I S:Addr} {fp wr:List Addr} {n:Nat} {P:Nat->Value->Prop} {St:Nat->Heap->Prop} {good:Heap->Prop} {bt:Nat->Nat->Bool} {R:Result->Shared->Prop}
def Asks(prog:Program)(w:World)(A:Around)(P:Nat->Value->Prop)(good:Heap->Prop)(bt:Nat->Nat->Bool):Prop:=∀ (i j:Nat) (u v:Value) (s:Shared) (Q E:Value->Shared->Prop),good s.heap->P i u->P j v->Q (.bool (bt i j)) s->wpAny (model prog w) A (richCompare .Lt u v) Q E s
def Keeps(wr:List Addr)(S:Addr)(h h':Heap):Prop:=∀ b o,b ∉ wr->b≠S->h.get? b=some o->h'.get? b=some o
def Keeps.trans{h1 h2 h3:Heap}(x:Keeps wr S h1 h2)(y:Keeps wr S h2 h3):Keeps wr S h1 h3:=fun b o p q e=>y b o p q (x b o p q e)
def Keeps.upd{h:Heap}{g:Obj->Obj}:Keeps wr S h (h.update S g):=fun b o _ q e=>(Cn _ _ (BB q)).trans e
def ziS{i:Nat}{h:Heap}{g:Obj->Obj}(W:Walks prog w A.in1 I fp wr n P St)(hf:S ∉ fp)(x:St i h):St i (h.update S g):=W.frame _ _ _ x fun b hb o e=>(Cn _ _ (fun z:S=b=>hf (z ▸ hb))).trans e
def minT(W:Walks prog w A.in1 I fp wr n P St)(gk:∀ h h',good h->Keeps wr S h h'->good h')(ask:Asks prog w A.in1 P good bt)(hf:S ∉ fp):∀ (r j:Nat) (s:Shared) (u:Value) (c:Nat),j+1+r=n->St (j+1) s.heap->good s.heap->P (argBest bt j) u->s.heap.get? S=some { cls:=.type "list",dict:=none,data:=.seq #[u,u] c,slots:=#[] } ->
   (∀ v h' tk,P (argBest bt (n - 1)) v->Keeps wr S s.heap h'->R (.ok (.ret v)) { s with heap:=h',toks:=tk })->codeAny (model prog w) A (.builtin "min.loop" ⟨[.ref I,.none,.ref S],[]⟩) R s:=by
 have hw:S ∉ wr:=fun z=>hf (W.sub _ z);have nm:(toString "min"++toString ".loop":String)="min.loop":=by decide
 intro r
 induction r with
 | zero =>
   intro j s u c hj st0 hg pu hS fin;have hj:j+1=n:=hj;refine Bt F.entry_min_loop ?_;rw[A4 F.plain_min_loop _];show wpAny _ A.in1 (seqItems? (.ref S) >>= _) _ _ s;refine Aa (Bo hS rfl ?_);show wpAny _ A.in1 (tryCatch (pyNext (.ref I)) _ >>= _) _ _ s;refine Aa (Cv (W.done s _ _ (hj ▸ st0) fun h1 tk kp=>?_));show wpAny _ A.in1 (updateSeq S (fun _=>#[]) >>= _) _ _ _;refine Aa (Eb (kp S _ hw hS) rfl (Aa (BR (Ad (fin u _ tk (by rw[<-hj];exact pu) (Keeps.trans (fun b o p _ e=>kp b o p e) Keeps.upd))))))
 | succ r ih =>
   intro j s u c hj st0 hg pu hS fin;have hlt:j+1 < n:=by omega
   refine Bt F.entry_min_loop ?_;rw[A4 F.plain_min_loop _];show wpAny _ A.in1 (seqItems? (.ref S) >>= _) _ _ s;refine Aa (Bo hS rfl ?_);show wpAny _ A.in1 (tryCatch (pyNext (.ref I)) _ >>= _) _ _ s;refine Aa (Cv (W.item (j+1) s _ _ hlt st0 fun v h1 tk pv st1 kp=>?_));have k1:Keeps wr S s.heap h1:=fun b o p _ e=>kp b o p e;have hS1:=kp S _ hw hS;have g1:=gk _ _ hg k1;show wpAny _ A.in1 (tryCatch (holding [v,v] (richCompare .Lt v u >>= _)) _ >>= _) _ _ _;refine Aa (Cv (AK (Aa (ask (j+1) (argBest bt j) v u _ _ _ g1 pv pu (Aa (AK (Bp (Aa (BR (Ad ?_))))))))))
   cases hb:bt (j+1) (argBest bt j) with
   | true =>
     simp only[if_true];refine Aa (Eb hS1 rfl (Aa (BR ?_)));rw[nm];exact Ad ⟨Bv F.plain_min_loop _,ih (j+1) _ v _ (by omega) (ziS W hf st1) (gk _ _ g1 Keeps.upd) (by simp only[argBest,hb,if_true];exact pv) (BF _ hS1 rfl) fun v' h2 t2 p2 k2=>fin v' h2 t2 p2 ((k1.trans Keeps.upd).trans k2)⟩
   | false =>
     simp only[AX,if_false];refine Aa (BR ?_);rw[nm];exact Ad ⟨Bv F.plain_min_loop _,ih (j+1) _ u c (by omega) st1 g1 (by simp only[argBest,hb,AX,if_false];exact pu) hS1 fun v' h2 t2 p2 k2=>fin v' h2 t2 p2 (k1.trans k2)⟩
def zjI(W:Walks prog w A.in1 I fp wr n P St)(gk:∀ h h',good h->Keeps wr S h h'->good h')(ask:Asks prog w A.in1 P good bt)(hf:S ∉ fp)(hn:0 < n){s:Shared}{c:Nat}(st0:St 0 s.heap)(hg:good s.heap)(hS:s.heap.get? S=some { cls:=.type "list",dict:=none,data:=.seq #[] c,slots:=#[] })
   (fin:∀ v h' tk,P (argBest bt (n - 1)) v->Keeps wr S s.heap h'->R (.ok (.ret v)) { s with heap:=h',toks:=tk }):codeAny (model prog w) A (.builtin "min.loop" ⟨[.ref I,.none,.ref S],[]⟩) R s:=by
 have hw:S ∉ wr:=fun z=>hf (W.sub _ z);have nm:(toString "min"++toString ".loop":String)="min.loop":=by decide
 refine Bt F.entry_min_loop ?_;rw[A4 F.plain_min_loop _];show wpAny _ A.in1 (seqItems? (.ref S) >>= _) _ _ s;refine Aa (Bo hS rfl ?_);show wpAny _ A.in1 (tryCatch (pyNext (.ref I)) _ >>= _) _ _ s;refine Aa (Cv (W.item 0 s _ _ hn st0 fun v h1 tk pv st1 kp=>?_));have k1:Keeps wr S s.heap h1:=fun b o p _ e=>kp b o p e;have hS1:=kp S _ hw hS;show wpAny _ A.in1 (updateSeq S (fun _=>#[v,v]) >>= _) _ _ _;refine Aa (Eb hS1 rfl ?_);rw[nm];exact Ad ⟨Bv F.plain_min_loop _,minT W gk ask hf (n - 1) 0 _ v _ (by omega) (ziS W hf st1) (gk _ _ (gk _ _ hg k1) Keeps.upd) pv (BF _ hS1 rfl) fun v' h2 t2 p2 k2=>fin v' h2 t2 p2 ((k1.trans Keeps.upd).trans k2)⟩
end
section
variable {prog:Program} {w:World} {A:Around} {E:Value->Shared->Prop} {s:Shared}
def zl1{x:Value}{n:Nat}{P:Nat->Value->Prop}{good:Heap->Prop}{bt:Nat->Nat->Bool}{Q:Value->Shared->Prop}(hn:0 < n)(ask:Asks prog w A.in1 P good bt)(gm:∀ h h',good h->(∀ b o,b < s.heap.objs.size->h.get? b=some o->h'.get? b=some o)->good h')(g0:good s.heap)
   (h:wpAny (model prog w) A.in1 (pyIter x) (fun it s2=>∃ I fp wr St,it=.ref I/\Walks prog w A.in1 I fp wr n P St/\St 0 s2.heap/\(∀ b∈fp,b < s2.heap.objs.size)/\(∀ b∈wr,s.heap.objs.size<=b)/\(∀ b o,s.heap.get? b=some o->s2.heap.get? b=some o)/\s.heap.objs.size<=s2.heap.objs.size /\
     ∀ v h' tk,P (argBest bt (n - 1)) v->(∀ b o,b ∉ wr->s2.heap.get? b=some o->h'.get? b=some o)->Q v { s2 with heap:=h',toks:=tk }) E s) :
   wpAny (model prog w) A (call (.builtin "min") [x]) Q E s:=by
 have nm:(toString "min"++toString ".loop":String)="min.loop":=by decide
 refine Ff F.kind_min F.plain_min F.entry_min (F.args_min1 _) ?_;show wpAny _ A.in1 (Builtin.Builtins.bindParams "min" ["key","default"] 0 ⟨[],[]⟩ >>= _) _ _ s;refine Aa (FI (show Builtin.Builtins.bindParams "min" ["key","default"] 0 ⟨[],[]⟩=pure [none,none] from rfl) (Aa (Ad (Aa (Bs h (fun it s2 z=>?_) fun _ _ e=>e)))));obtain⟨I,fp,wr,St,rfl,W,st0,hfp,hwr,k0,hsz,fin⟩:=z;refine Aa (AI ?_);have hf:s2.heap.objs.size ∉ fp:=fun z=>AN _ (hfp _ z);have hw:s2.heap.objs.size ∉ wr:=fun z=>hf (W.sub _ z);rw[nm];have gk:∀ h h',good h->Keeps wr s2.heap.objs.size h h'->good h':=fun h h' g k=>gm h h' g fun b o hb e=>k b o (fun z=>Nat.not_le.mpr hb (hwr b z)) (As (AC hb hsz)) e;refine Ad ⟨Bv F.plain_min_loop _,zjI W gk ask hf hn (W.frame _ _ _ st0 fun b _ o e=>Ac _ e) (gm _ _ g0 fun b o _ e=>Ac _ (k0 b o e)) (Am _ rfl) fun v h1 tk pv kp=>?_⟩;exact fin v h1 tk pv fun b o hb e=>kp b o hb (As (Aj e)) (Ac _ e)
end
section
variable {X:Cx} {K:Ab} {H:Hp} {io:List Addr} {st st':Sto}
def zqO(ts:List (List Int)):List Int:=ts.getD (argBest (fun i j=>HT.lexLt (ts.getD i []) (ts.getD j [])) (ts.length - 1)) []
def zek(bt:Nat->Nat->Bool):∀ k,argBest bt k<=k
 | 0=>Af _
 | k+1=>by
   unfold argBest
   split
   . exact Af _
   . exact Nat.le_succ_of_le (zek bt k)
def znK:GN
 | [.ref n],st=>match st[n]? with
   | some (.dt kvs)=>if (fits kvs.length&&!kvs.isEmpty)=true then (rowsOf (zdA kvs)).map fun ts=>(tupD (zqO ts),st) else none
   | _=>none
 | _,_=>none
def zkt(hc:X.calm=true)(hu:X.A.units+1 < cLine):zdf X (.builtin "min") znK:=by
 rintro pins s σ H xs us Q I r ⟨ds,st,io,d,st',R,S,e,k⟩;unfold znK at e
 split at e
 . rename_i n
   split at e
   . rename_i kvs en;obtain⟨hf,e⟩:=zam e;obtain⟨ts,e1,e⟩:=zag e;cases e;rw[Ao] at hf;obtain⟨v,rfl,p,rfl,hp⟩:=R.one;obtain⟨u,rfl,ru⟩:=r.one;cases ru;obtain⟨ps,hH,rk⟩:=S.ob n p _ hp en;obtain⟨t1,t2,hs⟩:=zhe I (.inr ⟨ps,.inl hH⟩);obtain⟨z,y,zs,r0,o,es,ep,g,ex,dd,et,nd⟩:=I.hok p _ hH;have fz:zcW X.prog X.w H s.heap p (.frz o (.dT ps)):=⟨g,I.hok p _ hH⟩
     obtain⟨g',hl,ent⟩:=zed fz dd;have hat:∀ (j:Nat) (v:Value),(es.toList.map (·.key))[j]?=some v ↔ ∃ en,es[j]?=some en/\v=en.key:=fun j v=>by
       rw[AD,BH]
       cases es[j]? with
       | none=>simp
       | some x=>simp[eq_comm]
     obtain⟨ys,rv,rr⟩:=zfx (vs:=es.toList.map (·.key)) rk (by rw[Ag,AY,hl]) fun j v q e1 e2=>by
       obtain⟨en',h1,h2⟩:=(hat j v).mp e1;obtain⟨en2,b,h3,h4,h5,_⟩:=ent j q.1 q.2 e2;rw[h1] at h3;cases h3;exact⟨b,by rw[h2,h4],h5⟩
     obtain⟨T,hd⟩:=zht rr e1;have hlen:es.size=ts.length:=by rw[hl,KR.length rk,<-show (zdA kvs).length=kvs.length from (Ag _),hd,Ag]
     have hn:0 < es.size:=by
       rw[hl,KR.length rk]
       cases kvs with
       | nil=>exact absurd hf.2 (by decide)
       | cons a l=>simp
     have get:∀ {i:Nat} {v:Value},(∃ en,es[i]?=some en/\v=en.key)->i < ts.length/\∃ a,v=.ref a/\H a=some (.tup ((ts.getD i []).map V.int)):=fun {i v} h=>by
       have hv:=(hat i v).mpr h;have hi:i < ts.length:=by
         have:=(List.getElem?_eq_some_iff.mp hv).1;rw[Ag,AY,hlen] at this;exact this
       obtain⟨a,ea,ha,_⟩:=zeX T hi;obtain⟨u,eu,ru⟩:=rv.get ea;cases ru;rw[hv] at eu;cases eu;exact⟨hi,a,rfl,ha⟩
     have ask:Asks X.prog X.w X.A.in1 (fun i v=>∃ en,es[i]?=some en/\v=en.key) (fun h=>∀ b q,H b≠none->s.heap.get? b=some q->h.get? b=some q) (fun i j=>HT.lexLt (ts.getD i []) (ts.getD j [])):=fun i j u v s1 Q E hg pu pv hq=>by
       obtain⟨hi,a,rfl,ha⟩:=get pu;obtain⟨hj,b,rfl,hb⟩:=get pv;obtain⟨ia,va,⟨oa,ga,ca,na,da⟩,_⟩:=I.tuple (SqT.of (K:=X.K) ha);obtain⟨ib,vb,⟨ob,gb,cb,nb,db⟩,_⟩:=I.tuple (SqT.of (K:=X.K) hb);exact HT.lt_tupInts (items:=ia.toArray) (items2:=ib.toArray) ⟨oa,hg _ _ (by rw[ha];simp) ga,ca,na,da⟩ ⟨ob,hg _ _ (by rw[hb];simp) gb,cb,nb,db⟩ (L2.intsAre_of va) (L2.intsAre_of vb) hu hq
     have hnd:p < s.heap.objs.size:=Aj g;refine zl1 (n:=es.size) hn ask (fun h h' gh kk b q hb e=>kk b q (Aj e) (gh b q hb e)) (fun b q _ e=>e) (zfA t1 hs g dd ?_);refine⟨_,_,_,_,rfl,zfG (A:=X.A.in1) (I.ok.hd hc) s.heap.objs.size p (As hnd) dd,⟨⟨_,Am _ rfl,rfl,rfl⟩,Ac _ g⟩,fun b hb=>?_,fun b hb=>?_,fun b q e=>Ac _ e,?_,fun v h' tk pv kk=>?_⟩
     . show b < (s.heap.push _).objs.size;rw[A6];simp only[Ba,Bd,or_false] at hb
       rcases hb with rfl | rfl
       . exact B7 _
       . exact CV hnd
     . exact DP (List.mem_singleton.mp hb).symm
     . show _<=(s.heap.push _).objs.size;rw[A6];exact Cm _
     . obtain⟨hi,a,rfl,ha⟩:=get pv;rw[hlen] at ha;exact⟨.ref a,H,Inv.kept (s:=s) (h':=h') (t':=tk) I fun b q e=>kk b q (fun z=>As (Aj e) (List.mem_singleton.mp z)) (Ac _ e),rfl,k.now S ⟨a,_,rfl,ha,zj1 _⟩⟩
   . cases e
 . cases e
end
end L2.MP
namespace L2.MP
open PySem L2 PySem.Spec PyProof.Rows
section
variable {K:Ab} {x qual:Str} {st:Stmt} {f C:Addr}
structure ClIn(K:Ab)(c:Str)(C:Addr):Prop where
 ns:AR K mainGlobals c=some (some (.ref C))
 cl:Cls K C
 ms:C5 K C=true
 kc:A9 K (.ref C)=true
def zuA{c:Str}(a:AR K mainGlobals c=some (some (.ref C)))(pg:Cz K C EW=true)(hd:CT K C=true)(po:DJ K C=true)(sa:AU K (.ref C) "__setattr__"=some (some (.builtin "object.__setattr__")))(mk:C5 K C=true)(kc:A9 K (.ref C)=true):ClIn K c C:=⟨a,⟨pg,hd,po,sa⟩,mk,kc⟩
structure MdIn(K:Ab)(C:Addr)(x qual:Str)(st:Stmt)(f:Addr):Prop where
 ex:∃ (oc:Value) (od:Option Addr) (kV dc pm:Value) (an:Option Addr) (cd ct:Value) (sl:Array (Option Value)),K.lookup f=some ⟨oc,od,.func (Bn x qual (zcd st) (zbB st) (zaj st) .none kV dc pm an cd ct),sl⟩/\B6 K cd qual=true
 at_:AU K (.ref C) x=some (some (.ref f))
 fn:C4 K (.ref f)=true
 kp:A9 K (.ref f)=true
def zuh{oc kV dc pm cd ct:Value}{od an:Option Addr}{sl:Array (Option Value)}(a:AU K (.ref C) x=some (some (.ref f)))(i:C4 K (.ref f)=true)(l:K.lookup f=some ⟨oc,od,.func (Bn x qual (zcd st) (zbB st) (zaj st) .none kV dc pm an cd ct),sl⟩)(c:B6 K cd qual=true)(k:A9 K (.ref f)=true):MdIn K C x qual st f :=
 ⟨⟨oc,od,kV,dc,pm,an,cd,ct,sl,l,c⟩,a,i,k⟩
def zdp{ps:List Str}(F:MdIn K C x qual st f)(b:∀ (kV doc pm:Value) (an:Option Addr) (cdv ct:Value) (us:List Value),us.length=ps.length->bindArgs (Bn x qual (zcd st) (zbB st) (zaj st) .none kV doc pm an cdv ct) ⟨us,[]⟩=pure (ps.zip us)):zh7 K C x qual st ps:=by
 obtain⟨⟨oc,od,kV,dc,pm,an,cd,ct,sl,l,c⟩,a,i,k⟩:=F;exact⟨_,_,zhf l c k,⟨a,i,k⟩,(zhf l c k).binds b⟩
def zn0{h:Heap}{mg:Str->Option Value}{c:Str}{ps:List Str}(X:K.In h)(G:h.Ns mainGlobals mg)(Q:ClIn K c C)(F:MdIn K C "__init__" qual st f)(b:∀ (kV doc pm:Value) (an:Option Addr) (cdv ct:Value) (us:List Value),us.length=ps.length->bindArgs (Bn "__init__" qual (zcd st) (zbB st) (zaj st) .none kV doc pm an cdv ct) ⟨us,[]⟩=pure (ps.zip us)):zrg K mg C c "__init__" qual st ps:=by
 obtain⟨⟨oc,od,kV,dc,pm,an,cd,ct,sl,l,c'⟩,a,i,k⟩:=F;exact⟨_,_,zhf l c' k,⟨Q.ms,a,i,Q.kc⟩,(zhf l c' k).binds b,EL X G Q.ns⟩
end
end L2.MP
namespace L2.MP
open PySem PySem.Spec PyProof.Rows
end L2.MP
namespace L2.MP
open PySem PySem.Spec
end L2.MP
namespace L2.MP
open PySem PySem.Spec PyProof.Rows
end L2.MP
namespace L2.MP
open PySem PySem.Spec
end L2.MP
namespace L2.MP
open PySem PySem.Spec PyProof.Rows
section
variable {X:Cx} {K:Ab} {H:Hp} {io:List Addr} {m:ME} {st st':Sto} {tg:Expr}
end
end L2.MP
namespace L2.MP
open PySem PySem.Spec
end L2.MP
namespace L2.MP
open PySem PySem.Spec PyProof.Rows
end L2.MP
namespace L2.MP
open PySem PySem.Spec
end L2.MP
namespace L2.MP
open PySem PySem.Spec PyProof.Rows
variable {X:Cx} {pos:Pos}
end L2.MP
namespace L2.MP
open PySem PySem.Spec PyProof.Rows
end L2.MP
namespace L2.MP.ST
open PySem PySem.SetTable
end L2.MP.ST
namespace L2.MP
open PySem PySem.Spec PyProof.Rows
end L2.MP
namespace L2.MP
open PySem PySem.Spec
end L2.MP
namespace L2.MP
open PySem PySem.Spec PyProof.Rows
end L2.MP
namespace L2.MP
open PySem PyProof.Rows
section
open PySem.SeqAt
open PySem.MeetsSeq PySem.MeetsSeq2 PySem.MeetsSeq3
end
end L2.MP
namespace L2.MP.Hb
open PySem L2.MP
end L2.MP.Hb
namespace L2.MP
open PySem
def zhk{f:D->Option PyData}(hf:∀ x:Int,f (.int x)=some (.int x)):∀ as:List Int,toPs f (as.map D.int)=some (as.map GI)
 | []=>rfl
 | x::as=>by
   rw[Av,toPs,hf x,Ae,zhk hf as];rfl
def zdQ{n:Nat}{st:Sto}{k:Nat}{as:List Int}(hk:st[k]?=some (.lst (as.map D.int))):toP (n+2) st (.ref k)=some (.list (as.map GI)):=by
 rw[toP];simp only[zbA,hk,Ae];rw[zhk (fun x=>by rw[toP])];rfl
end L2.MP
namespace L2.MP.Hb
open PySem L2.MP
noncomputable abbrev sgD (c:Nat):D:=.str ⟨#[c]⟩
def zks(c:Nat):∀ (k:Nat) (a:Array Nat),((Bx k #[c]).foldl (·++·) a).toList=a.toList++Bx k c
 | 0,a=>by simp
 | k+1,a=>by
   rw[ET,Ec,zks c k (a++#[c])];simp[ET]
def zhx{c:Nat}{n:Int}(h1:1<=n):(repS ⟨#[c]⟩ n).cps.toList=Bx n.toNat c:=by
 unfold repS;rw[if_neg (by omega)]
 by_cases hn:n=1
 . subst hn;rfl
 . rw[if_neg]
   . exact zks c n.toNat #[]
   . simp[hn];show ¬ ((⟨#[c]⟩:Str).length=0);show ¬ (1=0)
     decide
def zdk{c:Nat}{n:Int}{st:Sto}(h1:1<=n)(h2:n<=1000):mulA (sgD c) (.int n) st=some (.str (repS ⟨#[c]⟩ n),st):=by
 have hl:(repS ⟨#[c]⟩ n).length=n.toNat:=by rw[len_list,zhx h1,BE]
 have e1:(⟨#[c]⟩:Str).length=1:=rfl;have hz:sizeLine=16777216:=Cj;have:(decide (-(2 ^ 62)<=n)&&decide (n < 2 ^ 20)&&decide ((⟨#[c]⟩:Str).length*n.toNat<=sizeLine)&&decide ((repS ⟨#[c]⟩ n).length<=sizeLine))=true:=by
   rw[hl,e1,hz];rw[decide_eq_true (show -(2 ^ 62)<=n by omega),decide_eq_true (show n < 2 ^ 20 by omega),decide_eq_true (show 1*n.toNat<=16777216 by omega),decide_eq_true (show n.toNat<=16777216 by omega)];rfl
 show mulA (.str ⟨#[c]⟩) (.int n) st=_;unfold mulA orG mulD intD;dsimp only;rw[zio];unfold zq7;dsimp only;rw[if_pos this]
end L2.MP.Hb
namespace L2.MP.Hd
open PySem L2.MP
def zcJ:MS:=mSeq (mAsg (mBin ixA (mVar 0) (mCon (.int 0))) (gNm 1)) (mSeq (mAsg (mBin ixA (mVar 0) (mCon (.int 1))) (gNm 2)) (mRet (mTup (zae (mTup (zae (mVar 1) (zae (mBin addD (mVar 2) (mCon (.int 1))) (mNil)))) (zae (mTup (zae (mBin addD (mVar 1) (mCon (.int 1))) (zae (mVar 2) (mNil)))) (zae (mTup (zae (mVar 1) (zae (mBin subD (mVar 2) (mCon (.int 1))) (mNil)))) (zae (mTup (zae (mBin subD (mVar 1) (mCon (.int 1))) (zae (mVar 2) (mNil)))) (mNil))))))))
def zaD:GN:=fnM 3 zcJ
def zem:MS:=mSeq (mAsg (mBin ixA (mBin ixA (mVar 0) (mCon (.int 0))) (mCon (.int 2))) (gNm 2)) (mSeq (mIf (mTst (zeB leD ltD (mCon (.int 0)) (mVar 1) (zav lenD (zae (mVar 2) (mNil))))) (mRet (mSlB (mBin ixA (mVar 2) (mVar 1)) (zkM (mCon (.int 1))) (zkN))) (zdm)) (mRet (mTup (zae (mCon (.str "")) (zae (mCon (.str "")) (zae (mCon (.str "")) (zae (mCon (.str "")) (mNil))))))))
def zcu:GN:=fnM 3 zem
def zbg:MS:=putA (mVar 1) (mTup (zae (mVar 2) (zae (mVar 3) (mNil)))) (mVar 4)
def zcA:MS:=mSeq (mAsg (znT true) (gNm 1)) (mSeq (mFor (mWA (mVar 0)) (gTp 3 (gC (gNm 2) (gC (gNm 3) (gC (gNm 4) (gN0))))) (zbg)) (mRet (mVar 1)))
def zbc:GN:=fnM 5 zcA
def zaL:MS:=mIf (mTst (mBin inA (mVar 5) (mVar 1))) (mExp (mApp (mVar 3) (zae (mBin ixA (zav zcu (zae (mVar 0) (zae (mBin ixA (mVar 1) (mVar 5)) (mNil)))) (mBin modD (mBin addD (mVar 4) (mCon (.int 2))) (mCon (.int 4)))) (mNil)))) (mExp (mApp (mVar 3) (zae (mCon (.str "")) (mNil))))
def zdd:MS:=mSeq (mAsg (mLst (mNil)) (gNm 3)) (mSeq (mFor (zoE (zav zaD (zae (mVar 2) (mNil)))) (gTp 2 (gC (gNm 4) (gC (gNm 5) (gN0)))) (zaL)) (mRet (mVar 3)))
def zbw:GN:=fnM 6 zdd
def zaI:ME:=mBin ixA (mVar 2) (mVar 0)
def zaH:MT:=zms (mTst (mBin eqD (mVar 0) (mVar 1))) (mTst (mBin neD (mVar 0) (mCon (.str ""))))
def zb7:MS:=mRet (zav sumC (zae (zde (mZip (mVar 1) (mVar 2)) 2 [0] (gTp 2 (gC (gNm 0) (gC (gNm 1) (gN0)))) (zaH) (zaI)) (mNil)))
def zaE:GN:=fnM 3 zb7
def zcz:MS:=mSeq (mAsg (mIte (mTst (mBin ltD (mVar 1) (zav lenD (zae (mVar 0) (mNil))))) (mBin ixA (mVar 0) (mVar 1)) (mCon (.int 0))) (gNm 2)) (mSeq (mAsg (mBin mulB (mBin mulB (mBin mulB (mBin mulB (mBin powB (mCon (.int 10)) (mCon (.int 60))) (mBin powB (mCon (.int 10)) (mCon (.int 60)))) (mBin powB (mCon (.int 10)) (mCon (.int 60)))) (mBin powB (mCon (.int 10)) (mCon (.int 60)))) (mBin powB (mCon (.int 10)) (mCon (.int 60)))) (gNm 3)) (mSeq (mAsg (mBin mulB (mBin modD (mVar 2) (mVar 3)) (zav intC (zae (mBin geD (mVar 2) (mBin powB (mCon (.int 10)) (mCon (.int 18)))) (mNil)))) (gNm 4)) (mRet (mLst (zae (mVar 4) (zae (mBin modD (mBin addD (mBin modD (mVar 2) (mCon (.int 2305843009213693951))) (mBin mulA (mCon (.int 7919)) (mVar 1))) (mCon (.int 2305843009213693951))) (zae (mCon (.int 0)) (mNil))))))))
def zb5:GN:=fnM 5 zcz
def zbT:MS:=mSeq (mIf (mTst (mBin gtD (mBin ixA (mVar 0) (mCon (.int 0))) (mCon (.int 0)))) (mSeq (mAsg (mBin modD (mBin ixA (mVar 0) (mCon (.int 0))) (mVar 1)) (gNm 2)) (mSeq (putA (mVar 0) (mCon (.int 0)) (mBin zkP (mBin ixA (mVar 0) (mCon (.int 0))) (mVar 1))) (mRet (mVar 2)))) (zdm)) (mSeq (putA (mVar 0) (mCon (.int 2)) (mBin addD (mBin ixA (mVar 0) (mCon (.int 2))) (mCon (.int 1)))) (mSeq (mAsg (mBin modD (mBin mulA (mBin addD (mBin addD (mBin ixA (mVar 0) (mCon (.int 1))) (mBin mulA (mBin mulA (mCon (.int 104729)) (mBin ixA (mVar 0) (mCon (.int 2)))) (mBin ixA (mVar 0) (mCon (.int 2))))) (mBin mulA (mCon (.int 31)) (mBin ixA (mVar 0) (mCon (.int 2))))) (mCon (.int 48271))) (mCon (.int 2305843009213693921))) (gNm 3)) (mSeq (mAsg (mBin modD (mBin mulA (mVar 3) (mBin addD (mBin modD (mVar 3) (mCon (.int 1000003))) (mBin mulA (mCon (.int 39373)) (mBin ixA (mVar 0) (mCon (.int 2)))))) (mCon (.int 2305843009213693907))) (gNm 3)) (mRet (mBin modD (mBin addD (mBin zkP (mVar 3) (mCon (.int 65537))) (mBin zkP (mVar 3) (mCon (.int 1000033)))) (mVar 1))))))
def zac:GN:=fnM 4 zbT
def za7:ME:=mBin mulA (mBin ixA (mVar 1) (mVar 2)) (mBin addD (mVar 0) (mCon (.int 1)))
def za6:ME:=mBin mulA (mBin ixA (mVar 1) (mBin modD (mBin addD (mVar 2) (mBin mulA (mVar 3) (mVar 0))) (mCon (.int 26)))) (mBin addD (mCon (.int 1)) (mBin modD (mBin addD (mBin mulA (mVar 0) (mVar 0)) (mVar 2)) (mCon (.int 8))))
def zcx:MS:=mSeq (mAsg (mCon (.str "abcdefghijklmnopqrstuvwxyz")) (gNm 2)) (mSeq (mAsg (mTup (zae (zav zac (zae (mVar 0) (zae (mCon (.int 26)) (mNil)))) (zae (mBin ixA (mLst (zae (mCon (.int 1)) (zae (mCon (.int 3)) (zae (mCon (.int 5)) (zae (mCon (.int 7)) (zae (mCon (.int 9)) (zae (mCon (.int 11)) (mNil)))))))) (zav zac (zae (mVar 0) (zae (mCon (.int 6)) (mNil))))) (mNil)))) (gTp 2 (gC (gNm 3) (gC (gNm 4) (gN0))))) (mSeq (mIf (mTst (mBin eqD (zav zac (zae (mVar 0) (zae (mCon (.int 3)) (mNil)))) (mCon (.int 0)))) (mRet (zde (mR1 (mVar 1)) 1 [2,3] (gNm 0) (zco) (za7))) (zdm)) (mRet (zav zcr (zae (zde (mR1 (mVar 1)) 1 [2,3,4] (gNm 0) (zco) (za6)) (mNil))))))
def zb2:GN:=fnM 5 zcx
def za1:ME:=mBin ixA (mBin addD (mLst (zae (mCon (.str "")) (mNil))) (mVar 1)) (zav zac (zae (mVar 2) (zae (mBin addD (zav lenD (zae (mVar 1) (mNil))) (mCon (.int 1))) (mNil))))
def zeo:MS:=mSeq (mAsg (mBin ixA (mLst (zae (mCon (.str "")) (zae (mBin ixA (mCon (.str "abcdefghijklmnopqrstuvwxyz0123456789")) (zav zac (zae (mVar 0) (zae (mCon (.int 36)) (mNil))))) (mNil)))) (zav zac (zae (mVar 0) (zae (mCon (.int 2)) (mNil))))) (gNm 2)) (mSeq (mAsg (zde (mR1 (mCon (.int 4))) 1 [1,0] (gNm 0) (zco) (za1)) (gNm 3)) (mRet (mTup (zae (mVar 2) (zae (mBin ixA (mVar 3) (mCon (.int 0))) (zae (mBin ixA (mVar 3) (mCon (.int 1))) (zae (mBin ixA (mVar 3) (mCon (.int 2))) (zae (mBin ixA (mVar 3) (mCon (.int 3))) (mNil)))))))))
def zck:GN:=fnM 4 zeo
def za8:ME:=mTup (zae (mVar 0) (zae (mBin ixA (mLst (zae (mCon (.int 1)) (zae (mCon (.int 2)) (zae (mCon (.int 1)) (zae (mBin addD (mCon (.int 1)) (zav zac (zae (mVar 1) (zae (mCon (.int 4)) (mNil))))) (mNil)))))) (zav zac (zae (mVar 1) (zae (mCon (.int 4)) (mNil))))) (mNil)))
def zbo:ME:=zav zck (zae (mVar 1) (zae (mVar 2) (mNil)))
def zcy:MS:=mSeq (mAsg (zav zb2 (zae (mVar 0) (zae (mBin addD (mCon (.int 1)) (zav zac (zae (mVar 0) (zae (mCon (.int 4)) (mNil))))) (mNil)))) (gNm 1)) (mSeq (mAsg (mBin ixA (mLst (zae (mCon (.int 1)) (zae (mCon (.int 1)) (zae (mCon (.int 2)) (zae (mCon (.int 2)) (zae (mCon (.int 1)) (zae (mCon (.int 3)) (zae (mCon (.int 4)) (zae (mCon (.int 2)) (mNil)))))))))) (zav zac (zae (mVar 0) (zae (mCon (.int 8)) (mNil))))) (gNm 2)) (mSeq (mAsg (zav zc0 (zae (zde (mWA (mVar 1)) 1 [0] (gNm 0) (zco) (za8)) (mNil))) (gNm 3)) (mSeq (mAsg (zde (mR1 (mBin addD (mCon (.int 1)) (zav zac (zae (mVar 0) (zae (mBin ixA (mLst (zae (mCon (.int 3)) (zae (mCon (.int 5)) (zae (mCon (.int 5)) (zae (mCon (.int 12)) (mNil)))))) (zav zac (zae (mVar 0) (zae (mCon (.int 4)) (mNil))))) (mNil)))))) 1 [0,1] (gNm 0) (zco) (zbo)) (gNm 4)) (mSeq (mIf (mTst (mBin eqD (zav zac (zae (mVar 0) (zae (mCon (.int 6)) (mNil)))) (mCon (.int 0)))) (mExp (mApp (mVar 4) (zae (mBin ixA (mVar 4) (zav zac (zae (mVar 0) (zae (zav lenD (zae (mVar 4) (mNil))) (mNil))))) (mNil)))) (zdm)) (mRet (mTup (zae (mVar 2) (zae (mVar 3) (zae (zav zc0 (zae (mVar 4) (mNil))) (mNil))))))))))
def zb4:GN:=fnM 5 zcy
def zaT:MS:=mSeq (mAsg (mTup (zae (zav zac (zae (mVar 0) (zae (mBin ixA (mVar 2) (mCon (.int 0))) (mNil)))) (zae (zav zac (zae (mVar 0) (zae (mBin ixA (mVar 2) (mCon (.int 1))) (mNil)))) (mNil)))) (gNm 6)) (putA (mVar 4) (mVar 6) (zav zac (zae (mVar 0) (zae (zav lenD (zae (mBin ixA (mVar 1) (mCon (.int 2))) (mNil))) (mNil)))))
def zaV:ME:=mBin addD (mVar 0) (mTup (zae (mBin zlU (mVar 1) (mVar 0)) (mNil)))
def zcw:MS:=mSeq (mAsg (znT true) (gNm 4)) (mSeq (mFor (mR1 (zav zac (zae (mVar 0) (zae (mBin addD (mVar 3) (mCon (.int 1))) (mNil))))) (gNm 5) (zaT)) (mRet (zav zc0 (zae (zav zcr (zae (zde (mWK (mVar 4)) 1 [4] (gNm 0) (zco) (zaV)) (mNil))) (mNil)))))
def zaU:GN:=fnM 7 zcw
def zcF:MS:=mSeq (mAsg (zav zb4 (zae (mVar 0) (mNil))) (gNm 1)) (mSeq (mAsg (mTup (zae (mBin addD (mCon (.int 1)) (zav zac (zae (mVar 0) (zae (mCon (.int 5)) (mNil))))) (zae (mBin addD (mCon (.int 1)) (zav zac (zae (mVar 0) (zae (mBin ixA (mLst (zae (mCon (.int 5)) (zae (mCon (.int 5)) (zae (mCon (.int 5)) (zae (mCon (.int 12)) (mNil)))))) (zav zac (zae (mVar 0) (zae (mCon (.int 4)) (mNil))))) (mNil))))) (mNil)))) (gNm 2)) (mSeq (mIf (mTst (mBin eqD (zav zac (zae (mVar 0) (zae (mCon (.int 2)) (mNil)))) (mCon (.int 0)))) (mAsg (zsx (mVar 2) (mNeg (mCon (.int 1)))) (gNm 2)) (zdm)) (mRet (mTup (zae (mVar 1) (zae (mVar 2) (zae (zav zaU (zae (mVar 0) (zae (mVar 1) (zae (mVar 2) (zae (mBin ixA (mLst (zae (mCon (.int 1)) (zae (mCon (.int 2)) (zae (mCon (.int 6)) (mNil))))) (zav zac (zae (mVar 0) (zae (mCon (.int 3)) (mNil))))) (mNil)))))) (mNil))))))))
def zcE:GN:=fnM 3 zcF
def zbn:ME:=mTup (zae (mTup (zae (mVar 0) (zae (mVar 1) (mNil)))) (zae (mVar 2) (mNil)))
def zdE:MS:=mRet (zav zqA (zae (zde (mWA (mVar 0)) 3 [] (gTp 3 (gC (gNm 0) (gC (gNm 1) (gC (gNm 2) (gN0))))) (zco) (zbn)) (mNil)))
def zb3:GN:=fnM 1 zdE
def zen:MS:=mSeq (mAsg (mVar 0) (gTp 2 (gC (gNm 2) (gC (gNm 3) (gN0))))) (mRet (mBin ixA (mLst (zae (mTup (zae (mVar 2) (zae (mBin addD (mVar 3) (mCon (.int 1))) (mNil)))) (zae (mTup (zae (mBin addD (mVar 2) (mCon (.int 1))) (zae (mVar 3) (mNil)))) (zae (mTup (zae (mVar 2) (zae (mBin subD (mVar 3) (mCon (.int 1))) (mNil)))) (zae (mTup (zae (mBin subD (mVar 2) (mCon (.int 1))) (zae (mVar 3) (mNil)))) (mNil)))))) (mVar 1)))
def zaM:GN:=fnM 4 zen
def zaP:MS:=mSeq (mAsg (znS (mVar 1) (zav zaM (zae (mVar 2) (zae (mVar 6) (mNil))))) (gNm 7)) (mSeq (mAsg (mBin ixA (mBin ixA (mVar 4) (mVar 3)) (mBin addD (mVar 6) (mCon (.int 1)))) (gNm 8)) (mIf (zms (mTst (mBin zmm (mVar 7) (mCon .non))) (zms (mTst (mBin neD (mVar 8) (mCon (.str "")))) (mTst (mBin eqD (mBin ixA (mBin ixA (mVar 4) (mVar 7)) (mBin addD (mBin modD (mBin addD (mVar 6) (mCon (.int 2))) (mCon (.int 4))) (mCon (.int 1)))) (mVar 8))))) (mExp (mApp (mVar 5) (zae (mVar 6) (mNil)))) (zdm)))
def zdD:MS:=mSeq (mPar 4 5 (zae (mBin ixA (mBin ixA (mVar 0) (mCon (.int 0))) (mCon (.int 2))) (zae (mLst (mNil)) (mNil)))) (mSeq (mFor (mR1 (mCon (.int 4))) (gNm 6) (zaP)) (mRet (mVar 5)))
def zb1:GN:=fnM 9 zdD
def zbS:ME:=mBin ixA (mVar 1) (mBin ixA (mBin ixA (mBin ixA (mBin ixA (mVar 2) (mCon (.int 0))) (mCon (.int 2))) (mVar 3)) (mBin addD (mVar 0) (mCon (.int 1))))
def zep:MS:=mSeq (mAsg (zav zb1 (zae (mVar 0) (zae (mVar 1) (zae (mVar 2) (zae (mVar 3) (mNil)))))) (gNm 4)) (mSeq (mIf (mTst (mBin eqD (mVar 4) (mLst (mNil)))) (mRet (mCon (.int 0))) (zdm)) (mSeq (mAsg (zav zoG (zae (mBin ixA (mBin ixA (mVar 0) (mCon (.int 0))) (mCon (.int 1))) (mNil))) (gNm 5)) (mRet (zav sumC (zae (zde (mWA (mVar 4)) 1 [5,0,3] (gNm 0) (zco) (zbS)) (mNil))))))
def zce:GN:=fnM 6 zep
end L2.MP.Hd
namespace L2.MP
open PySem
@[simp] theorem zuu(n:Nat)(ds:List D):rho n ds=ds.map some++Bx (n - ds.length) none:=rfl
@[simp] theorem ztq(ρ:Rho)(n:Nat)(l:List Nat):rho0 ρ n l=Bx n none++l.map fun (j:Nat)=>(ρ[j]?).join:=rfl
@[simp] theorem zuW{a b:Int}{st:Sto}:ltD (.int a) (.int b) st=some (.bl (decide (a < b)),st):=rfl
@[simp] theorem zuX{a b:Int}{st:Sto}:leD (.int a) (.int b) st=some (.bl (decide (a<=b)),st):=rfl
@[simp] theorem zu0{a b:Int}{st:Sto}:gtD (.int a) (.int b) st=some (.bl (decide (b < a)),st):=rfl
@[simp] theorem zu1{a b:Int}{st:Sto}:geD (.int a) (.int b) st=some (.bl (decide (b<=a)),st):=rfl
@[simp] theorem zuZ{a:Int}{st:Sto}:intC [.int a] st=some (.int a,st):=rfl
@[simp] theorem zuY{b:Bool}{st:Sto}:intC [.bl b] st=some (.int (if b then 1 else 0),st):=rfl
end L2.MP
namespace L2.MP.Hd
open PySem L2.MP
def PotD(n m:Nat)(st:Sto):Prop:=∃ a b c:Int,st[n]?=some (.lst [.int a,.int b,.int c])/\0<=a/\0<=b/\b < 2305843009213693951/\0<=c/\c<=(m:Int)
def PotD.lt{n m:Nat}{st:Sto}(h:PotD n m st):n < st.length:=by
 obtain⟨a,b,c,e,_⟩:=h;exact getElem?_lt e
def PotD.ne{n m:Nat}{st:Sto}(h:PotD n m st):st.length≠n:=CJ h.lt
def PotD.gr{n m:Nat}{st st':Sto}(h:PotD n m st)(g:Gr st st'):PotD n m st':=by
 obtain⟨a,b,c,e,r⟩:=h;exact⟨a,b,c,(g.old n (getElem?_lt e)).trans e,r⟩
def PotD.up{n m k:Nat}{st:Sto}(h:PotD n m st)(hk:m<=k):PotD n k st:=by
 obtain⟨a,b,c,e,h1,h2,h3,h4,h5⟩:=h;exact⟨a,b,c,e,h1,h2,h3,h4,by omega⟩
def PotD.set{n m l:Nat}{st:Sto}{o:O}(h:PotD n m st)(hl:l≠n):PotD n m (st.set l o):=by
 obtain⟨a,b,c,e,r⟩:=h;exact⟨a,b,c,by rw[Ai hl];exact e,r⟩
def ztj{a b:Int}{st:Sto}(h:in64 a=true):mulA (.int a) (.int b) st=some (.int (a*b),st):=by simp[mulA,orG,mulD,intD,h,zf1]
def mul_r{a b:Int}{st:Sto}(h:in64 b=true):mulA (.int a) (.int b) st=some (.int (a*b),st):=by simp[mulA,orG,mulD,intD,h,zf1]
def ziQ{a b:Int}{st:Sto}(h:0 < b):modD (.int a) (.int b) st=some (.int (a % b),st):=by simp[modD,intD,h]
def zsW{a b:Int}{st:Sto}(h:0 < b)(h2:b < 340282366920938463463374607431768211456):zkP (.int a) (.int b) st=some (.int (a / b),st):=by simp[zkP,intD,h,h2]
def zsc{n:Nat}{a b c many:Int}{st s1:Sto}(i0:ixA (.ref n) (.int 0) st=some (.int a,st))(ha:0 < a)(e1:modD (.int a) (.int many) st=some (.int b,st))(e2:zkP (.int a) (.int many) st=some (.int c,st))(hs:setD (.ref n) (.int 0) (.int c) st=some s1):zbT [some (.ref n),some (.int many),none,none] st=some (.rt (.int b),s1):=by
 unfold zbT;refine zfT ?_;have et:mTst (mBin gtD (mBin ixA (mVar 0) (mCon (.int 0))) (mCon (.int 0))) [some (.ref n),some (.int many),none,none] st=some (true,st):=by simp[zaX,i0,ha]
 rw[zl7,et];refine zan (ρ1:=[some (.ref n),some (.int many),some (.int b),none]) (s1:=st) (by simp[zaX,i0,e1]) ?_;refine zan (ρ1:=[some (.ref n),some (.int many),some (.int b),none]) (s1:=s1) (by simp[zaX,i0,e2,hs]) ?_;simp[zaX]
def zsu{n:Nat}{a b c d m1 m2 x1 x2 x3 x4 x5 x6 x7 x8 r many:Int}{st s1:Sto}(i0:ixA (.ref n) (.int 0) st=some (.int a,st))(ha:¬ 0 < a)(i2:ixA (.ref n) (.int 2) st=some (.int c,st))(hd:c+1=d)(hs:setD (.ref n) (.int 2) (.int d) st=some s1)
   (j1:ixA (.ref n) (.int 1) s1=some (.int b,s1)) (j2:ixA (.ref n) (.int 2) s1=some (.int d,s1))
   (e1:mulA (.int 104729) (.int d) s1=some (.int x1,s1)) (e2:mulA (.int x1) (.int d) s1=some (.int x2,s1)) (e3:mulA (.int 31) (.int d) s1=some (.int x3,s1)) (e4:mulA (.int (b+x2+x3)) (.int 48271) s1=some (.int x4,s1)) (e5:modD (.int x4) (.int 2305843009213693921) s1=some (.int m1,s1))
   (e6:modD (.int m1) (.int 1000003) s1=some (.int x5,s1)) (e7:mulA (.int 39373) (.int d) s1=some (.int x6,s1)) (e8:mulA (.int m1) (.int (x5+x6)) s1=some (.int x7,s1)) (e9:modD (.int x7) (.int 2305843009213693907) s1=some (.int m2,s1))
   (e10:zkP (.int m2) (.int 65537) s1=some (.int x8,s1)) {x9:Int} (e11:zkP (.int m2) (.int 1000033) s1=some (.int x9,s1)) (e12:modD (.int (x8+x9)) (.int many) s1=some (.int r,s1)) :
   zbT [some (.ref n),some (.int many),none,none] st=some (.rt (.int r),s1):=by
 unfold zbT;have et:mTst (mBin gtD (mBin ixA (mVar 0) (mCon (.int 0))) (mCon (.int 0))) [some (.ref n),some (.int many),none,none] st=some (false,st):=by simp[zaX,i0,ha]
 refine zan (ρ1:=[some (.ref n),some (.int many),none,none]) (s1:=st) (by rw[zl7,et];rfl) ?_;refine zan (ρ1:=[some (.ref n),some (.int many),none,none]) (s1:=s1) (by simp[zaX,i2,hd,hs]) ?_;refine zan (ρ1:=[some (.ref n),some (.int many),none,some (.int m1)]) (s1:=s1) (by simp[zaX,j1,j2,e1,e2,e3,e4,e5]) ?_;refine zan (ρ1:=[some (.ref n),some (.int many),none,some (.int m2)]) (s1:=s1) (by simp[zaX,j2,e6,e7,e8,e9]) ?_;simp[zaX,e10,e11,e12]
def zbt{n m:Nat}{st:Sto}{many:Int}(h:PotD n m st)(hm:m<=1000000)(h1:0 < many)(h2:many < 18446744073709551616):∃ (r:Int) (st':Sto),Y5 (zac [.ref n,.int many] st=some (.int r,st')) (0<=r) (r < many) (PotD n (m+1) st') (Fr n st st'):=by
 obtain⟨a,b,c,e,ha,hb,hb2,hc,hc2⟩:=h;have hn:=getElem?_lt e;have i0:ixA (.ref n) (.int 0) st=some (.int a,st):=zcp e (by decide) rfl
 by_cases h0:0 < a
 . have hs:setD (.ref n) (.int 0) (.int (a / many)) st=some (st.set n (.lst [.int (a / many),.int b,.int c])):=by simp[setD,e,ixN]
   have ed:zkP (.int a) (.int many) st=some (.int (a / many),st):=zsW h1 (by omega);exact⟨a % many,_,zcn (zsc i0 h0 (ziQ h1) ed hs),B1 _ (by omega),BI _ h1,⟨a / many,b,c,by simp[hn],Int.ediv_nonneg ha (by omega),hb,hb2,hc,by omega⟩,Gb _ _ _⟩
 . have i2:ixA (.ref n) (.int 2) st=some (.int c,st):=zcp e (by decide) rfl;obtain⟨d,hd⟩:∃ d,c+1=d:=⟨_,rfl⟩
   have hs:setD (.ref n) (.int 2) (.int d) st=some (st.set n (.lst [.int a,.int b,.int d])):=by simp[setD,e,ixN]
   have e':(st.set n (.lst [.int a,.int b,.int d]))[n]?=some (.lst [.int a,.int b,.int d]):=by simp[hn]
   have f:Fr n st (st.set n (.lst [.int a,.int b,.int d])):=Gb _ _ _;generalize st.set n (.lst [.int a,.int b,.int d])=s1 at hs e' f;have j1:ixA (.ref n) (.int 1) s1=some (.int b,s1):=zcp e' (by decide) rfl;have j2:ixA (.ref n) (.int 2) s1=some (.int d,s1):=zcp e' (by decide) rfl;have k1:in64 d=true:=by unfold in64;simp;omega
   have k2:in64 48271=true:=by decide
   have k3:∀ x:Int,in64 (x % 2305843009213693921)=true:=fun x=>by
     have h1:=B1 x (show (2305843009213693921:Int)≠0 by decide);have h2:=BI x (show (0:Int) < 2305843009213693921 by decide);unfold in64;simp;omega
   refine⟨_,s1,zcn (zsu i0 h0 i2 hd hs j1 j2 (mul_r k1) (mul_r k1) (mul_r k1) (mul_r k2) (ziQ (by decide)) (ziQ (by decide)) (mul_r k1) (ztj (k3 _)) (ziQ (by decide)) (zsW (by decide) (by decide)) (zsW (by decide) (by decide)) (ziQ h1)),B1 _ (by omega),BI _ h1,⟨a,b,d,e',ha,hb,hb2,by omega,by omega⟩,f⟩
def zsT(st:Sto):∃ F:Int,Y3 (0 < F) (F.natAbs < 2 ^ 1100) (∀ ρ:Rho,mBin mulB (mBin mulB (mBin mulB (mBin mulB (mBin powB (mCon (.int 10)) (mCon (.int 60))) (mBin powB (mCon (.int 10)) (mCon (.int 60)))) (mBin powB (mCon (.int 10)) (mCon (.int 60)))) (mBin powB (mCon (.int 10)) (mCon (.int 60)))) (mBin powB (mCon (.int 10)) (mCon (.int 60))) ρ st=some (.int F,st)) :=
 ⟨10 ^ 300,by decide +kernel,by decide +kernel,fun ρ=>by
   have e0:mBin powB (mCon (.int 10)) (mCon (.int 60)) ρ st=some (.int (10 ^ 60),st):=by
     rw[ziN];simp only[zox,Ae];have:(decide ((0:Int)<=60)&&decide ((Builtin.Int.intBits 10:Int)*60<=2 ^ 27))=true:=by decide +kernel
     unfold powB intD;dsimp only;rw[if_pos this];rfl
   have e1:∀ (i j k:Nat),i+j=k->(decide (Builtin.Int.intBits ((10:Int) ^ i)<=2 ^ 20)&&decide (Builtin.Int.intBits ((10:Int) ^ j)<=2 ^ 20))=true->mulB (.int (10 ^ i)) (.int (10 ^ j)) st=some (.int (10 ^ k),st):=fun i j k hk h=>by
     unfold mulB intD;dsimp only;rw[if_pos h,<-hk,Int.pow_add]
   have q1:=e1 60 60 120 rfl (by decide +kernel);have q2:=e1 120 60 180 rfl (by decide +kernel);have q3:=e1 180 60 240 rfl (by decide +kernel);have q4:=e1 240 60 300 rfl (by decide +kernel);have h0:=e0;generalize (10:Int) ^ 60=a1 at *;generalize (10:Int) ^ 120=a2 at *;generalize (10:Int) ^ 180=a3 at *;generalize (10:Int) ^ 240=a4 at *;generalize (10:Int) ^ 300=a5 at *;simp only[ziN,zox,Ae] at e0;simp only[ziN,zox,Ae,e0,q1,q2,q3,q4]⟩
theorem ztA(ρ:Rho)(st:Sto):mBin powB (mCon (.int 10)) (mCon (.int 18)) ρ st=some (.int 1000000000000000000,st):=rfl
def znI{a b:Int}{st:Sto}(ha:Builtin.Int.intBits a<=2 ^ 20)(hb:b=0\/b=1):mulB (.int a) (.int b) st=some (.int (a*b),st):=by
 have h1:Builtin.Int.intBits b<=2 ^ 20:=by rcases hb with rfl | rfl <;> decide +kernel
 unfold mulB intD;dsimp only;rw[if_pos];rw[decide_eq_true ha,decide_eq_true h1];rfl
def zqL{a F:Int}(h0:0<=a)(h1:a < F)(hF:F.natAbs < 2 ^ 1100):Builtin.Int.intBits a<=2 ^ 20:=by
 have h2:a.natAbs < F.natAbs:=by omega
 exact Az (PyProof.Rows.intBits_le (BU h2 hF)) (by decide)
theorem zow{c:MT}{m n:ME}{ρ:Rho}{st:Sto}:mIte c m n ρ st=(c ρ st).bind fun p=>if p.1=true then m ρ p.2 else n ρ p.2:=rfl
def zos{ds:List D}{k cell F own b x2 x3:Int}{st:Sto}
   (e0:mIte (mTst (mBin ltD (mVar 1) (zav lenD (zae (mVar 0) (mNil))))) (mBin ixA (mVar 0) (mVar 1)) (mCon (.int 0)) [some (.kl ds),some (.int k),none,none,none] st=some (.int cell,st))
   (e1:mBin mulB (mBin mulB (mBin mulB (mBin mulB (mBin powB (mCon (.int 10)) (mCon (.int 60))) (mBin powB (mCon (.int 10)) (mCon (.int 60)))) (mBin powB (mCon (.int 10)) (mCon (.int 60)))) (mBin powB (mCon (.int 10)) (mCon (.int 60)))) (mBin powB (mCon (.int 10)) (mCon (.int 60))) [some (.kl ds),some (.int k),some (.int cell),none,none] st=some (.int F,st))
   (e2:mBin mulB (mBin modD (mVar 2) (mVar 3)) (zav intC (zae (mBin geD (mVar 2) (mBin powB (mCon (.int 10)) (mCon (.int 18)))) (mNil))) [some (.kl ds),some (.int k),some (.int cell),some (.int F),none] st=some (.int own,st))
   (e3:modD (.int cell) (.int 2305843009213693951) st=some (.int x2,st)) (e4:mulA (.int 7919) (.int k) st=some (.int x3,st)) (e5:modD (.int (x2+x3)) (.int 2305843009213693951) st=some (.int b,st)) :
   zcz [some (.kl ds),some (.int k),none,none,none] st=some (.rt (.ref st.length),st++[.lst [.int own,.int b,.int 0]]):=by
 unfold zcz;refine zan (ρ1:=[some (.kl ds),some (.int k),some (.int cell),none,none]) (s1:=st) (by rw[zgv,e0];rfl) ?_;refine zan (ρ1:=[some (.kl ds),some (.int k),some (.int cell),some (.int F),none]) (s1:=st) (by rw[zgv,e1];rfl) ?_;refine zan (ρ1:=[some (.kl ds),some (.int k),some (.int cell),some (.int F),some (.int own)]) (s1:=st) (by rw[zgv,e2];rfl) ?_;simp[zaX,e3,e4,e5]
def zsd{ds:List D}{k cell F:Int}{st:Sto}(h0:0 < F)(hF:F.natAbs < 2 ^ 1100):∃ own:Int,0<=own/\mBin mulB (mBin modD (mVar 2) (mVar 3)) (zav intC (zae (mBin geD (mVar 2) (mBin powB (mCon (.int 10)) (mCon (.int 18)))) (mNil))) [some (.kl ds),some (.int k),some (.int cell),some (.int F),none] st=some (.int own,st):=by
 have m0:=B1 cell (show F≠0 by omega);have m1:=BI cell h0;have e1:=ziQ (a:=cell) (st:=st) h0;generalize cell % F=x at m0 m1 e1;have hb:=zqL m0 m1 hF;have e18:=ztA [some (.kl ds),some (.int k),some (.int cell),some (.int F),none] st;have ei:∃ j:Int,(j=0\/j=1)/\zav intC (zae (mBin geD (mVar 2) (mBin powB (mCon (.int 10)) (mCon (.int 18)))) (mNil)) [some (.kl ds),some (.int k),some (.int cell),some (.int F),none] st=some (.int j,st):=by
   generalize mBin powB (mCon (.int 10)) (mCon (.int 18))=P18 at e18;refine⟨if decide (1000000000000000000<=cell)=true then 1 else 0,by split <;> simp,?_⟩;rw[zqV,zqU,ziN];simp only[zov,D3,CQ,Ae,e18,geD,cmpD,zs5];rfl
 obtain⟨j,hj,ej⟩:=ei;refine⟨x*j,by rcases hj with rfl | rfl <;> omega,?_⟩;have em:=znI (a:=x) (b:=j) (st:=st) hb hj;rw[ziN,ziN];simp only[zov,D3,CQ,Ae,e1];rw[ej];simp only[Ae];exact em
def zot{ns:List Int}{k:Int}{st:Sto}(h0:0<=k)(h1:k<=1000):∃ st',Y3 (zb5 [.kl (ns.map D.int),.int k] st=some (.ref st.length,st')) (PotD st.length 0 st') (Gr st st'):=by
 obtain⟨F,F0,F1,eF⟩:=zsT st;have ec:∃ cell:Int,mIte (mTst (mBin ltD (mVar 1) (zav lenD (zae (mVar 0) (mNil))))) (mBin ixA (mVar 0) (mVar 1)) (mCon (.int 0)) [some (.kl (ns.map D.int)),some (.int k),none,none,none] st=some (.int cell,st):=by
   by_cases hk:k < (ns.length:Int)
   . have hk':k.toNat < ns.length:=by omega
     have ex:ixA (.kl (ns.map D.int)) (.int k) st=some (.int ns[k.toNat],st):=zui h0 (by rw[AD,Ah hk'];rfl);exact⟨ns[k.toNat],by rw[zow];simp[zaX,znX,hk,ex]⟩
   . exact⟨0,by rw[zow];simp[zaX,znX,hk]⟩
 obtain⟨cell,ec⟩:=ec;obtain⟨own,o0,eo⟩:=zsd (ds:=ns.map D.int) (k:=k) (cell:=cell) (st:=st) F0 F1;have b0:=B1 (cell % 2305843009213693951+7919*k) (show (2305843009213693951:Int)≠0 by decide);have b1:=BI (cell % 2305843009213693951+7919*k) (show (0:Int) < 2305843009213693951 by decide);exact⟨_,zcn (zos ec (eF _) eo (ziQ (by decide)) (ztj (by decide)) (ziQ (by decide))),⟨own,_,0,zaQ _ _,o0,b0,b1,by decide,by decide⟩,Gr.app _ _⟩
end L2.MP.Hd
namespace L2.MP.Hd
open PySem L2.MP
open L2.MP.Hb (zdk zhx sgD)
noncomputable abbrev zaN:Str:=Hn.zaN
def zc8:∀ k:Nat,k < 26->zaN.cps[k]?=some (97+k):=Hn.zc8
structure NmOk(x:Str):Prop where
 len:x.cps.toList.length<=8
 ab:∀ c∈x.cps.toList,48<=c/\c<=122
def zl8{x:Str}(h:∀ c∈x.cps.toList,48<=c/\c<=122):Bg x=true:=by
 unfold Bg;rw[Array.all_eq_true'];intro c hc;have:=h c (by simpa using hc);simp;omega
def zdj:NmOk "":=⟨by decide,by decide⟩
def zpW{c:Nat}{k:Int}(h1:1<=k)(h8:k<=8)(c1:48<=c)(c2:c<=122):NmOk (repS ⟨#[c]⟩ k):=by
 refine⟨by rw[zhx h1,BE];omega,fun x hx=>?_⟩;rw[zhx h1] at hx;rw[List.eq_of_mem_replicate hx];exact⟨c1,c2⟩
def zle{m:ME}{ρ:Rho}{st:Sto}{k:Nat}(e:m ρ st=some (.int (k:Int),st))(hk:k<=1000):mR1 m ρ st=some (⟨run 0 k,[]⟩,st):=by
 have sm:small (k:Int)=true:=zbV (by omega) (by omega);rw[ztu,e,Ae];simp only[sm,if_true];rw[Br]
def zlf{m:ME}{ρ:Rho}{st s1:Sto}{k:Nat}{M:Int}(hM:M=(k:Int))(e:m ρ st=some (.int M,s1))(hk:k<=1000):mR1 m ρ st=some (⟨run 0 k,[]⟩,s1):=by
 have sm:small M=true:=zbV (by omega) (by omega);rw[ztu,e,Ae];simp only[sm,if_true];rw[hM,Br]
def run_map(k:Nat):run 0 k=(AA k).map fun (i:Nat)=>D.int (i:Int):=by
 unfold run;apply Do;intro i _;rw[Int.zero_add]
def zdZ{j k:Nat}{d:D}(h:(run 0 j)[k]?=some d):k < j/\d=.int (k:Int):=by
 have hk:=getElem?_lt h;rw[zbW] at hk;rw[run_map,AD,Dm hk] at h;exact⟨hk,by cases h;rfl⟩
def zlv{x r1:Int}{c:Nat}{st:Sto}{y:D}(ix1:∀ s:Sto,ixA (.str zaN) (.int r1) s=some (sgD c,s))(em:mulA (sgD c) (.int (x+1)) st=some (y,st)):za7 [some (.int x),some (.str zaN),some (.int r1)] st=some (y,st):=by
 unfold za7;simp[ix1,em]
def zlw{m:Nat}{r1:Int}{st:Sto}(hm:m<=8)(r10:0<=r1)(r11:r1 < 26):∃ ts:List Str,Y3 (ts.length=m) ((∀ x∈ts,NmOk x)) (mCI ⟨run 0 m,[]⟩ (gNm 0) zco za7 (run 0 m) [none,some (.str zaN),some (.int r1)] st=some (ts.map D.str,st)):=by
 have ix1:∀ s:Sto,ixA (.str zaN) (.int r1) s=some (sgD (97+r1.toNat),s):=fun s=>zjY (by decide) r10 (zc8 _ (by omega));have c1:48<=97+r1.toNat:=by omega
 have c2:97+r1.toNat<=122:=by omega
 generalize 97+r1.toNat=c at ix1 c1 c2;refine⟨(AA m).map fun (i:Nat)=>repS ⟨#[c]⟩ ((i:Int)+1),by simp,fun x hx=>?_,?_⟩
 . obtain⟨i,hi,rfl⟩:=List.mem_map.mp hx;have:=List.mem_range.mp hi;exact zpW (by omega) (by omega) c1 c2
 have:∀ W:Wk,walked W st=true->mCI W (gNm 0) zco za7 (run 0 m) [none,some (.str zaN),some (.int r1)] st=some (((AA m).map fun (i:Nat)=>repS ⟨#[c]⟩ ((i:Int)+1)).map D.str,st):=by
   intro W hW;rw[run_map,A7];refine ziG (R:=fun ρ=>∃ x,ρ=[x,some (.str zaN),some (.int r1)]) ⟨none,rfl⟩ hW fun i hi ρ hρ=>?_;obtain⟨x,rfl⟩:=hρ;have hi:=List.mem_range.mp hi;have em:=zdk (c:=c) (n:=(i:Int)+1) (st:=st) (by omega) (by omega);exact⟨[some (.int (i:Int)),some (.str zaN),some (.int r1)],by simp,rfl,zlv ix1 em,⟨_,rfl⟩⟩
 exact this _ rfl
def zlt{x r1 w p1 p2 q1 q2:Int}{c:Nat}{st:Sto}{y:D}(e1:mulA (.int w) (.int x) st=some (.int p1,st))(e2:modD (.int (r1+p1)) (.int 26) st=some (.int p2,st))(ex:ixA (.str zaN) (.int p2) st=some (sgD c,st))(e3:mulA (.int x) (.int x) st=some (.int q1,st))(e4:modD (.int (q1+r1)) (.int 8) st=some (.int q2,st))(em:mulA (sgD c) (.int (1+q2)) st=some (y,st)):za6 [some (.int x),some (.str zaN),some (.int r1),some (.int w)] st=some (y,st):=by
 unfold za6;simp[e1,e2,ex,e3,e4,em]
def zlu{m:Nat}{r1 w:Int}{st:Sto}(hm:m<=8)(hw0:0<=w)(hw1:w<=11):∃ ts:List Str,Y3 (ts.length=m) ((∀ x∈ts,NmOk x)) (mCI ⟨run 0 m,[]⟩ (gNm 0) zco za6 (run 0 m) [none,some (.str zaN),some (.int r1),some (.int w)] st=some (ts.map D.str,st)):=by
 have key:=zoq (W:=⟨run 0 m,[]⟩) (g:=gNm 0) (c:=zco) (m:=za6) (ds:=run 0 m) (acc:=[]) (st:=st) (ρ:=[none,some (.str zaN),some (.int r1),some (.int w)])
   (Inv:=fun k a ρ s=>Y3 ((∃ x,ρ=[x,some (.str zaN),some (.int r1),some (.int w)])) ((∃ ts:List Str,a=ts.map D.str/\ts.length=k/\∀ x∈ts,NmOk x)) (s=st))
   ⟨⟨none,rfl⟩,⟨[],rfl,rfl,by simp⟩,rfl⟩ (fun _ _ _ _ _ _=>rfl) (fun k d a ρ s hd hI=>by
     obtain⟨⟨x,rfl⟩,⟨ts,rfl,hl,hn⟩,rfl⟩:=hI;obtain⟨hk,rfl⟩:=zdZ hd;have e1:mulA (.int w) (.int (k:Int)) s=some (.int (w*(k:Int)),s):=mul_int (by omega);have e2:modD (.int (r1+w*(k:Int))) (.int 26) s=some (.int ((r1+w*(k:Int)) % 26),s):=ziQ (by decide);have h1:=BI (r1+w*(k:Int)) (show (0:Int) < 26 by decide);have h2:=B1 (r1+w*(k:Int)) (show (26:Int)≠0 by decide);have e3:mulA (.int (k:Int)) (.int (k:Int)) s=some (.int ((k:Int)*(k:Int)),s):=mul_int (by omega);have e4:modD (.int ((k:Int)*(k:Int)+r1)) (.int 8) s=some (.int (((k:Int)*(k:Int)+r1) % 8),s):=ziQ (by decide);have h3:=BI ((k:Int)*(k:Int)+r1) (show (0:Int) < 8 by decide);have h4:=B1 ((k:Int)*(k:Int)+r1) (show (8:Int)≠0 by decide);generalize (r1+w*(k:Int)) % 26=p2 at e2 h1 h2;generalize ((k:Int)*(k:Int)+r1) % 8=q2 at e4 h3 h4;have ex:ixA (.str zaN) (.int p2) s=some (sgD (97+p2.toNat),s):=zjY (by decide) h2 (zc8 _ (by omega));have em:=zdk (c:=97+p2.toNat) (n:=1+q2) (st:=s) (by omega) (by omega);refine⟨[some (.int (k:Int)),some (.str zaN),some (.int r1),some (.int w)],s,true,s,rfl,rfl,.inl ⟨rfl,.str (repS ⟨#[97+p2.toNat]⟩ (1+q2)),s,zlt e1 e2 ex e3 e4 em,⟨_,rfl⟩,⟨ts++[repS ⟨#[97+p2.toNat]⟩ (1+q2)],by simp,by simp[hl],fun x hx=>?_⟩,rfl⟩⟩
     rcases List.mem_append.mp hx with hx | hx
     . exact hn x hx
     . rw[List.mem_singleton.mp hx];exact zpW (by omega) (by omega) (by omega) (by omega))
 obtain⟨xs,ρ',s',ec,_,⟨ts,hx,hl,hn⟩,rfl⟩:=key;rw[CI] at hx;subst hx;exact⟨ts,by rw[hl,zbW],hn,ec⟩
def znH{n m k:Nat}{st:Sto}{M:Int}(hM:M=(k:Int))(h:PotD n m st)(h1:k<=8)(hm:m<=900000):∃ (ss:List Str) (l:Nat) (st':Sto),Y7 (zb2 [.ref n,.int M] st=some (.ref l,st')) (st'[l]?=some (.lst (ss.map D.str))) (ss.length=k) ((∀ x∈ss,NmOk x)) (l≠n) (PotD n (m+3) st') (Fr n st st'):=by
 obtain⟨r1,s1,e1,r10,r11,p1,f1⟩:=zbt (many:=26) h (by omega) (by decide) (by decide);have p2:=p1.gr (Gr.app s1 [.lst [.int 1,.int 3,.int 5,.int 7,.int 9,.int 11]]);have f2:=Fr.app n s1 [.lst [.int 1,.int 3,.int 5,.int 7,.int 9,.int 11]];have a2:=zaQ s1 (.lst [.int 1,.int 3,.int 5,.int 7,.int 9,.int 11]);have hn2:=p1.ne;generalize hs2:s1++[O.lst [.int 1,.int 3,.int 5,.int 7,.int 9,.int 11]]=s2 at p2 f2 a2;obtain⟨r3,s3,e3,r30,r31,p3,f3⟩:=zbt (many:=6) p2 (by omega) (by decide) (by decide);have a3:=(f3.old _ (getElem?_lt a2) hn2).trans a2;obtain⟨w,hw,hw0,hw1⟩:∃ w:Int,[D.int 1,.int 3,.int 5,.int 7,.int 9,.int 11][r3.toNat]?=some (.int w)/\0<=w/\w<=11:=by
   have:r3=0\/r3=1\/r3=2\/r3=3\/r3=4\/r3=5:=by omega
   rcases this with rfl | rfl | rfl | rfl | rfl | rfl <;> exact⟨_,rfl,by decide,by decide⟩
 have i3:ixA (.ref s1.length) (.int r3) s3=some (.int w,s3):=zcp a3 r30 hw;obtain⟨r4,s4,e4,r40,r41,p4,f4⟩:=zbt (many:=3) p3 (by omega) (by decide) (by decide);have f14:Fr n st s4:=((f1.trans f2).trans f3).trans f4;have g1:mAsg (mTup (zae (zav zac (zae (mVar 0) (zae (mCon (.int 26)) (mNil)))) (zae (mBin ixA (mLst (zae (mCon (.int 1)) (zae (mCon (.int 3)) (zae (mCon (.int 5)) (zae (mCon (.int 7)) (zae (mCon (.int 9)) (zae (mCon (.int 11)) (mNil)))))))) (zav zac (zae (mVar 0) (zae (mCon (.int 6)) (mNil))))) (mNil)))) (gTp 2 (gC (gNm 3) (gC (gNm 4) (gN0))))
     [some (.ref n),some (.int M),some (.str zaN),none,none] st=some (.nx [some (.ref n),some (.int M),some (.str zaN),some (.int r1),some (.int w)],s3):=by
   simp[e1,hs2,e3,i3]
 by_cases hr:r4=0
 . subst hr;obtain⟨ts,ht,hn,ec⟩:=zlw (st:=s4) h1 r10 r11;have fl:fits (ts.map D.str).length=true:=zaw (by simp;omega);refine⟨ts,s4.length,s4++[.lst (ts.map D.str)],zcn ?_,zaQ _ _,ht,hn,p4.ne,p4.gr (Gr.app _ _),f14.trans (Fr.app _ _ _)⟩;generalize ts.map D.str=A at ec fl;unfold zcx;refine zan (ρ1:=[some (.ref n),some (.int M),some (.str zaN),none,none]) (s1:=st) (by simp) ?_;refine zan g1 (zfT ?_);have ecm:zde (mR1 (mVar 1)) 1 [2,3] (gNm 0) (zco) (za7) [some (.ref n),some (.int M),some (.str zaN),some (.int r1),some (.int w)] s4=some (.ref s4.length,s4++[.lst A]):=by
     rw[zaX,zlf (s1:=s4) (k:=k) hM (by simp) (by omega)];simp only[Ae];rw[show rho0 [some (.ref n),some (.int M),some (.str zaN),some (.int r1),some (.int w)] 1 [2,3]=[none,some (.str zaN),some (.int r1)] from rfl,ec];simp only[Ae,fl,if_true]
   simp[e4,eq_int,ecm]
 . obtain⟨ts,ht,hn,ec⟩:=zlu (r1:=r1) (st:=s4) h1 hw0 hw1;have fl:fits (ts.map D.str).length=true:=zaw (by simp;omega);have p5:=p4.gr (Gr.app s4 [.lst (ts.map D.str)]);have es:=Hn.ze1 (zaQ s4 (.lst (ts.map D.str))) (by omega);have f5:=Fr.app n s4 [.lst (ts.map D.str)];have hp:(zdx ts).Perm ts:=CC _ _;generalize hs5:s4++[O.lst (ts.map D.str)]=s5 at p5 es f5;refine⟨zdx ts,s5.length,s5++[.lst ((zdx ts).map D.str)],zcn ?_,zaQ _ _,by rw[<-ht];exact hp.length_eq,fun x hx=>hn x (hp.mem_iff.mp hx),p5.ne,p5.gr (Gr.app _ _),(f14.trans f5).trans (Fr.app _ _ _)⟩;generalize (zdx ts).map D.str=B at es;generalize ts.map D.str=A at ec fl hs5;unfold zcx;refine zan (ρ1:=[some (.ref n),some (.int M),some (.str zaN),none,none]) (s1:=st) (by simp) ?_;refine zan g1 ?_;refine zan (ρ1:=[some (.ref n),some (.int M),some (.str zaN),some (.int r1),some (.int w)]) (s1:=s4) (by simp[e4,eq_int,hr]) ?_;have ecm:zde (mR1 (mVar 1)) 1 [2,3,4] (gNm 0) (zco) (za6) [some (.ref n),some (.int M),some (.str zaN),some (.int r1),some (.int w)] s4=some (.ref s4.length,s5):=by
     rw[zaX,zlf (s1:=s4) (k:=k) hM (by simp) (by omega)];simp only[Ae];rw[show rho0 [some (.ref n),some (.int M),some (.str zaN),some (.int r1),some (.int w)] 1 [2,3,4]=[none,some (.str zaN),some (.int r1),some (.int w)] from rfl,ec];simp only[Ae,fl,if_true,hs5]
   simp[ecm,es]
end L2.MP.Hd
namespace L2.MP.Hd
open PySem L2.MP
open L2.MP.Hb (sgD)
noncomputable abbrev sg36:Str:="abcdefghijklmnopqrstuvwxyz0123456789"
def zo2:∀ k:Nat,k < 36->∃ c,sg36.cps[k]?=some c/\48<=c/\c<=122:=by
 have:∀ k:Nat,k < 36->(match sg36.cps[k]? with | some c=>decide (48<=c/\c<=122) | none=>false)=true:=by decide +kernel
 intro k hk;have:=this k hk
 split at this
 . rename_i c e;exact⟨c,e,of_decide_eq_true this⟩
 . cases this
structure KdOk(ss:List Str)(k:List Str):Prop where
 ex:∃ f ds,k=f::ds/\NmOk f/\ds.length=4/\∀ x∈ds,NmOk x/\(x=""\/x∈ss)
def zoZ{lN a:Nat}{r c:Int}{s s1 s2 s3:Sto}{v:Option D}{n:Nat}{y:D}(hs1:s++[.lst [.str ""]]=s1)(ea:addD (.ref s.length) (.ref lN) s1=some (.ref a,s2))(el:lenD [.ref lN] s2=some (.int c,s2))(en:zac [.ref n,.int (c+1)] s2=some (.int r,s3))(ex:ixA (.ref a) (.int r) s3=some (y,s3)) :
   za1 [v,some (.ref lN),some (.ref n)] s=some (y,s3):=by
 unfold za1;simp[hs1,ea,el,en,ex]
def zm4{n m lN:Nat}{ss:List Str}{st:Sto}(h:PotD n m st)(hN:st[lN]?=some (.lst (ss.map D.str)))(h1:lN≠n)(hl:ss.length<=100)(hn:∀ x∈ss,NmOk x)(hm:m<=800000) :
   ∃ (ds:List Str) (st':Sto),Y5 (mCI ⟨run 0 4,[]⟩ (gNm 0) zco za1 (run 0 4) [none,some (.ref lN),some (.ref n)] st=some (ds.map D.str,st')) (ds.length=4) ((∀ x∈ds,NmOk x/\(x=""\/x∈ss))) (PotD n (m+4) st') (Fr n st st'):=by
 have key:=zoq (W:=⟨run 0 4,[]⟩) (g:=gNm 0) (c:=zco) (m:=za1) (ds:=run 0 4) (acc:=[]) (st:=st) (ρ:=[none,some (.ref lN),some (.ref n)])
   (Inv:=fun k a ρ s=>Y4 ((∃ x,ρ=[x,some (.ref lN),some (.ref n)])) ((∃ ds:List Str,a=ds.map D.str/\ds.length=k/\∀ x∈ds,NmOk x/\(x=""\/x∈ss))) (PotD n (m+k) s) (Fr n st s))
   ⟨⟨_,rfl⟩,⟨[],rfl,rfl,by simp⟩,h,Fr.refl _ _⟩ (fun _ _ _ _ _ _=>rfl) (fun k d a ρ s hd hI=>by
     obtain⟨⟨x,rfl⟩,⟨ds,rfl,hlen,hok⟩,hp,hf⟩:=hI;have hk4:=(zdZ hd).1;have hN0:s[lN]?=some (.lst (ss.map D.str)):=(hf.old _ (getElem?_lt hN) h1).trans hN;have a1:=zaQ s (.lst [.str ""]);have hN1:(s++[O.lst [D.str ""]])[lN]?=some (.lst (ss.map D.str)):=by rw[Al (getElem?_lt hN0)];exact hN0
     have p1:=hp.gr (Gr.app s [.lst [.str ""]]);have f1:=Fr.app n s [.lst [.str ""]];generalize hs1:s++[O.lst [D.str ""]]=s1 at a1 hN1 p1 f1;have ea:=zqY a1 hN1 (by simp;omega);have a2:=zaQ s1 (.lst ([.str ""]++ss.map D.str));have hN2:(s1++[O.lst ([.str ""]++ss.map D.str)])[lN]?=some (.lst (ss.map D.str)):=by rw[Al (getElem?_lt hN1)];exact hN1
     have p2:=p1.gr (Gr.app s1 [.lst ([.str ""]++ss.map D.str)]);have f2:=Fr.app n s1 [.lst ([.str ""]++ss.map D.str)];have hn1:=p1.ne;generalize hs2:s1++[O.lst ([.str ""]++ss.map D.str)]=s2 at a2 hN2 p2 f2 ea;have el:=zmv hN2;rw[Ag] at el;obtain⟨r,s3,e3,r0,r1,p3,f3⟩:=zbt (many:=(ss.length:Int)+1) p2 (by omega) (by omega) (by omega);have a3:=(f3.old _ (getElem?_lt a2) hn1).trans a2;have hr:r.toNat < ((("":Str))::ss).length:=by simp;omega
     have hm:[D.str ""]++ss.map D.str=((("":Str))::ss).map D.str:=rfl;rw[hm] at a3;have ex:=zcp (x:=.str ((("":Str))::ss)[r.toNat]) a3 r0 (by rw[AD,Ah hr];rfl);have hmem:((("":Str))::ss)[r.toNat]∈("":Str)::ss:=Bm hr;generalize ((("":Str))::ss)[r.toNat]=y at ex hmem;have hy:NmOk y/\(y=""\/y∈ss):=by
       rcases List.mem_cons.mp hmem with rfl | h
       . exact⟨zdj,.inl rfl⟩
       . exact⟨hn y h,.inr h⟩
     refine⟨[some d,some (.ref lN),some (.ref n)],s,true,s,by simp,rfl,.inl ⟨rfl,.str y,s3,zoZ hs1 ea el e3 ex,⟨_,rfl⟩,⟨ds++[y],by simp,by simp[hlen],fun x hx=>?_⟩,p3,((hf.trans f1).trans f2).trans f3⟩⟩
     rcases List.mem_append.mp hx with hx | hx
     . exact hok x hx
     . rw[List.mem_singleton.mp hx];exact hy)
 obtain⟨xs,ρ',s',ec,_,⟨ds,hx,hlen,hok⟩,hp,hf⟩:=key;rw[CI] at hx;subst hx;rw[zbW] at hlen hp;exact⟨ds,s',ec,hlen,hok,hp,hf⟩
def zqi{n m lN:Nat}{ss:List Str}{st:Sto}(h:PotD n m st)(hN:st[lN]?=some (.lst (ss.map D.str)))(h1:lN≠n)(hl:ss.length<=100)(hn:∀ x∈ss,NmOk x)(hm:m<=700000) :
   ∃ (k:List Str) (st':Sto),Y4 (zck [.ref n,.ref lN] st=some (zbU k,st')) (KdOk ss k) (PotD n (m+6) st') (Fr n st st'):=by
 obtain⟨r1,s1,e1,r10,r11,p1,f1⟩:=zbt (many:=36) h (by omega) (by decide) (by decide);obtain⟨c1,g1,c10,c11⟩:=zo2 r1.toNat (by omega);have i1:ixA (.str sg36) (.int r1) s1=some (sgD c1,s1):=zjY (by decide) r10 g1;have a2:=zaQ s1 (.lst [.str "",sgD c1]);have p2:=p1.gr (Gr.app s1 [.lst [.str "",sgD c1]]);have f2:=Fr.app n s1 [.lst [.str "",sgD c1]];have hn2:=p1.ne;generalize hs2:s1++[O.lst [D.str "",sgD c1]]=s2 at a2 p2 f2;obtain⟨r3,s3,e3,r30,r31,p3,f3⟩:=zbt (many:=2) p2 (by omega) (by decide) (by decide);have a3:=(f3.old _ (getElem?_lt a2) hn2).trans a2;obtain⟨x,hx,fx⟩:∃ x:Str,[D.str "",sgD c1][r3.toNat]?=some (.str x)/\NmOk x:=by
   have:r3=0\/r3=1:=by omega
   rcases this with rfl | rfl
   . exact⟨"",rfl,zdj⟩
   . exact⟨⟨#[c1]⟩,rfl,⟨by simp,by simp;omega⟩⟩
 have i3:ixA (.ref s1.length) (.int r3) s3=some (.str x,s3):=zcp a3 r30 hx;have f13:Fr n st s3:=(f1.trans f2).trans f3;have hN3:=(f13.old _ (getElem?_lt hN) h1).trans hN;obtain⟨ds,s4,e4,hds,hok,p4,f4⟩:=zm4 p3 hN3 h1 hl hn (by omega);have fd:fits (ds.map D.str).length=true:=zaw (by simp;omega)
 match ds,hds,hok,e4,fd with
 | [a,b,c,d],_,hok,e4,fd =>
   have a5:=zaQ s4 (.lst [.str a,.str b,.str c,.str d]);have p5:=p4.gr (Gr.app s4 [.lst [.str a,.str b,.str c,.str d]]);have f5:=Fr.app n s4 [.lst [.str a,.str b,.str c,.str d]];have e4:mCI ⟨run 0 4,[]⟩ (gNm 0) zco za1 (run 0 4) [none,some (.ref lN),some (.ref n)] s3=some ([.str a,.str b,.str c,.str d],s4):=e4;generalize hs5:s4++[O.lst [.str a,.str b,.str c,.str d]]=s5 at a5 p5 f5;have j0:ixA (.ref s4.length) (.int 0) s5=some (.str a,s5):=zcp a5 (by decide) rfl;have j1:ixA (.ref s4.length) (.int 1) s5=some (.str b,s5):=zcp a5 (by decide) rfl;have j2:ixA (.ref s4.length) (.int 2) s5=some (.str c,s5):=zcp a5 (by decide) rfl;have j3:ixA (.ref s4.length) (.int 3) s5=some (.str d,s5):=zcp a5 (by decide) rfl;refine⟨[x,a,b,c,d],s5,zcn ?_,⟨x,[a,b,c,d],rfl,fx,rfl,hok⟩,p5.up (by omega),(f13.trans f4).trans f5⟩;unfold zeo;refine zan (ρ1:=[some (.ref n),some (.ref lN),some (.str x),none]) (s1:=s3) (by simp[e1,i1,hs2,e3,i3]) ?_;have ecm:zde (mR1 (mCon (.int 4))) 1 [1,0] (gNm 0) (zco) (za1) [some (.ref n),some (.ref lN),some (.str x),none] s3=some (.ref s4.length,s5):=by
     rw[zaX,zle (k:=4) rfl (by decide)];simp only[Ae];rw[show rho0 [some (.ref n),some (.ref lN),some (.str x),none] 1 [1,0]=[none,some (.ref lN),some (.ref n)] from rfl,e4];simp only[Ae,Ar,Bb,hs5];rfl
   refine zan (ρ1:=[some (.ref n),some (.ref lN),some (.str x),some (.ref s4.length)]) (s1:=s5) (by rw[zgv,ecm];rfl) ?_;simp[j0,j1,j2,j3,zbU]
def zfB(e:Int)(stk:List (Str×Int))(ks:List (List Str)):D:=.tup [.int e,.tup (stk.map zbL),.tup (ks.map zbU)]
structure HsOk(e:Int)(stk:List (Str×Int))(ks:List (List Str)):Prop where
 e0:1<=e
 e1:e<=4
 sl:stk.length<=8
 nm:∀ p∈stk,NmOk p.1/\1<=p.2/\p.2<=4
 lo:1<=ks.length
 hi:ks.length<=13
 kd:∀ k∈ks,KdOk (stk.map (·.1)) k
def zmT{n a:Nat}{nm:D}{r r2 y:Int}{s s1 s2 s3:Sto}(e1:zac [.ref n,.int 4] s=some (.int r,s1))(hs2:s1++[.lst [.int 1,.int 2,.int 1,.int (1+r)]]=s2)(e2:zac [.ref n,.int 4] s2=some (.int r2,s3))(ex:ixA (.ref s1.length) (.int r2) s3=some (.int y,s3)):za8 [some nm,some (.ref n)] s=some (.tup [nm,.int y],s3):=by
 unfold za8;simp[e1,hs2,e2,ex]
def zk0{n m lN:Nat}{ss:List Str}{st:Sto}(h:PotD n m st)(hN:st[lN]?=some (.lst (ss.map D.str)))(h1:lN≠n)(hl:ss.length<=8)(hn:∀ x∈ss,NmOk x)(hm:m<=800000) :
   ∃ (stk:List (Str×Int)) (st':Sto),Y5 (mCI ⟨ss.map D.str,[(lN,ss.map D.str)]⟩ (gNm 0) zco za8 (ss.map D.str) [none,some (.ref n)] st=some (stk.map zbL,st')) (stk.map (·.1)=ss) ((∀ p∈stk,NmOk p.1/\1<=p.2/\p.2<=4)) (PotD n (m+16) st') (Fr n st st'):=by
 have key:=zoq (W:=⟨ss.map D.str,[(lN,ss.map D.str)]⟩) (g:=gNm 0) (c:=zco) (m:=za8) (ds:=ss.map D.str) (acc:=[]) (st:=st) (ρ:=[none,some (.ref n)])
   (Inv:=fun k a ρ s=>Y4 ((∃ x,ρ=[x,some (.ref n)])) ((∃ stk:List (Str×Int),a=stk.map zbL/\stk.map (·.1)=ss.take k/\∀ p∈stk,NmOk p.1/\1<=p.2/\p.2<=4)) (PotD n (m+2*k) s) (Fr n st s))
   ⟨⟨_,rfl⟩,⟨[],rfl,by simp,by simp⟩,h,Fr.refl _ _⟩ (fun k a ρ s _ hI=>zcY ((hI.h4.old _ (getElem?_lt hN) h1).trans hN)) (fun k d a ρ s hd hI=>by
     obtain⟨⟨x,rfl⟩,⟨stk,rfl,htk,hok⟩,hp,hf⟩:=hI;rw[AD] at hd;obtain⟨nm,hnm,rfl⟩:=zag hd;have hk:=getElem?_lt hnm;obtain⟨r,s1,e1,r0,r1,p1,f1⟩:=zbt (many:=4) hp (by omega) (by decide) (by decide);have a2:=zaQ s1 (.lst [.int 1,.int 2,.int 1,.int (1+r)]);have p2:=p1.gr (Gr.app s1 [.lst [.int 1,.int 2,.int 1,.int (1+r)]]);have f2:=Fr.app n s1 [.lst [.int 1,.int 2,.int 1,.int (1+r)]];have hn2:=p1.ne;generalize hs2:s1++[O.lst [.int 1,.int 2,.int 1,.int (1+r)]]=s2 at a2 p2 f2;obtain⟨r2,s3,e3,r20,r21,p3,f3⟩:=zbt (many:=4) p2 (by omega) (by decide) (by decide);have a3:=(f3.old _ (getElem?_lt a2) hn2).trans a2;obtain⟨y,hy,y0,y1⟩:∃ y:Int,[D.int 1,.int 2,.int 1,.int (1+r)][r2.toNat]?=some (.int y)/\1<=y/\y<=4:=by
       have:r2=0\/r2=1\/r2=2\/r2=3:=by omega
       rcases this with rfl | rfl | rfl | rfl
       . exact⟨1,rfl,by decide,by decide⟩
       . exact⟨2,rfl,by decide,by decide⟩
       . exact⟨1,rfl,by decide,by decide⟩
       . exact⟨1+r,rfl,by omega,by omega⟩
     have ex:ixA (.ref s1.length) (.int r2) s3=some (.int y,s3):=zcp a3 r20 hy;refine⟨[some (.str nm),some (.ref n)],s,true,s,rfl,rfl,.inl ⟨rfl,zbL (nm,y),s3,zmT (a:=0) e1 hs2 e3 ex,⟨_,rfl⟩,⟨stk++[(nm,y)],by simp,?_,fun p hp=>?_⟩,p3.up (by omega),((hf.trans f1).trans f2).trans f3⟩⟩
     . rw[AZ,htk,BN,hnm];rfl
     . rcases List.mem_append.mp hp with hp | hp
       . exact hok p hp
       . rw[List.mem_singleton.mp hp];exact⟨hn nm (A3 hnm),y0,y1⟩)
 obtain⟨xs,ρ',s',ec,_,⟨stk,hx,htk,hok⟩,hp,hf⟩:=key;rw[CI] at hx;subst hx;rw[Ag] at htk hp;rw[BD] at htk;exact⟨stk,s',ec,htk,hok,hp.up (by omega),hf⟩
def zn2{n m lN j:Nat}{ss:List Str}{st:Sto}(h:PotD n m st)(hN:st[lN]?=some (.lst (ss.map D.str)))(h1:lN≠n)(hl:ss.length<=8)(hn:∀ x∈ss,NmOk x)(hm:m<=600000)(hj:j<=12) :
   ∃ (ks:List (List Str)) (st':Sto),Y5 (mCI ⟨run 0 j,[]⟩ (gNm 0) zco zbo (run 0 j) [none,some (.ref n),some (.ref lN)] st=some (ks.map zbU,st')) (ks.length=j) ((∀ k∈ks,KdOk ss k)) (PotD n (m+72) st') (Fr n st st'):=by
 have key:=zoq (W:=⟨run 0 j,[]⟩) (g:=gNm 0) (c:=zco) (m:=zbo) (ds:=run 0 j) (acc:=[]) (st:=st) (ρ:=[none,some (.ref n),some (.ref lN)])
   (Inv:=fun i a ρ s=>Y4 ((∃ x,ρ=[x,some (.ref n),some (.ref lN)])) ((∃ ks:List (List Str),a=ks.map zbU/\ks.length=i/\∀ k∈ks,KdOk ss k)) (PotD n (m+6*i) s) (Fr n st s))
   ⟨⟨_,rfl⟩,⟨[],rfl,rfl,by simp⟩,h,Fr.refl _ _⟩ (fun _ _ _ _ _ _=>rfl) (fun i d a ρ s hd hI=>by
     obtain⟨⟨x,rfl⟩,⟨ks,rfl,hlen,hok⟩,hp,hf⟩:=hI;have hi:=(zdZ hd).1;obtain⟨k,s1,e1,hk,p1,f1⟩:=zqi hp ((hf.old _ (getElem?_lt hN) h1).trans hN) h1 (by omega) hn (by omega);refine⟨[some d,some (.ref n),some (.ref lN)],s,true,s,rfl,rfl,.inl ⟨rfl,zbU k,s1,?_,⟨_,rfl⟩,⟨ks++[k],by simp,by simp[hlen],fun y hy=>?_⟩,p1.up (by omega),hf.trans f1⟩⟩
     . unfold zbo;simp[e1]
     . rcases List.mem_append.mp hy with hy | hy
       . exact hok y hy
       . rw[List.mem_singleton.mp hy];exact hk)
 obtain⟨xs,ρ',s',ec,_,⟨ks,hx,hlen,hok⟩,hp,hf⟩:=key;rw[CI] at hx;subst hx;rw[zbW] at hlen hp;exact⟨ks,s',ec,hlen,hok,hp.up (by omega),hf⟩
def zhA{n m:Nat}{st:Sto}{xs:List Int}{lo hi:Int}(h:PotD n m st)(hm:m<=900000)(hx:1<=xs.length)(hx2:xs.length<=100)(hb:∀ x∈xs,lo<=x/\x<=hi):∃ (r y:Int) (st':Sto),Y6 (zac [.ref n,.int (xs.length:Int)] (st++[.lst (xs.map D.int)])=some (.int r,st')) (ixA (.ref st.length) (.int r) st'=some (.int y,st')) (lo<=y) (y<=hi) (PotD n (m+1) st') (Fr n st st'):=by
 have a1:=zaQ st (.lst (xs.map D.int));have p1:=h.gr (Gr.app st [.lst (xs.map D.int)]);have f1:=Fr.app n st [.lst (xs.map D.int)];have hn:=h.ne;generalize st++[O.lst (xs.map D.int)]=s1 at a1 p1 f1;obtain⟨r,s2,e2,r0,r1,p2,f2⟩:=zbt (many:=(xs.length:Int)) p1 (by omega) (by omega) (by omega);have a2:=(f2.old _ (getElem?_lt a1) hn).trans a1;have hr:r.toNat < xs.length:=by omega
 have hy:=hb _ (Bm hr);exact⟨r,xs[r.toNat],s2,e2,zcp a2 r0 (by rw[AD,Ah hr];rfl),hy.1,hy.2,p2,f1.trans f2⟩
def zn5{n m:Nat}{st:Sto}(h:PotD n m st)(hm:m<=100000):∃ (e:Int) (stk:List (Str×Int)) (ks:List (List Str)) (st':Sto),Y4 (zb4 [.ref n] st=some (zfB e stk ks,st')) (HsOk e stk ks) (PotD n (m+200) st') (Fr n st st'):=by
 obtain⟨r1,s1,e1,r10,r11,p1,f1⟩:=zbt (many:=4) h (by omega) (by decide) (by decide);obtain⟨ss,lN,s2,e2,at2,hss,hnm,n1,p2,f2⟩:=znH (k:=(1+r1).toNat) (M:=1+r1) (by omega) p1 (by omega) (by omega);obtain⟨r3,y3,s3,e3,x3,y30,y31,p3,f3⟩:=zhA (xs:=[1,1,2,2,1,3,4,2]) (lo:=1) (hi:=4) p2 (by omega) (by decide) (by decide) (by decide);have nm3:=(f3.old _ (getElem?_lt at2) n1).trans at2;obtain⟨stk,s4,e4,hstk,hsok,p4,f4⟩:=zk0 p3 nm3 n1 (by omega) hnm (by omega);have lstk:stk.length=ss.length:=by rw[<-hstk,Ag]
 have a5:=zaQ s4 (.lst (stk.map zbL));have p5:=p4.gr (Gr.app s4 [.lst (stk.map zbL)]);have f5:=Fr.app n s4 [.lst (stk.map zbL)];have fs:fits (stk.map zbL).length=true:=zaw (by rw[Ag];omega);generalize hs5:s4++[O.lst (stk.map zbL)]=s5 at a5 p5 f5;have et:=zbH a5;obtain⟨r6,y6,s6,e6,x6,y60,y61,p6,f6⟩:=zhA (xs:=[3,5,5,12]) (lo:=3) (hi:=12) p5 (by omega) (by decide) (by decide) (by decide);obtain⟨r7,s7,e7,r70,r71,p7,f7⟩:=zbt (many:=y6) p6 (by omega) (by omega) (by omega);have nm7:=(((f4.trans f5).trans (f6.trans f7)).old _ (getElem?_lt nm3) n1).trans nm3;obtain⟨ks,s8,e8,hks,hkok,p8,f8⟩:=zn2 (j:=(1+r7).toNat) p7 nm7 n1 (by omega) hnm (by omega) (by omega);have a9:=zaQ s8 (.lst (ks.map zbU));have p9:=p8.gr (Gr.app s8 [.lst (ks.map zbU)]);have f9:=Fr.app n s8 [.lst (ks.map zbU)];have fk:fits (ks.map zbU).length=true:=zaw (by rw[Ag];omega);have hn9:=p8.ne;generalize hs9:s8++[O.lst (ks.map zbU)]=s9 at a9 p9 f9;obtain⟨r10',s10,e10,r100,r101,p10,f10⟩:=zbt (many:=6) p9 (by omega) (by decide) (by decide);have a10:=(f10.old _ (getElem?_lt a9) hn9).trans a9;have f110:Fr n st s10:=((f1.trans f2).trans (f3.trans f4)).trans (((f5.trans f6).trans (f7.trans f8)).trans (f9.trans f10));have sm:small (1+r7)=true:=zbV (by omega) (by omega);have ecm1:zde (mWA (mVar 1)) 1 [0] (gNm 0) (zco) (za8) [some (.ref n),some (.ref lN),some (.int y3),none,none] s3=some (.ref s4.length,s5):=by
   have:mWA (mVar 1) [some (.ref n),some (.ref lN),some (.int y3),none,none] s3=some (⟨ss.map D.str,[(lN,ss.map D.str)]⟩,s3):=by simp[zkT,zbA,nm3]
   rw[zaX,this];simp only[Ae];rw[show rho0 [some (.ref n),some (.ref lN),some (.int y3),none,none] 1 [0]=[none,some (.ref n)] from rfl,e4];simp only[Ae,fs,if_true,hs5]
 have ecm2:zde (mR1 (mBin addD (mCon (.int 1)) (zav zac (zae (mVar 0) (zae (mBin ixA (mLst (zae (mCon (.int 3)) (zae (mCon (.int 5)) (zae (mCon (.int 5)) (zae (mCon (.int 12)) (mNil)))))) (zav zac (zae (mVar 0) (zae (mCon (.int 4)) (mNil))))) (mNil)))))) 1 [0,1] (gNm 0) (zco) (zbo) [some (.ref n),some (.ref lN),some (.int y3),some (.tup (stk.map zbL)),none] s5=some (.ref s8.length,s9):=by
   have e6':zac [.ref n,.int 4] (s5++[.lst [.int 3,.int 5,.int 5,.int 12]])=some (.int r6,s6):=e6;have:mR1 (mBin addD (mCon (.int 1)) (zav zac (zae (mVar 0) (zae (mBin ixA (mLst (zae (mCon (.int 3)) (zae (mCon (.int 5)) (zae (mCon (.int 5)) (zae (mCon (.int 12)) (mNil)))))) (zav zac (zae (mVar 0) (zae (mCon (.int 4)) (mNil))))) (mNil))))) [some (.ref n),some (.ref lN),some (.int y3),some (.tup (stk.map zbL)),none] s5=some (⟨run 0 (1+r7).toNat,[]⟩,s7):=by simp[e6',x6,e7,sm]
   rw[zaX,this];simp only[Ae];rw[show rho0 [some (.ref n),some (.ref lN),some (.int y3),some (.tup (stk.map zbL)),none] 1 [0,1]=[none,some (.ref n),some (.ref lN)] from rfl,e8];simp only[Ae,fk,if_true,hs9]
 have e3':zac [.ref n,.int 8] (s2++[.lst [.int 1,.int 1,.int 2,.int 2,.int 1,.int 3,.int 4,.int 2]])=some (.int r3,s3):=e3;have pre:∀ {R:Option (Fl×Sto)},mSeq (mIf (mTst (mBin eqD (zav zac (zae (mVar 0) (zae (mCon (.int 6)) (mNil)))) (mCon (.int 0)))) (mExp (mApp (mVar 4) (zae (mBin ixA (mVar 4) (zav zac (zae (mVar 0) (zae (zav lenD (zae (mVar 4) (mNil))) (mNil))))) (mNil)))) (zdm)) (mRet (mTup (zae (mVar 2) (zae (mVar 3) (zae (zav zc0 (zae (mVar 4) (mNil))) (mNil))))))
     [some (.ref n),some (.ref lN),some (.int y3),some (.tup (stk.map zbL)),some (.ref s8.length)] s9=R->zcy (rho 5 [.ref n]) st=R:=fun hR=>by
   unfold zcy;refine zan (ρ1:=[some (.ref n),some (.ref lN),none,none,none]) (s1:=s2) (by simp[e1,e2]) ?_;refine zan (ρ1:=[some (.ref n),some (.ref lN),some (.int y3),none,none]) (s1:=s3) (by simp[e3',x3]) ?_;refine zan (ρ1:=[some (.ref n),some (.ref lN),some (.int y3),some (.tup (stk.map zbL)),none]) (s1:=s5) (by simp[ecm1,et]) ?_;exact zan (ρ1:=[some (.ref n),some (.ref lN),some (.int y3),some (.tup (stk.map zbL)),some (.ref s8.length)]) (s1:=s9) (by rw[zgv,ecm2];rfl) hR
 have kd':∀ k∈ks,KdOk (stk.map (·.1)) k:=by rw[hstk];exact hkok
 by_cases hr:r10'=0
 . subst hr;have el:=zmv a10;rw[Ag] at el;obtain⟨r11',s11,e11,r110,r111,p11,f11⟩:=zbt (many:=(ks.length:Int)) p10 (by omega) (by omega) (by omega);have a11:=(f11.old _ (getElem?_lt a10) hn9).trans a10;have hlt:r11'.toNat < ks.length:=by omega
   have ex:ixA (.ref s8.length) (.int r11') s11=some (zbU ks[r11'.toNat],s11):=zcp a11 r110 (by rw[AD,Ah hlt];rfl);have hmem:ks[r11'.toNat]∈ks:=Bm hlt;generalize ks[r11'.toNat]=k0 at ex hmem;have ea:=append_at (x:=zbU k0) a11 (by rw[Ag];omega);have a12:(s11.set s8.length (.lst (ks.map zbU++[zbU k0])))[s8.length]?=some (.lst (ks.map zbU++[zbU k0])):=by simp[getElem?_lt a11]
   have et2:=zbH a12;have hlen8:st.length<=s8.length:=(((f1.trans f2).trans (f3.trans f4)).trans ((f5.trans f6).trans (f7.trans f8))).len;refine⟨y3,stk,ks++[k0],s11.set s8.length (.lst (ks.map zbU++[zbU k0])),zcn (pre ?_),⟨y30,y31,by omega,hsok,by simp,by simp;omega,fun k hk=>?_⟩,(p11.set hn9).up (by omega),?_⟩
   . generalize s11.set s8.length (.lst (ks.map zbU++[zbU k0]))=s12 at *;refine zan (ρ1:=[some (.ref n),some (.ref lN),some (.int y3),some (.tup (stk.map zbL)),some (.ref s8.length)]) (s1:=s12) (by simp[e10,eq_int,el,e11,ex,ea,zbA,a10]) ?_;simp[et2,zfB]
   . rcases List.mem_append.mp hk with hk | hk
     . exact kd' k hk
     . rw[List.mem_singleton.mp hk];exact kd' k0 hmem
   . have f:=f110.trans f11;exact⟨by rw[Bj];exact f.len,fun k hk hkn=>by rw[Ai (by omega)];exact f.old k hk hkn⟩
 . have et2:=zbH a10;refine⟨y3,stk,ks,s10,zcn (pre ?_),⟨y30,y31,by omega,hsok,by omega,by omega,kd'⟩,p10.up (by omega),f110⟩;refine zan (ρ1:=[some (.ref n),some (.ref lN),some (.int y3),some (.tup (stk.map zbL)),some (.ref s8.length)]) (s1:=s10) (by simp[e10,eq_int,hr]) ?_;simp[et2,zfB]
end L2.MP.Hd
namespace L2.MP.Hd
open PySem L2.MP
open L2.MP.Hn (zaF zar srtT zaA)
def zcq(w h kn:Int)(t:Tl):Prop:=0<=t.1/\t.1 < w/\0<=t.2.1/\t.2.1 < h/\0<=t.2.2/\t.2.2 < kn
def zmK:∀ {l:List Tl} {t:Tl},PlNd l->t∈l->valD (l.map kvOf) (kvOf t).1=some (.int t.2.2)
 | [],t,_,h=>by cases h
 | u::l,t,nd,h=>by
   have nd':(∀ b∈l,zby u b=false)/\PlNd l:=List.pairwise_cons.mp nd;unfold valD;rw[Av,AL,zjV]
   rcases List.mem_cons.mp h with rfl | h
   . have:zby t t=true:=by unfold zby;simp
     rw[this];rfl
   . rw[nd'.1 t h];exact zmK nd'.2 h
structure SInv(n t m:Nat)(w h kn:Int)(st0:Sto)(l:List Tl)(s:Sto):Prop where
 at_:s[t]?=some (.dt (l.map kvOf))
 ok:∀ u∈l,zcq w h kn u
 nd:PlNd l
 pot:PotD n m s
 fr:Fr n st0 s
noncomputable abbrev srho (n:Nat) (hd:D) (w h most:Int) (t:Nat) (v u:Option D):Rho:=[some (.ref n),some hd,some (.tup [.int w,.int h]),some (.int most),some (.ref t),v,u]
def zni{n t:Nat}{w h most x y k K:Int}{hd KK:D}{s s1 s2 s3 s4:Sto}{v u:Option D}(ew:ixA (.tup [.int w,.int h]) (.int 0) s=some (.int w,s))(e1:zac [.ref n,.int w] s=some (.int x,s1))(eh:ixA (.tup [.int w,.int h]) (.int 1) s1=some (.int h,s1))(e2:zac [.ref n,.int h] s1=some (.int y,s2))(e3:ixA hd (.int 2) s2=some (KK,s2))(e4:lenD [KK] s2=some (.int K,s2))(e5:zac [.ref n,.int K] s2=some (.int k,s3))(ed:dput s3 t (.tup [.int x,.int y]) (.int k)=some s4) :
   zaT (srho n hd w h most t v u) s=some (.nx (srho n hd w h most t v (some (.tup [.int x,.int y]))),s4):=by
 unfold zaT;refine zan (ρ1:=srho n hd w h most t v (some (.tup [.int x,.int y]))) (s1:=s2) (by simp[srho,zaX,ew,e1,eh,e2]) ?_;rw[zkF];have c1:mAsg (zav zac (zae (mVar 0) (zae (zav lenD (zae (mBin ixA (mVar 1) (mCon (.int 2))) (mNil))) (mNil)))) (gSb setD (mVar 4) (mVar 6)) (srho n hd w h most t v (some (.tup [.int x,.int y]))) s2=none:=by
   simp[srho,zaX,e3,e4,e5,setD]
 rw[c1,zio];unfold zmr;simp[srho,zaX,e3,e4,e5,ed]
def zi4{n t m:Nat}{w h most:Int}{a b:D}{ks:List D}{st0 s:Sto}{l:List Tl}{v u:Option D}(q:SInv n t m w h ks.length st0 l s)(ht:t≠n)(ht0:st0.length<=t)(hw:0 < w)(hw2:w<=1000)(hh:0 < h)(hh2:h<=1000)(hk:0 < ks.length)(hk2:ks.length < 100000)(hl:l.length<=1000)(hm:m<=900000) :
   ∃ (l':List Tl) (u':Option D) (s':Sto),Y3 (zaT (srho n (.tup [a,b,.tup ks]) w h most t v u) s=some (.nx (srho n (.tup [a,b,.tup ks]) w h most t v u'),s')) (SInv n t (m+3) w h ks.length st0 l' s') (l'.length<=l.length+1):=by
 obtain⟨x,s1,e1,x0,x1,p1,f1⟩:=zbt (many:=w) q.pot (by omega) hw (by omega);obtain⟨y,s2,e2,y0,y1,p2,f2⟩:=zbt (many:=h) p1 (by omega) hh (by omega);obtain⟨k,s3,e3,k0,k1,p3,f3⟩:=zbt (many:=ks.length) p2 (by omega) (by omega) (by omega);have f13:=(f1.trans f2).trans f3;have at3:=(f13.old _ (getElem?_lt q.at_) ht).trans q.at_;have ed:=zhW (x:=x) (y:=y) (k:=k) at3 hl;have hlt:=getElem?_lt at3;have fr3:=q.fr.trans f13;refine⟨putT l (x,y,k),_,s3.set t (.dt ((putT l (x,y,k)).map kvOf)),zni (zaS (by decide) rfl) e1 (zaS (by decide) rfl) e2 (zaS (by decide) rfl) zhM e3 ed,⟨by simp[hlt],znj q.ok ⟨x0,x1,y0,y1,k0,k1⟩,zpm q.nd,p3.set ht,⟨by have:=fr3.len;simpa using this,fun j hj nj=>by rw[Ai (by omega)];exact fr3.old j hj nj⟩⟩,zjr _ _⟩
def zno{x y k:Int}{t:Nat}{s:Sto}(hk:zlU (.ref t) (.tup [.int x,.int y]) s=some (.int k,s)):zaV [some (.tup [.int x,.int y]),some (.ref t)] s=some (.tup [.int x,.int y,.int k],s):=by
 have ea:addD (.tup [.int x,.int y]) (.tup [.int k]) s=some (.tup [.int x,.int y,.int k],s):=zkI (by simp) (by simp);unfold zaV;simp[hk,ea]
def zgH{n m:Nat}{w h most:Int}{a b:D}{ks:List D}{st:Sto}(hp:PotD n m st)(hw:0 < w)(hw2:w<=1000)(hh:0 < h)(hh2:h<=1000)(hk:0 < ks.length)(hk2:ks.length < 100000)(hm:0<=most)(hm2:most < 60)(hmm:m<=800000) :
   ∃ (ts:List Tl) (st':Sto),Y6 (zaU [.ref n,.tup [a,b,.tup ks],.tup [.int w,.int h],.int most] st=some (zaF ts,st')) ((∀ t∈ts,zcq w h ks.length t)) ((∃ l:List Tl,ts=srtT l/\PlNd l)) ((ts.length:Int)<=most) (PotD n (m+181) st') (Fr n st st'):=by
 have ht:st.length≠n:=hp.ne;have p0:=hp.gr (Gr.app st [.dt []]);obtain⟨r,s1,e1,r0,r1,p1,f1⟩:=zbt (many:=most+1) p0 (by omega) (by omega) (by omega);have at1:s1[st.length]?=some (.dt (([]:List Tl).map kvOf)):=(f1.old _ (by simp) ht).trans (zaQ st _);have key:=zbX (W:=⟨run 0 r.toNat,[]⟩) (g:=gNm 5) (m:=zaT) (ds:=run 0 r.toNat) (ρ:=srho n (.tup [a,b,.tup ks]) w h most st.length none none) (st:=s1)
   (Inv:=fun k ρ s=>∃ (l:List Tl) (v u:Option D),Y3 (ρ=srho n (.tup [a,b,.tup ks]) w h most st.length v u) (l.length<=k) (SInv n st.length (m+1+3*k) w h ks.length st l s))
   ⟨[],none,none,rfl,Af _,⟨at1,by simp,Cp,p1,(Fr.app _ _ _).trans f1⟩⟩ (fun _ _ _ _ _=>rfl) (fun k d ρ s hd hI=>by
     obtain⟨l,v,u,rfl,hl,q⟩:=hI;have hkl:=(zdZ hd).1;obtain⟨l',u',s',e,q',hl'⟩:=zi4 (most:=most) (a:=a) (b:=b) (v:=some d) (u:=u) q ht (Af _) hw hw2 hh hh2 hk hk2 (by omega) (by omega);exact⟨_,s,_,s',rfl,e,l',some d,u',rfl,by omega,q'⟩)
 obtain⟨ρ',s2,e2,l,v,u,rfl,hl,q⟩:=key;rw[zbW] at hl q;have hlt:=getElem?_lt q.at_;have ewk:zoB (.ref st.length) s2=some (⟨zdA (l.map kvOf),[]⟩,s2.set st.length (.ft (l.map kvOf))):=by
   unfold zoB;simp only[q.at_]
 have a3:(s2.set st.length (.ft (l.map kvOf)))[st.length]?=some (.ft (l.map kvOf)):=by simp[hlt]
 have fr3:Fr n st (s2.set st.length (.ft (l.map kvOf))):=⟨by have:=q.fr.len;simpa using this,fun j hj nj=>by rw[Ai (by omega)];exact q.fr.old j hj nj⟩
 have p3:PotD n (m+1+3*r.toNat) (s2.set st.length (.ft (l.map kvOf))):=q.pot.set ht;generalize hs3:s2.set st.length (.ft (l.map kvOf))=s3 at ewk a3 fr3 p3;have eit:zdA (l.map kvOf)=l.map fun t=>D.tup [.int t.1,.int t.2.1]:=by
   unfold zdA;rw[A7];rfl
 have ec:mCI ⟨zdA (l.map kvOf),[]⟩ (gNm 0) zco zaV (zdA (l.map kvOf)) [none,some (.ref st.length)] s3=some (l.map fun t=>tupD (rowT t),s3):=by
   rw[eit];refine ziG (R:=fun ρ=>∃ x,ρ=[x,some (.ref st.length)]) ⟨none,rfl⟩ rfl fun t ht ρ hρ=>?_;obtain⟨x,rfl⟩:=hρ;have hv:=zmK q.nd ht;have hk:zlU (.ref st.length) (.tup [.int t.1,.int t.2.1]) s3=some (.int t.2.2,s3):=by
     have e1:keysOf [.int t.1,.int t.2.1]=some (kvOf t).1:=rfl;simp only[zlU,lookF,a3,e1,Bi,Ae,hv]
   exact⟨[some (.tup [.int t.1,.int t.2.1]),some (.ref st.length)],rfl,rfl,zno hk,⟨_,rfl⟩⟩
 have fl:fits (l.map fun t=>tupD (rowT t)).length=true:=zaw (by rw[Ag];omega);have a4:=zaQ s3 (.lst (l.map fun t=>tupD (rowT t)));have es:=zar a4 (by omega);have p4:=p3.gr (Gr.app s3 [.lst (l.map fun t=>tupD (rowT t))]);have f4:=Fr.app n s3 [.lst (l.map fun t=>tupD (rowT t))];have hperm:=zaA l;generalize hs4:s3++[O.lst (l.map fun t=>tupD (rowT t))]=s4 at es p4 f4;have et:=zbH (zaQ s4 (.lst ((srtT l).map fun t=>tupD (rowT t))));refine⟨srtT l,s4++[.lst ((srtT l).map fun t=>tupD (rowT t))],zcn ?_,fun t ht=>q.ok t (hperm.mem_iff.mp ht),⟨l,rfl,q.nd⟩,by rw[hperm.length_eq];omega,(p4.gr (Gr.app _ _)).up (by omega),(fr3.trans f4).trans (Fr.app _ _ _)⟩;have sm:small r=true:=zbV r0 (by omega);unfold zcw zaF;generalize ((srtT l).map fun t=>tupD (rowT t))=B at es et;generalize (l.map fun t=>tupD (rowT t))=A at ec fl hs4;generalize zdA (l.map kvOf)=KD at ec ewk;refine zan (ρ1:=srho n (.tup [a,b,.tup ks]) w h most st.length none none) (s1:=st++[.dt []]) (by simp[srho,]) ?_;refine zan (ρ1:=srho n (.tup [a,b,.tup ks]) w h most st.length v u) (s1:=s2) (by
   have:mR1 (zav zac (zae (mVar 0) (zae (mBin addD (mVar 3) (mCon (.int 1))) (mNil)))) (srho n (.tup [a,b,.tup ks]) w h most st.length none none) (st++[.dt []])=some (⟨run 0 r.toNat,[]⟩,s1):=by simp[srho,e1,sm]
   rw[zcV,this];exact e2) ?_
 have ecm:zde (mWK (mVar 4)) 1 [4] (gNm 0) (zco) (zaV) (srho n (.tup [a,b,.tup ks]) w h most st.length v u) s2=some (.ref s3.length,s4):=by
   have:mWK (mVar 4) (srho n (.tup [a,b,.tup ks]) w h most st.length v u) s2=some (⟨KD,[]⟩,s3):=ewk;rw[zaX,this];simp only[Ae];rw[show rho0 (srho n (.tup [a,b,.tup ks]) w h most st.length v u) 1 [4]=[none,some (.ref st.length)] from rfl,ec];simp only[Ae,fl,if_true,hs4]
 simp[ecm,es,et]
structure FlOk(w h:Int):Prop where
 w0:1<=w
 w1:w<=12
 h0:1<=h
 h1:h<=12
 wh:w<=5\/h<=5
def bedD(e:Int)(stk:List (Str×Int))(ks:List (List Str))(w h:Int)(sd:List Tl):D:=.tup [zfB e stk ks,.tup [.int w,.int h],zaF sd]
def zqP{n m:Nat}{st:Sto}(hp:PotD n m st)(hm:m<=100000):∃ (e:Int) (stk:List (Str×Int)) (ks:List (List Str)) (w h:Int) (sd:List Tl) (st':Sto),Y8 (zcE [.ref n] st=some (bedD e stk ks w h sd,st')) (HsOk e stk ks) (FlOk w h) ((∀ t∈sd,zcq w h ks.length t)) ((∃ l:List Tl,sd=srtT l/\PlNd l)) (sd.length<=6) (PotD n (m+400) st') (Fr n st st'):=by
 obtain⟨e,stk,ks,s1,e1,hs,p1,f1⟩:=zn5 hp hm;obtain⟨r2,s2,e2,r20,r21,p2,f2⟩:=zbt (many:=5) p1 (by omega) (by decide) (by decide);obtain⟨r3,y3,s3,e3,x3,y30,y31,p3,f3⟩:=zhA (xs:=[5,5,5,12]) (lo:=5) (hi:=12) p2 (by omega) (by decide) (by decide) (by decide);obtain⟨r4,s4,e4,r40,r41,p4,f4⟩:=zbt (many:=y3) p3 (by omega) (by omega) (by omega);obtain⟨r5,s5,e5,r50,r51,p5,f5⟩:=zbt (many:=2) p4 (by omega) (by decide) (by decide);obtain⟨r6,y6,s6,e6,x6,y60,y61,p6,f6⟩:=zhA (xs:=[1,2,6]) (lo:=1) (hi:=6) p5 (by omega) (by decide) (by decide) (by decide);have e3':zac [.ref n,.int 4] (s2++[.lst [.int 5,.int 5,.int 5,.int 12]])=some (.int r3,s3):=e3;have e6':zac [.ref n,.int 3] (s5++[.lst [.int 1,.int 2,.int 6]])=some (.int r6,s6):=e6;have k1:=hs.lo;have k2:=hs.hi;have f16:Fr n st s6:=((f1.trans f2).trans (f3.trans f4)).trans (f5.trans f6);obtain⟨w,h,hwh,hfl⟩:∃ w h:Int,(∀ R:Option (Fl×Sto),mRet (mTup (zae (mVar 1) (zae (mVar 2) (zae (zav zaU (zae (mVar 0) (zae (mVar 1) (zae (mVar 2) (zae (mBin ixA (mLst (zae (mCon (.int 1)) (zae (mCon (.int 2)) (zae (mCon (.int 6)) (mNil))))) (zav zac (zae (mVar 0) (zae (mCon (.int 3)) (mNil))))) (mNil)))))) (mNil))))) [some (.ref n),some (zfB e stk ks),some (.tup [.int w,.int h])] s5=R->zcF (rho 3 [.ref n]) st=R)/\FlOk w h:=by
   generalize zfB e stk ks=hd at *
   by_cases hr:r5=0
   . subst hr;refine⟨1+r4,1+r2,fun R hR=>?_,by omega,by omega,by omega,by omega,by omega⟩;unfold zcF;refine zan (ρ1:=[some (.ref n),some hd,none]) (s1:=s1) (by simp[e1]) ?_;refine zan (ρ1:=[some (.ref n),some hd,some (.tup [.int (1+r2),.int (1+r4)])]) (s1:=s4) (by simp[e2,e3',x3,e4]) ?_;refine zan (ρ1:=[some (.ref n),some hd,some (.tup [.int (1+r4),.int (1+r2)])]) (s1:=s5) ?_ hR;have er:∀ s:Sto,zsx (mVar 2) (mNeg (mCon (.int 1))) [some (.ref n),some hd,some (.tup [.int (1+r2),.int (1+r4)])] s=some (.tup [.int (1+r4),.int (1+r2)],s):=fun s=>rfl;simp[e5,eq_int,er]
   . refine⟨1+r2,1+r4,fun R hR=>?_,by omega,by omega,by omega,by omega,by omega⟩;unfold zcF;refine zan (ρ1:=[some (.ref n),some hd,none]) (s1:=s1) (by simp[e1]) ?_;refine zan (ρ1:=[some (.ref n),some hd,some (.tup [.int (1+r2),.int (1+r4)])]) (s1:=s4) (by simp[e2,e3',x3,e4]) ?_;refine zan (ρ1:=[some (.ref n),some hd,some (.tup [.int (1+r2),.int (1+r4)])]) (s1:=s5) (by simp[e5,eq_int,hr]) hR
 have:=hfl.w0;have:=hfl.w1;have:=hfl.h0;have:=hfl.h1;obtain⟨sd,s7,e7,hsd,hso,hsl,p7,f7⟩:=zgH (w:=w) (h:=h) (most:=y6) (a:=.int e) (b:=.tup (stk.map zbL)) (ks:=ks.map zbU) p6 (by omega) (by omega) (by omega) (by omega) (by rw[Ag];omega) (by rw[Ag];omega) (by omega) (by omega) (by omega);have e7:zaU [.ref n,zfB e stk ks,.tup [.int w,.int h],.int y6] s6=some (zaF sd,s7):=e7;rw[Ag] at hsd;refine⟨e,stk,ks,w,h,sd,s7,zcn (hwh _ ?_),hs,hfl,hsd,hso,by omega,p7.up (by omega),f16.trans f7⟩;unfold bedD;generalize zfB e stk ks=hd at *;simp[e6',x6,e7]
end L2.MP.Hd
namespace L2.MP.Hd
open PySem L2.MP
open L2.MP.Hn (zaF)
def zto{x y:Int}{d:Nat}{kvs:List (List Key×D)}{st:Sto}(h:st[d]?=some (.dt kvs)):inA (.tup [.int x,.int y]) (.ref d) st=some (.bl (valD kvs [.inl x,.inl y]).isSome,st):=by
 have e0:toP 50 st (.ref d)=none:=by rw[toP];simp[zbA,h]
 have e1:inD false (.tup [.int x,.int y]) (.ref d) st=none:=by
   unfold inD;rw[e0]
   cases toP 50 st (.tup [.int x,.int y]) <;> rfl
 have e2:inSD (.tup [.int x,.int y]) (.ref d) st=none:=rfl;unfold inA orG;rw[show orO (inD false (.tup [.int x,.int y]) (.ref d) st) (inSD (.tup [.int x,.int y]) (.ref d) st)=none by rw[e1,e2];rfl,zio];simp[dinD,look,h,keysOf,keyOf]
def ztl{x y:Int}{d:Nat}{kvs:List (List Key×D)}{v:D}{st:Sto}(h:st[d]?=some (.dt kvs))(hv:valD kvs [.inl x,.inl y]=some v):ixA (.ref d) (.tup [.int x,.int y]) st=some (v,st):=by
 have e1:idxD (.ref d) (.tup [.int x,.int y]) st=none:=by simp[idxD,zbA,h]
 unfold ixA orG;rw[e1,zio];simp[zsX,look,h,keysOf,keyOf,hv]
def eq_str{a b:Str}{st:Sto}(ha:Bg a=true)(hb:Bg b=true):eqD (.str a) (.str b) st=some (.bl (a==b),st):=by
 unfold eqD;rw[zhl ha,zhl hb];simp[De]
def ne_str{a b:Str}{st:Sto}(ha:Bg a=true)(hb:Bg b=true):neD (.str a) (.str b) st=some (.bl (a != b),st):=by
 unfold neD;rw[zhl ha,zhl hb];simp[De,bne]
def byPl(ts:List Tl):List Tl:=ts.foldl putT []
def zjK:∀ (ts acc:List Tl),zgb (acc.map kvOf) (ts.map kvOf)=(ts.foldl putT acc).map kvOf
 | [],acc=>rfl
 | t::ts,acc=>by
   show zgb (putD (acc.map kvOf) (kvOf t).1 (kvOf t).2) (ts.map kvOf)=_;rw[zmh];exact zjK ts (putT acc t)
def zkb:∀ (ts acc:List Tl),(ts.foldl putT acc).length<=acc.length+ts.length
 | [],acc=>by simp
 | t::ts,acc=>by
   have h1:=zkb ts (putT acc t);have h2:=zjr acc t;simp only[Ec,Ar];omega
def fnd(P:List Tl)(x y:Int):Option Int:=(P.find? fun t=>decide (t.1=x)&&decide (t.2.1=y)).map fun t=>t.2.2
def zeE(x y:Int):∀ P:List Tl,valD (P.map kvOf) [.inl x,.inl y]=(fnd P x y).map D.int
 | []=>rfl
 | t::P=>by
   have ih:=zeE x y P;have hk:decide ((kvOf t).1=[CB x,CB y])=(decide (t.1=x)&&decide (t.2.1=y)):=zjV t (x,y,0);unfold valD fnd at *;rw[Av,AL,AL,hk]
   cases decide (t.1=x)&&decide (t.2.1=y) with
   | true=>rfl
   | false=>exact ih
def zkc{P:List Tl}{x y k:Int}(h:fnd P x y=some k):∃ t∈P,t.2.2=k:=by
 unfold fnd at h;obtain⟨t,e,h⟩:=zag h;exact⟨t,DN e,h⟩
theorem zsz{t:Tl}{s:Sto}:zbn [some (.int t.1),some (.int t.2.1),some (.int t.2.2)] s=some (.tup [.tup [.int t.1,.int t.2.1],.int t.2.2],s):=rfl
def zpu:∀ ts:List Tl,zgX (ts.map fun t=>.tup [.tup [.int t.1,.int t.2.1],.int t.2.2])=some (ts.map kvOf)
 | []=>rfl
 | t::ts=>by
   have ih:=zpu ts;rw[Av,zgX,ih];rfl
theorem zmQ{t:Tl}{a b c:Option D}{st:Sto}{r:Rho}:gTp 3 (gC (gNm 0) (gC (gNm 1) (gC (gNm 2) (gN0)))) (tupD (rowT t)) (a::b::c::r) st=some (some (.int t.1)::some (.int t.2.1)::some (.int t.2.2)::r,st):=rfl
def zlB{ts:List Tl}{st:Sto}(hl:ts.length<=1000):∃ (l:Nat) (st':Sto),Y4 (zb3 [zaF ts] st=some (.ref l,st')) (st'[l]?=some (.dt ((byPl ts).map kvOf))) (st.length<=l) (Gr st st'):=by
 have ec:mCI ⟨ts.map fun t=>tupD (rowT t),[]⟩ (gTp 3 (gC (gNm 0) (gC (gNm 1) (gC (gNm 2) (gN0))))) zco zbn (ts.map fun t=>tupD (rowT t)) [none,none,none] st=some (ts.map fun t=>.tup [.tup [.int t.1,.int t.2.1],.int t.2.2],st):=by
   have:∀ W:Wk,walked W st=true->mCI W (gTp 3 (gC (gNm 0) (gC (gNm 1) (gC (gNm 2) (gN0))))) zco zbn (ts.map fun t=>tupD (rowT t)) [none,none,none] st=some (ts.map fun t=>.tup [.tup [.int t.1,.int t.2.1],.int t.2.2],st):=by
     intro W hW;refine ziG (R:=fun ρ=>∃ x y z,ρ=[x,y,z]) ⟨none,none,none,rfl⟩ hW fun t ht ρ hρ=>?_;obtain⟨x,y,z,rfl⟩:=hρ;exact⟨_,zmQ,rfl,zsz,_,_,_,rfl⟩
   exact this _ rfl
 have fl:fits (ts.map fun t=>D.tup [.tup [.int t.1,.int t.2.1],.int t.2.2]).length=true:=zaw (by rw[Ag];omega);have a1:=zaQ st (.lst (ts.map fun t=>.tup [.tup [.int t.1,.int t.2.1],.int t.2.2]));have fk:fits (ts.map kvOf).length=true:=zaw (by rw[Ag];omega);have g1:=Gr.app st [.lst (ts.map fun t=>.tup [.tup [.int t.1,.int t.2.1],.int t.2.2])];generalize hs1:st++[O.lst (ts.map fun t=>.tup [.tup [.int t.1,.int t.2.1],.int t.2.2])]=s1 at a1 g1;have ed:zqA [.ref st.length] s1=some (.ref s1.length,s1++[.dt ((byPl ts).map kvOf)]):=by
   unfold zqA;have hm:zgb [] (ts.map kvOf)=(byPl ts).map kvOf:=zjK ts [];simp only[zbA,a1,Ae,zpu,fk,if_true,hm]
 refine⟨s1.length,s1++[.dt ((byPl ts).map kvOf)],zcn ?_,zaQ _ _,g1.len,g1.trans (Gr.app _ _)⟩;unfold zdE zaF;generalize (ts.map fun t=>tupD (rowT t))=T at *;generalize (ts.map fun t=>D.tup [.tup [.int t.1,.int t.2.1],.int t.2.2])=A at *;have ecm:zde (mWA (mVar 0)) 3 [] (gTp 3 (gC (gNm 0) (gC (gNm 1) (gC (gNm 2) (gN0))))) (zco) (zbn) (rho 1 [.tup T]) st=some (.ref st.length,s1):=by
   have:mWA (mVar 0) (rho 1 [.tup T]) st=some (⟨T,[]⟩,st):=by simp[zkT]
   rw[zaX,this];simp only[Ae];rw[show rho0 (rho 1 [.tup T]) 3 []=[none,none,none] from rfl,ec];simp only[Ae,fl,if_true,hs1]
 simp at ecm ⊢;simp[ecm,ed]
def zrP{n:Nat}{x y k:Int}{T:D}{s s':Sto}(ed:dput s n (.tup [.int x,.int y]) (.int k)=some s'):zbg [some T,some (.ref n),some (.int x),some (.int y),some (.int k)] s=some (.nx [some T,some (.ref n),some (.int x),some (.int y),some (.int k)],s'):=by
 unfold zbg;rw[zkF];have c1:mAsg (mVar 4) (gSb setD (mVar 1) (mTup (zae (mVar 2) (zae (mVar 3) (mNil))))) [some T,some (.ref n),some (.int x),some (.int y),some (.int k)] s=none:=by
   simp[setD]
 rw[c1,zio];unfold zmr;simp[ed]
def zsI{ts:List Tl}{st:Sto}(hl:ts.length<=500):∃ (st':Sto),Y3 (zbc [zaF ts] st=some (.ref st.length,st')) (st'[st.length]?=some (.dt ((byPl ts).map kvOf))) (Gr st st'):=by
 have key:=zbX (W:=⟨ts.map fun t=>tupD (rowT t),[]⟩) (g:=gTp 3 (gC (gNm 2) (gC (gNm 3) (gC (gNm 4) (gN0))))) (m:=zbg) (ds:=ts.map fun t=>tupD (rowT t)) (ρ:=[some (zaF ts),some (.ref st.length),none,none,none]) (st:=st++[.dt []])
   (Inv:=fun k ρ s=>Y3 ((∃ a b c,ρ=[some (zaF ts),some (.ref st.length),a,b,c])) (s[st.length]?=some (.dt (((ts.take k).foldl putT []).map kvOf))) (Gr st s))
   ⟨⟨_,_,_,rfl⟩,zaQ _ _,Gr.app _ _⟩ (fun _ _ _ _ _=>rfl) (fun k d ρ s hd hI=>by
     obtain⟨⟨a,b,c,rfl⟩,hat,hg⟩:=hI;rw[AD] at hd;obtain⟨t,ht,rfl⟩:=zag hd;have hl2:((ts.take k).foldl putT []).length<=1000:=by
       have:=zkb (ts.take k) [];rw[Bl,Bb] at this;omega
     have ed:=zhW (x:=t.1) (y:=t.2.1) (k:=t.2.2) hat hl2;refine⟨[some (zaF ts),some (.ref st.length),some (.int t.1),some (.int t.2.1),some (.int t.2.2)],s,_,_,rfl,zrP ed,⟨_,_,_,rfl⟩,?_,?_⟩
     . rw[AE (getElem?_lt hat),BN,ht,FA];rfl
     . exact⟨by rw[Bj];exact hg.len,fun j hj=>by rw[Ai (by omega)];exact hg.old j hj⟩)
 obtain⟨ρ',s',el,⟨a,b,c,rfl⟩,hat,hg⟩:=key;rw[Ag,BD] at hat;refine⟨s',zcn ?_,hat,hg⟩;unfold zcA;refine zan (ρ1:=[some (zaF ts),some (.ref st.length),none,none,none]) (s1:=st++[.dt []]) (by simp) ?_;refine zan (ρ1:=[some (zaF ts),some (.ref st.length),a,b,c]) (s1:=s') (by
   have:mWA (mVar 0) [some (zaF ts),some (.ref st.length),none,none,none] (st++[.dt []])=some (⟨ts.map fun t=>tupD (rowT t),[]⟩,st++[.dt []]):=by unfold zaF;simp[zkT]
   rw[zcV,this];exact el) ?_
 simp
def sds(ks:List (List Str))(k:Int):List Str:=(ks.getD k.toNat []).tail
structure BedAt(bed:D)(stk:List (Str×Int))(ks:List (List Str)):Prop where
 h:∃ hs:D,(∀ s:Sto,ixA bed (.int 0) s=some (hs,s))/\(∀ s:Sto,ixA hs (.int 1) s=some (.tup (stk.map zbL),s))/\∀ s:Sto,ixA hs (.int 2) s=some (.tup (ks.map zbU),s)
structure KsOk(ss:List Str)(ks:List (List Str)):Prop where
 hi:ks.length<=100
 kd:∀ k∈ks,KdOk ss k
def zdz{ss:List Str}{ks:List (List Str)}{k:Int}(h:KsOk ss ks)(h0:0<=k)(h1:k < (ks.length:Int)):∃ f a b c d:Str,Y3 (ks[k.toNat]?=some [f,a,b,c,d]) (sds ks k=[a,b,c,d]) (∀ x∈[a,b,c,d],NmOk x/\(x=""\/x∈ss)):=by
 have hk:k.toNat < ks.length:=by omega
 obtain⟨f,ds,e,hf,hl,hok⟩:=(h.kd _ (Bm hk)).ex;have e':ks[k.toNat]?=some (f::ds):=by rw[Ah hk,e]
 have es:sds ks k=ds:=by
   unfold sds;rw[Ax,e'];rfl
 match ds,hl,hok,e',es with
 | [a,b,c,d],_,hok,e',es=>exact⟨f,a,b,c,d,e',es,hok⟩
def zm3{bed hs KK kd sl:D}{k K:Int}{st:Sto}(i0:ixA bed (.int 0) st=some (hs,st))(i2:ixA hs (.int 2) st=some (KK,st))(el:lenD [KK] st=some (.int K,st))(h0:0<=k)(h1:k < K)(ik:ixA KK (.int k) st=some (kd,st))(es:slB kd (some 1) none st=some (sl,st)):zem [some bed,some (.int k),none] st=some (.rt sl,st):=by
 unfold zem;refine zan (ρ1:=[some bed,some (.int k),some KK]) (s1:=st) (by simp[i0,i2]) (zfT ?_);have et:mTst (zeB leD ltD (mCon (.int 0)) (mVar 1) (zav lenD (zae (mVar 2) (mNil)))) [some bed,some (.int k),some KK] st=some (true,st):=by
   rw[zs4];unfold zeB;simp[el,h0,h1]
 rw[zl7,et];simp[ik,es]
def zig{bed:D}{stk:List (Str×Int)}{ss:List Str}{ks:List (List Str)}{k:Int}{st:Sto}(hb:BedAt bed stk ks)(h:KsOk ss ks)(h0:0<=k)(h1:k < (ks.length:Int)):zcu [bed,.int k] st=some (.tup ((sds ks k).map D.str),st):=by
 obtain⟨hs,i0,_,i2⟩:=hb.h;obtain⟨f,a,b,c,d,e,es,_⟩:=zdz h h0 h1;rw[es];refine zcn (zm3 (i0 st) (i2 st) zhM h0 (by rw[Ag];exact h1) (zaS h0 (by rw[AD,e];rfl)) ?_);rfl
def zh6{x y:Int}{st:Sto}:zaD [.tup [.int x,.int y]] st=some (.tup [.tup [.int x,.int (y+1)],.tup [.int (x+1),.int y],.tup [.int x,.int (y - 1)],.tup [.int (x - 1),.int y]],st):=by
 have i0:ixA (.tup [.int x,.int y]) (.int 0) st=some (.int x,st):=zaS (by decide) rfl;have i1:ixA (.tup [.int x,.int y]) (.int 1) st=some (.int y,st):=zaS (by decide) rfl;refine zcn ?_;unfold zcJ;refine zan (ρ1:=[some (.tup [.int x,.int y]),some (.int x),none]) (s1:=st) (by simp[i0]) ?_;refine zan (ρ1:=[some (.tup [.int x,.int y]),some (.int x),some (.int y)]) (s1:=st) (by simp[i1]) ?_;simp
def nmF(ks:List (List Str))(P:List Tl)(p:Int×Int)(j:Nat):Str:=match fnd P p.1 p.2 with
 | some k=>(sds ks k).getD j ""
 | none=>""
def zuj{bed pl nr L0:D}{d l:Nat}{J I k:Int}{s:Sto}{L:List D}{y:D}{sl:D}(h1:inA nr (.ref d) s=some (.bl true,s))(hl:s[l]?=some (.lst L))(hx:ixA (.ref d) nr s=some (.int k,s))(hs:zcu [bed,.int k] s=some (sl,s))(hm:modD (.int (J+2)) (.int 4) s=some (.int I,s))(hy:ixA sl (.int I) s=some (y,s))(ha:zbQ (.ref l) [y] s=some (.non,s.set l (.lst (L++[y])))) :
   zaL [some bed,some (.ref d),some pl,some (.ref l),some (.int J),some nr] s=some (.nx [some bed,some (.ref d),some pl,some (.ref l),some (.int J),some nr],s.set l (.lst (L++[y]))):=by
 unfold zaL;simp[h1,zbA,hl,hx,hs,hm,hy,ha]
def zse{bed pl nr:D}{d l:Nat}{J:Int}{s:Sto}{L:List D}(h1:inA nr (.ref d) s=some (.bl false,s))(hl:s[l]?=some (.lst L))(ha:zbQ (.ref l) [.str ""] s=some (.non,s.set l (.lst (L++[.str ""])))) :
   zaL [some bed,some (.ref d),some pl,some (.ref l),some (.int J),some nr] s=some (.nx [some bed,some (.ref d),some pl,some (.ref l),some (.int J),some nr],s.set l (.lst (L++[.str ""]))):=by
 unfold zaL;simp[h1,zbA,hl,ha]
def zhG{bed pl:D}{stk:List (Str×Int)}{ss:List Str}{ks:List (List Str)}{P:List Tl}{d l:Nat}{J I a b:Int}{j:Nat}{s:Sto}{L:List D}(hb:BedAt bed stk ks)(h:KsOk ss ks)(hP:∀ t∈P,0<=t.2.2/\t.2.2 < (ks.length:Int))(hd:s[d]?=some (.dt (P.map kvOf)))(hl:s[l]?=some (.lst L))(hL:L.length<=10)(hI:(J+2) % 4=I)(hj:I=(j:Int))(hj4:j < 4) :
   zaL [some bed,some (.ref d),some pl,some (.ref l),some (.int J),some (.tup [.int a,.int b])] s=some (.nx [some bed,some (.ref d),some pl,some (.ref l),some (.int J),some (.tup [.int a,.int b])],s.set l (.lst (L++[.str (nmF ks P (a,b) j)]))):=by
 have hin:=zto (x:=a) (y:=b) hd;have hv:=zeE a b P;unfold nmF
 cases hf:fnd P a b with
 | none =>
   rw[hf] at hv;rw[hv] at hin;exact zse hin hl (append_at hl (by omega))
 | some k =>
   rw[hf] at hv;have hv:valD (P.map kvOf) [.inl a,.inl b]=some (.int k):=hv;rw[hv] at hin;obtain⟨t,ht,rfl⟩:=zkc hf;obtain⟨k0,k1⟩:=hP t ht;obtain⟨f,x0,x1,x2,x3,e,es,_⟩:=zdz h k0 k1;refine zuj (L0:=.non) hin hl (ztl hd hv) (zig hb h k0 k1) (by rw[ziQ (by decide),hI]) (zaS (by omega) ?_) (append_at hl (by omega));show ((sds ks t.2.2).map D.str)[I.toNat]?=some (D.str ((sds ks t.2.2).getD j ""));rw[es,hj,Br]
   match j,hj4 with
   | 0,_=>rfl
   | 1,_=>rfl
   | 2,_=>rfl
   | 3,_=>rfl
def names4(ks:List (List Str))(P:List Tl)(x y:Int):List Str:=[nmF ks P (x,y+1) 2,nmF ks P (x+1,y) 3,nmF ks P (x,y - 1) 0,nmF ks P (x - 1,y) 1]
def zkh{e:ME}{ρ:Rho}{st s:Sto}{ds:List D}(h:e ρ st=some (.tup ds,s)):zoE e ρ st=some (⟨pairs ds,[]⟩,s):=by
 unfold zoE;rw[h];rfl
def zlR{bed:D}{stk:List (Str×Int)}{ss:List Str}{ks:List (List Str)}{P:List Tl}{d:Nat}{x y:Int}{st:Sto}(hb:BedAt bed stk ks)(h:KsOk ss ks)(hP:∀ t∈P,0<=t.2.2/\t.2.2 < (ks.length:Int))(hd:st[d]?=some (.dt (P.map kvOf))) :
   ∃ st',Y3 (zbw [bed,.ref d,.tup [.int x,.int y]] st=some (.ref st.length,st')) (st'[st.length]?=some (.lst ((names4 ks P x y).map D.str))) (Gr st st'):=by
 have hdl:=getElem?_lt hd;have key:=zbX (W:=⟨pairs [.tup [.int x,.int (y+1)],.tup [.int (x+1),.int y],.tup [.int x,.int (y - 1)],.tup [.int (x - 1),.int y]],[]⟩) (g:=gTp 2 (gC (gNm 4) (gC (gNm 5) (gN0)))) (m:=zaL) (ds:=[D.tup [.int 0,.tup [.int x,.int (y+1)]],.tup [.int 1,.tup [.int (x+1),.int y]],.tup [.int 2,.tup [.int x,.int (y - 1)]],.tup [.int 3,.tup [.int (x - 1),.int y]]]) (ρ:=[some bed,some (.ref d),some (.tup [.int x,.int y]),some (.ref st.length),none,none]) (st:=st++[.lst []])
   (Inv:=fun k ρ s=>Y3 ((∃ a b,ρ=[some bed,some (.ref d),some (.tup [.int x,.int y]),some (.ref st.length),a,b])) (s[st.length]?=some (.lst (((names4 ks P x y).take k).map D.str))) (Gr st s))
   ⟨⟨_,_,rfl⟩,zaQ _ _,Gr.app _ _⟩ (fun _ _ _ _ _=>rfl) (fun k dd ρ s hdd hI=>by
     obtain⟨⟨u,v,rfl⟩,hat,hg⟩:=hI;have hd':=(hg.old _ hdl).trans hd;have hL:(((names4 ks P x y).take k).map D.str).length<=10:=by rw[Ag,Bl];simp[names4];omega
     have gr:∀ o:O,Gr st (s.set st.length o):=fun o=>⟨by rw[Bj];exact hg.len,fun j hj=>by rw[Ai (by omega)];exact hg.old j hj⟩
     have at':∀ o:O,(s.set st.length o)[st.length]?=some o:=fun o=>AE (getElem?_lt hat)
     match k,hdd with
     | 0,hdd =>
       cases hdd;exact⟨_,s,_,_,rfl,zhG (pl:=.tup [.int x,.int y]) (I:=2) (j:=2) hb h hP hd' hat hL (by decide) rfl (by decide),⟨_,_,rfl⟩,at' _,gr _⟩
     | 1,hdd =>
       cases hdd;exact⟨_,s,_,_,rfl,zhG (pl:=.tup [.int x,.int y]) (I:=3) (j:=3) hb h hP hd' hat hL (by decide) rfl (by decide),⟨_,_,rfl⟩,at' _,gr _⟩
     | 2,hdd =>
       cases hdd;exact⟨_,s,_,_,rfl,zhG (pl:=.tup [.int x,.int y]) (I:=0) (j:=0) hb h hP hd' hat hL (by decide) rfl (by decide),⟨_,_,rfl⟩,at' _,gr _⟩
     | 3,hdd =>
       cases hdd;exact⟨_,s,_,_,rfl,zhG (pl:=.tup [.int x,.int y]) (I:=1) (j:=1) hb h hP hd' hat hL (by decide) rfl (by decide),⟨_,_,rfl⟩,at' _,gr _⟩
     | k+4,hdd=>exact absurd hdd (by simp))
 obtain⟨ρ',s',el,⟨u,v,rfl⟩,hat,hg⟩:=key;refine⟨s',zcn ?_,hat,hg⟩;unfold zdd;refine zan (ρ1:=[some bed,some (.ref d),some (.tup [.int x,.int y]),some (.ref st.length),none,none]) (s1:=st++[.lst []]) (by simp) ?_;refine zan (ρ1:=[some bed,some (.ref d),some (.tup [.int x,.int y]),some (.ref st.length),u,v]) (s1:=s') (by
   have ec:zav zaD (zae (mVar 2) (mNil)) [some bed,some (.ref d),some (.tup [.int x,.int y]),some (.ref st.length),none,none] (st++[.lst []])=some (.tup [.tup [.int x,.int (y+1)],.tup [.int (x+1),.int y],.tup [.int x,.int (y - 1)],.tup [.int (x - 1),.int y]],st++[.lst []]):=by
     have:=zh6 (x:=x) (y:=y) (st:=st++[.lst []]);simp[this]
   rw[zcV,zkh ec];exact el) ?_
 simp
def okJ(S N:List Str)(j:Nat):Bool:=S.getD j "" != ""&&S.getD j ""==N.getD j ""
def alike(S N:List Str):List Nat:=(AA 4).filter (okJ S N)
def zfD:Bg ("":Str)=true:=by decide +kernel
def nm_F{ss:List Str}{ks:List (List Str)}{P:List Tl}(h:KsOk ss ks)(hP:∀ t∈P,0<=t.2.2/\t.2.2 < (ks.length:Int))(p:Int×Int)(j:Nat):NmOk (nmF ks P p j):=by
 unfold nmF
 split
 . rename_i k hf;obtain⟨t,ht,rfl⟩:=zkc hf;obtain⟨k0,k1⟩:=hP t ht;obtain⟨f,a,b,c,d,e,es,hok⟩:=zdz h k0 k1;rw[es,Ax]
   cases hg:[a,b,c,d][j]? with
   | none=>exact zdj
   | some x=>exact (hok x (A3 hg)).1
 . exact zdj
def kvS(p:Str×Int):Key×D:=(.inr p.1,.int p.2)
def stD(stk:List (Str×Int)):List (Key×D):=zgc [] (stk.map kvS)
def zoJ{κ:Type}[DecidableEq κ]:∀ (kvs:List (κ×D)) (k q:κ) (d:D),valD (putD kvs k d) q=if q=k then some d else valD kvs q:=by
 intro kvs k q d;unfold putD
 by_cases h:(kvs.any fun kv=>decide (kv.1=k))=true
 . rw[if_pos h]
   induction kvs with
   | nil=>simp at h
   | cons p r ih =>
     unfold valD at *;rw[Av,AL,AL]
     by_cases hp:p.1=k
     . simp only[hp,if_true]
       by_cases hq:q=k
       . simp[hq]
       . have:¬ k=q:=fun e=>hq e.symm;simp only[this,decide_false,hq,if_false];clear h ih
         induction r with
         | nil=>rfl
         | cons u r ih2 =>
           rw[Av,AL,AL]
           by_cases hu:u.1=k
           . simp only[hu,if_true,this,decide_false];exact ih2
           . simp only[hu,if_false]
             by_cases huq:u.1=q
             . simp[huq]
             . simp only[huq,decide_false];exact ih2
     . simp only[hp,if_false]
       by_cases hpq:p.1=q
       . have:¬ q=k:=fun e=>hp (hpq.trans e);simp[hpq,this]
       . simp only[hpq,decide_false];refine ih ?_;rw[B2] at h;simpa[hp] using h
 . rw[if_neg h];unfold valD;rw[FB]
   by_cases hq:q=k
   . subst hq;have:kvs.find? (fun kv=>decide (kv.1=q))=none:=by
       rw[Fh];intro x hx hx2;exact h (List.any_eq_true.mpr ⟨x,hx,hx2⟩)
     simp[this]
   . have:¬ k=q:=fun e=>hq e.symm;simp[hq,this]
def okV(d:Option D):Prop:=∃ v:Int,d=some (.int v)/\1<=v/\v<=4
def zhI{q:Str}:∀ {more:List (Str×Int)} {acc:List (Key×D)},(∀ p∈more,1<=p.2/\p.2<=4)->(okV (valD acc (.inr q))\/q∈more.map (·.1))->okV (valD (zgc acc (more.map kvS)) (.inr q))
 | [],acc,_,h=>by
   rcases h with h | h
   . exact h
   . cases h
 | p::r,acc,hv,h=>by
   show okV (valD (zgc (putD acc (.inr p.1) (.int p.2)) (r.map kvS)) (.inr q));refine zhI (fun u hu=>hv u (Ak _ hu)) ?_;rw[zoJ]
   by_cases e:q=p.1
   . subst e;rw[if_pos rfl];have:=hv p An;exact .inl ⟨p.2,rfl,this.1,this.2⟩
   . have e':¬ (Dr q:Key)=.inr p.1:=fun z=>e (by injection z);rw[if_neg e']
     rcases h with h | h
     . exact .inl h
     . rcases List.mem_cons.mp h with h | h
       . exact absurd h e
       . exact .inr h
def sv(stk:List (Str×Int))(a:Str):Int:=match valD (stD stk) (.inr a) with | some (.int v)=>v | _=>0
def zqZ{stk:List (Str×Int)}{a:Str}(h:∀ p∈stk,1<=p.2/\p.2<=4)(ha:a∈stk.map (·.1)):valD (stD stk) (.inr a)=some (.int (sv stk a))/\1<=sv stk a/\sv stk a<=4:=by
 obtain⟨v,e,h1,h2⟩:=zhI (acc:=[]) h (.inr ha);have e:valD (stD stk) (.inr a)=some (.int v):=e;have:sv stk a=v:=by unfold sv;rw[e]
 rw[this];exact⟨e,h1,h2⟩
def zmj:∀ stk:List (Str×Int),zoD (stk.map zbL)=some (stk.map kvS)
 | []=>rfl
 | p::r=>by
   have ih:=zmj r;rw[Av,zoD,ih];rfl
def zmD{stk:List (Str×Int)}{st:Sto}(hl:stk.length<=1000):zoG [.tup (stk.map zbL)] st=some (.ref st.length,st++[.dk (stD stk)]):=by
 have fk:fits (stk.map kvS).length=true:=zaw (by rw[Ag];omega);have e1:zrf [.tup (stk.map zbL)] st=none:=rfl;unfold zoG orN;rw[e1,zio];unfold zre;simp only[zmj,Ae,fk,if_true];rfl
def ztm{d:Nat}{kvs:List (Key×D)}{a:Str}{v:D}{st:Sto}(h:st[d]?=some (.dk kvs))(hv:valD kvs (.inr a)=some v):ixA (.ref d) (.str a) st=some (v,st):=by
 have e1:idxD (.ref d) (.str a) st=none:=by simp[idxD,zbA,h]
 unfold ixA orG;rw[e1,zio];simp[zsX,look,h,keyOf,hv]
def zmB:∀ ns:List Int,zqk (ns.map D.int)=some ns
 | []=>rfl
 | n::r=>by
   have ih:=zmB r;rw[Av,zqk,ih];rfl
def zoR{ns:List Int}{l:Nat}{st:Sto}(hl:st[l]?=some (.lst (ns.map D.int)))(h:∀ n∈ns,0<=n/\n<=100)(hn:ns.length<=100):sumC [.ref l] st=some (.int ns.sum,st):=by
 have h1:(ns.all zfQ&&decide (ns.length<=100000))=true:=by
   rw[Ao];refine⟨List.all_eq_true.mpr fun n hn=>?_,decide_eq_true (by omega)⟩;have:=h n hn;unfold zfQ;simp;omega
 unfold sumC;simp only[zbA,hl,Ae,zmB,h1,if_true]
def zrh{a b:Str}{K:Option D}{s:Sto}(ha:Bg a=true)(hb:Bg b=true):zaH [some (.str a),some (.str b),K] s=some (a==b&&a != "",s):=by
 have e1:=eq_str (st:=s) ha hb;have e2:=ne_str (st:=s) ha zfD;unfold zaH
 cases h:a==b with
 | true=>simp[e1,e2,h]
 | false=>simp[e1,e2,h]
def zrr{a b:Str}{d:Nat}{v:D}{s:Sto}(h:ixA (.ref d) (.str a) s=some (v,s)):zaI [some (.str a),some (.str b),some (.ref d)] s=some (v,s):=by
 unfold zaI;simp[h]
def togs(S N:List Str):List (Str×Str):=(S.zip N).filter fun p=>p.1==p.2&&p.1 != ""
def zh9{stk:List (Str×Int)}{S N:List Str}{d l:Nat}{st:Sto}(hstk:∀ p∈stk,1<=p.2/\p.2<=4)(hS:S.length<=4)(oS:∀ x∈S,NmOk x/\(x=""\/x∈stk.map (·.1)))(oN:∀ x∈N,Bg x=true)(hd:st[d]?=some (.dk (stD stk)))(hl:st[l]?=some (.lst (N.map D.str))) :
   ∃ st',zaE [.ref d,.tup (S.map D.str),.ref l] st=some (.int ((togs S N).map fun p=>sv stk p.1).sum,st')/\Gr st st':=by
 have hz:pairD (S.map D.str) (N.map D.str)=(S.zip N).map fun p=>D.tup [.str p.1,.str p.2]:=by
   unfold pairD;rw[List.zip_map,A7];rfl
 have hmem:∀ p∈S.zip N,p.1∈S/\p.2∈N:=fun p hp=>by
   obtain⟨a,b⟩:=p;exact CF hp
 have hw:walked ⟨(S.zip N).map fun p=>D.tup [.str p.1,.str p.2],[(l,N.map D.str)]⟩ st=true:=zcY hl;have ec:mCI ⟨(S.zip N).map fun p=>D.tup [.str p.1,.str p.2],[(l,N.map D.str)]⟩ (gTp 2 (gC (gNm 0) (gC (gNm 1) (gN0)))) zaH zaI ((S.zip N).map fun p=>D.tup [.str p.1,.str p.2]) [none,none,some (.ref d)] st=some ((togs S N).map fun p=>D.int (sv stk p.1),st):=by
   refine zhZ (R:=fun ρ=>∃ x y,ρ=[x,y,some (.ref d)]) ⟨none,none,rfl⟩ hw fun p hp ρ hρ=>?_;obtain⟨x,y,rfl⟩:=hρ;obtain⟨h1,h2⟩:=hmem p hp;refine⟨[some (.str p.1),some (.str p.2),some (.ref d)],rfl,zrh (zl8 (oS _ h1).1.ab) (oN _ h2),fun hc=>?_,_,_,rfl⟩;have hne:p.1≠"":=by
     rw[Ao] at hc;simpa using hc.2
   have hin:p.1∈stk.map (·.1):=by
     rcases (oS _ h1).2 with h | h
     . exact absurd h hne
     . exact h
   exact zrr (ztm hd (zqZ hstk hin).1)
 have hm:((togs S N).map fun p=>D.int (sv stk p.1))=((togs S N).map fun p=>sv stk p.1).map D.int:=by rw[A7];rfl
 rw[hm] at ec;have hlen:(togs S N).length<=4:=by
   refine Az (A8 _ _) ?_;rw[Ga];omega
 have hall:∀ n∈(togs S N).map (fun p=>sv stk p.1),0<=n/\n<=100:=fun n hn=>by
   obtain⟨p,hp,rfl⟩:=List.mem_map.mp hn;obtain⟨hp1,hc⟩:=List.mem_filter.mp hp;obtain⟨h1,h2⟩:=hmem p hp1;have hne:p.1≠"":=by
     rw[Ao] at hc;simpa using hc.2
   have hin:p.1∈stk.map (·.1):=by
     rcases (oS _ h1).2 with h | h
     . exact absurd h hne
     . exact h
   have:=zqZ hstk hin;omega
 have es:=zoR (zaQ st (.lst (((togs S N).map fun p=>sv stk p.1).map D.int))) hall (by rw[Ag];omega);have fl:fits (((togs S N).map fun p=>sv stk p.1).map D.int).length=true:=zaw (by rw[Ag,Ag];omega);generalize ((togs S N).map fun p=>sv stk p.1).sum=R at *;generalize ((togs S N).map fun p=>sv stk p.1).map D.int=A at *;refine⟨st++[.lst A],zcn ?_,Gr.app _ _⟩;rw[<-hz] at ec;generalize S.map D.str=SS at *;generalize hNN:N.map D.str=NN at *;unfold zb7;have ecm:zde (mZip (mVar 1) (mVar 2)) 2 [0] (gTp 2 (gC (gNm 0) (gC (gNm 1) (gN0)))) (zaH) (zaI) [some (.ref d),some (.tup SS),some (.ref l)] st=some (.ref st.length,st++[.lst A]):=by
   have:mZip (mVar 1) (mVar 2) [some (.ref d),some (.tup SS),some (.ref l)] st=some (⟨pairD SS NN,[(l,NN)]⟩,st):=by
     rw[zs3];simp[zov,zipW,seqD,zbA,hl]
   rw[zaX,this];simp only[Ae];rw[show rho0 [some (.ref d),some (.tup SS),some (.ref l)] 2 [0]=[none,none,some (.ref d)] from rfl,ec];simp only[Ae,fl,if_true]
 simp[ecm,es]
def zmb{x y J a b:Int}{s:Sto}(h0:0<=J)(h:[D.tup [.int x,.int (y+1)],.tup [.int (x+1),.int y],.tup [.int x,.int (y - 1)],.tup [.int (x - 1),.int y]][J.toNat]?=some (.tup [.int a,.int b])):∃ s',zaM [.tup [.int x,.int y],.int J] s=some (.tup [.int a,.int b],s')/\Gr s s':=by
 have ex:=zcp (zaQ s (.lst [.tup [.int x,.int (y+1)],.tup [.int (x+1),.int y],.tup [.int x,.int (y - 1)],.tup [.int (x - 1),.int y]])) h0 h;refine⟨s++[.lst [.tup [.int x,.int (y+1)],.tup [.int (x+1),.int y],.tup [.int x,.int (y - 1)],.tup [.int (x - 1),.int y]]],zcn ?_,Gr.app _ _⟩;unfold zen;refine zan (ρ1:=[some (.tup [.int x,.int y]),some (.int J),some (.int x),some (.int y)]) (s1:=s) (by simp) ?_;simp[ex]
def zsQ{d:Nat}{kvs:List (List Key×D)}{a b:Int}{mk:ME}{ρ:Rho}{s s1:Sto}{md:ME}(hm:md ρ s=some (.ref d,s))(h:s[d]?=some (.dt kvs))(hk:mk ρ s=some (.tup [.int a,.int b],s1))(h1:s1[d]?=some (.dt kvs)):znS md mk ρ s=some ((valD kvs [.inl a,.inl b]).getD .non,s1):=by
 have e1:zmA s d=true:=by unfold zmA;rw[h]
 have e2:zq9 s1 d (.tup [.int a,.int b])=some (valD kvs [.inl a,.inl b]):=by
   unfold zq9;have:look s1 d (.tup [.int a,.int b])=some (valD kvs [.inl a,.inl b]):=by
     unfold look;simp only[h1];rfl
   rw[this,zf1]
 unfold znS;rw[hm];simp only[Ae,e1,if_true];rw[hk];simp only[Ae,e2,Bi]
section
variable {bed KK pl kd mineD:D} {d l n:Nat} {k J I:Int} {s s1:Sto} {a7 a8:Option D} {L:List D} {mine:Str}
def zpT(hg:znS (mVar 1) (zav zaM (zae (mVar 2) (zae (mVar 6) (mNil)))) [some bed,some (.ref d),some pl,some (.int k),some KK,some (.ref l),some (.int J),a7,a8] s=some (.non,s1))
   (hk:ixA KK (.int k) s1=some (kd,s1)) (hm:ixA kd (.int (J+1)) s1=some (.str mine,s1)) :
   zaP [some bed,some (.ref d),some pl,some (.int k),some KK,some (.ref l),some (.int J),a7,a8] s=some (.nx [some bed,some (.ref d),some pl,some (.int k),some KK,some (.ref l),some (.int J),some .non,some (.str mine)],s1):=by
 unfold zaP;refine zan (ρ1:=[some bed,some (.ref d),some pl,some (.int k),some KK,some (.ref l),some (.int J),some .non,a8]) (s1:=s1) (by rw[zgv,hg];rfl) ?_;refine zan (ρ1:=[some bed,some (.ref d),some pl,some (.int k),some KK,some (.ref l),some (.int J),some .non,some (.str mine)]) (s1:=s1) (by simp[hk,hm]) ?_;simp[zmm,zkO]
def zoX{o:Int}{od:D}{os:Str}(hg:znS (mVar 1) (zav zaM (zae (mVar 2) (zae (mVar 6) (mNil)))) [some bed,some (.ref d),some pl,some (.int k),some KK,some (.ref l),some (.int J),a7,a8] s=some (.int o,s1))
   (hk:ixA KK (.int k) s1=some (kd,s1)) (hm:ixA kd (.int (J+1)) s1=some (.str mine,s1)) (sm:Bg mine=true) (so:Bg os=true) (hI:modD (.int (J+2)) (.int 4) s1=some (.int I,s1)) (ho:ixA KK (.int o) s1=some (od,s1)) (hos:ixA od (.int (I+1)) s1=some (.str os,s1)) (hl:s1[l]?=some (.lst L)) (hL:L.length<=10) :
   zaP [some bed,some (.ref d),some pl,some (.int k),some KK,some (.ref l),some (.int J),a7,a8] s=some (.nx [some bed,some (.ref d),some pl,some (.int k),some KK,some (.ref l),some (.int J),some (.int o),some (.str mine)],if (mine != ""&&os==mine)=true then s1.set l (.lst (L++[.int J])) else s1):=by
 have e1:=ne_str (st:=s1) sm zfD;have e2:=eq_str (st:=s1) so sm;have ea:=append_at (x:=.int J) hl (by omega);unfold zaP;refine zan (ρ1:=[some bed,some (.ref d),some pl,some (.int k),some KK,some (.ref l),some (.int J),some (.int o),a8]) (s1:=s1) (by rw[zgv,hg];rfl) ?_;refine zan (ρ1:=[some bed,some (.ref d),some pl,some (.int k),some KK,some (.ref l),some (.int J),some (.int o),some (.str mine)]) (s1:=s1) (by simp[hk,hm]) ?_
 cases h1:mine != "" with
 | false=>simp[zmm,zkO,e1,h1]
 | true =>
   cases h2:os==mine with
   | false=>simp[zmm,zkO,e1,h1,hI,ho,hos,e2,h2]
   | true=>simp[zmm,zkO,e1,h1,hI,ho,hos,e2,h2,zbA,hl,ea]
end
def zfw{bed:D}{ss:List Str}{ks:List (List Str)}{P:List Tl}{d l:Nat}{x y k J I a b:Int}{i j:Nat}{s:Sto}{L:List D}{a7 a8:Option D}(h:KsOk ss ks)(hP:∀ t∈P,0<=t.2.2/\t.2.2 < (ks.length:Int))(k0:0<=k)(k1:k < (ks.length:Int))(hd:s[d]?=some (.dt (P.map kvOf)))(hl:s[l]?=some (.lst L))(hL:L.length<=10)
   (hJ:J=(i:Int)) (hi:i < 4) (hI:(J+2) % 4=I) (hj:I=(j:Int)) (hj4:j < 4) (hp:[D.tup [.int x,.int (y+1)],.tup [.int (x+1),.int y],.tup [.int x,.int (y - 1)],.tup [.int (x - 1),.int y]][J.toNat]?=some (.tup [.int a,.int b])) :
   ∃ (b7 b8:Option D) (s':Sto),Y3 (zaP [some bed,some (.ref d),some (.tup [.int x,.int y]),some (.int k),some (.tup (ks.map zbU)),some (.ref l),some (.int J),a7,a8] s=some (.nx [some bed,some (.ref d),some (.tup [.int x,.int y]),some (.int k),some (.tup (ks.map zbU)),some (.ref l),some (.int J),b7,b8],s')) (s'[l]?=some (.lst (if ((sds ks k).getD i "" != ""&&(sds ks k).getD i ""==nmF ks P (a,b) j)=true then L++[.int J] else L))) (Fr l s s'):=by
 obtain⟨s1,e1,g1⟩:=zmb (x:=x) (y:=y) (s:=s) (by omega) hp;have hd1:=(g1.old _ (getElem?_lt hd)).trans hd;have hl1:=(g1.old _ (getElem?_lt hl)).trans hl;have eg:=zsQ (a:=a) (b:=b) (s1:=s1) (md:=mVar 1) (mk:=zav zaM (zae (mVar 2) (zae (mVar 6) (mNil)))) (ρ:=[some bed,some (.ref d),some (.tup [.int x,.int y]),some (.int k),some (.tup (ks.map zbU)),some (.ref l),some (.int J),a7,a8]) rfl hd (by simp[e1]) hd1;have hv:=zeE a b P;obtain⟨f,x0,x1,x2,x3,e,es,hok⟩:=zdz h k0 k1;have ek:ixA (.tup (ks.map zbU)) (.int k) s1=some (zbU [f,x0,x1,x2,x3],s1):=zaS k0 (by rw[AD,e];rfl);have em:ixA (zbU [f,x0,x1,x2,x3]) (.int (J+1)) s1=some (.str ((sds ks k).getD i ""),s1):=by
   refine zaS (by omega) ?_;rw[es];have:(J+1).toNat=i+1:=by omega
   rw[this]
   match i,hi with
   | 0,_=>rfl
   | 1,_=>rfl
   | 2,_=>rfl
   | 3,_=>rfl
 have sm:NmOk ((sds ks k).getD i ""):=by
   rw[es,Ax]
   cases hg:[x0,x1,x2,x3][i]? with
   | none=>exact zdj
   | some u=>exact (hok u (A3 hg)).1
 generalize (sds ks k).getD i ""=mine at em sm ⊢
 cases hf:fnd P a b with
 | none =>
   have en:nmF ks P (a,b) j="":=by unfold nmF;rw[hf]
   rw[hf] at hv;rw[hv] at eg;refine⟨_,_,s1,zpT eg ek em,?_,g1.fr l⟩;rw[en];have:(mine != ""&&mine=="")=false:=by
     cases h:mine=="" <;> simp[bne,h]
   rw[this];exact hl1
 | some o =>
   have en:nmF ks P (a,b) j=(sds ks o).getD j "":=by unfold nmF;rw[hf]
   rw[hf] at hv;rw[hv] at eg;obtain⟨t,ht,rfl⟩:=zkc hf;obtain⟨o0,o1⟩:=hP t ht;obtain⟨f',z0,z1,z2,z3,e',es',hok'⟩:=zdz h o0 o1;have eo:ixA (.tup (ks.map zbU)) (.int t.2.2) s1=some (zbU [f',z0,z1,z2,z3],s1):=zaS o0 (by rw[AD,e'];rfl);have eos:ixA (zbU [f',z0,z1,z2,z3]) (.int (I+1)) s1=some (.str ((sds ks t.2.2).getD j ""),s1):=by
     refine zaS (by omega) ?_;rw[es'];have:(I+1).toNat=j+1:=by omega
     rw[this]
     match j,hj4 with
     | 0,_=>rfl
     | 1,_=>rfl
     | 2,_=>rfl
     | 3,_=>rfl
   have so:NmOk ((sds ks t.2.2).getD j ""):=by
     rw[es',Ax]
     cases hg:[z0,z1,z2,z3][j]? with
     | none=>exact zdj
     | some u=>exact (hok' u (A3 hg)).1
   rw[en];generalize (sds ks t.2.2).getD j ""=os at eos so ⊢;have eg:znS (mVar 1) (zav zaM (zae (mVar 2) (zae (mVar 6) (mNil)))) [some bed,some (.ref d),some (.tup [.int x,.int y]),some (.int k),some (.tup (ks.map zbU)),some (.ref l),some (.int J),a7,a8] s=some (.int t.2.2,s1):=eg;have rd:=zoX eg ek em (zl8 sm.ab) (zl8 so.ab) (by rw[ziQ (by decide),hI]) eo eos hl1 hL;have hsym:(mine != ""&&os==mine)=(mine != ""&&mine==os):=by
     have:(os==mine)=(mine==os):=by
       by_cases hq:os=mine
       . subst hq;rfl
       . rw[beq_false_of_ne hq,beq_false_of_ne fun z=>hq z.symm]
     rw[this]
   rw[hsym] at rd;refine⟨_,_,_,rd,?_,?_⟩
   . by_cases hc:(mine != ""&&mine==os)=true
     . rw[if_pos hc,if_pos hc,AE (getElem?_lt hl1)]
     . rw[if_neg hc,if_neg hc];exact hl1
   . by_cases hc:(mine != ""&&mine==os)=true
     . rw[if_pos hc];exact (g1.fr l).trans (Gb _ _ _)
     . rw[if_neg hc];exact g1.fr l
def fl(p:Nat->Bool)(k:Nat):List D:=((AA k).filter p).map fun (i:Nat)=>D.int (i:Int)
def zeP(p:Nat->Bool)(k:Nat):fl p (k+1)=if p k=true then fl p k++[.int (k:Int)] else fl p k:=by
 unfold fl;rw[Cg,Dz,AZ]
 by_cases h:p k=true
 . rw[if_pos h];simp[h]
 . rw[if_neg h];simp[h]
def zhb{bed:D}{stk:List (Str×Int)}{ss:List Str}{ks:List (List Str)}{P:List Tl}{d:Nat}{x y k:Int}{st:Sto}(hb:BedAt bed stk ks)(h:KsOk ss ks)(hP:∀ t∈P,0<=t.2.2/\t.2.2 < (ks.length:Int))(k0:0<=k)(k1:k < (ks.length:Int))(hd:st[d]?=some (.dt (P.map kvOf))) :
   ∃ st',Y3 (zb1 [bed,.ref d,.tup [.int x,.int y],.int k] st=some (.ref st.length,st')) (st'[st.length]?=some (.lst ((alike (sds ks k) (names4 ks P x y)).map fun (i:Nat)=>D.int (i:Int)))) (Gr st st'):=by
 obtain⟨hs,i0,_,i2⟩:=hb.h;have hdl:=getElem?_lt hd;have key:=zbX (W:=⟨run 0 4,[]⟩) (g:=gNm 6) (m:=zaP) (ds:=[D.int 0,.int 1,.int 2,.int 3]) (ρ:=[some bed,some (.ref d),some (.tup [.int x,.int y]),some (.int k),some (.tup (ks.map zbU)),some (.ref st.length),none,none,none]) (st:=st++[.lst []])
   (Inv:=fun i ρ s=>Y3 ((∃ a b c,ρ=[some bed,some (.ref d),some (.tup [.int x,.int y]),some (.int k),some (.tup (ks.map zbU)),some (.ref st.length),a,b,c])) (s[st.length]?=some (.lst (fl (okJ (sds ks k) (names4 ks P x y)) i))) (Gr st s))
   ⟨⟨_,_,_,rfl⟩,zaQ _ _,Gr.app _ _⟩ (fun _ _ _ _ _=>rfl) (fun i dd ρ s hdd hI=>by
     obtain⟨⟨u,v,w,rfl⟩,hat,hg⟩:=hI;have hd':=(hg.old _ hdl).trans hd;have hL:(fl (okJ (sds ks k) (names4 ks P x y)) i).length<=10:=by
       have h1:(fl (okJ (sds ks k) (names4 ks P x y)) i).length<=i:=by
         unfold fl;rw[Ag];exact Az (A8 _ _) (by simp)
       have:=getElem?_lt hdd;simp at this;omega
     have fin:∀ s':Sto,Fr st.length s s'->Gr st s':=fun s' f=>⟨Az hg.len f.len,fun j hj=>(f.old j (AC hj hg.len) (by omega)).trans (hg.old j hj)⟩
     match i,hdd with
     | 0,hdd =>
       cases hdd;obtain⟨b7,b8,s',e,hat',f⟩:=zfw (bed:=bed) (I:=2) (i:=0) (j:=2) (a:=x) (b:=y+1) (x:=x) (y:=y) (a7:=v) (a8:=w) h hP k0 k1 hd' hat hL rfl (by decide) (by decide) rfl (by decide) rfl;exact⟨_,s,_,s',rfl,e,⟨_,_,_,rfl⟩,by rw[zeP];exact hat',fin s' f⟩
     | 1,hdd =>
       cases hdd;obtain⟨b7,b8,s',e,hat',f⟩:=zfw (bed:=bed) (I:=3) (i:=1) (j:=3) (a:=x+1) (b:=y) (x:=x) (y:=y) (a7:=v) (a8:=w) h hP k0 k1 hd' hat hL rfl (by decide) (by decide) rfl (by decide) rfl;exact⟨_,s,_,s',rfl,e,⟨_,_,_,rfl⟩,by rw[zeP];exact hat',fin s' f⟩
     | 2,hdd =>
       cases hdd;obtain⟨b7,b8,s',e,hat',f⟩:=zfw (bed:=bed) (I:=0) (i:=2) (j:=0) (a:=x) (b:=y - 1) (x:=x) (y:=y) (a7:=v) (a8:=w) h hP k0 k1 hd' hat hL rfl (by decide) (by decide) rfl (by decide) rfl;exact⟨_,s,_,s',rfl,e,⟨_,_,_,rfl⟩,by rw[zeP];exact hat',fin s' f⟩
     | 3,hdd =>
       cases hdd;obtain⟨b7,b8,s',e,hat',f⟩:=zfw (bed:=bed) (I:=1) (i:=3) (j:=1) (a:=x - 1) (b:=y) (x:=x) (y:=y) (a7:=v) (a8:=w) h hP k0 k1 hd' hat hL rfl (by decide) (by decide) rfl (by decide) rfl;exact⟨_,s,_,s',rfl,e,⟨_,_,_,rfl⟩,by rw[zeP];exact hat',fin s' f⟩
     | i+4,hdd=>exact absurd hdd (by simp))
 obtain⟨ρ',s',el,⟨u,v,w,rfl⟩,hat,hg⟩:=key;refine⟨s',zcn ?_,hat,hg⟩;have i0':=i0 st;have i2':=i2 st;generalize ks.map zbU=KK at *;unfold zdD;refine zan (ρ1:=[some bed,some (.ref d),some (.tup [.int x,.int y]),some (.int k),some (.tup KK),some (.ref st.length),none,none,none]) (s1:=st++[.lst []]) (by simp[i0',i2']) ?_;refine zan (ρ1:=[some bed,some (.ref d),some (.tup [.int x,.int y]),some (.int k),some (.tup KK),some (.ref st.length),u,v,w]) (s1:=s') (by
   rw[zcV,zle (k:=4) rfl (by decide)];exact el) ?_
 simp
def zuB{bed hs kd:D}{KK:D}{e:Nat}{k J:Int}{mine:Str}{v:D}{s:Sto}(i0:ixA bed (.int 0) s=some (hs,s))(i2:ixA hs (.int 2) s=some (KK,s))(ik:ixA KK (.int k) s=some (kd,s))(ij:ixA kd (.int (J+1)) s=some (.str mine,s))(iv:ixA (.ref e) (.str mine) s=some (v,s)):zbS [some (.int J),some (.ref e),some bed,some (.int k)] s=some (v,s):=by
 unfold zbS;simp[i0,i2,ik,ij,iv]
def eq_nil{l m:Nat}{js:List Nat}{st:Sto}(hl:st[l]?=some (.lst (js.map fun (i:Nat)=>D.int (i:Int))))(hm:st[m]?=some (.lst [])):eqD (.ref l) (.ref m) st=some (.bl js.isEmpty,st):=by
 have e:(js.map fun (i:Nat)=>D.int (i:Int))=(js.map fun (i:Nat)=>(i:Int)).map D.int:=by rw[A7];rfl
 rw[e] at hl;unfold eqD;rw[zdQ (n:=98) hl,zdQ (n:=98) (as:=[]) hm]
 cases js <;> rfl
def zlE{bed:D}{stk:List (Str×Int)}{ks:List (List Str)}{P:List Tl}{d:Nat}{x y k:Int}{st:Sto}(hb:BedAt bed stk ks)(h:KsOk (stk.map (·.1)) ks)(hstk:∀ p∈stk,1<=p.2/\p.2<=4)(hsl:stk.length<=1000)(hP:∀ t∈P,0<=t.2.2/\t.2.2 < (ks.length:Int))(k0:0<=k)(k1:k < (ks.length:Int))(hd:st[d]?=some (.dt (P.map kvOf))) :
   ∃ st',zce [bed,.ref d,.tup [.int x,.int y],.int k] st=some (.int ((alike (sds ks k) (names4 ks P x y)).map fun i=>sv stk ((sds ks k).getD i "")).sum,st')/\Gr st st':=by
 obtain⟨s1,e1,a1,g1⟩:=zhb (x:=x) (y:=y) hb h hP k0 k1 hd;obtain⟨hs,i0,i1,i2⟩:=id hb.h;have hmem:∀ i∈alike (sds ks k) (names4 ks P x y),i < 4/\(sds ks k).getD i ""≠"":=fun i hi=>by
   obtain⟨h1,h2⟩:=List.mem_filter.mp hi;unfold okJ at h2;rw[Ao] at h2;exact⟨List.mem_range.mp h1,by simpa using h2.1⟩
 have hle:(alike (sds ks k) (names4 ks P x y)).length<=4:=by
   have:=A8 (okJ (sds ks k) (names4 ks P x y)) (AA 4);rw[Cq] at this;exact this
 obtain⟨f,x0,x1,x2,x3,e,es,hok⟩:=zdz h k0 k1;generalize alike (sds ks k) (names4 ks P x y)=js at *;have a2:(s1++[O.lst []])[st.length]?=some (.lst (js.map fun (i:Nat)=>D.int (i:Int))):=by rw[Al (getElem?_lt a1)];exact a1
 have en:=eq_nil a2 (zaQ s1 (.lst []));have g2:=Gr.app s1 [.lst []];generalize hs2:s1++[O.lst []]=s2 at *
 by_cases hj:js=[]
 . subst hj;refine⟨s2,zcn ?_,g1.trans g2⟩;unfold zep;refine zan (ρ1:=[some bed,some (.ref d),some (.tup [.int x,.int y]),some (.int k),some (.ref st.length),none]) (s1:=s1) (by simp[e1]) (zfT ?_);simp[hs2,en]
 . have hne:js.isEmpty=false:=by cases js with
     | nil=>exact absurd rfl hj
     | cons a b=>rfl
   rw[hne] at en;have ed:=zmD (stk:=stk) (st:=s2) hsl;have a3:=zaQ s2 (.dk (stD stk));have a2':(s2++[O.dk (stD stk)])[st.length]?=some (.lst (js.map fun (i:Nat)=>D.int (i:Int))):=by rw[Al (getElem?_lt a2)];exact a2
   have g3:=Gr.app s2 [.dk (stD stk)];generalize hs3:s2++[O.dk (stD stk)]=s3 at *;have side:∀ i∈js,(sds ks k).getD i ""∈stk.map (·.1):=fun i hi=>by
     obtain⟨h1,h2⟩:=hmem i hi;rw[es] at h2 ⊢;have hx:[x0,x1,x2,x3].getD i ""∈[x0,x1,x2,x3]:=by
       rw[Ax]
       cases hg:[x0,x1,x2,x3][i]? with
       | none =>
         rw[Ax,hg] at h2;exact absurd rfl h2
       | some u=>exact A3 hg
     rcases (hok _ hx).2 with h3 | h3
     . exact absurd h3 h2
     . exact h3
   have ec:mCI ⟨js.map fun (i:Nat)=>D.int (i:Int),[(st.length,js.map fun (i:Nat)=>D.int (i:Int))]⟩ (gNm 0) zco zbS (js.map fun (i:Nat)=>D.int (i:Int)) [none,some (.ref s2.length),some bed,some (.int k)] s3=some (js.map fun i=>D.int (sv stk ((sds ks k).getD i "")),s3):=by
     refine ziG (R:=fun ρ=>∃ x,ρ=[x,some (.ref s2.length),some bed,some (.int k)]) ⟨none,rfl⟩ (zcY a2') fun i hi ρ hρ=>?_;obtain⟨u,rfl⟩:=hρ;have ek:ixA (.tup (ks.map zbU)) (.int k) s3=some (zbU [f,x0,x1,x2,x3],s3):=zaS k0 (by rw[AD,e];rfl);have ij:ixA (zbU [f,x0,x1,x2,x3]) (.int ((i:Int)+1)) s3=some (.str ((sds ks k).getD i ""),s3):=by
       refine zaS (by omega) ?_;rw[es];have:((i:Int)+1).toNat=i+1:=by omega
       rw[this]
       match i,(hmem i hi).1 with
       | 0,_=>rfl
       | 1,_=>rfl
       | 2,_=>rfl
       | 3,_=>rfl
     exact⟨[some (.int (i:Int)),some (.ref s2.length),some bed,some (.int k)],rfl,rfl,zuB (i0 s3) (i2 s3) ek ij (ztm a3 (zqZ hstk (side i hi)).1),_,rfl⟩
   have hm:(js.map fun i=>D.int (sv stk ((sds ks k).getD i "")))=(js.map fun i=>sv stk ((sds ks k).getD i "")).map D.int:=by rw[A7];rfl
   rw[hm] at ec;have hall:∀ n∈js.map (fun i=>sv stk ((sds ks k).getD i "")),0<=n/\n<=100:=fun n hn=>by
     obtain⟨i,hi,rfl⟩:=List.mem_map.mp hn;have:=zqZ hstk (side i hi);omega
   have esm:=zoR (zaQ s3 (.lst ((js.map fun i=>sv stk ((sds ks k).getD i "")).map D.int))) hall (by rw[Ag];omega);have fl':fits ((js.map fun i=>sv stk ((sds ks k).getD i "")).map D.int).length=true:=zaw (by rw[Ag,Ag];omega);generalize (js.map fun i=>sv stk ((sds ks k).getD i "")).sum=R at *;generalize (js.map fun i=>sv stk ((sds ks k).getD i "")).map D.int=A at *;refine⟨s3++[.lst A],zcn ?_,((g1.trans g2).trans g3).trans (Gr.app _ _)⟩;generalize (js.map fun (i:Nat)=>D.int (i:Int))=JJ at *;unfold zep;refine zan (ρ1:=[some bed,some (.ref d),some (.tup [.int x,.int y]),some (.int k),some (.ref st.length),none]) (s1:=s1) (by simp[e1]) ?_;refine zan (ρ1:=[some bed,some (.ref d),some (.tup [.int x,.int y]),some (.int k),some (.ref st.length),none]) (s1:=s2) (by simp[hs2,en]) ?_;refine zan (ρ1:=[some bed,some (.ref d),some (.tup [.int x,.int y]),some (.int k),some (.ref st.length),some (.ref s2.length)]) (s1:=s3) (by simp[i0,i1,ed]) ?_;have ecm:zde (mWA (mVar 4)) 1 [5,0,3] (gNm 0) (zco) (zbS) [some bed,some (.ref d),some (.tup [.int x,.int y]),some (.int k),some (.ref st.length),some (.ref s2.length)] s3=some (.ref s3.length,s3++[.lst A]):=by
     have:mWA (mVar 4) [some bed,some (.ref d),some (.tup [.int x,.int y]),some (.int k),some (.ref st.length),some (.ref s2.length)] s3=some (⟨JJ,[(st.length,JJ)]⟩,s3):=by simp[zkT,zbA,a2']
     rw[zaX,this];simp only[Ae];rw[show rho0 [some bed,some (.ref d),some (.tup [.int x,.int y]),some (.int k),some (.ref st.length),some (.ref s2.length)] 1 [5,0,3]=[none,some (.ref s2.length),some bed,some (.int k)] from rfl,ec];simp only[Ae,fl',if_true]
   simp[ecm,esm]
def zkY{stk:List (Str×Int)}{S N:List Str}(hS:S.length=4)(hN:N.length=4):((togs S N).map fun p=>sv stk p.1)=(alike S N).map fun i=>sv stk (S.getD i ""):=by
 match S,N,hS,hN with
 | [a,b,c,d],[a',b',c',d'],_,_ =>
   have e:AA 4=[0,1,2,3]:=rfl;have f0:okJ [a,b,c,d] [a',b',c',d'] 0=(a==a'&&a != ""):=DH _ _;have f1:okJ [a,b,c,d] [a',b',c',d'] 1=(b==b'&&b != ""):=DH _ _;have f2:okJ [a,b,c,d] [a',b',c',d'] 2=(c==c'&&c != ""):=DH _ _;have f3:okJ [a,b,c,d] [a',b',c',d'] 3=(d==d'&&d != ""):=DH _ _;unfold togs alike;rw[e];simp only[Dy,Fq,B9,Gc,f0,f1,f2,f3]
   cases (a==a'&&a != "") <;> cases (b==b'&&b != "") <;> cases (c==c'&&c != "") <;> cases (d==d'&&d != "") <;> rfl
structure TameP(w:Nat)(p:PyData):Prop where
 lay:p.canLay0=true
 int:p.intsShort 13=true
 shw:p.showable=true
 wt:p.weight<=w
def Tame(w k:Nat)(d:D):Prop:=∃ p,(∀ (m:Nat) (st:Sto),toP (m+k) st d=some p)/\TameP w p
def zgF{i:Int}(h0:0<=i)(h1:i<=100):Tame 8 1 (.int i):=by
 refine⟨.int i,fun m st=>by rw[toP],by simp only[Bz],?_,?_,?_⟩
 . simp only[FR];exact decide_eq_true (PyData.shown_int_le (by omega))
 . simp only[Di];refine decide_eq_true ?_
   by_cases hz:i.natAbs=0
   . rw[hz];decide
   . exact AC ((FH hz).mpr (show i.natAbs < 2 ^ 7 by omega)) (by decide)
 . simp only[Gv]
   split
   . exact A0 _
   . rename_i hz;have hz:i.natAbs≠0:=by simp at hz;omega
     have:=(FH hz).mpr (show i.natAbs < 2 ^ 7 by omega);omega
def zi0{w k:Nat}:∀ {ds:List D},(∀ d∈ds,Tame w k d)->∃ ps:List PyData,(∀ (m:Nat) (st:Sto),toPs (toP (m+k) st) ds=some ps)/\BA ps=true/\Dp 13 ps=true/\DA ps=true/\DW ps<=(w+1)*ds.length
 | [],_=>⟨[],fun _ _=>rfl,by simp only[BA],by simp only[Dp],by simp only[DA],by simp only[DW];omega⟩
 | d::ds,h=>by
   obtain⟨p,e,t⟩:=h d An;obtain⟨ps,e1,e2,e3,e4,e5⟩:=zi0 (ds:=ds) fun x hx=>h x (Ak _ hx);refine⟨p::ps,fun m st=>?_,?_,?_,?_,?_⟩
   . rw[toPs,e,Ae,e1];rfl
   . simp only[BA,t.lay,e2];rfl
   . simp only[Dp,t.int,e3];rfl
   . simp only[DA,t.shw,e4];rfl
   . simp only[DW,Ar];have:=t.wt;rw[Nat.mul_add];omega
def zgE{w k L:Nat}{ds:List D}(h:∀ d∈ds,Tame w k d)(hl:ds.length<=L):Tame ((w+1)*L) (k+1) (.tup ds):=by
 obtain⟨ps,e1,e2,e3,e4,e5⟩:=zi0 h;refine⟨.tuple ps,fun m st=>?_,by simp only[Bz];exact e2,by simp only[FR];exact e3,by simp only[Di];exact e4,?_⟩
 . rw[show m+(k+1)=(m+k)+1 by omega,toP,e1];rfl
 . simp only[Gv];exact Az e5 (Nat.mul_le_mul_left _ hl)
def zpj{w k:Nat}{d:D}(h:Tame w k d)(hw:w<=1000000)(hk:k<=100):∃ z:Str,∀ st:Sto,zjo [d] st=some (.str z,st):=by
 obtain⟨p,e,t⟩:=h;refine⟨p.shown,fun st=>?_⟩;have e':=e (100 - k) st;rw[show 100 - k+k=100 by omega] at e';have hd:p.hasDict=false:=PyData.hasDict_of_canLay p t.lay;have hf:fits p.shown.length=true:=by
   unfold fits;refine decide_eq_true (PyData.shown_fits (B:=13) (by decide) (by decide) (PyData.leavesShort_of_canLay0 13 p t.lay t.int) (Az t.wt (Az hw (by decide))))
 unfold zjo;simp only[e',Ae,t.shw,hd,hf];rfl
def zfJ{w h kn:Int}{ts:List Tl}(ht:∀ t∈ts,zcq w h kn t)(hl:ts.length<=60)(hw:w<=100)(hh:h<=100)(hk:kn<=100):Tame 1680 3 (zaF ts):=by
 refine zgE (w:=27) (k:=2) (L:=60) (fun d hd=>?_) (by rw[Ag];exact hl);obtain⟨t,htm,rfl⟩:=List.mem_map.mp hd;obtain⟨a1,a2,a3,a4,a5,a6⟩:=ht t htm;refine zgE (w:=8) (k:=1) (L:=3) (fun d hd=>?_) (by simp[rowT]);simp[rowT] at hd
 rcases hd with rfl | rfl | rfl
 . exact zgF a1 (by omega)
 . exact zgF a3 (by omega)
 . exact zgF a5 (by omega)
def zpZ{z:Str}{st:Sto}:neS (.str z) (.str z) st=some (.bl false,st):=by
 unfold neS;simp
def plD(p:Int×Int):D:=.tup [.int p.1,.int p.2]
end L2.MP.Hd
namespace L2.MP
open PySem
end L2.MP
namespace L2.MP.Ce
open PySem L2.MP
end L2.MP.Ce
namespace L2.MP.Hx
open PySem L2 L2.MP PySem.W PyProof.Rows
def frag(h:Heap):Frag:=(AA h.objs.size).filterMap fun a=>(h.get? a).map fun o=>(a,o)
def zjR{g:Addr->Option Obj}(a:Addr):∀ l:List Addr,(l.filterMap fun b=>(g b).map fun o=>(b,o)).lookup a=if a∈l then g a else none
 | []=>rfl
 | b::l=>by
   rw[BP]
   by_cases h:a=b
   . subst h;rw[if_pos An]
     cases hg:g a with
     | none =>
       simp only[Ge];rw[zjR a l,hg]
       split <;> rfl
     | some o=>simp only[Bi,A1,beq_self_eq_true]
   . have e:(a==b)=false:=beq_false_of_ne h;have e2:(if a∈b::l then g a else none)=if a∈l then g a else none:=by simp only[Ba,h,false_or]
     rw[e2,<-zjR a l]
     cases hg:g b with
     | none=>simp only[Ge]
     | some o=>simp only[Bi,A1,e]
def zhS(h:Heap)(a:Addr):(frag h).lookup a=h.get? a:=by
 unfold frag;rw[zjR]
 split
 . rfl
 . rename_i hn
   cases hg:h.get? a with
   | none=>rfl
   | some o=>exact absurd (List.mem_range.mpr (Aj hg)) hn
def zqq(h:Heap):(frag h).In h:=fun a o e=>(zhS h a).symm.trans e
def nsL(g:Addr->Option Obj)(ns:Addr)(x:Str):Option (Option Value):=match g ns with
 | some ⟨_,_,.dict es _,_⟩=>(match es.toList.find? (·.key.isStr x) with
     | some e=>some (some e.val)
     | none=>if es.toList.any (·.refKey) then none else some none)
 | _=>none
def zux(g:Addr->Option Obj)(cd:Value)(q:Str):Bool:=match cd with
 | .ref c=>(match g c with
     | some ⟨_,_,.fields vs,_⟩=>(match vs.toList with | _::.str n _::_=>n==q | _=>false)
     | _=>false)
 | _=>false
def fnL(g:Addr->Option Obj)(x:Str):Option (FuncData×Bool):=match nsL g mainGlobals x with
 | some (some (.ref f))=>(match g f with
     | some ⟨_,_,.func fd,_⟩=>some ({ fd with kwdefaults:=.none,doc:=.none,pyModule:=.none,annotations:=none,code:=.none,closureTuple:=.none },zux g fd.code x)
     | _=>none)
 | _=>none
def fnD(x:Str)(st:Stmt):Option (FuncData×Bool):=some (fnOf x x (zcd st) (zbB st) (zaj st) .none .none .none .none none .none .none,true)
def coL(v:Option (Option Value)):Option (Str ⊕ Int):=match v with
 | some (some (.str s _))=>some (.inl s)
 | some (some (.int i _))=>some (.inr i)
 | _=>none
def CoIn(K:Frag)(x:Str):Str ⊕ Int->Prop
 | .inl s=>∃ t,nsIn K mainGlobals x=some (some (.str s t))
 | .inr i=>∃ t,nsIn K mainGlobals x=some (some (.int i t))
def zmx{K:Frag}{f:Addr}{oc:Value}{od:Option Addr}{fd:FuncData}{sl:Array (Option Value)}(h:K.lookup f=some ⟨oc,od,.func fd,sl⟩):keepIn K (.ref f)=true:=by
 unfold keepIn;dsimp only;rw[h]
def zur{K:Frag}{x:Str}{st:Stmt}(e:fnL (K.lookup ·) x=fnD x st):∃ f,FdIn K x st f:=by
 unfold fnL fnD at e
 cases hn:nsL (K.lookup ·) mainGlobals x with
 | none=>rw[hn] at e;cases e
 | some v =>
   cases v with
   | none=>rw[hn] at e;cases e
   | some v =>
     cases v with
     | ref f =>
       rw[hn] at e;dsimp only at e
       cases hg:K.lookup f with
       | none=>rw[hg] at e;cases e
       | some o =>
         rw[hg] at e;obtain⟨oc,od,da,sl⟩:=o
         cases da with
         | func fd =>
           dsimp only at e;obtain⟨a1,a2⟩:=Bk (Ay e);obtain⟨n,q,p,b,sc,gl,cl,df,kd,dc,pm,an,cd,ct,bu⟩:=fd;cases a1;exact⟨f,zus hn hg a2 (zmx hg)⟩
         | _=>cases e
     | _=>rw[hn] at e;cases e
def zuy{K:Frag}{x:Str}{c:Str ⊕ Int}(e:coL (nsL (K.lookup ·) mainGlobals x)=some c):CoIn K x c:=by
 unfold coL at e
 cases hn:nsL (K.lookup ·) mainGlobals x with
 | none=>rw[hn] at e;cases e
 | some v =>
   cases v with
   | none=>rw[hn] at e;cases e
   | some v =>
     rw[hn] at e
     cases v with
     | str s t=>cases e;exact⟨t,hn⟩
     | int i t=>cases e;exact⟨t,hn⟩
     | _=>cases e
structure Has(K:Frag)(fns:List (Str×Stmt))(bl:List Str)(co:List (Str×(Str ⊕ Int))):Prop where
 fn:∀ p∈fns,∃ f,FdIn K p.1 p.2 f
 bl:∀ x∈bl,nsIn K mainGlobals x=some none
 co:∀ c∈co,CoIn K c.1 c.2
def ziO{α β:Type}{f g:α->β}:∀ {l:List α},l.map f=l.map g->∀ a∈l,f a=g a
 | [],_,a,h=>by cases h
 | b::l,e,a,h=>by
   obtain⟨e1,e2⟩:=List.cons.inj e
   rcases List.mem_cons.mp h with rfl | h
   . exact e1
   . exact ziO e2 a h
def ztc(g:Addr->Option Obj)(fns:List (Str×Stmt))(bl:List Str)(co:List (Str×(Str ⊕ Int))):List (Option (FuncData×Bool))×List (Option (Option Value))×List (Option (Str ⊕ Int)) :=
 (fns.map fun p=>fnL g p.1,bl.map fun x=>nsL g mainGlobals x,co.map fun c=>coL (nsL g mainGlobals c.1))
def dueG(fns:List (Str×Stmt))(bl:List Str)(co:List (Str×(Str ⊕ Int))):List (Option (FuncData×Bool))×List (Option (Option Value))×List (Option (Str ⊕ Int)) :=
 (fns.map fun p=>fnD p.1 p.2,bl.map fun _=>some none,co.map fun c=>some c.2)
def zsP{K:Frag}{fns:List (Str×Stmt)}{bl:List Str}{co:List (Str×(Str ⊕ Int))}(e:ztc (K.lookup ·) fns bl co=dueG fns bl co):Has K fns bl co:=by
 obtain⟨e1,e2⟩:=Bk e;obtain⟨e2,e3⟩:=Bk e2;exact⟨fun p hp=>zur (ziO e1 p hp),fun x hx=>ziO e2 x hx,fun c hc=>zuy (ziO e3 c hc)⟩
def mdL(K:Frag)(C:Addr)(x qual:Str):Option (FuncData×Bool×Bool):=match findIn K (.ref C) x with
 | some (some (.ref f))=>(match K.lookup f with
     | some ⟨_,_,.func fd,_⟩=>some ({ fd with kwdefaults:=.none,doc:=.none,pyModule:=.none,annotations:=none,code:=.none,closureTuple:=.none },codeIn K fd.code qual,isFn K (.ref f))
     | _=>none)
 | _=>none
def mdD(x qual:Str)(st:Stmt):Option (FuncData×Bool×Bool):=some (fnOf x qual (zcd st) (zbB st) (zaj st) .none .none .none .none none .none .none,true,true)
def zug{K:Frag}{C:Addr}{x qual:Str}{st:Stmt}(e:mdL K C x qual=mdD x qual st):∃ f,MdIn K C x qual st f:=by
 unfold mdL mdD at e
 cases hn:findIn K (.ref C) x with
 | none=>rw[hn] at e;cases e
 | some v =>
   cases v with
   | none=>rw[hn] at e;cases e
   | some v =>
     cases v with
     | ref f =>
       rw[hn] at e;dsimp only at e
       cases hg:K.lookup f with
       | none=>rw[hg] at e;cases e
       | some o =>
         rw[hg] at e;obtain⟨oc,od,da,sl⟩:=o
         cases da with
         | func fd =>
           dsimp only at e;obtain⟨a1,a2⟩:=Bk (Ay e);obtain⟨a2,a3⟩:=Bk a2;obtain⟨n,q,p,b,sc,gl,cl,df,kd,dc,pm,an,cd,ct,bu⟩:=fd;cases a1;exact⟨f,zuh hn a3 hg a2 (zmx hg)⟩
         | _=>cases e
     | _=>rw[hn] at e;cases e
structure HasC(K:Frag)(C:Addr)(c:Str)(ms:List (Str×Str×Stmt))(no:List Str):Prop where
 cl:ClIn K c C
 md:∀ m∈ms,∃ f,MdIn K C m.1 m.2.1 m.2.2 f
 no:∀ x∈no,findIn K (.ref C) x=some none
noncomputable abbrev ClT:=Option ((Bool×Option (Option Value))×List (Option (FuncData×Bool×Bool))×List (Option (Option Value)))
def clL(K:Frag)(c:Str)(ms:List (Str×Str×Stmt))(no:List Str):ClT:=match nsIn K mainGlobals c with
 | some (some (.ref C))=>some ((plainGet K C EW&&hasDictIn K C&&plainOver K C&&makesIn K C&&keepIn K (.ref C),findIn K (.ref C) "__setattr__"),ms.map fun m=>mdL K C m.1 m.2.1,no.map fun x=>findIn K (.ref C) x)
 | _=>none
def clD(ms:List (Str×Str×Stmt))(no:List Str):ClT:=some ((true,some (some (.builtin "object.__setattr__"))),ms.map fun m=>mdD m.1 m.2.1 m.2.2,no.map fun _=>some none)
def zuz{K:Frag}{c:Str}{ms:List (Str×Str×Stmt)}{no:List Str}(e:clL K c ms no=clD ms no):∃ C,HasC K C c ms no:=by
 unfold clL clD at e
 cases hn:nsIn K mainGlobals c with
 | none=>rw[hn] at e;cases e
 | some v =>
   cases v with
   | none=>rw[hn] at e;cases e
   | some v =>
     cases v with
     | ref C =>
       rw[hn] at e;dsimp only at e;obtain⟨a1,a2⟩:=Bk (Ay e);obtain⟨a2,a3⟩:=Bk a2;obtain⟨b,sa⟩:=Bk a1;simp only[Ao] at b;obtain⟨⟨⟨⟨b1,b2⟩,b3⟩,b4⟩,b5⟩:=b;exact⟨C,zuA hn b1 b2 b3 sa b4 b5,fun m hm=>zug (ziO a2 m hm),fun x hx=>ziO a3 x hx⟩
     | _=>rw[hn] at e;cases e
def hookC(fns:List (Str×Stmt))(bl:List Str)(co:List (Str×(Str ⊕ Int)))(c:Str)(ms:List (Str×Str×Stmt))(no:List Str):Hook where
 α:=(List (Option (FuncData×Bool))×List (Option (Option Value))×List (Option (Str ⊕ Int)))×ClT
 obs s:=(ztc s.heap.get? fns bl co,clL (frag s.heap) c ms no)
 val _:=(dueG fns bl co,clD ms no)
 says _ h:=∃ (K:Frag) (C:Addr),K.In h/\Has K fns bl co/\HasC K C c ms no
 of w s e:=by
   obtain⟨e1,e2⟩:=Bk e;obtain⟨C,hC⟩:=zuz e2;exact⟨frag s.heap,C,zqq _,zsP (by rw[funext (zhS s.heap)];exact e1),hC⟩
 keeps w h h':=fun⟨K,C,a,b⟩ k=>⟨K,C,a.keeps k,b⟩
def walk_hasC{l:OpenLaw}{n k:Nat}{q:Program}{loose:List Str}{XP:(Str->Option Value)->Heap->Prop}{fns:List (Str×Stmt)}{bl:List Str}{co:List (Str×(Str ⊕ Int))}{c:Str}{ms:List (Str×Str×Stmt)}{no:List Str}{d:DefRec}{CX:CXT}{sp:Frag->Addr->Sp}{x:Str}
   (hn:l.most=some n) (hn2:n<=sizeLine) (hdf:d.params.defaults=[]) (hr:Room k callerA)
   (F:∀ (K:Frag) (C:Addr) (w:World) (mg:Str->Option Value) (fa:Addr) (h:Heap),Has K fns bl co->HasC K C c ms no->K.In h->h.Ns mainGlobals mg->mg d.name=some (.ref fa) ->
     ∃ fd:FuncData,(∀ (s:Shared) (u:Value),BindsTo s fd ⟨[u],[]⟩ [(x,u)])/\∀ base:Heap,K.In base->base.Ns mainGlobals mg->FnOk l.prog w K mg base CX k fa fd [x] (sp K C))
   (hsp:∀ (K:Frag) (C:Addr) (H:Hp) (a:Addr) (ns:List Int),ns.length<=n->Only H->SqL K H a (ns.map V.int)->sp K C [.ref a] H (fun v _=>v=.bl true) fun _ _ _=>False)
   (hCX:∀ (H:Hp) (s:Shared) (e:Value) (s':Shared),CX [] H s (fun _ _ _=>False) e s'->False) :
   WalkO q loose XP (hookC fns bl co c ms no).says l.row.toRowW d [] (fun f vs=>FY f vs):=by
 intro w s₀ s₁ mg mb G Y;obtain⟨K,C,hK,hH,hC⟩:=Y;exact L2.walk_of (K:=fun _=>K) (CX:=fun _=>CX) (sp:=fun _=>sp K C) (YP:=fun _ h=>K.In h) hn hn2 hdf hr (fun _ _ y=>y) (fun w mg fa h a b e=>F K C w mg fa h hH hC a b e) (fun _ H a ns h1 h2 h3=>hsp K C H a ns h1 h2 h3) (fun _ H s e s'=>hCX H s e s') w s₀ s₁ mg mb G hK
end L2.MP.Hx
namespace L2.MP.stickytiles_k15_least_growings
open PySem L2.MP L2.MP.Hd
def zkJ:MT:=mTst (mCon (.bl true))
def zkL:MS:=zdm
def zoA:MS:=mWhF (zkJ) (zkL) 1000
def zoy:GN:=fnM 1 zoA
def zeq:MS:=mRet (znU (mIsi "int" (mVar 0)) (znU (zq8 (mIsi "bool" (mVar 0))) (zeB leD leD (mVar 1) (mVar 0) (mVar 2))))
def zcf:GN:=fnM 3 zeq
def zgx:MS:=mRet (znU (mIsi "tuple" (mVar 0)) (mBin eqD (zav lenD (zae (mVar 0) (mNil))) (mVar 1)))
def zdc:GN:=fnM 2 zgx
def zer:MS:=mSeq (mAsg (mBin ixA (mVar 0) (mCon (.int 1))) (gNm 2)) (mRet (znU (zav zdc (zae (mVar 1) (zae (mCon (.int 2)) (mNil)))) (znU (zav zcf (zae (mBin ixA (mVar 1) (mCon (.int 0))) (zae (mCon (.int 0)) (zae (mBin subD (mBin ixA (mVar 2) (mCon (.int 0))) (mCon (.int 1))) (mNil))))) (zav zcf (zae (mBin ixA (mVar 1) (mCon (.int 1))) (zae (mCon (.int 0)) (zae (mBin subD (mBin ixA (mVar 2) (mCon (.int 1))) (mCon (.int 1))) (mNil))))))))
def zbE:GN:=fnM 3 zer
def za5:MS:=mIf (mTst (mBin geD (zav zaE (zae (mVar 1) (zae (mSlB (mVar 7) (zkM (mCon (.int 1))) (zkN)) (zae (mVar 2) (mNil))))) (mBin ixA (mVar 4) (mCon (.int 0))))) (mExp (mApp (mVar 5) (zae (mTup (zae (mBin ixA (mVar 3) (mCon (.int 0))) (zae (mBin ixA (mVar 3) (mCon (.int 1))) (zae (mVar 6) (mNil))))) (mNil)))) (zdm)
def zcB:MS:=mSeq (mAsg (mBin ixA (mVar 0) (mCon (.int 0))) (gNm 4)) (mSeq (mAsg (mLst (mNil)) (gNm 5)) (mSeq (mIf (znQ (mTst (zav anyT (zae (mVar 2) (mNil))))) (mRet (mVar 5)) (zdm)) (mSeq (mFor (zoE (mBin ixA (mVar 4) (mCon (.int 2)))) (gTp 2 (gC (gNm 6) (gC (gNm 7) (gN0)))) (za5)) (mRet (mVar 5)))))
def zbF:GN:=fnM 8 zcB
def za2(C:Addr):MS:=mSeq (mExp (zmq (mFld C "ready" (mVar 0)) (mVar 1) (mCon .non))) (mIf (zms (mTst (mBin zez (mVar 1) (mFld C "kinds" (mVar 0)))) (mTst (zav zbE (zae (mFld C "bed" (mVar 0)) (zae (mVar 1) (mNil)))))) (mSeq (mAsg (zav zbw (zae (mFld C "bed" (mVar 0)) (zae (mFld C "kinds" (mVar 0)) (zae (mVar 1) (mNil))))) (gNm 2)) (mSeq (mAsg (zav zbF (zae (mFld C "bed" (mVar 0)) (zae (mFld C "strengths" (mVar 0)) (zae (mVar 2) (zae (mVar 1) (mNil)))))) (gNm 3)) (mIf (mTru (mVar 3)) (putA (mFld C "ready" (mVar 0)) (mVar 1) (mVar 3)) (zdm)))) (zdm))
def zax(C:Addr):GN:=fnM 4 (za2 C)
def zbr(C:Addr):MS:=mExp (zg7 C "look_at" (zax C) (mVar 0) (zae (mTup (zae (mVar 2) (zae (mVar 3) (mNil)))) (mNil)))
def zbq(C:Addr):MS:=mFor (mR1 (mBin ixA (mBin ixA (mVar 1) (mCon (.int 1))) (mCon (.int 1)))) (gNm 3) (zbr C)
def zcL(C:Addr):MS:=mSeq (ziB C "bed" (mVar 0) (mVar 1)) (mSeq (ziB C "strengths" (mVar 0) (zav zoG (zae (mBin ixA (mBin ixA (mVar 1) (mCon (.int 0))) (mCon (.int 1))) (mNil)))) (mSeq (ziB C "kinds" (mVar 0) (zav zbc (zae (mBin ixA (mVar 1) (mCon (.int 2))) (mNil)))) (mSeq (ziB C "laid" (mVar 0) (mLst (mNil))) (mSeq (ziB C "ready" (mVar 0) (znT true)) (mFor (mR1 (mBin ixA (mBin ixA (mVar 1) (mCon (.int 1))) (mCon (.int 0)))) (gNm 2) (zbq C))))))
def zbm(C:Addr):GN:=fnM 4 (zcL C)
def za0(C:Addr):MS:=mExp (zg7 C "look_at" (zax C) (mVar 0) (zae (mVar 2) (mNil)))
def zcg(C:Addr):MS:=mSeq (mExp (zg7 C "look_at" (zax C) (mVar 0) (zae (mVar 1) (mNil)))) (mFor (mWA (zav zaD (zae (mVar 1) (mNil)))) (gNm 2) (za0 C))
def zaK(C:Addr):GN:=fnM 3 (zcg C)
def zgz(C:Addr):MS:=mSeq (mExp (mApp (mFld C "laid" (mVar 0)) (zae (mVar 1) (mNil)))) (mSeq (putA (mFld C "kinds" (mVar 0)) (mSlB (mVar 1) (zkN) (zkM (mCon (.int 2)))) (mBin ixA (mVar 1) (mCon (.int 2)))) (mExp (zg7 C "look_around" (zaK C) (mVar 0) (zae (mSlB (mVar 1) (zkN) (zkM (mCon (.int 2)))) (mNil)))))
def zbR(C:Addr):GN:=fnM 2 (zgz C)
def zfF(C:Addr):MS:=mSeq (mIf (znQ (znP (mFld C "ready" (mVar 0)))) (mRet (mCon .non)) (zdm)) (mSeq (mAsg (mBin ixA (mBin ixA (mFld C "ready" (mVar 0)) (zav znK (zae (mFld C "ready" (mVar 0)) (mNil)))) (mCon (.int 0))) (gNm 1)) (mSeq (mExp (zg7 C "lay" (zbR C) (mVar 0) (zae (mVar 1) (mNil)))) (mRet (mVar 1))))
def zb6(C:Addr):GN:=fnM 2 (zfF C)
def zcK(C:Addr):MS:=mRet (zav zc0 (zae (zav zfM (zae (mBin addD (zav zrb (zae (mBin ixA (mFld C "bed" (mVar 0)) (mCon (.int 2))) (mNil))) (mFld C "laid" (mVar 0))) (mNil))) (mNil)))
def zbl(C:Addr):GN:=fnM 1 (zcK C)
def zgy(C:Addr):MS:=mRet (zav zc0 (zae (mFld C "laid" (mVar 0)) (mNil)))
def zcv(C:Addr):GN:=fnM 1 (zgy C)
def zbZ(C:Addr):MT:=mTst (mBin zq1 (zg7 C "on" (zb6 C) (mVar 1) mNil) (mCon .non))
def zct(C:Addr):MS:=zdm
def zeW(C:Addr):MS:=mSeq (mAsg (zqb C (zbm C) (zae (mVar 0) (mNil))) (gNm 1)) (mSeq (mWhF (zbZ C) (zct C) 1000) (mRet (mTup (zae (zg7 C "row" (zcv C) (mVar 1) mNil) (zae (zg7 C "standing" (zbl C) (mVar 1) mNil) (mNil))))))
def zbh(C:Addr):GN:=fnM 2 (zeW C)
def zaz:ME:=mBin addD (mVar 0) (mTup (zae (mBin zlU (mVar 1) (mVar 0)) (mNil)))
def zb8:MS:=mRet (zav zc0 (zae (zav zfM (zae (zqa 0 (zde (mWK (mVar 0)) 1 [0] (gNm 0) (zco) (zaz))) (mNil))) (mNil)))
def zay:GN:=fnM 1 zb8
def zbp:ME:=mVar 0
def zaO:MT:=mTst (mBin inA (zav zaM (zae (mTup (zae (mVar 1) (zae (mVar 2) (mNil)))) (zae (mVar 0) (mNil)))) (mVar 3))
def zbk:MS:=mSeq (mAsg (zde (mR1 (mCon (.int 4))) 1 [3,4,1] (gNm 0) (zaO) (zbp)) (gNm 5)) (mIf (zms (mTst (mBin zez (mTup (zae (mVar 3) (zae (mVar 4) (mNil)))) (mVar 1))) (mTst (mBin neD (mVar 5) (mLst (mNil))))) (mExp (mApp (mVar 2) (zae (mTup (zae (mVar 3) (zae (mVar 4) (mNil)))) (mNil)))) (zdm))
def zca:MS:=mFor (mR1 (mBin ixA (mBin ixA (mVar 0) (mCon (.int 1))) (mCon (.int 1)))) (gNm 4) (zbk)
def zdF:MS:=mSeq (mAsg (mLst (mNil)) (gNm 2)) (mSeq (mFor (mR1 (mBin ixA (mBin ixA (mVar 0) (mCon (.int 1))) (mCon (.int 0)))) (gNm 3) (zca)) (mRet (mVar 2)))
def zbD:GN:=fnM 6 zdF
def zbv:MS:=mIf (mTst (mBin geD (zav zce (zae (mVar 0) (zae (mVar 1) (zae (mVar 3) (zae (mVar 4) (mNil)))))) (mBin ixA (mBin ixA (mVar 0) (mCon (.int 0))) (mCon (.int 0))))) (mExp (mApp (mVar 2) (zae (mBin addD (mVar 3) (mTup (zae (mVar 4) (mNil)))) (mNil)))) (zdm)
def zb0:MS:=mFor (mR1 (zav lenD (zae (mBin ixA (mBin ixA (mVar 0) (mCon (.int 0))) (mCon (.int 2))) (mNil)))) (gNm 4) (zbv)
def zeV:MS:=mSeq (mAsg (mLst (mNil)) (gNm 2)) (mSeq (mFor (mWA (zav zbD (zae (mVar 0) (zae (mVar 1) (mNil))))) (gNm 3) (zb0)) (mRet (mVar 2)))
def zbK:GN:=fnM 5 zeV
def zaY:MS:=mSeq (mAsg (zav zbK (zae (mVar 0) (zae (mVar 1) (mNil)))) (gNm 4)) (mSeq (mIf (mTst (mBin eqD (mVar 4) (mLst (mNil)))) (mRet (mTup (zae (zav zc0 (zae (mVar 2) (mNil))) (zae (zav zay (zae (mVar 1) (mNil))) (mNil))))) (zdm)) (mSeq (putA (mVar 1) (mSlB (mBin ixA (mVar 4) (mCon (.int 0))) (zkN) (zkM (mCon (.int 2)))) (mBin ixA (mBin ixA (mVar 4) (mCon (.int 0))) (mCon (.int 2)))) (mExp (mApp (mVar 2) (zae (mBin ixA (mVar 4) (mCon (.int 0))) (mNil))))))
def zdv:MS:=mSeq (mPar 1 2 (zae (zav zb3 (zae (mBin ixA (mVar 0) (mCon (.int 2))) (mNil))) (zae (mLst (mNil)) (mNil)))) (mSeq (mFor (mR1 (mBin mulA (mBin ixA (mBin ixA (mVar 0) (mCon (.int 1))) (mCon (.int 0))) (mBin ixA (mBin ixA (mVar 0) (mCon (.int 1))) (mCon (.int 1))))) (gNm 3) (zaY)) (mRet (mTup (zae (zav zc0 (zae (mVar 2) (mNil))) (zae (zav zay (zae (mVar 1) (mNil))) (mNil))))))
def zcD:GN:=fnM 5 zdv
def zh8(C:Addr):MS:=mSeq (mAsg (zav zb5 (zae (mVar 0) (zae (mVar 1) (mNil)))) (gNm 2)) (mSeq (mAsg (zav zcE (zae (mVar 2) (mNil))) (gNm 3)) (mSeq (mAsg (zav zjo (zae (zav zcD (zae (mVar 3) (mNil))) (mNil))) (gNm 4)) (mIf (mOrT (mTst (mBin neS (zav zjo (zae (zav (zbh C) (zae (mVar 3) (mNil))) (mNil))) (mVar 4))) (mTst (mBin neS (zav zjo (zae (zav (zbh C) (zae (mVar 3) (mNil))) (mNil))) (mVar 4)))) (mRet (mCon (.bl false))) (zdm))))
def ztz(C:Addr):MS:=mSeq (mFor (mR1 (mBin addD (mCon (.int 1)) (zav zp7 (zae (mCon (.int 3)) (zae (zav lenD (zae (mVar 0) (mNil))) (mNil)))))) (gNm 1) (zh8 C)) (mRet (mCon (.bl true)))
def zoz(C:Addr):GN:=fnM 5 (ztz C)
end L2.MP.stickytiles_k15_least_growings
namespace L2.MP.stickytiles_k15_least_growings
open PySem L2 L2.MP L2.MP.Hd PySem.Spec PyProof.Rows
def top(i:Nat):Stmt:=PySem.Challenge.pw_stickytiles_k15_least_growings.main.body.getD i (.Pass ⟨0,0,0,0⟩)
section
variable {P:Program} {w:World} {K:Ab} {mg:Str->Option Value} {base:Heap}
def nd_0:(["bed","thing","floor"]:List Str).Nodup:=by decide +kernel
def nd_1:(["place","x","y"]:List Str).Nodup:=by decide +kernel
def nd_2:(["bed","kind","kinds"]:List Str).Nodup:=by decide +kernel
def nd_3:(["standing","kinds","x","y","kind"]:List Str).Nodup:=by decide +kernel
def nd_4:(["bed","standing_kinds","place","names","side","near"]:List Str).Nodup:=by decide +kernel
def nd_5:(["side","name","strengths"]:List Str).Nodup:=by decide +kernel
def nd_6:(["bed","strengths","names","place","house","found","number","kind"]:List Str).Nodup:=by decide +kernel
def nd_7:(["self","place","names","found"]:List Str).Nodup:=by decide +kernel
def nd_8:(["self","bed","x","y"]:List Str).Nodup:=by decide +kernel
def nd_9:(["self","place","near"]:List Str).Nodup:=by decide +kernel
def zuf:(["self","tile"]:List Str).Nodup:=by decide +kernel
def zue:(["bed","keeper"]:List Str).Nodup:=by decide +kernel
def zst:(["_law_script","_law_k","_law_cell","_law_far","_law_own"]:List Str).Nodup:=by decide +kernel
def zss:(["_law_pot","_law_many","_law_digit","_law_mixed"]:List Str).Nodup:=by decide +kernel
def zsr:(["_law_pot","_law_many","_law_letters","_law_first","_law_step_here"]:List Str).Nodup:=by decide +kernel
def zud:(["_law_k","_law_letters","_law_first"]:List Str).Nodup:=by decide +kernel
def zuc:(["_law_k","_law_letters","_law_first","_law_step_here"]:List Str).Nodup:=by decide +kernel
def zti:(["_law_pot","_law_names_here","_law_face","_law_sides_here"]:List Str).Nodup:=by decide +kernel
def zub:(["_law_side","_law_names_here","_law_pot"]:List Str).Nodup:=by decide +kernel
def zq6:(["_law_pot","_law_names_here","_law_enough","_law_sticks","_law_kinds"]:List Str).Nodup:=by decide +kernel
def zua:(["_law_name","_law_pot"]:List Str).Nodup:=by decide +kernel
def zt9:(["_law_k","_law_pot","_law_names_here"]:List Str).Nodup:=by decide +kernel
def zsq:(["_law_pot","_law_house_here","_law_floor","_law_most","_law_there","_law_k","_law_place"]:List Str).Nodup:=by decide +kernel
def zth:(["_law_place","_law_there"]:List Str).Nodup:=by decide +kernel
def zsp:(["_law_pot","_law_house_here","_law_floor"]:List Str).Nodup:=by decide +kernel
def zso:(["_law_x","_law_y","_law_kind_here"]:List Str).Nodup:=by decide +kernel
def ztg:(["_law_place","_law_side","_law_x","_law_y"]:List Str).Nodup:=by decide +kernel
def zq5:(["_law_bed_here","_law_there","_law_place","_law_kind_here","_law_kinds","_law_found","_law_side","_law_other","_law_mine"]:List Str).Nodup:=by decide +kernel
def ztf:(["_law_bed_here","_law_there","_law_place","_law_kind_here","_law_sides_here","_law_strengths"]:List Str).Nodup:=by decide +kernel
def zt8:(["_law_side","_law_strengths","_law_bed_here","_law_kind_here"]:List Str).Nodup:=by decide +kernel
def zq4:(["_law_bed_here","_law_there","_law_found","_law_x","_law_y","_law_beside"]:List Str).Nodup:=by decide +kernel
def zt7:(["_law_side","_law_x","_law_y","_law_there"]:List Str).Nodup:=by decide +kernel
def zsn:(["_law_bed_here","_law_there","_law_found","_law_place","_law_kind_here"]:List Str).Nodup:=by decide +kernel
def zsm:(["_law_bed_here","_law_there","_law_row","_law_k","_law_some"]:List Str).Nodup:=by decide +kernel
def zq3:(["_law_script","_law_k","_law_pot","_law_bed_here","_law_due"]:List Str).Nodup:=by decide +kernel
def zk9:FnScope ["k"] ["k"] (zaj (top 0)):=⟨rfl,rfl,rfl,by decide +kernel,rfl,by decide +kernel,by decide +kernel⟩
def zlq(L:Laid K mg "_wall" (top 0) ["k"]):zbx P w K mg base 1 "_wall" 1 zoy :=
 zbC (k:=0) L zk9 fun f cdv A outer s H E hr=>JSs.out (zal (zjX AS (zrI (zrF)) (zal (JS.mk (zmc)))))
def zij:FnScope ["thing","least","most"] ["thing","least","most"] (zaj (top 2)):=⟨rfl,rfl,rfl,by decide +kernel,rfl,by decide +kernel,by decide +kernel⟩
def zis(L:Laid K mg "is_whole" (top 2) ["thing","least","most"])(b_isinstance:mg "isinstance"=none)(b_int:mg "int"=none)(b_bool:mg "bool"=none):zbx P w K mg base 1 "is_whole" 3 zcf :=
 zbC (k:=0) L zij fun f cdv A outer s H E hr=>JSs.out (zal (JS.mk (za9 (zji (zm7 (T:="int") (x:="isinstance") (by decide) rfl b_isinstance (zab 0) rfl b_int zqJ) (zji (zrC (zm7 (T:="bool") (x:="isinstance") (by decide) rfl b_isinstance (zab 0) rfl b_bool zqK)) (zjh (zm8 znD znD (zab 1) (zab 0) (zab 2))))))))
def zik:FnScope ["thing","size"] ["thing","size"] (zaj (top 3)):=⟨rfl,rfl,rfl,by decide +kernel,rfl,by decide +kernel,by decide +kernel⟩
def zit(L:Laid K mg "is_tuple" (top 3) ["thing","size"])(b_isinstance:mg "isinstance"=none)(b_tuple:mg "tuple"=none)(b_len:mg "len"=none):zbx P w K mg base 1 "is_tuple" 2 zdc :=
 zbC (k:=0) L zik fun f cdv A outer s H E hr=>JSs.out (zal (JS.mk (za9 (zji (zm7 (T:="tuple") (x:="isinstance") (by decide) rfl b_isinstance (zab 0) rfl b_tuple zcj) (zjh (zpc (zf3 (zbN hr)) (zaR zbY rfl b_len zgt (zaa (zab 0) (zai))) (zab 1) rfl))))))
def zil:FnScope ["bed","thing","floor"] ["bed","thing"] (zaj (top 4)):=⟨rfl,rfl,rfl,by decide +kernel,rfl,by decide +kernel,by decide +kernel⟩
def ziu(L:Laid K mg "is_place" (top 4) ["bed","thing"])(h_is_tuple:zbx P w K mg base 1 "is_tuple" 2 zdc)(h_is_whole:zbx P w K mg base 1 "is_whole" 3 zcf):zbx P w K mg base 2 "is_place" 2 zbE :=
 zbC (k:=1) L zil fun f cdv A outer s H E hr=>JSs.out (zah (JS.mk (za3 (i:=2) nd_0 rfl (by first | exact Aw rfl | exact Au rfl) (zap (zaG hr) (zab 0) (zaf)))) (zal (JS.mk (za9 (zji (zak h_is_tuple (hr.mono (by decide)) rfl (zaa (zab 1) (zaa (zaf) (zai))) (zao.cons (zao.cons zao.nil))) (zji (zak h_is_whole (hr.mono (by decide)) rfl (zaa (zap (zaG hr) (zab 1) (zaf)) (zaa (zaf) (zaa (zas zeI (zap (zaG hr) (zab 2) (zaf)) (zaf)) (zai)))) (zao.cons (zao.cons (zao.cons zao.nil)))) (zjh (zak h_is_whole (hr.mono (by decide)) rfl (zaa (zap (zaG hr) (zab 1) (zaf)) (zaa (zaf) (zaa (zas zeI (zap (zaG hr) (zab 2) (zaf)) (zaf)) (zai)))) (zao.cons (zao.cons (zao.cons zao.nil)))))))))))
def zdW:FnScope ["place","x","y"] ["place"] (zaj (top 6)):=⟨rfl,rfl,rfl,by decide +kernel,rfl,by decide +kernel,by decide +kernel⟩
def zd4(L:Laid K mg "places_around" (top 6) ["place"]):zbx P w K mg base 1 "places_around" 1 zaD :=
 zbC (k:=0) L zdW fun f cdv A outer s H E hr=>JSs.out (zah (JS.mk (za3 (i:=1) nd_1 rfl (by first | exact Aw rfl | exact Au rfl) (zap (zaG hr) (zab 0) (zaf)))) (zah (JS.mk (za3 (i:=2) nd_1 rfl (by first | exact Aw rfl | exact Au rfl) (zap (zaG hr) (zab 0) (zaf)))) (zal (JS.mk (za9 (zbs (JA.out (zaq (zbs (zaa (zab 1) (zaa (zas zaJ (zab 2) (zaf)) (zai)))) (zaq (zbs (zaa (zas zaJ (zab 1) (zaf)) (zaa (zab 2) (zai)))) (zaq (zbs (zaa (zab 1) (zaa (zas zeI (zab 2) (zaf)) (zai)))) (zaq (zbs (zaa (zas zeI (zab 1) (zaf)) (zaa (zab 2) (zai)))) (zdq))))))))))))
def zih:FnScope ["bed","kind","kinds"] ["bed","kind"] (zaj (top 7)):=⟨rfl,rfl,rfl,by decide +kernel,rfl,by decide +kernel,by decide +kernel⟩
def ziq(L:Laid K mg "sides_of" (top 7) ["bed","kind"])(b_len:mg "len"=none):zbx P w K mg base 1 "sides_of" 2 zcu :=
 zbC (k:=0) L zih fun f cdv A outer s H E hr=>JSs.out (zah (JS.mk (za3 (i:=2) nd_2 rfl (by first | exact Aw rfl | exact Au rfl) (zap (zaG hr) (zap (zaG hr) (zab 0) (zaf)) (zaf)))) (zah (zgf (zna znD zpK (zaf) (zab 1) (zaR zbY rfl b_len zgt (zaa (zab 2) (zai)))) (zal (JS.mk (za9 (zc4 (zap (zaG hr) (zab 2) (zab 1)) (zfO (zaf)) (zfP))))) (zbG)) (zal (JS.mk (za9 (zbs (JA.out (zaq (zdV) (zaq (zdV) (zaq (zdV) (zaq (zdV) (zdq))))))))))))
def zdH:FnScope ["standing","kinds","x","y","kind"] ["standing"] (zaj (top 8)):=⟨rfl,rfl,rfl,by decide +kernel,rfl,by decide +kernel,by decide +kernel⟩
def zdJ(L:Laid K mg "kinds_by_place" (top 8) ["standing"]):zbx P w K mg base 1 "kinds_by_place" 1 zbc :=
 zbC (k:=0) L zdH fun f cdv A outer s H E hr=>JSs.out (zah (JS.mk (za3 (i:=1) nd_3 rfl (by first | exact Aw rfl | exact Au rfl) (zgQ))) (zah (zc9 AS rfl (zdh (zab 0)) (zgM rfl (zbj (zaC (i:=2) nd_3 rfl (by first | exact Aw rfl | exact Au rfl)) (zbj (zaC (i:=3) nd_3 rfl (by first | exact Aw rfl | exact Au rfl)) (zbj (zaC (i:=4) nd_3 rfl (by first | exact Aw rfl | exact Au rfl)) (zdU))))) (zal (JS.mk (zgJ (zaG hr) (zab 1) (zbs (zaa (zab 2) (zaa (zab 3) (zai)))) (zab 4))))) (zal (JS.mk (za9 (zab 1))))))
def zet:FnScope ["bed","standing_kinds","place","names","side","near"] ["bed","standing_kinds","place"] (zaj (top 9)):=⟨rfl,rfl,rfl,by decide +kernel,rfl,by decide +kernel,by decide +kernel⟩
def zex(L:Laid K mg "names_facing" (top 9) ["bed","standing_kinds","place"])(b_enumerate:mg "enumerate"=none)(h_places_around:zbx P w K mg base 1 "places_around" 1 zaD)(h_sides_of:zbx P w K mg base 1 "sides_of" 2 zcu):zbx P w K mg base 2 "names_facing" 3 zbw :=
 zbC (k:=1) L zet fun f cdv A outer s H E hr=>JSs.out (zah (JS.mk (za3 (i:=3) nd_4 rfl (by first | exact Aw rfl | exact Au rfl) (zcb (zai)))) (zah (zc9 AS rfl (zmf rfl b_enumerate (zak h_places_around (hr.mono (by decide)) rfl (zaa (zab 2) (zai)) (zao.cons zao.nil))) (zgM rfl (zbj (zaC (i:=4) nd_4 rfl (by first | exact Aw rfl | exact Au rfl)) (zbj (zaC (i:=5) nd_4 rfl (by first | exact Aw rfl | exact Au rfl)) (zdU)))) (zal (zgf (zph (zbN hr) (zab 5) (zab 1)) (zal (JS.mk (zbM (zbI (zab 3) (zaa (zap (zaG hr) (zak h_sides_of (hr.mono (by decide)) rfl (zaa (zab 0) (zaa (zap (zaG hr) (zab 1) (zab 5)) (zai))) (zao.cons (zao.cons zao.nil))) (zas zcm (zas zaJ (zab 4) (zaf)) (zaf))) (zai)))))) (zal (JS.mk (zbM (zbI (zab 3) (zaa (zdV) (zai))))))))) (zal (JS.mk (za9 (zab 3))))))
def zcN:FnScope ["strengths","sides","names"] ["strengths","sides","names"] (zaj (top 10)):=⟨rfl,rfl,rfl,by decide +kernel,rfl,by decide +kernel,by decide +kernel⟩
def zcQ(L:Laid K mg "strength_together" (top 10) ["strengths","sides","names"])(b_zip:mg "zip"=none)(b_sum:mg "sum"=none):zbx P w K mg base 1 "strength_together" 3 zaE :=
 zbC (k:=0) L zcN fun f cdv A outer s H E hr=>JSs.out (zal (JS.mk (za9 (zaR (zh0 rfl) rfl b_sum zqG (zaa (zdy rfl rfl (zbP (N':=["side","name","strengths"]) (nt:=2) (fr:=[0]) ["strengths"] rfl (by decide +kernel) (by decide +kernel) (by decide +kernel) rfl ⟨⟨rfl,by decide⟩,trivial⟩ ⟨by first | exact Aw rfl | exact Au rfl,trivial⟩) (zrx rfl b_zip (zab 1) (zab 2)) (fun C s0 H0 fp=>zgM rfl (zbj (zaC (i:=0) nd_5 rfl (by first | exact Aw rfl | exact Au rfl)) (zbj (zaC (i:=1) nd_5 rfl (by first | exact Aw rfl | exact Au rfl)) (zdU)))) (fun C s0 H0 fp=>zpe (SW.sb (zi2 (zb9 (zf3 (zbN hr)) (zab 0) (zab 1) rfl) (zhm (zb9 (znB (zbN hr)) (zab 0) (zdV) rfl))))) (fun C s0 H0 fp=>zap (zaG hr) (zab 2) (zab 0))) (zai))))))
def zfc:FnScope ["bed","strengths","names","place","house","found","number","kind"] ["bed","strengths","names","place"] (zaj (top 11)):=⟨rfl,rfl,rfl,by decide +kernel,rfl,by decide +kernel,by decide +kernel⟩
def zfp(L:Laid K mg "growings_at" (top 11) ["bed","strengths","names","place"])(b_any:mg "any"=none)(b_enumerate:mg "enumerate"=none)(h_strength_together:zbx P w K mg base 1 "strength_together" 3 zaE):zbx P w K mg base 2 "growings_at" 4 zbF :=
 zbC (k:=1) L zfc fun f cdv A outer s H E hr=>JSs.out (zah (JS.mk (za3 (i:=4) nd_6 rfl (by first | exact Aw rfl | exact Au rfl) (zap (zaG hr) (zab 0) (zaf)))) (zah (JS.mk (za3 (i:=5) nd_6 rfl (by first | exact Aw rfl | exact Au rfl) (zcb (zai)))) (zah (zgf (zpg (zrI (zaR (zl5 rfl) rfl b_any zs1 (zaa (zab 2) (zai))))) (zal (JS.mk (za9 (zab 5)))) (zbG)) (zah (zc9 AS rfl (zmf rfl b_enumerate (zap (zaG hr) (zab 4) (zaf))) (zgM rfl (zbj (zaC (i:=6) nd_6 rfl (by first | exact Aw rfl | exact Au rfl)) (zbj (zaC (i:=7) nd_6 rfl (by first | exact Aw rfl | exact Au rfl)) (zdU)))) (zal (zgf (zb9 znE (zak h_strength_together (hr.mono (by decide)) rfl (zaa (zab 1) (zaa (zc4 (zab 7) (zfO (zaf)) (zfP)) (zaa (zab 2) (zai)))) (zao.cons (zao.cons (zao.cons zao.nil)))) (zap (zaG hr) (zab 4) (zaf)) rfl) (zal (JS.mk (zbM (zbI (zab 5) (zaa (zbs (zaa (zap (zaG hr) (zab 3) (zaf)) (zaa (zap (zaG hr) (zab 3) (zaf)) (zaa (zab 6) (zai))))) (zai)))))) (zbG)))) (zal (JS.mk (za9 (zab 5))))))))
def zeu:FnScope ["self","place","names","found"] ["self","place"] (zaj (inClass (top 13) 1)):=⟨rfl,rfl,rfl,by decide +kernel,rfl,by decide +kernel,by decide +kernel⟩
def zey{C:Addr}(hc:Cls K C)(L:zh7 K C "look_at" "Grow.look_at" (inClass (top 13) 1) ["self","place"])(n_ready:zbz K C "ready")(n_kinds:zbz K C "kinds")(n_bed:zbz K C "bed")(n_strengths:zbz K C "strengths")(h_is_place:zbx P w K mg base 2 "is_place" 2 zbE)(h_names_facing:zbx P w K mg base 2 "names_facing" 3 zbw)(h_growings_at:zbx P w K mg base 2 "growings_at" 4 zbF):zcI P w K mg base 3 C "look_at" 2 (zax C) :=
 zeL (k:=2) L zeu fun f cdv A outer s H E hr=>JSs.out (zah (JS.mk (zbM (zo8 (zaG hr) (zcH hc n_ready (zab 0)) (zab 1) (zk7)))) (zal (zgf (SW.sb (zi2 (zhs (zbN hr) (zab 1) (zcH hc n_kinds (zab 0))) (zhm (zrI (zak h_is_place (hr.mono (by decide)) rfl (zaa (zcH hc n_bed (zab 0)) (zaa (zab 1) (zai))) (zao.cons (zao.cons zao.nil))))))) (zah (JS.mk (za3 (i:=2) nd_7 rfl (by first | exact Aw rfl | exact Au rfl) (zak h_names_facing (hr.mono (by decide)) rfl (zaa (zcH hc n_bed (zab 0)) (zaa (zcH hc n_kinds (zab 0)) (zaa (zab 1) (zai)))) (zao.cons (zao.cons (zao.cons zao.nil)))))) (zah (JS.mk (za3 (i:=3) nd_7 rfl (by first | exact Aw rfl | exact Au rfl) (zak h_growings_at (hr.mono (by decide)) rfl (JA.out (zaq (zcH hc n_bed (zab 0)) (zaq (zcH hc n_strengths (zab 0)) (zaq (zab 2) (zaq (zab 1) (zdq)))))) (zao.cons (zao.cons (zao.cons (zao.cons zao.nil))))))) (zal (zgf (zrH (zab 3)) (zal (JS.mk (zgJ (zaG hr) (zcH hc n_ready (zab 0)) (zab 1) (zab 3)))) (zbG))))) (zbG))))
def zdY:FnScope ["self","bed","x","y"] ["self","bed"] (zaj (inClass (top 13) 0)):=⟨rfl,rfl,rfl,by decide +kernel,rfl,by decide +kernel,by decide +kernel⟩
def zd6{C:Addr}(hc:Cls K C)(L:zrg K mg C "Grow" "__init__" "Grow.__init__" (inClass (top 13) 0) ["self","bed"])(n_bed:zbz K C "bed")(n_strengths:zbz K C "strengths")(n_kinds:zbz K C "kinds")(n_laid:zbz K C "laid")(n_ready:zbz K C "ready")(b_dict:mg "dict"=none)(b_range:mg "range"=none)(h_kinds_by_place:zbx P w K mg base 1 "kinds_by_place" 1 zbc)(h_Grow_look_at:zcI P w K mg base 3 C "look_at" 2 (zax C)):zl9 P w K mg base 4 C "Grow" 2 (zbm C) :=
 zp9 (k:=3) L zdY fun f cdv A outer s H E hr=>JSs.out (zah (JS.mk (zi5 hc n_bed (zab 0) (zab 1))) (zah (JS.mk (zi5 hc n_strengths (zab 0) (zbd (zeU rfl) rfl b_dict zkA (zaa (zap (zaG hr) (zap (zaG hr) (zab 1) (zaf)) (zaf)) (zai))))) (zah (JS.mk (zi5 hc n_kinds (zab 0) (zak h_kinds_by_place (hr.mono (by decide)) rfl (zaa (zap (zaG hr) (zab 1) (zaf)) (zai)) (zao.cons zao.nil)))) (zah (JS.mk (zi5 hc n_laid (zab 0) (zcb (zai)))) (zah (JS.mk (zi5 hc n_ready (zab 0) (zgQ))) (zal (zc9 AS rfl (zba rfl b_range (zap (zaG hr) (zap (zaG hr) (zab 1) (zaf)) (zaf))) (zaC (i:=2) nd_8 rfl (by first | exact Aw rfl | exact Au rfl)) (zal (zc9 AS rfl (zba rfl b_range (zap (zaG hr) (zap (zaG hr) (zab 1) (zaf)) (zaf))) (zaC (i:=3) nd_8 rfl (by first | exact Aw rfl | exact Au rfl)) (zal (JS.mk (zbM (zfU h_Grow_look_at hc (hr.mono (by decide)) (zab 0) (zaa (zbs (zaa (zab 2) (zaa (zab 3) (zai)))) (zai)) (zao.cons zao.nil))))))))))))))
def zc5:FnScope ["self","place","near"] ["self","place"] (zaj (inClass (top 13) 2)):=⟨rfl,rfl,rfl,by decide +kernel,rfl,by decide +kernel,by decide +kernel⟩
def zc6{C:Addr}(hc:Cls K C)(L:zh7 K C "look_around" "Grow.look_around" (inClass (top 13) 2) ["self","place"])(h_Grow_look_at:zcI P w K mg base 3 C "look_at" 2 (zax C))(h_places_around:zbx P w K mg base 1 "places_around" 1 zaD):zcI P w K mg base 4 C "look_around" 2 (zaK C) :=
 zeL (k:=3) L zc5 fun f cdv A outer s H E hr=>JSs.out (zah (JS.mk (zbM (zfU h_Grow_look_at hc (hr.mono (by decide)) (zab 0) (zaa (zab 1) (zai)) (zao.cons zao.nil)))) (zal (zc9 AS rfl (zdh (zak h_places_around (hr.mono (by decide)) rfl (zaa (zab 1) (zai)) (zao.cons zao.nil))) (zaC (i:=2) nd_9 rfl (by first | exact Aw rfl | exact Au rfl)) (zal (JS.mk (zbM (zfU h_Grow_look_at hc (hr.mono (by decide)) (zab 0) (zaa (zab 2) (zai)) (zao.cons zao.nil))))))))
def zin:FnScope ["self","tile"] ["self","tile"] (zaj (inClass (top 13) 3)):=⟨rfl,rfl,rfl,by decide +kernel,rfl,by decide +kernel,by decide +kernel⟩
def ziw{C:Addr}(hc:Cls K C)(L:zh7 K C "lay" "Grow.lay" (inClass (top 13) 3) ["self","tile"])(n_laid:zbz K C "laid")(n_kinds:zbz K C "kinds")(h_Grow_look_around:zcI P w K mg base 4 C "look_around" 2 (zaK C)):zcI P w K mg base 5 C "lay" 2 (zbR C) :=
 zeL (k:=4) L zin fun f cdv A outer s H E hr=>JSs.out (zah (JS.mk (zbM (zbI (zcH hc n_laid (zab 0)) (zaa (zab 1) (zai))))) (zah (JS.mk (zgJ (zaG hr) (zcH hc n_kinds (zab 0)) (zc4 (zab 1) (zfP) (zfO (zaf))) (zap (zaG hr) (zab 1) (zaf)))) (zal (JS.mk (zbM (zfU h_Grow_look_around hc (hr.mono (by decide)) (zab 0) (zaa (zc4 (zab 1) (zfP) (zfO (zaf))) (zai)) (zao.cons zao.nil)))))))
def zjj:FnScope ["self","tile"] ["self"] (zaj (inClass (top 13) 5)):=⟨rfl,rfl,rfl,by decide +kernel,rfl,by decide +kernel,by decide +kernel⟩
def zjD{C:Addr}(hc:Cls K C)(L:zh7 K C "on" "Grow.on" (inClass (top 13) 5) ["self"])(n_ready:zbz K C "ready")(b_min:mg "min"=none)(h_Grow_lay:zcI P w K mg base 5 C "lay" 2 (zbR C)):zcI P w K mg base 6 C "on" 1 (zb6 C) :=
 zeL (k:=5) L zjj fun f cdv A outer s H E hr=>JSs.out (zah (zgf (zpg (zpf (zcH hc n_ready (zab 0)))) (zal (JS.mk (za9 (zk7)))) (zbG)) (zah (JS.mk (za3 (i:=1) zuf rfl (by first | exact Aw rfl | exact Au rfl) (zap (zaG hr) (zap (zaG hr) (zcH hc n_ready (zab 0)) (zaR (zkt rfl (zaG hr)) rfl b_min zqH (zaa (zcH hc n_ready (zab 0)) (zai)))) (zaf)))) (zah (JS.mk (zbM (zfU h_Grow_lay hc (hr.mono (by decide)) (zab 0) (zaa (zab 1) (zai)) (zao.cons zao.nil)))) (zal (JS.mk (za9 (zab 1)))))))
def zdX:FnScope ["self"] ["self"] (zaj (inClass (top 13) 7)):=⟨rfl,rfl,rfl,by decide +kernel,rfl,by decide +kernel,by decide +kernel⟩
def zd5{C:Addr}(hc:Cls K C)(L:zh7 K C "standing" "Grow.standing" (inClass (top 13) 7) ["self"])(n_bed:zbz K C "bed")(n_laid:zbz K C "laid")(b_list:mg "list"=none)(b_sorted:mg "sorted"=none)(b_tuple:mg "tuple"=none):zcI P w K mg base 1 C "standing" 1 (zbl C) :=
 zeL (k:=0) L zdX fun f cdv A outer s H E hr=>JSs.out (zal (JS.mk (za9 (zbd zbu rfl b_tuple zcj (zaa (zaR zeh rfl b_sorted zdN (zaa (zas zaJ (zbd (zkv rfl) rfl b_list zqI (zaa (zap (zaG hr) (zcH hc n_bed (zab 0)) (zaf)) (zai))) (zcH hc n_laid (zab 0))) (zai))) (zai))))))
def zim:FnScope ["self"] ["self"] (zaj (inClass (top 13) 8)):=⟨rfl,rfl,rfl,by decide +kernel,rfl,by decide +kernel,by decide +kernel⟩
def ziv{C:Addr}(hc:Cls K C)(L:zh7 K C "row" "Grow.row" (inClass (top 13) 8) ["self"])(n_laid:zbz K C "laid")(b_tuple:mg "tuple"=none):zcI P w K mg base 1 C "row" 1 (zcv C) :=
 zeL (k:=0) L zim fun f cdv A outer s H E hr=>JSs.out (zal (JS.mk (za9 (zbd zbu rfl b_tuple zcj (zaa (zcH hc n_laid (zab 0)) (zai))))))
def zgU:FnScope ["bed","keeper"] ["bed"] (zaj (top 15)):=⟨rfl,rfl,rfl,by decide +kernel,rfl,by decide +kernel,by decide +kernel⟩
def zg4{C:Addr}(hc:Cls K C)(L:Laid K mg "first_end" (top 15) ["bed"])(h_Grow___init__:zl9 P w K mg base 4 C "Grow" 2 (zbm C))(h_Grow_on:zcI P w K mg base 6 C "on" 1 (zb6 C))(h_Grow_standing:zcI P w K mg base 1 C "standing" 1 (zbl C))(h_Grow_row:zcI P w K mg base 1 C "row" 1 (zcv C)):zbx P w K mg base 7 "first_end" 1 (zbh C) :=
 zbC (k:=6) L zgU fun f cdv A outer s H E hr=>JSs.out (zah (JS.mk (za3 (i:=1) zue rfl (by first | exact Aw rfl | exact Au rfl) (zm6 h_Grow___init__ (hr.mono (by decide)) rfl (zaa (zab 0) (zai)) (zao.cons zao.nil)))) (zah (zjX AS (zb9 znA (zgP h_Grow_on hc (hr.mono (by decide)) (zab 1)) (zk7) rfl) (zal (JS.mk (zmc)))) (zal (JS.mk (za9 (zbs (zaa (zgP h_Grow_row hc (hr.mono (by decide)) (zab 1)) (zaa (zgP h_Grow_standing hc (hr.mono (by decide)) (zab 1)) (zai)))))))))
def zfa:FnScope ["_law_script","_law_k","_law_cell","_law_far","_law_own"] ["_law_script","_law_k"] (zaj (top 17)):=⟨rfl,rfl,rfl,by decide +kernel,rfl,by decide +kernel,by decide +kernel⟩
def zfo(L:Laid K mg "_law_begin" (top 17) ["_law_script","_law_k"])(b_len:mg "len"=none)(b_int:mg "int"=none):zbx P w K mg base 1 "_law_begin" 2 zb5 :=
 zbC (k:=0) L zfa fun f cdv A outer s H E hr=>JSs.out (zah (JS.mk (za3 (i:=2) zst rfl (by first | exact Aw rfl | exact Au rfl) (zrE (zb9 zpK (zab 1) (zaR zbY rfl b_len zgt (zaa (zab 0) (zai))) rfl) (zap (zaG hr) (zab 0) (zab 1)) (zaf)))) (zah (JS.mk (za3 (i:=3) zst rfl (by first | exact Aw rfl | exact Au rfl) (zas zf2 (zas zf2 (zas zf2 (zas zf2 (zas zeJ (zaf) (zaf)) (zas zeJ (zaf) (zaf))) (zas zeJ (zaf) (zaf))) (zas zeJ (zaf) (zaf))) (zas zeJ (zaf) (zaf))))) (zah (JS.mk (za3 (i:=4) zst rfl (by first | exact Aw rfl | exact Au rfl) (zas zf2 (zas zcm (zab 2) (zab 3)) (zbd zl4 rfl b_int zqJ (zaa (zpc znE (zab 2) (zas zeJ (zaf) (zaf)) rfl) (zai)))))) (zal (JS.mk (za9 (zcb (zaa (zab 4) (zaa (zas zcm (zas zaJ (zas zcm (zab 2) (zaf)) (zas zcl (zaf) (zab 1))) (zaf)) (zaa (zaf) (zai)))))))))))
def zfX:FnScope ["_law_pot","_law_many","_law_digit","_law_mixed"] ["_law_pot","_law_many"] (zaj (top 18)):=⟨rfl,rfl,rfl,by decide +kernel,rfl,by decide +kernel,by decide +kernel⟩
def zf7(L:Laid K mg "_law_draw" (top 18) ["_law_pot","_law_many"]):zbx P w K mg base 1 "_law_draw" 2 zac :=
 zbC (k:=0) L zfX fun f cdv A outer s H E hr=>JSs.out (zah (zgf (zb9 zsj (zap (zaG hr) (zab 0) (zaf)) (zaf) rfl) (zah (JS.mk (za3 (i:=2) zss rfl (by first | exact Aw rfl | exact Au rfl) (zas zcm (zap (zaG hr) (zab 0) (zaf)) (zab 1)))) (zah (JS.mk (zgJ (zaG hr) (zab 0) (zaf) (zas zg0 (zap (zaG hr) (zab 0) (zaf)) (zab 1)))) (zal (JS.mk (za9 (zab 2)))))) (zbG)) (zah (JS.mk (zgJ (zaG hr) (zab 0) (zaf) (zas zaJ (zap (zaG hr) (zab 0) (zaf)) (zaf)))) (zah (JS.mk (za3 (i:=3) zss rfl (by first | exact Aw rfl | exact Au rfl) (zas zcm (zas zcl (zas zaJ (zas zaJ (zap (zaG hr) (zab 0) (zaf)) (zas zcl (zas zcl (zaf) (zap (zaG hr) (zab 0) (zaf))) (zap (zaG hr) (zab 0) (zaf)))) (zas zcl (zaf) (zap (zaG hr) (zab 0) (zaf)))) (zaf)) (zaf)))) (zah (JS.mk (za3 (i:=3) zss rfl (by first | exact Aw rfl | exact Au rfl) (zas zcm (zas zcl (zab 3) (zas zaJ (zas zcm (zab 3) (zaf)) (zas zcl (zaf) (zap (zaG hr) (zab 0) (zaf))))) (zaf)))) (zal (JS.mk (za9 (zas zcm (zas zaJ (zas zg0 (zab 3) (zaf)) (zas zg0 (zab 3) (zaf))) (zab 1)))))))))
def ze6:FnScope ["_law_pot","_law_many","_law_letters","_law_first","_law_step_here"] ["_law_pot","_law_many"] (zaj (top 19)):=⟨rfl,rfl,rfl,by decide +kernel,rfl,by decide +kernel,by decide +kernel⟩
def zfk(L:Laid K mg "_law_names" (top 19) ["_law_pot","_law_many"])(b_range:mg "range"=none)(b_sorted:mg "sorted"=none)(h_q_law_draw:zbx P w K mg base 1 "_law_draw" 2 zac):zbx P w K mg base 2 "_law_names" 2 zb2 :=
 zbC (k:=1) L ze6 fun f cdv A outer s H E hr=>JSs.out (zah (JS.mk (za3 (i:=2) zsr rfl (by first | exact Aw rfl | exact Au rfl) (zdV))) (zah (JS.mk (zmW (zbs (zaa (zak h_q_law_draw (hr.mono (by decide)) rfl (zaa (zab 0) (zaa (zaf) (zai))) (zao.cons (zao.cons zao.nil))) (zaa (zap (zaG hr) (zcb (JA.out (zaq (zaf) (zaq (zaf) (zaq (zaf) (zaq (zaf) (zaq (zaf) (zaq (zaf) (zdq))))))))) (zak h_q_law_draw (hr.mono (by decide)) rfl (zaa (zab 0) (zaa (zaf) (zai))) (zao.cons (zao.cons zao.nil)))) (zai)))) (zgM rfl (zbj (zaC (i:=3) zsr rfl (by first | exact Aw rfl | exact Au rfl)) (zbj (zaC (i:=4) zsr rfl (by first | exact Aw rfl | exact Au rfl)) (zdU)))))) (zah (zgf (zb9 (zf3 (zbN hr)) (zak h_q_law_draw (hr.mono (by decide)) rfl (zaa (zab 0) (zaa (zaf) (zai))) (zao.cons (zao.cons zao.nil))) (zaf) rfl) (zal (JS.mk (za9 (zdy rfl rfl (zbP (N':=["_law_k","_law_letters","_law_first"]) (nt:=1) (fr:=[2,3]) ["_law_letters","_law_first"] rfl (by decide +kernel) (by decide +kernel) (by decide +kernel) rfl ⟨⟨rfl,by decide⟩,⟨⟨rfl,by decide⟩,trivial⟩⟩ ⟨by first | exact Aw rfl | exact Au rfl,⟨by first | exact Aw rfl | exact Au rfl,trivial⟩⟩) (zba rfl b_range (zab 1)) (fun C s0 H0 fp=>zaC (i:=0) zud rfl (by first | exact Aw rfl | exact Au rfl)) (fun C s0 H0 fp=>zfb) (fun C s0 H0 fp=>zas zcl (zap (zaG hr) (zab 1) (zab 2)) (zas zaJ (zab 0) (zaf))))))) (zbG)) (zal (JS.mk (za9 (zaR zcS rfl b_sorted zdN (zaa (zdy rfl rfl (zbP (N':=["_law_k","_law_letters","_law_first","_law_step_here"]) (nt:=1) (fr:=[2,3,4]) ["_law_letters","_law_first","_law_step_here"] rfl (by decide +kernel) (by decide +kernel) (by decide +kernel) rfl ⟨⟨rfl,by decide⟩,⟨⟨rfl,by decide⟩,⟨⟨rfl,by decide⟩,trivial⟩⟩⟩ ⟨by first | exact Aw rfl | exact Au rfl,⟨by first | exact Aw rfl | exact Au rfl,⟨by first | exact Aw rfl | exact Au rfl,trivial⟩⟩⟩) (zba rfl b_range (zab 1)) (fun C s0 H0 fp=>zaC (i:=0) zuc rfl (by first | exact Aw rfl | exact Au rfl)) (fun C s0 H0 fp=>zfb) (fun C s0 H0 fp=>zas zcl (zap (zaG hr) (zab 1) (zas zcm (zas zaJ (zab 2) (zas zcl (zab 3) (zab 0))) (zaf))) (zas zaJ (zaf) (zas zcm (zas zaJ (zas zcl (zab 0) (zab 0)) (zab 2)) (zaf))))) (zai)))))))))
def zfW:FnScope ["_law_pot","_law_names_here","_law_face","_law_sides_here"] ["_law_pot","_law_names_here"] (zaj (top 20)):=⟨rfl,rfl,rfl,by decide +kernel,rfl,by decide +kernel,by decide +kernel⟩
def zf6(L:Laid K mg "_law_kind" (top 20) ["_law_pot","_law_names_here"])(b_range:mg "range"=none)(b_len:mg "len"=none)(h_q_law_draw:zbx P w K mg base 1 "_law_draw" 2 zac):zbx P w K mg base 2 "_law_kind" 2 zck :=
 zbC (k:=1) L zfW fun f cdv A outer s H E hr=>JSs.out (zah (JS.mk (za3 (i:=2) zti rfl (by first | exact Aw rfl | exact Au rfl) (zap (zaG hr) (zcb (zaa (zdV) (zaa (zap (zaG hr) (zdV) (zak h_q_law_draw (hr.mono (by decide)) rfl (zaa (zab 0) (zaa (zaf) (zai))) (zao.cons (zao.cons zao.nil)))) (zai)))) (zak h_q_law_draw (hr.mono (by decide)) rfl (zaa (zab 0) (zaa (zaf) (zai))) (zao.cons (zao.cons zao.nil)))))) (zah (JS.mk (zdg (i:=3) rfl rfl (zbP (N':=["_law_side","_law_names_here","_law_pot"]) (nt:=1) (fr:=[1,0]) ["_law_names_here","_law_pot"] rfl (by decide +kernel) (by decide +kernel) (by decide +kernel) rfl ⟨⟨rfl,by decide⟩,⟨⟨rfl,by decide⟩,trivial⟩⟩ ⟨by first | exact Aw rfl | exact Au rfl,⟨by first | exact Aw rfl | exact Au rfl,trivial⟩⟩) (zba rfl b_range (zaf)) (fun C s0 H0 fp=>zaC (i:=0) zub rfl (by first | exact Aw rfl | exact Au rfl)) (fun C s0 H0 fp=>zfb) (fun C s0 H0 fp=>zap (zaG hr) (zas zaJ (zcb (zaa (zdV) (zai))) (zab 1)) (zak h_q_law_draw (hr.mono (by decide)) rfl (zaa (zab 2) (zaa (zas zaJ (zaR zbY rfl b_len zgt (zaa (zab 1) (zai))) (zaf)) (zai))) (zao.cons (zao.cons zao.nil)))) zti rfl rfl)) (zal (JS.mk (za9 (zbs (JA.out (zaq (zab 2) (zaq (zap (zaG hr) (zab 3) (zaf)) (zaq (zap (zaG hr) (zab 3) (zaf)) (zaq (zap (zaG hr) (zab 3) (zaf)) (zaq (zap (zaG hr) (zab 3) (zaf)) (zdq)))))))))))))
def ze8:FnScope ["_law_pot","_law_names_here","_law_enough","_law_sticks","_law_kinds"] ["_law_pot"] (zaj (top 21)):=⟨rfl,rfl,rfl,by decide +kernel,rfl,by decide +kernel,by decide +kernel⟩
def zfm(L:Laid K mg "_law_house" (top 21) ["_law_pot"])(b_tuple:mg "tuple"=none)(b_range:mg "range"=none)(b_len:mg "len"=none)(h_q_law_draw:zbx P w K mg base 1 "_law_draw" 2 zac)(h_q_law_names:zbx P w K mg base 2 "_law_names" 2 zb2)(h_q_law_kind:zbx P w K mg base 2 "_law_kind" 2 zck):zbx P w K mg base 3 "_law_house" 1 zb4 :=
 zbC (k:=2) L ze8 fun f cdv A outer s H E hr=>JSs.out (zah (JS.mk (za3 (i:=1) zq6 rfl (by first | exact Aw rfl | exact Au rfl) (zak h_q_law_names (hr.mono (by decide)) rfl (zaa (zab 0) (zaa (zas zaJ (zaf) (zak h_q_law_draw (hr.mono (by decide)) rfl (zaa (zab 0) (zaa (zaf) (zai))) (zao.cons (zao.cons zao.nil)))) (zai))) (zao.cons (zao.cons zao.nil))))) (zah (JS.mk (za3 (i:=2) zq6 rfl (by first | exact Aw rfl | exact Au rfl) (zap (zaG hr) (zcb (JA.out (zaq (zaf) (zaq (zaf) (zaq (zaf) (zaq (zaf) (zaq (zaf) (zaq (zaf) (zaq (zaf) (zaq (zaf) (zdq))))))))))) (zak h_q_law_draw (hr.mono (by decide)) rfl (zaa (zab 0) (zaa (zaf) (zai))) (zao.cons (zao.cons zao.nil)))))) (zah (JS.mk (za3 (i:=3) zq6 rfl (by first | exact Aw rfl | exact Au rfl) (zbd zbu rfl b_tuple zcj (zaa (zdy rfl rfl (zbP (N':=["_law_name","_law_pot"]) (nt:=1) (fr:=[0]) ["_law_pot"] rfl (by decide +kernel) (by decide +kernel) (by decide +kernel) rfl ⟨⟨rfl,by decide⟩,trivial⟩ ⟨by first | exact Aw rfl | exact Au rfl,trivial⟩) (zdh (zab 1)) (fun C s0 H0 fp=>zaC (i:=0) zua rfl (by first | exact Aw rfl | exact Au rfl)) (fun C s0 H0 fp=>zfb) (fun C s0 H0 fp=>zbs (zaa (zab 0) (zaa (zap (zaG hr) (zcb (JA.out (zaq (zaf) (zaq (zaf) (zaq (zaf) (zaq (zas zaJ (zaf) (zak h_q_law_draw (hr.mono (by decide)) rfl (zaa (zab 1) (zaa (zaf) (zai))) (zao.cons (zao.cons zao.nil)))) (zdq))))))) (zak h_q_law_draw (hr.mono (by decide)) rfl (zaa (zab 1) (zaa (zaf) (zai))) (zao.cons (zao.cons zao.nil)))) (zai))))) (zai))))) (zah (JS.mk (zdg (i:=4) rfl rfl (zbP (N':=["_law_k","_law_pot","_law_names_here"]) (nt:=1) (fr:=[0,1]) ["_law_pot","_law_names_here"] rfl (by decide +kernel) (by decide +kernel) (by decide +kernel) rfl ⟨⟨rfl,by decide⟩,⟨⟨rfl,by decide⟩,trivial⟩⟩ ⟨by first | exact Aw rfl | exact Au rfl,⟨by first | exact Aw rfl | exact Au rfl,trivial⟩⟩) (zba rfl b_range (zas zaJ (zaf) (zak h_q_law_draw (hr.mono (by decide)) rfl (zaa (zab 0) (zaa (zap (zaG hr) (zcb (JA.out (zaq (zaf) (zaq (zaf) (zaq (zaf) (zaq (zaf) (zdq))))))) (zak h_q_law_draw (hr.mono (by decide)) rfl (zaa (zab 0) (zaa (zaf) (zai))) (zao.cons (zao.cons zao.nil)))) (zai))) (zao.cons (zao.cons zao.nil))))) (fun C s0 H0 fp=>zaC (i:=0) zt9 rfl (by first | exact Aw rfl | exact Au rfl)) (fun C s0 H0 fp=>zfb) (fun C s0 H0 fp=>zak h_q_law_kind (hr.mono (by decide)) rfl (zaa (zab 1) (zaa (zab 2) (zai))) (zao.cons (zao.cons zao.nil))) zq6 rfl rfl)) (zah (zgf (zb9 (zf3 (zbN hr)) (zak h_q_law_draw (hr.mono (by decide)) rfl (zaa (zab 0) (zaa (zaf) (zai))) (zao.cons (zao.cons zao.nil))) (zaf) rfl) (zal (JS.mk (zbM (zbI (zab 4) (zaa (zap (zaG hr) (zab 4) (zak h_q_law_draw (hr.mono (by decide)) rfl (zaa (zab 0) (zaa (zaR zbY rfl b_len zgt (zaa (zab 4) (zai))) (zai))) (zao.cons (zao.cons zao.nil)))) (zai)))))) (zbG)) (zal (JS.mk (za9 (zbs (zaa (zab 2) (zaa (zab 3) (zaa (zbd zbu rfl b_tuple zcj (zaa (zab 4) (zai))) (zai)))))))))))))
def zdG:FnScope ["_law_pot","_law_house_here","_law_floor","_law_most","_law_there","_law_k","_law_place"] ["_law_pot","_law_house_here","_law_floor","_law_most"] (zaj (top 22)):=⟨rfl,rfl,rfl,by decide +kernel,rfl,by decide +kernel,by decide +kernel⟩
def zdI(L:Laid K mg "_law_standing" (top 22) ["_law_pot","_law_house_here","_law_floor","_law_most"])(b_range:mg "range"=none)(b_len:mg "len"=none)(b_sorted:mg "sorted"=none)(b_tuple:mg "tuple"=none)(h_q_law_draw:zbx P w K mg base 1 "_law_draw" 2 zac):zbx P w K mg base 2 "_law_standing" 4 zaU :=
 zbC (k:=1) L zdG fun f cdv A outer s H E hr=>JSs.out (zah (JS.mk (za3 (i:=4) zsq rfl (by first | exact Aw rfl | exact Au rfl) (zgQ))) (zah (zc9 AS rfl (zba rfl b_range (zak h_q_law_draw (hr.mono (by decide)) rfl (zaa (zab 0) (zaa (zas zaJ (zab 3) (zaf)) (zai))) (zao.cons (zao.cons zao.nil)))) (zaC (i:=5) zsq rfl (by first | exact Aw rfl | exact Au rfl)) (zah (JS.mk (za3 (i:=6) zsq rfl (by first | exact Aw rfl | exact Au rfl) (zbs (zaa (zak h_q_law_draw (hr.mono (by decide)) rfl (zaa (zab 0) (zaa (zap (zaG hr) (zab 2) (zaf)) (zai))) (zao.cons (zao.cons zao.nil))) (zaa (zak h_q_law_draw (hr.mono (by decide)) rfl (zaa (zab 0) (zaa (zap (zaG hr) (zab 2) (zaf)) (zai))) (zao.cons (zao.cons zao.nil))) (zai)))))) (zal (JS.mk (zgJ (zaG hr) (zab 4) (zab 6) (zak h_q_law_draw (hr.mono (by decide)) rfl (zaa (zab 0) (zaa (zaR zbY rfl b_len zgt (zaa (zap (zaG hr) (zab 1) (zaf)) (zai))) (zai))) (zao.cons (zao.cons zao.nil)))))))) (zal (JS.mk (za9 (zbd zbu rfl b_tuple zcj (zaa (zaR zcS rfl b_sorted zdN (zaa (zdy rfl rfl (zbP (N':=["_law_place","_law_there"]) (nt:=1) (fr:=[4]) ["_law_there"] rfl (by decide +kernel) (by decide +kernel) (by decide +kernel) rfl ⟨⟨rfl,by decide⟩,trivial⟩ ⟨by first | exact Aw rfl | exact Au rfl,trivial⟩) (zme (zab 4)) (fun C s0 H0 fp=>zaC (i:=0) zth rfl (by first | exact Aw rfl | exact Au rfl)) (fun C s0 H0 fp=>zfb) (fun C s0 H0 fp=>zas zaJ (zab 0) (zbs (zaa (zjg (zaG hr) (zab 1) (zab 0)) (zai))))) (zai))) (zai))))))))
def zgT:FnScope ["_law_pot","_law_house_here","_law_floor"] ["_law_pot"] (zaj (top 23)):=⟨rfl,rfl,rfl,by decide +kernel,rfl,by decide +kernel,by decide +kernel⟩
def zg3(L:Laid K mg "_law_bed" (top 23) ["_law_pot"])(h_q_law_house:zbx P w K mg base 3 "_law_house" 1 zb4)(h_q_law_draw:zbx P w K mg base 1 "_law_draw" 2 zac)(h_q_law_standing:zbx P w K mg base 2 "_law_standing" 4 zaU):zbx P w K mg base 4 "_law_bed" 1 zcE :=
 zbC (k:=3) L zgT fun f cdv A outer s H E hr=>JSs.out (zah (JS.mk (za3 (i:=1) zsp rfl (by first | exact Aw rfl | exact Au rfl) (zak h_q_law_house (hr.mono (by decide)) rfl (zaa (zab 0) (zai)) (zao.cons zao.nil)))) (zah (JS.mk (za3 (i:=2) zsp rfl (by first | exact Aw rfl | exact Au rfl) (zbs (zaa (zas zaJ (zaf) (zak h_q_law_draw (hr.mono (by decide)) rfl (zaa (zab 0) (zaa (zaf) (zai))) (zao.cons (zao.cons zao.nil)))) (zaa (zas zaJ (zaf) (zak h_q_law_draw (hr.mono (by decide)) rfl (zaa (zab 0) (zaa (zap (zaG hr) (zcb (JA.out (zaq (zaf) (zaq (zaf) (zaq (zaf) (zaq (zaf) (zdq))))))) (zak h_q_law_draw (hr.mono (by decide)) rfl (zaa (zab 0) (zaa (zaf) (zai))) (zao.cons (zao.cons zao.nil)))) (zai))) (zao.cons (zao.cons zao.nil)))) (zai)))))) (zah (zgf (zb9 (zf3 (zbN hr)) (zak h_q_law_draw (hr.mono (by decide)) rfl (zaa (zab 0) (zaa (zaf) (zai))) (zao.cons (zao.cons zao.nil))) (zaf) rfl) (zal (JS.mk (za3 (i:=2) zsp rfl (by first | exact Aw rfl | exact Au rfl) (zo7 (zab 2) (zrD (zaf)))))) (zbG)) (zal (JS.mk (za9 (zbs (zaa (zab 1) (zaa (zab 2) (zaa (zak h_q_law_standing (hr.mono (by decide)) rfl (JA.out (zaq (zab 0) (zaq (zab 1) (zaq (zab 2) (zaq (zap (zaG hr) (zcb (zaa (zaf) (zaa (zaf) (zaa (zaf) (zai))))) (zak h_q_law_draw (hr.mono (by decide)) rfl (zaa (zab 0) (zaa (zaf) (zai))) (zao.cons (zao.cons zao.nil)))) (zdq)))))) (zao.cons (zao.cons (zao.cons (zao.cons zao.nil))))) (zai)))))))))))
def ze7:FnScope ["_law_standing_here"] ["_law_standing_here"] (zaj (top 24)):=⟨rfl,rfl,rfl,by decide +kernel,rfl,by decide +kernel,by decide +kernel⟩
def zfl(L:Laid K mg "_law_lying" (top 24) ["_law_standing_here"])(b_dict:mg "dict"=none):zbx P w K mg base 1 "_law_lying" 1 zb3 :=
 zbC (k:=0) L ze7 fun f cdv A outer s H E hr=>JSs.out (zal (JS.mk (za9 (zbd (ziJ rfl (ztS hr)) rfl b_dict zkA (zaa (zdy rfl rfl (zbP (N':=["_law_x","_law_y","_law_kind_here"]) (nt:=3) (fr:=[]) [] rfl (by decide +kernel) (by decide +kernel) (by decide +kernel) rfl trivial trivial) (zdh (zab 0)) (fun C s0 H0 fp=>zgM rfl (zbj (zaC (i:=0) zso rfl (by first | exact Aw rfl | exact Au rfl)) (zbj (zaC (i:=1) zso rfl (by first | exact Aw rfl | exact Au rfl)) (zbj (zaC (i:=2) zso rfl (by first | exact Aw rfl | exact Au rfl)) (zdU))))) (fun C s0 H0 fp=>zfb) (fun C s0 H0 fp=>zbs (zaa (zbs (zaa (zab 0) (zaa (zab 1) (zai)))) (zaa (zab 2) (zai))))) (zai))))))
def zcO:FnScope ["_law_there"] ["_law_there"] (zaj (top 25)):=⟨rfl,rfl,rfl,by decide +kernel,rfl,by decide +kernel,by decide +kernel⟩
def zcR(L:Laid K mg "_law_standing_of" (top 25) ["_law_there"])(b_sorted:mg "sorted"=none)(b_tuple:mg "tuple"=none):zbx P w K mg base 1 "_law_standing_of" 1 zay :=
 zbC (k:=0) L zcO fun f cdv A outer s H E hr=>JSs.out (zal (JS.mk (za9 (zbd zbu rfl b_tuple zcj (zaa (zaR zeh rfl b_sorted zdN (zaa (zo6 (zdy rfl rfl (zbP (N':=["_law_place","_law_there"]) (nt:=1) (fr:=[0]) ["_law_there"] rfl (by decide +kernel) (by decide +kernel) (by decide +kernel) rfl ⟨⟨rfl,by decide⟩,trivial⟩ ⟨by first | exact Aw rfl | exact Au rfl,trivial⟩) (zme (zab 0)) (fun C s0 H0 fp=>zaC (i:=0) zth rfl (by first | exact Aw rfl | exact Au rfl)) (fun C s0 H0 fp=>zfb) (fun C s0 H0 fp=>zas zaJ (zab 0) (zbs (zaa (zjg (zaG hr) (zab 1) (zab 0)) (zai)))))) (zai))) (zai))))))
def zfV:FnScope ["_law_place","_law_side","_law_x","_law_y"] ["_law_place","_law_side"] (zaj (top 26)):=⟨rfl,rfl,rfl,by decide +kernel,rfl,by decide +kernel,by decide +kernel⟩
def zf5(L:Laid K mg "_law_step" (top 26) ["_law_place","_law_side"]):zbx P w K mg base 1 "_law_step" 2 zaM :=
 zbC (k:=0) L zfV fun f cdv A outer s H E hr=>JSs.out (zah (JS.mk (zmW (zab 0) (zgM rfl (zbj (zaC (i:=2) ztg rfl (by first | exact Aw rfl | exact Au rfl)) (zbj (zaC (i:=3) ztg rfl (by first | exact Aw rfl | exact Au rfl)) (zdU)))))) (zal (JS.mk (za9 (zap (zaG hr) (zcb (JA.out (zaq (zbs (zaa (zab 2) (zaa (zas zaJ (zab 3) (zaf)) (zai)))) (zaq (zbs (zaa (zas zaJ (zab 2) (zaf)) (zaa (zab 3) (zai)))) (zaq (zbs (zaa (zab 2) (zaa (zas zeI (zab 3) (zaf)) (zai)))) (zaq (zbs (zaa (zas zeI (zab 2) (zaf)) (zaa (zab 3) (zai)))) (zdq))))))) (zab 1))))))
def ze5:FnScope ["_law_bed_here","_law_there","_law_place","_law_kind_here","_law_kinds","_law_found","_law_side","_law_other","_law_mine"] ["_law_bed_here","_law_there","_law_place","_law_kind_here"] (zaj (top 27)):=⟨rfl,rfl,rfl,by decide +kernel,rfl,by decide +kernel,by decide +kernel⟩
def zfj(L:Laid K mg "_law_sides" (top 27) ["_law_bed_here","_law_there","_law_place","_law_kind_here"])(b_range:mg "range"=none)(h_q_law_step:zbx P w K mg base 1 "_law_step" 2 zaM):zbx P w K mg base 2 "_law_sides" 4 zb1 :=
 zbC (k:=1) L ze5 fun f cdv A outer s H E hr=>JSs.out (zah (JS.mk (zoV (i:=4) (j:=5) rfl zq5 rfl rfl (by decide) rfl rfl (zaa (zap (zaG hr) (zap (zaG hr) (zab 0) (zaf)) (zaf)) (zaa (zcb (zai)) (zai))))) (zah (zc9 AS rfl (zba rfl b_range (zaf)) (zaC (i:=6) zq5 rfl (by first | exact Aw rfl | exact Au rfl)) (zah (JS.mk (za3 (i:=7) zq5 rfl (by first | exact Aw rfl | exact Au rfl) (zpa (zaG hr) (zab 1) (zak h_q_law_step (hr.mono (by decide)) rfl (zaa (zab 2) (zaa (zab 6) (zai))) (zao.cons (zao.cons zao.nil)))))) (zah (JS.mk (za3 (i:=8) zq5 rfl (by first | exact Aw rfl | exact Au rfl) (zap (zaG hr) (zap (zaG hr) (zab 4) (zab 3)) (zas zaJ (zab 6) (zaf))))) (zal (zgf (SW.sb (zi2 (zb9 zjz (zab 7) (zk7) rfl) (zi2 (zb9 (znB (zbN hr)) (zab 8) (zdV) rfl) (zhm (zb9 (zf3 (zbN hr)) (zap (zaG hr) (zap (zaG hr) (zab 4) (zab 7)) (zas zaJ (zas zcm (zas zaJ (zab 6) (zaf)) (zaf)) (zaf))) (zab 8) rfl))))) (zal (JS.mk (zbM (zbI (zab 5) (zaa (zab 6) (zai)))))) (zbG)))))) (zal (JS.mk (za9 (zab 5))))))
def zii:FnScope ["_law_bed_here","_law_there","_law_place","_law_kind_here","_law_sides_here","_law_strengths"] ["_law_bed_here","_law_there","_law_place","_law_kind_here"] (zaj (top 28)):=⟨rfl,rfl,rfl,by decide +kernel,rfl,by decide +kernel,by decide +kernel⟩
def zir(L:Laid K mg "_law_by" (top 28) ["_law_bed_here","_law_there","_law_place","_law_kind_here"])(b_dict:mg "dict"=none)(b_sum:mg "sum"=none)(h_q_law_sides:zbx P w K mg base 2 "_law_sides" 4 zb1):zbx P w K mg base 3 "_law_by" 4 zce :=
 zbC (k:=2) L zii fun f cdv A outer s H E hr=>JSs.out (zah (JS.mk (za3 (i:=4) ztf rfl (by first | exact Aw rfl | exact Au rfl) (zak h_q_law_sides (hr.mono (by decide)) rfl (JA.out (zaq (zab 0) (zaq (zab 1) (zaq (zab 2) (zaq (zab 3) (zdq)))))) (zao.cons (zao.cons (zao.cons (zao.cons zao.nil))))))) (zah (zgf (zb9 (zf3 (zbN hr)) (zab 4) (zcb (zai)) rfl) (zal (JS.mk (za9 (zaf)))) (zbG)) (zah (JS.mk (za3 (i:=5) ztf rfl (by first | exact Aw rfl | exact Au rfl) (zbd (zeU rfl) rfl b_dict zkA (zaa (zap (zaG hr) (zap (zaG hr) (zab 0) (zaf)) (zaf)) (zai))))) (zal (JS.mk (za9 (zaR (zh0 rfl) rfl b_sum zqG (zaa (zdy rfl rfl (zbP (N':=["_law_side","_law_strengths","_law_bed_here","_law_kind_here"]) (nt:=1) (fr:=[5,0,3]) ["_law_strengths","_law_bed_here","_law_kind_here"] rfl (by decide +kernel) (by decide +kernel) (by decide +kernel) rfl ⟨⟨rfl,by decide⟩,⟨⟨rfl,by decide⟩,⟨⟨rfl,by decide⟩,trivial⟩⟩⟩ ⟨by first | exact Aw rfl | exact Au rfl,⟨by first | exact Aw rfl | exact Au rfl,⟨by first | exact Aw rfl | exact Au rfl,trivial⟩⟩⟩) (zdh (zab 4)) (fun C s0 H0 fp=>zaC (i:=0) zt8 rfl (by first | exact Aw rfl | exact Au rfl)) (fun C s0 H0 fp=>zfb) (fun C s0 H0 fp=>zap (zaG hr) (zab 1) (zap (zaG hr) (zap (zaG hr) (zap (zaG hr) (zap (zaG hr) (zab 2) (zaf)) (zaf)) (zab 3)) (zas zaJ (zab 0) (zaf))))) (zai)))))))))
def ze9:FnScope ["_law_bed_here","_law_there","_law_found","_law_x","_law_y","_law_beside"] ["_law_bed_here","_law_there"] (zaj (top 29)):=⟨rfl,rfl,rfl,by decide +kernel,rfl,by decide +kernel,by decide +kernel⟩
def zfn(L:Laid K mg "_law_empty" (top 29) ["_law_bed_here","_law_there"])(b_range:mg "range"=none)(h_q_law_step:zbx P w K mg base 1 "_law_step" 2 zaM):zbx P w K mg base 2 "_law_empty" 2 zbD :=
 zbC (k:=1) L ze9 fun f cdv A outer s H E hr=>JSs.out (zah (JS.mk (za3 (i:=2) zq4 rfl (by first | exact Aw rfl | exact Au rfl) (zcb (zai)))) (zah (zc9 AS rfl (zba rfl b_range (zap (zaG hr) (zap (zaG hr) (zab 0) (zaf)) (zaf))) (zaC (i:=3) zq4 rfl (by first | exact Aw rfl | exact Au rfl)) (zal (zc9 AS rfl (zba rfl b_range (zap (zaG hr) (zap (zaG hr) (zab 0) (zaf)) (zaf))) (zaC (i:=4) zq4 rfl (by first | exact Aw rfl | exact Au rfl)) (zah (JS.mk (zdg (i:=5) rfl rfl (zbP (N':=["_law_side","_law_x","_law_y","_law_there"]) (nt:=1) (fr:=[3,4,1]) ["_law_x","_law_y","_law_there"] rfl (by decide +kernel) (by decide +kernel) (by decide +kernel) rfl ⟨⟨rfl,by decide⟩,⟨⟨rfl,by decide⟩,⟨⟨rfl,by decide⟩,trivial⟩⟩⟩ ⟨by first | exact Aw rfl | exact Au rfl,⟨by first | exact Aw rfl | exact Au rfl,⟨by first | exact Aw rfl | exact Au rfl,trivial⟩⟩⟩) (zba rfl b_range (zaf)) (fun C s0 H0 fp=>zaC (i:=0) zt7 rfl (by first | exact Aw rfl | exact Au rfl)) (fun C s0 H0 fp=>zpe (zph (zbN hr) (zak h_q_law_step (hr.mono (by decide)) rfl (zaa (zbs (zaa (zab 1) (zaa (zab 2) (zai)))) (zaa (zab 0) (zai))) (zao.cons (zao.cons zao.nil))) (zab 3))) (fun C s0 H0 fp=>zab 0) zq4 rfl rfl)) (zal (zgf (SW.sb (zi2 (zhs (zbN hr) (zbs (zaa (zab 3) (zaa (zab 4) (zai)))) (zab 1)) (zhm (zb9 (znB (zbN hr)) (zab 5) (zcb (zai)) rfl)))) (zal (JS.mk (zbM (zbI (zab 2) (zaa (zbs (zaa (zab 3) (zaa (zab 4) (zai)))) (zai)))))) (zbG))))))) (zal (JS.mk (za9 (zab 2))))))
def zgR:FnScope ["_law_bed_here","_law_there","_law_found","_law_place","_law_kind_here"] ["_law_bed_here","_law_there"] (zaj (top 30)):=⟨rfl,rfl,rfl,by decide +kernel,rfl,by decide +kernel,by decide +kernel⟩
def zg1(L:Laid K mg "_law_may" (top 30) ["_law_bed_here","_law_there"])(b_len:mg "len"=none)(b_range:mg "range"=none)(h_q_law_empty:zbx P w K mg base 2 "_law_empty" 2 zbD)(h_q_law_by:zbx P w K mg base 3 "_law_by" 4 zce):zbx P w K mg base 4 "_law_may" 2 zbK :=
 zbC (k:=3) L zgR fun f cdv A outer s H E hr=>JSs.out (zah (JS.mk (za3 (i:=2) zsn rfl (by first | exact Aw rfl | exact Au rfl) (zcb (zai)))) (zah (zc9 AS rfl (zdh (zak h_q_law_empty (hr.mono (by decide)) rfl (zaa (zab 0) (zaa (zab 1) (zai))) (zao.cons (zao.cons zao.nil)))) (zaC (i:=3) zsn rfl (by first | exact Aw rfl | exact Au rfl)) (zal (zc9 AS rfl (zba rfl b_range (zaR zbY rfl b_len zgt (zaa (zap (zaG hr) (zap (zaG hr) (zab 0) (zaf)) (zaf)) (zai)))) (zaC (i:=4) zsn rfl (by first | exact Aw rfl | exact Au rfl)) (zal (zgf (zb9 znE (zak h_q_law_by (hr.mono (by decide)) rfl (JA.out (zaq (zab 0) (zaq (zab 1) (zaq (zab 3) (zaq (zab 4) (zdq)))))) (zao.cons (zao.cons (zao.cons (zao.cons zao.nil))))) (zap (zaG hr) (zap (zaG hr) (zab 0) (zaf)) (zaf)) rfl) (zal (JS.mk (zbM (zbI (zab 2) (zaa (zas zaJ (zab 3) (zbs (zaa (zab 4) (zai)))) (zai)))))) (zbG)))))) (zal (JS.mk (za9 (zab 2))))))
def zgS:FnScope ["_law_bed_here","_law_there","_law_row","_law_k","_law_some"] ["_law_bed_here"] (zaj (top 31)):=⟨rfl,rfl,rfl,by decide +kernel,rfl,by decide +kernel,by decide +kernel⟩
def zg2(L:Laid K mg "_law_end" (top 31) ["_law_bed_here"])(b_range:mg "range"=none)(b_tuple:mg "tuple"=none)(h_q_law_lying:zbx P w K mg base 1 "_law_lying" 1 zb3)(h_q_law_may:zbx P w K mg base 4 "_law_may" 2 zbK)(h_q_law_standing_of:zbx P w K mg base 1 "_law_standing_of" 1 zay):zbx P w K mg base 5 "_law_end" 1 zcD :=
 zbC (k:=4) L zgS fun f cdv A outer s H E hr=>JSs.out (zah (JS.mk (zoV (i:=1) (j:=2) rfl zsm rfl rfl (by decide) rfl rfl (zaa (zak h_q_law_lying (hr.mono (by decide)) rfl (zaa (zap (zaG hr) (zab 0) (zaf)) (zai)) (zao.cons zao.nil)) (zaa (zcb (zai)) (zai))))) (zah (zc9 AS rfl (zba rfl b_range (zas zcl (zap (zaG hr) (zap (zaG hr) (zab 0) (zaf)) (zaf)) (zap (zaG hr) (zap (zaG hr) (zab 0) (zaf)) (zaf)))) (zaC (i:=3) zsm rfl (by first | exact Aw rfl | exact Au rfl)) (zah (JS.mk (za3 (i:=4) zsm rfl (by first | exact Aw rfl | exact Au rfl) (zak h_q_law_may (hr.mono (by decide)) rfl (zaa (zab 0) (zaa (zab 1) (zai))) (zao.cons (zao.cons zao.nil))))) (zah (zgf (zb9 (zf3 (zbN hr)) (zab 4) (zcb (zai)) rfl) (zal (JS.mk (za9 (zbs (zaa (zbd zbu rfl b_tuple zcj (zaa (zab 2) (zai))) (zaa (zak h_q_law_standing_of (hr.mono (by decide)) rfl (zaa (zab 1) (zai)) (zao.cons zao.nil)) (zai))))))) (zbG)) (zah (JS.mk (zgJ (zaG hr) (zab 1) (zc4 (zap (zaG hr) (zab 4) (zaf)) (zfP) (zfO (zaf))) (zap (zaG hr) (zap (zaG hr) (zab 4) (zaf)) (zaf)))) (zal (JS.mk (zbM (zbI (zab 2) (zaa (zap (zaG hr) (zab 4) (zaf)) (zai)))))))))) (zal (JS.mk (za9 (zbs (zaa (zbd zbu rfl b_tuple zcj (zaa (zab 2) (zai))) (zaa (zak h_q_law_standing_of (hr.mono (by decide)) rfl (zaa (zab 1) (zai)) (zao.cons zao.nil)) (zai)))))))))
def zrG:FnScope ["_law_script","_law_k","_law_pot","_law_bed_here","_law_due"] ["_law_script"] (zaj (top 32)):=⟨rfl,rfl,rfl,by decide +kernel,rfl,by decide +kernel,by decide +kernel⟩
def zsS{f:Addr}{fd:FuncData}{C:Addr}(hc:Cls K C)(F:Fun K "law" "law" (top 32) f fd)(b_len:mg "len"=none)(b_min:mg "min"=none)(b_range:mg "range"=none)(b_repr:mg "repr"=none)(h_q_law_begin:zbx P w K mg base 1 "_law_begin" 2 zb5)(h_q_law_bed:zbx P w K mg base 4 "_law_bed" 1 zcE)(h_q_law_end:zbx P w K mg base 5 "_law_end" 1 zcD)(h_first_end:zbx P w K mg base 7 "first_end" 1 (zbh C)):FnOk P w K mg base CX0 8 f fd ["_law_script"] (spM K 1 (zoz C)) :=
 fn_m (k:=7) F zrG fun cdv A outer s H E hr=>JSs.out (zah (zc9 AS rfl (zba rfl b_range (zas zaJ (zaf) (zaR (zl2 rfl) rfl b_min zqH (zaa (zaf) (zaa (zaR zbY rfl b_len zgt (zaa (zab 0) (zai))) (zai)))))) (zaC (i:=1) zq3 rfl (by first | exact Aw rfl | exact Au rfl)) (zah (JS.mk (za3 (i:=2) zq3 rfl (by first | exact Aw rfl | exact Au rfl) (zak h_q_law_begin (hr.mono (by decide)) rfl (zaa (zab 0) (zaa (zab 1) (zai))) (zao.cons (zao.cons zao.nil))))) (zah (JS.mk (za3 (i:=3) zq3 rfl (by first | exact Aw rfl | exact Au rfl) (zak h_q_law_bed (hr.mono (by decide)) rfl (zaa (zab 2) (zai)) (zao.cons zao.nil)))) (zah (JS.mk (za3 (i:=4) zq3 rfl (by first | exact Aw rfl | exact Au rfl) (zaR (zei hr.gd (zjl hr)) rfl b_repr zkz (zaa (zak h_q_law_end (hr.mono (by decide)) rfl (zaa (zab 3) (zai)) (zao.cons zao.nil)) (zai))))) (zal (zgf (SW.sb (ztM (zb9 zpI (zaR (zei hr.gd (zjl hr)) rfl b_repr zkz (zaa (zak h_first_end (hr.mono (by decide)) rfl (zaa (zab 3) (zai)) (zao.cons zao.nil)) (zai))) (zab 4) rfl) (zrq (zb9 zpI (zaR (zei hr.gd (zjl hr)) rfl b_repr zkz (zaa (zak h_first_end (hr.mono (by decide)) rfl (zaa (zab 3) (zai)) (zao.cons zao.nil)) (zai))) (zab 4) rfl)))) (zal (JS.mk (za9 (zrF)))) (zbG))))))) (zal (JS.mk (za9 (zrF)))))
end
def zs8{P:Program}{w:World}{K:Ab}{mg:Str->Option Value}{base:Heap}{f:Addr}{fd:FuncData}(b_isinstance:mg "isinstance"=none)(b_int:mg "int"=none)(b_bool:mg "bool"=none)(b_tuple:mg "tuple"=none)(b_len:mg "len"=none)(b_enumerate:mg "enumerate"=none)(b_zip:mg "zip"=none)(b_sum:mg "sum"=none)(b_any:mg "any"=none)(b_dict:mg "dict"=none)(b_range:mg "range"=none)(b_min:mg "min"=none)(b_list:mg "list"=none)(b_sorted:mg "sorted"=none)(b_repr:mg "repr"=none){C:Addr}(hc:Cls K C)(n_bed:zbz K C "bed")(n_strengths:zbz K C "strengths")(n_kinds:zbz K C "kinds")(n_laid:zbz K C "laid")(n_ready:zbz K C "ready")(L_q_wall:Laid K mg "_wall" (top 0) ["k"])(L_is_whole:Laid K mg "is_whole" (top 2) ["thing","least","most"])(L_is_tuple:Laid K mg "is_tuple" (top 3) ["thing","size"])(L_is_place:Laid K mg "is_place" (top 4) ["bed","thing"])(L_places_around:Laid K mg "places_around" (top 6) ["place"])(L_sides_of:Laid K mg "sides_of" (top 7) ["bed","kind"])(L_kinds_by_place:Laid K mg "kinds_by_place" (top 8) ["standing"])(L_names_facing:Laid K mg "names_facing" (top 9) ["bed","standing_kinds","place"])(L_strength_together:Laid K mg "strength_together" (top 10) ["strengths","sides","names"])(L_growings_at:Laid K mg "growings_at" (top 11) ["bed","strengths","names","place"])(L_Grow_look_at:zh7 K C "look_at" "Grow.look_at" (inClass (top 13) 1) ["self","place"])(L_Grow___init__:zrg K mg C "Grow" "__init__" "Grow.__init__" (inClass (top 13) 0) ["self","bed"])(L_Grow_look_around:zh7 K C "look_around" "Grow.look_around" (inClass (top 13) 2) ["self","place"])(L_Grow_lay:zh7 K C "lay" "Grow.lay" (inClass (top 13) 3) ["self","tile"])(L_Grow_on:zh7 K C "on" "Grow.on" (inClass (top 13) 5) ["self"])(L_Grow_standing:zh7 K C "standing" "Grow.standing" (inClass (top 13) 7) ["self"])(L_Grow_row:zh7 K C "row" "Grow.row" (inClass (top 13) 8) ["self"])(L_first_end:Laid K mg "first_end" (top 15) ["bed"])(L_q_law_begin:Laid K mg "_law_begin" (top 17) ["_law_script","_law_k"])(L_q_law_draw:Laid K mg "_law_draw" (top 18) ["_law_pot","_law_many"])(L_q_law_names:Laid K mg "_law_names" (top 19) ["_law_pot","_law_many"])(L_q_law_kind:Laid K mg "_law_kind" (top 20) ["_law_pot","_law_names_here"])(L_q_law_house:Laid K mg "_law_house" (top 21) ["_law_pot"])(L_q_law_standing:Laid K mg "_law_standing" (top 22) ["_law_pot","_law_house_here","_law_floor","_law_most"])(L_q_law_bed:Laid K mg "_law_bed" (top 23) ["_law_pot"])(L_q_law_lying:Laid K mg "_law_lying" (top 24) ["_law_standing_here"])(L_q_law_standing_of:Laid K mg "_law_standing_of" (top 25) ["_law_there"])(L_q_law_step:Laid K mg "_law_step" (top 26) ["_law_place","_law_side"])(L_q_law_sides:Laid K mg "_law_sides" (top 27) ["_law_bed_here","_law_there","_law_place","_law_kind_here"])(L_q_law_by:Laid K mg "_law_by" (top 28) ["_law_bed_here","_law_there","_law_place","_law_kind_here"])(L_q_law_empty:Laid K mg "_law_empty" (top 29) ["_law_bed_here","_law_there"])(L_q_law_may:Laid K mg "_law_may" (top 30) ["_law_bed_here","_law_there"])(L_q_law_end:Laid K mg "_law_end" (top 31) ["_law_bed_here"])(F:Fun K "law" "law" (top 32) f fd):FnOk P w K mg base CX0 8 f fd ["_law_script"] (spM K 1 (zoz C)):=by
 have h_q_wall:=zlq (P:=P) (w:=w) (base:=base) L_q_wall;have h_is_whole:=zis (P:=P) (w:=w) (base:=base) L_is_whole  b_isinstance b_int b_bool;have h_is_tuple:=zit (P:=P) (w:=w) (base:=base) L_is_tuple  b_isinstance b_tuple b_len;have h_is_place:=ziu (P:=P) (w:=w) (base:=base) L_is_place    h_is_tuple h_is_whole;have h_places_around:=zd4 (P:=P) (w:=w) (base:=base) L_places_around;have h_sides_of:=ziq (P:=P) (w:=w) (base:=base) L_sides_of  b_len;have h_kinds_by_place:=zdJ (P:=P) (w:=w) (base:=base) L_kinds_by_place;have h_names_facing:=zex (P:=P) (w:=w) (base:=base) L_names_facing  b_enumerate  h_places_around h_sides_of;have h_strength_together:=zcQ (P:=P) (w:=w) (base:=base) L_strength_together  b_zip b_sum;have h_growings_at:=zfp (P:=P) (w:=w) (base:=base) L_growings_at  b_any b_enumerate  h_strength_together;have h_Grow_look_at:=zey (P:=P) (w:=w) (base:=base) hc L_Grow_look_at n_ready n_kinds n_bed n_strengths   h_is_place h_names_facing h_growings_at;have h_Grow___init__:=zd6 (P:=P) (w:=w) (base:=base) hc L_Grow___init__ n_bed n_strengths n_kinds n_laid n_ready b_dict b_range  h_kinds_by_place h_Grow_look_at;have h_Grow_look_around:=zc6 (P:=P) (w:=w) (base:=base) hc L_Grow_look_around    h_Grow_look_at h_places_around;have h_Grow_lay:=ziw (P:=P) (w:=w) (base:=base) hc L_Grow_lay n_laid n_kinds   h_Grow_look_around;have h_Grow_on:=zjD (P:=P) (w:=w) (base:=base) hc L_Grow_on n_ready b_min  h_Grow_lay;have h_Grow_standing:=zd5 (P:=P) (w:=w) (base:=base) hc L_Grow_standing n_bed n_laid b_list b_sorted b_tuple;have h_Grow_row:=ziv (P:=P) (w:=w) (base:=base) hc L_Grow_row n_laid b_tuple;have h_first_end:=zg4 (P:=P) (w:=w) (base:=base) hc L_first_end    h_Grow___init__ h_Grow_on h_Grow_standing h_Grow_row;have h_q_law_begin:=zfo (P:=P) (w:=w) (base:=base) L_q_law_begin  b_len b_int;have h_q_law_draw:=zf7 (P:=P) (w:=w) (base:=base) L_q_law_draw;have h_q_law_names:=zfk (P:=P) (w:=w) (base:=base) L_q_law_names  b_range b_sorted  h_q_law_draw;have h_q_law_kind:=zf6 (P:=P) (w:=w) (base:=base) L_q_law_kind  b_range b_len  h_q_law_draw;have h_q_law_house:=zfm (P:=P) (w:=w) (base:=base) L_q_law_house  b_tuple b_range b_len  h_q_law_draw h_q_law_names h_q_law_kind;have h_q_law_standing:=zdI (P:=P) (w:=w) (base:=base) L_q_law_standing  b_range b_len b_sorted b_tuple  h_q_law_draw;have h_q_law_bed:=zg3 (P:=P) (w:=w) (base:=base) L_q_law_bed    h_q_law_house h_q_law_draw h_q_law_standing;have h_q_law_lying:=zfl (P:=P) (w:=w) (base:=base) L_q_law_lying  b_dict;have h_q_law_standing_of:=zcR (P:=P) (w:=w) (base:=base) L_q_law_standing_of  b_sorted b_tuple;have h_q_law_step:=zf5 (P:=P) (w:=w) (base:=base) L_q_law_step;have h_q_law_sides:=zfj (P:=P) (w:=w) (base:=base) L_q_law_sides  b_range  h_q_law_step;have h_q_law_by:=zir (P:=P) (w:=w) (base:=base) L_q_law_by  b_dict b_sum  h_q_law_sides;have h_q_law_empty:=zfn (P:=P) (w:=w) (base:=base) L_q_law_empty  b_range  h_q_law_step;have h_q_law_may:=zg1 (P:=P) (w:=w) (base:=base) L_q_law_may  b_len b_range  h_q_law_empty h_q_law_by;have h_q_law_end:=zg2 (P:=P) (w:=w) (base:=base) L_q_law_end  b_range b_tuple  h_q_law_lying h_q_law_may h_q_law_standing_of;exact zsS hc F b_len b_min b_range b_repr h_q_law_begin h_q_law_bed h_q_law_end h_first_end
def all_mk{l:D6}{w:World}{K:Ab}{h:Heap}{mg:Str->Option Value}{fa:Addr}(X:K.In h)(G:h.Ns mainGlobals mg)(hfa:mg "law"=some (.ref fa)){f0 f1 f2 f3 f4 f5 f6 f7 f8 f9 f10 f11 f12 f13 f14 f15 f16 f17 f18 f19 f20 f21 f22 f23 f24 f25 f26 f27 f28 f29 f30 f31 f32 f33:Addr}{C:Addr}(aC:ClIn K "Grow" C)
   (a0:FdIn K "_wall" (top 0) f0)
   (a1:FdIn K "is_whole" (top 2) f1)
   (a2:FdIn K "is_tuple" (top 3) f2)
   (a3:FdIn K "is_place" (top 4) f3)
   (a4:FdIn K "places_around" (top 6) f4)
   (a5:FdIn K "sides_of" (top 7) f5)
   (a6:FdIn K "kinds_by_place" (top 8) f6)
   (a7:FdIn K "names_facing" (top 9) f7)
   (a8:FdIn K "strength_together" (top 10) f8)
   (a9:FdIn K "growings_at" (top 11) f9)
   (a10:MdIn K C "look_at" "Grow.look_at" (inClass (top 13) 1) f10)
   (a11:MdIn K C "__init__" "Grow.__init__" (inClass (top 13) 0) f11)
   (a12:MdIn K C "look_around" "Grow.look_around" (inClass (top 13) 2) f12)
   (a13:MdIn K C "lay" "Grow.lay" (inClass (top 13) 3) f13)
   (a14:MdIn K C "on" "Grow.on" (inClass (top 13) 5) f14)
   (a15:MdIn K C "standing" "Grow.standing" (inClass (top 13) 7) f15)
   (a16:MdIn K C "row" "Grow.row" (inClass (top 13) 8) f16)
   (a17:FdIn K "first_end" (top 15) f17)
   (a18:FdIn K "_law_begin" (top 17) f18)
   (a19:FdIn K "_law_draw" (top 18) f19)
   (a20:FdIn K "_law_names" (top 19) f20)
   (a21:FdIn K "_law_kind" (top 20) f21)
   (a22:FdIn K "_law_house" (top 21) f22)
   (a23:FdIn K "_law_standing" (top 22) f23)
   (a24:FdIn K "_law_bed" (top 23) f24)
   (a25:FdIn K "_law_lying" (top 24) f25)
   (a26:FdIn K "_law_standing_of" (top 25) f26)
   (a27:FdIn K "_law_step" (top 26) f27)
   (a28:FdIn K "_law_sides" (top 27) f28)
   (a29:FdIn K "_law_by" (top 28) f29)
   (a30:FdIn K "_law_empty" (top 29) f30)
   (a31:FdIn K "_law_may" (top 30) f31)
   (a32:FdIn K "_law_end" (top 31) f32)
   (a33:FdIn K "law" (top 32) f33)
   (n_bed:AU K (.ref C) "bed"=some none)
   (n_strengths:AU K (.ref C) "strengths"=some none)
   (n_kinds:AU K (.ref C) "kinds"=some none)
   (n_laid:AU K (.ref C) "laid"=some none)
   (n_ready:AU K (.ref C) "ready"=some none)
   (z0:AR K mainGlobals "isinstance"=some none)
   (z1:AR K mainGlobals "int"=some none)
   (z2:AR K mainGlobals "bool"=some none)
   (z3:AR K mainGlobals "tuple"=some none)
   (z4:AR K mainGlobals "len"=some none)
   (z5:AR K mainGlobals "enumerate"=some none)
   (z6:AR K mainGlobals "zip"=some none)
   (z7:AR K mainGlobals "sum"=some none)
   (z8:AR K mainGlobals "any"=some none)
   (z9:AR K mainGlobals "dict"=some none)
   (z10:AR K mainGlobals "range"=some none)
   (z11:AR K mainGlobals "min"=some none)
   (z12:AR K mainGlobals "list"=some none)
   (z13:AR K mainGlobals "sorted"=some none)
   (z14:AR K mainGlobals "repr"=some none) :
   ∃ fd:FuncData,(∀ (s:Shared) (v:Value),BindsTo s fd ⟨[v],[]⟩ [("_law_script",v)])/\∀ base:Heap,K.In base->base.Ns mainGlobals mg->FnOk l.prog w K mg base CX0 8 fa fd ["_law_script"] (spM K 1 (zoz C)):=by
 obtain⟨⟨oc,od,kV,dc,pm,an,cd,ct,sl,l,c⟩,n,k⟩:=a33;have e:=hfa.symm.trans (EL X G n);cases e;exact⟨_,fun s v=>.of_eq rfl,fun base _ _=>zs8 (AJ X G z0) (AJ X G z1) (AJ X G z2) (AJ X G z3) (AJ X G z4) (AJ X G z5) (AJ X G z6) (AJ X G z7) (AJ X G z8) (AJ X G z9) (AJ X G z10) (AJ X G z11) (AJ X G z12) (AJ X G z13) (AJ X G z14) aC.cl n_bed n_strengths n_kinds n_laid n_ready
   (zaW (ps:=["k"]) a0 X G fun _ _ _ _ _ _=>len1 fun _=>rfl)
   (zaW (ps:=["thing","least","most"]) a1 X G fun _ _ _ _ _ _=>len3 fun _ _ _=>rfl)
   (zaW (ps:=["thing","size"]) a2 X G fun _ _ _ _ _ _=>len2 fun _ _=>rfl)
   (zaW (ps:=["bed","thing"]) a3 X G fun _ _ _ _ _ _=>len2 fun _ _=>rfl)
   (zaW (ps:=["place"]) a4 X G fun _ _ _ _ _ _=>len1 fun _=>rfl)
   (zaW (ps:=["bed","kind"]) a5 X G fun _ _ _ _ _ _=>len2 fun _ _=>rfl)
   (zaW (ps:=["standing"]) a6 X G fun _ _ _ _ _ _=>len1 fun _=>rfl)
   (zaW (ps:=["bed","standing_kinds","place"]) a7 X G fun _ _ _ _ _ _=>len3 fun _ _ _=>rfl)
   (zaW (ps:=["strengths","sides","names"]) a8 X G fun _ _ _ _ _ _=>len3 fun _ _ _=>rfl)
   (zaW (ps:=["bed","strengths","names","place"]) a9 X G fun _ _ _ _ _ _=>len4 fun _ _ _ _=>rfl)
   (zdp (ps:=["self","place"]) a10 fun _ _ _ _ _ _=>len2 fun _ _=>rfl)
   (zn0 (ps:=["self","bed"]) X G aC a11 fun _ _ _ _ _ _=>len2 fun _ _=>rfl)
   (zdp (ps:=["self","place"]) a12 fun _ _ _ _ _ _=>len2 fun _ _=>rfl)
   (zdp (ps:=["self","tile"]) a13 fun _ _ _ _ _ _=>len2 fun _ _=>rfl)
   (zdp (ps:=["self"]) a14 fun _ _ _ _ _ _=>len1 fun _=>rfl)
   (zdp (ps:=["self"]) a15 fun _ _ _ _ _ _=>len1 fun _=>rfl)
   (zdp (ps:=["self"]) a16 fun _ _ _ _ _ _=>len1 fun _=>rfl)
   (zaW (ps:=["bed"]) a17 X G fun _ _ _ _ _ _=>len1 fun _=>rfl)
   (zaW (ps:=["_law_script","_law_k"]) a18 X G fun _ _ _ _ _ _=>len2 fun _ _=>rfl)
   (zaW (ps:=["_law_pot","_law_many"]) a19 X G fun _ _ _ _ _ _=>len2 fun _ _=>rfl)
   (zaW (ps:=["_law_pot","_law_many"]) a20 X G fun _ _ _ _ _ _=>len2 fun _ _=>rfl)
   (zaW (ps:=["_law_pot","_law_names_here"]) a21 X G fun _ _ _ _ _ _=>len2 fun _ _=>rfl)
   (zaW (ps:=["_law_pot"]) a22 X G fun _ _ _ _ _ _=>len1 fun _=>rfl)
   (zaW (ps:=["_law_pot","_law_house_here","_law_floor","_law_most"]) a23 X G fun _ _ _ _ _ _=>len4 fun _ _ _ _=>rfl)
   (zaW (ps:=["_law_pot"]) a24 X G fun _ _ _ _ _ _=>len1 fun _=>rfl)
   (zaW (ps:=["_law_standing_here"]) a25 X G fun _ _ _ _ _ _=>len1 fun _=>rfl)
   (zaW (ps:=["_law_there"]) a26 X G fun _ _ _ _ _ _=>len1 fun _=>rfl)
   (zaW (ps:=["_law_place","_law_side"]) a27 X G fun _ _ _ _ _ _=>len2 fun _ _=>rfl)
   (zaW (ps:=["_law_bed_here","_law_there","_law_place","_law_kind_here"]) a28 X G fun _ _ _ _ _ _=>len4 fun _ _ _ _=>rfl)
   (zaW (ps:=["_law_bed_here","_law_there","_law_place","_law_kind_here"]) a29 X G fun _ _ _ _ _ _=>len4 fun _ _ _ _=>rfl)
   (zaW (ps:=["_law_bed_here","_law_there"]) a30 X G fun _ _ _ _ _ _=>len2 fun _ _=>rfl)
   (zaW (ps:=["_law_bed_here","_law_there"]) a31 X G fun _ _ _ _ _ _=>len2 fun _ _=>rfl)
   (zaW (ps:=["_law_bed_here"]) a32 X G fun _ _ _ _ _ _=>len1 fun _=>rfl)
   (zhf (st:=top 32) l c k)⟩
end L2.MP.stickytiles_k15_least_growings
namespace L2.MP.stickytiles_k15_least_growings
open PySem L2.MP L2.MP.Hd
open L2.MP.Hn (zaF)
def zjE{x y:Int}{d:Nat}{kvs:List (List Key×D)}{st:Sto}(h:st[d]?=some (.dt kvs)):zez (.tup [.int x,.int y]) (.ref d) st=some (.bl (!(valD kvs [.inl x,.inl y]).isSome),st):=by
 have e0:toP 50 st (.ref d)=none:=by rw[toP];simp[zbA,h]
 have e1:inD true (.tup [.int x,.int y]) (.ref d) st=none:=by
   unfold inD;rw[e0]
   cases toP 50 st (.tup [.int x,.int y]) <;> rfl
 unfold zez orG znG orG;rw[e1,zio];simp[dinD,look,h,keysOf,keyOf,zf1]
def tD(t:Tl):D:=tupD (rowT t)
def sth(stk:List (Str×Int))(ks:List (List Str))(P:List Tl)(x y:Int)(k:Nat):Int:=((togs (sds ks (k:Int)) (names4 ks P x y)).map fun p=>sv stk p.1).sum
def gK(e:Int)(stk:List (Str×Int))(ks:List (List Str))(P:List Tl)(x y:Int)(n:Nat):List Tl:=((AA n).filter fun k=>decide (e<=sth stk ks P x y k)).map fun (k:Nat)=>(x,y,(k:Int))
def zhR(e:Int)(stk:List (Str×Int))(ks:List (List Str))(P:List Tl)(x y:Int)(n:Nat):gK e stk ks P x y (n+1)=if e<=sth stk ks P x y n then gK e stk ks P x y n++[(x,y,(n:Int))] else gK e stk ks P x y n:=by
 unfold gK;rw[Cg,Dz,AZ]
 by_cases h:e<=sth stk ks P x y n
 . rw[if_pos h];simp[h]
 . rw[if_neg h];simp[h]
def zn8(e:Int)(stk:List (Str×Int))(ks:List (List Str))(P:List Tl)(x y:Int)(n:Nat):(gK e stk ks P x y n).length<=n:=by
 unfold gK;rw[Ag];exact Az (A8 _ _) (by simp)
structure Ctx(bed:D)(e:Int)(stk:List (Str×Int))(ks:List (List Str))(w h:Int):Prop where
 at_:∃ hs:D,(∀ s:Sto,ixA bed (.int 0) s=some (hs,s))/\(∀ s:Sto,ixA hs (.int 0) s=some (.int e,s))/\(∀ s:Sto,ixA hs (.int 1) s=some (.tup (stk.map zbL),s))/\∀ s:Sto,ixA hs (.int 2) s=some (.tup (ks.map zbU),s)
 fl:∀ s:Sto,ixA bed (.int 1) s=some (.tup [.int w,.int h],s)
 hs:HsOk e stk ks
 fo:FlOk w h
def Ctx.bed{bed:D}{e w h:Int}{stk:List (Str×Int)}{ks:List (List Str)}(c:Ctx bed e stk ks w h):BedAt bed stk ks:=let ⟨hs,i0,_,i1,i2⟩:=c.at_;⟨hs,i0,i1,i2⟩
def Ctx.ks{bed:D}{e w h:Int}{stk:List (Str×Int)}{ks:List (List Str)}(c:Ctx bed e stk ks w h):KsOk (stk.map (·.1)) ks:=⟨by have:=c.hs.hi;omega,c.hs.kd⟩
def Ctx.stk{bed:D}{e w h:Int}{stk:List (Str×Int)}{ks:List (List Str)}(c:Ctx bed e stk ks w h):∀ p∈stk,1<=p.2/\p.2<=4:=fun p hp=>(c.hs.nm p hp).2
def noth{S:List Str}:togs S [("":Str),("":Str),("":Str),("":Str)]=[]:=by
 unfold togs;rw[C0];intro p hp;obtain⟨a,b⟩:=p;have hb:b="":=by
   have:=(CF hp).2;simpa using this
 subst hb
 cases h:a=="" with
 | true=>simp[bne,h]
 | false=>simp[h]
def zqo{e:Int}{stk:List (Str×Int)}{ks:List (List Str)}{P:List Tl}{x y:Int}(he:1<=e)(h:names4 ks P x y=[("":Str),("":Str),("":Str),("":Str)])(n:Nat):gK e stk ks P x y n=[]:=by
 unfold gK;have:(AA n).filter (fun k=>decide (e<=sth stk ks P x y k))=[]:=by
   rw[C0];intro k _;unfold sth;rw[h,noth];simp;omega
 rw[this];rfl
end L2.MP.stickytiles_k15_least_growings
namespace L2.MP.stickytiles_k15_least_growings
open PySem L2.MP L2.MP.Hd
def nb(x y:Int):Nat->Int×Int
 | 0=>(x,y+1)
 | 1=>(x+1,y)
 | 2=>(x,y - 1)
 | _=>(x - 1,y)
def pres(P:List Tl)(x y:Int)(j:Nat):Bool:=(fnd P (nb x y j).1 (nb x y j).2).isSome
def okE(P:List Tl)(x y:Int):Bool:=!(fnd P x y).isSome&&!((AA 4).filter (pres P x y)).isEmpty
def zpV{ks:List (List Str)}{P:List Tl}{x y:Int}(h:(AA 4).filter (pres P x y)=[]):names4 ks P x y=[("":Str),("":Str),("":Str),("":Str)]:=by
 rw[C0] at h;have n0:fnd P x (y+1)=none:=by simpa[pres,nb] using h 0 (by decide)
 have n1:fnd P (x+1) y=none:=by simpa[pres,nb] using h 1 (by decide)
 have n2:fnd P x (y - 1)=none:=by simpa[pres,nb] using h 2 (by decide)
 have n3:fnd P (x - 1) y=none:=by simpa[pres,nb] using h 3 (by decide)
 unfold names4 nmF;simp only[n0,n1,n2,n3]
section
variable (P:List Tl)
def eC(x:Int)(m:Nat):List (Int×Int):=((AA m).filter fun (j:Nat)=>okE P x (j:Int)).map fun (j:Nat)=>(x,(j:Int))
def eF(h:Int)(n:Nat):List (Int×Int):=((AA n).map fun (i:Nat)=>eC P (i:Int) h.toNat).flatten
def zqy(x:Int)(m:Nat):eC P x (m+1)=if okE P x (m:Int)=true then eC P x m++[(x,(m:Int))] else eC P x m:=by
 unfold eC;rw[Cg,Dz,AZ]
 by_cases h:okE P x (m:Int)=true
 . rw[if_pos h];simp[h]
 . rw[if_neg h];simp[h]
def zkk(h:Int)(n:Nat):eF P h (n+1)=eF P h n++eC P (n:Int) h.toNat:=by
 unfold eF;rw[Cg,AZ,Dq];simp
def zqz(x:Int)(m:Nat):(eC P x m).length<=m:=by
 unfold eC;rw[Ag];exact Az (A8 _ _) (by simp)
def zoh(h:Int):∀ n:Nat,(eF P h n).length<=n*h.toNat
 | 0=>by simp[eF]
 | n+1=>by
   have h1:=zoh h n;have h2:=zqz P (n:Int) h.toNat;rw[zkk,AH,Em];omega
end
def mays(e:Int)(stk:List (Str×Int))(ks:List (List Str))(P:List Tl)(ps:List (Int×Int)):List Tl:=(ps.map fun p=>gK e stk ks P p.1 p.2 ks.length).flatten
def znN(e:Int)(stk:List (Str×Int))(ks:List (List Str))(P:List Tl)(a b:List (Int×Int)):mays e stk ks P (a++b)=mays e stk ks P a++mays e stk ks P b:=by
 unfold mays;rw[AZ,Dq]
def ne_nil{l m:Nat}{js:List Nat}{st:Sto}(hl:st[l]?=some (.lst (js.map fun (i:Nat)=>D.int (i:Int))))(hm:st[m]?=some (.lst [])):neD (.ref l) (.ref m) st=some (.bl !js.isEmpty,st):=by
 have e:(js.map fun (i:Nat)=>D.int (i:Int))=(js.map fun (i:Nat)=>(i:Int)).map D.int:=by rw[A7];rfl
 rw[e] at hl;unfold neD;rw[zdQ (n:=98) hl,zdQ (n:=98) (as:=[]) hm]
 cases js <;> rfl
def zpX{x y J a b:Int}{d:Nat}{q:Bool}{s s1:Sto}(e1:zaM [.tup [.int x,.int y],.int J] s=some (.tup [.int a,.int b],s1))(e2:inA (.tup [.int a,.int b]) (.ref d) s1=some (.bl q,s1)):zaO [some (.int J),some (.int x),some (.int y),some (.ref d)] s=some (q,s1):=by
 unfold zaO;simp[e1,e2]
def zpY{P:List Tl}{x y:Int}{d:Nat}{st:Sto}(hd:st[d]?=some (.dt (P.map kvOf))):∃ st',mCI ⟨run 0 4,[]⟩ (gNm 0) zaO zbp (run 0 4) [none,some (.int x),some (.int y),some (.ref d)] st=some (((AA 4).filter (pres P x y)).map fun (i:Nat)=>D.int (i:Int),st')/\Gr st st':=by
 have key:=zoq (W:=⟨run 0 4,[]⟩) (g:=gNm 0) (c:=zaO) (m:=zbp) (ds:=run 0 4) (acc:=[]) (st:=st) (ρ:=[none,some (.int x),some (.int y),some (.ref d)])
   (Inv:=fun k a ρ s=>Y3 ((∃ u,ρ=[u,some (.int x),some (.int y),some (.ref d)])) (a=fl (pres P x y) k) (Gr st s))
   ⟨⟨_,rfl⟩,rfl,Gr.refl _⟩ (fun _ _ _ _ _ _=>rfl) (fun k dd a ρ s hdd hI=>by
     obtain⟨⟨u,rfl⟩,rfl,hg⟩:=hI;obtain⟨hk,rfl⟩:=zdZ hdd;have hp:[D.tup [.int x,.int (y+1)],.tup [.int (x+1),.int y],.tup [.int x,.int (y - 1)],.tup [.int (x - 1),.int y]][((k:Nat):Int).toNat]?=some (.tup [.int (nb x y k).1,.int (nb x y k).2]):=by
       rw[Br]
       match k,hk with
       | 0,_=>rfl
       | 1,_=>rfl
       | 2,_=>rfl
       | 3,_=>rfl
     obtain⟨s1,e1,g1⟩:=zmb (s:=s) (J:=(k:Int)) (by omega) hp;have hg1:=hg.trans g1;have ein:=zto (x:=(nb x y k).1) (y:=(nb x y k).2) ((hg1.old _ (getElem?_lt hd)).trans hd);rw[zeE,B3] at ein;have rd:=zpX e1 ein
     cases hq:(fnd P (nb x y k).1 (nb x y k).2).isSome with
     | true =>
       rw[hq] at rd;refine⟨[some (.int (k:Int)),some (.int x),some (.int y),some (.ref d)],s,true,s1,rfl,rd,.inl ⟨rfl,.int (k:Int),s1,rfl,⟨_,rfl⟩,?_,hg1⟩⟩;rw[zeP,if_pos (show pres P x y k=true from hq)]
     | false =>
       rw[hq] at rd;refine⟨[some (.int (k:Int)),some (.int x),some (.int y),some (.ref d)],s,false,s1,rfl,rd,.inr ⟨rfl,⟨_,rfl⟩,?_,hg1⟩⟩;rw[zeP,if_neg (show ¬ pres P x y k=true by unfold pres;rw[hq];decide)])
 obtain⟨xs,ρ',s',ec,_,hx,hg⟩:=key;rw[CI] at hx;subst hx;exact⟨s',ec,hg⟩
def zqD{bed:D}{d l lb:Nat}{x y:Int}{q1 q2:Bool}{a5:Option D}{L:List D}{s s1 s2:Sto}(ec:zde (mR1 (mCon (.int 4))) 1 [3,4,1] (gNm 0) (zaO) (zbp) [some bed,some (.ref d),some (.ref l),some (.int x),some (.int y),a5] s=some (.ref lb,s1))(e1:zez (.tup [.int x,.int y]) (.ref d) s1=some (.bl q1,s1))(hs2:s1++[.lst []]=s2)(e2:neD (.ref lb) (.ref s1.length) s2=some (.bl q2,s2))(hl:s2[l]?=some (.lst L))(ea:zbQ (.ref l) [.tup [.int x,.int y]] s2=some (.non,s2.set l (.lst (L++[.tup [.int x,.int y]])))) :
   zbk [some bed,some (.ref d),some (.ref l),some (.int x),some (.int y),a5] s=some (.nx [some bed,some (.ref d),some (.ref l),some (.int x),some (.int y),some (.ref lb)],if q1=true then (if q2=true then s2.set l (.lst (L++[.tup [.int x,.int y]])) else s2) else s1):=by
 unfold zbk;refine zan (ρ1:=[some bed,some (.ref d),some (.ref l),some (.int x),some (.int y),some (.ref lb)]) (s1:=s1) (by rw[zgv,ec];rfl) ?_
 cases q1 with
 | false=>simp[e1]
 | true =>
   cases q2 with
   | false=>simp[e1,hs2,e2]
   | true=>simp[e1,hs2,e2,zbA,hl,ea]
def zqE{bed:D}{P:List Tl}{x y:Int}{d l:Nat}{a5:Option D}{st0 s:Sto}{L:List (Int×Int)}(hd:s[d]?=some (.dt (P.map kvOf)))(hl:s[l]?=some (.lst (L.map plD)))(hL:L.length<=9000)(h0:st0.length<=l)(hdl:d≠l)(g0:Gr st0 s) :
   ∃ (b5:Option D) (s':Sto),Y4 (zbk [some bed,some (.ref d),some (.ref l),some (.int x),some (.int y),a5] s=some (.nx [some bed,some (.ref d),some (.ref l),some (.int x),some (.int y),b5],s')) (s'[l]?=some (.lst ((if okE P x y=true then L++[(x,y)] else L).map plD))) (s'[d]?=s[d]?) (Gr st0 s'):=by
 obtain⟨s1,e1,g1⟩:=zpY (x:=x) (y:=y) hd;have hle:((AA 4).filter (pres P x y)).length<=4:=by
   have:=A8 (pres P x y) (AA 4);rw[Cq] at this;exact this
 have fl':fits (((AA 4).filter (pres P x y)).map fun (i:Nat)=>D.int (i:Int)).length=true:=zaw (by rw[Ag];omega);have a2:=zaQ s1 (.lst (((AA 4).filter (pres P x y)).map fun (i:Nat)=>D.int (i:Int)));have g2:=g1.trans (Gr.app s1 [.lst (((AA 4).filter (pres P x y)).map fun (i:Nat)=>D.int (i:Int))]);have ec:zde (mR1 (mCon (.int 4))) 1 [3,4,1] (gNm 0) (zaO) (zbp) [some bed,some (.ref d),some (.ref l),some (.int x),some (.int y),a5] s=some (.ref s1.length,s1++[.lst (((AA 4).filter (pres P x y)).map fun (i:Nat)=>D.int (i:Int))]):=by
   rw[zaX,zle (k:=4) rfl (by decide)];simp only[Ae];rw[show rho0 [some bed,some (.ref d),some (.ref l),some (.int x),some (.int y),a5] 1 [3,4,1]=[none,some (.int x),some (.int y),some (.ref d)] from rfl,e1];simp only[Ae,fl',if_true]
 generalize s1++[O.lst (((AA 4).filter (pres P x y)).map fun (i:Nat)=>D.int (i:Int))]=s2 at *;have hin:=zjE (x:=x) (y:=y) ((g2.old _ (getElem?_lt hd)).trans hd);rw[zeE,B3] at hin;have a3:(s2++[O.lst []])[s1.length]?=some (.lst (((AA 4).filter (pres P x y)).map fun (i:Nat)=>D.int (i:Int))):=by rw[Al (getElem?_lt a2)];exact a2
 have en:=ne_nil a3 (zaQ s2 (.lst []));have g3:=g2.trans (Gr.app s2 [.lst []]);have hl2:=(g2.old _ (getElem?_lt hl)).trans hl;have hl3:=(g3.old _ (getElem?_lt hl)).trans hl;have hd2:=g2.old _ (getElem?_lt hd);have hd3:=g3.old _ (getElem?_lt hd);have ea:=append_at (x:=.tup [.int x,.int y]) hl3 (by rw[Ag];omega);have rd:=zqD ec hin rfl en hl3 ea;generalize s2++[O.lst []]=s3 at *;refine⟨_,_,rd,?_,?_,?_⟩
 . unfold okE
   cases (fnd P x y).isSome with
   | true=>simpa using hl2
   | false =>
     cases ((AA 4).filter (pres P x y)).isEmpty with
     | true=>simpa using hl3
     | false =>
       simp only[Ez,if_true,Gp];rw[AE (getElem?_lt hl3),AZ];rfl
 . cases (fnd P x y).isSome with
   | true=>simpa using hd2
   | false =>
     cases ((AA 4).filter (pres P x y)).isEmpty with
     | true=>simpa using hd3
     | false =>
       simp only[Ez,if_true];rw[Ai (BB hdl)];exact hd3
 . cases (fnd P x y).isSome with
   | true=>simpa using g0.trans g2
   | false =>
     cases ((AA 4).filter (pres P x y)).isEmpty with
     | true=>simpa using g0.trans g3
     | false =>
       simp only[Ez,if_true];have g:=g0.trans g3;exact⟨by rw[Bj];exact g.len,fun j hj=>by rw[Ai (by omega)];exact g.old j hj⟩
def zfD{bed:D}{e w h:Int}{stk:List (Str×Int)}{ks:List (List Str)}{P:List Tl}{d:Nat}{st:Sto}(c:Ctx bed e stk ks w h)(hd:st[d]?=some (.dt (P.map kvOf))) :
   ∃ st',Y3 (zbD [bed,.ref d] st=some (.ref st.length,st')) (st'[st.length]?=some (.lst ((eF P h w.toNat).map plD))) (Gr st st'):=by
 have f1:=c.fo.w0;have f2:=c.fo.w1;have f3:=c.fo.h0;have f4:=c.fo.h1;have hdl:=getElem?_lt hd;have h12:h.toNat<=12:=by omega
 have bound:∀ n m:Nat,n<=12->m<=h.toNat->(eF P h n++eC P (n:Int) m).length<=9000:=fun n m hn hm=>by
   have b1:=zoh P h n;have b2:=zqz P (n:Int) m;have b3:n*h.toNat<=12*12:=Cy hn h12;rw[AH];omega
 have hd1:(st++[O.lst []])[d]?=some (.dt (P.map kvOf)):=by rw[Al hdl];exact hd
 have key:=zbX (W:=⟨run 0 w.toNat,[]⟩) (g:=gNm 3) (m:=zca) (ds:=run 0 w.toNat) (ρ:=[some bed,some (.ref d),some (.ref st.length),none,none,none]) (st:=st++[.lst []])
   (Inv:=fun k ρ s=>Y4 ((∃ a b cc,ρ=[some bed,some (.ref d),some (.ref st.length),a,b,cc])) (s[st.length]?=some (.lst ((eF P h k).map plD))) (s[d]?=some (.dt (P.map kvOf))) (Gr st s))
   ⟨⟨_,_,_,rfl⟩,zaQ _ _,hd1,Gr.app _ _⟩ (fun _ _ _ _ _=>rfl) (fun k dd ρ s hdd hI=>by
     obtain⟨⟨u,v,q,rfl⟩,hat,hdt,hg⟩:=hI;obtain⟨hk,rfl⟩:=zdZ hdd;have key2:=zbX (W:=⟨run 0 h.toNat,[]⟩) (g:=gNm 4) (m:=zbk) (ds:=run 0 h.toNat) (ρ:=[some bed,some (.ref d),some (.ref st.length),some (.int (k:Int)),v,q]) (st:=s)
       (Inv:=fun j ρ s=>Y4 ((∃ b cc,ρ=[some bed,some (.ref d),some (.ref st.length),some (.int (k:Int)),b,cc])) (s[st.length]?=some (.lst ((eF P h k++eC P (k:Int) j).map plD))) (s[d]?=some (.dt (P.map kvOf))) (Gr st s))
       ⟨⟨_,_,rfl⟩,by simpa[eC] using hat,hdt,hg⟩ (fun _ _ _ _ _=>rfl) (fun j dd ρ s hdd hI=>by
         obtain⟨⟨v,q,rfl⟩,hat,hdt,hg⟩:=hI;obtain⟨hj,rfl⟩:=zdZ hdd;obtain⟨b5,s',e',hat',hdt',hg'⟩:=zqE (bed:=bed) (x:=(k:Int)) (y:=(j:Int)) (a5:=q) hdt hat (bound k j (by omega) (by omega)) (Af _) (by omega) hg;refine⟨[some bed,some (.ref d),some (.ref st.length),some (.int (k:Int)),some (.int (j:Int)),q],s,_,s',rfl,e',⟨_,_,rfl⟩,?_,hdt'.trans hdt,hg'⟩;rw[hat',zqy]
         by_cases ho:okE P (k:Int) (j:Int)=true
         . rw[if_pos ho,if_pos ho,Aq]
         . rw[if_neg ho,if_neg ho])
     obtain⟨ρ',s',el,⟨v',q',rfl⟩,hat',hdt',hg'⟩:=key2;rw[zbW] at hat';refine⟨[some bed,some (.ref d),some (.ref st.length),some (.int (k:Int)),v,q],s,[some bed,some (.ref d),some (.ref st.length),some (.int (k:Int)),v',q'],s',rfl,?_,⟨_,_,_,rfl⟩,by rw[zkk];exact hat',hdt',hg'⟩;have sm:small h=true:=zbV (by omega) (by omega);have hfl:=c.fl s;have i1':ixA (.tup [.int w,.int h]) (.int 1) s=some (.int h,s):=zaS (by decide) rfl;unfold zca;have:mR1 (mBin ixA (mBin ixA (mVar 0) (mCon (.int 1))) (mCon (.int 1))) [some bed,some (.ref d),some (.ref st.length),some (.int (k:Int)),v,q] s=some (⟨run 0 h.toNat,[]⟩,s):=by
       generalize (k:Int)=kk;simp[hfl,i1',sm]
     rw[zcV,this];exact el)
 obtain⟨ρ',s',el,⟨u,v,q,rfl⟩,hat,hdt,hg⟩:=key;rw[zbW] at hat;refine⟨s',zcn ?_,hat,hg⟩;have sm:small w=true:=zbV (by omega) (by omega);have hfl:=c.fl (st++[.lst []]);have j0:ixA (.tup [.int w,.int h]) (.int 0) (st++[.lst []])=some (.int w,st++[.lst []]):=zaS (by decide) rfl;unfold zdF;refine zan (ρ1:=[some bed,some (.ref d),some (.ref st.length),none,none,none]) (s1:=st++[.lst []]) (by simp) ?_;refine zan (ρ1:=[some bed,some (.ref d),some (.ref st.length),u,v,q]) (s1:=s') (by
   have:mR1 (mBin ixA (mBin ixA (mVar 0) (mCon (.int 1))) (mCon (.int 0))) [some bed,some (.ref d),some (.ref st.length),none,none,none] (st++[.lst []])=some (⟨run 0 w.toNat,[]⟩,st++[.lst []]):=by simp[hfl,j0,sm]
   rw[zcV,this];exact el) ?_
 simp
end L2.MP.stickytiles_k15_least_growings
namespace L2.MP.stickytiles_k15_least_growings
open PySem L2.MP L2.MP.Hd
open L2.MP.Hn (zaF zar srtT zaA)
def zrs{stk:List (Str×Int)}{ks:List (List Str)}{P:List Tl}{x y:Int}{k:Nat}(h:(sds ks (k:Int)).length=4):((alike (sds ks (k:Int)) (names4 ks P x y)).map fun i=>sv stk ((sds ks (k:Int)).getD i "")).sum=sth stk ks P x y k:=by
 unfold sth;rw[zkY h rfl]
def zp6{bed hs pl:D}{d l:Nat}{K E R:Int}{v:D}{L:List D}{s s1:Sto}(e1:zce [bed,.ref d,pl,.int K] s=some (.int R,s1))(i0:ixA bed (.int 0) s1=some (hs,s1))(ie:ixA hs (.int 0) s1=some (.int E,s1))(hR:E<=R)(hl:s1[l]?=some (.lst L))(ea:addD pl (.tup [.int K]) s1=some (v,s1))(eap:zbQ (.ref l) [v] s1=some (.non,s1.set l (.lst (L++[v])))) :
   zbv [some bed,some (.ref d),some (.ref l),some pl,some (.int K)] s=some (.nx [some bed,some (.ref d),some (.ref l),some pl,some (.int K)],s1.set l (.lst (L++[v]))):=by
 unfold zbv;simp[e1,i0,ie,hR,zbA,hl,ea,eap]
def znJ{bed hs pl:D}{d l:Nat}{K E R:Int}{s s1:Sto}(e1:zce [bed,.ref d,pl,.int K] s=some (.int R,s1))(i0:ixA bed (.int 0) s1=some (hs,s1))(ie:ixA hs (.int 0) s1=some (.int E,s1))(hR:¬ E<=R) :
   zbv [some bed,some (.ref d),some (.ref l),some pl,some (.int K)] s=some (.nx [some bed,some (.ref d),some (.ref l),some pl,some (.int K)],s1):=by
 unfold zbv;simp[e1,i0,ie,hR]
def zd1{bed:D}{e w h:Int}{stk:List (Str×Int)}{ks:List (List Str)}{P:List Tl}{p:Int×Int}{d l:Nat}{a4:Option D}{st0 s:Sto}{L:List Tl}(c:Ctx bed e stk ks w h)(hP:∀ t∈P,0<=t.2.2/\t.2.2 < (ks.length:Int))(hd:s[d]?=some (.dt (P.map kvOf)))(hl:s[l]?=some (.lst (L.map tD)))(hL:L.length<=9000)(h0:st0.length<=l)(hdl:d≠l)(g0:Gr st0 s) :
   ∃ (b4:Option D) (s':Sto),Y3 (zb0 [some bed,some (.ref d),some (.ref l),some (plD p),a4] s=some (.nx [some bed,some (.ref d),some (.ref l),some (plD p),b4],s')) (s'[l]?=some (.lst ((L++gK e stk ks P p.1 p.2 ks.length).map tD))) (Fr l s s'):=by
 obtain⟨hs,i0,ie,i1,i2⟩:=c.at_;have k13:=c.hs.hi;have key:=zbX (W:=⟨run 0 ks.length,[]⟩) (g:=gNm 4) (m:=zbv) (ds:=run 0 ks.length) (ρ:=[some bed,some (.ref d),some (.ref l),some (plD p),a4]) (st:=s)
   (Inv:=fun k ρ s'=>Y3 ((∃ a,ρ=[some bed,some (.ref d),some (.ref l),some (plD p),a])) (s'[l]?=some (.lst ((L++gK e stk ks P p.1 p.2 k).map tD))) (Fr l s s'))
   ⟨⟨_,rfl⟩,by simpa[gK] using hl,Fr.refl _ _⟩ (fun _ _ _ _ _=>rfl) (fun k dd ρ s' hdd hI=>by
     obtain⟨⟨u,rfl⟩,hat,hf⟩:=hI;obtain⟨hk,rfl⟩:=zdZ hdd;have k1:((k:Nat):Int) < (ks.length:Int):=by omega
     obtain⟨f,b0,b1,b2,b3,ek,es,hok⟩:=zdz c.ks (k:=(k:Int)) (by omega) k1;have hd':=(hf.old _ (getElem?_lt hd) hdl).trans hd;obtain⟨s2,e2,g2⟩:=zlE (x:=p.1) (y:=p.2) c.bed c.ks c.stk (by have:=c.hs.sl;omega) hP (by omega) k1 hd';rw[zrs (by rw[es];rfl)] at e2;have hat2:=(g2.old _ (getElem?_lt hat)).trans hat;have hlen:=zn8 e stk ks P p.1 p.2 k
     by_cases hR:e<=sth stk ks P p.1 p.2 k
     . have ea:addD (.tup [.int p.1,.int p.2]) (.tup [.int (k:Int)]) s2=some (tD (p.1,p.2,(k:Int)),s2):=zkI (by simp) (by simp);have eap:=append_at (x:=tD (p.1,p.2,(k:Int))) hat2 (by rw[Ag,AH];omega);refine⟨_,s',_,_,rfl,zp6 e2 (i0 _) (ie _) hR hat2 ea eap,⟨_,rfl⟩,?_,(hf.trans (g2.fr l)).trans (Gb _ _ _)⟩;rw[AE (getElem?_lt hat2),zhR,if_pos hR];simp
     . refine⟨_,s',_,_,rfl,znJ e2 (i0 _) (ie _) hR,⟨_,rfl⟩,?_,hf.trans (g2.fr l)⟩;rw[zhR,if_neg hR];exact hat2)
 obtain⟨ρ',s',el,⟨u,rfl⟩,hat,hf⟩:=key;rw[zbW] at hat;refine⟨u,s',?_,hat,hf⟩;have el':lenD [.tup (ks.map zbU)] s=some (.int (ks.length:Int),s):=by rw[zhM,Ag]
 have hr:mR1 (zav lenD (zae (mBin ixA (mBin ixA (mVar 0) (mCon (.int 0))) (mCon (.int 2))) (mNil))) [some bed,some (.ref d),some (.ref l),some (plD p),a4] s=some (⟨run 0 ks.length,[]⟩,s):=by
   refine zle (k:=ks.length) ?_ (by omega);generalize (ks.length:Int)=K at *;simp[i0,i2,el']
 unfold zb0;rw[zcV,hr];exact el
def zsw{bed:D}{e w h:Int}{stk:List (Str×Int)}{ks:List (List Str)}{P:List Tl}{d:Nat}{st:Sto}(c:Ctx bed e stk ks w h)(hP:∀ t∈P,0<=t.2.2/\t.2.2 < (ks.length:Int))(hd:st[d]?=some (.dt (P.map kvOf))) :
   ∃ st',Y3 (zbK [bed,.ref d] st=some (.ref st.length,st')) (st'[st.length]?=some (.lst ((mays e stk ks P (eF P h w.toNat)).map tD))) (Gr st st'):=by
 have f1:=c.fo.w0;have f2:=c.fo.w1;have f3:=c.fo.h0;have f4:=c.fo.h1;have k13:=c.hs.hi;have hdl:=getElem?_lt hd;have hd1:(st++[O.lst []])[d]?=some (.dt (P.map kvOf)):=by rw[Al hdl];exact hd
 have a1:=zaQ st (.lst []);have g1:=Gr.app st [.lst []];have l1:(st++[O.lst []]).length=st.length+1:=by simp
 generalize hs1:st++[O.lst []]=s1 at *;obtain⟨s2,e2,a2,g2⟩:=zfD c hd1;have a12:=(g2.old _ (getElem?_lt a1)).trans a1;have hd2:=(g2.old _ (getElem?_lt hd1)).trans hd1;have hlen:=zoh P h w.toNat;have h144:(eF P h w.toNat).length<=144:=Az hlen (Cy (show w.toNat<=12 by omega) (show h.toNat<=12 by omega));generalize eF P h w.toNat=ps at *;have bound:∀ i:Nat,(mays e stk ks P (ps.take i)).length<=9000:=fun i=>by
   have:∀ qs:List (Int×Int),(mays e stk ks P qs).length<=qs.length*13:=by
     intro qs
     induction qs with
     | nil=>simp[mays]
     | cons q qs ih =>
       have h1:=zn8 e stk ks P q.1 q.2 ks.length;have h2:(mays e stk ks P (q::qs)).length=(gK e stk ks P q.1 q.2 ks.length).length+(mays e stk ks P qs).length:=by simp[mays]
       rw[h2,Ar,Em];omega
   have h1:=this (ps.take i);have h2:(ps.take i).length<=144:=by rw[Bl];omega
   omega
 have key:=zbX (W:=⟨ps.map plD,[(s1.length,ps.map plD)]⟩) (g:=gNm 3) (m:=zb0) (ds:=ps.map plD) (ρ:=[some bed,some (.ref d),some (.ref st.length),none,none]) (st:=s2)
   (Inv:=fun i ρ s=>Y3 ((∃ a b,ρ=[some bed,some (.ref d),some (.ref st.length),a,b])) (s[st.length]?=some (.lst ((mays e stk ks P (ps.take i)).map tD))) (Fr st.length s2 s))
   ⟨⟨_,_,rfl⟩,a12,Fr.refl _ _⟩ (fun i ρ s _ hI=>zcY ((hI.h3.old _ (getElem?_lt a2) (by omega)).trans a2)) (fun i dd ρ s hdd hI=>by
     obtain⟨⟨u,v,rfl⟩,hat,hf⟩:=hI;rw[AD] at hdd;obtain⟨p,hp,rfl⟩:=zag hdd;obtain⟨b4,s',e',hat',hf'⟩:=zd1 (st0:=[]) (p:=p) (a4:=v) c hP ((hf.old _ (getElem?_lt hd2) (by omega)).trans hd2) hat (bound i) (A0 _) (by omega) ⟨A0 _,fun j hj=>absurd hj (F6 _)⟩;refine⟨_,s,_,s',rfl,e',⟨_,_,rfl⟩,?_,hf.trans hf'⟩;rw[hat',BN,hp,znN];simp[mays])
 obtain⟨ρ',s',el,⟨u,v,rfl⟩,hat,hf⟩:=key;rw[Ag,BD] at hat;refine⟨s',zcn ?_,hat,?_⟩
 . generalize ps.map plD=PS at *;unfold zeV;refine zan (ρ1:=[some bed,some (.ref d),some (.ref st.length),none,none]) (s1:=s1) (by simp[hs1]) ?_;refine zan (ρ1:=[some bed,some (.ref d),some (.ref st.length),u,v]) (s1:=s') (by
     have ew:mWA (zav zbD (zae (mVar 0) (zae (mVar 1) (mNil)))) [some bed,some (.ref d),some (.ref st.length),none,none] s1=some (⟨PS,[(s1.length,PS)]⟩,s2):=by simp[e2,zkT,zbA,a2]
     rw[zcV,ew];exact el) ?_
   simp
 . have g:=g1.trans g2;exact⟨Az g.len hf.len,fun j hj=>(hf.old j (AC hj g.len) (by omega)).trans (g.old j hj)⟩
def zgA{x lo hi:Int}{st:Sto}(h1:lo<=x)(h2:x<=hi):zcf [.int x,.int lo,.int hi] st=some (.bl true,st):=by
 refine zcn ?_;have t1:tyName st (.int x)=some "int":=rfl;have t2:subT "int" "int"=true:=by decide
 have t3:subT "int" "bool"=false:=by decide
 unfold zeq;simp[zeB,t1,t2,t3,h1,h2]
def ziZ{ds:List D}{n:Nat}{N:Int}{st:Sto}(h:ds.length=n)(hN:N=(n:Int)):zdc [.tup ds,.int N] st=some (.bl true,st):=by
 have e:lenD [.tup ds] st=some (.int N,st):=by rw[zhM,h,hN]
 refine zcn ?_;have t1:tyName st (.tup ds)=some "tuple":=rfl;have t2:subT "tuple" "tuple"=true:=by decide
 unfold zgx;simp[t1,t2,e,eq_int]
def znq{bed:D}{e w h x y:Int}{stk:List (Str×Int)}{ks:List (List Str)}{st:Sto}(c:Ctx bed e stk ks w h)(x0:0<=x)(x1:x < w)(y0:0<=y)(y1:y < h):zbE [bed,.tup [.int x,.int y]] st=some (.bl true,st):=by
 have e1:=ziZ (ds:=[.int x,.int y]) (n:=2) (N:=2) (st:=st) rfl rfl;have e2:=zgA (x:=x) (lo:=0) (hi:=w - 1) (st:=st) x0 (by omega);have e3:=zgA (x:=y) (lo:=0) (hi:=h - 1) (st:=st) y0 (by omega);have i0:ixA (.tup [.int x,.int y]) (.int 0) st=some (.int x,st):=zaS (by decide) rfl;have i1:ixA (.tup [.int x,.int y]) (.int 1) st=some (.int y,st):=zaS (by decide) rfl;have j0:ixA (.tup [.int w,.int h]) (.int 0) st=some (.int w,st):=zaS (by decide) rfl;have j1:ixA (.tup [.int w,.int h]) (.int 1) st=some (.int h,st):=zaS (by decide) rfl;have cf:=c.fl;refine zcn ?_;unfold zer;refine zan (ρ1:=[some bed,some (.tup [.int x,.int y]),some (.tup [.int w,.int h])]) (s1:=st) (by simp[cf]) ?_;simp[e1,e2,e3,i0,i1,j0,j1]
def May(e:Int)(stk:List (Str×Int))(ks:List (List Str))(w h:Int)(P:List Tl)(t:Tl):Prop:=zcq w h ks.length t/\fnd P t.1 t.2.1=none/\e<=sth stk ks P t.1 t.2.1 t.2.2.toNat
section
variable {e w h:Int} {stk:List (Str×Int)} {ks:List (List Str)}
def znM{P:List Tl}{t:Tl}(hf:FlOk w h)(ht:t∈mays e stk ks P (eF P h w.toNat)):May e stk ks w h P t:=by
 have f1:=hf.w0;have f3:=hf.h0;simp only[mays,eF,eC,gK,DX,Fi,Ed,Gj] at ht;obtain⟨l,⟨p,⟨m,⟨i,hi,rfl⟩,hp⟩,rfl⟩,ht⟩:=ht;simp only[Fi,Ed,Gj] at hp ht;obtain⟨j,⟨hj,hok⟩,rfl⟩:=hp;obtain⟨k,⟨hk,hs⟩,rfl⟩:=ht;have hn:fnd P (i:Int) (j:Int)=none:=by
   unfold okE at hok;rw[Ao] at hok;simpa using hok.1
 refine⟨⟨?_,?_,?_,?_,?_,?_⟩,hn,by simpa using hs⟩
 . show (0:Int)<=(i:Int);omega
 . show (i:Int) < w;omega
 . show (0:Int)<=(j:Int);omega
 . show (j:Int) < h;omega
 . show (0:Int)<=(k:Int);omega
 . show (k:Int) < (ks.length:Int);omega
def zoH(e:Int)(stk:List (Str×Int))(ks:List (List Str))(w h:Int):List Tl->List Tl->Prop
 | _,[]=>True
 | P,t::R=>May e stk ks w h P t/\zoH e stk ks w h (P++[t]) R
def zjk:∀ {R P:List Tl} {t:Tl},zoH e stk ks w h P R->May e stk ks w h (P++R) t->zoH e stk ks w h P (R++[t])
 | [],P,t,_,hm=>⟨by simpa using hm,trivial⟩
 | u::R,P,t,hr,hm=>⟨hr.1,zjk hr.2 (by simpa using hm)⟩
def zhu:∀ {R P:List Tl},zoH e stk ks w h P R->∀ t∈R,zcq w h ks.length t
 | u::R,P,hr,t,ht=>by
   rcases List.mem_cons.mp ht with rfl | ht
   . exact hr.1.1
   . exact zhu hr.2 t ht
end
def zdr{P:List Tl}{x y:Int}:fnd P x y=none ↔ ∀ t∈P,¬ (t.1=x/\t.2.1=y):=by
 unfold fnd;simp
def zgW{P:List Tl}{t:Tl}(hn:fnd P t.1 t.2.1=none):putT P t=P++[t]:=by
 have h1:=zdr.mp hn;unfold putT;rw[if_neg];intro z;obtain⟨u,hu,z⟩:=List.any_eq_true.mp z;unfold zby at z;rw[Ao] at z;exact h1 u hu ⟨of_decide_eq_true z.1,of_decide_eq_true z.2⟩
def zmo{P:List Tl}{t:Tl}(nd:PlNd (P++[t])):fnd P t.1 t.2.1=none:=by
 refine zdr.mpr fun u hu z=>?_;have:=(List.pairwise_append.mp nd).2.2 u hu t (by simp);unfold zby at this;simp[z.1,z.2] at this
def zpU{P:List Tl}{t:Tl}(nd:PlNd P)(hn:fnd P t.1 t.2.1=none):PlNd (P++[t]):=by
 refine List.pairwise_append.mpr ⟨nd,by simp,fun u hu v hv=>?_⟩;rw[List.mem_singleton.mp hv];have:=zdr.mp hn u hu;unfold zby;simpa using this
def zka:∀ {ts acc:List Tl},PlNd (acc++ts)->ts.foldl putT acc=acc++ts
 | [],acc,_=>by simp
 | t::ts,acc,nd=>by
   have nd':PlNd ((acc++[t])++ts):=by simpa using nd
   have n1:PlNd (acc++[t]):=(List.pairwise_append.mp nd').1;rw[Ec,zgW (zmo n1),zka nd'];simp
def zmF{ts:List Tl}(nd:PlNd ts):byPl ts=ts:=by
 have:=zka (ts:=ts) (acc:=[]) (by simpa using nd);simpa[byPl] using this
def zp0{a b:List Tl}(h:a.Perm b)(nd:PlNd b):PlNd a:=by
 refine (List.Perm.pairwise_iff (fun {x y} z=>?_) h).mpr nd;unfold zby at *;rw[Bool.and_eq_false_iff] at *
 rcases z with z | z
 . exact .inl (by simpa using fun q=>(of_decide_eq_false z) q.symm)
 . exact .inr (by simpa using fun q=>(of_decide_eq_false z) q.symm)
def zpi{e w h:Int}{stk:List (Str×Int)}{ks:List (List Str)}:∀ {R P:List Tl},PlNd P->zoH e stk ks w h P R->PlNd (P++R)
 | [],P,nd,_=>by simpa using nd
 | t::R,P,nd,hr=>by
   have:=zpi (zpU nd hr.1.2.1) hr.2;simpa using this
end L2.MP.stickytiles_k15_least_growings
namespace L2.MP.stickytiles_k15_least_growings
open PySem L2.MP L2.MP.Hd
open L2.MP.Hn (zaF zar srtT zaA zhp)
theorem zgI(ts:List Tl):zaF ts=.tup (ts.map tD):=rfl
def zdw{st:Sto}{l:Nat}{ts:List Tl}(hl:st[l]?=some (.lst (ts.map tD)))(h64:ts.length < 64):zfM [.ref l] st=some (.ref st.length,st++[.lst ((srtT ts).map tD)]):=by
 unfold zfM orN;rw[zar hl h64,zf1];rfl
def zlh{x y k:Int}{t:Nat}{s:Sto}(hk:zlU (.ref t) (.tup [.int x,.int y]) s=some (.int k,s)):zaz [some (.tup [.int x,.int y]),some (.ref t)] s=some (.tup [.int x,.int y,.int k],s):=by
 have ea:addD (.tup [.int x,.int y]) (.tup [.int k]) s=some (.tup [.int x,.int y,.int k],s):=zkI (by simp) (by simp);unfold zaz;simp[hk,ea]
def zc2{P:List Tl}{d:Nat}{st:Sto}(hd:st[d]?=some (.dt (P.map kvOf)))(nd:PlNd P)(h64:P.length < 64):∃ st',zay [.ref d] st=some (zaF (srtT P),st')/\Gr st st':=by
 have hlt:=getElem?_lt hd;have ewk:zoB (.ref d) st=some (⟨zdA (P.map kvOf),[]⟩,st.set d (.ft (P.map kvOf))):=by
   unfold zoB;simp only[hd]
 have a3:(st.set d (.ft (P.map kvOf)))[d]?=some (.ft (P.map kvOf)):=by simp[hlt]
 have back:(st.set d (.ft (P.map kvOf))++[O.lst (P.map tD)]).set d (.dt (P.map kvOf))=st++[.lst (P.map tD)]:=by
   rw[List.set_append_left _ _ (by simpa using hlt),List.set_set]
   congr 1
   apply FC;intro i
   by_cases hi:i=d
   . subst hi;rw[AE hlt,hd]
   . rw[Ai (fun z=>hi z.symm)]
 have a4:(st.set d (.ft (P.map kvOf))++[O.lst (P.map tD)])[d]?=some (.ft (P.map kvOf)):=by rw[Al (by simpa using hlt)];exact a3
 have ls:(st.set d (.ft (P.map kvOf))).length=st.length:=by simp
 generalize hs3:st.set d (.ft (P.map kvOf))=s3 at ewk a3 back a4 ls;have eit:zdA (P.map kvOf)=P.map fun t=>D.tup [.int t.1,.int t.2.1]:=by
   unfold zdA;rw[A7];rfl
 have ec:mCI ⟨zdA (P.map kvOf),[]⟩ (gNm 0) zco zaz (zdA (P.map kvOf)) [none,some (.ref d)] s3=some (P.map tD,s3):=by
   rw[eit];refine ziG (R:=fun ρ=>∃ x,ρ=[x,some (.ref d)]) ⟨none,rfl⟩ rfl fun t ht ρ hρ=>?_;obtain⟨x,rfl⟩:=hρ;have hv:=zmK nd ht;have hk:zlU (.ref d) (.tup [.int t.1,.int t.2.1]) s3=some (.int t.2.2,s3):=by
     have e1:keysOf [.int t.1,.int t.2.1]=some (kvOf t).1:=rfl;simp only[zlU,lookF,a3,e1,Bi,Ae,hv]
   exact⟨[some (.tup [.int t.1,.int t.2.1]),some (.ref d)],rfl,rfl,zlh hk,⟨_,rfl⟩⟩
 have fl:fits (P.map tD).length=true:=zaw (by rw[Ag];omega);have es:=zdw (zaQ st (.lst (P.map tD))) h64;have et:=zbH (zaQ (st++[.lst (P.map tD)]) (.lst ((srtT P).map tD)));refine⟨st++[.lst (P.map tD)]++[.lst ((srtT P).map tD)],zcn ?_,(Gr.app _ _).trans (Gr.app _ _)⟩;have ecm:zde (mWK (mVar 0)) 1 [0] (gNm 0) (zco) (zaz) [some (.ref d)] st=some (.ref st.length,s3++[.lst (P.map tD)]):=by
   have:mWK (mVar 0) [some (.ref d)] st=some (⟨zdA (P.map kvOf),[]⟩,s3):=ewk;rw[zaX,this];simp only[Ae];rw[show rho0 [some (D.ref d)] 1 [0]=[none,some (.ref d)] from rfl,ec];simp only[Ae,fl,if_true,ls]
 have eth:zqa 0 (zde (mWK (mVar 0)) 1 [0] (gNm 0) (zco) (zaz)) [some (.ref d)] st=some (.ref st.length,st++[.lst (P.map tD)]):=by
   unfold zqa;simp only[CQ,ecm,Ae];unfold zmR;rw[hd,a4];show Option.map _ (some (List.set _ _ _))=_;rw[back];rfl
 unfold zb8;rw[zgI];generalize (srtT P).map tD=B at *;generalize P.map tD=A at *;generalize st++[O.lst A]=s4 at *;generalize s4++[O.lst B]=s5 at *;simp[eth,es,et]
end L2.MP.stickytiles_k15_least_growings
namespace L2.MP.stickytiles_k15_least_growings
open PySem L2.MP L2.MP.Hd
open L2.MP.Hn (zaF zar srtT zaA)
def zni{bed pl hs sl:D}{d ln l:Nat}{num E R a b:Int}{kd:D}{L:List D}{s s1:Sto}(es:slB kd (some 1) none s=some (sl,s))(e1:zaE [.ref d,sl,.ref ln] s=some (.int R,s1))(ie:ixA hs (.int 0) s1=some (.int E,s1))(hR:E<=R)(hl:s1[l]?=some (.lst L))(i0:ixA pl (.int 0) s1=some (.int a,s1))(i1:ixA pl (.int 1) s1=some (.int b,s1))(ea:zbQ (.ref l) [.tup [.int a,.int b,.int num]] s1=some (.non,s1.set l (.lst (L++[.tup [.int a,.int b,.int num]])))) :
   za5 [some bed,some (.ref d),some (.ref ln),some pl,some hs,some (.ref l),some (.int num),some kd] s=some (.nx [some bed,some (.ref d),some (.ref ln),some pl,some hs,some (.ref l),some (.int num),some kd],s1.set l (.lst (L++[.tup [.int a,.int b,.int num]]))):=by
 unfold za5;simp[es,e1,ie,hR,zbA,hl,i0,i1,ea]
def zoY{bed pl hs sl:D}{d ln l:Nat}{num E R:Int}{kd:D}{s s1:Sto}(es:slB kd (some 1) none s=some (sl,s))(e1:zaE [.ref d,sl,.ref ln] s=some (.int R,s1))(ie:ixA hs (.int 0) s1=some (.int E,s1))(hR:¬ E<=R) :
   za5 [some bed,some (.ref d),some (.ref ln),some pl,some hs,some (.ref l),some (.int num),some kd] s=some (.nx [some bed,some (.ref d),some (.ref ln),some pl,some hs,some (.ref l),some (.int num),some kd],s1):=by
 unfold za5;simp[es,e1,ie,hR]
def zuC{bed:D}{e w h:Int}{stk:List (Str×Int)}{ks:List (List Str)}{P:List Tl}{x y:Int}{d ln:Nat}{st:Sto}(c:Ctx bed e stk ks w h)(hP:∀ t∈P,0<=t.2.2/\t.2.2 < (ks.length:Int))(hd:st[d]?=some (.dk (stD stk)))(hn:st[ln]?=some (.lst ((names4 ks P x y).map D.str))) :
   ∃ st',zbF [bed,.ref d,.ref ln,.tup [.int x,.int y]] st=some (.ref st.length,st')/\st'[st.length]?=some (.lst ((gK e stk ks P x y ks.length).map tD))/\Gr st st':=by
 obtain⟨hs,i0,ie,_,i2⟩:=c.at_;have hstr:strsOf ((names4 ks P x y).map D.str)=some (names4 ks P x y):=zfK _;have hN:∀ u∈names4 ks P x y,NmOk u:=fun u hu=>by
   simp[names4] at hu
   rcases hu with rfl | rfl | rfl | rfl <;> exact nm_F c.ks hP _ _
 have hsz:sizeLine=16777216:=Cj;have hall:((names4 ks P x y).all fun z=>decide (z.length<=sizeLine))=true:=List.all_eq_true.mpr fun u hu=>decide_eq_true (by
   have:=(hN u hu).len;rw[len_list,hsz]
   omega)
 have hn1:(st++[O.lst []])[ln]?=some (.lst ((names4 ks P x y).map D.str)):=by rw[Al (getElem?_lt hn)];exact hn
 have ea:anyT [.ref ln] (st++[O.lst []])=some (.bl ((names4 ks P x y).any isT),st++[O.lst []]):=by
   unfold anyT;simp only[zbA,hn1,Ae,hstr,hall,if_true]
 have hd1:(st++[O.lst []])[d]?=some (.dk (stD stk)):=by rw[Al (getElem?_lt hd)];exact hd
 have a1:=zaQ st (.lst []);have g1:=Gr.app st [.lst []];have s1l:(st++[O.lst []]).length=st.length+1:=by simp
 generalize hs1:st++[O.lst []]=s1 at *
 by_cases hany:(names4 ks P x y).any isT=true
 . rw[hany] at ea;have hdl:=getElem?_lt hd;have hnl:=getElem?_lt hn;have key:=zbX (W:=⟨pairs (ks.map zbU),[]⟩) (g:=gTp 2 (gC (gNm 6) (gC (gNm 7) (gN0)))) (m:=za5) (ds:=pairs (ks.map zbU)) (ρ:=[some bed,some (.ref d),some (.ref ln),some (.tup [.int x,.int y]),some hs,some (.ref st.length),none,none]) (st:=s1)
     (Inv:=fun k ρ s=>(∃ a b,ρ=[some bed,some (.ref d),some (.ref ln),some (.tup [.int x,.int y]),some hs,some (.ref st.length),a,b])/\s[st.length]?=some (.lst ((gK e stk ks P x y k).map tD))/\Gr st s)
     ⟨⟨_,_,rfl⟩,a1,g1⟩ (fun _ _ _ _ _=>rfl) (fun k dd ρ s hdd hI=>by
       obtain⟨⟨u,v,rfl⟩,hat,hg⟩:=hI;obtain⟨kd,hkd,rfl⟩:=zhC hdd;rw[AD] at hkd;obtain⟨kk,hkk,rfl⟩:=zag hkd;have hk:=getElem?_lt hkk;have k1:((k:Nat):Int) < (ks.length:Int):=by omega
       obtain⟨f,b0,b1,b2,b3,ek,es,hok⟩:=zdz c.ks (k:=(k:Int)) (by omega) k1;have hkk':kk=[f,b0,b1,b2,b3]:=by
         rw[Br,hkk] at ek;exact Ay ek
       subst hkk';have esl:slB (zbU [f,b0,b1,b2,b3]) (some 1) none s=some (.tup ((sds ks (k:Int)).map D.str),s):=by rw[es];rfl
       obtain⟨s2,e2,g2⟩:=zh9 (S:=sds ks (k:Int)) (N:=names4 ks P x y) (st:=s) c.stk (by rw[es];exact Af _) (fun u hu=>by rw[es] at hu;exact hok u hu) (fun u hu=>zl8 (hN u hu).ab) ((hg.old _ hdl).trans hd) ((hg.old _ hnl).trans hn);have hat2:=(g2.old _ (getElem?_lt hat)).trans hat;have gg:=hg.trans g2;have hlen:=zn8 e stk ks P x y k;have k13:=c.hs.hi
       by_cases hR:e<=sth stk ks P x y k
       . have eap:=append_at (x:=.tup [.int x,.int y,.int (k:Int)]) hat2 (by rw[Ag];omega);refine⟨_,s,_,_,rfl,zni esl e2 (ie _) hR hat2 (zaS (by decide) rfl) (zaS (by decide) rfl) eap,⟨_,_,rfl⟩,?_,⟨by rw[Bj];exact gg.len,fun j hj=>by rw[Ai (by omega)];exact gg.old j hj⟩⟩;rw[AE (getElem?_lt hat2),zhR,if_pos hR,AZ];rfl
       . refine⟨_,s,_,_,rfl,zoY esl e2 (ie _) hR,⟨_,_,rfl⟩,?_,gg⟩;rw[zhR,if_neg hR];exact hat2)
   obtain⟨ρ',s',el,⟨u,v,rfl⟩,hat,hg⟩:=key;have hpl:(pairs (ks.map zbU)).length=ks.length:=by unfold pairs;simp
   rw[hpl] at hat;refine⟨s',zcn ?_,hat,hg⟩;unfold zcB;refine zan (ρ1:=[some bed,some (.ref d),some (.ref ln),some (.tup [.int x,.int y]),some hs,none,none,none]) (s1:=st) (by simp[i0]) ?_;refine zan (ρ1:=[some bed,some (.ref d),some (.ref ln),some (.tup [.int x,.int y]),some hs,some (.ref st.length),none,none]) (s1:=s1) (by simp[hs1]) ?_;refine zan (ρ1:=[some bed,some (.ref d),some (.ref ln),some (.tup [.int x,.int y]),some hs,some (.ref st.length),none,none]) (s1:=s1) (by simp[ea]) ?_;refine zan (ρ1:=[some bed,some (.ref d),some (.ref ln),some (.tup [.int x,.int y]),some hs,some (.ref st.length),u,v]) (s1:=s') (by
     have ec:mBin ixA (mVar 4) (mCon (.int 2)) [some bed,some (.ref d),some (.ref ln),some (.tup [.int x,.int y]),some hs,some (.ref st.length),none,none] s1=some (.tup (ks.map zbU),s1):=by simp[i2]
     rw[zcV,zkh ec];exact el) ?_
   simp
 . have hf:(names4 ks P x y).any isT=false:=by simpa using hany
   rw[hf] at ea;have hem:∀ u∈names4 ks P x y,u="":=fun u hu=>by
     have h1:isT u=false:=by
       rw[Fn] at hf;simpa using hf u hu
     unfold isT at h1;have h2:u.length=0:=by simpa using h1
     refine zma ?_;have h3:u.cps.toList.length=0:=by rw[<-len_list];exact h2
     rw[List.length_eq_zero_iff.mp h3];rfl
   have h4:names4 ks P x y=[("":Str),("":Str),("":Str),("":Str)]:=by
     have q0:=hem (nmF ks P (x,y+1) 2) (by simp[names4]);have q1:=hem (nmF ks P (x+1,y) 3) (by simp[names4]);have q2:=hem (nmF ks P (x,y - 1) 0) (by simp[names4]);have q3:=hem (nmF ks P (x - 1,y) 1) (by simp[names4]);unfold names4;rw[q0,q1,q2,q3]
   have hnil:gK e stk ks P x y ks.length=[]:=zqo c.hs.e0 h4 _;refine⟨s1,zcn ?_,by rw[hnil];exact a1,g1⟩;unfold zcB;refine zan (ρ1:=[some bed,some (.ref d),some (.ref ln),some (.tup [.int x,.int y]),some hs,none,none,none]) (s1:=st) (by simp[i0]) ?_;refine zan (ρ1:=[some bed,some (.ref d),some (.ref ln),some (.tup [.int x,.int y]),some hs,some (.ref st.length),none,none]) (s1:=s1) (by simp[hs1]) (zfT ?_);simp[ea]
def zgk(bed:D)(sd kd ld rd:Nat):List (Str×D):=[("bed",bed),("strengths",.ref sd),("kinds",.ref kd),("laid",.ref ld),("ready",.ref rd)]
def OA(C:Addr)(o:Nat)(bed:D)(sd kd ld rd:Nat)(s:Sto):Prop:=s[o]?=some (.ob C (zgk bed sd kd ld rd))
section
variable {C:Addr} {o sd kd ld rd:Nat} {bed:D} {s:Sto} {ρ:Rho} {m:ME}
def zkf{f:Str}{fs:List (Str×D)}{d:D}{s1:Sto}(hm:m ρ s=some (.ref o,s1))(h:s1[o]?=some (.ob C fs))(l:fs.lookup f=some d):mFld C f m ρ s=some (d,s1):=by
 unfold mFld;simp[hm,h,l]
def zqs(h:OA C o bed sd kd ld rd s):mFld C "bed" (mVar 0) (some (.ref o)::ρ) s=some (bed,s):=zkf rfl h rfl
def zut(h:OA C o bed sd kd ld rd s):mFld C "strengths" (mVar 0) (some (.ref o)::ρ) s=some (.ref sd,s):=zkf rfl h rfl
def zrd(h:OA C o bed sd kd ld rd s):mFld C "kinds" (mVar 0) (some (.ref o)::ρ) s=some (.ref kd,s):=zkf rfl h rfl
def zoc(h:OA C o bed sd kd ld rd s):mFld C "laid" (mVar 0) (some (.ref o)::ρ) s=some (.ref ld,s):=zkf rfl h rfl
def zqr(h:OA C o bed sd kd ld rd s):mFld C "ready" (mVar 0) (some (.ref o)::ρ) s=some (.ref rd,s):=zkf rfl h rfl
end
noncomputable abbrev Yq:=(Int×Int)×Nat
def kyOf(q:Yq):List Key×D:=([.inl q.1.1,.inl q.1.2],.ref q.2)
def zes(Y:List Yq)(p:Int×Int):List Yq:=Y.filter fun q=>!decide (q.1=p)
def zlF(q:Yq)(p:Int×Int):decide ((kyOf q).1=[.inl p.1,.inl p.2])=decide (q.1=p):=by
 obtain⟨⟨a,b⟩,n⟩:=q;obtain⟨x,y⟩:=p;simp[kyOf]
def zhV{p:Int×Int}:∀ {Y:List Yq},(∀ q∈Y,q.1≠p)->zes Y p=Y:=fun {Y} h=>List.filter_eq_self.mpr fun q hq=>by simpa using h q hq
def zmC{p:Int×Int}:∀ {Y:List Yq},(Y.map (·.1)).Nodup->zdL (Y.map kyOf) [.inl p.1,.inl p.2]=(zes Y p).map kyOf
 | [],_=>rfl
 | q::Y,nd=>by
   rw[Av,Da] at nd;unfold zdL;rw[Av,Cr,zlF]
   by_cases h:q.1=p
   . rw[decide_eq_true h];have:∀ z∈Y,z.1≠p:=fun z hz e=>nd.1 (List.mem_map.mpr ⟨z,hz,e.trans h.symm⟩);have e2:zes (q::Y) p=Y:=by
       have:=zhV this;unfold zes at this ⊢;simp[h,this]
     rw[e2];rfl
   . rw[decide_eq_false h];have ih:=zmC (p:=p) nd.2;unfold zdL at ih;have e2:zes (q::Y) p=q::zes Y p:=by
       unfold zes;simp[h]
     rw[e2,Av,<-ih];rfl
def zmJ{p:Int×Int}:∀ {Y:List Yq},(valD (Y.map kyOf) [.inl p.1,.inl p.2]=none/\∀ q∈Y,q.1≠p)\/∃ n,(p,n)∈Y/\valD (Y.map kyOf) [.inl p.1,.inl p.2]=some (.ref n)
 | []=>.inl ⟨rfl,fun q hq=>nomatch hq⟩
 | q::Y=>by
   by_cases h:q.1=p
   . refine .inr ⟨q.2,by rw[<-h];exact An,?_⟩;unfold valD;rw[Av,AL];have:=zlF q p;simp[this,h,kyOf]
   . have e:valD ((q::Y).map kyOf) [.inl p.1,.inl p.2]=valD (Y.map kyOf) [.inl p.1,.inl p.2]:=by
       unfold valD;rw[Av,AL];have:=zlF q p;simp[this,h]
     rcases zmJ (p:=p) (Y:=Y) with ⟨a,b⟩ | ⟨n,a,b⟩
     . exact .inl ⟨e.trans a,fun z hz=>by
         rcases List.mem_cons.mp hz with rfl | hz
         . exact h
         . exact b z hz⟩
     . exact .inr ⟨n,Ak _ a,e.trans b⟩
def zpv{C:Addr}{o sd kd ld rd:Nat}{bed:D}{p:Int×Int}{Y:List Yq}{ρ:Rho}{s:Sto}(h:OA C o bed sd kd ld rd s)(hr:s[rd]?=some (.dt (Y.map kyOf)))(nd:(Y.map (·.1)).Nodup) :
   ∃ v,zmq (mFld C "ready" (mVar 0)) (mVar 1) (mCon .non) (some (.ref o)::some (plD p)::ρ) s=some (v,s.set rd (.dt ((zes Y p).map kyOf))):=by
 have hk:keysOf [.int p.1,.int p.2]=some [.inl p.1,.inl p.2]:=rfl;have hd:zmA s rd=true:=by unfold zmA;rw[hr]
 have hl:=getElem?_lt hr
 rcases zmJ (p:=p) (Y:=Y) with ⟨a,b⟩ | ⟨n,a,b⟩
 . refine⟨.non,?_⟩;have e:s.set rd (.dt ((zes Y p).map kyOf))=s:=by
     rw[zhV b];apply FC;intro i
     by_cases hi:i=rd
     . subst hi;rw[AE hl,hr]
     . rw[Ai (fun z=>hi z.symm)]
   rw[e];unfold zmq;rw[zqr h];simp[hd,hr,plD,hk,a]
 . refine⟨.ref n,?_⟩;rw[<-zmC nd];unfold zmq;rw[zqr h];simp[hd,hr,plD,hk,b]
def zn9{N:Nat}{s st:Sto}{ms:MS}{ρ:Rho}{ds:List D}(h:ms (rho N ds) st=some (.nx ρ,s)):fnM N ms ds st=some (.non,s):=by
 unfold fnM;rw[h];rfl
def InFl(w h:Int)(p:Int×Int):Prop:=0<=p.1/\p.1 < w/\0<=p.2/\p.2 < h
def ziR{x lo hi:Int}{st:Sto}(h:¬ (lo<=x/\x<=hi)):zcf [.int x,.int lo,.int hi] st=some (.bl false,st):=by
 refine zcn ?_;have t1:tyName st (.int x)=some "int":=rfl;have t2:subT "int" "int"=true:=by decide
 have t3:subT "int" "bool"=false:=by decide
 unfold zeq
 by_cases h1:lo<=x
 . have h2:¬ x<=hi:=fun z=>h ⟨h1,z⟩;simp[zeB,t1,t2,t3,h1,h2]
 . simp[zeB,t1,t2,t3,h1]
def znp{bed:D}{e w h:Int}{p:Int×Int}{stk:List (Str×Int)}{ks:List (List Str)}{st:Sto}(c:Ctx bed e stk ks w h)(hn:¬ InFl w h p):zbE [bed,plD p] st=some (.bl false,st):=by
 obtain⟨x,y⟩:=p;have e1:=ziZ (ds:=[.int x,.int y]) (n:=2) (N:=2) (st:=st) rfl rfl;have i0:ixA (.tup [.int x,.int y]) (.int 0) st=some (.int x,st):=zaS (by decide) rfl;have i1:ixA (.tup [.int x,.int y]) (.int 1) st=some (.int y,st):=zaS (by decide) rfl;have j0:ixA (.tup [.int w,.int h]) (.int 0) st=some (.int w,st):=zaS (by decide) rfl;have j1:ixA (.tup [.int w,.int h]) (.int 1) st=some (.int h,st):=zaS (by decide) rfl;have cf:=c.fl;refine zcn ?_;unfold zer;refine zan (ρ1:=[some bed,some (.tup [.int x,.int y]),some (.tup [.int w,.int h])]) (s1:=st) (by simp[cf,plD]) ?_
 by_cases hx:0<=x/\x < w
 . have e2:=zgA (x:=x) (lo:=0) (hi:=w - 1) (st:=st) hx.1 (by omega);have e3:=ziR (x:=y) (lo:=0) (hi:=h - 1) (st:=st) (fun z=>hn ⟨hx.1,hx.2,z.1,by show y < h;omega⟩);simp[e1,e2,e3,i0,i1,j0,j1]
 . have e2:=ziR (x:=x) (lo:=0) (hi:=w - 1) (st:=st) (fun z=>hx ⟨z.1,by omega⟩);simp[e1,e2,i0,j0]
section
variable {C:Addr} {o sd kd ld rd ln l:Nat} {bed pl v:D} {a2 a3:Option D} {L:List D} {s s1 s2 s3 s4:Sto}
def zn1(e0:zmq (mFld C "ready" (mVar 0)) (mVar 1) (mCon .non) [some (.ref o),some pl,none,none] s=some (v,s1))(h1:OA C o bed sd kd ld rd s1)(hin:zez pl (.ref kd) s1=some (.bl false,s1)) :
   za2 C [some (.ref o),some pl,none,none] s=some (.nx [some (.ref o),some pl,none,none],s1):=by
 have k1:mFld C "kinds" (mVar 0) [some (.ref o),some pl,none,none] s1=some (.ref kd,s1):=zrd h1;unfold za2;refine zan (ρ1:=[some (.ref o),some pl,none,none]) (s1:=s1) (by rw[zgu,e0];rfl) ?_;simp[k1,hin]
def zsD(e0:zmq (mFld C "ready" (mVar 0)) (mVar 1) (mCon .non) [some (.ref o),some pl,none,none] s=some (v,s1))(h1:OA C o bed sd kd ld rd s1)(hin:zez pl (.ref kd) s1=some (.bl true,s1))(hp:zbE [bed,pl] s1=some (.bl false,s1)) :
   za2 C [some (.ref o),some pl,none,none] s=some (.nx [some (.ref o),some pl,none,none],s1):=by
 have k1:mFld C "kinds" (mVar 0) [some (.ref o),some pl,none,none] s1=some (.ref kd,s1):=zrd h1;have k2:mFld C "bed" (mVar 0) [some (.ref o),some pl,none,none] s1=some (bed,s1):=zqs h1;unfold za2;refine zan (ρ1:=[some (.ref o),some pl,none,none]) (s1:=s1) (by rw[zgu,e0];rfl) ?_;simp[k1,k2,hin,hp]
def zjS{r:Option (Fl×Sto)}(e0:zmq (mFld C "ready" (mVar 0)) (mVar 1) (mCon .non) [some (.ref o),some pl,none,none] s=some (v,s1))(h1:OA C o bed sd kd ld rd s1)(hin:zez pl (.ref kd) s1=some (.bl true,s1))(hp:zbE [bed,pl] s1=some (.bl true,s1))
   (e1:zbw [bed,.ref kd,pl] s1=some (.ref ln,s2)) (h2:OA C o bed sd kd ld rd s2) (e2:zbF [bed,.ref sd,.ref ln,pl] s2=some (.ref l,s3)) (k:mIf (mTru (mVar 3)) (putA (mFld C "ready" (mVar 0)) (mVar 1) (mVar 3)) (zdm) [some (.ref o),some pl,some (.ref ln),some (.ref l)] s3=r) :
   za2 C [some (.ref o),some pl,none,none] s=r:=by
 have k1:mFld C "kinds" (mVar 0) [some (.ref o),some pl,none,none] s1=some (.ref kd,s1):=zrd h1;have k2:mFld C "bed" (mVar 0) [some (.ref o),some pl,none,none] s1=some (bed,s1):=zqs h1;have k3:mFld C "bed" (mVar 0) [some (.ref o),some pl,some (.ref ln),none] s2=some (bed,s2):=zqs h2;have k4:mFld C "strengths" (mVar 0) [some (.ref o),some pl,some (.ref ln),none] s2=some (.ref sd,s2):=zut h2;unfold za2;refine zan (ρ1:=[some (.ref o),some pl,none,none]) (s1:=s1) (by rw[zgu,e0];rfl) ?_;rw[zl7];have c0:zms (mTst (mBin zez (mVar 1) (mFld C "kinds" (mVar 0)))) (mTst (zav zbE (zae (mFld C "bed" (mVar 0)) (zae (mVar 1) (mNil))))) [some (.ref o),some pl,none,none] s1=some (true,s1):=by simp[k1,k2,hin,hp]
 rw[c0,Ae,if_pos rfl];refine zan (ρ1:=[some (.ref o),some pl,some (.ref ln),none]) (s1:=s2) (by simp[k1,k2,e1]) ?_;exact zan (ρ1:=[some (.ref o),some pl,some (.ref ln),some (.ref l)]) (s1:=s3) (by simp[k3,k4,e2]) k
def zqg(hl:s3[l]?=some (.lst [])):mIf (mTru (mVar 3)) (putA (mFld C "ready" (mVar 0)) (mVar 1) (mVar 3)) (zdm) [some (.ref o),some pl,some (.ref ln),some (.ref l)] s3=some (.nx [some (.ref o),some pl,some (.ref ln),some (.ref l)],s3):=by
 simp[zqS,truD,zbA,hl]
def zsC{x y:Int}{d:D}(hl:s3[l]?=some (.lst (d::L)))(h3:OA C o bed sd kd ld rd s3)(dp:dput s3 rd (.tup [.int x,.int y]) (.ref l)=some s4):mIf (mTru (mVar 3)) (putA (mFld C "ready" (mVar 0)) (mVar 1) (mVar 3)) (zdm) [some (.ref o),some (.tup [.int x,.int y]),some (.ref ln),some (.ref l)] s3=some (.nx [some (.ref o),some (.tup [.int x,.int y]),some (.ref ln),some (.ref l)],s4):=by
 have k1:mFld C "ready" (mVar 0) [some (.ref o),some (.tup [.int x,.int y]),some (.ref ln),some (.ref l)] s3=some (.ref rd,s3):=zqr h3;rw[zl7];have c0:mTru (mVar 3) [some (.ref o),some (.tup [.int x,.int y]),some (.ref ln),some (.ref l)] s3=some (true,s3):=by simp[zqS,truD,zbA,hl]
 rw[c0,Ae,if_pos rfl,zkF];have c1:mAsg (mVar 3) (gSb setD (mFld C "ready" (mVar 0)) (mVar 1)) [some (.ref o),some (.tup [.int x,.int y]),some (.ref ln),some (.ref l)] s3=none:=by simp[k1,setD]
 rw[c1,zio];unfold zmr;simp[k1,dp]
end
def zeD{st s:Sto}{n:Nat}{o:O}(g:Gr st s)(h:st.length<=n):Gr st (s.set n o):=⟨by rw[Bj];exact g.len,fun j hj=>by rw[Ai (by omega)];exact g.old j hj⟩
structure Gw(C:Addr)(o sd kd ld rd:Nat)(bed:D)(stk:List (Str×Int))(P R:List Tl)(F:Int×Int->List Tl)(Y:List Yq)(st0 s:Sto):Prop where
 ob:OA C o bed sd kd ld rd s
 hs:s[sd]?=some (.dk (stD stk))
 hk:s[kd]?=some (.dt (P.map kvOf))
 hl:s[ld]?=some (.lst (R.map tD))
 hr:s[rd]?=some (.dt (Y.map kyOf))
 nd:(Y.map (·.1)).Nodup
 hy:∀ q∈Y,rd < q.2/\s[q.2]?=some (.lst ((F q.1).map tD))
 fr:Gr st0 s
def okP(e:Int)(stk:List (Str×Int))(ks:List (List Str))(w h:Int)(P:List Tl)(p:Int×Int):Prop:=InFl w h p/\fnd P p.1 p.2=none/\gK e stk ks P p.1 p.2 ks.length≠[]
def zd8{Y:List Yq}{p:Int×Int}{q:Yq}:q∈zes Y p ↔ q∈Y/\q.1≠p:=by
 unfold zes;rw[Ed];simp
def zrO{Y:List Yq}{p:Int×Int}{n:Nat}(h:∀ q∈Y,q.1≠p):putD (Y.map kyOf) [.inl p.1,.inl p.2] (.ref n)=(Y++[(p,n)]).map kyOf:=by
 unfold putD;rw[if_neg,AZ]
 . rfl
 . intro z;obtain⟨kv,hkv,z⟩:=List.any_eq_true.mp z;obtain⟨q,hq,rfl⟩:=List.mem_map.mp hkv;rw[zlF] at z;exact h q hq (of_decide_eq_true z)
section
variable {C:Addr} {o sd kd ld rd:Nat} {bed:D} {e w h:Int} {stk:List (Str×Int)} {ks:List (List Str)} {P R:List Tl} {F:Int×Int->List Tl} {Y:List Yq} {st0 s s':Sto}
def Gw.gr(q:Gw C o sd kd ld rd bed stk P R F Y st0 s)(g:Gr s s'):Gw C o sd kd ld rd bed stk P R F Y st0 s' :=
 ⟨(g.old _ (getElem?_lt q.ob)).trans q.ob,(g.old _ (getElem?_lt q.hs)).trans q.hs,(g.old _ (getElem?_lt q.hk)).trans q.hk,(g.old _ (getElem?_lt q.hl)).trans q.hl,(g.old _ (getElem?_lt q.hr)).trans q.hr,q.nd,fun z hz=>⟨(q.hy z hz).1,(g.old _ (getElem?_lt (q.hy z hz).2)).trans (q.hy z hz).2⟩,q.fr.trans g⟩
def Gw.rdy{Y':List Yq}(q:Gw C o sd kd ld rd bed stk P R F Y st0 s)(hn:st0.length<=o/\o < sd/\sd < kd/\kd < ld/\ld < rd)(nd:(Y'.map (·.1)).Nodup){F':Int×Int->List Tl}(hy:∀ z∈Y',rd < z.2/\s[z.2]?=some (.lst ((F' z.1).map tD))):Gw C o sd kd ld rd bed stk P R F' Y' st0 (s.set rd (.dt (Y'.map kyOf))):=by
 obtain⟨n0,n1,n2,n3,n4⟩:=hn;refine⟨?_,?_,?_,?_,?_,nd,fun z hz=>⟨(hy z hz).1,?_⟩,zeD q.fr (by omega)⟩
 . unfold OA;rw[Ai (by omega)];exact q.ob
 . rw[Ai (by omega)];exact q.hs
 . rw[Ai (by omega)];exact q.hk
 . rw[Ai (by omega)];exact q.hl
 . rw[AE (getElem?_lt q.hr)]
 . have:=(hy z hz).1;rw[Ai (by omega)];exact (hy z hz).2
def zd9{p:Int×Int}(c:Ctx bed e stk ks w h)(hn:st0.length<=o/\o < sd/\sd < kd/\kd < ld/\ld < rd)(q:Gw C o sd kd ld rd bed stk P R F Y st0 s)(hP:∀ t∈P,0<=t.2.2/\t.2.2 < (ks.length:Int))(hYl:Y.length<=1000) :
   ∃ (Y':List Yq) (s':Sto),zax C [.ref o,plD p] s=some (.non,s')/\Gw C o sd kd ld rd bed stk P R (fun p'=>if p'=p then gK e stk ks P p.1 p.2 ks.length else F p') Y' st0 s'/\(∀ p',(∃ n,(p',n)∈Y') ↔ (p'≠p/\∃ n,(p',n)∈Y)\/(p'=p/\okP e stk ks w h P p))/\Y'.length<=Y.length+1:=by
 obtain⟨v,e0⟩:=zpv (p:=p) (ρ:=[none,none]) q.ob q.hr q.nd;have ndd:((zes Y p).map (·.1)).Nodup:=q.nd.sublist ((List.filter_sublist).map _);have q1:Gw C o sd kd ld rd bed stk P R (fun p'=>if p'=p then gK e stk ks P p.1 p.2 ks.length else F p') (zes Y p) st0 (s.set rd (.dt ((zes Y p).map kyOf))):=q.rdy hn ndd fun z hz=>by
   obtain⟨z1,z2⟩:=zd8.mp hz;rw[if_neg z2];exact q.hy z z1
 have hdl:(zes Y p).length<=Y.length:=A8 _ _;have nop:∀ z∈zes Y p,z.1≠p:=fun z hz=>(zd8.mp hz).2;have base:∀ p',(∃ n,(p',n)∈zes Y p) ↔ (p'≠p/\∃ n,(p',n)∈Y):=fun p'=>⟨fun⟨n,z⟩=>⟨(zd8.mp z).2,n,(zd8.mp z).1⟩,fun⟨z,n,z2⟩=>⟨n,zd8.mpr ⟨z2,z⟩⟩⟩
 have stay:¬ okP e stk ks w h P p->∀ p',(∃ n,(p',n)∈zes Y p) ↔ (p'≠p/\∃ n,(p',n)∈Y)\/(p'=p/\okP e stk ks w h P p):=fun hno p'=>(base p').trans ⟨.inl,fun z=>z.elim id fun z=>absurd z.2 hno⟩;generalize s.set rd (.dt ((zes Y p).map kyOf))=s1 at *;have hin:=zjE (x:=p.1) (y:=p.2) q1.hk;rw[zeE,B3] at hin
 cases hf:fnd P p.1 p.2 with
 | some k' =>
   rw[hf] at hin;exact⟨_,s1,zn9 (zn1 e0 q1.ob hin),q1,stay (fun z=>by rw[z.2.1] at hf;cases hf),by omega⟩
 | none =>
   rw[hf] at hin
   by_cases hfl:InFl w h p
   . obtain⟨s2,e1,a1,g1⟩:=zlR (x:=p.1) (y:=p.2) c.bed c.ks hP q1.hk;have q2:=q1.gr g1;obtain⟨s3,e2,a2,g2⟩:=zuC (x:=p.1) (y:=p.2) c hP q2.hs a1;have q3:=q2.gr g2;have hpl:=znq (st:=s1) c hfl.1 hfl.2.1 hfl.2.2.1 hfl.2.2.2
     cases hg:gK e stk ks P p.1 p.2 ks.length with
     | nil =>
       rw[hg] at a2 q3;exact⟨_,s3,zn9 (zjS e0 q1.ob hin hpl e1 q2.ob e2 (zqg a2)),q3,stay (fun z=>z.2.2 hg),by omega⟩
     | cons t L =>
       rw[hg] at a2 q3;have hlt:rd < s2.length:=getElem?_lt q2.hr;have dp:dput s3 rd (.tup [.int p.1,.int p.2]) (.ref s2.length)=some (s3.set rd (.dt ((zes Y p++[(p,s2.length)]).map kyOf))):=by
         have hk:keysOf [.int p.1,.int p.2]=some [.inl p.1,.inl p.2]:=rfl;have hsz:(zes Y p).length < sizeLine:=BG (Az hdl hYl) (by decide);unfold dput;rw[q3.hr];simp only[hk,Ae,Ag,decide_eq_true hsz,if_true];rw[zrO nop]
       refine⟨zes Y p++[(p,s2.length)],_,zn9 (zjS e0 q1.ob hin hpl e1 q2.ob e2 (zsC a2 q3.ob dp)),q3.rdy hn ?_ fun z hz=>?_,fun p'=>?_,by rw[AH,B0];omega⟩
       . rw[AZ];refine List.nodup_append.mpr ⟨ndd,by simp,fun a ha b hb z=>?_⟩;obtain⟨y,hy,rfl⟩:=List.mem_map.mp ha;simp at hb;exact nop y hy (z.trans hb)
       . rcases List.mem_append.mp hz with hz | hz
         . exact q3.hy z hz
         . rw[List.mem_singleton.mp hz];refine⟨hlt,?_⟩;show s3[s2.length]?=_;rw[a2,if_pos rfl]
       . have hok:okP e stk ks w h P p:=⟨hfl,hf,by rw[hg];simp⟩
         constructor
         . rintro ⟨n,z⟩
           rcases List.mem_append.mp z with z | z
           . exact .inl ((base p').mp ⟨n,z⟩)
           . have:=List.mem_singleton.mp z;exact .inr ⟨by cases this;rfl,hok⟩
         . rintro (z | ⟨rfl,_⟩)
           . obtain⟨n,z⟩:=(base p').mpr z;exact⟨n,Bw _ z⟩
           . exact⟨s2.length,by simp⟩
   . exact⟨_,s1,zn9 (zsD e0 q1.ob hin (znp c hfl)),q1,stay (fun z=>hfl z.1),by omega⟩
end
section
variable {C:Addr} {o sd kd ld rd:Nat} {bed:D} {e w h:Int} {stk:List (Str×Int)} {ks:List (List Str)} {P R:List Tl} {F F0:Int×Int->List Tl} {Y Y0:List Yq} {st0 s s':Sto}
structure Upto(e:Int)(stk:List (Str×Int))(ks:List (List Str))(w h:Int)(P:List Tl)(ps:List (Int×Int))(F0:Int×Int->List Tl)(Y0:List Yq)(F:Int×Int->List Tl)(Y:List Yq):Prop where
 old:∀ p,p ∉ ps->((∃ n,(p,n)∈Y) ↔ ∃ n,(p,n)∈Y0)/\F p=F0 p
 new:∀ p,p∈ps->((∃ n,(p,n)∈Y) ↔ okP e stk ks w h P p)/\F p=gK e stk ks P p.1 p.2 ks.length
def Upto.nil:Upto e stk ks w h P [] F0 Y0 F0 Y0:=⟨fun p _=>⟨Iff.rfl,rfl⟩,fun p hp=>nomatch hp⟩
def Upto.step{ps:List (Int×Int)}{p:Int×Int}{Y':List Yq}(u:Upto e stk ks w h P ps F0 Y0 F Y)(hY:∀ p',(∃ n,(p',n)∈Y') ↔ (p'≠p/\∃ n,(p',n)∈Y)\/(p'=p/\okP e stk ks w h P p)):Upto e stk ks w h P (ps++[p]) F0 Y0 (fun p'=>if p'=p then gK e stk ks P p.1 p.2 ks.length else F p') Y':=by
 refine⟨fun p' hp=>?_,fun p' hp=>?_⟩
 . rw[Gf,not_or,Fj] at hp;obtain⟨a,b⟩:=u.old p' hp.1;refine⟨(hY p').trans ⟨fun z=>?_,fun z=>.inl ⟨hp.2,a.mpr z⟩⟩,by rw[if_neg hp.2];exact b⟩
   rcases z with z | z
   . exact a.mp z.2
   . exact absurd z.1 hp.2
 . by_cases hpp:p'=p
   . subst hpp;refine⟨(hY p').trans ⟨fun z=>?_,fun z=>.inr ⟨rfl,z⟩⟩,by rw[if_pos rfl]⟩
     rcases z with z | z
     . exact absurd rfl z.1
     . exact z.2
   . rw[Gf,Fj] at hp;have hps:p'∈ps:=hp.resolve_right hpp;obtain⟨a,b⟩:=u.new p' hps;refine⟨(hY p').trans ⟨fun z=>?_,fun z=>.inl ⟨hpp,a.mpr z⟩⟩,by rw[if_neg hpp];exact b⟩
     rcases z with z | z
     . exact a.mp z.2
     . exact absurd z.1 hpp
def zf9{f:Str}{g:GN}{mm:MA}{ρ:Rho}(hf:(zgk bed sd kd ld rd).lookup f=none)(h:OA C o bed sd kd ld rd s):zg7 C f g (mVar 0) mm (some (.ref o)::ρ) s=(mm (some (.ref o)::ρ) s).bind fun p=>g (.ref o::p.1) p.2:=by
 have h:s[o]?=some (.ob C (zgk bed sd kd ld rd)):=h;have e:mVar 0 (some (.ref o)::ρ) s=some (.ref o,s):=rfl;unfold zg7;rw[e];simp only[Ae,h,hf];simp
def ziL{pl nr:D}{a2:Option D}{v:D}{s1:Sto}(h:OA C o bed sd kd ld rd s)(e1:zax C [.ref o,nr] s=some (v,s1)):za0 C [some (.ref o),some pl,some nr] s=some (.nx [some (.ref o),some pl,some nr],s1):=by
 have m1:=zf9 (C:=C) (o:=o) (f:="look_at") (g:=zax C) (mm:=zae (mVar 2) mNil) (ρ:=[some pl,some nr]) rfl h;unfold za0;rw[zgu,m1];simp[e1]
def zg6(p:Int×Int):List (Int×Int):=[(p.1,p.2+1),(p.1+1,p.2),(p.1,p.2 - 1),(p.1 - 1,p.2)]
def zfv{p:Int×Int}(c:Ctx bed e stk ks w h)(hn:st0.length<=o/\o < sd/\sd < kd/\kd < ld/\ld < rd)(q:Gw C o sd kd ld rd bed stk P R F Y st0 s)(hP:∀ t∈P,0<=t.2.2/\t.2.2 < (ks.length:Int))(hYl:Y.length<=900) :
   ∃ (F':Int×Int->List Tl) (Y':List Yq) (s':Sto),zaK C [.ref o,plD p] s=some (.non,s')/\Gw C o sd kd ld rd bed stk P R F' Y' st0 s'/\Upto e stk ks w h P (p::zg6 p) F Y F' Y'/\Y'.length<=Y.length+5:=by
 obtain⟨Y1,s1,e1,q1,h1,l1⟩:=zd9 (p:=p) c hn q hP (by omega);have u1:=Upto.step (ps:=[]) (F0:=F) (F:=F) Upto.nil h1;have key:=zbX (W:=⟨(zg6 p).map plD,[]⟩) (g:=gNm 2) (m:=za0 C) (ds:=(zg6 p).map plD) (ρ:=[some (.ref o),some (plD p),none]) (st:=s1)
   (Inv:=fun i ρ s=>(∃ a,ρ=[some (.ref o),some (plD p),a])/\∃ (F':Int×Int->List Tl) (Y':List Yq),Gw C o sd kd ld rd bed stk P R F' Y' st0 s/\Upto e stk ks w h P (p::(zg6 p).take i) F Y F' Y'/\Y'.length<=Y.length+1+i)
   ⟨⟨_,rfl⟩,_,Y1,q1,by simpa using u1,by omega⟩ (fun _ _ _ _ _=>rfl) (fun i dd ρ s hdd hI=>by
     obtain⟨⟨a,rfl⟩,F',Y',q',u',l'⟩:=hI;rw[AD] at hdd;obtain⟨r,hr,rfl⟩:=zag hdd;have hi:i < 4:=(List.getElem?_eq_some_iff.mp hr).1;obtain⟨Y2,s2,e2,q2,h2,l2⟩:=zd9 (p:=r) c hn q' hP (by omega);refine⟨_,s,_,s2,rfl,ziL (a2:=none) q'.ob e2,⟨_,rfl⟩,_,Y2,q2,?_,by omega⟩;rw[BN,hr];exact Upto.step u' h2)
 obtain⟨ρ',s2,el,⟨a,rfl⟩,F',Y',q',u',l'⟩:=key;rw[Ag,BD] at u';have l4:((zg6 p).map plD).length=4:=rfl;rw[l4] at l';refine⟨F',Y',s2,zn9 (ρ:=[some (.ref o),some (plD p),a]) ?_,q',u',by omega⟩;have m1:=zf9 (C:=C) (o:=o) (f:="look_at") (g:=zax C) (mm:=zae (mVar 1) mNil) (ρ:=[some (plD p),none]) rfl q.ob;unfold zcg;refine zan (ρ1:=[some (.ref o),some (plD p),none]) (s1:=s1) (by
   show mExp _ [some (.ref o),some (plD p),none] s=_;rw[zgu,m1];simp[e1]) ?_
 have ea:zaD [plD p] s1=some (.tup ((zg6 p).map plD),s1):=zh6 (x:=p.1) (y:=p.2) (st:=s1);have hw:mWA (zav zaD (zae (mVar 1) (mNil))) [some (.ref o),some (plD p),none] s1=some (⟨(zg6 p).map plD,[]⟩,s1):=by
   generalize (zg6 p).map plD=N at *;generalize plD p=A at *;simp[ea,zkT]
 rw[zcV,hw];exact el
end
def zgj{P:List Tl}{t:Tl}{x y:Int}(h:¬ (t.1=x/\t.2.1=y)):fnd (P++[t]) x y=fnd P x y:=by
 unfold fnd;rw[FB];have:[t].find? (fun t=>decide (t.1=x)&&decide (t.2.1=y))=none:=by
   rw[Fh];intro u hu;rw[List.mem_singleton.mp hu];simpa using h
 rw[this,Option.or_none]
def zls{ks:List (List Str)}{P:List Tl}{t:Tl}{x y:Int}(h:(x,y) ∉ zg6 (t.1,t.2.1)):names4 ks (P++[t]) x y=names4 ks P x y:=by
 simp only[zg6,Ba,Bd,or_false,Prod.mk.injEq,not_or] at h;obtain⟨h0,h1,h2,h3⟩:=h;unfold names4 nmF;rw[zgj (x:=x) (y:=y+1) (by omega),zgj (x:=x+1) (y:=y) (by omega),zgj (x:=x) (y:=y - 1) (by omega),zgj (x:=x - 1) (y:=y) (by omega)]
section
variable {C:Addr} {o sd kd ld rd:Nat} {bed:D} {e w h:Int} {stk:List (Str×Int)} {ks:List (List Str)} {P R:List Tl} {F F':Int×Int->List Tl} {Y Y':List Yq} {st0 s s':Sto} {t:Tl}
def zqp{p:Int×Int}(hp:p ∉ zg6 (t.1,t.2.1))(n:Nat):gK e stk ks (P++[t]) p.1 p.2 n=gK e stk ks P p.1 p.2 n:=by
 unfold gK sth;rw[zls (x:=p.1) (y:=p.2) hp]
structure Good(e:Int)(stk:List (Str×Int))(ks:List (List Str))(w h:Int)(P:List Tl)(F:Int×Int->List Tl)(Y:List Yq):Prop where
 key:∀ p,(∃ n,(p,n)∈Y) ↔ okP e stk ks w h P p
 lst:∀ p,okP e stk ks w h P p->F p=gK e stk ks P p.1 p.2 ks.length
def zpQ{p:Int×Int}(hp:p ∉ (t.1,t.2.1)::zg6 (t.1,t.2.1)):okP e stk ks w h (P++[t]) p ↔ okP e stk ks w h P p:=by
 rw[Ba,not_or] at hp;unfold okP;rw[zqp hp.2,zgj fun z=>hp.1 (by obtain⟨a,b⟩:=p;exact Prod.ext z.1.symm z.2.symm)]
def zlP(g:Good e stk ks w h P F Y)(u:Upto e stk ks w h (P++[t]) ((t.1,t.2.1)::zg6 (t.1,t.2.1)) F Y F' Y'):Good e stk ks w h (P++[t]) F' Y':=by
 refine⟨fun p=>?_,fun p hp=>?_⟩
 . by_cases hm:p∈(t.1,t.2.1)::zg6 (t.1,t.2.1)
   . exact (u.new p hm).1
   . exact ((u.old p hm).1.trans (g.key p)).trans (zpQ hm).symm
 . by_cases hm:p∈(t.1,t.2.1)::zg6 (t.1,t.2.1)
   . exact (u.new p hm).2
   . rw[(u.old p hm).2,g.lst p ((zpQ hm).mp hp),zqp];rw[Ba,not_or] at hm;exact hm.2
def Gw.lay(q:Gw C o sd kd ld rd bed stk P R F Y st0 s)(hn:st0.length<=o/\o < sd/\sd < kd/\kd < ld/\ld < rd)(R':List Tl):Gw C o sd kd ld rd bed stk P R' F Y st0 (s.set ld (.lst (R'.map tD))):=by
 obtain⟨n0,n1,n2,n3,n4⟩:=hn;refine⟨?_,?_,?_,?_,?_,q.nd,fun z hz=>⟨(q.hy z hz).1,?_⟩,zeD q.fr (by omega)⟩
 . unfold OA;rw[Ai (by omega)];exact q.ob
 . rw[Ai (by omega)];exact q.hs
 . rw[Ai (by omega)];exact q.hk
 . rw[AE (getElem?_lt q.hl)]
 . rw[Ai (by omega)];exact q.hr
 . have:=(q.hy z hz).1;rw[Ai (by omega)];exact (q.hy z hz).2
def Gw.kin(q:Gw C o sd kd ld rd bed stk P R F Y st0 s)(hn:st0.length<=o/\o < sd/\sd < kd/\kd < ld/\ld < rd)(P':List Tl):Gw C o sd kd ld rd bed stk P' R F Y st0 (s.set kd (.dt (P'.map kvOf))):=by
 obtain⟨n0,n1,n2,n3,n4⟩:=hn;refine⟨?_,?_,?_,?_,?_,q.nd,fun z hz=>⟨(q.hy z hz).1,?_⟩,zeD q.fr (by omega)⟩
 . unfold OA;rw[Ai (by omega)];exact q.ob
 . rw[Ai (by omega)];exact q.hs
 . rw[AE (getElem?_lt q.hk)]
 . rw[Ai (by omega)];exact q.hl
 . rw[Ai (by omega)];exact q.hr
 . have:=(q.hy z hz).1;rw[Ai (by omega)];exact (q.hy z hz).2
def zsA{x y k:Int}{L:List D}{v:D}{s1 s2 s3:Sto}(h0:OA C o bed sd kd ld rd s)(hl:s[ld]?=some (.lst L))(ea:zbQ (.ref ld) [.tup [.int x,.int y,.int k]] s=some (.non,s1))(h1:OA C o bed sd kd ld rd s1)(dp:dput s1 kd (.tup [.int x,.int y]) (.int k)=some s2)(h2:OA C o bed sd kd ld rd s2)(e3:zaK C [.ref o,.tup [.int x,.int y]] s2=some (v,s3)) :
   zbR C [.ref o,.tup [.int x,.int y,.int k]] s=some (.non,s3):=by
 have es:∀ q:Sto,slB (.tup [.int x,.int y,.int k]) none (some 2) q=some (.tup [.int x,.int y],q):=fun _=>rfl;have j2:ixA (.tup [.int x,.int y,.int k]) (.int 2) s1=some (.int k,s1):=zaS (by decide) rfl;have k0:mFld C "laid" (mVar 0) [some (.ref o),some (.tup [.int x,.int y,.int k])] s=some (.ref ld,s):=zoc h0;have k1:mFld C "kinds" (mVar 0) [some (.ref o),some (.tup [.int x,.int y,.int k])] s1=some (.ref kd,s1):=zrd h1;have m1:=zf9 (C:=C) (o:=o) (f:="look_around") (g:=zaK C) (mm:=zae (mSlB (mVar 1) (zkN) (zkM (mCon (.int 2)))) mNil) (ρ:=[some (.tup [.int x,.int y,.int k])]) rfl h2;refine zn9 (ρ:=[some (.ref o),some (.tup [.int x,.int y,.int k])]) ?_;unfold zgz;refine zan (ρ1:=[some (.ref o),some (.tup [.int x,.int y,.int k])]) (s1:=s1) (by simp[k0,zbA,hl,ea]) ?_;refine zan (ρ1:=[some (.ref o),some (.tup [.int x,.int y,.int k])]) (s1:=s2) ?_ (by rw[zgu,m1];simp[es,e3]);rw[zkF];have c1:mAsg (mBin ixA (mVar 1) (mCon (.int 2))) (gSb setD (mFld C "kinds" (mVar 0)) (mSlB (mVar 1) (zkN) (zkM (mCon (.int 2))))) [some (.ref o),some (.tup [.int x,.int y,.int k])] s1=none:=by simp[k1,es,j2,setD]
 rw[c1,zio];unfold zmr;simp[k1,es,j2,dp]
def zsB(c:Ctx bed e stk ks w h)(hn:st0.length<=o/\o < sd/\sd < kd/\kd < ld/\ld < rd)(q:Gw C o sd kd ld rd bed stk P R F Y st0 s)(g:Good e stk ks w h P F Y)(hP:∀ t∈P,0<=t.2.2/\t.2.2 < (ks.length:Int))(ht:0<=t.2.2/\t.2.2 < (ks.length:Int))(hf:fnd P t.1 t.2.1=none)(hYl:Y.length<=900)(hPl:P.length<=900)(hRl:R.length<=900) :
   ∃ (F':Int×Int->List Tl) (Y':List Yq) (s':Sto),zbR C [.ref o,tD t] s=some (.non,s')/\Gw C o sd kd ld rd bed stk (P++[t]) (R++[t]) F' Y' st0 s'/\Good e stk ks w h (P++[t]) F' Y'/\Y'.length<=Y.length+5:=by
 obtain⟨x,y,k⟩:=t;have ea:=append_at (x:=tD (x,y,k)) q.hl (by rw[Ag];omega);have er:R.map tD++[tD (x,y,k)]=(R++[(x,y,k)]).map tD:=by simp
 rw[er] at ea;have q1:=q.lay hn (R++[(x,y,k)]);have dp:=zhW (x:=x) (y:=y) (k:=k) q1.hk (by omega);rw[zgW hf] at dp;have q2:=q1.kin hn (P++[(x,y,k)]);obtain⟨F',Y',s3,e3,q3,u3,l3⟩:=zfv (p:=(x,y)) c hn q2 (fun z hz=>by
   rcases List.mem_append.mp hz with hz | hz
   . exact hP z hz
   . rw[List.mem_singleton.mp hz];exact ht) hYl
 exact⟨F',Y',s3,zsA q.ob q.hl ea q1.ob dp q2.ob e3,q3,zlP g u3,l3⟩
end
def zfS{C:Addr}{o:Nat}{f:Str}{mv:ME}{y:D}{fs:List (Str×D)}{ρ:Rho}{s s2:Sto}(hv:mv (some (.ref o)::ρ) s=some (y,s2))(h:s2[o]?=some (.ob C fs))(hl:fs.length < 1000):ziB C f (mVar 0) mv (some (.ref o)::ρ) s=some (.nx (some (.ref o)::ρ),s2.set o (.ob C (zbb f y fs))):=by
 have e:mVar 0 (some (.ref o)::ρ) s2=some (.ref o,s2):=rfl;unfold ziB;rw[hv];simp only[Ae,e,h];simp[hl]
section
variable {C:Addr} {o sd kd ld rd:Nat} {bed:D} {e w h:Int} {stk:List (Str×Int)} {ks:List (List Str)} {P R:List Tl} {F F0:Int×Int->List Tl} {Y Y0:List Yq} {st0 s s':Sto}
def zlL{pl:D}{x y:Int}{v:D}{s1:Sto}(h:OA C o bed sd kd ld rd s)(e1:zax C [.ref o,.tup [.int x,.int y]] s=some (v,s1)):zbr C [some (.ref o),some pl,some (.int x),some (.int y)] s=some (.nx [some (.ref o),some pl,some (.int x),some (.int y)],s1):=by
 have m1:=zf9 (C:=C) (o:=o) (f:="look_at") (g:=zax C) (mm:=zae (mTup (zae (mVar 2) (zae (mVar 3) mNil))) mNil) (ρ:=[some pl,some (.int x),some (.int y)]) rfl h;unfold zbr;rw[zgu,m1];simp[e1]
def colP(x:Int)(m:Nat):List (Int×Int):=(AA m).map fun (j:Nat)=>(x,(j:Int))
def flrP(h n:Nat):List (Int×Int):=((AA n).map fun (i:Nat)=>colP (i:Int) h).flatten
def zlY(x:Int)(m:Nat):colP x (m+1)=colP x m++[(x,(m:Int))]:=by
 unfold colP;rw[Cg,AZ];rfl
def zhT(h n:Nat):flrP h (n+1)=flrP h n++colP (n:Int) h:=by
 unfold flrP;rw[Cg,AZ,Dq];simp
def zhJ{h n:Nat}{p:Int×Int}(h0:0<=p.1)(h1:p.1 < (n:Int))(h2:0<=p.2)(h3:p.2 < (h:Int)):p∈flrP h n:=by
 unfold flrP colP;rw[DX];refine⟨_,List.mem_map.mpr ⟨p.1.toNat,by simp;omega,rfl⟩,List.mem_map.mpr ⟨p.2.toNat,by simp;omega,?_⟩⟩;obtain⟨a,b⟩:=p;simp at *;omega
def zoa{a2 a3:Option D}(c:Ctx bed e stk ks w h)(hn:st0.length<=o/\o < sd/\sd < kd/\kd < ld/\ld < rd)(q:Gw C o sd kd ld rd bed stk P R F0 [] st0 s)(hP:∀ t∈P,0<=t.2.2/\t.2.2 < (ks.length:Int)) :
   ∃ (F:Int×Int->List Tl) (Y:List Yq) (b2 b3:Option D) (s':Sto),mFor (mR1 (mBin ixA (mBin ixA (mVar 1) (mCon (.int 1))) (mCon (.int 0)))) (gNm 2) (zbq C) [some (.ref o),some bed,a2,a3] s=some (.nx [some (.ref o),some bed,b2,b3],s')/\Gw C o sd kd ld rd bed stk P R F Y st0 s'/\Good e stk ks w h P F Y/\Y.length<=144:=by
 have f1:=c.fo.w0;have f2:=c.fo.w1;have f3:=c.fo.h0;have f4:=c.fo.h1;have i0:∀ s:Sto,ixA (.tup [.int w,.int h]) (.int 0) s=some (.int w,s):=fun s=>zaS (by decide) rfl;have i1:∀ s:Sto,ixA (.tup [.int w,.int h]) (.int 1) s=some (.int h,s):=fun s=>zaS (by decide) rfl;have h12:h.toNat<=12:=by omega
 have key:=zbX (W:=⟨run 0 w.toNat,[]⟩) (g:=gNm 2) (m:=zbq C) (ds:=run 0 w.toNat) (ρ:=[some (.ref o),some bed,a2,a3]) (st:=s)
   (Inv:=fun i ρ s=>(∃ b2 b3,ρ=[some (.ref o),some bed,b2,b3])/\∃ (F:Int×Int->List Tl) (Y:List Yq),Gw C o sd kd ld rd bed stk P R F Y st0 s/\Upto e stk ks w h P (flrP h.toNat i) F0 [] F Y/\Y.length<=i*h.toNat)
   ⟨⟨_,_,rfl⟩,F0,[],q,Upto.nil,A0 _⟩ (fun _ _ _ _ _=>rfl) (fun i dd ρ s hdd hI=>by
     obtain⟨⟨b2,b3,rfl⟩,F,Y,q',u',l'⟩:=hI;obtain⟨hi,rfl⟩:=zdZ hdd;have l12:i*h.toNat<=12*12:=Cy (by omega) h12;have key2:=zbX (W:=⟨run 0 h.toNat,[]⟩) (g:=gNm 3) (m:=zbr C) (ds:=run 0 h.toNat) (ρ:=[some (.ref o),some bed,some (.int (i:Int)),b3]) (st:=s)
       (Inv:=fun j ρ s=>(∃ b3,ρ=[some (.ref o),some bed,some (.int (i:Int)),b3])/\∃ (F:Int×Int->List Tl) (Y:List Yq),Gw C o sd kd ld rd bed stk P R F Y st0 s/\Upto e stk ks w h P (flrP h.toNat i++colP (i:Int) j) F0 [] F Y/\Y.length<=i*h.toNat+j)
       ⟨⟨_,rfl⟩,F,Y,q',by simpa[colP] using u',by omega⟩ (fun _ _ _ _ _=>rfl) (fun j dd ρ s hdd hI=>by
         obtain⟨⟨b3,rfl⟩,F,Y,q',u',l'⟩:=hI;obtain⟨hj,rfl⟩:=zdZ hdd;obtain⟨Y2,s2,e2,q2,h2,l2⟩:=zd9 (p:=((i:Int),(j:Int))) c hn q' hP (by omega);refine⟨_,s,_,s2,rfl,zlL q'.ob e2,⟨_,rfl⟩,_,Y2,q2,?_,by omega⟩;rw[zlY,<-Aq];exact Upto.step u' h2)
     obtain⟨ρ',s',el,⟨b3',rfl⟩,F',Y',q2,u2,l2⟩:=key2;rw[zbW] at u2 l2;refine⟨[some (.ref o),some bed,some (.int (i:Int)),b3],s,[some (.ref o),some bed,some (.int (i:Int)),b3'],s',rfl,?_,⟨_,_,rfl⟩,F',Y',q2,by rw[zhT];exact u2,by rw[Em];omega⟩;have sm:small h=true:=zbV (by omega) (by omega);have hfl:=c.fl s;unfold zbq;have:mR1 (mBin ixA (mBin ixA (mVar 1) (mCon (.int 1))) (mCon (.int 1))) [some (.ref o),some bed,some (.int (i:Int)),b3] s=some (⟨run 0 h.toNat,[]⟩,s):=by
       generalize (i:Int)=kk;simp[hfl,i1,sm]
     rw[zcV,this];exact el)
 obtain⟨ρ',s',el,⟨b2,b3,rfl⟩,F,Y,q',u',l'⟩:=key;rw[zbW] at u' l';have l12:w.toNat*h.toNat<=12*12:=Cy (by omega) h12;refine⟨F,Y,b2,b3,s',?_,q',⟨fun p=>?_,fun p hp=>?_⟩,by omega⟩
 . have sm:small w=true:=zbV (by omega) (by omega);have hfl:=c.fl s;have:mR1 (mBin ixA (mBin ixA (mVar 1) (mCon (.int 1))) (mCon (.int 0))) [some (.ref o),some bed,a2,a3] s=some (⟨run 0 w.toNat,[]⟩,s):=by simp[hfl,i0,sm]
   rw[zcV,this];exact el
 . by_cases hm:p∈flrP h.toNat w.toNat
   . exact (u'.new p hm).1
   . refine (u'.old p hm).1.trans ⟨fun⟨n,z⟩=>(nomatch z),fun z=>absurd (zhJ z.1.1 (by have:=z.1.2.1;omega) z.1.2.2.1 (by have:=z.1.2.2.2;omega)) hm⟩
 . have hm:p∈flrP h.toNat w.toNat:=zhJ hp.1.1 (by have:=hp.1.2.1;omega) hp.1.2.2.1 (by have:=hp.1.2.2.2;omega);exact (u'.new p hm).2
end
section
variable {C:Addr} {e w h:Int} {stk:List (Str×Int)} {ks:List (List Str)} {sd:List Tl} {st:Sto}
def zkC{s:Sto}{n k:Nat}{x y:O}(h:s[n]?=some x)(hk:n≠k):(s.set k y)[n]?=some x:=by rw[Ai (fun z=>hk z.symm)];exact h
def zej{s:Sto}{n:Nat}{x y:O}(h:s[n]?=some x):(s++[y])[n]?=some x:=by rw[Al (getElem?_lt h)];exact h
def zhz(f:Str)(d:D):∀ fs:List (Str×D),(zbb f d fs).length<=fs.length+1
 | []=>Af _
 | (g,x)::r=>by
   have ih:=zhz f d r;unfold zbb
   split
   . simp
   . simp;omega
def zew{f:Str}{d:D}{fs:List (Str×D)}{n:Nat}(h:fs.length<=n):(zbb f d fs).length<=n+1:=Az (zhz f d fs) (CA h)
def ze3{fs:List (Str×D)}(h:fs.length<=0+1+1+1+1):fs.length < 1000:=BG h (by decide)
def zql(c:Ctx (bedD e stk ks w h sd) e stk ks w h)(hsd:∀ t∈sd,zcq w h ks.length t)(nds:PlNd sd)(hsl:sd.length<=6) :
   ∃ (s5 kd ld rd:Nat) (F:Int×Int->List Tl) (Y:List Yq) (st':Sto),zbm C [.ref st.length,bedD e stk ks w h sd] (st++[.ob C []])=some (.non,st')/\(st.length<=st.length/\st.length < s5/\s5 < kd/\kd < ld/\ld < rd)/\Gw C st.length s5 kd ld rd (bedD e stk ks w h sd) stk sd [] F Y st st'/\Good e stk ks w h sd F Y/\Y.length<=144:=by
 obtain⟨hs,i0,ie,i1,i2⟩:=c.at_;have x2:∀ s:Sto,ixA (bedD e stk ks w h sd) (.int 2) s=some (zaF sd,s):=fun s=>zaS (by decide) rfl;have hP:∀ t∈sd,0<=t.2.2/\t.2.2 < (ks.length:Int):=fun t ht=>⟨(hsd t ht).2.2.2.2.1,(hsd t ht).2.2.2.2.2⟩
 -- the object
 have o0:=zaQ st (.ob C []);have g0:Gr st (st++[.ob C []]):=Gr.app _ _;have l0:(st++[O.ob C []]).length=st.length+1:=by simp
 generalize ht0:st++[O.ob C []]=t0 at *;generalize hbed:bedD e stk ks w h sd=bed at *
 -- bed
 have r1:ziB C "bed" (mVar 0) (mVar 1) [some (.ref st.length),some bed,none,none] t0=some (.nx [some (.ref st.length),some bed,none,none],t0.set st.length (.ob C (zbb "bed" bed []))):=zfS rfl o0 (by simp);have o1:(t0.set st.length (.ob C (zbb "bed" bed [])))[st.length]?=some (.ob C (zbb "bed" bed [])):=by rw[AE (getElem?_lt o0)]
 have g1:Gr st (t0.set st.length (.ob C (zbb "bed" bed []))):=zeD g0 (Af _);have l1:(t0.set st.length (.ob C (zbb "bed" bed []))).length=st.length+1:=by rw[Bj,l0]
 generalize t0.set st.length (.ob C (zbb "bed" bed []))=t1 at *
 -- strengths
 have ed:=zmD (stk:=stk) (st:=t1) (by have:=c.hs.sl;omega);rw[l1] at ed;have d1:(t1++[O.dk (stD stk)])[st.length+1]?=some (.dk (stD stk)):=by rw[<-l1];exact zaQ t1 _
 have r2:ziB C "strengths" (mVar 0) (zav zoG (zae (mBin ixA (mBin ixA (mVar 1) (mCon (.int 0))) (mCon (.int 1))) (mNil))) [some (.ref st.length),some bed,none,none] t1=some (.nx [some (.ref st.length),some bed,none,none],(t1++[O.dk (stD stk)]).set st.length (.ob C (zbb "strengths" (.ref (st.length+1)) (zbb "bed" bed [])))):=zfS (by simp[i0,i1,ed]) (zej o1) (ze3 (Az (zew (Af 0)) (by decide)));have o2:((t1++[O.dk (stD stk)]).set st.length (.ob C (zbb "strengths" (.ref (st.length+1)) (zbb "bed" bed []))))[st.length]?=some (.ob C (zbb "strengths" (.ref (st.length+1)) (zbb "bed" bed []))):=by rw[AE (getElem?_lt (zej o1))]
 have d2:=zkC (k:=st.length) (y:=O.ob C (zbb "strengths" (.ref (st.length+1)) (zbb "bed" bed []))) d1 (by omega);have g2:Gr st ((t1++[O.dk (stD stk)]).set st.length (.ob C (zbb "strengths" (.ref (st.length+1)) (zbb "bed" bed [])))):=zeD (g1.trans (Gr.app _ _)) (Af _);have l2:((t1++[O.dk (stD stk)]).set st.length (.ob C (zbb "strengths" (.ref (st.length+1)) (zbb "bed" bed [])))).length=st.length+2:=by simp[l1]
 generalize (t1++[O.dk (stD stk)]).set st.length (.ob C (zbb "strengths" (.ref (st.length+1)) (zbb "bed" bed [])))=t2 at *
 -- kinds
 obtain⟨t3,e3,a3,g3⟩:=zsI (ts:=sd) (st:=t2) (by omega);rw[zmF nds] at a3;rw[l2] at e3 a3;have o3:=(g3.old _ (getElem?_lt o2)).trans o2;have d3:=(g3.old _ (getElem?_lt d2)).trans d2;have l3:=getElem?_lt a3;have gg3:=g2.trans g3;have r3:ziB C "kinds" (mVar 0) (zav zbc (zae (mBin ixA (mVar 1) (mCon (.int 2))) (mNil))) [some (.ref st.length),some bed,none,none] t2=some (.nx [some (.ref st.length),some bed,none,none],t3.set st.length (.ob C (zbb "kinds" (.ref (st.length+2)) (zbb "strengths" (.ref (st.length+1)) (zbb "bed" bed []))))):=zfS (by simp[x2,e3]) o3 (ze3 (Az (zew (zew (Af 0))) (by decide)));have o4:(t3.set st.length (.ob C (zbb "kinds" (.ref (st.length+2)) (zbb "strengths" (.ref (st.length+1)) (zbb "bed" bed [])))))[st.length]?=some (.ob C (zbb "kinds" (.ref (st.length+2)) (zbb "strengths" (.ref (st.length+1)) (zbb "bed" bed [])))):=by rw[AE (getElem?_lt o3)]
 have d4:=zkC (k:=st.length) (y:=O.ob C (zbb "kinds" (.ref (st.length+2)) (zbb "strengths" (.ref (st.length+1)) (zbb "bed" bed [])))) d3 (by omega);have k4:=zkC (k:=st.length) (y:=O.ob C (zbb "kinds" (.ref (st.length+2)) (zbb "strengths" (.ref (st.length+1)) (zbb "bed" bed [])))) a3 (by omega);have g4:Gr st (t3.set st.length (.ob C (zbb "kinds" (.ref (st.length+2)) (zbb "strengths" (.ref (st.length+1)) (zbb "bed" bed []))))):=zeD gg3 (Af _);generalize t3.set st.length (.ob C (zbb "kinds" (.ref (st.length+2)) (zbb "strengths" (.ref (st.length+1)) (zbb "bed" bed []))))=t4 at *;have l4:st.length+2 < t4.length:=getElem?_lt k4
 -- laid
 have r4:ziB C "laid" (mVar 0) (mLst (mNil)) [some (.ref st.length),some bed,none,none] t4=some (.nx [some (.ref st.length),some bed,none,none],(t4++[O.lst []]).set st.length (.ob C (zbb "laid" (.ref t4.length) (zbb "kinds" (.ref (st.length+2)) (zbb "strengths" (.ref (st.length+1)) (zbb "bed" bed [])))))):=zfS (by simp) (zej o4) (ze3 (Az (zew (zew (zew (Af 0)))) (by decide)));have o5:((t4++[O.lst []]).set st.length (.ob C (zbb "laid" (.ref t4.length) (zbb "kinds" (.ref (st.length+2)) (zbb "strengths" (.ref (st.length+1)) (zbb "bed" bed []))))))[st.length]?=some (.ob C (zbb "laid" (.ref t4.length) (zbb "kinds" (.ref (st.length+2)) (zbb "strengths" (.ref (st.length+1)) (zbb "bed" bed []))))):=by rw[AE (getElem?_lt (zej o4))]
 have w5:∀ {n:Nat} {x:O},(t4++[O.lst []])[n]?=some x->n≠st.length->((t4++[O.lst []]).set st.length (.ob C (zbb "laid" (.ref t4.length) (zbb "kinds" (.ref (st.length+2)) (zbb "strengths" (.ref (st.length+1)) (zbb "bed" bed []))))))[n]?=some x:=fun z zz=>zkC z zz;have d5:=w5 (zej d4) (by omega);have k5:=w5 (zej k4) (by omega);have a5:=w5 (zaQ t4 (.lst [])) (by omega);have g5:Gr st ((t4++[O.lst []]).set st.length (.ob C (zbb "laid" (.ref t4.length) (zbb "kinds" (.ref (st.length+2)) (zbb "strengths" (.ref (st.length+1)) (zbb "bed" bed [])))))):=zeD (g4.trans (Gr.app _ _)) (Af _);clear w5;generalize (t4++[O.lst []]).set st.length (.ob C (zbb "laid" (.ref t4.length) (zbb "kinds" (.ref (st.length+2)) (zbb "strengths" (.ref (st.length+1)) (zbb "bed" bed [])))))=t5 at *;have l5:t4.length < t5.length:=getElem?_lt a5
 -- ready
 have r5:ziB C "ready" (mVar 0) (znT true) [some (.ref st.length),some bed,none,none] t5=some (.nx [some (.ref st.length),some bed,none,none],(t5++[O.dt []]).set st.length (.ob C (zgk bed (st.length+1) (st.length+2) t4.length t5.length))):=zfS (by simp) (zej o5) (ze3 (zew (zew (zew (zew (Af 0))))));have w6:∀ {n:Nat} {x:O},(t5++[O.dt []])[n]?=some x->n≠st.length->((t5++[O.dt []]).set st.length (.ob C (zgk bed (st.length+1) (st.length+2) t4.length t5.length)))[n]?=some x:=fun z zz=>zkC z zz;have q:Gw C st.length (st.length+1) (st.length+2) t4.length t5.length bed stk sd [] (fun _=>[]) [] st ((t5++[O.dt []]).set st.length (.ob C (zgk bed (st.length+1) (st.length+2) t4.length t5.length))) :=
   ⟨by unfold OA;rw[AE (getElem?_lt (zej o5))],w6 (zej d5) (by omega),w6 (zej k5) (by omega),w6 (zej a5) (by omega),w6 (zaQ t5 (.dt [])) (by omega),Cp,fun z hz=>(nomatch hz),zeD (g5.trans (Gr.app _ _)) (Af _)⟩
 have hn:st.length<=st.length/\st.length < st.length+1/\st.length+1 < st.length+2/\st.length+2 < t4.length/\t4.length < t5.length:=⟨Af _,by omega,by omega,l4,l5⟩
 obtain⟨F,Y,b2,b3,t7,e7,q7,g7,y7⟩:=zoa (a2:=none) (a3:=none) c hn q hP;refine⟨_,_,_,_,F,Y,t7,zn9 (ρ:=[some (.ref st.length),some bed,b2,b3]) ?_,hn,q7,g7,y7⟩;unfold zcL;refine zan r1 (zan r2 (zan r3 (zan r4 (zan r5 e7))))
end
def ltP(p q:Int×Int):Prop:=p.1 < q.1\/(p.1=q.1/\p.2 < q.2)
def zqf(p q:Int×Int):HT.lexLt [p.1,p.2] [q.1,q.2]=true ↔ ltP p q:=by
 unfold ltP;rw[HT.lexLt_cons,HT.lexLt_cons,HT.lexLt_nil_nil]
 by_cases h1:p.1=q.1
 . rw[if_pos h1]
   by_cases h2:p.2=q.2
   . rw[if_pos h2];constructor
     . intro z;cases z
     . intro z;omega
   . rw[if_neg h2,decide_eq_true_iff];omega
 . rw[if_neg h1,decide_eq_true_iff];omega
def zkB{α:Type}{lt:α->α->Prop}(tr:∀ a b c,lt a b->lt b c->lt a c)(ir:∀ a,¬ lt a a)(at_:Nat->α)(bt:Nat->Nat->Bool){N:Nat}(hb:∀ i j,i<=N->j<=N->(bt i j=true ↔ lt (at_ i) (at_ j))):∀ k j,k<=N->j<=k->¬ lt (at_ j) (at_ (argBest bt k))
 | 0,j,_,hj=>by
   have:j=0:=by omega
   subst this;exact ir _
 | k+1,j,hN,hj=>by
   have hk:=zek bt k;unfold argBest
   split
   . rename_i h
     by_cases hjk:j=k+1
     . subst hjk;exact ir _
     . intro z;exact zkB tr ir at_ bt hb k j (by omega) (by omega) (tr _ _ _ z ((hb _ _ hN (by omega)).mp h))
   . rename_i h
     by_cases hjk:j=k+1
     . subst hjk;exact fun z=>h ((hb _ _ hN (by omega)).mpr z)
     . exact zkB tr ir at_ bt hb k j (by omega) (by omega)
def rowY(q:Yq):List Int:=[q.1.1,q.1.2]
def zqN{Y:List Yq}(hne:Y≠[]):∃ q∈Y,zqO (Y.map rowY)=rowY q/\∀ z∈Y,¬ ltP z.1 q.1:=by
 have hl:0 < Y.length:=List.length_pos_iff.mpr hne;have get:∀ i,i<=Y.length - 1->(Y.map rowY).getD i []=rowY (Y.getD i ((0,0),0)):=fun i hi=>by
   have:i < Y.length:=by omega
   simp[Ax,this]
 have key:=zkB (lt:=ltP) (fun a b c x y=>by unfold ltP at *;omega) (fun a z=>by unfold ltP at z;omega) (fun i=>(Y.getD i ((0,0),0)).1) (fun i j=>HT.lexLt ((Y.map rowY).getD i []) ((Y.map rowY).getD j [])) (N:=Y.length - 1) (fun i j hi hj=>by
   rw[get i hi,get j hj];exact zqf _ _) (Y.length - 1)
 have hb:=zek (fun i j=>HT.lexLt ((Y.map rowY).getD i []) ((Y.map rowY).getD j [])) (Y.length - 1);have e:zqO (Y.map rowY)=(Y.map rowY).getD (argBest (fun i j=>HT.lexLt ((Y.map rowY).getD i []) ((Y.map rowY).getD j [])) (Y.length - 1)) []:=by
   unfold zqO;rw[Ag]
 rw[e];generalize argBest (fun i j=>HT.lexLt ((Y.map rowY).getD i []) ((Y.map rowY).getD j [])) (Y.length - 1)=b at *;refine⟨Y.getD b ((0,0),0),?_,get b hb,fun z hz=>?_⟩
 . have:b < Y.length:=by omega
   rw[Ax,Ah this];exact Bm this
 . obtain⟨j,hj,rfl⟩:=Dl hz;have:=key j (Af _) (by omega);simpa[Ax,hj] using this
section
variable {C:Addr} {o sd kd ld rd:Nat} {bed:D} {e w h:Int} {stk:List (Str×Int)} {ks:List (List Str)} {P R:List Tl} {F:Int×Int->List Tl} {Y:List Yq} {st0 s:Sto}
def zsv(hr:s[rd]?=some (.dt (Y.map kyOf)))(hne:Y≠[])(hl:Y.length<=1000):znK [.ref rd] s=some (tupD (zqO (Y.map rowY)),s):=by
 have fl:fits (Y.map kyOf).length=true:=zaw (by rw[Ag];omega);have ne:(!(Y.map kyOf).isEmpty)=true:=by
   cases Y with
   | nil=>exact absurd rfl hne
   | cons a l=>rfl
 have ek:zdA (Y.map kyOf)=(Y.map rowY).map tupD:=by
   unfold zdA;rw[A7,A7];rfl
 have er:rowsOf ((Y.map rowY).map tupD)=some (Y.map rowY):=zd0 fun r hr=>by
   obtain⟨q,_,rfl⟩:=List.mem_map.mp hr;simp[rowY]
 unfold znK;simp only[hr,fl,ne,Bool.and_self,if_true,ek,er,Bi]
def zoL{ρ:Rho}(hb:OA C o bed sd kd ld rd s)(hr:s[rd]?=some (.dt (Y.map kyOf)))(hl:Y.length<=1000):znP (mFld C "ready" (mVar 0)) (some (.ref o)::ρ) s=some (!Y.isEmpty,s):=by
 have fl:fits (Y.map kyOf).length=true:=zaw (by rw[Ag];omega);unfold znP;rw[zqr hb];simp only[Ae,hr,fl,if_true]
 cases Y <;> rfl
def zpP(q:Gw C o sd kd ld rd bed stk P R F [] st0 s):zb6 C [.ref o] s=some (.non,s):=by
 have t:=zoL (ρ:=[none]) q.ob q.hr (by simp);refine zcn ?_;unfold zfF;refine zfT ?_;show mIf _ _ _ [some (.ref o),none] s=_;rw[zl7];have c0:znQ (znP (mFld C "ready" (mVar 0))) [some (.ref o),none] s=some (true,s):=by rw[zmH,t];rfl
 rw[c0,Ae,if_pos rfl];simp
def zt5{p:D}{n:Nat}{tl v:D}{s1:Sto}(hb:OA C o bed sd kd ld rd s)(t:znP (mFld C "ready" (mVar 0)) [some (.ref o),none] s=some (true,s))(em:znK [.ref rd] s=some (p,s))(ei:ixA (.ref rd) p s=some (.ref n,s))(e0:ixA (.ref n) (.int 0) s=some (tl,s))(el:zbR C [.ref o,tl] s=some (v,s1)):zb6 C [.ref o] s=some (tl,s1):=by
 have k1:∀ ρ:Rho,mFld C "ready" (mVar 0) (some (.ref o)::ρ) s=some (.ref rd,s):=fun ρ=>zqr hb;have m1:=zf9 (C:=C) (o:=o) (f:="lay") (g:=zbR C) (mm:=zae (mVar 1) mNil) (ρ:=[some tl]) rfl hb;refine zcn ?_;unfold zfF;refine zan (ρ1:=[some (.ref o),none]) (s1:=s) ?_ ?_
 . show mIf _ _ _ [some (.ref o),none] s=_;rw[zl7];have c0:znQ (znP (mFld C "ready" (mVar 0))) [some (.ref o),none] s=some (false,s):=by rw[zmH,t];rfl
   rw[c0,Ae,if_neg AV];rfl
 . refine zan (ρ1:=[some (.ref o),some tl]) (s1:=s) (by simp[k1,em,ei,e0]) ?_;refine zan (ρ1:=[some (.ref o),some tl]) (s1:=s1) (by rw[zgu,m1];simp[el]) ?_;simp
def zsR{p:Int×Int}{n:Nat}{t:Tl}(ht:t∈gK e stk ks P p.1 p.2 n):t.1=p.1/\t.2.1=p.2/\0<=t.2.2/\t.2.2 < (n:Int):=by
 unfold gK at ht;obtain⟨k,hk,rfl⟩:=List.mem_map.mp ht;have:=List.mem_range.mp (List.mem_filter.mp hk).1;exact⟨rfl,rfl,by show (0:Int)<=(k:Int);omega,by show (k:Int) < (n:Int);omega⟩
def zpO(c:Ctx bed e stk ks w h)(hn:st0.length<=o/\o < sd/\sd < kd/\kd < ld/\ld < rd)(q:Gw C o sd kd ld rd bed stk P R F Y st0 s)(g:Good e stk ks w h P F Y)(hP:∀ t∈P,0<=t.2.2/\t.2.2 < (ks.length:Int))(hne:Y≠[])(hYl:Y.length<=900)(hPl:P.length<=900)(hRl:R.length<=900) :
   ∃ (p:Int×Int) (t:Tl) (L:List Tl) (F':Int×Int->List Tl) (Y':List Yq) (s':Sto),okP e stk ks w h P p/\(∀ p',okP e stk ks w h P p'->¬ ltP p' p)/\gK e stk ks P p.1 p.2 ks.length=t::L/\zb6 C [.ref o] s=some (tD t,s')/\Gw C o sd kd ld rd bed stk (P++[t]) (R++[t]) F' Y' st0 s'/\Good e stk ks w h (P++[t]) F' Y'/\Y'.length<=Y.length+5:=by
 obtain⟨⟨p,n0⟩,hq,eb,hmin⟩:=zqN hne;have hok:=(g.key p).mp ⟨n0,hq⟩;have hmin':∀ p',okP e stk ks w h P p'->¬ ltP p' p:=fun p' hp'=>by
   obtain⟨n',hn'⟩:=(g.key p').mpr hp';exact hmin _ hn'
 have t:=zoL (ρ:=[none]) q.ob q.hr (by omega);have tt:(!Y.isEmpty)=true:=by
   cases Y with
   | nil=>exact absurd rfl hne
   | cons a l=>rfl
 rw[tt] at t;have em:=zsv q.hr hne (by omega);rw[eb] at em;have em:znK [.ref rd] s=some (.tup [.int p.1,.int p.2],s):=em
 rcases zmJ (p:=p) (Y:=Y) with ⟨_,z⟩ | ⟨n,hn1,hv⟩
 . exact absurd rfl (z _ hq)
 . have ei:=ztl q.hr hv;have hy:=(q.hy _ hn1).2;rw[g.lst p hok] at hy
   cases hg:gK e stk ks P p.1 p.2 ks.length with
   | nil=>exact absurd hg hok.2.2
   | cons tl L =>
     rw[hg] at hy;have e0:ixA (.ref n) (.int 0) s=some (tD tl,s):=zcp hy (by decide) rfl;obtain⟨m1,m2,m3,m4⟩:=zsR (p:=p) (t:=tl) (by rw[hg];exact An);obtain⟨F',Y',s',el,q',g',l'⟩:=zsB (t:=tl) c hn q g hP ⟨m3,m4⟩ (by rw[m1,m2];exact hok.2.1) hYl hPl hRl;exact⟨p,tl,L,F',Y',s',hok,hmin',hg,zt5 q.ob t em ei e0 el,q',g',l'⟩
end
end L2.MP.stickytiles_k15_least_growings
namespace L2.MP.stickytiles_k15_least_growings
open PySem L2.MP L2.MP.Hd
section
variable {e w h:Int} {stk:List (Str×Int)} {ks:List (List Str)} {P:List Tl}
def zkg{f:Int×Int->List Tl}:∀ {ps:List (Int×Int)},(∀ p∈ps,f p=[])->(ps.map f).flatten=[]
 | [],_=>rfl
 | p::ps,h=>by
   rw[Av,FD,h p An,zkg fun q hq=>h q (Ak _ hq)];rfl
def zgl{f:Int×Int->List Tl}{p:Int×Int}{t:Tl}{L:List Tl}(hp:f p=t::L):∀ {ps:List (Int×Int)},ps.Pairwise ltP->p∈ps->(∀ q∈ps,f q≠[]->¬ ltP q p)->∃ M,(ps.map f).flatten=t::M
 | [],_,hm,_=>nomatch hm
 | q::ps,hs,hm,hl=>by
   rw[Av,FD];rw[List.pairwise_cons] at hs
   rcases List.mem_cons.mp hm with rfl | hm
   . exact⟨L++(ps.map f).flatten,by rw[hp];rfl⟩
   . have:f q=[]:=by
       cases z:f q with
       | nil=>rfl
       | cons a b=>exact absurd (hs.1 p hm) (hl q An (by rw[z];simp))
     rw[this];exact zgl hp hs.2 hm fun r hr=>hl r (Ak _ hr)
def zsV(x:Int)(m:Nat):(eC P x m).Pairwise ltP:=by
 unfold eC;refine List.Pairwise.map _ (R:=fun a b:Nat=>a < b) (fun a b hab=>.inr ⟨rfl,by show (a:Int) < (b:Int);omega⟩) ?_;exact List.Pairwise.filter _ List.pairwise_lt_range
def zlT{x:Int}{m:Nat}{p:Int×Int}:p∈eC P x m ↔ p.1=x/\0<=p.2/\p.2 < (m:Int)/\okE P p.1 p.2=true:=by
 unfold eC;rw[Fi]
 constructor
 . rintro ⟨j,hj,rfl⟩;obtain⟨h1,h2⟩:=List.mem_filter.mp hj;have:=List.mem_range.mp h1;exact⟨rfl,by show (0:Int)<=(j:Int);omega,by show (j:Int) < (m:Int);omega,h2⟩
 . rintro ⟨h0,h1,h2,h3⟩;obtain⟨a,b⟩:=p;have h0:a=x:=h0;have h1:0<=b:=h1;have h2:b < (m:Int):=h2;subst h0;have hb:((b.toNat:Nat):Int)=b:=Cb h1;exact⟨b.toNat,List.mem_filter.mpr ⟨List.mem_range.mpr (by omega),by rw[hb];exact h3⟩,by rw[hb]⟩
def zqx{n:Nat}{p:Int×Int}(hh:0<=h):p∈eF P h n ↔ 0<=p.1/\p.1 < (n:Int)/\0<=p.2/\p.2 < h/\okE P p.1 p.2=true:=by
 unfold eF;rw[DX]
 constructor
 . rintro ⟨l,hl,hp⟩;obtain⟨i,hi,rfl⟩:=List.mem_map.mp hl;have:=List.mem_range.mp hi;obtain⟨h0,h1,h2,h3⟩:=zlT.mp hp;exact⟨by omega,by omega,h1,by omega,h3⟩
 . rintro ⟨h0,h1,h2,h3,h4⟩;have hb:((p.1.toNat:Nat):Int)=p.1:=Cb h0;exact⟨_,List.mem_map.mpr ⟨p.1.toNat,List.mem_range.mpr (by omega),rfl⟩,zlT.mpr ⟨hb.symm,h2,by omega,h4⟩⟩
def zqw:∀ n:Nat,(eF P h n).Pairwise ltP
 | 0=>by simp[eF]
 | n+1=>by
   rw[zkk];refine List.pairwise_append.mpr ⟨zqw n,zsV _ _,fun a ha b hb=>?_⟩;have hb:=(zlT.mp hb).1;unfold eF at ha;obtain⟨l,hl,hp⟩:=List.mem_flatten.mp ha;obtain⟨i,hi,rfl⟩:=List.mem_map.mp hl;have:=List.mem_range.mp hi;have ha:=(zlT.mp hp).1;exact .inl (by omega)
def zt6{bed:D}(c:Ctx bed e stk ks w h){p:Int×Int}(hp:okP e stk ks w h P p):p∈eF P h w.toNat:=by
 have f1:=c.fo.w0;have f3:=c.fo.h0;obtain⟨⟨x0,x1,y0,y1⟩,hf,hg⟩:=hp;refine (zqx (by omega)).mpr ⟨x0,by omega,y0,y1,?_⟩;unfold okE;rw[hf]
 cases hn:(AA 4).filter (pres P p.1 p.2) with
 | nil=>exact absurd (zqo c.hs.e0 (zpV hn) _) hg
 | cons a l=>rfl
def ztn{bed:D}(c:Ctx bed e stk ks w h){p:Int×Int}(hp:p∈eF P h w.toNat)(hg:gK e stk ks P p.1 p.2 ks.length≠[]):okP e stk ks w h P p:=by
 have f1:=c.fo.w0;have f3:=c.fo.h0;obtain⟨h0,h1,h2,h3,h4⟩:=(zqx (by omega)).mp hp;refine⟨⟨h0,by omega,h2,h3⟩,?_,hg⟩;unfold okE at h4;rw[Ao] at h4;simpa using h4.1
def zlz{bed:D}(c:Ctx bed e stk ks w h)(hno:∀ p,¬ okP e stk ks w h P p):mays e stk ks P (eF P h w.toNat)=[]:=by
 unfold mays;refine zkg (f:=fun p=>gK e stk ks P p.1 p.2 ks.length) fun p hp=>?_
 cases z:gK e stk ks P p.1 p.2 ks.length with
 | nil=>rfl
 | cons a l=>exact absurd (ztn c hp (by rw[z];simp)) (hno p)
def zjM{bed:D}(c:Ctx bed e stk ks w h){p:Int×Int}{t:Tl}{L:List Tl}(hp:okP e stk ks w h P p)(hl:∀ p',okP e stk ks w h P p'->¬ ltP p' p)(hg:gK e stk ks P p.1 p.2 ks.length=t::L):∃ M,mays e stk ks P (eF P h w.toNat)=t::M:=by
 unfold mays;exact zgl (f:=fun p=>gK e stk ks P p.1 p.2 ks.length) (p:=p) hg (zqw _) (zt6 c hp) fun q hq hne=>hl q (ztn c hq hne)
end
section
variable {C:Addr} {o sd kd ld rd:Nat} {bed:D} {e w h:Int} {stk:List (Str×Int)} {ks:List (List Str)} {S:List Tl} {F:Int×Int->List Tl} {Y:List Yq} {st0 s:Sto}
def nxt(e:Int)(stk:List (Str×Int))(ks:List (List Str))(w h:Int)(P:List Tl):Option Tl:=(mays e stk ks P (eF P h w.toNat)).head?
def seqR(e:Int)(stk:List (Str×Int))(ks:List (List Str))(w h:Int)(S:List Tl):Nat->List Tl
 | 0=>[]
 | n+1=>match nxt e stk ks w h (S++seqR e stk ks w h S n) with
   | some t=>seqR e stk ks w h S n++[t]
   | none=>seqR e stk ks w h S n
def zgN{n:Nat}{t:Tl}(hx:nxt e stk ks w h (S++seqR e stk ks w h S n)=some t):seqR e stk ks w h S (n+1)=seqR e stk ks w h S n++[t]:=by rw[seqR,hx]
def zgO{n:Nat}(hx:nxt e stk ks w h (S++seqR e stk ks w h S n)=none):∀ k,seqR e stk ks w h S (n+k)=seqR e stk ks w h S n
 | 0=>rfl
 | k+1=>by
   have ih:=zgO hx k;show seqR e stk ks w h S (n+k+1)=_;rw[seqR,ih,hx]
def zjf:∀ n,(seqR e stk ks w h S n).length<=n
 | 0=>Af _
 | n+1=>by
   have ih:=zjf n;rw[seqR]
   split
   . rw[AH,B0];omega
   . omega
def zo4{n m:Nat}(hn:nxt e stk ks w h (S++seqR e stk ks w h S n)=none)(hm:nxt e stk ks w h (S++seqR e stk ks w h S m)=none):seqR e stk ks w h S n=seqR e stk ks w h S m:=by
 rcases Nat.le_total n m with z | z
 . obtain⟨k,rfl⟩:=GF z;exact (zgO hn k).symm
 . obtain⟨k,rfl⟩:=GF z;exact zgO hm k
def zhF{P:List Tl}{t:Tl}(hf:FlOk w h)(hx:nxt e stk ks w h P=some t):May e stk ks w h P t:=znM hf (List.mem_of_mem_head? hx)
def zjd(hf:FlOk w h):∀ n,zoH e stk ks w h S (seqR e stk ks w h S n)
 | 0=>trivial
 | n+1=>by
   have ih:=zjd hf n;rw[seqR]
   split
   . rename_i t hx;exact zjk ih (zhF hf hx)
   . exact ih
def zrc(ps:List (Int×Int))(P:List Tl):Nat:=(ps.filter fun p=>(fnd P p.1 p.2).isNone).length
def filter_lt{α:Type}{p q:α->Bool}(h:∀ a,p a=true->q a=true):∀ {l:List α},(l.filter p).length<=(l.filter q).length/\((∃ a∈l,q a=true/\p a=false)->(l.filter p).length+1<=(l.filter q).length)
 | []=>⟨Af _,fun⟨a,ha,_⟩=>by cases ha⟩
 | a::l=>by
   obtain⟨i1,i2⟩:=filter_lt h (l:=l)
   cases ep:p a with
   | true =>
     have eq:=h a ep;simp only[B9,ep,eq,if_true,Ar];refine⟨by omega,fun⟨b,hb,z⟩=>?_⟩
     rcases List.mem_cons.mp hb with rfl | hb
     . rw[ep] at z;cases z.2
     . have:=i2 ⟨b,hb,z⟩;omega
   | false =>
     cases eq:q a with
     | true =>
       simp only[B9,ep,eq,if_true,Ar,AX,if_false];exact⟨by omega,fun _=>by omega⟩
     | false =>
       simp only[B9,ep,eq,AX,if_false];refine⟨i1,fun⟨b,hb,z⟩=>?_⟩
       rcases List.mem_cons.mp hb with rfl | hb
       . rw[eq] at z;cases z.1
       . exact i2 ⟨b,hb,z⟩
def zfC{ps:List (Int×Int)}{P:List Tl}{t:Tl}(ht:(t.1,t.2.1)∈ps)(hn:fnd P t.1 t.2.1=none):zrc ps (P++[t])+1<=zrc ps P:=by
 refine (filter_lt (fun u hu=>?_)).2 ⟨(t.1,t.2.1),ht,by rw[hn];rfl,?_⟩
 . have h1:fnd (P++[t]) u.1 u.2=none:=by simpa using hu
   have h2:=zdr.mp h1;have:fnd P u.1 u.2=none:=zdr.mpr fun v hv=>h2 v (Bw _ hv);rw[this];rfl
 . cases q:fnd (P++[t]) t.1 t.2.1 with
   | none=>exact absurd ⟨rfl,rfl⟩ (zdr.mp q t (by simp))
   | some k=>rfl
def zmp{P:List Tl}{t:Tl}(hf:FlOk w h)(hm:May e stk ks w h P t):(t.1,t.2.1)∈flrP h.toNat w.toNat:=by
 have f1:=hf.w0;have f3:=hf.h0;obtain⟨⟨x0,x1,y0,y1,_,_⟩,_,_⟩:=hm;exact zhJ x0 (by show t.1 < _;omega) y0 (by show t.2.1 < _;omega)
def zke(a:Nat):∀ n,(flrP a n).length=n*a
 | 0=>by simp[flrP]
 | n+1=>by rw[zhT,AH,zke a n,Em];simp[colP]
def ze4(hf:FlOk w h):∀ n,(∀ m,m < n->nxt e stk ks w h (S++seqR e stk ks w h S m)≠none)->zrc (flrP h.toNat w.toNat) (S++seqR e stk ks w h S n)+n<=w.toNat*h.toNat
 | 0,_=>by
   have:=A8 (fun p:Int×Int=>(fnd (S++seqR e stk ks w h S 0) p.1 p.2).isNone) (flrP h.toNat w.toNat);rw[zke] at this;exact this
 | n+1,hh=>by
   have ih:=ze4 hf n fun m hm=>hh m (by omega)
   cases hx:nxt e stk ks w h (S++seqR e stk ks w h S n) with
   | none=>exact absurd hx (hh n (by omega))
   | some t =>
     have hm:=zhF hf hx;have:=zfC (zmp hf hm) hm.2.1;rw[zgN hx,<-Aq];omega
end
end L2.MP.stickytiles_k15_least_growings
namespace L2.MP.stickytiles_k15_least_growings
open PySem L2.MP L2.MP.Hd
open L2.MP.Hn (zaF zar srtT zaA)
section
variable {C:Addr} {o s5 kd ld rd:Nat} {bed:D} {e w h:Int} {stk:List (Str×Int)} {ks:List (List Str)} {S P R:List Tl} {F:Int×Int->List Tl} {Y:List Yq} {st0 s:Sto}
def zj9{ps:List (Int×Int)}(nd:PlNd P)(hp:∀ t∈P,(t.1,t.2.1)∈ps):∀ n,n<=P.length->zrc ps (P.take n)+n<=ps.length
 | 0,_=>A8 _ _
 | n+1,hn=>by
   have ih:=zj9 nd hp n (by omega);have hlt:n < P.length:=hn;have e:P.take (n+1)=P.take n++[P[n]]:=by
     rw[BN,Ah hlt];rfl
   have nd1:PlNd (P.take n++[P[n]]):=by
     rw[<-e];exact List.Pairwise.sublist (Fo _ _) nd
   have:=zfC (hp _ (Bm hlt)) (zmo nd1);rw[e];omega
def zea(hf:FlOk w h):w.toNat*h.toNat<=60:=by
 have h1:=hf.w1;have h2:=hf.h1
 rcases hf.wh with z | z
 . exact Cy (show w.toNat<=5 by omega) (show h.toNat<=12 by omega)
 . exact Cy (show w.toNat<=12 by omega) (show h.toNat<=5 by omega)
def zkG{kn:Int}(hf:FlOk w h)(nd:PlNd P)(hP:∀ t∈P,zcq w h kn t):P.length<=60:=by
 have f1:=hf.w0;have f3:=hf.h0;have:=zj9 (ps:=flrP h.toNat w.toNat) nd (fun t ht=>by
   obtain⟨x0,x1,y0,y1,_,_⟩:=hP t ht;exact zhJ x0 (by show t.1 < _;omega) y0 (by show t.2.1 < _;omega)) P.length (Af _)
 rw[zke] at this;have:=zea hf;omega
def zje(hf:FlOk w h)(nds:PlNd S)(m:Nat):PlNd (S++seqR e stk ks w h S m):=zpi nds (zjd hf m)
def zc3(hf:FlOk w h)(hS:∀ t∈S,zcq w h ks.length t)(m:Nat):∀ t∈S++seqR e stk ks w h S m,zcq w h ks.length t:=fun t ht=>by
 rcases List.mem_append.mp ht with ht | ht
 . exact hS t ht
 . exact zhu (zjd hf m) t ht
def zoM{kn:Int}(hP:∀ t∈P,zcq w h kn t):∀ t∈P,0<=t.2.2/\t.2.2 < kn:=fun t ht=>⟨(hP t ht).2.2.2.2.1,(hP t ht).2.2.2.2.2⟩
def zjJ{f:Str}{g:GN}{mm:MA}{b:Option D}{ρ:Rho}(hf:(zgk bed s5 kd ld rd).lookup f=none)(h:OA C o bed s5 kd ld rd s):zg7 C f g (mVar 1) mm (b::some (.ref o)::ρ) s=(mm (b::some (.ref o)::ρ) s).bind fun p=>g (.ref o::p.1) p.2:=by
 have h:s[o]?=some (.ob C (zgk bed s5 kd ld rd)):=h;have e:mVar 1 (b::some (.ref o)::ρ) s=some (.ref o,s):=rfl;unfold zg7;rw[e];simp only[Ae,h,hf];simp
def zpN{d:D}{s1:Sto}(h:OA C o bed s5 kd ld rd s)(e1:zb6 C [.ref o] s=some (d,s1)):zbZ C [some bed,some (.ref o)] s=some (!zkO d,s1):=by
 have m1:=zjJ (C:=C) (o:=o) (f:="on") (g:=zb6 C) (mm:=mNil) (b:=some bed) (ρ:=[]) rfl h;have nn:∀ q:Sto,zq1 d .non q=some (.bl !zkO d,q):=fun q=>by unfold zq1 orG zmm;rw[zf1]
 unfold zbZ;simp[m1,e1,nn]
def zgm(c:Ctx bed e stk ks w h)(hn:st0.length<=o/\o < s5/\s5 < kd/\kd < ld/\ld < rd)(hS:∀ t∈S,zcq w h ks.length t)(nds:PlNd S) :
   ∀ (n m:Nat) {F:Int×Int->List Tl} {Y:List Yq} {s:Sto},Gw C o s5 kd ld rd bed stk (S++seqR e stk ks w h S m) (seqR e stk ks w h S m) F Y st0 s->Good e stk ks w h (S++seqR e stk ks w h S m) F Y->(∀ j,j < m->nxt e stk ks w h (S++seqR e stk ks w h S j)≠none)->w.toNat*h.toNat < n+m->Y.length<=144+5*m ->
   ∃ (M:Nat) (F':Int×Int->List Tl) (Y':List Yq) (s':Sto),Y3 (mWhF (zbZ C) (zct C) n [some bed,some (.ref o)] s=some (.nx [some bed,some (.ref o)],s')) (Gw C o s5 kd ld rd bed stk (S++seqR e stk ks w h S M) (seqR e stk ks w h S M) F' Y' st0 s') (nxt e stk ks w h (S++seqR e stk ks w h S M)=none)
 | 0,m,F,Y,s,q,g,hh,hlt,hY=>by
   have:=ze4 (e:=e) (stk:=stk) (ks:=ks) (S:=S) c.fo m hh;omega
 | n+1,m,F,Y,s,q,g,hh,hlt,hY=>by
   have hf:=ze4 (e:=e) (stk:=stk) (ks:=ks) (S:=S) c.fo m hh;have h60:=zea c.fo;have hT:=zc3 (e:=e) (stk:=stk) (ks:=ks) c.fo hS m;have hPl:=zkG c.fo (zje (e:=e) (stk:=stk) (ks:=ks) c.fo nds m) hT;have hRl:=zjf (e:=e) (stk:=stk) (ks:=ks) (w:=w) (h:=h) (S:=S) m
   by_cases hy:Y=[]
   . subst hy;have et:=zpN q.ob (zpP q);refine⟨m,F,[],s,?_,q,?_⟩
     . rw[mWhF];simp[et,zkO]
     . unfold nxt;rw[zlz c fun p hp=>by
         obtain⟨k,hk⟩:=(g.key p).mpr hp;cases hk]
       rfl
   . obtain⟨p,t,L,F',Y',s',hok,hmin,hg,eo,q',g',hl'⟩:=zpO c hn q g (zoM hT) hy (by omega) (by omega) (by omega);obtain⟨M0,hM0⟩:=zjM c hok hmin hg;have hx:nxt e stk ks w h (S++seqR e stk ks w h S m)=some t:=by
       unfold nxt;rw[hM0];rfl
     rw[Aq,<-zgN hx] at q' g';have et:=zpN q.ob eo;have nn:(!zkO (tD t))=true:=rfl;rw[nn] at et;obtain⟨M,F2,Y2,s2,e2,q2,n2⟩:=zgm c hn hS nds n (m+1) q' g' (fun j hj=>by
       by_cases hjm:j=m
       . subst hjm;rw[hx];simp
       . exact hh j (by omega)) (by omega) (by omega)
     refine⟨M,F2,Y2,s2,?_,q2,n2⟩;rw[mWhF];simp only[et,Ae,if_true];unfold zct;rw[zqT];exact e2
def zrL(q:Gw C o s5 kd ld rd bed stk P R F Y st0 s):zcv C [.ref o] s=some (.tup (R.map tD),s):=by
 have f:=zoc (ρ:=[]) q.ob;have et:=zbH q.hl;refine zcn ?_;unfold zgy;simp[f,et]
def ztN(q:Gw C o s5 kd ld rd bed stk P R F Y st0 s)(h2:∀ st:Sto,ixA bed (.int 2) st=some (zaF S,st))(hl:(S++R).length < 64):∃ s',zbl C [.ref o] s=some (zaF (srtT (S++R)),s')/\Gr s s':=by
 have fb:∀ st:Sto,OA C o bed s5 kd ld rd st->mFld C "bed" (mVar 0) [some (.ref o)] st=some (bed,st):=fun st z=>zqs z;have f1:=zqs (ρ:=[]) q.ob;rw[AH] at hl;have fS:fits S.length=true:=zaw (by omega);have el:zrb [zaF S] s=some (.ref s.length,s++[.lst (S.map tD)]):=by
   rw[zgI];unfold zrb zsy orN;have:zra [.tup (S.map tD)] s=some (.ref s.length,s++[.lst (S.map tD)]):=by
     unfold zra;simp only[Ag,fS,if_true]
   rw[this,zf1,zf1]
 have q1:=q.gr (Gr.app s [.lst (S.map tD)]);have a1:=zaQ s (.lst (S.map tD));have f2:=zoc (ρ:=[]) q1.ob;generalize hs1:s++[O.lst (S.map tD)]=s1 at *;have g1:Gr s s1:=hs1 ▸ Gr.app _ _;have ea:addD (.ref s.length) (.ref ld) s1=some (.ref s1.length,s1++[.lst ((S++R).map tD)]):=by
   have ff:fits (S.length+R.length)=true:=zaw (by omega);unfold addD;simp only[a1,q1.hl,Ag,ff,if_true];rw[AZ]
 have a2:=zaQ s1 (.lst ((S++R).map tD));have es:=zdw a2 (by rw[AH];omega);generalize hs2:s1++[O.lst ((S++R).map tD)]=s2 at *;have g2:Gr s1 s2:=hs2 ▸ Gr.app _ _;have et:=zbH (zaQ s2 (.lst ((srtT (S++R)).map tD)));refine⟨s2++[.lst ((srtT (S++R)).map tD)],zcn ?_,(g1.trans g2).trans (Gr.app _ _)⟩;unfold zcK;rw[zgI (srtT (S++R))];generalize (srtT (S++R)).map tD=B at *;generalize zaF S=SS at *;simp[f1,h2,el,f2,ea,es,et]
def endV(e:Int)(stk:List (Str×Int))(ks:List (List Str))(w h:Int)(S:List Tl)(M:Nat):D:=.tup [.tup ((seqR e stk ks w h S M).map tD),zaF (srtT (S++seqR e stk ks w h S M))]
def zeb{st:Sto}(c:Ctx (bedD e stk ks w h S) e stk ks w h)(hS:∀ t∈S,zcq w h ks.length t)(nds:PlNd S)(hsl:S.length<=6) :
   ∃ (M:Nat) (st':Sto),Y3 (zbh C [bedD e stk ks w h S] st=some (endV e stk ks w h S M,st')) (Gr st st') (nxt e stk ks w h (S++seqR e stk ks w h S M)=none):=by
 obtain⟨s5,kd,ld,rd,F,Y,s1,e1,hn,q,g,hy⟩:=zql (C:=C) (st:=st) c hS nds hsl;have h60:=zea c.fo;obtain⟨M,F',Y',s2,e2,q2,hx⟩:=zgm (S:=S) c hn hS nds 1000 0 (F:=F) (Y:=Y) (s:=s1) (by simpa[seqR] using q) (by simpa[seqR] using g) (fun j hj=>by omega) (by omega) (by omega);have hT:=zc3 (e:=e) (stk:=stk) (ks:=ks) c.fo hS M;have hPl:=zkG c.fo (zje (e:=e) (stk:=stk) (ks:=ks) c.fo nds M) hT;have x2:∀ s:Sto,ixA (bedD e stk ks w h S) (.int 2) s=some (zaF S,s):=fun s=>zaS (by decide) rfl;obtain⟨s3,e3,g3⟩:=ztN q2 x2 (by omega);have er:=zrL q2;have m1:=zjJ (C:=C) (o:=st.length) (f:="row") (g:=zcv C) (mm:=mNil) (b:=some (bedD e stk ks w h S)) (ρ:=[]) rfl q2.ob;have m2:=zjJ (C:=C) (o:=st.length) (f:="standing") (g:=zbl C) (mm:=mNil) (b:=some (bedD e stk ks w h S)) (ρ:=[]) rfl q2.ob;refine⟨M,s3,zcn ?_,q2.fr.trans g3,hx⟩;unfold zeW endV;generalize bedD e stk ks w h S=bed at *;generalize (seqR e stk ks w h S M).map tD=RR at *;generalize zaF (srtT (S++seqR e stk ks w h S M))=SS at *;refine zan (ρ1:=[some bed,some (.ref st.length)]) (s1:=s1) ?_ (zan e2 ?_)
 . have em:zqb C (zbm C) (zae (mVar 0) mNil) [some bed,none] st=some (.ref st.length,s1):=by
     unfold zqb;simp[e1]
   show mAsg _ _ [some bed,none] st=_;simp[em]
 . simp[m1,er,m2,e3]
end
def tP(t:Tl):PyData:=.tuple [.int t.1,.int t.2.1,.int t.2.2]
def zfI{n:Nat}{st:Sto}:∀ ts:List Tl,toPs (toP (n+2) st) (ts.map tD)=some (ts.map tP)
 | []=>rfl
 | t::ts=>by
   have e:toP (n+2) st (tD t)=some (tP t):=by
     obtain⟨x,y,k⟩:=t;show toP (n+2) st (.tup [.int x,.int y,.int k])=_;rw[toP];simp only[toPs,toP,Ae,Bi];rfl
   rw[Av,toPs,e,Ae,zfI ts];rfl
def zod{l m:Nat}{ts:List Tl}{st:Sto}(hl:st[l]?=some (.lst (ts.map tD)))(hm:st[m]?=some (.lst [])):eqD (.ref l) (.ref m) st=some (.bl ts.isEmpty,st):=by
 have e:toP 100 st (.ref l)=some (.list (ts.map tP)):=by
   rw[toP];simp only[zbA,hl,Ae];rw[zfI];rfl
 unfold eqD;rw[e,zdQ (n:=98) (as:=[]) hm]
 cases ts <;> rfl
def zqt{bed SS:D}{d l q:Nat}{L:List D}{a3 a4:Option D}{s s1 s2 s3:Sto}(e1:zbK [bed,.ref d] s=some (.ref q,s1))(hs2:s1++[.lst []]=s2)(en:eqD (.ref q) (.ref s1.length) s2=some (.bl true,s2))(et:zc0 [.ref l] s2=some (.tup L,s2))(e2:zay [.ref d] s2=some (SS,s3)) :
   zaY [some bed,some (.ref d),some (.ref l),a3,a4] s=some (.rt (.tup [.tup L,SS]),s3):=by
 unfold zaY;refine zan (ρ1:=[some bed,some (.ref d),some (.ref l),a3,some (.ref q)]) (s1:=s1) (by simp[e1]) ?_;refine zfT ?_;rw[zl7];have c0:mTst (mBin eqD (mVar 4) (mLst (mNil))) [some bed,some (.ref d),some (.ref l),a3,some (.ref q)] s1=some (true,s2):=by simp[hs2,en]
 rw[c0,Ae,if_pos rfl];simp[et,e2]
def zqu{bed:D}{d l q:Nat}{x y k:Int}{L:List D}{a3 a4:Option D}{s s1 s2 s3 s4:Sto}(e1:zbK [bed,.ref d] s=some (.ref q,s1))(hs2:s1++[.lst []]=s2)(en:eqD (.ref q) (.ref s1.length) s2=some (.bl false,s2))(ix:ixA (.ref q) (.int 0) s2=some (.tup [.int x,.int y,.int k],s2))(dp:dput s2 d (.tup [.int x,.int y]) (.int k)=some s3)(ix3:ixA (.ref q) (.int 0) s3=some (.tup [.int x,.int y,.int k],s3))(hl:s3[l]?=some (.lst L))(ap:zbQ (.ref l) [.tup [.int x,.int y,.int k]] s3=some (.non,s4)) :
   zaY [some bed,some (.ref d),some (.ref l),a3,a4] s=some (.nx [some bed,some (.ref d),some (.ref l),a3,some (.ref q)],s4):=by
 have es:slB (.tup [.int x,.int y,.int k]) none (some 2) s2=some (.tup [.int x,.int y],s2):=rfl;have j2:ixA (.tup [.int x,.int y,.int k]) (.int 2) s2=some (.int k,s2):=zaS (by decide) rfl;unfold zaY;refine zan (ρ1:=[some bed,some (.ref d),some (.ref l),a3,some (.ref q)]) (s1:=s1) (by simp[e1]) ?_;refine zan (ρ1:=[some bed,some (.ref d),some (.ref l),a3,some (.ref q)]) (s1:=s2) ?_ ?_
 . rw[zl7];have c0:mTst (mBin eqD (mVar 4) (mLst (mNil))) [some bed,some (.ref d),some (.ref l),a3,some (.ref q)] s1=some (false,s2):=by simp[hs2,en]
   rw[c0,Ae,if_neg AV];rfl
 . refine zan (ρ1:=[some bed,some (.ref d),some (.ref l),a3,some (.ref q)]) (s1:=s3) ?_ (by simp[zbA,hl,ix3,ap]);rw[zkF];have c1:mAsg (mBin ixA (mBin ixA (mVar 4) (mCon (.int 0))) (mCon (.int 2))) (gSb setD (mVar 1) (mSlB (mBin ixA (mVar 4) (mCon (.int 0))) (zkN) (zkM (mCon (.int 2))))) [some bed,some (.ref d),some (.ref l),a3,some (.ref q)] s2=none:=by simp[ix,es,j2,setD]
   rw[c1,zio];unfold zmr;simp[ix,es,j2,dp]
section
variable {bed:D} {d l:Nat} {e w h:Int} {stk:List (Str×Int)} {ks:List (List Str)} {S:List Tl} {st0:Sto}
structure EI(d l:Nat)(P R:List Tl)(st0 s:Sto):Prop where
 at_:s[d]?=some (.dt (P.map kvOf))
 row:s[l]?=some (.lst (R.map tD))
 fr:Gr st0 s
def EI.gr{P R:List Tl}{s s':Sto}(q:EI d l P R st0 s)(g:Gr s s'):EI d l P R st0 s':=⟨(g.old _ (getElem?_lt q.at_)).trans q.at_,(g.old _ (getElem?_lt q.row)).trans q.row,q.fr.trans g⟩
def zlQ(hf:FlOk w h){n:Nat}(hh:∀ m,m < n->nxt e stk ks w h (S++seqR e stk ks w h S m)≠none)(hn:w.toNat*h.toNat<=n):nxt e stk ks w h (S++seqR e stk ks w h S n)=none:=by
 have h1:=ze4 (e:=e) (stk:=stk) (ks:=ks) (S:=S) hf n hh
 cases hx:nxt e stk ks w h (S++seqR e stk ks w h S n) with
 | none=>rfl
 | some t =>
   have hm:=zhF hf hx;have:=zfC (zmp hf hm) hm.2.1;omega
def zkj{W:Wk}(hW:∀ s,walked W s=true)(c:Ctx bed e stk ks w h)(hdl:st0.length<=d/\d < l)(hS:∀ t∈S,zcq w h ks.length t)(nds:PlNd S) :
   ∀ (ds:List D) (m:Nat) {a3 a4:Option D} {s:Sto},EI d l (S++seqR e stk ks w h S m) (seqR e stk ks w h S m) st0 s->(∀ j,j < m->nxt e stk ks w h (S++seqR e stk ks w h S j)≠none)->ds.length+m=w.toNat*h.toNat ->
   ∃ (M:Nat) (s':Sto),nxt e stk ks w h (S++seqR e stk ks w h S M)=none/\((zft W (gNm 3) zaY ds [some bed,some (.ref d),some (.ref l),a3,a4] s=some (.rt (endV e stk ks w h S M),s')/\Gr st0 s')\/∃ b3 b4,zft W (gNm 3) zaY ds [some bed,some (.ref d),some (.ref l),a3,a4] s=some (.nx [some bed,some (.ref d),some (.ref l),b3,b4],s')/\(EI d l (S++seqR e stk ks w h S M) (seqR e stk ks w h S M) st0 s'))
 | [],m,a3,a4,s,q,hh,hl=>by
   refine⟨m,s,zlQ c.fo hh (by simp at hl;omega),.inr ⟨a3,a4,?_,q⟩⟩;unfold zft;rw[if_pos (hW _)]
 | dd::ds,m,a3,a4,s,q,hh,hl=>by
   have hT:=zc3 (e:=e) (stk:=stk) (ks:=ks) c.fo hS m;have nd:=zje (e:=e) (stk:=stk) (ks:=ks) c.fo nds m;have hPl:=zkG c.fo nd hT;obtain⟨s1,e1,a1,g1⟩:=zsw c (zoM hT) q.at_;have g2:Gr s (s1++[.lst []]):=g1.trans (Gr.app _ _);have a2:(s1++[O.lst []])[s.length]?=some (.lst ((mays e stk ks (S++seqR e stk ks w h S m) (eF (S++seqR e stk ks w h S m) h w.toNat)).map tD)):=by rw[Al (getElem?_lt a1)];exact a1
   have b2:=zaQ s1 (.lst []);have hx:nxt e stk ks w h (S++seqR e stk ks w h S m)=(mays e stk ks (S++seqR e stk ks w h S m) (eF (S++seqR e stk ks w h S m) h w.toNat)).head?:=rfl;generalize mays e stk ks (S++seqR e stk ks w h S m) (eF (S++seqR e stk ks w h S m) h w.toNat)=M at a1 a2 hx;have en:=zod a2 b2;have q2:=q.gr g2;generalize hs2:s1++[O.lst []]=s2 at *
   cases M with
   | nil =>
     obtain⟨s3,e3,g3⟩:=zc2 q2.at_ nd (by omega);refine⟨m,s3,hx,.inl ⟨?_,q2.fr.trans g3⟩⟩;exact zqd (hW _) (ρ1:=[some bed,some (.ref d),some (.ref l),some dd,a4]) rfl (zqt e1 hs2 en (zbH q2.row) e3)
   | cons t L =>
     have hx:nxt e stk ks w h (S++seqR e stk ks w h S m)=some t:=hx;have hm:=zhF c.fo hx;have sx:=zgN hx;obtain⟨x,y,k⟩:=t;have ix:ixA (.ref s.length) (.int 0) s2=some (.tup [.int x,.int y,.int k],s2):=zcp a2 (by decide) rfl;have dp:=zhW (x:=x) (y:=y) (k:=k) q2.at_ (by omega);rw[zgW hm.2.1,Aq,<-sx] at dp;have dlt:=getElem?_lt q2.at_;have slt:=getElem?_lt q.at_;have llt:=getElem?_lt q2.row;have a3':(s2.set d (.dt ((S++seqR e stk ks w h S (m+1)).map kvOf)))[s.length]?=some (.lst (((x,y,k)::L).map tD)):=by rw[Ai (by omega)];exact a2
     have r3:(s2.set d (.dt ((S++seqR e stk ks w h S (m+1)).map kvOf)))[l]?=some (.lst ((seqR e stk ks w h S m).map tD)):=by rw[Ai (by omega)];exact q2.row
     have d3:(s2.set d (.dt ((S++seqR e stk ks w h S (m+1)).map kvOf)))[d]?=some (.dt ((S++seqR e stk ks w h S (m+1)).map kvOf)):=by rw[AE dlt]
     have fr3:Gr st0 (s2.set d (.dt ((S++seqR e stk ks w h S (m+1)).map kvOf))):=zeD q2.fr hdl.1;generalize s2.set d (.dt ((S++seqR e stk ks w h S (m+1)).map kvOf))=s3 at *;have ix3:ixA (.ref s.length) (.int 0) s3=some (.tup [.int x,.int y,.int k],s3):=zcp a3' (by decide) rfl;have hRl:=zjf (e:=e) (stk:=stk) (ks:=ks) (w:=w) (h:=h) (S:=S) m;have h60:=zea c.fo;rw[Ar] at hl;have ap:=append_at (x:=tD (x,y,k)) r3 (by rw[Ag];omega);have q4:EI d l (S++seqR e stk ks w h S (m+1)) (seqR e stk ks w h S (m+1)) st0 (s3.set l (.lst ((seqR e stk ks w h S m).map tD++[tD (x,y,k)]))):=by
       refine⟨?_,?_,zeD fr3 (by omega)⟩
       . rw[Ai (by omega)];exact d3
       . rw[AE (getElem?_lt r3),sx,AZ];rfl
     have et:=zqu (a3:=some dd) (a4:=a4) e1 hs2 en ix dp ix3 r3 ap;obtain⟨M,s',hn,hc⟩:=zkj hW c hdl hS nds ds (m+1) (a3:=some dd) (a4:=some (.ref s.length)) q4 (fun j hj=>by
       by_cases hjm:j=m
       . subst hjm;rw[hx];simp
       . exact hh j (by omega)) (by omega)
     refine⟨M,s',hn,?_⟩;rw[zqe (hW _) (ρ1:=[some bed,some (.ref d),some (.ref l),some dd,a4]) rfl et];exact hc
def zsU{st:Sto}(c:Ctx (bedD e stk ks w h S) e stk ks w h)(hS:∀ t∈S,zcq w h ks.length t)(nds:PlNd S)(hsl:S.length<=6) :
   ∃ (M:Nat) (st':Sto),Y3 (zcD [bedD e stk ks w h S] st=some (endV e stk ks w h S M,st')) (Gr st st') (nxt e stk ks w h (S++seqR e stk ks w h S M)=none):=by
 obtain⟨d,s1,e1,a1,hd,g1⟩:=zlB (ts:=S) (st:=st) (by omega);rw[zmF nds] at a1;have hdl:=getElem?_lt a1;have q:EI d s1.length (S++seqR e stk ks w h S 0) (seqR e stk ks w h S 0) st (s1++[O.lst []]):=by
   refine⟨?_,zaQ s1 _,g1.trans (Gr.app _ _)⟩;rw[Al hdl,seqR,Ap];exact a1
 have h60:=zea c.fo;have f1:=c.fo.w0;have f2:=c.fo.w1;have f3:=c.fo.h0;obtain⟨M,s2,hx,hc⟩:=zkj (W:=⟨run 0 (w.toNat*h.toNat),[]⟩) (fun _=>rfl) c ⟨hd,hdl⟩ hS nds (run 0 (w.toNat*h.toNat)) 0 (a3:=none) (a4:=none) q (fun j hj=>by omega) (by rw[zbW];omega);have x2:∀ s:Sto,ixA (bedD e stk ks w h S) (.int 2) s=some (zaF S,s):=fun s=>zaS (by decide) rfl;have cf:=c.fl;have j0:∀ st:Sto,ixA (.tup [.int w,.int h]) (.int 0) st=some (.int w,st):=fun _=>zaS (by decide) rfl;have j1:∀ st:Sto,ixA (.tup [.int w,.int h]) (.int 1) st=some (.int h,st):=fun _=>zaS (by decide) rfl;have em:∀ st:Sto,mulA (.int w) (.int h) st=some (.int (w*h),st):=fun _=>mul_int (by omega);have er:mR1 (mBin mulA (mBin ixA (mBin ixA (mVar 0) (mCon (.int 1))) (mCon (.int 0))) (mBin ixA (mBin ixA (mVar 0) (mCon (.int 1))) (mCon (.int 1)))) [some (bedD e stk ks w h S),some (.ref d),some (.ref s1.length),none,none] (s1++[O.lst []])=some (⟨run 0 (w.toNat*h.toNat),[]⟩,s1++[O.lst []]):=by
   refine zlf (s1:=s1++[O.lst []]) (k:=w.toNat*h.toNat) (M:=w*h) ?_ ?_ (by omega)
   . rw[F4,Cb (by omega),Cb (by omega)]
   . generalize bedD e stk ks w h S=bed at *;simp[cf,j0,j1,em]
 have ebeg:∀ {R:Option (Fl×Sto)},mSeq (mFor (mR1 (mBin mulA (mBin ixA (mBin ixA (mVar 0) (mCon (.int 1))) (mCon (.int 0))) (mBin ixA (mBin ixA (mVar 0) (mCon (.int 1))) (mCon (.int 1))))) (gNm 3) (zaY)) (mRet (mTup (zae (zav zc0 (zae (mVar 2) (mNil))) (zae (zav zay (zae (mVar 1) (mNil))) (mNil))))) [some (bedD e stk ks w h S),some (.ref d),some (.ref s1.length),none,none] (s1++[O.lst []])=R->zdv (rho 5 [bedD e stk ks w h S]) st=R:=fun {R} hR=>by
   unfold zdv;generalize bedD e stk ks w h S=bed at *;refine (zan (ρ1:=[some bed,some (.ref d),some (.ref s1.length),none,none]) (s1:=s1++[O.lst []]) (by simp[x2,e1]) hR)
 rcases hc with ⟨el,g2⟩ | ⟨b3,b4,el,q2⟩
 . refine⟨M,s2,zcn (ebeg (zfT ?_)),g2,hx⟩;rw[zcV,er];exact el
 . have hT:=zc3 (e:=e) (stk:=stk) (ks:=ks) c.fo hS M;have nd:=zje (e:=e) (stk:=stk) (ks:=ks) c.fo nds M;have hPl:=zkG c.fo nd hT;obtain⟨s3,e3,g3⟩:=zc2 q2.at_ nd (by omega);have et:=zbH q2.row;refine⟨M,s3,zcn (ebeg (zan (ρ1:=[some (bedD e stk ks w h S),some (.ref d),some (.ref s1.length),b3,b4]) (s1:=s2) ?_ ?_)),q2.fr.trans g3,hx⟩
   . rw[zcV,er];exact el
   . unfold endV;generalize bedD e stk ks w h S=bed at *;generalize (seqR e stk ks w h S M).map tD=RR at *;generalize zaF (srtT (S++seqR e stk ks w h S M))=SS at *;simp[et,e3]
end
def zsZ{e:Int}{stk:List (Str×Int)}{ks:List (List Str)}{w h:Int}{sd:List Tl}(hs:HsOk e stk ks)(hf:FlOk w h):Ctx (bedD e stk ks w h sd) e stk ks w h :=
 ⟨⟨zfB e stk ks,fun s=>zaS (by decide) rfl,fun s=>zaS (by decide) rfl,fun s=>zaS (by decide) rfl,fun s=>zaS (by decide) rfl⟩,fun s=>zaS (by decide) rfl,hs,hf⟩
def zk1{w h kn:Int}{l:List Tl}(h':∀ t∈l,zcq w h kn t):∀ t∈srtT l,zcq w h kn t:=fun t ht=>h' t ((zaA l).mem_iff.mp ht)
def zhU{e w h:Int}{stk:List (Str×Int)}{ks:List (List Str)}{S:List Tl}{n m:Nat}(hn:nxt e stk ks w h (S++seqR e stk ks w h S n)=none)(hm:nxt e stk ks w h (S++seqR e stk ks w h S m)=none):endV e stk ks w h S n=endV e stk ks w h S m:=by
 unfold endV;rw[zo4 hn hm]
def zog{e w h:Int}{stk:List (Str×Int)}{ks:List (List Str)}{S:List Tl}{m:Nat}(c:Ctx (bedD e stk ks w h S) e stk ks w h)(hS:∀ t∈S,zcq w h ks.length t)(nds:PlNd S):∃ z:Str,∀ st:Sto,zjo [endV e stk ks w h S m] st=some (.str z,st):=by
 have f2:=c.fo.w1;have f4:=c.fo.h1;have k13:=c.hs.hi;have hT:=zc3 (e:=e) (stk:=stk) (ks:=ks) c.fo hS m;have hPl:=zkG c.fo (zje (e:=e) (stk:=stk) (ks:=ks) c.fo nds m) hT;have t1:=zfJ (ts:=seqR e stk ks w h S m) (fun t ht=>hT t (AM _ ht)) (by rw[AH] at hPl;omega) (by omega) (by omega) (by omega);have t2:=zfJ (zk1 hT) (by rw[(zaA _).length_eq];exact hPl) (by omega) (by omega) (by omega);refine zpj (zgE (w:=1680) (k:=3) (L:=2) (fun d hd=>?_) (Af 2)) (by decide) (by decide);simp only[Ba,Bd,or_false] at hd
 rcases hd with rfl | rfl
 . exact t1
 . exact t2
def zs0{C:Addr}{bed E:D}{z:Str}{a0 a1 a2:Option D}{s s1 s2:Sto}(e1:zbh C [bed] s=some (E,s1))(e2:zbh C [bed] s1=some (E,s2))(rz:∀ st:Sto,zjo [E] st=some (.str z,st)) :
   mIf (mOrT (mTst (mBin neS (zav zjo (zae (zav (zbh C) (zae (mVar 3) (mNil))) (mNil))) (mVar 4))) (mTst (mBin neS (zav zjo (zae (zav (zbh C) (zae (mVar 3) (mNil))) (mNil))) (mVar 4)))) (mRet (mCon (.bl false))) (zdm) [a0,a1,a2,some bed,some (.str z)] s=some (.nx [a0,a1,a2,some bed,some (.str z)],s2):=by
 have ns:∀ st:Sto,neS (.str z) (.str z) st=some (.bl false,st):=fun _=>zpZ;simp[e1,e2,rz,ns]
def znd{C:Addr}{ns:List Int}{k:Int}{a2 a3 a4:Option D}{s:Sto}(h0:0<=k)(h1:k<=1000) :
   ∃ (b2 b3 b4:Option D) (s':Sto),zh8 C [some (.kl (ns.map D.int)),some (.int k),a2,a3,a4] s=some (.nx [some (.kl (ns.map D.int)),some (.int k),b2,b3,b4],s'):=by
 obtain⟨s1,e1,p1,g1⟩:=zot (ns:=ns) (k:=k) (st:=s) h0 h1;generalize hn:s.length=n at *;obtain⟨e,stk,ks,w,h,sd,s2,e2,hs,hf,hsd,⟨l,hsl,ndl⟩,lsd,p2,f2⟩:=zqP p1 (by omega);have nd:PlNd sd:=by rw[hsl];exact zp0 (zaA l) ndl
 have c:Ctx (bedD e stk ks w h sd) e stk ks w h:=zsZ hs hf;obtain⟨M,s3,e3,g3,x3⟩:=zsU (st:=s2) c hsd nd lsd;obtain⟨z,rz⟩:=zog (m:=M) c hsd nd;obtain⟨M4,s4,e4,g4,x4⟩:=zeb (C:=C) (st:=s3) c hsd nd lsd;obtain⟨M5,s5,e5,g5,x5⟩:=zeb (C:=C) (st:=s4) c hsd nd lsd;rw[zhU x4 x3] at e4;rw[zhU x5 x3] at e5;refine⟨some (.ref n),some (bedD e stk ks w h sd),some (.str z),s5,?_⟩;generalize bedD e stk ks w h sd=bed at *;generalize ns.map D.int=NS at *;generalize endV e stk ks w h sd M=E at *;unfold zh8;refine zan (ρ1:=[some (.kl NS),some (.int k),some (.ref n),a3,a4]) (s1:=s1) (by simp[e1]) ?_;refine zan (ρ1:=[some (.kl NS),some (.int k),some (.ref n),some bed,a4]) (s1:=s2) (by simp[e2]) ?_;refine zan (ρ1:=[some (.kl NS),some (.int k),some (.ref n),some bed,some (.str z)]) (s1:=s3) (by simp[e3,rz]) ?_;exact zs0 e4 e5 rz
def znY{C:Addr}(ns:List Int)(hl:ns.length<=63):∃ st,zoz C [.kl (ns.map D.int)] []=some (.bl true,st):=by
 obtain⟨M,hM,hM4⟩:∃ M:Nat,(1+(if (ns.length:Int) < 3 then (ns.length:Int) else 3))=(M:Int)/\M<=4:=by
   by_cases h:(ns.length:Int) < 3
   . exact⟨1+ns.length,by rw[if_pos h];omega,by omega⟩
   . exact⟨4,by rw[if_neg h];rfl,by omega⟩
 have key:=zbX (W:=⟨run 0 M,[]⟩) (g:=gNm 1) (m:=zh8 C) (ds:=run 0 M) (ρ:=[some (.kl (ns.map D.int)),none,none,none,none]) (st:=[])
   (Inv:=fun i ρ s=>∃ a b c d,ρ=[some (.kl (ns.map D.int)),a,b,c,d]) ⟨_,_,_,_,rfl⟩ (fun _ _ _ _ _=>rfl) (fun i dd ρ s hd hI=>by
     obtain⟨a1,a2,a3,a4,rfl⟩:=hI;obtain⟨hi,rfl⟩:=zdZ hd;obtain⟨b2,b3,b4,s',e⟩:=znd (C:=C) (ns:=ns) (k:=(i:Int)) (a2:=a2) (a3:=a3) (a4:=a4) (s:=s) (by omega) (by omega);exact⟨[some (.kl (ns.map D.int)),some (.int (i:Int)),a2,a3,a4],s,_,s',rfl,e,_,_,_,_,rfl⟩)
 obtain⟨ρ',s2,el,a1,a2,a3,a4,rfl⟩:=key;refine⟨s2,zcn ?_⟩;unfold ztz;have elen:lenD [.kl (ns.map D.int)] []=some (.int (ns.length:Int),[]):=by rw[znX,Ag]
 have er:mR1 (mBin addD (mCon (.int 1)) (zav zp7 (zae (mCon (.int 3)) (zae (zav lenD (zae (mVar 0) (mNil))) (mNil))))) [some (.kl (ns.map D.int)),none,none,none,none] []=some (⟨run 0 M,[]⟩,[]):=by
   refine zlf (s1:=[]) (k:=M) hM ?_ (by omega);generalize ns.map D.int=NS at *;generalize (ns.length:Int)=K at *;simp[elen,zp7]
 refine zan (ρ1:=[some (.kl (ns.map D.int)),a1,a2,a3,a4]) (s1:=s2) (by
   show mFor _ _ _ [some (.kl (ns.map D.int)),none,none,none,none] []=_;rw[zcV,er];exact el) ?_
 simp
end L2.MP.stickytiles_k15_least_growings
namespace L2.MP.stickytiles_k15_least_growings
open PySem L2 L2.MP PySem.Spec PyProof.Rows PySem.W
def zru{K:Ab}{H:Hp}{a C:Addr}{ns:List Int}(hl:ns.length<=63)(hO:Only H)(hS:SqL K H a (ns.map V.int)):spM K 1 (zoz C) [.ref a] H (fun v _=>v=.bl true) fun _ _ _=>False:=by
 obtain⟨st,e⟩:=znY (C:=C) ns hl;exact zmY hO hS e
def fns:List (Str×Stmt):=("_wall",top 0)::("is_whole",top 2)::("is_tuple",top 3)::("is_place",top 4)::("places_around",top 6)::("sides_of",top 7)::("kinds_by_place",top 8)::("names_facing",top 9)::("strength_together",top 10)::("growings_at",top 11)::("first_end",top 15)::("_law_begin",top 17)::("_law_draw",top 18)::("_law_names",top 19)::("_law_kind",top 20)::("_law_house",top 21)::("_law_standing",top 22)::("_law_bed",top 23)::("_law_lying",top 24)::("_law_standing_of",top 25)::("_law_step",top 26)::("_law_sides",top 27)::("_law_by",top 28)::("_law_empty",top 29)::("_law_may",top 30)::("_law_end",top 31)::("law",top 32)::[]
def bls:List Str:=["isinstance","int","bool","tuple","len","enumerate","zip","sum","any","dict","range","min","list","sorted","repr"]
def cos:List (Str×(Str ⊕ Int)):=[]
def mds:List (Str×Str×Stmt):=[("look_at","Grow.look_at",inClass (top 13) 1),("__init__","Grow.__init__",inClass (top 13) 0),("look_around","Grow.look_around",inClass (top 13) 2),("lay","Grow.lay",inClass (top 13) 3),("on","Grow.on",inClass (top 13) 5),("standing","Grow.standing",inClass (top 13) 7),("row","Grow.row",inClass (top 13) 8)]
def nos:List Str:=["bed","strengths","kinds","laid","ready"]
def vw:Program:=view PySem.Challenge.pw_stickytiles_k15_least_growings [0,2,3,4,6,7,8,9,10,11,13,15,17,18,19,20,21,22,23,24,25,26,27,28,29,30,31,32]
def zo5:LeftO PySem.Challenge.pw_stickytiles_k15_least_growings vw [] (fun s=>xlAt vw [] s&&recOk [] s) (Hx.hookC fns bls cos "Grow" mds nos).obs (Hx.hookC fns bls cos "Grow" mds nos).val 20000:=by
 intro w
 kernel_rfl
def zqX{l:D6}{w:World}{K:Ab}{h:Heap}{mg:Str->Option Value}{fa C:Addr}(A:Hx.Has K fns bls cos)(B:Hx.HasC K C "Grow" mds nos)(X:K.In h)(G:h.Ns mainGlobals mg)(hfa:mg "law"=some (.ref fa)) :
   ∃ fd:FuncData,(∀ (s:Shared) (v:Value),BindsTo s fd ⟨[v],[]⟩ [("_law_script",v)])/\∀ base:Heap,K.In base->base.Ns mainGlobals mg->FnOk l.prog w K mg base CX0 8 fa fd ["_law_script"] (spM K 1 (zoz C)):=by
 obtain⟨hf,hb,hc⟩:=A;simp only[fns,bls,cos,EH,Hx.CoIn] at hf hb hc;obtain⟨⟨f0,a0⟩,⟨f1,a1⟩,⟨f2,a2⟩,⟨f3,a3⟩,⟨f4,a4⟩,⟨f5,a5⟩,⟨f6,a6⟩,⟨f7,a7⟩,⟨f8,a8⟩,⟨f9,a9⟩,⟨f17,a17⟩,⟨f18,a18⟩,⟨f19,a19⟩,⟨f20,a20⟩,⟨f21,a21⟩,⟨f22,a22⟩,⟨f23,a23⟩,⟨f24,a24⟩,⟨f25,a25⟩,⟨f26,a26⟩,⟨f27,a27⟩,⟨f28,a28⟩,⟨f29,a29⟩,⟨f30,a30⟩,⟨f31,a31⟩,⟨f32,a32⟩,⟨f33,a33⟩,-⟩:=hf;obtain⟨z0,z1,z2,z3,z4,z5,z6,z7,z8,z9,z10,z11,z12,z13,z14,-⟩:=hb;obtain⟨hq,hm,ho⟩:=B;simp only[mds,nos,EH] at hm ho;obtain⟨⟨f10,a10⟩,⟨f11,a11⟩,⟨f12,a12⟩,⟨f13,a13⟩,⟨f14,a14⟩,⟨f15,a15⟩,⟨f16,a16⟩,-⟩:=hm;obtain⟨n_bed,n_strengths,n_kinds,n_laid,n_ready,-⟩:=ho;exact all_mk X G hfa hq a0 a1 a2 a3 a4 a5 a6 a7 a8 a9 a10 a11 a12 a13 a14 a15 a16 a17 a18 a19 a20 a21 a22 a23 a24 a25 a26 a27 a28 a29 a30 a31 a32 a33 n_bed n_strengths n_kinds n_laid n_ready z0 z1 z2 z3 z4 z5 z6 z7 z8 z9 z10 z11 z12 z13 z14
end L2.MP.stickytiles_k15_least_growings
open PySem PySem.W PyProof.Rows L2.MP L2.MP.stickytiles_k15_least_growings in
set_option maxRecDepth 100000 in
set_option maxHeartbeats 0 in
theorem PySem.Challenge.cw_stickytiles_k15_least_growings_holds : PySem.Challenge.rw_stickytiles_k15_least_growings.Holds := by
 refine holds_law (by decide +kernel) fun said=>?_;refine holds_open (q:=vw) (loose:=[]) (XP:=XL vw []) (YP:=(Hx.hookC fns bls cos "Grow" mds nos).says) zo5 (Hx.hookC fns bls cos "Grow" mds nos).of (Hx.hookC fns bls cos "Grow" mds nos).keeps (fun s e=>xl_of s (Bool.and_eq_true_iff.mp e).1) XL.keeps (by rfl) (by rfl) (by rfl) (fun s e=>recFacts_of (Bool.and_eq_true_iff.mp e).2) (by rfl) said (by decide +kernel) ⟨rfl,rfl,rfl,rfl,rfl,by decide +kernel⟩ ?hw ?hc
 case hw=>w_witness2
 case hc=>exact Hx.walk_hasC (l:=PySem.Challenge.rw_stickytiles_k15_least_growings) (n:=63) (k:=8) (x:="_law_script") (CX:=L2.CX0) (sp:=fun K C=>spM K 1 (zoz C)) rfl (by decide) rfl ⟨rfl,by decide,by decide,rfl⟩ (fun K C w mg fa h A B X G e=>zqX A B X G e) (fun K C H a ns hl hO hS=>zru hl hO hS) fun _ _ _ _ z=>z
