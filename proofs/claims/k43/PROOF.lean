import PyProof.Rows.All
import Wide.All
import Wide.FinOn
import PyProof.EqAt
import PyProof.EqKinds
import PyProof.TupleCall
import PyProof.AttrMissHeap
import PyProof.StrWalks
import PyProof.ListStr
import PyProof.EnumMake
import PyProof.SumWalk
import PyProof.DictWalks
import PyProof.FitsBits
import PyProof.Rows.RuleIs
import PyProof.DictTruth
import PyProof.MinMaxWalk
import PyProof.FactsAll.tuple_2
import PyProof.WalkInts
import PyProof.WalksMore
import PyProof.SetScanFacts
import PyProof.Draws
import PyProof.TupleKey
import PyProof.IsRules
import PyProof.NeKinds
import PyProof.FactsAll.dict_2
import PyProof.InstStoreFacts
import PyProof.AssignAttr
import KE.KDictList
import KE.KDictOf
import KE.KDictSum
import KE.KIsAll
import KE.KItem
import KE.KRevSl
import KE.KSortAsk
import KE.KSortTup
import OpenK.KCall
import OpenK.KCls
import OpenK.KDescr
import OpenK.KDict
import OpenK.KGet
import OpenK.KLine
import OpenK.KList
import OpenK.KMake
import OpenK.KMore
import OpenK.KNot
import OpenK.KOps
import OpenK.KWalk
import OpenK.Peek
import PySem.Challenge.RW_stickytiles_k43_begun_anew
set_option maxHeartbeats 8000000
set_option maxRecDepth 100000
open PySem renaming wpAny_bind→Aa,wpAny_pure→Ac,wpAny_holding→AM,wpAny_newObj_type→AN,mem_of_lookup→AV,wpAny_callSpecial?_slot→A7,wpAny_field→A9,wpAny_call_entry→Bc,wpAny_mono→Bs,wpAny_seqItems→Bv,wpAny_truthy_bool→Bw,codeAny_builtin→BC,tupleKind_room_in1→BE,plainId_quiet→BG,wpAny_letGo→BV,wpAny_rule→BY,wpAny_dictEntries→B0,wpAny_typeNameOfWhole_keyiter→B2,wpAny_setField_rec→Ca,wpAny_passesOwn→Cb,wpAny_notOrdered_dict→Cc,wpAny_getItem_str_slice→Ct,wpAny_loadPart'→Cv,wpAny_pyNext_list_item→Cz,sizeLine_eq→CA,wpAny_pyNext_list_end→CK,call_meetsIn→CL,wpAny_tryCatch→CM,post_val_or_str→CZ,wpAny_Call_Name_kw→C6,call_meets→Dc,wpAny_pyIter_list→Di,wpAny_Call_method→Dk,wpAny_newList→Dr,wpAny_execs_nil→Dt,wpAny_typeOf→Dw,pushCells_keeps→Dy,wpAny_updateSeq_pair→DC,wpAny_setField→DM,wpAny_standAt→DV,wpAny_attempt→DY,wpAny_onRaise→DZ,wpAny_missedRemoval_other→D4,codeAny_mono→D7,wpAny_pyNext_tuple_item→Ee,wpAny_dictEpoch→Ez,size_of_entries→EA,wpAny_updateSeq→EB,wpAny_pyNext_tuple_end→EH,wpAny_isTrue_Compare1→ER,wpAny_newTuple→EW,builtinLookup_eq_fast→E3,wpAny_isOneOf_keyiter→E4,wpAny_pyIter_keyiter→Fk,evalPart_none→Fo,wpAny_dictSet_pairs→Fs,wpAny_dictFind_heap→Fu,Within→Fy,seqIndex_neg→FH,sub_AttributeError→FL,call_function_tree→FM,wpAny_assign_Name→FP,wpAny_sequenceKey→FV,wpAny_pyIter_enum→F4,seqIndex_of→Ga,wpAny_of_eq→Gb,wpAny_Name→Gp,typeIs_str→Gq,call→Gs
open PySem.W renaming Frag→Ab,keepIn→Bf,findIn→Bl,fnOf→Bu,emptyDict→Bx,instObj→BW,codeIn→Cm,plainGet→CP,hasDictIn→Dj,isFn→Du,makesIn→Dv,nsIn→Dx,plainGet_of→DD,lookIn→DJ,callWith_K→DQ,KitAt→DW,methodObj→D1,plainOver→D2,kitx_dict→D3,takerIn→Eo,cellsFrom_some→EI,methodCall_KW→ES,kitx_list→FY,handedIn→Ge,kat_kind→Gi,kas_ask→Gx,kitOne→GJ,KdlSrc→GK
open PySem.Heap renaming get?_push_of_some→Ad,lt_size→Aj,get?_push_size→Ap,size_push→Ba,SameBut→BD,get?_update_self→BQ,get?_update_other→CF,ExtBut→EN
open Option renaming bind_some→Ae,map_some→AS,isSome_map→By,isNone_none→Cw,getD_some→Ds,isSome_some→FB,getD_none→Gg,map_none→GF,bind→G8
open List renaming length_map→Af,getElem?_eq_getElem→Ah,mem_cons_of_mem→Ai,getElem?_set_ne→Ak,mem_cons_self→Al,append_assoc→Am,append_nil→An,map_cons→Ao,getElem?_append_left→Ar,range→As,length_cons→Aw,getD_eq_getElem?_getD→Ax,size_toArray→Ay,getElem?_map→Az,length_append→AB,getElem?_set_self→AC,mem_of_getElem?→AF,mem_append_right→AI,map_map→AK,take_length→AR,find?_cons→AU,map_append→AX,getElem?_append_right→AZ,length_filter_le→A2,length_take→A3,mem_append_left→A4,lookup_cons→A6,mem_cons→Bb,take_add_one→Bd,length_nil→Bg,getElem_mem→Bj,length_singleton→Bm,length_set→Bq,not_mem_nil→Bt,replicate→BH,map_nil→BK,filter_cons→BM,length_replicate→BO,any_cons→B1,filterMap_cons→B3,toArray→B9,length_range→Cg,findIdx_cons→Cj,getElem?_replicate→Cr,range_succ→Cy,lookup→CB,eq_nil_of_length_eq_zero→CG,mergeSort_perm→CT,map_congr_left→CV,of_mem_zip→CW,drop_eq_getElem_cons→CY,mem_of_find?_eq_some→C2,nil_append→C3,mem_append→C4,getElem?_take_of_lt→C7,forIn_nil→De,pairwise_mergeSort→Dg,getElem?_cons_zero→Dh,getElem?_set→Dl,reverse_cons→Do,filter_eq_nil_iff→Dq,nodup_cons→Dz,getElem_of_mem→DF,getElem?_range→DG,flatten_append→DH,drop_zero→DK,zip_cons_cons→DR,filter_append→DS,mem_singleton→DT,mem_flatten→Ed,eraseIdx_cons_succ→Ei,length_eraseIdx_le→Ej,getElem?_cons_succ→Ek,forIn_cons→Ep,filter_nil→Ey,foldl_cons→EF,mem_filter→EG,drop_eq_nil_of_le→EL,countP_mono_left→EU,dropLast_eq_take→Fc,mem_of_mem_take→Fj,length_reverse→Ft,replicate_succ→Fv,filter_sublist→Fw,filterMap_map→FD,find?_eq_none→FN,mem_map→FO,any_eq_false→FR,take_sublist→FS,zip_nil_left→FU,nodup_append→FW,getElem?_inj→FX,foldl_append→F5,find?_append→F6,ext_getElem?→F7,flatten_cons→F8,length→F9,map_id→Gc,length_drop→Gf,countP_cons→Gh,getElem_map→Gj,zipIdx_cons→Gk,zipIdx_nil→Gz,length_zip→GA,find?_some→GD,nodup_nil→GI,mem_range→GL,take_left→GM,all_cons→GQ,sum_cons→GU
open Nat renaming le_refl→Ag,ne_of_lt→Au,le_trans→AA,lt_of_lt_of_le→AD,lt_irrefl→AL,zero_le→A5,lt_of_le_of_lt→BR,le_of_lt→BX,lt_trans→B7,le_of_succ_le→Ci,lt_succ_self→Cn,le_add_right→Cp,le_succ→CC,mul_le_mul→CO,succ_le_succ→CS,ne_of_gt→C5,sub_self→C8,lt_succ_of_lt→Dm,add_le_add_left→DE,add_mul→DN,le_of_eq→D5,min_le_right→D9,not_lt_zero→Eu,min_le_left→Gu
open Bool renaming and_eq_true→Aq,false_eq_true→AJ,false_ne_true→AY,not_eq_true'→BZ,and_comm→D0,or_eq_true→Er,not_false→Fd,and_true→GR,and_self→GW
open Option.some renaming inj→Av
open PySem.Value renaming ref→AE,none→Bk,int→DO,str→Em,bool→Ff,type→Gn,isStrOf→GP,builtin→GS,isInt→G4,bytes→G5,float→G6
open PySem.PassesOwn renaming never→AG
open PySem.NameKind renaming free→AH,cell→AW
open Array renaming length_toList→AO,getElem?_toList→Bn,getD_eq_getD_getElem?→B8,mk→Gd,toList→GY
open Int renaming toNat_of_nonneg→AQ,toNat_natCast→Bz,emod_lt_of_pos→BS,emod_nonneg→Cd,le_trans→Co,le_refl→Dp,le_of_lt→DB,eq_ofNat_of_zero_le→El,natCast_mul→Et,le_antisymm→Gv
open PySem.Around renaming under_plainId→A8,under→D6
open PySem.Paired renaming length→Be,snoc→G7
open Prod.mk renaming inj→Bi
open Or renaming inr→Bo,inl→Br
open PySem.PyData renaming strOk→Bp,eqv→BA,canLay0→B5,eqvAll→Cf,canLayAll0→CJ,depth→C9,depthAll→Es,int→Fn
open PySem.Str renaming ofString→BF,empty→Fx
open PySem.Obj renaming mapSeq→BI,data_mapFields→Da,isFreed_of_fields→EZ,data_mapDictKeys→Fm,cls_mapFields→F3,mapFields→GV
open Ne renaming symm→BJ
open PySem.Calls renaming callWith_builtin→BL,spliced_cons→BN,evalArgs_plain→Ck,spliced_nil→CH,call_function_entry→C1,Name_function_global→DU
open PySem.F renaming slot_dict_get→BP,plainAttrs_dict→Cs,entry_dict_get→CD,slot_dict_pop→CN,plainAttrs_list→Df,args_tuple_add_2→D8,args_dict_get_2→Ef,args_dict_get_3→Eg,entry_tuple_add→Eh,slot_tuple_add→EJ,entry_dict_pop→EO,type_dict_get→ET,type_dict_pop→Fb
open PyProof.Rows renaming slot_tuple_getitem→BU,callWith_type1→B6,slot_tupleiter_next→CU,assignInOrder_cons→DP,listUpdate_at→DX,entry_list_sort→Ew,subscriptTail_builtinR→EK,seqEpoch_at→EM,slot_list_sort→EX,args_list_sort→EY,Subscript_→Fg,entry_tupleiter_next→Fi,entry_tuple_getitem→Fp,args_tupleiter_next→Fq,args_tuple_getitem→FE,args_sorted1→FI,assignInOrder_nil→FQ,lt_int→Gm
open PySem.Heap.SameBut renaming update→B4
open PySem.AutoSeq1 renaming wpAny_loadPart'→Cq
open Sum renaming inl→Cu,inr→DI
open List.Pairwise renaming nil→CI,sublist→Fe
open True renaming intro→CQ
open Array.Perm renaming refl→C0
open ForInStep renaming yield→DA
open PySem.Heap.IsList renaming «at»→DL
open PySem.Txt renaming slice_le→Eb,slice→GO
open Nat.succ renaming inj→Ec
open PySem.W.Looks renaming of_pure→EV
open PySem.W.KasFin renaming intro→Fh
open PySem.P renaming truthy_str→Fz
open PySem.Code renaming isFrame→FA,isGuard→GZ
open PySem.SeqAt.EqAt renaming int_int→FC
open PySem.Heap.IsSliceOf renaming new→FG
open PySem.Heap.IsListIter renaming «at»→FJ
open PySem.W.UpdF renaming head→FZ
open StateT renaming run_pure→Gy
open PyProof.Rows.Fr renaming set→GB
open PySem.Heap.DictOf renaming new→GC
open PySem.SeqAt.RcNeAt renaming list_tuple→GH,tuples→GX
open PySem.W.KatTups renaming cons→G9,nil→He
open PyProof.Rows.SortSt renaming mk'→Hc
set_option Elab.async false
open PySem renaming Value→IR,model→KF,Expr→Pv,Heap→PP,Program→Re,compareOp→SL,mainGlobals→SZ,starEach→UF,eval→UV,World→Wp,bootBuiltins→W1
open List renaming getElem?_eq_some_iff→KB,mem_cons→KM,mem_singleton→On,mem_append→Os,mem_map→P3
noncomputable section
local macro_rules|`(!0)=>`(by omega)
local macro_rules|`(!1)=>`(by decide)
local macro_rules|`(!2)=>`(by simp)
set_option hygiene false in
local macro_rules|`(!3)=>`(Hu e stk ks w h sd)
set_option hygiene false in
local macro_rules|`(!4)=>`(KF X.prog X.w)
set_option hygiene false in
local macro_rules|`(!5)=>`(KF prog w)
set_option hygiene false in
local macro_rules|`(!6)=>`(List Str)
set_option hygiene false in
local macro_rules|`(!7)=>`(ns.map D.int)
set_option hygiene false in
local macro_rules|`(!8)=>`(names4 ks P x y)
set_option hygiene false in
local macro_rules|`(!9)=>`(m U st)
set_option hygiene false in
local macro_rules|`(tactic|exists 0)=>`(tactic|rintro qp s σ H xs us Q I r ⟨ds,st,io,d,st',R,S,e,k⟩)
set_option hygiene false in
local macro_rules|`(tactic|exists 1)=>`(tactic|rintro σ H Q ⟨U,st,io,d,st',E,S,e,k⟩)
set_option hygiene false in
local macro_rules|`(tactic|exists 2)=>`(tactic|obtain⟨U,st,io,f,st',E,S,e,w⟩:=Ll.mp h)
set_option hygiene false in
local macro_rules|`(tactic|exists 3)=>`(tactic|obtain⟨hf,e⟩:=Iu e)
set_option hygiene false in
local macro_rules|`(tactic|exists 4)=>`(tactic|intro qp s σ H Q I h)
set_option hygiene false in
local macro_rules|`(tactic|exists 5)=>`(tactic|refine callType_codes (Q₁:=λobj s₁=>obj=.ref s.heap.objs.size/\s₁={s with heap:=s.heap.push Qqd}) F.kt_called_dict (F.kt_typeCall_dict_1 _) F.entry_dict_init (kt_code_dict_new _ ⟨rfl,rfl⟩) ?_)
set_option hygiene false in
local macro_rules|`(tactic|exists 6)=>`(tactic|have hd:(s.heap.objs.size==sysModules)=false:=beq_eq_false_iff_ne.mpr<|BJ<|Au I.big)
set_option hygiene false in
local macro_rules|`(tactic|exists 7)=>`(tactic|rw[show IL f v ((k,x)::r)=(if k=f then(k,v)::r else(k,x)::IL f v r) from rfl])
set_option hygiene false in
local macro_rules|`(tactic|exists 8)=>`(tactic|rintro σ H Q ⟨U,st,io,v,st',E,S,e,k⟩)
set_option hygiene false in
local macro_rules|`(tactic|exists 9)=>`(tactic|rcases KM.mp h with h|h)
set_option hygiene false in
local macro_rules|`(tactic|exists 10)=>`(tactic|dsimp only at e)
set_option hygiene false in
local macro_rules|`(tactic|exists 11)=>`(tactic|rintro σ H R ⟨U,st,io,W,st',E,S,e,k⟩)
set_option hygiene false in
local macro_rules|`(tactic|exists 12)=>`(tactic|refine C1 kind_sorted plain_sorted entry_sorted (FI _) ?_)
set_option hygiene false in
local macro_rules|`(tactic|exists 13)=>`(tactic|intro qp s σ H D I h)
set_option hygiene false in
local macro_rules|`(tactic|exists 14)=>`(tactic|have d:∀q:Hh,ML (.tup [.int x,.int y,.int k]) none (some 2) q=some (.tup [.int x,.int y],q):=λ_=>rfl)
set_option hygiene false in
local macro_rules|`(tactic|exists 15)=>`(tactic|exact I1.fpOk (Ag _)<|I1.hok.fresh<|Ag _)
set_option hygiene false in
local macro_rules|`(tactic|exists 16)=>`(tactic|generalize Hu e stk ks w h sd=bed at *)
set_option hygiene false in
local macro_rules|`(tactic|exists 17)=>`(tactic|rcases Os.mp ht with ht|ht)
set_option hygiene false in
local macro_rules|`(tactic|exists 18)=>`(tactic|obtain⟨xs,f,s',e,h⟩:=OW (W:=W) (g:=g) (c:=c) (m:=m) (ds:=ds) (Inv:=λk=>Inv (k+1)) j n l)
abbrev Qqa:=PySem.Value->PySem.Shared->Prop
abbrev Qqb (v:PySem.Env) (e:PySem.Expr) (l:List PySem.Expr):Prop:=PySem.starEach (e::l) v=(false,PySem.eval e v)::PySem.starEach l v
abbrev Qqc (p:PySem.Pos) (l:List PySem.Expr) (v:PySem.Env):Prop:=(PySem.backTo p (PySem.starEach l v)).any (·.1)=false
abbrev Qqd:PySem.Obj:={cls:=.type "dict",data:=.dict #[]}
namespace L2
open PySem PySem.Spec PyProof.Rows
def LU(s:Stmt):Arguments:=match s with
 |.FunctionDef _ a _ _ _ _ _ _ _ _=>a
 |_=>{posonlyargs:=[],args:=[],vararg:=none,kwonlyargs:=[],kw_defaults:=[],kwarg:=none,defaults:=[]}
def Ko(s:Stmt):List Stmt:=match s with
 |.FunctionDef _ _ b _ _ _ _ _ _ _=>b
 |_=>[]
def I0(s:Stmt):Scope:=match s with
 |.FunctionDef _ _ _ _ _ _ sc _ _ _=>sc
 |_=>{kind:=.function,names:=[],isGenerator:=false,isCoroutine:=false}
end L2
namespace L2.MP
open PySem L2 PyProof.Rows
def inClass(st:Stmt)(j:Nat):Stmt:=match st with
 |.ClassDef _ _ _ body _ _ _ _ _ _ _=>body.getD j<|.Pass ⟨0,0,0,0⟩
 |_=>.Pass ⟨0,0,0,0⟩
end L2.MP
namespace L2.MP.Hx
open PySem L2 PySem.W PyProof.Rows
def Lu(h:PP):Frag:=(As h.objs.size).filterMap λa=>(h.get? a).map λo=>(a,o)
def QE(g:Addr->Option Obj)(ns:Addr)(x:Str):Option (Option IR):=match g ns with
 |some ⟨_,_,.dict a _,_⟩=>(match a.toList.find? (·.key.isStr x) with
   |some e=>some<|some e.val
   |none=>if a.toList.any (·.refKey)then none else some none)
 |_=>none
def jQ(g:Addr->Option Obj)(cd:IR)(q:Str):Bool:=match cd with
 |.ref c=>(match g c with
   |some ⟨_,_,.fields a,_⟩=>(match a.toList with|_::.str n _::_=>n==q|_=>false)
   |_=>false)
 |_=>false
def YF(g:Addr->Option Obj)(x:Str):Option (FuncData×Bool):=match QE g SZ x with
 |some (some<|.ref f)=>(match g f with
   |some ⟨_,_,.func fd,_⟩=>some ({fd with kwdefaults:=.none,doc:=.none,pyModule:=.none,annotations:=none,code:=.none,closureTuple:=.none},jQ g fd.code x)
   |_=>none)
 |_=>none
def YG(x:Str)(st:Stmt):Option (FuncData×Bool):=some (fnOf x x (LU st) (Ko st) (I0 st) .none .none .none .none none .none .none,true)
def YI(v:Option (Option IR)):Option (Str⊕Int):=match v with
 |some (some<|.str s _)=>some<|.inl s
 |some (some<|.int i _)=>some<|.inr i
 |_=>none
def LK(g:Addr->Option Obj)(fns:List (Str×Stmt))(a:List Str)(co:List (Str×(Str⊕Int))):List (Option<|FuncData×Bool)×List (Option<|Option IR)×List (Option<|Str⊕Int):=(fns.map λp=>YF g p.1,a.map λx=>QE g SZ x,co.map λc=>YI (QE g SZ c.1))
def N0(fns:List (Str×Stmt))(a:List Str)(co:List (Str×(Str⊕Int))):List (Option<|FuncData×Bool)×List (Option<|Option IR)×List (Option<|Str⊕Int):=(fns.map λp=>YG p.1 p.2,a.map λ_=>some none,co.map λc=>some c.2)
def Yv(K:Frag)(C:Addr)(x qual:Str):Option (FuncData×Bool×Bool):=match findIn K (.ref C) x with
 |some (some<|.ref f)=>(match K.lookup f with
   |some ⟨_,_,.func fd,_⟩=>some ({fd with kwdefaults:=.none,doc:=.none,pyModule:=.none,annotations:=none,code:=.none,closureTuple:=.none},codeIn K fd.code qual,isFn K (.ref f))
   |_=>none)
 |_=>none
def Yw(x qual:Str)(st:Stmt):Option (FuncData×Bool×Bool):=some (fnOf x qual (LU st) (Ko st) (I0 st) .none .none .none .none none .none .none,true,true)
noncomputable abbrev YS:=Option ((Bool×Option (Option IR))×List (Option<|FuncData×Bool×Bool)×List (Option<|Option IR))
def Su(K:Frag)(c:Str)(ms:List (Str×Str×Stmt))(no:List Str):YS:=match nsIn K SZ c with
 |some (some<|.ref C)=>some ((plainGet K C Fx&&hasDictIn K C&&plainOver K C&&makesIn K C&&keepIn K (.ref C),findIn K (.ref C) "__setattr__"),ms.map λm=>Yv K C m.1 m.2.1,no.map λx=>findIn K (.ref C) x)
 |_=>none
def Sv(ms:List (Str×Str×Stmt))(no:List Str):YS:=some ((true,some (some<|.builtin "object.__setattr__")),ms.map λm=>Yw m.1 m.2.1 m.2.2,no.map λ_=>some none)
def NK(a:String->Option Builtin)(p:Re)(w:Wp)(n₀:Nat)(ann:Option IR):Nat->SharedT->Thread->Option SharedT
 |0,_,_=>none
 |n+1,s,t=>match through t with
  |true=>some s
  |false=>match stepOk n₀ ann t with
   |false=>none
   |true=>match stepT (denote a) p w s t with
    |some (s',t')=>NK a p w n₀ ann n s' t'
    |none=>none
variable {p:Re}
theorem aP{d:String->Option Builtin}{p:Re}{w:Wp}{n₀:Nat}{ann:Option IR}:∀(n:Nat) (s s':SharedT) (t:Thread),NK d p w n₀ ann n s t=some s'->topRun d p w n₀ ann n s.abs t=some s'.abs
 |0,_,_,_,h=>by cases h
 |n+1,s,s',t,h=>by
  unfold NK at h;unfold topRun;split at h
  ·rename_i a;rw[a];cases h;rfl
  ·rename_i a;rw[a]
   split at h
   ·cases h
   ·rename_i b;rw[b]
    split at h
    ·rename_i x y c;rw[stepT_spec c];exact aP n x s' y h
    ·cases h
def YT:List Obj->Nat->BT->BT
 |[],_,t=>t
 |o::l,n,t=>YT l (n+1)<|t.ins n o
def YY(w:Wp)(os:OsState):SharedT:=⟨YT (boot_heap w.params).objs.toList 0 .nil,11,(boot_heap w.params).life,Gd [],boot_drawn,boot_toks,os⟩
def boot_abs(w:Wp)(os:OsState):(YY w os).abs=⟨boot_heap w.params,Gd [],boot_drawn,boot_toks,os⟩:=by kernel_rfl
def oX(P:Params):((boot_heap P).isNs SZ,(boot_heap P).objs.size)=(true,11):=by kernel_rfl
noncomputable abbrev Yg (p:Re) (N:Nat) (w:Wp) (os:OsState):Option SharedT:=NK treeTable p w 11 ((boot_heap w.params).nsMap SZ "__annotations__") N (YY w os) (topStub p)
variable {β:Type}
noncomputable abbrev OV  (p:Re) (N:Nat) (f:Wp->Shared->β) (b:Wp->β):Prop:=∀w os,(Yg p N w os).map (λs=>f w s.abs)=some (b w)
noncomputable abbrev NZ (p:Re) (w:Wp) (s:Shared):Bool:=staticsOk (importedModules p.main.body) (boot_heap w.params) s.heap&&namesBound p s.heap&&gensDone s&&laidKept (boot_heap w.params) s.heap
variable {N:Nat}
def ZM{f:Wp->Shared->β}{b:Wp->β}(e:opening p=plainProg p.main.scope.names)(a:Nat.ble 600 N=true)(g:∀s,fenceModules? p s=some s)(h0:OV p N (NZ p) λ_=>true)(h:OV p N f b)(w:Wp):(openEnds treeTable p w N).map (f w)=some (b w):=by
 obtain⟨⟨i,j,d,k,os⟩,l,m⟩:=Option.map_eq_some_iff.mp<|boot_open e a g w;obtain⟨rfl,rfl,rfl,rfl⟩:i=boot_heap w.params/\j=Gd []/\d=boot_drawn/\k=boot_toks:=by simpa using m
 obtain⟨s,r,c⟩:=Option.map_eq_some_iff.mp<|h0 w os;have y:=h w os;rw[r]at y;have t:=aP _ _ _ _ r;rw[boot_abs]at t;obtain⟨n,o⟩:=Bi<|oX w.params;have u:topFrom treeTable p w N ⟨boot_heap w.params,Gd [],boot_drawn,boot_toks,os⟩=some s.abs:=by unfold topFrom;dsimp only;rw[n,o,t];show(match NZ p w s.abs with|true=>some s.abs|false=>none)=_;rw[c]
 unfold openEnds;rw[l];show(topFrom treeTable p w N _).map _=_;rw[u];exact y
noncomputable abbrev Sn (p q:Re) (l:List Str) (X:Shared->Bool) (s:Shared):=openSeen q l (importedModules p.main.body) X true s
def NW{q:Re}{l:List Str}{X:Shared->Bool}{α:Type}{Y:Shared->α}{Z:Wp->α}(e:opening p=plainProg p.main.scope.names)(c:Nat.ble 600 N=true)(g:∀s,fenceModules? p s=some s)(h0:OV p N (NZ p) λ_=>true)(d:OV p N (λ_ s=>Sn p q l X s) λ_=>openGood q l)(f:OV p N (λ_ s=>Y s) Z):LeftO p q l X Y Z N:=λw=>by
 have a:=ZM e c g h0 d w;have b:=ZM e c g h0 f w;generalize openEnds treeTable p w N=o at *;cases o with
 |none=>cases a
 |some s=>exact congrArg some<|looks_pair (Av a)<|Av b
end L2.MP.Hx
namespace L2.MP.T0
open PySem L2 PySem.Spec PyProof.Rows PySem.W
def top(i:Nat):Stmt:=PySem.Challenge.pw_stickytiles_k43_begun_anew.main.body.getD i<|.Pass ⟨0,0,0,0⟩
def fns:List (Str×Stmt):=("is_whole",top 1)::("is_tuple",top 2)::("is_place",top 3)::("places_around",top 12)::("sides_of",top 13)::("kinds_by_place",top 14)::("names_facing",top 15)::("strength_together",top 16)::("growings_at",top 17)::("_law_begin",top 21)::("_law_draw",top 22)::("_law_names",top 23)::("_law_kind",top 24)::("_law_house",top 25)::("_law_standing",top 26)::("_law_bed",top 27)::("_law_lying",top 28)::("_law_standing_of",top 29)::("_law_step",top 30)::("_law_sides",top 31)::("_law_by",top 32)::("_law_empty",top 33)::("_law_may",top 34)::("_law_without",top 35)::("_law_end_of",top 36)::("_law_is_sure",top 37)::("_law_grown_on",top 38)::("law",top 39)::[]
def QI:List Str:=["isinstance","int","bool","tuple","len","enumerate","zip","sum","any","dict","range","min","list","sorted"]
def cos:List (Str×(Str⊕Int)):=[]
def LN:List (Str×Str×Stmt):=[("look_at","Grow.look_at",inClass (top 19) 1),("__init__","Grow.__init__",inClass (top 19) 0),("look_around","Grow.look_around",inClass (top 19) 2),("lay","Grow.lay",inClass (top 19) 3),("put","Grow.put",inClass (top 19) 4),("on","Grow.on",inClass (top 19) 5),("back","Grow.back",inClass (top 19) 6),("standing","Grow.standing",inClass (top 19) 7),("row","Grow.row",inClass (top 19) 8),("growings","Grow.growings",inClass (top 19) 9)]
def QF:List Str:=["bed","strengths","kinds","laid","ready"]
def vw:Re:=view PySem.Challenge.pw_stickytiles_k43_begun_anew [1,2,3,5,6,7,8,9,10,12,13,14,15,16,17,19,21,22,23,24,25,26,27,28,29,30,31,32,33,34,35,36,37,38,39]
noncomputable abbrev sX:Shared->Bool:=λs=>xlAt vw [] s&&recOk [] s
def sr0:Hx.OV PySem.Challenge.pw_stickytiles_k43_begun_anew 20000 (Hx.NZ PySem.Challenge.pw_stickytiles_k43_begun_anew) λ_=>true:=λw os=>by kernel_rfl
def sr1:Hx.OV PySem.Challenge.pw_stickytiles_k43_begun_anew 20000 (λ_ s=>Hx.Sn PySem.Challenge.pw_stickytiles_k43_begun_anew vw [] sX s) λ_=>openGood vw []:=λw os=>by kernel_rfl
def sr2:Hx.OV PySem.Challenge.pw_stickytiles_k43_begun_anew 20000 (λ_ s=>(Hx.LK s.heap.get? fns QI cos,Hx.Su (Hx.Lu s.heap) "Grow" LN QF)) λ_=>(Hx.N0 fns QI cos,Hx.Sv LN QF):=λw os=>by kernel_rfl
def sF:LeftO PySem.Challenge.pw_stickytiles_k43_begun_anew vw [] sX (λs=>(Hx.LK s.heap.get? fns QI cos,Hx.Su (Hx.Lu s.heap) "Grow" LN QF)) (λ_=>(Hx.N0 fns QI cos,Hx.Sv LN QF)) 20000:=Hx.NW (by kernel_rfl) rfl (λs=>by kernel_rfl) sr0 sr1 sr2
end L2.MP.T0
set_option linter.all false
namespace L2
open PySem PySem.Spec PyProof.Rows
noncomputable abbrev Key:=Sum Int Str
def P2:Key->IR->Bool
 |.inl k,v=>G4 k v
 |.inr x,v=>GP x v
def Yy(w:Wp):Key->Int
 |.inl k=>hashInt k
 |.inr x=>hashStr w x
def ND:∀{k:Key}{v:IR},P2 k v=true->(∃i t,k=Cu i/\v=DO i t)\/(∃x t,k=DI x/\v=Em x t)
 |.inl i,v,h=>by obtain⟨t,e⟩:=Value.isInt_shape (k:=i) (v:=v) h;exact .inl ⟨i,t,rfl,e⟩
 |.inr x,v,h=>by obtain⟨t,e⟩:=Value.isStrOf_shape (x:=x) (v:=v) h;exact .inr ⟨x,t,rfl,e⟩
def yM(i:Int)(t:Tok):P2 (.inl i) (.int i t)=true:=by simp[P2,G4]
def yN(x:Str)(t:Tok):P2 (.inr x) (.str x t)=true:=by simp[P2,GP]
def oI(a b:Int):decide ((Cu a:Key)=Cu b)=(a==b):=by
 by_cases e:a=b
 ·subst e;simp
 have h:¬(Cu a:Key)=Cu b:=λq=>e<|Sum.inl.inj q;rw[decide_eq_false h];exact(beq_eq_false_iff_ne.mpr e).symm
def nG(a b:Str):decide ((DI a:Key)=DI b)=decide (a=b):=by
 by_cases e:a=b
 ·subst e;simp
 have h:¬(DI a:Key)=DI b:=λq=>e<|Sum.inr.inj q;rw[decide_eq_false h,decide_eq_false e]
def oJ(a:Int)(b:Str):decide ((Cu a:Key)=DI b)=false:=decide_eq_false λq=>nomatch q
def oK(a:Str)(b:Int):decide ((DI a:Key)=Cu b)=false:=decide_eq_false λq=>nomatch q
def Ja(prog:Re)(w:Wp):PySem.KeyKind prog w Key where
 is:=P2
 hash:=Yy w
 inj:=λv a b f d=>by
  rcases ND f with⟨i,t,rfl,rfl⟩|⟨x,t,rfl,rfl⟩
  ·rcases ND d with⟨j,u,rfl,e⟩|⟨y,u,rfl,e⟩
   ·injection e with e1 _;rw[e1]
   exact nomatch e
  ·rcases ND d with⟨j,u,rfl,e⟩|⟨y,u,rfl,e⟩
   ·exact nomatch e
   injection e with e1 _;rw[e1]
 byValue:=λk v h=>by rcases ND h with⟨i,t,rfl,rfl⟩|⟨x,t,rfl,rfl⟩<;>rfl
 pyHash:=λc h=>by
  rcases ND c with⟨i,t,rfl,rfl⟩|⟨x,t,rfl,rfl⟩
  ·exact wpAny_pyHash_int h
  exact wpAny_pyHash_str h
 eqBool:=λg c h=>by
  rcases ND g with⟨i,t,rfl,rfl⟩|⟨x,t,rfl,rfl⟩
  ·rcases ND c with⟨j,u,rfl,rfl⟩|⟨y,u,rfl,rfl⟩
   ·rw[oI]at h;exact wpAny_eqBool_int h
   rw[oJ]at h;exact SeqAt.EqAt.int_str i t y u _ _ _ _ h
  ·rcases ND c with⟨j,u,rfl,rfl⟩|⟨y,u,rfl,rfl⟩
   ·rw[oK]at h;exact SeqAt.EqAt.str_int x t j u _ _ _ _ h
   rw[nG]at h;exact wpAny_eqBool_str h
 «strs»:=λk x t v h=>by
  rcases ND h with⟨i,u,rfl,e⟩|⟨y,u,rfl,e⟩
  ·exact nomatch e
  ·injection e with e1 _
   subst e1;cases v<;>rfl
def zi6(prog:Re)(w:Wp)(i:Int)(t:Tok):(Ja prog w).is (.inl i) (.int i t)=true:=yM i t
def zi5(prog:Re)(w:Wp)(x:Str)(t:Tok):(Ja prog w).is (.inr x) (.str x t)=true:=yN x t
inductive V where
 |non|bl (b:Bool)|int (i:Int)|str (x:Str)|byt (b:Array UInt8)|flt (b:UInt64)|ref (a:Addr)|ty (n:String)
 deriving DecidableEq
def RelV:V->IR->Prop
 |.non,u=>u=Bk
 |.bl b,u=>u=Ff b
 |.int i,u=>∃t,u=DO i t
 |.str x,u=>∃t,u=Em x t
 |.byt b,u=>∃t,u=G5 b t
 |.flt b,u=>∃t,u=G6 b t
 |.ref a,u=>u=AE a
 |.ty n,u=>u=Gn n
noncomputable abbrev Vals:List V->List IR->Prop:=Paired RelV
variable {us:List IR}
def Vals.length{xs:List V}{us:List IR}(r:Vals xs us):xs.length=us.length:=Be r
theorem Vals.get:∀{xs:List V}{us:List IR}{i:Nat}{x:V},Vals xs us->xs[i]?=some x->∃u,us[i]?=some u/\RelV x u
 |_,_,_,_,.nil,e=>by simp at e
 |_,_,0,_,.cons r _,e=>by simp at e;subst e;exact⟨_,rfl,r⟩
 |_,_,i+1,x,.cons _ t,e=>by obtain⟨u,a,b⟩:=Vals.get (i:=i) (x:=x) t (by simpa using e);exact⟨u,by simpa using a,b⟩
variable {u:IR}
theorem Vals.set{x:V}{u:IR}(r:RelV x u):∀{xs:List V}{us:List IR} (i:Nat),Vals xs us->Vals (xs.set i x) (us.set i u)
 |_,_,_,.nil=>.nil
 |_,_,0,.cons _ t=>.cons r t
 |_,_,i+1,.cons q t=>.cons q<|Vals.set r i t
theorem Vals.append:∀{xs a:List V}{us ws:List IR},Vals xs us->Vals a ws->Vals (xs++a) (us++ws)
 |_,_,_,_,.nil,s=>s
 |_,_,_,_,.cons r t,s=>.cons r<|Vals.append t s
theorem Vals.take:∀{xs:List V}{us:List IR} (n:Nat),Vals xs us->Vals (xs.take n) (us.take n)
 |_,_,0,_=>.nil
 |_,_,_+1,.nil=>.nil
 |_,_,n+1,.cons r t=>.cons r<|Vals.take n t
theorem Vals.drop:∀{xs:List V}{us:List IR} (n:Nat),Vals xs us->Vals (xs.drop n) (us.drop n)
 |_,_,0,r=>r
 |_,_,_+1,.nil=>.nil
 |_,_,n+1,.cons _ t=>Vals.drop n t
def Jh:Option V->Option IR->Prop
 |some v,some u=>RelV v u
 |none,none=>True
 |_,_=>False
variable {κ:Type}
def KV:List (κ×V)->List (κ×IR)->Prop:=Paired λ(p:κ×V) (q:κ×IR)=>p.1=q.1/\RelV p.2 q.2
def kV:Key->V
 |.inl i=>.int i
 |.inr x=>.str x
inductive HO where
  |lst (xs:List V)
  |tup (xs:List V)
  |dK (kvs:List (Key×V))|dT (kvs:List (List Key×V))
  |set (S:Int->Bool) (n:Nat)
  |ins (C dx:Addr) (fs:List (Str×V))
  |own (x:Addr)
  |xd (fs:List (Str×V))
  |met (f x:Addr)
  |rng (lo hi:Int)
  |frz (o:Obj) (u:HO)
  |tbl (ps:Array IR)
  |ext (φ:PP->Prop)
noncomputable abbrev Hp:=Addr->Option HO
def upd(H:Hp)(a:Addr)(o:HO):Hp:=λb=>if b=a then some o else H b
variable {H:Hp}{a:Addr}{o:HO}
def Le:upd H a o a=some o:=by unfold upd;rw[if_pos rfl]
variable {b:Addr}
def HV(h:b≠a):upd H a o b=H b:=by unfold upd;rw[if_neg h]
def QO{u:HO}(h:H a=some o)(h':H b=some u)(d:o≠u):a≠b:=by intro e;subst e;rw[h]at h';exact d<|Av h'
def J9(h:H a=some o)(h':H b=none):a≠b:=by intro e;subst e;rw[h]at h';cases h'
def Li(h:PP)(a:Addr)(items:Array IR):Prop:=∃o,h.get? a=some o/\o.cls=.type "tuple"/\o.dict=none/\∃n,o.data=.seq items n
variable {h:PP}{items:Array IR}
def Li.t(x:Li h a items):IsTup h a items:=let ⟨o,ho,hc,_,r⟩:=x;⟨o,ho,hc,r⟩
variable {h':PP}
def Li.keeps(x:Li h a items)(hk:∀b o,h.get? b=some o->h'.get? b=some o):Li h' a items:=let ⟨o,ho,r⟩:=x;⟨o,hk a o ho,r⟩
def Li.new(h:PP)(items:Array IR):Li (h.push {cls:=.type "tuple",data:=.seq items}) h.objs.size items:=⟨_,Ap _ rfl,rfl,rfl,0,rfl⟩
section
variable (P:Re) (w:Wp)
def Jr(H:Hp)(h:PP)(a:Addr):HO->Prop
 |.lst xs=>xs.length<=sizeLine/\∃(its:List IR) (n:Nat),Vals xs its/\h.get? a=some {cls:=.type "list",data:=.seq its.toArray n}
 |.tup xs=>xs.length<=sizeLine/\∃its:List IR,Vals xs its/\Li h a its.toArray
 |.dK kvs=>kvs.length<=sizeLine/\(a==sysModules)=false/\∃vs,KV kvs vs/\h.DictOf (Ja P w) a vs
 |.dT kvs=>kvs.length<=sizeLine/\(a==sysModules)=false/\∃xs:List (List Key×Addr×IR),
   Paired (λ(p:List Key×V) (q:List Key×Addr×IR)=>p.1=q.1/\H q.2.1=some (.tup<|p.1.map kV)/\RelV p.2 q.2.2) kvs xs /\
   ∃o es ep,h.get? a=some o/\o.ExactDict/\o.data=.dict es ep/\es.toList=xs.map (entryOfKey<|tupleKind<|Ja P w)/\(xs.map (·.1)).Nodup
 |.set S n=>h.SetOf (intKind P w) a S n
 |.ins C d fs=>H d=some (.own a)/\fs.length<=1000/\d≠a/\h.get? a=some (BW C d) /\
   ∃c,h.Ns1 d c/\(∀f,Jh (fs.lookup f) (c f))/\Fy c (fs.map (·.1))
 |.own _=>∃o,h.get? a=some o
 |.xd fs=>∃c,h.Ns1 a c/\∀f,Jh (fs.lookup f) (c f)
 |.rng lo hi=>∃t u v,h.get? a=some {cls:=.type "range",data:=.fields #[.int lo t,.int hi u,.int 1 v]}
 |.frz o u=>h.get? a=some o/\Jr H h a u
 |.tbl ps=>h.get? a=some {cls:=.none,data:=.fields ps}
 |.met f x=>h.get? a=some (D1 (.ref f)<|.ref x)
 |.ext φ=>φ h/\(∃o,h.get? a=some o)/\∀e g:PP,φ e->(∀o,e.get? a=some o->g.get? a=some o)->φ g
def Jx(H:Hp)(h:PP):Prop:=∀a o,H a=some o->Jr P w H h a o
end
variable {P:Re}{w:Wp}{H':Hp}{α:Type}
def Jr.lt(x:Jr P w H h a o):a<h.objs.size:=by
 cases o with
 |lst xs=>obtain⟨_,_,_,_,e⟩:=x;exact Aj e
 |tup xs=>obtain⟨_,_,_,p⟩:=x;exact p.t.lt
 |dK b=>obtain⟨_,_,_,_,o,_,_,e,_⟩:=x;exact Aj e
 |dT b=>obtain⟨_,_,_,_,o,_,_,e,_⟩:=x;exact Aj e
 |set S n=>obtain⟨o,_,_,_,e,_⟩:=x;exact Aj e
 |ins C c fs=>obtain⟨_,_,_,e,_⟩:=x;exact Aj e
 |own y=>obtain⟨_,e⟩:=x;exact Aj e
 |xd fs=>obtain⟨_,⟨_,_,_,e,_⟩,_⟩:=x;exact Aj e
 |rng lo d=>obtain⟨_,_,_,e⟩:=x;exact Aj e
 |frz ob u=>obtain⟨e,_⟩:=x;exact Aj e
 |tbl g=>exact Aj (show h.get? a=some _ from x)
 |met f y=>exact Aj (show h.get? a=some _ from x)
 |ext φ=>obtain⟨_,⟨_,e⟩,_⟩:=x;exact Aj e
theorem Paired.mapP{α β:Type}{F G:α->β->Prop}:∀{l₁:List α}{l₂:List β},Paired F l₁ l₂->(∀a b,F a b->G a b)->Paired G l₁ l₂
 |_,_,.nil,_=>.nil
 |_,_,.cons r t,f=>.cons (f _ _ r)<|Paired.mapP t f
def Jr.stay(x:Jr P w H h a o)(k:∀b u,(b=a\/H b=some (.own a))->h.get? b=some u->h'.get? b=some u)(B:∀b,H b=some (.own a)->H' b=some (.own a)) (E:∀b xs,H b=some (.tup xs)->H' b=some (.tup xs)):Jr P w H' h' a o:=by
 induction o with
 |lst xs=>obtain⟨z,j,n,r,e⟩:=x;exact⟨z,j,n,r,k _ _ (.inl rfl) e⟩
 |tup xs=>obtain⟨z,j,r,ob,e,c⟩:=x;exact⟨z,j,r,ob,k _ _ (.inl rfl) e,c⟩
 |dK l=>obtain⟨z,y,F,r,ob,g,i,e,c⟩:=x;exact⟨z,y,F,r,ob,g,i,k _ _ (.inl rfl) e,c⟩
 |dT l=>
  obtain⟨z,y,xs,r,ob,g,i,e,c⟩:=x;exact⟨z,y,xs,Paired.mapP r λp q z=>⟨z.1,E _ _ z.2.1,z.2.2⟩,ob,g,i,k _ _ (.inl rfl) e,c⟩
 |set S n=>obtain⟨ob,g,i,t,e,c⟩:=x;exact⟨ob,g,i,t,k _ _ (.inl rfl) e,c⟩
 |ins C J fs=>
  obtain⟨d,z,ne,e,m,⟨s,g,i,G,c⟩,r⟩:=x;exact⟨B _ d,z,ne,k _ _ (.inl rfl) e,m,⟨s,g,i,k _ _ (.inr d) G,c⟩,r⟩
 |own y=>obtain⟨ob,e⟩:=x;exact⟨ob,k _ _ (.inl rfl) e⟩
 |xd fs=>obtain⟨m,⟨s,g,i,e,c⟩,r⟩:=x;exact⟨m,⟨s,g,i,k _ _ (.inl rfl) e,c⟩,r⟩
 |rng lo K=>obtain⟨t,u,v,e⟩:=x;exact⟨t,u,v,k _ _ (.inl rfl) e⟩
 |frz ob u I=>obtain⟨e,q⟩:=x;exact⟨k _ _ (.inl rfl) e,I q⟩
 |tbl A=>
  have e:h.get? a=some {cls:=.none,data:=.fields A}:=x;show h'.get? a=some {cls:=.none,data:=.fields A};exact k a _ (.inl rfl) e
 |met f y=>
  have e:h.get? a=some (D1 (.ref f)<|.ref y):=x;show h'.get? a=some (D1 (.ref f)<|.ref y);exact k a _ (.inl rfl) e
 |ext φ=>obtain⟨p,⟨o,e⟩,st⟩:=x;exact⟨st _ _ p λo q=>k _ _ (.inl rfl) q,⟨o,k _ _ (.inl rfl) e⟩,st⟩
def Jx.lt(x:Jx P w H h)(e:H a=some o):a<h.objs.size:=(x a o e).lt
def Jx.fresh(x:Jx P w H h)(e:h.objs.size<=a):H a=none:=by
 cases q:H a with
 |none=>rfl
 |some u=>exact absurd (AD (x.lt q) e)<|AL _
def Jx.kept(x:Jx P w H h)(k:∀b u,h.get? b=some u->h'.get? b=some u):Jx P w H h':=λa o e=>
 (x a o e).stay (λb u _ q=>k b u q) (λ_ q=>q) λ_ _ q=>q
def Jx.laid(x:Jx P w H h)(k:∀b u,h.get? b=some u->h'.get? b=some u)(f:h.objs.size<=a)(new:Jr P w (upd H a o) h' a o):Jx P w (upd H a o) h':=λb u e=>by
 have d:=x.fresh f;by_cases hb:b=a
 ·subst hb;rw[Le]at e;cases e;exact new
 rw[HV hb]at e;exact(x b u e).stay (λc v _ q=>k c v q) (λc q=>by rw[HV (J9 q d)];exact q) λc xs q=>by rw[HV (J9 q d)];exact q
def Rd(H:Hp)(a:Addr)(u:HO):Prop:=H a=some u\/∃o,H a=some (.frz o u)
def Rd.ok{u:HO}(r:Rd H a u)(x:Jx P w H h):Jr P w H h a u:=by
 rcases r with r|⟨o,r⟩
 ·exact x a u r
 obtain⟨_,q⟩:=x a _ r;exact q
def Sz:Option HO->Prop
 |some (.lst _)=>True
 |some (.dK _)=>True
 |some (.dT _)=>True
 |some (.set _ _)=>True
 |some (.ins _ _ _)=>True
 |some (.ext _)=>True
 |_=>False
section
variable {x e:Addr}{o':HO}
def Jx.write(ok:Jx P w H h)(d:Sz (H x))(he:e=x\/H e=some (.own x))(k:∀b u,b≠e->h.get? b=some u->h'.get? b=some u)(f:∃u,h'.get? e=some u)(new:Jr P w (upd H x o') h' x o'):Jx P w (upd H x o') h':=λb u q=>by
 have a:∀c y,H c=some (.own y)->c≠x:=λc y r z=>by subst z;rw[r]at d;exact d
 have o:∀c xs,H c=some (.tup xs)->c≠x:=λc xs r z=>by subst z;rw[r]at d;exact d
 by_cases hb:b=x
 ·subst hb;rw[Le]at q;cases q;exact new
 ·rw[HV hb]at q
  by_cases hbe:b=e
  ·have g:H b=some (.own x):=by
    rcases he with z|z
    ·exact absurd (hbe.trans z) hb
    rw[hbe];exact z
   rw[q]at g;cases g;obtain⟨v,i⟩:=f;exact⟨v,by rw[hbe];exact i⟩
  ·refine(ok b u q).stay (λc v hc r=>k c v ?_ r) (λc r=>by rw[HV (a c b r)];exact r) λc xs r=>by rw[HV (o c xs r)];exact r
   rcases hc with rfl|hc
   ·exact hbe
   ·rintro rfl
    rcases he with z|z
    ·exact a c b hc z
    rw[hc]at z;cases z;exact hb rfl
end
structure Un(fs ex:List Addr)(H H':Hp)(h h':PP):Prop where
 keep:∀b o,h.get? b=some o->H b=none->b∉fs->b∉ex->h'.get? b=some o
 slot:∀b o,h.get? b=some o->H b=none->b∈fs->b∉ex->∃sl,h'.get? b=some {o with slots:=sl}
 free:∀b o,h.get? b=some o->H b=none->b∉ex->H' b=none
 there:∀b o,h.get? b=some o->b∉ex->∃o',h'.get? b=some o'
 tups:∀b xs,H b=some (.tup xs)->H' b=some (.tup xs)
 frzs:∀b o u,H b=some (.frz o u)->H' b=some (.frz o u)
 tbls:∀b ps,H b=some (.tbl ps)->∃more,H' b=some (.tbl (ps++more))
section
variable {fs fs' ex ex':List Addr}{H1 H2:Hp}{h1 h2:PP}{x e:Addr}
def Un.any(u:Un fs ex H H1 h h1){ob:Obj}(q:h.get? b=some ob)(n:H b=none)(c:b∉ex):∃d,h1.get? b=some {ob with slots:=d}:=by
 by_cases hb:b∈fs
 ·exact u.slot b ob q n hb c
 exact⟨ob.slots,u.keep b ob q n hb c⟩
def Un.kept(k:∀b u,h.get? b=some u->h'.get? b=some u):Un fs ex H H h h':=⟨λb ob q _ _ _=>k b ob q,λb ob q _ _ _=>⟨ob.slots,k b ob q⟩,λ_ _ _ n _=>n,λb ob q _=>⟨ob,k b ob q⟩,λ_ _ q=>q,λ_ _ _ q=>q,λ_ a q=>⟨#[],by rw[q];simp⟩⟩
def Un.refl:Un fs ex H H h h:=Un.kept λ_ _ q=>q
def Un.laid(k:∀b u,h.get? b=some u->h'.get? b=some u)(c:h.objs.size<=a)(hn:H a=none):Un fs ex H (upd H a o) h h' where
 keep:=λb u q _ _ _=>k b u q
 slot:=λb u q _ _ _=>⟨u.slots,k b u q⟩
 free:=λb u q n _=>by rw[HV (Au<|AD (Aj q) c)];exact n
 there:=λb u q _=>⟨u,k b u q⟩
 tups:=λb xs q=>by rw[HV (J9 q hn)];exact q
 frzs:=λb u xs q=>by rw[HV (J9 q hn)];exact q
 tbls:=λb e q=>⟨#[],by rw[HV (J9 q hn),q];simp⟩
def Un.write(c:Sz (H x))(he:e=x\/H e=some (.own x))(k:∀b u,b≠e->h.get? b=some u->h'.get? b=some u)(d:∃u,h'.get? e=some u):Un fs ex H (upd H x o) h h':=by
 have a:∀b,H b=none->b≠x:=λb n z=>by subst z;rw[n]at c;exact c
 have w:∀b,H b=none->b≠e:=λb n z=>by
  subst z;rcases he with r|r
  ·exact a b n r
  rw[n]at r;cases r
 have hm:∀b u,H b=some u->¬Sz (some u)->b≠x:=λb u q nm z=>by subst z;rw[q]at c;exact nm c
 refine⟨λb u q n _ _=>k b u (w b n) q,λb u q n _ _=>⟨u.slots,k b u (w b n) q⟩,λb u q n _=>by rw[HV (a b n)];exact n,λb u q _=>?_,
  λb xs q=>by rw[HV (hm b _ q λz=>z)];exact q,λb u xs q=>by rw[HV (hm b _ q λz=>z)];exact q,λb P q=>⟨#[],by rw[HV (hm b _ q λz=>z),q];simp⟩⟩
 by_cases hbe:b=e
 ·subst hbe;exact d
 exact⟨u,k b u hbe q⟩
end
def UW(h:PP)(H:Hp):List Addr:=(As h.objs.size).filter λa=>(H a).isSome
def KJ(h:PP)(H:Hp):PP:=PySem.W.hideAll h<|UW h H
def yG(h:PP)(H:Hp):(KJ h H).objs.size=h.objs.size:=PySem.W.hideAll_size _ _
def uY{o:Obj}(e:h.get? b=some o)(n:H b=none):(KJ h H).get? b=some o:=PySem.W.hideAll_get _ e λhm=>by have q:(H b).isSome=true:=(List.mem_filter.mp hm).2;rw[n]at q;simp at q
def tZ{o:Obj}(e:(KJ h H).get? b=some o):h.get? b=some o/\H b=none:=by
 have a:h.get? b=some o:=PySem.W.of_hideAll (UW h H) e;refine⟨a,?_⟩;cases q:H b with
 |none=>rfl
 |some x=>
  have hm:b∈UW h H:=List.mem_filter.mpr ⟨List.mem_range.mpr<|Aj a,by simp[q]⟩;have z:(KJ h H).get? b=none:=PySem.W.hideAll_none (UW h H) hm;rw[z]at e;cases e
def Pg(g h:PP)(L:Addr):List (Addr×Obj):=(As h.objs.size).filterMap λa=>if a=L\/(g.get? a).isSome=true then none else(h.get? a).map λo=>(a,o)
variable {g:PP}{L:Addr}
def Xg{o:Obj}(d:a≠L)(e:g.get? a=none)(c:h.get? a=some o):(a,o)∈Pg g h L:=List.mem_filterMap.mpr ⟨a,List.mem_range.mpr<|Aj c,by simp[d,e,c]⟩
def zgc{p:Addr×Obj}(c:p∈Pg g h L):p.1≠L/\g.get? p.1=none/\h.get? p.1=some p.2:=by
 obtain⟨b,_,e⟩:=List.mem_filterMap.mp c;split at e
 ·cases e
 ·rename_i a
  cases q:h.get? b with
  |none=>rw[q]at e;simp at e
  |some u=>
   rw[q]at e;simp only[AS,Option.some.injEq]at e;subst e;refine⟨λz=>a (.inl z),?_,q⟩;show g.get? b=none;cases r:g.get? b with
   |none=>rfl
   |some v=>exact(a<|.inr<|by simp[r]).elim
def WG:News g L h (Pg g h L):=λp o=>let ⟨a,b,c⟩:=zgc o;⟨c,a,b⟩
structure Mod(K:Ab)(mg:Str->Option IR)(base:PP):Prop where
 kin:K.In base
 glob:base.Ns SZ mg
 blt:∃mb,base.Ns builtinsNs mb/\∀x:Str,x≠"__name__"->mb x=W1 x
 nolimit:base.NoLimit
structure Cx where
 prog:Re
 w:Wp
 K:Ab
 mg:Str->Option IR
 base:PP
 A:Around
 N:List Str
 s₀:Shared
 H₀:Hp
 env:Env
 outer:List Env
 stack:List Env
 ex:List Addr
 fn:Str->Bool
 calm:Bool
 pn:List (Addr×Obj)
 xe:Qqa
def L8(l:List Env):List Addr:=l.filterMap (·.frame)
noncomputable abbrev Cx.fs (X:Cx):List Addr:=L8 X.outer
def YK(sc:Scope)(x:Str):Prop:=sc.names.lookup x=some .local\/sc.names.lookup x=some .cell\/sc.names.lookup x=some .free
def Loc(sc:Scope)(x:Str):Prop:=sc.names.lookup x=some .local\/sc.names.lookup x=some .cell
def Look(env:Env)(h:PP)(m:Str->Option IR)(x:Str)(u:IR):Prop:=(env.kindOf x=some .local/\m x=some u)\/((env.kindOf x=some .cell\/env.kindOf x=some .free)/\∃c,env.cells.lookup x=some c/\h.IsCell c (some u))
structure Cx.Ok(X:Cx):Prop where
 mod:Mod X.K X.mg X.base
 kind:X.env.scope.kind=.function
 glob:X.env.globals=SZ
 blt:X.env.builtins=builtinsNs
 above:X.s₀.heap.objs.size<=X.env.locals
 inj:∀x y c,X.env.cells.lookup x=some c->X.env.cells.lookup y=some c->x=y
 has:∀x,(X.env.kindOf x=some .cell\/X.env.kindOf x=some .free)->∃c,X.env.cells.lookup x=some c
 cab:∀x c,X.fn x=true->X.env.cells.lookup x=some c->X.s₀.heap.objs.size<=c
 hd:X.calm=true->X.A.handled=none
 frames:X.A.frames=some X.stack
 stk:X.stack=X.outer\/(X.stack=X.env::X.outer/\X.env.frame=some X.env.locals)
 exf:∀b∈X.ex,b≠X.env.locals/\∀x c,X.env.cells.lookup x=some c->c≠b
 bs:∀b o,X.base.get? b=some o->X.s₀.heap.get? b=some o/\X.H₀ b=none
 bsz:X.base.objs.size<=X.s₀.heap.objs.size
 noex:∀b o,X.base.get? b=some o->b∉X.ex
 exfs:∀b∈X.ex,b∉X.fs
 funs:X.s₀.heap.FunFrames X.base X.outer
 frf:∀b∈X.fs,X.H₀ b=none
structure Inv(X:Cx)(qp:List (Addr×Obj))(σ:List (Option V))(H:Hp)(s:Shared):Prop where
 ok:X.Ok
 os:s.os=X.s₀.os
 bare:AllBare s.gens
 base:Un X.fs X.ex X.H₀ H X.s₀.heap s.heap
 loc:∃m,s.heap.Ns X.env.locals m/\∀(i:Nat) (x:Str) (v:V),X.N[i]?=some x->σ[i]?=some (some v)->YK X.env.scope x->∃u,RelV v u/\Look X.env s.heap m x u
 cell:∀x c,X.env.cells.lookup x=some c->∃v,s.heap.IsCell c v
 free:H X.env.locals=none
 freeC:∀x c,X.env.cells.lookup x=some c->H c=none
 pin:∀p∈X.pn++qp,s.heap.get? p.1=some p.2/\H p.1=none/\p.1≠X.env.locals/\p.1∉X.fs/\∀v,p.2.data≠.cell v
 hok:Jx X.prog X.w H s.heap
 len:σ.length=X.N.length
variable {x:Str}{X:Cx}{qp:List (Addr×Obj)}{s s':Shared}{g':Array GenState}{t' i j:Nat}{d':Drawn}{ch:List Addr}{it:Addr}{N:List Str}{M:Model}{A:Around}{E:Qqa}{v:V}
section
variable {σ:List (Option V)}
def Cx.Ok.nofr(ok:X.Ok){o:Obj}(e:X.base.get? b=some o):b∉X.fs:=λa=>by have:=(ok.funs.mem a).1;rw[e]at this;cases this
def Inv.bs(I:Inv X qp σ H s):∀b o,X.base.get? b=some o->s.heap.get? b=some o/\H b=none:=λb o e=>
 ⟨I.base.keep b o (I.ok.bs b o e).1 (I.ok.bs b o e).2 (I.ok.nofr e)<|I.ok.noex b o e,I.base.free b o (I.ok.bs b o e).1 (I.ok.bs b o e).2<|I.ok.noex b o e⟩
def Inv.bk(I:Inv X qp σ H s):∀b o,X.base.get? b=some o->s.heap.get? b=some o:=λb o e=>(I.bs b o e).1
def Inv.mod(I:Inv X qp σ H s):Mod X.K X.mg X.base:=I.ok.mod
def Inv.kIn(I:Inv X qp σ H s):X.K.In s.heap:=I.ok.mod.kin.keeps I.bk
def Inv.fr(I:Inv X qp σ H s):∃m,Fr X.base X.env.locals s.heap m:=
 let ⟨m,hn,_⟩:=I.loc
 ⟨m,hn,I.bk,AA I.ok.bsz I.ok.above⟩
def Inv.lt(I:Inv X qp σ H s):X.env.locals<s.heap.objs.size:=let ⟨_,hn,_⟩:=I.loc;hn.lt
def Inv.sz(I:Inv X qp σ H s):X.s₀.heap.objs.size<=s.heap.objs.size:=AA I.ok.above<|BX I.lt
def Inv.nofs(I:Inv X qp σ H s)(h:s.heap.objs.size<=a):a∉X.fs:=λb=>by obtain⟨_,o,g,_⟩:=I.ok.funs.mem b;exact absurd (AD (Aj g)<|AA I.sz h)<|AL _
def Inv.cne(I:Inv X qp σ H s):∀x c,X.env.cells.lookup x=some c->c≠X.env.locals:=λx c e z=>by obtain⟨v,o,g,hd⟩:=I.cell x c e;obtain⟨m,⟨h,i,j,a,b,_⟩,_⟩:=I.loc;rw[z,a]at g;cases g;rw[b]at hd;cases hd
def Inv.funs(I:Inv X qp σ H s):s.heap.FunFrames X.base X.outer:=by
 have all:∀(l:List Env),(∀b∈L8 l,b∈X.fs)->X.s₀.heap.FunFrames X.base l->s.heap.FunFrames X.base l:=by
  intro l
  induction l with
  |nil=>intro _ _;trivial
  |cons env r i=>
   intro h j;obtain⟨hk,⟨L,o,hf,u,v,hd⟩,w⟩:=j;have a:L∈X.fs:=h L (by unfold L8;rw[B3,hf];exact Al);obtain⟨x,e⟩:=I.base.slot L o v (I.ok.frf L a) a λz=>I.ok.exfs L z a;exact⟨hk,⟨L,_,hf,u,e,hd⟩,i (λb g=>h b (by unfold L8;rw[B3,hf];exact Ai _ g)) w⟩
 exact all X.outer (λ_ g=>g) I.ok.funs
def Inv.stack(I:Inv X qp σ H s):s.heap.FunFrames X.base X.stack:=by
 rcases I.ok.stk with e|⟨e,hf⟩
 ·rw[e];exact I.funs
 rw[e];obtain⟨m,a,_⟩:=I.loc;refine .cons (by rw[I.ok.kind];decide) hf a ?_ I.funs;exact Heap.get?_none_of_le<|AA I.ok.bsz I.ok.above
def Inv.stkSub(I:Inv X qp σ H s):∀b∈L8 X.stack,b∈X.env.locals::X.fs:=λb a=>by
 rcases I.ok.stk with e|⟨e,hf⟩
 ·rw[e]at a;exact Ai _ a
 rw[e]at a;unfold L8 at a;rw[B3,hf]at a;exact a
def Inv.stkFree(I:Inv X qp σ H s):∀b∈L8 X.stack,H b=none:=λb hb=>by
 rcases KM.mp (I.stkSub b hb)with e|hb
 ·rw[e];exact I.free
 obtain⟨_,o,a,_⟩:=I.ok.funs.mem hb;exact I.base.free b o a (I.ok.frf b hb) λz=>I.ok.exfs b z hb
def Inv.step{ch:List Addr}(I:Inv X qp σ H s)(f:∀b∈ch,(b∈X.ex\/X.s₀.heap.objs.size<=b)/\b≠X.env.locals/\(∀x c,X.env.cells.lookup x=some c->c≠b)/\∀p∈X.pn++qp,p.1≠b)(keep:∀b o,b≠X.env.locals->b∉X.fs->b∉ch->s.heap.get? b=some o->H b=none->h'.get? b=some o)(slot:∀b o,b≠X.env.locals->b∈X.fs->b∉ch->s.heap.get? b=some o->H b=none->∃G,h'.get? b=some {o with slots:=G}) (free:∀b o,b∉ch->s.heap.get? b=some o->H b=none->H' b=none)(there:∀b o,b∉ch->s.heap.get? b=some o->∃y,h'.get? b=some y)(B:∀b xs,H b=some (.tup xs)->H' b=some (.tup xs)) (C:∀b o u,H b=some (.frz o u)->H' b=some (.frz o u)) (F:∀b ps,H b=some (.tbl ps)->∃more,H' b=some (.tbl<|ps++more))(ns:∀m,s.heap.Ns X.env.locals m->h'.Ns X.env.locals m) (J:Jx X.prog X.w H' h') (Q:AllBare g'):
  Inv X qp σ H' {s with heap:=h',gens:=g',drawn:=d',toks:=t'}:=by
 have L:∀b o,X.s₀.heap.get? b=some o->b≠X.env.locals:=λb o e=>Au<|AD (Aj e) I.ok.above;have h:∀b o,X.s₀.heap.get? b=some o->b∉X.ex->b∉ch:=λb o e a A=>by
  rcases(f b A).1 with z|z
  ·exact a z
  exact absurd (AD (Aj e) z)<|AL _
 have cellK:∀x c,X.env.cells.lookup x=some c->∀v,s.heap.IsCell c v->h'.IsCell c v:=by
  rintro x c e v ⟨o,E,hd⟩;have g:c∉ch:=λz=>(f c z).2.2.1 x c e rfl;by_cases hc:c∈X.fs
  ·obtain⟨G,q⟩:=slot c o (I.cne x c e) hc g E<|I.freeC x c e;exact⟨_,q,hd⟩
  exact⟨o,keep c o (I.cne x c e) hc g E<|I.freeC x c e,hd⟩
 refine⟨I.ok,I.os,Q,⟨λb o e n A a=>?_,λb o e n A a=>?_,λb o e n a=>?_,λb o e a=>?_,λb xs e=>B b xs (I.base.tups b xs e),λb o xs e=>C b o xs (I.base.frzs b o xs e),λb ps e=>?_⟩,?_,λx c e=>?_,?_,λx c e=>?_,λp P=>?_,J,I.len⟩
 ·exact keep b o (L b o e) A (h b o e a) (I.base.keep b o e n A a)<|I.base.free b o e n a
 ·obtain⟨G,j⟩:=I.base.slot b o e n A a;obtain⟨N,M⟩:=slot b _ (L b o e) A (h b o e a) j<|I.base.free b o e n a;exact⟨N,M⟩
 ·obtain⟨y,j⟩:=I.base.there b o e a;exact free b y (h b o e a) j<|I.base.free b o e n a
 ·obtain⟨y,j⟩:=I.base.there b o e a;exact there b y (h b o e a) j
 ·obtain⟨S,j⟩:=I.base.tbls b ps e;obtain⟨T,M⟩:=F b _ j;exact⟨S++T,by rw[M,Array.append_assoc]⟩
 ·obtain⟨m,U,W⟩:=I.loc;refine⟨m,ns m U,λi x v j M Y=>?_⟩;obtain⟨u,r,l⟩:=W i x v j M Y;refine⟨u,r,?_⟩
  rcases l with l|⟨k,c,e,z⟩
  ·exact .inl l
  exact .inr ⟨k,c,e,cellK x c e _ z⟩
 ·obtain⟨v,z⟩:=I.cell x c e;exact⟨v,cellK x c e v z⟩
 ·obtain⟨m,⟨o,_,_,E,_⟩,_⟩:=I.loc;exact free _ o (λz=>(f _ z).2.1 rfl) E I.free
 ·obtain⟨v,o,E,hd⟩:=I.cell x c e;exact free c o (λz=>(f c z).2.2.1 x c e rfl) E<|I.freeC x c e
 obtain⟨e,n,ne,K,d⟩:=I.pin p P;have g:p.1∉ch:=λz=>(f p.1 z).2.2.2 p P rfl;exact⟨keep p.1 p.2 ne K g e n,free p.1 p.2 g e n,ne,K,d⟩
def Inv.un(I:Inv X qp σ H s)(u:Un X.fs [] H H' s.heap h')(c:Jx X.prog X.w H' h'):Inv X qp σ H' {s with heap:=h',toks:=t'}:=by obtain⟨m,⟨o,A,E,j,r⟩,_⟩:=id I.loc;obtain⟨L,v⟩:=u.any j I.free (!2);exact I.step (g':=s.gens) (d':=s.drawn) (ch:=[]) (λ_ z=>nomatch z) (λb o _ g _ e n=>u.keep b o e n g (!2)) (λb o _ g _ e n=>u.slot b o e n g (!2)) (λb o _ e n=>u.free b o e n (!2)) (λb o _ e=>u.there b o e (!2)) u.tups u.frzs u.tbls (λM hm=>by obtain⟨N,h,i,a,x⟩:=hm;rw[j]at a;cases a;exact⟨_,h,i,v,x⟩) c I.bare
def Inv.call{ch:List Addr}(I:Inv X qp σ H s)(u:Un (L8 X.stack) ch H H' s.heap h')(f:Jx X.prog X.w H' h')(l:AllBare g')(d:∀b∈ch,(b∈X.ex\/X.s₀.heap.objs.size<=b)/\b≠X.env.locals/\(∀x c,X.env.cells.lookup x=some c->c≠b)/\∀p∈X.pn++qp,p.1≠b):
  Inv X qp σ H' {s with heap:=h',gens:=g',drawn:=d',toks:=t'}:=by
 obtain⟨m,⟨o,L,M,v,r⟩,_⟩:=id I.loc;obtain⟨N,h⟩:=u.any v I.free λz=>(d _ z).2.1 rfl;exact I.step (ch:=ch) d (λb o h A a e n=>u.keep b o e n (λz=>(KM.mp<|I.stkSub b z).elim h A) a) (λb o _ _ a e n=>u.any e n a) (λb o a e n=>u.free b o e n a) (λb o a e=>u.there b o e a) u.tups u.frzs u.tbls (λP hm=>by obtain⟨q,i,j,g,E⟩:=hm;rw[v]at g;cases g;exact⟨_,i,j,h,E⟩) f l
def Inv.turned(I:Inv X qp σ H s)(k:∀b o,b≠it->s.heap.get? b=some o->h'.get? b=some o)(hn:H it=none)(d:it≠X.env.locals)(f:it∈X.ex\/X.s₀.heap.objs.size<=it) (l:∀x c,X.env.cells.lookup x=some c->c≠it) (y:∀p∈X.pn++qp,p.1≠it):Inv X qp σ H {s with heap:=h',toks:=t'}:=by
 have g:∀b u,H b=some u->b≠it:=λb u e z=>by rw[z,hn]at e;cases e
 refine I.step (g':=s.gens) (d':=s.drawn) (ch:=[it]) (λb h=>?_) (λb o _ _ a e _=>k b o (λz=>a (by simp[z])) e) (λb o _ _ a e _=>⟨o.slots,k b o (λz=>a (by simp[z])) e⟩) (λ_ _ _ _ n=>n)
  (λb o a e=>⟨o,k b o (λz=>a (by simp[z])) e⟩) (λ_ _ e=>e) (λ_ _ _ e=>e) (λb A e=>⟨#[],by rw[e];simp⟩) (λm hm=>?_) (λb u e=>?_) I.bare
 ·have e:b=it:=by simpa using h
  subst e;exact⟨f,d,l,y⟩
 ·obtain⟨o,i,j,w,r⟩:=hm;exact⟨o,i,j,k _ o (BJ d) w,r⟩
 ·refine(I.hok b u e).stay (λc v a q=>k c v ?_ q) (λ_ q=>q) λ_ _ q=>q
  rcases a with z|z
  ·rw[z];exact g b u e
  exact g c _ z
def Inv.tok(I:Inv X qp σ H s)(t:Nat):Inv X qp σ H {s with toks:=t}:=I.un (h':=s.heap) (t':=t) Un.refl I.hok
def Inv.kept{t':Nat}(I:Inv X qp σ H s)(k:∀b u,s.heap.get? b=some u->h'.get? b=some u):Inv X qp σ H {s with heap:=h',toks:=t'}:=I.un (Un.kept k)<|I.hok.kept k
def Inv.laid{a:Addr}{o:HO}{t':Nat}(I:Inv X qp σ H s)(k:∀b u,s.heap.get? b=some u->h'.get? b=some u)(c:s.heap.objs.size<=a)(new:Jr X.prog X.w (upd H a o) h' a o):
  Inv X qp σ (upd H a o) {s with heap:=h',toks:=t'}:=I.un (Un.laid k c<|I.hok.fresh c) (I.hok.laid k c new)
def Inv.write{x e:Addr}{o:HO}{t':Nat}(I:Inv X qp σ H s)(d:Sz (H x))(he:e=x\/H e=some (.own x))(k:∀b u,b≠e->s.heap.get? b=some u->h'.get? b=some u)(c:∃u,h'.get? e=some u)(new:Jr X.prog X.w (upd H x o) h' x o):Inv X qp σ (upd H x o) {s with heap:=h',toks:=t'}:=I.un (Un.write d he k c) (I.hok.write d he k c new)
def Inv.pins_of{c:List (Addr×Obj)}(I:Inv X qp σ H s)(h:∀p∈c,s.heap.get? p.1=some p.2/\H p.1=none/\p.1≠X.env.locals/\p.1∉X.fs/\∀v,p.2.data≠.cell v):Inv X c σ H s:=⟨I.ok,I.os,I.bare,I.base,I.loc,I.cell,I.free,I.freeC,λp a=>(Os.mp a).elim (λz=>I.pin p (A4 _ z)) (h p),I.hok,I.len⟩
def bF(c:N.Nodup)(a:N[i]?=some x)(b:N[j]?=some x):i=j:=by obtain⟨h,e1⟩:=KB.mp a;obtain⟨o,g⟩:=KB.mp b;exact(List.getElem_inj c).mp<|e1.trans g.symm
def dZ{Q:Unit->Shared->Prop}(I:Inv X qp σ H s)(hN:X.N.Nodup)(hi:X.N[i]?=some x)(f:Loc X.env.scope x)(r:RelV v u)(h:∀s',Inv X qp (σ.set i<|some v) H s'->(∃a,BD a s.heap s'.heap/\(a=X.env.locals\/X.env.cells.lookup x=some a))->Q () s') (hf:X.fn x=true\/X.env.scope.names.lookup x=some .local:=by first|exact .inl rfl|exact .inr rfl|assumption):wpAny M A (storeName X.env x u) Q E s:=by
 obtain⟨m,U,hl⟩:=id I.loc;have F:(X.env.scope.kind==.class || (X.env.scope.kind==.module&&X.env.locals != X.env.globals))=false:=by rw[I.ok.kind];rfl
 have hiσ:i<σ.length:=by rw[I.len];exact(KB.mp hi).1
 have cne:=I.cne;have tracked:∀{a:Addr}{h':PP},(∃o,s.heap.get? a=some o/\H a=none)->BD a s.heap h'->Jx X.prog X.w H h':=λ{a h'} ha g b ob e=>by
  obtain⟨_,_,P⟩:=ha;refine(I.hok b ob e).stay (λc S hc q=>(g.2 c ?_).trans q) (λ_ q=>q) λ_ _ q=>q;rintro rfl;rcases hc with rfl|hc
  ·rw[P]at e;cases e
  rw[P]at hc;cases hc
 rcases f with hk|hk
 ·refine wpAny_storeName_local hk U (λh' W g=>?_) F;obtain⟨oL,_,_,Y,_⟩:=id U;refine h _ ⟨I.ok,I.os,I.bare,⟨λb o e n B f=>?_,λb o e n B f=>?_,I.base.free,λb o e f=>?_,I.base.tups,I.base.frzs,I.base.tbls⟩,⟨_,W,λj y Z L l e3=>?_⟩,λy c e=>?_,I.free,I.freeC,λp hp=>?_,tracked ⟨oL,Y,I.free⟩ g,by simpa using I.len⟩ ⟨_,g,.inl rfl⟩
  ·exact(g.2 b<|Au<|AD (Aj e) I.ok.above).trans<|I.base.keep b o e n B f
  ·obtain⟨sl,L⟩:=I.base.slot b o e n B f;exact⟨sl,(g.2 b<|Au<|AD (Aj e) I.ok.above).trans L⟩
  ·obtain⟨o',L⟩:=I.base.there b o e f;exact⟨o',(g.2 b<|Au<|AD (Aj e) I.ok.above).trans L⟩
  ·by_cases hj:j=i
   ·subst hj;rw[hi]at L;cases L;rw[AC hiσ]at l;cases l;exact⟨u,r,.inl ⟨hk,by simp⟩⟩
   ·rw[Ak (BJ hj)]at l;obtain⟨u',r',q⟩:=hl j y Z L l e3;refine⟨u',r',?_⟩
    rcases q with⟨k,e⟩|⟨k,c,e,z⟩
    ·refine .inl ⟨k,?_⟩;have:y≠x:=λe=>hj<|bF hN L<|e ▸ hi;simp[this,e]
    exact .inr ⟨k,c,e,z.sameBut g<|cne y c e⟩
  ·obtain⟨S,z⟩:=I.cell y c e;exact⟨S,z.sameBut g<|cne y c e⟩
  obtain⟨e,n,ne,nf,d⟩:=I.pin p hp;exact⟨(g.2 p.1 ne).trans e,n,ne,nf,d⟩
 ·have C:X.fn x=true:=by
   rcases hf with z|z
   ·exact z
   rw[z]at hk;cases hk
  obtain⟨c,hc⟩:=I.ok.has x<|.inl hk;obtain⟨S,z⟩:=I.cell x c hc;refine wpAny_storeName_cell I.ok.kind hk hc z λh' G g=>?_;obtain⟨oc,J,K⟩:=id z;refine h {s with heap:=h'} ⟨I.ok,I.os,I.bare,⟨λb o e n B f=>?_,λb o e n B f=>?_,I.base.free,λb o e f=>?_,I.base.tups,I.base.frzs,I.base.tbls⟩,⟨m,U.sameBut g<|BJ<|cne x c hc,λj y Z L l e3=>?_⟩,λy T e=>?_,I.free,I.freeC,λp hp=>?_,tracked ⟨oc,J,I.freeC x c hc⟩ g,by simpa using I.len⟩ ⟨c,g,.inr hc⟩
  ·exact(g.2 b<|Au<|AD (Aj e)<|I.ok.cab x c C hc).trans<|I.base.keep b o e n B f
  ·obtain⟨sl,L⟩:=I.base.slot b o e n B f;exact⟨sl,(g.2 b<|Au<|AD (Aj e)<|I.ok.cab x c C hc).trans L⟩
  ·obtain⟨o',L⟩:=I.base.there b o e f;exact⟨o',(g.2 b<|Au<|AD (Aj e)<|I.ok.cab x c C hc).trans L⟩
  ·by_cases hj:j=i
   ·subst hj;rw[hi]at L;cases L;rw[AC hiσ]at l;cases l;exact⟨u,r,.inr ⟨.inl hk,c,hc,G⟩⟩
   ·rw[Ak (BJ hj)]at l;obtain⟨u',r',q⟩:=hl j y Z L l e3;refine⟨u',r',?_⟩
    rcases q with q|⟨k,T,e,z'⟩
    ·exact .inl q
    refine .inr ⟨k,T,e,z'.sameBut g ?_⟩;rintro rfl;exact hj<|bF hN L<|I.ok.inj _ _ _ e hc ▸ hi
  ·by_cases hcc:T=c
   ·subst hcc;exact⟨_,G⟩
   obtain⟨w2,z2⟩:=I.cell y T e;exact⟨w2,z2.sameBut g hcc⟩
  obtain⟨e,n,ne,nf,d⟩:=I.pin p hp;refine⟨(g.2 p.1 ?_).trans e,n,ne,nf,d⟩;intro q;rw[q,J]at e;have q':oc=p.2:=Av e;exact d S (by rw[<-q'];exact K)
def Uh{Q:Unit->Shared->Prop}(I:Inv X qp σ H s)(c:X.N.Nodup)(hi:X.N[i]?=some x)(d:Loc X.env.scope x)(r:RelV v u)(h:∀s',Inv X qp (σ.set i<|some v) H s'->Q () s') (hf:X.fn x=true\/X.env.scope.names.lookup x=some .local:=by first|exact .inl rfl|exact .inr rfl|assumption):wpAny M A (storeName X.env x u) Q E s:=
 dZ I c hi d r (λs' a _=>h s' a) hf
def Inv.call'{ch:List Addr}(I:Inv X qp σ H s)(l:s'.os=s.os)(u:Un (L8 X.stack) ch H H' s.heap s'.heap)(d:Jx X.prog X.w H' s'.heap)(m:AllBare s'.gens)(f:∀b∈ch,(b∈X.ex\/X.s₀.heap.objs.size<=b)/\b≠X.env.locals/\(∀x c,X.env.cells.lookup x=some c->c≠b)/\∀p∈X.pn++qp,p.1≠b):Inv X qp σ H' s':=by
 obtain⟨h',g',d',t',a⟩:=s';have e:a=s.os:=l;subst e;exact I.call (g':=g') (t':=t') (d':=d') u d m f
end
noncomputable abbrev XK:=IR->Option Addr->Hp->Prop
noncomputable abbrev St:=List (Option V)
noncomputable abbrev VK:=V->Hp->Prop
noncomputable abbrev TE:=St->Hp->VK->Prop
noncomputable abbrev TT:=St->Hp->(Bool->Hp->Prop)->Prop
noncomputable abbrev TA:=St->Hp->(List V->Hp->Prop)->Prop
structure Ends where
 nx:St->Hp->Prop
 rt:VK
 bk:St->Hp->Prop:=λ_ _=>False
 ct:St->Hp->Prop:=λ_ _=>False
noncomputable abbrev TS:=Ends->St->Hp->Prop
def EP(X:Cx)(qp:List (Addr×Obj))(σ:St)(Q:VK)(u:IR)(s':Shared):Prop:=∃v H',Inv X qp σ H' s'/\RelV v u/\Q v H'
def TP(X:Cx)(qp:List (Addr×Obj))(σ:St)(Q:Bool->Hp->Prop)(b:Bool)(s':Shared):Prop:=∃H',Inv X qp σ H' s'/\Q b H'
def AP(X:Cx)(qp:List (Addr×Obj))(σ:St)(Q:List V->Hp->Prop)(us:List IR)(s':Shared):Prop:=∃a H',Inv X qp σ H' s'/\Vals a us/\Q a H'
def SP(X:Cx)(qp:List (Addr×Obj))(D:Ends)(f:Flow)(s':Shared):Prop:=
 match f with
 |.next=>∃σ' H',Inv X qp σ' H' s'/\D.nx σ' H'
 |.brk=>∃σ' H',Inv X qp σ' H' s'/\D.bk σ' H'
 |.cont=>∃σ' H',Inv X qp σ' H' s'/\D.ct σ' H'
 |.ret u=>∃v σ' H',Inv X qp σ' H' s'/\RelV v u/\D.rt v H'
def PE(X:Cx)(e:Pv)(t:TE):Prop:=∀(qp:List (Addr×Obj)) (s:Shared) (σ:St) (H:Hp) (Q:VK),Inv X qp σ H s->t σ H Q->wpAny (!4) X.A (UV e X.env) (EP X qp σ Q) X.xe s
def PT(X:Cx)(e:Pv)(t:TT):Prop:=∀(qp:List (Addr×Obj)) (s:Shared) (σ:St) (H:Hp) (Q:Bool->Hp->Prop),Inv X qp σ H s->t σ H Q->wpAny (!4) X.A (isTrue e X.env<|UV e X.env) (TP X qp σ Q) X.xe s
def PW(X:Cx)(e:Pv)(t:TT):Prop:=∀(whole:Sem IR) (qp:List (Addr×Obj)) (s:Shared) (σ:St) (H:Hp) (Q:Bool->Hp->Prop),Inv X qp σ H s->t σ H Q->wpAny (!4) X.A (isTrue e X.env whole) (TP X qp σ Q) X.xe s
variable {e:Pv}
def PW.pt{t:TT}(h:PW X e t):PT X e t:=h _
def PA(X:Cx)(es:List Pv)(t:TA):Prop:=∀(pos:Pos) (qp:List (Addr×Obj)) (s:Shared) (σ:St) (H:Hp) (Q:List V->Hp->Prop),Inv X qp σ H s->t σ H Q->wpAny (!4) X.A (spliced<|backTo pos<|UF es X.env) (AP X qp σ Q) X.xe s
def PS(X:Cx)(st:Stmt)(t:TS):Prop:=∀(qp:List (Addr×Obj)) (s:Shared) (σ:St) (H:Hp) (D:Ends),Inv X qp σ H s->t D σ H->wpAny (!4) X.A (exec st X.env) (SP X qp D) X.xe s
def KO(X:Cx)(st:List Stmt)(t:TS):Prop:=∀(qp:List (Addr×Obj)) (s:Shared) (σ:St) (H:Hp) (D:Ends),Inv X qp σ H s->t D σ H->wpAny (!4) X.A (execs st X.env) (SP X qp D) X.xe s
def HB{t:Sem α}{Q c:α->Shared->Prop}{s:Shared}(h:wpAny M A t Q E s)(d:∀a s,Q a s->c a s):wpAny M A t c E s:=Bs h d λ_ _ x=>x
variable {σ:St}{Q:Qqa}{pos:Pos}{ta tb:TE}{op:CmpOp}{c:Pv}
section
def XM(i:Nat):TE:=λσ H Q=>∃v,σ[i]?=some (some v)/\Q v H
def tC(v:V):TE:=λ_ H Q=>Q v H
def mG(f:X.N[i]?=some x)(n:YK X.env.scope x)(hd:(x==("__debug__":Str))=false:=by decide)(d:(x==("__classdict__":Str))=false:=by decide):PE X (.Name x pos) (XM i):=by
 exists 4;obtain⟨v,e,h⟩:=h;obtain⟨m,g,j⟩:=I.loc;obtain⟨u,r,l⟩:=j i x v f e n;have fin:EP X qp σ Q u s:=⟨v,H,I,r,h⟩;rcases l with⟨hk,hm⟩|⟨hk,c,b,a⟩
 ·exact Gp (wpAny_loadName_local I.ok.kind hk g hm fin) hd
 ·rcases hk with hk|hk
  ·exact Gp (wpAny_loadName_cell I.ok.kind hk b a fin) hd
  exact Gp (wpAny_loadName_free I.ok.kind hk b a fin d) hd
def lV{i j pos}:PE X (.Constant (.int i) j pos) (tC<|.int i):=λ_ _ _ H _ I h=>wpAny_Constant_int ⟨.int i,H,I.tok _,⟨_,rfl⟩,h⟩
def iX{b j pos}:PE X (.Constant (.bool b) j pos) (tC<|.bl b):=λ_ _ _ H _ I h=>Constant_bool ⟨.bl b,H,I,rfl,h⟩
def lX{j pos}:PE X (.Constant .none j pos) (tC .non):=λ_ _ _ H _ I h=>Constant_none ⟨.non,H,I,rfl,h⟩
def mD{x j pos}:PE X (.Constant (.str x) j pos) (tC<|.str x):=λ_ _ _ H _ I h=>Calls.Constant_str ⟨.str x,H,I.tok _,⟨_,rfl⟩,h⟩
def Gl(X:Cx)(x:Str):Prop:=X.env.kindOf x=some .globalImplicit
def Z1(I:Inv X qp σ H s)(d:Gl X x)(hm:X.mg x=some u)(h:Q u s)(hd:(x==("__debug__":Str))=false:=by decide):wpAny (!4) X.A (UV (.Name x pos) X.env) Q E s:=
 DU I.ok.kind d (Calls.loadGlobal_global (by rw[I.ok.glob];exact I.mod.glob.keeps I.bk) hm h) hd
def Qh(I:Inv X qp σ H s)(d:Gl X x)(hm:X.mg x=none)(f:W1 x=some u)(h:Q u s)(hn:x≠"__name__":=by decide) (hd:(x==("__debug__":Str))=false:=by decide):wpAny (!4) X.A (UV (.Name x pos) X.env) Q E s:=by
 obtain⟨c,a,b⟩:=I.mod.blt;exact DU I.ok.kind d (Calls.loadGlobal_builtin (by rw[I.ok.glob];exact I.mod.glob.keeps I.bk) hm (by rw[I.ok.blt];exact a.keeps I.bk) ((b x hn).trans f) h) hd
def sU(d:Gl X x)(hm:X.mg x=none)(f:W1 x=some u)(r:RelV v u)(hn:x≠"__name__":=by decide)(hd:(x==("__debug__":Str))=false:=by decide):PE X (.Name x pos) (tC v):=λ_ _ _ H _ I h=>Qh I d hm f ⟨v,H,I,r,h⟩ hn hd
variable {a b:Pv}
def PC(X:Cx)(op:CmpOp)(a b:Pv)(t:TE):Prop:=
 ∀(qp:List (Addr×Obj)) (s:Shared) (σ:St) (H:Hp) (Q:VK),Inv X qp σ H s->t σ H Q ->
  wpAny (!4) X.A (UV a X.env) (λv s₁=>wpAny (!4) X.A (UV b X.env) (λu s₂=>wpAny (!4) X.A (SL op v u) (EP X qp σ Q) X.xe s₂) X.xe s₁) X.xe s
def tB(t:TE):TT:=λσ H Q=>t σ H λx H1=>∃c,x=.bl c/\Q c H1
def ZL{t:TE}(h:PC X op a b t)(l:behindInMarks op b=false:=by first|exact f _ (!1) (!1)|rfl):PT X (.Compare a [op] [b] pos) (tB t):=by intro qp s σ H Q I hw;refine ER (HB (h qp s σ H _ I hw) λv s1 l=>HB l λu s2 e=>HB e ?_) l;rintro c s3 ⟨x,H1,g,i,j⟩;obtain⟨d,rfl,q⟩:=j;cases i;exact Bw ⟨H1,g,q⟩
variable {tA tB':TT}{rest:List Pv}
def Yb(t u:TT):TT:=λσ H Q=>t σ H λc H1=>if c=true then u σ H1 Q else Q false H1
def tOr(t u:TT):TT:=λσ H Q=>t σ H λc H1=>if c=true then Q true H1 else u σ H1 Q
def XS(t:TT):TT:=λσ H Q=>t σ H λc H1=>Q (!c) H1
def NM(d:PT X a tA):PW X (.BoolOp .And [a] pos) tA:=by
 intro b qp s σ H Q I h;refine isTrue_and<|HB (d qp s σ H Q I h) λc s1 e=>?_
 cases c with
 |true=>exact isTrue_and_nil e
 |false=>exact e
def Pz(d:PT X a tA):PW X (.BoolOp .Or [a] pos) tA:=by
 intro b qp s σ H Q I h;refine isTrue_or<|HB (d qp s σ H Q I h) λc s1 e=>?_
 cases c with
 |false=>exact isTrue_or_nil e
 |true=>exact e
def PB(d:PT X a tA)(f:PW X (.BoolOp .And (b::rest) pos) tB'):PW X (.BoolOp .And (a::b::rest) pos) (Yb tA tB'):=by
 intro i qp s σ H Q I h;refine isTrue_and<|HB (d qp s σ H _ I h) ?_;rintro c s1 ⟨H1,e,g⟩
 cases c with
 |true=>exact f i qp s1 σ H1 Q e g
 |false=>exact⟨H1,e,g⟩
def Sd(d:PT X a tA)(f:PW X (.BoolOp .Or (b::rest) pos) tB'):PW X (.BoolOp .Or (a::b::rest) pos) (tOr tA tB'):=by
 intro i qp s σ H Q I h;refine isTrue_or<|HB (d qp s σ H _ I h) ?_;rintro c s1 ⟨H1,e,g⟩
 cases c with
 |true=>exact⟨H1,e,g⟩
 |false=>exact f i qp s1 σ H1 Q e g
def nB(ha:PT X a tA):PT X (.UnaryOp .Not a pos) (XS tA):=by intro qp s σ H Q I h;exact isTrue_not<|ha qp s σ H (λc H1=>Q (!c) H1) I h
def jK(ta tb:TE):TE:=λσ H Q=>ta σ H λx H1=>∃c,x=.bl c/\if c=true then tb σ H1 Q else Q (.bl false) H1
def lJ(ta:TE):TE:=λσ H Q=>ta σ H λx H1=>∃c,x=.bl c/\Q (.bl<|!c) H1
def mC{op}{t:TE}(h:PE X a t):PE X (.BoolOp op [a] pos) t:=λqp s σ H Q I hw=>BoolOp_one<|h qp s σ H Q I hw
def lS(d:PE X a ta)(f:PE X (.BoolOp .And (b::rest) pos) tb):PE X (.BoolOp .And (a::b::rest) pos) (jK ta tb):=by
 exists 4;refine BoolOp_and<|HB (d qp s σ H _ I h) ?_;rintro v s1 ⟨x,H1,g,i,e⟩;obtain⟨c,rfl,e⟩:=e;cases i;refine Bw ?_
 cases c with
 |true=>exact f qp s1 σ H1 Q g e
 |false=>exact⟨.bl false,H1,g,rfl,e⟩
def lZ(d:PE X a ta):PE X (.UnaryOp .Not a pos) (lJ ta):=by intro qp s σ H Q I h;refine UnaryOp_<|HB (d qp s σ H _ I h) ?_;rintro v s1 ⟨x,H1,e,g,b⟩;obtain⟨c,rfl,b⟩:=b;cases g;exact not_of<|Bw ⟨.bl<|!c,H1,e,rfl,b⟩
def tIf(t:TT)(ta tb:TE):TE:=λσ H Q=>t σ H λc H1=>if c=true then ta σ H1 Q else tb σ H1 Q
def vQ(f:PT X c tA)(l:PE X a ta)(m:PE X b tb):PE X (.IfExp c a b pos) (tIf tA ta tb):=by
 exists 4;refine wpAny_IfExp<|HB (f qp s σ H _ I h) ?_;rintro d s1 ⟨H1,e,g⟩
 cases d with
 |true=>exact l qp s1 σ H1 Q e g
 |false=>exact m qp s1 σ H1 Q e g
end
def JD(K:Ab)(H:Hp)(a:Addr)(xs:List V):Prop:=
 Rd H a (.lst xs) \/
  ∃(o:Obj) (b:Array IR) (n:Nat),K.lookup a=some o/\o.cls=.type "list"/\o.dict=none/\o.data=.seq b n/\b.size<=sizeLine/\Vals xs b.toList
def IM(K:Ab)(H:Hp)(a:Addr)(xs:List V):Prop:=
 Rd H a (.tup xs) \/
  ∃(o:Obj) (b:Array IR) (n:Nat),K.lookup a=some o/\o.cls=.type "tuple"/\o.data=.seq b n/\b.size<=sizeLine/\Vals xs b.toList
def YJ:IR->Option V
 |.none=>some .non
 |.bool b=>some<|.bl b
 |.int i _=>some<|.int i
 |.str x _=>some<|.str x
 |.bytes b _=>some<|.byt b
 |.float b _=>some<|.flt b
 |.ref a=>some<|.ref a
 |.type n=>some<|.ty n
 |_=>none
def RelV.abs{x:V}(r:RelV x u):YJ u=some x:=by
 cases x with
 |non=>cases r;rfl
 |bl _=>cases r;rfl
 |int _=>obtain⟨t,rfl⟩:=r;rfl
 |str _=>obtain⟨t,rfl⟩:=r;rfl
 |byt _=>obtain⟨t,rfl⟩:=r;rfl
 |flt _=>obtain⟨t,rfl⟩:=r;rfl
 |ref _=>cases r;rfl
 |ty _=>cases r;rfl
variable {y:V}
def RelV.inj{x:V}(r:RelV x u)(q:RelV y u):x=y:=Av<|r.abs.symm.trans q.abs
theorem Vals.inj:∀{xs d:List V}{us:List IR},Vals xs us->Vals d us->xs=d
 |_,_,_,.nil,.nil=>rfl
 |_,_,_,.cons r t,.cons f t'=>by rw[r.inj f,Vals.inj t t']
variable {K:Ab}
section
variable {xs ys:List V}
def JD.of(h:H a=some (.lst xs)):JD K H a xs:=.inl<|.inl h
def IM.of(h:H a=some (.tup xs)):IM K H a xs:=.inl<|.inl h
def Inv.list(I:Inv X qp σ H s)(h:JD X.K H a xs):∃its:List IR,Vals xs its/\PlainL s.heap a its.toArray/\xs.length<=sizeLine:=by
 rcases h with h|⟨o,its,n,hk,b,hd,c,g,r⟩
 ·obtain⟨z,its,n,r,e⟩:=h.ok I.hok;exact⟨its,r,⟨_,n,e,rfl,rfl,rfl⟩,z⟩
 refine⟨its.toList,r,⟨o,n,I.kIn a o hk,b,hd,by simpa using c⟩,?_⟩;have e:=r.length;simp only[AO]at e;omega
def Inv.tuple(I:Inv X qp σ H s)(h:IM X.K H a xs):∃its:List IR,Vals xs its/\IsTup s.heap a its.toArray/\xs.length<=sizeLine:=by
 rcases h with h|⟨o,its,n,hk,b,c,g,r⟩
 ·obtain⟨z,its,r,p⟩:=h.ok I.hok;exact⟨its,r,p.t,z⟩
 refine⟨its.toList,r,⟨o,I.kIn a o hk,b,n,by simpa using c⟩,?_⟩;have e:=r.length;simp only[AO]at e;omega
def Inv.list_inj(I:Inv X qp σ H s)(h:JD X.K H a xs)(h':JD X.K H a ys):xs=ys:=by
 obtain⟨c,r,⟨o,n,e,_,_,d⟩,_⟩:=I.list h;obtain⟨b,i,⟨j,u,g,_,_,d'⟩,_⟩:=I.list h';rw[e]at g;cases g;rw[d]at d';injection d' with d1 _
 have:c=b:=by simpa using congrArg GY d1
 subst this;exact r.inj i
def Inv.tuple_inj(I:Inv X qp σ H s)(h:IM X.K H a xs)(h':IM X.K H a ys):xs=ys:=by
 obtain⟨c,r,⟨o,e,_,n,d⟩,_⟩:=I.tuple h;obtain⟨b,i,⟨j,g,_,u,d'⟩,_⟩:=I.tuple h';rw[e]at g;cases g;rw[d]at d';injection d' with d1 _
 have:c=b:=by simpa using congrArg GY d1
 subst this;exact r.inj i
end
noncomputable abbrev Cx.wish (X:Cx) (E:Qqa):Cx:={X with xe:=E}
noncomputable abbrev Cx.nox (X:Cx):Cx:=X.wish λ_ _=>False
def Cx.Ok.wish{X:Cx}(ok:X.Ok)(E:Qqa):(X.wish E).Ok:=⟨ok.mod,ok.kind,ok.glob,ok.blt,ok.above,ok.inj,ok.has,ok.cab,ok.hd,ok.frames,ok.stk,ok.exf,ok.bs,ok.bsz,ok.noex,ok.exfs,ok.funs,ok.frf⟩
def Cx.Ok.unwish(ok:(X.wish E).Ok):X.Ok:=⟨ok.mod,ok.kind,ok.glob,ok.blt,ok.above,ok.inj,ok.has,ok.cab,ok.hd,ok.frames,ok.stk,ok.exf,ok.bs,ok.bsz,ok.noex,ok.exfs,ok.funs,ok.frf⟩
def Inv.wish(I:Inv X qp σ H s)(E:Qqa):Inv (X.wish E) qp σ H s:=⟨I.ok.wish E,I.os,I.bare,I.base,I.loc,I.cell,I.free,I.freeC,I.pin,I.hok,I.len⟩
def Inv.unwish(I:Inv (X.wish E) qp σ H s):Inv X qp σ H s:=⟨I.ok.unwish,I.os,I.bare,I.base,I.loc,I.cell,I.free,I.freeC,I.pin,I.hok,I.len⟩
def SP.unwish{D:Ends}{f:Flow}{s':Shared}(h:SP (X.wish E) qp D f s'):SP X qp D f s':=by
 cases f with
 |next=>obtain⟨σ',H',I,q⟩:=h;exact⟨σ',H',I.unwish,q⟩
 |brk=>obtain⟨σ',H',I,q⟩:=h;exact⟨σ',H',I.unwish,q⟩
 |cont=>obtain⟨σ',H',I,q⟩:=h;exact⟨σ',H',I.unwish,q⟩
 |ret u=>obtain⟨v,σ',H',I,r,q⟩:=h;exact⟨v,σ',H',I.unwish,r,q⟩
def KO.nox{st:List Stmt}{t:TS}(h:KO X.nox st t):KO X st t:=λqp s σ H D I hw=>
 Bs (h qp s σ H D (I.wish _) hw) (λ_ _ q=>q.unwish) λ_ _ z=>False.elim z
variable {te:TE}{tc:TT}
section
variable {st:Stmt}{rest:List Stmt}{t u:TS}
def lI:TS:=λD σ H=>D.nx σ H
def XO(t u:TS):TS:=λD σ H=>t {D with nx:=u D} σ H
def tQ:KO X [] lI:=λ_ _ σ H _ I h=>Dt ⟨σ,H,I,h⟩
def vY(d:PS X st t)(l:KO X rest u):KO X (st::rest) (XO t u):=by
 exists 13;refine wpAny_execs_cons<|HB (d qp s σ H {D with nx:=u D} I h) λf s1 q=>?_
 cases f with
 |next=>
  obtain⟨σ',H',a,q⟩:=q;exact l qp s1 σ' H' D a q
 |ret v=>exact q
 |brk=>exact q
 |cont=>exact q
def tR(d:PS X st t):KO X [st] t:=by
 exists 13;refine wpAny_execs_cons<|HB (d qp s σ H D I h) λf s1 q=>?_
 cases f with
 |next=>exact Dt q
 |ret v=>exact q
 |brk=>exact q
 |cont=>exact q
def Inv.quiet(I:Inv X qp σ H s):interactive X.env=false:=by simp[interactive,I.ok.kind]
def lF(te:TE):TS:=λD σ H=>te σ H λ_ H1=>D.nx σ H1
def tO(he:PE X e te)(d:swapsWith e none pos.line X.env=pure false:=by rfl):PS X (.Expr e pos) (lF te):=by intro qp s σ H D I h;exact wpAny_Expr_any (HB (he qp s σ H _ I h) λv s1 ⟨x,H1,a,c,b⟩=>⟨σ,H1,a,b⟩) I.quiet d
def XQ(te:TE):TS:=λD σ H=>te σ H D.rt
def mY(he:PE X e te):PS X (.Return (some e) pos) (XQ te):=by intro qp s σ H D I h;exact wpAny_Return_some<|HB (he qp s σ H _ I h) λv s1 ⟨x,H1,a,b,c⟩=>⟨x,σ,H1,a,b,c⟩
def XW(c:TT)(t u:TS):TS:=λD σ H=>c σ H λb H1=>if b=true then t D σ H1 else u D σ H1
def jB{a b:List Stmt}(f:PT X c tc)(l:KO X a t)(m:KO X b u):PS X (.If c a b pos) (XW tc t u):=by
 exists 13;refine wpAny_If<|HB (f qp s σ H _ I h) ?_;rintro d s1 ⟨H1,e,g⟩
 cases d with
 |true=>exact l qp s1 σ H1 D e g
 |false=>exact m qp s1 σ H1 D e g
end
noncomputable abbrev TG:=V->St->Hp->(St->Hp->Prop)->Prop
noncomputable abbrev OU:=List V->St->Hp->(St->Hp->Prop)->Prop
def PG(X:Cx)(target:Pv)(t:TG):Prop:=
 ∀(qp:List (Addr×Obj)) (s:Shared) (σ:St) (H:Hp) (v:V) (u:IR) (Q:St->Hp->Prop),Inv X qp σ H s->RelV v u->t v σ H Q ->
  wpAny (!4) X.A (assign target X.env u) (λ_ s'=>∃σ' H',Inv X qp σ' H' s'/\Q σ' H') X.xe s
def Nl(X:Cx)(ts:List Pv)(t:OU):Prop:=
 ∀(qp:List (Addr×Obj)) (s:Shared) (σ:St) (H:Hp) (a:List V) (us:List IR) (Q:St->Hp->Prop),Inv X qp σ H s->Vals a us->t a σ H Q ->
  wpAny (!4) X.A (assignInOrder ((assignEach ts X.env).map (·.2)) us) (λ_ s'=>∃σ' H',Inv X qp σ' H' s'/\Q σ' H') X.xe s
noncomputable abbrev PN:=V->V->V->Hp->(Hp->Prop)->Prop
def PR(X:Cx)(t:PN):Prop:=
 ∀(qp:List (Addr×Obj)) (s:Shared) (σ:St) (H:Hp) (o i v:V) (a b u:IR) (Q:Hp->Prop),Inv X qp σ H s->RelV o a->RelV i b->RelV v u->t o i v H Q ->
  wpAny (!4) X.A (setItem a b u) (λ_ s'=>∃H',Inv X qp σ H' s'/\Q H') X.xe s
variable {es:List Pv}{n:Nat}{tg:Pv}{pos':Pos}
def Y9(i:Nat):TG:=λv σ H Q=>Q (σ.set i<|some v) H
def tH(d:X.N.Nodup)(hi:X.N[i]?=some x)(f:Loc X.env.scope x)(hf:X.fn x=true\/X.env.scope.names.lookup x=some .local:=by first|exact .inl rfl|exact .inr rfl|assumption):PG X (.Name x pos) (Y9 i):=by intro qp s σ H v u Q I r h;exact FP<|Uh I d hi f r (λs' a=>⟨_,H,a,h⟩) hf
def YE:OU:=λa σ H Q=>a=[]/\Q σ H
def kA(t:TG)(u:OU):OU:=λa σ H Q=>∃v r,a=v::r/\t v σ H λσ' H'=>u r σ' H' Q
def tJ:Nl X [] YE:=by intro qp s σ H a us Q I r h;obtain⟨e,h⟩:=h;subst e;cases r;exact FQ ⟨σ,H,I,h⟩
def vS{t:TG}{u:OU}(d:PG X e t)(f:Nl X es u)(l:(assignEach (e::es) X.env).map (·.2)=assign e X.env::(assignEach es X.env).map (·.2):=by rfl):Nl X (e::es) (kA t u):=by
 intro qp s σ H i us Q I r h;obtain⟨v,j,a,h⟩:=h;subst a;cases r with
 |cons r b=>
  rw[l];refine DP<|HB (d qp s σ H _ _ _ I r h) ?_;rintro _ s1 ⟨σ1,H1,c,g⟩;exact f qp s1 σ1 H1 _ _ Q c b g
def YC(K:Ab)(n:Nat)(t:OU):TG:=λv σ H Q=>∃a xs,v=.ref a/\IM K H a xs/\xs.length=n/\t xs σ H Q
def mI{k:Nat}{t:OU}(f:X.calm=true)(h:Nl X es t)(hn:(assignEach es X.env).length=n:=by rfl) (d:(assignEach es X.env).findIdx? (·.1)=none:=by rfl):PG X (.Tuple es k pos) (YC X.K n t):=by
 intro qp s σ H v u Q I r hw;obtain⟨a,xs,g,i,j,hw⟩:=hw;subst g;cases r;obtain⟨w,c,x,E⟩:=I.tuple i;refine assign_Tuple_tuple (I.ok.hd f) x (by simp[hn,<-j,c.length]) d λh' y=>?_;have A:Inv X qp σ H {s with heap:=h'}:=I.kept (t':=s.toks) λb o e=>y b o (Au<|Aj e) e;exact h qp _ σ H xs _ Q A (by simpa using c) hw
def YD(to d:TE)(t:PN):TG:=λv σ H Q=>to σ H λo H1=>d σ H1 λi a=>t o i v a λb=>Q σ b
def mH{o i:Pv}{to l:TE}{t:PN}(m:PE X o to)(hi:PE X i l)(p:PR X t)(q:∀v,assign (.Subscript o i pos) X.env v=(do
   let d <-holding [v] (UV o X.env)
   let f <-holding [v,d] (UV i X.env)
   standAt pos
   holding [v,d,f] (setItem d f v)
   release [v,d,f] []):=by intro _;rfl):PG X (.Subscript o i pos) (YD to l t):=by
 intro qp s σ H v u Q I r h;rw[q];refine Aa<|AM<|HB (m qp s σ H _ I h) ?_;rintro d s1 ⟨x,H1,a,b,c⟩;refine Aa<|AM<|HB (hi qp s1 σ H1 _ a c) ?_;rintro f s2 ⟨y,e,g,j,n⟩;refine Aa<|DV<|Aa<|AM<|HB (p qp s2 σ e x y v d f u _ g b j r n) ?_;rintro _ s3 ⟨w,A,E⟩;exact wpAny_release ⟨σ,w,A,E⟩
def Px(te:TE)(g:TG):TS:=λD σ H=>te σ H λx H1=>g x σ H1 D.nx
def mO{g:TG}(he:PE X e te)(d:PG X tg g)(f:swapsWithSole [tg] e pos.line X.env=pure false:=by rfl)(hw:swappedStores [tg] e X.env=pure none:=by rfl)(l:(assignEach [tg] X.env).map (·.2)=[assign tg X.env]:=by rfl):PS X (.Assign [tg] e pos) (Px te g):=by
 exists 13;refine wpAny_Assign_stores (HB (he qp s σ H _ I h) ?_) f hw;rintro v s1 ⟨x,H1,a,b,c⟩;rw[l];exact HB (d qp s1 σ H1 x v _ a b c) λ_ s2 q=>q
def nA(d:X.N.Nodup)(hi:X.N[i]?=some x)(f:Loc X.env.scope x)(he:PE X e te)(l:swapsWith e (some<|.Name x pos') pos.line X.env=pure false:=by rfl)(hf:X.fn x=true\/X.env.scope.names.lookup x=some .local:=by first|exact .inl rfl|exact .inr rfl|assumption):
  PS X (.Assign [.Name x pos'] e pos) (Px te<|Y9 i):=by
 exists 13;refine wpAny_Assign_Name (HB (he qp s σ H _ I h) ?_) l;rintro v s1 ⟨y,H1,a,b,c⟩;exact Uh a d hi f b (λs2 g=>⟨_,H1,g,c⟩) hf
def XR(i j:Nat)(ta:TA):TS:=λD σ H=>ta σ H λa H1=>∃v w,a=[v,w]/\D.nx ((σ.set i<|some v).set j<|some w) H1
def mX{y:Str}{a b:Pv}{ta:TA}{d py pt:Pos}{kt k2 pt2}(z:X.calm=true)(l:X.N.Nodup)(hi:X.N[i]?=some x)(B:X.N[j]?=some y)(f:i≠j)(m:X.env.scope.names.lookup x=some .local) (r:X.env.scope.names.lookup y=some .local) (C:PA X [a,b] ta)(hw:swappedStores [.Tuple [.Name x d,.Name y py] kt pt] (.Tuple [a,b] k2 pt2) X.env=pure (some [x,y]))(F:swapsWithSole [.Tuple [.Name x d,.Name y py] kt pt] (.Tuple [a,b] k2 pt2) pos.line X.env=pure false:=by rfl):
  PS X (.Assign [.Tuple [.Name x d,.Name y py] kt pt] (.Tuple [a,b] k2 pt2) pos) (XR i j ta):=by
 exists 13;rw[exec_Assign_arm];refine Aa<|DV ?_;rw[F];refine Aa<|Ac ?_;rw[if_neg (!1)];refine Aa<|Tuple_<|HB (C _ qp s σ H _ I h) ?_;rintro us s1 ⟨T,H1,I1,L,n⟩;obtain⟨v,w,M,n⟩:=n;subst M;obtain⟨c,g,rfl,P,u⟩:∃c g,us=[c,g]/\RelV v c/\RelV w g:=by
  cases L with
  |cons p q=>
   cases q with
   |cons Q G=>
    cases G;exact⟨_,_,rfl,p,Q⟩
 refine AN ?_ (by show 2<=sizeLine;decide);have I2:Inv X qp σ H1 {s1 with heap:=s1.heap.push {cls:=.type "tuple",data:=.seq [c,g].toArray} }:=I1.kept (t':=s1.toks) λb o e=>Ad _ e;rw[hw];refine Aa<|Ac ?_;show wpAny (!4) X.A (do rule "assign.swapped-stores";let items <-unpackItems (.ref s1.heap.objs.size) 2 none;assignInOrder [λv=>bindName X.env y v,λv=>bindName X.env x v] items.reverse;pure Flow.next) _ _ _;refine Aa<|BY<|Aa<|unpackItems_tuple (items:=#[c,g]) (I.ok.hd z) (IsTup.new s1.heap _) λh' E=>?_;have J:=I2.kept (h':=h') (t':=s1.toks) λb o e=>E b o (Au<|Aj e) e;show wpAny _ _ (assignInOrder [λv=>bindName X.env y v,λv=>bindName X.env x v] [g,c] >>= λ_=>pure Flow.next) _ _ _;refine Aa<|DP<|wpAny_bindName<|Uh J l B (.inl r) u (λs2 S=>?_)<|.inr r;refine DP<|wpAny_bindName<|Uh S l hi (.inl m) P (λs3 K=>FQ (Ac ?_))<|.inr m;rw[List.set_comm _ _ (BJ f)]at K;exact⟨_,H1,K,n⟩
variable {body:List Stmt}
def pR(c:TT)(tb:TS):TS:=λD σ H=>∃W:Nat->St->Hp->Prop,(∃m,W m σ H)/\∀m σ H,W m σ H ->
 c σ H λb H1=>if b=true then ∃N:St->Hp->Prop,(∀σ' H',N σ' H'->∃a,a<m/\W a σ' H')/\tb {D with nx:=N,ct:=N,bk:=D.nx} σ H1 else D.nx σ H1
def vX{tb:TS}(d:PassesOwn (!4) X.A X.env X.xe)(l:PT X c tc)(m:KO X body tb):PS X (.While c body [] pos) (pR tc tb):=by
 exists 13;obtain⟨W,⟨m0,K⟩,turn⟩:=h;refine wpAny_While<|codeAny_whileLoop (λn s'=>∃σ' H',Inv X qp σ' H' s'/\W n σ' H') ?_ m0 ⟨σ,H,I,K⟩;rintro n s1 ⟨σ1,H1,L,M⟩;refine Cb d<|HB (l qp s1 σ1 H1 _ L<|turn n σ1 H1 M) ?_;rintro b s2 ⟨x,y,e⟩
 cases b with
 |true=>
  obtain⟨N,E,e⟩:=e;rw[if_pos rfl];refine Cb d<|HB (m qp s2 σ1 x _ y e) λf s3 g=>?_
  cases f with
  |next=>
   obtain⟨σ3,a,i,j⟩:=g;obtain⟨o,hm,u⟩:=E σ3 a j;exact⟨o,hm,σ3,a,i,u⟩
  |cont=>
   obtain⟨σ3,a,i,j⟩:=g;obtain⟨o,hm,u⟩:=E σ3 a j;exact⟨o,hm,σ3,a,i,u⟩
  |brk=>exact g
  |ret v=>exact g
 |false=>
  rw[if_neg AY];exact Dt ⟨σ1,x,y,e⟩
structure It where
 go:Nat->Hp->Prop
 yld:Nat->Hp->V->Hp->Prop
 stop:Nat->Hp->Prop
def Kk(X:Cx)(qp:List (Addr×Obj))(H:Hp)(b:Addr):Prop:=H b=none/\b≠X.env.locals/\b∉X.fs/\(b∈X.ex\/X.s₀.heap.objs.size<=b)/\(∀x c,X.env.cells.lookup x=some c->c≠b)/\∀p∈X.pn++qp,p.1≠b
def Inv.fpOk(I:Inv X qp σ H s)(d:s.heap.objs.size<=b)(hn:H' b=none):Kk X qp H' b:=by
 refine⟨hn,C5<|AD I.lt d,I.nofs d,.inr<|AA I.sz d,λx c e z=>?_,λp a z=>?_⟩
 ·obtain⟨v,q⟩:=I.cell x c e;exact absurd (AD q.lt (by rw[z];exact d))<|AL _
 exact absurd (AD (Aj (I.pin p a).1) (by rw[z];exact d))<|AL _
structure Turn(P:Re)(w:Wp)(K:Ab)(tg:Pv)(J:It)(fp:List Addr)(it:Addr)(tn:Nat->PP->Prop):Prop where
 mem:it∈fp
 obj:∀i h,tn i h->∀b∈fp,∃o,h.get? b=some o/\∀v,o.data≠.cell v
 keep:∀i h h',tn i h->(∀b∈fp,∀o,h.get? b=some o->h'.get? b=some o)->tn i h'
 item:∀(X:Cx),X.prog=P->X.w=w->X.K=K->X.calm=true->∀(i:Nat) (qp:List (Addr×Obj)) (s:Shared) (σ:St) (H:Hp) (E:Qqa),Inv X qp σ H s->(∀b∈fp,Kk X qp H b)->tn i s.heap->J.go i H ->
  wpAny (KF P w) X.A (pyNext (.ref it)) (λr s1=>∃u,r=some u /\
   wpAny (KF P w) X.A (letOwnedTupleGo tg (.ref it) u) (λ_ s2=>∃x H',Inv X qp σ H' s2/\RelV x u/\J.yld i H x H'/\tn (i+1) s2.heap/\∀b∈fp,H' b=none) E s1) E s
 done:∀(X:Cx),X.prog=P->X.w=w->X.K=K->X.calm=true->∀(i:Nat) (qp:List (Addr×Obj)) (s:Shared) (σ:St) (H:Hp) (E:Qqa),Inv X qp σ H s->(∀b∈fp,Kk X qp H b)->tn i s.heap->J.stop i H ->
  wpAny (KF P w) X.A (pyNext (.ref it)) (λr s1=>r=none/\Inv X qp σ H s1) E s
 self:∀(A:Around) (i:Nat) (s:Shared) (Q:Qqa) (E:Qqa),tn i s.heap->Q (.ref it) s->wpAny (KF P w) A (pyIter (.ref it)) Q E s
noncomputable abbrev TI:=St->Hp->(It->Hp->Prop)->Prop
def iG(X:Cx)(qp:List (Addr×Obj))(σ:St)(tg:Pv)(R:It->Hp->Prop)(d:IR)(s2:Shared):Prop:=∃(it:Addr) (a:List Addr) (c:Nat->PP->Prop) (J:It) (H':Hp),d=.ref it/\Inv X qp σ H' s2/\Turn X.prog X.w X.K tg J a it c/\c 0 s2.heap/\(∀b∈a,Kk X qp H' b)/\R J H'
def PI(X:Cx)(tg iter:Pv)(d:TI):Prop:=
 ∀(qp:List (Addr×Obj)) (s:Shared) (σ:St) (H:Hp) (R:It->Hp->Prop),Inv X qp σ H s->d σ H R ->
  wpAny (!4) X.A (UV iter X.env) (λv s1=>wpAny (!4) X.A (pyIter v) (iG X qp σ tg R) X.xe s1) X.xe s
def QR{o:Obj}{n:String}{vs:Array IR}{Q:Unit->Shared->Prop}(f:s.heap.get? it=some o)(l:o.cls=.type n)(hd:o.data=.fields vs)(hn:["enumerate","zip","dict_itemiterator","dict_reverseitemiterator","odict_iterator","itertools.zip_longest","itertools.pairwise"].contains n=false) (d:Q () s):wpAny M A (letOwnedTupleGo tg (.ref it) u) Q E s:=by
 unfold letOwnedTupleGo;cases tg<;>first
  |exact Ac d
  |(cases u<;>first
    |exact Ac d
    |(refine Aa (wpAny_load f ?_);rw[l,hd];show wpAny M A (if(["enumerate","zip","dict_itemiterator","dict_reverseitemiterator","odict_iterator","itertools.zip_longest","itertools.pairwise"].contains n&&vs[0]?==some (rawInt _))=true then _ else _) Q E s;rw[if_neg (by intro h;rw[hn,Bool.false_and]at h;cases h)];exact Ac d))
def YR(K:Ab)(a:Addr):It:=⟨λi H=>∃xs x,JD K H a xs/\xs[i]?=some x,λi H x H'=>H'=H/\∀xs,JD K H a xs->xs[i]?=some x,λi H=>∃xs,JD K H a xs/\xs.length<=i⟩
def YQ(K:Ab)(a:Addr):It:=⟨λi H=>∃xs x,IM K H a xs/\xs[i]?=some x,λi H x H'=>H'=H/\∀xs,IM K H a xs->xs[i]?=some x,λi H=>∃xs,IM K H a xs/\xs.length<=i⟩
def UZ(lo:Int)(n:Nat):It:=⟨λi _=>i<n,λi H x H'=>H'=H/\x=.int (lo+i),λi _=>n<=i⟩
def zU(a it:Addr):Turn P w K tg (YR K a) [it] it (λi h=>h.IsListIter it a i) where
 mem:=by simp
 obj:=λi h st b g=>by
  have e:b=it:=by simpa using g
  subst e;obtain⟨o,e,c,d⟩:=st;exact⟨o,e,λv z=>by rw[d]at z;cases z⟩
 keep:=λi h h' st k=>st.at λo e=>k it (!2) o e
 item:=by intro X y hw A m i qp s σ H E I hf st L;subst y hw A;obtain⟨xs,x,n,M⟩:=L;obtain⟨N,Q,p,q⟩:=I.list n;obtain⟨u,r,B⟩:=Q.get M;obtain⟨f0,f1,f2,f,f4,l⟩:=hf it (!2);refine Cz st p.isList (x:=u) (by simpa using r) λh' j sb=>?_;have C:Inv X qp σ H {s with heap:=h'}:=I.turned (t':=s.toks) (λb o g e=>(sb.2 b g).trans e) f0 f1 f f4 l;obtain⟨o,e,c,d⟩:=id j;exact⟨u,rfl,QR (s:={s with heap:=h'}) e c d (!1) ⟨x,H,C,B,⟨rfl,λJ F=>by rw[I.list_inj F n];exact M⟩,j,λb g=>(hf b g).1⟩⟩
 done:=by intro X y hw A m i qp s σ H E I hf st L;subst y hw A;obtain⟨xs,n,M⟩:=L;obtain⟨N,Q,p,q⟩:=I.list n;obtain⟨f0,f1,f2,f,f4,l⟩:=hf it (!2);have S:=Q.length;exact CK (I.ok.hd m) st p.isList (by simp;omega) λh' G=>⟨rfl,I.turned (t':=s.toks) (λb o g e=>G b o g e) f0 f1 f f4 l⟩
 self:=λ_ _ _ _ _ st h=>wpAny_pyIter_listiter st h
def zjz(a it:Addr):Turn P w K tg (YQ K a) [it] it (λi h=>h.IsTupleIter it a i) where
 mem:=by simp
 obj:=λi h st b g=>by
  have e:b=it:=by simpa using g
  subst e;obtain⟨o,e,c,d⟩:=st;exact⟨o,e,λv z=>by rw[d]at z;cases z⟩
 keep:=λi h h' st k=>st.at λo e=>k it (!2) o e
 item:=by intro X A hw L m i qp s σ H E I hf st M;subst A hw L;obtain⟨xs,x,y,N⟩:=M;obtain⟨j,Q,p,q⟩:=I.tuple y;obtain⟨u,r,B⟩:=Q.get N;obtain⟨f0,f1,f2,f,f4,l⟩:=hf it (!2);refine Ee st (show s.heap.IsTuple a j.toArray from p) (x:=u) (by simpa using r) λh' n sb=>?_;have C:Inv X qp σ H {s with heap:=h'}:=I.turned (t':=s.toks) (λb o g e=>(sb.2 b g).trans e) f0 f1 f f4 l;obtain⟨o,e,c,d⟩:=id n;exact⟨u,rfl,QR (s:={s with heap:=h'}) e c d (!1) ⟨x,H,C,B,⟨rfl,λJ F=>by rw[I.tuple_inj F y];exact N⟩,n,λb g=>(hf b g).1⟩⟩
 done:=by intro X A hw L m i qp s σ H E I hf st M;subst A hw L;obtain⟨xs,y,N⟩:=M;obtain⟨j,Q,p,q⟩:=I.tuple y;obtain⟨f0,f1,f2,f,f4,l⟩:=hf it (!2);have S:=Q.length;exact EH (I.ok.hd m) st (show s.heap.IsTuple a j.toArray from p) (by simp;omega) λh' G=>⟨rfl,I.turned (t':=s.toks) (λb o g e=>G b o g e) f0 f1 f f4 l⟩
 self:=λ_ _ _ _ _ st h=>wpAny_pyIter_tupleiter st h
def zjA(it:Addr)(lo:Int)(n:Nat):Turn P w K tg (UZ lo n) [it] it (λi h=>IsRangeIter h it (lo+(i:Nat)*1) ((n:Int)-(i:Nat)) 1) where
 mem:=by simp
 obj:=λi h st b a=>by
  have e:b=it:=by simpa using a
  subst e;exact⟨_,st,λv z=>by have L:Data.fields _=Data.cell v:=z;cases L⟩
 keep:=λi h h' st k=>k it (!2) _ st
 item:=by intro X g hw j u i qp s σ H E I hf st x;subst g hw j;obtain⟨f0,f1,f2,y,f4,A⟩:=hf it (!2);have W:=Walks.range (prog:=X.prog) (w:=X.w) (I.ok.hd u) it lo 1 n;refine W.item i s _ _ x st λv h' tk M c N=>?_;obtain⟨t,rfl⟩:=M;have Q:Inv X qp σ H {s with heap:=h',toks:=tk}:=I.turned (λb o a e=>N b o (by simpa using a) e) f0 f1 y f4 A;refine⟨_,rfl,QR (s:={s with heap:=h',toks:=tk}) (n:="range_iterator") c rfl rfl (!1) ⟨.int<|lo+i,H,Q,⟨t,?_⟩,⟨rfl,rfl⟩,c,λb a=>(hf b a).1⟩⟩;rw[Int.mul_one]
 done:=by intro X g hw j u i qp s σ H E I hf st x;subst g hw j;obtain⟨f0,f1,f2,y,f4,A⟩:=hf it (!2);exact wpAny_pyNext_range_end (I.ok.hd u) st (by have:n<=i:=x;omega) λh' d=>⟨rfl,I.turned (t':=s.toks) (λb o a e=>d b o a e) f0 f1 y f4 A⟩
 self:=λ_ _ _ _ _ st h=>wpAny_pyIter_rangeiter st h
variable {p:Pos}{l:Pv}{tl:TE}{fp:List Addr}
def kC(K:Ab)(tl:TE):TI:=λσ H R=>tl σ H λx H1=>∃a,x=.ref a/\(∃xs,JD K H1 a xs)/\R (YR K a) H1
def YA(K:Ab)(tl:TE):TI:=λσ H R=>tl σ H λx H1=>∃a,x=.ref a/\(∃xs,IM K H1 a xs)/\R (YQ K a) H1
def tK(d:PE X l tl):PI X tg l (kC X.K tl):=by
 intro qp s σ H R I h;refine HB (d qp s σ H _ I h) ?_;rintro v s1 ⟨x,H1,I1,c,g⟩;obtain⟨a,e,⟨xs,i⟩,q⟩:=g;subst e;cases c;obtain⟨j,u,p,w⟩:=I1.list i;refine Di p.isList ?_;refine⟨s1.heap.objs.size,[s1.heap.objs.size],_,_,H1,rfl,I1.kept (t':=s1.toks) λb o e=>Ad _ e,zU a _,⟨_,Ap _ rfl,rfl,rfl⟩,λb n=>?_,q⟩;have e:b=s1.heap.objs.size:=by simpa using n
 subst e;exists 15
def mM(d:PE X l tl):PI X tg l (YA X.K tl):=by
 intro qp s σ H R I h;refine HB (d qp s σ H _ I h) ?_;rintro v s1 ⟨x,H1,I1,g,i⟩;obtain⟨a,e,⟨xs,j⟩,q⟩:=i;subst e;cases g;obtain⟨c,u,p,w⟩:=I1.tuple j;refine wpAny_pyIter_tuple (show s1.heap.IsTuple a c.toArray from p) ?_;refine⟨s1.heap.objs.size,[s1.heap.objs.size],_,_,H1,rfl,I1.kept (t':=s1.toks) λb o e=>Ad _ e,zjz a _,⟨_,Ap _ rfl,rfl,rfl⟩,λb n=>?_,q⟩;have e:b=s1.heap.objs.size:=by simpa using n
 subst e;exists 15
def wB{R:It->Hp->Prop}{lo hi:Int}{t u v:Tok}{tk:Nat}(I:Inv X qp σ H s)(d:-(2^62)<=lo)(f:lo<2^62)(m:-(2^62)<=hi)(r:hi<2^62)(q:R (UZ lo (hi-lo).toNat) H):wpAny (!4) X.A (pyIter<|.ref s.heap.objs.size) (iG X qp σ tg R) E {s with heap:=s.heap.push {cls:=.type "range",data:=.fields #[.int lo t,.int hi u,.int 1 v]},toks:=tk}:=by
 refine wpAny_pyIter_range (IsRange.new ..) (small_one d f m r) ?_;have I1:Inv X qp σ H {s with heap:=s.heap.push {cls:=.type "range",data:=.fields #[.int lo t,.int hi u,.int 1 v]},toks:=tk}:=I.kept λb o e=>Ad _ e;refine⟨(s.heap.push {cls:=.type "range",data:=.fields #[.int lo t,.int hi u,.int 1 v]}).objs.size,[(s.heap.push {cls:=.type "range",data:=.fields #[.int lo t,.int hi u,.int 1 v]}).objs.size],_,_,H,rfl,
  I1.kept (t':=tk) λb o e=>Ad _ e,zjA _ lo (hi-lo).toNat,?_,λb a=>?_,q⟩
 ·have c:lo+((0:Nat):Int)*1=lo:=by simp
  have g:(((hi-lo).toNat:Nat):Int)-((0:Nat):Int)=Builtin.Range.rangeSize lo hi 1:=by rw[rangeSize_one];split<;>omega
  show IsRangeIter _ _ (lo+((0:Nat):Int)*1) ((((hi-lo).toNat:Nat):Int)-((0:Nat):Int)) 1;rw[c,g];exact Ap _ rfl
 ·have e:b=(s.heap.push {cls:=.type "range",data:=.fields #[.int lo t,.int hi u,.int 1 v]}).objs.size:=by simpa using a
  subst e;exists 15
def kD(ta:TA):TI:=λσ H R=>ta σ H λa H1=>∃j:Int,a=[.int j]/\-(2^62)<=j/\j<2^62/\R (UZ 0 j.toNat) H1
def zl2{a:Pv}{ta:TA}(d:Gl X "range")(hm:X.mg "range"=none)(f:PA X [a] ta)(m:UF [a] X.env=[(false,UV a X.env)]:=by rfl):PI X tg (.Call (.Name "range" p) [a] [] pos) (kD ta):=by
 intro qp s σ H R I h;refine Call_<|Qh I d hm boot_range<|B6 (HB (f pos qp s σ H _ I h) ?_) m rfl;rintro us s1 ⟨n,H1,c,g,b⟩;obtain⟨j,e,b,i,q⟩:=b;subst e
 cases g with
 |cons r l=>
  cases l;obtain⟨t,rfl⟩:=r;exact call_range_1<|wB c (!0) (!0) b i<|by simpa using q
def XX(d:TI)(g:TG)(tb:TS):TS:=λD σ H=>d σ H λJ H1=>∃W:Nat->Nat->St->Hp->Prop,(∃m,W 0 m σ H1)/\∀i m σ H,W i m σ H ->
 (J.stop i H/\D.nx σ H)\/(J.go i H/\∃N:St->Hp->Prop,(∀σ' H',N σ' H'->∃a,a<m/\W (i+1) a σ' H')/\∀x H',J.yld i H x H'->g x σ H' λσ2 b=>tb {D with nx:=N,ct:=N,bk:=D.nx} σ2 b)
def Q1(fp:List Addr)(h:PP):List (Addr×Obj):=fp.filterMap λb=>(h.get? b).map λo=>(b,o)
def Ut{o:Obj}(d:b∈fp)(e:h.get? b=some o):(b,o)∈Q1 fp h:=List.mem_filterMap.mpr ⟨b,d,by rw[e];rfl⟩
def zB{p:Addr×Obj}(d:p∈Q1 fp h):p.1∈fp/\h.get? p.1=some p.2:=by
 obtain⟨b,a,e⟩:=List.mem_filterMap.mp d;cases q:h.get? b with
 |none=>rw[q]at e;cases e
 |some o=>
  rw[q]at e;have c:(b,o)=p:=Av e;subst c;exact⟨a,q⟩
def Inv.pinned{fp:List Addr}(I:Inv X qp σ H s)(hf:∀b∈fp,Kk X qp H b)(f:∀b∈fp,∃o,s.heap.get? b=some o/\∀v,o.data≠.cell v):Inv X (qp++Q1 fp s.heap) σ H s:=I.pins_of λp g=>(Os.mp g).elim (λz=>I.pin p (AI _ z)) λz=>by obtain⟨a,e⟩:=zB z;obtain⟨f0,f1,f2,_⟩:=hf p.1 a;obtain⟨o,c,d⟩:=f p.1 a;rw[e]at c;cases c;exact⟨e,f0,f1,f2,d⟩
def Inv.unpinned{pl:List (Addr×Obj)}(I:Inv X (qp++pl) σ H s):Inv X qp σ H s:=I.pins_of λp a=>I.pin p<|AI _<|A4 _ a
def mQ{iter:Pv}{C:TI}{g:TG}{tb:TS}(z:PassesOwn (!4) X.A X.env X.xe)(F:X.calm=true)(hi:PI X tg iter C)(Y:PG X tg g)(q:KO X body tb)(Z:∀x,foldedSetIterable iter X.env x=pure x:=by intro _;rfl):PS X (.For tg iter body [] pos) (XX C g tb):=by
 exists 13;refine wpAny_For (HB (hi qp s σ H _ I h) λv s1 h1=>HB h1 λitv s2 h2=>?_) Z;obtain⟨it,fp,G,J,H2,e,I2,T,L,f2,W,⟨m0,w0⟩,turn⟩:=h2;subst e;have a:∀{H':Hp},(∀b∈fp,H' b=none)->∀b∈fp,Kk X qp H' b:=λhn b q=>⟨hn b q,(f2 b q).2⟩;refine codeAny_forLoop_any (λn s'=>∃i σ' H',Inv X qp σ' H' s'/\G i s'.heap/\(∀b∈fp,H' b=none)/\W i n σ' H') ?_ m0 ⟨0,σ,H2,I2,L,λb q=>(f2 b q).1,w0⟩;rintro n s3 ⟨i,σ3,K,S,p,y,w3⟩;rcases turn i n σ3 K w3 with⟨stop,qn⟩|⟨go,N,hN,step⟩
 ·refine Cb z (HB (T.done X rfl rfl rfl F i qp s3 σ3 K X.xe S (a y) p stop) ?_);rintro r s4 ⟨M,I4⟩;subst M;exact Dt ⟨σ3,K,I4,qn⟩
 ·refine Cb z (HB (T.item X rfl rfl rfl F i qp s3 σ3 K X.xe S (a y) p go) ?_);rintro r s4 ⟨u,M,h4⟩;subst M;refine Cb z (HB h4 ?_);rintro _ s5 ⟨x,U,I5,r5,y5,l,P⟩;have Q:=I5.pinned (a P) (T.obj _ _ l);refine Cb z (HB (Y _ s5 σ3 U x u _ Q r5 (step x U y5)) ?_);rintro _ s6 ⟨σ6,H6,I6,q6⟩;refine Cb z (HB (q _ s6 σ6 H6 _ I6 q6) λf B j=>?_);have again:∀{σ7:St}{c:Hp},Inv X (qp++Q1 fp s5.heap) σ7 c B->N σ7 c->∃m,m<n/\∃i σ' H',Inv X qp σ' H' B/\G i B.heap/\(∀b∈fp,H' b=none)/\W i m σ' H':=λ{σ7 c} I7 E=>by
   obtain⟨m',hm,w7⟩:=hN σ7 c E;refine⟨m',hm,i+1,σ7,c,I7.unpinned,T.keep _ _ _ l λb q o e=>(I7.pin (b,o) (AI _ (AI _ (Ut q e)))).1,λb q=>?_,w7⟩;obtain⟨o,e,d⟩:=T.obj _ _ l b q;exact(I7.pin (b,o) (AI _ (AI _ (Ut q e)))).2.1
  cases f with
  |next=>obtain⟨σ7,c,I7,E⟩:=j;exact again I7 E
  |cont=>obtain⟨σ7,c,I7,E⟩:=j;exact again I7 E
  |brk=>obtain⟨σ7,c,I7,j⟩:=j;exact⟨σ7,c,I7.unpinned,j⟩
  |ret v=>obtain⟨x7,σ7,c,I7,r7,j⟩:=j;exact⟨x7,σ7,c,I7.unpinned,r7,j⟩
noncomputable abbrev R2:=V->V->Hp->VK->Prop
def JU(X:Cx)(f:IR->IR->Sem IR)(r:R2):Prop:=
 ∀(qp:List (Addr×Obj)) (s:Shared) (σ:St) (H:Hp) (x y:V) (v u:IR) (Q:VK),Inv X qp σ H s->RelV x v->RelV y u->r x y H Q ->
  wpAny (!4) X.A (f v u) (EP X qp σ Q) X.xe s
def YL(X:Cx)(f:IR->Sem IR)(r:V->Hp->VK->Prop):Prop:=
 ∀(qp:List (Addr×Obj)) (s:Shared) (σ:St) (H:Hp) (x:V) (v:IR) (Q:VK),Inv X qp σ H s->RelV x v->r x H Q ->
  wpAny (!4) X.A (f v) (EP X qp σ Q) X.xe s
def MZ(X:Cx)(f:IR)(r:List V->Hp->VK->Prop):Prop:=
 ∀(qp:List (Addr×Obj)) (s:Shared) (σ:St) (H:Hp) (xs:List V) (us:List IR) (Q:VK),Inv X qp σ H s->Vals xs us->r xs H Q ->
  wpAny (!4) X.A (call f us) (EP X qp σ Q) X.xe s
def YM(X:Cx)(r:V->Hp->(Bool->Hp->Prop)->Prop):Prop:=
 ∀(qp:List (Addr×Obj)) (s:Shared) (σ:St) (H:Hp) (x:V) (v:IR) (Q:Bool->Hp->Prop),Inv X qp σ H s->RelV x v->r x H Q ->
  wpAny (!4) X.A (truthy v) (TP X qp σ Q) X.xe s
def RX(r:R2)(ta tb:TE):TE:=λσ H Q=>ta σ H λx H1=>tb σ H1 λy a=>r x y a Q
def tUn(r:V->Hp->VK->Prop)(ta:TE):TE:=λσ H Q=>ta σ H λx H1=>r x H1 Q
def rI(C:Int->Int->Prop)(g:Int->Int->V):R2:=λx y H Q=>∃i j,x=.int i/\y=.int j/\C i j/\Q (g i j) H
def NL(g:Int->Int->V):R2:=λx y H Q=>∃i j,x=.int i/\y=.int j/\Q (g i j) H
def rU(g:Int->V):V->Hp->VK->Prop:=λx H Q=>∃i,x=.int i/\Q (g i) H
variable {f:IR->IR->Sem IR}{r:R2}
section
variable {a b:Pv}{tc:TE}
def PM(m:PE X a ta)(q:PE X b tb){R:V->V->Hp->Prop}(I:Inv X qp σ H s)(h:ta σ H λx H1=>tb σ H1 λy d=>R x y d)  
  (hf:∀v u s2 x y d,Inv X qp σ d s2->RelV x v->RelV y u->R x y d->wpAny (!4) X.A (f v u) Q X.xe s2):
  wpAny (!4) X.A (UV a X.env) (λv s₁=>wpAny (!4) X.A (UV b X.env) (λu s₂=>wpAny (!4) X.A (f v u) Q X.xe s₂) X.xe s₁) X.xe s:=by
 refine HB (m qp s σ H _ I h) ?_;rintro v s1 ⟨x,H1,c,e,g⟩;refine HB (q qp s1 σ H1 _ c g) ?_;rintro u s2 ⟨y,d,i,j,l⟩;exact hf v u s2 x y d i e j l
def iZ{op:Operator}(d:JU X (binaryOp op) r)(m:PE X a ta)(z:PE X b tb):PE X (.BinOp a op b pos) (RX r ta tb):=by intro qp s σ H Q I h;exact wpAny_BinOp<|PM m z I h λv u s2 x y c e f g q=>d qp s2 σ c x y v u Q e f g q
def jA{op:UnaryOp}{r:V->Hp->VK->Prop}(d:YL X (unaryOp op) r)(m:PE X a ta):PE X (.UnaryOp op a pos) (tUn r ta):=by intro qp s σ H Q I h;exact UnaryOp_<|HB (m qp s σ H _ I h) λv s1 ⟨x,H1,b,c,e⟩=>d qp s1 σ H1 x v Q b c e
def Sg{C:Int->Int->Prop}{g:Int->Int->Int}(rule:∀(i j:Int) (t u:Tok) (s:Shared) (Q:Qqa) (E:Qqa),C i j->Q (.int (g i j) s.toks) {s with toks:=s.toks+1}->wpAny (!4) X.A (f (.int i t)<|.int j u) Q E s):
  JU X f (rI C λi j=>.int (g i j)):=by
 intro qp s σ H x y v u Q I a b h;obtain⟨i,j,rfl,rfl,c,q⟩:=h;obtain⟨t,rfl⟩:=a;obtain⟨t',rfl⟩:=b;exact rule i j t t' s _ _ c ⟨.int<|g i j,H,I.tok _,⟨_,rfl⟩,q⟩
def Sf{g:Int->Int->Int}(rule:∀(i j:Int) (t u:Tok) (s:Shared) (Q:Qqa) (E:Qqa),Q (.int (g i j) s.toks) {s with toks:=s.toks+1}->wpAny (!4) X.A (f (.int i t)<|.int j u) Q E s):
  JU X f (NL λi j=>.int (g i j)):=by
 intro qp s σ H x y v u Q I a b h;obtain⟨i,j,rfl,rfl,q⟩:=h;obtain⟨t,rfl⟩:=a;obtain⟨t',rfl⟩:=b;exact rule i j t t' s _ _ ⟨.int<|g i j,H,I.tok _,⟨_,rfl⟩,q⟩
def NO{g:Int->Int->Bool}(rule:∀(i j:Int) (t u:Tok) (s:Shared) (Q:Qqa) (E:Qqa),Q (.bool<|g i j) s->wpAny (!4) X.A (f (.int i t)<|.int j u) Q E s):
  JU X f (NL λi j=>.bl (g i j)):=by
 intro qp s σ H x y v u Q I a b h;obtain⟨i,j,rfl,rfl,q⟩:=h;obtain⟨t,rfl⟩:=a;obtain⟨t',rfl⟩:=b;exact rule i j t t' s _ _ ⟨.bl<|g i j,H,I,rfl,q⟩
def PX(i j:Int):Prop:=(-(2^64)<i/\i<2^64)\/(-(2^64)<j/\j<2^64)
def PX.ok{i j:Int}(h:PX i j):IntMulOk i j:=by
 rcases h with⟨a,b⟩|⟨a,b⟩
 ·exact .of_left<|intBits_le_64 a b
 exact .of_right<|intBits_le_64 a b
def nR:JU X (binaryOp .Add) (NL λi j=>.int (i+j)):=Sf λ_ _ _ _ _ _ _ q=>add_int q
def nZ:JU X (binaryOp .Sub) (NL λi j=>.int (i-j)):=Sf λ_ _ _ _ _ _ _ q=>sub_int q
def nY:JU X (binaryOp .Mult) (rI PX λi j=>.int (i*j)):=Sg λ_ _ _ _ _ _ _ a q=>mul_int q a.ok
def nX:JU X (binaryOp .Mod) (rI (λ_ j=>0<j) λi j=>.int (i % j)):=Sg λi j _ _ _ _ _ a q=>by have b:(0:Int)<j:=a;exact mod_int' (!0) (by rw[Int.fmod_eq_emod_of_nonneg i (!0)];exact q)
def unI{f:IR->Sem IR}{g:Int->Int}(rule:∀(i:Int) (t:Tok) (s:Shared) (Q:Qqa) (E:Qqa),Q (.int (g i) s.toks) {s with toks:=s.toks+1}->wpAny (!4) X.A (f<|.int i t) Q E s):
  YL X f (rU λi=>.int (g i)):=by
 intro qp s σ H x v Q I a h;obtain⟨i,rfl,q⟩:=h;obtain⟨t,rfl⟩:=a;exact rule i t s _ _ ⟨.int<|g i,H,I.tok _,⟨_,rfl⟩,q⟩
def pT:YL X (unaryOp .USub) (rU λi=>.int (-i)):=unI λ_ _ _ _ _ q=>neg_int q
end
variable {op':CmpOp}{r':R2}
section
variable {a b:Pv}{tc:TE}
def Vt{Q:VK}{k d:Bool}(I:Inv X qp σ H s)(q:Q (.bl k) H)(e:k=d):EP X qp σ Q (.bool d) s:=by subst e;exact⟨.bl k,H,I,rfl,q⟩
def iW:JU X (SL .Lt) (NL λi j=>.bl (decide (i<j))):=NO λ_ _ _ _ _ _ _ q=>Gm q
def iV:JU X (SL .LtE) (NL λi j=>.bl (decide (i<=j))):=NO λ_ _ _ _ _ _ _ q=>le_int q
def iU:JU X (SL .Gt) (NL λi j=>.bl (decide (j<i))):=NO λ_ _ _ _ _ _ _ q=>gt_int q
def iT:JU X (SL .GtE) (NL λi j=>.bl (decide (j<=i))):=NO λ_ _ _ _ _ _ _ q=>ge_int q
def zl9:JU X (SL .In) (λx y H Q=>∃i j,x=.str i/\y=.str j/\Q (.bl<|!(Builtin.Str.occurrences j i 0 j.length 1).isEmpty) H):=by intro qp s σ H x y v u Q I a b h;obtain⟨i,j,rfl,rfl,q⟩:=h;obtain⟨t,rfl⟩:=a;obtain⟨t',rfl⟩:=b;exact in_str<|Vt I q rfl
def sT:JU X (SL .IsNot) (λx y H Q=>y=.non/\Q (.bl<|!decide (x=.non)) H):=by
 intro qp s σ H x y v u Q I a b h;obtain⟨rfl,q⟩:=h;cases b;refine isnot_none_gen<|Vt I q ?_
 cases x<;>first
  |(cases a;rfl)
  |(obtain⟨t,rfl⟩:=a;rfl)
def zhx:JU X (SL .NotIn) (λx y H Q=>∃i j,x=.str i/\y=.str j/\Q (.bl<|!(!(Builtin.Str.occurrences j i 0 j.length 1).isEmpty)) H):=by intro qp s σ H x y v u Q I a b h;obtain⟨i,j,rfl,rfl,q⟩:=h;obtain⟨t,rfl⟩:=a;obtain⟨t',rfl⟩:=b;exact notIn_str<|Vt I q rfl
def sW(d:JU X (SL op) r)(m:PE X a ta)(z:PE X b tb)(hm:behindInMarks op b=false):PE X (.Compare a [op] [b] pos) (RX r ta tb):=by intro qp s σ H Q I h;exact wpAny_Compare1 (PM m z I h λv u s2 x y c e f g q=>d qp s2 σ c x y v u Q e f g q) hm
def Zj(t:TE):TT:=λσ H Q=>t σ H λx H'=>∃k,x=.bl k/\Q k H'
def tU(d:JU X (SL op) r)(m:PE X a ta)(q:PE X b tb)(hm:behindInMarks op b=false):PT X (.Compare a [op] [b] pos) (Zj<|RX r ta tb):=by
 exists 4;refine ER (HB (m qp s σ H _ I h) λv s1 ⟨x,H1,f,g,i⟩=>HB (q qp s1 σ H1 _ f i) λu s2 ⟨y,j,l,n,o⟩=>
  HB (d qp s2 σ j x y v u _ l g n o) λc s3 ⟨z,p,w,A,k,e,E⟩=>?_) hm
 subst e;cases A;exact Bw ⟨p,w,E⟩
def VR(r r':R2)(ta tb tc:TE):TE:=λσ H Q=>ta σ H λx H1=>tb σ H1 λy b=>r x y b λz a=>∃k,z=.bl k /\
 (if k=true then tc σ a λc e=>r' y c e Q else Q (.bl false) a)
def wZ(q:JU X (SL op) r)(m:JU X (SL op') r')(B:PE X a ta)(C:PE X b tb)(F:PE X c tc)(hm:lastMarks [op,op'] [b,c]=false:=by with_unfolding_all rfl):PE X (.Compare a [op,op'] [b,c] pos) (VR r r' ta tb tc):=by
 exists 4;refine Compare_chain (HB (B qp s σ H _ I h) λv s1 ⟨x,H1,l,n,o⟩=>chain_link (HB (C qp s1 σ H1 _ l o) λu s2 ⟨y,p,w,f,A⟩=>
  HB (q qp s2 σ p x y v u _ w n f A) λd s3 ⟨z,g,i,E,k,e,j⟩=>?_)) hm
 subst e;cases E;refine Bw ?_;cases k with
 |false=>exact ite_ff ⟨.bl false,g,i,rfl,j⟩
 |true=>exact ite_tt<|chain_last<|HB (F qp s3 σ g _ i j) λK s4 ⟨L,M,N,P,G⟩=>m qp s4 σ M y L u K Q N f P G
def vZ(q:JU X (SL op) r)(m:JU X (SL op') r')(B:PE X a ta)(C:PE X b tb)(F:PE X c tc)(hm:lastMarks [op,op'] [b,c]=false:=by with_unfolding_all rfl):PT X (.Compare a [op,op'] [b,c] pos) (Zj<|VR r r' ta tb tc):=by
 exists 4;refine isTrue_chain (HB (B qp s σ H _ I h) λv s1 ⟨x,H1,l,n,o⟩=>test_link (HB (C qp s1 σ H1 _ l o) λu s2 ⟨y,p,w,f,A⟩=>
  HB (q qp s2 σ p x y v u _ w n f A) λd s3 ⟨z,g,i,E,k,e,j⟩=>?_)) hm
 subst e;cases E;refine Bw ?_;cases k with
 |false=>
  obtain⟨k',K,L⟩:=j;cases K;exact ite_ff ⟨g,i,L⟩
 |true=>
  refine ite_tt<|test_last<|HB (F qp s3 σ g _ i j) λM s4 ⟨N,P,G,J,S⟩=>HB (m qp s4 σ P y N u M _ G f J S) ?_;rintro d' s5 ⟨z2,T,U,W,k2,Y,Z⟩;subst Y;cases W;exact Bw ⟨T,U,Z⟩
def Sw(K:Ab)(x:V)(H:Hp)(k:Bool):Prop:=
 match x with
 |.non=>k=false
 |.bl b=>k=b
 |.int i=>k=(i != 0)
 |.str y=>y.length<=sizeLine/\k=((y.length:Int) != 0)
 |.byt y=>y.size<=sizeLine/\k=((y.size:Int) != 0)
 |.ref p=>(∃xs,JD K H p xs/\k=!xs.isEmpty)\/(∃xs,IM K H p xs/\k=!xs.isEmpty)\/∃a,H p=some (.dK a)/\k=!a.isEmpty
 |_=>False
def zkJ{kvs:List (κ×V)}{vs:List (κ×IR)}(r:KV kvs vs):(!vs.isEmpty)=!kvs.isEmpty:=by cases r<;>rfl
def eU{xs:List V}{its:List IR}(r:Vals xs its):(!its.toArray.isEmpty)=!xs.isEmpty:=by cases r<;>simp
def Pc:(sizeLine:Nat)<2^63:=by rw[CA];decide
def pS:YM X (λx H Q=>∃k,Sw X.K x H k/\Q k H):=by
 intro qp s σ H x v Q I f h;obtain⟨k,e,q⟩:=h;have A:=Pc;have E:sizeLine=16777216:=CA;cases x with
 |non=>
  cases f;have a:k=false:=e;subst a;exact truthy_none ⟨H,I,q⟩
 |bl b=>
  cases f;have a:k=b:=e;subst a;exact Bw ⟨H,I,q⟩
 |int i=>
  obtain⟨t,rfl⟩:=f;have a:k=(i != 0):=e;subst a;exact PySem.P.truthy_int ⟨H,I,q⟩
 |str y=>
  obtain⟨t,rfl⟩:=f;obtain⟨o,a⟩:y.length<=sizeLine/\k=((y.length:Int) != 0):=e;subst a;exact Fz (!0) ⟨H,I.tok _,q⟩
 |byt y=>
  obtain⟨t,rfl⟩:=f;obtain⟨o,a⟩:y.size<=sizeLine/\k=((y.size:Int) != 0):=e;subst a;exact PySem.W.truthy_bytes (!0) ⟨H,I.tok _,q⟩
 |ref p=>
  cases f;have a:(∃xs,JD X.K H p xs/\k=!xs.isEmpty)\/(∃xs,IM X.K H p xs/\k=!xs.isEmpty)\/∃c,H p=some (.dK c)/\k=!c.isEmpty:=e;rcases a with⟨xs,g,a⟩|⟨xs,g,a⟩|⟨c,g,a⟩
  ·subst a;obtain⟨l,r,pl,n⟩:=I.list g;have hlen:=r.length;exact wpAny_truthy_list pl.isList (by simp only[Ay];omega) ⟨H,I.tok _,by rw[eU r];exact q⟩
  ·subst a;obtain⟨l,r,pl,n⟩:=I.tuple g;have hlen:=r.length;exact truthy_tuple pl (by simp only[Ay];omega) ⟨H,I.tok _,by rw[eU r];exact q⟩
  subst a;obtain⟨n,u,j,r,m⟩:c.length<=sizeLine/\(p==sysModules)=false/\∃j,KV c j/\s.heap.DictOf (Ja X.prog X.w) p j:=I.hok p _ g;have hlen:c.length=j.length:=Be r;exact wpAny_truthy_dict u m (!0) ⟨H,I.tok _,by rw[zkJ r];exact q⟩
 |_=>exact(show False from e).elim
def cN(d:PE X a ta)(he:∀whole,isTrue a X.env whole=(do let v <-whole;standAt a.pos;holding [v] (truthy v))):
  PT X a (λσ H Q=>ta σ H λx H'=>∃k,Sw X.K x H' k/\Q k H'):=by
 exists 4;exact isTrue_plain (HB (d qp s σ H _ I h) λv s1 ⟨x,H1,b,c,e⟩=>pS qp s1 σ H1 x v Q b c e)<|he _
def zkj:JU X (binaryOp .Add) (λx y H Q=>∃i j,x=.str i/\y=.str j/\i.length+j.length<=sizeLine/\Q (.str<|i++j) H):=by intro qp s σ H x y v u Q I a b h;obtain⟨i,j,rfl,rfl,c,q⟩:=h;obtain⟨t,rfl⟩:=a;obtain⟨t',rfl⟩:=b;exact add_str (λt' tk=>⟨.str<|i++j,H,I.tok _,⟨_,rfl⟩,q⟩) c
def vals1{x:V}(r:Vals [x] us):∃u,us=[u]/\RelV x u:=by
 cases r with
 |cons a b=>cases b;exact⟨_,rfl,a⟩
def vals2{x:V}(r:Vals [x,y] us):∃u d,us=[u,d]/\RelV x u/\RelV y d:=by
 cases r with
 |cons a b=>
  cases b with
  |cons c e=>cases e;exact⟨_,_,rfl,a,c⟩
def zF(d:X.calm=true):MZ X (.builtin "min") (λxs H Q=>∃i j,xs=[.int i,.int j]/\Q (.int<|if j<i then j else i) H):=by
 intro qp s σ H xs us Q I r h;obtain⟨i,j,rfl,q⟩:=h;obtain⟨u,a,rfl,⟨t,rfl⟩,⟨t',rfl⟩⟩:=vals2 r;refine min_two_ints (I.ok.hd d) λh' tk k=>⟨_,H,I.kept k,?_,q⟩;by_cases hj:j<i
 ·rw[if_pos hj,if_pos hj];exact⟨_,rfl⟩
 rw[if_neg hj,if_neg hj];exact⟨_,rfl⟩
def dM:MZ X (.type "int") (λxs H Q=>(∃i,xs=[.int i]/\Q (.int i) H)\/∃k,xs=[.bl k]/\Q (.int<|if k then 1 else 0) H):=by
 intro qp s σ H xs us Q I r h;rcases h with⟨i,rfl,q⟩|⟨k,rfl,q⟩
 ·obtain⟨u,rfl,t,rfl⟩:=vals1 r;exact call_int_int ⟨.int i,H,I,⟨_,rfl⟩,q⟩
 obtain⟨u,rfl,a⟩:=vals1 r;cases a;exact call_int_bool ⟨.int<|if k then 1 else 0,H,I.tok _,⟨_,rfl⟩,q⟩
end
structure Lw(h:PP)(x dx C:Addr)(mA:Str->Option IR):Prop where
 obj:h.get? x=some (BW C dx)
 ns:h.Ns1 dx mA
 ne:dx≠x
variable {dx:Addr}{mA:Str->Option IR}
def yO(n:h.Ns1 dx mA):∃d,h.get? dx=some d/\∀name,DJ name d=some (mA name):=by
 obtain⟨o,es,i,c,hd,hk,_,hm⟩:=n;refine⟨o,c,λname=>?_⟩;have e:=hm name;unfold nsFind findBy at e;rw[<-Array.find?_toList]at e;unfold DJ;rw[hd];dsimp only;split
 ·rename_i y q;rw[q]at e;exact congrArg some e
 ·rename_i q;rw[q]at e;have a:es.toList.any (·.refKey)=false:=by
   rw[FR];intro y f;obtain⟨z,t,b⟩:=hk y<|Array.mem_toList_iff.mp f;simp[DictEntry.refKey,b]
  have g:¬es.toList.any (·.refKey)=true:=by rw[a];exact AY
  rw[if_neg g];exact congrArg some e
variable {C:Addr}
def Lw.look{x:Addr}(I:Lw h x dx C mA):∃d,PySem.W.InstAt h x (BW C dx) C (some d)/\∀name,DJ name d=some (mA name):=
 let ⟨d,ho,hl⟩:=yO I.ns
 ⟨d,⟨I.obj,rfl,rfl,ho⟩,hl⟩
variable {pl:Sem Bool}{prog:Re}{name:Str}{kw:List (Str×IR)}
section
variable {x f:Addr}{v:IR}
def get_map{expr:Bool}(X:K.In s.heap)(I:Lw s.heap x dx C mA)(m:CP K C name=true)(q:Dj K C=true)(z:Bl K (.ref C) name=some none) (B:mA name=some v) (d:Ge v=true) (h:Q v {s with toks:=s.toks+1}):
  wpAny (!5) A (getAttr (.ref x) name expr) Q E s:=by
 obtain⟨b,J,a⟩:=I.look;exact PySem.W.get_value X J (DD m).1 (PySem.W.findObj_own q z rfl<|by rw[a,B]) d h
def uV{Q:IR×List IR->Shared->Prop}(X:K.In s.heap)(I:Lw s.heap x dx C mA)(d:CP K C name=true)(hf:Bl K (.ref C) name=some (some<|.ref f)) (m:Du K (.ref f)=true) (q:mA name=none) (h:Q (.ref f,[.ref x]) s):
  wpAny (!5) A (getMethod (.ref x) name pl) Q E s:=by
 obtain⟨a,J,b⟩:=I.look;exact PySem.W.method_fn X J (DD d).1 (DD d).2 hf (beq_iff_eq.mp m) (by show(DJ name a).map (·.isSome)=some false;rw[b,q];rfl) h
def sG{ns:List Str}{Q:Unit->Shared->Prop}(X:K.In s.heap)(I:Lw s.heap x dx C mA)(d:Bl K (.ref C) "__setattr__"=some (some<|.builtin "object.__setattr__")) (m:D2 K C=true) (q:Eo K C name=some none) (z:Dj K C=true)(hw:Fy mA ns) (hsz:ns.length<=sizeLine)(h:∀h',Lw h' x dx C (λy=>if y=name then some v else mA y)->BD dx s.heap h'->Q () {s with heap:=h',toks:=s.toks+2}):
  wpAny (!5) A (setAttr (.ref x) name v) Q E s:=by
 obtain⟨u,J,H⟩:=I.look;refine PySem.W.set_plain X J d<|PySem.W.osa_open (s:={s with toks:=s.toks+1}) (r:=none) X J m q λb=>?_;obtain⟨cd,l,f⟩:=PySem.W.any_some z;have n:s.heap.get? x=some ⟨.ref C,some dx,.plain,#[]⟩:=I.obj;refine Aa<|Ac<|Aa<|Aa<|wpAny_loadPart n<|Aa<|PySem.W.Looks.here (s:={s with toks:=s.toks+1}) (PySem.W.looks_clsIn X l) ?_;rw[f];refine Ac (a:=some dx)<|Aa<|Ac<|Aa ?_;refine wpAny_nsSet1 (s:={s with toks:=s.toks+1}) I.ns λh' c e=>?_;obtain⟨L,o,p,g,i,j⟩:=c.count<|PySem.Within.cons name v hw;refine Aa<|wpAny_lookBehind g (by rw[i];exact pastItsLine_dict (AA j (by rw[Aw];omega))) ?_;exact Ac<|h _ ⟨(e.2 _<|BJ I.ne).trans I.obj,c,I.ne⟩ e
def wJ{R:Result->Shared->Prop}{vs:List IR}(X:K.In s.heap)(hm:Dv K C=true)(hi:Bl K (.ref C) "__init__"=some (some<|.ref f)) (hf:PySem.W.typeIn K (.ref f)=some (.type "function"))(h:codeAny (!5) (A.under<|.builtin "type.__call__" ⟨.ref C::vs,kw⟩) (.call (.ref f) ⟨.ref (s.heap.objs.size+1)::vs,kw⟩) (PySem.W.InitBack (s.heap.objs.size+1) R)
   {s with heap:=(s.heap.push Bx).push (BW C s.heap.objs.size)}):
  codeAny (!5) A (.call (.ref C) ⟨vs,kw⟩) R s:=by
 obtain⟨a,g,d,t,os⟩:=s;exact PySem.W.make_core (PySem.W.makes_of X hm) (PySem.W.looks_findIn X hi) (λself=>PySem.W.bind_fn X self hf) (.inl rfl) h
end
def IL(f:Str)(v:V):List (Str×V)->List (Str×V)
 |[]=>[(f,v)]
 |(g,x)::r=>if g=f then(g,v)::r else(g,x)::IL f v r
theorem fR(f g:Str)(v:V):∀fs:List (Str×V),(IL f v fs).lookup g=if g=f then some v else fs.lookup g
 |[]=>by
  show CB g [(f,v)]=_;by_cases h:g=f
  ·have d:(g==f)=true:=beq_iff_eq.mpr h;simp only[CB,d,if_pos h]
  have d:(g==f)=false:=beq_eq_false_iff_ne.mpr h;simp only[CB,d,if_neg h]
 |(k,x)::r=>by
  have a:=fR f g v r;exists 7
  by_cases hk:k=f
  ·rw[if_pos hk]
   by_cases h:g=k
   ·have d:(g==k)=true:=beq_iff_eq.mpr h;simp only[CB,d,if_pos (h.trans hk)]
   have d:(g==k)=false:=beq_eq_false_iff_ne.mpr h;simp only[CB,d,if_neg (λe:g=f=>h (e.trans hk.symm))]
  ·rw[if_neg hk]
   by_cases h:g=k
   ·have d:(g==k)=true:=beq_iff_eq.mpr h;simp only[CB,d,if_neg (λe:g=f=>hk (h.symm.trans e))]
   have d:(g==k)=false:=beq_eq_false_iff_ne.mpr h;simp only[CB,d];exact a
theorem WK(f:Str)(v:V):∀fs:List (Str×V),f∈(IL f v fs).map (·.1)/\∀g,g∈fs.map (·.1)->g∈(IL f v fs).map (·.1)
 |[]=>⟨by simp[IL],λg h=>by simp at h⟩
 |(k,x)::r=>by
  obtain⟨d,i2⟩:=WK f v r;exists 7
  by_cases hk:k=f
  ·rw[if_pos hk];subst hk;exact⟨by simp,λg h=>by simpa using h⟩
  ·rw[if_neg hk];refine⟨?_,λg h=>?_⟩
   ·rw[Ao];exact Ai _ d
   ·rw[Ao]at h ⊢
    rcases KM.mp h with e|e
    ·exact KM.mpr<|.inl e
    exact Ai _<|i2 g e
theorem fQ(f:Str)(v:V):∀fs:List (Str×V),(IL f v fs).length<=fs.length+1
 |[]=>by simp[IL]
 |(k,x)::r=>by
  have d:=fQ f v r;exists 7
  by_cases hk:k=f
  ·rw[if_pos hk,Aw,Aw];omega
  rw[if_neg hk,Aw,Aw];omega
def Jh.some_of{o:Option IR}(r:Jh (some v) o):∃u,o=some u/\RelV v u:=by
 cases o with
 |none=>exact(show False from r).elim
 |some u=>exact⟨u,rfl,r⟩
def Jh.none_of{o:Option IR}(r:Jh none o):o=none:=by
 cases o with
 |none=>rfl
 |some u=>exact(show False from r).elim
def yF(r:RelV v u):Ge u=true:=by
 cases v with
 |non=>cases (show u=Bk from r);rfl
 |bl b=>cases (show u=Ff b from r);rfl
 |int i=>obtain⟨t,e⟩:=(show ∃t,u=DO i t from r);cases e;rfl
 |str x=>obtain⟨t,e⟩:=(show ∃t,u=Em x t from r);cases e;rfl
 |byt b=>obtain⟨t,e⟩:=(show ∃t,u=G5 b t from r);cases e;rfl
 |flt b=>obtain⟨t,e⟩:=(show ∃t,u=G6 b t from r);cases e;rfl
 |ref a=>cases (show u=AE a from r);rfl
 |ty n=>cases (show u=Gn n from r);rfl
section
variable {fs fs':List (Str×V)}
def V7(m:Jx P w H h)(e:H a=some (.ins C dx fs)):∃mA,Lw h a dx C mA/\(∀f,Jh (fs.lookup f) (mA f))/\Fy mA (fs.map (·.1))/\fs.length<=1000/\H dx=some (.own a):=by
 obtain⟨d,z,ne,ob,mA,n,r,q⟩:=(show Jr P w H h a (.ins C dx fs) from m a _ e)
 exact⟨mA,⟨ob,n,ne⟩,r,q,z,d⟩
end
structure Lz(K:Ab)(C:Addr):Prop where
 pg:CP K C Fx=true
 hd:Dj K C=true
 po:D2 K C=true
 sa:Bl K (.ref C) "__setattr__"=some (some (.builtin "object.__setattr__"))
def Lz.get(c:Lz K C)(f:Str):CP K C f=true:=c.pg
def Nr(K:Ab)(C:Addr)(f:Str):Prop:=Bl K (.ref C) f=some none
def Nr.taker{f:Str}(n:Nr K C f):Eo K C f=some none:=by unfold Eo;rw[show Bl K (.ref C) f=some none from n];rfl
structure Meth(K:Ab)(C:Addr)(m:Str)(f:Addr):Prop where
 at_:Bl K (.ref C) m=some (some (.ref f))
 fn:Du K (.ref f)=true
 kp:Bf K (.ref f)=true
variable {m:Str}{env:Env}
section
variable {fs:List (Str×V)} {f:Str}
def zkS{b:Bool}(I:Inv X qp σ H s)(e:H a=some (.ins C dx fs))(c:Lz X.K C)(n:Nr X.K C f)(l:fs.lookup f=some v)(h:∀u s',Inv X qp σ H s'->RelV v u->Q u s'):wpAny (!4) A (getAttr (.ref a) f b) Q E s:=by
 obtain⟨mA,O,r,_,_,_⟩:=V7 I.hok e;obtain⟨u,i,g⟩:=Jh.some_of (v:=v) (o:=mA f) (by rw[<-l];exact r f);exact get_map I.kIn O (c.get f) c.hd n i (yF g)<|h u _ (I.tok _) g
def eS{g:Addr}{Q:IR×List IR->Shared->Prop}(I:Inv X qp σ H s)(e:H a=some (.ins C dx fs))(c:Lz X.K C)(k:Meth X.K C m g)(l:fs.lookup m=none)(h:Q (.ref g,[.ref a]) s):wpAny (!4) A (getMethod (.ref a) m pl) Q E s:=by
 obtain⟨mA,O,r,_,_,_⟩:=V7 I.hok e;have b:mA m=none:=Jh.none_of (by rw[<-l];exact r m);exact uV I.kIn O (c.get m) k.at_ k.fn b h
def zjT{Q:Unit->Shared->Prop}(I:Inv X qp σ H s)(e:H a=some (.ins C dx fs))(c:Lz X.K C)(n:Nr X.K C f)(B:fs.length<1000)(d:RelV y u)(h:∀s',Inv X qp σ (upd H a<|.ins C dx<|IL f y fs) s'->Q () s'):wpAny (!4) A (setAttr (.ref a) f u) Q E s:=by
 obtain⟨mA,O,r,wi,_,i⟩:=V7 I.hok e;have j:(fs.map (·.1)).length<=sizeLine:=by rw[Af,CA];omega
 refine sG I.kIn O c.sa c.po n.taker c.hd wi j λh' O' sb=>h _ ?_;have hd:∃o,h'.get? dx=some o:=let ⟨o,_,_,e',_⟩:=O'.ns;⟨o,e'⟩;refine I.write (x:=a) (e:=dx) (by rw[e];exact CQ) (.inr i) (λb q l z=>(sb.2 b l).trans z) hd ?_;refine⟨by rw[HV O.ne];exact i,?_,O.ne,O'.obj,_,O'.ns,λg=>?_,λg m=>?_⟩
 ·have:=fQ f y fs;omega
 ·show Jh ((IL f y fs).lookup g) (if g=f then some u else mA g);rw[fR]
  by_cases q:g=f
  ·rw[if_pos q,if_pos q];exact d
  rw[if_neg q,if_neg q];exact r g
 ·by_cases q:g=f
  ·rw[q];exact(WK f y fs).1
  refine(WK f y fs).2 g<|wi g λz=>m ?_;show(if g=f then some u else mA g)=none;rw[if_neg q];exact z
def Inv.made(I:Inv X qp σ H s):Inv X qp σ (upd (upd H s.heap.objs.size<|.own<|s.heap.objs.size+1) (s.heap.objs.size+1)<|.ins C s.heap.objs.size [])
  {s with heap:=(s.heap.push Bx).push (BW C s.heap.objs.size)}:=by
 have c:(s.heap.push Bx).get? s.heap.objs.size=some Bx:=Ap s.heap rfl;have f:((s.heap.push Bx).push<|BW C s.heap.objs.size).get? (s.heap.objs.size+1)=some (BW C s.heap.objs.size):=by
  have:=Ap (s.heap.push Bx) (o:=BW C s.heap.objs.size) rfl
  rwa [Ba]at this
 have g:(s.heap.push Bx).Ns s.heap.objs.size (λ_=>none):=⟨Bx,#[],_,c,rfl,(λe he=>absurd he (!2)),λ_=>rfl⟩
 have I1:=I.laid (a:=s.heap.objs.size) (o:=.own (s.heap.objs.size+1)) (h':=s.heap.push Bx) (t':=s.toks) (λb u q=>Ad _ q) (Ag _) ⟨_,c⟩;refine I1.laid (a:=s.heap.objs.size+1) (o:=.ins C s.heap.objs.size []) (t':=s.toks) (λb u q=>Ad _ q) (D5<|Ba _ _) ?_;have ne:s.heap.objs.size≠s.heap.objs.size+1:=Au<|Cn _;refine⟨by rw[HV ne,Le],A5 _,ne,f,λ_=>none,(Heap.Ns1.of_empty g).at λo q=>Ad _ q,λ_=>CQ,λy h=>absurd rfl h⟩
def oQ{f:Str}(d:attributeBase e f env (UV e env)=UV e env)(h:wpAny (!5) A (UV e env) (λo s₁=>wpAny (!5) A (getAttr o f true) Q E s₁) E s):wpAny (!5) A (UV (.Attribute e f pos) env) Q E s:=
 Attribute_any_ h (by rw[arm_eval_Attribute,d])
end
def XY(K:Ab)(ta:TE)(f:Str):TE:=λσ H Q=>ta σ H λx H1=>∃a C dx fs v,x=.ref a/\H1 a=some (.ins C dx fs)/\Lz K C/\Nr K C f/\fs.lookup f=some v/\Q v H1
def Yf(K:Ab)(ta d:TE)(f:Str):TS:=λD σ H=>d σ H λy H1=>ta σ H1 λx b=>∃a C dx fs,x=.ref a/\b a=some (.ins C dx fs)/\Lz K C/\Nr K C f/\fs.length<1000 /\
 D.nx σ (upd b a<|.ins C dx<|IL f y fs)
variable {value:Pv}{tpos:Pos}{tv:TE}
section
variable {o:Pv}{f:Str}
def lU(he:PE X e ta)(d:attributeBase e f X.env (UV e X.env)=UV e X.env):PE X (.Attribute e f pos) (XY X.K ta f):=by intro qp s σ H Q I h;refine oQ d<|HB (he qp s σ H _ I h) ?_;rintro u s1 ⟨x,H1,b,g,a,C,dx,fs,v,ex,i,c,n,l,q⟩;subst ex;obtain rfl:u=AE a:=g;exact zkS b i c n l λo s2 j m=>⟨v,H1,j,m,q⟩
def mP(d:PE X o ta)(z:PE X value tv)(B:swapsWith value (some<|.Attribute o f pos') pos.line X.env=pure false):PS X (.Assign [.Attribute o f pos'] value pos) (Yf X.K ta tv f):=by intro qp s σ H D I h;refine plainObj_wpAny_Assign_Attribute (HB (z qp s σ H _ I h) λu s1 ⟨y,H1,b,e,q⟩=>HB (d qp s1 σ H1 _ b q) ?_) B;rintro g s2 ⟨x,v,i,j,a,C,dx,fs,ex,m,c,n,l,p⟩;subst ex;obtain rfl:g=AE a:=j;exact zjT i m c n l e λs3 r=>⟨σ,_,r,p⟩
end
structure HM(k:Nat)(A:Around):Prop where
 hd:A.handled=none
 dp:A.depth+3*k+5<recursionLimit
 un:A.units+16*k+200<cLine
 gd:A.guards=some []
def HM.mono{k:Nat}(r:HM k A)(h:j<=k):HM j A:=⟨r.hd,by have:=r.dp;omega,by have:=r.un;omega,r.gd⟩
def HM.deeper{k:Nat}{A:Around}(r:HM (k+1) A)(env:Env):HM k (A.deeper env):=⟨r.hd,by have:=r.dp;show A.depth+1+3*k+5<_;omega,by have:=r.un;show A.units+3+16*k+200<_;omega,r.gd⟩
def zkx:(A.under<|.builtin "type.__call__" ⟨.ref C::us,kw⟩).depth=A.depth+1:=by first|rfl|simp[D6,Code.weight,Code.isCreation,GZ,Code.isCaller,Code.frames,FA,guardIds]
def zkw:(A.under<|.builtin "type.__call__" ⟨.ref C::us,kw⟩).units=A.units+1:=by first|rfl|simp[D6,Code.cUnits,Code.frames,FA]
def zi7:(A.under<|.builtin "type.__call__" ⟨.ref C::us,kw⟩).guards=A.guards:=by
 have h:(Code.builtin "type.__call__" ⟨.ref C::us,kw⟩).guards=[]:=by first|rfl|simp[Code.guards,GZ,guardIds]
 dsimp only[D6];rw[h];cases A.guards<;>rfl
def HM.make{k:Nat}(r:HM (k+1) A)(C:Addr)(us:List IR)(kw:List (Str×IR)):HM k (A.under<|.builtin "type.__call__" ⟨.ref C::us,kw⟩):=⟨r.hd,by have:=r.dp;rw[zkx];omega,by have:=r.un;rw[zkw];omega,by rw[zi7];exact r.gd⟩
def HM.depth{k:Nat}{A:Around}(r:HM k A):A.depth<recursionLimit:=by have:=r.dp;omega
def HM.units{k:Nat}{A:Around}(r:HM k A):A.units+64<cLine:=by have:=r.un;omega
def RY:TA:=λ_ H Q=>Q [] H
def lD(ta:TE)(d:TA):TA:=λσ H Q=>ta σ H λx H1=>d σ H1 λxs a=>Q (x::xs) a
section
variable {t:TA}
def ZI:PA X [] RY:=λ_ _ _ _ H Q I h=>CH ⟨[],H,I,.nil,h⟩
def V6(d:PE X e te)(q:PA X es t)(z:Qqb X.env e es:=by rfl):PA X (e::es) (lD te t):=by intro pos qp s σ H Q I h;rw[z];show wpAny _ _ (spliced ((false,UV e X.env)::backTo pos (UF es X.env))) _ _ s;refine BN<|HB (d qp s σ H _ I h) ?_;rintro u s1 ⟨x,H1,a,b,c⟩;exact HB (q pos qp s1 σ H1 _ a c) λus s2 ⟨xs,f,g,i,j⟩=>⟨x::xs,f,g,.cons b i,j⟩
def XN(t:TA):TE:=λσ H Q=>t σ H λxs H1=>xs.length<=sizeLine/\∀p,H1 p=none->Q (.ref p) (upd H1 p<|.tup xs)
def XT(t:TA):TE:=λσ H Q=>t σ H λxs H1=>xs.length<=sizeLine/\∀p,H1 p=none->Q (.ref p) (upd H1 p<|.lst xs)
def mE{x1}(h:PA X es t):PE X (.Tuple es x1 pos) (XN t):=by intro qp s σ H Q I a;refine wpAny_Tuple_spliced<|HB (h pos qp s σ H _ I a) λus s1 ⟨xs,H1,I1,r,z,q⟩=>⟨by rw[<-r.length];exact z,?_⟩;have hf:H1 s1.heap.objs.size=none:=I1.hok.fresh<|Ag _;refine⟨.ref s1.heap.objs.size,upd H1 s1.heap.objs.size<|.tup xs,I1.laid (t':=s1.toks) (λb u e=>Ad _ e) (Ag _) ?_,rfl,q _ hf⟩;exact⟨z,us,r,⟨_,Ap _ rfl,rfl,rfl,_,rfl⟩⟩
def lW(h:PA X es t):PE X (.List es pos) (XT t):=by intro qp s σ H Q I a;refine wpAny_List_spliced<|HB (h pos qp s σ H _ I a) λus s1 ⟨xs,H1,I1,r,z,q⟩=>⟨by rw[<-r.length];exact z,?_⟩;have hf:H1 s1.heap.objs.size=none:=I1.hok.fresh<|Ag _;refine⟨.ref s1.heap.objs.size,upd H1 s1.heap.objs.size<|.lst xs,I1.laid (t':=s1.toks) (λb u e=>Ad _ e) (Ag _) ?_,rfl,q _ hf⟩;exact⟨z,us,0,r,Ap _ rfl⟩
end
noncomputable abbrev Sp:=List V->Hp->VK->XK->Prop
noncomputable abbrev N9:=List Env->Hp->Shared->XK->Qqa
structure Ly(P:Re)(w:Wp)(K:Ab)(mg:Str->Option IR)(base:PP)(A:Around)(outer:List Env)(s:Shared)(H:Hp):Prop where
 frames:A.frames=some outer
 mod:Mod K mg base
 bs:∀b o,base.get? b=some o->s.heap.get? b=some o/\H b=none
 bsz:base.objs.size<=s.heap.objs.size
 funs:s.heap.FunFrames base outer
 frf:∀b∈L8 outer,H b=none
 hok:Jx P w H s.heap
 bare:AllBare s.gens
def CE(outer:List Env)(P:Re)(w:Wp)(H:Hp)(s:Shared)(Q:VK)(u:IR)(s':Shared):Prop:=∃v H',s'.os=s.os/\AllBare s'.gens/\Un (L8 outer) [] H H' s.heap s'.heap/\Jx P w H' s'.heap/\RelV v u/\Q v H'
def CR(CX:N9)(outer:List Env)(P:Re)(w:Wp)(H:Hp)(s:Shared)(Q:VK)(E:XK)(r:Result)(s':Shared):Prop:=
 match r with
 |.ok (.ret u)=>CE outer P w H s Q u s'
 |.ok _=>False
 |.error e=>CX outer H s E e s'
structure Jd(P:Re)(w:Wp)(K:Ab)(mg:Str->Option IR)(base:PP)(CX:N9)(k:Nat)(f:Addr)(fd:FuncData)(ps:List Str)(sp:Sp):Prop where
 len:∀vs H Q E,sp vs H Q E->vs.length=ps.length
 run:∀(A:Around) (outer:List Env) (s:Shared) (H:Hp) (args:Args) (us:List IR) (vs:List V) (Q:VK) (E:XK),HM k A->Ly P w K mg base A outer s H->BindsTo s fd args (ps.zip us)->Vals vs us->sp vs H Q E ->
  codeAny (KF P w) A (.call (.ref f) args) (CR CX outer P w H s Q E) s
variable {mg:Str->Option IR}{base:PP}{outer:List Env}
def Ly.make(e:Ly P w K mg base A outer s H)(C:Addr)(us:List IR)(kw:List (Str×IR)):
  Ly P w K mg base (A.under<|.builtin "type.__call__" ⟨.ref C::us,kw⟩) outer s H:=⟨by first|exact e.frames|(simpa[D6,Code.envs,FA,pushEnvs]using e.frames),e.mod,e.bs,e.bsz,e.funs,e.frf,e.hok,e.bare⟩
def Inv.env0(I:Inv X qp σ H s):Ly X.prog X.w X.K X.mg X.base X.A X.stack s H:=⟨I.ok.frames,I.ok.mod,I.bs,AA I.ok.bsz I.sz,I.stack,I.stkFree,I.hok,I.bare⟩
def Inv.after{Q:VK}(I:Inv X qp σ H s)(h:CE X.stack X.prog X.w H s Q u s'):EP X qp σ Q u s':=by obtain⟨v,H',os,bare,un,a,r,q⟩:=h;obtain⟨e,g,d,t,c⟩:=s';obtain rfl:c=s.os:=os;exact⟨v,H',I.call (h':=e) (g':=g) (d':=d) (t':=t) (ch:=[]) un a bare λb z=>absurd z (!2),r,q⟩
def lC(sp:Sp)(d:List V)(E:XK)(t:TA):TE:=λσ H Q=>t σ H λa H1=>sp (a++d) H1 Q E
def Vp(C:Addr)(m:Str)(sp:Sp)(d:List V)(E:XK)(ta:TE)(t:TA):TE:=λσ H Q=>ta σ H λx H1=>∃a dx fs,x=.ref a/\H1 a=some (.ins C dx fs)/\fs.lookup m=none /\
 t σ H1 λb c=>sp (x::(b++d)) c Q E
def lH(C:Addr)(sp:Sp)(d:List V)(E:XK)(t:TA):TE:=λσ H Q=>t σ H λa H1=>∀x dx,H1 x=none->H1 dx=none->dx≠x ->
 sp (.ref x::(a++d)) (upd (upd H1 dx<|.own x) x<|.ins C dx []) (λv b=>v=.non/\Q (.ref x) b) E
def Binds(K:Ab)(fd:FuncData)(ps:List Str)(ds:List IR):Prop:=∀(s:Shared) (us:List IR),K.In s.heap->(us++ds).length=ps.length->BindsTo s fd ⟨us,[]⟩ (ps.zip<|us++ds)
variable {fd:FuncData}{ps:List Str}
def Binds.all(h:∀us:List IR,us.length=ps.length->bindArgs fd ⟨us,[]⟩=pure (ps.zip us)):Binds K fd ps []:=λs us _ a=>by rw[An]at a ⊢;exact .of_eq<|h us a
def Passes(CX:N9)(X:Cx)(E:XK):Prop:=∀(qp:List (Addr×Obj)) (σ:St) (H:Hp) (s:Shared) (e:IR) (s':Shared),Inv X qp σ H s->CX X.stack H s E e s'->X.xe e s'
variable {CX:N9}{sp:Sp}{apos:Pos}
section
variable {k:Nat}{f:Addr}{dvs:List V}{ds:List IR}{E:XK}{o:Pv}{t:TA}
def VD{Q:VK}{vs:List V}(F:Jd X.prog X.w X.K X.mg X.base CX k f fd ps sp)(d:HM k X.A)(q:Binds X.K fd ps ds)(hd:Vals dvs ds)(z:Passes CX X E)(I:Inv X qp σ H s) (r:Vals vs us) (h:sp (vs++dvs) H Q E):wpAny (!4) X.A (call (.ref f) us) (EP X qp σ Q) X.xe s:=by
 have b:Vals (vs++dvs) (us++ds):=r.append hd;have c:(us++ds).length=ps.length:=by rw[<-b.length];exact F.len _ _ _ _ h
 refine wpAny_call<|D7 (F.run X.A X.stack s H ⟨us,[]⟩ (us++ds) (vs++dvs) Q E d I.env0 (q s us I.kIn c) b h) λr s' a=>?_
 cases r with
 |error e=>exact z qp σ H s e s' I a
 |ok fl=>
  cases fl with
  |ret u=>exact I.after a
  |next=>exact False.elim a
  |brk=>exact False.elim a
  |cont=>exact False.elim a
def sV(F:Jd X.prog X.w X.K X.mg X.base CX k f fd ps sp)(B:HM k X.A)(G:Gl X x)(hm:X.mg x=some (.ref f))(hk:Bf X.K (.ref f)=true)(J:Binds X.K fd ps ds)(hd:Vals dvs ds)(S:Passes CX X E)(T:PA X (e::es) t) (d:(x==("__debug__":Str))=false:=by decide) (he:Qqb X.env e es:=by rfl) (z:Qqc pos es X.env:=by rfl):
  PE X (.Call (.Name x p) (e::es) [] pos) (lC sp dvs E t):=by
 exists 4;refine C6<|Z1 I G hm ?_ d;refine DQ (h₀:=X.base) I.ok.mod.kin hk (HB (T pos qp s σ H _ I h) λus s1 ⟨a,H1,I1,r,q⟩=>⟨I1.kIn,?_⟩) he z;exact VD F B J hd S I1 r q
def sZ(he:PE X o ta)(c:Lz X.K C)(hm:Meth X.K C m f)(F:Jd X.prog X.w X.K X.mg X.base CX k f fd ps sp)(G:HM k X.A)(J:Binds X.K fd ps ds)(hd:Vals dvs ds)(S:Passes CX X E)(T:PA X (e::es) t)(d:Qqb X.env e es:=by rfl) (z:Qqc pos es X.env:=by rfl)(U:UV (.Call (.Attribute o m apos) (e::es) [] pos) X.env=(do
   let B <-UV o X.env
   standAt apos.atName
   let (f,first) <-holding [B] (getMethod B m pl)
   callWith pos f first (backTo pos<|UF (e::es) X.env) (backToKw pos<|keywordEach [] X.env)):=by rfl):
  PE X (.Call (.Attribute o m apos) (e::es) [] pos) (Vp C m sp dvs E ta t):=by
 exists 4;refine ES (pl:=pl) (HB (he qp s σ H _ I h) ?_) U;rintro u s1 ⟨x,H1,b,i,a,dx,fs,ex,j,l,q⟩;subst ex;obtain rfl:u=AE a:=i;refine eS b j c hm l ?_;refine DQ (first:=[.ref a]) (h₀:=X.base) I.ok.mod.kin hm.kp (HB (T pos qp s1 σ H1 _ b q) λus s2 ⟨g,p,I2,r,n⟩=>⟨I2.kIn,?_⟩) d z;exact VD (us:=.ref a::us) (vs:=.ref a::g) F G J hd S I2 (.cons rfl r) n
def vR(he:PE X o ta)(c:Lz X.K C)(hm:Meth X.K C m f)(F:Jd X.prog X.w X.K X.mg X.base CX k f fd ps sp)(z:HM k X.A)(B:Binds X.K fd ps ds)(hd:Vals dvs ds)(G:Passes CX X E)(J:UV (.Call (.Attribute o m apos) [] [] pos) X.env=(do
   let d <-UV o X.env
   standAt apos.atName
   let (f,first) <-holding [d] (getMethod d m pl)
   callWith pos f first (backTo pos<|UF [] X.env) (backToKw pos<|keywordEach [] X.env)):=by rfl):
  PE X (.Call (.Attribute o m apos) [] [] pos) (Vp C m sp dvs E ta RY):=by
 exists 4;refine ES (pl:=pl) (HB (he qp s σ H _ I h) ?_) J;rintro u s1 ⟨x,H1,I1,b,a,dx,fs,ex,e,l,q⟩;subst ex;obtain rfl:u=AE a:=b;refine eS I1 e c hm l ?_;exact PySem.W.callWith_K0 (first:=[.ref a]) I1.kIn hm.kp<|VD (us:=[.ref a]) (vs:=[.ref a]) F z B hd G I1 (.cons rfl .nil) q
structure Mk(K:Ab)(C f:Addr):Prop where
 makes:Dv K C=true
 init:Bl K (.ref C) "__init__"=some (some (.ref f))
 fn:Du K (.ref f)=true
 kp:Bf K (.ref C)=true
def wG{Q:VK}{vs:List V}(M:Mk X.K C f)(F:Jd X.prog X.w X.K X.mg X.base CX k f fd ps sp)(d:HM (k+1) X.A)(q:Binds X.K fd ps ds)(hd:Vals dvs ds)(z:Passes CX X E) (I:Inv X qp σ H s) (r:Vals vs us)(h:∀x dx,H x=none->H dx=none->dx≠x->sp (.ref x::(vs++dvs)) (upd (upd H dx<|.own x) x<|.ins C dx []) (λv B=>v=.non/\Q (.ref x) B) E):
  wpAny (!4) X.A (call (.ref C) us) (EP X qp σ Q) X.xe s:=by
 have b:=h (s.heap.objs.size+1) s.heap.objs.size (I.hok.fresh<|CC _) (I.hok.fresh<|Ag _)<|Au<|Cn _;have I2:=Inv.made (C:=C) I;have c:Vals (V.ref (s.heap.objs.size+1)::(vs++dvs)) (AE (s.heap.objs.size+1)::(us++ds)):=.cons rfl<|r.append hd;have g:(AE (s.heap.objs.size+1)::us++ds).length=ps.length:=by have e:=c.length;rw[F.len _ _ _ _ b]at e;exact e.symm
 refine wpAny_call (wJ (f:=f) I.kIn M.makes M.init (beq_iff_eq.mp M.fn) (D7 (F.run _ X.stack _ _ ⟨AE (s.heap.objs.size+1)::us,[]⟩ (AE (s.heap.objs.size+1)::(us++ds)) _ _ E (d.make C us [])
  (I2.env0.make C us []) (q _ (AE (s.heap.objs.size+1)::us) I2.kIn g) c b) λr s' a=>?_))
 cases r with
 |error e=>exact z qp σ _ _ e s' I2 a
 |ok fl=>
  cases fl with
  |ret u=>
   obtain⟨v,H',i,j,ev,l⟩:=I2.after a;subst ev;exact⟨j,⟨V.ref<|s.heap.objs.size+1,H',i,rfl,l⟩⟩
  |next=>exact False.elim a
  |brk=>exact False.elim a
  |cont=>exact False.elim a
def sY(M:Mk X.K C f)(F:Jd X.prog X.w X.K X.mg X.base CX k f fd ps sp)(B:HM (k+1) X.A)(G:Gl X x)(hm:X.mg x=some (.ref C))(J:Binds X.K fd ps ds)(hd:Vals dvs ds)(S:Passes CX X E)(T:PA X (e::es) t) (d:(x==("__debug__":Str))=false:=by decide) (he:Qqb X.env e es:=by rfl) (z:Qqc pos es X.env:=by rfl):
  PE X (.Call (.Name x p) (e::es) [] pos) (lH C sp dvs E t):=by
 exists 4;refine C6<|Z1 I G hm ?_ d;refine DQ (h₀:=X.base) I.ok.mod.kin M.kp (HB (T pos qp s σ H _ I h) λus s1 ⟨a,H1,I1,r,q⟩=>⟨I1.kIn,?_⟩) he z;exact wG M F B J hd S I1 r q
end
structure IP(N P:List Str)(sc:Scope):Prop where
 kind:sc.kind=.function
 co:sc.isCoroutine=false
 gen:sc.isGenerator=false
 nd:N.Nodup
 pre:N.take P.length=P
 par:∀x∈P,sc.names.lookup x=some .local\/sc.names.lookup x=some .cell
 nofree:∀y∈sc.names,y.2≠.free
variable {kindOf:Str->Option NameKind}
theorem dJ{kindOf:Str->Option NameKind}{x:Str}:∀{binds:List (Str×IR)} {m:Str->Option IR},(∀v,(x,v)∉binds)->bindL kindOf binds m x=m x
 |[],_,_=>rfl
 |(n,v)::r,m,h=>by
  unfold bindL;rw[dJ λw hw=>h w (Ai _ hw)];split
  ·have:x≠n:=by rintro rfl;exact h v Al
   simp[this]
  rfl
theorem dH{kindOf:Str->Option NameKind}{x:Str}:∀{binds:List (Str×IR)} {m:Str->Option IR},(∀v,(x,v)∉binds)->bindC kindOf binds m x=m x
 |[],_,_=>rfl
 |(n,v)::r,m,h=>by
  unfold bindC;rw[dH λw hw=>h w (Ai _ hw)];split
  ·rfl
  ·have:x≠n:=by rintro rfl;exact h v Al
   simp[this]
theorem dI{kindOf:Str->Option NameKind}{x:Str}{v:IR}:∀{P:List Str}{vs:List IR}{i:Nat}{m:Str->Option IR},P.Nodup->P[i]?=some x->vs[i]?=some v->kindOf x=some .local ->
  bindL kindOf (P.zip vs) m x=some v
 |[],_,_,_,_,h,_,_=>by simp at h
 |_::_,[],_,_,_,_,h,_=>by simp at h
 |p::P,w::vs,0,m,z,d,q,hk=>by simp at d q;subst d;subst q;show bindL kindOf ((p,w)::P.zip vs) m p=_;unfold bindL;rw[dJ λv B=>(List.nodup_cons.mp z).1 (CW B).1,if_pos hk];simp
 |p::P,w::vs,i+1,m,z,d,q,hk=>by show bindL kindOf ((p,w)::P.zip vs) m x=_;unfold bindL;exact dI (i:=i) (List.nodup_cons.mp z).2 (by simpa using d) (by simpa using q) hk
theorem dG{kindOf:Str->Option NameKind}{x:Str}{v:IR}:∀{P:List Str}{vs:List IR}{i:Nat}{m:Str->Option IR},P.Nodup->P[i]?=some x->vs[i]?=some v->kindOf x≠some .local ->
  bindC kindOf (P.zip vs) m x=some v
 |[],_,_,_,_,h,_,_=>by simp at h
 |_::_,[],_,_,_,_,h,_=>by simp at h
 |p::P,w::vs,0,m,z,d,q,hk=>by simp at d q;subst d;subst q;show bindC kindOf ((p,w)::P.zip vs) m p=_;unfold bindC;rw[dH λv B=>(List.nodup_cons.mp z).1 (CW B).1,if_neg hk];simp
 |p::P,w::vs,i+1,m,z,d,q,hk=>by show bindC kindOf ((p,w)::P.zip vs) m x=_;unfold bindC;exact dG (i:=i) (List.nodup_cons.mp z).2 (by simpa using d) (by simpa using q) hk
def start(N:List Str)(vs:List V):St:=vs.map some++BH (N.length-vs.length) none
def JI(CX:N9)(P:Re)(w:Wp)(K:Ab)(mg:Str->Option IR)(base:PP)(N:List Str)(qual:Str)(scope:Scope)(f:Addr)(cd:IR)(A:Around)(outer:List Env)(s:Shared)(H:Hp)(E:XK):Cx where
 prog:=P
 w:=w
 K:=K
 mg:=mg
 base:=base
 A:=A.deeper (envOfC qual scope s.heap.objs.size f cd)
 N:=N
 s₀:=s
 H₀:=H
 env:=envOfC qual scope s.heap.objs.size f cd
 outer:=outer
 stack:=envOfC qual scope s.heap.objs.size f cd::outer
 ex:=[]
 calm:=true
 fn:=λ_=>true
 pn:=[]
 xe:=λe s'=>wpAny (KF P w) (A.deeper<|envOfC qual scope s.heap.objs.size f cd) (leaving (envOfC qual scope s.heap.objs.size f cd) e) (λ_ a=>CX outer H s E e a) (λb a=>CX outer H s E b a) s'
def bR{sc:Scope}(h:sc.names.lookup x=some .cell):∃c,(cellsFrom n sc.names []).lookup x=some c:=by have q:=EI sc.names n []<|.inl h;exact Option.isSome_iff_exists.mp q
variable {qual:Str}{scope:Scope}
def yJ{f:Addr}{cd:IR}{s1:Shared}{E:XK}{vs:List V}(S:IP N ps scope) (hd:A.handled=none) (d:Ly P w K mg base A outer s H) (B:vs.length=ps.length) (r:Vals vs us)(x:InCallC s s.heap.objs.size (bindL (envOfC qual scope s.heap.objs.size f cd).kindOf (ps.zip us) λ_=>none) (cellsFrom (s.heap.objs.size+1) scope.names []) (bindC (envOfC qual scope s.heap.objs.size f cd).kindOf (ps.zip us) λ_=>none) s1):
  Inv (JI CX P w K mg base N qual scope f cd A outer s H E) [] (start N vs) H s1:=by
 have M:ps.length<=N.length:=by have:=congrArg F9 S.pre;rw[A3]at this;omega
 obtain⟨o,tk,rfl,hk⟩:=x.done;have j:∀b:Addr,b∉(JI CX P w K mg base N qual scope f cd A outer s H E).ex:=λb z=>absurd (show b∈([]:List Addr) from z) (!2);refine⟨⟨d.mod,S.kind,rfl,rfl,Ag _,λy z c o g=>?_,λy hy=>?_,λy c _ h=>?_,λ_=>hd,Around.frames_deeper d.frames,.inr ⟨rfl,rfl⟩,λb z=>absurd z (j b),d.bs,d.bsz,λb _ _=>j b,λb z=>absurd z (j b),d.funs,d.frf⟩,
  rfl,d.bare,Un.kept hk,⟨_,x.toInCall.ns,λi y v o g F=>?_⟩,λy c h=>⟨_,x.cell y c h⟩,d.hok.fresh (Ag _),λy c h=>?_,λp l=>absurd (show p∈([]:List (Addr×Obj)) from l) (!2),d.hok.kept hk,?_⟩
 ·exact name_of_addr x.apart (AV o)<|AV g
 ·have hy:scope.names.lookup y=some .cell\/scope.names.lookup y=some .free:=hy
  rcases hy with hy|hy
  ·exact bR hy
  exact absurd rfl<|S.nofree _<|AV hy
 ·exact BX<|x.above y c<|AV h
 ·have C:i<vs.length:=by
   unfold start at g;by_cases C:i<vs.length
   ·exact C
   ·rw[AZ (by simpa using C)]at g;rw[Cr]at g
    split at g<;>cases g
  have Q:vs[i]?=some v:=by
   unfold start at g;rw[Ar (by simpa using C),Az]at g
   cases e:vs[i]? with
   |none=>rw[e]at g;cases g
   |some a=>rw[e]at g;cases g;rfl
  obtain⟨u,L,X⟩:=r.get Q;have l:ps[i]?=some y:=by rw[<-S.pre,C7 (!0)];exact o
  have m:ps.Nodup:=by rw[<-S.pre];exact S.nd.sublist<|FS _ _
  refine⟨u,X,?_⟩;rcases S.par y (AF l)with k|k
  ·exact .inl ⟨k,dI m l L k⟩
  obtain⟨c,e⟩:=bR (n:=s.heap.objs.size+1) k;refine .inr ⟨.inl k,c,e,?_⟩;have q:=x.cell y c e;rw[dG m l L (by show scope.names.lookup y≠_;rw[k];decide)]at q;exact q
 ·exact d.hok.fresh<|BX<|x.above y c<|AV h
 unfold start;show _=N.length;rw[AB,Af,BO];omega
def jZ{k:Nat}{f:Addr}{name qual:Str}{params:Arguments}{body:List Stmt}{scope:Scope}{G kV doc pm d T U:IR}{an Y:Option Addr}{B:Array (Option IR)}   (Z:K.lookup f=some ⟨U,Y,.func<|Bu name qual params body scope G kV doc pm an d T,B⟩) (F:Cm K d qual=true) (S:IP N ps scope)(len:∀vs H Q E,sp vs H Q E->vs.length=ps.length)(z:∀(A:Around) (outer:List Env) (s:Shared) (H:Hp) (vs:List V) (Q:VK) (E:XK),HM k (A.deeper<|envOfC qual scope s.heap.objs.size f d)->sp vs H Q E ->
   ∃t,KO (JI CX P w K mg base N qual scope f d A outer s H E) body t/\t {nx:=λ_ H'=>Q .non H',rt:=Q} (start N vs) H):
  Jd P w K mg base CX (k+1) f (Bu name qual params body scope G kV doc pm an d T) ps sp:=by
 refine⟨len,λA outer s H args us vs Q E i g hb r h=>?_⟩;have m:=len _ _ _ _ h;have l:K.In s.heap:=g.mod.kin.keeps λb o e=>(g.bs b o e).1;have lim:s.heap.NoLimit:=g.mod.nolimit.keeps λb o e=>(g.bs b o e).1;have a:∀y∈ps.zip us,scope.names.lookup y.1=some .local\/(scope.names.lookup y.1=some .cell/\((cellsFrom (s.heap.objs.size+1) scope.names []).lookup y.1).isSome=true):=by
  rintro⟨n,v⟩ p;rcases S.par n (CW p).1 with q|q
  ·exact .inl q
  exact .inr ⟨q,EI _ _ _<|.inl q⟩
 refine codeAny_call_function i.depth (l _ _ Z) rfl S.co S.gen rfl (PySem.W.codeRec_of l F)<|hb _ _ _ _ ?_;refine wpAny_newFunctionEnv_cells S.kind a λenv he s1 x=>?_;subst he;refine⟨lim.keeps x.toInCall.keep,codeAny_func ?_⟩;obtain⟨t,C,L⟩:=z A outer s H vs Q E (i.deeper _) h;have I:Inv (JI CX P w K mg base N qual scope f d A outer s H E) [] (start N vs) H s1:=yJ S i.hd g m r x;refine Bs (C [] s1 (start N vs) H _ I L) (λfl s' c=>?_) λe s' c=>c;have fin:∀{σ':St}{H':Hp}{v:V}{u:IR},Inv (JI CX P w K mg base N qual scope f d A outer s H E) [] σ' H' s'->RelV v u->Q v H'->CE outer P w H s Q u s':=
  λ{σ' H' v u} J j q=>⟨v,H',J.os,J.bare,J.base,J.hok,j,q⟩
 cases fl with
 |ret u=>
  obtain⟨v,σ',H',J,j,q⟩:=c;exact fin J j q
 |next=>
  obtain⟨σ',H',J,q⟩:=c;exact fin (v:=V.non) (u:=Bk) J rfl q
 |brk=>
  obtain⟨_,_,_,q⟩:=c;exact False.elim q
 |cont=>
  obtain⟨_,_,_,q⟩:=c;exact False.elim q
variable {id T:String}
section
variable {t:TA}{r:List V->Hp->VK->Prop}
def X0(r:List V->Hp->VK->Prop)(t:TA):TE:=λσ H Q=>t σ H λa H1=>r a H1 Q
def bI(z:MZ X (.builtin id) r)(B:Gl X x)(hm:X.mg x=none)(F:W1 x=some (.builtin id))(G:PA X (e::es) t)(hn:x≠"__name__":=by decide)(d:(x==("__debug__":Str))=false:=by decide)(he:Qqb X.env e es:=by rfl) (q:Qqc pos es X.env:=by rfl):PE X (.Call (.Name x p) (e::es) [] pos) (X0 r t):=by
 exists 4;refine C6<|Qh I B hm F ?_ hn d;exact PyProof.Rows.callWith_builtin1 (HB (G pos qp s σ H _ I h) λus s1 ⟨a,H1,b,c,f⟩=>z qp s1 σ H1 a us Q b c f) he q
def zl4(z:MZ X (.type T) r)(B:Gl X x)(hm:X.mg x=none)(F:W1 x=some (.type T))(G:PA X (e::es) t)(hn:x≠"__name__":=by decide)(d:(x==("__debug__":Str))=false:=by decide)(he:Qqb X.env e es:=by rfl) (q:Qqc pos es X.env:=by rfl):PE X (.Call (.Name x p) (e::es) [] pos) (X0 r t):=by
 exists 4;refine C6<|Qh I B hm F ?_ hn d;exact B6 (HB (G pos qp s σ H _ I h) λus s1 ⟨a,H1,b,c,f⟩=>z qp s1 σ H1 a us Q b c f) he q
end
variable {d:V}
section
variable [DecidableEq κ]
def Iv(kvs:List (κ×V))(k:κ):Option V:=(kvs.find? λa=>decide (a.1=k)).map (·.2)
def putK(kvs:List (κ×V))(k:κ)(v:V):List (κ×V):=if(kvs.any λa=>decide (a.1=k))=true then kvs.map (λa=>if a.1=k then(a.1,v)else a)else kvs++[(k,v)]
def Wx{p:κ×V}{r:List (κ×V)}{k:κ}(e:p.1=k):Iv (p::r) k=some p.2:=by simp[Iv,AU,e]
def Ww{p:κ×V}{r:List (κ×V)}{k:κ}(e:¬p.1=k):Iv (p::r) k=Iv r k:=by simp[Iv,AU,e]
theorem bW(k:κ):∀kvs:List (κ×V),(kvs.any λq=>decide (q.1=k))=(Iv kvs k).isSome
 |[]=>rfl
 |p::r=>by
  rw[B1];by_cases e:p.1=k
  ·simp only[Wx e,decide_eq_true e,Bool.true_or,FB]
  rw[Ww e,decide_eq_false e,Bool.false_or];exact bW k r
def Xo(kvs:List (κ×V))(k:κ)(v:V):(putK kvs k v).length<=kvs.length+1:=by
 unfold putK;split
 ·rw[Af];omega
 rw[AB,Aw,Bg];omega
def Jh.isSome_eq{o:Option V}{u:Option IR}(r:Jh o u):o.isSome=u.isSome:=by
 cases o with
 |none=>cases u with
  |none=>rfl
  |some _=>exact(show False from r).elim
 |some _=>cases u with
  |none=>exact(show False from r).elim
  |some _=>rfl
def Jh.getD{o:Option V}{u:Option IR}{d:V}{d':IR}(r:Jh o u)(q:RelV d d'):RelV (o.getD d) (u.getD d'):=by
 cases o with
 |none=>cases u with
  |none=>exact q
  |some _=>exact(show False from r).elim
 |some _=>cases u with
  |none=>exact(show False from r).elim
  |some _=>exact r
def KV.val{kvs:List (κ×V)}{vs:List (κ×IR)}(r:KV kvs vs)(k:κ):Jh (Iv kvs k) (valueAt vs k):=by
 unfold KV at r
 induction r with
 |nil=>exact CQ
 |@cons p q ps a h t d=>
  obtain⟨h1,f⟩:=h;by_cases e:p.1=k
  ·have c:q.1=k:=h1.symm.trans e;have b:valueAt (q::a) k=some q.2:=by simp[valueAt,AU,c]
   rw[Wx e,b];exact f
  ·have c:¬q.1=k:=λz=>e<|h1.trans z;have b:valueAt (q::a) k=valueAt a k:=by simp[valueAt,AU,c]
   rw[Ww e,b];exact d
def KV.any{kvs:List (κ×V)}{vs:List (κ×IR)}(r:KV kvs vs)(k:κ):(kvs.any λq=>decide (q.1=k))=vs.any λq=>decide (q.1=k):=by
 unfold KV at r
 induction r with
 |nil=>rfl
 |cons h t a=>rw[B1,B1,a,h.1]
def KV.repl{kvs:List (κ×V)}{vs:List (κ×IR)}(r:KV kvs vs)(k:κ)(F:RelV y u):
  KV (kvs.map λB=>if B.1=k then(B.1,y)else B) (vs.map λB=>if B.1=k then(B.1,u)else B):=by
 unfold KV at r ⊢
 induction r with
 |nil=>exact .nil
 |@cons p q ps d h t b=>
  rw[Ao,Ao];refine .cons ?_ b;obtain⟨a,c⟩:=h;by_cases e:p.1=k
  ·rw[if_pos e,if_pos (a.symm.trans e)];exact⟨a,F⟩
  rw[if_neg e,if_neg (λz=>e (a.trans z))];exact⟨a,c⟩
def KV.put{kvs:List (κ×V)}{vs:List (κ×IR)}(r:KV kvs vs)(k:κ)(q:RelV y u):KV (putK kvs k y) (stored vs k u):=by
 unfold putK stored;rw[r.any k];by_cases e:(vs.any λa=>decide (a.1=k))=true
 ·rw[if_pos e,if_pos e];exact r.repl k q
 rw[if_neg e,if_neg e];exact G7 r ⟨rfl,q⟩
def KV.length{kvs:List (κ×V)}{vs:List (κ×IR)}(r:KV kvs vs):kvs.length=vs.length:=Be r
end
def Oe{k:Key}(r:RelV (kV k) u):(Ja P w).is k u=true:=by
 cases k with
 |inl i=>obtain⟨t,e⟩:=(show ∃t,u=DO i t from r);subst e;exact zi6 P w i t
 |inr x=>obtain⟨t,e⟩:=(show ∃t,u=Em x t from r);subst e;exact zi5 P w x t
theorem cQ{P:Re}{w:Wp}:∀{ks:List Key}{us:List IR},Vals (ks.map kV) us->ItemsAre (Ja P w) ks us
 |[],_,r=>by rw[BK]at r;cases r;exact .nil
 |k::ks,_,r=>by
  rw[Ao]at r;cases r with
  |cons h t=>exact .cons (Oe h)<|cQ t
noncomputable abbrev KT (H:Hp):List (List Key×V)->List (List Key×Addr×IR)->Prop:=Paired λp q=>p.1=q.1/\H q.2.1=some (.tup<|p.1.map kV)/\RelV p.2 q.2.2
variable {xs:List (List Key×Addr×IR)}{kvs:List (List Key×V)}
def KT.val(r:KT H kvs xs)(k:List Key):Jh (Iv kvs k) ((atKey xs k).map (·.2)):=by
 induction r with
 |nil=>exact CQ
 |@cons p q ps a h t d=>
  obtain⟨h1,_,f⟩:=h;by_cases e:p.1=k
  ·have c:q.1=k:=h1.symm.trans e;have b:atKey (q::a) k=some q.2:=by simp[atKey,AU,c]
   rw[Wx e,b];exact f
  ·have c:¬q.1=k:=λz=>e<|h1.trans z;have b:atKey (q::a) k=atKey a k:=by simp[atKey,AU,c]
   rw[Ww e,b];exact d
def KT.repl(r:KT H kvs xs)(k:List Key)(F:RelV y u):
  KT H (kvs.map λB=>if B.1=k then(B.1,y)else B) (xs.map<|putAt k u):=by
 induction r with
 |nil=>exact .nil
 |@cons p q ps f h t c=>
  rw[Ao,Ao];refine .cons ?_ c;obtain⟨a,b,d⟩:=h;unfold putAt;by_cases e:p.1=k
  ·rw[if_pos e,if_pos (a.symm.trans e)];exact⟨a,b,F⟩
  rw[if_neg e,if_neg (λz=>e (a.trans z))];exact⟨a,b,d⟩
def KT.put(r:KT H kvs xs)(k:List Key)(B:H b=some (.tup<|k.map kV))(z:RelV y u):
  KT H (putK kvs k y) (storedH xs k b u):=by
 have e:(kvs.any λa=>decide (a.1=k))=(atKey xs k).isSome:=by rw[bW,(r.val k).isSome_eq,By]
 unfold putK storedH;rw[e];by_cases q:(atKey xs k).isSome=true
 ·rw[if_pos q,if_pos q];exact r.repl k z
 rw[if_neg q,if_neg q];exact G7 r ⟨rfl,B,z⟩
def KT.keeps(r:KT H kvs xs)(B:∀b q,H b=some (.tup q)->H' b=some (.tup q)):KT H' kvs xs:=Paired.mapP r λ_ _ z=>⟨z.1,B _ _ z.2.1,z.2.2⟩
def Zi{u:HO}(ok:Jx P w H h)(e:Rd H a u):Jr P w H h a u:=e.ok ok
def Og{kvs:List (Key×V)}(ok:Jx P w H h)(e:Rd H a (.dK kvs)):kvs.length<=sizeLine/\(a==sysModules)=false/\∃vs,KV kvs vs/\h.DictOf (Ja P w) a vs:=show Jr P w H h a (.dK kvs) from Zi ok e
def jR{kvs:List (Key×V)}(ok:Jx P w H h)(e:H a=some (.dK kvs)):kvs.length<=sizeLine/\(a==sysModules)=false/\∃vs,KV kvs vs/\h.DictOf (Ja P w) a vs:=Og ok<|.inl e
def M5{ks:List Key}(ok:Jx P w H h)(e:H a=some (.tup<|ks.map kV)):(tupleKind<|Ja P w).is h ks a:=by
 obtain⟨_,b,r,o,c,d,_,n,f⟩:=(show Jr P w H h a (.tup<|ks.map kV) from ok a _ e)
 exact⟨o,b.toArray,n,c,d,f,by simpa using cQ r⟩
def Ob(ok:Jx P w H h)(e:Rd H a (.dT kvs)):kvs.length<=sizeLine/\(a==sysModules)=false /\
  ∃xs,KT H kvs xs/\h.DictOfH (tupleKind<|Ja P w) a xs:=by
 obtain⟨z,y,xs,r,o,es,c,d,f,g,i,j⟩:=(show Jr P w H h a (.dT kvs) from Zi ok e)
 refine⟨z,y,xs,r,o,es,c,d,f,g,i,λx hx=>?_,j⟩;have all:∀{l:List (List Key×V)} {m:List (List Key×Addr×IR)},KT H l m->∀x∈m,(tupleKind<|Ja P w).is h x.1 x.2.1:=by
  intro l m q
  induction q with
  |nil=>intro x hx;exact nomatch hx
  |@cons p q ps s b t n=>
   intro x hx;rcases KM.mp hx with e|hx
   ·subst e;exact M5 ok (by rw[<-b.1];exact b.2.1)
   exact n x hx
 exact all r x hx
def Vd(ok:Jx P w H h)(e:H a=some (.dT kvs)):kvs.length<=sizeLine/\(a==sysModules)=false /\
  ∃xs,KT H kvs xs/\h.DictOfH (tupleKind<|Ja P w) a xs:=Ob ok (.inl e)
def IV(H:Hp)(a:Addr)(y:V)(r:Option V):Prop:=(∃kvs k,Rd H a (.dK kvs)/\y=kV k/\r=Iv kvs k)\/∃kvs k b,Rd H a (.dT kvs)/\y=.ref b/\H b=some (.tup<|k.map kV)/\r=Iv kvs k
def KS(H:Hp)(a:Addr)(y v:V)(H':Hp):Prop:=
 (∃kvs k,H a=some (.dK kvs)/\y=kV k/\kvs.length<sizeLine/\H'=upd H a (.dK<|putK kvs k v)) \/
 ∃kvs k b,H a=some (.dT kvs)/\y=.ref b/\H b=some (.tup<|k.map kV)/\kvs.length<sizeLine/\H'=upd H a (.dT<|putK kvs k v)
def IV.k{H:Hp}{a:Addr}{kvs:List (Key×V)}{k:Key}(e:H a=some (.dK kvs)):IV H a (kV k) (Iv kvs k):=.inl ⟨kvs,k,.inl e,rfl,rfl⟩
def IV.t{k:List Key}(e:H a=some (.dT kvs))(q:H b=some (.tup<|k.map kV)):IV H a (.ref b) (Iv kvs k):=.inr ⟨kvs,k,b,.inl e,rfl,q,rfl⟩
def KS.k{H:Hp}{a:Addr}{kvs:List (Key×V)}{k:Key}{v:V}(e:H a=some (.dK kvs))(q:kvs.length<sizeLine):KS H a (kV k) v (upd H a<|.dK<|putK kvs k v):=.inl ⟨kvs,k,e,rfl,q,rfl⟩
def KS.t{k:List Key}(e:H a=some (.dT kvs))(q:H b=some (.tup<|k.map kV))(z:kvs.length<sizeLine):
  KS H a (.ref b) v (upd H a<|.dT<|putK kvs k v):=.inr ⟨kvs,k,b,e,rfl,q,z,rfl⟩
section
variable {r:IR}{o:Option V}
def Inv.big(I:Inv X qp σ H s):sysModules<s.heap.objs.size:=by have h:SZ<s.heap.objs.size:=(I.mod.glob.keeps I.bk).lt;exact B7 (!1) h
def zL(F:A.units+1<cLine)(I:Inv X qp σ H s)(g:IV H a y (some v))(B:RelV y u)(h:∀q s',Inv X qp σ H s'->RelV v q->Q q s'):
  wpAny (!4) A (getItem (.ref a) u) Q E s:=by
 rcases g with⟨kvs,k,e,d,l⟩|⟨kvs,k,b,e,d,j,l⟩
 ·subst d;obtain⟨z,hd,m,rel,f⟩:=Og I.hok e;obtain⟨q,hw,c⟩:=Jh.some_of (v:=v) (o:=valueAt m k) (by rw[l];exact rel.val k);exact wpAny_getItem_of (Oe B) f.mapOf hw<|h q _ (I.tok _) c
 ·subst d
  cases (show u=AE b from B)
  obtain⟨z,hd,xs,rel,f⟩:=Ob I.hok e;obtain⟨q,hw,c⟩:=Jh.some_of (v:=v) (o:=(atKey xs k).map (·.2)) (by rw[l];exact rel.val k);obtain⟨p,n,i⟩:=Option.map_eq_some_iff.mp hw;refine wpAny_getItem_heap (BE F) (M5 I.hok j) f n ?_;rw[i];exact h q _ (I.tok _) c
def YH(F:A.units+1<cLine)(I:Inv X qp σ H s)(g:IV H a y o)(B:RelV y u)(h:∀s',Inv X qp σ H s'->Q (.bool o.isSome) s'):
  wpAny (!4) A (SL .In u<|.ref a) Q E s:=by
 rcases g with⟨kvs,k,e,c,l⟩|⟨kvs,k,b,e,c,f,l⟩
 ·subst c;obtain⟨z,hd,i,rel,d⟩:=Og I.hok e;refine wpAny_in_of (Oe B) hd d.mapOf ?_;rw[<-(rel.val k).isSome_eq,<-l];exact h _<|I.tok _
 ·subst c
  cases (show u=AE b from B)
  obtain⟨z,hd,xs,rel,d⟩:=Ob I.hok e;refine wpAny_in_heap (BE F) (M5 I.hok f) hd d ?_;have q:=(rel.val k).isSome_eq;rw[By]at q;rw[<-q,<-l];exact h _<|I.tok _
def qY(F:A.units+1<cLine)(I:Inv X qp σ H s)(g:IV H a y o)(B:RelV y u)(h:∀s',Inv X qp σ H s'->Q (.bool<|!o.isSome) s'):
  wpAny (!4) A (SL .NotIn u<|.ref a) Q E s:=by
 rcases g with⟨kvs,k,e,c,l⟩|⟨kvs,k,b,e,c,f,l⟩
 ·subst c;obtain⟨z,hd,i,rel,d⟩:=Og I.hok e;refine wpAny_notIn_of (Oe B) hd d.mapOf ?_;rw[<-(rel.val k).isSome_eq,<-l];exact h _<|I.tok _
 ·subst c
  cases (show u=AE b from B)
  obtain⟨z,hd,xs,rel,d⟩:=Ob I.hok e;refine wpAny_notIn_heap (BE F) (M5 I.hok f) hd d ?_;have q:=(rel.val k).isSome_eq;rw[By]at q;rw[<-q,<-l];exact h _<|I.tok _
def TX{ob:HO}(I:Inv X qp σ H s)(B:Sz (H a))(F:BD a s.heap h')(he:∃q,h'.get? a=some q)(new:Jr X.prog X.w (upd H a ob) h' a ob):
  Inv X qp σ (upd H a ob) {s with heap:=h',toks:=t'}:=
 I.write (x:=a) (e:=a) B (.inl rfl) (λb q c z=>(F.2 b c).trans z) he new
def Vr{kvs:List (Key×V)}{vs:List (Key×IR)}(z:kvs.length<=sizeLine)(hd:(a==sysModules)=false)(rel:KV kvs vs)(q:h'.DictOf (Ja P w) a vs):
  Jr P w H' h' a (.dK kvs):=⟨z,hd,vs,rel,q⟩
def zM{Q:Unit->Shared->Prop}(G:A.units+1<cLine)(I:Inv X qp σ H s)(g:KS H a y v H')(B:RelV y u)(F:RelV v r)(h:∀s',Inv X qp σ H' s'->Q () s'):
  wpAny (!4) A (setItem (.ref a) u r) Q E s:=by
 rcases g with⟨kvs,k,e,i,l,j⟩|⟨kvs,k,b,e,i,x,l,j⟩
 ·subst i j;obtain⟨z,hd,K,rel,m⟩:=jR I.hok e;have n:K.length<=sizeLine:=by rw[<-rel.length];exact z
  have o:(putK kvs k v).length<=sizeLine:=by have:=Xo kvs k v;omega
  refine wpAny_setItem_pairs (hsz:=n) (Oe B) m λh' d p=>h _ ?_;have he:∃q,h'.get? a=some q:=let ⟨q,_,_,f,_⟩:=d;⟨q,f⟩;exact TX I (by rw[e];exact CQ) p he<|Vr o hd (rel.put k F) d
 ·subst i j
  cases (show u=AE b from B)
  obtain⟨z,hd,xs,rel,m⟩:=Vd I.hok e;have n:xs.length<=sizeLine:=by rw[<-Be rel];exact z
  have o:(putK kvs k v).length<=sizeLine:=by have:=Xo kvs k v;omega
  refine wpAny_setItem_heap (hsz:=n) (BE G) (M5 I.hok x) m λh' d p=>h _ ?_;obtain⟨q,es,L,f,M,N,P,_,T⟩:=d;refine TX I (by rw[e];exact CQ) p ⟨q,f⟩ ⟨o,hd,_,(rel.put k x F).keeps λc J C=>?_,q,es,L,f,M,N,P,T⟩;rw[HV (QO C e λz=>nomatch z)];exact C
end
def MX(i:Pv):Prop:=∀a b,subscripted i false a b=operate [a,b] (getItem a b)
def vM{slice:Pv}(q:typeLookup (.type T) "__getitem__"=pure (some<|.builtin id)) (z:MX slice)(h:wpAny (!5) A (UV value env) (λo s₁=>wpAny (!5) A (UV slice env) (λi s₂=>s₂.TypeIs o T/\wpAny (!5) A (getItem o i) Q E s₂) E s₁) E s):
  wpAny (!5) A (UV (.Subscript value slice pos) env) Q E s:=by
 refine Fg<|Bs h (λo s₁ h₁=>Bs h₁ (λi s₂ h₂=>?_) λ_ _ x=>x) λ_ _ x=>x;obtain⟨a,h₂⟩:=h₂;unfold subscriptTail;refine Aa ?_;rw[getitemInPython_of_ne a.not_modules];refine Aa<|wpAny_specialOf a q ?_;have fin:wpAny (!5) A (subscripted slice false o i) (λr s₃=>wpAny (!5) A (letTemporaryGo value o r >>= λ_=>pure r) Q E s₃) E s₂:=by rw[z o i];exact wpAny_operating<|Bs h₂ (λr s₃ h₃=>Aa (wpAny_letTemporaryGo<|Ac h₃)) λ_ _ x=>x
 first
  |exact Ac (Aa fin)
  |exact Aa (Ac<|Aa fin)
  |exact Aa fin
def zja{o:Option V}(I:Inv X qp σ H s)(g:IV H a y o):s.TypeIs (.ref a) "dict":=by
 rcases g with⟨kvs,k,e,_,_⟩|⟨kvs,k,b,e,_,_,_⟩
 ·obtain⟨_,_,d,_,c⟩:=Og I.hok e;exact c.typeIs
 obtain⟨_,_,xs,_,c⟩:=Ob I.hok e;exact c.typeIs
def lE(q ty:TE):TE:=λσ H Q=>q σ H λx H1=>ty σ H1 λy b=>∃a v,x=.ref a/\IV b a y (some v)/\Q v b
def XZ(ty q:TE):TE:=λσ H Q=>ty σ H λy H1=>q σ H1 λx b=>∃a o,x=.ref a/\IV b a y o/\Q (.bl o.isSome) b
def vC(ty q:TE):TE:=λσ H Q=>ty σ H λy H1=>q σ H1 λx b=>∃a o,x=.ref a/\IV b a y o/\Q (.bl<|!o.isSome) b
def jF(q ty tv:TE):TS:=λD σ H=>tv σ H λv H1=>q σ H1 λx c=>ty σ c λy d=>∃a b,x=.ref a/\KS d a y v b/\D.nx σ b
variable {td ty:TE}
section
variable {o i:Pv}
def aA(q:X.A.units+1<cLine)(z:PE X o td)(hi:PE X i ty)(B:MX i):PE X (.Subscript o i pos) (lE td ty):=by intro qp s σ H Q I h;refine vM PySem.F.slot_dict_getitem.lookup B<|HB (z qp s σ H _ I h) λu s1 ⟨x,H1,d,e,f⟩=>HB (hi qp s1 σ H1 _ d f) ?_;rintro p s2 ⟨y,j,c,l,a,v,ex,g,m⟩;subst ex;obtain rfl:u=AE a:=e;exact⟨zja c g,zL q c g l λr s3 n b=>⟨v,j,n,b,m⟩⟩
def lR(q:X.A.units+1<cLine)(hi:PE X i ty)(z:PE X o td):PC X .In i o (XZ ty td):=by intro qp s σ H Q I h;refine HB (hi qp s σ H _ I h) λp s1 ⟨y,H1,b,c,d⟩=>HB (z qp s1 σ H1 _ b d) ?_;rintro u s2 ⟨x,e,f,j,a,l,ex,g,m⟩;subst ex;obtain rfl:u=AE a:=j;exact YH q f g c λs3 n=>⟨.bl l.isSome,e,n,rfl,m⟩
def zl5(q:X.A.units+1<cLine)(hi:PE X i ty)(z:PE X o td):PC X .NotIn i o (vC ty td):=by intro qp s σ H Q I h;refine HB (hi qp s σ H _ I h) λp s1 ⟨y,H1,b,c,d⟩=>HB (z qp s1 σ H1 _ b d) ?_;rintro u s2 ⟨x,e,f,j,a,l,ex,g,m⟩;subst ex;obtain rfl:u=AE a:=j;exact qY q f g c λs3 n=>⟨.bl<|!l.isSome,e,n,rfl,m⟩
def tN(q:X.A.units+1<cLine)(z:PE X o td)(hi:PE X i ty)(B:PE X value tv)(F:swapsWith value (some<|.Subscript o i pos') pos.line X.env=pure false):
  PS X (.Assign [.Subscript o i pos'] value pos) (jF td ty tv):=by
 exists 13;refine wpAny_Assign_Subscript (HB (B qp s σ H _ I h) λr s1 ⟨v,H1,b,c,d⟩=>HB (z qp s1 σ H1 _ b d) λu s2 ⟨x,e,f,j,l⟩=>HB (hi qp s2 σ e _ f l) ?_) F;rintro E s3 ⟨y,K,m,n,a,p,ex,g,w⟩;subst ex;obtain rfl:u=AE a:=j;exact zM q m g n c λs4 C=>⟨σ,p,C,w⟩
end
def uP(h:PP)(q:sysModules<h.objs.size):Jr P w H (h.push Qqd) h.objs.size (.dT []):=⟨A5 _,beq_eq_false_iff_ne.mpr<|BJ<|Au q,[],.nil,_,#[],0,Ap _ rfl,⟨rfl,rfl,rfl⟩,rfl,rfl,GI⟩
def pP:TE:=λ_ H Q=>∀p,H p=none->Q (.ref p) (upd H p<|.dT [])
def vO:PE X (.Dict [] [] pos) pP:=λqp s σ H Q I h=>
 wpAny_Dict_empty ⟨.ref s.heap.objs.size,_,I.laid (a:=s.heap.objs.size) (o:=.dT []) (t':=s.toks) (λ_ _ q=>Ad _ q) (Ag _)<|uP s.heap I.big,rfl,h _<|I.hok.fresh<|Ag _⟩
def M6(kvs more:List (Key×V)):List (Key×V):=more.foldl (λacc a=>putK acc a.1 a.2) kvs
def KV.merge:∀{more:List (Key×V)} {rs:List (Key×IR)} {kvs:List (Key×V)} {vs:List (Key×IR)},KV more rs->KV kvs vs->KV (M6 kvs more) (merged vs rs):=by
 intro more rs kvs vs r;unfold KV at r
 induction r generalizing kvs vs with
 |nil=>intro q;exact q
 |@cons p q ps c h t a=>
  intro b;have e:KV (putK kvs p.1 p.2) (stored vs q.1 q.2):=by have:=b.put p.1 h.2;rw[<-h.1];exact this
  exact a e
theorem XB:∀(more kvs:List (Key×V)),(M6 kvs more).length<=kvs.length+more.length
 |[],kvs=>by show kvs.length<=kvs.length+0;omega
 |p::r,kvs=>by have q:=XB r<|putK kvs p.1 p.2;have a:=Xo kvs p.1 p.2;show(M6 (putK kvs p.1 p.2) r).length<=_;rw[Aw];omega
structure M1(X:Cx)(o:Pv)(m:Str)(apos:Pos)(e:Pv)(cpos:Pos):Prop where
 base:attributeBase o m X.env (UV o X.env)=UV o X.env
 few:((backTo cpos (UF [e] X.env)).all (λx=>!x.1)&&(backToKw cpos (keywordEach [] X.env)).all (λx=>x.1.isSome)
  &&decide (([e]:List Pv).length+([]:List Keyword).length+(if([]:List Keyword).isEmpty then 0 else 1)<30))=true
 line:(apos.endLine==cpos.line)=true
 trees:backTo cpos (UF [e] X.env)=[(false,UV e X.env)]
structure M2(X:Cx)(o:Pv)(m:Str)(apos:Pos)(e f:Pv)(cpos:Pos):Prop where
 base:attributeBase o m X.env (UV o X.env)=UV o X.env
 few:((backTo cpos (UF [e,f] X.env)).all (λx=>!x.1)&&(backToKw cpos (keywordEach [] X.env)).all (λx=>x.1.isSome)
  &&decide (([e,f]:List Pv).length+([]:List Keyword).length+(if([]:List Keyword).isEmpty then 0 else 1)<30))=true
 line:(apos.endLine==cpos.line)=true
 trees:backTo cpos (UF [e,f] X.env)=[(false,UV e X.env),(false,UV f X.env)]
def QJ(H:Hp)(a:Addr):Prop:=(∃kvs,Rd H a (.dK kvs))\/∃kvs,Rd H a (.dT kvs)
def M4(I:Inv X qp σ H s)(d:QJ H a):
  s.TypeIs (.ref a) "dict"/\(∀b,AE a=.ref b->∃ob,s.heap.get? b=some ob/\ob.dict=none)/\(a==sysModules)=false:=by
 rcases d with⟨kvs,e⟩|⟨kvs,e⟩
 ·obtain⟨_,hd,h,_,c⟩:=Og I.hok e;refine⟨c.typeIs,λb q=>?_,hd⟩;cases q;obtain⟨ob,_,_,f,g,_⟩:=c;exact⟨ob,f,g.2.1⟩
 obtain⟨_,hd,xs,_,c⟩:=Ob I.hok e;refine⟨c.typeIs,λb q=>?_,hd⟩;cases q;obtain⟨ob,_,_,f,g,_⟩:=c;exact⟨ob,f,g.2.1⟩
section
variable {r:IR}{o:Option V}
def kP(F:A.units+1<cLine)(I:Inv X qp σ H s)(g:IV H a y o)(q:RelV y u)(h:∀B s',Inv X qp σ H s'->RelV (o.getD .non) B->Q B s'):
  wpAny (!4) A (call (.builtin "dict.get") [.ref a,u]) Q E s:=by
 rcases g with⟨kvs,k,e,d,l⟩|⟨kvs,k,b,e,d,f,l⟩
 ·subst d;obtain⟨z,hd,i,rel,c⟩:=Og I.hok e;refine CL BP c.typeIs CD (Ef _ _) (meets_dict_get (Ja X.prog X.w) a (Oe q) hd) ⟨_,c.mapOf,h _ _ (I.tok _) ?_⟩;rw[l];exact(rel.val k).getD rfl
 ·subst d
  cases (show u=AE b from q)
  obtain⟨z,hd,xs,rel,c⟩:=Ob I.hok e;refine CL BP c.typeIs CD (Ef _ _) (meetsH_dict_get (tupleKind<|Ja X.prog X.w) a b hd) ⟨BE F,k,xs,M5 I.hok f,c,h _ _ (I.tok _) ?_⟩;rw[l];exact(rel.val k).getD rfl
def kQ(G:A.units+1<cLine)(I:Inv X qp σ H s)(g:IV H a y o)(q:RelV y u)(B:RelV d r)(h:∀F s',Inv X qp σ H s'->RelV (o.getD d) F->Q F s'):
  wpAny (!4) A (call (.builtin "dict.get") [.ref a,u,r]) Q E s:=by
 rcases g with⟨kvs,k,e,f,l⟩|⟨kvs,k,b,e,f,i,l⟩
 ·subst f;obtain⟨z,hd,j,rel,c⟩:=Og I.hok e;refine CL BP c.typeIs CD (Eg _ _ _) (meets_dict_get_default (Ja X.prog X.w) a (Oe q) hd r) ⟨_,c.mapOf,h _ _ (I.tok _) ?_⟩;rw[l];exact(rel.val k).getD B
 ·subst f
  cases (show u=AE b from q)
  obtain⟨z,hd,xs,rel,c⟩:=Ob I.hok e;refine CL BP c.typeIs CD (Eg _ _ _) (meetsH_dict_get_default (tupleKind<|Ja X.prog X.w) a b hd r) ⟨BE G,k,xs,M5 I.hok i,c,h _ _ (I.tok _) ?_⟩;rw[l];exact(rel.val k).getD B
end
def pN(td ty:TE):TE:=λσ H Q=>td σ H λx H1=>∃a,x=.ref a/\QJ H1 a/\ty σ H1 λy b=>∃o,IV b a y o/\Q (o.getD .non) b
def pO(td ty q:TE):TE:=λσ H Q=>td σ H λx H1=>∃a,x=.ref a/\QJ H1 a/\ty σ H1 λy c=>q σ c λz b=>∃o,IV b a y o/\Q (o.getD z) b
section
variable {o f:Pv}{cpos:Pos}{tx:TE}
def xA(q:X.A.units+1<cLine)(z:PE X o td)(he:PE X e ty)(m:M1 X o "get" apos e cpos):PE X (.Call (.Attribute o "get" apos) [e] [] cpos) (pN td ty):=by intro qp s σ H Q I h;refine Dk m.base m.few m.line Cs BP ET<|HB (z qp s σ H _ I h) ?_;rintro u s1 ⟨x,H1,c,f,a,ex,d,i⟩;subst ex;obtain rfl:u=AE a:=f;obtain⟨t1,j,_⟩:=M4 c d;refine⟨t1,j,?_⟩;rw[m.trees];refine BL rfl<|Ck<|BN<|HB (he qp s1 σ H1 _ c i) λw s2 ⟨y,l,n,p,C,g,r⟩=>CH ?_;exact kP q n g p λE s3 v b=>⟨_,l,v,b,r⟩
def vN(q:X.A.units+1<cLine)(B:PE X o td)(he:PE X e ty)(hf:PE X f tx)(m:M2 X o "get" apos e f cpos):PE X (.Call (.Attribute o "get" apos) [e,f] [] cpos) (pO td ty tx):=by
 exists 4;refine Dk m.base m.few m.line Cs BP ET (HB (B qp s σ H _ I h) ?_);rintro u s1 ⟨x,H1,c,i,a,ex,d,j⟩;subst ex;obtain rfl:u=AE a:=i;obtain⟨t1,l,_⟩:=M4 c d;refine⟨t1,l,?_⟩;rw[m.trees];refine BL rfl (Ck (BN (HB (he qp s1 σ H1 _ c j) λM s2 ⟨y,n,p,r,v⟩=>
  BN (HB (hf qp s2 σ n _ p v) λN s3 ⟨z,w,C,E,P,g,K⟩=>CH ?_))))
 exact kQ q C g r E λT s4 L b=>⟨_,w,L,b,K⟩
end
end L2
namespace HT
open PySem PyProof.Rows
def lexLt:List Int->List Int->Bool
 |[],[]=>false
 |[],_::_=>true
 |_::_,[]=>false
 |x::xs,y::a=>if x=y then lexLt xs a else decide (x<y)
theorem HZ(x y:Int)(xs a:List Int):lexLt (x::xs) (y::a)=if x=y then lexLt xs a else decide (x<y):=rfl
theorem IU:lexLt [] []=false:=rfl
theorem HP(y:Int)(a:List Int):lexLt [] (y::a)=true:=rfl
theorem HY(x:Int)(xs:List Int):lexLt (x::xs) []=false:=rfl
def uS(A:Around)(s:Shared)(a:Int)(t:Tok)(c:Int)(u:Tok):∃e,SeqAt.EqAt A s (.int a t) (.int c u) e/\(e=true ↔ a=c):=⟨(a==c),FC a t c u,by simp⟩
def wD(A:Around)(s:Shared)(a:Int)(t:Tok)(c:Int)(u:Tok)(prog:Re)(w:Wp)(E:Qqa)(Q:Qqa)(h:Q (.bool<|decide (a<c)) s):
  wpAny (!5) A (richCompare .Lt (.int a t)<|.int c u) Q E s:=
 (Gm h:wpAny (!5) A (SL .Lt (.int a t)<|.int c u) Q E s)
section
open PySem.SeqAt
open PySem.MeetsSeq PySem.MeetsSeq2 PySem.MeetsSeq3
def zgz(l b:Addr)(items items2:Array IR)(n L:Nat)(M F:Option Addr)(N G:Array (Option IR))(ns ms:List Int)(hi:IntsAre items.toList ns)(J:IntsAre items2.toList ms):
  Meets (Builtin.«tuple.__lt__» ⟨[.ref l,.ref b],[]⟩)
   (λ_ R s=>s.heap.get? l=some {cls:=.type "tuple",dict:=M,data:=.seq items n,slots:=N}/\s.heap.get? b=some {cls:=.type "tuple",dict:=F,data:=.seq items2 L,slots:=G} /\
    R (.ok<|.ret<|.bool<|lexLt ns ms) s):=
 .of_wp λprog w A R s h=>by
  obtain⟨C,g,d,tk,os⟩:=s;obtain⟨P,Q,h⟩:=h;have f2:=AutoSeq1.sub_tuple_tuple;have S:items.size=ns.length:=by rw[<-hi.length];simp
  have T:items2.size=ms.length:=by rw[<-J.length];simp
  wp_walk using Cv P,Cv Q,wpAny_forIn_list _ (λrest b H=>b.1=none/\H=⟨C,g,d,tk,os⟩/\∃(E ws:List IR) (f i:List Int),rest=E.zip ws /\
   IntsAre E f/\IntsAre ws i/\f.length+items2.size=i.length+items.size/\R (.ok<|.ret<|.bool<|lexLt f i) ⟨C,g,d,tk,os⟩) _
  case turn=>
   rintro⟨y,x⟩ rest b H ⟨r,rfl,E,ws,f,i,j,v,m,hlen,o⟩;cases v with
   |nil=>rw[FU]at j;cases j
   |cons a t z=>
    cases m with
    |nil=>rw[List.zip_nil_right]at j;cases j
    |cons c u B=>
     rw[DR]at j;injection j with hyx hrest
     injection hyx with hy hx
     subst hy hx;rw[HZ]at o;simp only[Aw]at hlen;obtain⟨e,he,p⟩:=uS A.in1 ⟨C,g,d,tk,os⟩ a t c u;refine Aa<|he prog w _ _ ?_
     cases e with
     |true=>
      rw[if_pos (p.mp rfl)]at o
      wp_walk
      exact⟨rfl,rfl,_,_,_,_,hrest,z,B,by omega,o⟩
     |false=>
      rw[if_neg (λq=>absurd (p.mpr q) AY)]at o;have I:=wD A.in1 ⟨C,g,d,tk,os⟩ a t c u prog w
      wp_walk using I
      exact⟨_,rfl,by simpa using o⟩
  case fin=>
   rintro⟨b1,U⟩ H ⟨r,rfl,E,ws,f,i,j,v,m,hlen,o⟩;simp only at r;subst r;have K:lexLt f i=decide (items.size<items2.size):=by
    cases v with
    |nil=>
     cases m with
     |nil=>
      simp only[Bg]at hlen;rw[IU];exact(decide_eq_false<|by omega).symm
     |cons c u hw=>
      simp only[Bg,Aw]at hlen;rw[HP];exact(decide_eq_true<|by omega).symm
    |cons a t K=>
     cases m with
     |nil=>
      simp only[Bg,Aw]at hlen;rw[HY];exact(decide_eq_false<|by omega).symm
     |cons c u hw=>
      rw[DR]at j;cases j
   rw[K]at o
   wp_walk
   exact⟨_,rfl,by simpa[Builtin.Tuple.tupleCompareSizes]using o⟩
  case h=>
   exact⟨rfl,rfl,items.toList,items2.toList,ns,ms,rfl,hi,J,by omega,h⟩
end
variable {b t sl:Addr}{items:Array IR}{Q:Qqa}{vl vu:IR}{lo hi:Option Int}
section
variable {prog:Re}{w:Wp}{A:Around}{E:Qqa}{s:Shared}
def Lr{l:Addr}{items2:Array IR}{ns ms:List Int}(j:IsTup s.heap l items)(m:IsTup s.heap b items2)(hi:IntsAre items.toList ns)(o:IntsAre items2.toList ms)(p:A.units<cLine) (h:Q (.bool<|lexLt ns ms) s):wpAny (!5) A (SL .Lt (.ref l)<|.ref b) Q E s:=by
 obtain⟨⟨cls,q,data,sl⟩,f,g,n,hd⟩:=id j;obtain⟨⟨i,d,data2,e⟩,a,c,r,hd2⟩:=id m;simp only at g hd c hd2;subst g hd c hd2;exact richCompare_meets_room (op:=.Lt) ⟨_,f,rfl⟩ ⟨_,a,rfl⟩ PySem.F.slot_tuple_lt PySem.F.entry_tuple_lt (PySem.F.args_tuple_lt_2 _ _) (zgz l b items items2 n r q d sl e ns ms hi o)
  ⟨f,a,show Ff (lexLt ns ms)≠Value.notImplemented/\Q (.bool<|lexLt ns ms) s from⟨(λx=>nomatch x),h⟩⟩ p
def N3{vs ws:List IR}(o:IsTup s.heap t vs.toArray)(p:IsTup s.heap b ws.toArray)(h:vs≠[])(q:ws=[]->Q (.ref t) s) (r:ws≠[]->Q (.ref s.heap.objs.size) {s with heap:=s.heap.push {cls:=.type "tuple",data:=.seq (vs++ws).toArray} })(hsz:vs.length+ws.length<=sizeLine):wpAny (!5) A (binaryOp .Add (.ref t)<|.ref b) Q E s:=by
 obtain⟨⟨cls,i,data,sl⟩,g,j,n,hd⟩:=id o;obtain⟨⟨l,c,data2,d⟩,a,f,m,hd2⟩:=id p;simp only at j hd f hd2;subst j hd f hd2;have e:vs.toArray++ws.toArray=(vs++ws).toArray:=by simp
 by_cases hw:ws=[]
 ·exact concat_meets ⟨_,g,rfl⟩ ⟨_,a,rfl⟩ noFill_tuple_add seq_tuple_add EJ Eh (D8 _ _)
   (tuple_addW1 t b vs.toArray ws.toArray n m i c sl d (by simpa using h)<|by simp[hw]) ⟨g,a,q hw⟩
 ·refine concat_meets ⟨_,g,rfl⟩ ⟨_,a,rfl⟩ noFill_tuple_add seq_tuple_add EJ Eh (D8 _ _)
   (tuple_addW2 t b vs.toArray ws.toArray n m i c sl d (by simpa using h) (by simpa using hw) (by rw[Ay,Ay];exact hsz)) ⟨g,a,?_⟩
  rw[e];exact r hw
def Ij(n d:Nat):Option Int->Nat
 |none=>d
 |some v=>if v<0 then(v+(n:Int)).toNat else min v.toNat n
def qA(n d:Nat)(hd:d<=n)(o:Option Int):Ij n d o<=n:=by
 cases o with
 |none=>exact hd
 |some v=>
  show(if v<0 then(v+(n:Int)).toNat else min v.toNat n)<=n;by_cases hv:v<0
  ·rw[if_pos hv];omega
  rw[if_neg hv];exact D9 _ _
def aJ(v:Int)(n d:Nat):(if v<0 then max (v+(n:Int)) 0 else min v (n:Int))=((Ij n d (some v):Nat):Int):=by
 show(if v<0 then max (v+(n:Int)) 0 else min v (n:Int))=(((if v<0 then(v+(n:Int)).toNat else min v.toNat n):Nat):Int);by_cases hv:v<0
 ·simp only[if_pos hv];omega
 simp only[if_neg hv];omega
def zX(lo hi:Option Int)(n:Nat):Builtin.Slice.sliceAdjust lo hi 1 (n:Int)=(((Ij n 0 lo:Nat):Int),((Ij n n hi:Nat):Int)):=by
 have b:¬((1:Int)<0):=by omega
 unfold Builtin.Slice.sliceAdjust;simp only[b,if_false];refine Prod.ext ?_ ?_
 ·cases lo with
  |none=>rfl
  |some v=>exact aJ v n 0
 ·cases hi with
  |none=>rfl
  |some v=>exact aJ v n n
def zj8(i j:Nat):Builtin.Slice.slicePlaces (i:Int) (j:Int) 1=j-i:=by
 unfold Builtin.Slice.slicePlaces;have b:(1:Int) > 0:=by omega
 simp only[b,if_true,Int.ediv_one];split<;>omega
def IH{v:IR}{o:Option Int}{Q:Option Int->Shared->Prop}(p:IsPart v o)(h:Q o s):wpAny (!5) A (Builtin.Slice.slicePartIndex v) Q E s:=by
 cases p with
 |none=>exact slicePart_none h
 |int i t=>exact slicePart_int h
def zeD{n:Nat}{Q:Int×Int×Nat->Shared->Prop}(c:s.heap.IsSliceOf sl vl vu .none)(pl:IsPart vl lo)(pu:IsPart vu hi)(h:Q (((Ij n 0 lo:Nat):Int),1,Ij n n hi-Ij n 0 lo) s):wpAny (!5) A (Builtin.Slice.sliceApplied (.ref sl)<|pure (n:Int)) Q E s:=by
 obtain⟨os,b,d,a⟩:=id c;unfold Builtin.Slice.sliceApplied Builtin.Slice.sliceFields;refine Aa<|Aa<|A9 b a (x:=vl) rfl<|Aa<|A9 b a (x:=vu) rfl<|Aa<|A9 b a (x:=.none) rfl<|Ac ?_;refine Aa<|slicePart_none ?_;show wpAny _ _ (if((1:Int)==0)=true then _ else _) _ _ s;rw[if_neg (!1)];refine Aa<|IH pl<|Aa<|IH pu<|Aa<|Ac ?_;show wpAny _ _ (match Builtin.Slice.sliceAdjust lo hi 1 (n:Int) with|(lo,hi)=>pure (lo,(1:Int),Builtin.Slice.slicePlaces lo hi 1)) _ _ s;rw[zX lo hi n];show wpAny _ _ (pure (((Ij n 0 lo:Nat):Int),(1:Int),Builtin.Slice.slicePlaces ((Ij n 0 lo:Nat):Int) ((Ij n n hi:Nat):Int) 1)) _ _ s;rw[zj8];exact Ac h
def vT(xs:Array IR)(i k:Nat):((As k).filterMap λ(m:Nat)=>xs[((i:Int)+(m:Int)*1).toNat]?).toArray=((xs.toList.drop i).take k).toArray:=by
 have e:(λ(m:Nat)=>xs[((i:Int)+(m:Int)*1).toNat]?)=λm=>xs[i+m]?:=by
  funext m
  have:((i:Int)+(m:Int)*1).toNat=i+m:=by omega
  rw[this]
 rw[e];have:=pick_run xs i k;rw[FD]at this;have b:((λx=>xs[x]?) ∘ λx=>i+x)=λm=>xs[i+m]?:=rfl;rw[b]at this;rw[this]
def JH(a:IsTup s.heap t items)(g:s.heap.IsSliceOf sl vl vu .none)(pl:IsPart vl lo)(pu:IsPart vu hi)(hw:¬(Ij items.size 0 lo=0/\Ij items.size items.size hi=items.size))(h:Q (.ref s.heap.objs.size) {s with heap:=s.heap.push {cls:=.type "tuple",data:=.seq ((items.toList.drop<|Ij items.size 0 lo).take<|Ij items.size items.size hi-Ij items.size 0 lo).toArray} })(hsz:items.size<=sizeLine):wpAny (!5) A (getItem (.ref t)<|.ref sl) Q E s:=by
 have b:sizeOk (.seq ((items.toList.drop<|Ij items.size 0 lo).take<|Ij items.size items.size hi-Ij items.size 0 lo).toArray):=by show((items.toList.drop<|Ij items.size 0 lo).take<|Ij items.size items.size hi-Ij items.size 0 lo).toArray.size<=sizeLine;rw[Ay,A3,Gf,AO];omega
 have j:Ij items.size items.size hi<=items.size:=qA _ _ (Ag _) hi;obtain⟨os,c,d,i⟩:=id g;have e:s.TypeIs (.ref sl) "slice":=⟨os,c,d⟩;unfold getItem
 try with_reducible refine AM ?_
 first|refine Aa (Ac ?_)|skip
 refine Aa (FV a.typeIs (!1) ?_);refine Aa (A7 (name:=BF "__getitem__") a.typeIs BU
  (Bc BU a.typeIs Fp ?_<|FE _ _))
 show wpAny _ _ (Builtin.Tuple.tupleItemsOf (.ref t) >>= _) _ _ s;refine Aa<|tupleItemsOf_ a ?_;refine Aa<|Dw e ?_;rw[if_pos (!1)];refine Aa<|zeD g pl pu ?_;have f:¬((((Ij items.size 0 lo:Nat):Int)==0&&(1:Int)==1&&(Ij items.size items.size hi-Ij items.size 0 lo)==items.size)=true):=by intro q;rw[Aq,Aq]at q;have l:((Ij items.size 0 lo:Nat):Int)=0:=eq_of_beq q.1.1;have n:Ij items.size items.size hi-Ij items.size 0 lo=items.size:=eq_of_beq q.2;exact hw ⟨by omega,by omega⟩
 show wpAny _ _ (if(((Ij items.size 0 lo:Nat):Int)==0&&(1:Int)==1&&(Ij items.size items.size hi-Ij items.size 0 lo)==items.size)=true then _ else _) _ _ s;rw[if_neg f,vT]
 first
  |exact Aa (m:=Builtin.Tuple.tupleExact _) (AN (Ac ⟨_,rfl,Ac h⟩) b)
  |exact Aa (m:=Builtin.Tuple.tupleExact _) (AN (Aa<|Ac<|Ac ⟨_,rfl,Ac h⟩) b)
  |exact Aa (Aa (m:=Builtin.Tuple.tupleExact _)<|AN (Ac<|Ac ⟨_,rfl,Ac h⟩) b)
  |exact Aa (Aa (m:=Builtin.Tuple.tupleExact _)<|AN (Ac ⟨_,rfl,Ac h⟩) b)
end
end HT
namespace L2
open PySem PySem.Spec PyProof.Rows
noncomputable abbrev TO:=St->Hp->(Option Int->Hp->Prop)->Prop
def PO(X:Cx)(e:Option Pv)(t:TO):Prop:=
 ∀(a:List (Addr×Obj)) (s:Shared) (σ:St) (H:Hp) (Q:Option Int->Hp->Prop),Inv X a σ H s->t σ H Q ->
  wpAny (!4) X.A (evalPart e X.env) (λu c=>∃o b,Inv X a σ b c/\IsPart u o/\Q o b) X.xe s
def vE:TO:=λ_ H Q=>Q none H
def lK(t:TE):TO:=λσ H Q=>t σ H λx H1=>∃i,x=.int i/\Q (some i) H1
def intsAre_of{ns:List Int}:∀{us:List IR},Vals (ns.map V.int) us->IntsAre us ns:=by
 induction ns with
 |nil=>intro us r;rw[BK]at r;cases r;exact .nil
 |cons n ns ih=>
  intro us r;rw[Ao]at r;cases r with
  |cons a b=>
   obtain⟨t,e⟩:=a;subst e;exact .cons n t<|ih b
variable {X:Cx}{e:Pv}{pos:Pos}{xs:List V}{us:List IR}
section
variable {te:TE}{lo hi:Option Pv}{tl th:TO}{p2:Pos}
def tL:PO X none vE:=by intro e s σ H Q I h;rw[Fo];exact Ac ⟨none,H,I,.none,h⟩
def aB(h:PE X e te):PO X (some e) (lK te):=by intro a s σ H Q I hw;rw[evalPart_some];refine HB (h a s σ H _ I hw) ?_;rintro u s1 ⟨x,H1,b,c,d⟩;obtain⟨i,rfl,q⟩:=d;obtain⟨t,rfl⟩:=c;exact⟨some i,H1,b,.int i t,q⟩
def Sx(X:Cx)(r:V->Option Int->Option Int->Hp->VK->Prop):Prop:=
 ∀(e:List (Addr×Obj)) (s:Shared) (σ:St) (H:Hp) (x:V) (v a b:IR) (lo hi:Option Int) (c:Addr) (Q:VK),Inv X e σ H s->RelV x v->s.heap.IsSliceOf c a b .none->IsPart a lo->IsPart b hi->r x lo hi H Q ->
  ∃T id,typeLookup (.type T) "__getitem__"=pure (some<|.builtin id)/\s.TypeIs v T/\wpAny (!4) X.A (getItem v<|.ref c) (EP X e σ Q) X.xe s
def tSl(r:V->Option Int->Option Int->Hp->VK->Prop)(te:TE)(tl th:TO):TE:=λσ H Q=>te σ H λx H1=>tl σ H1 λl e=>th σ e λu X=>r x l u X Q
def Wj{r:V->Option Int->Option Int->Hp->VK->Prop}(g:Sx X r)(he:PE X e te)(i:PO X lo tl)(j:PO X hi th):PE X (.Subscript e (.Slice lo hi none p2) pos) (tSl r te tl th):=by intro a s σ H Q I h;refine Fg<|HB (he a s σ H _ I h) ?_;rintro v s1 ⟨x,H1,m,n,o⟩;refine wpAny_Slice<|HB (i a s1 σ H1 _ m o) λc s2 ⟨l,p,y,pl,z⟩=>HB (j a s2 σ p _ y z) ?_;rintro d s3 ⟨u,f,I3,pu,B⟩;rw[Fo];refine Ac ?_;have C:Inv X a σ f {s3 with heap:=s3.heap.push {cls:=.type "slice",data:=.fields #[c,d,.none]} }:=I3.kept (t':=s3.toks) λb ob q=>Ad _ q;obtain⟨T,id,E,F,G⟩:=g a {s3 with heap:=s3.heap.push {cls:=.type "slice",data:=.fields #[c,d,.none]} } σ f x v c d l u s3.heap.objs.size Q C n (FG ..) pl pu B;show wpAny (!4) X.A (subscriptTail e (.Slice lo hi none p2) v<|.ref s3.heap.objs.size) (EP X a σ Q) X.xe {s3 with heap:=s3.heap.push {cls:=.type "slice",data:=.fields #[c,d,.none]} };exact tail_any (ops:=[.ref s3.heap.objs.size,v]) F E G<|by with_unfolding_all rfl
def Lb(xs:List V)(lo hi:Option Int):List V:=(xs.drop<|HT.Ij xs.length 0 lo).take<|HT.Ij xs.length xs.length hi-HT.Ij xs.length 0 lo
def fM(xs:List V)(lo hi:Option Int):(Lb xs lo hi).length<=xs.length:=by unfold Lb;rw[A3,Gf];omega
def RZ(K:Ab):V->Option Int->Option Int->Hp->VK->Prop:=λx lo hi H Q=>∃a xs,x=.ref a/\IM K H a xs /\
 ¬(HT.Ij xs.length 0 lo=0/\HT.Ij xs.length xs.length hi=xs.length)/\∀p,H p=none->Q (.ref p) (upd H p<|.tup<|Lb xs lo hi)
def pH:Sx X (RZ X.K):=by
 intro j s σ H x v l m lo hi n Q I f g pl pu h;obtain⟨a,xs,rfl,i,hw,q⟩:=h;cases f;obtain⟨e,r,c,d⟩:=I.tuple i;have hlen:e.toArray.size=xs.length:=by rw[Ay];exact r.length.symm
 refine⟨"tuple",_,PyProof.Rows.slot_tuple_getitem.lookup,c.typeIs,?_⟩;refine HT.JH c g pl pu (by rw[hlen];exact hw) ?_ (by rw[hlen];exact d);rw[hlen];refine⟨.ref s.heap.objs.size,_,I.laid (t':=s.toks) (o:=.tup (Lb xs lo hi)) (λb ob q=>Ad _ q) (Ag _) ?_,rfl,q _<|I.hok.fresh<|Ag _⟩;exact⟨AA (fM xs lo hi) d,_,(r.drop<|HT.Ij xs.length 0 lo).take<|HT.Ij xs.length xs.length hi-HT.Ij xs.length 0 lo,Li.new _ _⟩
def jC(K:Ab):R2:=λx y H Q=>∃a b xs e,x=.ref a/\y=.ref b/\IM K H a xs/\IM K H b e/\xs≠[]/\xs.length+e.length<=sizeLine /\
 (e=[]->Q (.ref a) H)/\(e≠[]->∀p,H p=none->Q (.ref p) (upd H p<|.tup<|xs++e))
def Vals.nil_iff(r:Vals xs us):us=[] ↔ xs=[]:=by
 cases r with
 |nil=>simp
 |cons _ _=>simp
def uD:JU X (binaryOp .Add) (jC X.K):=by intro B s σ H x y v u Q I f g h;obtain⟨a,b,xs,i,rfl,rfl,j,l,m,c,n,p⟩:=h;cases f;cases g;obtain⟨r,e,A,_⟩:=I.tuple j;obtain⟨d,r2,p2,_⟩:=I.tuple l;refine HT.N3 A p2 (λz=>m (e.nil_iff.mp z)) (λz=>⟨.ref a,H,I,rfl,n<|r2.nil_iff.mp z⟩) (λz=>?_) (by rw[<-e.length,<-r2.length];exact c);refine⟨.ref s.heap.objs.size,_,I.laid (t':=s.toks) (o:=.tup (xs++i)) (λb ob q=>Ad _ q) (Ag _) ?_,rfl,p (λw=>z (r2.nil_iff.mpr w)) _<|I.hok.fresh<|Ag _⟩;exact⟨by rw[AB];exact c,_,e.append r2,Li.new _ _⟩
end
def Mq(n:Nat)(i:Int):Option Nat:=if 0<=i then(if i<n then some i.toNat else none)else if -(n:Int)<=i then some (i+n).toNat else none
variable {α:Type}
def Lf(xs:List α)(i:Int):Option α:=(Mq xs.length i).bind λj=>xs[j]?
variable {n:Nat}{i:Int}
def ZW{j:Nat}(h:Mq n i=some j):seqIndex? i n=some j/\j<n/\-(n:Int)<=i/\i<n:=by
 unfold Mq at h;by_cases h0:0<=i
 ·rw[if_pos h0]at h
  by_cases h1:i<n
  ·rw[if_pos h1]at h;have e:i.toNat=j:=Av h;exact⟨by rw[Ga h0 h1,e],by omega,by omega,h1⟩
  rw[if_neg h1]at h;cases h
 ·rw[if_neg h0]at h
  by_cases h1:-(n:Int)<=i
  ·rw[if_pos h1]at h;have e:(i+n).toNat=j:=Av h;exact⟨by rw[FH (!0) h1,e],by omega,h1,by omega⟩
  rw[if_neg h1]at h;cases h
def VY{xs:List α}{v:α}(h:Lf xs i=some v):∃j,seqIndex? i xs.length=some j/\xs[j]?=some v/\j<xs.length/\-(xs.length:Int)<=i/\i<xs.length:=by
 unfold Lf at h;cases e:Mq xs.length i with
 |none=>rw[e]at h;cases h
 |some j=>
  rw[e]at h;obtain⟨n,X,a,b⟩:=ZW e;exact⟨j,n,h,X,a,b⟩
def VV(b:Pv):Prop:=∀o i,subscripted b false o i=operate [o,i] (getItem o i)
def SF(X:Cx)(r:R2):Prop:=
 ∀(value slice:Pv) (e:List (Addr×Obj)) (s:Shared) (σ:St) (H:Hp) (x y:V) (v u:IR) (Q:VK),Inv X e σ H s->RelV x v->RelV y u->r x y H Q ->
  subscripted slice false v u=operate [v,u] (getItem v u)->wpAny (!4) X.A (subscriptTail value slice v u) (EP X e σ Q) X.xe s
def SD(X:Cx)(id:String)(r:V->List V->Hp->VK->Prop):Prop:=
 ∀(e:List (Addr×Obj)) (s:Shared) (σ:St) (H:Hp) (x:V) (xs:List V) (v:IR) (us:List IR) (Q:VK),Inv X e σ H s->RelV x v->Vals xs us->r x xs H Q ->
  wpAny (!4) X.A (call (.builtin id) (v::us)) (EP X e σ Q) X.xe s
variable {qp:List (Addr×Obj)}{σ:St}{H:Hp}{s:Shared}{p:Addr}{ys:List V}{its its':List IR}{T:String}{x:V}
section
variable {a b:Pv}{ta tb:TE}
def iY{r:R2}(c:SF X r)(d:PE X a ta)(f:PE X b tb)(g:VV b):PE X (.Subscript a b pos) (RX r ta tb):=by intro qp s σ H Q I h;exact Fg<|PM d f I h λv u s2 x y e i n p q=>c a b qp s2 σ e x y v u Q i n p q (g _ _)
def Ym(K:Ab):R2:=λx y H Q=>∃p xs i v,x=.ref p/\y=.int i/\JD K H p xs/\Lf xs i=some v/\Q v H
def Yk(K:Ab):R2:=λx y H Q=>∃p xs i v,x=.ref p/\y=.int i/\IM K H p xs/\Lf xs i=some v/\Q v H
def Yl:R2:=λx y H Q=>∃z i c,x=.str z/\y=.int i/\z.length<=sizeLine/\Lf z.cps.toList i=some c/\Q (.str ⟨#[c]⟩) H
def ZX:SF X (Ym X.K):=by
 intro value slice qp s σ H x y v u Q I c d h n;obtain⟨p,xs,i,z,rfl,rfl,f,he,q⟩:=h;cases c;obtain⟨t,rfl⟩:=d;obtain⟨its,r,pl,B⟩:=I.list f;obtain⟨j,a,g,C,l,m⟩:=VY he;obtain⟨w,T,b⟩:=r.get g;have o:=r.length;have E:=Pc;have fin:EP X qp σ Q w s:=⟨z,H,I,b,q⟩;by_cases h0:0<=i
 ·have e:i.toNat=j:=by
   rw[Ga h0 m]at a;exact Av a
  exact item_listR pl.isList h0 (!0) (by rw[e];simpa using T) fin n
 ·have e:(i+(its.toArray.size:Int)).toNat=j:=by
   rw[FH (!0) l]at a;rw[Ay,<-o];exact Av a
  exact EK (x:=w) pl.isList.typeIs slot_list_getitem.lookup
   (wpAny_getItem_list_neg (Q:=λr A=>r=w/\EP X qp σ Q r A) pl.isList (!0) (by rw[Ay]<;>omega) (!0) (by rw[e];simpa using T) ⟨rfl,fin⟩) n
def IA:SF X (Yk X.K):=by
 intro value slice qp s σ H x y v u Q I b e h n;obtain⟨p,xs,i,z,rfl,rfl,T,he,q⟩:=h;cases b;obtain⟨t,rfl⟩:=e;obtain⟨its,r,pl,m⟩:=I.tuple T;obtain⟨j,c,d,o,A,B⟩:=VY he;obtain⟨w,f,a⟩:=r.get d;have g:=r.length;have C:=Pc;have fin:EP X qp σ Q w s:=⟨z,H,I,a,q⟩;exact EK (x:=w) pl.typeIs slot_tuple_getitem.lookup
  (getItem_tuple (j:=j) (Q:=λr l=>r=w/\EP X qp σ Q r l) pl (!0) (!0) (by rw[Ay,<-g];exact c) (by simpa using f) ⟨rfl,fin⟩) n
def Q6:SF X Yl:=by
 intro value slice qp s σ H x y v u Q I b e h n;obtain⟨z,i,c,rfl,rfl,m,he,q⟩:=h;obtain⟨t,rfl⟩:=b;obtain⟨o,rfl⟩:=e;obtain⟨j,a,p,r,T,d⟩:=VY he;have f:z.cps.toList.length=z.length:=by simp[Str.length]
 rw[f]at a T d;have w:=Pc;exact tail_any (Gq s z t) slot_str_getitem.lookup (getItem_str (c:=c) (by
  have g:decide (i < -(2^63:Int))=false:=decide_eq_false (!0);have l:decide (i ≥ 2^63)=false:=decide_eq_false (!0);rw[g,l,Bool.or_false]) (by rw[a];simpa using p) ⟨.str ⟨#[c]⟩,H,I.tok _,⟨_,rfl⟩,q⟩) n
def zkv(its:List IR)(n j:Nat)(u:IR):BI (·.setIfInBounds j u) {cls:=.type "list",data:=.seq its.toArray n}={cls:=.type "list",data:=.seq (its.set j u).toArray n}:=by simp[BI]
def Inv.lst{qp:List (Addr×Obj)}{σ:St}{H:Hp}{s:Shared}{p:Addr}{xs:List V}(I:Inv X qp σ H s)(h:H p=some (.lst xs)):
  ∃(its:List IR) (n:Nat),Vals xs its/\s.heap.get? p=some {cls:=.type "list",data:=.seq its.toArray n}/\xs.length<=sizeLine:=by
 obtain⟨z,its,n,r,e⟩:=I.hok p _ h;exact⟨its,n,r,e,z⟩
def Inv.lstUpd{c:Nat}{f:Obj->Obj}(I:Inv X qp σ H s)(h:H p=some (.lst xs))(d:s.heap.get? p=some {cls:=.type "list",data:=.seq its.toArray n}) (hf:f {cls:=.type "list",data:=.seq its.toArray n}={cls:=.type "list",data:=.seq its'.toArray c}) (r:Vals ys its') (hz:ys.length<=sizeLine) (t:Nat):
  Inv X qp σ (upd H p<|.lst ys) {s with heap:=s.heap.update p f,toks:=t}:=by
 have e:(s.heap.update p f).get? p=some {cls:=.type "list",data:=.seq its'.toArray c}:=by rw[BQ f d (by rw[hf]<;>rfl),hf]
 refine I.write (x:=p) (e:=p) (by rw[h];trivial) (.inl rfl) (λb u a q=>(CF _ _<|BJ a).trans q) ⟨_,e⟩ ?_;exact⟨hz,its',c,r,e⟩
def jD:V->V->V->Hp->(Hp->Prop)->Prop:=λo i v H Q=>∃p xs k j,o=.ref p/\i=.int k/\H p=some (.lst xs)/\Mq xs.length k=some j/\Q (upd H p<|.lst<|xs.set j v)
def set_list:PR X jD:=by
 intro qp s σ H o i v y z u Q I f g l h;obtain⟨p,xs,k,j,rfl,rfl,x,m,q⟩:=h;cases f;obtain⟨t,rfl⟩:=g;obtain⟨its,n,r,b,w⟩:=I.lst x;obtain⟨a,A,T,c⟩:=ZW m;have e:=r.length;have B:=Pc;have d:Inv X qp σ (upd H p<|.lst<|xs.set j v) {s with heap:=s.heap.update p (BI (·.setIfInBounds j u))}:=
  I.lstUpd x b (zkv its n j u) (r.set l j) (by rw[Bq];exact w) s.toks
 by_cases h0:0<=k
 ·have hk:k.toNat=j:=by
   rw[Ga h0 c]at a;exact Av a
  exact PySem.W.ki_setAt b h0 (!0) (by rw[Ay,<-e];exact c) (by rw[hk];exact⟨_,d,q⟩)
 ·have hk:(k+(its.toArray.size:Int)).toNat=j:=by
   rw[FH (!0) T]at a;rw[Ay,<-e];exact Av a
  exact PySem.W.ki_setBack b (!0) (by rw[Ay,<-e];exact T) (!0) (by rw[hk];exact⟨_,d,q⟩)
def zhp(lo hi:Option Int)(n:Nat):(sliceBounds lo hi none n).1=((HT.Ij n 0 lo:Nat):Int)/\(sliceBounds lo hi none n).2.1=((HT.Ij n n hi:Nat):Int)/\(sliceBounds lo hi none n).2.2=1:=by
 refine⟨?_,?_,rfl⟩
 ·cases lo with
  |none=>simp[sliceBounds,HT.Ij]
  |some i=>
   simp only[sliceBounds,HT.Ij,Gg,show(1:Int) > 0 by decide,if_true]
   by_cases h:i<0
   ·simp only[h,if_true]<;>omega
   simp only[h,if_false]<;>omega
 ·cases hi with
  |none=>simp[sliceBounds,HT.Ij]
  |some i=>
   simp only[sliceBounds,HT.Ij,Gg,show(1:Int) > 0 by decide,if_true]
   by_cases h:i<0
   ·simp only[h,if_true]<;>omega
   simp only[h,if_false]<;>omega
def zgG(its:List IR)(lo hi:Option Int):slicePick its.toArray lo hi none=((its.drop<|HT.Ij its.length 0 lo).take<|HT.Ij its.length its.length hi-HT.Ij its.length 0 lo).toArray:=by obtain⟨a,b,e⟩:=zhp lo hi its.toArray.size;unfold slicePick;rw[a,b,e];simp only[sliceRange_one,pick_run,Ay]<;>rfl
def R6(K:Ab):V->Option Int->Option Int->Hp->VK->Prop:=λx lo b H Q=>∃a xs,x=.ref a/\JD K H a xs/\∀p,H p=none->Q (.ref p) (upd H p<|.lst<|Lb xs lo b)
def aW:Sx X (R6 X.K):=by intro qp s σ H x v d f lo e g Q I n p pl pu h;obtain⟨a,xs,rfl,T,q⟩:=h;cases n;obtain⟨its,r,i,c⟩:=I.list T;have hlen:=r.length;refine⟨"list",_,slot_list_getitem.lookup,i.isList.typeIs,?_⟩;refine wpAny_getItem_list_slice i.isList p pl pu .none (!2) ?_ (by rw[Ay]<;>omega);rw[zgG,<-hlen];refine⟨.ref s.heap.objs.size,_,I.laid (t':=s.toks) (o:=.lst (Lb xs lo e)) (λb ob q=>Ad _ q) (Ag _) ?_,rfl,q _<|I.hok.fresh<|Ag _⟩;exact⟨AA (fM xs lo e) c,_,0,(r.drop<|HT.Ij xs.length 0 lo).take<|HT.Ij xs.length xs.length e-HT.Ij xs.length 0 lo,Ap _ rfl⟩
def Xc:MZ X (.builtin "len") (λxs H Q=>∃p ys,xs=[.ref p]/\(JD X.K H p ys\/IM X.K H p ys)/\Q (.int ys.length) H):=by
 intro qp s σ H xs us Q I r h;obtain⟨p,ys,rfl,hq,q⟩:=h;obtain⟨u,rfl,b⟩:=vals1 r;cases b;have i:=Pc;rcases hq with hq|hq
 ·obtain⟨its,a,pl,e⟩:=I.list hq;have hlen:=a.length;exact Calls.call_len_list pl.isList (by simp only[Ay]<;>omega) ⟨.int ys.length,H,I.tok _,⟨s.toks+1,by rw[Ay,hlen]⟩,q⟩
 obtain⟨its,a,pl,e⟩:=I.tuple hq;have hlen:=a.length;exact len_tuple pl (by simp only[Ay]<;>omega) ⟨.int ys.length,H,I.tok _,⟨s.toks+1,by rw[Ay,hlen]⟩,q⟩
def zhP:MZ X (.builtin "len") (λxs H Q=>∃z,xs=[.str z]/\z.length<=sizeLine/\Q (.int z.length) H):=by intro qp s σ H xs us Q I r h;obtain⟨z,rfl,a,q⟩:=h;obtain⟨u,rfl,t,rfl⟩:=vals1 r;have b:=Pc;exact len_str (!0) ⟨.int z.length,H,I.tok _,⟨_,rfl⟩,q⟩
def Xd:MZ X (.type "list") (λxs H Q=>∃p ys,xs=[.ref p]/\(JD X.K H p ys\/IM X.K H p ys)/\∀l,H l=none->Q (.ref l) (upd H l<|.lst ys)):=by
 intro qp s σ H xs us Q I r h;obtain⟨p,ys,rfl,hq,q⟩:=h;obtain⟨u,rfl,g⟩:=vals1 r;cases g;have fin:∀(its:List IR),Vals ys its->ys.length<=sizeLine->∀(a:PP) (i:Nat),(∀b f,s.heap.get? b=some f->a.get? b=some f) ->
   a.get? s.heap.objs.size=some {cls:=.type "list",dict:=none,data:=.seq its.toArray i,slots:=#[]}->EP X qp σ Q (.ref s.heap.objs.size) {s with heap:=a}:=λits x T a i kp e=>
  ⟨.ref s.heap.objs.size,_,I.laid (t':=s.toks) kp (Ag _) (show Jr X.prog X.w _ a _ (.lst ys) from⟨T,its,i,x,e⟩),rfl,q _<|I.hok.fresh<|Ag _⟩
 rcases hq with hq|hq
 ·obtain⟨its,x,pl,T⟩:=I.list hq;have hlen:=x.length;obtain⟨o,c,d,n,hd⟩:=pl.isList;exact call_list_seq p (.inl rfl) c d hd (λa i kp e=>fin its x T a i kp e) (by simp only[Ay]<;>omega)
 obtain⟨its,x,pl,T⟩:=I.tuple hq;have hlen:=x.length;obtain⟨o,c,d,n,hd⟩:=pl;exact call_list_seq p (.inr rfl) c d hd (λa i kp e=>fin its x T a i kp e) (by simp only[Ay]<;>omega)
def fY:MZ X (.type "tuple") (λxs H Q=>∃p ys,xs=[.ref p]/\((JD X.K H p ys/\∀l,H l=none->Q (.ref l) (upd H l<|.tup ys))\/(IM X.K H p ys/\Q (.ref p) H))):=by
 intro qp s σ H xs us Q I r h;obtain⟨p,ys,rfl,h⟩:=h;obtain⟨u,rfl,T⟩:=vals1 r;cases T;rcases h with⟨i,q⟩|⟨i,q⟩
 ·obtain⟨its,n,pl,x⟩:=I.list i;have hlen:=n.length;refine call_tuple_list pl.isList (λa kp=>?_) (by simp only[Ay]<;>omega);have I1:Inv X qp σ H {s with heap:=a}:=I.kept (t':=s.toks) kp;have c:Inv X qp σ (upd H a.objs.size<|.tup ys) {s with heap:=a.push {cls:=.type "tuple",data:=.seq its.toArray} }:=
   I1.laid (t':=s.toks) (λb o e=>Ad _ e) (Ag _) (show Jr X.prog X.w _ _ _ (.tup ys) from⟨x,its,n,Li.new _ _⟩)
  exact⟨.ref a.objs.size,_,c,rfl,q _<|I1.hok.fresh<|Ag _⟩
 obtain⟨its,n,pl,x⟩:=I.tuple i;exact call_tuple_same pl ⟨.ref p,H,I,rfl,q⟩
def UU(K:Ab)(T:String)(x:V)(H:Hp):Prop:=match x with
 |.str _=>T="str"
 |.int _=>T="int"
 |.ref p=>(T="list"/\∃xs,JD K H p xs)\/(T="tuple"/\∃o,K.lookup p=some o/\o.cls=.type "tuple"/\o.dict=none) \/
   (T="dict"/\((∃a,H p=some (.dK a))\/∃a,H p=some (.dT a)))\/(T="set"/\∃S n,H p=some (.set S n))
 |_=>False
def ZQ{v:IR}(I:Inv X qp σ H s)(r:RelV x v)(ty:UU X.K T x H):
  s.TypeIs v T/\∀a,v=.ref a->∃ob,s.heap.get? a=some ob/\ob.dict=none:=by
 cases x with
 |str z=>
  obtain⟨t,rfl⟩:=r;cases (show T="str" from ty)
  exact⟨Gq s z t,λ_ e=>nomatch e⟩
 |int i=>
  obtain⟨t,rfl⟩:=r;cases (show T="int" from ty)
  exact⟨typeIs_int s i t,λ_ e=>nomatch e⟩
 |ref p=>
  cases r;rcases ty with⟨rfl,xs,f⟩|⟨rfl,o,hk,g,hd⟩|⟨rfl,hk⟩|⟨rfl,S,n,hk⟩
  ·obtain⟨its,_,pl,_⟩:=I.list f;refine⟨pl.isList.typeIs,λa e=>?_⟩;cases e;obtain⟨o,n,e,c,hd,_⟩:=pl;exact⟨o,e,hd⟩
  ·refine⟨⟨o,I.kIn p o hk,g⟩,λa e=>?_⟩;cases e;exact⟨o,I.kIn _ o hk,hd⟩
  ·have z:∃o,s.heap.get? p=some o/\o.ExactDict:=by
    rcases hk with⟨b,hk⟩|⟨b,hk⟩
    ·obtain⟨_,_,_,_,o,_,_,e,ex,_⟩:=I.hok p _ hk;exact⟨o,e,ex⟩
    obtain⟨_,_,_,_,o,_,_,e,ex,_⟩:=I.hok p _ hk;exact⟨o,e,ex⟩
   obtain⟨o,e,ex⟩:=z;refine⟨⟨o,e,ex.1⟩,λa d=>?_⟩;cases d;exact⟨o,e,ex.2.1⟩
  obtain⟨o,_,_,_,e,ex,_⟩:=I.hok p _ hk;refine⟨⟨o,e,ex.1⟩,λa d=>?_⟩;cases d;exact⟨o,e,ex.2.1⟩
 |_=>exact False.elim ty
def Ya(K:Ab)(T:String)(r:V->List V->Hp->VK->Prop)(to:TE):TE:=λσ H Q=>to σ H λx H1=>UU K T x H1/\r x [] H1 Q
def tBM(K:Ab)(T:String)(r:V->List V->Hp->VK->Prop)(to:TE)(t:TA):TE:=λσ H Q=>to σ H λx H1=>UU K T x H1/\t σ H1 λxs a=>r x xs a Q
variable {o:Pv}{es:List Pv}{to:TE}{t:TA}{name:Str}{apos cpos:Pos}{id:String}{r:V->List V->Hp->VK->Prop}
def lT(g:PlainAttrs T)(slot:Slot T name id)(f:typeOf (.builtin id)=pure (.type "method_descriptor"))(hm:SD X id r)(j:PE X o to)(c:attributeBase o name X.env (UV o X.env)=UV o X.env:=by rfl) (d:(apos.endLine==cpos.line)=true:=by rfl):PE X (.Call (.Attribute o name apos) [] [] cpos) (Ya X.K T r to):=by
 exists 4;refine wpAny_Call_method0_late c d<|HB (j qp s σ H _ I h) ?_;rintro v s1 ⟨x,H1,a,b,ty,e⟩;obtain⟨i,n⟩:=ZQ a b ty;exact⟨T,id,g,slot,f,i,n,BL rfl<|PySem.evalArgs_none<|hm qp s1 σ H1 x [] v [] Q a b .nil e⟩
def Zg(l:PlainAttrs T)(slot:Slot T name id)(j:typeOf (.builtin id)=pure (.type "method_descriptor"))(hm:SD X id r)(m:PE X o to)(q:PA X (e::es) t)(d:attributeBase o name X.env (UV o X.env)=UV o X.env:=by rfl)(g:((backTo cpos<|UF (e::es) X.env).all (λx=>!x.1)&&(backToKw cpos<|keywordEach [] X.env).all (λx=>x.1.isSome)
   &&decide ((e::es).length+([]:List Keyword).length+(if([]:List Keyword).isEmpty then 0 else 1)<30))=true:=by rfl)
  (f:(apos.endLine==cpos.line)=true:=by rfl) (u:Qqb X.env e es:=by rfl) (c:Qqc cpos es X.env:=by rfl):
  PE X (.Call (.Attribute o name apos) (e::es) [] cpos) (tBM X.K T r to t):=by
 exists 4;refine wpAny_Call_method_late d g f rfl<|HB (m qp s σ H _ I h) ?_;rintro v s1 ⟨x,H1,a,b,ty,n⟩;obtain⟨p,w⟩:=ZQ a b ty;refine⟨T,id,l,slot,j,p,w,?_⟩;have i:=q cpos qp s1 σ H1 _ a n;rw[u]at i ⊢;refine BL (by show(false || (backTo cpos<|UF es X.env).any (·.1))=false;rw[c]<;>rfl)<|Ck ?_;exact HB i λus s2 ⟨y,z,A,B,C⟩=>hm qp s2 σ z x y v us Q A b B C
end
def YO(X:Cx)(id:String)(r:V->List V->Hp->VK->Prop):Prop:=
 ∀(qp:List (Addr×Obj)) (s:Shared) (σ:St) (H:Hp) (x:V) (xs:List V) (v:IR) (us:List IR) (Q:VK),Inv X qp σ H s->RelV x v->Vals xs us->r x xs H Q ->
  wpAny (!4) X.A (call (.builtin id) (v::us)) (EP X qp σ Q) X.xe s
def Vals.one:∀{x:V}{us:List IR},Vals [x] us->∃u,us=[u]/\RelV x u
 |_,_,.cons r .nil=>⟨_,rfl,r⟩
def Vals.two{y:V}(h:Vals [x,y] us):∃u v,us=[u,v]/\RelV x u/\RelV y v:=by
 cases h with
 |cons r t=>
  cases t with
  |cons q t=>
   cases t;exact⟨_,_,rfl,r,q⟩
def Vals.zero:∀{us:List IR},Vals [] us->us=[]
 |_,.nil=>rfl
def Vals.dropLast{xs:List V}{us:List IR}(h:Vals xs us):Vals xs.dropLast us.dropLast:=by
 induction h with
 |nil=>exact .nil
 |cons r t e=>
  cases t with
  |nil=>exact .nil
  |cons q i=>exact .cons r e
def zkZ(l:List α):l.eraseIdx (l.length-1)=l.dropLast:=by
 induction l with
 |nil=>rfl
 |cons a r i=>
  cases r with
  |nil=>rfl
  |cons b r=>
   have e:(a::b::r).length-1=((b::r).length-1)+1:=by have n:(a::b::r).length=r.length+2:=rfl;have p:(b::r).length=r.length+1:=rfl;omega
   rw[e,Ei,i]
   all_goals rfl
variable {t':Nat}
section
variable {l b:Addr}{zs:List V}
def Inv.lset{f:Array IR->Array IR}(I:Inv X qp σ H s)(a:H l=some (.lst xs))(e:s.heap.get? l=some {cls:=.type "list",data:=.seq its.toArray n}) (hf:f its.toArray=its'.toArray) (c:Vals ys its') (hz:ys.length<=sizeLine):
  Inv X qp σ (upd H l<|.lst ys) {s with heap:=s.heap.update l (BI f),toks:=t'}:=by
 have q:=PySem.IsL.update e f;rw[hf]at q;refine I.write (x:=l) (e:=l) (by rw[a];exact trivial) (.inl rfl) (λp u b i=>(CF s.heap (BI f)<|BJ b).trans i) ⟨_,q⟩ ?_;exact⟨hz,its',_,c,q⟩
def Inv.lnew(I:Inv X qp σ H s)(a:Vals ys its)(hz:ys.length<=sizeLine):
  Inv X qp σ (upd H s.heap.objs.size<|.lst ys) {s with heap:=s.heap.push {cls:=.type "list",data:=.seq its.toArray},toks:=t'}:=
 I.laid (λ_ _ q=>Ad _ q) (Ag _) ⟨hz,its,0,a,Ap _ rfl⟩
def Inv.fresh(I:Inv X qp σ H s):H s.heap.objs.size=none:=I.hok.fresh<|Ag _
def Inv.lstM(I:Inv X qp σ H s)(a:H l=some (.lst xs)):xs.length<=sizeLine/\∃(its:List IR) (n:Nat),Vals xs its/\xs.length=its.length/\s.heap.get? l=some {cls:=.type "list",data:=.seq its.toArray n}:=by obtain⟨z,its,n,r,e⟩:=I.hok l _ a;exact⟨z,its,n,r,r.length,e⟩
def wW(h:n<=sizeLine):Builtin.List.listTooLong n=false:=by unfold Builtin.List.listTooLong;exact decide_eq_false<|by omega
end
def tW:V->List V->Hp->VK->Prop:=λx e H Q=>∃l xs y,x=.ref l/\e=[y]/\H l=some (.lst xs)/\xs.length<sizeLine/\Q .non (upd H l<|.lst<|xs++[y])
def dA:YO X "list.append" tW:=by intro qp s σ H x b v us Q I p T h;obtain⟨l,xs,y,rfl,rfl,i,c,q⟩:=h;cases p;obtain⟨u,rfl,a⟩:=T.one;obtain⟨z,its,n,r,d,e⟩:=I.lstM i;refine Dc F.slot_list_append ⟨_,e,rfl⟩ F.entry_list_append (F.args_list_append_2 _ _) (PySem.list_append l its.toArray n u (by rw[Ay];omega)) ⟨e,?_⟩;refine⟨.non,_,I.lset (its':=its++[u]) i e (!2) (r.append<|.cons a .nil) ?_,rfl,q⟩;rw[AB,Bm];omega
def tX:V->List V->Hp->VK->Prop:=λx e H Q=>∃l b xs zs,x=.ref l/\e=[.ref b]/\H l=some (.lst xs)/\H b=some (.lst zs)/\xs.length+zs.length<=sizeLine/\Q .non (upd H l<|.lst<|xs++zs)
def yU:YO X "list.extend" tX:=by
 intro qp s σ H x y v us Q I c d h;obtain⟨l,b,xs,zs,rfl,rfl,a,f,A,q⟩:=h;cases c;obtain⟨u,rfl,g⟩:=d.one;cases g;obtain⟨z,its,n,r,B,e⟩:=I.lstM a;obtain⟨C,i,j,m,o,w⟩:=I.lstM f;have T:its.toArray.size+i.toArray.size<=sizeLine:=by rw[Ay,Ay];omega
 have p:¬(!its.toArray.isEmpty&&Builtin.List.listTooLong (its.toArray.size+i.toArray.size))=true:=by rw[wW T,Bool.and_false];exact AY
 refine Dc F.slot_list_extend ⟨_,e,rfl⟩ F.entry_list_extend (F.args_list_extend_2 _ _)
  (AutoSeq1.list_extend_list_list_0 l its.toArray n b i.toArray j p (by rw[Ay];omega)<|by omega) ⟨e,w,?_⟩
 refine⟨.non,_,I.lset (its':=its++i) a e (!2) (r.append m) ?_,rfl,q⟩;rw[AB];omega
def Yj:V->List V->Hp->VK->Prop:=λx e H Q=>∃l xs y,x=.ref l/\e=[]/\H l=some (.lst xs)/\xs[xs.length-1]?=some y/\Q y (upd H l<|.lst xs.dropLast)
def nP:YO X "list.pop" Yj:=by
 intro qp s σ H x j v us Q I a b h;obtain⟨l,xs,y,rfl,rfl,T,c,q⟩:=h;cases a;have i:=b.zero;subst i;obtain⟨z,its,n,r,d,e⟩:=I.lstM T;obtain⟨u,f,g⟩:=r.get c;have p:its.toArray[its.toArray.size-1]?=some u:=by show its.toArray[its.length-1]?=some u;rw[<-Bn,<-d];exact f
 refine Dc F.slot_list_pop ⟨_,e,rfl⟩ F.entry_list_pop (F.args_list_pop_1 _) (MeetsSeq.list_pop_last l its.toArray n u p (by rw[Ay];omega)) ⟨e,?_⟩;refine⟨y,_,I.lset (its':=its.dropLast) T e ?_ r.dropLast ?_,g,q⟩
 ·show its.toArray.eraseIdxIfInBounds (its.toArray.size-1)=its.dropLast.toArray;rw[Ay,List.eraseIdxIfInBounds_toArray,zkZ]
 rw[List.length_dropLast];omega
def Yo:R2:=λx y H Q=>∃l b xs zs,x=.ref l/\y=.ref b/\H l=some (.lst xs)/\H b=some (.lst zs)/\xs.length+zs.length<=sizeLine/\∀p,H p=none->Q (.ref p) (upd H p<|.lst<|xs++zs)
def nT:JU X (binaryOp .Add) Yo:=by
 intro qp s σ H x y v u Q I p T h;obtain⟨l,b,xs,zs,rfl,rfl,a,c,m,q⟩:=h;cases p;cases T;obtain⟨z,its,n,r,o,e⟩:=I.lstM a;obtain⟨w,i,A,d,f,g⟩:=I.lstM c;refine PySem.P.add_list e g ?_ (by rw[Ay,Ay];omega);have j:its.toArray++i.toArray=(its++i).toArray:=by simp
 rw[j];exact⟨.ref _,_,I.lnew (t':=s.toks) (r.append d) (by rw[AB];omega),rfl,q _ I.fresh⟩
section
variable {prog:Re}{w:Wp}{A:Around}{E:Qqa}
set_option maxRecDepth 100000 in
end
end L2
namespace Att
open PySem PySem.W PySem.Calls PyProof.Rows
def zfn{P:Params}{h:PP}:∀(ns:List Int) (vs:List IR),WellAll P h vs (ns.map WData.int)->IntsAre vs ns:=by
 intro ns
 induction ns with
 |nil=>
  intro vs w;rw[BK]at w;cases w;exact .nil
 |cons n ns ih=>
  intro vs w;rw[Ao]at w;cases w with
  |cons a b=>
   cases a;exact .cons _ _<|ih _ b
def zlS{l:OpenLaw}{n:Nat}(hn:l.most=some n){P:Params}{h:PP}{args:List WData}{vals:List IR}(b:l.row.toRowW.claim.pre args=true) (g:WellAll P h vals args):
  ∃a vs ns,vals=[AE a]/\args=[WData.list (ns.map WData.int)]/\h.get? a=some {cls:=.type "list",data:=.seq vs.toArray}/\IntsAre vs ns/\ns.length<=n:=by
 have i:WShape.hasAll [] args [.list .int]=true:=(pre_splitW b).1;have j:l.pre.holds [] {args:=args}=true:=(pre_splitW b).2;obtain⟨d,r,rfl,m,o⟩:=hasAllW_cons i;obtain rfl:=hasAllW_nil o;obtain⟨xs,rfl,p⟩:=hasW_list m;obtain⟨ns,rfl⟩:=items_int p;have hlen:ns.length<=n:=by
  unfold OpenLaw.pre at j;have e:(WTm.not<|.lt (.lit<|.int (n:Int))<|.len<|.arg 0).holds [] {args:=[.list (ns.map .int)]}=true:=by have e:=(holds_andW j).1;rw[hn]at e;exact e
  have f:=condW_of e<|w_not<|w_lt w_lit<|w_len_list<|w_arg rfl;rw[Af]at f;refine Nat.le_of_not_lt λq=>?_;have s:(n:Int)<((ns.length:Nat):Int):=by omega
  first
   |(rw[decide_eq_true s]at f;exact absurd f (!1))
   |(simp at f;omega)
 cases g with
 |cons u v=>
  cases v;cases u with
  |list w c=>exact⟨_,_,ns,rfl,rfl,w,zfn ns _ c,hlen⟩
def zlZ(l:OpenLaw)(args:List WData):l.row.toRowW.claim.post args (.bool true) args=true:=
 postW_of (r:=l.row.toRowW) (X:=(true==true))
  (show WShape.has [] (.bool true) .bool=true by first|rfl|decide|simp[WShape.has,WShape.arms,WShape.armsAll])
  (show(WTm.eq .res<|.lit<|.bool true).value [] {args:=args,res:=some (.bool true),after:=args}=some (.bool<|true==true) from w_eq_bool (w_res rfl) w_lit) rfl
def Lc{l:OpenLaw}{n:Nat}{q:Re}{loose:List Str}{XP:(Str->Option IR)->PP->Prop}{YP:Wp->PP->Prop}{d:DefRec}(hn:l.most=some n) (h:d.params.defaults=[])(call:∀(w:Wp) (s₀ s₁:Shared) (g i:Str->Option IR) (b:Addr) (o:Obj) (pm cd doc:IR) (a:Addr) (vs:List IR) (ns:List Int),
   Ground q loose [] XP w s₀ g i s₁.heap->YP w s₁.heap ->
   s₁.heap.get? b=some o->o.data=.func (docDef d.name d.params d.body d.scope pm cd doc)->s₁.heap.CodeRec cd d.name->g d.name=some (.ref b) ->
   s₁.heap.get? a=some {cls:=.type "list",data:=.seq vs.toArray}->IntsAre vs ns->ns.length<=n->s₁.gens=#[] ->
   codeAny (KF l.prog w) callerA (.call (.ref b) ⟨[.ref a],[]⟩) (λr s'=>r=.ok (.ret<|.bool true)/\OldK s₁.heap s'.heap/\s'.os=s₁.os/\AllBare s'.gens) s₁):
  WalkO q loose XP YP l.row.toRowW d [] (λf vs=>Gs f vs):=by
 intro w s₀ s₁ g i G Y b o pm cd doc x kV y hd j u m z args vals as c v A p B;obtain rfl:x=.none:=Dflts.none u h;obtain rfl:kV=.none:=Dflts.noKw u;obtain⟨a,vs,ns,rfl,rfl,e,hints,hlen⟩:=zlS hn c p;refine enter_call<|D7 (call w s₀ s₁ g i b o pm cd doc a vs ns G Y y (fd_plain hd) j m e hints hlen z) λr s' C=>?_;obtain⟨rfl,E,F,H⟩:=C;exact⟨.inl ⟨.bool true,.bool true,[],rfl,λ_=>rfl,.bool true,zlZ l _,λ_=>⟨CI,λ_ hm=>(nomatch hm)⟩⟩,E,F,H⟩
end Att
namespace L2
open PySem PySem.Spec PyProof.Rows
theorem eI:∀{vs:List IR}{ns:List Int},IntsAre vs ns->Vals (ns.map V.int) vs
 |_,_,.nil=>.nil
 |_,_,.cons n t h=>.cons ⟨t,rfl⟩<|eI h
def MW(H:Hp):Prop:=∀b,H b=none\/∃o xs,H b=some (.frz o<|.lst xs)
variable {P:Re}{w:Wp}{K:Ab}{mg:Str->Option IR}{k:Nat}{fd:FuncData}{x:Str}{sp:Sp}
def xE{J:Str->Option IR}{CX:N9}{L a:Addr}{x:Str}{s₁:Shared}{vs:List IR}{ns:List Int}(U:K.In s₁.heap) (j:s₁.heap.Ns SZ mg) (f:s₁.heap.Ns builtinsNs J) (M:∀x:Str,x≠"__name__"->J x=W1 x) (l:s₁.heap.NoLimit) (hg:s₁.gens=#[])(I:s₁.heap.get? a=some {cls:=.type "list",data:=.seq vs.toArray}) (hi:IntsAre vs ns) (W:ns.length<=sizeLine) (hr:HM k callerA)(F:∀base:PP,K.In base->base.Ns SZ mg->Jd P w K mg base CX k L fd [x] sp) (i:∀(s:Shared) (u:IR),BindsTo s fd ⟨[u],[]⟩ [(x,u)])(N:∀H:Hp,MW H->JD K H a (ns.map V.int)->sp [.ref a] H (λv _=>v=.bl true) λ_ _ _=>False)(Q:∀H e s',CX [] H s₁ (λ_ _ _=>False) e s'->False):
  codeAny (KF P w) callerA (.call (.ref L) ⟨[.ref a],[]⟩) (λr s'=>r=.ok (.ret (.bool true))/\OldK s₁.heap s'.heap/\s'.os=s₁.os/\AllBare s'.gens) s₁:=by
 have X:=eI hi;have p:=hi.length;have core:∀H:Hp,MW H->JD K H a (ns.map V.int)->Jx P w H s₁.heap->(∀b,H b≠none->b=a)->(H a≠none->K.lookup a=none) ->
   codeAny (KF P w) callerA (.call (.ref L) ⟨[.ref a],[]⟩) (λr s'=>r=.ok (.ret (.bool true))/\OldK s₁.heap s'.heap/\s'.os=s₁.os/\AllBare s'.gens) s₁:=by
  intro H Y hS y Z hK;have c:∀{b:Addr}{o:Obj},s₁.heap.get? b=some o->H b=none->(KJ s₁.heap H).get? b=some o:=λe n=>uY e n;have S:∀{b:Addr}{o:Obj}{A:Array DictEntry}{B:Nat},s₁.heap.get? b=some o->o.data=.dict A B->H b=none:=λ{b o A B} e d=>by
   cases q:H b with
   |none=>rfl
   |some u=>
    have T:b=a:=Z b (by rw[q];simp);subst T;rw[I]at e;cases e;have d':Data.seq vs.toArray _=Data.dict A B:=d;cases d'
  have g:∀{b:Addr}{m:Str->Option IR},s₁.heap.Ns b m->(KJ s₁.heap H).Ns b m:=λ{b m} ⟨o,A,B,e,d,r⟩=>⟨o,A,B,c e (S e d),d,r⟩;have C:K.In (KJ s₁.heap H):=λb o e=>c (U b o e) (by
   cases q:H b with
   |none=>rfl
   |some u=>
    have T:b=a:=Z b (by rw[q];simp);subst T;rw[hK (by rw[q];simp)]at e;cases e)
  have hM:Mod K mg (KJ s₁.heap H):=⟨C,g j,⟨J,g f,M⟩,let ⟨mc,h1,h2⟩:=l;⟨mc,g h1,h2⟩⟩;have e0:Ly P w K mg (KJ s₁.heap H) callerA [] s₁ H:=⟨rfl,hM,λb o e=>tZ e,D5 (yG _ _),trivial,λb f=>absurd (show b∈([]:List Addr) from f) (!2),y,.of_eq hg⟩
  refine D7 ((F _ C (g j)).run callerA [] s₁ H ⟨[.ref a],[]⟩ [.ref a] [.ref a] _ _ hr e0 (i s₁ (.ref a)) (.cons rfl .nil) (N H Y hS)) λr s' h=>?_;cases r with
  |error e=>exact(Q H e s' h).elim
  |ok fl=>
   cases fl with
   |next=>exact False.elim h
   |brk=>exact False.elim h
   |cont=>exact False.elim h
   |ret u=>
    obtain⟨v,H',os,bare,un,E,r',q⟩:=h;have q':v=.bl true:=q;subst q';obtain rfl:u=Ff true:=r';refine⟨rfl,OldK.of_keep λb o e=>?_,os,bare⟩;cases q:H b with
    |none=>exact un.keep b o e q (by intro z;exact absurd (show b∈([]:List Addr) from z) (!2)) (!2)
    |some u=>
     rcases Y b with z|⟨ob,xs,z⟩
     ·rw[q]at z;cases z
     have z2:=un.frzs b ob _ z;obtain⟨e1,_⟩:=y b _ z;obtain⟨e2,_⟩:=E b _ z2;rw[e]at e1;cases e1;exact e2
 cases hk:K.lookup a with
 |some o=>
  have e:=U a o hk;rw[I]at e;cases e;refine core (λ_=>none) (λ_=>.inl rfl) (.inr ⟨_,vs.toArray,_,hk,rfl,rfl,rfl,by rw[Ay,p];exact W,by simpa using X⟩) (λb u z=>by have G:(none:Option HO)=some u:=z;cases G) (λb z=>absurd rfl z) λz=>absurd rfl z
 |none=>
  refine core (λb=>if b=a then some (.frz {cls:=.type "list",data:=.seq vs.toArray} (.lst (ns.map V.int)))else none) (λb=>?_) (.inl (.inr ⟨{cls:=.type "list",data:=.seq vs.toArray},if_pos rfl⟩)) (λb u z=>?_) (λb z=>?_) λ_=>hk
  ·by_cases f:b=a
   ·exact .inr ⟨_,_,if_pos f⟩
   exact .inl (if_neg f)
  ·by_cases f:b=a
   ·have G:=(if_pos f).symm.trans z;cases G;subst f;exact⟨I,by rw[Af];exact W,vs,_,X,I⟩
   have G:=(if_neg f).symm.trans z;cases G
  ·by_cases f:b=a
   ·exact f
   exact absurd (if_neg f) z
def NJ{l:PySem.W.OpenLaw}{n:Nat}{q:Re}{loose:List Str}{XP:(Str->Option IR)->PP->Prop}{YP:Wp->PP->Prop}{d:DefRec}{K:Params->Ab}{CX:Wp->N9}{sp:Wp->Sp}(hn:l.most=some n) (i:n<=sizeLine) (j:d.params.defaults=[]) (z:HM k callerA)(A:∀(w:Wp) (h:PP),YP w h->(K w.params).In h)(F:∀(w:Wp) (mg:Str->Option IR) (c:Addr) (h:PP),(K w.params).In h->h.Ns SZ mg->mg d.name=some (.ref c) ->
   ∃fd:FuncData,(∀(s:Shared) (u:IR),BindsTo s fd ⟨[u],[]⟩ [(x,u)]) /\
    ∀base:PP,(K w.params).In base->base.Ns SZ mg->Jd l.prog w (K w.params) mg base (CX w) k c fd [x] (sp w))
  (m:∀(w:Wp) (H:Hp) (a:Addr) (ns:List Int),ns.length<=n->MW H->JD (K w.params) H a (ns.map V.int)->sp w [.ref a] H (λv _=>v=.bl true) λ_ _ _=>False)
  (p:∀(w:Wp) (H:Hp) (s:Shared) (e:IR) (s':Shared),CX w [] H s (λ_ _ _=>False) e s'->False):
  PySem.W.WalkO q loose XP YP l.row.toRowW d [] (λf vs=>Gs f vs):=by
 refine Att.Lc hn j λw s₀ s₁ mg M c o pm cd doc a vs ns G Y N hd B r P hints hlen C=>?_;have y:=A w _ Y;obtain⟨fd,E,I⟩:=F w mg c _ y G.T.g r;exact xE y G.T.g G.T.b G.T.builtins G.T.nolimit C P hints (AA hlen i) z I E (λH J L=>m w H a ns hlen J L) λH e s'=>p w H s₁ e s'
def inClass(s:Stmt)(j:Nat):Stmt:=match s with
 |.ClassDef _ _ _ body _ _ _ _ _ _ _=>body.getD j<|.Pass ⟨0,0,0,0⟩
 |_=>.Pass ⟨0,0,0,0⟩
noncomputable abbrev KA:N9:=λ_ _ _ _ _ _=>False
noncomputable abbrev E0:XK:=λ_ _ _=>False
def Tb{X:Cx}:Passes KA X E0:=λ_ _ _ _ _ _ _ h=>h.elim
structure Mt(K:Ab)(x qual:Str)(st:Stmt)(f:Addr)(fd:FuncData):Prop where
 ex:∃(oc:IR) (od:Option Addr) (kV doc pm:IR) (an:Option Addr) (cdv ct:IR) (osl:Array (Option IR)),
  fd=Bu x qual (LU st) (Ko st) (I0 st) .none kV doc pm an cdv ct/\K.lookup f=some ⟨oc,od,.func fd,osl⟩/\Cm K cdv qual=true
 kp:Bf K (.ref f)=true
variable {qual:Str}{st:Stmt}{f:Addr}{ps:List Str}
section
variable {base:PP}
def Mt.ok{N:List Str}(F:Mt K x qual st f fd)(S:IP N ps (I0 st))(len:∀vs H Q E,sp vs H Q E->vs.length=ps.length)(b:∀(a:IR) (A:Around) (outer:List Env) (s:Shared) (H:Hp) (vs:List V) (Q:VK) (E:XK),HM k (A.deeper<|envOfC qual (I0 st) s.heap.objs.size f a)->sp vs H Q E ->
   ∃t,KO (JI KA P w K mg base N qual (I0 st) f a A outer s H E).nox (Ko st) t/\t {nx:=λ_ e=>Q .non e,rt:=Q} (start N vs) H):Jd P w K mg base KA (k+1) f fd ps sp:=by
 obtain⟨l,m,kV,doc,pm,an,a,n,g,rfl,i,c⟩:=F.ex;refine jZ i c S len λA outer s H vs Q E j d=>?_;obtain⟨t,h,q⟩:=b a A outer s H vs Q E j d;exact⟨t,h.nox,q⟩
def Mt.binds(F:Mt K x qual st f fd)(h:∀(kV doc pm:IR) (an:Option Addr) (a b:IR) (us:List IR),us.length=ps.length->bindArgs (Bu x qual (LU st) (Ko st) (I0 st) .none kV doc pm an a b) ⟨us,[]⟩=pure (ps.zip us)):Binds K fd ps []:=by
 obtain⟨c,d,kV,doc,pm,an,a,b,w,rfl,e,P⟩:=F.ex;exact .all<|h kV doc pm an a b
def Pb{x qual:Str}{st:Stmt}{e:IR}{g an:Option Addr}{b:Array (Option IR)}{kV doc pm a d:IR}(l:K.lookup f=some ⟨e,g,.func<|Bu x qual (LU st) (Ko st) (I0 st) .none kV doc pm an a d,b⟩)(c:Cm K a qual=true) (k:Bf K (.ref f)=true):Mt K x qual st f (Bu x qual (LU st) (Ko st) (I0 st) .none kV doc pm an a d):=⟨⟨e,g,kV,doc,pm,an,a,d,b,rfl,l,c⟩,k⟩
end
def Hw{A:Around}(a:HM k A):A.units+1<cLine:=BR (DE (by decide:1<=64) _) a.units
end L2
namespace L2.MP
open PySem PySem.Spec PyProof.Rows
inductive D where
 |non|bl (b:Bool)|int (i:Int)|str (x:Str)|tup (xs:List D)|ref (n:Nat)|kl (xs:List D)|fn (x:Str)|er (b:Bool) (c:Str) (f:Option (Str×Int))
inductive O where
 |lst (xs:List D)|fz (xs:List D)|dk (kvs:List (Key×D))|dt (kvs:List (List Key×D))|fk (kvs:List (Key×D))|ft (kvs:List (List Key×D))|ob (C:Addr) (fs:List (Str×D))|sz (n:Nat)|dz
noncomputable abbrev Hh:=List O
noncomputable abbrev HX:=List (Option D)
structure Kp(H H':Hp):Prop where
 tup:∀a xs,H a=some (.tup xs)->H' a=some (.tup xs)
 frz:∀a o u,H a=some (.frz o u)->H' a=some (.frz o u)
def Nk(K:Ab)(H:Hp)(a:Addr)(xs:List V):Prop:=(∃o,H a=some (.frz o<|.lst xs))\/∃(o:Obj) (b:Array IR) (n:Nat),K.lookup a=some o/\o.cls=.type "list"/\o.dict=none/\o.data=.seq b n/\b.size<=sizeLine/\Vals xs b.toList
variable {K:Ab}{H:Hp}{a:Addr}{xs:List V}
def Nk.sq(h:Nk K H a xs):JD K H a xs:=by
 rcases h with h|h
 ·exact .inl<|.inr h
 exact .inr h
variable {H':Hp}
def Nk.kp(T:Kp H H')(h:Nk K H a xs):Nk K H' a xs:=by
 rcases h with⟨o,h⟩|h
 ·exact .inl ⟨o,T.frz _ _ _ h⟩
 exact .inr h
def PV(K:Ab)(x:Str)(a:Addr):Prop:=Dx K SZ x=some (some<|.ref a)
def iI(C a:Addr)(b:Option Addr)(h:PP):Prop:=∃o fs,h.get? a=some o/\o.cls=.ref C/\o.dict=b/\o.data=.fields fs
def U4(K:Ab)(H:Hp)(v:V)(c:Str):Option (Str×Int)->Prop
 |none=>∃a C o,v=.ref a/\PV K c C/\H a=some (.frz o<|.ext<|iI C a none)
 |some (f,n)=>∃a C o b d,v=.ref a/\PV K c C/\H a=some (.frz o<|.ext<|iI C a<|some b)/\H b=some (.frz d<|.xd [(f,.int n)])
variable {v:V}
def U4.kp{c:Str}{f:Option (Str×Int)}(T:∀a o u,H a=some (.frz o u)->(∀ps,u≠.dT ps)->H' a=some (.frz o u))(h:U4 K H v c f):U4 K H' v c f:=by
 cases f with
 |none=>
  obtain⟨a,C,o,e,q,r⟩:=h;exact⟨a,C,o,e,q,T _ _ _ r<|by simp⟩
 |some p=>
  obtain⟨a,C,o,b,d,e,q,r,z⟩:=h;exact⟨a,C,o,b,d,e,q,T _ _ _ r<|by simp,T _ _ _ z<|by simp⟩
mutual
def Rep(K:Ab)(H:Hp)(io:List Addr):V->D->Prop
 |v,.non=>v=.non
 |v,.bl b=>v=.bl b
 |v,.int i=>v=.int i
 |v,.str x=>v=.str x
 |v,.tup ds=>∃a xs,v=.ref a/\H a=some (.tup xs)/\Hi K H io xs ds
 |v,.ref n=>∃a,v=.ref a/\io[n]?=some a
 |v,.kl ds=>∃a xs,v=.ref a/\Nk K H a xs/\Hi K H io xs ds
 |v,.fn x=>∃a,v=.ref a/\PV K x a
 |v,.er b c f=>b=true/\U4 K H v c f
def Hi(K:Ab)(H:Hp)(io:List Addr):List V->List D->Prop
 |xs,[]=>xs=[]
 |xs,d::ds=>∃y b,xs=y::b/\Rep K H io y d/\Hi K H io b ds
end
variable {io ka:List Addr}
mutual
theorem Rep.mono{K:Ab}{H H':Hp}{io ka:List Addr}(T:Kp H H'):∀{v:V}{d:D},Rep K H io v d->Rep K H' (io++ka) v d
 |_,.non,h=>h
 |_,.bl _,h=>h
 |_,.int _,h=>h
 |_,.str _,h=>h
 |_,.tup ds,h=>by obtain⟨a,xs,e,q,r⟩:=h;exact⟨a,xs,e,T.tup a xs q,Hi.mono T r⟩
 |_,.ref n,h=>by obtain⟨a,e,q⟩:=h;exact⟨a,e,by rw[Ar (KB.mp q).1];exact q⟩
 |_,.kl ds,h=>by obtain⟨a,xs,e,q,r⟩:=h;exact⟨a,xs,e,q.kp T,Hi.mono T r⟩
 |_,.fn _,h=>h
 |_,.er _ _ _,h=>⟨h.1,h.2.kp λa o u q _=>T.frz a o u q⟩
theorem Hi.mono{K:Ab}{H H':Hp}{io ka:List Addr}(T:Kp H H'):∀{xs:List V}{ds:List D},Hi K H io xs ds->Hi K H' (io++ka) xs ds
 |_,[],h=>h
 |_,d::ds,h=>by obtain⟨y,b,e,r,rs⟩:=h;exact⟨y,b,e,Rep.mono T r,Hi.mono T rs⟩
end
variable {H1 H2:Hp}{kb:List Addr}{st st':Hh}{d:D}{o:HO}{U:HX}{p:Addr}{ob:O}
section
variable {ys:List V}{ds es:List D}
theorem Hi.length:∀{xs:List V}{ds:List D},Hi K H io xs ds->xs.length=ds.length
 |_,[],h=>by rw[show _=[] from h];rfl
 |_,d::ds,h=>by obtain⟨y,ys,e,_,rs⟩:=h;rw[e,Aw,Aw,Hi.length rs]
theorem Hi.get:∀{xs:List V}{ds:List D}{i:Nat}{d:D},Hi K H io xs ds->ds[i]?=some d->∃v,xs[i]?=some v/\Rep K H io v d
 |_,[],_,_,_,e=>by simp at e
 |_,a::ds,0,d,h,e=>by
  obtain⟨y,ys,rfl,r,_⟩:=h;have o:a=d:=by simpa using e
  subst o;exact⟨y,rfl,r⟩
 |_,a::ds,i+1,d,h,e=>by obtain⟨y,ys,rfl,_,rs⟩:=h;exact Hi.get (i:=i) rs<|by simpa using e
theorem Hi.append:∀{xs ys:List V}{ds es:List D},Hi K H io xs ds->Hi K H io ys es->Hi K H io (xs++ys) (ds++es)
 |_,_,[],_,h,q=>by rw[show _=[] from h];exact q
 |_,_,d::ds,_,h,q=>by obtain⟨y,ys,rfl,r,rs⟩:=h;exact⟨y,_,rfl,r,Hi.append rs q⟩
theorem Hi.set:∀{xs:List V}{ds:List D}{v:V}{d:D} (i:Nat),Hi K H io xs ds->Rep K H io v d->Hi K H io (xs.set i v) (ds.set i d)
 |_,[],_,_,_,h,_=>by rw[show _=[] from h];exact rfl
 |_,a::ds,v,d,0,h,q=>by obtain⟨y,ys,rfl,_,rs⟩:=h;exact⟨v,ys,rfl,q,rs⟩
 |_,a::ds,v,d,i+1,h,q=>by obtain⟨y,ys,rfl,r,rs⟩:=h;exact⟨y,_,rfl,r,Hi.set i rs q⟩
theorem Hi.take:∀{xs:List V}{ds:List D} (n:Nat),Hi K H io xs ds->Hi K H io (xs.take n) (ds.take n)
 |_,[],n,h=>by rw[show _=[] from h];simp[Hi]
 |_,_::_,0,_=>by simp[Hi]
 |_,d::ds,n+1,h=>by obtain⟨y,ys,rfl,r,rs⟩:=h;exact⟨y,_,rfl,r,Hi.take n rs⟩
theorem Hi.drop:∀{xs:List V}{ds:List D} (n:Nat),Hi K H io xs ds->Hi K H io (xs.drop n) (ds.drop n)
 |_,[],n,h=>by rw[show _=[] from h];simp[Hi]
 |_,_::_,0,h=>h
 |_,d::ds,n+1,h=>by obtain⟨y,ys,rfl,r,rs⟩:=h;exact Hi.drop n rs
theorem Hi.nil:Hi K H io [] []:=rfl
def Hi.cons(r:Rep K H io v d)(rs:Hi K H io xs ds):Hi K H io (v::xs) (d::ds):=⟨v,xs,rfl,r,rs⟩
def Hi.one(r:Hi K H io xs [d]):∃v,xs=[v]/\Rep K H io v d:=by
 obtain⟨y,ys,rfl,r,e⟩:=r;cases (show ys=[] from e)
 exact⟨y,rfl,r⟩
def Hi.two{e:D}(r:Hi K H io xs [d,e]):∃v u,xs=[v,u]/\Rep K H io v d/\Rep K H io u e:=by obtain⟨y,ys,rfl,r,q⟩:=r;obtain⟨v,rfl,a⟩:=q.one;exact⟨y,v,rfl,r,a⟩
noncomputable abbrev KR (κ:Type) (K:Ab) (H:Hp) (io:List Addr):List (κ×V)->List (κ×D)->Prop:=Paired λ(p:κ×V) (q:κ×D)=>p.1=q.1/\Rep K H io p.2 q.2
def YN(a:Addr)(n:Nat)(h:PP):Prop:=∃o es d t,h.get? a=some o/\o.ExactSet/\o.data=.set es d t/\es.size<scanBound/\t.fits es.size=true/\es.size=n
def iJ(a:Addr)(h:PP):Prop:=∃o es d,h.get? a=some o/\o.ExactDict/\o.data=.dict es d
def OR(K:Ab)(H:Hp)(io:List Addr)(a:Addr):O->Prop
 |.lst ds=>∃xs,H a=some (.lst xs)/\Hi K H io xs ds
 |.fz ds=>∃o xs,H a=some (.frz o<|.lst xs)/\Hi K H io xs ds
 |.dk kvs=>∃ps,H a=some (.dK ps)/\KR Key K H io ps kvs
 |.dt kvs=>∃ps,H a=some (.dT ps)/\KR (List Key) K H io ps kvs
 |.fk kvs=>∃o ps,H a=some (.frz o<|.dK ps)/\KR Key K H io ps kvs
 |.ft kvs=>∃o ps,H a=some (.frz o<|.dT ps)/\KR (List Key) K H io ps kvs
 |.ob C fs=>∃b ps,H a=some (.ins C b ps)/\KR Str K H io ps fs
 |.sz n=>H a=some (.ext<|YN a n)
 |.dz=>H a=some (.ext<|iJ a)
structure HA(K:Ab)(H:Hp)(io:List Addr)(st:Hh):Prop where
 len:io.length=st.length
 nd:io.Nodup
 ob:∀(n:Nat) (a:Addr) (o:O),io[n]?=some a->st[n]?=some o->OR K H io a o
structure HK(K:Ab)(H:Hp)(io:List Addr)(σ:St)(U:HX):Prop where
 len:σ.length=U.length
 at_:∀(i:Nat) (d:D),U[i]?=some (some d)->∃v,σ[i]?=some (some v)/\Rep K H io v d
structure Ext(io ka:List Addr)(H H':Hp):Prop where
 keep:∀b o,H b=some o->b∉io->H' b=some o
 fresh:∀b,b∈ka->H b=none
 frz:∀b o u,H b=some (.frz o u)->H' b=some (.frz o u)
def OR.stands{o:O}(h:OR K H io a o):∃u,H a=some u/\∀xs,u≠.tup xs/\∀ob,u≠.frz ob (.tup xs):=by
 cases o with
 |lst ds=>obtain⟨xs,e,_⟩:=h;exact⟨_,e,λ_=>⟨by simp,by simp⟩⟩
 |fz ds=>obtain⟨ob,xs,e,_⟩:=h;exact⟨_,e,λ_=>⟨by simp,by simp⟩⟩
 |dk d=>obtain⟨xs,e,_⟩:=h;exact⟨_,e,λ_=>⟨by simp,by simp⟩⟩
 |dt d=>obtain⟨xs,e,_⟩:=h;exact⟨_,e,λ_=>⟨by simp,by simp⟩⟩
 |fk d=>obtain⟨ob,xs,e,_⟩:=h;exact⟨_,e,λ_=>⟨by simp,by simp⟩⟩
 |ft d=>obtain⟨ob,xs,e,_⟩:=h;exact⟨_,e,λ_=>⟨by simp,by simp⟩⟩
 |ob C fs=>obtain⟨p,xs,e,_⟩:=h;exact⟨_,e,λ_=>⟨by simp,by simp⟩⟩
 |sz n=>exact⟨_,h,λ_=>⟨by simp,by simp⟩⟩
 |dz=>exact⟨_,h,λ_=>⟨by simp,by simp⟩⟩
def HA.mem(S:HA K H io st)(h:a∈io):∃u,H a=some u/\∀xs,u≠.tup xs/\∀ob,u≠.frz ob (.tup xs):=by
 obtain⟨n,d,e⟩:=DF h;have o:io[n]?=some a:=by rw[Ah d,e]
 have p:n<st.length:=by rw[<-S.len];exact d
 exact(S.ob n a _ o<|Ah p).stands
def Ext.sqT(S:HA K H io st)(E:Ext io ka H H'):∀a xs,H a=some (.tup xs)->H' a=some (.tup xs):=by intro a xs h;refine E.keep _ _ h λm=>?_;obtain⟨u,e,q⟩:=S.mem m;rw[h]at e;exact(q xs).1 (Av e).symm
def Ext.kp(S:HA K H io st)(E:Ext io ka H H'):Kp H H':=⟨E.sqT S,E.frz⟩
def Ext.refl:Ext io [] H H:=⟨λ_ _ h _=>h,λ_ h=>absurd h (!2),λ_ _ _ h=>h⟩
def Ext.trans(S1:HA K H1 (io++ka) st)(E1:Ext io ka H H1)(E2:Ext (io++ka) kb H1 H2):Ext io (ka++kb) H H2 where
 keep:=λb o h n=>E2.keep b o (E1.keep b o h n) λm=>by
  rcases Os.mp m with m|m
  ·exact n m
  rw[E1.fresh b m]at h;cases h
 fresh:=λb m=>by
  rcases Os.mp m with m|m
  ·exact E1.fresh b m
  ·have a:=E2.fresh b m
   cases e:H b with
   |none=>rfl
   |some o=>
    by_cases d:b∈io
    ·obtain⟨u,p,_⟩:=S1.mem<|A4 _ d;rw[p]at a;cases a
    rw[E1.keep b o e d]at a;cases a
 frz:=λb o u h=>E2.frz b o u (E1.frz b o u h)
def Ext.app(E:Ext io (ka++[]) H H'):Ext io ka H H':=by rw[An]at E;exact E
def Rep.ext(S:HA K H io st)(E:Ext io ka H H')(h:Rep K H io v d):Rep K H' (io++ka) v d:=Rep.mono (E.kp S) h
def Hi.ext(S:HA K H io st)(E:Ext io ka H H')(h:Hi K H io xs ds):Hi K H' (io++ka) xs ds:=Hi.mono (E.kp S) h
def HK.ext{σ:St}{U:HX}(h:HK K H io σ U)(S:HA K H io st)(E:Ext io ka H H'):HK K H' (io++ka) σ U:=⟨h.len,λi d e=>let ⟨v,q,r⟩:=h.at_ i d e;⟨v,q,r.ext S E⟩⟩
def HK.set{σ:St}{U:HX}{v:V}{d:D}(i:Nat)(h:HK K H io σ U)(r:Rep K H io v d):HK K H io (σ.set i<|some v) (U.set i<|some d):=by
 refine⟨by rw[Bq,Bq];exact h.len,λj e q=>?_⟩
 by_cases hij:i=j
 ·subst hij;rw[Dl]at q;rw[if_pos rfl]at q
  split at q
  ·rename_i a
   cases (Av<|Av q)
   exact⟨v,by rw[Dl,if_pos rfl,if_pos (by rw[h.len];exact a)],r⟩
  ·cases q
 rw[Ak hij]at q;obtain⟨u,o,p⟩:=h.at_ j e q;exact⟨u,by rw[Ak hij];exact o,p⟩
def HA.nil(S:HA K H io st):HA K H (io++[]) st:=by rw[An];exact S
def KR.mono{κ:Type}{ps:List (κ×V)}{kvs:List (κ×D)}(T:Kp H H')(h:KR κ K H io ps kvs):KR κ K H' (io++ka) ps kvs:=Paired.mapP h λ_ _ z=>⟨z.1,Rep.mono T z.2⟩
def OR.mono{a:Addr}{o:O}(T:Kp H H')(e:H' a=H a)(h:OR K H io a o):OR K H' (io++ka) a o:=by
 cases o with
 |lst ds=>obtain⟨xs,q,r⟩:=h;exact⟨xs,e.trans q,Hi.mono T r⟩
 |fz ds=>obtain⟨ob,xs,q,r⟩:=h;exact⟨ob,xs,e.trans q,Hi.mono T r⟩
 |dk d=>obtain⟨xs,q,r⟩:=h;exact⟨xs,e.trans q,KR.mono T r⟩
 |dt d=>obtain⟨xs,q,r⟩:=h;exact⟨xs,e.trans q,KR.mono T r⟩
 |fk d=>obtain⟨ob,xs,q,r⟩:=h;exact⟨ob,xs,e.trans q,KR.mono T r⟩
 |ft d=>obtain⟨ob,xs,q,r⟩:=h;exact⟨ob,xs,e.trans q,KR.mono T r⟩
 |ob C fs=>obtain⟨p,xs,q,r⟩:=h;exact⟨p,xs,e.trans q,KR.mono T r⟩
 |sz n=>exact e.trans h
 |dz=>exact e.trans h
def Rf(S:HA K H io st)(c:H p=none):Ext io [] H (upd H p o)/\HA K (upd H p o) (io++[]) st:=by
 have E:Ext io [] H (upd H p o):=⟨λb u h _=>by rw[HV (J9 h c)];exact h,λ_ h=>absurd h (!2),λb u v h=>by rw[HV (J9 h c)];exact h⟩
 refine⟨E,?_⟩;refine⟨by rw[An];exact S.len,by rw[An];exact S.nd,λn a ob d U=>?_⟩;rw[An]at d;obtain⟨u,e,_⟩:=(S.ob n a ob d U).stands;exact OR.mono (E.kp S) (HV<|J9 e c)<|S.ob n a ob d U
def Qi(S:HA K H io st)(c:H p=none)(new:∀H',Kp H H'->H' p=some o->OR K H' (io++[p]) p ob):Ext io [p] H (upd H p o)/\HA K (upd H p o) (io++[p]) (st++[ob]):=by
 have E:Ext io [p] H (upd H p o):=⟨λb u h _=>by rw[HV (J9 h c)];exact h,λb h=>by rw[On.mp h];exact c,λb u v h=>by rw[HV (J9 h c)];exact h⟩
 have np:p∉io:=λm=>by obtain⟨u,g,_⟩:=S.mem m;rw[c]at g;cases g
 refine⟨E,by simp[S.len],?_,λn a U d f=>?_⟩
 ·rw[FW];refine⟨S.nd,by simp,λa i b j=>?_⟩;rw[On.mp j];rintro rfl;exact np i
 ·by_cases hn:n<io.length
  ·rw[Ar hn]at d;rw[Ar (by rw[<-S.len];exact hn)]at f;obtain⟨u,g,_⟩:=(S.ob n a U d f).stands;exact OR.mono (E.kp S) (HV<|J9 g c)<|S.ob n a U d f
  ·have l:n<(io++[p]).length:=(KB.mp d).1;rw[AB,Bm]at l;have e:n=io.length:=by omega
   subst e;rw[AZ (Ag _),C8]at d;rw[S.len,AZ (Ag _),C8]at f;cases (Av d);cases (Av f);exact new _ (E.kp S) Le
def M7{n:Nat}{o:HO}{old:O}(S:HA K H io st)(hn:io[n]?=some p)(g:st[n]?=some old)(nf:∀o u,H p≠some (.frz o u))(new:∀H',Kp H H'->H' p=some o->OR K H' (io++[]) p ob):Ext io [] H (upd H p o)/\HA K (upd H p o) (io++[]) (st.set n ob):=by
 have f:p∈io:=AF hn;have E:Ext io [] H (upd H p o):=⟨λb u h nb=>by rw[HV (λe=>nb (by rw[e];exact f))];exact h,λb h=>absurd h (!2),λb u v h=>by
  by_cases hb:b=p
  ·subst hb;exact absurd h<|nf u v
  rw[HV hb];exact h⟩
 refine⟨E,by simp[S.len],by rw[An];exact S.nd,λm a U h1 d=>?_⟩;rw[An]at h1
 by_cases hm:m=n
 ·subst hm;rw[hn]at h1
  cases (Av h1);rw[Dl,if_pos rfl]at d;split at d
  ·cases (Av d)
   exact new _ (E.kp S) Le
  ·cases d
 ·rw[Ak (λe=>hm e.symm)]at d;have c:a≠p:=λe=>by
   subst e;exact hm<|(FX (KB.mp h1).1 S.nd).mp<|h1.trans hn.symm
  exact OR.mono (E.kp S) (HV c)<|S.ob m a U h1 d
end
noncomputable abbrev ME:=HX->Hh->Option (D×Hh)
noncomputable abbrev MT:=HX->Hh->Option (Bool×Hh)
noncomputable abbrev MA:=HX->Hh->Option (List D×Hh)
inductive Fl where
 |nx (U:HX)|rt (d:D)|bk (U:HX)|ct (U:HX)
noncomputable abbrev MS:=HX->Hh->Option (Fl×Hh)
noncomputable abbrev MG:=D->HX->Hh->Option (HX×Hh)
noncomputable abbrev N4:=List D->HX->Hh->Option (HX×Hh)
def Bh(K:Ab)(io:List Addr)(H:Hp)(st':Hh)(d:D)(Q:VK):Prop:=∀v H' ka,Ext io ka H H'->HA K H' (io++ka) st'->Rep K H' (io++ka) v d->Q v H'
inductive tE (K:Ab) (m:ME) (σ:L2.St) (H:Hp) (Q:VK):Prop
 |mk (U:HX) (st:Hh) (io:List Addr) (d:D) (st':Hh) (h1:HK K H io σ U) (h2:HA K H io st) (h3:m U st=some (d,st')) (h4:Bh K io H st' d Q)
inductive tT (K:Ab) (m:MT) (σ:L2.St) (H:Hp) (Q:Bool->Hp->Prop):Prop
 |mk (U:HX) (st:Hh) (io:List Addr) (b:Bool) (st':Hh) (h1:HK K H io σ U) (h2:HA K H io st) (h3:m U st=some (b,st')) (h4:∀H' ka,Ext io ka H H'->HA K H' (io++ka) st'->Q b H')
inductive tA (K:Ab) (m:MA) (σ:L2.St) (H:Hp) (Q:List V->Hp->Prop):Prop
 |mk (U:HX) (st:Hh) (io:List Addr) (ds:List D) (st':Hh) (h1:HK K H io σ U) (h2:HA K H io st) (h3:m U st=some (ds,st')) (h4:∀vs H' ka,Ext io ka H H'->HA K H' (io++ka) st'->Hi K H' (io++ka) vs ds->Q vs H')
def tS(K:Ab)(m:MS):TS:=λN σ H=>∃U st io f st',HK K H io σ U/\HA K H io st/\m U st=some (f,st') /\
 match f with
 |.nx a=>∀σ' H' ka,Ext io ka H H'->HA K H' (io++ka) st'->HK K H' (io++ka) σ' a->N.nx σ' H'
 |.bk a=>∀σ' H' ka,Ext io ka H H'->HA K H' (io++ka) st'->HK K H' (io++ka) σ' a->N.bk σ' H'
 |.ct a=>∀σ' H' ka,Ext io ka H H'->HA K H' (io++ka) st'->HK K H' (io++ka) σ' a->N.ct σ' H'
 |.rt d=>Bh K io H st' d N.rt
inductive tG (K:Ab) (m:MG) (v:V) (σ:L2.St) (H:Hp) (Q:L2.St->Hp->Prop):Prop
 |mk (d:D) (U:HX) (st:Hh) (io:List Addr) (U':HX) (st':Hh) (h0:Rep K H io v d) (h1:HK K H io σ U) (h2:HA K H io st) (h3:m d U st=some (U',st')) (h4:∀σ' H' ka,Ext io ka H H'->HA K H' (io++ka) st'->HK K H' (io++ka) σ' U'->Q σ' H')
inductive tGs (K:Ab) (m:N4) (vs:List V) (σ:L2.St) (H:Hp) (Q:L2.St->Hp->Prop):Prop
 |mk (ds:List D) (U:HX) (st:Hh) (io:List Addr) (U':HX) (st':Hh) (h0:Hi K H io vs ds) (h1:HK K H io σ U) (h2:HA K H io st) (h3:m ds U st=some (U',st')) (h4:∀σ' H' ka,Ext io ka H H'->HA K H' (io++ka) st'->HK K H' (io++ka) σ' U'->Q σ' H')
def SE(X:Cx)(e:Pv)(m:ME):Prop:=PE X e<|tE X.K m
def SB(X:Cx)(e:Pv)(m:MT):Prop:=PT X e<|tT X.K m
def SA(X:Cx)(es:List Pv)(m:MA):Prop:=PA X es<|tA X.K m
def SS(X:Cx)(s:Stmt)(m:MS):Prop:=PS X s<|tS X.K m
def KN(X:Cx)(s:List Stmt)(m:MS):Prop:=KO X s<|tS X.K m
def SG(X:Cx)(e:Pv)(m:MG):Prop:=PG X e<|tG X.K m
def UX(X:Cx)(e:List Pv)(m:N4):Prop:=Nl X e<|tGs X.K m
variable {σ:L2.St}{b:Bool}{pos:Pos}{t u:TT}{Q:VK}{op:CmpOp}{s1:Hh}{rs:List Pv}
section
variable {X:Cx}{e a b c:Pv}{es:List Pv}{st1 st2:Stmt}{rest body orelse:List Stmt}{m ma mb mc:ME}{mt mu:MT}{mm:MA}{ms mq mr:MS}{mg:MG}{mgs:N4}
def PE.imp{t u:TE}(h:PE X e t)(k:∀σ H Q,u σ H Q->t σ H Q):PE X e u:=λa s σ H Q I q=>h a s σ H Q I<|k σ H Q q
def PT.imp(h:PT X e t)(k:∀σ H Q,u σ H Q->t σ H Q):PT X e u:=λa s σ H Q I q=>h a s σ H Q I<|k σ H Q q
def PA.imp{t u:TA}(h:PA X es t)(k:∀σ H Q,u σ H Q->t σ H Q):PA X es u:=λp a s σ H Q I q=>h p a s σ H Q I<|k σ H Q q
def PS.imp{t u:TS}(h:PS X st1 t)(k:∀N σ H,u N σ H->t N σ H):PS X st1 u:=λa s σ H N I q=>h a s σ H N I<|k N σ H q
def KO.imp{t u:TS}(h:KO X rest t)(k:∀N σ H,u N σ H->t N σ H):KO X rest u:=λa s σ H N I q=>h a s σ H N I<|k N σ H q
def PG.imp{t u:TG}(h:PG X e t)(k:∀v σ H Q,u v σ H Q->t v σ H Q):PG X e u:=λa s σ H v w Q I r q=>h a s σ H v w Q I r<|k v σ H Q q
def Nl.imp{t u:OU}(h:Nl X es t)(k:∀v σ H Q,u v σ H Q->t v σ H Q):Nl X es u:=λa s σ H v w Q I r q=>h a s σ H v w Q I r<|k v σ H Q q
def Hs{α β:Type}{x:Option α}{f:α->Option β}{y:β}(h:x.bind f=some y):∃z,x=some z/\f z=some y:=by
 cases x with
 |none=>cases h
 |some z=>exact⟨z,rfl,h⟩
def Bh.now(h:Bh K io H st d Q)(S:HA K H io st)(r:Rep K H io v d):Q v H:=h v H [] Ext.refl S.nil (by rw[An];exact r)
def Bh.on(h:Bh K io H st' d Q)(f:HA K H1 (io++ka) st)(E:Ext io ka H H1):Bh K (io++ka) H1 st' d Q:=λv H' kb a b r=>
 h v H' (ka++kb) (E.trans f a) (by rw[<-Am];exact b) (by rw[<-Am];exact r)
noncomputable def mV(i:Nat):ME:=λU st=>match U[i]? with
 |some (some d)=>some (d,st)
 |_=>none
def Hg(i:Nat){x:Str}(h:X.N[i]?=some x:=by rfl)(f:YK X.env.scope x:=by first|exact Br rfl|exact Bo (Br rfl)|exact Bo (Bo rfl))(hd:(x==("__debug__":Str))=false:=by decide)(g:(x==("__classdict__":Str))=false:=by decide):SE X (.Name x pos) (mV i):=PE.imp (mG h f hd g) <| by
 exists 1;unfold mV at e;split at e
 ·rename_i a he;cases e;obtain⟨v,f,r⟩:=E.at_ i _ he;exact⟨v,f,k.now S r⟩
 ·cases e
def mK(d:D):ME:=λ_ st=>some (d,st)
def Hm{i j pos}:SE X (.Constant (.int i) j pos) (mK<|.int i):=PE.imp lV <| by
 exists 1;cases e;exact k.now S rfl
def Nq{b j pos}:SE X (.Constant (.bool b) j pos) (mK<|.bl b):=PE.imp iX <| by
 exists 1;cases e;exact k.now S rfl
def My{x j pos}:SE X (.Constant (.str x) j pos) (mK<|.str x):=PE.imp mD <| by
 exists 1;cases e;exact k.now S rfl
def Tu{j pos}:SE X (.Constant .none j pos) (mK .non):=PE.imp lX <| by
 exists 1;cases e;exact k.now S rfl
noncomputable abbrev G2:=D->D->Hh->Option (D×Hh)
inductive R9 (K:Ab) (g:G2) (x y:V) (H:Hp) (Q:VK):Prop
 |mk (dx dy:D) (st:Hh) (io:List Addr) (d:D) (st':Hh) (h0:Rep K H io x dx) (h1:Rep K H io y dy) (h2:HA K H io st) (h3:g dx dy st=some (d,st')) (h4:Bh K io H st' d Q)
def Ji(X:Cx)(f:IR->IR->Sem IR)(g:G2):Prop:=JU X f<|R9 X.K g
def mB(g:G2)(ma mb:ME):ME:=λU st=>(ma U st).bind λ(x,s1)=>(mb U s1).bind λ(y,s2)=>g x y s2
def Uk{g:G2}(h:tE K (mB g ma mb) σ H Q):RX (R9 K g) (tE K ma) (tE K mb) σ H Q:=by obtain⟨U,st,io,d,st',E,S,e,k⟩:=h;obtain⟨⟨x,s1⟩,p,e⟩:=Hs e;obtain⟨⟨y,s2⟩,u,v⟩:=Hs e;refine⟨U,st,io,x,s1,E,S,p,λv1 H1 b c a R1=>?_⟩;refine⟨U,s1,io++b,y,s2,E.ext S c,a,u,λv2 H2 X m o R2=>?_⟩;exact⟨x,y,s2,(io++b)++X,d,st',R1.ext a m,R2,o,v,(k.on a c).on o m⟩
def HR{op:Operator}{g:G2}(f:Ji X (binaryOp op) g)(i:SE X a ma)(j:SE X b mb):SE X (.BinOp a op b pos) (mB g ma mb):=PE.imp (iZ f i j) λ_ _ _ h=>Uk h
def VU{g:G2}(f:Ji X (SL op) g)(i:SE X a ma)(j:SE X b mb)(hm:behindInMarks op b=false):SE X (.Compare a [op] [b] pos) (mB g ma mb):=PE.imp (sW f i j hm) λ_ _ _ h=>Uk h
def mT(m:ME):MT:=λU st=>(!9).bind λ(x,s1)=>match x with
 |.bl b=>some (b,s1)
 |_=>none
def Tp{b:Bool}(e:mT m U st=some (b,st')):m U st=some (.bl b,st'):=by
 obtain⟨⟨x,s1⟩,a,e⟩:=Hs e;exists 10;split at e
 ·cases e;exact a
 ·cases e
def Rv{Q:Bool->Hp->Prop}(h:tT K (mT m) σ H Q):tE K m σ H λx H'=>∃b,x=.bl b/\Q b H':=by obtain⟨U,st,io,b,st',E,S,e,k⟩:=h;exact⟨U,st,io,_,st',E,S,Tp e,λv H' ka a c d=>⟨b,d,k H' ka a c⟩⟩
def JN{g:G2}(f:Ji X (SL op) g)(i:SE X a ma)(j:SE X b mb)(hm:behindInMarks op b=false):SB X (.Compare a [op] [b] pos) (mT<|mB g ma mb):=PT.imp (tU f i j hm) λσ H Q h=>Uk (Rv h)
def Tc(h:SE X a m)(he:∀whole,isTrue a X.env whole=(do let v <-whole;standAt a.pos;holding [v] (truthy v)):=by intro _;rfl):SB X a (mT m):=PT.imp (cN h he) λσ H Q h=>by obtain⟨U,st,io,b,st',E,S,e,k⟩:=Rv h;refine⟨U,st,io,b,st',E,S,e,λv H' ka d o p=>?_⟩;obtain⟨c,u,q⟩:=k v H' ka d o p;subst u;exact⟨c,rfl,q⟩
def Me(m:MT):MT:=λU st=>(!9).map λ(b,s)=>(!b,s)
def Qj(h:SB X a mt):SB X (.UnaryOp .Not a pos) (Me mt):=PT.imp (nB h) <| by
 rintro σ H Q ⟨U,st,io,b,st',E,S,e,k⟩;unfold Me at e;cases c:mt U st with
 |none=>rw[c]at e;cases e
 |some p=>rw[c]at e;cases e;exact⟨U,st,io,_,_,E,S,c,λH' ka d m=>k H' ka d m⟩
def LB(m n:MT):MT:=λU st=>(!9).bind λ(b,s)=>if b=true then n U s else some (false,s)
def L4(m n:MT):MT:=λU st=>(!9).bind λ(b,s)=>if b=true then some (true,s)else n U s
def SW(X:Cx)(e:Pv)(m:MT):Prop:=PW X e<|tT X.K m
def PW.imp(h:PW X e t)(k:∀σ H Q,u σ H Q->t σ H Q):PW X e u:=λw a s σ H Q I q=>h w a s σ H Q I<|k σ H Q q
def SW.sb(h:SW X a mt):SB X a mt:=PW.pt h
def Qn(f:SB X a mt):SW X (.BoolOp .And [a] pos) mt:=NM f
def VQ(f:SB X a mt):SW X (.BoolOp .Or [a] pos) mt:=Pz f
def bG{n:MT}{Q:Bool->Hp->Prop}{b:Bool}(E:HK K H io σ U)(S:HA K H io st)(X1:Ext io ka H H1)(f:HA K H1 (io++ka) s1)(e:n U s1=some (b,st'))(k:∀H' ka,Ext io ka H H'->HA K H' (io++ka) st'->Q b H'):tT K n σ H1 Q:=⟨U,s1,io++ka,b,st',E.ext S X1,f,e,λH' kb a c=>k H' (ka++kb) (X1.trans f a) (by rw[<-Am];exact c)⟩
def Ov(f:SB X a mt)(g:SW X (.BoolOp .And (b::rs) pos) mu):SW X (.BoolOp .And (a::b::rs) pos) (LB mt mu):=PW.imp (PB f g) <| by
 exists 8;obtain⟨⟨x,s1⟩,m,e⟩:=Hs e;refine⟨U,st,io,x,s1,E,S,m,λH1 o c d=>?_⟩;cases x with
 |true=>rw[if_pos rfl];exact bG E S c d e k
 |false=>
  rw[if_neg (!1)];have p:some (false,s1)=some (v,st'):=e;cases p;exact k H1 o c d
def Vo(f:SB X a mt)(g:SW X (.BoolOp .Or (b::rs) pos) mu):SW X (.BoolOp .Or (a::b::rs) pos) (L4 mt mu):=PW.imp (Sd f g) <| by
 exists 8;obtain⟨⟨x,s1⟩,m,e⟩:=Hs e;refine⟨U,st,io,x,s1,E,S,m,λH1 o c d=>?_⟩;cases x with
 |false=>rw[if_neg (!1)];exact bG E S c d e k
 |true=>
  rw[if_pos rfl];have p:some (true,s1)=some (v,st'):=e;cases p;exact k H1 o c d
def OZ(m n:ME):ME:=λU st=>(mT m U st).bind λ(b,s)=>if b=true then n U s else some (.bl false,s)
def SY(m:ME):ME:=λU st=>(mT m U st).map λ(b,s)=>(.bl !b,s)
def VH{n:ME}(E:HK K H io σ U)(S:HA K H io st)(f:Ext io ka H H1)(g:HA K H1 (io++ka) s1)(e:n U s1=some (d,st'))(k:Bh K io H st' d Q):tE K n σ H1 Q:=⟨U,s1,io++ka,d,st',E.ext S f,g,e,k.on g f⟩
def We(f:SE X a ma):SE X (.BoolOp .And [a] pos) ma:=mC f
def Q9(f:SE X a ma)(g:SE X (.BoolOp .And (b::rs) pos) mb):SE X (.BoolOp .And (a::b::rs) pos) (OZ ma mb):=PE.imp (lS f g) <| by
 exists 8;obtain⟨⟨x,s1⟩,m,e⟩:=Hs e;refine⟨U,st,io,.bl x,s1,E,S,Tp m,λv1 H1 o c d p=>⟨x,p,?_⟩⟩;cases x with
 |true=>rw[if_pos rfl];exact VH E S c d e k
 |false=>
  rw[if_neg (!1)];have u:some (D.bl false,s1)=some (v,st'):=e;cases u;exact k _ H1 o c d rfl
def oZ(f:SE X a ma):SE X (.UnaryOp .Not a pos) (SY ma):=PE.imp (lZ f) <| by
 exists 8;unfold SY at e;cases b:mT ma U st with
 |none=>rw[b]at e;cases e
 |some p=>
  rw[b]at e;cases e;exact⟨U,st,io,_,_,E,S,Tp b,λv1 H1 c d m o=>⟨_,o,k _ H1 c d m rfl⟩⟩
def L5(c:MT)(m n:ME):ME:=λU st=>(c U st).bind λ(b,s)=>if b=true then m U s else n U s
def qE(f:SB X c mt)(g:SE X a ma)(h:SE X b mb):SE X (.IfExp c a b pos) (L5 mt ma mb):=PE.imp (vQ f g h) <| by
 exists 8;obtain⟨⟨x,s1⟩,o,e⟩:=Hs e;refine⟨U,st,io,x,s1,E,S,o,λH1 p d m=>?_⟩;cases x with
 |true=>rw[if_pos rfl];exact VH E S d m e k
 |false=>rw[if_neg (!1)];exact VH E S d m e k
end
end L2.MP
set_option linter.unusedVariables false
namespace L2.MP
open PySem PySem.Spec PyProof.Rows
variable {X:Cx}{e a b c o tg iter:Pv}{es:List Pv}{st1 st2:Stmt}{rest body orelse:List Stmt}{pos pos':Pos}{m ma mb mc:ME}{mt mu:MT}{mm:MA}{ms mq mr:MS}{mg:MG}{mgs:N4}{K:Ab}{H H1 H2:Hp}{io ka kb:List Addr}{st st' s1:Hh}{α:Type}{x:Str}{ds:List D}{vs:List V}{Q:VK}{p:Addr}{σ:L2.St}{T:String}{k n i:Nat}{f:Fl}{fd:FuncData}{U:HX}{N:Ends}
def mZ:MA:=λ_ st=>some ([],st)
def Hf(m:ME)(mm:MA):MA:=λU st=>(!9).bind λ(x,s1)=>(mm U s1).bind λ(xs,s2)=>some (x::xs,s2)
def Hq:SA X [] mZ:=PA.imp ZI <| by
 rintro σ H Q ⟨U,st,io,ds,st',E,S,e,k⟩;cases e;exact k [] H [] Ext.refl S.nil Hi.nil
def Hk(d:SE X e m)(g:SA X es mm)(h:Qqb X.env e es:=by rfl):SA X (e::es) (Hf m mm):=PA.imp (V6 d g h) <| by rintro σ H Q ⟨U,st,io,ds,st',E,S,e,k⟩;obtain⟨⟨x,s1⟩,f,e⟩:=Hs e;obtain⟨⟨xs,s2⟩,i,e⟩:=Hs e;cases e;refine⟨U,st,io,x,s1,E,S,f,λv1 H1 b X1 a R1=>⟨U,s1,io++b,xs,_,E.ext S X1,a,i,λvs H2 n c o R2=>?_⟩⟩;exact k _ H2 (b++n) (X1.trans a c) (by rw[<-Am];exact o) (by rw[<-Am];exact Hi.cons (R1.ext a c) R2)
def fits(n:Nat):Bool:=decide (n<=sizeLine)
def mU(mm:MA):ME:=λU st=>(mm U st).bind λ(xs,s)=>if fits xs.length=true then some (.tup xs,s)else none
def mL(mm:MA):ME:=λU st=>(mm U st).bind λ(xs,s)=>if fits xs.length=true then some (.ref s.length,s++[.lst xs])else none
def Iu{c:Prop}[Decidable c]{x:Option α}{y:α}(h:(if c then x else none)=some y):c/\x=some y:=by
 by_cases hc:c
 ·rw[if_pos hc]at h;exact⟨hc,h⟩
 rw[if_neg hc]at h;cases h
def Bh.tup{ds:List D}{vs:List V}{Q:VK}{p:Addr}(k:Bh K io H st (.tup ds) Q)(S:HA K H io st)(R:Hi K H io vs ds)(d:H p=none):Q (.ref p) (upd H p<|.tup vs):=by obtain⟨E,a⟩:=Rf (o:=.tup vs) S d;refine k _ _ [] E a ⟨p,vs,rfl,Le,R.ext S E⟩
def getElem?_len(l:List α)(x:α):(l++[x])[l.length]?=some x:=by rw[AZ (Ag _),C8];rfl
def Bh.lst{ds:List D}{vs:List V}{Q:VK}{p:Addr}(k:Bh K io H (st++[.lst ds]) (.ref st.length) Q)(S:HA K H io st)(R:Hi K H io vs ds)(d:H p=none):Q (.ref p) (upd H p<|.lst vs):=by obtain⟨E,a⟩:=Qi (o:=.lst vs) (ob:=.lst ds) S d λb T e=>⟨vs,e,Hi.mono T R⟩;exact k _ _ [p] E a ⟨p,rfl,by rw[<-S.len];exact getElem?_len io p⟩
def IY{x1}(h:SA X es mm):SE X (.Tuple es x1 pos) (mU mm):=PE.imp (mE h) <| by rintro σ H Q ⟨U,st,io,d,st',E,S,e,k⟩;obtain⟨⟨xs,s1⟩,b,e⟩:=Hs e;obtain⟨hf,e⟩:=Iu e;cases e;refine⟨U,st,io,xs,_,E,S,b,λvs H1 i c a R1=>⟨by rw[R1.length];exact of_decide_eq_true hf,λp f=>(k.on a c).tup a R1 f⟩⟩
def Kt(h:SA X es mm):SE X (.List es pos) (mL mm):=PE.imp (lW h) <| by rintro σ H Q ⟨U,st,io,d,st',E,S,e,k⟩;obtain⟨⟨xs,s1⟩,b,e⟩:=Hs e;obtain⟨hf,e⟩:=Iu e;cases e;refine⟨U,st,io,xs,_,E,S,b,λvs H1 i c a R1=>⟨by rw[R1.length];exact of_decide_eq_true hf,λp f=>(k.on a c).lst a R1 f⟩⟩
noncomputable abbrev GN:=List D->Hh->Option (D×Hh)
inductive iA (K:Ab) (g:GN) (xs:List V) (H:Hp) (Q:VK):Prop
 |mk (ds:List D) (st:Hh) (io:List Addr) (d:D) (st':Hh) (h1:Hi K H io xs ds) (h2:HA K H io st) (h3:g ds st=some (d,st')) (h4:Bh K io H st' d Q)
def Jy(X:Cx)(f:IR)(g:GN):Prop:=MZ X f<|iA X.K g
def Hr(g:GN)(mm:MA):ME:=λU st=>(mm U st).bind λ(xs,s)=>g xs s
def eY{g:GN}(h:tE K (Hr g mm) σ H Q):X0 (iA K g) (tA K mm) σ H Q:=by obtain⟨U,st,io,d,st',E,S,e,k⟩:=h;obtain⟨⟨xs,s1⟩,b,e⟩:=Hs e;exact⟨U,st,io,xs,s1,E,S,b,λvs H1 c f a i=>⟨xs,s1,io++c,d,st',i,a,e,k.on a f⟩⟩
def xS{p:Pos}{id:String}{g:GN}(l:Jy X (.builtin id) g)(q:Gl X x)(hm:X.mg x=none)(r:W1 x=some (.builtin id))(s:SA X (e::es) mm)(hn:x≠"__name__":=by decide)(d:(x==("__debug__":Str))=false:=by decide)(he:Qqb X.env e es:=by rfl) (j:Qqc pos es X.env:=by rfl):SE X (.Call (.Name x p) (e::es) [] pos) (Hr g mm):=
 PE.imp (bI l q hm r s hn d he j) λ_ _ _ h=>eY h
def zlQ{p:Pos}{g:GN}(l:Jy X (.type T) g)(q:Gl X x)(hm:X.mg x=none)(r:W1 x=some (.type T))(s:SA X (e::es) mm)(hn:x≠"__name__":=by decide)(d:(x==("__debug__":Str))=false:=by decide)(he:Qqb X.env e es:=by rfl) (j:Qqc pos es X.env:=by rfl):SE X (.Call (.Name x p) (e::es) [] pos) (Hr g mm):=
 PE.imp (zl4 l q hm r s hn d he j) λ_ _ _ h=>eY h
def MK(K:Ab)(n:Nat)(g:GN):Sp:=λvs H Q _=>∃ds st io d st',vs.length=n/\Hi K H io vs ds/\HA K H io st/\g ds st=some (d,st')/\Bh K io H st' d Q
def rT{p:Pos}{f:Addr}{ps:List Str}{g:GN}(F:Jd X.prog X.w X.K X.mg X.base KA k f fd ps (MK X.K n g))(l:HM k X.A)(q:Gl X x)(hm:X.mg x=some (.ref f))(hk:Bf X.K (.ref f)=true)(r:Binds X.K fd ps [])(u:SA X (e::es) mm) (h:(x==("__debug__":Str))=false:=by decide) (he:Qqb X.env e es:=by rfl) (j:Qqc pos es X.env:=by rfl) (hn:(e::es).length=n:=by rfl)(v:∀U st xs s,mm U st=some (xs,s)->xs.length=n):
  SE X (.Call (.Name x p) (e::es) [] pos) (Hr g mm):=PE.imp (sV F l q hm hk r .nil Tb u h he j) <| by
 exists 1;obtain⟨⟨xs,s1⟩,a,e⟩:=Hs e;refine⟨U,st,io,xs,s1,E,S,a,λvs H1 c i b R1=>⟨xs,s1,io++c,d,st',?_,?_,b,e,k.on b i⟩⟩
 ·rw[An,R1.length];exact v _ _ _ _ a
 rw[An];exact R1
def wI{xs:List D}{s:Hh}(h:mZ U st=some (xs,s)):xs.length=0:=by cases h;rfl
def yQ{U:HX}{st:Hh}{xs:List D}{s:Hh}(d:∀U st xs s,mm U st=some (xs,s)->xs.length=n)(h:Hf m mm U st=some (xs,s)):xs.length=n+1:=by obtain⟨⟨x,s1⟩,b,e⟩:=Hs h;obtain⟨⟨c,s2⟩,a,e⟩:=Hs e;cases e;rw[Aw,d _ _ _ _ a]
def Wn(K:Ab)(io:List Addr)(H:Hp)(st':Hh)(N:Ends):Fl->Prop
 |.nx h=>∀σ' g ka,Ext io ka H g->HA K g (io++ka) st'->HK K g (io++ka) σ' h->N.nx σ' g
 |.bk h=>∀σ' g ka,Ext io ka H g->HA K g (io++ka) st'->HK K g (io++ka) σ' h->N.bk σ' g
 |.ct h=>∀σ' g ka,Ext io ka H g->HA K g (io++ka) st'->HK K g (io++ka) σ' h->N.ct σ' g
 |.rt d=>Bh K io H st' d N.rt
inductive tSi (K:Ab) (m:MS) (N:Ends) (σ:L2.St) (H:Hp):Prop
 |mk (U:HX) (st:Hh) (io:List Addr) (f:Fl) (st':Hh) (h1:HK K H io σ U) (h2:HA K H io st) (h3:m U st=some (f,st')) (h4:Wn K io H st' N f)
def Ll:tS K ms N σ H ↔ tSi K ms N σ H:=by
 constructor
 ·rintro⟨U,st,io,f,st',E,S,e,k⟩;exact⟨U,st,io,f,st',E,S,e,by cases f<;>exact k⟩
 rintro⟨U,st,io,f,st',E,S,e,k⟩;exact⟨U,st,io,f,st',E,S,e,by cases f<;>exact k⟩
def Oo{P:L2.St->Hp->Prop}{g:HX}(h:∀σ' d ka,Ext io ka H d->HA K d (io++ka) st'->HK K d (io++ka) σ' g->P σ' d)(X1:Ext io ka H H1)(j:HA K H1 (io++ka) st):
  ∀σ' d kb,Ext (io++ka) kb H1 d->HA K d ((io++ka)++kb) st'->HK K d ((io++ka)++kb) σ' g->P σ' d:=λσ' d kb a b c=>
 h σ' d (ka++kb) (X1.trans j a) (by rw[<-Am];exact b) (by rw[<-Am];exact c)
def Wn.on{N:Ends}{f:Fl}(h:Wn K io H st' N f)(g:Ext io ka H H1)(j:HA K H1 (io++ka) st):Wn K (io++ka) H1 st' N f:=by
 cases f with
 |nx a=>exact Oo h g j
 |bk a=>exact Oo h g j
 |ct a=>exact Oo h g j
 |rt d=>exact Bh.on h j g
def O6(E:HK K H io σ U)(S:HA K H io st)(e:ms U st=some (f,st'))(w:Wn K io H st' N f):tS K ms N σ H:=Ll.mpr ⟨U,st,io,f,st',E,S,e,w⟩
def Vq(g:Ext io ka H H1)(d:HA K H1 (io++ka) s1)(E:HK K H1 (io++ka) σ U)(e:ms U s1=some (f,st'))(w:Wn K io H st' N f):tS K ms N σ H1:=O6 E d e (w.on g d)
def Jm:MS:=λU st=>some (.nx U,st)
def sS:KN X [] Jm:=KO.imp tQ λN σ H h=>by obtain⟨U,st,io,f,st',E,S,e,w⟩:=Ll.mp h;cases e;exact w σ H [] Ext.refl S.nil (by rw[An];exact E)
noncomputable def mS(m n:MS):MS:=λU st=>(!9).bind λ(f,s)=>match f with
 |.nx a=>n a s
 |f=>some (f,s)
def xM(g:SS X st1 ms)(j:KN X rest mq):KN X (st1::rest) (mS ms mq):=KO.imp (vY g j) λN σ H h=>by
 exists 2;obtain⟨⟨f1,s1⟩,b,e⟩:=Hs e;refine O6 E S b ?_;cases f1 with
 |nx a=>exact λσ' n ka c i m=>Vq c i m e w
 |bk a=>cases e;exact w
 |ct a=>cases e;exact w
 |rt d=>cases e;exact w
def vL(d:SS X st1 ms):KN X [st1] ms:=tR d
def Iq(m:ME):MS:=λU st=>(!9).map λ(_,s)=>(.nx U,s)
noncomputable def mR(m:ME):MS:=λU st=>(!9).map λ(d,s)=>(.rt d,s)
def Ia{β:Type}{x:Option α}{f:α->β}{y:β}(h:x.map f=some y):∃z,x=some z/\f z=y:=by
 cases x with
 |none=>cases h
 |some z=>exact⟨z,rfl,Av h⟩
def Kr(he:SE X e m)(g:swapsWith e none pos.line X.env=pure false:=by rfl):SS X (.Expr e pos) (Iq m):=PS.imp (tO he g) λN σ H h=>by obtain⟨U,st,io,f,st',E,S,e,w⟩:=Ll.mp h;obtain⟨⟨d,s1⟩,b,e⟩:=Ia e;cases e;exact⟨U,st,io,d,_,E,S,b,λv c ka a i n=>w σ c ka a i (E.ext S a)⟩
def IS(he:SE X e m):SS X (.Return (some e) pos) (mR m):=PS.imp (mY he) λN σ H h=>by obtain⟨U,st,io,f,st',E,S,e,w⟩:=Ll.mp h;obtain⟨⟨d,s1⟩,a,e⟩:=Ia e;cases e;exact⟨U,st,io,d,_,E,S,a,w⟩
def Jf(c:MT)(m n:MS):MS:=λU st=>(c U st).bind λ(b,s)=>if b=true then m U s else n U s
def jI(d:SB X c mt)(g:KN X body ms)(j:KN X orelse mq):SS X (.If c body orelse pos) (Jf mt ms mq):=PS.imp (jB d g j) λN σ H h=>by
 exists 2;obtain⟨⟨x,s1⟩,i,e⟩:=Hs e;refine⟨U,st,io,x,s1,E,S,i,λH1 m a b=>?_⟩;cases x with
 |true=>rw[if_pos rfl];exact Vq a b (E.ext S a) e w
 |false=>rw[if_neg (!1)];exact Vq a b (E.ext S a) e w
def Ho(i:Nat):MG:=λd U st=>some (U.set i (some d),st)
def sI(g:X.N.Nodup)(hi:X.N[i]?=some x)(h:Loc X.env.scope x)(hf:X.fn x=true\/X.env.scope.names.lookup x=some .local:=by first|exact .inl rfl|exact .inr rfl|assumption):SG X (.Name x pos) (Ho i):=PG.imp (tH g hi h hf) <| by rintro v σ H Q ⟨d,U,st,io,a,st',R,E,S,e,k⟩;cases e;exact k _ H [] Ext.refl S.nil (by rw[An];exact E.set i R)
def J6:N4:=λds U st=>match ds with
 |[]=>some (U,st)
 |_=>none
def gC(g:MG)(h:N4):N4:=λds U st=>match ds with
 |d::r=>(g d U st).bind λ(a,s1)=>h r a s1
 |[]=>none
def Nz:UX X [] J6:=Nl.imp tJ <| by
 rintro v σ H Q ⟨ds,U,st,io,a,st',R,E,S,e,k⟩;cases ds with
 |nil=>cases e;exact⟨R,k σ H [] Ext.refl S.nil (by rw[An];exact E)⟩
 |cons d r=>cases e
def Ks(g:SG X e mg)(h:UX X es mgs)(j:(assignEach (e::es) X.env).map (·.2)=assign e X.env::(assignEach es X.env).map (·.2):=by rfl):UX X (e::es) (gC mg mgs):=
 Nl.imp (vS g h j) <| by
  rintro v σ H Q ⟨ds,U,st,io,f,st',R,E,S,e,k⟩;cases ds with
  |nil=>cases e
  |cons d r=>
   obtain⟨y,i,rfl,m,rs⟩:=R;obtain⟨⟨a,s1⟩,n,e⟩:=Hs e;refine⟨y,i,rfl,d,U,st,io,a,s1,m,E,S,n,λσ1 H1 o b c p=>?_⟩;exact⟨r,a,s1,io++o,f,st',rs.ext S b,p,c,e,Oo k b c⟩
def J5(n:Nat)(h:N4):MG:=λd U st=>match d with
 |.tup ds=>if ds.length=n then h ds U st else none
 |_=>none
def Nw(j:X.calm=true)(h:UX X es mgs)(hn:(assignEach es X.env).length=n:=by rfl)(g:(assignEach es X.env).findIdx? (·.1)=none:=by rfl):SG X (.Tuple es k pos) (J5 n mgs):=
 PG.imp (mI j h hn g) <| by
  rintro v σ H Q ⟨d,U,st,io,b,st',R,E,S,e,k⟩;cases d with
  |tup ds=>
   obtain⟨a,xs,rfl,c,rs⟩:=R;obtain⟨f,e⟩:=Iu e;exact⟨a,xs,rfl,IM.of c,by rw[rs.length];exact f,ds,U,st,io,b,st',rs,E,S,e,k⟩
  |_=>cases e
noncomputable abbrev G3:=D->D->D->Hh->Option Hh
inductive RW (K:Ab) (g:G3) (o i v:V) (H:Hp) (Q:Hp->Prop):Prop
 |mk (d1 d2 d3:D) (st:Hh) (io:List Addr) (st':Hh) (h0:Rep K H io o d1) (h1:Rep K H io i d2) (h2:Rep K H io v d3) (h3:HA K H io st) (h4:g d1 d2 d3 st=some st') (h5:∀H' ka,Ext io ka H H'->HA K H' (io++ka) st'->Q H')
def Sy(X:Cx)(g:G3):Prop:=PR X<|RW X.K g
def Nj(g:G3)(mo h:ME):MG:=λd U st=>(mo U st).bind λ(o,s1)=>(h U s1).bind λ(i,s2)=>(g o i d s2).map λs3=>(U,s3)
def pB{i:Pv}{mo l:ME}{g:G3}(q:SE X o mo)(hi:SE X i l)(r:Sy X g)(s:∀v,assign (.Subscript o i pos) X.env v=(do
   let h <-holding [v] (UV o X.env)
   let j <-holding [v,h] (UV i X.env)
   standAt pos
   holding [v,h,j] (setItem h j v)
   release [v,h,j] []):=by intro _;rfl):SG X (.Subscript o i pos) (Nj g mo l):=
 PG.imp (mH q hi r s) <| by rintro v σ H Q ⟨d,U,st,io,A,st',R,E,S,e,k⟩;obtain⟨⟨x,s1⟩,N,e⟩:=Hs e;obtain⟨⟨y,s2⟩,T,e⟩:=Hs e;obtain⟨s3,u,e⟩:=Ia e;cases e;refine⟨U,st,io,x,s1,E,S,N,λv1 H1 a X1 b R1=>⟨U,s1,io++a,y,s2,E.ext S X1,b,T,λv2 H2 f m c R2=>?_⟩⟩;have X12:=X1.trans b m;refine⟨x,y,d,s2,(io++a)++f,_,R1.ext b m,R2,(R.ext S X1).ext b m,c,u,λw z n p=>?_⟩;rw[Am]at n c;rw[Am,Am]at p;refine k σ w ((a++f)++z) (X12.trans c n) (by simpa using p) ?_;have E2:HK X.K H2 (io++(a++f)) σ U:=E.ext S X12;have:=E2.ext c n;simpa using this
def Ht(m:ME)(g:MG):MS:=λU st=>(!9).bind λ(d,s1)=>(g d U s1).map λ(a,s2)=>(.nx a,s2)
def zC(h:tS K (Ht m mg) N σ H):Px (tE K m) (tG K mg) N σ H:=by obtain⟨U,st,io,f,st',E,S,e,w⟩:=Ll.mp h;obtain⟨⟨x,s1⟩,c,e⟩:=Hs e;obtain⟨⟨i,s2⟩,n,e⟩:=Ia e;cases e;exact⟨U,st,io,x,s1,E,S,c,λv1 H1 o a b p=>⟨x,U,s1,io++o,i,_,p,E.ext S a,b,n,Oo w a b⟩⟩
def VO(he:SE X e m)(d:SG X tg mg)(g:swapsWithSole [tg] e pos.line X.env=pure false:=by rfl)(hw:swappedStores [tg] e X.env=pure none:=by rfl)(j:(assignEach [tg] X.env).map (·.2)=[assign tg X.env]:=by rfl):SS X (.Assign [tg] e pos) (Ht m mg):=PS.imp (mO he d g hw j) λ_ _ _ h=>zC h
def pK(d:X.N.Nodup)(hi:X.N[i]?=some x)(g:Loc X.env.scope x)(he:SE X e m)(j:swapsWith e (some<|.Name x pos') pos.line X.env=pure false:=by rfl)(hf:X.fn x=true\/X.env.scope.names.lookup x=some .local:=by first|exact .inl rfl|exact .inr rfl|assumption):
  SS X (.Assign [.Name x pos'] e pos) (Ht m<|Ho i):=PS.imp (nA d hi g he j hf) λN σ H h=>by
 exists 2;obtain⟨⟨x,s1⟩,b,e⟩:=Hs e;obtain⟨⟨K,s2⟩,c,e⟩:=Ia e;cases e;cases c;exact⟨U,st,io,x,_,E,S,b,λv1 H1 n a o p=>w _ H1 n a o ((E.ext S a).set i p)⟩
structure Wk where
 ds:List D
 g:List (Nat×List D)
def stays(W:Wk)(st:Hh):Prop:=∀p,p∈W.g->st[p.1]?=some (.lst p.2)\/st[p.1]?=some (.fz p.2)
structure Lx(K:Ab)(H0:Hp)(io:List Addr)(W:Wk)(J:It):Prop where
 go:∀i d H ka st,W.ds[i]?=some d->Ext io ka H0 H->HA K H (io++ka) st->stays W st->J.go i H/\∀x H',J.yld i H x H'->Ext (io++ka) [] H H'/\HA K H' (io++ka) st/\Rep K H' (io++ka) x d
 stop:∀H ka st,Ext io ka H0 H->HA K H (io++ka) st->stays W st->J.stop W.ds.length H
 stop':∀H ka st i,W.ds.length<=i->Ext io ka H0 H->HA K H (io++ka) st->stays W st->J.stop i H
noncomputable abbrev MI:=HX->Hh->Option (Wk×Hh)
inductive tI (K:Ab) (m:MI) (σ:L2.St) (H:Hp) (R:It->Hp->Prop):Prop
 |mk (U:HX) (st:Hh) (io:List Addr) (W:Wk) (st':Hh) (h1:HK K H io σ U) (h2:HA K H io st) (h3:m U st=some (W,st')) (h4:∀J H' ka,Ext io ka H H'->HA K H' (io++ka) st'->Lx K H' (io++ka) W J->R J H')
def SI(X:Cx)(tg iter:Pv)(m:MI):Prop:=PI X tg iter<|tI X.K m
def PI.imp{t u:TI}(h:PI X tg iter t)(k:∀σ H R,u σ H R->t σ H R):PI X tg iter u:=λa s σ H R I q=>h a s σ H R I<|k σ H R q
mutual
def D.eqb:D->D->Bool
 |.non,.non=>true
 |.bl a,.bl b=>a==b
 |.int a,.int b=>decide (a=b)
 |.str a,.str b=>decide (a=b)
 |.tup a,.tup b=>D.eqbs a b
 |.ref a,.ref b=>decide (a=b)
 |.kl a,.kl b=>D.eqbs a b
 |.fn a,.fn b=>decide (a=b)
 |.er a b c,.er a2 d g=>decide (a=a2/\b=d/\c=g)
 |_,_=>false
def D.eqbs:List D->List D->Bool
 |[],[]=>true
 |a::as,b::bs=>D.eqb a b&&D.eqbs as bs
 |_,_=>false
end
mutual
theorem D.eqb_refl:∀a:D,D.eqb a a=true
 |.non=>rfl
 |.bl a=>by simp[D.eqb]
 |.int a=>by simp[D.eqb]
 |.str a=>by simp[D.eqb]
 |.tup a=>by rw[D.eqb];exact D.eqbs_refl a
 |.ref a=>by simp[D.eqb]
 |.kl a=>by rw[D.eqb];exact D.eqbs_refl a
 |.fn a=>by simp[D.eqb]
 |.er a b c=>by simp[D.eqb]
theorem D.eqbs_refl:∀a:List D,D.eqbs a a=true
 |[]=>rfl
 |a::as=>by rw[D.eqbs,D.eqb_refl a,D.eqbs_refl as];rfl
end
mutual
theorem D.eq_of:∀{a b:D},D.eqb a b=true->a=b
 |.non,b,h=>by cases b<;>simp[D.eqb]at h ⊢
 |.bl a,b,h=>by cases b<;>simp[D.eqb]at h ⊢;exact h
 |.int a,b,h=>by cases b<;>simp[D.eqb]at h ⊢;exact h
 |.str a,b,h=>by cases b<;>simp[D.eqb]at h ⊢;exact h
 |.tup a,.tup b,h=>by rw[D.eqb]at h;rw[D.eqs_of h]
 |.tup a,.non,h=>by simp[D.eqb]at h
 |.tup a,.bl _,h=>by simp[D.eqb]at h
 |.tup a,.int _,h=>by simp[D.eqb]at h
 |.tup a,.str _,h=>by simp[D.eqb]at h
 |.tup a,.ref _,h=>by simp[D.eqb]at h
 |.tup a,.kl _,h=>by simp[D.eqb]at h
 |.tup a,.fn _,h=>by simp[D.eqb]at h
 |.tup a,.er _ _ _,h=>by simp[D.eqb]at h
 |.kl a,.kl b,h=>by rw[D.eqb]at h;rw[D.eqs_of h]
 |.kl a,.non,h=>by simp[D.eqb]at h
 |.kl a,.bl _,h=>by simp[D.eqb]at h
 |.kl a,.int _,h=>by simp[D.eqb]at h
 |.kl a,.str _,h=>by simp[D.eqb]at h
 |.kl a,.ref _,h=>by simp[D.eqb]at h
 |.kl a,.tup _,h=>by simp[D.eqb]at h
 |.kl a,.fn _,h=>by simp[D.eqb]at h
 |.kl a,.er _ _ _,h=>by simp[D.eqb]at h
 |.fn a,b,h=>by cases b<;>simp[D.eqb]at h ⊢;exact h
 |.er a b c,d,h=>by cases d<;>simp[D.eqb]at h ⊢;exact h
 |.ref a,b,h=>by cases b<;>simp[D.eqb]at h ⊢;exact h
theorem D.eqs_of:∀{a b:List D},D.eqbs a b=true->a=b
 |[],[],_=>rfl
 |[],_::_,h=>by simp[D.eqbs]at h
 |_::_,[],h=>by simp[D.eqbs]at h
 |a::as,b::bs,h=>by rw[D.eqbs,Aq]at h;rw[D.eq_of h.1,D.eqs_of h.2]
end
noncomputable instance:DecidableEq D:=λa b=>if h:D.eqb a b=true then .isTrue (D.eq_of h)else .isFalse λe=>h (by rw[e];exact D.eqb_refl b)
def Q5(st:Hh)(n:Nat)(ds:List D):Bool:=match st[n]? with
 |some (.lst xs)=>D.eqbs xs ds
 |some (.fz xs)=>D.eqbs xs ds
 |_=>false
def yH(h:Q5 st n ds=true):st[n]?=some (.lst ds)\/st[n]?=some (.fz ds):=by
 unfold Q5 at h;split at h
 ·rename_i xs e;rw[D.eqs_of h]at e;exact .inl e
 ·rename_i xs e;rw[D.eqs_of h]at e;exact .inr e
 ·cases h
def zkN(h:st[n]?=some (.lst ds)):Q5 st n ds=true:=by unfold Q5;rw[h];exact D.eqbs_refl ds
variable {mi:MI}{W:Wk}
def walked(W:Wk)(st:Hh):Bool:=W.g.all λp=>Q5 st p.1 p.2
def Rz(h:walked W st=true):stays W st:=λp a=>yH<|List.all_eq_true.mp h p a
def JZ(W:Wk)(g:MG)(m:MS):List D->HX->Hh->Option (Fl×Hh)
 |[],U,st=>if walked W st=true then some (.nx U,st)else none
 |d::ds,U,st=>if walked W st=true then(g d U st).bind λ(U1,s1)=>(m U1 s1).bind λ(f,s2)=>match f with
  |.nx h=>JZ W g m ds h s2
  |.ct h=>JZ W g m ds h s2
  |.bk h=>some (.nx h,s2)
  |.rt d=>some (.rt d,s2)else none
noncomputable def mF(mi:MI)(g:MG)(m:MS):MS:=λU st=>(mi U st).bind λ(W,s)=>JZ W g m W.ds U s
def pJ(Y:PassesOwn (!4) X.A X.env X.xe)(Z:X.calm=true)(hi:SI X tg iter mi)(hg:SG X tg mg)(hb:KN X body ms)(hs:∀x,foldedSetIterable iter X.env x=pure x:=by intro _;rfl):SS X (.For tg iter body [] pos) (mF mi mg ms):=PS.imp (mQ Y Z hi hg hb hs) λN σ H h=>by
 exists 2;obtain⟨⟨W,s1⟩,e1,e⟩:=Hs e;refine⟨U,st,io,W,s1,E,S,e1,λJ H1 a j l IO=>?_⟩;refine⟨λi n σ2 H2=>n=W.ds.length-i/\∃q s2 b,Ext (io++a) b H1 H2/\HA X.K H2 ((io++a)++b) s2/\HK X.K H2 ((io++a)++b) σ2 q/\JZ W mg ms (W.ds.drop i) q s2=some (f,st'),
  ⟨_,rfl,U,s1,[],Ext.refl,by rw[An];exact l,by rw[An];exact E.ext S j,by rw[DK];exact e⟩,?_⟩
 rintro i n σ2 H2 ⟨rfl,q,s2,b,X2,S2,E2,c⟩;have w2:Wn X.K ((io++a)++b) H2 st' N f:=(w.on j l).on X2 S2;cases hd:W.ds[i]? with
 |none=>
  have r:W.ds.length<=i:=List.getElem?_eq_none_iff.mp hd;rw[EL r]at c;obtain⟨hw,c⟩:=Iu c;cases c;refine .inl ⟨?_,w2 σ2 H2 [] Ext.refl S2.nil (by rw[An];exact E2)⟩
  by_cases hi:i=W.ds.length
  ·rw[hi];exact IO.stop H2 b _ X2 S2 (Rz hw)
  exact IO.stop' H2 b _ i r X2 S2 (Rz hw)
 |some d=>
  have r:i<W.ds.length:=(KB.mp hd).1;have z:W.ds.drop i=d::W.ds.drop (i+1):=by rw[CY r,(KB.mp hd).2]
  rw[z]at c;obtain⟨hw,c⟩:=Iu c;obtain⟨⟨U3,s3⟩,e3,c⟩:=Hs c;obtain⟨⟨f4,s4⟩,e4,c⟩:=Hs c;obtain⟨go,yl⟩:=IO.go i d H2 b s2 hd X2 S2 (Rz hw);refine .inr ⟨go,λσ5 s=>∃Q s5 m,Ext (io++a) m H1 s/\HA X.K s ((io++a)++m) s5/\HK X.K s ((io++a)++m) σ5 Q/\JZ W mg ms (W.ds.drop (i+1)) Q s5=some (f,st'),
   λσ5 s h5=>⟨W.ds.length-(i+1),by omega,rfl,h5⟩,λx F y=>?_⟩
  obtain⟨G,u,R3⟩:=yl x F y;have X23:Ext (io++a) b H1 F:=(X2.trans S2 G).app;refine⟨d,q,s2,(io++a)++b,U3,s3,R3,?_,u,e3,λσ6 I T B v E6=>?_⟩
  ·have:=E2.ext S2 G;rw[An]at this;exact this
  ·refine O6 E6 v e4 ?_;have X26:=X23.trans u B;have C:HA X.K I ((io++a)++(b++T)) s3:=by rw[<-Am];exact v
   have fin:∀{o:HX},JZ W mg ms (W.ds.drop (i+1)) o s4=some (f,st')->∀σ7 p g,Ext ((io++a)++b++T) g I p->HA X.K p ((io++a)++b++T++g) s4->HK X.K p ((io++a)++b++T++g) σ7 o ->
     ∃Q s5 m,Ext (io++a) m H1 p/\HA X.K p ((io++a)++m) s5/\HK X.K p ((io++a)++m) σ7 Q/\JZ W mg ms (W.ds.drop (i+1)) Q s5=some (f,st'):=by
    intro o e7 σ7 p g L M P;rw[Am (io++a)]at L;rw[Am (io++a),Am (io++a)]at M P;exact⟨o,s4,(b++T)++g,X26.trans C L,M,P,e7⟩
   cases f4 with
   |nx o=>exact fin c
   |ct o=>exact fin c
   |bk o=>
    cases c;exact((w.on j l).on X23 u).on B v
   |rt dd=>
    cases c;exact((w.on j l).on X23 u).on B v
variable {xs:List V}{l:Pv}{d:D}
def Ua{x:D}{xs:List D}{s s2:Hh}(g:m U s=some (x,s1))(h:mm U s1=some (xs,s2)):Hf m mm U s=some (x::xs,s2):=by unfold Hf;rw[g];show G8 (mm U s1) _=_;rw[h];rfl
def Ig(st:Hh)(n:Nat):Option (List D):=match st[n]? with
 |some (.lst ds)=>some ds
 |some (.fz ds)=>some ds
 |_=>none
def KG(S:HA K H io st)(hn:io[n]?=some p)(h:Ig st n=some ds):∃xs,JD K H p xs/\Hi K H io xs ds:=by
 unfold Ig at h;split at h
 ·rename_i o he;cases h;obtain⟨xs,e,r⟩:=S.ob n p _ hn he;exact⟨xs,JD.of e,r⟩
 ·rename_i o he;cases h;obtain⟨ob,xs,e,r⟩:=S.ob n p _ hn he;exact⟨xs,.inl<|.inr ⟨ob,e⟩,r⟩
 ·cases h
def Xp(hm:(n,ds)∈W.g)(h:stays W st):Ig st n=some ds:=by
 unfold Ig;rcases h _ hm with h|h
 ·have h:st[n]?=some (.lst ds):=h;rw[h]
 have h:st[n]?=some (.fz ds):=h;rw[h]
def iD(m:ME):MI:=λU st=>(!9).bind λ(d,s)=>match d with
 |.ref n=>(Ig s n).map λds=>(⟨ds,[(n,ds)]⟩,s)
 |_=>none
def iB(m:ME):MI:=λU st=>(!9).bind λ(d,s)=>match d with
 |.tup ds=>some (⟨ds,[]⟩,s)
 |_=>none
def Ln(h:io[n]?=some p):(io++ka)[n]?=some p:=by rw[Ar (KB.mp h).1];exact h
def oC(hn:io[n]?=some p):Lx K H io ⟨ds,[(n,ds)]⟩ (YR K p) where
 go:=λi d H1 f s hd l a c=>by obtain⟨xs,b,r⟩:=KG a (Ln hn)<|Xp Al c;obtain⟨v,m,o⟩:=r.get hd;refine⟨⟨xs,v,b,m⟩,λx Q y=>?_⟩;obtain⟨rfl,y⟩:=y;have e:=y xs b;rw[m]at e;cases e;exact⟨Ext.refl,a,o⟩
 stop:=λH1 f s l a c=>by obtain⟨xs,b,r⟩:=KG a (Ln hn)<|Xp Al c;exact⟨xs,b,by rw[r.length];exact Ag _⟩
 stop':=λH1 f s i N l a c=>by obtain⟨xs,b,r⟩:=KG a (Ln hn)<|Xp Al c;exact⟨xs,b,by rw[r.length];exact N⟩
def sJ(g:SE X l m):SI X tg l (iD m):=PI.imp (tK g) <| by
 exists 11;obtain⟨⟨d,s1⟩,c,e⟩:=Hs e;exists 10;split at e
 ·rename_i n;obtain⟨ds,f,e⟩:=Ia e;cases e;refine⟨U,st,io,_,_,E,S,c,λv H1 i o a x=>?_⟩;obtain⟨p,rfl,b⟩:=x;obtain⟨xs,K,r⟩:=KG a b f;exact⟨p,rfl,⟨xs,K⟩,k _ H1 i o a<|oC b⟩
 ·cases e
def oF(S:HA K H io st)(g:H p=some (.tup xs))(r:Hi K H io xs ds):Lx K H io ⟨ds,[]⟩ (YQ K p) where
 go:=λi d H1 b s hd X1 a c=>by obtain⟨v,f,m⟩:=(r.ext S X1).get hd;have l:IM K H1 p xs:=IM.of<|X1.sqT S p xs g;refine⟨⟨xs,v,l,f⟩,λx o y=>?_⟩;obtain⟨rfl,y⟩:=y;have e:=y xs l;rw[f]at e;cases e;exact⟨Ext.refl,a,m⟩
 stop:=λH1 b s X1 a c=>⟨xs,IM.of<|X1.sqT S p xs g,by rw[r.length];exact Ag _⟩
 stop':=λH1 b s i n X1 a c=>⟨xs,IM.of<|X1.sqT S p xs g,by rw[r.length];exact n⟩
def pD(g:SE X l m):SI X tg l (iB m):=PI.imp (mM g) <| by
 exists 11;obtain⟨⟨d,s1⟩,c,e⟩:=Hs e;exists 10;split at e
 ·rename_i ds;cases e;refine⟨U,st,io,_,_,E,S,c,λv H1 f i a n=>?_⟩;obtain⟨p,xs,rfl,b,r⟩:=n;exact⟨p,rfl,⟨xs,IM.of b⟩,k _ H1 f i a<|oF a b r⟩
 ·cases e
def run(lo:Int)(n:Nat):List D:=(As n).map λ(k:Nat)=>D.int<|lo+(k:Int)
def Kx(lo:Int)(n:Nat):(run lo n).length=n:=by unfold run;rw[Af,Cg]
def run_get{lo:Int}(h:(run lo n)[i]?=some d):i<n/\d=.int (lo+(i:Int)):=by
 have a:i<n:=by
  have q:=(KB.mp h).1
  rwa [Kx]at q
 unfold run at h;rw[Az,DG a]at h;exact⟨a,(Av h).symm⟩
def oE(lo:Int)(n:Nat):Lx K H io ⟨run lo n,[]⟩ (UZ lo n) where
 go:=λi d H1 c s hd e b f=>by obtain⟨a,rfl⟩:=run_get hd;refine⟨a,λx l y=>?_⟩;obtain⟨rfl,rfl⟩:=y;exact⟨Ext.refl,b,rfl⟩
 stop:=λH1 c s e b f=>by show n<=_;rw[Kx];exact Ag _
 stop':=λH1 c s i a e b f=>by
  show n<=i;have a:(run lo n).length<=i:=a
  rwa [Kx]at a
def small(j:Int):Bool:=decide (-(2^62)<=j)&&decide (j<2^62)
def cD{j:Int}(h:small j=true):-(2^62)<=j/\j<2^62:=by unfold small at h;rw[Aq]at h;exact⟨of_decide_eq_true h.1,of_decide_eq_true h.2⟩
def IG(m:ME):MI:=λU st=>(!9).bind λ(d,s)=>match d with
 |.int j=>if small j=true then some (⟨run 0 j.toNat,[]⟩,s)else none
 |_=>none
def Ky{p:Pos}(h:Gl X "range")(hm:X.mg "range"=none)(q:SE X a m)(g:UF [a] X.env=[(false,UV a X.env)]:=by rfl):SI X tg (.Call (.Name "range" p) [a] [] pos) (IG m):=
 PI.imp (zl2 h hm (Hk q Hq g) g) <| by
  exists 11;obtain⟨⟨d,s1⟩,c,e⟩:=Hs e;exists 10;split at e
  ·rename_i j;obtain⟨b,e⟩:=Iu e;cases e;refine⟨U,st,io,[.int j],_,E,S,(Ua c rfl),λvs H1 f i l R1=>?_⟩;obtain⟨v,rfl,rfl⟩:=R1.one;exact⟨j,rfl,(cD b).1,(cD b).2,k _ H1 f i l<|oE 0 _⟩
  ·cases e
def Lq(n:Nat)(ds:List D):HX:=ds.map some++BH (n-ds.length) none
def ID(n:Nat)(m:MS):GN:=λds st=>(m (Lq n ds) st).bind λ(f,s)=>match f with
 |.rt d=>some (d,s)
 |.nx _=>some (.non,s)
 |_=>none
def zO{N:List Str}(R:Hi K H io vs ds):HK K H io (start N vs) (Lq N.length ds):=by
 have a:=R.length;refine⟨by unfold start Lq;simp[a],λi d h=>?_⟩;unfold Lq at h;unfold start
 by_cases hi:i<ds.length
 ·rw[Ar (by simpa using hi),Az]at h
  cases e:ds[i]? with
  |none=>rw[e]at h;cases h
  |some c=>
   rw[e]at h;cases (Av<|Av h)
   obtain⟨v,b,r⟩:=R.get e;exact⟨v,by rw[Ar (by simpa[a]using hi),Az,b];rfl,r⟩
 ·rw[AZ (by simpa using hi),Cr]at h
  split at h<;>cases h
variable {w:Wp}
section
variable {P:Re}{mg:Str->Option IR}{base:PP}
def NY{qual:Str}{st:Stmt}{f:Addr}{N ps:List Str}{m:MS}(F:Mt K x qual st f fd)(S:IP N ps (I0 st))(j:∀(g:IR) (A:Around) (outer:List Env) (s:Shared) (H:Hp) (E:XK),HM k (A.deeper<|envOfC qual (I0 st) s.heap.objs.size f g) ->
   KN (JI KA P w K mg base N qual (I0 st) f g A outer s H E).nox (Ko st) m):Jd P w K mg base KA (k+1) f fd ps (MK K ps.length<|ID N.length m):=by
 refine F.ok S (λvs H Q E ⟨_,_,_,_,_,h,_⟩=>h) λg A outer s H vs Q E b h=>?_;obtain⟨ds,c,io,d,st',T,R,i,e,a⟩:=h;refine⟨_,j g A outer s H E b,?_⟩;obtain⟨⟨fl,s1⟩,l,e⟩:=Hs e;refine O6 (zO R) i l ?_;cases fl with
 |rt W=>cases e;exact a
 |nx U=>cases e;exact λσ' n ka o p X=>a .non n ka o p rfl
 |bk U=>cases e
 |ct U=>cases e
end
def J7(cells:List (Str×Addr)):List (Str×NameKind)->List (Str×Addr)->List (Str×Addr)
 |[],acc=>acc
 |(n,k)::r,acc=>if k==.free then J7 cells r ((n,(cells.lookup n).getD 0)::acc)else J7 cells r acc
variable {env:Env}
theorem WZ{env:Env}(f:Str×NameKind->List (Str×Addr)->Sem (ForInStep<|List<|Str×Addr))(hf:∀n k acc,f (n,k) acc=if k==.free then(do let c <-cellOf env n;pure (.yield ((n,c)::acc)))else pure (.yield acc)):
  ∀(names:List (Str×NameKind)) (acc:List (Str×Addr)),(∀n,(n,AH)∈names->∃c,env.cells.lookup n=some c)->(forIn names acc f:Sem (List<|Str×Addr))=pure (J7 env.cells names acc)
 |[],acc,_=>by rw[De];rfl
 |(n,k)::r,acc,h=>by
  rw[Ep,hf];unfold J7;cases hk:k==AH with
  |false=>
   rw[if_neg (!2),if_neg (!2)];have:=WZ f hf r acc λm hm=>h m<|Ai _ hm;rw[<-this];rfl
  |true=>
   rw[if_pos rfl,if_pos rfl];have a:k=AH:=by simpa using hk
   obtain⟨c,b⟩:=h n (by rw[a];exact Al);have:=WZ f hf r ((n,c)::acc) λm hm=>h m<|Ai _ hm;rw[b,Ds,<-this];unfold cellOf;rw[b];rfl
variable {scope:Scope}
def zk7(h:∀n,(n,AH)∈scope.names->∃c,env.cells.lookup n=some c):closureFor scope env=pure (J7 env.cells scope.names []):=by unfold closureFor;have:=WZ (env:=env) (λx acc=>(match x with|(n,k)=>if k==.free then(do let c <-cellOf env n;pure (.yield ((n,c)::acc)))else pure (.yield acc))) (λ_ _ _=>rfl) scope.names [] h;refine Eq.trans ?_ this;simp only[bind_pure]
variable {cells:List (Str×Addr)}
theorem Wz{cells:List (Str×Addr)}:∀{names:List (Str×NameKind)} {acc:List (Str×Addr)} {p:Str×Addr},p∈J7 cells names acc->p∈acc\/((p.1,AH)∈names/\p.2=(cells.lookup p.1).getD 0)
 |[],acc,p,h=>.inl h
 |(n,k)::r,acc,p,h=>by
  unfold J7 at h;cases hk:k==AH with
  |false=>
   rw[hk,if_neg (!2)]at h
   rcases Wz h with h|h
   ·exact .inl h
   exact .inr ⟨Ai _ h.1,h.2⟩
  |true=>
   rw[hk,if_pos rfl]at h;have g:k=AH:=by simpa using hk
   rcases Wz h with h|h
   ·exists 9
    ·subst h;exact .inr ⟨by rw[g];exact Al,rfl⟩
    exact .inl h
   exact .inr ⟨Ai _ h.1,h.2⟩
theorem T5{cells:List (Str×Addr)}:∀{names:List (Str×NameKind)} {acc:List (Str×Addr)} {x:Str},((x,AH)∈names\/(acc.lookup x).isSome=true)->((J7 cells names acc).lookup x).isSome=true
 |[],acc,x,h=>by
  rcases h with h|h
  ·exact absurd h<|by simp
  exact h
 |(n,k)::r,acc,x,h=>by
  unfold J7;cases hk:k==AH with
  |false=>
   rw[if_neg (!2)];refine T5 ?_
   rcases h with h|h
   ·exists 9
    ·have:k=AH:=(Bi h).2.symm;rw[this]at hk;exact absurd hk<|by decide
    exact .inl h
   exact .inr h
  |true=>
   rw[if_pos rfl];refine T5 ?_;by_cases hx:x=n
   ·subst hx;exact .inr<|by simp
   ·rcases h with h|h
    ·exists 9
     ·exact absurd (Bi h).1 hx
     exact .inl h
    ·refine .inr ?_;rw[A6];have:(x==n)=false:=by simpa using hx
     rw[this];exact h
theorem WV:∀{names:List (Str×NameKind)} {n:Nat} {acc:List (Str×Addr)} {p:Str×Addr},p∈cellsFrom n names acc->p∈acc\/n<=p.2
 |[],_,_,_,h=>.inl h
 |(x,k)::r,n,acc,p,h=>by
  unfold cellsFrom at h;split at h
  ·rcases WV h with h|h
   ·exists 9
    ·subst h;exact .inr<|Ag _
    exact .inl h
   exact .inr<|Ci h
  exact WV h
theorem Xm:∀{names:List (Str×NameKind)} {n:Nat} {acc:List (Str×Addr)},(acc.Pairwise λx y=>x.2≠y.2)->(∀p∈acc,p.2<n)->(cellsFrom n names acc).Pairwise λx y=>x.2≠y.2
 |[],_,_,h,_=>h
 |(x,k)::r,n,acc,h,hl=>by
  unfold cellsFrom;split
  ·refine Xm (List.pairwise_cons.mpr ⟨λy g e=>?_,h⟩) λp hp=>?_
   ·have q:=hl y g;have a:n=y.2:=e;rw[<-a]at q;exact AL _ q
   ·rcases KM.mp hp with rfl|hp
    ·exact Cn _
    exact Dm<|hl p hp
  exact Xm h hl
theorem V5:∀{names:List (Str×NameKind)} {n:Nat} {acc:List (Str×Addr)} {x:Str},((x,AW)∈names\/(acc.lookup x).isSome=true)->((cellsFrom n names acc).lookup x).isSome=true
 |[],n,acc,x,h=>by
  rcases h with h|h
  ·exact absurd h<|by simp
  exact h
 |(m,k)::r,n,acc,x,h=>by
  unfold cellsFrom;cases hk:k==AW with
  |false=>
   rw[if_neg (!2)];refine V5 ?_
   rcases h with h|h
   ·exists 9
    ·have:k=AW:=(Bi h).2.symm;rw[this]at hk;exact absurd hk<|by decide
    exact .inl h
   exact .inr h
  |true=>
   rw[if_pos rfl];refine V5 ?_;by_cases hx:x=m
   ·subst hx;exact .inr<|by simp
   ·rcases h with h|h
    ·exists 9
     ·exact absurd (Bi h).1 hx
     exact .inl h
    ·refine .inr ?_;rw[A6];have:(x==m)=false:=by simpa using hx
     rw[this];exact h
theorem Uj:∀{names:List (Str×NameKind)} {n:Nat} {acc:List (Str×Addr)} {x:Str},(x,AW)∉names->(cellsFrom n names acc).lookup x=acc.lookup x
 |[],_,_,_,_=>rfl
 |(m,k)::r,n,acc,x,h=>by
  unfold cellsFrom;cases hk:k==AW with
  |false=>rw[if_neg (!2)];exact Uj λq=>h (Ai _ q)
  |true=>
   rw[if_pos rfl,Uj λq=>h (Ai _ q),A6];have g:k=AW:=by simpa using hk
   have:(x==m)=false:=by
    cases e:x==m with
    |false=>rfl
    |true=>exact absurd (by rw[g,show x=m by simpa using e];exact Al) h
   rw[this]
theorem V4:∀{names:List (Str×NameKind)} {n:Nat} {acc:List (Str×Addr)} {x:Str}{c:Addr},(x,AW)∈names->(cellsFrom n names acc).lookup x=some c->n<=c
 |[],_,_,_,_,h,_=>absurd h<|by simp
 |(m,k)::r,n,acc,x,c,h,e=>by
  unfold cellsFrom at e;cases hk:k==AW with
  |false=>
   rw[hk,if_neg (!2)]at e
   exists 9
   ·have:k=AW:=(Bi h).2.symm;rw[this]at hk;exact absurd hk<|by decide
   exact V4 h e
  |true=>
   rw[hk,if_pos rfl]at e;by_cases a:(x,AW)∈r
   ·exact Ci<|V4 a e
   ·rw[Uj a]at e
    exists 9
    ·have b:x=m:=(Bi h).1;subst b;rw[List.lookup_cons_self]at e;exact D5<|Av e
    exact absurd h a
theorem WY:∀{names:List (Str×NameKind)} {h:PP} {acc:List (Str×Addr)} {p:Str×Addr},p∈cellsFrom h.objs.size names acc->p∈acc\/(pushCells h names).IsCell p.2 none
 |[],_,_,_,h=>.inl h
 |(x,k)::r,h,acc,p,e=>by
  unfold cellsFrom at e;unfold pushCells;split at e
  ·rename_i hk;rw[if_pos hk];have sz:(h.push {cls:=.type "cell",data:=.cell none}).objs.size=h.objs.size+1:=Ba ..;rw[<-sz]at e
   rcases WY e with q|q
   ·rcases KM.mp q with q|q
    ·subst q;exact .inr ⟨_,Dy _ _ _ _<|Ap _ rfl,rfl⟩
    exact .inl q
   exact .inr q
  rename_i hk;rw[if_neg hk];exact WY e
def LH(X:Cx)(scope:Scope)(N':List Str)(cells:List (Str×Addr))(C:Addr)(s0:Shared)(g:Hp)(ex:List Addr):Cx:={X with N:=N',s₀:=s0,H₀:=g,env:=compEnvC scope cells C X.env,outer:=X.stack,ex:=ex,fn:=λx=>scope.names.any λp=>p.1==x&&p.2==.cell,pn:=[],xe:=λ_ _=>False}
structure JK(X:Cx)(scope:Scope)(N':List Str)(nt:Nat)(fr:List Nat):Prop where
 kind:scope.kind=.function
 nd:(scope.names.map (·.1)).Nodup
 len:N'.length=nt+fr.length
 cap:∀(i j:Nat) (x:Str),fr[i]?=some j->N'[nt+i]?=some x->X.N[j]?=some x/\(x,AH)∈scope.names
 out:∀x,(x,AH)∈scope.names->X.env.kindOf x=some .cell\/X.env.kindOf x=some .free
theorem lookup_mem:∀{l:List (Str×NameKind)} {x:Str}{k:NameKind},(l.map (·.1)).Nodup->(x,k)∈l->l.lookup x=some k
 |[],_,_,_,h=>absurd h<|by simp
 |(n,j)::r,x,k,g,h=>by
  rw[Ao,Dz]at g;rw[A6];exists 9
  ·cases h;simp
  ·have:x≠n:=λe=>g.1 (by rw[<-e];exact P3.mpr ⟨_,h,rfl⟩);have:(x==n)=false:=by simpa using this
   rw[this];exact lookup_mem g.2 h
theorem US{env:Env}:∀{l:List (Str×NameKind)} {x:Str}{k:NameKind},(l.map λ(n,k)=>if(k==AH&&env.scope.kind==.function&&env.kindOf n==some .cell)then(n,AW)else(n,k)).lookup x=some k ->
  ∃q,l.lookup x=some q/\(q=k\/q=.free)
 |[],_,_,h=>by simp at h
 |(n,j)::r,x,k,h=>by
  rw[Ao]at h;dsimp only at h;by_cases hc:(j==AH&&env.scope.kind==.function&&env.kindOf n==some .cell)=true
  ·rw[if_pos hc,A6]at h;rw[A6]
   cases g:x==n with
   |true=>
    have:j=.free:=by rw[Aq,Aq]at hc;simpa using hc.1.1
    exact⟨j,rfl,.inr this⟩
   |false=>rw[g]at h;exact US h
  ·rw[if_neg hc,A6]at h;rw[A6]
   cases g:x==n with
   |true=>rw[g]at h;cases h;exact⟨j,rfl,.inl rfl⟩
   |false=>rw[g]at h;exact US h
theorem Xf{env:Env}:∀{l:List (Str×NameKind)} {x:Str},l.lookup x=some .free ->
  (l.map λ(n,k)=>if(k==AH&&env.scope.kind==.function&&env.kindOf n==some .cell)then(n,AW)else(n,k)).lookup x=some .cell \/
  (l.map λ(n,k)=>if(k==AH&&env.scope.kind==.function&&env.kindOf n==some .cell)then(n,AW)else(n,k)).lookup x=some .free
 |[],_,h=>by simp at h
 |(n,j)::r,x,h=>by
  rw[Ao];dsimp only;rw[A6]at h;by_cases hc:(j==AH&&env.scope.kind==.function&&env.kindOf n==some .cell)=true
  ·rw[if_pos hc,A6]
   cases g:x==n with
   |true=>exact .inl rfl
   |false=>rw[g]at h;exact Xf h
  ·rw[if_neg hc,A6]
   cases g:x==n with
   |true=>rw[g]at h;cases h;exact .inr rfl
   |false=>rw[g]at h;exact Xf h
variable {s:Shared}{N':List Str}{nt:Nat}{fr:List Nat}{qp:List (Addr×Obj)}{A:Around}{E:Qqa}{fp:List Addr}
noncomputable abbrev QH (X:Cx) (scope:Scope):List (Str×Addr):=J7 X.env.cells scope.names []
noncomputable abbrev LG (X:Cx) (scope:Scope) (C:Nat):List (Str×Addr):=cellsFrom (C+1) scope.names (QH X scope)
def Wb(Z:JK X scope N' nt fr)(ok:X.Ok){p:Str×Addr}(h:p∈QH X scope):(p.1,AH)∈scope.names/\X.env.cells.lookup p.1=some p.2:=by
 rcases Wz h with h|⟨a,b⟩
 ·exact absurd h<|by simp
 obtain⟨c,d⟩:=ok.has p.1<|Z.out p.1 a;rw[d,Ds]at b;exact⟨a,by rw[d,b]⟩
def zJ(Z:JK X scope N' nt fr)(ok:X.Ok)(h:(x,AH)∈scope.names):∃c,X.env.cells.lookup x=some c/\∀C,(LG X scope C).lookup x=some c:=by
 obtain⟨c,d⟩:=ok.has x<|Z.out x h;refine⟨c,d,λC=>?_⟩;have no:(x,AW)∉scope.names:=λq=>by have a:=lookup_mem Z.nd h;have b:=lookup_mem Z.nd q;rw[a]at b;cases b
 rw[Uj no];have q:=T5 (cells:=X.env.cells) (acc:=[])<|.inl h;obtain⟨f,e⟩:=Option.isSome_iff_exists.mp q;have:=(Wb Z ok<|AV e).2;have this:X.env.cells.lookup x=some f:=this;rw[d]at this;rw[e,this]
def uK(Z:JK X scope N' nt fr)(ok:X.Ok):(QH X scope).Pairwise λx y=>x.2≠y.2:=by
 have gen:∀(names:List (Str×NameKind)) (acc:List (Str×Addr)),(∀n,(n,AH)∈names->∃c,X.env.cells.lookup n=some c)->(names.map (·.1)).Nodup->(∀p∈acc,p.1∉names.map (·.1)/\X.env.cells.lookup p.1=some p.2)->(acc.Pairwise λx y=>x.2≠y.2) ->
   (J7 X.env.cells names acc).Pairwise λx y=>x.2≠y.2:=by
  intro names
  induction names with
  |nil=>intro acc _ _ _ h;exact h
  |cons p r l=>
   intro acc hf b a d;obtain⟨n,k⟩:=p;rw[Ao,Dz]at b;unfold J7;cases hk:k==AH with
   |false=>
    rw[if_neg (!2)];exact l acc (λm hm=>hf m (Ai _ hm)) b.2 (λq hq=>⟨λz=>(a q hq).1 (by rw[Ao];exact Ai _ z),(a q hq).2⟩) d
   |true=>
    rw[if_pos rfl];have f:k=AH:=by simpa using hk
    obtain⟨c,i⟩:=hf n (by rw[f];exact Al);refine l _ (λm hm=>hf m (Ai _ hm)) b.2 (λq hq=>?_)<|List.pairwise_cons.mpr ⟨λy o e=>?_,d⟩
    ·rcases KM.mp hq with rfl|hq
     ·exact⟨b.1,by rw[i];rfl⟩
     exact⟨λz=>(a q hq).1 (by rw[Ao];exact Ai _ z),(a q hq).2⟩
    have s:(X.env.cells.lookup n).getD 0=y.2:=e;rw[i,Ds]at s;have w:=(a y o).2;rw[<-s]at w;have:=ok.inj _ _ _ w i;exact(a y o).1 (by rw[this,Ao];exact Al)
 exact gen scope.names [] (λn A=>ok.has n (Z.out n A)) Z.nd (λp d=>absurd d (!2)) CI
def uL{M:Model}{cl:List (Str×Addr)}{Q:Env->Shared->Prop}(h:Q {scope:=scope,locals:=s.heap.objs.size,globals:=env.globals,cells:=cellsFrom (s.heap.objs.size+1) scope.names cl,qual:=env.qual,func:=none,code:=env.code,frame:=env.frame,builtins:=env.builtins}
   {s with heap:=pushCells (s.heap.push Qqd) scope.names}):
  wpAny M A (newFunctionEnv scope env.globals cl [] env.qual none .none<|some env) Q E s:=by
 simp only[newFunctionEnv,FB,if_true];refine Aa<|wpAny_alloc ?_;refine Aa<|wpAny_layCells _ (λname kind cells=>by cases a:kind==AW<;>simp[a]) _ _ _ _ ?_;rw[show({s with heap:=s.heap.push Qqd}:Shared).heap.objs.size=s.heap.objs.size+1 from Ba ..];rw[De];exact Aa<|Ac<|Ac h
def Nn(σ:L2.St)(nt:Nat)(fr:List Nat):L2.St:=BH nt none++fr.map λ(j:Nat)=>(σ[j]?).join
def vA{fp:List Addr}(Z:JK X scope N' nt fr)(I:Inv X qp σ H s)(hf:∀b∈fp,Kk X qp H b)(g:∀b∈fp,b<s.heap.objs.size):
  Inv (LH X scope N' (LG X scope s.heap.objs.size) s.heap.objs.size s H fp) [] (Nn σ nt fr) H {s with heap:=pushCells (s.heap.push Qqd) scope.names}:=by
 have ok:=I.ok;have kp:∀b o,s.heap.get? b=some o->(pushCells (s.heap.push Qqd) scope.names).get? b=some o:=λb o e=>Dy _ _ b o (Ad _ e);have N:∀p∈QH X scope,p.2<s.heap.objs.size:=λp E=>by obtain⟨_,e⟩:=Wb Z ok E;obtain⟨v,q⟩:=I.cell p.1 p.2 e;exact q.lt
 have sz:(s.heap.push Qqd).objs.size=s.heap.objs.size+1:=Ba ..;have cells:∀x c,(LG X scope s.heap.objs.size).lookup x=some c->(X.env.cells.lookup x=some c)\/(s.heap.objs.size+1<=c/\(pushCells (s.heap.push Qqd) scope.names).IsCell c none):=λx c e=>by
  have m:=AV e;rcases WV m with h|h
  ·exact .inl (Wb Z ok h).2
  ·refine .inr ⟨h,?_⟩;have F:(x,c)∈cellsFrom (s.heap.push Qqd).objs.size scope.names (QH X scope):=by rw[sz];exact m
   rcases WY F with q|q
   ·have l:=N _ q;exact absurd (AD l (Ci h)) (AL _)
   exact q
 refine⟨⟨ok.mod,Z.kind,ok.glob,ok.blt,Ag _,λx y c K d=>?_,λx hx=>?_,λx c K d=>?_,ok.hd,ok.frames,.inl rfl,λb A=>?_,I.bs,AA ok.bsz I.sz,λb o e A=>?_,λb A=>?_,I.stack,I.stkFree⟩,
  rfl,I.bare,Un.kept kp,⟨λ_=>none,?_,λi x v K d h3=>?_⟩,λx c e=>?_,I.hok.fresh (Ag _),λx c e=>?_,λp E=>absurd E (by simp[LH]),I.hok.kept kp,?_⟩
 ·exact name_of_addr (Xm (uK Z ok) λp E=>Dm (N p E)) (AV K) (AV d)
 ·have hx:(relabel scope X.env).names.lookup x=some .cell\/(relabel scope X.env).names.lookup x=some .free:=hx;have q:(x,AW)∈scope.names\/(x,AH)∈scope.names:=by
   rcases hx with hx|hx
   ·obtain⟨G,e,z|z⟩:=US hx
    ·subst z;exact .inl (AV e)
    subst z;exact .inr (AV e)
   ·obtain⟨G,e,z|z⟩:=US hx
    ·subst z;exact .inr (AV e)
    subst z;exact .inr (AV e)
  refine Option.isSome_iff_exists.mp (V5 (n:=s.heap.objs.size+1) (acc:=QH X scope) ?_);rcases q with q|q
  ·exact .inl q
  exact .inr (T5 (.inl q))
 ·have K:(scope.names.any λp=>p.1==x&&p.2==AW)=true:=K;obtain⟨p,E,e⟩:=List.any_eq_true.mp K;rw[Aq]at e;have J:p.1=x:=by simpa using e.1
  have L:p.2=AW:=by simpa using e.2
  have hm:(x,AW)∈scope.names:=by rw[<-J,<-L];exact E
  exact Ci (V4 hm d)
 ·refine⟨Au (g b A),λx c e z=>?_⟩
  rcases cells x c e with q|⟨q,_⟩
  ·exact(hf b A).2.2.2.2.1 x c q z
  have l:=g b A;rw[<-z]at l;exact absurd (AD l (Ci q)) (AL _)
 ·rcases(hf b A).2.2.2.1 with z|z
  ·exact ok.noex b o e z
  exact absurd (AD (Aj e) (AA ok.bsz z)) (AL _)
 ·intro M
  rcases KM.mp (I.stkSub b M)with e|e
  ·exact(hf b A).2.1 e
  exact(hf b A).2.2.1 e
 ·exact(Heap.Ns.new s.heap (.type "dict")).keeps (Dy _ _)
 ·
  have T:nt<=i:=by
   by_cases T:i<nt
   ·unfold Nn at d;rw[Ar (by simpa using T),Cr,if_pos T]at d;cases d
   omega
  obtain⟨Q,rfl⟩:∃Q,i=nt+Q:=⟨i-nt,by omega⟩
  unfold Nn at d;rw[AZ (!2),BO,Nat.add_sub_cancel_left,Az]at d
  cases U:fr[Q]? with
  |none=>rw[U]at d;cases d
  |some j=>
   rw[U]at d;have d:(σ[j]?).join=some v:=Av d;have d:σ[j]?=some (some v):=by
    cases q:σ[j]? with
    |none=>rw[q]at d;cases d
    |some w=>rw[q]at d;cases w with
     |none=>cases d
     |some w=>cases d;rfl
   obtain⟨P,f⟩:=Z.cap Q j x U K;obtain⟨c,S,W⟩:=zJ Z ok f;have B:=Z.out x f;obtain⟨m,hn,Y⟩:=I.loc;obtain⟨u,r,l⟩:=Y j x v P d (B.elim (λz=>.inr (.inl z)) λz=>.inr (.inr z));refine⟨u,r,.inr ⟨?_,c,W _,?_⟩⟩
   ·exact Xf (lookup_mem Z.nd f)
   ·rcases l with⟨k,_⟩|⟨_,c',C,z⟩
    ·rcases B with q|q
     ·rw[k]at q;cases q
     rw[k]at q;cases q
    rw[S]at C;cases C;exact z.keeps kp
 ·rcases cells x c e with q|⟨_,q⟩
  ·obtain⟨v,z⟩:=I.cell x c q;exact⟨v,z.keeps kp⟩
  exact⟨none,q⟩
 ·rcases cells x c e with q|⟨q,_⟩
  ·exact I.freeC x c q
  exact I.hok.fresh (Ci q)
 show _=N'.length;unfold Nn;rw[Z.len,AB,BO,Af]
noncomputable abbrev FF:Qqa:=λ_ _=>False
variable {elt:Pv}{ifs:List Pv}
def zjb{prog:Re}{R:Result->Shared->Prop}{s:Shared}{target:Pv}{it acc:IR}(I:Nat->Shared->Prop)(turn:∀n s,I n s->wpAny (!5) A (pyNext it) (λr s1=>match r with
   |none=>R (.ok .next) s1
   |some v=>wpAny (!5) A (letOwnedTupleGo target it v) (λ_ s1=>wpAny (!5) A (assign target env v) (λ_ s2=>
     wpAny (!5) A (forIn ifs true λc r=>if r=true then do let ok <-isTrue c env (UV c env);pure (DA ok)else pure (DA r)) (λok s3=>
      if ok=true then wpAny (!5) A (UV elt env) (λx s4=>
       wpAny (!5) A (call (.builtin "list.append") [acc,x]) (λ_ s5=>∃m,m<n/\I m s5) FF s4) FF s3
      else ∃m,m<n/\I m s3) FF s2) FF s1) FF s1) FF s)
  (n:Nat) (h:I n s):
  codeAny (!5) A (.compLoop (.ListComp elt [⟨target,iter,ifs,0⟩] scope pos) 0 it acc env) R s:=by
 refine codeAny_loop rfl I (λn s b=>?_) n h;show wpAny _ A ((compTurn (.ListComp elt [⟨target,iter,ifs,0⟩] scope pos) 0 it acc env).onRaise (λx=>do noteFrame x env;theTreesLotGoes x)) _ _ s;refine wpAny_noted ?_;rw[compTurn_list];refine Aa<|DV<|Aa<|Bs (turn n s b) (λr s₁ h₁=>?_) λ_ _ a=>False.elim a
 cases r with
 |none=>exact Ac h₁
 |some v=>
  refine Aa<|Bs h₁ (λ_ s₂ h₂=>?_) λ_ _ a=>False.elim a;refine Aa<|Bs h₂ (λ_ s₂ h₂=>Aa (Bs h₂ (λok s₃ h₃=>?_) λ_ _ a=>False.elim a)) λ_ _ a=>False.elim a
  cases ok with
  |false=>exact Ac ⟨rfl,h₃⟩
  |true=>
   exact Aa<|Aa<|Bs h₃ (λx s₄ h₄=>Aa (Bs h₄ (λ_ s₅ h₅=>Ac (Ac ⟨rfl,h₅⟩)) λ_ _ a=>False.elim a)) λ_ _ a=>False.elim a
def Jj(W:Wk)(g:MG)(c:MT)(m:ME):List D->HX->Hh->Option (List D×Hh)
 |[],U,st=>if walked W st=true then some ([],st)else none
 |d::ds,U,st=>if walked W st=true then(g d U st).bind λ(U1,s1)=>(c U1 s1).bind λ(b,s2)=>
   if b=true then(m U1 s2).bind λ(x,s3)=>(Jj W g c m ds U1 s3).map λ(xs,s4)=>(x::xs,s4)else Jj W g c m ds U1 s2 else none
def Jc(U:HX)(nt:Nat)(fr:List Nat):HX:=BH nt none++fr.map λ(j:Nat)=>(U[j]?).join
def Ju(mi:MI)(nt:Nat)(fr:List Nat)(g:MG)(c:MT)(m:ME):ME:=λU st=>(mi U st).bind λ(W,s1)=>(Jj W g c m W.ds (Jc U nt fr) s1).bind λ(xs,s2)=>
 if fits xs.length=true then some (.ref s2.length,s2++[.lst xs])else none
def Je:MT:=λ_ st=>some (true,st)
def SC(X:Cx)(ifs:List Pv)(m:MT):Prop:=∀(qp:List (Addr×Obj)) (s:Shared) (σ:L2.St) (H:Hp) (Q:Bool->Hp->Prop),Inv X qp σ H s->tT X.K m σ H Q ->
 wpAny (!4) X.A (forIn ifs true λc r=>if r=true then do let ok <-isTrue c X.env (UV c X.env);pure (DA ok)else pure (DA r)) (TP X qp σ Q) X.xe s
def Nv:SC X [] Je:=by rintro qp s σ H Q I ⟨U,st,io,b,st',E,S,e,k⟩;cases e;rw[De];exact Ac ⟨H,I,k H [] Ext.refl S.nil⟩
def VT{m:MT}(h:SB X c m):SC X [c] m:=λqp s σ H Q I q=>PySem.wpAny_tests_one<|h qp s σ H Q I q
def uR(h:HK K H io σ U):HK K H io (Nn σ nt fr) (Jc U nt fr):=by
 refine⟨by unfold Nn Jc;simp,λi d e=>?_⟩;unfold Jc at e;unfold Nn
 by_cases hi:i<nt
 ·rw[Ar (by simpa using hi),Cr,if_pos hi]at e;cases e
 ·rw[AZ (by simpa using hi),BO,Az]at e ⊢
  cases a:fr[i-nt]? with
  |none=>rw[a]at e;cases e
  |some j=>
   rw[a]at e;have e:(U[j]?).join=some d:=Av e;have e:U[j]?=some (some d):=by
    cases q:U[j]? with
    |none=>rw[q]at e;cases e
    |some w=>rw[q]at e;cases w with
     |none=>cases e
     |some w=>cases e;rfl
   obtain⟨v,b,r⟩:=h.at_ j d e;exact⟨v,by simp[b],r⟩
def adopt(S:HA K H io st)(g:H p=some (.lst xs))(np:p∉io)(R:Hi K H io xs ds):HA K H (io++[p]) (st++[.lst ds]):=by
 refine⟨by simp[S.len],?_,λn a ob c d=>?_⟩
 ·rw[FW];refine⟨S.nd,by simp,λa f b i=>?_⟩;rw[On.mp i];rintro rfl;exact np f
 ·by_cases hn:n<io.length
  ·rw[Ar hn]at c;rw[Ar (by rw[<-S.len];exact hn)]at d;exact OR.mono ⟨λ_ _ h=>h,λ_ _ _ h=>h⟩ rfl<|S.ob n a ob c d
  ·have l:n<(io++[p]).length:=(KB.mp c).1;rw[AB,Bm]at l;have e:n=io.length:=by omega
   subst e;rw[AZ (Ag _),C8]at c;rw[S.len,AZ (Ag _),C8]at d;cases (Av c);cases (Av d);exact⟨xs,g,Hi.mono ⟨λ_ _ h=>h,λ_ _ _ h=>h⟩ R⟩
section
variable {g:MG}{c:MT}
structure CompEnd(X:Cx)(qp:List (Addr×Obj))(σ:L2.St)(H:Hp)(io:List Addr)(d:D)(st':Hh)(Dd C:Addr)(H5:Hp)(s6:Shared):Prop where
 inv:Inv X qp σ H5 s6
 ns:∃m,s6.heap.Ns C m
 free:H5 C=none
 ne:C≠X.env.locals
 young:X.s₀.heap.objs.size<=C
 cells:∀x c,X.env.cells.lookup x=some c->c≠C
 pin:∀p∈X.pn++qp,p.1≠C
 val:∃ka,Ext io ka H H5/\HA X.K H5 (io++ka) st'/\Rep X.K H5 (io++ka) (.ref Dd) d
inductive CompI (X Y:Cx) (W:Wk) (tn:Nat->PP->Prop) (fp io:List Addr) (H1:Hp) (Dd:Addr) (g:MG) (c:MT) (m:ME) (t2:Hh) (xs:List D) (n:Nat) (s5:Shared):Prop
 |mk (i:Nat) (σ5:L2.St) (H5:Hp) (U5:HX) (st5:Hh) (k5:List Addr) (ac rs:List D) (h0:n=W.ds.length-i) (h1:Inv Y [] σ5 H5 s5) (h2:tn i s5.heap) (h3:∀b∈fp,H5 b=none) (h4:Ext io k5 H1 H5) (h5:Dd∉k5) (h6:HA X.K H5 (io++k5) st5) (h7:HK X.K H5 (io++k5) σ5 U5) (h8:∃vs,H5 Dd=some (.lst vs)/\Hi X.K H5 (io++k5) vs ac) (h9:Jj W g c m (W.ds.drop i) U5 st5=some (rs,t2)) (h10:xs=ac++rs)
def bS(hx:X.xe=FF)(hc:X.calm=true)(Z:JK X scope N' nt fr)(hi:SI X tg iter mi)(hg:∀C s0 H0 fp,SG (LH X scope N' (LG X scope C) C s0 H0 fp) tg g) (ht:∀C s0 H0 fp,SC (LH X scope N' (LG X scope C) C s0 H0 fp) ifs c) (he:∀C s0 H0 fp,SE (LH X scope N' (LG X scope C) C s0 H0 fp) elt m)(hs:∀x,foldedSetIterable iter X.env x=pure x)         {use:Option (IR->Sem Unit)} {Qf:Qqa}{ps:Pos}(I:Inv X qp σ H s) (E:HK X.K H io σ U) (S:HA X.K H io st) (e:Ju mi nt fr g c m U st=some (d,st'))(kf:∀y C P s6,CompEnd X qp σ H io d st' y C P s6->compPost (!4) X.A X.xe use Qf (.ref y) C (.ok .next) s6):
  wpAny (!4) X.A (comprehension (.ListComp elt [⟨tg,iter,ifs,0⟩] scope pos) scope X.env ps (newList []) false (UV iter X.env) use) Qf X.xe s:=by
 obtain⟨⟨W,t1⟩,e1,e⟩:=Hs e;obtain⟨⟨xs,t2⟩,e2,e⟩:=Hs e;obtain⟨hfit,e⟩:=Iu e;cases e;refine wpAny_comprehension_free (use:=use) rfl hs (zk7 λn hn=>I.ok.has n (Z.out n hn)) Z.kind (λx hx hl=>by
  obtain⟨n,k⟩:=x;cases (show k=.local from hl)
  exact lookup_mem Z.nd hx) ?_
 refine HB (hi qp s σ H (λJ H1=>∃ka,Ext io ka H H1/\HA X.K H1 (io++ka) t1/\Lx X.K H1 (io++ka) W J) I ⟨U,st,io,W,t1,E,S,e1,λJ H' ka X' S' O'=>⟨ka,X',S',O'⟩⟩) λv sa ha=>?_;refine HB ha ?_;rintro itv s2 ⟨it,fp,tn,J,H1,QG,I1,T,tn0,fpok,N,X1,S1,IO⟩;subst QG;refine AN ?_;have hD:H1 s2.heap.objs.size=none:=I1.hok.fresh (Ag _);have I3:Inv X qp σ (upd H1 s2.heap.objs.size (.lst [])) {s2 with heap:=s2.heap.push {cls:=.type "list",data:=.seq ([]:List IR).toArray},toks:=s2.toks}:=I1.lnew .nil (A5 _);obtain⟨X2,S2a⟩:=Rf (o:=.lst []) S1 hD;rw[An]at S2a;have S2:HA X.K (upd H1 s2.heap.objs.size (.lst [])) (io++N) t1:=S2a;clear S2a;generalize hH3:upd H1 s2.heap.objs.size (.lst [])=H3 at I3 X2 S2;have H3D:H3 s2.heap.objs.size=some (.lst []):=by rw[<-hH3];exact Le
 generalize hD':s2.heap.objs.size=y at hD I3 X2 S2 hH3 H3D ⊢;generalize hs3:({s2 with heap:=s2.heap.push {cls:=.type "list",data:=.seq ([]:List IR).toArray},toks:=s2.toks}:Shared)=s3 at I3;have fplt:∀b∈fp,b<s3.heap.objs.size:=λb hb=>by obtain⟨o,ho,_⟩:=T.obj 0 _ tn0 b hb;rw[<-hs3];exact AD (Aj ho) (by show _<=(s2.heap.push _).objs.size;rw[Ba];exact CC _)
 have fpD:∀b∈fp,b≠y:=λb hb z=>by obtain⟨o,ho,_⟩:=T.obj 0 _ tn0 b hb;have:=Aj ho;rw[z,<-hD']at this;exact AL _ this
 have L:∀b∈fp,Kk X qp H3 b:=λb hb=>⟨by rw[<-hH3,HV (fpD b hb)];exact(fpok b hb).1,(fpok b hb).2⟩
 have tn3:tn 0 s3.heap:=T.keep 0 _ _ tn0 λb _ o ho=>by rw[<-hs3];exact Ad _ ho
 refine uL ?_;have I4:=vA (fp:=fp) Z I3 L fplt;have tn4:tn 0 (pushCells (s3.heap.push Qqd) scope.names):=T.keep 0 _ _ tn3 λb _ o ho=>Dy _ _ _ _ (Ad _ ho);generalize hs4:({s3 with heap:=pushCells (s3.heap.push Qqd) scope.names}:Shared)=s4 at I4;have tn4:tn 0 s4.heap:=by rw[<-hs4];exact tn4
 show codeAny (!4) X.A (.compStart (.ListComp elt [⟨tg,iter,ifs,0⟩] scope pos) 0 (.ref it) (.ref y) (LH X scope N' (LG X scope s3.heap.objs.size) s3.heap.objs.size s3 H3 fp).env) _ _;generalize M:LH X scope N' (LG X scope s3.heap.objs.size) s3.heap.objs.size s3 H3 fp=Y at I4;have yP:Y.prog=X.prog:=by rw[<-M];rfl
 have yW:Y.w=X.w:=by rw[<-M];rfl
 have yK:Y.K=X.K:=by rw[<-M];rfl
 have yC:Y.calm=true:=by rw[<-M];exact hc
 have yA:Y.A=X.A:=by rw[<-M];rfl
 have yx:Y.xe=FF:=by rw[<-M];rfl
 have hg:=hg s3.heap.objs.size s3 H3 fp;have ht:=ht s3.heap.objs.size s3 H3 fp;have he:=he s3.heap.objs.size s3 H3 fp;rw[M]at hg ht he;have yex:Y.ex=fp:=by rw[<-M];rfl
 have yfs:∀b∈fp,b∉Y.fs:=λb hb hs=>by
  rw[<-M]at hs;have hs:b∈L8 X.stack:=hs;rcases KM.mp (I3.stkSub b hs)with z|z
  ·exact(L b hb).2.1 z
  exact(L b hb).2.2.1 z
 have yL:Y.env.locals=s3.heap.objs.size:=by rw[<-M];rfl
 have hio:y∉io++N:=λhm=>by obtain⟨u,hu,_⟩:=S1.mem hm;rw[hD]at hu;cases hu
 have start:∀{H':Hp}{sx:Shared}{σ':L2.St},Inv Y [] σ' H' sx->(∀b∈fp,H' b=none)->∀b∈fp,Kk Y [] H' b:=λ{H' sx σ'} I' hn b hb=>by
  refine⟨hn b hb,λz=>?_,yfs b hb,.inl (by rw[yex];exact hb),λx cc e z=>?_,λp hp=>absurd hp (by rw[<-M];simp[LH])⟩
  ·rw[yL]at z;exact absurd (fplt b hb) (by rw[z];exact AL _)
  exact(I'.ok.exf b (by rw[yex];exact hb)).2 x cc e z
 have loop:∀sx:Shared,Inv Y [] (Nn σ nt fr) H3 sx->tn 0 sx.heap->codeAny (!4) X.A (.compLoop (.ListComp elt [⟨tg,iter,ifs,0⟩] scope pos) 0 (.ref it) (.ref y) Y.env) (compPost (!4) X.A X.xe use Qf (.ref y) s3.heap.objs.size) sx:=by
  intro sx Ix tnx;refine zjb (CompI X Y W tn fp (io++N) H1 y g c m t2 xs) ?_ (W.ds.length-0)
   ⟨0,Nn σ nt fr,H3,Jc U nt fr,t1,[],[],xs,rfl,Ix,tnx,λb hb=>(L b hb).1,X2,by simp,S2.nil,by rw[An];exact uR (by have:=(E.ext S X1).ext S1 X2;rw[An]at this;exact this),⟨[],H3D,rfl⟩,by rw[DK];exact e2,rfl⟩
  rintro n s5 ⟨i,σ5,P,U5,st5,l,ac,rs,rfl,I5,tn5,fr5,X25,nk5,S5,E5,⟨vs,hvs,Rvs⟩,G,exs⟩;have nD:∀{kk:List Addr},y∉kk->y∉(io++N)++kk:=λ{kk} hk hm=>(Os.mp hm).elim hio hk;have nF:∀{kk jj:List Addr}{Ha Hb:Hp}{vv:List V},Ext jj kk Ha Hb->Ha y=some (.lst vv)->y∉kk:=λ{kk jj Ha Hb vv} Xx hv hm=>by have q:=Xx.fresh y hm;rw[hv]at q;cases q
  cases hd:W.ds[i]? with
  |none=>
   have hl:W.ds.length<=i:=List.getElem?_eq_none_iff.mp hd;rw[EL hl]at G;obtain⟨hw,G⟩:=Iu G;cases G;have:=T.done Y yP yW yK yC i [] s5 σ5 P FF I5 (start I5 fr5) tn5 (IO.stop' P l _ i hl X25 S5 (Rz hw));rw[yA]at this;refine HB this ?_;rintro r s6 ⟨hr,I6⟩;subst hr;obtain⟨mm,hn,_⟩:=id I6.loc;rw[yL]at hn;have base:Un (L8 X.stack) fp H3 P s3.heap s6.heap:=by have b:=I6.base;rw[<-M]at b;exact b
   have os:s6.os=s3.os:=by have b:=I6.os;rw[<-M]at b;exact b
   have free:P s3.heap.objs.size=none:=by have b:=I6.free;rw[yL]at b;exact b
   have hok:Jx X.prog X.w P s6.heap:=by have b:=I6.hok;rw[yP,yW]at b;exact b
   have I7:Inv X qp σ P s6:=Inv.call' (s':=s6) (ch:=fp) I3 os base hok I6.bare λb hb=>⟨(L b hb).2.2.2.1,(L b hb).2.1,(L b hb).2.2.2.2.1,(L b hb).2.2.2.2.2⟩;have np:y∉(io++N)++l:=nD nk5;rw[An]at exs;subst exs;have SA:=adopt S5 hvs np Rvs;have X6:Ext io (N++l) H P:=X1.trans S1 X25;have lt3:X.env.locals<s3.heap.objs.size:=I3.lt;refine kf y s3.heap.objs.size P s6 ⟨I7,⟨mm,hn⟩,free,C5 lt3,I3.sz,λx cc e z=>?_,λp hp z=>?_,?_⟩
   ·obtain⟨vv,q⟩:=I3.cell x cc e;have:=q.lt;rw[z]at this;exact AL _ this
   ·have:=Aj (I3.pin p hp).1;rw[z]at this;exact AL _ this
   refine⟨(N++l)++[y],⟨λb o hb nb=>X6.keep b o hb nb,λb hb=>?_,X6.frz⟩,(by simpa using SA),⟨y,rfl,?_⟩⟩
   ·rcases Os.mp hb with hb|hb
    ·exact X6.fresh b hb
    ·rw[On.mp hb]
     cases q:H y with
     |none=>rfl
     |some o=>
      by_cases hb:y∈io
      ·exact absurd (A4 _ hb) hio
      have:=X1.keep y o q hb;rw[hD]at this;cases this
   have:=getElem?_len ((io++N)++l) y;rw[<-S5.len];simpa using this
  |some dd=>
   have hl:i<W.ds.length:=(KB.mp hd).1;have hdr:W.ds.drop i=dd::W.ds.drop (i+1):=by rw[CY hl,(KB.mp hd).2]
   rw[hdr]at G;obtain⟨hw,G⟩:=Iu G;obtain⟨⟨U6,t6⟩,e6,G⟩:=Hs G;obtain⟨⟨b7,t7⟩,e7,G⟩:=Hs G;obtain⟨go,yl⟩:=IO.go i dd P l st5 hd X25 S5 (Rz hw);have hit:=T.item Y yP yW yK yC i [] s5 σ5 P FF I5 (start I5 fr5) tn5 go;rw[yA]at hit;refine HB hit ?_;rintro r s6 ⟨u,hr,h6⟩;subst hr;refine HB h6 ?_;rintro _ s7 ⟨x,H7,I7,r7,y7,tn7,fr7⟩;obtain⟨X7,S7,R7⟩:=yl x H7 y7;have X57:Ext (io++N) l H1 H7:=(X25.trans S5 X7).app;have hv7:H7 y=some (.lst vs):=X7.keep _ _ hvs (nD nk5);have E7:HK X.K H7 ((io++N)++l) σ5 U5:=by have:=E5.ext S5 X7;rw[An]at this;exact this
   have R7v:Hi X.K H7 ((io++N)++l) vs ac:=by have:=Rvs.ext S5 X7;rw[An]at this;exact this
   have I7p:=I7.pinned (start I7 fr7) (T.obj _ _ tn7);rw[<-yA,<-yP,<-yW];rw[<-yx];refine HB (hg _ s7 σ5 H7 x u (λσ8 H8=>∃Q,Ext ((io++N)++l) Q H7 H8/\HA X.K H8 (((io++N)++l)++Q) t6/\HK X.K H8 (((io++N)++l)++Q) σ8 U6) I7p r7 (by rw[yK];exact⟨dd,U5,st5,(io++N)++l,U6,t6,R7,E7,S7,e6,λσ8 H8 Q X8 S8 E8=>⟨Q,X8,S8,E8⟩⟩)) ?_;rintro _ s8 ⟨σ8,H8,I8,Q,X8,S8,E8⟩;have S8':HA X.K H8 ((io++N)++(l++Q)) t6:=by rw[<-Am];exact S8
   have E8':HK X.K H8 ((io++N)++(l++Q)) σ8 U6:=by rw[<-Am];exact E8
   have X38:Ext (io++N) (l++Q) H1 H8:=X57.trans S7 X8;have nk8:y∉l++Q:=λhm=>(Os.mp hm).elim nk5 (nF X8 hv7);refine HB (ht _ s8 σ8 H8 (λb H9=>b=b7/\∃F,Ext ((io++N)++(l++Q)) F H8 H9/\HA X.K H9 (((io++N)++(l++Q))++F) t7) I8 (by rw[yK];exact⟨U6,t6,(io++N)++(l++Q),b7,t7,E8',S8',e7,λH9 F X9 S9=>⟨rfl,F,X9,S9⟩⟩)) ?_;rintro ok s9 ⟨H9,I9,eb,F,X9,S9⟩;subst eb;have X39:Ext (io++N) ((l++Q)++F) H1 H9:=X38.trans S8' X9;have S9':HA X.K H9 ((io++N)++((l++Q)++F)) t7:=by rw[<-Am];exact S9
   have E9:HK X.K H9 ((io++N)++((l++Q)++F)) σ8 U6:=by have:=E8'.ext S8' X9;rw[Am]at this;exact this
   have hv8:H8 y=some (.lst vs):=X8.keep _ _ hv7 (nD nk5);have hv9:H9 y=some (.lst vs):=X9.keep _ _ hv8 (nD nk8);have nk9:y∉(l++Q)++F:=λhm=>(Os.mp hm).elim nk8 (nF X9 hv8);have R8v:Hi X.K H8 ((io++N)++(l++Q)) vs ac:=by have:=R7v.ext S7 X8;rw[Am]at this;exact this
   have R9v:Hi X.K H9 ((io++N)++((l++Q)++F)) vs ac:=by have:=R8v.ext S8' X9;rw[Am]at this;exact this
   have back:∀{Hx:Hp}{sx:Shared}{σx:L2.St},Inv Y ([]++Q1 fp s7.heap) σx Hx sx->Inv Y [] σx Hx sx/\tn (i+1) sx.heap/\∀b∈fp,Hx b=none:=λ{Hx sx σx} Ix=>by refine⟨Ix.unpinned,T.keep _ _ _ tn7 λb hb o e=>(Ix.pin (b,o) (AI _ (AI _ (Ut hb e)))).1,λb hb=>?_⟩;obtain⟨o,e,dn⟩:=T.obj _ _ tn7 b hb;exact(Ix.pin (b,o) (AI _ (AI _ (Ut hb e)))).2.1
   cases ok with
   |false=>
    rw[if_neg (!1)];have G:Jj W g c m (W.ds.drop (i+1)) U6 t7=some (rs,t2):=G;obtain⟨Ib,tnb,frb⟩:=back I9;exact⟨W.ds.length-(i+1),by omega,i+1,σ8,H9,U6,t7,(l++Q)++F,ac,rs,rfl,Ib,tnb,frb,X39,nk9,S9',E9,⟨vs,hv9,R9v⟩,G,exs⟩
   |true=>
    rw[if_pos rfl];have G:((m U6 t7).bind λ(x,s3)=>(Jj W g c m (W.ds.drop (i+1)) U6 s3).map λ(xs,s4)=>(x::xs,s4))=some (rs,t2):=G;obtain⟨⟨x10,t10⟩,e10,G⟩:=Hs G;obtain⟨⟨rs',t11⟩,e11,G⟩:=Ia G;cases G;refine HB (he _ s9 σ8 H9 (λv f=>∃B,Ext ((io++N)++((l++Q)++F)) B H9 f/\HA X.K f (((io++N)++((l++Q)++F))++B) t10/\Rep X.K f (((io++N)++((l++Q)++F))++B) v x10) I9
     (by rw[yK];exact⟨U6,t7,(io++N)++((l++Q)++F),x10,t10,E9,S9',e10,λv f B X10 S10 R10=>⟨B,X10,S10,R10⟩⟩)) λu10 s10 ⟨v10,f,I10,r10,B,X10,S10,R10⟩=>?_
    have X310:Ext (io++N) (((l++Q)++F)++B) H1 f:=X39.trans S9' X10;have nk10:y∉((l++Q)++F)++B:=λhm=>(Os.mp hm).elim nk9 (nF X10 hv9);have S10':HA X.K f ((io++N)++(((l++Q)++F)++B)) t10:=by rw[<-Am];exact S10
    have hv10:f y=some (.lst vs):=X10.keep _ _ hv9 (nD nk9);have E10:HK X.K f ((io++N)++(((l++Q)++F)++B)) σ8 U6:=by have:=E9.ext S9' X10;rw[Am]at this;exact this
    have R10v:Hi X.K f ((io++N)++(((l++Q)++F)++B)) (vs++[v10]) (ac++[x10]):=by have a:=R9v.ext S9' X10;rw[Am]at a;rw[Am]at R10;exact a.append (Hi.cons R10 Hi.nil)
    have hlen:vs.length<sizeLine:=by rw[R9v.length];have:=of_decide_eq_true hfit;rw[exs]at this;simp at this;omega
    refine HB (dA _ s10 σ8 f (.ref y) [v10] (.ref y) [u10] (λ_ H11=>H11=upd f y (.lst (vs++[v10]))) I10 rfl (.cons r10 .nil) ⟨y,vs,v10,rfl,rfl,hv10,hlen,rfl⟩) ?_;rintro _ s11 ⟨_,H11,I11,_,e11'⟩;subst e11';have nD10:=nD nk10;have XU:∀b o,f b=some o->b≠y->upd f y (.lst (vs++[v10])) b=some o:=λb o hb hn=>by rw[HV hn];exact hb
    have TU:Kp f (upd f y (.lst (vs++[v10]))):=⟨λa ys hb=>XU a _ hb (QO hb hv10 (!2)),λa o u hb=>XU a _ hb (QO hb hv10 (!2))⟩
    have S11:HA X.K (upd f y (.lst (vs++[v10]))) ((io++N)++(((l++Q)++F)++B)) t10:=by refine⟨S10'.len,S10'.nd,λn a ob h1 h2=>?_⟩;have hne:a≠y:=λz=>nD10 (by rw[<-z];exact AF h1);have:=OR.mono (ka:=[]) TU (HV hne) (S10'.ob n a ob h1 h2);rw[An]at this;exact this
    have mono0:∀{v:V}{d:D},Rep X.K f ((io++N)++(((l++Q)++F)++B)) v d->Rep X.K (upd f y (.lst (vs++[v10]))) ((io++N)++(((l++Q)++F)++B)) v d:=λ{v d} h=>by have:=Rep.mono (ka:=[]) TU h;rw[An]at this;exact this
    have mono1:∀{v:List V}{d:List D},Hi X.K f ((io++N)++(((l++Q)++F)++B)) v d->Hi X.K (upd f y (.lst (vs++[v10]))) ((io++N)++(((l++Q)++F)++B)) v d:=λ{v d} h=>by have:=Hi.mono (ka:=[]) TU h;rw[An]at this;exact this
    obtain⟨Ib,tnb,frb⟩:=back I11;refine⟨W.ds.length-(i+1),by omega,i+1,σ8,upd f y (.lst (vs++[v10])),U6,t10,((l++Q)++F)++B,ac++[x10],rs',rfl,Ib,tnb,frb,⟨λb o hb nb=>XU b o (X310.keep b o hb nb) (λz=>by rw[z,hD]at hb;cases hb),X310.fresh,λb o u hb=>XU b _ (X310.frz b o u hb) (λz=>by rw[z,hD]at hb;cases hb)⟩,nk10,S11,⟨E10.len,λj dj hj=>?_⟩,⟨_,Le,mono1 R10v⟩,e11,by rw[exs,Am];rfl⟩;obtain⟨v,q,r⟩:=E10.at_ j dj hj;exact⟨v,q,mono0 r⟩
 have l4:=loop s4 I4 tn4;exact codeAny_compStart_list l4 (T.self _ 0 _ _ _ tn4 l4)
def Oy(j:X.xe=FF)(r:X.calm=true)(Z:JK X scope N' nt fr)(hi:SI X tg iter mi)(u:∀C s0 h fp,SG (LH X scope N' (LG X scope C) C s0 h fp) tg g) (v:∀C s0 h fp,SC (LH X scope N' (LG X scope C) C s0 h fp) ifs c) (he:∀C s0 h fp,SE (LH X scope N' (LG X scope C) C s0 h fp) elt m)(y:∀x,foldedSetIterable iter X.env x=pure x:=by intro _;rfl):SE X (.ListComp elt [⟨tg,iter,ifs,0⟩] scope pos) (Ju mi nt fr g c m):=by
 rintro qp s σ H Q I ⟨U,st,io,d,st',E,S,e,k⟩;rw[eval_ListComp];refine bS (use:=none) j r Z hi u v he y I E S e λf C i l R=>?_;obtain⟨n,p⟩:=R.ns;refine⟨n,p,λT a=>?_⟩;obtain⟨ka,w,A,K⟩:=R.val;exact⟨.ref f,i,R.inv.turned (t':=l.toks) (it:=C) (λb o N q=>(a.2 b N).trans q) R.free R.ne (.inr R.young) R.cells R.pin,rfl,k _ _ ka w A K⟩
def UG{x:Str}{j:Pos}(F:X.xe=FF)(G:X.calm=true)(Z:JK X scope N' nt fr)(hi:SI X tg iter mi)(J:∀C s0 r fp,SG (LH X scope N' (LG X scope C) C s0 r fp) tg g) (L:∀C s0 r fp,SC (LH X scope N' (LG X scope C) C s0 r fp) ifs c) (he:∀C s0 r fp,SE (LH X scope N' (LG X scope C) C s0 r fp) elt m)(M:X.N.Nodup) (u:X.N[i]?=some x) (B:X.env.scope.names.lookup x=some .local)(y:swapsWith (.ListComp elt [⟨tg,iter,ifs,0⟩] scope pos) (some<|.Name x pos') j.line X.env=pure true:=by rfl)(P:∀x,foldedSetIterable iter X.env x=pure x:=by intro _;rfl):SS X (.Assign [.Name x pos'] (.ListComp elt [⟨tg,iter,ifs,0⟩] scope pos) j) (Ht (Ju mi nt fr g c m)<|Ho i):=by
 intro qp s σ H N I h;exists 2;obtain⟨⟨d,s1⟩,T,e⟩:=Hs e;obtain⟨⟨U',s2⟩,W,e⟩:=Ia e;cases e;cases W;rw[exec_Assign_Name_used _ _ _ _ y];refine Aa<|DV<|Aa ?_;show wpAny _ X.A (do let _ <-comprehension (.ListComp elt [⟨tg,iter,ifs,0⟩] scope pos) scope X.env _ (newList []) false (UV iter X.env) (some<|assign (.Name x pos') X.env)) _ _ s;refine Aa<|HB (bS (use:=some (assign (.Name x pos') X.env)) (Qf:=λ_ p=>SP X qp N .next p) F G Z hi J L he P I E S T λK C Y s6 R=>?_) λ_ p hq=>Ac (Ac hq);obtain⟨m5,hn⟩:=R.ns;obtain⟨ka,Q,S5,R5⟩:=R.val;show wpAny _ _ (assign (.Name x pos') X.env<|.ref K) _ _ _;refine FP<|dZ (v:=.ref K) R.inv M u (.inl B) rfl (?_)<|.inr B;rintro s7 I7 ⟨a,sb,ha⟩;have l:C≠a:=λz=>by
  rcases ha with q|q
  ·exact R.ne<|z.trans q
  exact R.cells _ _ q z.symm
 refine⟨m5,hn.sameBut sb l,λh' n=>?_⟩;refine⟨_,Y,I7.turned (t':=s7.toks) (it:=C) (λb o hb q=>(n.2 b hb).trans q) R.free R.ne (.inr R.young) R.cells R.pin,?_⟩;exact w _ _ ka Q S5<|(E.ext S Q).set i R5
end
variable {v:V}
def Hz:G2
 |.int i,.int j,st=>some (.int (i+j),st)
 |.str a,.str b,st=>if fits (a.length+b.length)=true then some (.str (a++b),st)else none
 |.tup a,.tup b,st=>if(!a.isEmpty&&fits (a.length+b.length))=true then some (.tup (a++b),st)else none
 |.ref a,.ref b,st=>match st[a]?,st[b]? with
  |some (.lst x),some (.lst y)=>if fits (x.length+y.length)=true then some (.ref st.length,st++[.lst (x++y)])else none
  |_,_=>none
 |_,_,_=>none
def Jn:Ji X (binaryOp .Add) Hz:=by
 rintro qp s σ H x y v u Q I f l ⟨K,m,st,io,d,st',n,o,S,e,k⟩;cases K with
 |int i=>
  cases m with
  |int j=>cases e;exact nR qp s σ H x y v u Q I f l ⟨i,j,n,o,k.now S rfl⟩
  |_=>cases e
 |str i=>
  cases m with
  |str j=>
   exists 3;cases e;exact zkj qp s σ H x y v u Q I f l ⟨i,j,n,o,of_decide_eq_true hf,k.now S rfl⟩
  |_=>cases e
 |tup i=>
  cases m with
  |tup j=>
   exists 3;cases e;rw[Aq]at hf;obtain⟨p,xs,ex,a,b⟩:=n;obtain⟨q,w,A,E,c⟩:=o;refine uD qp s σ H x y v u Q I f l ⟨p,q,xs,w,ex,A,IM.of a,IM.of E,λz=>?_,by rw[b.length,c.length];exact of_decide_eq_true hf.2,λz=>?_,λz p a=>k.tup S (b.append c) a⟩
   ·have:=b.length;rw[z]at this;have:i=[]:=CG this.symm;rw[this]at hf;exact absurd hf.1<|by decide
   have:=c.length;rw[z]at this;have:j=[]:=CG this.symm;subst this;rw[An]at k;exact k.now S ⟨p,xs,rfl,a,b⟩
  |_=>cases e
 |ref i=>
  cases m with
  |ref j=>
   unfold Hz at e;exists 10;split at e
   ·rename_i g h N T;exists 3;cases e;obtain⟨p,ex,a⟩:=n;obtain⟨q,A,E⟩:=o;obtain⟨xs,U,b⟩:=S.ob i p _ a N;obtain⟨w,W,c⟩:=S.ob j q _ E T;exact nT qp s σ H x y v u Q I f l ⟨p,q,xs,w,ex,A,U,W,by rw[b.length,c.length];exact of_decide_eq_true hf,λp a=>k.lst S (b.append c) a⟩
   ·cases e
  |_=>cases e
 |_=>cases e
def intD(c:Int->Int->Bool)(g:Int->Int->D):G2
 |.int i,.int j,st=>if c i j=true then some (g i j,st)else none
 |_,_,_=>none
def Qk{f:IR->IR->Sem IR}{C:Int->Int->Prop}{c:Int->Int->Bool}{g:Int->Int->Int}(h:JU X f (rI C λi j=>.int (g i j)))(q:∀i j,c i j=true->C i j):Ji X f (intD c λi j=>.int (g i j)):=by
 rintro qp s σ H x y v u Q I a b ⟨l,m,st,io,d,st',n,o,S,e,k⟩;cases l with
 |int i=>
  cases m with
  |int j=>
   exists 3;cases e;exact h qp s σ H x y v u Q I a b ⟨i,j,n,o,q i j hf,k.now S rfl⟩
  |_=>cases e
 |_=>cases e
def tt2:Int->Int->Bool:=λ_ _=>true
def K5:G2:=intD tt2 λi j=>.int<|i-j
def Qm:Ji X (binaryOp .Sub) K5:=Qk (C:=λ_ _=>True) (λqp s σ H x y v u Q I a b ⟨i,j,c,d,_,q⟩=>nZ qp s σ H x y v u Q I a b ⟨i,j,c,d,q⟩) λ_ _ _=>trivial
def J4(i:Int):Bool:=decide (-(2^64)<i)&&decide (i<2^64)
def L3:G2:=intD (λi j=>J4 i || J4 j) λi j=>.int<|i*j
def uG:Ji X (binaryOp .Mult) L3:=Qk nY λi j h=>by
 rw[Er]at h;unfold J4 at h;rw[Aq,Aq]at h;rcases h with h|h
 ·exact .inl ⟨of_decide_eq_true h.1,of_decide_eq_true h.2⟩
 exact .inr ⟨of_decide_eq_true h.1,of_decide_eq_true h.2⟩
def Ih:G2:=intD (λ_ j=>decide (0<j)) λi j=>.int<|i % j
def Mh:Ji X (binaryOp .Mod) Ih:=Qk nX λi j h=>of_decide_eq_true h
def L9(g:Int->Int->Bool):G2
 |.int i,.int j,st=>some (.bl (g i j),st)
 |_,_,_=>none
def TL{f:IR->IR->Sem IR}{g:Int->Int->Bool}(h:JU X f (NL λi j=>.bl (g i j))):Ji X f (L9 g):=by
 rintro qp s σ H x y v u Q I a b ⟨c,l,st,io,d,st',m,n,S,e,k⟩;cases c with
 |int i=>
  cases l with
  |int j=>cases e;exact h qp s σ H x y v u Q I a b ⟨i,j,m,n,k.now S rfl⟩
  |_=>cases e
 |_=>cases e
def OS:G2:=L9 λi j=>decide (i<j)
def PJ:G2:=L9 λi j=>decide (i<=j)
def Ss:G2:=L9 λi j=>decide (j<i)
def Mr:G2:=L9 λi j=>decide (j<=i)
def VI:Ji X (SL .Lt) OS:=TL iW
def Tx:Ji X (SL .LtE) PJ:=TL iV
def nV:Ji X (SL .Gt) Ss:=TL iU
def QZ:Ji X (SL .GtE) Mr:=TL iT
def P1:D->Bool
 |.non=>true
 |_=>false
def O4:G2:=λx y st=>match y with
 |.non=>some (.bl !P1 x,st)
 |_=>none
def tY(h:Rep K H io v d):decide (v=.non)=P1 d:=by
 cases d with
 |non=>cases (show v=.non from h);rfl
 |bl b=>cases (show v=.bl b from h);rfl
 |int b=>cases (show v=.int b from h);rfl
 |str b=>cases (show v=.str b from h);rfl
 |tup b=>obtain⟨a,xs,rfl,_⟩:=h;rfl
 |ref b=>obtain⟨a,rfl,_⟩:=h;rfl
 |kl b=>obtain⟨a,xs,rfl,_⟩:=h;rfl
 |fn b=>obtain⟨a,rfl,_⟩:=h;rfl
 |er b c f=>cases f<;>(obtain⟨_,_,_,_,h⟩:=h;first|(obtain⟨rfl,_⟩:=h;rfl)|(obtain⟨_,rfl,_⟩:=h;rfl)|(obtain⟨_,_,rfl,_⟩:=h;rfl))
def bH:Ji X (SL .IsNot) O4:=by
 rintro qp s σ H x y v u Q I a b ⟨l,c,st,io,d,st',f,i,S,e,k⟩;cases c with
 |non=>
  cases e;refine sT qp s σ H x y v u Q I a b ⟨i,?_⟩;rw[tY f];exact k.now S rfl
 |_=>cases e
def Sh:D->Hh->Option (D×Hh)
 |.int i,st=>some (.int (-i),st)
 |_,_=>none
def NQ(m:ME):ME:=λU st=>(!9).bind λ(x,s)=>Sh x s
def oY(g:SE X a ma):SE X (.UnaryOp .USub a pos) (NQ ma):=PE.imp (jA pT g) <| by
 exists 1;obtain⟨⟨x,s1⟩,b,e⟩:=Hs e;cases x with
 |int i=>
  cases e;exact⟨U,st,io,.int i,_,E,S,b,λv H1 c f l m=>⟨i,m,k _ H1 c f l rfl⟩⟩
 |_=>cases e
def Ki:G2
 |.tup ds,.int i,st=>(Lf ds i).map λd=>(d,st)
 |.ref n,.int i,st=>(Ig st n).bind λds=>(Lf ds i).map λd=>(d,st)
 |.kl ds,.int i,st=>(Lf ds i).map λd=>(d,st)
 |.str z,.int i,st=>if fits z.length=true then(Lf z.cps.toList i).map λc=>(.str ⟨#[c]⟩,st)else none
 |_,_,_=>none
def VZ{i:Int}(r:Hi K H io xs ds)(h:Lf ds i=some d):∃v,Lf xs i=some v/\Rep K H io v d:=by unfold Lf at h ⊢;rw[r.length];obtain⟨j,a,h⟩:=Hs h;obtain⟨v,b,c⟩:=r.get h;exact⟨v,by rw[a];exact b,c⟩
def Yz:SF X (R9 X.K Ki):=by
 rintro value slice qp s σ H x y v u Q I c f ⟨T,U,st,io,d,st',l,m,S,e,k⟩ o;cases U with
 |int i=>
  cases T with
  |tup ds=>
   obtain⟨A,b,e⟩:=Ia e;cases e;obtain⟨p,xs,ex,E,r⟩:=l;obtain⟨w,hw,a⟩:=VZ r b;exact IA value slice qp s σ H x y v u Q I c f ⟨p,xs,i,w,ex,m,IM.of E,hw,k.now S a⟩ o
  |ref n=>
   obtain⟨ds,W,e⟩:=Hs e;obtain⟨A,b,e⟩:=Ia e;cases e;obtain⟨p,ex,E⟩:=l;obtain⟨xs,N,r⟩:=KG S E W;obtain⟨w,hw,a⟩:=VZ r b;exact ZX value slice qp s σ H x y v u Q I c f ⟨p,xs,i,w,ex,m,N,hw,k.now S a⟩ o
  |kl ds=>
   obtain⟨A,b,e⟩:=Ia e;cases e;obtain⟨p,xs,ex,N,r⟩:=l;obtain⟨w,hw,a⟩:=VZ r b;exact ZX value slice qp s σ H x y v u Q I c f ⟨p,xs,i,w,ex,m,N.sq,hw,k.now S a⟩ o
  |str z=>
   exists 3;obtain⟨A,b,e⟩:=Ia e;cases e;exact Q6 value slice qp s σ H x y v u Q I c f ⟨z,i,A,l,m,of_decide_eq_true hf,b,k.now S rfl⟩ o
  |_=>cases e
 |_=>cases T<;>cases e
def jG(g:SE X a ma)(j:SE X b mb)(q:VV b:=by intro _ _;rfl):SE X (.Subscript a b pos) (mB Ki ma mb):=PE.imp (iY Yz g j q) λ_ _ _ h=>Uk h
def HQ:GN
 |[.tup ds],st=>some (.int ds.length,st)
 |[.ref n],st=>(Ig st n).map λds=>(.int ds.length,st)
 |[.kl ds],st=>some (.int ds.length,st)
 |[.str z],st=>if fits z.length=true then some (.int z.length,st)else none
 |_,_=>none
def LW:Jy X (.builtin "len") HQ:=by
 exists 0;cases ds with
 |nil=>cases e
 |cons i m=>
 cases m with
 |cons w a=>cases i<;>cases e
 |nil=>
 cases i with
 |tup l=>
  cases e;obtain⟨v,rfl,p,b,rfl,c,a⟩:=R.one;refine Xc qp s σ H _ us Q I r ⟨p,b,rfl,.inr<|IM.of c,?_⟩;rw[a.length];exact k.now S rfl
 |ref n=>
  obtain⟨l,o,e⟩:=Ia e;cases e;obtain⟨v,rfl,p,rfl,c⟩:=R.one;obtain⟨b,f,a⟩:=KG S c o;refine Xc qp s σ H _ us Q I r ⟨p,b,rfl,.inl f,?_⟩;rw[a.length];exact k.now S rfl
 |kl l=>
  cases e;obtain⟨v,rfl,p,b,rfl,f,a⟩:=R.one;refine Xc qp s σ H _ us Q I r ⟨p,b,rfl,.inl f.sq,?_⟩;rw[a.length];exact k.now S rfl
 |str z=>
  exists 3;cases e;obtain⟨v,rfl,rfl⟩:=R.one;exact zhP qp s σ H _ us Q I r ⟨z,rfl,of_decide_eq_true hf,k.now S rfl⟩
 |_=>cases e
def Ls:GN
 |[.int i],st=>some (.int i,st)
 |[.bl b],st=>some (.int (if b then 1 else 0),st)
 |_,_=>none
def zE:Jy X (.type "int") Ls:=by
 exists 0;cases ds with
 |nil=>cases e
 |cons a c=>
 cases c with
 |cons f l=>cases a<;>cases e
 |nil=>
 cases a with
 |int i=>
  cases e;obtain⟨v,rfl,rfl⟩:=R.one;exact dM qp s σ H _ us Q I r<|.inl ⟨i,rfl,k.now S rfl⟩
 |bl b=>
  cases e;obtain⟨v,rfl,rfl⟩:=R.one;exact dM qp s σ H _ us Q I r<|.inr ⟨b,rfl,k.now S rfl⟩
 |_=>cases e
def QN:GN
 |[.int i,.int j],st=>some (.int (if j<i then j else i),st)
 |_,_=>none
def zG(g:X.calm=true):Jy X (.builtin "min") QN:=by
 exists 0;unfold QN at e;split at e
 ·rename_i i j;cases e;obtain⟨v,u,rfl,rfl,rfl⟩:=R.two;exact zF g qp s σ H _ us Q I r ⟨i,j,rfl,k.now S rfl⟩
 ·cases e
def SX:GN
 |[.tup ds],st=>if fits ds.length=true then some (.ref st.length,st++[.lst ds])else none
 |[.ref n],st=>(Ig st n).bind λds=>if fits ds.length=true then some (.ref st.length,st++[.lst ds])else none
 |[.kl ds],st=>if fits ds.length=true then some (.ref st.length,st++[.lst ds])else none
 |_,_=>none
def zlc:Jy X (.type "list") SX:=by
 exists 0;cases ds with
 |nil=>cases e
 |cons m w=>
 cases w with
 |cons A a=>cases m<;>cases e
 |nil=>
 cases m with
 |tup o=>
  exists 3;cases e;obtain⟨v,rfl,p,b,rfl,f,a⟩:=R.one;exact Xd qp s σ H _ us Q I r ⟨p,b,rfl,.inr<|IM.of f,λl c=>k.lst S a c⟩
 |ref n=>
  obtain⟨o,x,e⟩:=Hs e;exists 3;cases e;obtain⟨v,rfl,p,rfl,f⟩:=R.one;obtain⟨b,i,a⟩:=KG S f x;exact Xd qp s σ H _ us Q I r ⟨p,b,rfl,.inl i,λl c=>k.lst S a c⟩
 |kl o=>
  exists 3;cases e;obtain⟨v,rfl,p,b,rfl,i,a⟩:=R.one;exact Xd qp s σ H _ us Q I r ⟨p,b,rfl,.inl i.sq,λl c=>k.lst S a c⟩
 |_=>cases e
def Mz:GN
 |[.tup ds],st=>some (.tup ds,st)
 |[.ref n],st=>(Ig st n).map λds=>(.tup ds,st)
 |_,_=>none
def Pm:Jy X (.type "tuple") Mz:=by
 exists 0;cases ds with
 |nil=>cases e
 |cons f i=>
 cases i with
 |cons A a=>cases f<;>cases e
 |nil=>
 cases f with
 |tup m=>
  cases e;obtain⟨v,rfl,p,b,rfl,c,a⟩:=R.one;exact fY qp s σ H _ us Q I r ⟨p,b,rfl,.inr ⟨IM.of c,k.now S ⟨p,b,rfl,c,a⟩⟩⟩
 |ref n=>
  obtain⟨m,o,e⟩:=Ia e;cases e;obtain⟨v,rfl,p,rfl,c⟩:=R.one;obtain⟨b,w,a⟩:=KG S c o;exact fY qp s σ H _ us Q I r ⟨p,b,rfl,.inl ⟨w,λl x=>k.tup S a x⟩⟩
 |_=>cases e
def Jo(f:D->Option PyData):List D->Option (List PyData)
 |[]=>some []
 |d::ds=>(f d).bind λp=>(Jo f ds).map λps=>p::ps
def IX:Nat->Hh->D->Option PyData
 |0,_,_=>none
 |n+1,st,d=>match d with
  |.non=>some .none
  |.bl b=>some<|.bool b
  |.int i=>some<|.int i
  |.str x=>if Bp x=true then some (.str x)else none
  |.tup ds=>(Jo (IX n st) ds).map .tuple
  |.ref k=>(Ig st k).bind λds=>(Jo (IX n st) ds).map .list
  |.kl _=>none
  |.fn _=>none
  |.er _ _ _=>none
theorem Xn{n:Nat}:∀{ps:List PyData},(∀p∈ps,p.depth<=n)->Es ps<=n
 |[],_=>by rw[Es];exact A5 _
 |p::ps,h=>by rw[Es];exact Nat.max_le.mpr ⟨h p Al,Xn λq g=>h q (Ai _ g)⟩
def gE{ps:List PyData}:(∀p∈ps,p.canLay0=true)->CJ ps=true:=by
 induction ps with
 |nil=>intro _;simp only[CJ]
 |cons p ps a=>
  intro h;simp only[CJ];rw[h p Al,a λq b=>h q (Ai _ b)];rfl
theorem Wu{f:D->Option PyData}:∀{ds:List D}{ps:List PyData},Jo f ds=some ps->∀p∈ps,∃d,f d=some p
 |[],ps,h,p,hp=>by cases h;exact absurd hp<|by simp
 |d::ds,ps,h,p,hp=>by
  obtain⟨q,g,h⟩:=Hs h;obtain⟨b,a,h⟩:=Ia h;subst h;rcases KM.mp hp with rfl|hp
  ·exact⟨d,g⟩
  exact Wu a p hp
theorem Na:∀{n:Nat}{st:Hh}{d:D}{p:PyData},IX n st d=some p->p.canLay0=true/\p.depth<=n
 |0,_,_,_,h=>by cases h
 |n+1,st,d,p,h=>by
  cases d with
  |non=>cases h;exact⟨by simp only[B5],by simp only[C9];exact A5 _⟩
  |bl b=>cases h;exact⟨by simp only[B5],by simp only[C9];exact A5 _⟩
  |int b=>cases h;exact⟨by simp only[B5],by simp only[C9];exact A5 _⟩
  |str b=>
   obtain⟨g,h⟩:=Iu h;cases h;exact⟨by simp only[B5];exact g,by simp only[C9];exact A5 _⟩
  |tup ds=>
   obtain⟨c,e,h⟩:=Ia h;subst h;have q:∀p∈c,p.canLay0=true/\p.depth<=n:=λp a=>let ⟨d,hd⟩:=Wu e p a;Na hd;exact⟨by simp only[B5];exact gE λp a=>(q p a).1,by simp only[C9];exact CS (Xn λp a=>(q p a).2)⟩
  |kl ds=>cases h
  |fn ds=>cases h
  |er _ _ _=>cases h
  |ref k=>
   obtain⟨ds,f,h⟩:=Hs h;obtain⟨c,e,h⟩:=Ia h;subst h;have q:∀p∈c,p.canLay0=true/\p.depth<=n:=λp a=>let ⟨d,hd⟩:=Wu e p a;Na hd;exact⟨by simp only[B5];exact gE λp a=>(q p a).1,by simp only[C9];exact CS (Xn λp a=>(q p a).2)⟩
theorem Xk{f:D->Option PyData}(hf:∀{v:V}{u:IR}{d:D}{p:PyData},Rep X.K H io v d->RelV v u->f d=some p->∃as,Reads s.heap u p as):
  ∀{xs:List V}{us:List IR}{ds:List D}{ps:List PyData},Hi X.K H io xs ds->Vals xs us->Jo f ds=some ps->∃as,ReadsAll s.heap us ps as
 |_,_,[],ps,h,r,e=>by
  cases (show _=[] from h)
  cases r;cases e;exact⟨_,.nil⟩
 |_,_,d::ds,ps,h,r,e=>by
  obtain⟨y,z,rfl,g,j⟩:=h;cases r with
  |cons a b=>
   obtain⟨q,c,e⟩:=Hs e;obtain⟨n,i,e⟩:=Ia e;subst e;obtain⟨as,l⟩:=hf g a c;obtain⟨bs,m⟩:=Xk hf j b i;exact⟨_,.cons l m⟩
theorem Nb(I:Inv X qp σ H s)(S:HA X.K H io st):∀{n:Nat}{v:V}{u:IR}{d:D}{p:PyData},Rep X.K H io v d->RelV v u->IX n st d=some p->∃as,Reads s.heap u p as
 |0,_,_,_,_,_,_,h=>by cases h
 |n+1,v,u,d,p,h,r,e=>by
  cases d with
  |non=>cases e;cases (show v=.non from h);cases r;exact⟨_,.none⟩
  |bl b=>cases e;cases (show v=.bl b from h);cases r;exact⟨_,.bool _⟩
  |int b=>cases e;cases (show v=.int b from h);obtain⟨t,rfl⟩:=r;exact⟨_,.int _ _⟩
  |str b=>
   obtain⟨U,e⟩:=Iu e;cases e;cases (show v=.str b from h);obtain⟨t,rfl⟩:=r;exact⟨_,.str _ _⟩
  |tup ds=>
   obtain⟨E,c,q⟩:=Ia e;subst q;obtain⟨a,xs,rfl,i,rs⟩:=h;cases r;obtain⟨l,m,⟨o,w,x,k,hd⟩,N⟩:=I.tuple<|IM.of i;obtain⟨as,A⟩:=Xk (f:=IX n st) (λh r e=>Nb I S h r e) rs m c;exact⟨_,.tuple w x hd<|by simpa using A⟩
  |kl ds=>cases e
  |fn ds=>cases e
  |er _ _ _=>cases e
  |ref k=>
   obtain⟨ds,Q,e⟩:=Hs e;obtain⟨E,c,q⟩:=Ia e;subst q;obtain⟨a,rfl,i⟩:=h;cases r;obtain⟨xs,T,rs⟩:=KG S i Q;obtain⟨l,m,⟨o,k,w,x,_,hd⟩,N⟩:=I.list T;obtain⟨as,A⟩:=Xk (f:=IX n st) (λh r e=>Nb I S h r e) rs m c;exact⟨_,.list w x hd<|by simpa using A⟩
def La:G2:=λx y st=>(IX 100 st x).bind λp=>(IX 100 st y).map λq=>(.bl (BA p q),st)
def JT:G2:=λx y st=>(IX 100 st x).bind λp=>(IX 100 st y).map λq=>(.bl !PyData.eqv p q,st)
def Oq(g:X.A.units+100<cLine):Ji X (SL .Eq) La:=by rintro qp s σ H x y v u Q I f i ⟨E,K,st,io,d,st',l,m,S,e,k⟩;obtain⟨p,a,e⟩:=Hs e;obtain⟨q,b,e⟩:=Ia e;cases e;obtain⟨as,n⟩:=Nb I S l f a;obtain⟨bs,o⟩:=Nb I S m i b;have c:=Na a;have w:=Na b;exact PySem.SeqAt.compareEq_reads n o c.1 w.1 (BR (DE (AA (Gu _ _) c.2) _) g) ⟨.bl _,H,I,rfl,k.now S rfl⟩
def Nx(g:X.A.units+100<cLine):Ji X (SL .NotEq) JT:=by rintro qp s σ H x y v u Q I f i ⟨E,K,st,io,d,st',l,m,S,e,k⟩;obtain⟨p,a,e⟩:=Hs e;obtain⟨q,b,e⟩:=Ia e;cases e;obtain⟨as,n⟩:=Nb I S l f a;obtain⟨bs,o⟩:=Nb I S m i b;have c:=Na a;have w:=Na b;exact PySem.SeqAt.compareNe_reads n o c.1 w.1 (BR (DE (AA (Gu _ _) c.2) _) g) ⟨.bl _,H,I,rfl,k.now S rfl⟩
def JY(g:HM k A):A.units+100<cLine:=by have:=g.un;omega
variable {t':Nat}
section
variable {h':PP}
def Inv.turnNew{fp:List Addr}{o:HO}(I:Inv X qp σ H s)(hf:∀b∈fp,Kk X qp H b)(k:∀b ob,b∉fp->s.heap.get? b=some ob->h'.get? b=some ob)(h:s.heap.objs.size<=p)(j:∀b∈fp,∀ob,s.heap.get? b=some ob->∃g,h'.get? b=some g) (new:Jr X.prog X.w (upd H p o) h' p o):Inv X qp σ (upd H p o) {s with heap:=h',toks:=t'}:=by
 have a:=I.hok.fresh h;have f:∀b ob,s.heap.get? b=some ob->b≠p:=λb ob e=>Au<|AD (Aj e) h;refine Inv.step (ch:=fp) (g':=s.gens) (d':=s.drawn) I (λb d=>⟨(hf b d).2.2.2.1,(hf b d).2.1,(hf b d).2.2.2.2.1,(hf b d).2.2.2.2.2⟩) (λb ob _ _ hc e _=>k b ob hc e) (λb ob _ _ hc e _=>⟨ob.slots,k b ob hc e⟩)
  (λb ob hc e n=>by rw[HV (f b ob e)];exact n) (λb ob hc e=>⟨ob,k b ob hc e⟩) (λb xs e=>by rw[HV (J9 e a)];exact e) (λb ob u e=>by rw[HV (J9 e a)];exact e)
  (λb A e=>⟨#[],by rw[HV (J9 e a),e];simp⟩) (λm hm=>?_) (λb u e=>?_) I.bare
 ·obtain⟨ob,es,l,x,r⟩:=hm;exact⟨ob,es,l,k _ ob (λz=>(hf _ z).2.1 rfl) x,r⟩
 ·by_cases d:b=p
  ·subst d;rw[Le]at e;cases e;exact new
  ·rw[HV d]at e;refine(I.hok b u e).stay (λc v hc q=>k c v (λz=>?_) q) (λc q=>by rw[HV (J9 q a)];exact q) λc xs q=>by rw[HV (J9 q a)];exact q
   have i:=(hf c z).1;rcases hc with rfl|hc
   ·rw[i]at e;cases e
   rw[i]at hc;cases hc
def Inv.turnAll{fp:List Addr}(I:Inv X qp σ H s)(hf:∀b∈fp,Kk X qp H b)(k:∀b ob,b∉fp->s.heap.get? b=some ob->h'.get? b=some ob):Inv X qp σ H {s with heap:=h',toks:=t'}:=by
 refine Inv.step (ch:=fp) (g':=s.gens) (d':=s.drawn) I (λb a=>⟨(hf b a).2.2.2.1,(hf b a).2.1,(hf b a).2.2.2.2.1,(hf b a).2.2.2.2.2⟩) (λb ob _ _ hc e _=>k b ob hc e) (λb ob _ _ hc e _=>⟨ob.slots,k b ob hc e⟩)
  (λb ob hc e n=>n) (λb ob hc e=>⟨ob,k b ob hc e⟩) (λb xs e=>e) (λb ob u e=>e)
  (λb l e=>⟨#[],by rw[e];simp⟩) (λm hm=>?_) (λb u e=>?_) I.bare
 ·obtain⟨ob,es,f,i,r⟩:=hm;exact⟨ob,es,f,k _ ob (λz=>(hf _ z).2.1 rfl) i,r⟩
 ·refine(I.hok b u e).stay (λc v hc q=>k c v (λz=>?_) q) (λc q=>q) λc xs q=>q;have d:=(hf c z).1
  rcases hc with rfl|hc
  ·rw[d]at e;cases e
  rw[d]at hc;cases hc
end
def boot_enumerate:W1 "enumerate"=some (.type "enumerate"):=by decide +kernel
def pairs(ds:List D):List D:=(ds.zipIdx).map λ(d,k)=>.tup [.int (k:Nat),d]
def dD(h:(pairs ds)[i]?=some d):∃e,ds[i]?=some e/\d=.tup [.int (i:Nat),e]:=by
 unfold pairs at h;rw[Az,List.getElem?_zipIdx]at h;cases e:ds[i]? with
 |none=>rw[e]at h;cases h
 |some x=>
  rw[e]at h;simp at h;exact⟨x,rfl,h.symm⟩
def pairs_len(ds:List D):(pairs ds).length=ds.length:=by unfold pairs;simp
section
variable {κ:Type} [DecidableEq κ]
def HN(kvs:List (κ×D))(k:κ):Option D:=(kvs.find? λa=>decide (a.1=k)).map (·.2)
def putD(kvs:List (κ×D))(k:κ)(d:D):List (κ×D):=if(kvs.any λa=>decide (a.1=k))=true then kvs.map (λa=>if a.1=k then(a.1,d)else a)else kvs++[(k,d)]
def KR.any{ps:List (κ×V)}{kvs:List (κ×D)}(r:KR κ K H io ps kvs)(k:κ):(ps.any λg=>decide (g.1=k))=(kvs.any λg=>decide (g.1=k)):=by
 induction r with
 |nil=>rfl
 |cons z t a=>rw[B1,B1,a,z.1]
def KR.length{ps:List (κ×V)}{kvs:List (κ×D)}(r:KR κ K H io ps kvs):ps.length=kvs.length:=Be r
def KR.val{ps:List (κ×V)}{kvs:List (κ×D)}(r:KR κ K H io ps kvs)(k:κ):(HN kvs k=none/\Iv ps k=none)\/∃d v,HN kvs k=some d/\Iv ps k=some v/\Rep K H io v d:=by
 induction r with
 |nil=>exact .inl ⟨rfl,rfl⟩
 |@cons p q b c z t a=>
  unfold HN Iv at *;rw[AU,AU,z.1];by_cases e:q.1=k
  ·rw[decide_eq_true e];exact .inr ⟨q.2,p.2,rfl,rfl,z.2⟩
  rw[decide_eq_false e];exact a
def KR.append{ps h:List (κ×V)}{kvs g:List (κ×D)}(r:KR κ K H io ps kvs)(j:KR κ K H io h g):KR κ K H io (ps++h) (kvs++g):=by
 induction r with
 |nil=>exact j
 |cons z t a=>exact .cons z a
def KR.put{ps:List (κ×V)}{kvs:List (κ×D)}(r:KR κ K H io ps kvs)(k:κ)(g:Rep K H io v d):KR κ K H io (putK ps k v) (putD kvs k d):=by
 unfold putK putD;rw[KR.any r k];by_cases e:(kvs.any λa=>decide (a.1=k))=true
 ·rw[if_pos e,if_pos e]
  induction r with
  |nil=>exact .nil
  |@cons p q f i z t c=>
   rw[Ao,Ao];have b:KR κ K H io (f.map λa=>if a.1=k then(a.1,v)else a) (i.map λa=>if a.1=k then(a.1,d)else a):=by
    clear c e
    induction t with
    |nil=>exact .nil
    |@cons p q f i z t c=>
     rw[Ao,Ao];refine .cons ?_ c;rw[z.1];by_cases e:q.1=k
     ·rw[if_pos e,if_pos e];exact⟨rfl,g⟩
     rw[if_neg e,if_neg e];exact z
   refine .cons ?_ b;rw[z.1];by_cases e:q.1=k
   ·rw[if_pos e,if_pos e];exact⟨rfl,g⟩
   rw[if_neg e,if_neg e];exact z
 rw[if_neg e,if_neg e];exact KR.append r<|.cons ⟨rfl,g⟩ .nil
end
def keyOf:D->Option Key
 |.int i=>some<|.inl i
 |.str x=>some<|.inr x
 |_=>none
def keysOf:List D->Option (List Key)
 |[]=>some []
 |d::ds=>(keyOf d).bind λk=>(keysOf ds).map λks=>k::ks
variable {y:V}{md mk:ME}
def Um{k:Key}(h:Rep K H io v d)(e:keyOf d=some k):v=kV k:=by
 cases d with
 |int i=>cases e;exact h
 |str i=>cases e;exact h
 |_=>cases e
theorem Pn:∀{xs:List V}{ds:List D}{ks:List Key},Hi K H io xs ds->keysOf ds=some ks->xs=ks.map kV
 |_,[],ks,h,e=>by cases e;exact h
 |_,d::ds,ks,h,e=>by obtain⟨y,q,rfl,g,j⟩:=h;obtain⟨k,a,e⟩:=Hs e;obtain⟨b,c,e⟩:=Ia e;subst e;rw[Um g a,Pn j c];rfl
def look(st:Hh)(n:Nat)(k:D):Option (Option D):=match st[n]? with
 |some (.dk a)=>(keyOf k).map λq=>HN a q
 |some (.dt a)=>match k with
  |.tup ds=>(keysOf ds).map λq=>HN a q
  |_=>none
 |_=>none
def WD{k:D}{r:Option D}(S:HA K H io st)(g:io[n]?=some p)(j:Rep K H io y k)(h:look st n k=some r):∃o,IV H p y o/\((r=none/\o=none)\/∃d v,r=some d/\o=some v/\Rep K H io v d):=by
 unfold look at h;split at h
 ·rename_i f e;obtain⟨q,i,h⟩:=Ia h;subst h;obtain⟨s,l,r⟩:=S.ob n p _ g e;have w:=Um j i;subst w;refine⟨_,IV.k l,?_⟩
  rcases KR.val r q with⟨a,c⟩|⟨d,v,a,c,m⟩
  ·exact .inl ⟨a,c⟩
  exact .inr ⟨d,v,a,c,m⟩
 ·rename_i f e
  split at h
  ·rename_i ds;obtain⟨q,i,h⟩:=Ia h;subst h;obtain⟨s,l,r⟩:=S.ob n p _ g e;obtain⟨b,xs,rfl,x,rs⟩:=j;have ex:=Pn rs i;subst ex;refine⟨_,IV.t l x,?_⟩
   rcases KR.val r q with⟨a,c⟩|⟨d,v,a,c,m⟩
   ·exact .inl ⟨a,c⟩
   exact .inr ⟨d,v,a,c,m⟩
  ·cases h
 ·cases h
def Zc(md mk:ME):ME:=λU st=>(md U st).bind λ(d,s1)=>(mk U s1).bind λ(k,s2)=>match d with
 |.ref n=>(look s2 n k).bind λr=>r.map λv=>(v,s2)
 |_=>none
def rV{i:Pv}(h:X.A.units+1<cLine)(j:SE X o md)(hi:SE X i mk)(q:MX i:=by intro _ _;rfl):SE X (.Subscript o i pos) (Zc md mk):=PE.imp (aA h j hi q) <| by
 exists 1;obtain⟨⟨x,s1⟩,f,e⟩:=Hs e;obtain⟨⟨y,s2⟩,l,e⟩:=Hs e;cases x with
 |ref n=>
  obtain⟨r,m,e⟩:=Hs e;obtain⟨w,s,e⟩:=Ia e;cases e;subst s;refine⟨U,st,io,_,s1,E,S,f,λv1 H1 K b c N=>⟨U,s1,io++K,y,_,E.ext S b,c,l,λv2 H2 C T a R2=>?_⟩⟩;obtain⟨p,rfl,W⟩:=N;obtain⟨o,g,⟨z,_⟩|⟨F,v,hd,u,B⟩⟩:=WD a (Ln W) R2 m
  ·cases z
  ·cases hd;subst u;exact⟨p,v,rfl,g,((k.on c b).on a T).now a B⟩
 |_=>cases e
def MR(neg:Bool)(mk md:ME):ME:=λU st=>(mk U st).bind λ(k,s1)=>(md U s1).bind λ(d,s2)=>match d with
 |.ref n=>(look s2 n k).map λr=>(.bl (if neg then !r.isSome else r.isSome),s2)
 |_=>none
def dP{neg:Bool}(h:tE K (MR neg mk md) σ H Q):tE K mk σ H λy H1=>tE K md σ H1 λx H2=>∃a o,x=.ref a/\IV H2 a y o/\Q (.bl<|if neg then !o.isSome else o.isSome) H2:=by
 obtain⟨U,st,io,d,st',E,S,e,k⟩:=h;obtain⟨⟨y,s1⟩,m,e⟩:=Hs e;obtain⟨⟨x,s2⟩,s,e⟩:=Hs e;cases x with
 |ref n=>
  obtain⟨r,w,e⟩:=Ia e;cases e;refine⟨U,st,io,y,s1,E,S,m,λv1 H1 A i c R1=>⟨U,s1,io++A,_,_,E.ext S i,c,s,λv2 H2 T l f R2=>?_⟩⟩;obtain⟨p,rfl,N⟩:=R2;obtain⟨o,g,z⟩:=WD f N (R1.ext c l) w;have:o.isSome=r.isSome:=by
   rcases z with⟨a,b⟩|⟨W,v,a,b,_⟩
   ·rw[a,b];rfl
   rw[a,b];rfl
  exact⟨p,o,rfl,g,by rw[this];exact((k.on c i).on f l).now f rfl⟩
 |_=>cases e
variable {lo hi:Option Pv}{p2:Pos}
def qB{i:Pv}(g:X.A.units+1<cLine)(hi:SE X i mk)(j:SE X o md)(hm:behindInMarks .In o=false:=by rfl):SB X (.Compare i [.In] [o] pos) (mT<|MR false mk md):=PT.imp (ZL (lR g hi j) hm) λσ H Q h=>dP (Rv h)
def zlV{i:Pv}(g:X.A.units+1<cLine)(hi:SE X i mk)(j:SE X o md)(hm:behindInMarks .NotIn o=false:=by rfl):SB X (.Compare i [.NotIn] [o] pos) (mT<|MR true mk md):=PT.imp (ZL (zl5 g hi j) hm) λσ H Q h=>dP (Rv h)
def dput(st:Hh)(n:Nat)(k d:D):Option Hh:=match st[n]? with
 |some (.dk a)=>(keyOf k).bind λq=>if decide (a.length<sizeLine)=true then some (st.set n<|.dk<|putD a q d)else none
 |some (.dt a)=>match k with
  |.tup ds=>(keysOf ds).bind λq=>if decide (a.length<sizeLine)=true then some (st.set n<|.dt<|putD a q d)else none
  |_=>none
 |_=>none
def uO{k:D}(S:HA K H io st)(j:io[n]?=some p)(B:Rep K H io y k)(C:Rep K H io v d)(h:dput st n k d=some st'):∃g,KS H p y v g/\Ext io [] H g/\HA K g (io++[]) st':=by
 unfold dput at h;split at h
 ·rename_i c e;obtain⟨q,f,h⟩:=Hs h;obtain⟨i,h⟩:=Iu h;cases h;obtain⟨m,a,r⟩:=S.ob n p _ j e;have s:=Um B f;subst s;have:=KR.length r;refine⟨_,KS.k a (by rw[this];exact of_decide_eq_true i),?_⟩;exact M7 S j e (λo u z=>by rw[a]at z;cases z) λg T l=>⟨_,l,KR.put (KR.mono T r) q<|Rep.mono T C⟩
 ·rename_i c e
  split at h
  ·rename_i ds;obtain⟨q,f,h⟩:=Hs h;obtain⟨i,h⟩:=Iu h;cases h;obtain⟨m,a,r⟩:=S.ob n p _ j e;obtain⟨b,xs,rfl,w,rs⟩:=B;have ex:=Pn rs f;subst ex;have:=KR.length r;refine⟨_,KS.t a w (by rw[this];exact of_decide_eq_true i),?_⟩;exact M7 S j e (λo u z=>by rw[a]at z;cases z) λg T l=>⟨_,l,KR.put (KR.mono T r) q<|Rep.mono T C⟩
  ·cases h
 ·cases h
def Nm(md mk g:ME):MS:=λU st=>(g U st).bind λ(v,s1)=>(md U s1).bind λ(d,s2)=>(mk U s2).bind λ(k,s3)=>match d with
 |.ref n=>(dput s3 n k v).map λs4=>(.nx U,s4)
 |_=>none
def sR{i value:Pv}{j:ME}(q:X.A.units+1<cLine)(r:SE X o md)(hi:SE X i mk)(u:SE X value j)(z:swapsWith value (some<|.Subscript o i pos') pos.line X.env=pure false:=by rfl):
  SS X (.Assign [.Subscript o i pos'] value pos) (Nm md mk j):=PS.imp (tN q r hi u z) λN σ H h=>by
 exists 2;obtain⟨⟨v,s1⟩,T,e⟩:=Hs e;obtain⟨⟨d,s2⟩,W,e⟩:=Hs e;obtain⟨⟨k,s3⟩,B,e⟩:=Hs e;cases d with
 |ref n=>
  obtain⟨s4,C,e⟩:=Ia e;cases e;refine⟨U,st,io,v,s1,E,S,T,λv1 H1 m b a R1=>⟨U,s1,io++m,_,s2,E.ext S b,a,W,λv2 H2 y c l R2=>⟨U,s2,(io++m)++y,k,s3,(E.ext S b).ext a c,l,B,λY F G s x I=>?_⟩⟩⟩;obtain⟨p,rfl,J⟩:=R2;obtain⟨K,g,Q,L⟩:=uO x (Ln J) I ((R1.ext a c).ext l s) C;refine⟨p,K,rfl,g,?_⟩;have M:∀σ' P kb,Ext (((io++m)++y)++G) kb F P->_:=Oo (Oo (Oo w b a) c l) s x;exact M σ K [] Q L<|(((E.ext S b).ext a c).ext l s).ext x Q
 |_=>cases e
def O0(t:Bool):ME:=λ_ st=>some (.ref st.length,st++[if t then .dt []else .dk []])
def Wm:SE X (.Dict [] [] pos) (O0 true):=PE.imp vO <| by
 exists 1;cases e;intro p a;obtain⟨b,c⟩:=Qi (o:=.dT []) (ob:=.dt []) S a λf T e=>⟨[],e,.nil⟩;exact k _ _ [p] b c ⟨p,rfl,by rw[<-S.len];exact getElem?_len io p⟩
inductive Yt (K:Ab) (g:D->List D->Hh->Option (D×Hh)) (x:V) (xs:List V) (H:Hp) (Q:VK):Prop
 |mk (dx:D) (ds:List D) (st:Hh) (io:List Addr) (d:D) (st':Hh) (h0:Rep K H io x dx) (h1:Hi K H io xs ds) (h2:HA K H io st) (h3:g dx ds st=some (d,st')) (h4:Bh K io H st' d Q)
def LI:D->List D->Hh->Option (D×Hh):=λx xs st=>match x,xs with
 |.ref n,[d]=>match st[n]? with
  |some (.lst ds)=>if decide (ds.length<sizeLine)=true then some (.non,st.set n (.lst<|ds++[d]))else none
  |_=>none
 |_,_=>none
def append_in{ds:List D}{xs:List D}(h:LI (.ref n) xs st=some (d,st')):∃ds x,st[n]?=some (.lst ds)/\xs=[x]/\ds.length<sizeLine/\d=.non/\st'=st.set n (.lst<|ds++[x]):=by
 unfold LI at h
 match xs,h with
 |[x],h=>
  dsimp only at h;split at h
  ·rename_i ds e;obtain⟨a,h⟩:=Iu h;cases h;exact⟨ds,x,e,rfl,of_decide_eq_true a,rfl,rfl⟩
  ·cases h
 |[],h=>cases h
 |_::_::_,h=>cases h
def zkp:SD X "list.append" (Yt X.K LI):=by
 rintro qp s σ H x xs v us Q I i rs ⟨m,ds,st,io,d,st',A,Rs,S,e,k⟩;cases m with
 |ref n=>
  obtain⟨l,y,a,rfl,E,rfl,rfl⟩:=append_in (ds:=[]) e;obtain⟨p,rfl,b⟩:=A;obtain⟨w,rfl,N⟩:=Rs.one;obtain⟨c,f,r⟩:=S.ob n p _ b a;refine dA qp s σ H _ _ v us Q I i rs ⟨p,c,w,rfl,rfl,f,by rw[r.length];exact E,?_⟩;obtain⟨U,W⟩:=M7 (o:=.lst (c++[w])) (ob:=.lst (l++[y])) S b a (λo u z=>by rw[f]at z;cases z) λh T g=>⟨_,g,(Hi.mono T r).append<|Hi.cons (Rep.mono T N) Hi.nil⟩
  exact k _ _ [] U W rfl
 |_=>unfold LI at e;cases ds<;>cases e
def Wv{l:List D}(R:Rep K H io v (.ref n))(S:HA K H io st)(h:Ig st n=some l):UU K "list" v H:=by obtain⟨p,rfl,a⟩:=R;obtain⟨xs,b,_⟩:=KG S a h;exact .inl ⟨rfl,xs,b⟩
def Kh(m:ME)(mm:MA):ME:=λU st=>(!9).bind λ(x,s1)=>match x with
 |.ref n=>(Ig s1 n).bind λ_=>(mm U s1).bind λ(xs,s2)=>LI x xs s2
 |_=>none
def OE{apos g:Pos}(u:SE X o m)(z:SA X (e::es) mm)(j:attributeBase o "append" X.env (UV o X.env)=UV o X.env:=by rfl)(r:((backTo g<|UF (e::es) X.env).all (λx=>!x.1)&&(backToKw g<|keywordEach [] X.env).all (λx=>x.1.isSome)
   &&decide ((e::es).length+([]:List Keyword).length+(if([]:List Keyword).isEmpty then 0 else 1)<30))=true:=by rfl)
  (q:(apos.endLine==g.line)=true:=by rfl) (B:Qqb X.env e es:=by rfl) (h:Qqc g es X.env:=by rfl):
  SE X (.Call (.Attribute o "append" apos) (e::es) [] g) (Kh m mm):=
 PE.imp (Zg Df PySem.F.slot_list_append PySem.F.type_list_append zkp u z j r q B h) <| by
  exists 1;obtain⟨⟨x,s1⟩,p,e⟩:=Hs e;cases x with
  |ref n=>
   obtain⟨l,s,e⟩:=Hs e;obtain⟨⟨xs,s2⟩,v,e⟩:=Hs e;refine⟨U,st,io,_,s1,E,S,p,λv1 H1 b c a R1=>⟨Wv R1 a s,U,s1,io++b,xs,s2,E.ext S c,a,v,λvs H2 w f i R2=>?_⟩⟩;exact⟨_,xs,s2,(io++b)++w,d,st',R1.ext a f,R2,i,e,(k.on a c).on i f⟩
  |_=>cases e
noncomputable abbrev MO:=HX->Hh->Option (Option Int×Hh)
inductive tOm (K:Ab) (m:MO) (σ:L2.St) (H:Hp) (Q:Option Int->Hp->Prop):Prop
 |mk (U:HX) (st:Hh) (io:List Addr) (d:Option Int) (st':Hh) (h1:HK K H io σ U) (h2:HA K H io st) (h3:m U st=some (d,st')) (h4:∀H' ka,Ext io ka H H'->HA K H' (io++ka) st'->Q d H')
def SO(X:Cx)(e:Option Pv)(m:MO):Prop:=PO X e<|tOm X.K m
def Lg:MO:=λ_ st=>some (none,st)
def Lh(m:ME):MO:=λU st=>(!9).bind λ(d,s)=>match d with
 |.int i=>some (some i,s)
 |_=>none
def OB:SO X none Lg:=λqp s σ H Q I ⟨U,st,io,d,st',E,S,e,k⟩=>tL qp s σ H Q I (by cases e;exact k H [] Ext.refl S.nil)
def OC(h:SE X e m):SO X (some e) (Lh m):=λqp s σ H Q I ⟨U,st,io,d,st',E,S,e,k⟩=>aB h qp s σ H Q I (by
 obtain⟨⟨x,s1⟩,a,e⟩:=Hs e;cases x with
 |int i=>
  cases e;exact⟨U,st,io,_,_,E,S,a,λv1 H1 b c f l=>⟨i,l,k H1 b c f⟩⟩
 |_=>cases e)
def cutD(xs:List D)(lo hi:Option Int):List D:=(xs.drop<|HT.Ij xs.length 0 lo).take<|HT.Ij xs.length xs.length hi-HT.Ij xs.length 0 lo
def Wc(r:Hi K H io xs ds)(lo hi:Option Int):Hi K H io (Lb xs lo hi) (cutD ds lo hi):=by unfold Lb cutD;rw[r.length];exact(r.drop _).take _
def Yd:D->Option Int->Option Int->Hh->Option (D×Hh):=λx lo hi st=>match x with
 |.tup ds=>if(decide (HT.Ij ds.length 0 lo=0)&&decide (HT.Ij ds.length ds.length hi=ds.length))=true then none else some (.tup (cutD ds lo hi),st)
 |.ref n=>(Ig st n).map λds=>(.ref st.length,st++[.lst (cutD ds lo hi)])
 |_=>none
def iE(m:ME)(l h:MO):ME:=λU st=>(!9).bind λ(x,s1)=>(l U s1).bind λ(lo,s2)=>(h U s2).bind λ(hi,s3)=>Yd x lo hi s3
def Yi(K:Ab):V->Option Int->Option Int->Hp->VK->Prop:=λx lo hi H Q=>RZ K x lo hi H Q\/R6 K x lo hi H Q
def Yc:Sx X (Yi X.K):=by
 intro qp s σ H x v a b lo hi c Q I d e pl pu h;rcases h with h|h
 ·exact pH qp s σ H x v a b lo hi c Q I d e pl pu h
 exact aW qp s σ H x v a b lo hi c Q I d e pl pu h
def xW{g h:MO}(he:SE X e m)(j:SO X lo g)(u:SO X hi h):SE X (.Subscript e (.Slice lo hi none p2) pos) (iE m g h):=PE.imp (Wj Yc he j u) <| by
 exists 1;obtain⟨⟨x,s1⟩,N,e⟩:=Hs e;obtain⟨⟨a,s2⟩,T,e⟩:=Hs e;obtain⟨⟨b,s3⟩,W,e⟩:=Hs e;refine⟨U,st,io,x,s1,E,S,N,λv1 H1 w i c R1=>⟨U,s1,io++w,a,s2,E.ext S i,c,T,λH2 B l o=>⟨U,s2,(io++w)++B,b,s3,(E.ext S i).ext c l,o,W,λG I y f=>?_⟩⟩⟩;have A:=(R1.ext c l).ext o y;have K:=((k.on c i).on o l).on f y;cases x with
 |tup ds=>
  have e:(if(decide (HT.Ij ds.length 0 a=0)&&decide (HT.Ij ds.length ds.length b=ds.length))=true then none else some (D.tup (cutD ds a b),s3))=some (d,st'):=e;by_cases hw:(decide (HT.Ij ds.length 0 a=0)&&decide (HT.Ij ds.length ds.length b=ds.length))=true
  ·rw[if_pos hw]at e;cases e
  rw[if_neg hw]at e;cases e;obtain⟨p,xs,rfl,s,r⟩:=A;refine .inl ⟨p,xs,rfl,IM.of s,λz=>hw ?_,λq v=>K.tup f (Wc r _ _) v⟩;rw[r.length]at z;rw[Aq];exact⟨decide_eq_true z.1,decide_eq_true z.2⟩
 |ref n=>
  obtain⟨ds,C,e⟩:=Ia e;cases e;obtain⟨p,rfl,s⟩:=A;obtain⟨xs,F,r⟩:=KG f s C;exact .inr ⟨p,xs,rfl,F,λq v=>K.lst f (Wc r _ _) v⟩
 |_=>cases e
def M3:G2:=intD (λ_ j=>decide (0<j)&&decide (j<2^128)) λi j=>.int<|i / j
def Wi:Ji X (binaryOp .FloorDiv) M3:=Qk (C:=λi j=>0<j/\j<2^128) (Sg λi j _ _ _ _ _ b q=>by
 refine floordiv_int (!0) (by rw[Int.fdiv_eq_ediv_of_nonneg i (!0)];exact q)<|.inl<|PyProof.noPylong_of_log2 ?_;have h0:j.natAbs≠0:=by omega
 have a:j.natAbs<2^128:=by omega
 exact B7 ((Nat.log2_lt h0).mpr a) (!1)) λi j h=>by rw[Aq]at h;exact⟨of_decide_eq_true h.1,of_decide_eq_true h.2⟩
def IF:G2:=intD (λi j=>decide (0<=j)&&decide ((Builtin.Int.intBits i:Int)*j<=2^27)) λi j=>.int<|i^j.toNat
def Ql:Ji X (binaryOp .Pow) IF:=Qk (C:=λi j=>0<=j/\(Builtin.Int.intBits i:Int)*j<=2^27) (Sg λi j _ _ _ _ _ a q=>pow_int a.1 a.2 q) λi j h=>by rw[Aq]at h;exact⟨of_decide_eq_true h.1,of_decide_eq_true h.2⟩
def Ke(t T:String):Bool:=t==T || (t=="bool"&&T=="int")
def sorts:List String:=["NoneType","bool","int","str","tuple","list","dict"]
def kinds:List String:=["bool","int","str","tuple","list","dict"]
variable {t:String}
def rH(g:t∈sorts)(h:T∈kinds):GJ K (.type t) (.type T)=some (Ke t T):=by
 have all:∀t∈sorts,∀T∈kinds,GJ K (.type t) (.type T)=some (Ke t T):=by
  intro t g T h;simp only[sorts,kinds,Bb,Bt,or_false]at g h;rcases g with rfl|rfl|rfl|rfl|rfl|rfl|rfl<;>rcases h with rfl|rfl|rfl|rfl|rfl|rfl<;>rfl
 exact all t g T h
def tyName(st:Hh):D->Option String
 |.non=>some "NoneType"
 |.bl _=>some "bool"
 |.int _=>some "int"
 |.str _=>some "str"
 |.tup _=>some "tuple"
 |.ref n=>match st[n]? with
  |some (.lst _)=>some "list"
  |some (.fz _)=>some "list"
  |some (.dk _)=>some "dict"
  |some (.dt _)=>some "dict"
  |some .dz=>some "dict"
  |_=>none
 |.kl _=>none
 |.fn _=>none
 |.er _ _ _=>none
def bP(I:Inv X qp σ H s)(h:JD X.K H p xs):DW p "list" s.heap:=by obtain⟨a,_,⟨o,n,e,c,_,_⟩,_⟩:=I.list h;exact⟨o,e,c⟩
def cV{ps:List (Key×V)}(I:Inv X qp σ H s)(h:H p=some (.dK ps)):DW p "dict" s.heap:=by obtain⟨_,_,_,_,o,_,_,e,ex,_⟩:=I.hok p _ h;exact⟨o,e,ex.1⟩
def cW{ps:List (List Key×V)}(I:Inv X qp σ H s)(h:H p=some (.dT ps)):DW p "dict" s.heap:=by obtain⟨_,_,_,_,o,_,_,e,ex,_⟩:=I.hok p _ h;exact⟨o,e,ex.1⟩
def ZA(I:Inv X qp σ H s)(h:H p=some (.ext<|iJ p)):DW p "dict" s.heap:=by obtain⟨⟨o,_,_,e,ex,_⟩,_⟩:=I.hok p _ h;exact⟨o,e,ex.1⟩
def rF{u:IR}{Q:Qqa}(I:Inv X qp σ H s)(S:HA X.K H io st)(R:Rep X.K H io v d)(r:RelV v u)(g:tyName st d=some t)(h:T∈kinds)(q:∀tk,Q (.bool<|Ke t T) {s with toks:=tk}):wpAny (!4) X.A (call (.builtin "isinstance") [u,.type T]) Q E s:=by
 have k:=λ{x:IR}{i:PP->Prop} (l:t∈sorts) (Z:PySem.W.KitX X.K x (.type t) i) (p:i s.heap) (m:x≠.builtin "__main__.__loader__#opaque")=>PySem.W.kia_one (prog:=X.prog) (w:=X.w) (A:=X.A) (E:=E) Z I.kIn p (rH l h) m q;cases d with
 |non=>cases g;cases (show v=.non from R);cases r;exact k (!1) PySem.W.kitx_none trivial (by intro e;cases e)
 |bl b=>cases g;cases (show v=.bl b from R);cases r;exact k (!1) PySem.W.kitx_bool trivial (by intro e;cases e)
 |int b=>cases g;cases (show v=.int b from R);obtain⟨t,rfl⟩:=r;exact k (!1) PySem.W.kitx_int trivial (by intro e;cases e)
 |str b=>cases g;cases (show v=.str b from R);obtain⟨t,rfl⟩:=r;exact k (!1) PySem.W.kitx_str trivial (by intro e;cases e)
 |tup ds=>
  cases g;obtain⟨p,xs,rfl,a,_⟩:=R;cases r;obtain⟨y,_,⟨o,e,c,_⟩,_⟩:=I.tuple<|IM.of a;exact k (!1) PySem.W.kitx_tuple ⟨o,e,c⟩ (by intro e;cases e)
 |ref n=>
  obtain⟨p,rfl,a⟩:=R;cases r;unfold tyName at g;dsimp only at g;split at g
  ·rename_i o e;cases g;obtain⟨xs,f,_⟩:=S.ob n p _ a e;exact k (!1) FY (bP I<|JD.of f) (by intro e;cases e)
  ·rename_i o e;cases g;obtain⟨ob,xs,f,_⟩:=S.ob n p _ a e;exact k (!1) FY (bP I<|.inl<|.inr ⟨ob,f⟩) (by intro e;cases e)
  ·rename_i o e;cases g;obtain⟨xs,f,_⟩:=S.ob n p _ a e;exact k (!1) D3 (cV I f) (by intro e;cases e)
  ·rename_i o e;cases g;obtain⟨xs,f,_⟩:=S.ob n p _ a e;exact k (!1) D3 (cW I f) (by intro e;cases e)
  ·rename_i e;cases g;exact k (!1) D3 (ZA I<|S.ob n p _ a e) (by intro e;cases e)
  ·cases g
 |kl ds=>cases g
 |fn ds=>cases g
 |er _ _ _=>cases g
def Yn(K:Ab)(T:String):List V->Hp->VK->Prop:=λxs H Q=>∃x d st io t,xs=[x,.ty T]/\Rep K H io x d/\HA K H io st/\tyName st d=some t/\Q (.bl<|Ke t T) H
def uJ(g:T∈kinds):MZ X (.builtin "isinstance") (Yn X.K T):=by rintro qp s σ H xs us Q I r ⟨x,d,st,io,t,e,R,S,b,q⟩;subst e;obtain⟨u,w,rfl,c,a⟩:=r.two;cases a;exact rF I S R c b g λtk=>⟨.bl _,H,I.tok tk,rfl,q⟩
def L6(T:String)(m:ME):ME:=λU st=>(!9).bind λ(x,s)=>(tyName s x).map λt=>(.bl (Ke t T),s)
def qD{x y:Str}{p:Pos}(C:T∈kinds)(F:Gl X "isinstance")(hm:X.mg "isinstance"=none)(G:SE X a m)(g:Gl X y)(h:X.mg y=none)(j:W1 y=some (.type T))(q:y≠"__name__":=by decide)(r:(y==("__debug__":Str))=false:=by decide)(B:UF [a,.Name y p2] X.env=(false,UV a X.env)::UF [.Name y p2] X.env:=by rfl) (u:UF [.Name y p2] X.env=[(false,UV (.Name y p2) X.env)]:=by rfl) (z:(backTo pos<|UF [.Name y p2] X.env).any (·.1)=false:=by rfl):
  SE X (.Call (.Name "isinstance" p) [a,.Name y p2] [] pos) (L6 T m):=
 PE.imp (bI (uJ C) F hm (by decide +kernel) (V6 G (V6 (sU (v:=.ty T) g h j rfl q r) ZI u) B) (!1) (!1) B z) <| by rintro σ H Q ⟨U,st,io,d,st',E,S,e,k⟩;obtain⟨⟨x,s1⟩,f,e⟩:=Hs e;obtain⟨t,i,e⟩:=Ia e;cases e;exact⟨U,st,io,x,_,E,S,f,λv1 H1 b l c n=>⟨v1,x,_,io++b,t,rfl,n,c,i,k _ H1 b l c rfl⟩⟩
theorem Ux{α:Type}{le:α->α->Prop}:∀{g j:List α},g.Perm j->g.Pairwise le->j.Pairwise le->(∀a∈g,∀b∈g,le a b->le b a->a=b)->g=j
 |[],j,p,_,_,_=>(List.Perm.nil_eq p)
 |a::g,[],p,_,_,_=>absurd p.symm (by intro h;have:=h.length_eq;simp at this)
 |a::g,b::j,p,z,B,an=>by
  obtain⟨C,u⟩:=List.pairwise_cons.mp z;obtain⟨hb,c⟩:=List.pairwise_cons.mp B;have e:a=b:=by
   have d:a∈b::j:=p.mem_iff.mp Al;have f:b∈a::g:=p.mem_iff.mpr Al;rcases KM.mp d with q|q
   ·exact q
   ·rcases KM.mp f with r|r
    ·exact r.symm
    exact an a Al b (Ai _ r) (C b r)<|hb a q
  subst e;rw[Ux ((List.perm_cons a).mp p) u c λx i y l=>an x (Ai _ i) y (Ai _ l)]
def sle(a b:Str):Bool:=!decide (b.cps.toList<a.cps.toList)
def OD(ss:List Str):List Str:=ss.mergeSort sle
def aY{a b:Str}(h:a.cps.toList=b.cps.toList):a=b:=by
 obtain⟨x⟩:=a;obtain⟨y⟩:=b;have:x=y:=by have c:x.toList=y.toList:=h;exact Array.toList_inj.mp c
 rw[this]
def zlJ(a b:Str):(sle a b || sle b a)=true:=by
 unfold sle;rw[Er,BZ,BZ,decide_eq_false_iff_not,decide_eq_false_iff_not];by_cases h:b.cps.toList<a.cps.toList
 ·exact .inr<|List.lt_asymm h
 exact .inl h
def eO(a b c:Str)(g:sle a b=true)(h:sle b c=true):sle a c=true:=by unfold sle at *;rw[BZ,decide_eq_false_iff_not]at *;have g:a.cps.toList<=b.cps.toList:=g;have h:b.cps.toList<=c.cps.toList:=h;exact List.le_trans g h
def xZ{a b:Str}(g:sle a b=true)(h:sle b a=true):a=b:=by unfold sle at *;rw[BZ,decide_eq_false_iff_not]at *;exact aY<|List.le_antisymm g h
theorem fE:∀{ss:List Str}{p:Str},risingS p ss=true->(p::ss).Pairwise λa b=>sle a b=true
 |[],p,_=>by simp
 |s::ss,p,h=>by
  have h':(!ltCps s.cps.toList p.cps.toList&&risingS s ss)=true:=h;rw[Aq]at h';have d:=fE h'.2;have c:sle p s=true:=by have:=h'.1;rw[ltCps_eq]at this;exact this
  refine List.pairwise_cons.mpr ⟨λx hx=>?_,d⟩;rcases KM.mp hx with rfl|hx
  ·exact c
  exact eO _ _ _ c<|(List.pairwise_cons.mp d).1 x hx
variable {ss:List Str}
def zgD{g:List Str}(p:g.Perm ss)(h:sortedS g=true):g=OD ss:=by
 have d:g.Pairwise λa b=>sle a b=true:=by
  cases g with
  |nil=>exact CI
  |cons x r=>exact fE h
 refine Ux (p.trans (CT ss sle).symm) d (Dg (λa b c=>eO a b c) zlJ ss) λa _ b _=>xZ
def strsOf:List D->Option (!6)
 |[]=>some []
 |.str x::r=>(strsOf r).map λxs=>x::xs
 |_=>none
def ziU{r:List D}(h:strsOf (d::r)=some ss):∃x xs,d=.str x/\strsOf r=some xs/\ss=x::xs:=by
 cases d with
 |str x=>
  obtain⟨xs,e,h⟩:=Ia h;exact⟨x,xs,rfl,e,h.symm⟩
 |_=>cases h
def eX(ss:List Str):strsOf (ss.map D.str)=some ss:=by
 induction ss with
 |nil=>rfl
 |cons x r a=>show(strsOf<|r.map D.str).map _=_;rw[a];rfl
theorem Wt:∀{xs:List V}{us:List IR}{ds:List D}{ss:List Str},Hi K H io xs ds->Vals xs us->strsOf ds=some ss->StrsAre us ss
 |_,_,[],ss,h,r,e=>by cases (show _=[] from h);cases r;cases e;exact .nil
 |_,_,d::ds,ss,h,r,e=>by
  obtain⟨y,q,rfl,g,j⟩:=h;obtain⟨x,rest,rfl,a,rfl⟩:=ziU e;cases r with
  |cons b c=>
   cases (show y=.str x from g)
   obtain⟨t,rfl⟩:=b;exact .cons x t<|Wt j c a
theorem WU:∀{us:List IR}{ss:List Str},StrsAre us ss->Vals (ss.map V.str) us
 |_,_,.nil=>.nil
 |_,_,.cons y t r=>.cons ⟨t,rfl⟩<|WU r
def zlE(ss:List Str):Hi K H io (ss.map V.str) (ss.map D.str):=by
 induction ss with
 |nil=>exact rfl
 |cons x r a=>exact Hi.cons rfl a
def PH(h:n<64):n<=sizeLine:=AA (BX h)<|by decide
def Pj:GN
 |[.ref n],st=>(Ig st n).bind λds=>(strsOf ds).bind λss=>if decide (ss.length<64)=true then some (.ref st.length,st++[.lst ((OD ss).map D.str)])else none
 |_,_=>none
def zg7:Jy X (.builtin "sorted") Pj:=by
 exists 0;unfold Pj at e;split at e
 ·rename_i n;obtain⟨j,y,e⟩:=Hs e;obtain⟨ss,A,e⟩:=Hs e;obtain⟨l,e⟩:=Iu e;cases e;have l:=of_decide_eq_true l;obtain⟨v,rfl,p,rfl,E⟩:=R.one;obtain⟨u,rfl,K⟩:=r.one;cases K;obtain⟨z,N,T⟩:=KG S E y;obtain⟨i,w,pl,B⟩:=I.list N;have x:=Wt T w A;have hlen:i.length=ss.length:=by
   have C:=w.length;have U:=(WU x).length;rw[Af]at U;omega
  refine sorted_strs pl.isList x (!0) λout ss' a1 a2 W=>?_;have es:=zgD a2 W;obtain⟨g,m⟩:=sortedAll_at s.heap i out;have h:=WU a1;have c:H (s.heap.objs.size+1)=none:=I.hok.fresh<|CC _;have f:(ss'.map V.str).length<=sizeLine:=by rw[Af,a2.length_eq];exact PH l
  refine⟨.ref<|s.heap.objs.size+1,upd H (s.heap.objs.size+1)<|.lst<|ss'.map V.str,I.laid (t':=s.toks) (a:=s.heap.objs.size+1) (λb o q=>sortedAll_old q) (CC _) ⟨f,out.toList,g,h,by simpa using m⟩,rfl,?_⟩;rw[es]at *;exact k.lst S (zlE _) c
 ·cases e
def Yh:V->Option Int->Option Int->Hp->VK->Prop:=λx lo hi H Q=>∃z,x=.str z/\z.length<=sizeLine/\Q (.str<|GO z lo hi) H
def pG:Sx X Yh:=by
 rintro qp s σ H x v m n lo hi o Q I f a pl pu ⟨z,e,b,q⟩;subst e;obtain⟨t,rfl⟩:=f;refine⟨"str",_,F.slot_str_getitem.lookup,Gq _ _ _,?_⟩;have fin:∀t' k,EP X qp σ Q (.str (GO z lo hi) t') {s with toks:=k}:=λt' k=>⟨.str _,H,I.tok k,⟨t',rfl⟩,q⟩
 cases pl with
 |none=>
  cases pu with
  |none=>exact Ct (l:=none) (u:=none) (st:=none) a rfl<|CZ ⟨AA (Eb z _ _) b,fin⟩
  |int j c=>exact Ct (l:=none) (u:=some (j,c)) (st:=none) a rfl<|CZ ⟨AA (Eb z _ _) b,fin⟩
 |int i d=>
  cases pu with
  |none=>exact Ct (l:=some (i,d)) (u:=none) (st:=none) a rfl<|CZ ⟨AA (Eb z _ _) b,fin⟩
  |int j c=>exact Ct (l:=some (i,d)) (u:=some (j,c)) (st:=none) a rfl<|CZ ⟨AA (Eb z _ _) b,fin⟩
def hZ:D->Option Int->Option Int->Hh->Option (D×Hh):=λx lo hi st=>match x with
 |.str z=>if fits z.length=true then some (.str (GO z lo hi),st)else none
 |_=>none
def Sk(m:ME)(l h:MO):ME:=λU st=>(!9).bind λ(x,s1)=>(l U s1).bind λ(lo,s2)=>(h U s2).bind λ(hi,s3)=>hZ x lo hi s3
def zlM{g h:MO}(he:SE X e m)(j:SO X lo g)(q:SO X hi h):SE X (.Subscript e (.Slice lo hi none p2) pos) (Sk m g h):=PE.imp (Wj pG he j q) <| by
 exists 1;obtain⟨⟨x,s1⟩,p,e⟩:=Hs e;obtain⟨⟨a,s2⟩,s,e⟩:=Hs e;obtain⟨⟨b,s3⟩,v,e⟩:=Hs e;refine⟨U,st,io,x,s1,E,S,p,λv1 H1 i c f w=>⟨U,s1,io++i,a,s2,E.ext S c,f,s,λH2 y l n=>⟨U,s2,(io++i)++y,b,s3,(E.ext S c).ext f l,n,v,λN T A o=>?_⟩⟩⟩;have K:=((k.on f c).on n l).on o A;cases x with
 |str z=>
  exists 3;cases e;exact⟨z,w,of_decide_eq_true hf,K.now o rfl⟩
 |_=>cases e
def JG(x:Str)(n:Int):Str:=if n<1 then Fx else if(n==1 || x.length==0)=true then x else⟨(BH n.toNat x.cps).foldl (·++·) #[]⟩
def S0:G2
 |.str x,.int n,st=>if(decide (-(2^62)<=n)&&decide (n<2^20)&&decide (x.length*n.toNat<=sizeLine)&&decide ((JG x n).length<=sizeLine))=true then some (.str (JG x n),st)else none
 |_,_,_=>none
def wX:Ji X (binaryOp .Mult) S0:=by
 rintro qp s σ H x y v u Q I p w ⟨K,N,st,io,d,st',A,E,S,e,k⟩;unfold S0 at e;split at e
 ·rename_i z n;obtain⟨i,e⟩:=Iu e;cases e;rw[Aq,Aq,Aq]at i;obtain⟨⟨⟨l,m⟩,o⟩,a⟩:=i;have l:=of_decide_eq_true l;have m:=of_decide_eq_true m;have o:=of_decide_eq_true o;have a:=of_decide_eq_true a
  cases (show x=.str z from A)
  cases (show y=.int n from E)
  obtain⟨t,rfl⟩:=p;obtain⟨T,rfl⟩:=w;have fin:∀t' c,EP X qp σ Q (.str (JG z n) t') {s with toks:=c}:=λt' c=>⟨.str _,H,I.tok c,⟨t',rfl⟩,k.now S rfl⟩
  refine PySem.P.mul_str (by rw[decide_eq_false (!0),decide_eq_false (!0)];rfl) (λb _=>?_) (λb _=>?_) ?_
  ·have U:sizeLine=16777216:=CA;have f:((n.toNat:Nat):Int)=n:=AQ (!0);have hm:(z.length:Int)*n<=2^63-1:=by
    rw[<-f,<-Et];omega
   have:=Int.le_ediv_of_mul_le (by omega:0<n) hm;omega
  ·unfold Builtin.Str.tooLong;exact decide_eq_false<|by omega
  ·unfold JG at fin a
   by_cases b:n<1
   ·rw[if_pos b]at fin a ⊢;exact⟨a,fin s.toks<|s.toks+1⟩
   rw[if_neg b]at fin a ⊢;exact CZ ⟨a,fin⟩
 ·cases e
def Sj(p:PyData):PyData->Option Bool
 |.list xs=>some<|xs.any λy=>BA y p
 |.tuple xs=>some<|xs.any λy=>BA y p
 |_=>none
def inD(neg:Bool):G2:=λx y st=>(IX 50 st x).bind λp=>(IX 50 st y).bind λq=>(Sj p q).map λb=>(.bl (if neg then !b else b),st)
def fK{xs:List PyData}(h:(PyData.list xs).canLay0=true):CJ xs=true:=by simpa only [B5]using h
def gF{xs:List PyData}(h:(PyData.tuple xs).canLay0=true):CJ xs=true:=by simpa only [B5]using h
def nW(g:X.A.units+100<cLine):Ji X (SL .In) (inD false):=by
 rintro qp s σ H x y v u Q I w E ⟨T,U,st,io,d,st',K,N,S,e,k⟩;obtain⟨p,b,e⟩:=Hs e;obtain⟨q,c,e⟩:=Hs e;obtain⟨r,a,e⟩:=Ia e;cases e;obtain⟨as,f⟩:=Nb I S K w b;obtain⟨bs,i⟩:=Nb I S N E c;have l:=Na b;have m:=Na c;have o:∀n,X.A.units+1+min n p.depth<cLine:=λn=>by have:=D9 n p.depth;omega
 cases q with
 |list xs=>cases a;exact PySem.SeqAt.in_list_reads i f (fK m.1) l.1 (o _) ⟨.bl _,H,I,rfl,k.now S rfl⟩
 |tuple xs=>cases a;exact PySem.SeqAt.in_tuple_reads i f (gF m.1) l.1 (o _) ⟨.bl _,H,I,rfl,k.now S rfl⟩
 |_=>cases a
def zl7(g:X.A.units+100<cLine):Ji X (SL .NotIn) (inD true):=by
 rintro qp s σ H x y v u Q I w E ⟨T,U,st,io,d,st',K,N,S,e,k⟩;obtain⟨p,b,e⟩:=Hs e;obtain⟨q,c,e⟩:=Hs e;obtain⟨r,a,e⟩:=Ia e;cases e;obtain⟨as,f⟩:=Nb I S K w b;obtain⟨bs,i⟩:=Nb I S N E c;have l:=Na b;have m:=Na c;have o:∀n,X.A.units+1+min n p.depth<cLine:=λn=>by have:=D9 n p.depth;omega
 cases q with
 |list xs=>cases a;exact PySem.SeqAt.notIn_list_reads i f (fK m.1) l.1 (o _) ⟨.bl _,H,I,rfl,k.now S rfl⟩
 |tuple xs=>cases a;exact PySem.SeqAt.notIn_tuple_reads i f (gF m.1) l.1 (o _) ⟨.bl _,H,I,rfl,k.now S rfl⟩
 |_=>cases a
def MU:G2
 |.str i,.str j,st=>some (.bl (!(Builtin.Str.occurrences j i 0 j.length 1).isEmpty),st)
 |_,_,_=>none
def uF:Ji X (SL .In) MU:=by
 rintro qp s σ H x y v u Q I a b ⟨l,m,st,io,d,st',c,f,S,e,k⟩;unfold MU at e;split at e
 ·rename_i i j
  cases e;exact zl9 qp s σ H x y v u Q I a b ⟨i,j,c,f,k.now S rfl⟩
 ·cases e
end L2.MP
namespace Srt
open PySem PySem.W PyProof.Rows
variable {α:Type}
def Hd(n:Nat)(r:Nat->Int){α:Type}:KasT α->(α->Prop)->Prop
 |.ret a,Q=>Q a
 |.ask i j k,Q=>(i<n/\j<n)/\Hd n r (k<|decide (r i<r j)) Q
variable {n i j src d m N:Nat}{c:Prop}{p:Array Nat}
section
variable {r:Nat->Int}{β:Type}
theorem Hd.bind{f:α->KasT β}{Q:β->Prop}:∀{t:KasT α},Hd n r t (λa=>Hd n r (f a) Q)->Hd n r (t.bind f) Q
 |.ret _,h=>h
 |.ask i j k,h=>⟨h.1,Hd.bind (t:=k _) h.2⟩
theorem Hd.mono{P Q:α->Prop}(k:∀a,P a->Q a):∀{t:KasT α},Hd n r t P->Hd n r t Q
 |.ret a,h=>k a h
 |.ask i j f,h=>⟨h.1,Hd.mono k (t:=f _) h.2⟩
def Q4[Decidable c]{A B:KasT α}{Q:α->Prop}(a:c)(h:Hd n r A Q):Hd n r (if decide c=true then A else B) Q:=by rw[decide_eq_true a,if_pos rfl];exact h
def Q3[Decidable c]{A B:KasT α}{Q:α->Prop}(a:¬c)(h:Hd n r B Q):Hd n r (if decide c=true then A else B) Q:=by rw[decide_eq_false a,if_neg AY];exact h
def LO(n:Nat)(p:Array Nat):Prop:=∀k,p.getD k 0<n
def R(r:Nat->Int)(p:Array Nat)(k:Nat):Int:=r<|p.getD k 0
def Up(r:Nat->Int)(p:Array Nat)(m:Nat):Prop:=∀i j,i<=j->j<m->R r p i<=R r p j
def Dn(r:Nat->Int)(p:Array Nat)(m:Nat):Prop:=∀i j,i<=j->j<m->R r p j<=R r p i
def getD_eq{q:Array Nat}(h:p[i]?=q[j]?):p.getD i 0=q.getD j 0:=by rw[B8,B8,h]
def T3(a:j<=p.size)(k:Nat):(kas_rev p i j).getD k 0=if i<=k/\k<j then p.getD (i+j-1-k) 0 else p.getD k 0:=by
 have e:=getElem?_mirror_all (i:=i) a k;unfold kas_rev;by_cases h:i<=k/\k<j
 ·rw[if_pos h]at e ⊢;exact getD_eq e
 rw[if_neg h]at e ⊢;exact getD_eq e
def aI(a:src<p.size)(hd:d<=src)(k:Nat):(bubble p src d).getD k 0=if k=src-d then p.getD src 0 else if src-d<k/\k<=src then p.getD (k-1) 0 else p.getD k 0:=by
 have e:=getElem?_bubble a d hd k;by_cases h1:k=src-d
 ·rw[if_pos h1]at e ⊢;exact getD_eq e
 ·rw[if_neg h1]at e ⊢
  by_cases h2:src-d<k/\k<=src
  ·rw[if_pos h2]at e ⊢;exact getD_eq e
  rw[if_neg h2]at e ⊢;exact getD_eq e
def Ri(a:j<=p.size)(h:LO n p):LO n (kas_rev p i j):=λk=>by
 rw[T3 a];split
 ·exact h _
 exact h _
def rO(a:src<p.size)(hd:d<=src)(h:LO n p):LO n (bubble p src d):=λk=>by
 rw[aI a hd];by_cases h1:k=src-d
 ·rw[if_pos h1];exact h _
 ·rw[if_neg h1]
  by_cases h2:src-d<k/\k<=src
  ·rw[if_pos h2];exact h _
  rw[if_neg h2];exact h _
def VC(p:Array Nat)(i j:Nat):(kas_rev p i j).size=p.size:=mirror_size _ _ _ _
def Ts(p:Array Nat)(i j:Nat):(kas_rev p i j).Perm p:=mirror_perm _ _ _ _
def Up.more(h:Up r p m)(hl:m=0\/R r p (m-1)<=R r p m):Up r p (m+1):=λi j c d=>by
 by_cases hm:j<m
 ·exact h i j c hm
 ·have e:j=m:=by omega
  subst e;by_cases hi:i=j
  ·rw[hi];exact Dp _
  ·rcases hl with hl|hl
   ·omega
   exact Co (h i (j-1) (!0)<|by omega) hl
def Dn.more(h:Dn r p m)(hl:m=0\/R r p m<=R r p (m-1)):Dn r p (m+1):=λi j c d=>by
 by_cases hm:j<m
 ·exact h i j c hm
 ·have e:j=m:=by omega
  subst e;by_cases hi:i=j
  ·rw[hi];exact Dp _
  ·rcases hl with hl|hl
   ·omega
   exact Co hl<|h i (j-1) (!0)<|by omega
theorem Vz{p:Array Nat}(b:LO n p):∀(f m:Nat),1<=m->Up r p m->Hd n r (kas_asc p f m) λa=>m<=a/\a<=m+f/\Up r p a/\(a<m+f->R r p a<R r p (a-1))
 |0,m,e,h=>⟨Ag _,Ag _,h,λz=>absurd z (AL _)⟩
 |f+1,m,e,h=>by
  refine⟨⟨b _,b _⟩,?_⟩;by_cases c:r (p.getD m 0)<r (p.getD (m-1) 0)
  ·refine Q4 c ?_;exact⟨Ag _,Cp _ _,h,λ_=>c⟩
  refine Q3 c ?_;refine Hd.mono (λa h'=>?_)<|Vz b f (m+1) (!0)<|h.more<|.inr<|Int.not_lt.mp c;exact⟨by omega,by omega,h'.2.2.1,λz=>h'.2.2.2 (!0)⟩
def U8(r:Nat->Int)(p:Array Nat)(i j:Nat):Prop:=∀k,i<=k->k<j->R r p k=R r p (j-1)
def Wh(a:j<=p.size)(h:U8 r p i j)(k:Nat):R r (kas_rev p i j) k=R r p k:=by
 unfold R;rw[T3 a];split
 ·rename_i hk;have c:=h (i+j-1-k) (!0) (!0);have d:=h k hk.1 hk.2;exact c.trans d.symm
 rfl
def Dn.same{f:Array Nat}(h:Dn r p m)(e:∀k,R r f k=R r p k):Dn r f m:=λi j a b=>by rw[e,e];exact h i j a b
def pY(hm:m<=p.size)(h:Dn r p m):Up r (kas_rev p 0 m) m:=λi j c d=>by unfold R;rw[T3 hm,T3 hm,if_pos (!0),if_pos (!0)];exact h (0+m-1-j) (0+m-1-i) (!0)<|by omega
theorem TY{N:Nat}:∀(f:Nat) (p:Array Nat) (m q:Nat),LO n p->p.size=N->1<=m->m+f<=N->q+1<=m->Dn r p m->U8 r p (m-(q+1)) m ->
  Hd n r (kas_desc f p m q) λt=>LO n t.1/\t.1.Perm p/\m<=t.2.1/\t.2.1<=m+f/\t.2.2+1<=t.2.1/\Dn r t.1 t.2.1/\U8 r t.1 (t.2.1-(t.2.2+1)) t.2.1
 |0,p,m,q,a,b,h,l,g,hd,he=>⟨a,C0 _,Ag _,Ag _,g,hd,he⟩
 |f+1,p,m,q,a,b,h,l,g,hd,he=>by
  refine⟨⟨a _,a _⟩,?_⟩;by_cases c:r (p.getD m 0)<r (p.getD (m-1) 0)
  ·refine Q4 c ?_;have one:∀o:Array Nat,U8 r o (m+1-(0+1)) (m+1):=λo k h l=>by
    have e:k=m+1-1:=by omega
    subst e;rfl
   by_cases hq:q > 0
   ·rw[if_pos hq];have j:m<=p.size:=by omega
    have e:=Wh j he;refine Hd.mono (λt i=>?_)<|TY f (kas_rev p (m-(q+1)) m) (m+1) 0 (Ri j a) ((VC _ _ _).trans b) (!0) (!0) (!0) ((hd.more<|.inr<|DB c).same e)<|one _;exact⟨i.1,i.2.1.trans<|Ts _ _ _,by omega,by omega,i.2.2.2.2⟩
   rw[if_neg hq];refine Hd.mono (λt i=>?_)<|TY f p (m+1) 0 a b (!0) (!0) (!0) (hd.more<|.inr<|DB c)<|one _;exact⟨i.1,i.2.1,by omega,by omega,i.2.2.2.2⟩
  ·refine Q3 c ?_;refine⟨⟨a _,a _⟩,?_⟩
   by_cases d:r (p.getD (m-1) 0)<r (p.getD m 0)
   ·refine Q4 d ?_;exact⟨a,C0 _,Ag _,Cp _ _,g,hd,he⟩
   ·refine Q3 d ?_;have eq:R r p m=R r p (m-1):=Gv (Int.not_lt.mp d)<|Int.not_lt.mp c;refine Hd.mono (λt i=>?_) (TY f p (m+1) (q+1) a b (!0) (!0) (!0) (hd.more<|.inr<|Int.not_lt.mp d) λk s u=>?_)
    ·exact⟨i.1,i.2.1,by omega,by omega,i.2.2.2.2⟩
    ·show R r p k=R r p (m+1-1)
     by_cases hk:k=m
     ·rw[hk];rfl
     rw[Nat.add_sub_cancel,eq];exact he k (!0)<|by omega
def U9(n N:Nat)(r:Nat->Int)(p:Array Nat)(t:Nat×Array Nat):Prop:=LO n t.2/\t.2.Perm p/\1<=t.1/\t.1<=N/\Up r t.2 t.1
def cH(a:LO n p)(e:p.size=N)(b:1<=m)(f:m<=N)(hd:Dn r p m):Hd n r (kas_tail3 m N p) (U9 n N r p):=by
 unfold kas_tail3;have c:m<=p.size:=by omega
 refine Hd.bind<|Hd.mono (λi d=>?_)<|Vz (Ri c a) (N-m) m b<|pY c hd;exact⟨Ri c a,Ts _ _ _,by omega,by omega,d.2.2.1⟩
def fN(b:LO n p)(a:p.size=N)(g:1<=m)(h:m+1<=N)(hd:Dn r p (m+1)):Hd n r (kas_descPart m N p) (U9 n N r p):=by
 unfold kas_descPart;refine Hd.bind (Hd.mono (λt e=>?_) (TY (N:=N) (N-(m+1)) p (m+1) 0 b a (!0) (!0) (!0) hd λk l o=>by
  have:k=m+1-1:=by omega
  rw[this]))
 obtain⟨t1,i,t3,q,s,t6,f⟩:=e;have d:t.1.size=N:=i.size_eq.trans a;by_cases hq:t.2.2 > 0
 ·rw[if_pos hq];have j:t.2.1<=t.1.size:=by omega
  refine Hd.mono (λu c=>?_)<|cH (Ri j t1) ((VC _ _ _).trans d) (!0) (!0)<|t6.same<|Wh j f;exact⟨c.1,(c.2.1.trans<|Ts _ _ _).trans i,c.2.2⟩
 rw[if_neg hq];refine Hd.mono (λu c=>?_)<|cH t1 d (!0) (!0) t6;exact⟨c.1,c.2.1.trans i,c.2.2⟩
def uM(f:LO n p)(o:p.size=N)(v:1<=N):Hd n r (kas_count N p) (U9 n N r p):=by
 unfold kas_count;have up1:Up r p 1:=λi j a b=>by
  have:i=j:=by omega
  rw[this];exact Dp _
 refine Hd.bind<|Hd.mono (λm hm=>?_)<|Vz f (N-1) 1 (Ag _) up1;obtain⟨d,w,m3,s⟩:=hm
 by_cases e:(m==N)=true
 ·rw[if_pos e];exact⟨f,C0 _,d,by omega,m3⟩
 ·rw[if_neg e];have ne:m≠N:=λz=>e (by simp[z]);have lt:=s (!0)
  by_cases g:m > 1
  ·rw[if_pos g];refine⟨⟨f _,f _⟩,?_⟩
   by_cases c:r (p.getD 0 0)<r (p.getD (m-1) 0)
   ·refine Q4 c ?_;exact⟨f,C0 _,d,by omega,m3⟩
   ·refine Q3 c ?_;have q:m<=p.size:=by omega
    have all:∀k,k<m->R r p k=R r p (m-1):=λk hk=>Gv (m3 k (m-1) (!0)<|by omega)<|Co (Int.not_lt.mp c)<|m3 0 k (!0) hk;have e:=Wh (i:=0) q λk _ hk=>all k hk;have dn:Dn r p m:=λi j a b=>by rw[all i (!0),all j b];exact Dp _
    refine Hd.mono (λu h=>?_)<|fN (Ri (i:=0) q f) ((VC _ _ _).trans o) d (!0)<|(dn.more<|.inr<|DB lt).same e;exact⟨h.1,h.2.1.trans<|Ts _ _ _,h.2.2⟩
  ·rw[if_neg g];have l:m=1:=by omega
   subst l;have dn:Dn r p 1:=λi j a b=>by
    have:i=j:=by omega
    rw[this];exact Dp _
   exact fN f o (Ag _) (!0)<|dn.more<|.inr<|DB lt
theorem Rr{p:Array Nat}{k:Nat}(e:LO n p)(hu:Up r p k):∀(f a b:Nat),a<=b->b<=k->b<=a+f->(∀x,x<a->R r p x<=R r p k)->(∀x,b<=x->x<k->R r p k<=R r p x) ->
  Hd n r (kas_place p k f a b) λl=>l<=k/\(∀x,x<l->R r p x<=R r p k)/\∀x,l<=x->x<k->R r p k<=R r p x
 |0,a,b,s,h,u,o,q=>by
  have:a=b:=by omega
  subst this;exact⟨h,o,q⟩
 |f+1,a,b,s,h,u,o,q=>by
  unfold kas_place;by_cases g:a ≥ b
  ·rw[if_pos g];have:a=b:=by omega
   subst this;exact⟨h,o,q⟩
  ·rw[if_neg g];refine⟨⟨e _,e _⟩,?_⟩
   by_cases c:r (p.getD k 0)<r (p.getD ((a+b) / 2) 0)
   ·refine Q4 c ?_;refine Rr e hu f a ((a+b) / 2) (!0) (!0) (!0) o λx d i=>?_;exact Co (DB c)<|hu ((a+b) / 2) x d i
   refine Q3 c ?_;refine Rr e hu f ((a+b) / 2+1) b (!0) h (!0) (λx j=>?_) q;exact Co (hu x ((a+b) / 2) (!0)<|by omega)<|Int.not_lt.mp c
theorem Zo{N:Nat}:∀(f:Nat) (p:Array Nat) (k:Nat),LO n p->p.size=N->k+f=N->Up r p k->Hd n r (kas_bin f p k) λq=>q.Perm p/\Up r q N
 |0,p,k,o,s,hk,h=>⟨C0 _,by rw[<-hk];exact h⟩
 |f+1,p,k,o,s,hk,h=>by
  unfold kas_bin;refine Hd.bind<|Hd.mono (λl u=>?_)<|Rr o h k 0 k (A5 _) (Ag _) (!0) (λx v=>absurd v (Eu _)) λx a b=>absurd (AD b a) (AL _);obtain⟨z,w,y⟩:=u;have c:k<p.size:=by omega
  refine Hd.mono (λq m=>⟨m.1.trans<|bubble_perm _ _ _,m.2⟩)<|Zo f (bubble p k<|k-l) (k+1) (rO c (!0) o) ((bubble_size _ _ _).trans s) (!0) λi j d A=>?_;have g:∀x,R r (bubble p k<|k-l) x=if x=l then R r p k else if l<x/\x<=k then R r p (x-1)else R r p x:=λx=>by
   unfold R;rw[aI c (!0)];have e:k-(k-l)=l:=by omega
   rw[e];by_cases a1:x=l
   ·rw[if_pos a1,if_pos a1]
   ·rw[if_neg a1,if_neg a1]
    by_cases a2:l<x/\x<=k
    ·rw[if_pos a2,if_pos a2]
    rw[if_neg a2,if_neg a2]
  rw[g i,g j];by_cases h1:i=l
  ·rw[if_pos h1]
   by_cases h2:j=l
   ·rw[if_pos h2];exact Dp _
   rw[if_neg h2,if_pos (!0)];exact y (j-1) (!0)<|by omega
  ·rw[if_neg h1]
   by_cases h2:j=l
   ·rw[if_pos h2,if_neg (!0)];exact w i<|by omega
   ·rw[if_neg h2]
    by_cases h3:l<i/\i<=k
    ·rw[if_pos h3,if_pos (!0)];exact h (i-1) (j-1) (!0)<|by omega
    ·rw[if_neg h3]
     by_cases h4:l<j/\j<=k
     ·rw[if_pos h4];exact h i (j-1) (!0)<|by omega
     rw[if_neg h4];exact h i j d<|by omega
def zlX(hn:1<=n):LO n (B9<|As n):=λk=>by
 rw[B8,List.getElem?_toArray];by_cases h:k<n
 ·rw[DG h];exact h
 rw[List.getElem?_eq_none_iff.mpr (by rw[Cg];omega)];exact hn
def LJ(hn:1<=n):Hd n r (kas_sort n) λq=>q.Perm (B9<|As n)/\Up r q n:=by
 unfold kas_sort;have d:(B9<|As n).size=n:=by simp
 refine Hd.bind<|Hd.mono (λt m=>?_)<|uM (zlX hn) d hn;obtain⟨t1,c,t3,p,i⟩:=m
 by_cases h:t.1<n
 ·rw[if_pos h];have e:max t.1 1=t.1:=Nat.max_eq_left t3;rw[e];refine Hd.mono (λq j=>⟨j.1.trans c,j.2⟩)<|Zo (N:=n) (n-t.1) t.2 t.1 t1 (c.size_eq.trans d) (!0) i
 ·rw[if_neg h];have e:t.1=n:=by omega
  exact⟨c,by rw[<-e];exact i⟩
end
end Srt
namespace L2.MP
open PySem PySem.Spec PyProof.Rows
theorem Zq:∀a:List Int,HT.lexLt a a=false
 |[]=>rfl
 |x::r=>by rw[HT.HZ,if_pos rfl];exact Zq r
theorem Z4:∀{a b:List Int},HT.lexLt a b=false->HT.lexLt b a=false->a=b
 |[],[],_,_=>rfl
 |[],_::_,h,_=>by rw[HT.HP]at h;cases h
 |_::_,[],_,h=>by rw[HT.HP]at h;cases h
 |x::a,y::b,c,d=>by
  rw[HT.HZ]at c d;by_cases e:x=y
  ·subst e;rw[if_pos rfl]at c d;rw[Z4 c d]
  rw[if_neg e]at c;rw[if_neg (BJ e)]at d;have a1:=of_decide_eq_false c;have a2:=of_decide_eq_false d;omega
theorem bB:∀{a b c:List Int},HT.lexLt b a=false->HT.lexLt c b=false->HT.lexLt c a=false
 |a,[],c,_,e=>by
  cases c with
  |nil=>
   cases a with
   |nil=>rfl
   |cons x a=>rename_i d;rw[HT.HP]at d;cases d
  |cons z c=>
   cases a with
   |nil=>exact HT.HY _ _
   |cons x a=>rename_i d;rw[HT.HP]at d;cases d
 |a,y::b,[],_,e=>by rw[HT.HP]at e;cases e
 |[],y::b,z::c,_,_=>HT.HY _ _
 |x::a,y::b,z::c,d,e=>by
  rw[HT.HZ]at d e ⊢;by_cases e1:y=x
  ·subst e1;rw[if_pos rfl]at d
   by_cases e2:z=y
   ·subst e2;rw[if_pos rfl]at e ⊢;exact bB d e
   rw[if_neg e2]at e ⊢;exact e
  ·rw[if_neg e1]at d;have a1:=of_decide_eq_false d
   by_cases e2:z=y
   ·subst e2;rw[if_neg e1];exact d
   rw[if_neg e2]at e;have a2:=of_decide_eq_false e;rw[if_neg (!0)];exact decide_eq_false<|by omega
def Z5{a b:List Int}(h:HT.lexLt a b=true):HT.lexLt b a=false:=by
 cases e:HT.lexLt b a with
 |false=>rfl
 |true=>
  exfalso;have:∀{a b:List Int},HT.lexLt a b=true->HT.lexLt b a=true->False:=by
   intro a
   induction a with
   |nil=>intro b c d;cases b with
    |nil=>rw[HT.IU]at c;cases c
    |cons y b=>rw[HT.HY]at d;cases d
   |cons x a f=>intro b c d;cases b with
    |nil=>rw[HT.HY]at c;cases c
    |cons y b=>
     rw[HT.HZ]at c d;by_cases q:x=y
     ·subst q;rw[if_pos rfl]at c d;exact f c d
     rw[if_neg q]at c;rw[if_neg (BJ q)]at d;have a1:=of_decide_eq_true c;have a2:=of_decide_eq_true d;omega
  exact this h e
def JQ(a b:List Int):Bool:=!HT.lexLt b a
def KW(ts:List (List Int)):List (List Int):=ts.mergeSort JQ
def Uq(a b c:List Int)(d:JQ a b=true)(e:JQ b c=true):JQ a c=true:=by unfold JQ at *;rw[BZ]at *;exact bB d e
def eE(a b:List Int):(JQ a b || JQ b a)=true:=by
 unfold JQ;cases e:HT.lexLt b a with
 |false=>rfl
 |true=>rw[Z5 e];rfl
def cJ{a b:List Int}(c:JQ a b=true)(d:JQ b a=true):a=b:=by unfold JQ at *;rw[BZ]at *;exact Z4 d c
def rank(ts:List (List Int))(i:Nat):Int:=((ts.countP λt=>HT.lexLt t (ts.getD i [])):Nat)
variable {ts:List (List Int)}{i j:Nat}
def aS(hi:i<ts.length):(decide (rank ts i<rank ts j))=HT.lexLt (ts.getD i []) (ts.getD j []):=by
 unfold rank;cases e:HT.lexLt (ts.getD i []) (ts.getD j []) with
 |true=>
  refine decide_eq_true ?_;have le:ts.countP (λt=>HT.lexLt t (ts.getD i []))<ts.countP (λt=>HT.lexLt t (ts.getD j [])):=by
   have hm:ts.getD i []∈ts:=by rw[Ax,Ah hi];exact Bj hi
   generalize l:ts.getD i []=a at *;generalize m:ts.getD j []=b at *;clear l m hi;have sub:∀t,HT.lexLt t a=true->HT.lexLt t b=true:=λt d=>by
    cases q:HT.lexLt t b with
    |true=>rfl
    |false=>
     exfalso;have n:HT.lexLt a t=false:=Z5 d;have:HT.lexLt a b=false:=by
      have f:JQ b t=true:=by unfold JQ;rw[q];rfl
      have g:JQ t a=true:=by unfold JQ;rw[n];rfl
      have:=Uq b t a f g;unfold JQ at this;rw[BZ]at this;exact this
     rw[e]at this;cases this
   induction ts with
   |nil=>exact absurd hm (!2)
   |cons t r o=>
    rw[Gh,Gh];rcases KM.mp hm with q|q
    ·subst q;rw[Zq,e];have:r.countP (λt=>HT.lexLt t a)<=r.countP (λt=>HT.lexLt t b):=EU λt _ d=>sub t d;simp only[AJ,if_false,if_true];omega
    ·have:=o q
     by_cases c:HT.lexLt t a=true
     ·rw[if_pos c,if_pos (sub t c)];omega
     rw[if_neg c];split<;>omega
  omega
 |false=>
  refine decide_eq_false ?_;have le:ts.countP (λt=>HT.lexLt t (ts.getD j []))<=ts.countP (λt=>HT.lexLt t (ts.getD i [])):=EU λt _ d=>by
   cases q:HT.lexLt t (ts.getD i []) with
   |true=>rfl
   |false=>
    exfalso;have f:JQ (ts.getD j []) (ts.getD i [])=true:=by unfold JQ;rw[e];rfl
    have g:JQ (ts.getD i []) t=true:=by unfold JQ;rw[q];rfl
    have h:=Uq _ _ _ f g;unfold JQ at h;rw[d]at h;cases h
  omega
variable {n:Nat}{α:Type}{s:Shared}
theorem Ve{n:Nat}{r:Nat->Int}{α:Type}{P:α->Prop}{Q:α->Shared->Prop}{s:Shared}{cmp:Nat->Nat->(Bool->Shared->Prop)->Shared->Prop}(b:∀i j,i<n->j<n->∀C:Bool->Shared->Prop,C (decide (r i<r j)) s->cmp i j C s)(c:∀a,P a->Q a s):
  ∀{t:PySem.W.KasT α},Srt.Hd n r t P->t.kasWp cmp Q s
 |.ret a,h=>c a h
 |.ask i j k,h=>b i j h.1.1 h.1.2 _<|Ve b c (t:=k _) h.2
variable {prog:Re}{w:Wp}{A:Around}{E:Qqa}
theorem fP{Q:Bool->Shared->Prop}:∀{xs c:List Int}{us ws:List IR} (i:Nat),Vals (xs.map V.int) us->Vals (c.map V.int) ws->Q (HT.lexLt xs c) s->PySem.W.KatLex prog w A true (decide (us.length<ws.length)) Q (us.zip ws) i s
 |[],[],_,_,i,.nil,.nil,h=>h
 |[],y::c,_,_,i,.nil,.cons r t,h=>by show Q (decide (_<_)) s;rw[decide_eq_true (!2)];exact h
 |x::xs,[],_,_,i,.cons r t,.nil,h=>by show Q (decide (_<_)) s;rw[decide_eq_false (!2)];exact h
 |x::xs,y::c,_,_,i,.cons r1 t1,.cons d f,h=>by
  obtain⟨a1,rfl⟩:=r1;obtain⟨a2,rfl⟩:=d;rw[HT.HZ]at h;refine FC x a1 y a2 prog w _ _ ?_;by_cases e:x=y
  ·subst e;rw[if_pos rfl]at h;rw[beq_self_eq_true,if_pos rfl];have:=fP (Q:=Q) (i+1) t1 f h;rw[Aw,Aw];have j:∀a b:Nat,decide (a+1<b+1)=decide (a<b):=λa b=>by
    by_cases q:a<b
    ·rw[decide_eq_true q,decide_eq_true (!0)]
    rw[decide_eq_false q,decide_eq_false (!0)]
   rw[j];exact this
  ·rw[if_neg e]at h;have n:(x==y)=false:=by simpa using e
   rw[n,if_neg AY];by_cases hi:i=0
   ·subst hi;exact oneLt_int h
   ·have:(true&&i==0)=false:=by simpa using hi
    rw[this];exact PySem.W.kat_one _ _<|Gm h
variable {X:Cx}{qp:List (Addr×Obj)}{σ:L2.St}{H:Hp}
def Qb(H:Hp):List V->List (List Int)->Prop:=Paired λv t=>∃a,v=.ref a/\H a=some (.tup<|t.map V.int)/\t≠[]
theorem Ui:∀{xs:List V} {ts:List (List Int)} {i:Nat},Qb H xs ts->i<ts.length->∃a,xs[i]?=some (.ref a)/\H a=some (.tup<|(ts.getD i []).map V.int)/\ts.getD i []≠[]
 |_,[],i,_,hi=>absurd hi<|by simp
 |_,t::ts,0,.cons r q,_=>by obtain⟨a,rfl,b,hn⟩:=r;exact⟨a,rfl,b,hn⟩
 |_,t::ts,i+1,.cons r q,hi=>by have:=Ui (i:=i) q (by simpa using hi);simpa using this
def Zn{xs:List V}{us:List IR}{s':Shared}(I:Inv X qp σ H s)(hk:∀b o,H b≠none->s.heap.get? b=some o->s'.heap.get? b=some o)(T:Qb H xs ts)(r:Vals xs us)(hi:i<ts.length)(e:j<ts.length)(C:Bool->Shared->Prop)(h:C (decide (rank ts i<rank ts j)) s'):Gx X.prog X.w A (PyProof.Rows.tuples' true) us i j C s':=by
 rw[aS hi]at h;obtain⟨a,f,c,_⟩:=Ui T hi;obtain⟨b,g,d,_⟩:=Ui T e;obtain⟨u,l,m⟩:=r.get f;obtain⟨y,n,E⟩:=r.get g;cases m;cases E;obtain⟨z,p,⟨B,ga,ca,na,q⟩,_⟩:=I.tuple<|IM.of (K:=X.K) c;obtain⟨F,v,⟨ob,x,G,nb,db⟩,_⟩:=I.tuple<|IM.of (K:=X.K) d;unfold Gx;rw[Ax,Ax,l,n];refine PySem.W.kat_lt (hk _ _ (by rw[c];simp) ga) q (hk _ _ (by rw[d];simp) x) db ?_;have:=fP (prog:=X.prog) (w:=X.w) (A:=A) (Q:=C) (s:=s') 0 p v h;simpa using this
variable {h':PP}
theorem WB{h':PP}(I:Inv X qp σ H s)(hk:∀b o,H b≠none->s.heap.get? b=some o->h'.get? b=some o):∀{xs:List V}{us:List IR} {ts:List (List Int)},Qb H xs ts->Vals xs us ->
  ∃fs:List IR,PySem.W.KatTups h' us fs/\fs.length=us.length/\∀v∈fs,∃i t,v=DO i t
 |_,_,[],.nil,.nil=>⟨[],He,rfl,λv hv=>absurd hv (!2)⟩
 |_,_,t::ts,.cons r q,.cons h e=>by
  obtain⟨a,rfl,f,hn⟩:=r;cases h;obtain⟨fs,j,w,A⟩:=WB I hk q e;obtain⟨E,l,⟨o,g,c,n,d⟩,_⟩:=I.tuple<|IM.of (K:=X.K) f
  cases t with
  |nil=>exact absurd rfl hn
  |cons x t=>
   cases l with
   |@cons _ u _ m p y=>
    obtain⟨tk,rfl⟩:=p;refine⟨.int x tk::fs,G9 (hk _ _ (by rw[f];simp) g) c d (!2) j,by rw[Aw,Aw,w],λv hv=>?_⟩
    rcases KM.mp hv with rfl|hv
    ·exact⟨x,tk,rfl⟩
    exact A v hv
variable {a:Addr}{P:Re}{h:PP}
def dC{o:HO}(x:Jr P w H h a o):∃u,h.get? a=some u:=by
 cases o with
 |lst xs=>obtain⟨_,_,_,_,e⟩:=x;exact⟨_,e⟩
 |tup xs=>obtain⟨_,_,_,o,e,_⟩:=x;exact⟨_,e⟩
 |dK i=>obtain⟨_,_,_,_,o,_,_,e,_⟩:=x;exact⟨_,e⟩
 |dT i=>obtain⟨_,_,_,_,o,_,_,e,_⟩:=x;exact⟨_,e⟩
 |set S n=>obtain⟨o,_,_,_,e,_⟩:=x;exact⟨_,e⟩
 |ins C j fs=>obtain⟨_,_,_,e,_⟩:=x;exact⟨_,e⟩
 |own y=>exact x
 |xd fs=>obtain⟨_,⟨_,_,_,e,_⟩,_⟩:=x;exact⟨_,e⟩
 |rng lo s=>obtain⟨_,_,_,e⟩:=x;exact⟨_,e⟩
 |frz ob u=>obtain⟨e,_⟩:=x;exact⟨_,e⟩
 |tbl A=>exact⟨_,x⟩
 |met f y=>exact⟨_,x⟩
 |ext φ=>obtain⟨_,e,_⟩:=x;exact e
variable {m:Str->Option IR}
def Zt{b:Str->Option IR}(x:h.Ns a m)(y:h.Ns a b):m=b:=by
 obtain⟨o,H,P,w,hd,_,hm⟩:=x;obtain⟨X,A,E,i,j,_,s⟩:=y;rw[w]at i;cases i;rw[hd]at j;cases j
 funext n
 rw[<-hm n,s n]
variable {l:Addr}
def Inv.laidAt{m:Str->Option IR}{o:HO}(I:Inv X qp σ H s)(k:∀b u,b≠X.env.locals->s.heap.get? b=some u->h'.get? b=some u)(ns:∀m,s.heap.Ns X.env.locals m->h'.Ns X.env.locals m)(f:∃u,h'.get? X.env.locals=some u)(g:s.heap.get? a=none) (d:H a=none) (p:a≠X.env.locals) (new:Jr X.prog X.w (upd H a o) h' a o):Inv X qp σ (upd H a o) {s with heap:=h'}:=by
 have na:∀b u,s.heap.get? b=some u->b≠a:=λb u e z=>by rw[z,g]at e;cases e
 refine Inv.step (t':=s.toks) (ch:=[]) (g':=s.gens) (d':=s.drawn) I (λb h=>absurd h (!2)) (λb u i _ _ e _=>k b u i e) (λb u i _ _ e _=>⟨u.slots,k b u i e⟩) (λb u _ e n=>by rw[HV (na b u e)];exact n) (λb u _ e=>?_)
  (λb xs e=>by rw[HV (J9 e d)];exact e) (λb u v e=>by rw[HV (J9 e d)];exact e) (λb j e=>⟨#[],by rw[HV (J9 e d),e];simp⟩) ns (λb u e=>?_) I.bare
 ·by_cases h:b=X.env.locals
  ·rw[h];exact f
  exact⟨u,k b u h e⟩
 ·by_cases h:b=a
  ·subst h;rw[Le]at e;cases e;exact new
  ·rw[HV h]at e;refine(I.hok b u e).stay (λc v hc q=>k c v (λz=>?_) q) (λc q=>by rw[HV (J9 q d)];exact q) λc xs q=>by rw[HV (J9 q d)];exact q
   subst z;rcases hc with rfl|hc
   ·rw[I.free]at e;cases e
   rw[I.free]at hc;cases hc
def ziX{xs:List V}{Q:VK}(I:Inv X qp σ H s)(hl:JD X.K H l xs)(T:Qb H xs ts)(d:2<=ts.length)(Z:ts.length<64)(h:∀(q:Array Nat) (p:Addr),q.Perm (B9<|As ts.length)->Srt.Up (rank ts) q ts.length->H p=none->Q (.ref p) (upd H p<|.lst<|q.toList.map λi=>xs.getD i .non)):
  wpAny (!4) X.A (call (.builtin "sorted") [.ref l]) (EP X qp σ Q) X.xe s:=by
 obtain⟨E,y,pl,hz⟩:=I.list hl;have hlen:E.length=ts.length:=by have a:=y.length;have b:=Be T;omega
 obtain⟨m,F⟩:=I.fr;have B:∀b,H b≠none->b≠X.env.locals:=λb f z=>f (by rw[z];exact I.free);have trkB:∀b,H b≠none->X.base.get? b=none:=λb f=>by
  cases e:X.base.get? b with
  |none=>rfl
  |some o=>exact absurd (I.bs b o e).2 f
 refine PySem.W.kat_sorted F (WG (g:=X.base) (h:=s.heap) (L:=X.env.locals)) pl.isList (!0) (!0) λD e1 h' F' N' G=>?_;have keep:∀{d:PP}{o:Obj},Fr X.base X.env.locals d m->News X.base X.env.locals d ((D,o)::Pg X.base s.heap X.env.locals)->∀b u,b≠X.env.locals->s.heap.get? b=some u->d.get? b=some u:=λ{d o} F2 Y b u f e=>by
  cases q:X.base.get? b with
  |some v=>
   have z:=(I.bs b v q).1;rw[e]at z;cases z;exact F2.keep b _ q
  |none=>exact(Y (b,u)<|Ai _<|Xg f q e).1
 have hk:∀b o,H b≠none->s.heap.get? b=some o->h'.get? b=some o:=λb o f e=>keep F' N' b o (B b f) e;have x:=N' _ Al;have M:s.heap.get? D=none:=by
  cases e:s.heap.get? D with
  |none=>rfl
  |some u=>exact absurd (G _<|Xg x.2.1 x.2.2 e)<|AL _
 have N:H D=none:=by
  cases e:H D with
  |none=>rfl
  |some o=>
   obtain⟨u,hu⟩:=dC<|I.hok D o e;rw[M]at hu;cases hu
 obtain⟨fs,k1,k2,k3⟩:=WB (h':=h') I hk T y;refine Gi (s:={s with heap:=h'}) (T:=.type "int") k1 (!0) (λv hv=>?_) rfl ?_
 ·obtain⟨i,t,rfl⟩:=k3 v hv;exact EV rfl
 have ok:=Srt.LJ (n:=E.length) (r:=rank ts) (!0);refine Ve (n:=E.length) (r:=rank ts) (s:={s with heap:=h'}) (λi j S hj C hC=>Zn (s':={s with heap:=h'}) I hk T y (!0) (!0) C hC) (λq U=>?_) ok;refine Fh F' N' (FZ λp hp=>Au (G p hp)) λd c F2 Y=>?_;have hD2:=(Y _ Al).1;rw[hlen]at U;have vals:Vals (q.toList.map λi=>xs.getD i .non) (q.toList.map λi=>E.getD i Bk):=by
  have P:∀i∈q.toList,i<xs.length:=λi S=>by have:i∈(B9<|As ts.length).toList:=(Array.perm_iff_toList_perm.mp U.1).mem_iff.mp S;have hr:=y.length;simp at this;omega
  generalize q.toList=ql at P
  induction ql with
  |nil=>exact .nil
  |cons i r ih=>
   refine .cons ?_<|ih λj hj=>P j (Ai _ hj);have S:=P i Al;obtain⟨u,eu,ru⟩:=y.get<|Ah S;show RelV (xs.getD i V.non) (E.getD i Bk);rw[Ax,Ax,Ah S,eu];exact ru
 have hql:q.toList.length=ts.length:=by have:=(Array.perm_iff_toList_perm.mp U.1).length_eq;simpa using this
 have J:Inv X qp σ (upd H D<|.lst<|q.toList.map λi=>xs.getD i .non) {s with heap:=d}:=
  Inv.laidAt (m:=m) I (keep F2 Y) (λm' hm'=>by rw[Zt hm' F.ns];exact F2.ns) (let ⟨o,_,_,e,_⟩:=F2.ns;⟨o,e⟩) M N x.2.1 ⟨by rw[Af,hql];exact PH Z,_,c,vals,hD2⟩
 exact⟨.ref D,_,J,rfl,h q D U.1 U.2 N⟩
def zgg(ts:List α)(d:α):(As ts.length).map (λi=>ts.getD i d)=ts:=by
 apply List.ext_getElem
 ·simp
 intro i h a;simp[Ax,Ah a]
def fD{q:Array Nat}(f:q.Perm (B9<|As ts.length))(d:Srt.Up (rank ts) q ts.length):q.toList.map (λi=>ts.getD i [])=KW ts:=by
 have hl:=Array.perm_iff_toList_perm.mp f;have hl:q.toList.Perm (As ts.length):=by simpa using hl
 have s:q.toList.length=ts.length:=by rw[hl.length_eq,Cg]
 have w:(q.toList.map λi=>ts.getD i []).Perm ts:=by have:=hl.map λi=>ts.getD i [];rw[zgg]at this;exact this
 refine Ux (le:=λa b=>JQ a b=true) (w.trans (CT ts JQ).symm) ?_ (Dg (λa b c=>Uq a b c) eE ts) λa _ b _=>cJ;rw[List.pairwise_iff_getElem];intro i j m h l;rw[Gj,Gj];rw[Af]at m h;have d:=d i j (BX l) (!0);have n:∀(k:Nat) (hk:k<q.toList.length),q.getD k 0=q.toList[k]:=λk hk=>by rw[B8,<-Bn,Ah hk];rfl
 unfold Srt.R at d;rw[n i m,n j h]at d;have lt:∀k∈q.toList,k<ts.length:=λk hk=>List.mem_range.mp<|hl.mem_iff.mp hk;have e:=aS (ts:=ts) (i:=q.toList[j]) (j:=q.toList[i])<|lt _<|Bj h;rw[decide_eq_false (!0)]at e;unfold JQ;rw[<-e];rfl
def intsOf:List D->Option (List Int)
 |[]=>some []
 |.int i::r=>(intsOf r).map λis=>i::is
 |_=>none
variable {d:D}
def zi9{r:List D}{ss:List Int}(h:intsOf (d::r)=some ss):∃x xs,d=.int x/\intsOf r=some xs/\ss=x::xs:=by
 cases d with
 |int x=>
  obtain⟨xs,e,h⟩:=Ia h;exact⟨x,xs,rfl,e,h.symm⟩
 |_=>cases h
def rowOf:D->Option (List Int)
 |.tup ds=>(intsOf ds).bind λt=>if(!t.isEmpty)=true then some t else none
 |_=>none
def rowsOf:List D->Option (List<|List Int)
 |[]=>some []
 |d::r=>(rowOf d).bind λt=>(rowsOf r).map λts=>t::ts
def HJ(t:List Int):D:=.tup<|t.map D.int
variable {K:Ab}{io:List Addr}{st st':Hh}
theorem ints_rep:∀{xs:List V}{ds:List D}{t:List Int},Hi K H io xs ds->intsOf ds=some t->xs=t.map V.int/\ds=t.map D.int
 |_,[],t,h,e=>by cases e;exact⟨h,rfl⟩
 |_,d::ds,t,h,e=>by
  obtain⟨y,g,rfl,c,f⟩:=h;obtain⟨x,rest,rfl,i,rfl⟩:=zi9 e;obtain⟨a,b⟩:=ints_rep f i;cases (show y=.int x from c)
  rw[a,b];exact⟨rfl,rfl⟩
theorem Rj:∀{xs:List V}{ds:List D} {ts:List (List Int)},Hi K H io xs ds->rowsOf ds=some ts->Qb H xs ts/\ds=ts.map HJ
 |_,[],ts,h,e=>by cases e;cases (show _=[] from h);exact⟨.nil,rfl⟩
 |_,d::ds,ts,h,e=>by
  obtain⟨y,g,rfl,c,f⟩:=h;obtain⟨t,i,e⟩:=Hs e;obtain⟨us,l,e⟩:=Ia e;subst e;obtain⟨a,b⟩:=Rj f l;cases d with
  |tup zs=>
   obtain⟨w,f1,f2⟩:=Hs i;obtain⟨j,f2⟩:=Iu f2;cases f2;obtain⟨p,A,rfl,m,rs⟩:=c;obtain⟨n,s⟩:=ints_rep rs f1;subst n;refine⟨.cons ⟨p,rfl,m,λz=>?_⟩ a,?_⟩
   ·rw[z]at j;exact absurd j<|by decide
   rw[b,s];rfl
  |_=>cases i
def Ue:GN
 |[.ref n],st=>(Ig st n).bind λds=>(rowsOf ds).bind λts=>if(decide (2<=ts.length)&&decide (ts.length<64))=true then some (.ref st.length,st++[.lst ((KW ts).map HJ)])else none
 |_,_=>none
theorem WW{xs:List V}{ts:List (List Int)}(r:Hi K H io xs (ts.map HJ)):∀{q:List Nat},(∀i∈q,i<ts.length)->Hi K H io (q.map λi=>xs.getD i .non) ((q.map λi=>ts.getD i []).map HJ)
 |[],_=>rfl
 |i::q,h=>by
  have hi:=h i Al;have a:(ts.map HJ)[i]?=some (HJ<|ts.getD i []):=by rw[Az,Ah hi,Ax,Ah hi];rfl
  obtain⟨v,d,l⟩:=r.get a;refine⟨_,_,rfl,?_,WW r λj m=>h j (Ai _ m)⟩;show Rep K H io (xs.getD i .non) _;rw[Ax,d];exact l
def zg6:Jy X (.builtin "sorted") Ue:=by
 exists 0;unfold Ue at e;split at e
 ·rename_i n;obtain⟨zs,m,e⟩:=Hs e;obtain⟨ts,w,e⟩:=Hs e;obtain⟨a,e⟩:=Iu e;cases e;rw[Aq]at a;obtain⟨v,rfl,p,rfl,A⟩:=R.one;obtain⟨u,rfl,E⟩:=r.one;cases E;obtain⟨c,K,h⟩:=KG S A m;obtain⟨T,hd⟩:=Rj h w;subst hd;refine ziX I K T (of_decide_eq_true a.1) (of_decide_eq_true a.2) λq f j P hf=>?_;have hm:∀i∈q.toList,i<ts.length:=λi b=>by
   have:=(Array.perm_iff_toList_perm.mp j).mem_iff.mp b;simpa using this
  have l:=WW h hm;rw[fD j P]at l;exact k.lst S l hf
 ·cases e
variable {ma mb:ME}{pos p:Pos}{g:G2}{k:Nat}
section
variable {a b c e:Pv}{es:List Pv}{mc m:ME}{mm:MA}
def LZ:Option α->Option α->Option α
 |some x,_=>some x
 |none,y=>y
def NC{x y:Option α}{z:α}(h:LZ x y=some z):x=some z\/y=some z:=by
 cases x with
 |none=>exact .inr h
 |some w=>exact .inl h
def JL(g h:G2):G2:=λx y st=>LZ (g x y st)<|h x y st
def LL(g h:GN):GN:=λxs st=>LZ (g xs st)<|h xs st
def Q0{f:IR->IR->Sem IR}{h:G2}(p:Ji X f g)(q:Ji X f h):Ji X f (JL g h):=by
 rintro qp s σ H x y v u Q I a b ⟨c,i,st,io,d,st',j,l,S,e,k⟩;rcases NC e with e|e
 ·exact p qp s σ H x y v u Q I a b ⟨c,i,st,io,d,st',j,l,S,e,k⟩
 exact q qp s σ H x y v u Q I a b ⟨c,i,st,io,d,st',j,l,S,e,k⟩
def Qs{f:IR}{g h:GN}(p:Jy X f g)(q:Jy X f h):Jy X f (LL g h):=by
 exists 0;rcases NC e with e|e
 ·exact p qp s σ H xs us Q I r ⟨ds,st,io,d,st',R,S,e,k⟩
 exact q qp s σ H xs us Q I r ⟨ds,st,io,d,st',R,S,e,k⟩
def TF{U:HX}{x y:D}{s0 s1 s2:Hh}{r:D×Hh}(f:ma U s0=some (x,s1))(o:mb U s1=some (y,s2))(q:g x y s2=some r):mB g ma mb U s0=some r:=by unfold mB;rw[f];show G8 (mb U s1) _=_;rw[o];exact q
def pA{h:G2}(p:SE X e (mB g ma mb))(q:SE X e (mB h ma mb)):SE X e (mB (JL g h) ma mb):=by
 rintro qp s σ H Q I ⟨U,st,io,d,st',E,S,e,k⟩;obtain⟨⟨x,s1⟩,a,e⟩:=Hs e;obtain⟨⟨y,s2⟩,b,e⟩:=Hs e;rcases NC e with e|e
 ·exact p qp s σ H Q I ⟨U,st,io,d,st',E,S,TF a b e,k⟩
 exact q qp s σ H Q I ⟨U,st,io,d,st',E,S,TF a b e,k⟩
def VF{h:G2}(p:SB X e (mT<|mB g ma mb))(q:SB X e (mT<|mB h ma mb)):SB X e (mT<|mB (JL g h) ma mb):=by
 rintro qp s σ H Q I ⟨U,st,io,d,st',E,S,e,k⟩;have e:=Tp e;obtain⟨⟨x,s1⟩,a,e⟩:=Hs e;obtain⟨⟨y,s2⟩,b,e⟩:=Hs e;rcases NC e with e|e
 ·exact p qp s σ H Q I ⟨U,st,io,d,st',E,S,by unfold mT;rw[TF a b e];rfl,k⟩
 exact q qp s σ H Q I ⟨U,st,io,d,st',E,S,by unfold mT;rw[TF a b e];rfl,k⟩
def Vb:G2:=λd k st=>match d with
 |.ref n=>(look st n k).bind λr=>r.map λv=>(v,st)
 |_=>none
def Hj:G2:=JL Ki Vb
def HD(r:X.A.units+1<cLine)(o:SE X a ma)(q:SE X b mb)(u:VV b:=by intro _ _;rfl)(f:MX b:=by intro _ _;rfl):SE X (.Subscript a b pos) (mB Hj ma mb):=pA (jG o q u) (show SE X (.Subscript a b pos) (Zc ma mb) from rV r o q f)
def N1(neg:Bool):G2:=λk d st=>match d with
 |.ref n=>(look st n k).map λr=>(.bl (if neg then !r.isSome else r.isSome),st)
 |_=>none
def Ni:G2:=JL (JL (inD false) MU)<|N1 false
def Tf:G2:=JL (inD true)<|N1 true
def VE(q:X.A.units+100<cLine)(f:SE X a ma)(o:SE X b mb)(hm:behindInMarks .In b=false:=by rfl):SB X (.Compare a [.In] [b] pos) (mT<|mB Ni ma mb):=VF (JN (Q0 (nW q) uF) f o hm) (show SB X _ (mT<|MR false ma mb) from qB (!0) f o hm)
def zlU(q:X.A.units+100<cLine)(f:SE X a ma)(o:SE X b mb)(hm:behindInMarks .NotIn b=false:=by rfl):SB X (.Compare a [.NotIn] [b] pos) (mT<|mB Tf ma mb):=VF (JN (zl7 q) f o hm) (show SB X _ (mT<|MR true ma mb) from zlV (!0) f o hm)
def Ye:D->Option Int->Option Int->Hh->Option (D×Hh):=λx lo a st=>LZ (Yd x lo a st)<|hZ x lo a st
def Sl(m:ME)(l h:MO):ME:=λU st=>(!9).bind λ(x,s1)=>(l U s1).bind λ(lo,s2)=>(h U s2).bind λ(a,s3)=>Ye x lo a s3
def zlN{lo hi:Option Pv}{f o:MO}{u:Pos}(he:SE X e m)(q:SO X lo f)(r:SO X hi o):SE X (.Subscript e (.Slice lo hi none u) pos) (Sl m f o):=by
 rintro qp s σ H Q I ⟨U,st,io,d,st',E,S,e0,k⟩;obtain⟨⟨x,s1⟩,a,e0⟩:=Hs e0;obtain⟨⟨g,s2⟩,b,e0⟩:=Hs e0;obtain⟨⟨h,s3⟩,c,e0⟩:=Hs e0;rcases NC e0 with e0|e0
 ·exact xW he q r qp s σ H Q I ⟨U,st,io,d,st',E,S,by simp only[iE,a,b,c,Ae];exact e0,k⟩
 exact zlM he q r qp s σ H Q I ⟨U,st,io,d,st',E,S,by simp only[Sk,a,b,c,Ae];exact e0,k⟩
def Mu:D->Hh->Option (Wk×Hh)
 |.ref n,s=>(Ig s n).map λds=>(⟨ds,[(n,ds)]⟩,s)
 |.tup ds,s=>some (⟨ds,[]⟩,s)
 |_,_=>none
def mW(m:ME):MI:=λU st=>(!9).bind λ(d,s)=>Mu d s
def sL{o l:Pv}(f:SE X l m):SI X o l (mW m):=by
 rintro qp s σ H R I ⟨U,st,io,W,st',E,S,a,k⟩;obtain⟨⟨d,s1⟩,b,a⟩:=Hs a;cases d with
 |ref n=>exact sJ f qp s σ H R I ⟨U,st,io,W,st',E,S,by unfold iD;rw[b];exact a,k⟩
 |tup ds=>exact pD f qp s σ H R I ⟨U,st,io,W,st',E,S,by unfold iB;rw[b];exact a,k⟩
 |_=>cases a
def IK:G3:=λo i v st=>match o,i with
 |.ref n,.int k=>match st[n]? with
  |some (.lst ds)=>(Mq ds.length k).map λj=>st.set n<|.lst<|ds.set j v
  |_=>none
 |_,_=>none
def jH:Sy X IK:=by
 rintro qp s σ H o i v h l u Q I m w A ⟨E,a,K,st,io,st',P,R2,f,S,e,k⟩;cases E with
 |ref n=>
  cases a with
  |int j=>
   unfold IK at e;exists 10;split at e
   ·rename_i ds b;obtain⟨q,x,e⟩:=Ia e;cases e;obtain⟨p,rfl,c⟩:=P;obtain⟨d,g,r⟩:=S.ob n p _ c b;refine set_list qp s σ H _ _ v h l u Q I m w A ⟨p,d,j,q,rfl,R2,g,by rw[r.length];exact x,?_⟩;obtain⟨y,B⟩:=M7 (o:=.lst (d.set q v)) (ob:=.lst (ds.set q K)) S c b (λo u z=>by rw[g]at z;cases z) λF T C=>⟨_,C,(Hi.mono T r).set q<|Rep.mono T f⟩
    exact k _ [] y B
   ·cases e
  |_=>cases e
 |_=>cases a<;>cases e
def JR(mo f o:ME):MS:=λU st=>LZ (Ht o (Nj IK mo f) U st)<|Nm mo f o U st
def Ou{o i value:Pv}{mo x y:ME}{pos':Pos}(C:X.A.units+1<cLine)(z:SE X o mo)(hi:SE X i x)(B:SE X value y)(F:swapsWith value (some<|.Subscript o i pos') pos.line X.env=pure false:=by rfl)(G:∀v,assign (.Subscript o i pos') X.env v=(do
   let q <-holding [v] (UV o X.env)
   let r <-holding [v,q] (UV i X.env)
   standAt pos'
   holding [v,q,r] (setItem q r v)
   release [v,q,r] []):=by intro _;rfl)
  (u:swapsWithSole [.Subscript o i pos'] value pos.line X.env=pure false:=by rfl) (hw:swappedStores [.Subscript o i pos'] value X.env=pure none:=by rfl)
  (J:(assignEach [.Subscript o i pos'] X.env).map (·.2)=[assign (.Subscript o i pos') X.env]:=by rfl):SS X (.Assign [.Subscript o i pos'] value pos) (JR mo x y):=by
 intro qp s σ H N I h;exists 2;rcases NC e with e|e
 ·exact VO B (pB z hi jH G) u hw J qp s σ H N I<|O6 E S e w
 exact sR C z hi B F qp s σ H N I<|O6 E S e w
def NP(i j:Nat)(mm:MA):MS:=λU st=>(mm U st).bind λ(xs,s)=>match xs with
 |[x,y]=>some (.nx ((U.set i<|some x).set j<|some y),s)
 |_=>none
def ZH{x y:Str}{o py pt:Pos}{kt k2 pt2}(z:X.calm=true)(B:X.N.Nodup)(hi:X.N[i]?=some x)(C:X.N[j]?=some y)(r:i≠j)(F:X.env.scope.names.lookup x=some .local) (G:X.env.scope.names.lookup y=some .local) (I:SA X [a,b] mm)(hw:swappedStores [.Tuple [.Name x o,.Name y py] kt pt] (.Tuple [a,b] k2 pt2) X.env=pure (some [x,y]):=by rfl)(J:swapsWithSole [.Tuple [.Name x o,.Name y py] kt pt] (.Tuple [a,b] k2 pt2) pos.line X.env=pure false:=by rfl):
  SS X (.Assign [.Tuple [.Name x o,.Name y py] kt pt] (.Tuple [a,b] k2 pt2) pos) (NP i j mm):=PS.imp (mX z B hi C r F G I hw J) λN σ H h=>by
 exists 2;obtain⟨⟨xs,s1⟩,c,e⟩:=Hs e
 match xs,e,c with
 |[u,v],e,c=>
  cases e;refine⟨U,st,io,_,_,E,S,c,λs H1 g d l R1=>?_⟩;obtain⟨p,q,rfl,m,n⟩:=R1.two;exact⟨p,q,rfl,w _ H1 g d l<|((E.ext S d).set i m).set j n⟩
def Jt(P:Re)(w:Wp)(K:Ab)(o:Str->Option IR)(base:PP)(k:Nat)(x:Str)(n:Nat)(g:GN):Prop:=∃f fd a,Jd P w K o base KA k f fd a (MK K n g)/\o x=some (.ref f)/\Bf K (.ref f)=true/\Binds K fd a []
def Jl(n:Nat)(mm:MA):Prop:=∀U st xs s,mm U st=some (xs,s)->xs.length=n
def Jl.nil:Jl 0 mZ:=λ_ _ _ _ h=>wI h
def Jl.cons(h:Jl n mm):Jl (n+1) (Hf m mm):=λ_ _ _ _ q=>yQ h q
def xT{x:Str}{g:GN}(F:Jt X.prog X.w X.K X.mg X.base k x n g)(r:HM k X.A)(u:Gl X x)(v:SA X (e::es) mm)(y:Jl n mm)(o:(x==("__debug__":Str))=false:=by decide)(he:Qqb X.env e es:=by rfl) (q:Qqc pos es X.env:=by rfl) (hn:(e::es).length=n:=by rfl):
  SE X (.Call (.Name x p) (e::es) [] pos) (Hr g mm):=by
 obtain⟨f,fd,b,F,hm,hk,a⟩:=F;exact rT F r u hm hk a v o he q hn y
def Laid(K:Ab)(o:Str->Option IR)(x:Str)(st:Stmt)(ps:List Str):Prop:=∃f fd,Mt K x x st f fd/\o x=some (.ref f)/\Binds K fd ps []
def kS{q:Str->Option IR}{base:PP}{x:Str}{st:Stmt}{N ps:List Str}{m:MS}(L:Laid K q x st ps)(S:IP N ps (I0 st))(hbody:∀(f:Addr) (o:IR) (A:Around) (outer:List Env) (s:Shared) (H:Hp) (E:XK),HM k (A.deeper<|envOfC x (I0 st) s.heap.objs.size f o) ->
   KN (JI KA P w K q base N x (I0 st) f o A outer s H E).nox (Ko st) m):Jt P w K q base (k+1) x ps.length (ID N.length m):=by
 obtain⟨f,fd,F,hm,a⟩:=L;exact⟨f,fd,ps,NY F S<|hbody f,hm,F.kp,a⟩
end
variable {v:IR}
def zlI{at_:Addr}{R:PySem.Fin->Shared->Prop}(b:s.heap.get? at_=some (seqObj "list" #[v] k))(fin:R (.done<|.ret .none) {s with heap:=sortedHeap s.heap at_ [v] #[v]}):
  wpAny (!5) A (Builtin.«list.sort» ⟨[.ref at_],[]⟩) R E s:=by
 have d:=Aj b;obtain⟨a,g1⟩:∃a,(s.heap.update at_<|BI λ_=>(#[]:Array IR)).get? at_=some (seqObj "list" #[] a):=⟨_,get?_update_seq b λ_=>#[]⟩
 have g2:(((s.heap.update at_<|BI λ_=>(#[]:Array IR)).push<|seqObj "tuple" #[v] 0).push<|seqObj "list" #[] 0).get? at_=some (seqObj "list" #[] a):=Ad _<|Ad _ g1;rw[list_sort_plain];refine Aa<|listItems_at b rfl<|Aa<|DX b rfl<|Aa<|EM g1 rfl<|Aa<|EW<|Aa<|Dr<|AM ?_;show wpAny (!5) A _ R E {s with heap:=((s.heap.update at_<|BI λ_=>(#[]:Array IR)).push<|seqObj "tuple" #[v] 0).push (seqObj "list" #[] 0)};have two:(#[v]:Array IR).size<2:=by show 1<2;decide
 have same:(arrOf<|Hc general' ((#[v]:Array IR).zip #[v]) #[] 7 none).map (·.2)=#[v]:=by show(((#[v]:Array IR).zip #[v]).map (·.2))=#[v];simp
 dsimp only;rw[if_pos two,if_pos two];refine Aa<|Ac ?_;rw[Gy];refine Aa<|Ac ?_;dsimp only;rw[same];refine Aa<|EM g2 rfl<|Aa<|DX g2 rfl ?_;simp only[bne_self_eq_false,AJ,if_false];exact Ac fin
def ziY{R:Qqa}(b:s.heap.IsList l [v].toArray)(fin:R (.ref<|s.heap.objs.size+1) {s with heap:=sortedAll s.heap [v] #[v]}):
  wpAny (!5) A (call (.builtin "sorted") [.ref l]) R E s:=by
 have sz:((s.heap.push<|seqObj "list" #[] 0).update s.heap.objs.size (BI (·++[v].toArray))).objs.size=s.heap.objs.size+1:=(Heap.size_update ..).trans<|size_push' ..;have a:(((s.heap.push<|seqObj "list" #[] 0).update s.heap.objs.size (BI (·++[v].toArray))).push<|seqObj "list" [v].toArray 0).get? (s.heap.objs.size+1)=some (seqObj "list" [v].toArray 0):=by rw[<-sz];exact Ap _ rfl
 exists 12;unfold Builtin.«sorted»;refine Aa (m:=checkCount "sorted" 1 1 _) (Ac<|Aa<|collect_list b<|Aa<|Dr ?_);show wpAny _ _ _ _ _ {s with heap:=((s.heap.push<|seqObj "list" #[] 0).update s.heap.objs.size (BI (·++[v].toArray))).push (seqObj "list" [v].toArray 0)};rw[sz];exact Aa<|AM<|Bc EX ⟨_,a,rfl⟩ Ew (zlI a ⟨_,rfl,Ac ⟨_,rfl,fin⟩⟩)<|EY _
def Ru:GN
 |[.ref n],st=>(Ig st n).bind λds=>if decide (ds.length=1)=true then some (.ref st.length,st++[.lst ds])else none
 |_,_=>none
def zg9:Jy X (.builtin "sorted") Ru:=by
 exists 0;unfold Ru at e;split at e
 ·rename_i n;obtain⟨zs,m,e⟩:=Hs e;obtain⟨w,e⟩:=Iu e;cases e;obtain⟨y,rfl⟩:=List.length_eq_one_iff.mp<|of_decide_eq_true w;obtain⟨v,rfl,p,rfl,A⟩:=R.one;obtain⟨u,rfl,E⟩:=r.one;cases E;obtain⟨x,K,j⟩:=KG S A m;obtain⟨P,l,pl,z⟩:=I.list K;obtain⟨c,rfl,B⟩:=j.one;obtain⟨i,rfl,C⟩:=l.one;refine ziY pl.isList ?_;obtain⟨f,h⟩:=sortedAll_at s.heap [i] #[i];have g:H (s.heap.objs.size+1)=none:=I.hok.fresh<|CC _;refine⟨.ref<|s.heap.objs.size+1,upd H (s.heap.objs.size+1)<|.lst [c],I.laid (t':=s.toks) (a:=s.heap.objs.size+1) (λb o q=>sortedAll_old q) (CC _) ⟨by show 1<=sizeLine;decide,[i],f,l,by simpa using h⟩,rfl,?_⟩;exact k.lst S j g
 ·cases e
def MF:GN:=LL Pj<|LL Ru Ue
def Xe:Jy X (.builtin "sorted") MF:=Qs zg7<|Qs zg9 zg6
variable {o:Obj}
def Inv.freeze{d:Addr}{o:Obj}{u:HO}(I:Inv X qp σ H s)(hd:H d=some u)(g:s.heap.get? d=some o)(e:∀xs,u≠.tup xs)(f:∀x,u≠.own x)(r:∀o w,u≠.frz o w)(B:∀ps,u≠.tbl ps):Inv X qp σ (upd H d<|.frz o u) s:=by
 have ne:∀{b:Addr}{v:HO},H b=some v->v≠u->b≠d:=λ{b v} q a z=>by subst z;rw[hd]at q;exact a (Av q).symm
 refine Inv.step (h':=s.heap) (t':=s.toks) (g':=s.gens) (d':=s.drawn) (ch:=[]) I (λ_ z=>nomatch z) (λb v _ _ _ q _=>q) (λb v _ _ _ q _=>⟨v.slots,q⟩) (λb v _ q n=>?_) (λb v _ q=>⟨v,q⟩) (λb xs q=>?_) (λb v w q=>?_) (λb ps q=>⟨#[],?_⟩) (λm hm=>hm) (λb v q=>?_) I.bare
 ·have:b≠d:=λz=>by
   rw[z,hd]at n;cases n
  rw[HV this];exact n
 ·rw[HV (ne q λz=>e xs z.symm)];exact q
 ·rw[HV (ne q λz=>r v w z.symm)];exact q
 ·rw[HV (ne q λz=>B ps z.symm),q];simp
 ·by_cases hb:b=d
  ·subst hb;rw[Le]at q;cases q;refine⟨g,?_⟩;exact(I.hok b u hd).stay (λc x _ y=>y) (λc y=>by rw[HV (ne y λz=>f b z.symm)];exact y) λc xs y=>by rw[HV (ne y λz=>e xs z.symm)];exact y
  rw[HV hb]at q;exact(I.hok b v q).stay (λc x _ y=>y) (λc y=>by rw[HV (ne y λz=>f b z.symm)];exact y) λc xs y=>by rw[HV (ne y λz=>e xs z.symm)];exact y
def Qt{d:Addr}{ps:List (List Key×V)}{es:Array DictEntry}{ep:Nat}(x:Jr P w H h d (.frz o<|.dT ps))(f:o.data=.dict es ep):
  h.get? d=some o/\es.size=ps.length/\∀(i:Nat) (k:List Key) (v:V),ps[i]?=some (k,v)->∃(c:DictEntry) (b:Addr),es[i]?=some c/\c.key=.ref b/\H b=some (.tup<|k.map kV)/\RelV v c.val:=by
 obtain⟨g,z,y,xs,r,G,K,X,s,ex,a,A,I⟩:=x;rw[g]at s;cases s;rw[f]at a;cases a;have u:es.size=ps.length:=by have n:=congrArg F9 A;have E:=Be r;simp at n;omega
 refine⟨g,u,λi k v B=>?_⟩;have get:∀{l:List (List Key×V)} {m:List (List Key×Addr×IR)} {i:Nat},Paired (λ(p:List Key×V) (q:List Key×Addr×IR)=>p.1=q.1/\H q.2.1=some (.tup<|p.1.map kV)/\RelV p.2 q.2.2) l m->l[i]?=some (k,v)->∃q,m[i]?=some q/\H q.2.1=some (.tup<|k.map kV)/\RelV v q.2.2:=by
  intro l m i q
  induction q generalizing i with
  |nil=>intro e;simp at e
  |cons h t C=>
   cases i with
   |zero=>
    intro e;simp at e;subst e;exact⟨_,rfl,h.2.1,h.2.2⟩
   |succ j=>intro e;exact C<|by simpa using e
 obtain⟨q,F,n,E⟩:=get r B;have he:es[i]?=some (entryOfKey (tupleKind<|Ja P w) q):=by
  have:es.toList[i]?=some (entryOfKey (tupleKind<|Ja P w) q):=by rw[A,Az,F];rfl
  simpa using this
 exact⟨_,q.2.1,he,rfl,n,E⟩
section
variable {m:ME}
def So:Key->D
 |.inl i=>.int i
 |.inr x=>.str x
theorem T8:∀(ks:List Key),Hi K H io (ks.map kV) (ks.map So)
 |[]=>rfl
 |.inl i::r=>⟨_,_,rfl,rfl,T8 r⟩
 |.inr x::r=>⟨_,_,rfl,rfl,T8 r⟩
end
inductive Sr where
 |l (a:Addr)|t (a:Addr)
def Sr.ad:Sr->Addr
 |.l a=>a
 |.t a=>a
def Sr.ob:Sr->Obj
 |.l a=>{cls:=.type "list_iterator",data:=.fields #[.ref a,.int 0 0]}
 |.t a=>{cls:=.type "tuple_iterator",data:=.fields #[.ref a,.int 0 0]}
def Sr.is(h:PP)(xs:Array IR):Sr->Prop
 |.l a=>h.IsList a xs
 |.t a=>IsTup h a xs
def Sr.at_(h:PP)(i:Addr)(k:Nat):Sr->Prop
 |.l a=>h.IsListIter i a k
 |.t a=>IsTupIter h i a k
variable {xs:Array IR}{x:Sr}
def Sr.is_keep(q:x.is h xs)(k:∀u,h.get? x.ad=some u->h'.get? x.ad=some u):x.is h' xs:=by
 cases x with
 |l a=>exact DL q k
 |t a=>obtain⟨o,g,c⟩:=q;exact⟨o,k o g,c⟩
def Sr.at_keep{i:Addr}(q:x.at_ h i n)(k:∀u,h.get? i=some u->h'.get? i=some u):x.at_ h' i n:=by
 cases x with
 |l a=>exact FJ q k
 |t a=>obtain⟨o,g,c⟩:=q;exact⟨o,k o g,c⟩
def Sr.at_get{i:Addr}(q:x.at_ h i n):∃o vs,h.get? i=some o/\o.data=.fields vs:=by
 cases x with
 |l a=>obtain⟨o,g,c,d⟩:=q;exact⟨o,_,g,d⟩
 |t a=>obtain⟨o,g,c,d⟩:=q;exact⟨o,_,g,d⟩
variable {it:Addr}
def Sr.iter{R:Qqa}(h:x.is s.heap xs)(k:R (.ref s.heap.objs.size) {s with heap:=s.heap.push x.ob}):wpAny (!5) A (pyIter<|.ref x.ad) R E s:=by
 cases x with
 |l a=>exact Di h k
 |t a=>exact iter_tuple h k
def zkm{R:Qqa}(hit:IsTupIter s.heap it a i)(b:IsTup s.heap a xs)(c:xs[i]?=some v)(k:∀h',IsTupIter h' it a (i+1)->BD it s.heap h'->R v {s with heap:=h'}):wpAny (!5) A (Builtin.SmallTypes.nextOf<|.ref it) R E s:=by
 obtain⟨l,g,rc,d⟩:=id hit;obtain⟨to,h,_,m,j⟩:=b;unfold Builtin.SmallTypes.nextOf;refine Aa (A7 (name:=BF "__next__") hit.typeIs CU<|Bc CU hit.typeIs Fi ?_<|Fq _);show wpAny _ _ (field (.ref it) 0 >>= _) _ _ s;refine Aa<|A9 g d (x:=.ref a) rfl ?_;show wpAny _ _ (if(AE a==Bk)=true then _ else _) _ _ s;rw[if_neg (show ¬(AE a==Bk)=true from λz=>AY z)];show wpAny _ _ (field (.ref it) 1 >>= _) _ _ s;refine Aa<|A9 g d (x:=.int i 0) rfl ?_;show wpAny _ _ (seqItems? (.ref a) >>= _) _ _ s;refine Aa<|Bv h j ?_;simp only[Bz,c];refine Aa<|DM g d (!2)<|Ac ⟨v,rfl,Ac<|k _ ⟨_,BQ _ g<|EZ<|Da d _,(F3 ..).trans rc,?_⟩<|B4 ..⟩;rw[Da d];simp[rawInt]
def zge{R:Qqa}(b:A.handled=none)(hit:IsTupIter s.heap it a i)(c:IsTup s.heap a xs)(f:xs[i]?=none)(k:∀h' e,EN it s.heap h'->(∃o,h'.get? e=some o/\o.cls=.type "StopIteration")->E (.ref e) {s with heap:=h'}):wpAny (!5) A (Builtin.SmallTypes.nextOf<|.ref it) R E s:=by
 obtain⟨l,d,rc,g⟩:=id hit;obtain⟨to,h,_,n,j⟩:=c;unfold Builtin.SmallTypes.nextOf;refine Aa (A7 (name:=BF "__next__") hit.typeIs CU<|Bc CU hit.typeIs Fi ?_<|Fq _);show wpAny _ _ (field (.ref it) 0 >>= _) _ _ s;refine Aa<|A9 d g (x:=.ref a) rfl ?_;show wpAny _ _ (if(AE a==Bk)=true then _ else _) _ _ s;rw[if_neg (show ¬(AE a==Bk)=true from λz=>AY z)];show wpAny _ _ (field (.ref it) 1 >>= _) _ _ s;refine Aa<|A9 d g (x:=.int i 0) rfl ?_;show wpAny _ _ (seqItems? (.ref a) >>= _) _ _ s;refine Aa<|Bv h j ?_;simp only[Bz,f];refine Aa<|BY<|Aa<|DM d g (!2) ?_;show wpAny _ _ (newExc (.type "StopIteration") [] >>= _) _ _ _;simp only[newExc,newTuple];refine Aa (Aa<|AN (Aa (m:=firstArgMember _ _)<|Gb (a:=Bk) (by first|rfl|(simp only[firstArgMember];rfl))<|AN ?_<|by size_fits)<|by size_fits);simp only[raiseNew];refine Aa<|wpAny_handled ?_
 first|rw[show A.in1.handled=none from b]|rw[b]
 refine Aa<|Ac<|wpAny_throw ?_;exact k _ _ (((B4 ..).extBut.push _).push _) ⟨_,Ap _ rfl,rfl⟩
def Sr.next{R:Qqa}(hit:x.at_ s.heap it i)(h:x.is s.heap xs)(b:xs[i]?=some v)(k:∀h',x.at_ h' it (i+1)->BD it s.heap h'->R v {s with heap:=h'}):
  wpAny (!5) A (Builtin.SmallTypes.nextOf<|.ref it) R E s:=by
 cases x with
 |l a=>exact wpAny_nextOf_list_item hit h b k
 |t a=>exact zkm hit h b k
def Sr.stop{R:Qqa}(b:A.handled=none)(hit:x.at_ s.heap it i)(h:x.is s.heap xs)(c:xs[i]?=none)(k:∀h' e,EN it s.heap h'->(∃o,h'.get? e=some o/\o.cls=.type "StopIteration")->E (.ref e) {s with heap:=h'}):wpAny (!5) A (Builtin.SmallTypes.nextOf<|.ref it) R E s:=by
 cases x with
 |l a=>exact wpAny_nextOf_list_end b hit h c k
 |t a=>exact zge b hit h c k
def Sr.at_new{i:Addr}(g:h.get? i=some x.ob):x.at_ h i 0:=by
 cases x with
 |l a=>exact⟨_,g,rfl,rfl⟩
 |t a=>exact⟨_,g,rfl,rfl⟩
noncomputable abbrev P9 (h:PP) (x:Sr):PP:=h.push x.ob
noncomputable abbrev QV (h:PP) (x y:Sr):PP:=(P9 h x).push y.ob
noncomputable abbrev QU (h:PP) (x y:Sr):PP:=(QV h x y).push {cls:=.type "tuple",data:=.seq #[.ref h.objs.size,.ref (P9 h x).objs.size]}
noncomputable abbrev Td (h:PP) (x y:Sr):PP:=(QU h x y).push {cls:=.type "tuple",data:=.seq #[.none,.none]}
noncomputable abbrev OX (h:PP) (x y:Sr):PP:=(Td h x y).push {cls:=.type "zip",data:=.fields #[.none,.bool false,.bool false,.ref (QV h x y).objs.size,.ref (QU h x y).objs.size]}
def zW(x y:Sr)(xs b:Array IR):Meets (Builtin.«zip.__new__» ⟨[.type "zip",.ref x.ad,.ref y.ad],[]⟩) (λ_ R s=>x.is s.heap xs/\y.is s.heap b/\R (.ok<|.ret<|.ref (Td s.heap x y).objs.size) {s with heap:=OX s.heap x y}):=
 .of_wp λprog w A R s h=>by
  obtain⟨a,g,d,tk,os⟩:=s;obtain⟨j,l,h⟩:=h;have i:=sub_zip;have m:x.is (Shared.heap ⟨a,g,d,tk,os⟩) xs:=j;have n:y.is (Shared.heap ⟨a.push x.ob,g,d,tk,os⟩) b:=Sr.is_keep l λu q=>Ad _ q
  wp_walk using Sr.iter m,Sr.iter n
  exact⟨_,rfl,h⟩
structure Zp(z TI TO i j:Addr):Prop where
 TIz:TI≠z
 TOz:TO≠z
 iz:i≠z
 jz:j≠z
 TIO:TI≠TO
 TIi:TI≠i
 TIj:TI≠j
 TOi:TO≠i
 TOj:TO≠j
 ij:i≠j
def Nh{a b:Nat}(h:a≠b):(show Addr from a)≠(show Addr from b):=h
def Zp.new(n:Nat):Zp (n+4) (n+2) (n+3) n (n+1):=⟨Nh<|by omega,Nh<|by omega,Nh<|by omega,Nh<|by omega,Nh<|by omega,Nh<|by omega,Nh<|by omega,Nh<|by omega,Nh<|by omega,Nh<|by omega⟩
variable {b:IR}{y:Sr}{z:Addr}{ys:Array IR}
def zI{R:Qqa}(e:x.is s.heap xs)(f:y.is s.heap ys)(k:∀h',IsZip h' (s.heap.objs.size+4) (s.heap.objs.size+2) (s.heap.objs.size+3) .none->IsPair h' (s.heap.objs.size+2) (.ref s.heap.objs.size) (.ref<|s.heap.objs.size+1)->IsPair h' (s.heap.objs.size+3) .none .none ->
   x.at_ h' s.heap.objs.size 0->y.at_ h' (s.heap.objs.size+1) 0->(∀c u,s.heap.get? c=some u->h'.get? c=some u)->R (.ref<|s.heap.objs.size+4) {s with heap:=h'}):wpAny (!5) A (call (.type "zip") [.ref x.ad,.ref y.ad]) R E s:=by
 refine callType_new F.called_zip (!1) (F.typeCall_zip_2 _ _) (F.newCall_zip_2 _ _) (λobj=>F.args_object_init_3 obj _ _) F.entry_zip_new (zW x y xs ys) ⟨e,f,?_⟩;have a:(P9 s.heap x).objs.size=s.heap.objs.size+1:=Ba ..;have b:(QV s.heap x y).objs.size=s.heap.objs.size+2:=(Ba ..).trans (by rw[a]);have d:(QU s.heap x y).objs.size=s.heap.objs.size+3:=(Ba ..).trans (by rw[b]);have h:(Td s.heap x y).objs.size=s.heap.objs.size+4:=(Ba ..).trans (by rw[d]);have up:∀c u,(P9 s.heap x).get? c=some u->(OX s.heap x y).get? c=some u:=λc u q=>Ad _<|Ad _<|Ad _<|Ad _ q;have g:(OX s.heap x y).get? (Td s.heap x y).objs.size=some {cls:=.type "zip",data:=.fields #[.none,.bool false,.bool false,.ref (QV s.heap x y).objs.size,.ref (QU s.heap x y).objs.size]}:=Ap _ rfl;have f4:(OX s.heap x y).get? (QU s.heap x y).objs.size=some {cls:=.type "tuple",data:=.seq #[.none,.none]}:=Ad _<|Ap _ rfl;have i:(OX s.heap x y).get? (QV s.heap x y).objs.size=some {cls:=.type "tuple",data:=.seq #[.ref s.heap.objs.size,.ref (P9 s.heap x).objs.size]}:=Ad _<|Ad _<|Ap _ rfl;have f2:(OX s.heap x y).get? (P9 s.heap x).objs.size=some y.ob:=Ad _<|Ad _<|Ad _<|Ap _ (by cases y<;>rfl);have f1:(OX s.heap x y).get? s.heap.objs.size=some x.ob:=up _ _<|Ap _ (by cases x<;>rfl);rw[b,d,h]at g;rw[a,b]at i;rw[d]at f4;rw[a]at f2;show _/\_;rw[h];exact⟨⟨_,g,rfl⟩,k _ g i f4 (Sr.at_new f1) (Sr.at_new f2) λc u q=>up c u (Ad _ q)⟩
def xR{TI TO i j:Addr}{m:Nat}{u a:IR}{R:Option IR->Shared->Prop}(D:Zp z TI TO i j)(xz:x.ad≠z/\x.ad≠TO/\x.ad≠i/\x.ad≠j)(f:y.ad≠z/\y.ad≠TO/\y.ad≠i/\y.ad≠j)(hz:IsZip s.heap z TI TO .none) (e:IsPair s.heap TI (.ref i) (.ref j)) (r:IsPair s.heap TO a b) (hi:x.at_ s.heap i n) (T:y.at_ s.heap j m) (U:x.is s.heap xs) (W:y.is s.heap ys) (Y:xs[n]?=some u) (Z:ys[m]?=some v)(k:∀h',IsZip h' z TI TO (rawInt s.heap.objs.size)->IsPair h' TI (.ref i) (.ref j)->IsPair h' TO u v->x.at_ h' i (n+1)->y.at_ h' j (m+1)->IsPair h' s.heap.objs.size u v ->
   (∀c o,c≠z->c≠TO->c≠i->c≠j->s.heap.get? c=some o->h'.get? c=some o)->R (some<|.ref s.heap.objs.size) {s with heap:=h'}):wpAny (!5) A (pyNext<|.ref z) R E s:=by
 have ty:s.TypeIs (.ref z) "zip":=⟨_,hz,rfl⟩;unfold pyNext;refine Aa (DY<|A7 (name:=BF "__next__") ty F.slot_zip_next<|Bc F.slot_zip_next ty F.entry_zip_next ?_<|F.args_zip_next_1 _);show wpAny _ _ (field (.ref z) 2 >>= _) _ _ _;refine Aa<|A9 hz rfl (x:=.bool false) rfl ?_;show wpAny _ _ (field (.ref z) 3 >>= _) _ _ _;refine Aa<|A9 hz rfl (x:=.ref TI) rfl<|Aa<|Bv e rfl ?_;show wpAny _ _ (Builtin.SmallTypes.ownedTupleIsFree (.ref z) >>= _) _ _ _;unfold Builtin.SmallTypes.ownedTupleIsFree;refine Aa<|Aa<|A9 hz rfl (x:=.none) rfl<|Ac ?_;simp only[if_true];refine Aa<|BY<|Aa<|A9 hz rfl (x:=.ref TO) rfl<|Aa<|Ca hz (!2) λg1 P s1=>?_
 replace P:IsZip g1 z TI TO .ellipsis:=P
 have k1:∀c o,c≠z->s.heap.get? c=some o->g1.get? c=some o:=λc o g q=>s1.extBut c o g q;simp only[Gk,Gz,Ep,De];refine Aa<|Aa<|Aa<|DZ ?_;show wpAny _ _ (Builtin.SmallTypes.nextOf (.ref i) >>= _) _ _ _;refine Aa<|Sr.next (Sr.at_keep hi λo q=>k1 _ o D.iz q) (Sr.is_keep U λo q=>k1 _ o xz.1 q) Y λg2 i2 s2=>Ac ?_;have k2:∀c o,c≠z->c≠i->s.heap.get? c=some o->g2.get? c=some o:=λc o g X q=>s2.extBut c o X<|k1 c o g q;have J:IsPair g2 TO a b:=k2 _ _ D.TOz D.TOi r;refine Aa<|Bv J rfl<|Aa<|DC J λg3 B s3=>(Aa<|BV<|Ac ?_)
 replace B:IsPair g3 TO u b:=B
 have k3:∀c o,c≠z->c≠i->c≠TO->s.heap.get? c=some o->g3.get? c=some o:=λc o g X nt q=>s3.extBut c o nt<|k2 c o g X q;refine Aa<|Aa<|DZ ?_;show wpAny _ _ (Builtin.SmallTypes.nextOf (.ref j) >>= _) _ _ _;refine Aa<|Sr.next (Sr.at_keep T λo q=>k3 _ o D.jz D.ij.symm D.TOj.symm q) (Sr.is_keep W λo q=>k3 _ o f.1 f.2.2.1 f.2.1 q) Z λg4 j4 s4=>Ac ?_;have L:IsPair g4 TO u b:=s4.extBut _ _ D.TOj B;refine Aa<|Bv L rfl<|Aa<|DC L λd h s5=>(Aa<|BV<|Ac<|Ac ?_)
 replace h:IsPair d TO u v:=h
 refine Aa<|Bv h rfl<|Aa<|EW ?_;have sz:d.objs.size=s.heap.objs.size:=by rw[s5.1,s4.1,s3.1,s2.1,s1.1]
 have M:IsZip d z TI TO .ellipsis:=s5.extBut _ _ D.TOz.symm<|s4.extBut _ _ D.jz.symm<|s3.extBut _ _ D.TOz.symm<|s2.extBut _ _ D.iz.symm P;have k5:∀c o,c≠z->c≠TO->c≠i->c≠j->s.heap.get? c=some o->d.get? c=some o:=λc o l p C G q=>s5.extBut c o p<|s4.extBut c o G<|k3 c o l C p q;have i5:x.at_ d i (n+1):=Sr.at_keep i2 λo q=>s5.extBut _ _ D.TOi.symm<|s4.extBut _ _ D.ij<|s3.extBut _ _ D.TOi.symm q;have j5:y.at_ d j (m+1):=Sr.at_keep j4 λo q=>s5.extBut _ _ D.TOj.symm q;have N:z<d.objs.size:=Aj M;show wpAny _ _ (Builtin.SmallTypes.ownedTupleHandOut (.ref z) (.ref d.objs.size) >>= _) _ _ _;unfold Builtin.SmallTypes.ownedTupleHandOut;have z6:IsZip (d.push {cls:=.type "tuple",data:=.seq #[u,v]}) z TI TO .ellipsis:=Ad _ M;refine Aa<|Aa<|Ca z6 (!2) λg7 I s7=>?_
 replace I:IsZip g7 z TI TO (rawInt d.objs.size):=I
 refine Ca I (!2) λH K Q=>?_
 replace K:IsZip H z TI TO (rawInt d.objs.size):=K
 have up:∀c o,c≠z->d.get? c=some o->H.get? c=some o:=λc o g q=>Q.extBut c o g<|s7.extBut c o g<|Ad _ q;have S:IsPair H d.objs.size u v:=Q.extBut _ _ (C5 N)<|s7.extBut _ _ (C5 N)<|Ap _ rfl;rw[sz]at K S;refine Ac ⟨_,rfl,Ac ?_⟩;show R (some<|.ref d.objs.size) _;rw[sz];exact k H K (up _ _ D.TIz<|k5 _ _ D.TIz D.TIO D.TIi D.TIj e) (up _ _ D.TOz h) (Sr.at_keep i5 λo q=>up _ o D.iz q) (Sr.at_keep j5 λo q=>up _ o D.jz q) S λc o l p C G q=>up c o l (k5 c o l p C G q)
def vJ{TI TO i j:Addr}{m:Nat}{a:IR}{R:Option IR->Shared->Prop}(G:A.handled=none)(D:Zp z TI TO i j)(xz:x.ad≠z/\x.ad≠TO/\x.ad≠i/\x.ad≠j)(f:y.ad≠z/\y.ad≠TO/\y.ad≠i/\y.ad≠j)(hz:IsZip s.heap z TI TO .none) (B:IsPair s.heap TI (.ref i) (.ref j)) (C:IsPair s.heap TO a b) (hi:x.at_ s.heap i n) (M:y.at_ s.heap j m) (I:x.is s.heap xs) (N:y.is s.heap ys) (he:xs[n]?=none\/ys[m]?=none)(k:∀h',(∀c o,c≠z->c≠TO->c≠i->c≠j->s.heap.get? c=some o->h'.get? c=some o)->R none {s with heap:=h'}):wpAny (!5) A (pyNext<|.ref z) R E s:=by
 have ty:s.TypeIs (.ref z) "zip":=⟨_,hz,rfl⟩;have halt:∀h' e,(∀c o,c≠z->c≠TO->c≠i->c≠j->s.heap.get? c=some o->h'.get? c=some o)->(∃o,h'.get? e=some o/\o.cls=.type "StopIteration") ->
   wpAny (!5) A (do if <-isInstance (.ref e) (.type "StopIteration")then pure none else throw (AE e)) R E {s with heap:=h'}:=λh' e q ⟨o,g,c⟩=>
  Aa (wpAny_isInstance (T:="StopIteration") (b:=true) ⟨o,g,c⟩ isSubtype_stop<|Ac<|k h' q)
 unfold pyNext;refine Aa (DY<|A7 (name:=BF "__next__") ty F.slot_zip_next<|Bc F.slot_zip_next ty F.entry_zip_next ?_<|F.args_zip_next_1 _);show wpAny _ _ (field (.ref z) 2 >>= _) _ _ _;refine Aa<|A9 hz rfl (x:=.bool false) rfl ?_;show wpAny _ _ (field (.ref z) 3 >>= _) _ _ _;refine Aa<|A9 hz rfl (x:=.ref TI) rfl<|Aa<|Bv B rfl ?_;show wpAny _ _ (Builtin.SmallTypes.ownedTupleIsFree (.ref z) >>= _) _ _ _;unfold Builtin.SmallTypes.ownedTupleIsFree;refine Aa<|Aa<|A9 hz rfl (x:=.none) rfl<|Ac ?_;simp only[if_true];refine Aa<|BY<|Aa<|A9 hz rfl (x:=.ref TO) rfl<|Aa<|Ca hz (!2) λg1 p s1=>?_
 replace p:IsZip g1 z TI TO .ellipsis:=p
 have k1:∀c o,c≠z->s.heap.get? c=some o->g1.get? c=some o:=λc o d q=>s1.extBut c o d q;have sep:∀{g:PP}{e:Addr}{o:Obj},IsZip g z TI TO .ellipsis->g.get? e=some o->o.cls=.type "StopIteration"->e≠z:=λ{g e o} q h c r=>by subst r;rw[q]at h;cases h;simp at c
 simp only[Gk,Gz,Ep,De];refine Aa<|Aa<|Aa<|DZ ?_;show wpAny _ _ (Builtin.SmallTypes.nextOf (.ref i) >>= _) _ _ _
 cases v:xs[n]? with
 |none=>
  refine Aa<|Sr.stop G (Sr.at_keep hi λo q=>k1 _ o D.iz q) (Sr.is_keep I λo q=>k1 _ o xz.1 q) v ?_;rintro g2 e s2 ⟨H,he,ce⟩;have X:IsZip g2 z TI TO .ellipsis:=s2 _ _ D.iz.symm p;exact Ca X (!2) λg3 _ s3=>halt g3 e (λc o l _ K _ q=>s3.extBut c o l (s2 c o K<|k1 c o l q)) ⟨H,s3.extBut _ _ (sep X he ce) he,ce⟩
 |some u=>
  have Q:ys[m]?=none:=he.resolve_left (by rw[v];simp);refine Aa<|Sr.next (Sr.at_keep hi λo q=>k1 _ o D.iz q) (Sr.is_keep I λo q=>k1 _ o xz.1 q) v λg2 i2 s2=>Ac ?_;have k2:∀c o,c≠z->c≠i->s.heap.get? c=some o->g2.get? c=some o:=λc o d P q=>s2.extBut c o P<|k1 c o d q;have J:IsPair g2 TO a b:=k2 _ _ D.TOz D.TOi C;refine Aa<|Bv J rfl<|Aa<|DC J λg3 o3 s3=>(Aa<|BV<|Ac ?_);have k3:∀c o,c≠z->c≠i->c≠TO->s.heap.get? c=some o->g3.get? c=some o:=λc o d P S q=>s3.extBut c o S<|k2 c o d P q;refine Aa<|Aa<|DZ ?_;show wpAny _ _ (Builtin.SmallTypes.nextOf (.ref j) >>= _) _ _ _;refine Aa<|Sr.stop G (Sr.at_keep M λo q=>k3 _ o D.jz D.ij.symm D.TOj.symm q) (Sr.is_keep N λo q=>k3 _ o f.1 f.2.2.1 f.2.1 q) Q ?_;rintro U e s4 ⟨H,he,ce⟩;have L:IsZip U z TI TO .ellipsis:=s4 _ _ D.jz.symm<|s3.extBut _ _ D.TOz.symm<|s2.extBut _ _ D.iz.symm p;exact Ca L (!2) λW _ s5=>halt W e (λc o l Y K Z q=>s5.extBut c o l (s4 c o Z<|k3 c o l K Y q)) ⟨H,s5.extBut _ _ (sep L he ce) he,ce⟩
def Sr.sq(H:Hp)(xs:List V):Sr->Prop
 |.l a=>H a=some (.lst xs)\/∃o,H a=some (.frz o<|.lst xs)
 |.t a=>H a=some (.tup xs)
def Sr.sq_ne{xs:List V}{b:Addr}(h:x.sq H xs)(c:H b=none):x.ad≠b:=by
 cases x with
 |l a=>rcases h with h|⟨o,h⟩<;>exact J9 h c
 |t a=>exact J9 (show H a=some (.tup xs) from h) c
def Sr.sq_inj{xs ys:List V}(h:x.sq H xs)(h':x.sq H ys):xs=ys:=by
 cases x with
 |l a=>rcases h with h|⟨o,h⟩<;>rcases h' with h'|⟨b,h'⟩<;>rw[h]at h'<;>cases h'<;>rfl
 |t a=>
  have h:H a=some (.tup xs):=h;have h':H a=some (.tup ys):=h';rw[h]at h';cases h';rfl
def Sr.sq_is{xs:List V}(I:Inv X qp σ H s)(h:x.sq H xs):∃its:List IR,Vals xs its/\x.is s.heap its.toArray:=by
 cases x with
 |l a=>
  obtain⟨its,b,p,_⟩:=I.list (show JD X.K H a xs from .inl h);exact⟨its,b,p.isList⟩
 |t a=>
  obtain⟨its,b,p,_⟩:=I.tuple<|IM.of (K:=X.K) h;exact⟨its,b,p⟩
def Itz(x y:Sr):It:=
 ⟨λi H=>∃xs ys u v,x.sq H xs/\y.sq H ys/\xs[i]?=some u/\ys[i]?=some v,λi H r a=>∃p u v,H p=none/\a=upd H p (.tup [u,v])/\r=.ref p/\(∀xs,x.sq H xs->xs[i]?=some u)/\∀ys,y.sq H ys->ys[i]?=some v,
  λi H=>∃xs ys,x.sq H xs/\y.sq H ys/\(xs.length<=i\/ys.length<=i)⟩
variable {elts:List Pv}
def xQ{x1}(x y:Sr){TI TO i j:Addr}(D:Zp z TI TO i j):
  Turn P w K (.Tuple elts x1 pos) (Itz x y) [z,TI,TO,i,j] z (λn h=>IsZip h z TI TO .none/\IsPair h TI (.ref i) (.ref j)/\(∃a b,IsPair h TO a b)/\x.at_ h i n/\y.at_ h j n) where
 mem:=by simp
 obj:=λn h st b l=>by
  obtain⟨C,m,⟨a,c,p⟩,F,G⟩:=st;simp only[Bb,Bt,or_false]at l;rcases l with rfl|rfl|rfl|rfl|rfl
  ·exact⟨_,C,λv q=>by cases q⟩
  ·exact⟨_,m,λv q=>by cases q⟩
  ·exact⟨_,p,λv q=>by cases q⟩
  ·obtain⟨o,J,g,d⟩:=Sr.at_get F;exact⟨o,g,λv q=>by rw[d]at q;cases q⟩
  obtain⟨o,J,g,d⟩:=Sr.at_get G;exact⟨o,g,λv q=>by rw[d]at q;cases q⟩
 keep:=λn h h' st k=>by obtain⟨C,m,⟨a,c,p⟩,F,G⟩:=st;exact⟨k z (!2) _ C,k TI (!2) _ m,⟨a,c,k TO (!2) _ p⟩,Sr.at_keep F λo q=>k i (!2) o q,Sr.at_keep G λo q=>k j (!2) o q⟩
 item:=by
  intro X Q hw S hc n qp s σ H E I hf st T;subst Q hw S;obtain⟨xs,ys,u,v,A,e,gu,gv⟩:=T;obtain⟨C,m,⟨a,c,p⟩,F,G⟩:=st;obtain⟨U,W,Y⟩:=Sr.sq_is I A;obtain⟨Z,ry,iy⟩:=Sr.sq_is I e;obtain⟨u',gu',ru⟩:=W.get gu;obtain⟨v',gv',rv⟩:=ry.get gv;have L:=(hf z<|by simp).1;have f:=(hf TO<|by simp).1;have M:=(hf i<|by simp).1;have N:=(hf j<|by simp).1;refine xR D ⟨Sr.sq_ne A L,Sr.sq_ne A f,Sr.sq_ne A M,Sr.sq_ne A N⟩ ⟨Sr.sq_ne e L,Sr.sq_ne e f,Sr.sq_ne e M,Sr.sq_ne e N⟩ C m p F G Y iy (u:=u') (v:=v') (by simpa using gu') (by simpa using gv') λh1 z1 ti1 to1 i1 j1 t1 k1=>?_;refine⟨_,rfl,wpAny_letOwnedTupleGo_zip (s:={s with heap:=h1}) z1 λB z2 b2=>?_⟩;have up:∀b o,b≠z->h1.get? b=some o->B.get? b=some o:=λb o nb q=>(b2.2 b nb).trans q;have k2:∀b o,b ∉ [z,TI,TO,i,j]->s.heap.get? b=some o->B.get? b=some o:=λb o l q=>by simp only[Bb,Bt,or_false,not_or]at l;exact up b o l.1<|k1 b o l.1 l.2.2.1 l.2.2.2.1 l.2.2.2.2 q
  have lt:∀b∈[z,TI,TO,i,j],b<s.heap.objs.size:=λb l=>by
   simp only[Bb,Bt,or_false]at l;rcases l with rfl|rfl|rfl|rfl|rfl
   ·exact Aj C
   ·exact Aj m
   ·exact Aj p
   ·obtain⟨o,J,g,d⟩:=Sr.at_get F;exact Aj g
   obtain⟨o,J,g,d⟩:=Sr.at_get G;exact Aj g
  have t2:B.get? s.heap.objs.size=some {cls:=.type "tuple",data:=.seq #[u',v']}:=up _ _ (C5<|lt z<|by simp) t1;have r:IsZip B z TI TO .none/\IsPair B TI (.ref i) (.ref j)/\(∃a b,IsPair B TO a b)/\x.at_ B i (n+1)/\y.at_ B j (n+1):=
   ⟨z2,up _ _ D.TIz ti1,⟨_,_,up _ _ D.TOz to1⟩,Sr.at_keep i1 λo q=>up _ o D.iz q,Sr.at_keep j1 λo q=>up _ o D.jz q⟩
  refine⟨.ref s.heap.objs.size,upd H s.heap.objs.size<|.tup [u,v],?_,rfl,⟨_,u,v,I.hok.fresh<|Ag _,rfl,rfl,λzs h=>by rw[Sr.sq_inj h A];exact gu,λzs h=>by rw[Sr.sq_inj h e];exact gv⟩,r,λb l=>?_⟩
  ·refine Inv.turnNew (s:=s) (h':=B) (t':=s.toks) I hf k2 (Ag _) (λb l ob q=>?_) ⟨by show 2<=sizeLine;decide,[u',v'],.cons ru<|.cons rv .nil,⟨_,t2,rfl,rfl,_,rfl⟩⟩;simp only[Bb,Bt,or_false]at l
   rcases l with rfl|rfl|rfl|rfl|rfl
   ·exact⟨_,z2⟩
   ·exact⟨_,r.2.1⟩
   ·obtain⟨_,_,q⟩:=r.2.2.1;exact⟨_,q⟩
   ·obtain⟨o,J,g,d⟩:=Sr.at_get r.2.2.2.1;exact⟨o,g⟩
   obtain⟨o,J,g,d⟩:=Sr.at_get r.2.2.2.2;exact⟨o,g⟩
  rw[HV (Au<|lt b l)];exact(hf b l).1
 done:=by
  intro X Q hw S hc n qp s σ H E I hf st T;subst Q hw S;obtain⟨xs,ys,A,e,he⟩:=T;obtain⟨C,m,⟨a,c,p⟩,F,G⟩:=st;obtain⟨U,W,Y⟩:=Sr.sq_is I A;obtain⟨Z,ry,iy⟩:=Sr.sq_is I e;have L:=(hf z<|by simp).1;have f:=(hf TO<|by simp).1;have M:=(hf i<|by simp).1;have N:=(hf j<|by simp).1;have l1:=W.length;have l2:=ry.length;exact vJ (I.ok.hd hc) D ⟨Sr.sq_ne A L,Sr.sq_ne A f,Sr.sq_ne A M,Sr.sq_ne A N⟩ ⟨Sr.sq_ne e L,Sr.sq_ne e f,Sr.sq_ne e M,Sr.sq_ne e N⟩ C m p F G Y iy (by
   rcases he with h|h
   ·exact .inl (by simp;omega)
   ·exact .inr (by simp;omega)) λh' k=>⟨rfl,Inv.turnAll (t':=s.toks) I hf λb o l q=>by simp only[Bb,Bt,or_false,not_or]at l;exact k b o l.1 l.2.2.1 l.2.2.2.1 l.2.2.2.2 q⟩
 self:=λ_ _ _ _ _ st h=>wpAny_pyIter_zip st.1 h
def MN(s:Hh):D->Option (List D×List (Nat×List D))
 |.ref n=>(Ig s n).map λds=>(ds,[(n,ds)])
 |.tup ds=>some (ds,[])
 |_=>none
def pairD(a b:List D):List D:=(a.zip b).map λp=>.tup [p.1,p.2]
def O7(x y:D)(s:Hh):Option (Wk×Hh):=(MN s x).bind λ(a,f)=>(MN s y).map λ(b,g)=>(⟨pairD a b,f++g⟩,s)
def MQ(ma mb:ME):MI:=λU st=>(ma U st).bind λ(x,s1)=>(mb U s1).bind λ(y,s2)=>O7 x y s2
def Wf{v:V}{ds:List D}{g:List (Nat×List D)}(S:HA K H io st)(R:Rep K H io v d)(h:MN st d=some (ds,g)):∃x:Sr,v=.ref x.ad/\(∃xs,x.sq H xs) /\
  ∀H1 ka s1,Ext io ka H H1->HA K H1 (io++ka) s1->(∀p,p∈g->s1[p.1]?=some (.lst p.2)\/s1[p.1]?=some (.fz p.2))->∃xs,x.sq H1 xs/\Hi K H1 (io++ka) xs ds:=by
 cases d with
 |ref n=>
  obtain⟨l,e,q⟩:=Ia h;cases q;obtain⟨p,rfl,a⟩:=R;refine⟨.l p,rfl,?_,λH1 ka s1 X1 S1 i=>?_⟩
  ·unfold Ig at e
   split at e
   ·rename_i o he;cases e;obtain⟨xs,q,_⟩:=S.ob n p _ a he;exact⟨xs,.inl q⟩
   ·rename_i o he;cases e;obtain⟨ob,xs,q,_⟩:=S.ob n p _ a he;exact⟨xs,.inr ⟨ob,q⟩⟩
   ·cases e
  ·rcases i (n,ds) Al with q|q
   ·obtain⟨xs,b,r⟩:=S1.ob n p _ (Ln a) q;exact⟨xs,.inl b,r⟩
   obtain⟨ob,xs,b,r⟩:=S1.ob n p _ (Ln a) q;exact⟨xs,.inr ⟨ob,b⟩,r⟩
 |tup ts=>
  cases h;obtain⟨p,xs,rfl,a,r⟩:=R;exact⟨.t p,rfl,⟨xs,a⟩,λH1 ka s1 X1 S1 _=>⟨xs,X1.sqT S p xs a,r.ext S X1⟩⟩
 |_=>cases h
def zl6{a b:List D}(h:(pairD a b)[i]?=some d):∃x y,a[i]?=some x/\b[i]?=some y/\d=.tup [x,y]:=by unfold pairD at h;rw[Az]at h;obtain⟨⟨x,y⟩,e,q⟩:=Ia h;rw[List.getElem?_zip_eq_some]at e;exact⟨x,y,e.1,e.2,q.symm⟩
def boot_zip:W1 "zip"=some (.type "zip"):=by decide +kernel
def pE{x1}{tp:Pos}{a b:Pv}(hg:Gl X "zip")(hm:X.mg "zip"=none)(ha:SE X a ma)(N:SE X b mb)(c:UF [a,b] X.env=[(false,UV a X.env),(false,UV b X.env)]:=by rfl)(C:UF [b] X.env=[(false,UV b X.env)]:=by rfl) (T:(backTo pos<|UF [b] X.env).any (·.1)=false:=by rfl):SI X (.Tuple elts x1 tp) (.Call (.Name "zip" p) [a,b] [] pos) (MQ ma mb):=by
 rintro qp s σ H R I ⟨U,st,io,W,st',E,S,e,k⟩;obtain⟨⟨x,s1⟩,e1,e⟩:=Hs e;obtain⟨⟨y,s2⟩,e2,e⟩:=Hs e;obtain⟨⟨as,f⟩,e3,e⟩:=Hs e;obtain⟨⟨bs,g⟩,e4,e⟩:=Ia e;cases e;have F:UF [a,b] X.env=(false,UV a X.env)::UF [b] X.env:=by rw[c,C]
 refine Call_<|Qh I hg hm boot_zip<|B6 (HB (Hk ha (Hk N Hq C) F pos qp s σ H (λY Q=>∃Z,Ext io Z H Q/\HA X.K Q (io++Z) st'/\Hi X.K Q (io++Z) Y [x,y]) I ⟨U,st,io,[x,y],st',E,S,Ua e1<|Ua e2 rfl,λY H1 k1 X1 G R1=>⟨k1,X1,G,R1⟩⟩) ?_) F T;rintro us t1 ⟨Y,H1,I1,r1,k1,X1,G,R1⟩;obtain⟨v,u,rfl,Rx,Ry⟩:=R1.two;obtain⟨v',u',rfl,rv,ru⟩:=r1.two;obtain⟨xx,rfl,⟨xs,hx⟩,kx⟩:=Wf G Rx e3;obtain⟨yy,rfl,⟨ys,hy⟩,ky⟩:=Wf G Ry e4;cases rv;cases ru;obtain⟨its,vx,ix⟩:=Sr.sq_is I1 hx;obtain⟨jts,vy,iy⟩:=Sr.sq_is I1 hy;refine zI ix iy λh' hz hTI hTO J hj kk=>wpAny_pyIter_zip hz ?_;refine⟨_,_,_,_,H1,rfl,I1.kept (t':=t1.toks) kk,xQ xx yy<|Zp.new t1.heap.objs.size,⟨hz,hTI,⟨_,_,hTO⟩,J,hj⟩,λb N=>?_,?_⟩
 ·have hle:t1.heap.objs.size<=b:=by
   simp only[Bb,Bt,or_false]at N;rcases N with rfl|rfl|rfl|rfl|rfl
   ·exact Cp _ 4
   ·exact Cp _ 2
   ·exact Cp _ 3
   ·exact Ag _
   exact Cp _ 1
  exact I1.fpOk hle<|I1.hok.fresh hle
 ·refine k _ H1 k1 X1 G ?_;have m:∀{s3:Hh},stays ⟨pairD as bs,f++g⟩ s3->(∀p,p∈f->s3[p.1]?=some (.lst p.2)\/s3[p.1]?=some (.fz p.2))/\∀p,p∈g->s3[p.1]?=some (.lst p.2)\/s3[p.1]?=some (.fz p.2):=λ{s3} h=>⟨λp hp=>h p (A4 _ hp),λp hp=>h p (AI _ hp)⟩
  have len:∀{a b:List D},(pairD a b).length=min a.length b.length:=λ{a b}=>by unfold pairD;rw[Af,GA]
  refine⟨λi d w z s3 hd A n c=>?_,λw z s3 A n c=>?_,λw z s3 i J A n c=>?_⟩
  ·obtain⟨j,P,L⟩:=kx w z s3 A n (m c).1;obtain⟨l,B,M⟩:=ky w z s3 A n (m c).2;obtain⟨dx,dy,g1,g2,rfl⟩:=zl6 hd;obtain⟨u1,gu,ru⟩:=L.get g1;obtain⟨v1,gv,rv⟩:=M.get g2;refine⟨⟨j,l,u1,v1,P,B,gu,gv⟩,λr Q yl=>?_⟩;obtain⟨q,u2,v2,hq,rfl,rfl,yu,yv⟩:=yl;have e5:=yu j P;have e6:=yv l B;rw[gu]at e5;rw[gv]at e6;cases e5;cases e6;obtain⟨E',S'⟩:=Rf (o:=.tup [u1,v1]) n hq;rw[An]at S';refine⟨E',S',⟨q,_,rfl,Le,?_⟩⟩;have r2:=ru.ext n E';have r3:=rv.ext n E';rw[An]at r2 r3;exact Hi.cons r2<|Hi.cons r3 Hi.nil
  ·obtain⟨j,P,L⟩:=kx w z s3 A n (m c).1;obtain⟨l,B,M⟩:=ky w z s3 A n (m c).2;refine⟨j,l,P,B,?_⟩;show j.length<=(pairD as bs).length\/l.length<=(pairD as bs).length;rw[len,L.length,M.length];omega
  obtain⟨j,P,L⟩:=kx w z s3 A n (m c).1;obtain⟨l,B,M⟩:=ky w z s3 A n (m c).2;refine⟨j,l,P,B,?_⟩;have J:(pairD as bs).length<=i:=J;rw[len]at J;rw[L.length,M.length];omega
def Mc(X:Cx)(fs:List Str):List Nat->List Str->Prop
 |[],[]=>True
 |j::c,x::xs=>(X.N[j]?=some x/\x∈fs)/\Mc X fs c xs
 |_,_=>False
def Ma(X:Cx):List Str->Prop
 |[]=>True
 |x::xs=>(X.env.kindOf x=some .cell\/X.env.kindOf x=some .free)/\Ma X xs
theorem Ma.get{X:Cx}:∀{fs:List Str}{x:Str},Ma X fs->x∈fs->X.env.kindOf x=some .cell\/X.env.kindOf x=some .free
 |[],_,_,m=>nomatch m
 |y::ys,x,h,m=>by
  rcases KM.mp m with rfl|m
  ·exact h.1
  exact Ma.get h.2 m
theorem Mc.get{X:Cx}{fs:List Str}:∀{fr:List Nat}{xs:List Str}{i j:Nat}{x:Str},Mc X fs fr xs->fr[i]?=some j->xs[i]?=some x->X.N[j]?=some x/\x∈fs
 |[],[],i,j,x,_,h,_=>by simp at h
 |[],_::_,i,j,x,h,_,_=>h.elim
 |_::_,[],i,j,x,h,_,_=>h.elim
 |k::ks,y::ys,0,j,x,h,c,e=>by simp at c e;subst c e;exact h.1
 |k::ks,y::ys,i+1,j,x,h,c,e=>Mc.get (i:=i) h.2 (by simpa using c)<|by simpa using e
def Mm{scope:Scope}{N':List Str}{nt:Nat}{fr:List Nat}(fs:List Str)(kind:scope.kind=.function)(e:(scope.names.map (·.1)).Nodup)(hf:scope.names.all (λp=>!(p.2==AH) || fs.contains p.1)=true)(f:fs.all (λx=>scope.names.contains (x,AH))=true) (len:N'.length=nt+fr.length) (c:Mc X fs fr (N'.drop nt)) (out:Ma X fs):JK X scope N' nt fr:=by
 refine⟨kind,e,len,λi j x g h=>?_,λx l=>?_⟩
 ·have d:(N'.drop nt)[i]?=some x:=by rw[List.getElem?_drop];exact h
  obtain⟨a,b⟩:=c.get g d;refine⟨a,?_⟩;have:=List.all_eq_true.mp f x b;simpa using this
 ·have:=List.all_eq_true.mp hf _ l;have hm:x∈fs:=by simpa using this
  exact out.get hm
def LR:W1 "len"=some (.builtin "len"):=by decide +kernel
def ZE:W1 "min"=some (.builtin "min"):=by decide +kernel
def RA:W1 "sorted"=some (.builtin "sorted"):=by decide +kernel
def ZD:W1 "int"=some (.type "int"):=by decide +kernel
def rM:W1 "bool"=some (.type "bool"):=by decide +kernel
def rN:W1 "list"=some (.type "list"):=by decide +kernel
def OI:W1 "tuple"=some (.type "tuple"):=by decide +kernel
def V1:W1 "dict"=some (.type "dict"):=by decide +kernel
def HS:G2:=JL L3 S0
def LV:Ji X (binaryOp .Mult) HS:=Q0 uG wX
theorem V8{K:Ab}{H:Hp}{io:List Addr}:∀(ns:List Int),Hi K H io (ns.map V.int) (!7)
 |[]=>rfl
 |n::ns=>⟨_,_,rfl,rfl,V8 ns⟩
def xI{ns:List Int}{g:GN}{E:XK}(c:MW H)(f:JD K H a (ns.map V.int))(e:g [.kl (!7)] []=some (.bl true,st)):MK K 1 g [.ref a] H (λv _=>v=.bl true) E:=by
 have d:Nk K H a (ns.map V.int):=by
  rcases f with(h|h)|h
  ·rcases c a with z|⟨o,xs,z⟩
   ·rw[z]at h;cases h
   rw[z]at h;cases h
  ·exact .inl h
  exact .inr h
 refine⟨_,[],[],_,_,rfl,Hi.cons (show Rep K H [] (.ref a) (.kl<|ns.map D.int) from⟨a,_,rfl,d,V8 ns⟩) Hi.nil,⟨rfl,GI,λn b o h=>by simp at h⟩,e,λv j l m p i=>i⟩
end L2.MP
namespace L2.MP
structure Y3(a b c:Prop):Prop where
 h1:a
 h2:b
 h3:c
structure Y4(a b c d:Prop):Prop where
 h1:a
 h2:b
 h3:c
 h4:d
structure Y5(a b c d e:Prop):Prop where
 h1:a
 h2:b
 h3:c
 h4:d
 h5:e
structure Y6(a b c d e f:Prop):Prop where
 h1:a
 h2:b
 h3:c
 h4:d
 h5:e
 h6:f
structure Y7(a b c d e f g:Prop):Prop where
 h1:a
 h2:b
 h3:c
 h4:d
 h5:e
 h6:f
 h7:g
structure Y8(a b c d e f g h:Prop):Prop where
 h1:a
 h2:b
 h3:c
 h4:d
 h5:e
 h6:f
 h7:g
 h8:h
open PySem
structure Gr(st st':Hh):Prop where
 len:st.length<=st'.length
 old:∀k,k<st.length->st'[k]?=st[k]?
structure Fr(n:Nat)(st st':Hh):Prop where
 len:st.length<=st'.length
 old:∀k,k<st.length->k≠n->st'[k]?=st[k]?
def Gr.refl(st:Hh):Gr st st:=⟨Ag _,λ_ _=>rfl⟩
def Fr.refl(n:Nat)(st:Hh):Fr n st st:=⟨Ag _,λ_ _ _=>rfl⟩
def Gr.fr{st a:Hh}(h:Gr st a)(n:Nat):Fr n st a:=⟨h.len,λk hk _=>h.old k hk⟩
variable {a b c:Hh}
def Gr.trans{a b c:Hh}(h:Gr a b)(h':Gr b c):Gr a c:=⟨AA h.len h'.len,λk hk=>(h'.old k<|AD hk h.len).trans (h.old k hk)⟩
variable {n:Nat}
def Fr.trans{n:Nat}{a b c:Hh}(h:Fr n a b)(h':Fr n b c):Fr n a c:=⟨AA h.len h'.len,λk hk d=>(h'.old k (AD hk h.len) d).trans (h.old k hk d)⟩
def Gr.app(st:Hh)(l:List O):Gr st (st++l):=⟨by simp,λk hk=>Ar hk⟩
def Fr.app(n:Nat)(st:Hh)(l:List O):Fr n st (st++l):=(Gr.app st l).fr n
def GB(n:Nat)(st:Hh)(o:O):Fr n st (st.set n o):=⟨by simp,λk _ hk=>by rw[Ak (λh=>hk h.symm)]⟩
variable {α:Type}
def qax{l:List α}{x:α}(h:l[n]?=some x):n<l.length:=(KB.mp h).1
def IJ(st:Hh)(o:O):(st++[o])[st.length]?=some o:=getElem?_len st o
variable {W:Wk}{g:MG}
theorem Kw{W:Wk}{g:MG}{m:MS}:∀{ds:List D}{Inv:Nat->HX->Hh->Prop}{U:HX}{st:Hh},Inv 0 U st->(∀k U s,k<=ds.length->Inv k U s->walked W s=true) ->
  (∀k d U s,ds[k]?=some d->Inv k U s->∃U1 s1 j s2,g d U s=some (U1,s1)/\m U1 s1=some (.nx j,s2)/\Inv (k+1) j s2)->∃f s',JZ W g m ds U st=some (.nx f,s')/\Inv ds.length f s'
 |[],Inv,U,st,h0,i,step=>⟨U,st,by unfold JZ;rw[if_pos (i 0 U st (Ag _) h0)],h0⟩
 |d::ds,Inv,U,st,h0,i,step=>by obtain⟨U1,s1,j,s2,l,o,p⟩:=step 0 d U st rfl h0;obtain⟨f,s',e,h⟩:=Kw (W:=W) (g:=g) (m:=m) (ds:=ds) (Inv:=λk=>Inv (k+1)) p (λk U s hk h=>i (k+1) U s (CS hk) h) λk d U s hd h=>step (k+1) d U s (by simpa using hd) h;refine⟨f,s',?_,h⟩;unfold JZ;rw[if_pos (i 0 U st (A5 _) h0),l];simp only[Ae,o];exact e
variable {m:ME}
theorem OW{W:Wk}{g:MG}{c:MT}{m:ME}:∀{ds:List D}{Inv:Nat->List D->HX->Hh->Prop}{acc:List D}{U:HX}{st:Hh},Inv 0 acc U st->(∀k a U s,k<=ds.length->Inv k a U s->walked W s=true) ->
  (∀k d a U s,ds[k]?=some d->Inv k a U s->∃U1 s1 b s2,g d U s=some (U1,s1)/\c U1 s1=some (b,s2)/\((b=true/\∃x s3,m U1 s2=some (x,s3)/\Inv (k+1) (a++[x]) U1 s3)\/(b=false/\Inv (k+1) a U1 s2))) ->
  ∃xs f s',Jj W g c m ds U st=some (xs,s')/\Inv ds.length (acc++xs) f s'
 |[],Inv,acc,U,st,h0,i,step=>⟨[],U,st,by unfold Jj;rw[if_pos (i 0 acc U st (Ag _) h0)],by rw[An];exact h0⟩
 |d::ds,Inv,acc,U,st,h0,i,step=>by
  obtain⟨U1,s1,b,s2,o,p,j⟩:=step 0 d acc U st rfl h0;have n:∀k a U s,k<=ds.length->Inv (k+1) a U s->walked W s=true:=λk a U s hk h=>i (k+1) a U s (CS hk) h;have l:∀k d a U s,ds[k]?=some d->Inv (k+1) a U s->∃U1 s1 b s2,g d U s=some (U1,s1)/\c U1 s1=some (b,s2)/\((b=true/\∃x s3,m U1 s2=some (x,s3)/\Inv (k+1+1) (a++[x]) U1 s3)\/(b=false/\Inv (k+1+1) a U1 s2)):=λk d a U s hd h=>step (k+1) d a U s (by simpa using hd) h
  rcases j with⟨rfl,x,s3,q,j⟩|⟨rfl,j⟩
  ·exists 18;refine⟨x::xs,f,s',?_,by simpa using h⟩;unfold Jj;rw[if_pos (i 0 acc U st (A5 _) h0),o];simp only[Ae,p,if_true,q,e,AS]
  exists 18;refine⟨xs,f,s',?_,h⟩;unfold Jj;rw[if_pos (i 0 acc U st (A5 _) h0),o];simp only[Ae,p,AJ,if_false,e]
theorem Qg{W:Wk}{g:MG}{c:MT}{m:ME}{α:Type}{f h:α->D}{R:HX->Prop}:∀{as:List α}{U:HX}{st:Hh},R U->walked W st=true->(∀a∈as,∀U,R U->∃U1,g (f a) U st=some (U1,st)/\c U1 st=some (true,st)/\m U1 st=some (h a,st)/\R U1) ->
  Jj W g c m (as.map f) U st=some (as.map h,st)
 |[],U,st,r,d,_=>by unfold Jj;rw[BK];simp only[d,if_true,BK]
 |a::as,U,st,r,d,i=>by obtain⟨U1,j,l,o,r1⟩:=i a Al U r;have e:=Qg (W:=W) (g:=g) (c:=c) (m:=m) (f:=f) (h:=h) (R:=R) (as:=as) r1 d λb n=>i b<|Ai _ n;rw[Ao];unfold Jj;rw[if_pos d,j];simp only[Ae,l,if_true,o,e,AS,Ao]
def OL{ds xs:List D}{s:Hh}(h:s[n]?=some (.lst xs)):walked ⟨ds,[(n,xs)]⟩ s=true:=by unfold walked;simp only[GQ,List.all_nil,GR];exact zkN h
def J8(h:n<=10000):fits n=true:=by unfold fits;exact decide_eq_true<|AA h<|by decide
@[simp] theorem Kv(x:α)(y:Option α):LZ (some x) y=some x:=rfl
@[simp] theorem LD(y:Option α):LZ none y=y:=rfl
end L2.MP
namespace L2.MP.Hn
open PySem L2.MP
end L2.MP.Hn
namespace L2.MP
open PySem
variable {n:Nat}{ds:List D}{mi:MI}{k:Int}{s:Hh}{x:D}
section
variable {U U1:HX}{st s1:Hh}{m n ma mb:ME}{mm:MA}{ms mq:MS}{mt mu:MT}{g:G2}{gn:GN}{d:D}{i j:Nat}{mg:MG}{mgs:N4}{ml mh:MO}
@[simp] theorem QX:mV i U st=match U[i]? with
 |some (some d)=>some (d,st)
 |_=>none:=rfl
@[simp] theorem Vw:mK d U st=some (d,st):=rfl
@[simp] theorem Nt:mB g ma mb U st=(ma U st).bind λp=>(mb U p.2).bind λq=>g p.1 q.1 q.2:=rfl
@[simp] theorem Vy:mT m U st=(!9).bind λp=>match p.1 with
 |.bl b=>some (b,p.2)
 |_=>none:=rfl
@[simp] theorem aH:Me mt U st=(mt U st).map λp=>(!p.1,p.2):=rfl
@[simp] theorem zuV:LB mt mu U st=(mt U st).bind λp=>if p.1=true then mu U p.2 else some (false,p.2):=rfl
@[simp] theorem Zm:L4 mt mu U st=(mt U st).bind λp=>if p.1=true then some (true,p.2)else mu U p.2:=rfl
@[simp] theorem zuU:OZ m n U st=(mT m U st).bind λp=>if p.1=true then n U p.2 else some (.bl false,p.2):=rfl
@[simp] theorem zuS:SY m U st=(mT m U st).map λp=>(.bl !p.1,p.2):=rfl
@[simp] theorem aF:Hr gn mm U st=(mm U st).bind λp=>gn p.1 p.2:=rfl
@[simp] theorem VX:Hf m mm U st=(!9).bind λp=>(mm U p.2).bind λq=>some (p.1::q.1,q.2):=rfl
@[simp] theorem Zl:mZ U st=some ([],st):=rfl
@[simp] theorem zv0:mU mm U st=(mm U st).bind λp=>if fits p.1.length=true then some (.tup p.1,p.2)else none:=rfl
@[simp] theorem zv4:mL mm U st=(mm U st).bind λp=>if fits p.1.length=true then some (.ref p.2.length,p.2++[.lst p.1])else none:=rfl
@[simp] theorem kL:mR m U st=(!9).map λp=>(.rt p.1,p.2):=rfl
@[simp] theorem LF:Iq m U st=(!9).map λp=>(.nx U,p.2):=rfl
@[simp] theorem MB:Ht m mg U st=(!9).bind λp=>(mg p.1 U p.2).map λq=>(.nx q.1,q.2):=rfl
@[simp] theorem zws:Ho i d U st=some (U.set i (some d),st):=rfl
@[simp] theorem zuR:Jm U st=some (.nx U,st):=rfl
@[simp] theorem zv3:NQ m U st=(!9).bind λp=>Sh p.1 p.2:=rfl
@[simp] theorem Md:Jf mt ms mq U st=(mt U st).bind λp=>if p.1=true then ms U p.2 else mq U p.2:=rfl
@[simp] theorem Qd:JR ma mb m U st=LZ (Ht m (Nj IK ma mb) U st) (Nm ma mb m U st):=rfl
@[simp] theorem zwp{g3:G3}:Nj g3 ma mb d U st=(ma U st).bind λp=>(mb U p.2).bind λq=>(g3 p.1 q.1 d q.2).map λs=>(U,s):=rfl
@[simp] theorem zwo:J5 i mgs d U st=match d with
 |.tup ds=>if ds.length=i then mgs ds U st else none
 |_=>none:=rfl
@[simp] theorem zv6:J6 [] U st=some (U,st):=rfl
@[simp] theorem zwt:gC mg mgs (d::ds) U st=(mg d U st).bind λp=>mgs ds p.1 p.2:=rfl
@[simp] theorem YX:IG m U st=(!9).bind λp=>match p.1 with
 |.int j=>if small j=true then some (⟨run 0 j.toNat,[]⟩,p.2)else none
 |_=>none:=rfl
@[simp] theorem zuP:Je U st=some (true,st):=rfl
theorem JP{k:Nat}{fr:List Nat}:Ju mi k fr mg mt m U st=(mi U st).bind λp=>(Jj p.1 mg mt m p.1.ds (Jc U k fr) p.2).bind λq=>if fits q.1.length=true then some (.ref q.2.length,q.2++[.lst q.1])else none:=rfl
@[simp] theorem J0:mF mi mg ms U st=(mi U st).bind λp=>JZ p.1 mg ms p.1.ds U p.2:=rfl
@[simp] theorem zwr:Lg U st=some (none,st):=rfl
@[simp] theorem zwq:Lh m U st=(!9).bind λp=>match p.1 with
 |.int i=>some (some i,p.2)
 |_=>none:=rfl
@[simp] theorem zv5{T:String}:L6 T m U st=(!9).bind λp=>(tyName p.2 p.1).map λt=>(.bl (Ke t T),p.2):=rfl
@[simp] theorem zv7:Kh m mm U st=(!9).bind λp=>match p.1 with
 |.ref n=>(Ig p.2 n).bind λ_=>(mm U p.2).bind λq=>LI p.1 q.1 q.2
 |_=>none:=rfl
@[simp] theorem zv2:NP i j mm U st=(mm U st).bind λp=>match p.1 with
 |[x,y]=>some (.nx ((U.set i<|some x).set j<|some y),p.2)
 |_=>none:=rfl
@[simp] theorem kM:MQ ma mb U st=(ma U st).bind λp=>(mb U p.2).bind λq=>O7 p.1 q.1 q.2:=rfl
@[simp] theorem zuv:O0 true U st=some (.ref st.length,st++[.dt []]):=rfl
@[simp] theorem zuw:O0 false U st=some (.ref st.length,st++[.dk []]):=rfl
def Hy{r:Option (Fl×Hh)}(h:ms U st=some (.nx U1,s1))(k:mq U1 s1=r):mS ms mq U st=r:=by unfold mS;rw[h];exact k
def O9(h:ms U st=some (.rt d,s)):mS ms mq U st=some (.rt d,s):=by unfold mS;rw[h];rfl
def IW{N:Nat}(h:ms (Lq N ds) st=some (.rt d,s)):ID N ms ds st=some (d,s):=by unfold ID;rw[h];rfl
def NA{k:Nat}(h:k<=10000:=by decide):fits k=true:=J8 h
@[simp] theorem zwg:fits 0=true:=NA
@[simp] theorem zwf:fits 1=true:=NA
@[simp] theorem zwe:fits 2=true:=NA
@[simp] theorem zwd:fits 3=true:=NA
@[simp] theorem zwc:fits 4=true:=NA
@[simp] theorem zwb:fits 5=true:=NA
@[simp] theorem zwa:fits 6=true:=NA
@[simp] theorem zv9:fits 7=true:=NA
@[simp] theorem zv8:fits 8=true:=NA
def OG(h0:0<=k)(a:k<=1000000):small k=true:=by unfold small;simp;omega
def Ld{n:Nat}(h:st[n]?=some (.lst ds))(h0:0<=k)(a:ds[k.toNat]?=some x):Hj (.ref n) (.int k) st=some (x,st):=by
 have g:=qax a;have d:k<ds.length:=by omega
 simp[Hj,JL,Ki,Ig,h,Lf,Mq,h0,d,Kv];exact(KB.mp a).2
def IA(h0:0<=k)(a:ds[k.toNat]?=some x):Hj (.tup ds) (.int k) st=some (x,st):=by
 have g:=qax a;have d:k<ds.length:=by omega
 simp[Hj,JL,Ki,Lf,Mq,h0,d,Kv];exact(KB.mp a).2
def kF(h0:0<=k)(a:ds[k.toNat]?=some x):Hj (.kl ds) (.int k) st=some (x,st):=by
 have g:=qax a;have d:k<ds.length:=by omega
 simp[Hj,JL,Ki,Lf,Mq,h0,d,Kv];exact(KB.mp a).2
def Q6{z:Str}{c:Nat}(hz:z.length<=10000)(h0:0<=k)(a:z.cps[k.toNat]?=some c):Hj (.str z) (.int k) st=some (.str ⟨#[c]⟩,st):=by
 have g:k.toNat<z.cps.size:=(Array.getElem?_eq_some_iff.mp a).1;have d:k<z.cps.size:=by omega
 have hf:fits z.length=true:=J8 hz;simp[Hj,JL,Ki,Lf,Mq,h0,d,Kv,hf];exact(Array.getElem?_eq_some_iff.mp a).2
def Z2{n:Nat}(h:st[n]?=some (.lst ds)):HQ [.ref n] st=some (.int ds.length,st):=by simp[HQ,Ig,h]
theorem Ny:HQ [.tup ds] st=some (.int ds.length,st):=rfl
theorem VL:HQ [.kl ds] st=some (.int ds.length,st):=rfl
def OH{n:Nat}(h:st[n]?=some (.lst ds)):Mz [.ref n] st=some (.tup ds,st):=by simp[Mz,Ig,h]
@[simp] theorem add_int(a b:Int):Hz (.int a) (.int b) st=some (.int (a+b),st):=rfl
@[simp] theorem sub_int(a b:Int):K5 (.int a) (.int b) st=some (.int (a-b),st):=rfl
def mul_int{a b:Int}(h:-1000000<=a/\a<=1000000):HS (.int a) (.int b) st=some (.int (a*b),st):=by
 have:J4 a=true:=by unfold J4;simp;omega
 simp[HS,JL,L3,intD,this,Kv]
def VW{a b:List D}(c:a≠[])(h:a.length+b.length<=10000):Hz (.tup a) (.tup b) st=some (.tup (a++b),st):=by
 have:fits (a.length+b.length)=true:=J8 h;cases a with
 |nil=>exact absurd rfl c
 |cons x a=>simp[Hz,this]at *
def oM{a b:Nat}{x y:List D}(c:st[a]?=some (.lst x))(e:st[b]?=some (.lst y))(h:x.length+y.length<=10000):Hz (.ref a) (.ref b) st=some (.ref st.length,st++[.lst (x++y)]):=by have:fits (x.length+y.length)=true:=J8 h;simp[Hz,c,e,this]
def append_at{n:Nat}(h:st[n]?=some (.lst ds))(a:ds.length<=10000):LI (.ref n) [x] st=some (.non,st.set n (.lst<|ds++[x])):=by have:ds.length<sizeLine:=BR a (!1);simp[LI,h,this]
end
end L2.MP
set_option linter.unusedSimpArgs false
namespace L2.MP.Hn
open PySem L2.MP
end L2.MP.Hn
namespace L2.MP
open PySem PySem.Builtin PySem.Builtin.Str
theorem len_list(a:Str):a.length=a.cps.toList.length:=rfl
end L2.MP
namespace L2.MP
open PySem
def TZ{n:Nat}{st:Hh}{x:Str}(h:Bp x=true):IX (n+1) st (.str x)=some (.str x):=by rw[IX];simp[h]
def eq_int(a b:Int)(st:Hh):La (.int a) (.int b) st=some (.bl (a==b),st):=by unfold La;rw[IX,IX];simp[BA]
end L2.MP
namespace L2.MP.Hn
open PySem L2.MP
noncomputable abbrev JF:Str:="abcdefghijklmnopqrstuvwxyz"
def Us:∀k:Nat,k<26->JF.cps[k]?=some (97+k):=by decide +kernel
end L2.MP.Hn
namespace L2.MP
open PySem
def Kd(p:Str×Int):D:=.tup [.str p.1,.int p.2]
def IE(k:List Str):D:=.tup<|k.map D.str
end L2.MP
namespace L2.MP.Hn
open PySem L2.MP
def zfS{st:Hh}{l:Nat}{ss:List Str}(a:st[l]?=some (.lst<|ss.map D.str))(h:ss.length<64):MF [.ref l] st=some (.ref st.length,st++[.lst ((OD ss).map D.str)]):=by simp[MF,LL,Pj,Ig,a,eX,h,Kv]
end L2.MP.Hn
namespace L2.MP
open PySem
theorem eT:∀t:List Int,intsOf (t.map D.int)=some t
 |[]=>rfl
 |x::t=>by rw[Ao,intsOf,eT t];rfl
theorem Uv:∀{rows:List (List Int)},(∀r∈rows,r≠[])->rowsOf (rows.map HJ)=some rows
 |[],_=>rfl
 |r::rows,h=>by
  have c:rowOf (HJ r)=some r:=by
   unfold rowOf HJ;simp only[eT,Ae];have:r.isEmpty=false:=by
    cases r with
    |nil=>exact absurd rfl<|h [] Al
    |cons a b=>rfl
   simp[this]
  rw[Ao,rowsOf,c,Ae,Uv λq d=>h q (Ai _ d)];rfl
variable {st:Hh}
def zjN{l:Nat}{rows:List (List Int)}(b:st[l]?=some (.lst<|rows.map HJ))(h:∀r∈rows,r≠[])(a:rows.length<64):MF [.ref l] st=some (.ref st.length,st++[.lst ((KW rows).map HJ)]):=by
 match rows,b,h,a with
 |[],b,h,a=>simp[MF,LL,Pj,Ig,b,strsOf,OD,KW,Kv]
 |[r],b,h,a=>
  have e:strsOf [HJ r]=none:=rfl;simp[MF,LL,Pj,Ru,Ig,b,e,KW,Kv,LD]
 |r::q::rows,b,h,a=>
  have e:strsOf (HJ r::HJ q::rows.map HJ)=none:=rfl;have c:=Uv h;simp only[Ao]at c;simp at a;have d:rows.length+1+1<64:=by omega
  simp[MF,LL,Pj,Ru,Ue,Ig,b,e,c,Kv,LD,d]
def Uw(rows:List (List Int)):(KW rows).Perm rows:=CT _ _
def eP(rows:List (List Int)):(KW rows).Pairwise λa b=>JQ a b=true:=Dg (λa b c=>Uq a b c) eE rows
def xG{a b:List (List Int)}(h:a.Perm b)(c:b.Pairwise λx y=>JQ x y=true):KW a=b:=Ux ((Uw a).trans h) (eP a) c λx _ y _=>cJ
noncomputable abbrev Tl:=Int×Int×Int
def Hl(t:Tl):List Key×D:=([Cu t.1,Cu t.2.1],.int t.2.2)
def Ie(t:Tl):List Int:=[t.1,t.2.1,t.2.2]
def JB(a b:Tl):Bool:=decide (a.1=b.1)&&decide (a.2.1=b.2.1)
def IT(l:List Tl)(t:Tl):List Tl:=if l.any (λu=>JB u t)=true then l.map (λu=>if JB u t=true then t else u)else l++[t]
def Q7(u t:Tl):decide ((Hl u).1=(Hl t).1)=JB u t:=by unfold Hl JB;by_cases h1:u.1=t.1<;>by_cases h2:u.2.1=t.2.1<;>simp[h1,h2]
def aR(l:List Tl)(t:Tl):putD (l.map Hl) (Hl t).1 (Hl t).2=(IT l t).map Hl:=by
 unfold putD IT;have e:((l.map Hl).any λb=>decide (b.1=(Hl t).1))=l.any λu=>JB u t:=by
  rw[List.any_map]
  congr 1
  funext u
  exact Q7 u t
 rw[e];split
 ·rw[AK,AK];apply CV;intro u _;show(if(Hl u).1=(Hl t).1 then _ else _)=Hl (if JB u t=true then t else u)
  by_cases h:JB u t=true
  ·have a:(Hl u).1=(Hl t).1:=of_decide_eq_true<|(Q7 u t).trans h;rw[if_pos a,if_pos h,a]
  have a:¬(Hl u).1=(Hl t).1:=λz=>h<|(Q7 u t).symm.trans<|decide_eq_true z;rw[if_neg a,if_neg h]
 rw[AX];rfl
def HC(l:List Tl):Prop:=l.Pairwise λa b=>JB a b=false
def fF(a b:Tl):JB a b=JB b a:=by unfold JB;by_cases h1:a.1=b.1<;>by_cases h2:a.2.1=b.2.1<;>simp[h1,h2,eq_comm]
variable {l:List Tl}{t:Tl}
def tV(h:HC l):HC (IT l t):=by
 unfold IT;split
 ·unfold HC at *;rw[List.pairwise_map];refine h.imp λ{a b} f=>?_;have i:∀{a b c:Tl},JB a b=true->JB a c=JB b c:=λ{a b c} q=>by
   unfold JB at *;simp at q;rw[q.1,q.2]
  by_cases g:JB a t=true
  ·by_cases d:JB b t=true
   ·have j:JB a b=JB t b:=i g;rw[fF]at d;rw[j,d]at f;cases f
   rw[if_pos g,if_neg d,fF];simpa using d
  ·by_cases d:JB b t=true
   ·rw[if_neg g,if_pos d];simpa using g
   rw[if_neg g,if_neg d];exact f
 ·rename_i m;unfold HC at *;rw[List.pairwise_append];refine⟨h,List.pairwise_singleton _ _,λa g b d=>?_⟩;rw[On.mp d]
  cases e:JB a t with
  |false=>rfl
  |true=>exact absurd (List.any_eq_true.mpr ⟨a,g,e⟩) m
def wA{P:Tl->Prop}{l:List Tl}{t:Tl}(h:∀u∈l,P u)(a:P t):∀u∈IT l t,P u:=by
 unfold IT;split
 ·intro u hu;obtain⟨v,b,rfl⟩:=P3.mp hu
  split
  ·exact a
  exact h v b
 ·intro u hu
  rcases Os.mp hu with hu|hu
  ·exact h u hu
  rw[On.mp hu];exact a
def cO(l:List Tl)(t:Tl):(IT l t).length<=l.length+1:=by
 unfold IT;split
 ·rw[Af];omega
 simp
def Rm{t:Nat}{x y k:Int}(h:st[t]?=some (.dt<|l.map Hl))(a:l.length<=1000):dput st t (.tup [.int x,.int y]) (.int k)=some (st.set t<|.dt<|(IT l (x,y,k)).map Hl):=by have b:(l.map Hl).length<sizeLine:=BR (by rw[Af];exact a) (!1);have e:=aR l (x,y,k);have c:keysOf [.int x,.int y]=some (Hl (x,y,k)).1:=rfl;have d:D.int k=(Hl (x,y,k)).2:=rfl;unfold dput;simp only[h,c,Ae];rw[d,e,if_pos (decide_eq_true b)]
end L2.MP
namespace L2.MP.Hn
open PySem L2.MP
def HU(ts:List Tl):D:=.tup<|ts.map λt=>HJ (Ie t)
def SM(r:List Int):Tl:=(r.getD 0 0,r.getD 1 0,r.getD 2 0)
def HI(l:List Tl):List Tl:=(KW<|l.map Ie).map SM
def KZ(l:List Tl):(HI l).Perm l:=by
 have:=(Uw<|l.map Ie).map SM;rw[AK]at this;have e:SM ∘ Ie=id:=by funext t;rfl
 rw[e,Gc]at this;exact this
def Pl(l:List Tl):(HI l).map Ie=KW (l.map Ie):=by
 unfold HI;rw[AK]
 conv=>rhs;rw[<-Gc (KW<|l.map Ie)]
 apply CV;intro r a;obtain⟨t,_,rfl⟩:=P3.mp<|(Uw _).mem_iff.mp a;rfl
def sQ{a b:List Tl}(h:a.Perm b)(c:(b.map Ie).Pairwise λx y=>JQ x y=true):HI a=b:=by
 unfold HI;rw[xG (h.map Ie) c,AK];have e:SM ∘ Ie=id:=by funext t;rfl
 rw[e,Gc]
def Mo{st:Hh}{l:Nat}{ts:List Tl}(c:st[l]?=some (.lst<|ts.map λt=>HJ (Ie t)))(a:ts.length<64):MF [.ref l] st=some (.ref st.length,st++[.lst ((HI ts).map λt=>HJ (Ie t))]):=by
 have b:st[l]?=some (.lst<|(ts.map Ie).map HJ):=by rw[AK];exact c
 have e:=zjN b (λr d=>by obtain⟨t,_,rfl⟩:=P3.mp d;simp[Ie]) (by rw[Af];exact a);rw[<-Pl,AK]at e;exact e
end L2.MP.Hn
namespace L2.MP
open PySem PySem.Spec PyProof.Rows
section
variable {X:Cx}{K:Ab}{H:Hp}{io:List Addr}{st st':Hh}{a b c e:Pv}{es:List Pv}{ma mb mc m:ME}{mm:MA}{pos:Pos}
def Ox:D->List D->Hh->Option (D×Hh):=λx xs st=>match x,xs with
 |.ref n,[.ref k]=>match st[n]?,st[k]? with
  |some (.lst ds),some (.lst zs)=>if fits (ds.length+zs.length)=true then some (.non,st.set n (.lst<|ds++zs))else none
  |_,_=>none
 |_,_=>none
def extend_in{x:D}{xs:List D}{d:D}(h:Ox x xs st=some (d,st')):∃n k ds zs,x=.ref n/\xs=[.ref k]/\st[n]?=some (.lst ds)/\st[k]?=some (.lst zs)/\ds.length+zs.length<=sizeLine/\d=.non/\st'=st.set n (.lst<|ds++zs):=by
 unfold Ox at h;split at h
 ·rename_i n k
  split at h
  ·rename_i ds zs a b;obtain⟨hf,h⟩:=Iu h;cases h;exact⟨n,k,ds,zs,rfl,rfl,a,b,of_decide_eq_true hf,rfl,rfl⟩
  ·cases h
 ·cases h
def zko:SD X "list.extend" (Yt X.K Ox):=by
 rintro g s σ H x xs v us Q I h rs ⟨L,ds,st,io,d,st',i,Rs,S,e,k⟩;obtain⟨n,j,l,zs,rfl,rfl,a,y,A,rfl,rfl⟩:=extend_in e;obtain⟨p,rfl,b⟩:=i;obtain⟨w,rfl,B⟩:=Rs.one;obtain⟨q,rfl,C⟩:=B;obtain⟨c,m,r⟩:=S.ob n p _ b a;obtain⟨ws,E,f⟩:=S.ob j q _ C y;refine yU g s σ H _ _ v us Q I h rs ⟨p,q,c,ws,rfl,rfl,m,E,by rw[r.length,f.length];exact A,?_⟩;obtain⟨F,G⟩:=M7 (o:=.lst (c++ws)) (ob:=.lst (l++zs)) S b a (λo u z=>by rw[m]at z;cases z) λM T J=>⟨_,J,(Hi.mono T r).append<|Hi.mono T f⟩
 exact k _ _ [] F G rfl
def PF(m:ME)(mm:MA):ME:=λU st=>(!9).bind λ(x,s1)=>match x with
 |.ref n=>(Ig s1 n).bind λ_=>(mm U s1).bind λ(xs,s2)=>Ox x xs s2
 |_=>none
def zlP{o:Pv}{apos f:Pos}(q:SE X o m)(r:SA X (e::es) mm)(h:attributeBase o "extend" X.env (UV o X.env)=UV o X.env:=by rfl)(j:((backTo f<|UF (e::es) X.env).all (λx=>!x.1)&&(backToKw f<|keywordEach [] X.env).all (λx=>x.1.isSome)
   &&decide ((e::es).length+([]:List Keyword).length+(if([]:List Keyword).isEmpty then 0 else 1)<30))=true:=by rfl)
  (i:(apos.endLine==f.line)=true:=by rfl) (s:Qqb X.env e es:=by rfl) (g:Qqc f es X.env:=by rfl):
  SE X (.Call (.Attribute o "extend" apos) (e::es) [] f) (PF m mm):=
 PE.imp (Zg Df PySem.F.slot_list_extend PySem.F.type_list_extend zko q r h j i s g) <| by
  exists 1;obtain⟨⟨x,s1⟩,u,e⟩:=Hs e;cases x with
  |ref n=>
   obtain⟨l,v,e⟩:=Hs e;obtain⟨⟨xs,s2⟩,w,e⟩:=Hs e;refine⟨U,st,io,_,s1,E,S,u,λv1 H1 b c a R1=>⟨Wv R1 a v,U,s1,io++b,xs,s2,E.ext S c,a,w,λz A y K p R2=>?_⟩⟩;exact⟨_,xs,s2,(io++b)++y,d,st',R1.ext a K,R2,p,e,(k.on a c).on p K⟩
  |_=>cases e
theorem kK{U:HX}:PF m mm U st=(!9).bind λp=>match p.1 with
 |.ref n=>(Ig p.2 n).bind λ_=>(mm U p.2).bind λq=>Ox p.1 q.1 q.2
 |_=>none:=rfl
end
end L2.MP
namespace L2.MP
open PySem
theorem dO{W:Wk}{g:MG}{c:MT}{m:ME}{α:Type}{f h:α->D}{p:α->Bool}{R:HX->Prop}:∀{as:List α}{U:HX}{st:Hh},R U->walked W st=true->(∀a∈as,∀U,R U->∃U1,g (f a) U st=some (U1,st)/\c U1 st=some (p a,st)/\(p a=true->m U1 st=some (h a,st))/\R U1) ->
  Jj W g c m (as.map f) U st=some ((as.filter p).map h,st)
 |[],U,st,r,i,_=>by unfold Jj;rw[BK];simp only[i,if_true,Ey,BK]
 |a::as,U,st,r,i,l=>by
  obtain⟨U1,n,j,o,r1⟩:=l a Al U r;have e:=dO (W:=W) (g:=g) (c:=c) (m:=m) (f:=f) (h:=h) (p:=p) (R:=R) (as:=as) r1 i λb q=>l b<|Ai _ q;rw[Ao];unfold Jj;rw[if_pos i,n]
  cases d:p a with
  |true=>
   rw[d]at j;simp only[Ae,j,if_true,o d,e,AS,BM,d,Ao]
  |false=>
   rw[d]at j;simp only[Ae,j,AJ,if_false,e,BM,d]
end L2.MP
namespace L2.MP.Hn
open PySem L2.MP
def OJ{a b:List Tl}(h:a.Perm b):HI a=HI b:=by refine sQ (h.trans (KZ b).symm) ?_;rw[Pl];exact eP _
def fT{st:Hh}{n k:Nat}{ds zs:List D}(h:st[n]?=some (.lst ds))(h':st[k]?=some (.lst zs))(a:ds.length+zs.length<=10000):Ox (.ref n) [.ref k] st=some (.non,st.set n (.lst<|ds++zs)):=by have:fits (ds.length+zs.length)=true:=J8 a;simp[Ox,h,h',this]
end L2.MP.Hn
namespace L2.MP
open PySem PySem.Spec PyProof.Rows
def zk2(x:Sr)(o:Obj)(xs:Array IR):Meets (Builtin.«enumerate.__new__» ⟨[.type "enumerate",.ref x.ad],[]⟩) (λ_ R s=>s.heap.get? x.ad=some o/\x.is s.heap xs /\
   R (.ok<|.ret<|.ref (s.heap.push x.ob).objs.size) {s with heap:=(s.heap.push x.ob).push {cls:=.type "enumerate",data:=.fields #[.none,.bool false,.ref s.heap.objs.size,rawInt 0,.none,.none]} }):=
 .of_wp λprog w A R s h=>by
  obtain⟨f,g,d,tk,os⟩:=s;obtain⟨a,i,h⟩:=h;have e:=sub_enumerate;have b:x.is (Shared.heap ⟨f,g,d,tk,os⟩) xs:=i
  wp_walk using Cq a
  refine wpAny_stack_any λj=>Ac ?_;split
  ·rename_i c _ _ _ _ _
   cases (c==Gn "enumerate")
   ·wp_walk using Cq a,Sr.iter b
    exact⟨_,rfl,h⟩
   ·wp_walk using Cq a,Sr.iter b
    exact⟨_,rfl,h⟩
  ·wp_walk using Cq a,Sr.iter b
   exact⟨_,rfl,h⟩
variable {prog:Re}{w:Wp}{A:Around}{E:Qqa}{s:Shared}{h:PP}{xs:Array IR}{x:Sr}
def Sr.is_get(q:x.is h xs):∃o,h.get? x.ad=some o:=by
 cases x with
 |l a=>obtain⟨o,g,_⟩:=q;exact⟨o,g⟩
 |t a=>obtain⟨o,g,_⟩:=q;exact⟨o,g⟩
def zZ{R:Qqa}(a:x.is s.heap xs)(k:∀h',IsEnum h' (s.heap.objs.size+1) s.heap.objs.size 0 .none->x.at_ h' s.heap.objs.size 0->(∀c u,s.heap.get? c=some u->h'.get? c=some u)->R (.ref<|s.heap.objs.size+1) {s with heap:=h'}):
  wpAny (!5) A (call (.type "enumerate") [.ref x.ad]) R E s:=by
 obtain⟨o,g⟩:=Sr.is_get a;refine callType_new F.called_enumerate (!1) (F.typeCall_enumerate_1 _) (F.newCall_enumerate_1 _) (λobj=>F.args_object_init_2 obj _) F.entry_enumerate_new (zk2 x o xs) ⟨g,a,?_⟩;have h:(s.heap.push x.ob).objs.size=s.heap.objs.size+1:=Ba ..;have f2:((s.heap.push x.ob).push {cls:=.type "enumerate",data:=.fields #[.none,.bool false,.ref s.heap.objs.size,rawInt 0,.none,.none]}).get? (s.heap.push x.ob).objs.size=some {cls:=.type "enumerate",data:=.fields #[.none,.bool false,.ref s.heap.objs.size,rawInt 0,.none,.none]}:=Ap _ rfl;have f1:((s.heap.push x.ob).push {cls:=.type "enumerate",data:=.fields #[.none,.bool false,.ref s.heap.objs.size,rawInt 0,.none,.none]}).get? s.heap.objs.size=some x.ob:=Ad _<|Ap _ (by cases x<;>rfl);show _/\_;rw[h]at f2 ⊢;exact⟨⟨_,f2,rfl⟩,k _ f2 (Sr.at_new f1) λc u q=>Ad _ (Ad _ q)⟩
def Sr.draws(f:A.handled=none)(it:Addr)(x:Sr)(c:x.ad≠it)(items:Array IR):Draws prog w A it [it,x.ad] items.size (λi v=>items[i]?=some v) (λi h=>x.at_ h it i/\x.is h items) where
 live:=λ_ _ q=>let ⟨o,_,g,_⟩:=Sr.at_get q.1;⟨o,g⟩
 frame:=λ_ _ _ q k=>⟨Sr.at_keep q.1 λo e=>k it (!2) o e,Sr.is_keep q.2 λo e=>k x.ad (!2) o e⟩
 item:=λi s Q E d q k=>by refine Sr.next q.1 q.2 (v:=items[i]) (by simp[d]) λj a b=>?_;exact k _ j s.toks (by simp[d]) ⟨a,Sr.is_keep q.2 λo e=>b.extBut _ _ c e⟩ b
 done:=λs Q E q k=>Sr.stop f q.1 q.2 (!2) k
def Sr.drawsEnd(a:A.handled=none)(it:Addr)(x:Sr)(items:Array IR)(n:Nat)(hn:items[n]?=none):Draws prog w A it [it,x.ad] n (λ_ _=>True) (λj h=>j=n/\x.at_ h it n/\x.is h items) where
 live:=λ_ _ q=>let ⟨o,_,g,_⟩:=Sr.at_get q.2.1;⟨o,g⟩
 frame:=λ_ _ _ q k=>⟨q.1,Sr.at_keep q.2.1 λo e=>k it (!2) o e,Sr.is_keep q.2.2 λo e=>k x.ad (!2) o e⟩
 item:=λi s Q E b q k=>absurd q.1 (Au b)
 done:=λs Q E q k=>Sr.stop a q.2.1 q.2.2 hn k
def Itn(x:Sr):It:=⟨λi H=>∃xs v,x.sq H xs/\xs[i]?=some v,λi H r h=>∃p v,H p=none/\h=upd H p (.tup [.int (i:Nat),v])/\r=.ref p/\∀xs,x.sq H xs->xs[i]?=some v,λi H=>∃xs,x.sq H xs/\xs.length<=i⟩
variable {P:Re}{K:Ab}{elts:List Pv}{pos:Pos}
def zjB{x1}(x:Sr)(it e:Addr)(f:e≠it):
  Turn P w K (.Tuple elts x1 pos) (Itn x) [e,it] e (λi h=>(∃old,IsEnum h e it (i:Nat) old)/\x.at_ h it i) where
 mem:=by simp
 obj:=λi h st b hb=>by
  obtain⟨⟨old,he⟩,c⟩:=st;rcases KM.mp hb with rfl|hb
  ·exact⟨_,he,λv z=>by cases z⟩
  rw[On.mp hb];obtain⟨o,S,g,d⟩:=Sr.at_get c;exact⟨o,g,λv z=>by rw[d]at z;cases z⟩
 keep:=λi h T st k=>by obtain⟨⟨old,he⟩,c⟩:=st;exact⟨⟨old,k e (!2) _ he⟩,Sr.at_keep c λo q=>k it (!2) o q⟩
 item:= by
  intro X u hw B C i Z s σ H E I hf st F;subst u hw B;obtain⟨xs,v,l,U⟩:=F;obtain⟨⟨old,he⟩,c⟩:=st;obtain⟨a,G,J⟩:=Sr.sq_is I l;obtain⟨v',W,rv⟩:=G.get U;have fit:=(hf it<|by simp).1;have fe:=(hf e<|by simp).1;have L:i<a.toArray.size:=by have:=(KB.mp W).1;simpa using this
  refine wpAny_pyNext_enum_itemD (Sr.draws (A:=X.A.in1) (I.ok.hd C) it x (Sr.sq_ne l fit) a.toArray) he ⟨c,J⟩ L f (by
   simp only[Bb,Bt,or_false,not_or];exact⟨f,λz=>Sr.sq_ne l fe z.symm⟩) λy h1 tk M N Q t1 z1 k1=>?_
  have ey:y=v':=by
   have:a[i]?=some y:=by simpa using M
   rw[W]at this;exact(Av this).symm
  subst ey;refine⟨_,rfl,wpAny_letOwnedTupleGo_enum (s:={s with heap:=h1,toks:=tk+1}) N λr m j=>?_⟩;have k2:∀b o,b ∉ [e,it]->s.heap.get? b=some o->r.get? b=some o:=λb o hb q=>by have Y:b≠e:=λz=>hb (by simp[z]);have n2:b≠it:=λz=>hb (by simp[z]);exact(j.2 b Y).trans<|k1 b o Y n2 q
  have n:e≠s.heap.objs.size:=Au<|Aj he;have t2:r.get? s.heap.objs.size=some {cls:=.type "tuple",data:=.seq #[.int i tk,y]}:=(j.2 _ n.symm).trans t1;have p:x.at_ r it (i+1):=Sr.at_keep Q.1 λo q=>(j.2 it f.symm).trans q;refine⟨.ref s.heap.objs.size,upd H s.heap.objs.size<|.tup [.int (i:Nat),v],?_,rfl,⟨_,v,I.hok.fresh<|Ag _,rfl,rfl,λys M=>by rw[Sr.sq_inj M l];exact U⟩,⟨⟨_,by exact_mod_cast m⟩,p⟩,λb hb=>?_⟩
  ·exact Inv.turnNew (s:=s) (h':=r) (t':=tk+1) I hf k2 (Ag _) (λb hb ob q=>by
    rcases KM.mp hb with rfl|hb
    ·exact⟨_,m⟩
    rw[On.mp hb];obtain⟨o,S,g,d⟩:=Sr.at_get p;exact⟨o,g⟩) ⟨by show 2<=sizeLine;decide,[.int i tk,y],.cons ⟨_,rfl⟩<|.cons rv .nil,⟨_,t2,rfl,rfl,_,rfl⟩⟩
  ·rw[HV (λz=>?_)]
   ·exact(hf b hb).1
   ·rcases KM.mp hb with q|hb
    ·exact n<|q.symm.trans z
    have q:=On.mp hb;obtain⟨o,S,g,d⟩:=Sr.at_get c;exact(Au<|Aj g)<|q.symm.trans z
 done:=by intro X u hw B C i Z s σ H E I hf st F;subst u hw B;obtain⟨xs,l,hl⟩:=F;obtain⟨⟨old,he⟩,c⟩:=st;obtain⟨a,G,J⟩:=Sr.sq_is I l;have l1:=G.length;exact wpAny_pyNext_enum_endD (Sr.drawsEnd (A:=X.A.in1) (I.ok.hd C) it x a.toArray i (by simp;omega)) he ⟨rfl,c,J⟩ λT eb=>⟨rfl,Inv.turnAll (t':=s.toks) I hf λb o hb q=>eb b o (λz=>hb (by simp[z])) q⟩
 self:=λ_ _ _ _ _ st h=>by obtain⟨⟨old,he⟩,_⟩:=st;exact F4 he h
variable {X:Cx}{H:Hp}{io:List Addr}{m:ME}{st st':Hh}{a:Pv}
def YZ(x:D)(s:Hh):Option (Wk×Hh):=(MN s x).map λ(a,f)=>(⟨pairs a,f⟩,s)
def P4(m:ME):MI:=λU st=>(!9).bind λ(x,s1)=>YZ x s1
def aU{x1}{Y:Pos}{p:Pos}(Z:Gl X "enumerate")(hm:X.mg "enumerate"=none)(ha:SE X a m)(c:UF [a] X.env=[(false,UV a X.env)]:=by rfl):
  SI X (.Tuple elts x1 Y) (.Call (.Name "enumerate" p) [a] [] pos) (P4 m):=by
 rintro qp s σ H R I ⟨U,st,io,W,st',E,S,e,k⟩;obtain⟨⟨x,s1⟩,e1,e⟩:=Hs e;obtain⟨⟨as,f⟩,e3,e⟩:=Ia e;cases e;refine Call_<|Qh I Z hm boot_enumerate<|B6 (HB (Hk ha Hq c pos qp s σ H (λz u=>∃B,Ext io B H u/\HA X.K u (io++B) st'/\Hi X.K u (io++B) z [x]) I ⟨U,st,io,[x],st',E,S,Ua e1 rfl,λz H1 C F y R1=>⟨C,F,y,R1⟩⟩) ?_) c rfl;rintro us t1 ⟨z,H1,I1,r1,C,F,y,R1⟩;obtain⟨v,rfl,Rx⟩:=R1.one;obtain⟨v',rfl,rv⟩:=r1.one;obtain⟨xx,rfl,⟨xs,hx⟩,G⟩:=Wf y Rx e3;cases rv;obtain⟨its,vx,ix⟩:=Sr.sq_is I1 hx;refine zZ ix λh' he A kk=>F4 he ?_;refine⟨_,_,_,_,H1,rfl,I1.kept (t':=t1.toks) kk,zjB xx t1.heap.objs.size (t1.heap.objs.size+1)<|Nat.succ_ne_self _,⟨⟨_,he⟩,A⟩,λb hb=>?_,?_⟩
 ·have hle:t1.heap.objs.size<=b:=by
   rcases KM.mp hb with q|hb
   ·rw[q];exact CC _
   rw[On.mp hb];exact Ag _
  exact I1.fpOk hle<|I1.hok.fresh hle
 ·refine k _ H1 C F y ?_;refine⟨λi d g j s3 hd l w c=>?_,λg j s3 l w c=>?_,λg j s3 i A l w c=>?_⟩
  ·obtain⟨h,P,n⟩:=G g j s3 l w c;obtain⟨dx,g1,rfl⟩:=dD hd;obtain⟨J,L,ru⟩:=n.get g1;refine⟨⟨h,J,P,L⟩,λr u yl=>?_⟩;obtain⟨q,u2,hq,rfl,rfl,yu⟩:=yl;have M:=yu h P;rw[L]at M;cases M;obtain⟨N,Q⟩:=Rf (o:=.tup [.int (i:Nat),J]) w hq;rw[An]at Q;refine⟨N,Q,⟨q,_,rfl,Le,?_⟩⟩;have T:=ru.ext w N;rw[An]at T;exact Hi.cons rfl<|Hi.cons T Hi.nil
  ·obtain⟨h,P,n⟩:=G g j s3 l w c;exact⟨h,P,by show h.length<=(pairs as).length;rw[pairs_len,n.length];exact Ag _⟩
  obtain⟨h,P,n⟩:=G g j s3 l w c;have A:(pairs as).length<=i:=A;rw[pairs_len]at A;exact⟨h,P,by rw[n.length];exact A⟩
@[simp] theorem zuT{U:HX}:P4 m U st=(!9).bind λp=>YZ p.1 p.2:=rfl
variable {ma mb mc:ME}{b c:Pv}{g g':G2}{σ:L2.St}{op op':CmpOp}
def Mg(g g':G2)(ma mb mc:ME):ME:=λU st=>(ma U st).bind λ(x,s1)=>(mb U s1).bind λ(y,s2)=>(g x y s2).bind λ(z,s3)=>match z with
 |.bl q=>if q=true then(mc U s3).bind λ(w,s4)=>g' y w s4 else some (.bl false,s3)
 |_=>none
def fL{Q:VK}(h:tE K (Mg g g' ma mb mc) σ H Q):VR (R9 K g) (R9 K g') (tE K ma) (tE K mb) (tE K mc) σ H Q:=by
 obtain⟨U,st,io,d,st',E,S,e,k⟩:=h;obtain⟨⟨x,s1⟩,n,e⟩:=Hs e;obtain⟨⟨y,s2⟩,o,e⟩:=Hs e;obtain⟨⟨z,s3⟩,p,e⟩:=Hs e;refine⟨U,st,io,x,s1,E,S,n,λv1 H1 a s b R1=>?_⟩;refine⟨U,s1,io++a,y,s2,E.ext S s,b,o,λv2 F A P c R2=>?_⟩;refine⟨x,y,s2,(io++a)++A,z,s3,R1.ext b P,R2,c,p,λG I f X m r=>?_⟩;have i:=((k.on b s).on c P).on m X;exists 10;split at e
 ·rename_i q;refine⟨q,r,?_⟩
  cases q with
  |true=>
   rw[if_pos rfl]at e ⊢;obtain⟨⟨w,s4⟩,u,v⟩:=Hs e;refine⟨U,s3,((io++a)++A)++f,w,s4,((E.ext S s).ext b P).ext c X,m,u,λv4 J B j l C=>?_⟩;exact⟨y,w,s4,(((io++a)++A)++f)++B,d,st',(R2.ext c X).ext m j,C,l,v,i.on l j⟩
  |false=>
   rw[if_neg AY]at e ⊢;cases e;exact Bh.now i m rfl
 ·cases e
def xU(e:Ji X (SL op) g)(d:Ji X (SL op') g')(f:SE X a ma)(i:SE X b mb)(j:SE X c mc)(hm:lastMarks [op,op'] [b,c]=false:=by with_unfolding_all rfl):
  SE X (.Compare a [op,op'] [b,c] pos) (Mg g g' ma mb mc):=PE.imp (wZ e d f i j hm) λ_ _ _ h=>fL h
def cA(e:Ji X (SL op) g)(d:Ji X (SL op') g')(f:SE X a ma)(i:SE X b mb)(j:SE X c mc)(hm:lastMarks [op,op'] [b,c]=false:=by with_unfolding_all rfl):
  SB X (.Compare a [op,op'] [b,c] pos) (mT<|Mg g g' ma mb mc):=PT.imp (vZ e d f i j hm) λ_ _ _ h=>fL (Rv h)
variable {e:Pv}{p2:Pos}
section
variable {mk:ME}{se:Pv}{te:TE}{ts:TO}
theorem eJ{x:V}{u:IR}:∀{xs:List V}{us:List IR},Vals xs us->RelV x u->Vals (xs++[x]) (us++[u])
 |[],_,.nil,r=>.cons r .nil
 |y::xs,_,.cons z t,r=>.cons z<|eJ t r
theorem bX:∀{xs:List V}{us:List IR},Vals xs us->Vals xs.reverse us.reverse
 |[],_,.nil=>.nil
 |x::xs,_,.cons r t=>by rw[Do,Do];exact eJ (bX t) r
theorem eN:∀{xs:List V}{ds:List D}{x:V}{d:D},Hi K H io xs ds->Rep K H io x d->Hi K H io (xs++[x]) (ds++[d])
 |_,[],x,d,h,r=>by
  cases (show _=[] from h)
  exact⟨x,[],rfl,r,rfl⟩
 |_,e::ds,x,d,h,r=>by obtain⟨y,f,rfl,i,j⟩:=h;exact⟨y,f++[x],rfl,i,eN j r⟩
theorem cP:∀{ds:List D}{xs:List V},Hi K H io xs ds->Hi K H io xs.reverse ds.reverse
 |[],xs,h=>by
  cases (show xs=[] from h)
  exact rfl
 |d::ds,xs,h=>by obtain⟨y,j,rfl,f,i⟩:=h;rw[Do,Do];exact eN (cP i) f
end
def zhH:typeLookup (.type "list") "keys"=pure none:=by rw[typeLookup_type,E3];kernel_rfl
def UE:entryFor table "dict.update.loop"=some Builtin.«dict.update.loop»:=entryFor_of_fast<|by kernel_rfl
def NF:plainId "dict.update.loop"=true:=by decide +kernel
section
variable {a:Addr}
def cR{Q:Option IR->Shared->Prop}{k:Nat}{f:Array (Option IR)}(i:s.heap.get? a=some {cls:=.type "list",dict:=none,data:=.seq xs k,slots:=f})(j:A.handled=none)(h:∀h' tk,(∀b u,s.heap.get? b=some u->h'.get? b=some u)->Q none {s with heap:=h',toks:=tk}):wpAny (!5) A (getAttr? (.ref a) "keys") Q E s:=by
 obtain⟨H,g,d,tk,os⟩:=s;have x:∀c,(⟨H,g,d,c,os⟩:Shared).TypeIs (.ref a) "list":=λ_=>⟨_,i,rfl⟩;have f1:=FL;have K:=F.slot_list_getattribute.lookup;have f4:=F.slot_list_getattribute.bind<|.ref a;have P:=am_list_getattr_none;unfold getAttr? getAttrBy? getAttrBy
 repeat (any_goals (first|assumption|exact x _|((with_reducible show wpAny _ _ (call (GS "list.__getattribute__") _ _) _ _ _);refine Dc F.slot_list_getattribute (x _) am_entry_list_getattribute (F.args_list_getattribute_2 _ _) (meets_getattribute_miss_list a xs k f _ _ zhH<|by decide +kernel) ⟨i,j,λh' c e m=>?_⟩)|wp_step))
 obtain⟨X,l,he⟩:=m.there;show wpAny _ _ (getattributeRaised _ _ _ _ _ _ _) _ _ _;unfold getattributeRaised
 repeat (any_goals (first|assumption|wp_step))
 exact h _ _ m.keeps
def Oi(prog:Re)(w:Wp)(h:PP)(v:IR)(d:Key×IR):Prop:=∃p a,v=.ref p/\IsTup h p #[a,d.2]/\(Ja prog w).is d.1 a=true
def Oi.keep{h':PP}{v:IR}{d:Key×IR}(q:Oi prog w h v d)(k:∀b o,v=.ref b->h.get? b=some o->h'.get? b=some o):Oi prog w h' v d:=by obtain⟨p,a,rfl,⟨o,g,c⟩,i⟩:=q;exact⟨p,a,rfl,⟨o,k p o rfl g,c⟩,i⟩
def gH{p:Addr}{Q:List IR->Shared->Prop}(f:IsTup s.heap p xs)(h:Q xs.toList s):wpAny (!5) A (Builtin.Dict.pairItems<|.ref p) Q E s:=by
 obtain⟨a,g,d,tk,os⟩:=s;obtain⟨o,b,c,n,e⟩:=f;have m:(⟨a,g,d,tk,os⟩:Shared).TypeIs (.ref p) "tuple":=⟨_,b,c⟩;unfold Builtin.Dict.pairItems seqItems?
 repeat (any_goals (first|assumption|wp_step))
 rw[e];exact Ac<|Ac h
end
variable {its:List IR}{kvs:List (Key×IR)}
section
variable {a:Addr}
def zjI{K:Type}[DecidableEq K](kvs:List (K×IR))(k:K)(v:IR):(stored kvs k v).length<=kvs.length+1:=by unfold stored;split<;>simp
theorem W3{K:Type}[DecidableEq K]:∀(more kvs:List (K×IR)),(merged kvs more).length<=kvs.length+more.length
 |[],kvs=>by show kvs.length<=kvs.length+0;omega
 |p::r,kvs=>by have d:=W3 r<|stored kvs p.1 p.2;have a:=zjI kvs p.1 p.2;show(merged (stored kvs p.1 p.2) r).length<=_;rw[Aw];omega
def jS{R:Result->Shared->Prop}{D I l:Addr}{h0:PP}(Z:A.in1.handled=none)(hl:its.length=kvs.length)(hz:kvs.length<=sizeLine)(d:D≠I)(n:l≠D)(y:l≠I):
  ∀(k i:Nat) (s:Shared),kvs.length-i=k->i<=kvs.length->s.heap.IsListIter I l i->s.heap.IsList l its.toArray->s.heap.DictOf (Ja prog w) D (merged []<|kvs.take i) ->
  (∀(j:Nat) (v:IR) (f:Key×IR),its[j]?=some v->kvs[j]?=some f->Oi prog w s.heap v f/\v≠.ref D/\v≠.ref I)->(∀b o,b≠D->b≠I->h0.get? b=some o->s.heap.get? b=some o) ->
  (∀h' tk,h'.DictOf (Ja prog w) D (merged [] kvs)->(∀b o,b≠D->b≠I->h0.get? b=some o->h'.get? b=some o)->R (.ok<|.ret .none) {s with heap:=h',toks:=tk}) ->
  codeAny (!5) A (.builtin "dict.update.loop" ⟨[.ref D,.ref I,rawInt i,.none],[]⟩) R s:=by
 intro k
 induction k with
 |zero=>
  intro i s hk hi hit a hd X h0k B;have C:i=kvs.length:=by omega
  subst C;refine BC UE ?_;rw[A8 NF _];show wpAny _ A.in1 (pyNext (.ref I) >>= _) _ _ s;refine Aa<|CK Z hit a (by simp[hl]) λh' h=>?_;show wpAny _ A.in1 (Builtin.Dict.addKeywords D [] >>= λ_=>ret .none) _ _ _;refine Aa<|Ac<|Ac ?_;rw[AR]at hd;refine B h' s.toks ?_ λb o F E e=>h b o E (h0k b o F E e);obtain⟨o,G,H,J,r⟩:=hd;exact⟨o,G,H,h D o d J,r⟩
 |succ k ih=>
  intro i s hk hi hit a hd X h0k B;have L:i<kvs.length:=by omega
  have m:i<its.length:=by omega
  refine BC UE ?_;rw[A8 NF _];show wpAny _ A.in1 (pyNext (.ref I) >>= _) _ _ s;have hv:its[i]?=some its[i]:=Ah m;have K:kvs[i]?=some kvs[i]:=Ah L;refine Aa<|Cz (x:=its[i]) hit a (by simp[m]) λh' P h=>?_;obtain⟨pa,nD,nI⟩:=X i _ _ hv K;have M:Oi prog w h' its[i] kvs[i]:=pa.keep λb o e g=>h.extBut b o (λz=>nI (by rw[e,z])) g;obtain⟨p,kx,H,tp,ik⟩:=M;have N:h'.DictOf (Ja prog w) D (merged []<|kvs.take i):=by obtain⟨o,G,H,J,r⟩:=hd;exact⟨o,G,H,h.extBut D o d J,r⟩
  have hlen:(merged []<|kvs.take i).length<=sizeLine:=by have:=W3 (kvs.take i) [];rw[A3,Bg]at this;omega
  rw[H];refine Aa<|AM<|Aa<|CM<|gH (s:={s with heap:=h'}) tp ?_;refine AM<|Fs (s:={s with heap:=h'}) ik N (λE hd2 Q=>?_) hlen;have c:∀b o,b≠D->h'.get? b=some o->E.get? b=some o:=λb o hb e=>Q.extBut b o hb e;have e1:stored (merged []<|kvs.take i) kvs[i].1 kvs[i].2=merged [] (kvs.take<|i+1):=(merged_take_succ [] kvs i _ K).symm;refine Ac ⟨BG NF _,?_⟩;refine ih (i+1) {s with heap:=E,toks:=s.toks+1} (!0) (!0) ?_ ?_ (by rw[<-e1];exact hd2) (λj v f F S=>?_) (λb o b1 U e=>c b o b1 (h.extBut b o U<|h0k b o b1 U e)) λh3 T d3 k3=>B h3 T d3 k3
  ·exact FJ P λu e=>c I u (BJ d) e
  ·exact DL (DL a λu e=>h.extBut l u y e) λu e=>c l u n e
  obtain⟨q,W,Y⟩:=X j v f F S;exact⟨(q.keep λb o e g=>h.extBut b o (λz=>Y (by rw[e,z])) g).keep λb o e g=>c b o (λz=>W (by rw[e,z])) g,W,Y⟩
def zha{l:Addr}{Q:Qqa}(C:A.handled=none)(d:PlainL s.heap l its.toArray)(M:its.length=kvs.length)(hz:kvs.length<=sizeLine)(N:∀(j:Nat) (v:IR) (i:Key×IR),its[j]?=some v->kvs[j]?=some i->Oi prog w s.heap v i)(h:∀h' tk,h'.DictOf (Ja prog w) s.heap.objs.size (merged [] kvs)->(∀b o,s.heap.get? b=some o->h'.get? b=some o)->Q (.ref s.heap.objs.size) {s with heap:=h',toks:=tk}):
  wpAny (!5) A (call (.type "dict") [.ref l]) Q E s:=by
 exists 5;rintro obj s₁ ⟨rfl,rfl⟩;have a:(s.heap.push Qqd).DictOf (Ja prog w) s.heap.objs.size []:=GC s.heap;have k1:∀b o,s.heap.get? b=some o->(s.heap.push Qqd).get? b=some o:=λb o e=>Ad _ e;have H:=d.keeps k1;obtain⟨⟨cl,di,da,sl⟩,n,g1,G,J,L⟩:=id H;simp only at G J L;subst G J L;have hlt:∀b o,s.heap.get? b=some o->b<s.heap.objs.size:=λb o e=>Aj e;have X:l<s.heap.objs.size:=by obtain⟨o,_,g,_⟩:=d;exact hlt l o g
 refine⟨a.typeIs,F.args_dict_init_2 _ _,?_⟩;unfold Builtin.«dict.__init__»;refine Aa ?_;unfold Builtin.Dict.selfAndRest;refine Aa<|Cc a.typeIs ?_;show wpAny _ _ (pure (s.heap.objs.size,[AE l])) _ _ _;refine Ac ?_;show wpAny _ _ (Builtin.Dict.updateFrom "dict.__init__" s.heap.objs.size (.ref l) [] .none) _ _ _;unfold Builtin.Dict.updateFrom;refine Aa (Dw (show Shared.TypeIs {s with heap:=s.heap.push Qqd} (.ref l) "list" from⟨_,g1,rfl⟩) ?_);rw[if_pos (!1)];refine Aa<|cR g1 C λc P u=>?_;have K:=H.keeps u;have hd2:c.DictOf (Ja prog w) s.heap.objs.size []:=by obtain⟨o,y,z,f,r⟩:=a;exact⟨o,y,z,u _ o f,r⟩
 have m:s.heap.objs.size<c.objs.size:=by obtain⟨o,y,z,f,r⟩:=hd2;exact Aj f
 simp only[Cw,if_true];refine Aa<|BY ?_;refine Aa<|Sr.iter (x:=.l l) (s:={s with heap:=c,toks:=P}) (xs:=its.toArray) K.isList ?_;have B:∀b o,c.get? b=some o->(c.push<|Sr.ob<|.l l).get? b=some o:=λb o e=>Ad _ e;refine Ac ⟨BG NF _,?_⟩;have S:s.heap.objs.size≠c.objs.size:=Au m;have T:l≠s.heap.objs.size:=Au X;have U:l≠c.objs.size:=Au<|B7 X m;show codeAny (!5) A.in1 (.builtin "dict.update.loop" ⟨[.ref s.heap.objs.size,.ref c.objs.size,rawInt (0:Nat),.none],[]⟩) _ {s with heap:=c.push (Sr.ob<|.l l),toks:=P};refine jS (A:=A.in1) (h0:=s.heap) (l:=l) (its:=its) (kvs:=kvs) (D:=s.heap.objs.size) (I:=c.objs.size) C M hz S T U kvs.length 0 {s with heap:=c.push (Sr.ob<|.l l),toks:=P} rfl (A5 _) ?_ (K.keeps B).isList ?_ (λj v i W Y=>?_) (λb o _ _ e=>B b o (u b o<|k1 b o e)) λh' tk Z k'=>?_
 ·exact Sr.at_new (x:=.l l)<|Ap _ rfl
 ·obtain⟨o,y,z,f,r⟩:=hd2;exact⟨o,y,z,B _ o f,r⟩
 ·have q:=N j v i W Y;have nn:∀b,v=.ref b->b<s.heap.objs.size:=λb e=>by
   obtain⟨p,kx,rfl,⟨o,g,_⟩,_⟩:=q;cases e;exact hlt _ o g
  refine⟨q.keep λb o _ g=>B b o (u b o<|k1 b o g),λe=>?_,λe=>?_⟩
  ·exact absurd (nn _ e)<|AL _
  exact absurd (nn _ e)<|Nat.not_lt_of_lt m
 exact⟨rfl,h h' tk Z λb o e=>k' b o (Au<|hlt b o e) (Au<|B7 (hlt b o e) m) e⟩
end
def Se:D->Option (Key×D)
 |.tup [k,v]=>(keyOf k).map λq=>(q,v)
 |_=>none
def P6:List D->Option (List<|Key×D)
 |[]=>some []
 |d::r=>(Se d).bind λt=>(P6 r).map λts=>t::ts
def Oj(kvs more:List (Key×D)):List (Key×D):=more.foldl (λacc a=>putD acc a.1 a.2) kvs
section
variable {qp:List (Addr×Obj)}
def bC:∀{more:List (Key×V)} {LN:List (Key×D)} {kvs:List (Key×V)} {d:List (Key×D)},KR Key K H io more LN->KR Key K H io kvs d->KR Key K H io (M6 kvs more) (Oj d LN):=by
 intro more LN kvs d r;unfold KR at r
 induction r generalizing kvs d with
 |nil=>intro q;exact q
 |@cons p q c g h t a=>
  intro b;have e:KR Key K H io (putK kvs p.1 p.2) (putD d q.1 q.2):=by rw[<-h.1];exact KR.put b p.1 h.2
  exact a e
theorem VA(I:Inv X qp σ H s):∀{n:List V}{ds:List D} {f:List (Key×D)} {its:List IR},Hi X.K H io n ds->P6 ds=some f->Vals n its ->
  ∃(i:List (Key×V)) (kvs:List (Key×IR)),KR Key X.K H io i f/\KV i kvs/\its.length=kvs.length/\kvs.length=f.length/\∀(j:Nat) (v:IR) (l:Key×IR),its[j]?=some v->kvs[j]?=some l->Oi X.prog X.w s.heap v l
 |_,[],f,_,h,e,r=>by
  cases e;cases (show _=[] from h)
  cases r;exact⟨[],[],.nil,.nil,rfl,rfl,λj v l h=>by simp at h⟩
 |_,d::ds,f,_,h,e,r=>by
  obtain⟨y,n,rfl,o,z⟩:=h;obtain⟨t,a,e⟩:=Hs e;obtain⟨T,b,e⟩:=Ia e;subst e;cases r with
  |@cons _ u _ us g c=>
   obtain⟨i,kvs,a1,a2,m,x,A⟩:=VA I z b c;unfold Se at a;split at a
   ·rename_i k v;obtain⟨q,eq1,a⟩:=Ia a;subst a;obtain⟨p,U,rfl,E,rs⟩:=o;obtain⟨v1,W,rfl,P,rs⟩:=rs;obtain⟨v2,B,rfl,C,rs⟩:=rs
    cases (show B=[] from rs)
    have F:=Um P eq1;subst F;cases g;obtain⟨Y,G,J,_⟩:=I.tuple<|IM.of (K:=X.K) E
    cases G with
    |cons L t1=>
     cases t1 with
     |cons M N=>
      cases N;rename_i Q S;refine⟨(q,v2)::i,(q,S)::kvs,.cons ⟨rfl,C⟩ a1,.cons ⟨rfl,M⟩ a2,by rw[Aw,Aw,m],by rw[Aw,Aw,x],λj v l a b=>?_⟩
      cases j with
      |zero=>
       cases a;cases b;exact⟨p,Q,rfl,J,Oe L⟩
      |succ j=>exact A j v l a b
   ·cases a
def SQ:GN
 |[.ref n],st=>(Ig st n).bind λds=>(P6 ds).bind λd=>if fits d.length=true then some (.ref st.length,st++[.dk (Oj [] d)])else none
 |_,_=>none
def zY(f:X.calm=true):Jy X (.type "dict") SQ:=by
 exists 0;unfold SQ at e;split at e
 ·rename_i n;obtain⟨zs,h,e⟩:=Hs e;obtain⟨c,m,e⟩:=Hs e;exists 3;cases e;obtain⟨v,rfl,p,rfl,w⟩:=R.one;obtain⟨u,rfl,x⟩:=r.one;cases x;obtain⟨C,A,E⟩:=KG S w h;obtain⟨its,K,pl,F⟩:=I.list A;obtain⟨b,kvs,a1,a2,P,i,j⟩:=VA I E m K;have g:kvs.length<=sizeLine:=by
   rw[i];exact of_decide_eq_true hf
  refine zha (I.ok.hd f) pl P g j λG tk l q=>?_;have y:b.length=kvs.length:=Be a2;have hm:(M6 [] b).length<=sizeLine:=by have:=XB b [];rw[Bg]at this;omega
  exists 6;refine⟨.ref s.heap.objs.size,_,I.laid (a:=s.heap.objs.size) (o:=.dK (M6 [] b)) (t':=tk) q (Ag _)<|Vr hm hd (a2.merge .nil) l,rfl,?_⟩;obtain⟨z,B⟩:=Qi (o:=.dK (M6 [] b)) (ob:=.dk (Oj [] c)) S (I.hok.fresh<|Ag _) λJ T e=>⟨_,e,bC (KR.mono T a1) .nil⟩
  exact k _ _ [s.heap.objs.size] z B ⟨s.heap.objs.size,rfl,by rw[<-S.len];exact getElem?_len io _⟩
 ·cases e
end
def UY(n:Nat)(f:Nat->Option V):It:=⟨λi _=>i<n,λi H v a=>a=H/\f i=some v,λi _=>n<=i⟩
def zkG:List String:=["enumerate","zip","dict_itemiterator","dict_reverseitemiterator","odict_iterator","itertools.zip_longest","itertools.pairwise"]
variable {tg:Pv}
def zjy(it:Addr)(n:Nat)(f:Nat->Option V){R:Nat->IR->Prop}{T:Nat->PP->Prop}(W:∀A:Around,A.handled=none->Walks P w A it [it] [it] n R T)(F:∀i v,R i v->∃x,f i=some x/\RelV x v) (l:∀i h,T i h->∃o nm vs,h.get? it=some o/\o.cls=.type nm/\o.data=.fields vs/\zkG.contains nm=false)(j:∀(A:Around) (i:Nat) (s:Shared) (Q:Qqa) (E:Qqa),T i s.heap->Q (.ref it) s->wpAny (KF P w) A (pyIter<|.ref it) Q E s):
  Turn P w K tg (UY n f) [it] it (λi h=>i<=n/\T i h) where
 mem:=by simp
 obj:=λi h st b a=>by
  have e:b=it:=by simpa using a
  subst e;obtain⟨o,nm,vs,e,c,d,_⟩:=l i h st.2;exact⟨o,e,λv z=>by rw[d]at z;cases z⟩
 keep:=λi h g st k=>⟨st.1,(W {} rfl).frame i h g st.2 k⟩
 item:=by intro X p hw q r i C s σ H E I hf st m;subst p hw q;obtain⟨f0,f1,f2,u,f4,y⟩:=hf it (!2);refine(W X.A<|I.ok.hd r).item i s _ _ m st.2 λv g tk G st' B=>?_;obtain⟨x,J,L⟩:=F i v G;have M:Inv X C σ H {s with heap:=g,toks:=tk}:=I.turned (λb o a e=>B b o (by simpa using a) e) f0 f1 u f4 y;obtain⟨o,nm,vs,e,c,d,N⟩:=l (i+1) g st';exact⟨_,rfl,QR (s:={s with heap:=g,toks:=tk}) e c d N ⟨x,H,M,L,⟨rfl,J⟩,⟨m,st'⟩,λb a=>(hf b a).1⟩⟩
 done:=by intro X p hw q r i C s σ H E I hf st m;subst p hw q;obtain⟨f0,f1,f2,u,f4,y⟩:=hf it (!2);have e:i=n:=Nat.le_antisymm st.1 m;subst e;exact(W X.A<|I.ok.hd r).done s _ _ st.2 λg tk B=>⟨rfl,I.turned (λb o a e=>B b o (by simpa using a) e) f0 f1 u f4 y⟩
 self:=λA i s Q E st h=>j A i s Q E st.2 h
variable {n:Nat}
def oG{H:Hp}{io:List Addr}{ds:List D}{f:Nat->Option V}(hn:n=ds.length)(hf:∀i d,ds[i]?=some d->∃v,f i=some v/\∀H io,Rep K H io v d):Lx K H io ⟨ds,[]⟩ (UY n f) where
 go:=λi d H1 c s hd e a g=>by have b:i<ds.length:=(KB.mp hd).1;refine⟨by show i<n;omega,λx w y=>?_⟩;obtain⟨rfl,y⟩:=y;obtain⟨v,h,m⟩:=hf i d hd;rw[h]at y;cases y;exact⟨Ext.refl,a,m _ _⟩
 stop:=λH1 c s e a g=>by show n<=ds.length;omega
 stop':=λH1 c s i b e a g=>by show n<=i;have b:ds.length<=i:=b;omega
variable {l:Pv}{es:List Pv}{mm:MA}{mt:MT}{ms:MS}{body:List Stmt}{z:Str}
def signs(z:Str):List D:=z.cps.toList.map λc=>D.str ⟨#[c]⟩
def P7(z:Str)(i:Nat):Option V:=z.cps[i]?.map λc=>V.str ⟨#[c]⟩
def zV(d:A.handled=none)(I:Addr)(x:Str)(t:Tok):Walks P w A I [I] [I] x.cps.size (SignAt x) (λi h=>h.IsStrIter I (strIterType x) x t i):=by
 unfold strIterType;cases x.cps.all (· < 128)
 ·exact Walks.strWide d I x t
 exact Walks.strAscii d I x t
def xP(it:Addr)(x:Str)(t:Tok):Turn P w K tg (UY x.cps.size<|P7 x) [it] it (λi h=>i<=x.cps.size/\h.IsStrIter it (strIterType x) x t i):=
 zjy it x.cps.size (P7 x) (λA a=>zV a it x t) (λi v ⟨c,u,b,g⟩=>⟨.str ⟨#[c]⟩,by unfold P7;rw[b];rfl,u,g⟩)
  (λi h ⟨o,e,c,d⟩=>⟨o,_,_,e,c,d,by unfold strIterType;split<;>decide⟩) λA i s Q E st h=>by
   unfold strIterType at st;split at st
   ·exact wpAny_pyIter_striter_ascii st h
   exact wpAny_pyIter_striter_wide st h
def YB(d:TE):TI:=λσ H R=>d σ H λx H1=>∃z,x=.str z/\R (UY z.cps.size<|P7 z) H1
def mJ{d:TE}(f:PE X l d):PI X tg l (YB d):=by
 intro a s σ H R I h;refine HB (f a s σ H _ I h) ?_;rintro v s1 ⟨x,H1,I1,c,g⟩;obtain⟨z,e,q⟩:=g;subst e;obtain⟨t,rfl⟩:=c;refine wpAny_pyIter_strU ?_;refine⟨s1.heap.objs.size,[s1.heap.objs.size],_,_,H1,rfl,I1.kept (t':=s1.toks) λb o e=>Ad _ e,xP _ z t,⟨A5 _,_,Ap _ rfl,rfl,rfl⟩,λb m=>?_,q⟩;have e:b=s1.heap.objs.size:=by simpa using m
 subst e;exists 15
def signs_get{i:Nat}{d:D}(h:(signs z)[i]?=some d):∃v,P7 z i=some v/\∀H io,Rep K H io v d:=by unfold signs at h;rw[Az]at h;obtain⟨c,a,e⟩:=Ia h;subst e;refine⟨.str ⟨#[c]⟩,?_,λH io=>rfl⟩;unfold P7;rw[Bn]at a;rw[a];rfl
def zlK(z:Str):z.cps.size=(signs z).length:=by unfold signs;rw[Af,AO]
def iC(m:ME):MI:=λU st=>(!9).bind λ(d,s)=>match d with
 |.str z=>some (⟨signs z,[]⟩,s)
 |_=>none
def pC(f:SE X l m):SI X tg l (iC m):=PI.imp (mJ f) <| by
 exists 11;obtain⟨⟨d,s1⟩,a,e⟩:=Hs e;exists 10;split at e
 ·rename_i z;cases e;refine⟨U,st,io,_,_,E,S,a,λv H1 b c g n=>?_⟩;exact⟨z,n,k _ H1 b c g<|oG (zlK z) λi d h=>signs_get h⟩
 ·cases e
def J3(m:ME):MI:=λU st=>(!9).bind λ(d,s)=>LZ (Mu d s)<|match d with|.str z=>some (⟨signs z,[]⟩,s)|_=>none
def Nc(f:SE X l m):SI X tg l (J3 m):=by
 rintro a s σ H R I ⟨U,st,io,W,st',E,S,e0,k⟩;obtain⟨⟨d,s1⟩,b,e0⟩:=Hs e0;rcases NC e0 with e0|e0
 ·exact sL f a s σ H R I ⟨U,st,io,W,st',E,S,by unfold mW;rw[b];exact e0,k⟩
 exact pC f a s σ H R I ⟨U,st,io,W,st',E,S,by unfold iC;rw[b];exact e0,k⟩
def J1(c:MT)(m:MS):Nat->MS
 |0=>λ_ _=>none
 |n+1=>λU st=>(c U st).bind λ(b,s)=>if b=true then(m U s).bind λ(f,s2)=>match f with
   |.nx i=>J1 c m n i s2
   |.ct i=>J1 c m n i s2
   |.bk i=>some (.nx i,s2)
   |.rt d=>some (.rt d,s2)
  else some (.nx U,s)
def xK(F:PassesOwn (!4) X.A X.env X.xe)(G:SB X c mt)(I:KN X body ms):SS X (.While c body [] pos) (J1 mt ms n):=PS.imp (vX F G I) λN σ H h=>by
 exists 2;refine⟨λk σ2 d=>∃x s2 g,Ext io g H d/\HA X.K d (io++g) s2/\HK X.K d (io++g) σ2 x/\J1 mt ms k x s2=some (f,st'),⟨n,U,st,[],Ext.refl,S.nil,by rw[An];exact E,e⟩,?_⟩;rintro k σ2 d ⟨x,s2,g,X2,i,E2,a⟩;have r:Wn X.K (io++g) d st' N f:=w.on X2 i
 cases k with
 |zero=>cases a
 |succ k=>
  obtain⟨⟨b,s3⟩,J,a⟩:=Hs a;refine⟨x,s2,io++g,b,s3,E2,i,J,λu z P j=>?_⟩;have X23:=X2.trans i P;have v:HA X.K u (io++(g++z)) s3:=by rw[<-Am];exact j
  dsimp only;cases b with
  |false=>
   rw[if_neg (!1)];have a:some (Fl.nx x,s3)=some (f,st'):=a;cases a;exact r σ2 u z P j<|E2.ext i P
  |true=>
   rw[if_pos rfl];obtain⟨⟨f4,s4⟩,L,a⟩:=Hs (show(ms x s3).bind _=some (f,st') from a);refine⟨λσ5 q=>∃o s5 l,Ext io l H q/\HA X.K q (io++l) s5/\HK X.K q (io++l) σ5 o/\J1 mt ms k o s5=some (f,st'),λσ5 q M=>⟨k,Cn k,M⟩,?_⟩;refine O6 (E2.ext i P) j L ?_;have fin:∀{m:HX},J1 mt ms k m s4=some (f,st')->∀σ7 s p,Ext (io++g++z) p u s->HA X.K s (io++g++z++p) s4->HK X.K s (io++g++z++p) σ7 m ->
     ∃o s5 l,Ext io l H s/\HA X.K s (io++l) s5/\HK X.K s (io++l) σ7 o/\J1 mt ms k o s5=some (f,st'):=by
    intro m Q σ7 s p y B C;rw[Am io]at y;rw[Am io,Am io]at B C;exact⟨m,s4,(g++z)++p,X23.trans v y,B,C,Q⟩
   cases f4 with
   |nx m=>exact fin a
   |ct m=>exact fin a
   |bk m=>
    cases a;exact r.on P j
   |rt T=>
    cases a;exact r.on P j
def VN:GN
 |[.str z],st=>if fits z.cps.size=true then some (.ref st.length,st++[.lst (signs z)])else none
 |_,_=>none
def zjR{acc:Array IR}(h:ItemsOf (SignAt z) acc z.cps.size):Vals (z.cps.toList.map λc=>V.str ⟨#[c]⟩) acc.toList:=by
 have aux:∀(l:List Nat) (a:List IR),a.length=l.length->(∀(j:Nat) (v:IR),a[j]?=some v->∃(c:Nat) (u:Tok),l[j]?=some c/\v=Em ⟨#[c]⟩ u)->Vals (l.map λc=>V.str ⟨#[c]⟩) a:=by
  intro l
  induction l with
  |nil=>intro a b _;cases (CG b);exact .nil
  |cons c l ih=>
   intro a b e;cases a with
   |nil=>simp at b
   |cons v a=>
    obtain⟨m,u,g,rfl⟩:=e 0 v rfl;cases (show c=m by simpa using g)
    exact .cons ⟨u,rfl⟩<|ih a (by simpa using b) λj v h=>by simpa using e (j+1) v (by simpa using h)
 refine aux _ _ (by rw[AO,h.1,AO]) λj v n=>?_;obtain⟨c,u,g,e⟩:=h.2 j v (by rw[<-Bn];exact n);exact⟨c,u,by rw[Bn];exact g,e⟩
def zjS(z:Str):Hi K H io (z.cps.toList.map λc=>V.str ⟨#[c]⟩) (signs z):=by
 unfold signs;generalize z.cps.toList=l
 induction l with
 |nil=>exact rfl
 |cons c l a=>exact Hi.cons rfl a
def zjd(f:X.calm=true):Jy X (.type "list") VN:=by
 rintro n s σ H xs us Q I r ⟨ds,st,io,d,st',R,S,e,k⟩;unfold VN at e;split at e
 ·rename_i z;exists 3;cases e;obtain⟨v,rfl,rfl⟩:=R.one;obtain⟨u,rfl,l⟩:=r.one;obtain⟨t,rfl⟩:=l;have h:z.cps.size<=sizeLine:=of_decide_eq_true hf;refine call_list_str (hn:=h) (I.ok.hd f) z t λw tk acc m hk g a=>?_;refine⟨.ref s.heap.objs.size,upd H s.heap.objs.size<|.lst<|z.cps.toList.map λc=>V.str ⟨#[c]⟩,I.laid (t':=tk) (λb o q=>hk b o q) (Ag _) ⟨by rw[Af,AO];exact h,acc.toList,m,zjR a,by simpa using g⟩,rfl,?_⟩;exact k.lst S (zjS z)<|I.hok.fresh<|Ag _
 ·cases e
def Vg:GN:=LL SX VN
def zle(d:X.calm=true):Jy X (.type "list") Vg:=Qs zlc<|zjd d
def slK:D->Option Int->Option Int->Hh->Option (D×Hh):=λx lo a st=>match x with
 |.kl ds=>some (.ref st.length,st++[.lst (cutD ds lo a)])
 |_=>none
def ML:D->Option Int->Option Int->Hh->Option (D×Hh):=λx lo a st=>LZ (Ye x lo a st)<|slK x lo a st
def Jw(m:ME)(l h:MO):ME:=λU st=>(!9).bind λ(x,s1)=>(l U s1).bind λ(lo,s2)=>(h U s2).bind λ(a,s3)=>ML x lo a s3
def OF{lo hi:Option Pv}{f i:MO}(he:SE X e m)(j:SO X lo f)(o:SO X hi i):SE X (.Subscript e (.Slice lo hi none p2) pos) (Jw m f i):=by
 rintro n s σ H Q I ⟨U,st,io,d,st',E,S,e0,k⟩;obtain⟨⟨x,s1⟩,w,e0⟩:=Hs e0;obtain⟨⟨b,s2⟩,z,e0⟩:=Hs e0;obtain⟨⟨c,s3⟩,A,e0⟩:=Hs e0;rcases NC e0 with e0|e0
 ·exact zlN he j o n s σ H Q I ⟨U,st,io,d,st',E,S,by simp only[Sl,w,z,A,Ae];exact e0,k⟩
 ·refine Wj aW he j o n s σ H Q I ?_;refine⟨U,st,io,x,s1,E,S,w,λv1 H1 K g a R1=>⟨U,s1,io++K,b,s2,E.ext S g,a,z,λG v h l=>⟨U,s2,(io++K)++v,c,s3,(E.ext S g).ext a h,l,A,λJ L P u=>?_⟩⟩⟩;have y:=(R1.ext a h).ext l P;have B:=((k.on a g).on l h).on u P
  cases x with
  |kl ds=>
   cases e0;obtain⟨p,xs,rfl,C,r⟩:=y;exact⟨p,xs,rfl,C.sq,λq F=>B.lst u (Wc r _ _) F⟩
  |_=>cases e0
def Z8:G2
 |.str i,.str j,st=>some (.bl (!(!(Builtin.Str.occurrences j i 0 j.length 1).isEmpty)),st)
 |_,_,_=>none
def zkh:Ji X (SL .NotIn) Z8:=by
 rintro a s σ H x y v u Q I b c ⟨g,h,st,io,d,st',l,m,S,e,k⟩;cases g with
 |str i=>
  cases h with
  |str j=>cases e;exact zhx a s σ H x y v u Q I b c ⟨i,j,l,m,k.now S rfl⟩
  |_=>cases e
 |_=>cases e
def Kn:G2:=JL Tf Z8
def RB(i:X.A.units+100<cLine)(d:SE X a ma)(f:SE X b mb)(hm:behindInMarks .NotIn b=false:=by rfl):SB X (.Compare a [.NotIn] [b] pos) (mT<|mB Kn ma mb):=VF (zlU i d f hm) (JN zkh d f hm)
end L2.MP
namespace PySem.F
end PySem.F
namespace PySem
open Builtin
end PySem
namespace L2.MP
open PySem PySem.Spec PyProof.Rows
variable {st:Hh}{m ma mb:ME}{mm:MA}
section
variable {U U1:HX}{s1:Hh}{n o:ME}{ms mq:MS}{mt mu:MT}{d:D}{ml mh:MO}
@[simp] theorem zwn:J3 m U st=(!9).bind λp=>LZ (Mu p.1 p.2) (match p.1 with|.str z=>some (⟨signs z,[]⟩,p.2)|_=>none):=rfl
@[simp] theorem zv1:Jw m ml mh U st=(!9).bind λp=>(ml U p.2).bind λq=>(mh U q.2).bind λr=>ML p.1 q.1 r.1 r.2:=rfl
end
def ZF:W1 "sum"=some (.builtin "sum"):=by decide +kernel
def kN:W1 "any"=some (.builtin "any"):=by decide +kernel
variable {X:Cx}{K:Ab}{H:Hp}{io:List Addr}{st':Hh}{b c e:Pv}{mc:ME}{pos:Pos}{qp:List (Addr×Obj)}{σ:L2.St}{s:Shared}
section
variable {a:Pv}{es:List Pv}
def QS:List D->Option (List Int)
 |[]=>some []
 |.int i::r=>(QS r).map λis=>i::is
 |_=>none
theorem bO:∀{f:List V}{its:List IR}{ds:List D}{ns:List Int},Hi K H io f ds->Vals f its->QS ds=some ns->its.length=ns.length/\∀(j:Nat) (v:IR),its[j]?=some v->∃t,v=DO (ns.getD j 0) t
 |_,_,[],ns,h,r,e=>by
  cases e;cases (show _=[] from h)
  cases r;exact⟨rfl,λj v h=>by simp at h⟩
 |_,_,d::ds,ns,h,r,e=>by
  obtain⟨y,f,rfl,g,n⟩:=h;cases d with
  |int i=>
   obtain⟨is,b,e⟩:=Ia e;subst e;cases r with
   |cons c m=>
    cases (show y=.int i from g)
    obtain⟨t,rfl⟩:=c;obtain⟨l,q⟩:=bO n m b;refine⟨by simp[l],λj v a=>?_⟩
    cases j with
    |zero=>cases a;exact⟨t,rfl⟩
    |succ j=>simpa using q j v (by simpa using a)
  |_=>cases e
def Ot(i:Int):Bool:=decide (-1000000<=i)&&decide (i<=1000000)
def LY:GN
 |[.ref n],st=>(Ig st n).bind λds=>(QS ds).bind λns=>if(ns.all Ot&&decide (ns.length<=100000))=true then some (.int ns.sum,st)else none
 |_,_=>none
theorem WX:∀(ns:List Int) (j:Nat),j<=ns.length->preSum (λi=>ns.getD i 0) j=(ns.take j).sum
 |ns,0,_=>by simp[preSum]
 |ns,j+1,h=>by
  have d:j<ns.length:=h;have a:(ns.take<|j+1).sum=(ns.take j).sum+ns[j]:=by rw[Bd,Ah d];simp only[Option.toList_some,List.sum_append,GU,List.sum_nil,Int.add_zero]
  rw[preSum,WX ns j (!0),a];simp only[Ax,Ah d,Ds]
theorem eA:∀{ns:List Int},ns.all Ot=true->-1000000*(ns.length:Int)<=ns.sum/\ns.sum<=1000000*(ns.length:Int)
 |[],_=>by simp
 |i::ns,h=>by
  rw[GQ,Aq]at h;obtain⟨d,f⟩:=h;unfold Ot at d;rw[Aq]at d;have a1:=of_decide_eq_true d.1;have a2:=of_decide_eq_true d.2;have a:=eA f;rw[GU,Aw]
  push_cast
  omega
def dN(y:X.calm=true):Jy X (.builtin "sum") LY:=by
 exists 0;unfold LY at e;split at e
 ·rename_i n;obtain⟨P,z,e⟩:=Hs e;obtain⟨ns,B,e⟩:=Hs e;exists 3;cases e;rw[Aq]at hf;have a:=hf.1;have hlen:=of_decide_eq_true hf.2;obtain⟨v,rfl,p,rfl,C⟩:=R.one;obtain⟨u,rfl,E⟩:=r.one;cases E;obtain⟨T,h,F⟩:=KG S C z;obtain⟨m,G,pl,U⟩:=I.list h;obtain⟨l,K⟩:=bO F G B;refine call_sum_walk<|Di pl.isList ?_;have f:p<s.heap.objs.size:=by
   obtain⟨o,_,e,_⟩:=pl;exact Aj e
  refine⟨_,_,_,_,_,_,λi=>ns.getD i 0,rfl,Walks.list (A:=X.A.in1) (I.ok.hd y) s.heap.objs.size p (Au f) m.toArray,⟨⟨_,Ap _ rfl,rfl,rfl⟩,?_⟩,?_,?_,?_,λW tk w hk=>?_⟩
  ·obtain⟨o,nn,e,c,Y,sq⟩:=pl;exact⟨o,Ad _ e,c,nn,sq⟩
  ·intro b hb;rw[Ba];simp at hb
   rcases hb with hb|hb
   ·rw[hb];exact Cn _
   rw[hb];exact Dm f
  ·intro i v J;exact K i v<|by simpa using J
  ·intro j g;have g:j<ns.length:=by simpa[l]using g
   have b1:Ot (ns.getD j 0)=true:=by rw[Ax,Ah g];exact List.all_eq_true.mp a _<|Bj g
   have L:(ns.take<|j+1).all Ot=true:=List.all_eq_true.mpr λx h=>List.all_eq_true.mp a x<|Fj h;have Z:=eA L;rw[WX ns (j+1) g];unfold Ot at b1;rw[Aq]at b1;have a1:=of_decide_eq_true b1.1;have a2:=of_decide_eq_true b1.2;have M:(ns.take<|j+1).length<=100000:=by rw[A3];omega
   unfold InLong;dsimp only;omega
  ·refine⟨.int _,H,I.kept (t':=tk) λb o q=>hk b o ?_ (Ad _ q),⟨w,rfl⟩,?_⟩
   ·simp;exact Au<|Aj q
   ·have N:preSum (λi=>ns.getD i 0) m.toArray.size=ns.sum:=by
     rw[Ay,l,WX ns ns.length (Ag _),AR]
    rw[N];exact k.now S rfl
 ·cases e
end
variable {d it:Addr}{es:Array DictEntry}{prog:Re}{w:Wp}{A:Around}{E:Qqa}{ep i:Nat}
def WJ{o:Obj}{R:Qqa}(ty:s.TypeIs (.ref d) "dict")(hd:(d==sysModules)=false)(g:s.heap.get? d=some o)(a:o.data=.dict es ep)(k:R (.ref s.heap.objs.size) {s with heap:=s.heap.push {cls:=.type "dict_keyiterator",data:=.fields #[.ref d,.int 0 0,.int es.size 0,.int ep 0]} }):wpAny (!5) A (pyIter<|.ref d) R E s:=by
 refine wpAny_pyIter_slot ty F.slot_dict_iter<|Bc F.slot_dict_iter ty F.entry_dict_iter ?go<|F.args_dict_iter_1 _;unfold Builtin.«dict.__iter__»;refine Aa ?_;unfold Builtin.Dict.dictSlotNone;refine Aa<|Cc ty ?_;show wpAny _ _ (pure<|AE d) _ _ s;refine Ac ?_;show wpAny _ _ (Builtin.Dict.showsAll d >>= _) _ _ s;unfold Builtin.Dict.showsAll;rw[if_neg (by rw[hd];exact AY)];refine Aa<|Ac<|Aa<|B0 g a<|Aa<|Ez g a ?_;refine Aa (AN<|Ac ⟨_,rfl,"dict_keyiterator",_,⟨_,Ap _ rfl,rfl⟩,F.slot_dict_keyiterator_next.lookup,?_⟩);simpa[rawInt]using k
def cT{o:Obj}{a:DictEntry}{R:Option IR->Shared->Prop}(hit:s.heap.IsKeyIter it d i es.size ep)(g:s.heap.get? d=some o)(f:o.data=.dict es ep)(h:es[i]?=some a)(k:∀h',h'.IsKeyIter it d (i+1) es.size ep->BD it s.heap h'->R (some a.key) {s with heap:=h'}):wpAny (!5) A (pyNext<|.ref it) R E s:=by
 obtain⟨io,c,m,b⟩:=id hit;have own:Builtin.Dict_items.ownsTuple "dict_keyiterator"=false:=by decide
 unfold pyNext;refine Aa (DY<|A7 (name:=BF "__next__") hit.typeIs F.slot_dict_keyiterator_next<|Bc F.slot_dict_keyiterator_next hit.typeIs F.entry_dict_keyiterator_next ?_<|F.args_dict_keyiterator_next_1 _);refine Aa<|Ac<|Aa<|Aa ?_;refine Aa<|B2 hit.typeIs<|Ac<|Aa<|wpAny_fieldsOf c b ?_;simp only[own,AJ,if_false];show wpAny _ _ (if(AE d==Bk)=true then _ else _) _ _ s;rw[if_neg (show ¬(AE d==Bk)=true from λz=>AY z)];refine Aa<|Ac<|Aa<|B0 g f ?_;rw[if_neg (!2)];refine Aa<|Ac<|Aa<|Ez g f ?_;rw[if_neg (!2)];refine Ac ?_;have H:¬((i:Int)<0):=by omega
 simp only[H,if_false,Bz,h];refine Aa<|Aa<|B2 hit.typeIs<|Ac<|Aa<|E4 hit.typeIs ?_;show wpAny _ _ (setField (.ref it) 1 (rawInt<|(i:Int)+1) >>= _) _ _ s;refine Aa<|DM c b (!2) ?_;have e:(s.heap.update it (GV (·.setIfInBounds 1 (rawInt<|(i:Int)+1)))).IsKeyIter it d (i+1) es.size ep:=⟨_,BQ _ c<|EZ<|Da b _,(F3 ..).trans m,by rw[Da b];simp[rawInt]⟩
 refine Aa (AM (Aa (E4 (s:={s with heap:=s.heap.update it (GV (·.setIfInBounds 1 (rawInt<|(i:Int)+1)))}) e.typeIs ?_)));show wpAny _ _ (pure a.key) _ _ _;exact Ac<|Ac ⟨_,rfl,Ac<|k _ e<|B4 ..⟩
def cU{o:Obj}{R:Option IR->Shared->Prop}(h:A.handled=none)(hit:s.heap.IsKeyIter it d i es.size ep)(g:s.heap.get? d=some o)(f:o.data=.dict es ep)(j:es[i]?=none)(k:∀h',EN it s.heap h'->R none {s with heap:=h'}):wpAny (!5) A (pyNext<|.ref it) R E s:=by
 obtain⟨io,e,K,c⟩:=id hit;have own:Builtin.Dict_items.ownsTuple "dict_keyiterator"=false:=by decide
 unfold pyNext;refine Aa (DY<|A7 (name:=BF "__next__") hit.typeIs F.slot_dict_keyiterator_next<|Bc F.slot_dict_keyiterator_next hit.typeIs F.entry_dict_keyiterator_next ?_<|F.args_dict_keyiterator_next_1 _);refine Aa<|Ac<|Aa<|Aa ?_;refine Aa<|B2 hit.typeIs<|Ac<|Aa<|wpAny_fieldsOf e c ?_;simp only[own,AJ,if_false];show wpAny _ _ (if(AE d==Bk)=true then _ else _) _ _ s;rw[if_neg (show ¬(AE d==Bk)=true from λz=>AY z)];refine Aa<|Ac<|Aa<|B0 g f ?_;rw[if_neg (!2)];refine Aa<|Ac<|Aa<|Ez g f ?_;rw[if_neg (!2)];refine Ac ?_;have H:¬((i:Int)<0):=by omega
 simp only[H,if_false,Bz,j];refine Aa<|Aa<|B2 hit.typeIs<|Ac ?_;show wpAny _ _ (setField (.ref it) 0 .none >>= _) _ _ s;refine Aa<|DM e c (!2) ?_;show wpAny _ _ (newExc (.type "StopIteration") [] >>= _) _ _ _;simp only[newExc,newTuple];refine Aa (Aa<|AN (Aa (m:=firstArgMember _ _)<|Gb (a:=Bk) (by first|rfl|(simp only[firstArgMember];rfl))<|AN ?_<|by size_fits)<|by size_fits);simp only[raiseNew];refine Aa<|wpAny_handled ?_;rw[show A.in1.handled=none from h];refine Aa<|Ac<|wpAny_throw ?_;refine Aa (wpAny_isInstance (T:="StopIteration") (b:=true) ⟨_,Ap _ rfl,rfl⟩ isSubtype_stop<|Ac ?_);exact k _<|((B4 ..).extBut.push _).push _
def iH(o:Obj)(d:Addr):It:=
 ⟨λi H=>∃c p,H d=some (.frz o<|.dT c)/\c[i]?=some p,λi H x e=>∃b c k v,e=H/\x=.ref b/\H d=some (.frz o<|.dT c)/\c[i]?=some (k,v)/\H b=some (.tup<|k.map kV),
  λi H=>∃c,H d=some (.frz o<|.dT c)/\c.length<=i⟩
variable {tg:Pv}
def zT{P:Re}{o:Obj}(d it:Addr)(a:o.data=.dict es ep):
  Turn P w K tg (iH o d) [it] it (λi h=>h.IsKeyIter it d i es.size ep) where
 mem:=by simp
 obj:=λi h st b m=>by obtain⟨ob,e,c,l⟩:=st;rw[On.mp m];exact⟨_,e,λv z=>by rw[l]at z;cases z⟩
 keep:=λi h f st k=>st.at λob e=>k it (!2) ob e
 item:=by intro X n hw p y i qp s σ H E I hf st q;subst n hw p;obtain⟨B,⟨k,v⟩,j,r⟩:=q;obtain⟨g,C,ent⟩:=Qt (I.hok d _ j) a;obtain⟨F,b,he,A,m,L⟩:=ent i k v r;obtain⟨f0,f1,f2,u,f4,x⟩:=hf it (!2);refine cT st g a he λf st' sb=>?_;have G:Inv X qp σ H {s with heap:=f}:=I.turned (t':=s.toks) (λb o m e=>(sb.2 b m).trans e) f0 f1 u f4 x;obtain⟨ob,e,c,l⟩:=id st';exact⟨F.key,rfl,QR (s:={s with heap:=f}) e c l (!1) ⟨.ref b,H,G,by rw[A];rfl,⟨b,B,k,v,rfl,rfl,j,r,m⟩,st',λb m=>(hf b m).1⟩⟩
 done:=by intro X n hw p y i qp s σ H E I hf st q;subst n hw p;obtain⟨B,j,r⟩:=q;obtain⟨g,C,_⟩:=Qt (I.hok d _ j) a;obtain⟨f0,f1,f2,u,f4,x⟩:=hf it (!2);exact cU (I.ok.hd y) st g a (by simp;omega) λf J=>⟨rfl,I.turned (t':=s.toks) (λb o m e=>J b o m e) f0 f1 u f4 x⟩
 self:=λ_ _ _ _ _ st h=>Fk st h
variable {n:Nat}{o:Pv}{p:Addr}{y:V}
def Js(kvs:List (List Key×D)):List D:=kvs.map λp=>.tup<|p.1.map So
def P8:D->Hh->Option (Wk×Hh)
 |.ref n,s=>match s[n]? with
  |some (.dt kvs)=>some (⟨Js kvs,[]⟩,s.set n (.ft kvs))
  |_=>none
 |_,_=>none
def oB{o:Obj}{ps:List (List Key×V)}{kvs:List (List Key×D)}(S:HA K H io st)(hn:io[n]?=some p)(f:H p=some (.frz o<|.dT ps))(r:KR (List Key) K H io ps kvs):Lx K H io ⟨Js kvs,[]⟩ (iH o p) where
 go:= λi d H1 X s hd X1 E g=>by
  have u:=X1.frz _ _ _ f;have hd:(Js kvs)[i]?=some d:=hd;unfold Js at hd;rw[Az]at hd;obtain⟨⟨k,y⟩,hk,rfl⟩:=Ia hd;have get:∀{l:List (List Key×V)} {m:List (List Key×D)} {i:Nat},KR (List Key) K H io l m->m[i]?=some (k,y)->∃v,l[i]?=some (k,v):=by
   intro l m i q
   induction q generalizing i with
   |nil=>intro e;simp at e
   |@cons a b _ _ h t C=>
    cases i with
    |zero=>
     intro e;simp at e;subst e;obtain⟨a1,a2⟩:=a;have z:a1=k:=h.1;subst z;exact⟨a2,rfl⟩
    |succ j=>intro e;exact C<|by simpa using e
  obtain⟨v,B⟩:=get r hk;refine⟨⟨ps,_,u,B⟩,λx J F=>?_⟩;obtain⟨b,G,L,M,rfl,rfl,c,w,I⟩:=F;rw[u]at c;cases c;rw[B]at w;cases w;exact⟨Ext.refl,E,⟨b,_,rfl,I,T8 k⟩⟩
 stop:=λH1 X s X1 E g=>⟨ps,X1.frz _ _ _ f,by show ps.length<=(Js kvs).length;unfold Js;rw[Af,KR.length r];exact Ag _⟩
 stop':=λH1 X s i A X1 E g=>⟨ps,X1.frz _ _ _ f,by have A:(Js kvs).length<=i:=A;unfold Js at A;rw[Af,<-KR.length r]at A;exact A⟩
def OQ(m:ME):MI:=λU st=>(!9).bind λ(d,s)=>P8 d s
def aV(F:SE X o m):SI X tg o (OQ m):=by
 rintro qp s σ H R I ⟨U,st,io,W,st',E,S,e,k⟩;obtain⟨⟨d,s1⟩,G,e⟩:=Hs e;cases d with
 |ref n=>
  unfold P8 at e;exists 10;split at e
  ·rename_i A l;cases e;refine HB (F qp s σ H (λv c=>∃i,Ext io i H c/\HA X.K c (io++i) s1/\Rep X.K c (io++i) v (.ref n)) I ⟨U,st,io,_,s1,E,S,G,λv1 H1 w X1 S1 a=>⟨w,X1,S1,a⟩⟩) ?_;rintro v s2 ⟨x,H1,I1,L,w,X1,S1,a⟩;obtain⟨p,rfl,f⟩:=a;cases L;obtain⟨h,y,r⟩:=S1.ob n p _ f l;obtain⟨t1,Z,M⟩:=M4 I1<|.inr ⟨h,.inl y⟩;obtain⟨_,_,xs,_,o,es,ep,g,_,B,_,_⟩:=I1.hok p _ y;refine WJ (o:=o) (es:=es) (ep:=ep) t1 M g B ?_;have J:=I1.kept (t':=s2.toks) (h':=s2.heap.push {cls:=.type "dict_keyiterator",data:=.fields #[.ref p,.int 0 0,.int es.size 0,.int ep 0]}) λb u q=>Ad _ q;have N:=Inv.freeze J y (Ad _ g) (!2) (!2) (!2) (!2);obtain⟨X2,C⟩:=M7 (o:=.frz o (.dT h)) (ob:=.ft A) S1 f l (λo u z=>by rw[y]at z;cases z) λc T P=>⟨o,h,P,KR.mono T r⟩
   refine⟨_,[_],_,_,_,rfl,N,zT p _ B,⟨_,Ap _ rfl,rfl,rfl⟩,λb Q=>?_,?_⟩
   ·rw[On.mp Q];refine I1.fpOk (Ag _) ?_;rw[HV (BJ<|Au<|Aj g)];exact I1.hok.fresh<|Ag _
   ·have j:((io++w)++[])[n]?=some p:=by rw[An];exact f
    have Y:=KR.mono (ka:=[]) (X2.kp S1) r;have ok:=oB C j Le Y;refine k _ _ (w++[]) (X1.trans S1 X2) (by rw[<-Am];exact C) (by rw[<-Am];exact ok)
  ·cases e
 |_=>cases e
def Jk(st:Hh)(n:Nat)(k:D):Option (Option D):=match st[n]? with
 |some (.ft b)=>match k with
  |.tup ds=>(keysOf ds).map λq=>HN b q
  |_=>none
 |_=>none
def cY{k:D}{r:Option D}(S:HA K H io st)(a:io[n]?=some p)(f:Rep K H io y k)(h:Jk st n k=some r):∃o,IV H p y o/\((r=none/\o=none)\/∃d v,r=some d/\o=some v/\Rep K H io v d):=by
 unfold Jk at h;split at h
 ·rename_i m e
  split at h
  ·rename_i ds;obtain⟨q,s,h⟩:=Ia h;subst h;obtain⟨ob,w,A,r⟩:=S.ob n p _ a e;obtain⟨b,xs,rfl,E,rs⟩:=f;have ex:=Pn rs s;subst ex;refine⟨_,.inr ⟨w,q,b,.inr ⟨ob,A⟩,rfl,E,rfl⟩,?_⟩
   rcases KR.val r q with⟨c,i⟩|⟨d,v,c,i,X⟩
   ·exact .inl ⟨c,i⟩
   exact .inr ⟨d,v,c,i,X⟩
  ·cases h
 ·cases h
variable {sl:Addr}{Q:Qqa}{α β:Type}
def zji{t:Tok}{Q:Int×Int×Nat->Shared->Prop}(a:s.heap.IsSliceOf sl .none .none (.int (-1) t))(h:Q ((n:Int)-1,-1,n) s):wpAny (!5) A (Builtin.Slice.sliceApplied (.ref sl)<|pure (n:Int)) Q E s:=by
 obtain⟨os,b,d,c⟩:=id a;unfold Builtin.Slice.sliceApplied Builtin.Slice.sliceFields;refine Aa<|Aa<|A9 b c (x:=.none) rfl<|Aa<|A9 b c (x:=.none) rfl<|Aa<|A9 b c (x:=.int (-1) t) rfl<|Ac ?_;refine Aa<|HT.IH (.int (-1) t) ?_;show wpAny _ _ (if((-1:Int)==0)=true then _ else _) _ _ s;rw[if_neg (!1)];refine Aa<|HT.IH .none<|Aa<|HT.IH .none<|Aa<|Ac ?_;have e:Builtin.Slice.sliceAdjust none none (-1) (n:Int)=((n:Int)-1,-1):=by unfold Builtin.Slice.sliceAdjust;simp
 have i:Builtin.Slice.slicePlaces ((n:Int)-1) (-1) (-1)=n:=by
  unfold Builtin.Slice.slicePlaces;have m:¬((-1:Int) > 0):=by decide
  simp only[m,if_false];by_cases hn:(-1:Int)<(n:Int)-1
  ·simp[hn]
  simp[hn];omega
 show wpAny _ _ (match Builtin.Slice.sliceAdjust none none (-1) (n:Int) with|(lo,o)=>pure (lo,(-1:Int),Builtin.Slice.slicePlaces lo o (-1))) _ _ s;rw[e];show wpAny _ _ (pure ((n:Int)-1,(-1:Int),Builtin.Slice.slicePlaces ((n:Int)-1) (-1) (-1))) _ _ s;rw[i];exact Ac h
theorem bK{α β:Type}{f g:α->Option β}:∀{l:List α},(∀x∈l,f x=g x)->l.filterMap f=l.filterMap g
 |[],_=>rfl
 |a::l,h=>by rw[B3,B3,h a Al,bK λx j=>h x (Ai _ j)]
def vU(xs:Array IR):((As xs.size).filterMap λ(m:Nat)=>xs[(((xs.size:Int)-1)+(m:Int)*-1).toNat]?).toArray=xs.toList.reverse.toArray:=by
 congr 1
 have e:∀m∈As xs.size,xs[(((xs.size:Int)-1)+(m:Int)*-1).toNat]?=xs[xs.size-1-m]?:=λm hm=>by
  have:=List.mem_range.mp hm;have:(((xs.size:Int)-1)+(m:Int)*-1).toNat=xs.size-1-m:=by omega
  rw[this]
 rw[bK e];have b:(As xs.size).filterMap (λm=>xs[xs.size-1-m]?)=((As xs.size).map λk=>xs.size-1-k).filterMap (xs[·]?):=by rw[FD];rfl
 rw[b,PySem.W.krv_range,List.filterMap_reverse,PySem.W.krv_all]
def zes{t:Addr}{items:Array IR}{tk:Tok}(a:IsTup s.heap t items)(f:s.heap.IsSliceOf sl .none .none (.int (-1) tk))(h:Q (.ref s.heap.objs.size) {s with heap:=s.heap.push {cls:=.type "tuple",data:=.seq items.toList.reverse.toArray} }) (hsz:items.size<=sizeLine):wpAny (!5) A (getItem (.ref t)<|.ref sl) Q E s:=by
 have b:sizeOk (.seq items.toList.reverse.toArray):=by show items.toList.reverse.toArray.size<=sizeLine;rw[Ay,Ft,AO];exact hsz
 obtain⟨os,c,d,n⟩:=id f;have e:s.TypeIs (.ref sl) "slice":=⟨os,c,d⟩;unfold getItem
 try with_reducible refine AM ?_
 first|refine Aa (Ac ?_)|skip
 refine Aa<|FV a.typeIs (!1) ?_;refine Aa (A7 (name:=BF "__getitem__") a.typeIs BU<|Bc BU a.typeIs Fp ?_<|FE _ _);show wpAny _ _ (Builtin.Tuple.tupleItemsOf (.ref t) >>= _) _ _ s;refine Aa<|tupleItemsOf_ a ?_;refine Aa<|Dw e ?_;rw[if_pos (!1)];refine Aa<|zji f ?_;have i:¬((((items.size:Int)-1)==0&&(-1:Int)==1&&items.size==items.size)=true):=by intro q;rw[Aq,Aq]at q;exact absurd q.1.2<|by decide
 show wpAny _ _ (if(((items.size:Int)-1)==0&&(-1:Int)==1&&items.size==items.size)=true then _ else _) _ _ s;rw[if_neg i,vU]
 first
  |exact Aa (m:=Builtin.Tuple.tupleExact _) (AN (Ac ⟨_,rfl,Ac h⟩) b)
  |exact Aa (m:=Builtin.Tuple.tupleExact _) (AN (Aa<|Ac<|Ac ⟨_,rfl,Ac h⟩) b)
  |exact Aa (Aa (m:=Builtin.Tuple.tupleExact _)<|AN (Ac<|Ac ⟨_,rfl,Ac h⟩) b)
  |exact Aa (Aa (m:=Builtin.Tuple.tupleExact _)<|AN (Ac ⟨_,rfl,Ac h⟩) b)
variable {mk md:ME}{apos cpos p2:Pos}{se:Pv}
section
variable {a:Pv}{es:List Pv}
def O5(st:Hh)(n:Nat)(k:D):Option (Option D):=LZ (look st n k)<|Jk st n k
def cX{k:D}{r:Option D}(S:HA K H io st)(f:io[n]?=some p)(g:Rep K H io y k)(h:O5 st n k=some r):∃o,IV H p y o/\((r=none/\o=none)\/∃d v,r=some d/\o=some v/\Rep K H io v d):=by
 rcases NC h with h|h
 ·exact WD S f g h
 exact cY S f g h
def LA(st:Hh)(n:Nat):Bool:=match st[n]? with
 |some (.dk _)=>true
 |some (.dt _)=>true
 |some (.fk _)=>true
 |some (.ft _)=>true
 |_=>false
def T7(S:HA K H io st)(f:io[n]?=some p)(h:LA st n=true):QJ H p:=by
 unfold LA at h;split at h
 ·rename_i a e;obtain⟨b,q,_⟩:=S.ob n p _ f e;exact .inl ⟨b,.inl q⟩
 ·rename_i a e;obtain⟨b,q,_⟩:=S.ob n p _ f e;exact .inr ⟨b,.inl q⟩
 ·rename_i a e;obtain⟨o,b,q,_⟩:=S.ob n p _ f e;exact .inl ⟨b,.inr ⟨o,q⟩⟩
 ·rename_i a e;obtain⟨o,b,q,_⟩:=S.ob n p _ f e;exact .inr ⟨b,.inr ⟨o,q⟩⟩
 ·cases h
def O1(md mk:ME):ME:=λU st=>(md U st).bind λ(d,s1)=>match d with
 |.ref n=>if LA s1 n=true then(mk U s1).bind λ(k,s2)=>(O5 s2 n k).map λr=>(r.getD .non,s2)else none
 |_=>none
def rW(f:X.A.units+1<cLine)(h:SE X o md)(he:SE X e mk)(mm:M1 X o "get" apos e cpos:=by exact⟨rfl,rfl,rfl,rfl⟩):SE X (.Call (.Attribute o "get" apos) [e] [] cpos) (O1 md mk):=
 PE.imp (xA f h he mm) <| by
  exists 1;obtain⟨⟨x,s1⟩,s,e⟩:=Hs e;cases x with
  |ref n=>
   obtain⟨hd,e⟩:=Iu e;obtain⟨⟨y,s2⟩,w,e⟩:=Hs e;obtain⟨r,K,e⟩:=Ia e;cases e;refine⟨U,st,io,_,s1,E,S,s,λv1 H1 j c b l=>?_⟩;obtain⟨p,rfl,i⟩:=l;refine⟨p,rfl,T7 b i hd,U,s1,io++j,y,_,E.ext S c,b,w,λv2 u B m a R2=>?_⟩;obtain⟨o,g,z⟩:=cX a (Ln i) R2 K;refine⟨o,g,?_⟩;rcases z with⟨rfl,rfl⟩|⟨C,v,rfl,rfl,q⟩
   ·exact((k.on b c).on a m).now a rfl
   exact((k.on b c).on a m).now a q
  |_=>cases e
def P5(md mk mx:ME):ME:=λU st=>(md U st).bind λ(d,s1)=>match d with
 |.ref n=>if LA s1 n=true then(mk U s1).bind λ(k,s2)=>(mx U s2).bind λ(x,s3)=>(O5 s3 n k).map λr=>(r.getD x,s3)else none
 |_=>none
def rX{f:Pv}{mx:ME}(h:X.A.units+1<cLine)(j:SE X o md)(he:SE X e mk)(hf:SE X f mx)(mm:M2 X o "get" apos e f cpos:=by exact⟨rfl,rfl,rfl,rfl⟩):SE X (.Call (.Attribute o "get" apos) [e,f] [] cpos) (P5 md mk mx):=
 PE.imp (vN h j he hf mm) <| by
  exists 1;obtain⟨⟨x,s1⟩,l,e⟩:=Hs e;cases x with
  |ref n=>
   obtain⟨hd,e⟩:=Iu e;obtain⟨⟨y,s2⟩,u,e⟩:=Hs e;obtain⟨⟨z,s3⟩,B,e⟩:=Hs e;obtain⟨r,C,e⟩:=Ia e;cases e;refine⟨U,st,io,_,s1,E,S,l,λv1 H1 w c a F=>?_⟩;obtain⟨p,rfl,K⟩:=F;refine⟨p,rfl,T7 a K hd,U,s1,io++w,y,_,E.ext S c,a,u,λv2 L G m i R2=>⟨U,s2,(io++w)++G,z,_,(E.ext S c).ext a m,i,B,λM N P s b I=>?_⟩⟩;obtain⟨o,g,q⟩:=cX b (Ln<|Ln K) (R2.ext i s) C;refine⟨o,g,?_⟩
   rcases q with⟨rfl,rfl⟩|⟨T,v,rfl,rfl,J⟩
   ·exact(((k.on a c).on i m).on b s).now b I
   exact(((k.on a c).on i m).on b s).now b J
  |_=>cases e
def Np:G2:=λd k st=>match d with
 |.ref n=>(Jk st n k).bind λr=>r.map λv=>(v,st)
 |_=>none
def cB{i:Pv}(f:X.A.units+1<cLine)(h:SE X o md)(hi:SE X i mk)(j:MX i:=by intro _ _;rfl):SE X (.Subscript o i pos) (mB Np md mk):=PE.imp (aA f h hi j) <| by
 exists 1;obtain⟨⟨x,s1⟩,m,e⟩:=Hs e;obtain⟨⟨y,s2⟩,s,e⟩:=Hs e;cases x with
 |ref n=>
  obtain⟨r,K,e⟩:=Hs (show(Jk s2 n y).bind _=some (d,st') from e);obtain⟨w,l,e⟩:=Ia e;cases e;subst l;refine⟨U,st,io,_,s1,E,S,m,λv1 H1 q b c u=>⟨U,s1,io++q,y,_,E.ext S b,c,s,λv2 I J B a R2=>?_⟩⟩;obtain⟨p,rfl,C⟩:=u;obtain⟨o,g,⟨z,_⟩|⟨L,v,hd,F,G⟩⟩:=cY a (Ln C) R2 K
  ·cases z
  ·cases hd;subst F;exact⟨p,v,rfl,g,((k.on c b).on a B).now a G⟩
 |_=>cases e
def lM(K:Ab)(f:TE)(ts:TO):TE:=λσ H Q=>f σ H λx H1=>ts σ H1 λk b=>k=some (-1)/\∃a xs,x=.ref a/\b a=some (.tup xs)/\∀p,b p=none->Q (.ref p) (upd b p<|.tup xs.reverse)
def tF{f:TE}{ts:TO}(he:PE X e f)(g:PO X (some se) ts):PE X (.Subscript e (.Slice none none (some se) p2) pos) (lM X.K f ts):=by
 exists 4;refine Fg<|HB (he qp s σ H _ I h) ?_;rintro v s1 ⟨x,H1,m,n,p⟩;refine wpAny_Slice ?_;rw[Fo];refine Ac<|Ac ?_;refine HB (g qp s1 σ H1 _ m p) ?_;rintro c s3 ⟨k,y,I3,E,hk,a,xs,j,l,u⟩;subst hk;subst j;cases n;have I4:Inv X qp σ y {s3 with heap:=s3.heap.push {cls:=.type "slice",data:=.fields #[.none,.none,c]} }:=I3.kept (t':=s3.toks) λb ob q=>Ad _ q;obtain⟨z,r,d,B⟩:=I4.tuple<|IM.of (K:=X.K) l;have hlen:=r.length;show wpAny (!4) X.A (subscriptTail e (.Slice none none (some se) p2) (.ref a)<|.ref s3.heap.objs.size) (EP X qp σ Q) X.xe {s3 with heap:=s3.heap.push {cls:=.type "slice",data:=.fields #[.none,.none,c]} }
 cases E with
 |int i C=>
 refine tail_any (ops:=[.ref a,.ref s3.heap.objs.size]) d.typeIs PyProof.Rows.slot_tuple_getitem.lookup ?_ (by with_unfolding_all rfl);refine zes d (FG ..) ?_ (by rw[Ay];omega);refine⟨.ref (s3.heap.push {cls:=.type "slice",data:=.fields #[.none,.none,.int (-1) C]}).objs.size,_,I4.laid (t':=s3.toks) (o:=.tup xs.reverse) (λb ob q=>Ad _ q) (Ag _) ?_,rfl,u _<|I4.hok.fresh<|Ag _⟩;exact⟨by rw[Ft];exact B,_,bX r,Li.new _ _⟩
def Vk(m mk:ME):ME:=λU st=>(!9).bind λ(x,s1)=>(mk U s1).bind λ(k,s2)=>match x,k with
 |.tup ds,.int i=>if(decide (i=-1))=true then some (.tup ds.reverse,s2)else none
 |_,_=>none
def sD(he:SE X e m)(hk:SE X se mk):SE X (.Subscript e (.Slice none none (some se) p2) pos) (Vk m mk):=
 PE.imp (tF he<|aB hk) <| by
  exists 1;obtain⟨⟨x,s1⟩,s,e⟩:=Hs e;obtain⟨⟨y,s2⟩,w,e⟩:=Hs e;refine⟨U,st,io,x,s1,E,S,s,λv1 H1 A c a R1=>?_⟩;refine⟨U,s1,io++A,y,s2,E.ext S c,a,w,λv2 h j n o R2=>?_⟩;cases x with
  |tup ds=>
   cases y with
   |int i=>
    obtain⟨K,e⟩:=Iu e;cases e;have b:=of_decide_eq_true K;subst b;obtain⟨p,xs,rfl,f,r⟩:=R1.ext a n;exact⟨_,R2,rfl,p,xs,rfl,f,λl g=>((k.on a c).on o n).tup o (cP r) g⟩
   |_=>cases e
  |_=>cases e
end
def zgV:typeLookup (.type "tuple") "keys"=pure none:=by rw[typeLookup_type,E3];kernel_rfl
structure N7(prog:Re)(w:Wp)(A:Around)(D I:Addr)(n:Nat)(key val:Nat->IR)(T:Nat->PP->Prop):Prop where
 keep:∀i h h',T i h->(∀b o,b≠I->h.get? b=some o->h'.get? b=some o)->T i h'
 step:∀i (s:Shared) (Q:Unit->Shared->Prop) (E:Qqa),i<n->T i s.heap->(∀h' tk,T (i+1) h'->BD D s.heap h'->Q () {s with heap:=h',toks:=tk})->wpAny (!5) A (dictSet D (key i) (val i)) Q E s
variable {a I:Addr}{xs:Array IR}{x:Sr}{v:IR}{its:List IR}{key val:Nat->IR}{T:Nat->PP->Prop}{h h':PP}
def zkE{Q:Option IR->Shared->Prop}{k:Nat}{sl:Array (Option IR)}(f:s.heap.get? a=some {cls:=.type "tuple",dict:=none,data:=.seq xs k,slots:=sl})(j:A.handled=none)(h:∀h' tk,(∀b u,s.heap.get? b=some u->h'.get? b=some u)->Q none {s with heap:=h',toks:=tk}):wpAny (!5) A (getAttr? (.ref a) "keys") Q E s:=by
 obtain⟨n,g,d,tk,os⟩:=s;have m:∀c,(⟨n,g,d,c,os⟩:Shared).TypeIs (.ref a) "tuple":=λ_=>⟨_,f,rfl⟩;have f1:=FL;have o:=F.slot_tuple_getattribute.lookup;have f4:=F.slot_tuple_getattribute.bind<|.ref a;have p:=am_tuple_getattr_none;unfold getAttr? getAttrBy? getAttrBy
 repeat (any_goals (first|assumption|exact m _|((with_reducible show wpAny _ _ (call (GS "tuple.__getattribute__") _ _) _ _ _);refine Dc F.slot_tuple_getattribute (m _) am_entry_tuple_getattribute (F.args_tuple_getattribute_2 _ _) (meets_getattribute_miss_tuple a xs k sl _ _ zgV<|by decide +kernel) ⟨f,j,λh' c e i=>?_⟩)|wp_step))
 obtain⟨v,x,he⟩:=i.there;show wpAny _ _ (getattributeRaised _ _ _ _ _ _ _) _ _ _;unfold getattributeRaised
 repeat (any_goals (first|assumption|wp_step))
 exact h _ _ i.keeps
def Sr.nextN{R:Option IR->Shared->Prop}(hit:x.at_ s.heap it i)(h:x.is s.heap xs)(f:xs[i]?=some v)(k:∀h',x.at_ h' it (i+1)->BD it s.heap h'->R (some v) {s with heap:=h'}):
  wpAny (!5) A (pyNext<|.ref it) R E s:=by
 cases x with
 |l a=>exact Cz hit h f k
 |t a=>exact Ee (show s.heap.IsTupleIter it a i from hit) (show s.heap.IsTuple a xs from h) f k
def Sr.stopN{R:Option IR->Shared->Prop}(f:A.handled=none)(hit:x.at_ s.heap it i)(h:x.is s.heap xs)(g:xs[i]?=none)(k:∀h',EN it s.heap h'->R none {s with heap:=h'}):
  wpAny (!5) A (pyNext<|.ref it) R E s:=by
 cases x with
 |l a=>exact CK f hit h g k
 |t a=>exact EH f (show s.heap.IsTupleIter it a i from hit) (show s.heap.IsTuple a xs from h) g k
def kB{R:Result->Shared->Prop}{D:Addr}{h0:PP}(F:N7 prog w A.in1 D I n key val T)(P:A.in1.handled=none)(S:its.length=n)(f:D≠I)(l:x.ad≠D)(r:x.ad≠I):
  ∀(k i:Nat) (s:Shared),n-i=k->i<=n->x.at_ s.heap I i->x.is s.heap its.toArray->T i s.heap ->
  (∀(j:Nat) (v:IR),its[j]?=some v->∃p,v=.ref p/\IsTup s.heap p #[key j,val j]/\p≠D/\p≠I)->(∀b o,b≠D->b≠I->h0.get? b=some o->s.heap.get? b=some o) ->
  (∀h' tk,T n h'->(∀b o,b≠D->b≠I->h0.get? b=some o->h'.get? b=some o)->R (.ok<|.ret .none) {s with heap:=h',toks:=tk}) ->
  codeAny (!5) A (.builtin "dict.update.loop" ⟨[.ref D,.ref I,rawInt i,.none],[]⟩) R s:=by
 intro k
 induction k with
 |zero=>
  intro i s hk U hit a hd H h0k hR;have K:i=n:=by omega
  subst K;refine BC UE ?_;rw[A8 NF _];show wpAny _ A.in1 (pyNext (.ref I) >>= _) _ _ s;refine Aa<|Sr.stopN P hit a (by simp[S]) λh' hx=>?_;show wpAny _ A.in1 (Builtin.Dict.addKeywords D [] >>= λ_=>ret .none) _ _ _;exact Aa<|Ac<|Ac<|hR h' s.toks (F.keep _ _ _ hd λb o m e=>hx b o m e) λb o Q y e=>hx b o y (h0k b o Q y e)
 |succ k W=>
  intro i s hk U hit a hd H h0k hR;have X:i<n:=by omega
  have h:i<its.length:=by omega
  refine BC UE ?_;rw[A8 NF _];show wpAny _ A.in1 (pyNext (.ref I) >>= _) _ _ s;have Y:its[i]?=some its[i]:=Ah h;refine Aa<|Sr.nextN (v:=its[i]) hit a (by simp[h]) λh' E hx=>?_;obtain⟨p,ep,Z,nD,nI⟩:=H i _ Y;have z:IsTup h' p #[key i,val i]:=by obtain⟨o,g,c⟩:=Z;exact⟨o,hx.extBut p o nI g,c⟩
  have B:T i h':=F.keep _ _ _ hd λb o m e=>hx.extBut b o m e;rw[ep];refine Aa<|AM<|Aa<|CM<|gH (s:={s with heap:=h'}) z ?_;refine AM<|F.step i {s with heap:=h'} _ _ X B λy C hd2 G=>?_;have d:∀b o,b≠D->h'.get? b=some o->y.get? b=some o:=λb o m e=>G.extBut b o m e;refine Ac ⟨BG NF _,?_⟩;refine W (i+1) {s with heap:=y,toks:=C} (!0) (!0) ?_ ?_ hd2 (λj v Q=>?_) (λb o b1 L e=>d b o b1 (hx.extBut b o L<|h0k b o b1 L e)) λh3 J d3 k3=>hR h3 J d3 k3
  ·exact Sr.at_keep E λu e=>d I u (BJ f) e
  ·exact Sr.is_keep (Sr.is_keep a λu e=>hx.extBut _ u r e) λu e=>d _ u l e
  obtain⟨q,e,⟨o,g,c⟩,M,N⟩:=H j v Q;exact⟨q,e,⟨o,d q o M<|hx.extBut q o N g,c⟩,M,N⟩
def Sr.pl(h:PP)(xs:Array IR):Sr->Prop
 |.l a=>PlainL h a xs
 |.t a=>Li h a xs
def Sr.pl_is(q:x.pl h xs):x.is h xs:=by
 cases x with
 |l a=>exact PlainL.isList q
 |t a=>exact Li.t q
def Sr.pl_keep(q:x.pl h xs)(k:∀b u,h.get? b=some u->h'.get? b=some u):x.pl h' xs:=by
 cases x with
 |l a=>exact PlainL.keeps q k
 |t a=>exact Li.keeps q k
def fX(G:A.handled=none)(f:x.pl s.heap its.toArray)(J:its.length=n)(L:∀I:Addr,s.heap.objs.size<I->N7 prog w A.in1.in1 s.heap.objs.size I n key val T) (h0:T 0 (s.heap.push Qqd))(M:∀(j:Nat) (v:IR),its[j]?=some v->∃p,v=.ref p/\IsTup s.heap p #[key j,val j])(h:∀h' tk,T n h'->(∀b o,s.heap.get? b=some o->h'.get? b=some o)->Q (.ref s.heap.objs.size) {s with heap:=h',toks:=tk}):
  wpAny (!5) A (call (.type "dict") [.ref x.ad]) Q E s:=by
 exists 5;rintro obj s₁ ⟨rfl,rfl⟩;have H:Shared.TypeIs {s with heap:=s.heap.push Qqd} (.ref s.heap.objs.size) "dict":=⟨_,Ap _ rfl,rfl⟩
 have k1:∀b o,s.heap.get? b=some o->(s.heap.push Qqd).get? b=some o:=λb o e=>Ad _ e;have i:=Sr.pl_keep f k1;have hlt:∀b o,s.heap.get? b=some o->b<s.heap.objs.size:=λb o e=>Aj e;have K:x.ad<s.heap.objs.size:=by obtain⟨o,g⟩:=Sr.is_get<|Sr.pl_is f;exact hlt _ o g
 refine⟨H,F.args_dict_init_2 _ _,?_⟩;unfold Builtin.«dict.__init__»;refine Aa ?_;unfold Builtin.Dict.selfAndRest;refine Aa<|Cc H ?_;show wpAny _ _ (pure (s.heap.objs.size,[AE x.ad])) _ _ _;refine Ac ?_;show wpAny _ _ (Builtin.Dict.updateFrom "dict.__init__" s.heap.objs.size (.ref x.ad) [] .none) _ _ _;unfold Builtin.Dict.updateFrom;have rest:∀(m:PP) (d:Nat),(∀b u,(s.heap.push Qqd).get? b=some u->m.get? b=some u) ->
   codeAny (!5) A.in1 (.builtin "dict.update.loop" ⟨[.ref s.heap.objs.size,.ref m.objs.size,rawInt (0:Nat),.none],[]⟩) (wants (λr s₂=>r=.none/\Q (.ref s.heap.objs.size) s₂) E) {s with heap:=m.push x.ob,toks:=d}:=by
  intro m d k2;have X:=Sr.pl_keep i k2;have y:s.heap.objs.size<m.objs.size:=by obtain⟨o,N,_⟩:=H;exact Aj<|k2 _ o N
  have C:∀b o,m.get? b=some o->(m.push x.ob).get? b=some o:=λb o e=>Ad _ e;have P:s.heap.objs.size≠m.objs.size:=Au y;have S:x.ad≠s.heap.objs.size:=Au K;have U:x.ad≠m.objs.size:=Au<|B7 K y;have FF:=L m.objs.size y;refine kB (A:=A.in1) (h0:=s.heap) (x:=x) (its:=its) FF G J P S U n 0 {s with heap:=m.push x.ob,toks:=d} rfl (A5 _) ?_ (Sr.pl_is<|Sr.pl_keep X C) ?_ (λj v W=>?_) (λb o _ _ e=>C b o (k2 b o<|k1 b o e)) λh' tk Y Z=>?_
  ·exact Sr.at_new<|Ap _ (by cases x<;>rfl)
  ·exact FF.keep _ _ _ h0 λb o _ e=>C b o (k2 b o e)
  ·obtain⟨p,e,⟨o,g,c⟩⟩:=M j v W;exact⟨p,e,⟨o,C p o<|k2 p o<|k1 p o g,c⟩,Au<|hlt p o g,Au<|B7 (hlt p o g) y⟩
  exact⟨rfl,h h' tk Y λb o e=>Z b o (Au<|hlt b o e) (Au<|B7 (hlt b o e) y) e⟩
 cases x with
 |l a=>
  obtain⟨⟨cl,di,da,sl⟩,nn,g1,q,z,B⟩:=id i;simp only at q z B;subst q z B;refine Aa (Dw (show Shared.TypeIs {s with heap:=s.heap.push Qqd} (.ref a) "list" from⟨_,g1,rfl⟩) ?_);rw[if_pos (!1)];refine Aa<|cR g1 G λm d k2=>?_;simp only[Cw,if_true];refine Aa<|BY ?_;refine Aa<|Sr.iter (x:=.l a) (s:={s with heap:=m,toks:=d}) (xs:=its.toArray) (Sr.pl_is (x:=.l a)<|Sr.pl_keep (x:=.l a) i k2) ?_;exact Ac ⟨BG NF _,rest m d k2⟩
 |t a=>
  obtain⟨⟨cl,di,da,sl⟩,g1,q,z,nn,B⟩:=id i;simp only at q z B;subst q z B;refine Aa (Dw (show Shared.TypeIs {s with heap:=s.heap.push Qqd} (.ref a) "tuple" from⟨_,g1,rfl⟩) ?_);rw[if_pos (!1)];refine Aa<|zkE g1 G λm d k2=>?_;simp only[Cw,if_true];refine Aa<|BY ?_;refine Aa<|Sr.iter (x:=.t a) (s:={s with heap:=m,toks:=d}) (xs:=its.toArray) (Sr.pl_is (x:=.t a)<|Sr.pl_keep (x:=.t a) i k2) ?_;exact Ac ⟨BG NF _,rest m d k2⟩
noncomputable abbrev KY:=List Key×Addr×IR
def Mv(acc xs:List KY):List KY:=xs.foldl (λacc x=>storedH acc x.1 x.2.1 x.2.2) acc
variable {k:List Key}
def ziV{acc:List KY}{x:KY}(h:x∈storedH acc k a v):(∃y∈acc,y.1=x.1/\y.2.1=x.2.1)\/(x.1=k/\x.2.1=a):=by
 unfold storedH at h;split at h
 ·obtain⟨y,b,e⟩:=P3.mp h;refine .inl ⟨y,b,?_⟩;rw[<-e];unfold putAt
  split<;>exact⟨rfl,rfl⟩
 ·rcases Os.mp h with h|h
  ·exact .inl ⟨x,h,rfl,rfl⟩
  rw[On.mp h];exact .inr ⟨rfl,rfl⟩
theorem eL:∀{xs acc:List KY}{x:KY},x∈Mv acc xs->(∃y∈acc,y.1=x.1/\y.2.1=x.2.1)\/∃y∈xs,y.1=x.1/\y.2.1=x.2.1
 |[],acc,x,h=>.inl ⟨x,h,rfl,rfl⟩
 |z::zs,acc,x,h=>by
  rcases eL (xs:=zs) (acc:=storedH acc z.1 z.2.1 z.2.2) h with⟨y,f,e1,e2⟩|⟨y,f,e⟩
  ·rcases ziV f with⟨u,g,f1,f2⟩|⟨f1,f2⟩
   ·exact .inl ⟨u,g,f1.trans e1,f2.trans e2⟩
   exact .inr ⟨z,Al,f1.symm.trans e1,f2.symm.trans e2⟩
  exact .inr ⟨y,Ai _ f,e⟩
def ziW(acc:List KY)(k:List Key)(a:Addr)(v:IR):(storedH acc k a v).length<=acc.length+1:=by unfold storedH;split<;>simp
theorem WS:∀(xs acc:List KY),(Mv acc xs).length<=acc.length+xs.length
 |[],acc=>by show acc.length<=acc.length+0;omega
 |z::zs,acc=>by have f:=WS zs<|storedH acc z.1 z.2.1 z.2.2;have a:=ziW acc z.1 z.2.1 z.2.2;show(Mv (storedH acc z.1 z.2.1 z.2.2) zs).length<=_;rw[Aw];omega
def zj4{xs:List KY}{x:KY}(e:xs[i]?=some x):Mv [] (xs.take<|i+1)=storedH (Mv []<|xs.take i) x.1 x.2.1 x.2.2:=by rw[Bd,e];unfold Mv;rw[F5];rfl
def Sq(xs:List KY)(i:Nat):IR:=match xs[i]? with|some x=>.ref x.2.1|none=>.none
def RV(xs:List KY)(i:Nat):IR:=match xs[i]? with|some x=>x.2.2|none=>.none
def FT(prog:Re)(w:Wp)(D:Addr)(xs:List KY)(i:Nat)(h:PP):Prop:=h.DictOfH (tupleKind<|Ja prog w) D (Mv []<|xs.take i)/\∀x∈xs,(tupleKind<|Ja prog w).is h x.1 x.2.1
def WC{b:Addr}(q:(tupleKind<|Ja prog w).is h k b)(kk:∀o,h.get? b=some o->h'.get? b=some o):(tupleKind<|Ja prog w).is h' k b:=by obtain⟨o,its,n,a,r⟩:=q;exact⟨o,its,n,kk o a,r⟩
def jX{D:Addr}{xs:List KY}(j:A.units<cLine)(f:D≠I)(l:∀x∈xs,x.2.1≠I)(q:∀x∈xs,x.2.1≠D)(hz:xs.length<=sizeLine):N7 prog w A D I xs.length (Sq xs) (RV xs) (FT prog w D xs) where
 keep:=by
  rintro i h h' ⟨⟨o,es,ep,n,p,hd,he,v,H⟩,hk⟩ k;have all:∀x∈xs,(tupleKind<|Ja prog w).is h' x.1 x.2.1:=λx a=>WC (hk x a) λo e=>k _ o (l x a) e;refine⟨⟨o,es,ep,k _ o f n,p,hd,he,λx a=>?_,H⟩,all⟩
  rcases eL a with⟨y,b,_⟩|⟨y,b,K,T⟩
  ·exact nomatch b
  have:=all y<|Fj b;rw[K,T]at this;exact this
 step:=by
  rintro i s Q E d ⟨hd,hk⟩ h;have e:xs[i]?=some xs[i]:=Ah d;have X:Sq xs i=.ref xs[i].2.1:=by unfold Sq;rw[e]
  have ev:RV xs i=xs[i].2.2:=by unfold RV;rw[e]
  rw[X,ev];have r:(Mv []<|xs.take i).length<=sizeLine:=by have:=WS (xs.take i) [];rw[A3,Bg]at this;omega
  refine wpAny_dictSet_heap (hsz:=r) j (hk _<|Bj d) hd λh' c m=>h h' _ ⟨?_,λx a=>?_⟩ m
  ·rw[zj4 e];exact c
  exact WC (hk x a) λo g=>m.extBut _ o (q x a) g
variable {κ:Type}
def Om[DecidableEq κ](kvs more:List (κ×V)):List (κ×V):=more.foldl (λacc a=>putK acc a.1 a.2) kvs
def Ol(kvs more:List (List Key×D)):List (List Key×D):=more.foldl (λacc a=>putD acc a.1 a.2) kvs
def Zh:D->Option (List Key×D)
 |.tup [.tup ks,v]=>(keysOf ks).map λq=>(q,v)
 |_=>none
def O8:List D->Option (List<|List Key×D)
 |[]=>some []
 |d::r=>(Zh d).bind λt=>(O8 r).map λts=>t::ts
def wO:∀{more:List (List Key×V)} {mx:List KY} {kvs:List (List Key×V)} {xs:List KY},KT H more mx->KT H kvs xs->KT H (Om kvs more) (Mv xs mx):=by
 intro more mx kvs xs r
 induction r generalizing kvs xs with
 |nil=>intro q;exact q
 |@cons p q c d h t a=>
  intro b;have e:KT H (putK kvs p.1 p.2) (storedH xs q.1 q.2.1 q.2.2):=by rw[<-h.1];exact KT.put b p.1 h.2.1 h.2.2
  exact a e
def yT:∀{more:List (List Key×V)} {LN:List (List Key×D)} {kvs:List (List Key×V)} {f:List (List Key×D)},KR (List Key) K H io more LN->KR (List Key) K H io kvs f->KR (List Key) K H io (Om kvs more) (Ol f LN):=by
 intro more LN kvs f r;unfold KR at r
 induction r generalizing kvs f with
 |nil=>intro q;exact q
 |@cons p q c d h t a=>
  intro b;have e:KR (List Key) K H io (putK kvs p.1 p.2) (putD f q.1 q.2):=by rw[<-h.1];exact KR.put b p.1 h.2
  exact a e
theorem aD(I:Inv X qp σ H s):∀{l:List V}{ds:List D} {f:List (List Key×D)} {its:List IR},Hi X.K H io l ds->O8 ds=some f->Vals l its ->
  ∃(g:List (List Key×V)) (xs:List KY),KR (List Key) X.K H io g f/\KT H g xs/\its.length=xs.length/\xs.length=f.length/\∀(j:Nat) (v:IR) (x:KY),its[j]?=some v->xs[j]?=some x->∃p,v=.ref p/\IsTup s.heap p #[.ref x.2.1,x.2.2]
 |_,[],f,_,h,e,r=>by
  cases e;cases (show _=[] from h)
  cases r;exact⟨[],[],.nil,.nil,rfl,rfl,λj v z h=>by simp at h⟩
 |_,d::ds,f,_,h,e,r=>by
  obtain⟨y,l,rfl,B,C⟩:=h;obtain⟨t,a,e⟩:=Hs e;obtain⟨Y,c,e⟩:=Ia e;subst e;cases r with
  |@cons _ u _ us m i=>
   obtain⟨g,xs,a1,a2,n,o,w⟩:=aD I C c i;unfold Zh at a;split at a
   ·rename_i ks v;obtain⟨q,eq1,a⟩:=Ia a;subst a;obtain⟨p,Z,rfl,A,rs⟩:=B;obtain⟨v1,w1,rfl,E,rs⟩:=rs;obtain⟨v2,Q,rfl,T,rs⟩:=rs
    cases (show Q=[] from rs)
    obtain⟨b,zs,rfl,F,G⟩:=E;have J:=Pn G eq1;subst J;cases m;obtain⟨ia,L,M,_⟩:=I.tuple<|IM.of (K:=X.K) A
    cases L with
    |cons N t1=>
     cases t1 with
     |cons P S=>
      cases S;rename_i U W;cases (show U=AE b from N)
      refine⟨(q,v2)::g,(q,b,W)::xs,.cons ⟨rfl,T⟩ a1,.cons ⟨rfl,F,P⟩ a2,by rw[Aw,Aw,n],by rw[Aw,Aw,o],λj v z a c=>?_⟩
      cases j with
      |zero=>
       cases a;cases c;exact⟨p,rfl,M⟩
      |succ j=>exact w j v z a c
   ·cases a
def jE{k:Nat}(f:HM k A):A.units+2<cLine:=by have:=f.un;omega
def QP:GN
 |[.ref n],st=>(Ig st n).bind λds=>(O8 ds).bind λf=>if fits f.length=true then some (.ref st.length,st++[.dt (Ol [] f)])else none
 |[.tup ds],st=>(O8 ds).bind λf=>if fits f.length=true then some (.ref st.length,st++[.dt (Ol [] f)])else none
 |_,_=>none
def bT{r:List V}{ds:List D}{l:List (List Key×D)}(I:Inv X qp σ H s)(M:A.handled=none)(N:A.units+2<cLine)(pl:x.pl s.heap its.toArray)(P:Vals r its)(r1:Hi X.K H io r ds)(S:O8 ds=some l)(hf:l.length<=sizeLine)(h:∀s' f,Inv X qp σ (upd H s.heap.objs.size<|.dT<|Om [] f) s'->KR (List Key) X.K H io f l->Q (.ref s.heap.objs.size) s'):wpAny (!4) A (call (.type "dict") [.ref x.ad]) Q E s:=by
 obtain⟨f,xs,a1,a2,m,z,B⟩:=aD I r1 S P;have C:xs.length<=sizeLine:=by rw[z];exact hf
 have c:∀y∈xs,(tupleKind<|Ja X.prog X.w).is s.heap y.1 y.2.1:=by
  clear B z m C a1
  induction a2 with
  |nil=>intro y hy;exact nomatch hy
  |@cons p q ps qs F t U=>
   intro y hy;rcases KM.mp hy with e|hy
   ·subst e;exact M5 I.hok (by rw[<-F.1];exact F.2.1)
   exact U y hy
 have d:∀y∈xs,y.2.1<s.heap.objs.size:=λy hy=>by obtain⟨o,_,_,g,_⟩:=c y hy;exact Aj g
 refine fX (T:=FT X.prog X.w s.heap.objs.size xs) (key:=Sq xs) (val:=RV xs) M pl m (λi G=>jX N (Au G) (λy hy=>Au (B7 (d y hy) G)) (λy hy=>Au (d y hy)) C) ⟨Heap.DictOfH.new s.heap,λy hy=>WC (c y hy) λo g=>Ad _ g⟩ (λj v e=>?_) λh' tk W Y=>?_
 ·have Z:j<xs.length:=by
   rw[<-m];exact(KB.mp e).1
  have ex:xs[j]?=some xs[j]:=Ah Z;obtain⟨p,ep,tp⟩:=B j v _ e ex;refine⟨p,ep,?_⟩;unfold Sq RV;rw[ex];exact tp
 ·have hlV:f.length=xs.length:=Be a2;obtain⟨⟨o,es,ep,ho,hc,n,he,u,J⟩,_⟩:=W;rw[AR]at he u J;have L:KT H (Om [] f) (Mv [] xs):=wO a2 .nil;have hm:(Om [] f).length<=sizeLine:=by
   have:=WS xs [];rw[Be L];rw[Bg]at this;omega
  exists 6;refine h _ f (I.laid (a:=s.heap.objs.size) (o:=.dT (Om [] f)) (t':=tk) Y (Ag _) ⟨hm,hd,Mv [] xs,?_,o,es,ep,ho,hc,n,he,J⟩) a1;exact KT.keeps L λb r e=>by rw[HV (J9 e<|I.hok.fresh<|Ag _)];exact e
def zjf(g:X.calm=true)(j:X.A.units+2<cLine):Jy X (.type "dict") QP:=by
 exists 0;have fin:∀(a:List (List Key×D)),(d,st')=(D.ref st.length,st++[O.dt (Ol [] a)])->∀c b,Inv X qp σ (upd H s.heap.objs.size<|.dT<|Om [] b) c->KR (List Key) X.K H io b a->∃v h,Inv X qp σ h c/\RelV v (.ref s.heap.objs.size)/\Q v h:=λa z c b B a1=>by
  cases z;obtain⟨C,F⟩:=Qi (o:=.dT (Om [] b)) (ob:=.dt (Ol [] a)) S (I.hok.fresh<|Ag _) λh T e=>⟨_,e,yT (KR.mono T a1) .nil⟩
  exact⟨.ref s.heap.objs.size,_,B,rfl,k _ _ [s.heap.objs.size] C F ⟨s.heap.objs.size,rfl,by rw[<-S.len];exact getElem?_len io _⟩⟩
 unfold QP at e;split at e
 ·rename_i n;obtain⟨zs,G,e⟩:=Hs e;obtain⟨a,i,e⟩:=Hs e;exists 3;obtain⟨v,rfl,p,rfl,m⟩:=R.one;obtain⟨u,rfl,y⟩:=r.one;cases y;obtain⟨q,J,E⟩:=KG S m G;obtain⟨its,f,pl,L⟩:=I.list J;exact bT (x:=.l p) I (I.ok.hd g) j pl f E i (of_decide_eq_true hf)<|fin a (by cases e;rfl)
 ·rename_i zs;obtain⟨a,i,e⟩:=Hs e;exists 3;obtain⟨v,rfl,p,q,rfl,m,E⟩:=R.one;obtain⟨u,rfl,y⟩:=r.one;cases y;obtain⟨L,its,f,pl⟩:=(show Jr X.prog X.w H s.heap p (.tup q) from I.hok p _ m)
  exact bT (x:=.t p) I (I.ok.hd g) j pl f E i (of_decide_eq_true hf)<|fin a (by cases e;rfl)
 ·cases e
def IZ:G2:=intD (λi j=>decide (Builtin.Int.intBits i<=2^20)&&decide (Builtin.Int.intBits j<=2^20)) λi j=>.int<|i*j
def Rh:Ji X (binaryOp .Mult) IZ:=Qk (C:=λi j=>Builtin.Int.intBits i<=2^20/\Builtin.Int.intBits j<=2^20) (Sg λi j _ _ _ _ _ a q=>PyProof.Rows.mul_int q (IntMulOk.of_bits a.1 a.2)) λi j h=>by rw[Aq]at h;exact⟨of_decide_eq_true h.1,of_decide_eq_true h.2⟩
def FK(prog:Re)(w:Wp)(D:Addr)(kvs:List (Key×IR))(i:Nat)(h:PP):Prop:=h.DictOf (Ja prog w) D<|merged []<|kvs.take i
def QC(xs:List IR)(i:Nat):IR:=match xs[i]? with|some x=>x|none=>.none
def RU(xs:List (Key×IR))(i:Nat):IR:=match xs[i]? with|some x=>x.2|none=>.none
def jW{D:Addr}{kvs:List (Key×IR)}{f:List IR}(g:D≠I)(hz:kvs.length<=sizeLine)(hk:∀(j:Nat) (l:Key×IR),kvs[j]?=some l->(Ja prog w).is l.1 (QC f j)=true):N7 prog w A D I kvs.length (QC f) (RU kvs) (FK prog w D kvs) where
 keep:=λi h h' ⟨o,es,ep,b,r⟩ k=>⟨o,es,ep,k D o g b,r⟩
 step:=λi s Q E c hd h=>by
  have e:kvs[i]?=some kvs[i]:=Ah c;have ev:RU kvs i=kvs[i].2:=by unfold RU;rw[e]
  rw[ev];have d:(merged []<|kvs.take i).length<=sizeLine:=by have:=W3 (kvs.take i) [];rw[A3,Bg]at this;omega
  refine Fs (hk i _ e) hd (λh' a m=>h h' _ ?_ m) d;have n:stored (merged []<|kvs.take i) kvs[i].1 kvs[i].2=merged [] (kvs.take<|i+1):=(merged_take_succ [] kvs i _ e).symm;unfold FK;rw[<-n];exact a
theorem dE{h:PP}:∀{its:List IR} {kvs:List (Key×IR)},its.length=kvs.length->(∀(j:Nat) (v:IR) (f:Key×IR),its[j]?=some v->kvs[j]?=some f->Oi prog w h v f) ->
  ∃g:List IR,∀(j:Nat) (v:IR) (f:Key×IR),its[j]?=some v->kvs[j]?=some f->∃p,v=.ref p/\IsTup h p #[QC g j,f.2]/\(Ja prog w).is f.1 (QC g j)=true
 |[],kvs,_,_=>⟨[],λj v f e=>by simp at e⟩
 |v::its,[],e,_=>by cases e
 |v::its,f::kvs,e,l=>by
  obtain⟨g,hk⟩:=dE (its:=its) (kvs:=kvs) (by simpa using e) λj u q a b=>l (j+1) u q a b;obtain⟨p,c,a,b,d⟩:=l 0 v f rfl rfl;refine⟨c::g,λj u q f1 f2=>?_⟩
  cases j with
  |zero=>
   cases f1;cases f2;exact⟨p,a,b,d⟩
  |succ j=>exact hk j u q f1 f2
def SU:GN
 |[.tup ds],st=>(P6 ds).bind λf=>if fits f.length=true then some (.ref st.length,st++[.dk (Oj [] f)])else none
 |_,_=>none
def zjg(g:X.calm=true):Jy X (.type "dict") SU:=by
 exists 0;unfold SU at e;split at e
 ·rename_i zs;obtain⟨y,l,e⟩:=Hs e;exists 3;cases e;obtain⟨v,rfl,p,z,rfl,B,C⟩:=R.one;obtain⟨u,rfl,F⟩:=r.one;cases F;obtain⟨hz,its,G,pl⟩:=(show Jr X.prog X.w H s.heap p (.tup z) from I.hok p _ B)
  obtain⟨c,b,a1,a2,m,J,L⟩:=VA I C l G;have A:b.length<=sizeLine:=by rw[J];exact of_decide_eq_true hf
  obtain⟨h,hk⟩:=dE m L;have E:∀(j:Nat) (n:Key×IR),b[j]?=some n->(Ja X.prog X.w).is n.1 (QC h j)=true:=λj n e=>by
   have K:j<its.length:=by rw[m];exact(KB.mp e).1
   obtain⟨_,_,_,q⟩:=hk j _ n (Ah K) e;exact q
  refine fX (x:=.t p) (T:=FK X.prog X.w s.heap.objs.size b) (key:=QC h) (val:=RU b) (I.ok.hd g) pl m (λi M=>jW (Au M) A E) (GC s.heap) (λj v e=>?_) λh' tk f N=>?_
  ·have K:j<b.length:=by
    rw[<-m];exact(KB.mp e).1
   have ex:b[j]?=some b[j]:=Ah K;obtain⟨P,ep,U,_⟩:=hk j v _ e ex;refine⟨P,ep,?_⟩;unfold RU;rw[ex];exact U
  ·have f:h'.DictOf (Ja X.prog X.w) s.heap.objs.size (merged [] b):=by
    have:FK X.prog X.w s.heap.objs.size b b.length h':=f;unfold FK at this
    rwa [AR]at this
   have W:c.length=b.length:=Be a2;have hm:(M6 [] c).length<=sizeLine:=by have:=XB c [];rw[Bg]at this;omega
   exists 6;refine⟨.ref s.heap.objs.size,_,I.laid (a:=s.heap.objs.size) (o:=.dK (M6 [] c)) (t':=tk) N (Ag _)<|Vr hm hd (a2.merge .nil) f,rfl,?_⟩;obtain⟨Y,Z⟩:=Qi (o:=.dK (M6 [] c)) (ob:=.dk (Oj [] y)) S (I.hok.fresh<|Ag _) λH' T e=>⟨_,e,bC (KR.mono T a1) .nil⟩
   exact k _ _ [s.heap.objs.size] Y Z ⟨s.heap.objs.size,rfl,by rw[<-S.len];exact getElem?_len io _⟩
 ·cases e
def PY:GN:=LL SQ SU
def fJ(f:X.calm=true):Jy X (.type "dict") PY:=Qs (zY f)<|zjg f
def Zx:entryFor table "any.loop"=some Builtin.«any.loop»:=F.entry_any_loop
def Tz:plainId "any.loop"=true:=F.plain_any_loop
def NX(z:Str):Bool:=(z.length:Int) != 0
def oO{R:Result->Shared->Prop}{l:Addr}(g:A.in1.handled=none)(f:l≠I):∀(ss:List Str) (i:Nat) (s:Shared),StrsAre (its.drop i) ss->(∀z∈ss,z.length<=sizeLine)->s.heap.IsListIter I l i->s.heap.IsList l its.toArray ->
  (∀h' tk,(∀b o,b≠I->s.heap.get? b=some o->h'.get? b=some o)->R (.ok<|.ret<|.bool<|ss.any NX) {s with heap:=h',toks:=tk})->codeAny (!5) A (.builtin "any.loop" ⟨[.ref I],[]⟩) R s:=by
 intro ss
 induction ss with
 |nil=>
  intro i s c v hit n p;have hd:its.drop i=[]:=by generalize its.drop i=d at c;cases c;rfl
  have K:its[i]?=none:=List.getElem?_eq_none (by have:=congrArg F9 hd;simp at this;omega);refine BC Zx (by
   rw[A8 Tz _];refine Aa (CK g hit n (by simpa using K) λh' x=>Aa (BY<|Ac ?_));exact p h' s.toks λb o a e=>x b o a e)
 |cons z zs Q=>
  intro i s c v hit n p;obtain⟨t,rest,hd,T⟩:∃t rest,its.drop i=.str z t::rest/\StrsAre rest zs:=by
   generalize its.drop i=d at c;cases c with
   |cons y t r=>exact⟨t,_,rfl,r⟩
  have x:its[i]?=some (.str z t):=by have:=congrArg (λl=>l[0]?) hd;simpa using this
  have hd2:its.drop (i+1)=rest:=by have:=congrArg List.tail hd;simpa using this
  have X:sizeLine=16777216:=CA;have j:=v z Al;refine BC Zx (by
   rw[A8 Tz _];refine Aa<|Cz hit n (by simpa using x) λh' h E=>Aa (AM<|Fz (!0)<|Aa<|BV ?_);have kp:∀b o,b≠I->s.heap.get? b=some o->h'.get? b=some o:=λb o a e=>E.extBut b o a e;show wpAny _ _ (if NX z=true then _ else _) _ _ _
   cases a:NX z with
   |true=>
    rw[if_pos rfl];refine Aa<|BY<|Ac ?_;have q:=p h' (s.toks+1+1) kp;rw[B1,a]at q;exact q
   |false=>
    rw[if_neg (!1)];refine Ac ⟨BG Tz _,Q (i+1) _ (by rw[hd2];exact T) (λu B=>v u (Ai _ B)) h (DL n λu e=>kp l u f e) λC H F=>?_⟩;have q:=p C H λb o m e=>F b o m (kp b o m e);rw[B1,a]at q;exact q)
def MV:GN
 |[.ref n],st=>(Ig st n).bind λds=>(strsOf ds).bind λss=>if(ss.all λz=>decide (z.length<=sizeLine))=true then some (.bl (ss.any NX),st)else none
 |_,_=>none
def zD(f:X.calm=true):Jy X (.builtin "any") MV:=by
 exists 0;unfold MV at e;split at e
 ·rename_i n;obtain⟨l,w,e⟩:=Hs e;obtain⟨ss,x,e⟩:=Hs e;obtain⟨a,e⟩:=Iu e;cases e;obtain⟨v,rfl,p,rfl,y⟩:=R.one;obtain⟨u,rfl,A⟩:=r.one;cases A;obtain⟨B,E,K⟩:=KG S y w;obtain⟨its,T,pl,i⟩:=I.list E;have g:=Wt K T x;have c:p<s.heap.objs.size:=by
   obtain⟨o,_,e,_⟩:=pl;exact Aj e
  have h:∀z∈ss,z.length<=sizeLine:=λz i=>of_decide_eq_true (List.all_eq_true.mp a z i);refine FM F.kind_any F.plain_any F.entry_any (F.args_any1 _) (by
   unfold Builtin.«any»;refine Aa (m:=oneArg "any" _) (Ac<|Aa<|Di pl.isList<|Ac ⟨BG Tz _,?_⟩);refine oO (I.ok.hd f) (Au c) ss 0 _ (by simpa using g) h ⟨_,Ap _ rfl,rfl,rfl⟩ (pl.keeps λb o e=>Ad _ e).isList λh' tk j=>?_;exact⟨.bl _,H,I.kept (t':=tk) λb o q=>j b o (Au<|Aj q) (Ad _ q),rfl,k.now S rfl⟩)
 ·cases e
def JV[DecidableEq κ](kvs:List (κ×α))(q:κ):List (κ×α):=kvs.eraseIdx<|kvs.findIdx λa=>decide (a.1=q)
def UB{α β:Type}{R:α->β->Prop}:∀{l:List α}{m:List β} (j:Nat),Paired R l m->Paired R (l.eraseIdx j) (m.eraseIdx j):=by
 intro l m j h
 induction h generalizing j with
 |nil=>exact .nil
 |cons z t ih=>
  cases j with
  |zero=>exact t
  |succ j=>exact .cons z<|ih j
def Uu[DecidableEq κ]{R:κ×α->κ×β->Prop}(g:∀p q,R p q->p.1=q.1){l:List (κ×α)}{m:List (κ×β)}(q:κ)(h:Paired R l m):(l.findIdx λf=>decide (f.1=q))=m.findIdx λf=>decide (f.1=q):=by
 induction h with
 |nil=>rfl
 |@cons a b l m z t c=>rw[Cj,Cj,g _ _ z,c]
theorem W0{α β:Type}(f:α->β):∀(l:List α) (k:Nat),(l.map f).eraseIdx k=(l.eraseIdx k).map f
 |[],_=>rfl
 |_::_,0=>rfl
 |a::l,k+1=>by show f a::(l.map f).eraseIdx k=f a::(l.eraseIdx k).map f;rw[W0 f l k]
theorem Vv{κ α:Type}[DecidableEq κ]{k:κ}{p:α}:∀{xs:List (κ×α)} {j:Nat},(xs.map (·.1)).Nodup->xs[j]?=some (k,p)->(xs.findIdx λf=>decide (f.1=k))=j
 |[],j,_,h=>by simp at h
 |x::xs,0,_,h=>by
  have h:x=(k,p):=by simpa using h
  rw[Cj,h,decide_eq_true rfl];rfl
 |x::xs,j+1,a,h=>by
  have h:xs[j]?=some (k,p):=by simpa using h
  rw[Ao,Dz]at a;have b:¬x.1=k:=λe=>a.1<|P3.mpr ⟨(k,p),AF h,e.symm⟩;rw[Cj,decide_eq_false b,Vv a.2 h];rfl
section
variable {K:Type} [DecidableEq K] {knd:HeapKind prog w K}
def Zk{xs:List (K×Addr×IR)}{k:K}{Q:Option DictEntry->Shared->Prop}(q:knd.room A)(f:knd.is s.heap k a)(hm:s.heap.DictOfH knd d xs)(hz:xs.length<=sizeLine)(g:∃(j:Nat) (p:Addr×IR),xs[j]?=some (k,p))(hQ:∀(j:Nat) (p:Addr×IR) h',xs[j]?=some (k,p)->h'.DictOfH knd d (xs.eraseIdx j)->BD d s.heap h'->Q (some ⟨knd.hash k,.ref p.1,p.2⟩) {s with heap:=h',toks:=s.toks+knd.draws k}):
  wpAny (!5) A (Builtin.Dict.takeOut d<|.ref a) Q E s:=by
 obtain⟨o,es,ep,b,n,hd,he,c,m⟩:=hm;have i:es.size<=sizeLine:=by have e:=EA he;omega
 unfold Builtin.Dict.takeOut
 try with_reducible refine AM ?_
 refine Aa<|knd.pyHash q f<|Aa<|Fu (s:={s with toks:=s.toks+knd.draws k}) q f b hd he c m (λhno=>?_) λj p h=>?_
 ·obtain⟨j,p,h⟩:=g;exact absurd h<|hno j p
 ·refine Aa<|B0 (s:={s with toks:=s.toks+knd.draws k}) b hd ?_;rw[entry_at he j,h];refine Aa (wpAny_updateDictKeys (hz:=i) (s:={s with toks:=s.toks+knd.draws k}) b hd<|Ac<|hQ j p _ h ⟨_,_,ep+1,BQ _ b<|Obj.isFreed_of_dict<|Fm hd _,n.mapDictKeys _,Fm hd _,?_,?_,?_⟩<|B4 ..)
  ·have v:(es.eraseIdxIfInBounds j).toList=es.toList.eraseIdx j:=by obtain⟨l⟩:=es;simp
   rw[v,he,W0]
  ·intro x y;exact knd.keeps (c x<|List.mem_of_mem_eraseIdx y) b hd<|B4 ..
  rw[<-W0];exact m.sublist<|List.eraseIdx_sublist _ _
def wN(d a:Addr):MeetsIn prog w (Builtin.«dict.pop» ⟨[.ref d,.ref a],[]⟩) (λA R s=>knd.room A.in1/\∃k xs,knd.is s.heap k a/\s.heap.DictOfH knd d xs/\xs.length<=sizeLine/\(∃(j:Nat) (p:Addr×IR),xs[j]?=some (k,p)) /\
  ∀(j:Nat) (p:Addr×IR) h' tk,xs[j]?=some (k,p)->h'.DictOfH knd d (xs.eraseIdx j)->BD d s.heap h'->R (.ok<|.ret p.2) {s with heap:=h',toks:=tk}):=
 .of_wp <| by
  rintro A R s ⟨x,k,xs,b,hm,y,c,h⟩;unfold Builtin.«dict.pop»;refine Aa ?_;unfold Builtin.Dict.keyAndDefault;refine Aa<|Cc hm.typeIs<|Ac ?_;have E:(keyPart<|AE a).isSome=false:=rfl;obtain⟨o,es,ep,H,Q,hd,he,I,T⟩:=id hm;have i:es.isEmpty=false:=by obtain⟨j,p,m⟩:=c;have v:=EA he;have X:j<xs.length:=(KB.mp m).1;rw[Array.isEmpty_eq_false_iff];intro e;rw[e]at v;simp at v;omega
  simp only[E,AJ,if_false];refine Aa<|B0 H hd<|Aa<|Ac ?_;simp only[i,AJ,if_false];refine Aa<|Zk x b hm y c λj p h' m n K=>?_;rw[show(some (⟨knd.hash k,.ref p.1,p.2⟩:DictEntry)).isNone=false from rfl];refine Aa<|BV<|Ac ⟨p.2,rfl,?_⟩;exact h j p h' _ m n K
end
variable {kvs:List (List Key×V)}
def aQ{xs:List (List Key×Addr×IR)}{v:V}(r:KT H kvs xs)(l:Iv kvs k=some v):∃(j:Nat) (p:Addr×IR),xs[j]?=some (k,p):=by
 have h:=r.val k;rw[l]at h;cases a:atKey xs k with
 |none=>rw[a]at h;exact h.elim
 |some p=>
  unfold atKey at a;obtain⟨x,b,d⟩:=Ia a;have hk:x.1=k:=by have h0:=GD b;simpa using h0
  obtain⟨j,c,e⟩:=DF<|C2 b;exact⟨j,x.2,by rw[Ah c,e,<-hk]⟩
def kR{b:Addr}{v:V}(g:A.units+1<cLine)(I:Inv X qp σ H s)(e:H a=some (.dT kvs))(r:H b=some (.tup<|k.map kV))(l:Iv kvs k=some v)(h:∀f s',Inv X qp σ (upd H a<|.dT<|JV kvs k) s'->RelV v f->Q f s'):wpAny (!4) A (call (.builtin "dict.pop") [.ref a,.ref b]) Q E s:=by
 obtain⟨z,hd,xs,rel,m⟩:=Vd I.hok e;have T:xs.length<=sizeLine:=by rw[<-Be rel];exact z
 refine CL CN m.typeIs EO (PySem.F.args_dict_pop_2 _ _) (wN (knd:=tupleKind (Ja X.prog X.w)) a b) ⟨BE g,k,xs,M5 I.hok r,m,T,aQ rel l,λj p h' tk o n u=>h _ _ ?_ ?_⟩
 ·obtain⟨q,es,ep,x,B,C,G,_,J⟩:=n;have d:(xs.map (·.1)).Nodup:=by obtain⟨_,_,_,_,_,_,_,_,d⟩:=m;exact d
  have L:(kvs.findIdx λM=>decide (M.1=k))=j:=(Uu (λp q z=>z.1) k rel).trans<|Vv d o;have N:(JV kvs k).length<=sizeLine:=AA (Ej _ _) z;have i:KT H (JV kvs k) (xs.eraseIdx j):=by unfold JV;rw[L];exact UB j rel
  refine TX I (by rw[e];exact CQ) u ⟨q,x⟩ ⟨N,hd,_,i.keeps λc P y=>?_,q,es,ep,x,B,C,G,J⟩;rw[HV (QO y e λz=>nomatch z)];exact y
 ·have d:(xs.map (·.1)).Nodup:=by obtain⟨_,_,_,_,_,_,_,_,d⟩:=m;exact d
  have K:=rel.val k;rw[l,atKey_of_get d o]at K;exact K
def pQ(f ty:TE):TE:=λσ H Q=>f σ H λx H1=>∃a,x=.ref a/\QJ H1 a/\ty σ H1 λy c=>∃kvs k b v,c a=some (.dT kvs)/\y=.ref b/\c b=some (.tup<|k.map kV)/\Iv kvs k=some v/\Q v (upd c a<|.dT<|JV kvs k)
def vP{f ty:TE}(g:X.A.units+1<cLine)(j:PE X o f)(he:PE X e ty)(m:M1 X o "pop" apos e cpos):PE X (.Call (.Attribute o "pop" apos) [e] [] cpos) (pQ f ty):=by intro qp s σ H Q I h;refine Dk m.base m.few m.line Cs CN Fb<|HB (j qp s σ H _ I h) ?_;rintro u s1 ⟨x,H1,i,n,a,ex,d,p⟩;subst ex;obtain rfl:u=AE a:=n;obtain⟨t1,w,_⟩:=M4 i d;refine⟨t1,w,?_⟩;rw[m.trees];refine BL rfl<|Ck<|BN<|HB (he qp s1 σ H1 _ i p) λE s2 ⟨y,F,K,T,kvs,k,b,v,q,r,z,l,B⟩=>CH ?_;subst r;obtain rfl:E=AE b:=T;exact kR g K q z l λG s3 C c=>⟨v,_,C,c,B⟩
def Vj(md mk:ME):ME:=λU st=>(md U st).bind λ(d,s1)=>match d with
 |.ref n=>if LA s1 n=true then(mk U s1).bind λ(k,s2)=>match k,s2[n]? with
   |.tup ds,some (.dt kvs)=>(keysOf ds).bind λq=>(HN kvs q).map λv=>(v,s2.set n (.dt<|JV kvs q))
   |_,_=>none
  else none
 |_=>none
def sC(g:X.A.units+1<cLine)(j:SE X o md)(he:SE X e mk)(mm:M1 X o "pop" apos e cpos:=by exact⟨rfl,rfl,rfl,rfl⟩):SE X (.Call (.Attribute o "pop" apos) [e] [] cpos) (Vj md mk):=
 PE.imp (vP g j he mm) <| by
  exists 1;obtain⟨⟨x,s1⟩,l,e⟩:=Hs e;cases x with
  |ref n=>
   obtain⟨hd,e⟩:=Iu e;obtain⟨⟨y,s2⟩,B,e⟩:=Hs e;refine⟨U,st,io,_,s1,E,S,l,λv1 H1 C m h F=>?_⟩;obtain⟨p,rfl,s⟩:=F;refine⟨p,rfl,T7 h s hd,U,s1,io++C,y,_,E.ext S m,h,B,λv2 Z G J S2 R2=>?_⟩;exists 10;split at e
   ·rename_i ds kvs w;obtain⟨q,eq1,e⟩:=Hs e;obtain⟨v,ev,e⟩:=Ia e;cases e;have a:=Ln (ka:=G) s;obtain⟨I,K,r⟩:=S2.ob n p _ a w;obtain⟨b,xs,rfl,L,rs⟩:=R2;have ex:=Pn rs eq1;subst ex
    rcases KR.val r q with⟨z,_⟩|⟨d',M,c,i,N⟩
    ·rw[ev]at z;cases z
    ·rw[ev]at c;cases c;refine⟨I,q,b,M,K,rfl,L,i,?_⟩;obtain⟨f,P⟩:=M7 (o:=.dT (JV I q)) (ob:=.dt (JV kvs q)) S2 a w (λo u z=>by rw[K]at z;cases z) λH' T W=>⟨_,W,by
      have Y:=Uu (λp q z=>z.1) q (KR.mono (ka:=[]) T r);unfold JV;rw[Y];exact UB _ (KR.mono T r)⟩
     exact((k.on h m).on S2 J) _ _ [] f P (by
      have:=Rep.ext S2 f N;exact this)
   ·cases e
  |_=>cases e
end L2.MP
namespace L2.MP
variable {prog:Re}{w:Wp}{A:Around}{E:Qqa}{s:Shared}
section
open PySem PySem.Spec PyProof.Rows PySem.Builtin PySem.Builtin.Str
variable {z y:Str}{t u:Tok}{Q:Qqa}
end
variable {X:Cx}{K:Ab}{H:Hp}{io:List Addr}{st st':Hh}{a b c e:Pv}{es:List Pv}{ma mb mc m:ME}{mm:MA}{pos:Pos}
section
open PySem PySem.Spec PyProof.Rows
end
open PySem
variable {U:HX}
theorem Vx{c:MT}{n:ME}:L5 c m n U st=(c U st).bind λp=>if p.1=true then m U p.2 else n U p.2:=rfl
variable {W:Wk}{g:MG}{U1:HX}{s1 s2:Hh}
def qG{m:MS}{d r:D}{ds:List D}(f:walked W st=true)(h:g d U st=some (U1,s1))(i:m U1 s1=some (.rt r,s2)):JZ W g m (d::ds) U st=some (.rt r,s2):=by unfold JZ;rw[if_pos f,h];simp only[Ae,i]
def V2{m:MS}{d:D}{ds:List D}{f:HX}(h:walked W st=true)(i:g d U st=some (U1,s1))(j:m U1 s1=some (.nx f,s2)):JZ W g m (d::ds) U st=JZ W g m ds f s2:=by
 conv=>lhs;unfold JZ
 rw[if_pos h,i];simp only[Ae,j]
open PySem.Spec PyProof.Rows
@[irreducible] def Ir (X:Cx) (s:List Stmt) (m:MS):Prop:=KN X s m
@[irreducible] def JS (X:Cx) (s:Stmt) (m:MS):Prop:=SS X s m
@[irreducible] def JA (X:Cx) (es:List Pv) (m:MA):Prop:=SA X es m
variable {n:Nat}{body:List Stmt}{ms:MS}
section
variable {st1 st2:Stmt}{rest orelse:List Stmt}{mt mu:MT}{mq mr:MS}{mg:MG}{mi:MI}
def Ir.out(h:Ir X body ms):KN X body ms:=by unfold Ir at h;exact h
def Ir.mk(h:KN X body ms):Ir X body ms:=by unfold Ir;exact h
def JS.out(h:JS X st1 ms):SS X st1 ms:=by unfold JS at h;exact h
def JS.mk(h:SS X st1 ms):JS X st1 ms:=by unfold JS;exact h
def JA.out(h:JA X es mm):SA X es mm:=by unfold JA at h;exact h
def JA.mk(h:SA X es mm):JA X es mm:=by unfold JA;exact h
def JX:Ir X [] Jm:=.mk sS
def HL(h:JS X st1 ms):Ir X [st1] ms:=.mk<|vL h.out
def HG(h:JS X st1 ms)(d:Ir X rest mq):Ir X (st1::rest) (mS ms mq):=.mk<|xM h.out d.out
def JM(d:SB X c mt)(f:Ir X body ms)(h:Ir X orelse mq):JS X (.If c body orelse pos) (Jf mt ms mq):=.mk<|jI d f.out h.out
def Kc{d iter:Pv}(f:PassesOwn (!4) X.A X.env X.xe)(h:X.calm=true)(hi:SI X d iter mi)(i:SG X d mg)(j:Ir X body ms)(l:∀x,foldedSetIterable iter X.env x=pure x:=by intro _;rfl):JS X (.For d iter body [] pos) (mF mi mg ms):=.mk<|pJ f h hi i j.out l
def vB(d:PassesOwn (!4) X.A X.env X.xe)(f:SB X c mt)(h:Ir X body ms):JS X (.While c body [] pos) (J1 mt ms n):=.mk<|xK d f h.out
def Lj:JA X [] mZ:=.mk Hq
def Ic(d:SE X e m)(f:JA X es mm)(hs:∀q,Qqb X.env e q:=by intro _;rfl):JA X (e::es) (Hf m mm):=.mk<|Hk d f.out<|hs _
end
variable {xs:List V}
section
variable {o:Pv}{apos cpos:Pos}
def OY:D->List D->Hh->Option (D×Hh):=λx xs st=>match x,xs with
 |.ref n,[]=>match st[n]? with
  |some (.lst ds)=>(ds[ds.length-1]?).map λd=>(d,st.set n (.lst ds.dropLast))
  |_=>none
 |_,_=>none
def Hi.dropLast:∀{xs:List V}{ds:List D},Hi K H io xs ds->Hi K H io xs.dropLast ds.dropLast:=by intro xs ds r;rw[Fc,Fc,r.length];exact r.take _
def wR:SD X "list.pop" (Yt X.K OY):=by
 rintro E s σ H x xs v us Q I U rs ⟨j,ds,st,io,d,st',W,Rs,S,e,k⟩;unfold OY at e;split at e
 ·rename_i n
  split at e
  ·rename_i l b;obtain⟨y,f,e⟩:=Ia e;cases e;obtain⟨p,rfl,c⟩:=W
   cases (show xs=[] from Rs)
   obtain⟨g,m,r⟩:=S.ob n p _ c b;obtain⟨w,hw,a⟩:=r.get f;refine nP E s σ H _ _ v us Q I U rs ⟨p,g,w,rfl,rfl,m,by rw[r.length];exact hw,?_⟩;obtain⟨A,h⟩:=M7 (o:=.lst g.dropLast) (ob:=.lst l.dropLast) S c b (λo u z=>by rw[m]at z;cases z) λB T i=>⟨_,i,by rw[An]at *;exact(Hi.mono (ka:=[]) T r.dropLast) |> λq=>by rw[An]at q;exact q⟩
   exact k _ _ [] A h (a.ext S A)
  ·cases e
 ·cases e
def Vi(m:ME):ME:=λU st=>(!9).bind λ(x,s1)=>match x with
 |.ref n=>(Ig s1 n).bind λ_=>OY x [] s1
 |_=>none
def rZ(i:SE X o m)(f:attributeBase o "pop" X.env (UV o X.env)=UV o X.env:=by rfl)(h:(apos.endLine==cpos.line)=true:=by rfl):SE X (.Call (.Attribute o "pop" apos) [] [] cpos) (Vi m):=
 PE.imp (lT Df PySem.F.slot_list_pop PySem.F.type_list_pop wR i f h) <| by
  exists 1;obtain⟨⟨x,s1⟩,c,e⟩:=Hs e;cases x with
  |ref n=>
   obtain⟨l,g,e⟩:=Hs e;refine⟨U,st,io,_,s1,E,S,c,λv1 H1 s w a b=>⟨Wv b a g,?_⟩⟩;exact⟨_,[],s1,io++s,d,st',b,rfl,a,e,k.on a w⟩
  |_=>cases e
theorem oP:Vi m U st=(!9).bind λp=>match p.1 with
 |.ref n=>(Ig p.2 n).bind λ_=>OY p.1 [] p.2
 |_=>none:=rfl
def KH:D->Hh->Option Bool
 |.bl b,_=>some b
 |.non,_=>some false
 |.int i,_=>some<|i != 0
 |.tup ds,_=>some<|!ds.isEmpty
 |.ref n,st=>(Ig st n).map λds=>!ds.isEmpty
 |_,_=>none
def Kg(m:ME):MT:=λU st=>(!9).bind λ(x,s1)=>(KH x s1).map λb=>(b,s1)
def eW{ds:List D}(r:Hi K H io xs ds):(!xs.isEmpty)=!ds.isEmpty:=by have:=r.length;cases xs<;>cases ds<;>simp_all
def Tt(h:SE X a m)(he:∀whole,isTrue a X.env whole=(do let v <-whole;standAt a.pos;holding [v] (truthy v)):=by intro _;rfl):SB X a (Kg m):=
 PT.imp (cN h he) <| by
  rintro σ H Q ⟨U,st,io,b,st',E,S,e,k⟩;obtain⟨⟨x,s1⟩,o,e⟩:=Hs e;obtain⟨l,c,e⟩:=Ia e;cases e;refine⟨U,st,io,x,st',E,S,o,λv s w A n g=>⟨b,?_,k s w A n⟩⟩;unfold KH at c;split at c
  ·cases c
   cases (show v=_ from g)
   exact rfl
  ·cases c
   cases (show v=_ from g)
   exact rfl
  ·cases c
   cases (show v=_ from g)
   exact rfl
  ·cases c;obtain⟨p,xs,rfl,K,r⟩:=g;exact .inr<|.inl ⟨xs,.inl<|.inl K,(eW r).symm⟩
  ·obtain⟨ds,W,c⟩:=Ia c;cases c;obtain⟨p,rfl,d⟩:=g;obtain⟨f,i,j⟩:=KG n d W;exact .inl ⟨f,i,(eW j).symm⟩
  ·cases c
theorem Qe:Kg m U st=(!9).bind λp=>(KH p.1 p.2).map λb=>(b,p.2):=rfl
end
variable {o:Obj}{ep:Nat}
def eR(p:A.handled=none)(it d:Addr)(f:d≠it){es:Array DictEntry}(j:o.data=.dict es ep):
  Walks prog w A it [it,d] [it] es.size (λi v=>∃l,es[i]?=some l/\v=l.key) (λi h=>h.IsKeyIter it d i es.size ep/\h.get? d=some o) where
 sub:=λb a=>by simp at a;simp[a]
 frame:=λ_ _ _ st hk=>⟨st.1.at λo e=>hk it (!2) o e,hk d (!2) o st.2⟩
 item:=λi s Q E n st c=>by have m:es[i]?=some es[i]:=Array.getElem?_eq_getElem n;refine cT st.1 st.2 j m λg st' sb=>?_;exact c _ g s.toks ⟨_,m,rfl⟩ ⟨st',(sb.2 d f).trans st.2⟩ λb ob a e=>(sb.2 b λz=>a (by simp[z])).trans e
 done:=λs Q E st c=>cU p st.1 st.2 j (!2) λg H=>c g s.toks λb ob a e=>H b ob (λz=>a (by simp[z])) e
 self:=λ_ _ _ _ st c=>Fk st.1 c
def cG{d:Addr}{es:Array DictEntry}(f:o.data=.dict es ep)(hd:(d==sysModules)=false)(ty:∀s:Shared,s.heap.get? d=some o->s.TypeIs (.ref d) "dict"):
  GK prog w "dict" d d es.size (λi v=>∃j,es[i]?=some j/\v=j.key) (λh=>h.get? d=some o) where
 type:=ty
 there:=λ_ g=>⟨Aj g,Aj g⟩
 keep:=λ_ _ g hk=>hk d (.inl rfl) o g
 notList:=by decide
 notTuple:=by decide
 hint:=λ_ _ s _ g a=>PySem.W.kdl_hint_dict (ty s g) a
 iter:=λc s b g=>⟨_,_,λ_ _ a=>WJ (ty s g) hd g f a,eR b _ d (Au<|Aj g) f,⟨⟨_,Ap _ rfl,rfl,rfl⟩,Ad _ g⟩⟩
theorem Uo{K:Ab}{H:Hp}{io:List Addr}:∀{vs:List IR} {ps:List (List Key×V)} {kvs:List (List Key×D)},KR (List Key) K H io ps kvs->vs.length=ps.length->(∀(j:Nat) (v:IR) (p:List Key×V),vs[j]?=some v->ps[j]?=some p->∃b,v=.ref b/\H b=some (.tup<|p.1.map kV))->∃f,Vals f vs/\Hi K H io f (Js kvs)
 |[],_,_,.nil,_,_=>⟨[],.nil,rfl⟩
 |[],_::_,_,.cons _ _,d,_=>by simp at d
 |v::vs,_,_,.nil,d,_=>by simp at d
 |v::vs,p::ps,q::kvs,.cons h t,d,i=>by obtain⟨b,rfl,l⟩:=i 0 v p rfl rfl;obtain⟨f,a,c⟩:=Uo (vs:=vs) t (by simpa using d) λj v p e g=>i (j+1) v p (by simpa using e) (by simpa using g);refine⟨.ref b::f,.cons rfl a,Hi.cons ⟨b,_,rfl,l,?_⟩ c⟩;rw[h.1];exact T8 _
def VM:GN
 |[.ref n],st=>match st[n]? with
  |some (.dt kvs)=>if fits kvs.length=true then some (.ref st.length,st++[.lst (Js kvs)])else none
  |_=>none
 |_,_=>none
def zje(J:X.calm=true):Jy X (.type "list") VM:=by
 exists 0;unfold VM at e;split at e
 ·rename_i n
  split at e
  ·rename_i L M;exists 3;cases e;obtain⟨v,rfl,p,rfl,N⟩:=R.one;obtain⟨u,rfl,P⟩:=r.one;cases P;obtain⟨f,A,h⟩:=S.ob n p _ N M;obtain⟨t1,t2,T⟩:=M4 I<|.inr ⟨f,.inl A⟩;obtain⟨z,y,xs,r0,o,es,ep,g,ex,i,et,nd⟩:=I.hok p _ A;have x:=I.hok p _ A;have Y:Jr X.prog X.w H s.heap p (.frz o<|.dT f):=⟨g,x⟩
   obtain⟨l,B,ent⟩:=Qt Y i;have c:es.size<=sizeLine:=by rw[B,KR.length h];exact of_decide_eq_true hf
   refine PySem.W.kdl_call (cG (prog:=X.prog) (w:=X.w) i T λs' l=>?_) (I.ok.hd J) g c λh' tk acc Z hk E a=>?_
   ·obtain⟨o',m,K⟩:=t1;rw[g]at m;cases m;exact⟨o,l,K⟩
   ·obtain⟨C,F,rr⟩:=Uo (vs:=acc.toList) h (by rw[AO,a.1,B]) λj v q e1 e2=>by
     obtain⟨en',h1,h2⟩:=a.2 j v (by rw[<-Bn];exact e1);obtain⟨en2,b,G,h4,h5,_⟩:=ent j q.1 q.2 e2;rw[h1]at G;cases G;exact⟨b,by rw[h2,h4],h5⟩
    have U:C.length<=sizeLine:=by rw[F.length,AO,a.1];exact c
    refine⟨.ref s.heap.objs.size,upd H s.heap.objs.size<|.lst C,I.laid (t':=tk) (λb o q=>hk b o q) (Ag _) ⟨U,acc.toList,Z,F,by simpa using E⟩,rfl,?_⟩;exact k.lst S rr<|I.hok.fresh<|Ag _
  ·cases e
 ·cases e
def SV:GN:=LL Vg VM
def zld(d:X.calm=true):Jy X (.type "list") SV:=Qs (zle d)<|zje d
variable {ex cause:Option Pv}
def Pd:MS:=λ_ _=>none
def xJ:SS X (.Raise ex cause pos) Pd:=λa s σ H D I ⟨U,st,io,f,st',E,S,e,_⟩=>by cases e
def Rp:JS X (.Raise ex cause pos) Pd:=.mk xJ
def Vm:G2:=JL O4 λx y st=>match x,y with
 |.bl a,.bl b=>some (.bl (a != b),st)
 |_,_=>none
def wY:Ji X (SL .IsNot) Vm:=Q0 bH (by
 rintro m s σ H x y v u Q I a b ⟨n,o,st,io,d,st',c,g,S,e,k⟩
 (try dsimp only at e)
 split at e
 ·cases e
  cases (show x=_ from c)
  cases (show y=_ from g)
  cases a;cases b;exact PyProof.Rows.isnot_bool ⟨.bl _,H,I,rfl,k.now S rfl⟩
 ·cases e)
structure Kl(H H':Hp):Prop where
 tup:∀a xs,H a=some (.tup xs)->H' a=some (.tup xs)
 frz:∀a o u,H a=some (.frz o u)->(∀ps,u≠.dT ps)->H' a=some (.frz o u)
variable {K0:Ab}{G0 G1:Hp}{i0:List Addr}
section
variable {H':Hp}
def Nk.kl{a:Addr}(T:Kl H H')(h:Nk K H a xs):Nk K H' a xs:=by
 rcases h with⟨o,h⟩|h
 ·exact .inl ⟨o,T.frz _ _ _ h<|by simp⟩
 exact .inr h
mutual
theorem Rep.thawn{K0:Ab}{G0 G1:Hp}{i0:List Addr}(T:Kl G0 G1):∀{v:V}{d:D},Rep K0 G0 i0 v d->Rep K0 G1 i0 v d
 |_,.non,h=>h
 |_,.bl _,h=>h
 |_,.int _,h=>h
 |_,.str _,h=>h
 |_,.tup ds,h=>by obtain⟨a,xs,e,q,r⟩:=h;exact⟨a,xs,e,T.tup a xs q,Hi.thawn T r⟩
 |_,.ref n,h=>h
 |_,.kl ds,h=>by obtain⟨a,xs,e,q,r⟩:=h;exact⟨a,xs,e,q.kl T,Hi.thawn T r⟩
 |_,.fn _,h=>h
 |_,.er _ _ _,h=>⟨h.1,h.2.kp T.frz⟩
theorem Hi.thawn{K0:Ab}{G0 G1:Hp}{i0:List Addr}(T:Kl G0 G1):∀{xs:List V}{ds:List D},Hi K0 G0 i0 xs ds->Hi K0 G1 i0 xs ds
 |_,[],h=>h
 |_,d::ds,h=>by obtain⟨y,f,e,r,rs⟩:=h;exact⟨y,f,e,Rep.thawn T r,Hi.thawn T rs⟩
end
def KR.thawn{κ:Type}{ps:List (κ×V)}{kvs:List (κ×D)}(T:Kl H H')(h:KR κ K H io ps kvs):KR κ K H' io ps kvs:=Paired.mapP h λ_ _ z=>⟨z.1,Rep.thawn T z.2⟩
def OR.thawn{a:Addr}{o:O}(T:Kl H H')(e:H' a=H a)(h:OR K H io a o):OR K H' io a o:=by
 cases o with
 |lst ds=>obtain⟨xs,q,r⟩:=h;exact⟨xs,e.trans q,Hi.thawn T r⟩
 |fz ds=>obtain⟨ob,xs,q,r⟩:=h;exact⟨ob,xs,e.trans q,Hi.thawn T r⟩
 |dk b=>obtain⟨xs,q,r⟩:=h;exact⟨xs,e.trans q,KR.thawn T r⟩
 |dt b=>obtain⟨xs,q,r⟩:=h;exact⟨xs,e.trans q,KR.thawn T r⟩
 |fk b=>obtain⟨ob,xs,q,r⟩:=h;exact⟨ob,xs,e.trans q,KR.thawn T r⟩
 |ft b=>obtain⟨ob,xs,q,r⟩:=h;exact⟨ob,xs,e.trans q,KR.thawn T r⟩
 |ob C fs=>obtain⟨c,xs,q,r⟩:=h;exact⟨c,xs,e.trans q,KR.thawn T r⟩
 |sz n=>exact e.trans h
 |dz=>exact e.trans h
end
variable {ps:List (List Key×V)}{qp:List (Addr×Obj)}
section
variable {σ:List (Option V)}
def Inv.thaw{d:Addr}{o:Obj}(I:Inv X qp σ H s)(hd:H d=some (.frz o<|.dT ps))(f:∀o u,X.H₀ d≠some (.frz o u)):Inv X qp σ (upd H d<|.dT ps) s:=by
 have ne:∀{b:Addr}{v:HO},H b=some v->v≠.frz o (.dT ps)->b≠d:=λ{b v} q e z=>by subst z;rw[hd]at q;exact e (Av q).symm
 have nn:∀{b:Addr},H b=none->b≠d:=λ{b} q z=>by rw[z,hd]at q;cases q
 refine⟨I.ok,I.os,I.bare,⟨I.base.keep,I.base.slot,λb v q n g=>?_,I.base.there,λb xs q=>?_,λb v u q=>?_,λb xs q=>?_⟩,I.loc,I.cell,?_,λx c q=>?_,λp w=>?_,λb v q=>?_,I.len⟩
 ·have:=I.base.free b v q n g;rw[HV (nn this)];exact this
 ·have:=I.base.tups b xs q;rw[HV (ne this<|by simp)];exact this
 ·have h:=I.base.frzs b v u q;have:b≠d:=λz=>f v u (by rw[<-z];exact q);rw[HV this];exact h
 ·obtain⟨m,h⟩:=I.base.tbls b xs q;exact⟨m,by rw[HV (ne h<|by simp)];exact h⟩
 ·rw[HV (nn I.free)];exact I.free
 ·rw[HV (nn<|I.freeC x c q)];exact I.freeC x c q
 ·obtain⟨a,b,c⟩:=I.pin p w;exact⟨a,by rw[HV (nn b)];exact b,c⟩
 ·by_cases hb:b=d
  ·subst hb;rw[Le]at q;cases q;exact(I.hok b _ hd).2.stay (λc x _ y=>y) (λc y=>by rw[HV (ne y<|by simp)];exact y) λc xs y=>by rw[HV (ne y<|by simp)];exact y
  rw[HV hb]at q;exact(I.hok b v q).stay (λc x _ y=>y) (λc y=>by rw[HV (ne y<|by simp)];exact y) λc xs y=>by rw[HV (ne y<|by simp)];exact y
end
def VS(n:Nat)(st0 st:Hh):Option Hh:=match st0[n]? with
 |some (.dt _)=>match st[n]? with
  |some (.ft a)=>some<|st.set n<|.dt a
  |_=>none
 |_=>none
def QM(i:Nat)(m:ME):ME:=λU st=>match U[i]? with
 |some (some<|.ref n)=>(!9).bind λ(d,s)=>(VS n st s).map λt=>(d,t)
 |_=>none
variable {p:Addr}
section
variable {i:Nat}
def vG{H1:Hp}{ka:List Addr}{d:List (List Key×V)}{kvs:List (List Key×D)}(S:HA K H io st)(X1:Ext io ka H H1)(S1:HA K H1 (io++ka) s1)(hn:io[n]?=some p) (h0:H p=some (.dT d)) (j:s1[n]?=some (.ft kvs)) (f:H1 p=some (.frz o<|.dT ps)) (r:KR (List Key) K H1 (io++ka) ps kvs):
  Kl H1 (upd H1 p<|.dT ps)/\Ext io ka H (upd H1 p<|.dT ps)/\HA K (upd H1 p<|.dT ps) (io++ka) (s1.set n<|.dt kvs):=by
 have ne:∀{b:Addr}{v:HO},H1 b=some v->v≠.frz o (.dT ps)->b≠p:=λ{b v} q i z=>by subst z;rw[f]at q;exact i (Av q).symm
 have T:Kl H1 (upd H1 p<|.dT ps):=⟨λa xs q=>by rw[HV (ne q<|by simp)];exact q,λa v u q m=>by rw[HV (ne q (λz=>by cases z;exact m ps rfl))];exact q⟩
 have e:(io++ka)[n]?=some p:=by rw[Ar (KB.mp hn).1];exact hn
 refine⟨T,⟨λb u h nb=>?_,X1.fresh,λb v u h=>?_⟩,by rw[Bq];exact S1.len,S1.nd,λk a ob h1 c=>?_⟩
 ·rw[HV (λz=>nb (by rw[z];exact AF hn))];exact X1.keep b u h nb
 ·have:b≠p:=λz=>by
   rw[z,h0]at h;cases h
  rw[HV this];exact X1.frz b v u h
 ·by_cases hk:k=n
  ·subst hk;rw[e]at h1
   cases (Av h1);rw[Dl,if_pos rfl]at c;split at c
   ·cases (Av c)
    exact⟨ps,Le,KR.thawn T r⟩
   ·cases c
  ·rw[Ak (λz=>hk z.symm)]at c;have g:a≠p:=λz=>by
    subst z;exact hk<|(FX (KB.mp h1).1 S1.nd).mp<|h1.trans e.symm
   exact OR.thawn T (HV g)<|S1.ob k a ob h1 c
def sE(h:SE X e m):SE X e (QM i m):=by
 rintro qp s σ H Q I ⟨U,st,io,d,st',E,S,a,k⟩;unfold QM at a;split at a
 ·rename_i n _;obtain⟨⟨N,s1⟩,B,a⟩:=Hs a;obtain⟨t,b,a⟩:=Ia a;cases a;unfold VS at b
  split at b
  ·rename_i l c
   split at b
   ·rename_i C q;cases b;refine HB (h qp s σ H (λv p=>∃w,Ext io w H p/\HA X.K p (io++w) s1/\Rep X.K p (io++w) v d) I ⟨U,st,io,d,s1,E,S,B,λv1 H1 A W S1 f=>⟨A,W,S1,f⟩⟩) ?_;rintro v s2 ⟨x,H1,F,G,A,W,S1,f⟩;have g:n<io.length:=by rw[S.len];exact(KB.mp c).1
    obtain⟨J,h0,_⟩:=S.ob n _ _ (Ah g) c;have j:(io++A)[n]?=some io[n]:=by rw[Ar g];exact Ah g
    obtain⟨o,ps,y,r⟩:=S1.ob n _ _ j q;obtain⟨T,L,M⟩:=vG S W S1 (Ah g) h0 q y r;refine⟨x,_,Inv.thaw F y λo u z=>?_,G,k _ _ _ L M<|Rep.thawn T f⟩;have:=I.base.frzs _ _ _ z;rw[h0]at this;cases this
   ·cases b
  ·cases b
 ·cases a
end
variable {vs:List IR}
def eQ{l:Addr}{R:Qqa}(h:IsTup s.heap l vs.toArray)(hz:vs.length<=sizeLine)(go:∀D h',(∀b o,s.heap.get? b=some o->h'.get? b=some o)->s.heap.get? D=none->h'.get? D=some (seqObj "list" vs.toArray 0)->wpAny (!5) A.in1.in1 (Builtin.«list.sort» ⟨[.ref D],[]⟩) (λf s'=>f=.done (.ret .none)/\R (.ref D) s') (λ_ _=>False) {s with heap:=h'}):
  wpAny (!5) A (call (.builtin "sorted") [.ref l]) R E s:=by
 obtain⟨o,g,c,n,d⟩:=h;exists 12;unfold Builtin.«sorted»;refine Aa (m:=checkCount "sorted" 1 1 _) (Ac<|Aa<|PySem.wpAny_collect_seq l (.inr rfl) g c d (λa k1=>Aa (Dr ?_<|by simpa using hz))<|by simpa using hz);have p:(a.push<|seqObj "list" vs.toArray 0).get? a.objs.size=some (seqObj "list" vs.toArray 0):=Ap _ rfl;have fr:s.heap.get? a.objs.size=none:=by
  cases e:s.heap.get? a.objs.size with
  |none=>rfl
  |some u=>exact absurd (Aj<|k1 _ _ e)<|AL _
 refine Aa<|AM<|Bc EX ⟨_,p,rfl⟩ Ew (Bs (go _ _ (λb u e=>Ad _ (k1 b u e)) fr p) (λf s' ⟨e,r⟩=>?_) λ_ _ x=>x.elim)<|EY _;subst e;exact⟨_,rfl,Ac ⟨_,rfl,r⟩⟩
def xH{at_:Addr}{k:Nat}{R:PySem.Fin->Shared->Prop}(f:vs.length<2)(d:s.heap.get? at_=some (seqObj "list" vs.toArray k))(fin:R (.done<|.ret .none) {s with heap:=sortedHeap s.heap at_ vs vs.toArray}):
  wpAny (!5) A (Builtin.«list.sort» ⟨[.ref at_],[]⟩) R E s:=by
 have e:=Aj d;have b:vs.length<=sizeLine:=AA (BX f) (!1);obtain⟨ep,g1⟩:∃ep,(s.heap.update at_<|BI λ_=>(#[]:Array IR)).get? at_=some (seqObj "list" #[] ep):=⟨_,get?_update_seq d λ_=>#[]⟩
 have g2:(((s.heap.update at_<|BI λ_=>(#[]:Array IR)).push<|seqObj "tuple" vs.toArray 0).push<|seqObj "list" #[] 0).get? at_=some (seqObj "list" #[] ep):=Ad _<|Ad _ g1;rw[list_sort_plain];refine Aa (listItems_at d rfl<|Aa<|DX d rfl (Aa<|EM g1 rfl<|Aa<|EW (Aa<|Dr<|AM ?_)<|by simpa using b)<|by simpa using b);show wpAny (!5) A _ R E {s with heap:=((s.heap.update at_<|BI λ_=>(#[]:Array IR)).push<|seqObj "tuple" vs.toArray 0).push (seqObj "list" #[] 0)};have two:vs.toArray.size<2:=by simpa using f
 have same:(arrOf<|Hc general' (vs.toArray.zip vs.toArray) #[] 7 none).map (·.2)=vs.toArray:=by
  show((vs.toArray.zip vs.toArray).map (·.2))=vs.toArray;simp;clear two g2 g1 d b fin f
  induction vs with
  |nil=>rfl
  |cons a r g=>simpa using g
 dsimp only;rw[if_pos two,if_pos two];refine Aa<|Ac ?_;rw[Gy];refine Aa<|Ac ?_;dsimp only;rw[same];refine Aa<|EM g2 rfl<|Aa<|DX g2 rfl ?_ (hsz2:=by simp;omega);simp only[bne_self_eq_false,AJ,if_false];exact Ac fin
variable {Q:VK}{its:List IR}{ts:List (List Int)}
section
variable {σ:L2.St}
def Inv.notL(I:Inv X qp σ H s){D:Addr}(h:s.heap.get? D=none):D≠X.env.locals/\X.base.get? D=none/\H D=none:=by
 refine⟨λz=>?_,?_,?_⟩
 ·obtain⟨m,⟨o,_,_,e,_⟩,_⟩:=I.loc;rw[<-z,h]at e;cases e
 ·cases e:X.base.get? D with
  |none=>rfl
  |some u=>rw[(I.bs D u e).1]at h;cases h
 ·cases e:H D with
  |none=>rfl
  |some o=>
   obtain⟨u,a⟩:=dC<|I.hok D o e;rw[h]at a;cases a
def cE{D:Addr}{h':PP}(I:Inv X qp σ H s)(i:Vals xs its)(l:xs.length<2)(k:∀b o,s.heap.get? b=some o->h'.get? b=some o)(d:s.heap.get? D=none)(j:h'.get? D=some (seqObj "list" its.toArray 0))(h:∀p,H p=none->Q (.ref p) (upd H p<|.lst xs)):
  wpAny (!4) X.A.in1.in1 (Builtin.«list.sort» ⟨[.ref D],[]⟩) (λf s'=>f=.done (.ret .none)/\EP X qp σ Q (.ref D) s') (λ_ _=>False) {s with heap:=h'}:=by
 have hlen:=i.length;have g:xs.length<=sizeLine:=AA (BX l) (!1);refine xH (!0) j ⟨rfl,?_⟩;obtain⟨n,W,c⟩:=Inv.notL I d;obtain⟨ep,e⟩:=sortedHeap_at (out:=its.toArray) j;have a:∀b u,s.heap.get? b=some u->(sortedHeap h' D its its.toArray).get? b=some u:=λb u q=>by
  have E:b≠D:=λz=>by rw[z,d]at q;cases q
  rw[sortedHeap_old E (Aj<|k b u q)];exact k b u q
 have J:Inv X qp σ (upd H D<|.lst xs) {s with heap:=sortedHeap h' D its its.toArray}:=by obtain⟨m,F⟩:=I.fr;refine Inv.laidAt (m:=m) I (λb u _=>a b u) (λK ⟨o,a1,a2,q,U⟩=>⟨o,a1,a2,a _ _ q,U⟩) (let ⟨K,⟨o,_,_,q,_⟩,_⟩:=I.loc;⟨o,a _ _ q⟩) d c n ⟨g,its,ep,i,e⟩
 exact⟨.ref D,_,J,rfl,h D c⟩
def cF{D:Addr}{h0:PP}(I:Inv X qp σ H s)(x:Vals xs its)(T:Qb H xs ts)(d:2<=ts.length)(P:ts.length<64)(k0:∀b o,s.heap.get? b=some o->h0.get? b=some o)(l:s.heap.get? D=none)(gD:h0.get? D=some (seqObj "list" its.toArray 0))(h:∀(q:Array Nat) (p:Addr),q.Perm (B9<|As ts.length)->Srt.Up (rank ts) q ts.length->H p=none->Q (.ref p) (upd H p<|.lst<|q.toList.map λi=>xs.getD i .non)):
  wpAny (!4) X.A.in1.in1 (Builtin.«list.sort» ⟨[.ref D],[]⟩) (λf s'=>f=.done (.ret .none)/\EP X qp σ Q (.ref D) s') (λ_ _=>False) {s with heap:=h0}:=by
 have hlen:its.length=ts.length:=by have a:=x.length;have b:=Be T;omega
 obtain⟨m,F⟩:=I.fr;have U:∀b,H b≠none->b≠X.env.locals:=λb y z=>y (by rw[z];exact I.free);obtain⟨n1,n2,B⟩:=Inv.notL I l;have nD:∀p∈Pg X.base s.heap X.env.locals,p.1≠D:=λp hp z=>by have q:=(WG (g:=X.base) (h:=s.heap) (L:=X.env.locals) p hp).1;rw[z,l]at q;cases q
 refine PySem.W.kat_list_sort (s:={s with heap:=h0}) (news:=Pg X.base s.heap X.env.locals) (F.kept k0) ((WG (g:=X.base) (h:=s.heap) (L:=X.env.locals)).grown k0) gD n1 n2 nD (!0) (!0) λe1 K F' N'=>?_;have keep:∀{d:PP}{o:Obj},PyProof.Rows.Fr X.base X.env.locals d m->News X.base X.env.locals d ((D,o)::Pg X.base s.heap X.env.locals)->∀b u,b≠X.env.locals->s.heap.get? b=some u->d.get? b=some u:=λ{d o} F2 N b u y e=>by
  cases q:X.base.get? b with
  |some v=>
   have z:=(I.bs b v q).1;rw[e]at z;cases z;exact F2.keep b _ q
  |none=>exact(N (b,u)<|Ai _<|Xg y q e).1
 have hk:∀b o,H b≠none->s.heap.get? b=some o->K.get? b=some o:=λb o y e=>keep F' N' b o (U b y) e;obtain⟨fs,k1,k2,k3⟩:=WB (h':=K) I hk T x;refine Gi (s:={s with heap:=K}) (T:=.type "int") k1 (!0) (λv hv=>?_) rfl ?_
 ·obtain⟨i,t,rfl⟩:=k3 v hv;exact EV rfl
 have ok:=Srt.LJ (n:=its.length) (r:=rank ts) (!0);refine Ve (n:=its.length) (r:=rank ts) (s:={s with heap:=K}) (λi j G hj C hC=>Zn (s':={s with heap:=K}) I hk T x (!0) (!0) C hC) (λq M=>?_) ok;refine Fh F' N' (FZ nD) λd c F2 N=>⟨rfl,?_⟩
 have S:=(N _ Al).1;rw[hlen]at M;have vals:Vals (q.toList.map λi=>xs.getD i .non) (q.toList.map λi=>its.getD i Bk):=by
  have E:∀i∈q.toList,i<xs.length:=λi G=>by have:i∈(B9<|As ts.length).toList:=(Array.perm_iff_toList_perm.mp M.1).mem_iff.mp G;have hr:=x.length;simp at this;omega
  generalize q.toList=ql at E
  induction ql with
  |nil=>exact .nil
  |cons i r ih=>
   refine .cons ?_<|ih λj hj=>E j (Ai _ hj);have G:=E i Al;obtain⟨u,eu,ru⟩:=x.get<|Ah G;show RelV (xs.getD i V.non) (its.getD i Bk);rw[Ax,Ax,Ah G,eu];exact ru
 have Y:q.toList.length=ts.length:=by have:=(Array.perm_iff_toList_perm.mp M.1).length_eq;simpa using this
 have J:Inv X qp σ (upd H D<|.lst<|q.toList.map λi=>xs.getD i .non) {s with heap:=d}:=
  Inv.laidAt (m:=m) I (keep F2 N) (λm' Z=>by rw[Zt Z F.ns];exact F2.ns) (let ⟨o,_,_,e,_⟩:=F2.ns;⟨o,e⟩) l B n1 ⟨by rw[Af,Y];exact PH P,_,c,vals,S⟩
 exact⟨.ref D,_,J,rfl,h q D M.1 M.2 B⟩
end
def fG{q:Array Nat}(S:HA K H io st)(r1:Hi K H io xs (ts.map HJ))(d:q.Perm (B9<|As ts.length))(f:Srt.Up (rank ts) q ts.length)(hf:H p=none)(k:Bh K io H (st++[.lst ((KW ts).map HJ)]) (.ref st.length) Q):Q (.ref p) (upd H p<|.lst<|q.toList.map λi=>xs.getD i .non):=by
 have hm:∀i∈q.toList,i<ts.length:=λi b=>by have:=(Array.perm_iff_toList_perm.mp d).mem_iff.mp b;simpa using this
 have a:=WW r1 hm;rw[fD d f]at a;exact k.lst S a hf
def Wr:GN
 |[.tup ds],st=>if decide (ds.length<2)=true then some (.ref st.length,st++[.lst ds])else(rowsOf ds).bind λts=>if(decide (2<=ts.length)&&decide (ts.length<64))=true then some (.ref st.length,st++[.lst ((KW ts).map HJ)])else none
 |_,_=>none
def zg5:Jy X (.builtin "sorted") Wr:=by
 exists 0;unfold Wr at e;split at e
 ·rename_i zs;obtain⟨v,rfl,p,w,rfl,A,c⟩:=R.one;obtain⟨u,rfl,E⟩:=r.one;cases E;have o:IM X.K H p w:=.inl (.inl A)
  split at e
  ·rename_i a;cases e;have U:=c.length;obtain⟨its,b,pl,W⟩:=I.tuple o;exact eQ pl (by have:=b.length;omega) λD f g m n=>cE I b (by rw[U];exact of_decide_eq_true a) g m n λq hf=>k.lst S c hf
  obtain⟨ts,h,e⟩:=Hs e;obtain⟨a,e⟩:=Iu e;cases e;rw[Aq]at a;obtain⟨T,hd⟩:=Rj c h;subst hd;obtain⟨its,b,pl,W⟩:=I.tuple o;refine eQ pl (by have:=b.length;omega) λD f g m n=>cF I b T (of_decide_eq_true a.1) (of_decide_eq_true a.2) g m n λq l i j hf=>fG S c i j hf k
 ·cases e
def Rl:GN:=LL MF Wr
def gB:Jy X (.builtin "sorted") Rl:=Qs Xe zg5
open PySem.SeqAt PySem.MeetsSeq PySem.MeetsSeq2 PySem.MeetsSeq3
end L2.MP
namespace L2.MP
open PySem L2 PySem.Spec PyProof.Rows
section
variable {K:Ab}{x:Str}{st:Stmt}{f:Addr}
structure N8(K:Ab)(x:Str)(st:Stmt)(f:Addr):Prop where
 ex:∃(oc:IR) (od:Option Addr) (kV dc pm:IR) (an:Option Addr) (cd ct:IR) (sl:Array (Option IR)),K.lookup f=some ⟨oc,od,.func (Bu x x (LU st) (Ko st) (I0 st) .none kV dc pm an cd ct),sl⟩/\Cm K cd x=true
 ns:Dx K SZ x=some (some (.ref f))
 kp:Bf K (.ref f)=true
def jU{b kV d pm cd e:IR}{g an:Option Addr}{h:Array (Option IR)}(a:Dx K SZ x=some (some<|.ref f))(l:K.lookup f=some ⟨b,g,.func<|Bu x x (LU st) (Ko st) (I0 st) .none kV d pm an cd e,h⟩)(c:Cm K cd x=true)(k:Bf K (.ref f)=true):N8 K x st f:=⟨⟨b,g,kV,d,pm,an,cd,e,h,l,c⟩,a,k⟩
end
variable {α:Type}
def NV{P:List α->Prop}(h:∀a,P [a])(l:List α)(e:l.length=1):P l:=by
 rcases l with _|⟨a,_|⟨b,l⟩⟩
 ·cases e
 ·exact h a
 ·cases e
def NU{P:List α->Prop}(h:∀a b,P [a,b])(l:List α)(e:l.length=2):P l:=by
 rcases l with _|⟨a,l⟩
 ·cases e
 exact NV (P:=λl=>P (a::l)) (h a) l<|Ec e
def NT{P:List α->Prop}(h:∀a b c,P [a,b,c])(l:List α)(e:l.length=3):P l:=by
 rcases l with _|⟨a,l⟩
 ·cases e
 exact NU (P:=λl=>P (a::l)) (h a) l<|Ec e
def NR{P:List α->Prop}(h:∀a b c d,P [a,b,c,d])(l:List α)(e:l.length=4):P l:=by
 rcases l with _|⟨a,l⟩
 ·cases e
 exact NT (P:=λl=>P (a::l)) (h a) l<|Ec e
def Yx{P:List α->Prop}(h:∀a b c d f,P [a,b,c,d,f])(l:List α)(e:l.length=5):P l:=by
 rcases l with _|⟨a,l⟩
 ·cases e
 exact NR (P:=λl=>P (a::l)) (h a) l<|Ec e
end L2.MP
namespace L2.MP
open PySem PySem.Spec PyProof.Rows
variable {prog:Re}{w:Wp}{A:Around}{E:Qqa}{s:Shared}{d:Addr}{n:Nat}{P:Nat->IR->Prop}
def zlH{T:String}{r:Addr}{h:PP->Prop}{R:Qqa}(K:GK prog w T r d n P h)(l:A.handled=none)(g:h s.heap)(hz:n<=sizeLine)(go:∀(D:Addr) (h':PP) (tk:Nat) (vs:List IR),(∀b o,s.heap.get? b=some o->h'.get? b=some o)->s.heap.get? D=none->h'.get? D=some (seqObj "list" vs.toArray 0)->vs.length=n->(∀(j:Nat) (v:IR),vs[j]?=some v->P j v)->wpAny (!5) A.in1.in1 (Builtin.«list.sort» ⟨[.ref D],[]⟩) (λf s'=>f=.done (.ret .none)/\R (.ref D) s') (λ_ _=>False) {s with heap:=h',toks:=tk}):
  wpAny (!5) A (call (.builtin "sorted") [.ref r]) R E s:=by
 exists 12;unfold Builtin.«sorted»;refine Aa (m:=checkCount "sorted" 1 1 _) (Ac<|Aa<|PySem.W.kdu_collect (A:=A.in1) K l g hz λc tk acc k1 a=>Aa (Dr ?_ (by rw[AO,a.1];exact hz)));have i:(c.push<|seqObj "list" acc.toList.toArray 0).get? c.objs.size=some (seqObj "list" acc.toList.toArray 0):=Ap _ rfl;have fr:s.heap.get? c.objs.size=none:=by
  cases e:s.heap.get? c.objs.size with
  |none=>rfl
  |some u=>exact absurd (Aj<|k1 _ _ e)<|AL _
 refine Aa<|AM<|Bc EX ⟨_,i,rfl⟩ Ew (Bs (go _ _ tk acc.toList (λb u e=>Ad _ (k1 b u e)) fr i (by rw[AO,a.1]) λj v e=>a.2 j v (by rw[<-Bn];exact e)) (λf s' ⟨e,r⟩=>?_) λ_ _ x=>x.elim)<|EY _;subst e;exact⟨_,rfl,Ac ⟨_,rfl,r⟩⟩
variable {X:Cx}{K:Ab}{H:Hp}{io:List Addr}{st st':Hh}{qp:List (Addr×Obj)}{σ:L2.St}
def Ph:GN
 |[.ref n],st=>match st[n]? with
  |some (.dt kvs)=>if fits kvs.length=true then(if decide ((Js kvs).length<2)=true then some (.ref st.length,st++[.lst (Js kvs)])else(rowsOf<|Js kvs).bind λts=>if(decide (2<=ts.length)&&decide (ts.length<64))=true then some (.ref st.length,st++[.lst ((KW ts).map HJ)])else none)else none
  |_=>none
 |_,_=>none
def Inv.tk(I:Inv X qp σ H s)(t':Nat):Inv X qp σ H {s with toks:=t'}:=Inv.step (t':=t') (ch:=[]) (g':=s.gens) (d':=s.drawn) I (λb d=>absurd d (!2)) (λb u _ _ _ e _=>e) (λb u _ _ _ e _=>⟨u.slots,e⟩) (λb u _ e n=>n) (λb u _ e=>⟨u,e⟩)
  (λb xs e=>e) (λb u v e=>e) (λb w e=>⟨#[],by rw[e];simp⟩) (λm h=>h) (λb u e=>I.hok b u e) I.bare
def zg8(Y:X.calm=true):Jy X (.builtin "sorted") Ph:=by
 exists 0;unfold Ph at e;split at e
 ·rename_i n
  split at e
  ·rename_i P Z;exists 3;obtain⟨v,rfl,p,rfl,hp⟩:=R.one;obtain⟨u,rfl,ru⟩:=r.one;cases ru;obtain⟨B,a,C⟩:=S.ob n p _ hp Z;obtain⟨t1,t2,hs⟩:=M4 I<|.inr ⟨B,.inl a⟩;obtain⟨z,y,xs,r0,o,es,ep,g,ex,F,et,nd⟩:=I.hok p _ a;have x:=I.hok p _ a;have fz:Jr X.prog X.w H s.heap p (.frz o<|.dT B):=⟨g,x⟩
   obtain⟨G,J,ent⟩:=Qt fz F;have c:es.size<=sizeLine:=by rw[J,KR.length C];exact of_decide_eq_true hf
   refine zlH (cG (prog:=X.prog) (w:=X.w) F hs λs' G=>?_) (I.ok.hd Y) g c λD h' tk L hk M N f h=>?_
   ·obtain⟨o',E,i⟩:=t1;rw[g]at E;cases E;exact⟨o,G,i⟩
   ·obtain⟨ys,U,K⟩:=Uo (vs:=L) C (by rw[f,J]) λj v q l e2=>by
     obtain⟨en',h1,A⟩:=h j v l;obtain⟨en2,b,W,h4,h5,_⟩:=ent j q.1 q.2 e2;rw[h1]at W;cases W;exact⟨b,by rw[A,h4],h5⟩
    have m:ys.length=(Js P).length:=K.length;split at e
    ·rename_i A;cases e;exact cE (s:={s with toks:=tk}) (Inv.tk I tk) U (by rw[m];exact of_decide_eq_true A) hk M N λq hf=>k.lst S K hf
    obtain⟨ts,l,e⟩:=Hs e;obtain⟨A,e⟩:=Iu e;cases e;rw[Aq]at A;obtain⟨T,hd⟩:=Rj K l;rw[hd]at K;exact cF (s:={s with toks:=tk}) (Inv.tk I tk) U T (of_decide_eq_true A.1) (of_decide_eq_true A.2) hk M N λq p' hq hu hf=>fG S K hq hu hf k
  ·cases e
 ·cases e
variable {o e:Pv}{m:ME}{pos apos p:Pos}{C a:Addr}{f x qual c:Str}{g:GN}{pl:Sem Bool}{k:Nat}{ps N:List Str}{mg:Str->Option IR}{base:PP}
section
variable {value:Pv}{es:List Pv}{mo mv:ME}{mm:MA}{pos':Pos}
def HW(f:Str)(d:D):List (Str×D)->List (Str×D)
 |[]=>[(f,d)]
 |(g,x)::r=>if g=f then(g,d)::r else(g,x)::HW f d r
theorem KR.Jk{f:Str}:∀{ps:List (Str×V)} {fs:List (Str×D)},KR Str K H io ps fs->(ps.lookup f=none/\fs.lookup f=none)\/∃v d,ps.lookup f=some v/\fs.lookup f=some d/\Rep K H io v d
 |_,_,.nil=>.inl ⟨rfl,rfl⟩
 |(a,v)::ps,(b,d)::fs,.cons h t=>by
  obtain⟨e,r⟩:=h;cases (show a=b from e)
  simp only[CB];cases f==a with
  |true=>exact .inr ⟨v,d,rfl,rfl,r⟩
  |false=>exact KR.Jk t
theorem KR.IL{f:Str}{v:V}{d:D}(r:Rep K H io v d):∀{ps:List (Str×V)} {fs:List (Str×D)},KR Str K H io ps fs->KR Str K H io (L2.IL f v ps) (HW f d fs)
 |_,_,.nil=>.cons ⟨rfl,r⟩ .nil
 |(a,x)::ps,(b,y)::fs,.cons h t=>by
  obtain⟨e,q⟩:=h;cases (show a=b from e)
  unfold L2.IL HW;by_cases z:a=f
  ·rw[if_pos z,if_pos z];exact .cons ⟨rfl,r⟩ t
  rw[if_neg z,if_neg z];exact .cons ⟨rfl,q⟩<|KR.IL r t
def Hv(C:Addr)(f:Str)(m:ME):ME:=λU st=>(!9).bind λ(x,s1)=>match x with
 |.ref n=>match s1[n]? with
  |some (.ob a fs)=>if decide (a=C)=true then(fs.lookup f).map λd=>(d,s1)else none
  |_=>none
 |_=>none
def qC(b:Lz X.K C)(hn:Nr X.K C f)(h:SE X e m)(i:attributeBase e f X.env (UV e X.env)=UV e X.env:=by rfl):SE X (.Attribute e f pos) (Hv C f m):=PE.imp (lU h i) <| by
 exists 1;obtain⟨⟨x,s1⟩,c,e⟩:=Hs e;refine⟨U,st,io,x,s1,E,S,c,λv1 H1 r g S1 o=>?_⟩;cases x with
 |ref n=>
  exists 10;split at e
  ·rename_i u fs s;obtain⟨w,e⟩:=Iu e;obtain⟨y,a,e⟩:=Ia e;cases e
   cases (of_decide_eq_true w);obtain⟨p,rfl,A⟩:=o;obtain⟨N,ps,P,j⟩:=S1.ob n p _ A s;rcases KR.Jk (f:=f) j with⟨_,z⟩|⟨v,B,l,hd,q⟩
   ·rw[a]at z;cases z
   rw[a]at hd;cases hd;exact⟨p,C,N,ps,v,rfl,P,b,hn,l,k _ _ _ g S1 q⟩
  ·cases e
 |_=>cases e
def LC(C:Addr)(f:Str)(mo mv:ME):MS:=λU st=>(mv U st).bind λ(y,s1)=>(mo U s1).bind λ(x,s2)=>match x with
 |.ref n=>match s2[n]? with
  |some (.ob a fs)=>if(decide (a=C)&&decide (fs.length<1000))=true then some (.nx U,s2.set n (.ob a<|HW f y fs))else none
  |_=>none
 |_=>none
def pI(j:Lz X.K C)(hn:Nr X.K C f)(l:SE X o mo)(q:SE X value mv)(r:swapsWith value (some<|.Attribute o f pos') pos.line X.env=pure false:=by rfl):SS X (.Assign [.Attribute o f pos'] value pos) (LC C f mo mv):=PS.imp (mP l q r) <| by
 intro N σ H h;obtain⟨U,st,io,fl,st',E,S,e,w⟩:=Ll.mp h;obtain⟨⟨y,s1⟩,v,e⟩:=Hs e;obtain⟨⟨x,s2⟩,B,e⟩:=Hs e;refine⟨U,st,io,y,s1,E,S,v,λv1 H1 F c a R1=>⟨U,s1,io++F,x,s2,E.ext S c,a,B,λv2 M Q d S2 R2=>?_⟩⟩;cases x with
 |ref n=>
  exists 10;split at e
  ·rename_i W fs s;obtain⟨g,e⟩:=Iu e;rw[Aq]at g;cases e
   cases (of_decide_eq_true g.1);obtain⟨p,rfl,A⟩:=R2;obtain⟨m,ps,P,b⟩:=S2.ob n p _ A s;have G:ps.length<1000:=by rw[KR.length b];exact of_decide_eq_true g.2
   have I:=R1.ext a d;obtain⟨i,J⟩:=M7 (o:=.ins C m (L2.IL f v1 ps)) (ob:=.ob C (HW f y fs)) S2 A s (λo u z=>by rw[P]at z;cases z) λY T L=>⟨m,_,L,KR.IL (Rep.mono T I)<|KR.mono T b⟩
   refine⟨p,C,m,ps,rfl,P,j,hn,G,?_⟩;have Ea:=(E.ext S c).ext a d;exact((w.on c a).on d S2) σ _ [] i J<|Ea.ext S2 i
  ·cases e
 |_=>cases e
def Jz(C:Addr)(f:Str)(g:GN)(mo:ME)(mm:MA):ME:=λU st=>(mo U st).bind λ(x,s1)=>match x with
 |.ref n=>match s1[n]? with
  |some (.ob a fs)=>if(decide (a=C)&&(fs.lookup f).isNone)=true then(mm U s1).bind λ(ds,s2)=>g (.ref n::ds) s2 else none
  |_=>none
 |_=>none
def LQ(P:Re)(w:Wp)(K:Ab)(mg:Str->Option IR)(base:PP)(k:Nat)(C:Addr)(f:Str)(n:Nat)(g:GN):Prop:=∃a fd ps,Jd P w K mg base KA k a fd ps (MK K n g)/\Meth K C f a/\Binds K fd ps []
def Zr{Q:VK}{Ex:XK}(b:Jl n mm)(h:tE X.K (Jz C f g mo mm) σ H Q):Vp C f (MK X.K (n+1) g) [] Ex (tE X.K mo) (tA X.K mm) σ H Q:=by
 obtain⟨U,st,io,d,st',E,S,e,k⟩:=h;obtain⟨⟨x,s1⟩,i,e⟩:=Hs e;refine⟨U,st,io,x,s1,E,S,i,λv1 H1 o s S1 R1=>?_⟩;cases x with
 |ref n=>
  exists 10;split at e
  ·rename_i y fs j;obtain⟨a,e⟩:=Iu e;rw[Aq]at a;obtain⟨⟨ds,s2⟩,w,e⟩:=Hs e;have c:=of_decide_eq_true a.1;obtain⟨p,rfl,l⟩:=id R1;obtain⟨q,ps,A,r⟩:=S1.ob n p _ l j;rw[c]at A;have m:ps.lookup f=none:=by
    rcases KR.Jk (f:=f) r with⟨z,_⟩|⟨v,B,F,hd,G⟩
    ·exact z
    rw[hd]at a;cases a.2
   refine⟨p,q,ps,rfl,A,m,U,s1,io++o,ds,s2,E.ext S s,S1,w,λI J u N P R2=>?_⟩;refine⟨.ref n::ds,s2,(io++o)++u,d,st',?_,?_,P,e,(k.on S1 s).on P N⟩
   ·rw[An,Aw,R2.length,b _ _ _ _ w]
   rw[An];exact Hi.cons (R1.ext S1 N) R2
  ·cases e
 |_=>cases e
def Oz(F:LQ X.prog X.w X.K X.mg X.base k C f (n+1) g)(l:Lz X.K C)(q:HM k X.A)(r:SE X o mo)(u:SA X (e::es) mm)(v:Jl n mm)(b:Qqb X.env e es:=by rfl) (i:Qqc pos es X.env:=by rfl)(y:UV (.Call (.Attribute o f apos) (e::es) [] pos) X.env=(do
   let j <-UV o X.env
   standAt apos.atName
   let (f,first) <-holding [j] (getMethod j f pl)
   callWith pos f first (backTo pos<|UF (e::es) X.env) (backToKw pos<|keywordEach [] X.env)):=by rfl):SE X (.Call (.Attribute o f apos) (e::es) [] pos) (Jz C f g mo mm):=by
 obtain⟨a,fd,ps,F,hm,c⟩:=F;exact PE.imp (sZ r l hm F q c .nil Tb u b i y) λσ H Q h=>Zr v h
def Mj(F:LQ X.prog X.w X.K X.mg X.base k C f 1 g)(i:Lz X.K C)(j:HM k X.A)(l:SE X o mo)(q:UV (.Call (.Attribute o f apos) [] [] pos) X.env=(do
   let b <-UV o X.env
   standAt apos.atName
   let (f,first) <-holding [b] (getMethod b f pl)
   callWith pos f first (backTo pos<|UF [] X.env) (backToKw pos<|keywordEach [] X.env)):=by rfl):SE X (.Call (.Attribute o f apos) [] [] pos) (Jz C f g mo mZ):=by
 obtain⟨a,fd,ps,F,hm,c⟩:=F;refine PE.imp (vR l i hm F j c .nil Tb q) λσ H Q h=>?_;have t:=Zr (n:=0) (Ex:=E0) Jl.nil h;obtain⟨U,st,io,d,st',E,S,e,k⟩:=t;refine⟨U,st,io,d,st',E,S,e,λv1 H1 m s x N=>?_⟩;obtain⟨p,P,ps,r,u,v,G,s2,y,ds,s3,I,S2,z,B⟩:=k v1 H1 m s x N;refine⟨p,P,ps,r,u,v,?_⟩;cases z;exact B [] H1 [] Ext.refl S2.nil rfl
def QL(C:Addr)(g:GN)(mm:MA):ME:=λU st=>(mm U st).bind λ(ds,s1)=>(g (.ref s1.length::ds)<|s1++[.ob C []]).bind λ(d,s2)=>match d with
 |.non=>some (.ref s1.length,s2)
 |_=>none
def rY{fd:FuncData}(M:Mk X.K C a)(F:Jd X.prog X.w X.K X.mg X.base KA k a fd ps (MK X.K (n+1) g))(q:Binds X.K fd ps [])(u:HM (k+1) X.A)(y:Gl X x)(hm:X.mg x=some (.ref C))(B:SA X (e::es) mm)(G:Jl n mm)(b:(x==("__debug__":Str))=false:=by decide) (he:Qqb X.env e es:=by rfl) (h:Qqc pos es X.env:=by rfl):
  SE X (.Call (.Name x p) (e::es) [] pos) (QL C g mm):=PE.imp (sY M F u y hm q .nil Tb B b he h) <| by
 exists 1;obtain⟨⟨ds,s1⟩,P,e⟩:=Hs e;obtain⟨⟨r,s2⟩,I,e⟩:=Hs e;refine⟨U,st,io,ds,s1,E,S,P,λJ H1 L W c R1 x f Y m s=>?_⟩;cases r with
 |non=>
  cases e;obtain⟨i,Sa⟩:=Rf (o:=.own x) c m;have N:upd H1 f (.own x) x=none:=by rw[HV (λz=>s z.symm)];exact Y
  obtain⟨j,l⟩:=Qi (o:=.ins C f []) (ob:=.ob C []) Sa N λZ T e'=>⟨f,[],e',.nil⟩;have R2:=(R1.ext c i).ext Sa j;refine⟨.ref s1.length::ds,s1++[.ob C []],((io++L)++[])++[x],.non,_,?_,?_,l,I,λv Z ka X' S' R'=>⟨R',?_⟩⟩
  ·rw[An,Aw,R1.length,G _ _ _ _ P]
  ·rw[An J];exact Hi.cons ⟨x,rfl,by rw[<-Sa.len];exact getElem?_len _ x⟩ R2
  have kk:=((k.on c W).on Sa i).on l j;exact kk _ _ ka X' S' ⟨x,rfl,Ln (by rw[<-Sa.len];exact getElem?_len _ x)⟩
 |_=>cases e
def YW(K:Ab)(C:Addr)(x qual:Str)(st:Stmt)(ps:List Str):Prop:=∃f fd,Mt K x qual st f fd/\Meth K C x f/\Binds K fd ps []
def qO{P:Re}{st:Stmt}{m:MS}(L:YW K C x qual st ps)(S:IP N ps (I0 st))(hbody:∀(f:Addr) (b:IR) (A:Around) (outer:List Env) (s:Shared) (H:Hp) (E:XK),HM k (A.deeper<|envOfC qual (I0 st) s.heap.objs.size f b) ->
   KN (JI KA P w K mg base N qual (I0 st) f b A outer s H E).nox (Ko st) m):LQ P w K mg base (k+1) C x ps.length (ID N.length m):=by
 obtain⟨f,fd,F,hm,a⟩:=L;exact⟨f,fd,ps,NY F S<|hbody f,hm,a⟩
def Th(P:Re)(w:Wp)(K:Ab)(mg:Str->Option IR)(base:PP)(k:Nat)(C:Addr)(x:Str)(n:Nat)(g:GN):Prop:=∃a fd ps,Mk K C a/\Jd P w K mg base KA k a fd ps (MK K n g)/\Binds K fd ps []/\mg x=some (.ref C)
def xV(F:Th X.prog X.w X.K X.mg X.base k C x (n+1) g)(i:HM (k+1) X.A)(j:Gl X x)(l:SA X (e::es) mm)(q:Jl n mm)(b:(x==("__debug__":Str))=false:=by decide) (he:Qqb X.env e es:=by rfl) (h:Qqc pos es X.env:=by rfl):
  SE X (.Call (.Name x p) (e::es) [] pos) (QL C g mm):=by
 obtain⟨a,fd,ps,M,F,c,hm⟩:=F;exact rY M F c i j hm l q b he h
def YV(K:Ab)(mg:Str->Option IR)(C:Addr)(c x qual:Str)(st:Stmt)(ps:List Str):Prop:=∃f fd,Mt K x qual st f fd/\Mk K C f/\Binds K fd ps []/\mg c=some (.ref C)
def qN{P:Re}{st:Stmt}{m:MS}(L:YV K mg C c x qual st ps)(S:IP N ps (I0 st))(hbody:∀(f:Addr) (b:IR) (A:Around) (outer:List Env) (s:Shared) (H:Hp) (E:XK),HM k (A.deeper<|envOfC qual (I0 st) s.heap.objs.size f b) ->
   KN (JI KA P w K mg base N qual (I0 st) f b A outer s H E).nox (Ko st) m):Th P w K mg base (k+1) C c ps.length (ID N.length m):=by
 obtain⟨f,fd,F,M,a,hm⟩:=L;exact⟨f,fd,ps,M,NY F S<|hbody f,a,hm⟩
end
section
variable {K:Type} [DecidableEq K] {knd:HeapKind prog w K}
def lO{xs:List (K×Addr×IR)}{k:K}{Q:Option DictEntry->Shared->Prop}(i:knd.room A)(b:knd.is s.heap k a)(hm:s.heap.DictOfH knd d xs)(h:∀(j:Nat) (p:Addr×IR),xs[j]?≠some (k,p))(l:Q none {s with toks:=s.toks+knd.draws k}):wpAny (!5) A (Builtin.Dict.takeOut d<|.ref a) Q E s:=by
 obtain⟨o,m,n,e,x,hd,he,c,f⟩:=hm;unfold Builtin.Dict.takeOut
 try with_reducible refine AM ?_
 exact Aa<|knd.pyHash i b<|Aa<|Fu (s:={s with toks:=s.toks+knd.draws k}) i b e hd he c f (λ_=>Ac l) λj p g=>absurd g (h j p)
def yS(d a:Addr)(x:IR):MeetsIn prog w (Builtin.«dict.pop» ⟨[.ref d,.ref a,x],[]⟩) (λA R s=>knd.room A.in1/\(d==sysModules)=false/\∃k xs,knd.is s.heap k a/\s.heap.DictOfH knd d xs/\xs.length<=sizeLine /\
  (∀(j:Nat) (p:Addr×IR) h' tk,xs[j]?=some (k,p)->h'.DictOfH knd d (xs.eraseIdx j)->BD d s.heap h'->R (.ok<|.ret p.2) {s with heap:=h',toks:=tk}) /\
  ((∀(j:Nat) (p:Addr×IR),xs[j]?≠some (k,p))->∀tk,R (.ok<|.ret x) {s with toks:=tk})):=
 .of_wp <| by
  rintro A R s ⟨E,H,k,xs,c,hm,N,h,h'⟩;unfold Builtin.«dict.pop»;refine Aa ?_;unfold Builtin.Dict.keyAndDefault;refine Aa<|Cc hm.typeIs<|Ac ?_;have P:(keyPart<|AE a).isSome=false:=rfl;obtain⟨o,K,l,X,q,hd,he,b,r⟩:=id hm;simp only[P,AJ,if_false];refine Aa<|B0 X hd<|Aa<|Ac ?_;have u:=EA he
  cases g:K.isEmpty with
  |true=>
   have h0:xs.length=0:=by
    have:K.size=0:=by simpa using g
    omega
   simp only[if_true];refine Aa<|BY<|Aa<|Ac ?_;simp only[Cw,if_true];refine Aa<|D4 H ?_;exact Aa<|BY<|Ac ⟨x,rfl,h' (λj p m=>absurd (KB.mp m).1 (!0)) _⟩
  |false=>
   simp only[AJ,if_false];by_cases e:∃(j:Nat) (p:Addr×IR),xs[j]?=some (k,p)
   ·refine Aa<|Zk E c hm N e λj p i m n C=>?_;rw[show(some (⟨knd.hash k,.ref p.1,p.2⟩:DictEntry)).isNone=false from rfl];refine Aa<|BV<|Ac ⟨p.2,rfl,?_⟩;exact h j p i _ m n C
   have f:∀(j:Nat) (p:Addr×IR),xs[j]?≠some (k,p):=λj p z=>e ⟨j,p,z⟩;refine Aa<|lO E c hm f ?_;simp only[Cw,if_true];refine Aa<|D4 H ?_;exact Aa<|BY<|Ac ⟨x,rfl,h' f _⟩
end
variable {Q:Qqa}{cpos:Pos}
section
variable {mk mx:ME}{f:Pv}
def qZ{b:Addr}{kvs:List (List Key×V)}{k:List Key}{z:V}{u:IR}(r:A.units+1<cLine)(I:Inv X qp σ H s)(e:H a=some (.dT kvs))(y:H b=some (.tup<|k.map kV))(Z:RelV z u)(h:∀v i s',Iv kvs k=some v->Inv X qp σ (upd H a<|.dT<|JV kvs k) s'->RelV v i->Q i s') (h':∀s',Iv kvs k=none->Inv X qp σ H s'->Q u s'):wpAny (!4) A (call (.builtin "dict.pop") [.ref a,.ref b,u]) Q E s:=by
 obtain⟨K,hd,xs,rel,n⟩:=Vd I.hok e;obtain⟨t1,t2,B⟩:=M4 I<|.inr ⟨kvs,.inl e⟩;have G:xs.length<=sizeLine:=by rw[<-Be rel];exact K
 have g:(xs.map (·.1)).Nodup:=by obtain⟨_,_,_,_,_,_,_,_,g⟩:=n;exact g
 refine CL CN n.typeIs EO (PySem.F.args_dict_pop_3 _ _ _) (yS (knd:=tupleKind (Ja X.prog X.w)) a b u) ⟨BE r,B,k,xs,M5 I.hok y,n,G,λj p h2 tk m o x=>?_,λhno tk=>?_⟩
 ·have d:=rel.val k;rw[atKey_of_get g m]at d
  cases l:Iv kvs k with
  |none=>rw[l]at d;exact d.elim
  |some v=>
   rw[l]at d;refine h v p.2 _ l ?_ d;obtain⟨q,J,L,N,C,M,S,_,T⟩:=o;have U:(kvs.findIdx λW=>decide (W.1=k))=j:=(Uu (λp q z=>z.1) k rel).trans<|Vv g m;have Y:(JV kvs k).length<=sizeLine:=AA (Ej _ _) K;have f:KT H (JV kvs k) (xs.eraseIdx j):=by unfold JV;rw[U];exact UB j rel
   refine TX I (by rw[e];exact CQ) x ⟨q,N⟩ ⟨Y,hd,_,f.keeps λc ys P=>?_,q,J,L,N,C,M,S,T⟩;rw[HV (QO P e λz=>nomatch z)];exact P
 ·have l:Iv kvs k=none:=by
   cases l:Iv kvs k with
   |none=>rfl
   |some v=>
    obtain⟨j,p,m⟩:=aQ rel l;exact absurd m<|hno j p
  exact h' _ l<|Inv.tk I tk
def vD(h ty i:TE):TE:=λσ H Q=>h σ H λx H1=>∃a,x=.ref a/\QJ H1 a/\ty σ H1 λy e=>i σ e λz d=>∃c k b,d a=some (.dT c)/\y=.ref b/\d b=some (.tup<|k.map kV)/\(∀v,Iv c k=some v->Q v (upd d a<|.dT<|JV c k))/\(Iv c k=none->Q z d)
def zl3{i ty j:TE}(q:X.A.units+1<cLine)(r:PE X o i)(he:PE X e ty)(hf:PE X f j)(m:M2 X o "pop" apos e f cpos):PE X (.Call (.Attribute o "pop" apos) [e,f] [] cpos) (vD i ty j):=by
 exists 4;refine Dk m.base m.few m.line Cs CN Fb (HB (r qp s σ H _ I h) ?_);rintro u s1 ⟨x,H1,n,w,a,ex,d,C⟩;subst ex;obtain rfl:u=AE a:=w;obtain⟨t1,E,_⟩:=M4 n d;refine⟨t1,E,?_⟩;rw[m.trees];refine BL rfl (Ck (BN (HB (he qp s1 σ H1 _ n C) λK s2 ⟨y,N,P,B,F⟩=>
  BN (HB (hf qp s2 σ N _ P F) λY s3 ⟨z,G,J,p,L,k,b,M,S,T,U,W⟩=>CH ?_))))
 subst S;obtain rfl:K=AE b:=B;exact qZ q J M T p (λv Z s4 l c g=>⟨v,_,c,g,U v l⟩) λs4 l c=>⟨z,G,c,p,W l⟩
def Of(md mk mx:ME):ME:=λU st=>(md U st).bind λ(d,s1)=>match d with
 |.ref n=>if LA s1 n=true then(mk U s1).bind λ(k,s2)=>(mx U s2).bind λ(x,s3)=>match k,s3[n]? with
   |.tup ds,some (.dt a)=>(keysOf ds).bind λq=>match HN a q with
     |some v=>some (v,s3.set n (.dt<|JV a q))
     |none=>some (x,s3)
   |_,_=>none
  else none
 |_=>none
def sA{md:ME}(W:X.A.units+1<cLine)(Y:SE X o md)(he:SE X e mk)(hf:SE X f mx)(mm:M2 X o "pop" apos e f cpos:=by exact⟨rfl,rfl,rfl,rfl⟩):SE X (.Call (.Attribute o "pop" apos) [e,f] [] cpos) (Of md mk mx):=
 PE.imp (zl3 W Y he hf mm) <| by
  exists 1;obtain⟨⟨x,s1⟩,Z,f1⟩:=Hs e;clear e;cases x with
  |ref n=>
   obtain⟨hd,f2⟩:=Iu f1;obtain⟨⟨y,s2⟩,e2,i⟩:=Hs f2;obtain⟨⟨z,s3⟩,e3,e⟩:=Hs i;clear f1 f2 i;refine⟨U,st,io,_,s1,E,S,Z,λv1 H1 j s c R1=>?_⟩;obtain⟨p,rfl,l⟩:=R1;refine⟨p,rfl,T7 c l hd,U,s1,io++j,y,_,E.ext S s,c,e2,λv2 H2 B K w R2=>⟨U,s2,(io++j)++B,z,_,(E.ext S s).ext c K,w,e3,λv3 H3 k3 N S3 R3=>?_⟩⟩;exists 10;split at e
   ·rename_i ds P F;obtain⟨q,eq1,e⟩:=Hs e;have g:=Ln (ka:=k3)<|Ln (ka:=B) l;obtain⟨ps,I,r⟩:=S3.ob n p _ g F;obtain⟨b,xs,rfl,hb,rs⟩:=R2.ext w N;have ex:=Pn rs eq1;subst ex;refine⟨ps,q,b,I,rfl,hb,λv C=>?_,λC=>?_⟩
    ·rcases KR.val r q with⟨J,h⟩|⟨d',v',m,a,L⟩
     ·rw[C]at h;cases h
     ·rw[C]at a;cases a;rw[m]at e;cases e;obtain⟨M,S'⟩:=M7 (o:=.dT (JV ps q)) (ob:=.dt (JV P q)) S3 g F (λo u z=>by rw[I]at z;cases z) λH' T e'=>⟨_,e',by
       have hi:=Uu (λp q z=>z.1) q (KR.mono (ka:=[]) T r);unfold JV;rw[hi];exact UB _ (KR.mono T r)⟩
      exact(((k.on c s).on w K).on S3 N) _ _ [] M S'<|Rep.ext S3 M L
    ·rcases KR.val r q with⟨J,h⟩|⟨d',v',m,a,L⟩
     ·rw[J]at e;cases e;exact(((k.on c s).on w K).on S3 N).now S3 R3
     rw[C]at a;cases a
   ·cases e
  |_=>cases f1
end
section
variable {q:Obj}{es:Array DictEntry}{ep:Nat}
def pX(b:(a==sysModules)=false):MeetsIn prog w (Builtin.«dict.__len__» ⟨[.ref a],[]⟩) (λ_ R s=>∃q es ep,s.heap.get? a=some q/\q.data=.dict es ep/\R (.ok<|.ret<|.int es.size s.toks) {s with toks:=s.toks+1}):=.of_wp <| by rintro A R s ⟨q,es,ep,g,c,h⟩;show wpAny _ _ (dictSize a >>= _) _ _ s;unfold dictSize;refine Aa<|Aa<|B0 g c<|Ac ?_;show wpAny _ _ (Builtin.Dict.pendingCount a >>= _) _ _ s;refine Aa<|wpAny_pendingCount_other b<|wpAny_ret_mkInt ?_;rw[Nat.add_zero];exact h
def wC{Q:Bool->Shared->Prop}(b:(a==sysModules)=false)(g:s.heap.get? a=some q)(i:q.data=.dict es ep)(ty:s.TypeIs (.ref a) "dict")(hz:es.size<=sizeLine)(h:∀tk,Q (!es.isEmpty) {s with toks:=tk}):wpAny (!5) A (truthy<|.ref a) Q E s:=by
 have d:(es.size:Int)<2^63:=by have:=CA;omega
 have ne:((es.size:Int) != 0)=!es.isEmpty:=by
  obtain⟨l⟩:=es;cases l<;>simp<;>omega
 have body:wpAny (!5) A (runValue<|.builtin "len" ⟨[.ref a],[]⟩) (λr c=>r=.int es.size (s.toks+1)/\Q (!es.isEmpty) c) E s:=by refine wpAny_runValue<|BC entry_len ?_;rw[A8 plain_len _];unfold Builtin.«len»;refine Aa (m:=oneArg "len" _) (Ac<|Aa (m:=callSpecial? (.ref a) (BF "__len__"))<|A7 (name:=BF "__len__") ty F.slot_dict_len<|CL F.slot_dict_len ty F.entry_dict_len (F.args_dict_len_1 _) (pX b) ⟨q,es,ep,g,i,?_⟩);show wpAny _ _ _ _ _ {s with toks:=s.toks+1};refine Aa<|AM<|Ac<|Aa<|BV ?_;show wpAny _ _ (if(es.size:Int)<0 then _ else _) _ _ _;rw[if_neg (!0)];show wpAny _ _ (if(es.size:Int) ≥ 2^63 then _ else _) _ _ _;rw[if_neg (!0)];exact Aa<|wpAny_mkInt<|Ac ⟨rfl,h _⟩
 unfold truthy;refine Aa (wpAny_callSpecial?_none (name:=BF "__bool__") ty noBool_dict<|Aa<|wpAny_specialOf (name:=BF "__len__") ty F.slot_dict_len.lookup<|Aa<|Bs body (λr c z=>?_) λ_ _ z=>z);obtain⟨rfl,z⟩:=z;exact Ac<|ne ▸ z
end
section
variable {a:Pv}
def O2(m:ME):MT:=λU st=>(!9).bind λ(x,s1)=>match x with
 |.ref n=>match s1[n]? with
  |some (.dt a)=>if fits a.length=true then some (!a.isEmpty,s1)else none
  |_=>none
 |_=>none
def rS(h:SE X a m)(he:∀whole,isTrue a X.env whole=(do let v <-whole;standAt a.pos;holding [v] (truthy v)):=by intro _;rfl):SB X a (O2 m):=by
 rintro qp s σ H Q I ⟨U,st,io,b,st',E,S,e,k⟩;obtain⟨⟨x,s1⟩,j,e⟩:=Hs e;refine isTrue_plain (HB (h qp s σ H (λv H1=>∃d,Ext io d H H1/\HA X.K H1 (io++d) s1/\Rep X.K H1 (io++d) v x) I ⟨U,st,io,x,s1,E,S,j,λv H1 d f S1 A=>⟨d,f,S1,A⟩⟩) ?_)<|he _;rintro u s2 ⟨v,H1,I1,q,d,f,S1,A⟩
 cases x with
 |ref n=>
  exists 10;split at e
  ·rename_i c r;exists 3;cases e;obtain⟨p,rfl,B⟩:=A;cases q;obtain⟨ps,C,F⟩:=S1.ob n p _ B r;obtain⟨t1,T,G⟩:=M4 I1<|.inr ⟨ps,.inl C⟩;obtain⟨z,y,xs,W,o,N,Y,g,ex,P,Z,nd⟩:=I1.hok p _ C;have J:Jr X.prog X.w H1 s2.heap p (.frz o<|.dT ps):=⟨g,I1.hok p _ C⟩
   obtain⟨g',L,ent⟩:=Qt J P;have i:N.size=c.length:=by rw[L,KR.length F]
   refine wC G g P t1 (by rw[i];exact of_decide_eq_true hf) λtk=>⟨H1,Inv.tk I1 tk,?_⟩
   have M:(!N.isEmpty)=!c.isEmpty:=by
    obtain⟨l⟩:=N;cases l<;>cases c<;>simp at i ⊢
   rw[M];exact k _ _ f S1
  ·cases e
 |_=>cases e
end
variable {good:PP->Prop}{bt:Nat->Nat->Bool}{h:PP}
section
variable {I S:Addr}{fp wr:List Addr}{St:Nat->PP->Prop}{R:Result->Shared->Prop}
def Oa(prog:Re)(w:Wp)(A:Around)(P:Nat->IR->Prop)(good:PP->Prop)(bt:Nat->Nat->Bool):Prop:=∀(i j:Nat) (u v:IR) (s:Shared) (Q E:Qqa),good s.heap->P i u->P j v->Q (.bool<|bt i j) s->wpAny (!5) A (richCompare .Lt u v) Q E s
def Keeps(wr:List Addr)(S:Addr)(h h':PP):Prop:=∀b o,b∉wr->b≠S->h.get? b=some o->h'.get? b=some o
def Keeps.trans{i j l:PP}(x:Keeps wr S i j)(y:Keeps wr S j l):Keeps wr S i l:=λb o p q e=>y b o p q<|x b o p q e
def Keeps.upd{g:Obj->Obj}:Keeps wr S h (h.update S g):=λb o _ q e=>(CF _ _<|BJ q).trans e
def bY{i:Nat}{g:Obj->Obj}(W:Walks prog w A.in1 I fp wr n P St)(hf:S∉fp)(x:St i h):St i (h.update S g):=W.frame _ _ _ x λb a o e=>(CF _ _ (λz:S=b=>hf (z ▸ a))).trans e
def Yu(W:Walks prog w A.in1 I fp wr n P St)(i:∀h h',good h->Keeps wr S h h'->good h')(ask:Oa prog w A.in1 P good bt)(hf:S∉fp):∀(r j:Nat) (s:Shared) (u:IR) (c:Nat),j+1+r=n->St (j+1) s.heap->good s.heap->P (argBest bt j) u->s.heap.get? S=some {cls:=.type "list",dict:=none,data:=.seq #[u,u] c,slots:=#[]} ->
  (∀v h' tk,P (argBest bt<|n-1) v->Keeps wr S s.heap h'->R (.ok<|.ret v) {s with heap:=h',toks:=tk})->codeAny (!5) A (.builtin "min.loop" ⟨[.ref I,.none,.ref S],[]⟩) R s:=by
 have hw:S∉wr:=λz=>hf<|W.sub _ z;have nm:(toString "min"++toString ".loop":String)="min.loop":=by decide
 intro r
 induction r with
 |zero=>
  intro j s u c f a X pu g fin;have f:j+1=n:=f;refine BC F.entry_min_loop ?_;rw[A8 F.plain_min_loop _];show wpAny _ A.in1 (seqItems? (.ref S) >>= _) _ _ s;refine Aa<|Bv g rfl ?_;show wpAny _ A.in1 (tryCatch (pyNext<|.ref I) _ >>= _) _ _ s;refine Aa<|CM<|W.done s _ _ (f ▸ a) λl tk kp=>?_;show wpAny _ A.in1 (updateSeq S (λ_=>#[]) >>= _) _ _ _;refine Aa<|EB (kp S _ hw g) rfl<|Aa<|BV<|Ac<|fin u _ tk (by rw[<-f];exact pu)<|Keeps.trans (λb o p _ e=>kp b o p e) Keeps.upd
 |succ r q=>
  intro j s u c f a X pu g fin;have x:j+1<n:=by omega
  refine BC F.entry_min_loop ?_;rw[A8 F.plain_min_loop _];show wpAny _ A.in1 (seqItems? (.ref S) >>= _) _ _ s;refine Aa<|Bv g rfl ?_;show wpAny _ A.in1 (tryCatch (pyNext<|.ref I) _ >>= _) _ _ s;refine Aa<|CM<|W.item (j+1) s _ _ x a λv l tk y m kp=>?_;have C:Keeps wr S s.heap l:=λb o p _ e=>kp b o p e;have d:=kp S _ hw g;have g1:=i _ _ X C;show wpAny _ A.in1 (tryCatch (holding [v,v]<|richCompare .Lt v u >>= _) _ >>= _) _ _ _;refine Aa<|CM<|AM<|Aa<|ask (j+1) (argBest bt j) v u _ _ _ g1 y pu<|Aa<|AM<|Bw<|Aa<|BV<|Ac ?_
  cases B:bt (j+1) (argBest bt j) with
  |true=>
   simp only[if_true];refine Aa<|EB d rfl<|Aa<|BV ?_;rw[nm];exact Ac ⟨BG F.plain_min_loop _,q (j+1) _ v _ (!0) (bY W hf m) (i _ _ g1 Keeps.upd) (by simp only[argBest,B,if_true];exact y) (BQ _ d rfl) λE H K N Q=>fin E H K N ((C.trans Keeps.upd).trans Q)⟩
  |false=>
   simp only[AJ,if_false];refine Aa<|BV ?_;rw[nm];exact Ac ⟨BG F.plain_min_loop _,q (j+1) _ u c (!0) m g1 (by simp only[argBest,B,AJ,if_false];exact pu) d λE H K N Q=>fin E H K N (C.trans Q)⟩
def zkq(W:Walks prog w A.in1 I fp wr n P St)(i:∀h h',good h->Keeps wr S h h'->good h')(ask:Oa prog w A.in1 P good bt)(hf:S∉fp)(hn:0<n){c:Nat}(st0:St 0 s.heap)(l:good s.heap)(j:s.heap.get? S=some {cls:=.type "list",dict:=none,data:=.seq #[] c,slots:=#[]})(fin:∀v h' tk,P (argBest bt<|n-1) v->Keeps wr S s.heap h'->R (.ok<|.ret v) {s with heap:=h',toks:=tk}):codeAny (!5) A (.builtin "min.loop" ⟨[.ref I,.none,.ref S],[]⟩) R s:=by
 have hw:S∉wr:=λz=>hf<|W.sub _ z;have nm:(toString "min"++toString ".loop":String)="min.loop":=by decide
 refine BC F.entry_min_loop ?_;rw[A8 F.plain_min_loop _];show wpAny _ A.in1 (seqItems? (.ref S) >>= _) _ _ s;refine Aa<|Bv j rfl ?_;show wpAny _ A.in1 (tryCatch (pyNext<|.ref I) _ >>= _) _ _ s;refine Aa<|CM<|W.item 0 s _ _ hn st0 λv g tk m d kp=>?_;have f:Keeps wr S s.heap g:=λb o p _ e=>kp b o p e;have a:=kp S _ hw j;show wpAny _ A.in1 (updateSeq S (λ_=>#[v,v]) >>= _) _ _ _;refine Aa<|EB a rfl ?_;rw[nm];exact Ac ⟨BG F.plain_min_loop _,Yu W i ask hf (n-1) 0 _ v _ (!0) (bY W hf d) (i _ _ (i _ _ l f) Keeps.upd) m (BQ _ a rfl) λx C E H K=>fin x C E H ((f.trans Keeps.upd).trans K)⟩
end
def zH{x:IR}(hn:0<n)(ask:Oa prog w A.in1 P good bt)(i:∀h h',good h->(∀b o,b<s.heap.objs.size->h.get? b=some o->h'.get? b=some o)->good h')(j:good s.heap)(h:wpAny (!5) A.in1 (pyIter x) (λit s2=>∃I fp wr St,it=.ref I/\Walks prog w A.in1 I fp wr n P St/\St 0 s2.heap/\(∀b∈fp,b<s2.heap.objs.size)/\(∀b∈wr,s.heap.objs.size<=b)/\(∀b o,s.heap.get? b=some o->s2.heap.get? b=some o)/\s.heap.objs.size<=s2.heap.objs.size /\
   ∀v h' tk,P (argBest bt<|n-1) v->(∀b o,b∉wr->s2.heap.get? b=some o->h'.get? b=some o)->Q v {s2 with heap:=h',toks:=tk}) E s):
  wpAny (!5) A (call (.builtin "min") [x]) Q E s:=by
 have nm:(toString "min"++toString ".loop":String)="min.loop":=by decide
 refine FM F.kind_min F.plain_min F.entry_min (F.args_min1 _) ?_;show wpAny _ A.in1 (Builtin.Builtins.bindParams "min" ["key","default"] 0 ⟨[],[]⟩ >>= _) _ _ s;refine Aa (Gb (show Builtin.Builtins.bindParams "min" ["key","default"] 0 ⟨[],[]⟩=pure [none,none] from rfl)<|Aa<|Ac<|Aa<|Bs h (λit s2 z=>?_) λ_ _ e=>e);obtain⟨I,fp,wr,St,rfl,W,c,hfp,d,m,f,fin⟩:=z;refine Aa<|AN ?_;have hf:s2.heap.objs.size∉fp:=λz=>AL _<|hfp _ z;have hw:s2.heap.objs.size∉wr:=λz=>hf<|W.sub _ z;rw[nm];have p:∀h h',good h->Keeps wr s2.heap.objs.size h h'->good h':=λh h' g k=>i h h' g λb o a e=>k b o (λz=>Nat.not_le.mpr a (d b z)) (Au<|AD a f) e;refine Ac ⟨BG F.plain_min_loop _,zkq W p ask hf hn (W.frame _ _ _ c λb _ o e=>Ad _ e) (i _ _ j λb o _ e=>Ad _ (m b o e)) (Ap _ rfl) λv C tk H kp=>?_⟩;exact fin v C tk H λb o a e=>kp b o a (Au<|Aj e) (Ad _ e)
def QK(ts:List (List Int)):List Int:=ts.getD (argBest (λi j=>HT.lexLt (ts.getD i []) (ts.getD j []))<|ts.length-1) []
theorem W7(bt:Nat->Nat->Bool):∀k,argBest bt k<=k
 |0=>Ag _
 |k+1=>by
  unfold argBest;split
  ·exact Ag _
  exact Nat.le_succ_of_le<|W7 bt k
def O3:GN
 |[.ref n],st=>match st[n]? with
  |some (.dt kvs)=>if(fits kvs.length&&!kvs.isEmpty)=true then(rowsOf<|Js kvs).map λts=>(HJ (QK ts),st)else none
  |_=>none
 |_,_=>none
def zlb(hc:X.calm=true)(hu:X.A.units+1<cLine):Jy X (.builtin "min") O3:=by
 exists 0;unfold O3 at e;split at e
 ·rename_i n
  split at e
  ·rename_i C c;exists 3;obtain⟨P,J,e⟩:=Ia e;cases e;rw[Aq]at hf;obtain⟨v,rfl,p,rfl,hp⟩:=R.one;obtain⟨u,rfl,L⟩:=r.one;cases L;obtain⟨ps,M,U⟩:=S.ob n p _ hp c;obtain⟨t1,t2,hs⟩:=M4 I<|.inr ⟨ps,.inl M⟩;obtain⟨z,y,zs,r0,o,f,ep,g,ex,W,et,nd⟩:=I.hok p _ M;have fz:Jr X.prog X.w H s.heap p (.frz o<|.dT ps):=⟨g,I.hok p _ M⟩
   obtain⟨g',Y,ent⟩:=Qt fz W;have B:∀(j:Nat) (v:IR),(f.toList.map (·.key))[j]?=some v ↔ ∃c,f[j]?=some c/\v=c.key:=λj v=>by
    rw[Az,Bn];cases f[j]? with
    |none=>simp
    |some x=>simp[eq_comm]
   obtain⟨ys,rv,rr⟩:=Uo (vs:=f.toList.map (·.key)) U (by rw[Af,AO,Y]) λj v q J e2=>by obtain⟨en',h1,h2⟩:=(B j v).mp J;obtain⟨en2,b,h3,h4,h5,_⟩:=ent j q.1 q.2 e2;rw[h1]at h3;cases h3;exact⟨b,by rw[h2,h4],h5⟩
   obtain⟨T,hd⟩:=Rj rr J;have hlen:f.size=P.length:=by rw[Y,KR.length U,<-show(Js C).length=C.length from(Af _),hd,Af]
   have hn:0<f.size:=by
    rw[Y,KR.length U];cases C with
    |nil=>exact absurd hf.2<|by decide
    |cons a l=>simp
   have get:∀{i:Nat}{v:IR},(∃c,f[i]?=some c/\v=c.key)->i<P.length/\∃a,v=.ref a/\H a=some (.tup<|(P.getD i []).map V.int):=λ{i v} h=>by
    have hv:=(B i v).mpr h;have G:i<P.length:=by have:=(KB.mp hv).1;rw[Af,AO,hlen]at this;exact this
    obtain⟨a,ea,N,_⟩:=Ui T G;obtain⟨u,eu,L⟩:=rv.get ea;cases L;rw[hv]at eu;cases eu;exact⟨G,a,rfl,N⟩
   have ask:Oa X.prog X.w X.A.in1 (λi v=>∃c,f[i]?=some c/\v=c.key) (λh=>∀b q,H b≠none->s.heap.get? b=some q->h.get? b=some q) (λi j=>HT.lexLt (P.getD i []) (P.getD j [])):=λi j u v s1 Q E hg pu Z hq=>by obtain⟨G,a,rfl,N⟩:=get pu;obtain⟨hj,b,rfl,m⟩:=get Z;obtain⟨ia,va,⟨oa,ga,ca,na,da⟩,_⟩:=I.tuple<|IM.of (K:=X.K) N;obtain⟨ib,vb,⟨ob,gb,cb,nb,db⟩,_⟩:=I.tuple<|IM.of (K:=X.K) m;exact HT.Lr (items:=ia.toArray) (items2:=ib.toArray) ⟨oa,hg _ _ (by rw[N];simp) ga,ca,na,da⟩ ⟨ob,hg _ _ (by rw[m];simp) gb,cb,nb,db⟩ (L2.intsAre_of va) (L2.intsAre_of vb) hu hq
   have F:p<s.heap.objs.size:=Aj g;refine zH (n:=f.size) hn ask (λh h' gh kk b q m e=>kk b q (Aj e) (gh b q m e)) (λb q _ e=>e)<|WJ t1 hs g W ?_;refine⟨_,_,_,_,rfl,eR (A:=X.A.in1) (I.ok.hd hc) s.heap.objs.size p (Au F) W,⟨⟨_,Ap _ rfl,rfl,rfl⟩,Ad _ g⟩,λb m=>?_,λb m=>?_,λb q e=>Ad _ e,?_,λv h' tk Z kk=>?_⟩
   ·show b<(s.heap.push _).objs.size;rw[Ba];simp only[Bb,Bt,or_false]at m
    rcases m with rfl|rfl
    ·exact Cn _
    exact Dm F
   ·exact D5 (On.mp m).symm
   ·show _<=(s.heap.push _).objs.size;rw[Ba];exact CC _
   obtain⟨G,a,rfl,N⟩:=get Z;rw[hlen]at N;exact⟨.ref a,H,Inv.kept (s:=s) (h':=h') (t':=tk) I λb q e=>kk b q (λz=>Au (Aj e) (On.mp z)) (Ad _ e),rfl,k.now S ⟨a,_,rfl,N,V8 _⟩⟩
  ·cases e
 ·cases e
open L2
section
variable {st:Stmt}{f:Addr}
structure SJ(K:Ab)(c:Str)(C:Addr):Prop where
 ns:Dx K SZ c=some (some (.ref C))
 cl:Lz K C
 ms:Dv K C=true
 kc:Bf K (.ref C)=true
def jN(a:Dx K SZ c=some (some<|.ref C))(b:CP K C Fx=true)(hd:Dj K C=true)(po:D2 K C=true)(i:Bl K (.ref C) "__setattr__"=some (some<|.builtin "object.__setattr__"))(mk:Dv K C=true)(j:Bf K (.ref C)=true):SJ K c C:=⟨a,⟨b,hd,po,i⟩,mk,j⟩
structure MY(K:Ab)(C:Addr)(x qual:Str)(st:Stmt)(f:Addr):Prop where
 ex:∃(oc:IR) (od:Option Addr) (kV dc pm:IR) (an:Option Addr) (cd ct:IR) (sl:Array (Option IR)),K.lookup f=some ⟨oc,od,.func (Bu x qual (LU st) (Ko st) (I0 st) .none kV dc pm an cd ct),sl⟩/\Cm K cd qual=true
 at_:Bl K (.ref C) x=some (some (.ref f))
 fn:Du K (.ref f)=true
 kp:Bf K (.ref f)=true
def kH{b kV j pm cd q:IR}{r an:Option Addr}{u:Array (Option IR)}(a:Bl K (.ref C) x=some (some<|.ref f))(i:Du K (.ref f)=true)(l:K.lookup f=some ⟨b,r,.func<|Bu x qual (LU st) (Ko st) (I0 st) .none kV j pm an cd q,u⟩)(c:Cm K cd qual=true)(k:Bf K (.ref f)=true):MY K C x qual st f:=⟨⟨b,r,kV,j,pm,an,cd,q,u,l,c⟩,a,i,k⟩
def xD(F:MY K C x qual st f)(b:∀(kV doc pm:IR) (an:Option Addr) (j q:IR) (us:List IR),us.length=ps.length->bindArgs (Bu x qual (LU st) (Ko st) (I0 st) .none kV doc pm an j q) ⟨us,[]⟩=pure (ps.zip us)):YW K C x qual st ps:=by obtain⟨⟨d,e,kV,g,pm,an,cd,q,h,l,c⟩,a,i,k⟩:=F;exact⟨_,_,Pb l c k,⟨a,i,k⟩,(Pb l c k).binds b⟩
end
end L2.MP
namespace L2.MP
open PySem PySem.Spec PyProof.Rows
end L2.MP
namespace L2.MP
open PySem PySem.Spec
open PyProof.Rows
end L2.MP
namespace L2.MP
open PySem PySem.Spec
open PyProof.Rows
section
variable {X:Cx}{K:Ab}{H:Hp}{io:List Addr}{m:ME}{st st':Hh}{tg:Pv}
end
end L2.MP
namespace L2.MP
open PySem PySem.Spec
open PyProof.Rows
end L2.MP
namespace L2.MP.ST
open PySem PySem.SetTable
end L2.MP.ST
namespace L2.MP
open PySem PySem.Spec PyProof.Rows
end L2.MP
namespace L2.MP
open PySem PySem.Spec
open PyProof.Rows
variable {X:Cx}
variable {pos:Pos}
def PL:G2:=λx y st=>match x,y with
 |.tup ds,.tup []=>some (.bl ds.isEmpty,st)
 |_,_=>none
def uE(G:X.A.units+100<cLine):Ji X (SL .Eq) PL:=by
 rintro J s σ H x y v u Q I f g ⟨K,L,st,io,d,h,i,l,S,e,k⟩;unfold PL at e;split at e
 ·rename_i ds;cases e;obtain⟨p,xs,rfl,m,n⟩:=i;obtain⟨q,o,rfl,w,z⟩:=l;cases f;cases g;obtain⟨M,us,v1,t1⟩:=I.hok p _ m;obtain⟨N,ws,v2,B⟩:=I.hok q _ w;have C:o=[]:=z;subst C;cases v2;refine PySem.SeqAt.eq_tupleAt (e:=λ_=>true) t1.t B.t (!0) (λj P E=>by simp at E) ?_;have c:us.length=ds.length:=by
   have:=v1.length;have:=n.length;omega
  have F:((As<|min us.toArray.size ([]:List IR).toArray.size).all (λ_=>true)&&us.toArray.size==([]:List IR).toArray.size)=ds.isEmpty:=by
   cases ds with
   |nil=>simp at c;simp[c]
   |cons a r=>
    cases us with
    |nil=>simp at c
    |cons b t=>simp
  rw[F];exact⟨.bl _,H,I,rfl,k.now S rfl⟩
 ·cases e
def eqZ:G2:=JL La PL
def nU(a:X.A.units+100<cLine):Ji X (SL .Eq) eqZ:=Q0 (Oq a)<|uE a
end L2.MP
namespace L2.MP.ST
open PySem PySem.SetTable
end L2.MP.ST
namespace L2.MP
open PySem PySem.Spec PyProof.Rows
end L2.MP
namespace L2.MP
open PySem PySem.Spec
open PyProof.Rows
end L2.MP
namespace L2.MP
open PySem PyProof.Rows
section
open PySem.SeqAt
open PySem.MeetsSeq PySem.MeetsSeq2 PySem.MeetsSeq3
end
open PySem.Spec
open PySem.SeqAt
def ZR:isSubtype (.type "tuple") (.type "dict")=pure false:=by rw[isSubtype_type];kernel_rfl
def pM:isSubtype (.type "dict") (.type "tuple")=pure false:=by rw[isSubtype_type];kernel_rfl
def uN(d b:Addr)(a c:Data)(e f:Option Addr)(i j:Array (Option IR)):Meets (Builtin.«dict.__ne__» ⟨[.ref d,.ref b],[]⟩)
  (λ_ R s=>s.heap.get? d=some ⟨.type "dict",e,a,i⟩/\s.heap.get? b=some ⟨.type "tuple",f,c,j⟩/\R (.ok<|.ret .notImplemented) s):=
 .of_wp λprog w A R s h=>by
  obtain⟨n,g,o,tk,os⟩:=s;obtain⟨l,m,h⟩:=h;have f1:=ZR
  wp_walk using Cv l,Cv m
  exact⟨_,rfl,h⟩
def vH(d b:Addr)(a c:Data)(e f:Option Addr)(i j:Array (Option IR)):Meets (Builtin.«tuple.__ne__» ⟨[.ref b,.ref d],[]⟩)
  (λ_ R s=>s.heap.get? d=some ⟨.type "dict",e,a,i⟩/\s.heap.get? b=some ⟨.type "tuple",f,c,j⟩/\R (.ok<|.ret .notImplemented) s):=
 .of_wp λprog w A R s h=>by
  obtain⟨n,g,o,tk,os⟩:=s;obtain⟨l,m,h⟩:=h;have f1:=pM
  wp_walk using Cv l,Cv m
  exact⟨_,rfl,h⟩
def XC{prog:Re}{w:Wp}{A:Around}{E:Qqa}{s:Shared}{d b:Addr}{f g:Obj}{Q:Qqa}(a:s.heap.get? d=some f)(q:f.cls=.type "dict")(c:s.heap.get? b=some g)(r:g.cls=.type "tuple")(u:A.units<cLine)(h:Q (.bool true) s):wpAny (!5) A (SL .NotEq (.ref d)<|.ref b) Q E s:=by
 obtain⟨v,j,l,m⟩:=f;obtain⟨x,n,o,p⟩:=g;cases q;cases r;have i:d≠b:=λz=>by rw[z,c]at a;exact absurd (congrArg Obj.cls<|Av a)<|by simp
 show wpAny _ A (richCompare .NotEq _ _) Q E s;exact rc_ne_decline_or (k:=false) ⟨_,a,rfl⟩ ⟨_,c,rfl⟩ (!1) ZR F.slot_dict_ne F.slot_tuple_ne_refl
  (λ_ e=>Dc F.slot_dict_ne ⟨_,a,rfl⟩ F.entry_dict_ne (F.args_dict_ne_2 _ _) (uN d b l o j n m p) ⟨a,c,e⟩)
  (λ_ e=>Dc F.slot_tuple_ne_refl ⟨_,c,rfl⟩ F.entry_tuple_ne (F.args_tuple_ne_2 _ _) (vH d b l o j n m p) ⟨a,c,e⟩)
  (λ_ e=>wpAny_isSame_ref_other i a c (!2) e) (.inr u) h
end L2.MP
namespace L2.MP
open PySem PySem.Spec PyProof.Rows
section
variable {X:Cx}{K:Ab}{H:Hp}{io:List Addr}{st st':Hh}{pos:Pos}{a b:Pv}
def PD:G2:=λx y st=>match x,y with
 |.tup ds,.tup []=>some (.bl (!ds.isEmpty),st)
 |.ref n,.tup []=>match st[n]? with
  |some (.lst _)=>some (.bl true,st)
  |some (.dk _)=>some (.bl true,st)
  |some (.dt _)=>some (.bl true,st)
  |some .dz=>some (.bl true,st)
  |_=>none
 |_,_=>none
def uH(Z:X.A.units+100<cLine):Ji X (SL .NotEq) PD:=by
 rintro qp s σ H x y v u Q I E F ⟨dx,dy,st,io,d,st',G,J,S,e,k⟩;have K:X.A.units<cLine:=by omega
 unfold PD at e;split at e
 ·rename_i ds;cases e;obtain⟨p,xs,rfl,g,P⟩:=G;obtain⟨q,L,rfl,z,M⟩:=J;cases E;cases F;obtain⟨z1,us,v1,t1⟩:=I.hok p _ g;obtain⟨T,ws,v2,B⟩:=I.hok q _ z;have c:L=[]:=M;subst c;cases v2;have C:us.length=ds.length:=by
   have:=v1.length;have:=P.length;omega
  have U:(!((As<|min us.toArray.size ([]:List IR).toArray.size).all (λ_=>true)&&us.toArray.size==([]:List IR).toArray.size))=!ds.isEmpty:=by
   cases ds with
   |nil=>simp at C;simp[C]
   |cons a r=>
    cases us with
    |nil=>simp at C
    |cons b t=>simp
  have R:=GX (A:=X.A) (e:=λ_=>true) t1.t B.t K (λj h1 W=>by simp at W);rw[U]at R;exact R X.prog X.w _ _ ⟨.bl _,H,I,rfl,k.now S rfl⟩
 ·rename_i n;obtain⟨p,rfl,g⟩:=G;obtain⟨q,L,rfl,z,M⟩:=J;cases E;cases F;obtain⟨T,ws,v2,B⟩:=I.hok q _ z;have tt:=B.t
  split at e
  ·rename_i ob f;cases e;obtain⟨xs,h,_⟩:=S.ob n p _ g f;obtain⟨Y,_,pl,_⟩:=I.list<|JD.of h;exact GH (A:=X.A) pl.isList tt K X.prog X.w _ _ ⟨.bl _,H,I,rfl,k.now S rfl⟩
  ·rename_i ob f;cases e;obtain⟨xs,h,_⟩:=S.ob n p _ g f;obtain⟨o,i,l⟩:=cV I h;obtain⟨N,c,m,_⟩:=tt;exact XC i l c m K ⟨.bl _,H,I,rfl,k.now S rfl⟩
  ·rename_i ob f;cases e;obtain⟨xs,h,_⟩:=S.ob n p _ g f;obtain⟨o,i,l⟩:=cW I h;obtain⟨N,c,m,_⟩:=tt;exact XC i l c m K ⟨.bl _,H,I,rfl,k.now S rfl⟩
  ·rename_i f;cases e;obtain⟨o,i,l⟩:=ZA I<|S.ob n p _ g f;obtain⟨N,c,m,_⟩:=tt;exact XC i l c m K ⟨.bl _,H,I,rfl,k.now S rfl⟩
  ·cases e
 ·cases e
def OP:G2:=JL JT PD
def ZN(c:X.A.units+100<cLine):Ji X (SL .NotEq) OP:=Q0 (Nx c)<|uH c
end
end L2.MP
namespace L2.MP
open PySem
section
variable {prog:Re}{w:Wp}{A:Around}{E:Qqa}{hp:PP}{gs:Array GenState}{dr:Drawn}{tk:Nat}{os:OsState}
variable {nm ql:Str}{C N x:Addr}{bs bm top:List IR}{sn:List Str}{sub:List IR}{b2:Bool}{b3:Option Bool}{dd:Option Addr}{k0 k1 k2 k3 k5:Option IR}{B newId sa owner:String}{mN:Str->Option IR}{name:Str}{v:IR}{nn:List Str}{o:Obj}
open Builtin Builtin.ObjectAttr in
end
open PySem.Spec PyProof.Rows
end L2.MP
namespace L2.MP
open PySem
open PySem.Spec PyProof.Rows
open PySem.W
end L2.MP
namespace L2.MP
open PySem PySem.W PyProof.Rows Builtin.ObjectAttr
end L2.MP
namespace L2.MP
open PySem PySem.W
open PySem.Spec PyProof.Rows
end L2.MP
namespace L2.MP.Hb
open PySem L2.MP
end L2.MP.Hb
namespace L2.MP
open PySem
theorem eG{f:D->Option PyData}(hf:∀x:Int,f (.int x)=some (.int x)):∀as:List Int,Jo f (as.map D.int)=some (as.map Fn)
 |[]=>rfl
 |x::as=>by rw[Ao,Jo,hf x,Ae,eG hf as];rfl
def Qr{n:Nat}{st:Hh}{k:Nat}{as:List Int}(hk:st[k]?=some (.lst<|as.map D.int)):IX (n+2) st (.ref k)=some (.list<|as.map Fn):=by rw[IX];simp only[Ig,hk,Ae];rw[eG (λx=>by rw[IX])];rfl
end L2.MP
namespace L2.MP.Hb
open PySem L2.MP
noncomputable abbrev Lp (c:Nat):D:=.str ⟨#[c]⟩
theorem bA(c:Nat):∀(k:Nat) (a:Array Nat),((BH k #[c]).foldl (·++·) a).toList=a.toList++BH k c
 |0,a=>by simp
 |k+1,a=>by rw[Fv,EF,bA c k (a++#[c])];simp[Fv]
def T2{c:Nat}{n:Int}(a:1<=n):(JG ⟨#[c]⟩ n).cps.toList=BH n.toNat c:=by
 unfold JG;rw[if_neg (!0)]
 by_cases hn:n=1
 ·subst hn;rfl
 ·rw[if_neg]
  ·exact bA c n.toNat #[]
  ·simp[hn];show ¬((⟨#[c]⟩:Str).length=0);show ¬(1=0)
   decide
def Xh{c:Nat}{n:Int}{st:Hh}(a:1<=n)(f:n<=1000):HS (Lp c) (.int n) st=some (.str (JG ⟨#[c]⟩ n),st):=by
 have b:(JG ⟨#[c]⟩ n).length=n.toNat:=by rw[len_list,T2 a,BO]
 have d:(⟨#[c]⟩:Str).length=1:=rfl;have e:sizeLine=16777216:=CA;have:(decide (-(2^62)<=n)&&decide (n<2^20)&&decide ((⟨#[c]⟩:Str).length*n.toNat<=sizeLine)&&decide ((JG ⟨#[c]⟩ n).length<=sizeLine))=true:=by rw[b,d,e];rw[decide_eq_true (show -(2^62)<=n by omega),decide_eq_true (show n<2^20 by omega),decide_eq_true (show 1*n.toNat<=16777216 by omega),decide_eq_true (show n.toNat<=16777216 by omega)];rfl
 show HS (.str ⟨#[c]⟩) (.int n) st=_;unfold HS JL L3 intD;dsimp only;rw[LD];unfold S0;dsimp only;rw[if_pos this]
end L2.MP.Hb
namespace L2.MP.Hd
open PySem L2.MP
def gO:MS:=mS (Ht (mB Hj (mV 0)<|mK<|.int 0)<|Ho 1)<|mS (Ht (mB Hj (mV 0)<|mK<|.int 1)<|Ho 2)<|mR<|mU<|Hf (mU<|Hf (mV 1)<|Hf (mB Hz (mV 2)<|mK<|.int 1)<|mZ)<|Hf (mU<|Hf (mB Hz (mV 1)<|mK<|.int 1)<|Hf (mV 2)<|mZ)<|Hf (mU<|Hf (mV 1)<|Hf (mB K5 (mV 2)<|mK<|.int 1)<|mZ)<|Hf (mU<|Hf (mB K5 (mV 1)<|mK<|.int 1)<|Hf (mV 2)<|mZ)<|mZ
def Po:GN:=ID 3 gO
def W5:MS:=mS (Ht (mB Hj (mB Hj (mV 0)<|mK<|.int 0)<|mK<|.int 2)<|Ho 2) (mS (Jf (mT<|Mg PJ OS (mK<|.int 0) (mV 1)<|Hr HQ<|Hf (mV 2)<|mZ) (mR<|Jw (mB Hj (mV 2)<|mV 1) (Lh<|mK<|.int 1)<|Lg)<|Jm)<|mR<|mU<|Hf (mK<|.str "")<|Hf (mK<|.str "")<|Hf (mK<|.str "")<|Hf (mK<|.str "")<|mZ)
def Ur:GN:=ID 3 W5
def UI:MS:=JR (mV 1) (mU<|Hf (mV 2)<|Hf (mV 3)<|mZ)<|mV 4
def hX:MS:=mS (Ht (O0 true)<|Ho 1)<|mS (mF (J3<|mV 0) (J5 3<|gC (Ho 2)<|gC (Ho 3)<|gC (Ho 4)<|J6)<|UI)<|mR<|mV 1
def UL:GN:=ID 5 hX
def Pr:MS:=Jf (mT<|mB Ni (mV 5)<|mV 1) (Iq<|Kh (mV 3)<|Hf (mB Hj (Hr Ur<|Hf (mV 0)<|Hf (mB Hj (mV 1)<|mV 5)<|mZ)<|mB Ih (mB Hz (mV 4)<|mK<|.int 2)<|mK<|.int 4)<|mZ) (Iq<|Kh (mV 3)<|Hf (mK<|.str "")<|mZ)
def gQ:MS:=mS (Ht (mL<|mZ)<|Ho 3)<|mS (mF (P4<|Hr Po<|Hf (mV 2)<|mZ) (J5 2<|gC (Ho 4)<|gC (Ho 5)<|J6)<|Pr)<|mR<|mV 3
def UR:GN:=ID 6 gQ
def RP:ME:=mB Hj (mV 2)<|mV 0
def RQ:MT:=LB (mT<|mB La (mV 0)<|mV 1) (mT<|mB JT (mV 0)<|mK<|.str "")
def gV:MS:=mR<|Hr LY<|Hf (Ju (MQ (mV 1)<|mV 2) 2 [0] (J5 2<|gC (Ho 0)<|gC (Ho 1)<|J6) RQ<|RP)<|mZ
def RO:GN:=ID 3 gV
def XG:MS:=mS (Ht (L5 (mT<|mB OS (mV 1)<|Hr HQ<|Hf (mV 0)<|mZ) (mB Hj (mV 0)<|mV 1)<|mK<|.int 0)<|Ho 2)<|mS (Ht (mB IZ (mB IZ (mB IZ (mB IZ (mB IF (mK<|.int 10)<|mK<|.int 60)<|mB IF (mK<|.int 10)<|mK<|.int 60)<|mB IF (mK<|.int 10)<|mK<|.int 60)<|mB IF (mK<|.int 10)<|mK<|.int 60)<|mB IF (mK<|.int 10)<|mK<|.int 60)<|Ho 3)<|mS (Ht (mB IZ (mB Ih (mV 2)<|mV 3)<|Hr Ls<|Hf (mB Mr (mV 2)<|mB IF (mK<|.int 10)<|mK<|.int 18)<|mZ)<|Ho 4)<|mR<|mL<|Hf (mV 4)<|Hf (mB Ih (mB Hz (mB Ih (mV 2)<|mK<|.int 2305843009213693951)<|mB HS (mK<|.int 7919)<|mV 1)<|mK<|.int 2305843009213693951)<|Hf (mK<|.int 0)<|mZ
def Xw:GN:=ID 5 XG
def RD:MS:=mS (Jf (mT<|mB Ss (mB Hj (mV 0)<|mK<|.int 0)<|mK<|.int 0) (mS (Ht (mB Ih (mB Hj (mV 0)<|mK<|.int 0)<|mV 1)<|Ho 2)<|mS (JR (mV 0) (mK<|.int 0)<|mB M3 (mB Hj (mV 0)<|mK<|.int 0)<|mV 1)<|mR<|mV 2)<|Jm)<|mS (JR (mV 0) (mK<|.int 2)<|mB Hz (mB Hj (mV 0)<|mK<|.int 2)<|mK<|.int 1)<|mS (Ht (mB Ih (mB HS (mB Hz (mB Hz (mB Hj (mV 0)<|mK<|.int 1)<|mB HS (mB HS (mK<|.int 104729)<|mB Hj (mV 0)<|mK<|.int 2)<|mB Hj (mV 0)<|mK<|.int 2)<|mB HS (mK<|.int 31)<|mB Hj (mV 0)<|mK<|.int 2)<|mK<|.int 48271)<|mK<|.int 2305843009213693921)<|Ho 3)<|mS (Ht (mB Ih (mB HS (mV 3)<|mB Hz (mB Ih (mV 3)<|mK<|.int 1000003)<|mB HS (mK<|.int 39373)<|mB Hj (mV 0)<|mK<|.int 2)<|mK<|.int 2305843009213693907)<|Ho 3)<|mR<|mB Ih (mB Hz (mB M3 (mV 3)<|mK<|.int 65537)<|mB M3 (mV 3)<|mK<|.int 1000033)<|mV 1
def Io:GN:=ID 4 RD
def Qw:ME:=mB HS (mB Hj (mV 1)<|mV 2)<|mB Hz (mV 0)<|mK<|.int 1
def Qx:ME:=mB HS (mB Hj (mV 1)<|mB Ih (mB Hz (mV 2)<|mB HS (mV 3)<|mV 0)<|mK<|.int 26)<|mB Hz (mK<|.int 1)<|mB Ih (mB Hz (mB HS (mV 0)<|mV 0)<|mV 2)<|mK<|.int 8
def Xv:MS:=mS (Ht (mK<|.str "abcdefghijklmnopqrstuvwxyz")<|Ho 2) (mS (Ht (mU<|Hf (Hr Io<|Hf (mV 0)<|Hf (mK<|.int 26)<|mZ)<|Hf (mB Hj (mL<|Hf (mK<|.int 1)<|Hf (mK<|.int 3)<|Hf (mK<|.int 5)<|Hf (mK<|.int 7)<|Hf (mK<|.int 9)<|Hf (mK<|.int 11)<|mZ)<|Hr Io<|Hf (mV 0)<|Hf (mK<|.int 6)<|mZ)<|mZ)<|J5 2<|gC (Ho 3)<|gC (Ho 4)<|J6)<|mS (Jf (mT<|mB La (Hr Io<|Hf (mV 0)<|Hf (mK<|.int 3)<|mZ)<|mK<|.int 0) (mR<|Ju (IG<|mV 1) 1 [2,3] (Ho 0) Je<|Qw)<|Jm)<|mR<|Hr MF<|Hf (Ju (IG<|mV 1) 1 [2,3,4] (Ho 0) Je<|Qx)<|mZ)
def Xz:GN:=ID 5 Xv
def Pw:ME:=mB Hj (mB Hz (mL<|Hf (mK<|.str "")<|mZ)<|mV 1) (Hr Io<|Hf (mV 2)<|Hf (mB Hz (Hr HQ<|Hf (mV 1)<|mZ)<|mK<|.int 1)<|mZ)
def gI:MS:=mS (Ht (mB Hj (mL<|Hf (mK<|.str "")<|Hf (mB Hj (mK<|.str "abcdefghijklmnopqrstuvwxyz0123456789")<|Hr Io<|Hf (mV 0)<|Hf (mK<|.int 36)<|mZ)<|mZ)<|Hr Io<|Hf (mV 0)<|Hf (mK<|.int 2)<|mZ)<|Ho 2) (mS (Ht (Ju (IG<|mK<|.int 4) 1 [1,0] (Ho 0) Je<|Pw)<|Ho 3)<|mR<|mU<|Hf (mV 2)<|Hf (mB Hj (mV 3)<|mK<|.int 0)<|Hf (mB Hj (mV 3)<|mK<|.int 1)<|Hf (mB Hj (mV 3)<|mK<|.int 2)<|Hf (mB Hj (mV 3)<|mK<|.int 3)<|mZ)
def W9:GN:=ID 4 gI
def Qv:ME:=mU<|Hf (mV 0)<|Hf (mB Hj (mL<|Hf (mK<|.int 1)<|Hf (mK<|.int 2)<|Hf (mK<|.int 1)<|Hf (mB Hz (mK<|.int 1)<|Hr Io<|Hf (mV 1)<|Hf (mK<|.int 4)<|mZ)<|mZ)<|Hr Io<|Hf (mV 1)<|Hf (mK<|.int 4)<|mZ)<|mZ
def RH:ME:=Hr W9<|Hf (mV 1)<|Hf (mV 2)<|mZ
def Xu:MS:=mS (Ht (Hr Xz<|Hf (mV 0)<|Hf (mB Hz (mK<|.int 1)<|Hr Io<|Hf (mV 0)<|Hf (mK<|.int 4)<|mZ)<|mZ)<|Ho 1)<|mS (Ht (mB Hj (mL<|Hf (mK<|.int 1)<|Hf (mK<|.int 1)<|Hf (mK<|.int 2)<|Hf (mK<|.int 2)<|Hf (mK<|.int 1)<|Hf (mK<|.int 3)<|Hf (mK<|.int 4)<|Hf (mK<|.int 2)<|mZ)<|Hr Io<|Hf (mV 0)<|Hf (mK<|.int 8)<|mZ)<|Ho 2)<|mS (Ht (Hr Mz<|Hf (Ju (J3<|mV 1) 1 [0] (Ho 0) Je<|Qv)<|mZ)<|Ho 3)<|mS (Ht (Ju (IG<|mB Hz (mK<|.int 1)<|Hr Io<|Hf (mV 0)<|Hf (mB Hj (mL<|Hf (mK<|.int 3)<|Hf (mK<|.int 5)<|Hf (mK<|.int 5)<|Hf (mK<|.int 12)<|mZ)<|Hr Io<|Hf (mV 0)<|Hf (mK<|.int 4)<|mZ)<|mZ) 1 [0,1] (Ho 0) Je<|RH)<|Ho 4)<|mS (Jf (mT<|mB La (Hr Io<|Hf (mV 0)<|Hf (mK<|.int 6)<|mZ)<|mK<|.int 0) (Iq<|Kh (mV 4)<|Hf (mB Hj (mV 4)<|Hr Io<|Hf (mV 0)<|Hf (Hr HQ<|Hf (mV 4)<|mZ)<|mZ)<|mZ)<|Jm)<|mR<|mU<|Hf (mV 2)<|Hf (mV 3)<|Hf (Hr Mz<|Hf (mV 4)<|mZ)<|mZ
def Xy:GN:=ID 5 Xu
def RT:MS:=mS (Ht (mU<|Hf (Hr Io<|Hf (mV 0)<|Hf (mB Hj (mV 2)<|mK<|.int 0)<|mZ)<|Hf (Hr Io<|Hf (mV 0)<|Hf (mB Hj (mV 2)<|mK<|.int 1)<|mZ)<|mZ)<|Ho 6)<|JR (mV 4) (mV 6)<|Hr Io<|Hf (mV 0)<|Hf (Hr HQ<|Hf (mB Hj (mV 1)<|mK<|.int 2)<|mZ)<|mZ
def RS:ME:=mB Hz (mV 0)<|mU<|Hf (mB Np (mV 1)<|mV 0)<|mZ
def gY:MS:=mS (Ht (O0 true)<|Ho 4)<|mS (mF (IG<|Hr Io<|Hf (mV 0)<|Hf (mB Hz (mV 3)<|mK<|.int 1)<|mZ) (Ho 5)<|RT)<|mR<|Hr Mz<|Hf (Hr MF<|Hf (Ju (OQ<|mV 4) 1 [4] (Ho 0) Je<|RS)<|mZ)<|mZ
def RL:GN:=ID 7 gY
def UC:MS:=mS (Ht (Hr Xy<|Hf (mV 0)<|mZ)<|Ho 1)<|mS (Ht (mU<|Hf (mB Hz (mK<|.int 1)<|Hr Io<|Hf (mV 0)<|Hf (mK<|.int 5)<|mZ)<|Hf (mB Hz (mK<|.int 1)<|Hr Io<|Hf (mV 0)<|Hf (mB Hj (mL<|Hf (mK<|.int 5)<|Hf (mK<|.int 5)<|Hf (mK<|.int 5)<|Hf (mK<|.int 12)<|mZ)<|Hr Io<|Hf (mV 0)<|Hf (mK<|.int 4)<|mZ)<|mZ)<|mZ)<|Ho 2)<|mS (Jf (mT<|mB La (Hr Io<|Hf (mV 0)<|Hf (mK<|.int 2)<|mZ)<|mK<|.int 0) (Ht (Vk (mV 2)<|NQ<|mK<|.int 1)<|Ho 2)<|Jm)<|mR<|mU<|Hf (mV 1)<|Hf (mV 2)<|Hf (Hr RL<|Hf (mV 0)<|Hf (mV 1)<|Hf (mV 2)<|Hf (mB Hj (mL<|Hf (mK<|.int 1)<|Hf (mK<|.int 2)<|Hf (mK<|.int 6)<|mZ)<|Hr Io<|Hf (mV 0)<|Hf (mK<|.int 3)<|mZ)<|mZ)<|mZ
def Xl:GN:=ID 3 UC
def RI:ME:=mU<|Hf (mU<|Hf (mV 0)<|Hf (mV 1)<|mZ)<|Hf (mV 2)<|mZ
def fV:MS:=mR<|Hr QP<|Hf (Ju (J3<|mV 0) 3 [] (J5 3<|gC (Ho 0)<|gC (Ho 1)<|gC (Ho 2)<|J6) Je<|RI)<|mZ
def Qz:GN:=ID 1 fV
def gJ:MS:=mS (Ht (mV 0)<|J5 2<|gC (Ho 2)<|gC (Ho 3)<|J6)<|mR<|mB Hj (mL<|Hf (mU<|Hf (mV 2)<|Hf (mB Hz (mV 3)<|mK<|.int 1)<|mZ)<|Hf (mU<|Hf (mB Hz (mV 2)<|mK<|.int 1)<|Hf (mV 3)<|mZ)<|Hf (mU<|Hf (mV 2)<|Hf (mB K5 (mV 3)<|mK<|.int 1)<|mZ)<|Hf (mU<|Hf (mB K5 (mV 2)<|mK<|.int 1)<|Hf (mV 3)<|mZ)<|mZ)<|mV 1
def NI:GN:=ID 4 gJ
def Pp:MS:=mS (Ht (O1 (mV 1)<|Hr NI<|Hf (mV 2)<|Hf (mV 6)<|mZ)<|Ho 7) (mS (Ht (mB Hj (mB Hj (mV 4)<|mV 3)<|mB Hz (mV 6)<|mK<|.int 1)<|Ho 8)<|Jf (LB (mT<|mB O4 (mV 7)<|mK .non)<|LB (mT<|mB JT (mV 8)<|mK<|.str "")<|mT<|mB La (mB Hj (mB Hj (mV 4)<|mV 7)<|mB Hz (mB Ih (mB Hz (mV 6)<|mK<|.int 2)<|mK<|.int 4)<|mK<|.int 1)<|mV 8) (Iq<|Kh (mV 5)<|Hf (mV 6)<|mZ)<|Jm)
def fW:MS:=mS (NP 4 5<|Hf (mB Hj (mB Hj (mV 0)<|mK<|.int 0)<|mK<|.int 2)<|Hf (mL<|mZ)<|mZ)<|mS (mF (IG<|mK<|.int 4) (Ho 6)<|Pp)<|mR<|mV 5
def XA:GN:=ID 9 fW
def RE:ME:=mB Hj (mV 1)<|mB Hj (mB Hj (mB Hj (mB Hj (mV 2)<|mK<|.int 0)<|mK<|.int 2)<|mV 3)<|mB Hz (mV 0)<|mK<|.int 1
def WR:MS:=mS (Ht (Hr XA<|Hf (mV 0)<|Hf (mV 1)<|Hf (mV 2)<|Hf (mV 3)<|mZ)<|Ho 4)<|mS (Jf (mT<|mB La (mV 4)<|mL<|mZ) (mR<|mK<|.int 0)<|Jm)<|mS (Ht (Hr PY<|Hf (mB Hj (mB Hj (mV 0)<|mK<|.int 0)<|mK<|.int 1)<|mZ)<|Ho 5)<|mR<|Hr LY<|Hf (Ju (J3<|mV 4) 1 [5,0,3] (Ho 0) Je<|RE)<|mZ
def Nd:GN:=ID 6 WR
end L2.MP.Hd
namespace L2.MP
open PySem
@[simp] theorem zvR(n:Nat)(ds:List D):Lq n ds=ds.map some++BH (n-ds.length) none:=rfl
@[simp] theorem zuM(U:HX)(n:Nat)(l:List Nat):Jc U n l=BH n none++l.map λ(j:Nat)=>(U[j]?).join:=rfl
variable {a b:Int}{st:Hh}
@[simp] theorem zwh:OS (.int a) (.int b) st=some (.bl (decide (a<b)),st):=rfl
@[simp] theorem zwi:PJ (.int a) (.int b) st=some (.bl (decide (a<=b)),st):=rfl
@[simp] theorem zwl:Ss (.int a) (.int b) st=some (.bl (decide (b<a)),st):=rfl
@[simp] theorem zwm:Mr (.int a) (.int b) st=some (.bl (decide (b<=a)),st):=rfl
@[simp] theorem zwk:Ls [.int a] st=some (.int a,st):=rfl
@[simp] theorem zwj{b:Bool}:Ls [.bl b] st=some (.int (if b then 1 else 0),st):=rfl
end L2.MP
namespace L2.MP.Hd
open PySem L2.MP
def HF(n m:Nat)(st:Hh):Prop:=∃a b c:Int,st[n]?=some (.lst [.int a,.int b,.int c])/\0<=a/\0<=b/\b<2305843009213693951/\0<=c/\c<=(m:Int)
variable {n m:Nat}{st:Hh}
def HF.lt(h:HF n m st):n<st.length:=by obtain⟨a,b,c,e,_⟩:=h;exact qax e
def HF.ne(h:HF n m st):st.length≠n:=C5 h.lt
def HF.gr{d:Hh}(h:HF n m st)(g:Gr st d):HF n m d:=by obtain⟨a,b,c,e,r⟩:=h;exact⟨a,b,c,(g.old n<|qax e).trans e,r⟩
variable {k:Nat}
def HF.up(h:HF n m st)(hk:m<=k):HF n k st:=by obtain⟨a,b,c,e,d,f,g,i,j⟩:=h;exact⟨a,b,c,e,d,f,g,i,by omega⟩
def HF.set{n m l:Nat}{st:Hh}{o:O}(h:HF n m st)(d:l≠n):HF n m (st.set l o):=by obtain⟨a,b,c,e,r⟩:=h;exact⟨a,b,c,by rw[Ak d];exact e,r⟩
variable {a b:Int}
def Zd(h:J4 a=true):HS (.int a) (.int b) st=some (.int (a*b),st):=by simp[HS,JL,L3,intD,h,Kv]
def mul_r(h:J4 b=true):HS (.int a) (.int b) st=some (.int (a*b),st):=by simp[HS,JL,L3,intD,h,Kv]
def Mf(h:0<b):Ih (.int a) (.int b) st=some (.int (a % b),st):=by simp[Ih,intD,h]
def Vc(h:0<b)(c:b<340282366920938463463374607431768211456):M3 (.int a) (.int b) st=some (.int (a / b),st):=by simp[M3,intD,h,c]
variable {many:Int}{s1:Hh}
def lQ{c:Int}(d:Hj (.ref n) (.int 0) st=some (.int a,st))(e:0<a)(f:Ih (.int a) (.int many) st=some (.int b,st))(g:M3 (.int a) (.int many) st=some (.int c,st))(h:IK (.ref n) (.int 0) (.int c) st=some s1):RD [some (.ref n),some (.int many),none,none] st=some (.rt (.int b),s1):=by
 unfold RD;refine O9 ?_;have m:mT (mB Ss (mB Hj (mV 0)<|mK<|.int 0)<|mK<|.int 0) [some (.ref n),some (.int many),none,none] st=some (true,st):=by simp[JP,d,e]
 rw[Md,m];refine Hy (U1:=[some (.ref n),some (.int many),some (.int b),none]) (s1:=st) (by simp[JP,d,f]) ?_;refine Hy (U1:=[some (.ref n),some (.int many),some (.int b),none]) (s1:=s1) (by simp[JP,d,g,h]) ?_;simp[JP]
variable {x2 x3:Int}
def nO{c d e f j l x5 o p x8 r:Int}(u:Hj (.ref n) (.int 0) st=some (.int a,st))(v:¬0<a)(w:Hj (.ref n) (.int 2) st=some (.int c,st))(hd:c+1=d)(x:IK (.ref n) (.int 2) (.int d) st=some s1)(y:Hj (.ref n) (.int 1) s1=some (.int b,s1)) (q:Hj (.ref n) (.int 2) s1=some (.int d,s1))(z:HS (.int 104729) (.int d) s1=some (.int j,s1)) (A:HS (.int j) (.int d) s1=some (.int x2,s1)) (B:HS (.int 31) (.int d) s1=some (.int x3,s1)) (C:HS (.int<|b+x2+x3) (.int 48271) s1=some (.int l,s1)) (E:Ih (.int l) (.int 2305843009213693921) s1=some (.int e,s1))(F:Ih (.int e) (.int 1000003) s1=some (.int x5,s1)) (G:HS (.int 39373) (.int d) s1=some (.int o,s1)) (H:HS (.int e) (.int<|x5+o) s1=some (.int p,s1)) (I:Ih (.int p) (.int 2305843009213693907) s1=some (.int f,s1))(g:M3 (.int f) (.int 65537) s1=some (.int x8,s1)) {s:Int} (h:M3 (.int f) (.int 1000033) s1=some (.int s,s1)) (i:Ih (.int<|x8+s) (.int many) s1=some (.int r,s1)):
  RD [some (.ref n),some (.int many),none,none] st=some (.rt (.int r),s1):=by
 unfold RD;have m:mT (mB Ss (mB Hj (mV 0)<|mK<|.int 0)<|mK<|.int 0) [some (.ref n),some (.int many),none,none] st=some (false,st):=by simp[JP,u,v]
 refine Hy (U1:=[some (.ref n),some (.int many),none,none]) (s1:=st) (by rw[Md,m];rfl) ?_;refine Hy (U1:=[some (.ref n),some (.int many),none,none]) (s1:=s1) (by simp[JP,w,hd,x]) ?_;refine Hy (U1:=[some (.ref n),some (.int many),none,some (.int e)]) (s1:=s1) (by simp[JP,y,q,z,A,B,C,E]) ?_;refine Hy (U1:=[some (.ref n),some (.int many),none,some (.int f)]) (s1:=s1) (by simp[JP,q,F,G,H,I]) ?_;simp[JP,g,h,i]
def Kb(h:HF n m st)(hm:m<=1000000)(i:0<many)(w:many<18446744073709551616):∃(r:Int) (g:Hh),Y5 (Io [.ref n,.int many] st=some (.int r,g)) (0<=r) (r<many) (HF n (m+1) g) (Fr n st g):=by
 obtain⟨a,b,c,e,q,s,j,y,z⟩:=h;have u:=qax e;have v:Hj (.ref n) (.int 0) st=some (.int a,st):=Ld e (!1) rfl
 by_cases h0:0<a
 ·have l:IK (.ref n) (.int 0) (.int<|a / many) st=some (st.set n<|.lst [.int (a / many),.int b,.int c]):=by simp[IK,e,Mq]
  have A:M3 (.int a) (.int many) st=some (.int (a / many),st):=Vc i (!0);exact⟨a % many,_,IW<|lQ v h0 (Mf i) A l,Cd _<|by omega,BS _ i,⟨a / many,b,c,by simp[u],Int.ediv_nonneg q<|by omega,s,j,y,by omega⟩,GB _ _ _⟩
 ·have B:Hj (.ref n) (.int 2) st=some (.int c,st):=Ld e (!1) rfl;obtain⟨d,hd⟩:∃d,c+1=d:=⟨_,rfl⟩
  have l:IK (.ref n) (.int 2) (.int d) st=some (st.set n<|.lst [.int a,.int b,.int d]):=by simp[IK,e,Mq]
  have o:(st.set n<|.lst [.int a,.int b,.int d])[n]?=some (.lst [.int a,.int b,.int d]):=by simp[u]
  have f:Fr n st (st.set n<|.lst [.int a,.int b,.int d]):=GB _ _ _;generalize st.set n (.lst [.int a,.int b,.int d])=s1 at l o f;have C:Hj (.ref n) (.int 1) s1=some (.int b,s1):=Ld o (!1) rfl;have E:Hj (.ref n) (.int 2) s1=some (.int d,s1):=Ld o (!1) rfl;have p:J4 d=true:=by unfold J4;simp;omega
  have F:J4 48271=true:=by decide
  have k3:∀x:Int,J4 (x % 2305843009213693921)=true:=λx=>by have i:=Cd x (show(2305843009213693921:Int)≠0 by decide);have w:=BS x (show(0:Int)<2305843009213693921 by decide);unfold J4;simp;omega
  refine⟨_,s1,IW<|nO v h0 B hd l C E (mul_r p) (mul_r p) (mul_r p) (mul_r F) (Mf<|by decide) (Mf<|by decide) (mul_r p) (Zd<|k3 _) (Mf<|by decide) (Vc (!1)<|by decide) (Vc (!1)<|by decide)<|Mf i,Cd _<|by omega,BS _ i,⟨a,b,d,o,q,s,j,by omega,by omega⟩,f⟩
def kU(st:Hh):∃F:Int,Y3 (0<F) (F.natAbs<2^1100) (∀U:HX,mB IZ (mB IZ (mB IZ (mB IZ (mB IF (mK<|.int 10)<|mK<|.int 60)<|mB IF (mK<|.int 10)<|mK<|.int 60)<|mB IF (mK<|.int 10)<|mK<|.int 60)<|mB IF (mK<|.int 10)<|mK<|.int 60) (mB IF (mK<|.int 10)<|mK<|.int 60) U st=some (.int F,st)):=
 ⟨10^300,by decide +kernel,by decide +kernel,λU=>by
  have b:mB IF (mK<|.int 10) (mK<|.int 60) U st=some (.int (10^60),st):=by
   rw[Nt];simp only[Vw,Ae];have:(decide ((0:Int)<=60)&&decide ((Builtin.Int.intBits 10:Int)*60<=2^27))=true:=by decide +kernel
   unfold IF intD;dsimp only;rw[if_pos this];rfl
  have a:∀(i j k:Nat),i+j=k->(decide (Builtin.Int.intBits ((10:Int)^i)<=2^20)&&decide (Builtin.Int.intBits ((10:Int)^j)<=2^20))=true->IZ (.int<|10^i) (.int<|10^j) st=some (.int (10^k),st):=λi j k hk h=>by unfold IZ intD;dsimp only;rw[if_pos h,<-hk,Int.pow_add]
  have m:=a 60 60 120 rfl (by decide +kernel);have n:=a 120 60 180 rfl (by decide +kernel);have c:=a 180 60 240 rfl (by decide +kernel);have d:=a 240 60 300 rfl (by decide +kernel);have h0:=b;generalize (10:Int)^60=a1 at *;generalize (10:Int)^120=a2 at *;generalize (10:Int)^180=e at *;generalize (10:Int)^240=f at *;generalize (10:Int)^300=g at *;simp only[Nt,Vw,Ae]at b;simp only[Nt,Vw,Ae,b,m,n,c,d]⟩
theorem lB(U:HX)(st:Hh):mB IF (mK<|.int 10) (mK<|.int 18) U st=some (.int 1000000000000000000,st):=rfl
def wU(c:Builtin.Int.intBits a<=2^20)(d:b=0\/b=1):IZ (.int a) (.int b) st=some (.int (a*b),st):=by
 have m:Builtin.Int.intBits b<=2^20:=by rcases d with rfl|rfl<;>decide +kernel
 unfold IZ intD;dsimp only;rw[if_pos];rw[decide_eq_true c,decide_eq_true m];rfl
variable {F:Int}
def oW(h0:0<=a)(d:a<F)(c:F.natAbs<2^1100):Builtin.Int.intBits a<=2^20:=by
 have b:a.natAbs<F.natAbs:=by omega
 exact AA (PyProof.Rows.intBits_le<|B7 b c)<|by decide
variable {U:HX}
theorem Vx{c:MT}{m n:ME}:L5 c m n U st=(c U st).bind λp=>if p.1=true then m U p.2 else n U p.2:=rfl
variable {ds:List D}{cell:Int}
def uI{k own:Int}(c:L5 (mT<|mB OS (mV 1)<|Hr HQ<|Hf (mV 0)<|mZ) (mB Hj (mV 0)<|mV 1) (mK<|.int 0) [some (.kl ds),some (.int k),none,none,none] st=some (.int cell,st))(d:mB IZ (mB IZ (mB IZ (mB IZ (mB IF (mK<|.int 10)<|mK<|.int 60)<|mB IF (mK<|.int 10)<|mK<|.int 60)<|mB IF (mK<|.int 10)<|mK<|.int 60)<|mB IF (mK<|.int 10)<|mK<|.int 60) (mB IF (mK<|.int 10)<|mK<|.int 60) [some (.kl ds),some (.int k),some (.int cell),none,none] st=some (.int F,st))(e:mB IZ (mB Ih (mV 2)<|mV 3) (Hr Ls<|Hf (mB Mr (mV 2)<|mB IF (mK<|.int 10)<|mK<|.int 18)<|mZ) [some (.kl ds),some (.int k),some (.int cell),some (.int F),none] st=some (.int own,st))(f:Ih (.int cell) (.int 2305843009213693951) st=some (.int x2,st)) (g:HS (.int 7919) (.int k) st=some (.int x3,st)) (h:Ih (.int<|x2+x3) (.int 2305843009213693951) st=some (.int b,st)):
  XG [some (.kl ds),some (.int k),none,none,none] st=some (.rt (.ref st.length),st++[.lst [.int own,.int b,.int 0]]):=by
 unfold XG;refine Hy (U1:=[some (.kl ds),some (.int k),some (.int cell),none,none]) (s1:=st) (by rw[MB,c];rfl) ?_;refine Hy (U1:=[some (.kl ds),some (.int k),some (.int cell),some (.int F),none]) (s1:=st) (by rw[MB,d];rfl) ?_;refine Hy (U1:=[some (.kl ds),some (.int k),some (.int cell),some (.int F),some (.int own)]) (s1:=st) (by rw[MB,e];rfl) ?_;simp[JP,f,g,h]
def lP{k:Int}(h0:0<F)(d:F.natAbs<2^1100):∃own:Int,0<=own/\mB IZ (mB Ih (mV 2)<|mV 3) (Hr Ls<|Hf (mB Mr (mV 2)<|mB IF (mK<|.int 10)<|mK<|.int 18)<|mZ) [some (.kl ds),some (.int k),some (.int cell),some (.int F),none] st=some (.int own,st):=by
 have m0:=Cd cell (show F≠0 by omega);have n:=BS cell h0;have U:=Mf (a:=cell) (st:=st) h0;generalize cell % F=x at m0 n U;have e:=oW m0 n d;have m:=lB [some (.kl ds),some (.int k),some (.int cell),some (.int F),none] st;have f:∃j:Int,(j=0\/j=1)/\Hr Ls (Hf (mB Mr (mV 2)<|mB IF (mK<|.int 10)<|mK<|.int 18)<|mZ) [some (.kl ds),some (.int k),some (.int cell),some (.int F),none] st=some (.int j,st):=by generalize mB IF (mK<|.int 10) (mK<|.int 18)=g at m;refine⟨if decide (1000000000000000000<=cell)=true then 1 else 0,by split<;>simp,?_⟩;rw[aF,VX,Nt];simp only[QX,Ek,Dh,Ae,m,Mr,L9,Zl];rfl
 obtain⟨j,c,h⟩:=f;refine⟨x*j,by rcases c with rfl|rfl<;>omega,?_⟩;have em:=wU (a:=x) (b:=j) (st:=st) e c;rw[Nt,Nt];simp only[QX,Ek,Dh,Ae,U];rw[h];simp only[Ae];exact em
def vK{ns:List Int}{k:Int}(h0:0<=k)(e:k<=1000):∃c,Y3 (Xw [.kl (!7),.int k] st=some (.ref st.length,c)) (HF st.length 0 c) (Gr st c):=by
 obtain⟨F,m,n,eF⟩:=kU st;have a:∃cell:Int,L5 (mT<|mB OS (mV 1)<|Hr HQ<|Hf (mV 0)<|mZ) (mB Hj (mV 0)<|mV 1) (mK<|.int 0) [some (.kl<|ns.map D.int),some (.int k),none,none,none] st=some (.int cell,st):=by
  by_cases hk:k<(ns.length:Int)
  ·have b:k.toNat<ns.length:=by omega
   have ex:Hj (.kl<|ns.map D.int) (.int k) st=some (.int ns[k.toNat],st):=kF h0 (by rw[Az,Ah b];rfl);exact⟨ns[k.toNat],by rw[Vx];simp[JP,VL,hk,ex]⟩
  exact⟨0,by rw[Vx];simp[JP,VL,hk]⟩
 obtain⟨cell,a⟩:=a;obtain⟨own,o0,U⟩:=lP (ds:=ns.map D.int) (k:=k) (cell:=cell) (st:=st) m n;have d:=Cd (cell % 2305843009213693951+7919*k) (show(2305843009213693951:Int)≠0 by decide);have b1:=BS (cell % 2305843009213693951+7919*k) (show(0:Int)<2305843009213693951 by decide);exact⟨_,IW<|uI a (eF _) U (Mf<|by decide) (Zd<|by decide)<|Mf<|by decide,⟨own,_,0,IJ _ _,o0,d,b1,by decide,by decide⟩,Gr.app _ _⟩
open L2.MP.Hb (Xh T2 Lp)
noncomputable abbrev JF:Str:=Hn.JF
def Us:∀k:Nat,k<26->JF.cps[k]?=some (97+k):=Hn.Us
structure Iz(x:Str):Prop where
 len:x.cps.toList.length<=8
 ab:∀c∈x.cps.toList,48<=c/\c<=122
def Ti{x:Str}(h:∀c∈x.cps.toList,48<=c/\c<=122):Bp x=true:=by unfold Bp;rw[Array.all_eq_true'];intro c a;have:=h c (by simpa using a);simp;omega
def Qq:Iz "":=⟨by decide,by decide⟩
variable {c:Nat}
def Zs{k:Int}(d:1<=k)(g:k<=8)(e:48<=c)(f:c<=122):Iz (JG ⟨#[c]⟩ k):=by refine⟨by rw[T2 d,BO];omega,λx a=>?_⟩;rw[T2 d]at a;rw[List.eq_of_mem_replicate a];exact⟨e,f⟩
def Tr{m:ME}(e:m U st=some (.int (k:Int),st))(hk:k<=1000):IG m U st=some (⟨run 0 k,[]⟩,st):=by have a:small (k:Int)=true:=OG (!0) (!0);rw[YX,e,Ae];simp only[a,if_true];rw[Bz]
variable {M:Int}
def M9{m:ME}(d:M=(k:Int))(e:m U st=some (.int M,s1))(hk:k<=1000):IG m U st=some (⟨run 0 k,[]⟩,s1):=by have a:small M=true:=OG (!0) (!0);rw[YX,e,Ae];simp only[a,if_true];rw[d,Bz]
def run_map(k:Nat):run 0 k=(As k).map λ(i:Nat)=>D.int (i:Int):=by unfold run;apply CV;intro i _;rw[Int.zero_add]
def Mx{j:Nat}{d:D}(h:(run 0 j)[k]?=some d):k<j/\d=.int (k:Int):=by have hk:=qax h;rw[Kx]at hk;rw[run_map,Az,DG hk]at h;exact⟨hk,by cases h;rfl⟩
variable {x r1:Int}{y:D}
def yX(d:∀s:Hh,Hj (.str JF) (.int r1) s=some (Lp c,s))(em:HS (Lp c) (.int<|x+1) st=some (y,st)):Qw [some (.int x),some (.str JF),some (.int r1)] st=some (y,st):=by unfold Qw;simp[d,em]
def yV(hm:m<=8)(d:0<=r1)(e:r1<26):∃ts:List Str,Y3 (ts.length=m) ((∀x∈ts,Iz x)) (Jj ⟨run 0 m,[]⟩ (Ho 0) Je Qw (run 0 m) [none,some (.str JF),some (.int r1)] st=some (ts.map D.str,st)):=by
 have a:∀s:Hh,Hj (.str JF) (.int r1) s=some (Lp (97+r1.toNat),s):=λs=>Q6 (!1) d (Us _<|by omega);have y:48<=97+r1.toNat:=by omega
 have F:97+r1.toNat<=122:=by omega
 generalize 97+r1.toNat=c at a y F;refine⟨(As m).map λ(i:Nat)=>JG ⟨#[c]⟩ ((i:Int)+1),by simp,λx M=>?_,?_⟩
 ·obtain⟨i,b,rfl⟩:=P3.mp M;have:=List.mem_range.mp b;exact Zs (!0) (!0) y F
 have:∀W:Wk,walked W st=true->Jj W (Ho 0) Je Qw (run 0 m) [none,some (.str JF),some (.int r1)] st=some (((As m).map λ(i:Nat)=>JG ⟨#[c]⟩ ((i:Int)+1)).map D.str,st):=by intro W f;rw[run_map,AK];refine Qg (R:=λU=>∃x,U=[x,some (.str JF),some (.int r1)]) ⟨none,rfl⟩ f λi b U g=>?_;obtain⟨x,rfl⟩:=g;have b:=List.mem_range.mp b;have em:=Xh (c:=c) (n:=(i:Int)+1) (st:=st) (!0) (!0);exact⟨[some (.int (i:Int)),some (.str JF),some (.int r1)],by simp,rfl,yX a em,⟨_,rfl⟩⟩
 exact this _ rfl
variable {w:Int}
def yZ{d e q1 f:Int}(g:HS (.int w) (.int x) st=some (.int d,st))(h:Ih (.int<|r1+d) (.int 26) st=some (.int e,st))(ex:Hj (.str JF) (.int e) st=some (Lp c,st))(i:HS (.int x) (.int x) st=some (.int q1,st))(j:Ih (.int<|q1+r1) (.int 8) st=some (.int f,st))(em:HS (Lp c) (.int<|1+f) st=some (y,st)):Qx [some (.int x),some (.str JF),some (.int r1),some (.int w)] st=some (y,st):=by unfold Qx;simp[g,h,ex,i,j,em]
def yY(hm:m<=8)(i:0<=w)(j:w<=11):∃ts:List Str,Y3 (ts.length=m) ((∀x∈ts,Iz x)) (Jj ⟨run 0 m,[]⟩ (Ho 0) Je Qx (run 0 m) [none,some (.str JF),some (.int r1),some (.int w)] st=some (ts.map D.str,st)):=by
 have key:=OW (W:=⟨run 0 m,[]⟩) (g:=Ho 0) (c:=Je) (m:=Qx) (ds:=run 0 m) (acc:=[]) (st:=st) (U:=[none,some (.str JF),some (.int r1),some (.int w)])
  (Inv:=λk a U s=>Y3 ((∃x,U=[x,some (.str JF),some (.int r1),some (.int w)])) ((∃ts:List Str,a=ts.map D.str/\ts.length=k/\∀x∈ts,Iz x)) (s=st))
  ⟨⟨none,rfl⟩,⟨[],rfl,rfl,by simp⟩,rfl⟩ (λ_ _ _ _ _ _=>rfl) (λk d a U s hd l=>by
   obtain⟨⟨x,rfl⟩,⟨ts,rfl,y,F⟩,rfl⟩:=l;obtain⟨hk,rfl⟩:=Mx hd;have o:HS (.int w) (.int (k:Int)) s=some (.int (w*(k:Int)),s):=mul_int (!0);have e:Ih (.int<|r1+w*(k:Int)) (.int 26) s=some (.int ((r1+w*(k:Int)) % 26),s):=Mf (!1);have p:=BS (r1+w*(k:Int)) (show(0:Int)<26 by decide);have f:=Cd (r1+w*(k:Int)) (show(26:Int)≠0 by decide);have q:HS (.int (k:Int)) (.int (k:Int)) s=some (.int ((k:Int)*(k:Int)),s):=mul_int (!0);have h:Ih (.int<|(k:Int)*(k:Int)+r1) (.int 8) s=some (.int (((k:Int)*(k:Int)+r1) % 8),s):=Mf (!1);have r:=BS ((k:Int)*(k:Int)+r1) (show(0:Int)<8 by decide);have u:=Cd ((k:Int)*(k:Int)+r1) (show(8:Int)≠0 by decide);generalize (r1+w*(k:Int)) % 26=b at e p f;generalize ((k:Int)*(k:Int)+r1) % 8=M at h r u;have ex:Hj (.str JF) (.int b) s=some (Lp (97+b.toNat),s):=Q6 (!1) f (Us _<|by omega);have em:=Xh (c:=97+b.toNat) (n:=1+M) (st:=s) (!0) (!0);refine⟨[some (.int (k:Int)),some (.str JF),some (.int r1),some (.int w)],s,true,s,rfl,rfl,.inl ⟨rfl,.str<|JG ⟨#[97+b.toNat]⟩<|1+M,s,yZ o e ex q h em,⟨_,rfl⟩,⟨ts++[JG ⟨#[97+b.toNat]⟩ (1+M)],by simp,by simp[y],λx hx=>?_⟩,rfl⟩⟩
   rcases Os.mp hx with hx|hx
   ·exact F x hx
   rw[On.mp hx];exact Zs (!0) (!0) (!0) (!0))
 obtain⟨xs,z,A,v,_,⟨ts,hx,y,F⟩,rfl⟩:=key;rw[C3]at hx;subst hx;exact⟨ts,by rw[y,Kx],F,v⟩
def wV(v:M=(k:Int))(h:HF n m st)(z:k<=8)(hm:m<=900000):∃(ss:List Str) (l:Nat) (d:Hh),Y7 (Xz [.ref n,.int M] st=some (.ref l,d)) (d[l]?=some (.lst<|ss.map D.str)) (ss.length=k) ((∀x∈ss,Iz x)) (l≠n) (HF n (m+3) d) (Fr n st d):=by
 obtain⟨r1,s1,K,U,e,C,f1⟩:=Kb (many:=26) h (!0) (!1) (!1);have E:=C.gr<|Gr.app s1 [.lst [.int 1,.int 3,.int 5,.int 7,.int 9,.int 11]];have f2:=Fr.app n s1 [.lst [.int 1,.int 3,.int 5,.int 7,.int 9,.int 11]];have a2:=IJ s1<|.lst [.int 1,.int 3,.int 5,.int 7,.int 9,.int 11];have f:=C.ne;generalize g:s1++[O.lst [.int 1,.int 3,.int 5,.int 7,.int 9,.int 11]]=s2 at E f2 a2;obtain⟨a,s3,L,i,N,P,G⟩:=Kb (many:=6) E (!0) (!1) (!1);have Q:=(G.old _ (qax a2) f).trans a2;obtain⟨w,hw,j,o⟩:∃w:Int,[D.int 1,.int 3,.int 5,.int 7,.int 9,.int 11][a.toNat]?=some (.int w)/\0<=w/\w<=11:=by
  have:a=0\/a=1\/a=2\/a=3\/a=4\/a=5:=by omega
  rcases this with rfl|rfl|rfl|rfl|rfl|rfl<;>exact⟨_,rfl,by decide,by decide⟩
 have S:Hj (.ref s1.length) (.int a) s3=some (.int w,s3):=Ld Q i hw;obtain⟨T,s4,H,W,X,p,f4⟩:=Kb (many:=3) P (!0) (!1) (!1);have c:Fr n st s4:=((f1.trans f2).trans G).trans f4;have g1:Ht (mU<|Hf (Hr Io<|Hf (mV 0)<|Hf (mK<|.int 26)<|mZ)<|Hf (mB Hj (mL<|Hf (mK<|.int 1)<|Hf (mK<|.int 3)<|Hf (mK<|.int 5)<|Hf (mK<|.int 7)<|Hf (mK<|.int 9)<|Hf (mK<|.int 11)<|mZ)<|Hr Io<|Hf (mV 0)<|Hf (mK<|.int 6)<|mZ)<|mZ) (J5 2<|gC (Ho 3)<|gC (Ho 4)<|J6)
   [some (.ref n),some (.int M),some (.str JF),none,none] st=some (.nx [some (.ref n),some (.int M),some (.str JF),some (.int r1),some (.int w)],s3):=by
  simp[K,g,L,S]
 by_cases hr:T=0
 ·subst hr;obtain⟨ts,q,r,y⟩:=yV (st:=s4) z U e;have fl:fits (ts.map D.str).length=true:=J8 (by simp;omega);refine⟨ts,s4.length,s4++[.lst (ts.map D.str)],IW ?_,IJ _ _,q,r,p.ne,p.gr<|Gr.app _ _,c.trans<|Fr.app _ _ _⟩;generalize ts.map D.str=A at y fl;unfold Xv;refine Hy (U1:=[some (.ref n),some (.int M),some (.str JF),none,none]) (s1:=st) (!2) ?_;refine Hy g1<|O9 ?_;have b:Ju (IG<|mV 1) 1 [2,3] (Ho 0) Je Qw [some (.ref n),some (.int M),some (.str JF),some (.int r1),some (.int w)] s4=some (.ref s4.length,s4++[.lst A]):=by
   rw[JP,M9 (s1:=s4) (k:=k) v (!2) (!0)];simp only[Ae];rw[show Jc [some (.ref n),some (.int M),some (.str JF),some (.int r1),some (.int w)] 1 [2,3]=[none,some (.str JF),some (.int r1)] from rfl,y];simp only[Ae,fl,if_true]
  simp[H,eq_int,b]
 ·obtain⟨ts,q,r,y⟩:=yY (r1:=r1) (st:=s4) z j o;have fl:fits (ts.map D.str).length=true:=J8 (by simp;omega);have s:=p.gr<|Gr.app s4 [.lst (ts.map D.str)];have u:=Hn.zfS (IJ s4<|.lst<|ts.map D.str) (!0);have I:=Fr.app n s4 [.lst (ts.map D.str)];have J:(OD ts).Perm ts:=CT _ _;generalize F:s4++[O.lst (ts.map D.str)]=s5 at s u I;refine⟨OD ts,s5.length,s5++[.lst ((OD ts).map D.str)],IW ?_,IJ _ _,by rw[<-q];exact J.length_eq,λx Y=>r x (J.mem_iff.mp Y),s.ne,s.gr<|Gr.app _ _,(c.trans I).trans<|Fr.app _ _ _⟩;generalize (OD ts).map D.str=B at u;generalize ts.map D.str=A at y fl F;unfold Xv;refine Hy (U1:=[some (.ref n),some (.int M),some (.str JF),none,none]) (s1:=st) (!2) ?_;refine Hy g1 ?_;refine Hy (U1:=[some (.ref n),some (.int M),some (.str JF),some (.int r1),some (.int w)]) (s1:=s4) (by simp[H,eq_int,hr]) ?_;have b:Ju (IG<|mV 1) 1 [2,3,4] (Ho 0) Je Qx [some (.ref n),some (.int M),some (.str JF),some (.int r1),some (.int w)] s4=some (.ref s4.length,s5):=by
   rw[JP,M9 (s1:=s4) (k:=k) v (!2) (!0)];simp only[Ae];rw[show Jc [some (.ref n),some (.int M),some (.str JF),some (.int r1),some (.int w)] 1 [2,3,4]=[none,some (.str JF),some (.int r1),some (.int w)] from rfl,y];simp only[Ae,fl,if_true,F]
  simp[b,u]
end L2.MP.Hd
namespace L2.MP.Hd
open PySem L2.MP
open L2.MP.Hb (Lp)
noncomputable abbrev Py:Str:="abcdefghijklmnopqrstuvwxyz0123456789"
def sH:∀k:Nat,k<36->∃c,Py.cps[k]?=some c/\48<=c/\c<=122:=by
 have:∀k:Nat,k<36->(match Py.cps[k]? with|some c=>decide (48<=c/\c<=122)|none=>false)=true:=by decide +kernel
 intro k hk;have:=this k hk;split at this
 ·rename_i c e;exact⟨c,e,of_decide_eq_true this⟩
 ·cases this
structure Mb(ss:List Str)(k:List Str):Prop where
 ex:∃f ds,k=f::ds/\Iz f/\ds.length=4/\∀x∈ds,Iz x/\(x=""\/x∈ss)
variable {lN a n:Nat}{r:Int}{s s1 s2 s3:Hh}
def sM{c:Int}{v:Option D}{y:D}(b:s++[.lst [.str ""]]=s1)(d:Hz (.ref s.length) (.ref lN) s1=some (.ref a,s2))(e:HQ [.ref lN] s2=some (.int c,s2))(f:Io [.ref n,.int (c+1)] s2=some (.int r,s3))(ex:Hj (.ref a) (.int r) s3=some (y,s3)):
  Pw [v,some (.ref lN),some (.ref n)] s=some (y,s3):=by
 unfold Pw;simp[b,d,e,f,ex]
variable {m:Nat}{ss:List Str}{st:Hh}
def xX{ss:List Str}(h:HF n m st)(v:st[lN]?=some (.lst<|ss.map D.str))(F:lN≠n)(Q:ss.length<=100)(hn:∀x∈ss,Iz x)(hm:m<=800000):
  ∃(ds:List Str) (f:Hh),Y5 (Jj ⟨run 0 4,[]⟩ (Ho 0) Je Pw (run 0 4) [none,some (.ref lN),some (.ref n)] st=some (ds.map D.str,f)) (ds.length=4) ((∀x∈ds,Iz x/\(x=""\/x∈ss))) (HF n (m+4) f) (Fr n st f):=by
 have key:=OW (W:=⟨run 0 4,[]⟩) (g:=Ho 0) (c:=Je) (m:=Pw) (ds:=run 0 4) (acc:=[]) (st:=st) (U:=[none,some (.ref lN),some (.ref n)])
  (Inv:=λk a U s=>Y4 ((∃x,U=[x,some (.ref lN),some (.ref n)])) ((∃ds:List Str,a=ds.map D.str/\ds.length=k/\∀x∈ds,Iz x/\(x=""\/x∈ss))) (HF n (m+k) s) (Fr n st s))
  ⟨⟨_,rfl⟩,⟨[],rfl,rfl,by simp⟩,h,Fr.refl _ _⟩ (λ_ _ _ _ _ _=>rfl) (λk d a U s hd G=>by
   obtain⟨⟨x,rfl⟩,⟨ds,rfl,hlen,i⟩,o,hf⟩:=G;have H:=(Mx hd).1;have j:s[lN]?=some (.lst<|ss.map D.str):=(hf.old _ (qax v) F).trans v;have a1:=IJ s (.lst [.str ""]);have b:(s++[O.lst [D.str ""]])[lN]?=some (.lst<|ss.map D.str):=by rw[Ar (qax j)];exact j
   have p:=o.gr (Gr.app s [.lst [.str ""]]);have f1:=Fr.app n s [.lst [.str ""]];generalize q:s++[O.lst [D.str ""]]=s1 at a1 b p f1;have w:=oM a1 b (by simp;omega);have a2:=IJ s1 (.lst<|[.str ""]++ss.map D.str);have l:(s1++[O.lst ([.str ""]++ss.map D.str)])[lN]?=some (.lst<|ss.map D.str):=by rw[Ar (qax b)];exact b
   have z:=p.gr (Gr.app s1 [.lst ([.str ""]++ss.map D.str)]);have f2:=Fr.app n s1 [.lst ([.str ""]++ss.map D.str)];have u:=p.ne;generalize I:s1++[O.lst ([.str ""]++ss.map D.str)]=s2 at a2 l z f2 w;have A:=Z2 l;rw[Af]at A;obtain⟨r,s3,J,K,S,L,B⟩:=Kb (many:=(ss.length:Int)+1) z (!0) (!0) (!0);have C:=(B.old _ (qax a2) u).trans a2;have E:r.toNat<((("":Str))::ss).length:=by simp;omega
   have hm:[D.str ""]++ss.map D.str=((("":Str))::ss).map D.str:=rfl;rw[hm]at C;have ex:=Ld (x:=.str ((("":Str))::ss)[r.toNat]) C K (by rw[Az,Ah E];rfl);have e:((("":Str))::ss)[r.toNat]∈("":Str)::ss:=Bj E;generalize ((("":Str))::ss)[r.toNat]=y at ex e;have M:Iz y/\(y=""\/y∈ss):=by
    rcases KM.mp e with rfl|h
    ·exact⟨Qq,.inl rfl⟩
    exact⟨hn y h,.inr h⟩
   refine⟨[some d,some (.ref lN),some (.ref n)],s,true,s,by simp,rfl,.inl ⟨rfl,.str y,s3,sM q w A J ex,⟨_,rfl⟩,⟨ds++[y],by simp,by simp[hlen],λx hx=>?_⟩,L,((hf.trans f1).trans f2).trans B⟩⟩
   rcases Os.mp hx with hx|hx
   ·exact i x hx
   rw[On.mp hx];exact M)
 obtain⟨xs,T,N,P,_,⟨ds,hx,hlen,i⟩,o,hf⟩:=key;rw[C3]at hx;subst hx;rw[Kx]at hlen o;exact⟨ds,N,P,hlen,i,o,hf⟩
def rG{ss:List Str}(h:HF n m st)(z:st[lN]?=some (.lst<|ss.map D.str))(A:lN≠n)(I:ss.length<=100)(hn:∀x∈ss,Iz x)(hm:m<=700000):
  ∃(k:List Str) (e:Hh),Y4 (W9 [.ref n,.ref lN] st=some (IE k,e)) (Mb ss k) (HF n (m+6) e) (Fr n st e):=by
 obtain⟨B,s1,J,l,K,C,f1⟩:=Kb (many:=36) h (!0) (!1) (!1);obtain⟨r,g1,L,M⟩:=sH B.toNat (!0);have N:Hj (.str Py) (.int B) s1=some (Lp r,s1):=Q6 (!1) l g1;have a2:=IJ s1 (.lst [.str "",Lp r]);have E:=C.gr (Gr.app s1 [.lst [.str "",Lp r]]);have f2:=Fr.app n s1 [.lst [.str "",Lp r]];have o:=C.ne;generalize p:s1++[O.lst [D.str "",Lp r]]=s2 at a2 E f2;obtain⟨j,s3,P,q,Q,S,F⟩:=Kb (many:=2) E (!0) (!1) (!1);have T:=(F.old _ (qax a2) o).trans a2;obtain⟨x,U,W⟩:∃x:Str,[D.str "",Lp r][j.toNat]?=some (.str x)/\Iz x:=by
  have:j=0\/j=1:=by omega
  rcases this with rfl|rfl
  ·exact⟨"",rfl,Qq⟩
  exact⟨⟨#[r]⟩,rfl,⟨by simp,by simp;omega⟩⟩
 have X:Hj (.ref s1.length) (.int j) s3=some (.str x,s3):=Ld T q U;have f:Fr n st s3:=(f1.trans f2).trans F;have u:=(f.old _ (qax z) A).trans z;obtain⟨ds,s4,g,v,s,Y,f4⟩:=xX S u A I hn (!0);have fd:fits (ds.map D.str).length=true:=J8 (by simp;omega)
 match ds,v,s,g,fd with
 |[a,b,c,d],_,s,g,fd=>
  have i:=IJ s4<|.lst [.str a,.str b,.str c,.str d];have G:=Y.gr<|Gr.app s4 [.lst [.str a,.str b,.str c,.str d]];have H:=Fr.app n s4 [.lst [.str a,.str b,.str c,.str d]];have g:Jj ⟨run 0 4,[]⟩ (Ho 0) Je Pw (run 0 4) [none,some (.ref lN),some (.ref n)] s3=some ([.str a,.str b,.str c,.str d],s4):=g;generalize w:s4++[O.lst [.str a,.str b,.str c,.str d]]=s5 at i G H;have Z:Hj (.ref s4.length) (.int 0) s5=some (.str a,s5):=Ld i (!1) rfl;have j1:Hj (.ref s4.length) (.int 1) s5=some (.str b,s5):=Ld i (!1) rfl;have j2:Hj (.ref s4.length) (.int 2) s5=some (.str c,s5):=Ld i (!1) rfl;have j3:Hj (.ref s4.length) (.int 3) s5=some (.str d,s5):=Ld i (!1) rfl;refine⟨[x,a,b,c,d],s5,IW ?_,⟨x,[a,b,c,d],rfl,W,rfl,s⟩,G.up<|by omega,(f.trans f4).trans H⟩;unfold gI;refine Hy (U1:=[some (.ref n),some (.ref lN),some (.str x),none]) (s1:=s3) (by simp[J,N,p,P,X]) ?_;have y:Ju (IG<|mK<|.int 4) 1 [1,0] (Ho 0) Je Pw [some (.ref n),some (.ref lN),some (.str x),none] s3=some (.ref s4.length,s5):=by rw[JP,Tr (k:=4) rfl (!1)];simp only[Ae];rw[show Jc [some (.ref n),some (.ref lN),some (.str x),none] 1 [1,0]=[none,some (.ref lN),some (.ref n)] from rfl,g];simp only[Ae,Aw,Bg,w];rfl
  refine Hy (U1:=[some (.ref n),some (.ref lN),some (.str x),some (.ref s4.length)]) (s1:=s5) (by rw[MB,y];rfl) ?_;simp[Z,j1,j2,j3,IE]
def Nu(e:Int)(stk:List (Str×Int))(ks:List (!6)):D:=.tup [.int e,.tup (stk.map Kd),.tup (ks.map IE)]
structure N5(e:Int)(stk:List (Str×Int))(ks:List (!6)):Prop where
 e0:1<=e
 e1:e<=4
 sl:stk.length<=8
 nm:∀p∈stk,Iz p.1/\1<=p.2/\p.2<=4
 lo:1<=ks.length
 hi:ks.length<=13
 kd:∀k∈ks,Mb (stk.map (·.1)) k
def xN{a:Nat}{nm:D}{c y:Int}(d:Io [.ref n,.int 4] s=some (.int r,s1))(b:s1++[.lst [.int 1,.int 2,.int 1,.int (1+r)]]=s2)(e:Io [.ref n,.int 4] s2=some (.int c,s3))(ex:Hj (.ref s1.length) (.int c) s3=some (.int y,s3)):Qv [some nm,some (.ref n)] s=some (.tup [nm,.int y],s3):=by unfold Qv;simp[d,b,e,ex]
def zlF{ss:List Str}(h:HF n m st)(v:st[lN]?=some (.lst<|ss.map D.str))(C:lN≠n)(P:ss.length<=8)(hn:∀x∈ss,Iz x)(hm:m<=800000):
  ∃(stk:List (Str×Int)) (e:Hh),Y5 (Jj ⟨ss.map D.str,[(lN,ss.map D.str)]⟩ (Ho 0) Je Qv (ss.map D.str) [none,some (.ref n)] st=some (stk.map Kd,e)) (stk.map (·.1)=ss) ((∀p∈stk,Iz p.1/\1<=p.2/\p.2<=4)) (HF n (m+16) e) (Fr n st e):=by
 have key:=OW (W:=⟨ss.map D.str,[(lN,ss.map D.str)]⟩) (g:=Ho 0) (c:=Je) (m:=Qv) (ds:=ss.map D.str) (acc:=[]) (st:=st) (U:=[none,some (.ref n)])
  (Inv:=λk a U s=>Y4 ((∃x,U=[x,some (.ref n)])) ((∃stk:List (Str×Int),a=stk.map Kd/\stk.map (·.1)=ss.take k/\∀p∈stk,Iz p.1/\1<=p.2/\p.2<=4)) (HF n (m+2*k) s) (Fr n st s))
  ⟨⟨_,rfl⟩,⟨[],rfl,by simp,by simp⟩,h,Fr.refl _ _⟩ (λk a U s _ l=>OL ((l.h4.old _ (qax v) C).trans v)) (λk d a U s hd l=>by
   obtain⟨⟨x,rfl⟩,⟨stk,rfl,b,f⟩,hp,hf⟩:=l;rw[Az]at hd;obtain⟨nm,i,rfl⟩:=Ia hd;have hk:=qax i;obtain⟨r,s1,E,Q,S,w,f1⟩:=Kb (many:=4) hp (!0) (!1) (!1);have a2:=IJ s1<|.lst [.int 1,.int 2,.int 1,.int (1+r)];have z:=w.gr<|Gr.app s1 [.lst [.int 1,.int 2,.int 1,.int (1+r)]];have f2:=Fr.app n s1 [.lst [.int 1,.int 2,.int 1,.int (1+r)]];have o:=w.ne;generalize q:s1++[O.lst [.int 1,.int 2,.int 1,.int (1+r)]]=s2 at a2 z f2;obtain⟨j,s3,F,u,G,H,A⟩:=Kb (many:=4) z (!0) (!1) (!1);have I:=(A.old _ (qax a2) o).trans a2;obtain⟨y,J,K,L⟩:∃y:Int,[D.int 1,.int 2,.int 1,.int (1+r)][j.toNat]?=some (.int y)/\1<=y/\y<=4:=by
    have:j=0\/j=1\/j=2\/j=3:=by omega
    rcases this with rfl|rfl|rfl|rfl
    ·exact⟨1,rfl,by decide,by decide⟩
    ·exact⟨2,rfl,by decide,by decide⟩
    ·exact⟨1,rfl,by decide,by decide⟩
    exact⟨1+r,rfl,by omega,by omega⟩
   have ex:Hj (.ref s1.length) (.int j) s3=some (.int y,s3):=Ld I u J;refine⟨[some (.str nm),some (.ref n)],s,true,s,rfl,rfl,.inl ⟨rfl,Kd (nm,y),s3,xN (a:=0) E q F ex,⟨_,rfl⟩,⟨stk++[(nm,y)],by simp,?_,λp hp=>?_⟩,H.up<|by omega,((hf.trans f1).trans f2).trans A⟩⟩
   ·rw[AX,b,Bd,i];rfl
   ·rcases Os.mp hp with hp|hp
    ·exact f p hp
    rw[On.mp hp];exact⟨hn nm<|AF i,K,L⟩)
 obtain⟨xs,T,M,N,_,⟨stk,B,b,f⟩,hp,hf⟩:=key;rw[C3]at B;subst B;rw[Af]at b hp;rw[AR]at b;exact⟨stk,M,N,b,f,hp.up<|by omega,hf⟩
def xB{j:Nat}{ss:List Str}(h:HF n m st)(f:st[lN]?=some (.lst<|ss.map D.str))(l:lN≠n)(z:ss.length<=8)(hn:∀x∈ss,Iz x)(hm:m<=600000)(A:j<=12):
  ∃(ks:List (!6)) (b:Hh),Y5 (Jj ⟨run 0 j,[]⟩ (Ho 0) Je RH (run 0 j) [none,some (.ref n),some (.ref lN)] st=some (ks.map IE,b)) (ks.length=j) ((∀k∈ks,Mb ss k)) (HF n (m+72) b) (Fr n st b):=by
 have key:=OW (W:=⟨run 0 j,[]⟩) (g:=Ho 0) (c:=Je) (m:=RH) (ds:=run 0 j) (acc:=[]) (st:=st) (U:=[none,some (.ref n),some (.ref lN)])
  (Inv:=λi a U s=>Y4 ((∃x,U=[x,some (.ref n),some (.ref lN)])) ((∃ks:List (!6),a=ks.map IE/\ks.length=i/\∀k∈ks,Mb ss k)) (HF n (m+6*i) s) (Fr n st s))
  ⟨⟨_,rfl⟩,⟨[],rfl,rfl,by simp⟩,h,Fr.refl _ _⟩ (λ_ _ _ _ _ _=>rfl) (λi d a U s hd p=>by
   obtain⟨⟨x,rfl⟩,⟨ks,rfl,hlen,r⟩,e,hf⟩:=p;have B:=(Mx hd).1;obtain⟨k,s1,q,hk,u,f1⟩:=rG e ((hf.old _ (qax f) l).trans f) l (!0) hn (!0);refine⟨[some d,some (.ref n),some (.ref lN)],s,true,s,rfl,rfl,.inl ⟨rfl,IE k,s1,?_,⟨_,rfl⟩,⟨ks++[k],by simp,by simp[hlen],λy hy=>?_⟩,u.up<|by omega,hf.trans f1⟩⟩
   ·unfold RH;simp[q]
   ·rcases Os.mp hy with hy|hy
    ·exact r y hy
    rw[On.mp hy];exact hk)
 obtain⟨xs,C,v,w,_,⟨ks,o,hlen,r⟩,e,hf⟩:=key;rw[C3]at o;subst o;rw[Kx]at hlen e;exact⟨ks,v,w,hlen,r,e.up<|by omega,hf⟩
def T1{xs:List Int}{lo hi:Int}(h:HF n m st)(hm:m<=900000)(l:1<=xs.length)(d:xs.length<=100)(e:∀x∈xs,lo<=x/\x<=hi):∃(r y:Int) (b:Hh),Y6 (Io [.ref n,.int (xs.length:Int)] (st++[.lst (xs.map D.int)])=some (.int r,b)) (Hj (.ref st.length) (.int r) b=some (.int y,b)) (lo<=y) (y<=hi) (HF n (m+1) b) (Fr n st b):=by
 have a1:=IJ st<|.lst<|xs.map D.int;have a:=h.gr<|Gr.app st [.lst (xs.map D.int)];have f1:=Fr.app n st [.lst (xs.map D.int)];have f:=h.ne;generalize st++[O.lst (xs.map D.int)]=s1 at a1 a f1;obtain⟨r,s2,g,i,o,j,f2⟩:=Kb (many:=(xs.length:Int)) a (!0) (!0) (!0);have a2:=(f2.old _ (qax a1) f).trans a1;have s:r.toNat<xs.length:=by omega
 have c:=e _<|Bj s;exact⟨r,xs[r.toNat],s2,g,Ld a2 i (by rw[Az,Ah s];rfl),c.1,c.2,j,f1.trans f2⟩
def uZ(h:HF n m st)(hm:m<=100000):∃(e:Int) (stk:List (Str×Int)) (ks:List (!6)) (p:Hh),Y4 (Xy [.ref n] st=some (Nu e stk ks,p)) (N5 e stk ks) (HF n (m+200) p) (Fr n st p):=by
 obtain⟨r1,s1,e1,r10,r11,p1,f1⟩:=Kb (many:=4) h (!0) (!1) (!1);obtain⟨ss,lN,s2,e2,at2,hss,A,Q,p2,f2⟩:=wV (k:=(1+r1).toNat) (M:=1+r1) (!0) p1 (!0) (!0);obtain⟨r3,s,s3,e3,x3,B,C,p3,f3⟩:=T1 (xs:=[1,1,2,2,1,3,4,2]) (lo:=1) (hi:=4) p2 (!0) (!1) (!1) (!1);have d:=(f3.old _ (qax at2) Q).trans at2;obtain⟨stk,s4,e4,g,i,p4,f4⟩:=zlF p3 d Q (!0) A (!0);have lstk:stk.length=ss.length:=by rw[<-g,Af]
 have a5:=IJ s4<|.lst<|stk.map Kd;have p5:=p4.gr<|Gr.app s4 [.lst (stk.map Kd)];have S:=Fr.app n s4 [.lst (stk.map Kd)];have fs:fits (stk.map Kd).length=true:=J8 (by rw[Af];omega);generalize T:s4++[O.lst (stk.map Kd)]=s5 at a5 p5 S;have et:=OH a5;obtain⟨r6,y6,s6,e6,x6,y60,y61,p6,f6⟩:=T1 (xs:=[3,5,5,12]) (lo:=3) (hi:=12) p5 (!0) (!1) (!1) (!1);obtain⟨U,s7,e7,r70,r71,p7,f7⟩:=Kb (many:=y6) p6 (!0) (!0) (!0);have W:=(((f4.trans S).trans<|f6.trans f7).old _ (qax d) Q).trans d;obtain⟨ks,r,e8,hks,E,p8,f8⟩:=xB (j:=(1+U).toNat) p7 W Q (!0) A (!0) (!0);have X:=IJ r<|.lst<|ks.map IE;have p9:=p8.gr<|Gr.app r [.lst (ks.map IE)];have f9:=Fr.app n r [.lst (ks.map IE)];have fk:fits (ks.map IE).length=true:=J8 (by rw[Af];omega);have q:=p8.ne;generalize Y:r++[O.lst (ks.map IE)]=Z at X p9 f9;obtain⟨F,u,G,r100,r101,H,I⟩:=Kb (many:=6) p9 (!0) (!1) (!1);have b:=(I.old _ (qax X) q).trans X;have l:Fr n st u:=((f1.trans f2).trans<|f3.trans f4).trans<|((S.trans f6).trans<|f7.trans f8).trans<|f9.trans I;have sm:small (1+U)=true:=OG (!0) (!0);have J:Ju (J3<|mV 1) 1 [0] (Ho 0) Je Qv [some (.ref n),some (.ref lN),some (.int s),none,none] s3=some (.ref s4.length,s5):=by
  have:J3 (mV 1) [some (.ref n),some (.ref lN),some (.int s),none,none] s3=some (⟨ss.map D.str,[(lN,ss.map D.str)]⟩,s3):=by simp[Mu,Ig,d]
  rw[JP,this];simp only[Ae];rw[show Jc [some (.ref n),some (.ref lN),some (.int s),none,none] 1 [0]=[none,some (.ref n)] from rfl,e4];simp only[Ae,fs,if_true,T]
 have K:Ju (IG<|mB Hz (mK<|.int 1)<|Hr Io<|Hf (mV 0)<|Hf (mB Hj (mL<|Hf (mK<|.int 3)<|Hf (mK<|.int 5)<|Hf (mK<|.int 5)<|Hf (mK<|.int 12)<|mZ)<|Hr Io<|Hf (mV 0)<|Hf (mK<|.int 4)<|mZ)<|mZ) 1 [0,1] (Ho 0) Je RH [some (.ref n),some (.ref lN),some (.int s),some (.tup<|stk.map Kd),none] s5=some (.ref r.length,Z):=by
  have e6':Io [.ref n,.int 4] (s5++[.lst [.int 3,.int 5,.int 5,.int 12]])=some (.int r6,s6):=e6;have:IG (mB Hz (mK<|.int 1)<|Hr Io<|Hf (mV 0)<|Hf (mB Hj (mL<|Hf (mK<|.int 3)<|Hf (mK<|.int 5)<|Hf (mK<|.int 5)<|Hf (mK<|.int 12)<|mZ)<|Hr Io<|Hf (mV 0)<|Hf (mK<|.int 4)<|mZ)<|mZ) [some (.ref n),some (.ref lN),some (.int s),some (.tup<|stk.map Kd),none] s5=some (⟨run 0 (1+U).toNat,[]⟩,s7):=by simp[e6',x6,e7,sm]
  rw[JP,this];simp only[Ae];rw[show Jc [some (.ref n),some (.ref lN),some (.int s),some (.tup<|stk.map Kd),none] 1 [0,1]=[none,some (.ref n),some (.ref lN)] from rfl,e8];simp only[Ae,fk,if_true,Y]
 have e3':Io [.ref n,.int 8] (s2++[.lst [.int 1,.int 1,.int 2,.int 2,.int 1,.int 3,.int 4,.int 2]])=some (.int r3,s3):=e3;have pre:∀{R:Option (Fl×Hh)},mS (Jf (mT<|mB La (Hr Io<|Hf (mV 0)<|Hf (mK<|.int 6)<|mZ)<|mK<|.int 0) (Iq<|Kh (mV 4)<|Hf (mB Hj (mV 4)<|Hr Io<|Hf (mV 0)<|Hf (Hr HQ<|Hf (mV 4)<|mZ)<|mZ)<|mZ)<|Jm) (mR<|mU<|Hf (mV 2)<|Hf (mV 3)<|Hf (Hr Mz<|Hf (mV 4)<|mZ)<|mZ)
   [some (.ref n),some (.ref lN),some (.int s),some (.tup<|stk.map Kd),some (.ref r.length)] Z=R->Xu (Lq 5 [.ref n]) st=R:=λhR=>by
  unfold Xu;refine Hy (U1:=[some (.ref n),some (.ref lN),none,none,none]) (s1:=s2) (by simp[e1,e2]) ?_;refine Hy (U1:=[some (.ref n),some (.ref lN),some (.int s),none,none]) (s1:=s3) (by simp[e3',x3]) ?_;refine Hy (U1:=[some (.ref n),some (.ref lN),some (.int s),some (.tup<|stk.map Kd),none]) (s1:=s5) (by simp[J,et]) ?_;exact Hy (U1:=[some (.ref n),some (.ref lN),some (.int s),some (.tup<|stk.map Kd),some (.ref r.length)]) (s1:=Z) (by rw[MB,K];rfl) hR
 have v:∀k∈ks,Mb (stk.map (·.1)) k:=by rw[g];exact E
 by_cases hr:F=0
 ·subst hr;have el:=Z2 b;rw[Af]at el;obtain⟨a,c,e11,L,r111,p11,N⟩:=Kb (many:=(ks.length:Int)) H (!0) (!0) (!0);have w:=(N.old _ (qax b) q).trans b;have P:a.toNat<ks.length:=by omega
  have ex:Hj (.ref r.length) (.int a) c=some (IE ks[a.toNat],c):=Ld w L (by rw[Az,Ah P];rfl);have o:ks[a.toNat]∈ks:=Bj P;generalize ks[a.toNat]=y at ex o;have ea:=append_at (x:=IE y) w (by rw[Af];omega);have a12:(c.set r.length<|.lst<|ks.map IE++[IE y])[r.length]?=some (.lst<|ks.map IE++[IE y]):=by simp[qax w]
  have z:=OH a12;have hlen8:st.length<=r.length:=(((f1.trans f2).trans<|f3.trans f4).trans<|(S.trans f6).trans<|f7.trans f8).len;refine⟨s,stk,ks++[y],c.set r.length<|.lst<|ks.map IE++[IE y],IW<|pre ?_,⟨B,C,by omega,i,by simp,by simp;omega,λk hk=>?_⟩,(p11.set q).up<|by omega,?_⟩
  ·generalize c.set r.length (.lst<|ks.map IE++[IE y])=s12 at *;refine Hy (U1:=[some (.ref n),some (.ref lN),some (.int s),some (.tup<|stk.map Kd),some (.ref r.length)]) (s1:=s12) (by simp[G,eq_int,el,e11,ex,ea,Ig,b]) ?_;simp[z,Nu]
  ·rcases Os.mp hk with hk|hk
   ·exact v k hk
   rw[On.mp hk];exact v y o
  have f:=l.trans N;exact⟨by rw[Bq];exact f.len,λk hk hkn=>by rw[Ak (!0)];exact f.old k hk hkn⟩
 have z:=OH b;refine⟨s,stk,ks,u,IW<|pre ?_,⟨B,C,by omega,i,by omega,by omega,v⟩,H.up<|by omega,l⟩;refine Hy (U1:=[some (.ref n),some (.ref lN),some (.int s),some (.tup<|stk.map Kd),some (.ref r.length)]) (s1:=u) (by simp[G,eq_int,hr]) ?_;simp[z,Nu]
end L2.MP.Hd
namespace L2.MP.Hd
open PySem L2.MP
open L2.MP.Hn (HU Mo HI KZ)
def IQ(w h a:Int)(t:Tl):Prop:=0<=t.1/\t.1<w/\0<=t.2.1/\t.2.1<h/\0<=t.2.2/\t.2.2<a
theorem Tq:∀{l:List Tl}{t:Tl},HC l->t∈l->HN (l.map Hl) (Hl t).1=some (.int t.2.2)
 |[],t,_,h=>by cases h
 |u::l,t,c,h=>by
  have a:(∀b∈l,JB u b=false)/\HC l:=List.pairwise_cons.mp c;unfold HN;rw[Ao,AU,Q7];rcases KM.mp h with rfl|h
  ·have:JB t t=true:=by unfold JB;simp
   rw[this];rfl
  rw[a.1 t h];exact Tq a.2 h
structure PQ(n t m:Nat)(w h kn:Int)(st0:Hh)(l:List Tl)(s:Hh):Prop where
 at_:s[t]?=some (.dt (l.map Hl))
 ok:∀u∈l,IQ w h kn u
 nd:HC l
 pot:HF n m s
 fr:Fr n st0 s
noncomputable abbrev Jb (n:Nat) (hd:D) (w h most:Int) (t:Nat) (v u:Option D):HX:=[some (.ref n),some hd,some (.tup [.int w,.int h]),some (.int most),some (.ref t),v,u]
variable {n t:Nat}{w h most x y k:Int}{s:Hh}{v u:Option D}
def VB{K:Int}{hd KK:D}{s1 s2 s3 s4:Hh}(d:Hj (.tup [.int w,.int h]) (.int 0) s=some (.int w,s))(e:Io [.ref n,.int w] s=some (.int x,s1))(f:Hj (.tup [.int w,.int h]) (.int 1) s1=some (.int h,s1))(g:Io [.ref n,.int h] s1=some (.int y,s2))(a:Hj hd (.int 2) s2=some (KK,s2))(b:HQ [KK] s2=some (.int K,s2))(c:Io [.ref n,.int K] s2=some (.int k,s3))(i:dput s3 t (.tup [.int x,.int y]) (.int k)=some s4):
  RT (Jb n hd w h most t v u) s=some (.nx (Jb n hd w h most t v<|some<|.tup [.int x,.int y]),s4):=by
 unfold RT;refine Hy (U1:=Jb n hd w h most t v (some<|.tup [.int x,.int y])) (s1:=s2) (by simp[Jb,JP,d,e,f,g]) ?_;rw[Qd];have j:Ht (Hr Io<|Hf (mV 0)<|Hf (Hr HQ<|Hf (mB Hj (mV 1)<|mK<|.int 2)<|mZ)<|mZ) (Nj IK (mV 4)<|mV 6) (Jb n hd w h most t v<|some<|.tup [.int x,.int y]) s2=none:=by simp[Jb,JP,a,b,c,IK]
 rw[j,LD];unfold Nm;simp[Jb,JP,a,b,c,i]
variable {m:Nat}{a b:D}{ks:List D}
def zjK{st0:Hh}{l:List Tl}(q:PQ n t m w h ks.length st0 l s)(g:t≠n)(o:st0.length<=t)(hw:0<w)(p:w<=1000)(r:0<h)(z:h<=1000)(hk:0<ks.length)(A:ks.length<100000)(B:l.length<=1000)(hm:m<=900000):
  ∃(i:List Tl) (C:Option D) (s':Hh),Y3 (RT (Jb n (.tup [a,b,.tup ks]) w h most t v u) s=some (.nx (Jb n (.tup [a,b,.tup ks]) w h most t v C),s')) (PQ n t (m+3) w h ks.length st0 i s') (i.length<=l.length+1):=by
 obtain⟨x,s1,E,x0,F,G,f1⟩:=Kb (many:=w) q.pot (!0) hw (!0);obtain⟨y,s2,H,I,J,K,f2⟩:=Kb (many:=h) G (!0) r (!0);obtain⟨k,s3,L,M,N,P,Q⟩:=Kb (many:=ks.length) K (!0) (!0) (!0);have c:=(f1.trans f2).trans Q;have d:=(c.old _ (qax q.at_) g).trans q.at_;have S:=Rm (x:=x) (y:=y) (k:=k) d B;have f:=qax d;have e:=q.fr.trans c;refine⟨IT l (x,y,k),_,s3.set t<|.dt<|(IT l (x,y,k)).map Hl,VB (IA (!1) rfl) E (IA (!1) rfl) H (IA (!1) rfl) Ny L S,⟨by simp[f],wA q.ok ⟨x0,F,I,J,M,N⟩,tV q.nd,P.set g,⟨by have:=e.len;simpa using this,λj T U=>by rw[Ak (!0)];exact e.old j T U⟩⟩,cO _ _⟩
def vW(hk:Np (.ref t) (.tup [.int x,.int y]) s=some (.int k,s)):RS [some (.tup [.int x,.int y]),some (.ref t)] s=some (.tup [.int x,.int y,.int k],s):=by have a:Hz (.tup [.int x,.int y]) (.tup [.int k]) s=some (.tup [.int x,.int y,.int k],s):=VW (!2) (!2);unfold RS;simp[hk,a]
variable {st:Hh}
def zhn(L:HF n m st)(hw:0<w)(z:w<=1000)(T:0<h)(C:h<=1000)(hk:0<ks.length)(E:ks.length<100000)(hm:0<=most)(X:most<60)(Y:m<=800000):
  ∃(ts:List Tl) (c:Hh),Y6 (RL [.ref n,.tup [a,b,.tup ks],.tup [.int w,.int h],.int most] st=some (HU ts,c)) ((∀t∈ts,IQ w h ks.length t)) ((∃l:List Tl,ts=HI l/\HC l)) ((ts.length:Int)<=most) (HF n (m+181) c) (Fr n st c):=by
 have f:st.length≠n:=L.ne;have Z:=L.gr<|Gr.app st [.dt []];obtain⟨r,s1,F,r0,r1,p1,f1⟩:=Kb (many:=most+1) Z (!0) (!0) (!0);have G:s1[st.length]?=some (.dt<|([]:List Tl).map Hl):=(f1.old _ (!2) f).trans<|IJ st _;have key:=Kw (W:=⟨run 0 r.toNat,[]⟩) (g:=Ho 5) (m:=RT) (ds:=run 0 r.toNat) (U:=Jb n (.tup [a,b,.tup ks]) w h most st.length none none) (st:=s1)
  (Inv:=λk U s=>∃(l:List Tl) (v u:Option D),Y3 (U=Jb n (.tup [a,b,.tup ks]) w h most st.length v u) (l.length<=k) (PQ n st.length (m+1+3*k) w h ks.length st l s))
  ⟨[],none,none,rfl,Ag _,⟨G,by simp,CI,p1,(Fr.app _ _ _).trans f1⟩⟩ (λ_ _ _ _ _=>rfl) (λk d U s hd hI=>by obtain⟨l,v,u,rfl,M,q⟩:=hI;have hkl:=(Mx hd).1;obtain⟨l',u',s',e,q',hl'⟩:=zjK (most:=most) (a:=a) (b:=b) (v:=some d) (u:=u) q f (Ag _) hw z T C hk E (!0) (!0);exact⟨_,s,_,s',rfl,e,l',some d,u',rfl,by omega,q'⟩)
 obtain⟨U',s2,e2,l,v,u,rfl,M,q⟩:=key;rw[Kx]at M q;have H:=qax q.at_;have i:P8 (.ref st.length) s2=some (⟨Js<|l.map Hl,[]⟩,s2.set st.length (.ft<|l.map Hl)):=by unfold P8;simp only[q.at_]
 have N:(s2.set st.length<|.ft<|l.map Hl)[st.length]?=some (.ft<|l.map Hl):=by simp[H]
 have o:Fr n st (s2.set st.length<|.ft<|l.map Hl):=⟨by have:=q.fr.len;simpa using this,λj hj nj=>by rw[Ak (!0)];exact q.fr.old j hj nj⟩
 have P:HF n (m+1+3*r.toNat) (s2.set st.length<|.ft<|l.map Hl):=q.pot.set f;generalize hs3:s2.set st.length (.ft<|l.map Hl)=s3 at i N o P;have QG:Js (l.map Hl)=l.map λt=>D.tup [.int t.1,.int t.2.1]:=by unfold Js;rw[AK];rfl
 have I:Jj ⟨Js<|l.map Hl,[]⟩ (Ho 0) Je RS (Js<|l.map Hl) [none,some (.ref st.length)] s3=some (l.map λt=>HJ (Ie t),s3):=by
  rw[QG];refine Qg (R:=λU=>∃x,U=[x,some (.ref st.length)]) ⟨none,rfl⟩ rfl λt f U hU=>?_;obtain⟨x,rfl⟩:=hU;have hv:=Tq q.nd f;have hk:Np (.ref st.length) (.tup [.int t.1,.int t.2.1]) s3=some (.int t.2.2,s3):=by have F:keysOf [.int t.1,.int t.2.1]=some (Hl t).1:=rfl;simp only[Np,Jk,N,F,AS,Ae,hv]
  exact⟨[some (.tup [.int t.1,.int t.2.1]),some (.ref st.length)],rfl,rfl,vW hk,⟨_,rfl⟩⟩
 have fl:fits (l.map λt=>HJ (Ie t)).length=true:=J8 (by rw[Af];omega);have a4:=IJ s3 (.lst<|l.map λt=>HJ (Ie t));have J:=Mo a4 (!0);have Q:=P.gr (Gr.app s3 [.lst (l.map λt=>HJ (Ie t))]);have f4:=Fr.app n s3 [.lst (l.map λt=>HJ (Ie t))];have y:=KZ l;generalize p:s3++[O.lst (l.map λt=>HJ (Ie t))]=s4 at J Q f4;have S:=OH (IJ s4<|.lst<|(HI l).map λt=>HJ (Ie t));refine⟨HI l,s4++[.lst ((HI l).map λt=>HJ (Ie t))],IW ?_,λt f=>q.ok t (y.mem_iff.mp f),⟨l,rfl,q.nd⟩,by rw[y.length_eq];omega,(Q.gr<|Gr.app _ _).up<|by omega,(o.trans f4).trans<|Fr.app _ _ _⟩;have sm:small r=true:=OG r0 (!0);unfold gY HU;generalize ((HI l).map λt=>HJ (Ie t))=B at J S;generalize (l.map λt=>HJ (Ie t))=A at I fl p;generalize Js (l.map Hl)=KD at I i;refine Hy (U1:=Jb n (.tup [a,b,.tup ks]) w h most st.length none none) (s1:=st++[.dt []]) (by simp[Jb,]) ?_;refine Hy (U1:=Jb n (.tup [a,b,.tup ks]) w h most st.length v u) (s1:=s2) (by
  have:IG (Hr Io<|Hf (mV 0)<|Hf (mB Hz (mV 3)<|mK<|.int 1)<|mZ) (Jb n (.tup [a,b,.tup ks]) w h most st.length none none) (st++[.dt []])=some (⟨run 0 r.toNat,[]⟩,s1):=by simp[Jb,F,sm]
  rw[J0,this];exact e2) ?_
 have K:Ju (OQ<|mV 4) 1 [4] (Ho 0) Je RS (Jb n (.tup [a,b,.tup ks]) w h most st.length v u) s2=some (.ref s3.length,s4):=by have:OQ (mV 4) (Jb n (.tup [a,b,.tup ks]) w h most st.length v u) s2=some (⟨KD,[]⟩,s3):=i;rw[JP,this];simp only[Ae];rw[show Jc (Jb n (.tup [a,b,.tup ks]) w h most st.length v u) 1 [4]=[none,some (.ref st.length)] from rfl,I];simp only[Ae,fl,if_true,p]
 simp[K,J,S]
structure Jq(w h:Int):Prop where
 w0:1<=w
 w1:w<=12
 h0:1<=h
 h1:h<=12
 wh:w<=5\/h<=5
def Hu(e:Int)(stk:List (Str×Int))(ks:List (!6))(w h:Int)(c:List Tl):D:=.tup [Nu e stk ks,.tup [.int w,.int h],HU c]
def oU(H:HF n m st)(hm:m<=100000):∃(e:Int) (stk:List (Str×Int)) (ks:List (!6)) (w h:Int) (c:List Tl) (d:Hh),Y8 (Xl [.ref n] st=some (Hu e stk ks w h c,d)) (N5 e stk ks) (Jq w h) ((∀t∈c,IQ w h ks.length t)) ((∃l:List Tl,c=HI l/\HC l)) (c.length<=6) (HF n (m+400) d) (Fr n st d):=by
 obtain⟨e,stk,ks,s1,z,g,I,f1⟩:=uZ H hm;obtain⟨v,s2,A,J,K,L,f2⟩:=Kb (many:=5) I (!0) (!1) (!1);obtain⟨M,N,s3,P,B,Q,S,T,f3⟩:=T1 (xs:=[5,5,5,12]) (lo:=5) (hi:=12) L (!0) (!1) (!1) (!1);obtain⟨x,s4,C,U,W,X,f4⟩:=Kb (many:=N) T (!0) (!0) (!0);obtain⟨Y,s5,E,Z,r51,p5,f5⟩:=Kb (many:=2) X (!0) (!1) (!1);obtain⟨r6,F,i,e6,x6,y60,y61,p6,f6⟩:=T1 (xs:=[1,2,6]) (lo:=1) (hi:=6) p5 (!0) (!1) (!1) (!1);have y:Io [.ref n,.int 4] (s2++[.lst [.int 5,.int 5,.int 5,.int 12]])=some (.int M,s3):=P;have j:Io [.ref n,.int 3] (s5++[.lst [.int 1,.int 2,.int 6]])=some (.int r6,i):=e6;have k1:=g.lo;have k2:=g.hi;have o:Fr n st i:=((f1.trans f2).trans<|f3.trans f4).trans<|f5.trans f6;obtain⟨w,h,hwh,u⟩:∃w h:Int,(∀R:Option (Fl×Hh),mR (mU<|Hf (mV 1)<|Hf (mV 2)<|Hf (Hr RL<|Hf (mV 0)<|Hf (mV 1)<|Hf (mV 2)<|Hf (mB Hj (mL<|Hf (mK<|.int 1)<|Hf (mK<|.int 2)<|Hf (mK<|.int 6)<|mZ)<|Hr Io<|Hf (mV 0)<|Hf (mK<|.int 3)<|mZ)<|mZ)<|mZ) [some (.ref n),some (Nu e stk ks),some (.tup [.int w,.int h])] s5=R->UC (Lq 3 [.ref n]) st=R)/\Jq w h:=by
  generalize Nu e stk ks=hd at *;by_cases hr:Y=0
  ·subst hr;refine⟨1+x,1+v,λR p=>?_,by omega,by omega,by omega,by omega,by omega⟩;unfold UC;refine Hy (U1:=[some (.ref n),some hd,none]) (s1:=s1) (by simp[z]) ?_;refine Hy (U1:=[some (.ref n),some hd,some (.tup [.int (1+v),.int (1+x)])]) (s1:=s4) (by simp[A,y,B,C]) ?_;refine Hy (U1:=[some (.ref n),some hd,some (.tup [.int (1+x),.int (1+v)])]) (s1:=s5) ?_ p;have er:∀s:Hh,Vk (mV 2) (NQ<|mK<|.int 1) [some (.ref n),some hd,some (.tup [.int (1+v),.int (1+x)])] s=some (.tup [.int (1+x),.int (1+v)],s):=λs=>rfl;simp[E,eq_int,er]
  refine⟨1+v,1+x,λR p=>?_,by omega,by omega,by omega,by omega,by omega⟩;unfold UC;refine Hy (U1:=[some (.ref n),some hd,none]) (s1:=s1) (by simp[z]) ?_;refine Hy (U1:=[some (.ref n),some hd,some (.tup [.int (1+v),.int (1+x)])]) (s1:=s4) (by simp[A,y,B,C]) ?_;refine Hy (U1:=[some (.ref n),some hd,some (.tup [.int (1+v),.int (1+x)])]) (s1:=s5) (by simp[E,eq_int,hr]) p
 have:=u.w0;have:=u.w1;have:=u.h0;have:=u.h1;obtain⟨c,G,q,f,r,hsl,p7,f7⟩:=zhn (w:=w) (h:=h) (most:=F) (a:=.int e) (b:=.tup (stk.map Kd)) (ks:=ks.map IE) p6 (!0) (!0) (!0) (!0) (by rw[Af];omega) (by rw[Af];omega) (!0) (!0) (!0);have q:RL [.ref n,Nu e stk ks,.tup [.int w,.int h],.int F] i=some (HU c,G):=q;rw[Af]at f;refine⟨e,stk,ks,w,h,c,G,IW<|hwh _ ?_,g,u,f,r,by omega,p7.up<|by omega,o.trans f7⟩;unfold Hu;generalize Nu e stk ks=hd at *;simp[j,x6,q]
end L2.MP.Hd
namespace L2.MP.Hd
open PySem L2.MP
open L2.MP.Hn (HU)
variable {x y:Int}{d:Nat}{kvs:List (List Key×D)}{st:Hh}
def Vf(h:st[d]?=some (.dt kvs)):Ni (.tup [.int x,.int y]) (.ref d) st=some (.bl (HN kvs [.inl x,.inl y]).isSome,st):=by
 have a:IX 50 st (.ref d)=none:=by rw[IX];simp[Ig,h]
 have b:inD false (.tup [.int x,.int y]) (.ref d) st=none:=by
  unfold inD;rw[a];cases IX 50 st (.tup [.int x,.int y])<;>rfl
 have c:MU (.tup [.int x,.int y]) (.ref d) st=none:=rfl;unfold Ni JL;rw[show LZ (inD false (.tup [.int x,.int y]) (.ref d) st) (MU (.tup [.int x,.int y]) (.ref d) st)=none by rw[b,c];rfl,LD];simp[N1,look,h,keysOf,keyOf]
variable {v:D}
def Vn(h:st[d]?=some (.dt kvs))(a:HN kvs [.inl x,.inl y]=some v):Hj (.ref d) (.tup [.int x,.int y]) st=some (v,st):=by
 have b:Ki (.ref d) (.tup [.int x,.int y]) st=none:=by simp[Ki,Ig,h]
 unfold Hj JL;rw[b,LD];simp[Vb,look,h,keysOf,keyOf,a]
variable {a b:Str}
def eq_str(c:Bp a=true)(e:Bp b=true):La (.str a) (.str b) st=some (.bl (a==b),st):=by unfold La;rw[TZ c,TZ e];simp[BA]
def ne_str(c:Bp a=true)(e:Bp b=true):JT (.str a) (.str b) st=some (.bl (a != b),st):=by unfold JT;rw[TZ c,TZ e];simp[BA,bne]
def Lv(ts:List Tl):List Tl:=ts.foldl IT []
theorem bD:∀(ts acc:List Tl),Ol (acc.map Hl) (ts.map Hl)=(ts.foldl IT acc).map Hl
 |[],acc=>rfl
 |t::ts,acc=>by show Ol (putD (acc.map Hl) (Hl t).1 (Hl t).2) (ts.map Hl)=_;rw[aR];exact bD ts<|IT acc t
theorem bL:∀(ts acc:List Tl),(ts.foldl IT acc).length<=acc.length+ts.length
 |[],acc=>by simp
 |t::ts,acc=>by have c:=bL ts<|IT acc t;have a:=cO acc t;simp only[EF,Aw];omega
def Im(P:List Tl)(x y:Int):Option Int:=(P.find? λt=>decide (t.1=x)&&decide (t.2.1=y)).map λt=>t.2.2
theorem MH(x y:Int):∀P:List Tl,HN (P.map Hl) [.inl x,.inl y]=(Im P x y).map D.int
 |[]=>rfl
 |t::P=>by
  have c:=MH x y P;have hk:decide ((Hl t).1=[Cu x,Cu y])=(decide (t.1=x)&&decide (t.2.1=y)):=Q7 t (x,y,0);unfold HN Im at *;rw[Ao,AU,AU,hk];cases decide (t.1=x)&&decide (t.2.1=y) with
  |true=>rfl
  |false=>exact c
variable {P:List Tl}{k:Int}
def Pe{P:List Tl}(h:Im P x y=some k):∃t∈P,t.2.2=k:=by unfold Im at h;obtain⟨t,e,h⟩:=Ia h;exact⟨t,C2 e,h⟩
variable {t:Tl}{s:Hh}
theorem nL:RI [some (.int t.1),some (.int t.2.1),some (.int t.2.2)] s=some (.tup [.tup [.int t.1,.int t.2.1],.int t.2.2],s):=rfl
theorem ZK:∀ts:List Tl,O8 (ts.map λt=>.tup [.tup [.int t.1,.int t.2.1],.int t.2.2])=some (ts.map Hl)
 |[]=>rfl
 |t::ts=>by have c:=ZK ts;rw[Ao,O8,c];rfl
theorem xO{a b c:Option D}{r:HX}:J5 3 (gC (Ho 0)<|gC (Ho 1)<|gC (Ho 2)<|J6) (HJ<|Ie t) (a::b::c::r) st=some (some (.int t.1)::some (.int t.2.1)::some (.int t.2.2)::r,st):=rfl
variable {ts:List Tl}
def WM(f:ts.length<=1000):∃(l:Nat) (c:Hh),Y4 (Qz [HU ts] st=some (.ref l,c)) (c[l]?=some (.dt<|(Lv ts).map Hl)) (st.length<=l) (Gr st c):=by
 have d:Jj ⟨ts.map λt=>HJ (Ie t),[]⟩ (J5 3<|gC (Ho 0)<|gC (Ho 1)<|gC (Ho 2)<|J6) Je RI (ts.map λt=>HJ (Ie t)) [none,none,none] st=some (ts.map λt=>.tup [.tup [.int t.1,.int t.2.1],.int t.2.2],st):=by
  have:∀W:Wk,walked W st=true->Jj W (J5 3<|gC (Ho 0)<|gC (Ho 1)<|gC (Ho 2)<|J6) Je RI (ts.map λt=>HJ (Ie t)) [none,none,none] st=some (ts.map λt=>.tup [.tup [.int t.1,.int t.2.1],.int t.2.2],st):=by intro W s;refine Qg (R:=λU=>∃x y z,U=[x,y,z]) ⟨none,none,none,rfl⟩ s λt g U v=>?_;obtain⟨x,y,z,rfl⟩:=v;exact⟨_,xO,rfl,nL,_,_,_,rfl⟩
  exact this _ rfl
 have fl:fits (ts.map λt=>D.tup [.tup [.int t.1,.int t.2.1],.int t.2.2]).length=true:=J8 (by rw[Af];omega);have a1:=IJ st<|.lst<|ts.map λt=>.tup [.tup [.int t.1,.int t.2.1],.int t.2.2];have P:fits (ts.map Hl).length=true:=J8 (by rw[Af];omega);have g1:=Gr.app st [.lst (ts.map λt=>.tup [.tup [.int t.1,.int t.2.1],.int t.2.2])];generalize b:st++[O.lst (ts.map λt=>.tup [.tup [.int t.1,.int t.2.1],.int t.2.2])]=s1 at a1 g1;have e:QP [.ref st.length] s1=some (.ref s1.length,s1++[.dt ((Lv ts).map Hl)]):=by unfold QP;have hm:Ol [] (ts.map Hl)=(Lv ts).map Hl:=bD ts [];simp only[Ig,a1,Ae,ZK,P,if_true,hm]
 refine⟨s1.length,s1++[.dt ((Lv ts).map Hl)],IW ?_,IJ _ _,g1.len,g1.trans<|Gr.app _ _⟩;unfold fV HU;generalize (ts.map λt=>HJ (Ie t))=T at *;generalize (ts.map λt=>D.tup [.tup [.int t.1,.int t.2.1],.int t.2.2])=A at *;have a:Ju (J3<|mV 0) 3 [] (J5 3<|gC (Ho 0)<|gC (Ho 1)<|gC (Ho 2)<|J6) Je RI (Lq 1 [.tup T]) st=some (.ref st.length,s1):=by
  have:J3 (mV 0) (Lq 1 [.tup T]) st=some (⟨T,[]⟩,st):=by simp[Mu]
  rw[JP,this];simp only[Ae];rw[show Jc (Lq 1 [.tup T]) 3 []=[none,none,none] from rfl,d];simp only[Ae,fl,if_true,b]
 simp at a ⊢;simp[a,e]
variable {n:Nat}
def nC{T:D}{s':Hh}(c:dput s n (.tup [.int x,.int y]) (.int k)=some s'):UI [some T,some (.ref n),some (.int x),some (.int y),some (.int k)] s=some (.nx [some T,some (.ref n),some (.int x),some (.int y),some (.int k)],s'):=by
 unfold UI;rw[Qd];have a:Ht (mV 4) (Nj IK (mV 1)<|mU<|Hf (mV 2)<|Hf (mV 3)<|mZ) [some T,some (.ref n),some (.int x),some (.int y),some (.int k)] s=none:=by simp[IK]
 rw[a,LD];unfold Nm;simp[c]
def oH(q:ts.length<=500):∃(e:Hh),Y3 (UL [HU ts] st=some (.ref st.length,e)) (e[st.length]?=some (.dt<|(Lv ts).map Hl)) (Gr st e):=by
 have key:=Kw (W:=⟨ts.map λt=>HJ (Ie t),[]⟩) (g:=J5 3 (gC (Ho 2)<|gC (Ho 3)<|gC (Ho 4)<|J6)) (m:=UI) (ds:=ts.map λt=>HJ (Ie t)) (U:=[some (HU ts),some (.ref st.length),none,none,none]) (st:=st++[.dt []])
  (Inv:=λk U s=>Y3 ((∃a b c,U=[some (HU ts),some (.ref st.length),a,b,c])) (s[st.length]?=some (.dt<|((ts.take k).foldl IT []).map Hl)) (Gr st s))
  ⟨⟨_,_,_,rfl⟩,IJ _ _,Gr.app _ _⟩ (λ_ _ _ _ _=>rfl) (λk d U s hd h=>by
   obtain⟨⟨a,b,c,rfl⟩,n,v⟩:=h;rw[Az]at hd;obtain⟨t,i,rfl⟩:=Ia hd;have P:((ts.take k).foldl IT []).length<=1000:=by have:=bL (ts.take k) [];rw[A3,Bg]at this;omega
   have l:=Rm (x:=t.1) (y:=t.2.1) (k:=t.2.2) n P;refine⟨[some (HU ts),some (.ref st.length),some (.int t.1),some (.int t.2.1),some (.int t.2.2)],s,_,_,rfl,nC l,⟨_,_,_,rfl⟩,?_,?_⟩
   ·rw[AC (qax n),Bd,i,F5];rfl
   exact⟨by rw[Bq];exact v.len,λj o=>by rw[Ak (!0)];exact v.old j o⟩)
 obtain⟨r,f,p,⟨a,b,c,rfl⟩,n,v⟩:=key;rw[Af,AR]at n;refine⟨f,IW ?_,n,v⟩;unfold hX;refine Hy (U1:=[some (HU ts),some (.ref st.length),none,none,none]) (s1:=st++[.dt []]) (!2) ?_;refine Hy (U1:=[some (HU ts),some (.ref st.length),a,b,c]) (s1:=f) (by
  have:J3 (mV 0) [some (HU ts),some (.ref st.length),none,none,none] (st++[.dt []])=some (⟨ts.map λt=>HJ (Ie t),[]⟩,st++[.dt []]):=by unfold HU;simp[Mu]
  rw[J0,this];exact p) ?_
 simp
def IC(ks:List (!6))(k:Int):List Str:=(ks.getD k.toNat []).tail
structure KC(bed:D)(stk:List (Str×Int))(ks:List (!6)):Prop where
 h:∃hs:D,(∀s:Hh,Hj bed (.int 0) s=some (hs,s))/\(∀s:Hh,Hj hs (.int 1) s=some (.tup (stk.map Kd),s))/\∀s:Hh,Hj hs (.int 2) s=some (.tup (ks.map IE),s)
structure KQ(ss:List Str)(ks:List (!6)):Prop where
 hi:ks.length<=100
 kd:∀k∈ks,Mb ss k
variable {ss:List Str}{ks:List (!6)}
def MD(h:KQ ss ks)(h0:0<=k)(g:k<(ks.length:Int)):∃f a b c d:Str,Y3 (ks[k.toNat]?=some [f,a,b,c,d]) (IC ks k=[a,b,c,d]) (∀x∈[a,b,c,d],Iz x/\(x=""\/x∈ss)):=by
 have hk:k.toNat<ks.length:=by omega
 obtain⟨f,ds,e,hf,y,n⟩:=(h.kd _<|Bj hk).ex;have s:ks[k.toNat]?=some (f::ds):=by rw[Ah hk,e]
 have v:IC ks k=ds:=by unfold IC;rw[Ax,s];rfl
 match ds,y,n,s,v with
 |[a,b,c,d],_,n,s,v=>exact⟨f,a,b,c,d,s,v,n⟩
variable {bed hs KK kd sl:D}
def xY{K:Int}(c:Hj bed (.int 0) st=some (hs,st))(e:Hj hs (.int 2) st=some (KK,st))(f:HQ [KK] st=some (.int K,st))(h0:0<=k)(g:k<K)(h:Hj KK (.int k) st=some (kd,st))(es:ML kd (some 1) none st=some (sl,st)):W5 [some bed,some (.int k),none] st=some (.rt sl,st):=by
 unfold W5;refine Hy (U1:=[some bed,some (.int k),some KK]) (s1:=st) (by simp[c,e])<|O9 ?_;have a:mT (Mg PJ OS (mK<|.int 0) (mV 1)<|Hr HQ<|Hf (mV 2)<|mZ) [some bed,some (.int k),some KK] st=some (true,st):=by rw[Vy];unfold Mg;simp[f,h0,g]
 rw[Md,a];simp[h,es]
variable {stk:List (Str×Int)}
def ziZ(i:KC bed stk ks)(h:KQ ss ks)(h0:0<=k)(g:k<(ks.length:Int)):Ur [bed,.int k] st=some (.tup ((IC ks k).map D.str),st):=by obtain⟨hs,n,_,s⟩:=i.h;obtain⟨f,a,b,c,d,e,v,_⟩:=MD h h0 g;rw[v];refine IW<|xY (n st) (s st) Ny h0 (by rw[Af];exact g) (IA h0 (by rw[Az,e];rfl)) ?_;rfl
def dF:Po [.tup [.int x,.int y]] st=some (.tup [.tup [.int x,.int (y+1)],.tup [.int (x+1),.int y],.tup [.int x,.int (y-1)],.tup [.int (x-1),.int y]],st):=by have a:Hj (.tup [.int x,.int y]) (.int 0) st=some (.int x,st):=IA (!1) rfl;have b:Hj (.tup [.int x,.int y]) (.int 1) st=some (.int y,st):=IA (!1) rfl;refine IW ?_;unfold gO;refine Hy (U1:=[some (.tup [.int x,.int y]),some (.int x),none]) (s1:=st) (by simp[a]) ?_;refine Hy (U1:=[some (.tup [.int x,.int y]),some (.int x),some (.int y)]) (s1:=st) (by simp[b]) ?_;simp
def Kf(ks:List (!6))(P:List Tl)(p:Int×Int)(j:Nat):Str:=match Im P p.1 p.2 with
 |some k=>(IC ks k).getD j ""
 |none=>""
variable {pl nr:D}{l:Nat}{J I:Int}{L:List D}
def kE{L0:D}{y:D}(c:Ni nr (.ref d) s=some (.bl true,s))(e:s[l]?=some (.lst L))(f:Hj (.ref d) nr s=some (.int k,s))(hs:Ur [bed,.int k] s=some (sl,s))(hm:Ih (.int<|J+2) (.int 4) s=some (.int I,s))(g:Hj sl (.int I) s=some (y,s))(h:LI (.ref l) [y] s=some (.non,s.set l (.lst<|L++[y]))):
  Pr [some bed,some (.ref d),some pl,some (.ref l),some (.int J),some nr] s=some (.nx [some bed,some (.ref d),some pl,some (.ref l),some (.int J),some nr],s.set l (.lst<|L++[y])):=by
 unfold Pr;simp[c,Ig,e,f,hs,hm,g,h]
def oA(c:Ni nr (.ref d) s=some (.bl false,s))(e:s[l]?=some (.lst L))(f:LI (.ref l) [.str ""] s=some (.non,s.set l (.lst<|L++[.str ""]))):
  Pr [some bed,some (.ref d),some pl,some (.ref l),some (.int J),some nr] s=some (.nx [some bed,some (.ref d),some pl,some (.ref l),some (.int J),some nr],s.set l (.lst<|L++[.str ""])):=by
 unfold Pr;simp[c,Ig,e,f]
variable {j:Nat}
def TJ{P:List Tl}{a b:Int}(o:KC bed stk ks)(h:KQ ss ks)(p:∀t∈P,0<=t.2.2/\t.2.2<(ks.length:Int))(hd:s[d]?=some (.dt<|P.map Hl))(c:s[l]?=some (.lst L))(z:L.length<=10)(q:(J+2) % 4=I)(r:I=(j:Int))(g:j<4):
  Pr [some bed,some (.ref d),some pl,some (.ref l),some (.int J),some (.tup [.int a,.int b])] s=some (.nx [some bed,some (.ref d),some pl,some (.ref l),some (.int J),some (.tup [.int a,.int b])],s.set l (.lst<|L++[.str (Kf ks P (a,b) j)])):=by
 have n:=Vf (x:=a) (y:=b) hd;have v:=MH a b P;unfold Kf;cases hf:Im P a b with
 |none=>
  rw[hf]at v;rw[v]at n;exact oA n c<|append_at c<|by omega
 |some k=>
  rw[hf]at v;have v:HN (P.map Hl) [.inl a,.inl b]=some (.int k):=v;rw[v]at n;obtain⟨t,u,rfl⟩:=Pe hf;obtain⟨i,m⟩:=p t u;obtain⟨f,x0,A,B,C,e,w,_⟩:=MD h i m;refine kE (L0:=.non) n c (Vn hd v) (ziZ o h i m) (by rw[Mf (!1),q]) (IA (!0) ?_) (append_at c<|by omega);show((IC ks t.2.2).map D.str)[I.toNat]?=some (D.str<|(IC ks t.2.2).getD j "");rw[w,r,Bz]
  match j,g with
  |0,_=>rfl
  |1,_=>rfl
  |2,_=>rfl
  |3,_=>rfl
def names4(ks:List (!6))(P:List Tl)(x y:Int):List Str:=[Kf ks P (x,y+1) 2,Kf ks P (x+1,y) 3,Kf ks P (x,y-1) 0,Kf ks P (x-1,y) 1]
variable {U:HX}
def bU{e:ME}{ds:List D}(h:e U st=some (.tup ds,s)):P4 e U st=some (⟨pairs ds,[]⟩,s):=by unfold P4;rw[h];rfl
def zQ{P:List Tl}(e:KC bed stk ks)(h:KQ ss ks)(f:∀t∈P,0<=t.2.2/\t.2.2<(ks.length:Int))(hd:st[d]?=some (.dt<|P.map Hl)):
  ∃c,Y3 (UR [bed,.ref d,.tup [.int x,.int y]] st=some (.ref st.length,c)) (c[st.length]?=some (.lst<|(!8).map D.str)) (Gr st c):=by
 have p:=qax hd;have key:=Kw (W:=⟨pairs [.tup [.int x,.int (y+1)],.tup [.int (x+1),.int y],.tup [.int x,.int (y-1)],.tup [.int (x-1),.int y]],[]⟩) (g:=J5 2 (gC (Ho 4)<|gC (Ho 5)<|J6)) (m:=Pr) (ds:=[D.tup [.int 0,.tup [.int x,.int (y+1)]],.tup [.int 1,.tup [.int (x+1),.int y]],.tup [.int 2,.tup [.int x,.int (y-1)]],.tup [.int 3,.tup [.int (x-1),.int y]]]) (U:=[some bed,some (.ref d),some (.tup [.int x,.int y]),some (.ref st.length),none,none]) (st:=st++[.lst []])
  (Inv:=λk U s=>Y3 ((∃a b,U=[some bed,some (.ref d),some (.tup [.int x,.int y]),some (.ref st.length),a,b])) (s[st.length]?=some (.lst<|((!8).take k).map D.str)) (Gr st s))
  ⟨⟨_,_,rfl⟩,IJ _ _,Gr.app _ _⟩ (λ_ _ _ _ _=>rfl) (λk B U s l r=>by
   obtain⟨⟨u,v,rfl⟩,n,L⟩:=r;have J:=(L.old _ p).trans hd;have i:(((!8).take k).map D.str).length<=10:=by rw[Af,A3];simp[names4];omega
   have gr:∀o:O,Gr st (s.set st.length o):=λo=>⟨by rw[Bq];exact L.len,λj w=>by rw[Ak (!0)];exact L.old j w⟩
   have at':∀o:O,(s.set st.length o)[st.length]?=some o:=λo=>AC<|qax n
   match k,l with
   |0,l=>
    cases l;exact⟨_,s,_,_,rfl,TJ (pl:=.tup [.int x,.int y]) (I:=2) (j:=2) e h f J n i (!1) rfl<|by decide,⟨_,_,rfl⟩,at' _,gr _⟩
   |1,l=>
    cases l;exact⟨_,s,_,_,rfl,TJ (pl:=.tup [.int x,.int y]) (I:=3) (j:=3) e h f J n i (!1) rfl<|by decide,⟨_,_,rfl⟩,at' _,gr _⟩
   |2,l=>
    cases l;exact⟨_,s,_,_,rfl,TJ (pl:=.tup [.int x,.int y]) (I:=0) (j:=0) e h f J n i (!1) rfl<|by decide,⟨_,_,rfl⟩,at' _,gr _⟩
   |3,l=>
    cases l;exact⟨_,s,_,_,rfl,TJ (pl:=.tup [.int x,.int y]) (I:=1) (j:=1) e h f J n i (!1) rfl<|by decide,⟨_,_,rfl⟩,at' _,gr _⟩
   |k+4,l=>exact absurd l (!2))
 obtain⟨C,q,z,⟨u,v,rfl⟩,n,L⟩:=key;refine⟨q,IW ?_,n,L⟩;unfold gQ;refine Hy (U1:=[some bed,some (.ref d),some (.tup [.int x,.int y]),some (.ref st.length),none,none]) (s1:=st++[.lst []]) (!2) ?_;refine Hy (U1:=[some bed,some (.ref d),some (.tup [.int x,.int y]),some (.ref st.length),u,v]) (s1:=q) (by
  have A:Hr Po (Hf (mV 2)<|mZ) [some bed,some (.ref d),some (.tup [.int x,.int y]),some (.ref st.length),none,none] (st++[.lst []])=some (.tup [.tup [.int x,.int (y+1)],.tup [.int (x+1),.int y],.tup [.int x,.int (y-1)],.tup [.int (x-1),.int y]],st++[.lst []]):=by have:=dF (x:=x) (y:=y) (st:=st++[.lst []]);simp[this]
  rw[J0,bU A];exact z) ?_
 simp
def LM(S N:List Str)(j:Nat):Bool:=S.getD j "" != ""&&S.getD j ""==N.getD j ""
def alike(S N:List Str):List Nat:=(As 4).filter<|LM S N
def T6:Bp ("":Str)=true:=by decide +kernel
def Ys{P:List Tl}(h:KQ ss ks)(g:∀t∈P,0<=t.2.2/\t.2.2<(ks.length:Int))(p:Int×Int)(j:Nat):Iz (Kf ks P p j):=by
 unfold Kf;split
 ·rename_i k hf;obtain⟨t,n,rfl⟩:=Pe hf;obtain⟨s,v⟩:=g t n;obtain⟨f,a,b,c,d,e,y,l⟩:=MD h s v;rw[y,Ax]
  cases I:[a,b,c,d][j]? with
  |none=>exact Qq
  |some x=>exact(l x<|AF I).1
 exact Qq
def Sm(p:Str×Int):Key×D:=(.inr p.1,.int p.2)
def KI(stk:List (Str×Int)):List (Key×D):=Oj []<|stk.map Sm
def vI{κ:Type}[DecidableEq κ]:∀(kvs:List (κ×D)) (k q:κ) (d:D),HN (putD kvs k d) q=if q=k then some d else HN kvs q:=by
 intro kvs k q d;unfold putD;by_cases h:(kvs.any λb=>decide (b.1=k))=true
 ·rw[if_pos h]
  induction kvs with
  |nil=>simp at h
  |cons p r l=>
   unfold HN at *;rw[Ao,AU,AU];by_cases hp:p.1=k
   ·simp only[hp,if_true]
    by_cases hq:q=k
    ·simp[hq]
    ·have:¬k=q:=λe=>hq e.symm;simp only[this,decide_false,hq,if_false];clear h l
     induction r with
     |nil=>rfl
     |cons u r a=>
      rw[Ao,AU,AU];by_cases hu:u.1=k
      ·simp only[hu,if_true,this,decide_false];exact a
      ·simp only[hu,if_false]
       by_cases huq:u.1=q
       ·simp[huq]
       simp only[huq,decide_false];exact a
   ·simp only[hp,if_false]
    by_cases hpq:p.1=q
    ·have:¬q=k:=λe=>hp<|hpq.trans e;simp[hpq,this]
    simp only[hpq,decide_false];refine l ?_;rw[B1]at h;simpa[hp]using h
 ·rw[if_neg h];unfold HN;rw[F6]
  by_cases hq:q=k
  ·subst hq;have:kvs.find? (λb=>decide (b.1=q))=none:=by
    rw[FN];intro x n j;exact h<|List.any_eq_true.mpr ⟨x,n,j⟩
   simp[this]
  have:¬k=q:=λe=>hq e.symm;simp[hq,this]
def Yp(d:Option D):Prop:=∃v:Int,d=some (.int v)/\1<=v/\v<=4
theorem cZ{q:Str}:∀{more:List (Str×Int)} {acc:List (Key×D)},(∀p∈more,1<=p.2/\p.2<=4)->(Yp (HN acc<|.inr q)\/q∈more.map (·.1))->Yp (HN (Oj acc<|more.map Sm)<|.inr q)
 |[],acc,_,h=>by
  rcases h with h|h
  ·exact h
  ·cases h
 |p::r,acc,c,h=>by
  show Yp (HN (Oj (putD acc (.inr p.1)<|.int p.2)<|r.map Sm)<|.inr q);refine cZ (λu f=>c u (Ai _ f)) ?_;rw[vI]
  by_cases e:q=p.1
  ·subst e;rw[if_pos rfl];have:=c p Al;exact .inl ⟨p.2,rfl,this.1,this.2⟩
  ·have a:¬(DI q:Key)=.inr p.1:=λz=>e (by injection z);rw[if_neg a]
   rcases h with h|h
   ·exact .inl h
   ·exists 9
    ·exact absurd h e
    exact .inr h
def sv(stk:List (Str×Int))(a:Str):Int:=match HN (KI stk) (.inr a) with|some (.int v)=>v|_=>0
def QW{stk:List (Str×Int)}(h:∀p∈stk,1<=p.2/\p.2<=4)(c:a∈stk.map (·.1)):HN (KI stk) (.inr a)=some (.int<|sv stk a)/\1<=sv stk a/\sv stk a<=4:=by
 obtain⟨v,e,b,d⟩:=cZ (acc:=[]) h<|.inr c;have e:HN (KI stk) (.inr a)=some (.int v):=e;have:sv stk a=v:=by unfold sv;rw[e]
 rw[this];exact⟨e,b,d⟩
theorem aC:∀stk:List (Str×Int),P6 (stk.map Kd)=some (stk.map Sm)
 |[]=>rfl
 |p::r=>by have c:=aC r;rw[Ao,P6,c];rfl
def aK(c:stk.length<=1000):PY [.tup (stk.map Kd)] st=some (.ref st.length,st++[.dk (KI stk)]):=by have a:fits (stk.map Sm).length=true:=J8 (by rw[Af];omega);have b:SQ [.tup (stk.map Kd)] st=none:=rfl;unfold PY LL;rw[b,LD];unfold SU;simp only[aC,Ae,a,if_true];rfl
def Zb{kvs:List (Key×D)}(h:st[d]?=some (.dk kvs))(c:HN kvs (.inr a)=some v):Hj (.ref d) (.str a) st=some (v,st):=by
 have b:Ki (.ref d) (.str a) st=none:=by simp[Ki,Ig,h]
 unfold Hj JL;rw[b,LD];simp[Vb,look,h,keyOf,c]
theorem ZV:∀ns:List Int,QS (!7)=some ns
 |[]=>rfl
 |n::r=>by have c:=ZV r;rw[Ao,QS,c];rfl
def ZS{ns:List Int}(c:st[l]?=some (.lst<|ns.map D.int))(h:∀n∈ns,0<=n/\n<=100)(hn:ns.length<=100):LY [.ref l] st=some (.int ns.sum,st):=by
 have a:(ns.all Ot&&decide (ns.length<=100000))=true:=by rw[Aq];refine⟨List.all_eq_true.mpr λn hn=>?_,decide_eq_true<|by omega⟩;have:=h n hn;unfold Ot;simp;omega
 unfold LY;simp only[Ig,c,Ae,ZV,a,if_true]
def pU{K:Option D}(c:Bp a=true)(e:Bp b=true):RQ [some (.str a),some (.str b),K] s=some (a==b&&a != "",s):=by
 have d:=eq_str (st:=s) c e;have j:=ne_str (st:=s) c T6;unfold RQ;cases h:a==b with
 |true=>simp[d,j,h]
 |false=>simp[d,j,h]
def pL(h:Hj (.ref d) (.str a) s=some (v,s)):RP [some (.str a),some (.str b),some (.ref d)] s=some (v,s):=by unfold RP;simp[h]
def Jv(S N:List Str):List (Str×Str):=(S.zip N).filter λp=>p.1==p.2&&p.1 != ""
variable {S N:List Str}
def ziT{stk:List (Str×Int)}{S N:List Str}(c:∀p∈stk,1<=p.2/\p.2<=4)(E:S.length<=4)(f:∀x∈S,Iz x/\(x=""\/x∈stk.map (·.1)))(oN:∀x∈N,Bp x=true)(hd:st[d]?=some (.dk<|KI stk))(o:st[l]?=some (.lst<|N.map D.str)):
  ∃e,RO [.ref d,.tup (S.map D.str),.ref l] st=some (.int ((Jv S N).map λp=>sv stk p.1).sum,e)/\Gr st e:=by
 have u:pairD (S.map D.str) (N.map D.str)=(S.zip N).map λp=>D.tup [.str p.1,.str p.2]:=by unfold pairD;rw[List.zip_map,AK];rfl
 have j:∀p∈S.zip N,p.1∈S/\p.2∈N:=λp I=>by obtain⟨a,b⟩:=p;exact CW I
 have hw:walked ⟨(S.zip N).map λp=>D.tup [.str p.1,.str p.2],[(l,N.map D.str)]⟩ st=true:=OL o;have g:Jj ⟨(S.zip N).map λp=>D.tup [.str p.1,.str p.2],[(l,N.map D.str)]⟩ (J5 2<|gC (Ho 0)<|gC (Ho 1)<|J6) RQ RP ((S.zip N).map λp=>D.tup [.str p.1,.str p.2]) [none,none,some (.ref d)] st=some ((Jv S N).map λp=>D.int (sv stk p.1),st):=by
  refine dO (R:=λU=>∃x y,U=[x,y,some (.ref d)]) ⟨none,none,rfl⟩ hw λp I U w=>?_;obtain⟨x,y,rfl⟩:=w;obtain⟨P,q⟩:=j p I;refine⟨[some (.str p.1),some (.str p.2),some (.ref d)],rfl,pU (Ti (f _ P).1.ab)<|oN _ q,λJ=>?_,_,_,rfl⟩;have s:p.1≠"":=by rw[Aq]at J;simpa using J.2
  have v:p.1∈stk.map (·.1):=by
   rcases(f _ P).2 with h|h
   ·exact absurd h s
   exact h
  exact pL<|Zb hd (QW c v).1
 have hm:((Jv S N).map λp=>D.int (sv stk p.1))=((Jv S N).map λp=>sv stk p.1).map D.int:=by rw[AK];rfl
 rw[hm]at g;have hlen:(Jv S N).length<=4:=by refine AA (A2 _ _) ?_;rw[GA];omega
 have L:∀n∈(Jv S N).map (λp=>sv stk p.1),0<=n/\n<=100:=λn z=>by
  obtain⟨p,I,rfl⟩:=P3.mp z;obtain⟨i,J⟩:=List.mem_filter.mp I;obtain⟨P,q⟩:=j p i;have s:p.1≠"":=by rw[Aq]at J;simpa using J.2
  have v:p.1∈stk.map (·.1):=by
   rcases(f _ P).2 with h|h
   ·exact absurd h s
   exact h
  have:=QW c v;omega
 have B:=ZS (IJ st<|.lst<|((Jv S N).map λp=>sv stk p.1).map D.int) L (by rw[Af];omega);have fl:fits (((Jv S N).map λp=>sv stk p.1).map D.int).length=true:=J8 (by rw[Af,Af];omega);generalize ((Jv S N).map λp=>sv stk p.1).sum=R at *;generalize ((Jv S N).map λp=>sv stk p.1).map D.int=A at *;refine⟨st++[.lst A],IW ?_,Gr.app _ _⟩;rw[<-u]at g;generalize S.map D.str=SS at *;generalize C:N.map D.str=r at *;unfold gV;have m:Ju (MQ (mV 1)<|mV 2) 2 [0] (J5 2<|gC (Ho 0)<|gC (Ho 1)<|J6) RQ RP [some (.ref d),some (.tup SS),some (.ref l)] st=some (.ref st.length,st++[.lst A]):=by
  have:MQ (mV 1) (mV 2) [some (.ref d),some (.tup SS),some (.ref l)] st=some (⟨pairD SS r,[(l,r)]⟩,st):=by rw[kM];simp[QX,O7,MN,Ig,o]
  rw[JP,this];simp only[Ae];rw[show Jc [some (.ref d),some (.tup SS),some (.ref l)] 2 [0]=[none,none,some (.ref d)] from rfl,g];simp only[Ae,fl,if_true]
 simp[m,B]
def aX{a b:Int}(h0:0<=J)(h:[D.tup [.int x,.int (y+1)],.tup [.int (x+1),.int y],.tup [.int x,.int (y-1)],.tup [.int (x-1),.int y]][J.toNat]?=some (.tup [.int a,.int b])):∃s',NI [.tup [.int x,.int y],.int J] s=some (.tup [.int a,.int b],s')/\Gr s s':=by have ex:=Ld (IJ s<|.lst [.tup [.int x,.int (y+1)],.tup [.int (x+1),.int y],.tup [.int x,.int (y-1)],.tup [.int (x-1),.int y]]) h0 h;refine⟨s++[.lst [.tup [.int x,.int (y+1)],.tup [.int (x+1),.int y],.tup [.int x,.int (y-1)],.tup [.int (x-1),.int y]]],IW ?_,Gr.app _ _⟩;unfold gJ;refine Hy (U1:=[some (.tup [.int x,.int y]),some (.int J),some (.int x),some (.int y)]) (s1:=s) (!2) ?_;simp[ex]
variable {s1:Hh}
def kY{a b:Int}{mk:ME}{md:ME}(hm:md U s=some (.ref d,s))(h:s[d]?=some (.dt kvs))(hk:mk U s=some (.tup [.int a,.int b],s1))(c:s1[d]?=some (.dt kvs)):O1 md mk U s=some ((HN kvs [.inl a,.inl b]).getD .non,s1):=by
 have j:LA s d=true:=by unfold LA;rw[h]
 have l:O5 s1 d (.tup [.int a,.int b])=some (HN kvs [.inl a,.inl b]):=by
  unfold O5;have:look s1 d (.tup [.int a,.int b])=some (HN kvs [.inl a,.inl b]):=by unfold look;simp only[c];rfl
  rw[this,Kv]
 unfold O1;rw[hm];simp only[Ae,j,if_true];rw[hk];simp only[Ae,l,AS]
variable {a7 a8:Option D}{mine:Str}
section
variable {mineD:D}
def qW(c:O1 (mV 1) (Hr NI<|Hf (mV 2)<|Hf (mV 6)<|mZ) [some bed,some (.ref d),some pl,some (.int k),some KK,some (.ref l),some (.int J),a7,a8] s=some (.non,s1))(hk:Hj KK (.int k) s1=some (kd,s1)) (hm:Hj kd (.int<|J+1) s1=some (.str mine,s1)):
  Pp [some bed,some (.ref d),some pl,some (.int k),some KK,some (.ref l),some (.int J),a7,a8] s=some (.nx [some bed,some (.ref d),some pl,some (.int k),some KK,some (.ref l),some (.int J),some .non,some (.str mine)],s1):=by
 unfold Pp;refine Hy (U1:=[some bed,some (.ref d),some pl,some (.int k),some KK,some (.ref l),some (.int J),some .non,a8]) (s1:=s1) (by rw[MB,c];rfl) ?_;refine Hy (U1:=[some bed,some (.ref d),some pl,some (.int k),some KK,some (.ref l),some (.int J),some .non,some (.str mine)]) (s1:=s1) (by simp[hk,hm]) ?_;simp[O4,P1]
def sP{o:Int}{e:D}{os:Str}(m:O1 (mV 1) (Hr NI<|Hf (mV 2)<|Hf (mV 6)<|mZ) [some bed,some (.ref d),some pl,some (.int k),some KK,some (.ref l),some (.int J),a7,a8] s=some (.int o,s1))(hk:Hj KK (.int k) s1=some (kd,s1)) (hm:Hj kd (.int<|J+1) s1=some (.str mine,s1)) (f:Bp mine=true) (p:Bp os=true) (g:Ih (.int<|J+2) (.int 4) s1=some (.int I,s1)) (h:Hj KK (.int o) s1=some (e,s1)) (c:Hj e (.int<|I+1) s1=some (.str os,s1)) (i:s1[l]?=some (.lst L)) (q:L.length<=10):
  Pp [some bed,some (.ref d),some pl,some (.int k),some KK,some (.ref l),some (.int J),a7,a8] s=some (.nx [some bed,some (.ref d),some pl,some (.int k),some KK,some (.ref l),some (.int J),some (.int o),some (.str mine)],if(mine != ""&&os==mine)=true then s1.set l (.lst<|L++[.int J])else s1):=by
 have a:=ne_str (st:=s1) f T6;have j:=eq_str (st:=s1) p f;have v:=append_at (x:=.int J) i (!0);unfold Pp;refine Hy (U1:=[some bed,some (.ref d),some pl,some (.int k),some KK,some (.ref l),some (.int J),some (.int o),a8]) (s1:=s1) (by rw[MB,m];rfl) ?_;refine Hy (U1:=[some bed,some (.ref d),some pl,some (.int k),some KK,some (.ref l),some (.int J),some (.int o),some (.str mine)]) (s1:=s1) (by simp[hk,hm]) ?_
 cases b:mine != "" with
 |false=>simp[O4,P1,a,b]
 |true=>
  cases n:os==mine with
  |false=>simp[O4,P1,a,b,g,h,c,j,n]
  |true=>simp[O4,P1,a,b,g,h,c,j,n,Ig,i,v]
end
def T9{P:List Tl}{a b:Int}{i:Nat}(h:KQ ss ks)(hP:∀t∈P,0<=t.2.2/\t.2.2<(ks.length:Int))(M:0<=k)(k1:k<(ks.length:Int))(hd:s[d]?=some (.dt<|P.map Hl))(Q:s[l]?=some (.lst L))(hL:L.length<=10)(hJ:J=(i:Int)) (hi:i<4) (hI:(J+2) % 4=I) (hj:I=(j:Int)) (p:j<4) (hp:[D.tup [.int x,.int (y+1)],.tup [.int (x+1),.int y],.tup [.int x,.int (y-1)],.tup [.int (x-1),.int y]][J.toNat]?=some (.tup [.int a,.int b])):
  ∃(b7 b8:Option D) (s':Hh),Y3 (Pp [some bed,some (.ref d),some (.tup [.int x,.int y]),some (.int k),some (.tup<|ks.map IE),some (.ref l),some (.int J),a7,a8] s=some (.nx [some bed,some (.ref d),some (.tup [.int x,.int y]),some (.int k),some (.tup<|ks.map IE),some (.ref l),some (.int J),b7,b8],s')) (s'[l]?=some (.lst<|if((IC ks k).getD i "" != ""&&(IC ks k).getD i ""==Kf ks P (a,b) j)=true then L++[.int J]else L)) (Fr l s s'):=by
 obtain⟨s1,e1,g1⟩:=aX (x:=x) (y:=y) (s:=s) (!0) hp;have q:=(g1.old _<|qax hd).trans hd;have n:=(g1.old _<|qax Q).trans Q;have v:=kY (a:=a) (b:=b) (s1:=s1) (md:=mV 1) (mk:=Hr NI (Hf (mV 2)<|Hf (mV 6)<|mZ)) (U:=[some bed,some (.ref d),some (.tup [.int x,.int y]),some (.int k),some (.tup<|ks.map IE),some (.ref l),some (.int J),a7,a8]) rfl hd (by simp[e1]) q;have m:=MH a b P;obtain⟨f,x0,r,w,A,e,T,B⟩:=MD h M k1;have W:Hj (.tup<|ks.map IE) (.int k) s1=some (IE [f,x0,r,w,A],s1):=IA M (by rw[Az,e];rfl);have em:Hj (IE [f,x0,r,w,A]) (.int<|J+1) s1=some (.str ((IC ks k).getD i ""),s1):=by
  refine IA (!0) ?_;rw[T];have:(J+1).toNat=i+1:=by omega
  rw[this]
  match i,hi with
  |0,_=>rfl
  |1,_=>rfl
  |2,_=>rfl
  |3,_=>rfl
 have X:Iz ((IC ks k).getD i ""):=by
  rw[T,Ax];cases C:[x0,r,w,A][i]? with
  |none=>exact Qq
  |some u=>exact(B u<|AF C).1
 generalize (IC ks k).getD i ""=mine at em X ⊢;cases hf:Im P a b with
 |none=>
  have E:Kf ks P (a,b) j="":=by unfold Kf;rw[hf]
  rw[hf]at m;rw[m]at v;refine⟨_,_,s1,qW v W em,?_,g1.fr l⟩;rw[E];have:(mine != ""&&mine=="")=false:=by cases h:mine=="" <;> simp[bne,h]
  rw[this];exact n
 |some o=>
  have E:Kf ks P (a,b) j=(IC ks o).getD j "":=by unfold Kf;rw[hf]
  rw[hf]at m;rw[m]at v;obtain⟨t,ht,rfl⟩:=Pe hf;obtain⟨o0,o1⟩:=hP t ht;obtain⟨Y,F,G,H,K,e',N,S⟩:=MD h o0 o1;have eo:Hj (.tup<|ks.map IE) (.int t.2.2) s1=some (IE [Y,F,G,H,K],s1):=IA o0 (by rw[Az,e'];rfl);have c:Hj (IE [Y,F,G,H,K]) (.int<|I+1) s1=some (.str ((IC ks t.2.2).getD j ""),s1):=by
   refine IA (!0) ?_;rw[N];have:(I+1).toNat=j+1:=by omega
   rw[this]
   match j,p with
   |0,_=>rfl
   |1,_=>rfl
   |2,_=>rfl
   |3,_=>rfl
  have Z:Iz ((IC ks t.2.2).getD j ""):=by
   rw[N,Ax];cases C:[F,G,H,K][j]? with
   |none=>exact Qq
   |some u=>exact(S u<|AF C).1
  rw[E];generalize (IC ks t.2.2).getD j ""=os at c Z ⊢;have v:O1 (mV 1) (Hr NI<|Hf (mV 2)<|Hf (mV 6)<|mZ) [some bed,some (.ref d),some (.tup [.int x,.int y]),some (.int k),some (.tup<|ks.map IE),some (.ref l),some (.int J),a7,a8] s=some (.int t.2.2,s1):=v;have rd:=sP v W em (Ti X.ab) (Ti Z.ab) (by rw[Mf (!1),hI]) eo c n hL;have g:(mine != ""&&os==mine)=(mine != ""&&mine==os):=by
   have:(os==mine)=(mine==os):=by
    by_cases hq:os=mine
    ·subst hq;rfl
    rw[beq_false_of_ne hq,beq_false_of_ne λz=>hq z.symm]
   rw[this]
  rw[g]at rd;refine⟨_,_,_,rd,?_,?_⟩
  ·by_cases hc:(mine != ""&&mine==os)=true
   ·rw[if_pos hc,if_pos hc,AC (qax n)]
   rw[if_neg hc,if_neg hc];exact n
  ·by_cases hc:(mine != ""&&mine==os)=true
   ·rw[if_pos hc];exact(g1.fr l).trans<|GB _ _ _
   rw[if_neg hc];exact g1.fr l
def fl(p:Nat->Bool)(k:Nat):List D:=((As k).filter p).map λ(i:Nat)=>D.int (i:Int)
def Qo(p:Nat->Bool)(k:Nat):fl p (k+1)=if p k=true then fl p k++[.int (k:Int)]else fl p k:=by
 unfold fl;rw[Cy,DS,AX];by_cases h:p k=true
 ·rw[if_pos h];simp[h]
 rw[if_neg h];simp[h]
def zhJ{P:List Tl}(H:KC bed stk ks)(h:KQ ss ks)(p:∀t∈P,0<=t.2.2/\t.2.2<(ks.length:Int))(q:0<=k)(r:k<(ks.length:Int))(hd:st[d]?=some (.dt<|P.map Hl)):
  ∃o,Y3 (XA [bed,.ref d,.tup [.int x,.int y],.int k] st=some (.ref st.length,o)) (o[st.length]?=some (.lst<|(alike (IC ks k)<|names4 ks P x y).map λ(i:Nat)=>D.int (i:Int))) (Gr st o):=by
 obtain⟨hs,K,_,M⟩:=H.h;have A:=qax hd;have key:=Kw (W:=⟨run 0 4,[]⟩) (g:=Ho 6) (m:=Pp) (ds:=[D.int 0,.int 1,.int 2,.int 3]) (U:=[some bed,some (.ref d),some (.tup [.int x,.int y]),some (.int k),some (.tup<|ks.map IE),some (.ref st.length),none,none,none]) (st:=st++[.lst []])
  (Inv:=λi U s=>Y3 ((∃a b c,U=[some bed,some (.ref d),some (.tup [.int x,.int y]),some (.int k),some (.tup<|ks.map IE),some (.ref st.length),a,b,c])) (s[st.length]?=some (.lst<|fl (LM (IC ks k)<|names4 ks P x y) i)) (Gr st s))
  ⟨⟨_,_,_,rfl⟩,IJ _ _,Gr.app _ _⟩ (λ_ _ _ _ _=>rfl) (λi X U s l Q=>by
   obtain⟨⟨u,v,w,rfl⟩,L,S⟩:=Q;have N:=(S.old _ A).trans hd;have z:(fl (LM (IC ks k)<|names4 ks P x y) i).length<=10:=by
    have Y:(fl (LM (IC ks k)<|names4 ks P x y) i).length<=i:=by unfold fl;rw[Af];exact AA (A2 _ _)<|by simp
    have:=qax l;simp at this;omega
   have fin:∀J:Hh,Fr st.length s J->Gr st J:=λJ f=>⟨AA S.len f.len,λj G=>(f.old j (AD G S.len)<|by omega).trans (S.old j G)⟩
   match i,l with
   |0,l=>
    cases l;obtain⟨B,C,J,e,n,f⟩:=T9 (bed:=bed) (I:=2) (i:=0) (j:=2) (a:=x) (b:=y+1) (x:=x) (y:=y) (a7:=v) (a8:=w) h p q r N L z rfl (!1) (!1) rfl (!1) rfl;exact⟨_,s,_,J,rfl,e,⟨_,_,_,rfl⟩,by rw[Qo];exact n,fin J f⟩
   |1,l=>
    cases l;obtain⟨B,C,J,e,n,f⟩:=T9 (bed:=bed) (I:=3) (i:=1) (j:=3) (a:=x+1) (b:=y) (x:=x) (y:=y) (a7:=v) (a8:=w) h p q r N L z rfl (!1) (!1) rfl (!1) rfl;exact⟨_,s,_,J,rfl,e,⟨_,_,_,rfl⟩,by rw[Qo];exact n,fin J f⟩
   |2,l=>
    cases l;obtain⟨B,C,J,e,n,f⟩:=T9 (bed:=bed) (I:=0) (i:=2) (j:=0) (a:=x) (b:=y-1) (x:=x) (y:=y) (a7:=v) (a8:=w) h p q r N L z rfl (!1) (!1) rfl (!1) rfl;exact⟨_,s,_,J,rfl,e,⟨_,_,_,rfl⟩,by rw[Qo];exact n,fin J f⟩
   |3,l=>
    cases l;obtain⟨B,C,J,e,n,f⟩:=T9 (bed:=bed) (I:=1) (i:=3) (j:=1) (a:=x-1) (b:=y) (x:=x) (y:=y) (a7:=v) (a8:=w) h p q r N L z rfl (!1) (!1) rfl (!1) rfl;exact⟨_,s,_,J,rfl,e,⟨_,_,_,rfl⟩,by rw[Qo];exact n,fin J f⟩
   |i+4,l=>exact absurd l (!2))
 obtain⟨Z,J,T,⟨u,v,w,rfl⟩,L,S⟩:=key;refine⟨J,IW ?_,L,S⟩;have E:=K st;have F:=M st;generalize ks.map IE=KK at *;unfold fW;refine Hy (U1:=[some bed,some (.ref d),some (.tup [.int x,.int y]),some (.int k),some (.tup KK),some (.ref st.length),none,none,none]) (s1:=st++[.lst []]) (by simp[E,F]) ?_;refine Hy (U1:=[some bed,some (.ref d),some (.tup [.int x,.int y]),some (.int k),some (.tup KK),some (.ref st.length),u,v,w]) (s1:=J) (by
  rw[J0,Tr (k:=4) rfl (!1)];exact T) ?_
 simp
def jM{e:Nat}(c:Hj bed (.int 0) s=some (hs,s))(f:Hj hs (.int 2) s=some (KK,s))(g:Hj KK (.int k) s=some (kd,s))(h:Hj kd (.int<|J+1) s=some (.str mine,s))(i:Hj (.ref e) (.str mine) s=some (v,s)):RE [some (.int J),some (.ref e),some bed,some (.int k)] s=some (v,s):=by unfold RE;simp[c,f,g,h,i]
def eq_nil{m:Nat}{js:List Nat}(c:st[l]?=some (.lst<|js.map λ(i:Nat)=>D.int (i:Int)))(hm:st[m]?=some (.lst [])):La (.ref l) (.ref m) st=some (.bl js.isEmpty,st):=by
 have e:(js.map λ(i:Nat)=>D.int (i:Int))=(js.map λ(i:Nat)=>(i:Int)).map D.int:=by rw[AK];rfl
 rw[e]at c;unfold La;rw[Qr (n:=98) c,Qr (n:=98) (as:=[]) hm];cases js<;>rfl
def WL{stk:List (Str×Int)}{P:List Tl}(E:KC bed stk ks)(h:KQ (stk.map (·.1)) ks)(c:∀p∈stk,1<=p.2/\p.2<=4)(m:stk.length<=1000)(X:∀t∈P,0<=t.2.2/\t.2.2<(ks.length:Int))(o:0<=k)(F:k<(ks.length:Int))(hd:st[d]?=some (.dt<|P.map Hl)):
  ∃g,Nd [bed,.ref d,.tup [.int x,.int y],.int k] st=some (.int ((alike (IC ks k)<|names4 ks P x y).map λi=>sv stk ((IC ks k).getD i "")).sum,g)/\Gr st g:=by
 obtain⟨s1,G,a1,g1⟩:=zhJ (x:=x) (y:=y) E h X o F hd;obtain⟨hs,H,Y,Z⟩:=id E.h;have j:∀i∈alike (IC ks k) (!8),i<4/\(IC ks k).getD i ""≠"":=λi l=>by obtain⟨K,s⟩:=List.mem_filter.mp l;unfold LM at s;rw[Aq]at s;exact⟨List.mem_range.mp K,by simpa using s.1⟩
 have hle:(alike (IC ks k)<|names4 ks P x y).length<=4:=by have:=A2 (LM (IC ks k)<|names4 ks P x y)<|As 4;rw[Cg]at this;exact this
 obtain⟨f,x0,v,I,J,e,M,q⟩:=MD h o F;generalize alike (IC ks k) (!8)=js at *;have a2:(s1++[O.lst []])[st.length]?=some (.lst<|js.map λ(i:Nat)=>D.int (i:Int)):=by rw[Ar (qax a1)];exact a1
 have r:=eq_nil a2<|IJ s1<|.lst [];have g2:=Gr.app s1 [.lst []];generalize L:s1++[O.lst []]=s2 at *
 by_cases hj:js=[]
 ·subst hj;refine⟨s2,IW ?_,g1.trans g2⟩;unfold WR;refine Hy (U1:=[some bed,some (.ref d),some (.tup [.int x,.int y]),some (.int k),some (.ref st.length),none]) (s1:=s1) (by simp[G])<|O9 ?_;simp[L,r]
 ·have w:js.isEmpty=false:=by cases js with
   |nil=>exact absurd rfl hj
   |cons a b=>rfl
  rw[w]at r;have ed:=aK (stk:=stk) (st:=s2) m;have a3:=IJ s2<|.dk<|KI stk;have N:(s2++[O.dk (KI stk)])[st.length]?=some (.lst<|js.map λ(i:Nat)=>D.int (i:Int)):=by rw[Ar (qax a2)];exact a2
  have g3:=Gr.app s2 [.dk (KI stk)];generalize hs3:s2++[O.dk (KI stk)]=s3 at *;have side:∀i∈js,(IC ks k).getD i ""∈stk.map (·.1):=λi l=>by
   obtain⟨K,s⟩:=j i l;rw[M]at s ⊢;have hx:[x0,v,I,J].getD i ""∈[x0,v,I,J]:=by
    rw[Ax];cases Q:[x0,v,I,J][i]? with
    |none=>
     rw[Ax,Q]at s;exact absurd rfl s
    |some u=>exact AF Q
   rcases(q _ hx).2 with h3|h3
   ·exact absurd h3 s
   exact h3
  have T:Jj ⟨js.map λ(i:Nat)=>D.int (i:Int),[(st.length,js.map λ(i:Nat)=>D.int (i:Int))]⟩ (Ho 0) Je RE (js.map λ(i:Nat)=>D.int (i:Int)) [none,some (.ref s2.length),some bed,some (.int k)] s3=some (js.map λi=>D.int (sv stk<|(IC ks k).getD i ""),s3):=by
   refine Qg (R:=λU=>∃x,U=[x,some (.ref s2.length),some bed,some (.int k)]) ⟨none,rfl⟩ (OL N) λi l U hU=>?_;obtain⟨u,rfl⟩:=hU;have ek:Hj (.tup<|ks.map IE) (.int k) s3=some (IE [f,x0,v,I,J],s3):=IA o (by rw[Az,e];rfl);have ij:Hj (IE [f,x0,v,I,J]) (.int<|(i:Int)+1) s3=some (.str ((IC ks k).getD i ""),s3):=by
    refine IA (!0) ?_;rw[M];have:((i:Int)+1).toNat=i+1:=by omega
    rw[this]
    match i,(j i l).1 with
    |0,_=>rfl
    |1,_=>rfl
    |2,_=>rfl
    |3,_=>rfl
   exact⟨[some (.int (i:Int)),some (.ref s2.length),some bed,some (.int k)],rfl,rfl,jM (H s3) (Z s3) ek ij<|Zb a3 (QW c<|side i l).1,_,rfl⟩
  have hm:(js.map λi=>D.int (sv stk<|(IC ks k).getD i ""))=(js.map λi=>sv stk ((IC ks k).getD i "")).map D.int:=by rw[AK];rfl
  rw[hm]at T;have S:∀n∈js.map (λi=>sv stk ((IC ks k).getD i "")),0<=n/\n<=100:=λn hn=>by obtain⟨i,l,rfl⟩:=P3.mp hn;have:=QW c<|side i l;omega
  have z:=ZS (IJ s3<|.lst<|(js.map λi=>sv stk ((IC ks k).getD i "")).map D.int) S (by rw[Af];omega);have B:fits ((js.map λi=>sv stk ((IC ks k).getD i "")).map D.int).length=true:=J8 (by rw[Af,Af];omega);generalize (js.map λi=>sv stk ((IC ks k).getD i "")).sum=R at *;generalize (js.map λi=>sv stk ((IC ks k).getD i "")).map D.int=A at *;refine⟨s3++[.lst A],IW ?_,((g1.trans g2).trans g3).trans<|Gr.app _ _⟩;generalize (js.map λ(i:Nat)=>D.int (i:Int))=W at *;unfold WR;refine Hy (U1:=[some bed,some (.ref d),some (.tup [.int x,.int y]),some (.int k),some (.ref st.length),none]) (s1:=s1) (by simp[G]) ?_;refine Hy (U1:=[some bed,some (.ref d),some (.tup [.int x,.int y]),some (.int k),some (.ref st.length),none]) (s1:=s2) (by simp[L,r]) ?_;refine Hy (U1:=[some bed,some (.ref d),some (.tup [.int x,.int y]),some (.int k),some (.ref st.length),some (.ref s2.length)]) (s1:=s3) (by simp[H,Y,ed]) ?_;have C:Ju (J3<|mV 4) 1 [5,0,3] (Ho 0) Je RE [some bed,some (.ref d),some (.tup [.int x,.int y]),some (.int k),some (.ref st.length),some (.ref s2.length)] s3=some (.ref s3.length,s3++[.lst A]):=by
   have:J3 (mV 4) [some bed,some (.ref d),some (.tup [.int x,.int y]),some (.int k),some (.ref st.length),some (.ref s2.length)] s3=some (⟨W,[(st.length,W)]⟩,s3):=by simp[Mu,Ig,N]
   rw[JP,this];simp only[Ae];rw[show Jc [some bed,some (.ref d),some (.tup [.int x,.int y]),some (.int k),some (.ref st.length),some (.ref s2.length)] 1 [5,0,3]=[none,some (.ref s2.length),some bed,some (.int k)] from rfl,T];simp only[Ae,B,if_true]
  simp[C,z]
def zlD(f:S.length=4)(g:N.length=4):((Jv S N).map λp=>sv stk p.1)=(alike S N).map λi=>sv stk (S.getD i ""):=by
 match S,N,f,g with
 |[a,b,c,d],[j,l,n,s],_,_=>
  have e:As 4=[0,1,2,3]:=rfl;have f0:LM [a,b,c,d] [j,l,n,s] 0=(a==j&&a != ""):=D0 _ _;have f1:LM [a,b,c,d] [j,l,n,s] 1=(b==l&&b != ""):=D0 _ _;have f2:LM [a,b,c,d] [j,l,n,s] 2=(c==n&&c != ""):=D0 _ _;have v:LM [a,b,c,d] [j,l,n,s] 3=(d==s&&d != ""):=D0 _ _;unfold Jv alike;rw[e];simp only[DR,FU,BM,Ey,f0,f1,f2,v];cases (a==j&&a != "")<;>cases (b==l&&b != "")<;>cases (c==n&&c != "")<;>cases (d==s&&d != "")<;>rfl
def Ip(p:Int×Int):D:=.tup [.int p.1,.int p.2]
end L2.MP.Hd
namespace L2.MP
open PySem
end L2.MP
namespace L2.MP.Ce
open PySem L2.MP
section
variable {α:Type}{st:Hh}{f:α->D}{p:α->PyData}
theorem cK{g:D->Option PyData}:∀{as:List α},(∀a∈as,g (f a)=some (p a))->Jo g (as.map f)=some (as.map p)
 |[],_=>rfl
 |a::as,h=>by rw[Ao,Jo,h a Al,Ae,cK λx b=>h x (Ai _ b)];rfl
theorem any_gen[DecidableEq α](c:∀a b,BA (p a) (p b)=decide (a=b))(x:α):∀as:List α,(as.map p).any (λy=>BA y (p x))=decide (x∈as)
 |[]=>rfl
 |y::as=>by rw[Ao,B1,any_gen c x as,c,Bool.eq_iff_iff,Er,decide_eq_true_iff,decide_eq_true_iff,decide_eq_true_iff,Bb];exact⟨λh=>h.imp Eq.symm id,λh=>h.imp Eq.symm id⟩
def L1[DecidableEq α](c:∀a b,BA (p a) (p b)=decide (a=b)){x:α}{as:List α}{l:Nat}(d:st[l]?=some (.lst<|as.map f))(g:IX 50 st (f x)=some (p x))(h:∀a∈as,IX 49 st (f a)=some (p a)):Kn (f x) (.ref l) st=some (.bl (!decide (x∈as)),st):=by
 have e:IX 50 st (.ref l)=some (.list<|as.map p):=by rw[IX];simp only[Ig,d,Ae];rw[cK h];rfl
 unfold Kn Tf JL inD;rw[g,e];simp only[Ae,Sj,AS,any_gen c,Kv];rfl
end
end L2.MP.Ce
namespace L2.MP.Hx
open PySem L2 L2.MP PySem.W PyProof.Rows
theorem Wa{g:Addr->Option Obj}(a:Addr):∀l:List Addr,(l.filterMap λb=>(g b).map λo=>(b,o)).lookup a=if a∈l then g a else none
 |[]=>rfl
 |b::l=>by
  rw[B3];by_cases h:a=b
  ·subst h;rw[if_pos Al]
   cases c:g a with
   |none=>
    simp only[GF];rw[Wa a l,c];split<;>rfl
   |some o=>simp only[AS,A6,beq_self_eq_true]
  ·have e:(a==b)=false:=beq_false_of_ne h;have d:(if a∈b::l then g a else none)=if a∈l then g a else none:=by simp only[Bb,h,false_or]
   rw[d,<-Wa a l];cases c:g b with
   |none=>simp only[GF]
   |some o=>simp only[AS,A6,e]
def dS(h:PP)(a:Addr):(Lu h).lookup a=h.get? a:=by
 unfold Lu;rw[Wa];split
 ·rfl
 ·rename_i b
  cases c:h.get? a with
  |none=>rfl
  |some o=>exact absurd (List.mem_range.mpr<|Aj c) b
def rB(h:PP):(Lu h).In h:=λa o e=>(dS h a).symm.trans e
def SH(K:Frag)(x:Str):Str⊕Int->Prop
 |.inl s=>∃t,nsIn K SZ x=some (some<|.str s t)
 |.inr i=>∃t,nsIn K SZ x=some (some<|.int i t)
variable {K:Frag}
def ZY{f:Addr}{a:IR}{b:Option Addr}{fd:FuncData}{c:Array (Option IR)}(h:K.lookup f=some ⟨a,b,.func fd,c⟩):keepIn K (.ref f)=true:=by unfold keepIn;dsimp only;rw[h]
variable {x:Str}{st:Stmt}
def jV(e:YF (K.lookup ·) x=YG x st):∃f,N8 K x st f:=by
 unfold YF YG at e;cases a:QE (K.lookup ·) SZ x with
 |none=>rw[a]at e;cases e
 |some v=>
  cases v with
  |none=>rw[a]at e;cases e
  |some v=>
   cases v with
   |ref f=>
    rw[a]at e;exists 10;cases c:K.lookup f with
    |none=>rw[c]at e;cases e
    |some o=>
     rw[c]at e;obtain⟨g,h,d,i⟩:=o;cases d with
     |func fd=>
      exists 10;obtain⟨a1,a2⟩:=Bi<|Av e;obtain⟨n,q,p,b,sc,gl,cl,j,l,m,pm,an,cd,r,s⟩:=fd;cases a1;exact⟨f,jU a c a2<|ZY c⟩
     |_=>cases e
   |_=>rw[a]at e;cases e
def jP{c:Str⊕Int}(e:YI (QE (K.lookup ·) SZ x)=some c):SH K x c:=by
 unfold YI at e;cases a:QE (K.lookup ·) SZ x with
 |none=>rw[a]at e;cases e
 |some v=>
  cases v with
  |none=>rw[a]at e;cases e
  |some v=>
   rw[a]at e;cases v with
   |str s t=>cases e;exact⟨t,a⟩
   |int i t=>cases e;exact⟨t,a⟩
   |_=>cases e
structure U0(K:Frag)(fns:List (Str×Stmt))(bl:List Str)(co:List (Str×(Str⊕Int))):Prop where
 fn:∀p∈fns,∃f,N8 K p.1 p.2 f
 bl:∀x∈bl,nsIn K SZ x=some none
 co:∀c∈co,SH K c.1 c.2
theorem Qc{α β:Type}{f g:α->β}:∀{l:List α},l.map f=l.map g->∀a∈l,f a=g a
 |[],_,a,h=>by cases h
 |b::l,e,a,h=>by
  obtain⟨c,d⟩:=List.cons.inj e;rcases KM.mp h with rfl|h
  ·exact c
  exact Qc d a h
variable {bl:List Str}{co:List (Str×(Str⊕Int))}
def lA{fns:List (Str×Stmt)}(e:LK (K.lookup ·) fns bl co=N0 fns bl co):U0 K fns bl co:=by obtain⟨b,a⟩:=Bi e;obtain⟨a,d⟩:=Bi a;exact⟨λp f=>jV (Qc b p f),λx g=>Qc a x g,λc h=>jP (Qc d c h)⟩
def kI{C:Addr}{qual:Str}(e:Yv K C x qual=Yw x qual st):∃f,MY K C x qual st f:=by
 unfold Yv Yw at e;cases a:findIn K (.ref C) x with
 |none=>rw[a]at e;cases e
 |some v=>
  cases v with
  |none=>rw[a]at e;cases e
  |some v=>
   cases v with
   |ref f=>
    rw[a]at e;exists 10;cases c:K.lookup f with
    |none=>rw[c]at e;cases e
    |some o=>
     rw[c]at e;obtain⟨h,i,d,j⟩:=o;cases d with
     |func fd=>
      exists 10;obtain⟨a1,a2⟩:=Bi<|Av e;obtain⟨a2,g⟩:=Bi a2;obtain⟨n,q,p,b,sc,gl,cl,l,m,r,pm,an,cd,s,u⟩:=fd;cases a1;exact⟨f,kH a g c a2<|ZY c⟩
     |_=>cases e
   |_=>rw[a]at e;cases e
structure N6(K:Frag)(C:Addr)(c:Str)(ms:List (Str×Str×Stmt))(no:List Str):Prop where
 cl:SJ K c C
 md:∀m∈ms,∃f,MY K C m.1 m.2.1 m.2.2 f
 no:∀x∈no,findIn K (.ref C) x=some none
variable {c:Str}{ms:List (Str×Str×Stmt)}{no:List Str}
def jO(e:Su K c ms no=Sv ms no):∃C,N6 K C c ms no:=by
 unfold Su Sv at e;cases a:nsIn K SZ c with
 |none=>rw[a]at e;cases e
 |some v=>
  cases v with
  |none=>rw[a]at e;cases e
  |some v=>
   cases v with
   |ref C=>
    rw[a]at e;exists 10;obtain⟨a1,a2⟩:=Bi<|Av e;obtain⟨a2,d⟩:=Bi a2;obtain⟨b,f⟩:=Bi a1;simp only[Aq]at b;obtain⟨⟨⟨⟨b1,g⟩,h⟩,i⟩,j⟩:=b;exact⟨C,jN a b1 g h f i j,λm hm=>kI (Qc a2 m hm),λx l=>Qc d x l⟩
   |_=>rw[a]at e;cases e
def OT(fns:List (Str×Stmt))(bl:List Str)(co:List (Str×(Str⊕Int)))(c:Str)(ms:List (Str×Str×Stmt))(no:List Str):Hook where
 α:=(List (Option<|FuncData×Bool)×List (Option<|Option IR)×List (Option<|Str⊕Int))×YS
 obs s:=(LK s.heap.get? fns bl co,Su (Lu s.heap) c ms no)
 val _:=(N0 fns bl co,Sv ms no)
 says _ h:=∃(K:Frag) (C:Addr),K.In h/\U0 K fns bl co/\N6 K C c ms no
 of w s e:=by obtain⟨x,d⟩:=Bi e;obtain⟨C,f⟩:=jO d;exact⟨Lu s.heap,C,rB _,lA (by rw[funext (dS s.heap)];exact x),f⟩
 keeps w h h':=λ⟨K,C,a,b⟩ k=>⟨K,C,a.keeps k,b⟩
def LX{l:OpenLaw}{n k:Nat}{q:Re}{loose:List Str}{XP:(Str->Option IR)->PP->Prop}{fns:List (Str×Stmt)}{d:DefRec}{CX:N9}{sp:Frag->Addr->Sp}(hn:l.most=some n) (j:n<=sizeLine) (m:d.params.defaults=[]) (r:HM k callerA)(F:∀(K:Frag) (C:Addr) (w:Wp) (g:Str->Option IR) (i:Addr) (h:PP),U0 K fns bl co->N6 K C c ms no->K.In h->h.Ns SZ g->g d.name=some (.ref i) ->
   ∃fd:FuncData,(∀(s:Shared) (u:IR),BindsTo s fd ⟨[u],[]⟩ [(x,u)])/\∀base:PP,K.In base->base.Ns SZ g->Jd l.prog w K g base CX k i fd [x] (sp K C))
  (o:∀(K:Frag) (C:Addr) (H:Hp) (a:Addr) (ns:List Int),ns.length<=n->MW H->JD K H a (ns.map V.int)->sp K C [.ref a] H (λv _=>v=.bl true) λ_ _ _=>False)
  (p:∀(H:Hp) (s:Shared) (e:IR) (s':Shared),CX [] H s (λ_ _ _=>False) e s'->False):
  WalkO q loose XP (OT fns bl co c ms no).says l.row.toRowW d [] (λf vs=>Gs f vs):=by
 intro w s₀ s₁ g z G Y;obtain⟨K,C,A,B,E⟩:=Y;exact L2.NJ (K:=λ_=>K) (CX:=λ_=>CX) (sp:=λ_=>sp K C) (YP:=λ_ h=>K.In h) hn j m r (λ_ _ y=>y) (λw g i h a b e=>F K C w g i h B E a b e) (λ_ H a ns I J L=>o K C H a ns I J L) (λ_ H s e s'=>p H s e s') w s₀ s₁ g z G A
end L2.MP.Hx
namespace L2.MP
open PySem L2 PySem.W PyProof.Rows
variable {K:Frag}{mg:Str->Option IR}{bl ps:List Str}{co:List (Str×(Str⊕Int))}{h base:PP}{x qual:Str}{st:Stmt}{P:Re}{w:Wp}{k:Nat}{m:MS}
section
variable {fns:List (Str×Stmt)}
structure En(K:Frag)(mg:Str->Option IR)(fns:List (Str×Stmt))(bl:List Str)(co:List (Str×(Str⊕Int))):Prop where
 b:∀x∈bl,mg x=none
 c:∀c∈co,match c.2 with
  |.inl s=>∃t,mg c.1=some (.str s t)
  |.inr i=>∃t,mg c.1=some (.int i t)
 l:∀p∈fns,∃f,N8 K p.1 p.2 f/\mg p.1=some (.ref f)
def En.of(A:Hx.U0 K fns bl co)(X:K.In h)(G:h.Ns SZ mg):En K mg fns bl co:=by
 refine⟨λx m=>mg_none_of X G (A.bl x m),λc w=>?_,λp P=>?_⟩
 ·have q:=A.co c w;obtain⟨x,c⟩:=c
  cases c with
  |inl s=>obtain⟨t,q⟩:=q;exact⟨t,mg_of X G q⟩
  |inr i=>obtain⟨t,q⟩:=q;exact⟨t,mg_of X G q⟩
 obtain⟨f,q⟩:=A.fn p P;exact⟨f,q,mg_of X G q.ns⟩
def En.b1(Z:En K mg fns bl co)(h:x∈bl:=by decide +kernel):mg x=none:=Z.b x h
def QD(N ps:List Str)(sc:Scope):Bool:=decide (sc.kind=.function)&&decide (sc.isCoroutine=false)&&decide (sc.isGenerator=false)&&decide N.Nodup&&decide (N.take ps.length=ps)&&ps.all (λx=>decide (sc.names.lookup x=some .local\/sc.names.lookup x=some .cell))&&sc.names.all λy=>decide (y.2≠.free)
def Oh{N:List Str}{sc:Scope}(h:QD N ps sc=true):IP N ps sc:=by unfold QD at h;simp only[Aq,decide_eq_true_eq,List.all_eq_true]at h;obtain⟨⟨⟨⟨⟨⟨a,b⟩,c⟩,d⟩,e⟩,f⟩,g⟩:=h;exact⟨a,b,c,d,e,f,g⟩
noncomputable abbrev iK (x:Str) (st:Stmt) (ps:List Str):Prop:=∀(kV doc pm:IR) (an:Option Addr) (h m:IR) (us:List IR),us.length=ps.length->bindArgs (Bu x x (LU st) (Ko st) (I0 st) .none kV doc pm an h m) ⟨us,[]⟩=pure (ps.zip us)
def En.laid{i:Nat}(Z:En K mg fns bl co)(hi:fns[i]?=some (x,st))(b:iK x st ps):Laid K mg x st ps:=by obtain⟨f,F,hm⟩:=Z.l _<|AF hi;obtain⟨⟨h,m,kV,w,pm,an,cd,P,d,l,c⟩,a,k⟩:=F;exact⟨_,_,Pb l c k,hm,(Pb l c k).binds b⟩
def JO(Z:En K mg fns bl co)(st:Stmt)(i:Nat)(N ps:List Str)(a:N.Nodup->∀(f:Addr) (c:IR) (A:Around) (outer:List Env) (s:Shared) (H:Hp) (E:XK),HM k (A.deeper<|envOfC x (I0 st) s.heap.objs.size f c) ->
   KN (JI KA P w K mg base N x (I0 st) f c A outer s H E).nox (Ko st) m) (hi:fns[i]?=some (x,st):=by rfl)
  (S:QD N ps (I0 st)=true:=by decide +kernel) (b:iK x st ps:=by intro _ _ _ _ _ _;first|exact NV λ_=>rfl|exact NU λ_ _=>rfl|exact NT λ_ _ _=>rfl|exact NR λ_ _ _ _=>rfl|exact Yx λ_ _ _ _ _=>rfl):Jt P w K mg base (k+1) x ps.length (ID N.length m):=
 kS (Z.laid hi b) (Oh S) (a (Oh S).nd)
def jY{f:Addr}{fd:FuncData}(F:Mt K x qual st f fd)(N ps:List Str)(a:N.Nodup->∀(b:IR) (A:Around) (outer:List Env) (s:Shared) (H:Hp) (E:XK),HM k (A.deeper<|envOfC qual (I0 st) s.heap.objs.size f b) ->
   KN (JI KA P w K mg base N qual (I0 st) f b A outer s H E).nox (Ko st) m) (S:QD N ps (I0 st)=true:=by decide +kernel):Jd P w K mg base KA (k+1) f fd ps (MK K ps.length<|ID N.length m):=NY F (Oh S) (a (Oh S).nd)
end
variable {X:Cx}{e:Pv}{pos pos':Pos}{g:GN}{T:String}
section
variable {es:List Pv}{m:ME}{mm:MA}{p p2:Pos}{y:Str}
def sgn(i:Nat)(a:X.N.Nodup)(hi:X.N[i]?=some x:=by rfl)(b:Loc X.env.scope x:=by first|exact Br rfl|exact Bo rfl)(hf:X.fn x=true\/X.env.scope.names.lookup x=some .local:=by first|exact .inl rfl|exact .inr rfl|assumption):SG X (.Name x pos) (Ho i):=sI a hi b hf
def IB(i:Nat)(a:X.N.Nodup)(he:SE X e m)(hi:X.N[i]?=some x:=by rfl)(b:Loc X.env.scope x:=by first|exact Br rfl|exact Bo rfl)(c:swapsWith e (some<|.Name x pos') pos.line X.env=pure false:=by rfl)(hf:X.fn x=true\/X.env.scope.names.lookup x=some .local:=by first|exact .inl rfl|exact .inr rfl|assumption):SS X (.Assign [.Name x pos'] e pos) (Ht m<|Ho i):=pK a hi b he c hf
def Ii{j n:Nat}(F:Jt X.prog X.w X.K X.mg X.base k x n g)(c:HM j X.A)(d:SA X (e::es) mm)(f:k<=j:=by decide)(i:Gl X x:=by rfl)(l:Jl n mm:=by repeat (first|exact Jl.nil|refine Jl.cons ?_))(a:(x==("__debug__":Str))=false:=by decide)(he:Qqb X.env e es:=by rfl) (b:Qqc pos es X.env:=by rfl) (hn:(e::es).length=n:=by rfl):SE X (.Call (.Name x p) (e::es) [] pos) (Hr g mm):=xT F (c.mono f) i d l a he b hn
variable {fns:List (Str×Stmt)}
def PK(Z:En X.K X.mg fns bl co)(l:SE X e m)(n:W1 y=some (.type T))(o:T∈kinds:=by decide)(q:Gl X "isinstance":=by rfl)(hm:("isinstance":Str)∈bl:=by decide +kernel)(a:Gl X y:=by rfl)(c:y∈bl:=by decide +kernel)(d:y≠"__name__":=by decide)(f:(y==("__debug__":Str))=false:=by decide)(r:UF [e,.Name y p2] X.env=(false,UV e X.env)::UF [.Name y p2] X.env:=by rfl) (i:UF [.Name y p2] X.env=[(false,UV (.Name y p2) X.env)]:=by rfl) (j:(backTo pos<|UF [.Name y p2] X.env).any (·.1)=false:=by rfl):SE X (.Call (.Name "isinstance" p) [e,.Name y p2] [] pos) (L6 T m):=
 qD (x:="isinstance") o q (Z.b _ hm) l a (Z.b _ c) n d f r i j
def Kj{id:String}(Z:En X.K X.mg fns bl co)(d:Jy X (.builtin id) g)(f:W1 x=some (.builtin id))(i:SA X (e::es) mm)(j:Gl X x:=by rfl)(hm:x∈bl:=by decide +kernel)(hn:x≠"__name__":=by decide)(a:(x==("__debug__":Str))=false:=by decide)(he:Qqb X.env e es:=by rfl) (c:Qqc pos es X.env:=by rfl):SE X (.Call (.Name x p) (e::es) [] pos) (Hr g mm):=xS d j (Z.b _ hm) f i hn a he c
def Ms(Z:En X.K X.mg fns bl co)(d:Jy X (.type T) g)(f:W1 x=some (.type T))(i:SA X (e::es) mm)(j:Gl X x:=by rfl)(hm:x∈bl:=by decide +kernel)(hn:x≠"__name__":=by decide)(a:(x==("__debug__":Str))=false:=by decide)(he:Qqb X.env e es:=by rfl) (c:Qqc pos es X.env:=by rfl):SE X (.Call (.Name x p) (e::es) [] pos) (Hr g mm):=zlQ d j (Z.b _ hm) f i hn a he c
def cS{scope:Scope}(N':List Str)(nt:Nat)(fr:List Nat)(fs:List Str)(kind:scope.kind=.function:=by rfl)(b:(scope.names.map (·.1)).Nodup:=by decide +kernel)(hf:scope.names.all (λp=>!(p.2==AH) || fs.contains p.1)=true:=by decide +kernel)(c:fs.all (λx=>scope.names.contains (x,AH))=true:=by decide +kernel) (len:N'.length=nt+fr.length:=by rfl) (a:Mc X fs fr (N'.drop nt):=by trivial) (out:Ma X fs:=by trivial):JK X scope N' nt fr:=Mm fs kind b hf c len a out
end
section
variable {C:Addr}{c:Str} {ms:List (Str×Str×Stmt)} {no:List Str}
structure EC(K:Frag)(mg:Str->Option IR)(C:Addr)(c:Str)(ms:List (Str×Str×Stmt))(no:List Str):Prop where
 cl:Lz K C
 mi:makesIn K C=true
 kc:keepIn K (.ref C)=true
 mc:mg c=some (.ref C)
 m:∀p∈ms,∃f,MY K C p.1 p.2.1 p.2.2 f
 n:∀x∈no,Nr K C x
def EC.of(B:Hx.N6 K C c ms no)(X:K.In h)(G:h.Ns SZ mg):EC K mg C c ms no:=⟨B.cl.cl,B.cl.ms,B.cl.kc,mg_of X G B.cl.ns,B.md,B.no⟩
noncomputable abbrev SK (x qual:Str) (st:Stmt) (ps:List Str):Prop:=∀(kV doc pm:IR) (an:Option Addr) (c e:IR) (us:List IR),us.length=ps.length->bindArgs (Bu x qual (LU st) (Ko st) (I0 st) .none kV doc pm an c e) ⟨us,[]⟩=pure (ps.zip us)
def NB(Q:EC K mg C c ms no)(st:Stmt)(i:Nat)(N ps:List Str)(hbody:N.Nodup->∀(f:Addr) (a:IR) (A:Around) (outer:List Env) (s:Shared) (H:Hp) (E:XK),HM k (A.deeper<|envOfC qual (I0 st) s.heap.objs.size f a) ->
   KN (JI KA P w K mg base N qual (I0 st) f a A outer s H E).nox (Ko st) m) (hi:ms[i]?=some (x,qual,st):=by rfl)
  (S:QD N ps (I0 st)=true:=by decide +kernel) (b:SK x qual st ps:=by intro _ _ _ _ _ _;first|exact NV λ_=>rfl|exact NU λ_ _=>rfl|exact NT λ_ _ _=>rfl|exact NR λ_ _ _ _=>rfl):LQ P w K mg base (k+1) C x ps.length (ID N.length m):=by
 obtain⟨f,F⟩:=Q.m _<|AF hi;exact qO (xD F b) (Oh S)<|hbody (Oh S).nd
def wK(Q:EC K mg C c ms no)(st:Stmt)(i:Nat)(N ps:List Str)(hbody:N.Nodup->∀(f:Addr) (d:IR) (A:Around) (outer:List Env) (s:Shared) (H:Hp) (E:XK),HM k (A.deeper<|envOfC qual (I0 st) s.heap.objs.size f d) ->
   KN (JI KA P w K mg base N qual (I0 st) f d A outer s H E).nox (Ko st) m) (hi:ms[i]?=some (("__init__":Str),qual,st):=by rfl)
  (S:QD N ps (I0 st)=true:=by decide +kernel) (b:SK "__init__" qual st ps:=by intro _ _ _ _ _ _;first|exact NV λ_=>rfl|exact NU λ_ _=>rfl|exact NT λ_ _ _=>rfl|exact NR λ_ _ _ _=>rfl):Th P w K mg base (k+1) C c ps.length (ID N.length m):=by
 obtain⟨f,⟨g,h,kV,x,pm,an,cd,T,X,l,e⟩,a,i,k⟩:=Q.m _<|AF hi;have L:YV K mg C c "__init__" qual st ps:=⟨_,_,Pb l e k,⟨Q.mi,a,i,Q.kc⟩,(Pb l e k).binds b,Q.mc⟩
 exact qN L (Oh S)<|hbody (Oh S).nd
variable {o value:Pv}{m mo mv:ME}{f:Str}
def Iy(Q:EC X.K X.mg C c ms no)(a:SE X e m)(hm:f∈no:=by decide +kernel)(b:attributeBase e f X.env (UV e X.env)=UV e X.env:=by rfl):SE X (.Attribute e f pos) (Hv C f m):=qC Q.cl (Q.n _ hm) a b
def QT(Q:EC X.K X.mg C c ms no)(a:SE X o mo)(b:SE X value mv)(hm:f∈no:=by decide +kernel)(d:swapsWith value (some<|.Attribute o f pos') pos.line X.env=pure false:=by rfl):SS X (.Assign [.Attribute o f pos'] value pos) (LC C f mo mv):=pI Q.cl (Q.n _ hm) a b d
end
end L2.MP
namespace L2.MP.Hx
open PySem L2 L2.MP PySem.W PyProof.Rows
end L2.MP.Hx
namespace L2.MP
open PySem L2 PySem.W PyProof.Rows Hx
end L2.MP
namespace L2.MP.Hx
open PySem L2 L2.MP PySem.W PyProof.Rows
end L2.MP.Hx
namespace L2.MP
open PySem L2 PySem.W PyProof.Rows
end L2.MP
namespace L2.MP.T0
open PySem L2.MP L2.MP.Hd
def WQ:MS:=mR (OZ (L6 "int"<|mV 0)<|OZ (SY<|L6 "bool"<|mV 0)<|Mg PJ PJ (mV 1) (mV 0)<|mV 2)
def RF:GN:=ID 3 WQ
def dY:MS:=mR (OZ (L6 "tuple"<|mV 0)<|mB La (Hr HQ<|Hf (mV 0)<|mZ)<|mV 1)
def W6:GN:=ID 2 dY
def WO:MS:=mS (Ht (mB Hj (mV 0)<|mK<|.int 1)<|Ho 2)<|mR<|OZ (Hr W6<|Hf (mV 1)<|Hf (mK<|.int 2)<|mZ)<|OZ (Hr RF<|Hf (mB Hj (mV 1)<|mK<|.int 0)<|Hf (mK<|.int 0)<|Hf (mB K5 (mB Hj (mV 2)<|mK<|.int 0)<|mK<|.int 1)<|mZ)<|Hr RF<|Hf (mB Hj (mV 1)<|mK<|.int 1)<|Hf (mK<|.int 0)<|Hf (mB K5 (mB Hj (mV 2)<|mK<|.int 1)<|mK<|.int 1)<|mZ
def NH:GN:=ID 3 WO
def Qy:MS:=Jf (mT<|mB Mr (Hr RO<|Hf (mV 1)<|Hf (Jw (mV 7) (Lh<|mK<|.int 1)<|Lg)<|Hf (mV 2)<|mZ)<|mB Hj (mV 4)<|mK<|.int 0) (Iq<|Kh (mV 5)<|Hf (mU<|Hf (mB Hj (mV 3)<|mK<|.int 0)<|Hf (mB Hj (mV 3)<|mK<|.int 1)<|Hf (mV 6)<|mZ)<|mZ)<|Jm
def XF:MS:=mS (Ht (mB Hj (mV 0)<|mK<|.int 0)<|Ho 4)<|mS (Ht (mL<|mZ)<|Ho 5)<|mS (Jf (Me<|mT<|Hr MV<|Hf (mV 2)<|mZ) (mR<|mV 5)<|Jm)<|mS (mF (P4<|mB Hj (mV 4)<|mK<|.int 2) (J5 2<|gC (Ho 6)<|gC (Ho 7)<|J6)<|Qy)<|mR<|mV 5
def Uy:GN:=ID 8 XF
def Pu(C:Addr):MS:=mS (Iq<|Of (Hv C "ready"<|mV 0) (mV 1)<|mK .non) (Jf (LB (mT<|mB Kn (mV 1)<|Hv C "kinds"<|mV 0)<|mT<|Hr NH<|Hf (Hv C "bed"<|mV 0)<|Hf (mV 1)<|mZ) (mS (Ht (Hr UR<|Hf (Hv C "bed"<|mV 0)<|Hf (Hv C "kinds"<|mV 0)<|Hf (mV 1)<|mZ)<|Ho 2)<|mS (Ht (Hr Uy<|Hf (Hv C "bed"<|mV 0)<|Hf (Hv C "strengths"<|mV 0)<|Hf (mV 2)<|Hf (mV 1)<|mZ)<|Ho 3)<|Jf (Kg<|mV 3) (JR (Hv C "ready"<|mV 0) (mV 1)<|mV 3)<|Jm)<|Jm)
def Nf(C:Addr):GN:=ID 4<|Pu C
def UN(C:Addr):MS:=Iq (Jz C "look_at" (Nf C) (mV 0)<|Hf (mU<|Hf (mV 2)<|Hf (mV 3)<|mZ)<|mZ)
def UO(C:Addr):MS:=mF (IG<|mB Hj (mB Hj (mV 1)<|mK<|.int 1)<|mK<|.int 1) (Ho 3)<|UN C
def gL(C:Addr):MS:=mS (LC C "bed" (mV 0)<|mV 1) (mS (LC C "strengths" (mV 0)<|Hr PY<|Hf (mB Hj (mB Hj (mV 1)<|mK<|.int 0)<|mK<|.int 1)<|mZ)<|mS (LC C "kinds" (mV 0)<|Hr UL<|Hf (mB Hj (mV 1)<|mK<|.int 2)<|mZ)<|mS (LC C "laid" (mV 0)<|mL<|mZ)<|mS (LC C "ready" (mV 0)<|O0 true)<|mF (IG<|mB Hj (mB Hj (mV 1)<|mK<|.int 1)<|mK<|.int 0) (Ho 2)<|UO C)
def UJ(C:Addr):GN:=ID 4<|gL C
def UT(C:Addr):MS:=Iq (Jz C "look_at" (Nf C) (mV 0)<|Hf (mV 2)<|mZ)
def gT(C:Addr):MS:=mS (Iq<|Jz C "look_at" (Nf C) (mV 0)<|Hf (mV 1)<|mZ) (mF (J3<|Hr Po<|Hf (mV 1)<|mZ) (Ho 2)<|UT C)
def OO(C:Addr):GN:=ID 3<|gT C
def dU(C:Addr):MS:=mS (Iq<|Kh (Hv C "laid"<|mV 0)<|Hf (mV 1)<|mZ) (mS (JR (Hv C "kinds"<|mV 0) (Jw (mV 1) Lg<|Lh<|mK<|.int 2)<|mB Hj (mV 1)<|mK<|.int 2)<|Iq<|Jz C "look_around" (OO C) (mV 0)<|Hf (Jw (mV 1) Lg<|Lh<|mK<|.int 2)<|mZ)
def NG(C:Addr):GN:=ID 2<|dU C
def dW(C:Addr):MS:=mS (Ht (mU<|Hf (mV 1)<|Hf (mV 2)<|mZ)<|Ho 4) (mS (Jf (Me<|mT<|Hr NH<|Hf (Hv C "bed"<|mV 0)<|Hf (mV 4)<|mZ) Pd<|Jm)<|mS (Jf (mT<|mB Ni (mV 4)<|Hv C "kinds"<|mV 0) Pd<|Jm)<|mS (Jf (Me<|mT<|Mg PJ OS (mK<|.int 0) (mV 3)<|Hr HQ<|Hf (mB Hj (mB Hj (Hv C "bed"<|mV 0)<|mK<|.int 0)<|mK<|.int 2)<|mZ) Pd<|Jm)<|mS (Jf (mT<|mB Kn (mU<|Hf (mV 1)<|Hf (mV 2)<|Hf (mV 3)<|mZ)<|P5 (Hv C "ready"<|mV 0) (mV 4)<|mL<|mZ) Pd<|Jm)<|Iq<|Jz C "lay" (NG C) (mV 0)<|Hf (mU<|Hf (mV 1)<|Hf (mV 2)<|Hf (mV 3)<|mZ)<|mZ)
def Qu(C:Addr):GN:=ID 5<|dW C
def WH(C:Addr):MS:=mS (Jf (Me<|O2<|Hv C "ready"<|mV 0) (mR<|mK .non)<|Jm) (mS (Ht (mB Hj (mB Hj (Hv C "ready"<|mV 0)<|Hr O3<|Hf (Hv C "ready"<|mV 0)<|mZ)<|mK<|.int 0)<|Ho 1)<|mS (Iq<|Jz C "lay" (NG C) (mV 0)<|Hf (mV 1)<|mZ)<|mR<|mV 1)
def Ml(C:Addr):GN:=ID 2<|WH C
def fH(C:Addr):MS:=mS (Jf (Me<|Kg<|Hv C "laid"<|mV 0) Pd<|Jm) (mS (Ht (Vi<|Hv C "laid"<|mV 0)<|Ho 1)<|mS (Iq<|Vj (Hv C "kinds"<|mV 0)<|Jw (mV 1) Lg<|Lh<|mK<|.int 2)<|mS (Iq<|Jz C "look_around" (OO C) (mV 0)<|Hf (Jw (mV 1) Lg<|Lh<|mK<|.int 2)<|mZ)<|mR<|mV 1)
def OM(C:Addr):GN:=ID 2<|fH C
def gN(C:Addr):MS:=mR (Hr Mz<|Hf (Hr Rl<|Hf (mB Hz (Hr SV<|Hf (mB Hj (Hv C "bed"<|mV 0)<|mK<|.int 2)<|mZ)<|Hv C "laid"<|mV 0)<|mZ)<|mZ)
def Mn(C:Addr):GN:=ID 1<|gN C
def dX(C:Addr):MS:=mR (Hr Mz<|Hf (Hv C "laid"<|mV 0)<|mZ)
def Mi(C:Addr):GN:=ID 1<|dX C
def UP(C:Addr):MS:=Iq (PF (mV 1)<|Hf (mB Hj (Hv C "ready"<|mV 0)<|mV 2)<|mZ)
def gM(C:Addr):MS:=mS (Ht (mL<|mZ)<|Ho 1) (mS (mF (J3<|Hr Ph<|Hf (Hv C "ready"<|mV 0)<|mZ) (Ho 2)<|UP C)<|mR<|Hr Mz<|Hf (mV 1)<|mZ)
def Ng(C:Addr):GN:=ID 3<|gM C
def QB:ME:=mB Hz (mV 0)<|mU<|Hf (mB Np (mV 1)<|mV 0)<|mZ
def gU:MS:=mR<|Hr Mz<|Hf (Hr Rl<|Hf (QM 0<|Ju (OQ<|mV 0) 1 [0] (Ho 0) Je<|QB)<|mZ)<|mZ
def XH:GN:=ID 1 gU
def RG:ME:=mV 0
def Pq:MT:=mT<|mB Ni (Hr NI<|Hf (mU<|Hf (mV 1)<|Hf (mV 2)<|mZ)<|Hf (mV 0)<|mZ)<|mV 3
def RJ:MS:=mS (Ht (Ju (IG<|mK<|.int 4) 1 [3,4,1] (Ho 0) Pq<|RG)<|Ho 5)<|Jf (LB (mT<|mB Kn (mU<|Hf (mV 3)<|Hf (mV 4)<|mZ)<|mV 1)<|mT<|mB JT (mV 5)<|mL<|mZ) (Iq<|Kh (mV 2)<|Hf (mU<|Hf (mV 3)<|Hf (mV 4)<|mZ)<|mZ)<|Jm
def Xs:MS:=mF (IG<|mB Hj (mB Hj (mV 0)<|mK<|.int 1)<|mK<|.int 1) (Ho 4)<|RJ
def fU:MS:=mS (Ht (mL<|mZ)<|Ho 2)<|mS (mF (IG<|mB Hj (mB Hj (mV 0)<|mK<|.int 1)<|mK<|.int 0) (Ho 3)<|Xs)<|mR<|mV 2
def Uz:GN:=ID 6 fU
def QA:MS:=Jf (mT<|mB Mr (Hr Nd<|Hf (mV 0)<|Hf (mV 1)<|Hf (mV 3)<|Hf (mV 4)<|mZ)<|mB Hj (mB Hj (mV 0)<|mK<|.int 0)<|mK<|.int 0) (Iq<|Kh (mV 2)<|Hf (mB Hz (mV 3)<|mU<|Hf (mV 4)<|mZ)<|mZ)<|Jm
def UA:MS:=mF (IG<|Hr HQ<|Hf (mB Hj (mB Hj (mV 0)<|mK<|.int 0)<|mK<|.int 2)<|mZ) (Ho 4)<|QA
def fI:MS:=mS (Ht (mL<|mZ)<|Ho 2)<|mS (mF (J3<|Hr Uz<|Hf (mV 0)<|Hf (mV 1)<|mZ) (Ho 3)<|UA)<|mR<|mV 2
def UD:GN:=ID 5 fI
def MJ:MS:=Jf (LB (mT<|mB JT (mU<|Hf (mV 5)<|Hf (mV 6)<|mZ)<|mV 2)<|LB (mT<|mB Kn (mU<|Hf (mV 5)<|Hf (mV 6)<|mZ)<|mV 3)<|mT<|mB Mr (Hr Nd<|Hf (mV 0)<|Hf (mV 3)<|Hf (mU<|Hf (mV 5)<|Hf (mV 6)<|mZ)<|Hf (mV 7)<|mZ)<|mB Hj (mB Hj (mV 0)<|mK<|.int 0)<|mK<|.int 0) (mS (JR (mV 3) (mU<|Hf (mV 5)<|Hf (mV 6)<|mZ)<|mV 7)<|Ht (mK<|.bl true)<|Ho 4)<|Jm
def UH:MT:=Kg<|mV 4
def UQ:MS:=mS (Ht (mK<|.bl false)<|Ho 4)<|mF (J3<|mV 1) (J5 3<|gC (Ho 5)<|gC (Ho 6)<|gC (Ho 7)<|J6)<|MJ
def gP:MS:=mS (Ht (Hr Qz<|Hf (mB Hj (mV 0)<|mK<|.int 2)<|mZ)<|Ho 3)<|mS (Ht (mK<|.bl true)<|Ho 4)<|mS (J1 UH UQ 1000)<|mR<|mV 3
def UK:GN:=ID 8 gP
def RM:MS:=JR (mV 1) (Jw (mV 4) Lg<|Lh<|mK<|.int 2)<|mB Hj (mV 4)<|mK<|.int 2
def XI:MS:=mS (Ht (Hr UD<|Hf (mV 0)<|Hf (mV 1)<|mZ)<|Ho 3)<|mF (J3<|Jw (mV 3) Lg<|Lh<|mK<|.int 1) (Ho 4)<|RM
def gR:MS:=mS (Ht (Hr Qz<|Hf (mB Hj (mV 0)<|mK<|.int 2)<|mZ)<|Ho 1)<|mS (mF (IG<|mB HS (mB Hj (mB Hj (mV 0)<|mK<|.int 1)<|mK<|.int 0)<|mB Hj (mB Hj (mV 0)<|mK<|.int 1)<|mK<|.int 1) (Ho 2)<|XI)<|mR<|Hr XH<|Hf (mV 1)<|mZ
def XD:GN:=ID 5 gR
def UM:ME:=mV 0
def RN:MT:=mT<|mB Mr (Hr Nd<|Hf (mV 1)<|Hf (mV 2)<|Hf (mU<|Hf (mV 3)<|Hf (mV 4)<|mZ)<|Hf (mV 0)<|mZ)<|mB Hj (mB Hj (mV 1)<|mK<|.int 0)<|mK<|.int 0
def ON:MS:=Jf (mT<|mB Kn (mU<|Hf (mV 3)<|Hf (mV 4)<|mZ)<|mV 2) (mS (Ht (Hr UK<|Hf (mV 0)<|Hf (mV 1)<|Hf (mU<|Hf (mV 3)<|Hf (mV 4)<|mZ)<|mZ)<|Ho 6)<|mS (Ht (Ju (IG<|Hr HQ<|Hf (mB Hj (mB Hj (mV 0)<|mK<|.int 0)<|mK<|.int 2)<|mZ) 1 [0,6,3,4] (Ho 0) RN<|UM)<|Ho 7)<|Jf (mT<|mB JT (mV 7)<|mL<|Hf (mV 5)<|mZ) (mR<|mK<|.bl false)<|Jm)<|Jm
def Xq:MS:=mS (Ht (Hr Qz<|Hf (mB Hj (mV 0)<|mK<|.int 2)<|mZ)<|Ho 2)<|mS (mF (J3<|mV 1) (J5 3<|gC (Ho 3)<|gC (Ho 4)<|gC (Ho 5)<|J6)<|ON)<|mR<|mK<|.bl true
def Xr:GN:=ID 8 Xq
def Pt(C:Addr):MS:=mS (Ht (Jz C "growings" (Ng C) (mV 1) mZ)<|Ho 4) (Jf (mT<|mB OP (mV 4)<|mU<|mZ) (mS (Ht (mB Hj (mV 4)<|Hr Io<|Hf (mV 0)<|Hf (Hr HQ<|Hf (mV 4)<|mZ)<|mZ)<|Ho 5)<|Iq<|Jz C "put" (Qu C) (mV 1)<|Hf (mB Hj (mV 5)<|mK<|.int 0)<|Hf (mB Hj (mV 5)<|mK<|.int 1)<|Hf (mB Hj (mV 5)<|mK<|.int 2)<|mZ)<|Jm)
def gX(C:Addr):MS:=mS (mF (IG<|mV 2) (Ho 3)<|Pt C) (mR<|mB eqZ (Jz C "growings" (Ng C) (mV 1) mZ)<|mU<|mZ)
def RK(C:Addr):GN:=ID 6<|gX C
def TM(C:Addr):MS:=Iq (Jz C "back" (OM C) (mV 7) mZ)
def TN(C:Addr):MS:=mS (Jf (L4 (Me<|mT<|Hr (RK C)<|Hf (mV 2)<|Hf (mV 7)<|Hf (mV 5)<|mZ)<|LB (Kg<|mV 6)<|mT<|mB JT (Jz C "standing" (Mn C) (mV 7) mZ)<|mV 4) (mR<|mK<|.bl false)<|Jm) (mF (IG<|Hr Io<|Hf (mV 2)<|Hf (mB Hz (Hr HQ<|Hf (Jz C "row" (Mi C) (mV 7) mZ)<|mZ)<|mK<|.int 1)<|mZ) (Ho 9)<|TM C)
def aE(C:Addr):MS:=Iq (Jz C "back" (OM C) (mV 7) mZ)
def TQ(C:Addr):MS:=Iq (Jz C "on" (Ml C) (mV 7) mZ)
def TR(C:Addr):MS:=mS (Ht (Hr Xw<|Hf (mV 0)<|Hf (mV 1)<|mZ)<|Ho 2) (mS (Ht (Hr Xl<|Hf (mV 2)<|mZ)<|Ho 3)<|mS (NP 4 5<|Hf (Hr XD<|Hf (mV 3)<|mZ)<|Hf (mB HS (mB Hj (mB Hj (mV 3)<|mK<|.int 1)<|mK<|.int 0)<|mB Hj (mB Hj (mV 3)<|mK<|.int 1)<|mK<|.int 1)<|mZ)<|mS (Ht (Hr Xr<|Hf (mV 3)<|Hf (mV 4)<|mZ)<|Ho 6)<|mS (Ht (QL C (UJ C)<|Hf (mV 3)<|mZ)<|Ho 7)<|mS (mF (IG<|mB Hz (mK<|.int 1)<|Hr Io<|Hf (mV 2)<|Hf (mK<|.int 3)<|mZ) (Ho 8)<|TN C)<|mS (mF (IG<|Hr HQ<|Hf (Jz C "row" (Mi C) (mV 7) mZ)<|mZ) (Ho 9)<|aE C)<|mS (Jf (L4 (mT<|mB JT (Jz C "standing" (Mn C) (mV 7) mZ)<|mB Hj (mV 3)<|mK<|.int 2)<|mT<|mB OP (Jz C "row" (Mi C) (mV 7) mZ)<|mU<|mZ) (mR<|mK<|.bl false)<|Jm)<|mS (mF (IG<|mV 5) (Ho 8)<|TQ C)<|Jf (L4 (mT<|mB Vm (Jz C "on" (Ml C) (mV 7) mZ)<|mK .non)<|mT<|mB JT (Jz C "standing" (Mn C) (mV 7) mZ)<|mV 4) (mR<|mK<|.bl false)<|Jm)
def YU(C:Addr):MS:=mS (mF (IG<|mB Hz (mK<|.int 1)<|Hr QN<|Hf (mK<|.int 3)<|Hf (Hr HQ<|Hf (mV 0)<|mZ)<|mZ) (Ho 1)<|TR C)<|mR<|mK<|.bl true
def Va(C:Addr):GN:=ID 10<|YU C
open L2 PySem.Spec PyProof.Rows
section
variable {P:Re}{w:Wp}{K:Ab}{mg:Str->Option IR}{base:PP} (Z:En K mg fns QI cos) {C:Addr} (Q:EC K mg C "Grow" LN QF)
def Si:(["side","name","strengths"]:List Str).Nodup:=by decide +kernel
def kJ:(["_law_k","_law_letters","_law_first"]:List Str).Nodup:=by decide +kernel
def iL:(["_law_k","_law_letters","_law_first","_law_step_here"]:List Str).Nodup:=by decide +kernel
def iM:(["_law_side","_law_names_here","_law_pot"]:List Str).Nodup:=by decide +kernel
def iN:(["_law_name","_law_pot"]:List Str).Nodup:=by decide +kernel
def iO:(["_law_k","_law_pot","_law_names_here"]:List Str).Nodup:=by decide +kernel
def Ze:(["_law_place","_law_there"]:List Str).Nodup:=by decide +kernel
def Vl:(["_law_x","_law_y","_law_kind_here"]:List Str).Nodup:=by decide +kernel
def iP:(["_law_side","_law_strengths","_law_bed_here","_law_kind_here"]:List Str).Nodup:=by decide +kernel
def iQ:(["_law_side","_law_x","_law_y","_law_there"]:List Str).Nodup:=by decide +kernel
def iR:(["_law_one","_law_bed_here","_law_there","_law_x","_law_y"]:List Str).Nodup:=by decide +kernel
include Z Q
theorem fC:Jt P w K mg base 1 "is_whole" 3 RF:=JO (k:=0) Z (top 1) 0 ["thing","least","most"] ["thing","least","most"] λQ f C A outer s H E a=>Ir.out (HL<|JS.mk<|IS<|Q9 (PK Z (Hg 0) ZD)<|Q9 (oZ<|PK Z (Hg 0) rM)<|We<|xU Tx Tx (Hg 1) (Hg 0)<|Hg 2)
theorem zi2:Jt P w K mg base 1 "is_tuple" 2 W6:=JO (k:=0) Z (top 2) 1 ["thing","size"] ["thing","size"] λa f C A outer s H E Q=>Ir.out (HL<|JS.mk<|IS<|Q9 (PK Z (Hg 0) OI)<|We<|VU (Oq<|JY Q) (Kj Z LW LR<|Hk (Hg 0)<|Hq) (Hg 1) rfl)
theorem fB:Jt P w K mg base 2 "is_place" 2 NH:=JO (k:=1) Z (top 3) 2 ["bed","thing","floor"] ["bed","thing"] λa f b A outer s H E C=>Ir.out (HG (JS.mk<|IB 2 a<|HD (Hw C) (Hg 0)<|Hm)<|HL<|JS.mk<|IS<|Q9 (Ii (zi2 Z Q) C<|Hk (Hg 1)<|Hk Hm<|Hq)<|Q9 (Ii (fC Z Q) C<|Hk (HD (Hw C) (Hg 1)<|Hm)<|Hk Hm<|Hk (HR Qm (HD (Hw C) (Hg 2)<|Hm)<|Hm)<|Hq)<|We<|Ii (fC Z Q) C<|Hk (HD (Hw C) (Hg 1)<|Hm)<|Hk Hm<|Hk (HR Qm (HD (Hw C) (Hg 2)<|Hm)<|Hm)<|Hq)
theorem hV:Jt P w K mg base 1 "places_around" 1 Po:=JO (k:=0) Z (top 12) 3 ["place","x","y"] ["place"] λC f a A outer s H E Q=>Ir.out (HG (JS.mk<|IB 1 C<|HD (Hw Q) (Hg 0)<|Hm)<|HG (JS.mk<|IB 2 C<|HD (Hw Q) (Hg 0)<|Hm)<|HL<|JS.mk<|IS<|IY<|JA.out<|Ic (IY<|Hk (Hg 1)<|Hk (HR Jn (Hg 2)<|Hm)<|Hq)<|Ic (IY<|Hk (HR Jn (Hg 1)<|Hm)<|Hk (Hg 2)<|Hq)<|Ic (IY<|Hk (Hg 1)<|Hk (HR Qm (Hg 2)<|Hm)<|Hq)<|Ic (IY<|Hk (HR Qm (Hg 1)<|Hm)<|Hk (Hg 2)<|Hq)<|Lj)
theorem zi1:Jt P w K mg base 1 "sides_of" 2 Ur:=JO (k:=0) Z (top 13) 4 ["bed","kind","kinds"] ["bed","kind"] λQ f a A outer s H E C=>Ir.out (HG (JS.mk<|IB 2 Q<|HD (Hw C) (HD (Hw C) (Hg 0)<|Hm)<|Hm)<|HG (JM (cA Tx VI Hm (Hg 1)<|Kj Z LW LR<|Hk (Hg 2)<|Hq) (HL<|JS.mk<|IS<|OF (HD (Hw C) (Hg 2)<|Hg 1) (OC<|Hm)<|OB)<|JX)<|HL<|JS.mk<|IS<|IY<|JA.out<|Ic My<|Ic My<|Ic My<|Ic My<|Lj)
theorem zep:Jt P w K mg base 1 "kinds_by_place" 1 UL:=JO (k:=0) Z (top 14) 5 ["standing","kinds","x","y","kind"] ["standing"] λC f Q A outer s H E a=>Ir.out (HG (JS.mk<|IB 1 C<|Wm)<|HG (Kc AG rfl (Nc<|Hg 0) (Nw rfl<|Ks (sgn 2 C)<|Ks (sgn 3 C)<|Ks (sgn 4 C)<|Nz)<|HL<|JS.mk<|Ou (Hw a) (Hg 1) (IY<|Hk (Hg 2)<|Hk (Hg 3)<|Hq)<|Hg 4)<|HL<|JS.mk<|IS<|Hg 1)
theorem zfj:Jt P w K mg base 2 "names_facing" 3 UR:=JO (k:=1) Z (top 15) 6 ["bed","standing_kinds","place","names","side","near"] ["bed","standing_kinds","place"] λa f b A outer s H E C=>Ir.out (HG (JS.mk<|IB 3 a<|Kt<|Hq)<|HG (Kc AG rfl (aU rfl Z.b1<|Ii (hV Z Q) C<|Hk (Hg 2)<|Hq) (Nw rfl<|Ks (sgn 4 a)<|Ks (sgn 5 a)<|Nz)<|HL<|JM (VE (JY C) (Hg 5)<|Hg 1) (HL<|JS.mk<|Kr<|OE (Hg 3)<|Hk (HD (Hw C) (Ii (zi1 Z Q) C<|Hk (Hg 0)<|Hk (HD (Hw C) (Hg 1)<|Hg 5)<|Hq)<|HR Mh (HR Jn (Hg 4)<|Hm)<|Hm)<|Hq)<|HL<|JS.mk<|Kr<|OE (Hg 3)<|Hk My<|Hq)<|HL<|JS.mk<|IS<|Hg 3)
theorem zdm:Jt P w K mg base 1 "strength_together" 3 RO:=JO (k:=0) Z (top 16) 7 ["strengths","sides","names"] ["strengths","sides","names"] λd f c A outer s H E Q=>Ir.out (HL<|JS.mk<|IS<|Kj Z (dN rfl) ZF<|Hk (Oy rfl rfl (Mm (N':=["side","name","strengths"]) (nt:=2) (fr:=[0]) ["strengths"] rfl (by decide +kernel) (by decide +kernel) (by decide +kernel) rfl ⟨⟨rfl,by decide⟩,trivial⟩ ⟨by first|exact Br rfl|exact Bo rfl,trivial⟩) (pE rfl Z.b1 (Hg 1)<|Hg 2) (λC s0 a b=>Nw rfl (Ks (sgn 0 Si)<|Ks (sgn 1 Si)<|Nz)) (λC s0 a b=>VT (SW.sb<|Ov (JN (Oq<|JY Q) (Hg 0) (Hg 1) rfl)<|Qn<|JN (Nx<|JY Q) (Hg 0) My rfl)) λC s0 a b=>HD (Hw Q) (Hg 2) (Hg 0))<|Hq)
theorem zgb:Jt P w K mg base 2 "growings_at" 4 Uy:=JO (k:=1) Z (top 17) 8 ["bed","strengths","names","place","house","found","number","kind"] ["bed","strengths","names","place"] λa f b A outer s H E C=>Ir.out (HG (JS.mk<|IB 4 a<|HD (Hw C) (Hg 0)<|Hm)<|HG (JS.mk<|IB 5 a<|Kt<|Hq)<|HG (JM (Qj<|Tc<|Kj Z (zD rfl) kN<|Hk (Hg 2)<|Hq) (HL<|JS.mk<|IS<|Hg 5)<|JX)<|HG (Kc AG rfl (aU rfl Z.b1<|HD (Hw C) (Hg 4)<|Hm) (Nw rfl<|Ks (sgn 6 a)<|Ks (sgn 7 a)<|Nz)<|HL<|JM (JN QZ (Ii (zdm Z Q) C<|Hk (Hg 1)<|Hk (OF (Hg 7) (OC<|Hm)<|OB)<|Hk (Hg 2)<|Hq) (HD (Hw C) (Hg 4)<|Hm) rfl) (HL<|JS.mk<|Kr<|OE (Hg 5)<|Hk (IY<|Hk (HD (Hw C) (Hg 3)<|Hm)<|Hk (HD (Hw C) (Hg 3)<|Hm)<|Hk (Hg 6)<|Hq)<|Hq)<|JX)<|HL<|JS.mk<|IS<|Hg 5)
theorem Xt:LQ P w K mg base 3 C "look_at" 2 (Nf C):=NB (k:=2) Q (inClass (top 19) 1) 0 ["self","place","names","found"] ["self","place"] λb f c A outer s H E a=>Ir.out (HG (JS.mk<|Kr<|sA (Hw a) (Iy Q<|Hg 0) (Hg 1)<|Tu)<|HL<|JM (SW.sb<|Ov (RB (JY a) (Hg 1)<|Iy Q<|Hg 0)<|Qn<|Tc<|Ii (fB Z Q) a<|Hk (Iy Q<|Hg 0)<|Hk (Hg 1)<|Hq) (HG (JS.mk<|IB 2 b<|Ii (zfj Z Q) a<|Hk (Iy Q<|Hg 0)<|Hk (Iy Q<|Hg 0)<|Hk (Hg 1)<|Hq)<|HG (JS.mk<|IB 3 b<|Ii (zgb Z Q) a<|JA.out<|Ic (Iy Q<|Hg 0)<|Ic (Iy Q<|Hg 0)<|Ic (Hg 2)<|Ic (Hg 1)<|Lj)<|HL<|JM (Tt<|Hg 3) (HL<|JS.mk<|Ou (Hw a) (Iy Q<|Hg 0) (Hg 1)<|Hg 3)<|JX)<|JX)
theorem zeM:Th P w K mg base 4 C "Grow" 2 (UJ C):=wK (k:=3) Q (inClass (top 19) 0) 1 ["self","bed","x","y"] ["self","bed"] λb f c A outer s H E a=>Ir.out (HG (JS.mk<|QT Q (Hg 0)<|Hg 1)<|HG (JS.mk<|QT Q (Hg 0)<|Ms Z (fJ rfl) V1<|Hk (HD (Hw a) (HD (Hw a) (Hg 1)<|Hm)<|Hm)<|Hq)<|HG (JS.mk<|QT Q (Hg 0)<|Ii (zep Z Q) a<|Hk (HD (Hw a) (Hg 1)<|Hm)<|Hq)<|HG (JS.mk<|QT Q (Hg 0)<|Kt<|Hq)<|HG (JS.mk<|QT Q (Hg 0)<|Wm)<|HL<|Kc AG rfl (Ky rfl Z.b1<|HD (Hw a) (HD (Hw a) (Hg 1)<|Hm)<|Hm) (sgn 2 b)<|HL<|Kc AG rfl (Ky rfl Z.b1<|HD (Hw a) (HD (Hw a) (Hg 1)<|Hm)<|Hm) (sgn 3 b)<|HL<|JS.mk<|Kr<|Oz (Xt Z Q) Q.cl (a.mono<|by decide) (Hg 0) (Hk (IY<|Hk (Hg 2)<|Hk (Hg 3)<|Hq)<|Hq)<|Jl.cons Jl.nil)
theorem gW:LQ P w K mg base 4 C "look_around" 2 (OO C):=NB (k:=3) Q (inClass (top 19) 2) 2 ["self","place","near"] ["self","place"] λb f c A outer s H E a=>Ir.out (HG (JS.mk<|Kr<|Oz (Xt Z Q) Q.cl (a.mono<|by decide) (Hg 0) (Hk (Hg 1)<|Hq)<|Jl.cons Jl.nil)<|HL<|Kc AG rfl (Nc<|Ii (hV Z Q) a<|Hk (Hg 1)<|Hq) (sgn 2 b)<|HL<|JS.mk<|Kr<|Oz (Xt Z Q) Q.cl (a.mono<|by decide) (Hg 0) (Hk (Hg 2)<|Hq)<|Jl.cons Jl.nil)
theorem fA:LQ P w K mg base 5 C "lay" 2 (NG C):=NB (k:=4) Q (inClass (top 19) 3) 3 ["self","tile"] ["self","tile"] λc f b A outer s H E a=>Ir.out (HG (JS.mk<|Kr<|OE (Iy Q<|Hg 0)<|Hk (Hg 1)<|Hq)<|HG (JS.mk<|Ou (Hw a) (Iy Q<|Hg 0) (OF (Hg 1) OB<|OC<|Hm)<|HD (Hw a) (Hg 1)<|Hm)<|HL<|JS.mk<|Kr<|Oz (gW Z Q) Q.cl (a.mono<|by decide) (Hg 0) (Hk (OF (Hg 1) OB<|OC<|Hm)<|Hq)<|Jl.cons Jl.nil)
theorem zi3:LQ P w K mg base 6 C "put" 4 (Qu C):=NB (k:=5) Q (inClass (top 19) 4) 4 ["self","x","y","kind","place"] ["self","x","y","kind"] λb f c A outer s H E a=>Ir.out (HG (JS.mk<|IB 4 b<|IY<|Hk (Hg 1)<|Hk (Hg 2)<|Hq)<|HG (JM (Qj<|Tc<|Ii (fB Z Q) a<|Hk (Iy Q<|Hg 0)<|Hk (Hg 4)<|Hq) (HL<|Rp)<|JX)<|HG (JM (VE (JY a) (Hg 4)<|Iy Q<|Hg 0) (HL<|Rp)<|JX)<|HG (JM (Qj<|cA Tx VI Hm (Hg 3)<|Kj Z LW LR<|Hk (HD (Hw a) (HD (Hw a) (Iy Q<|Hg 0)<|Hm)<|Hm)<|Hq) (HL<|Rp)<|JX)<|HG (JM (RB (JY a) (IY<|Hk (Hg 1)<|Hk (Hg 2)<|Hk (Hg 3)<|Hq)<|rX (Hw a) (Iy Q<|Hg 0) (Hg 4)<|Kt<|Hq) (HL<|Rp)<|JX)<|HL<|JS.mk<|Kr<|Oz (fA Z Q) Q.cl (a.mono<|by decide) (Hg 0) (Hk (IY<|Hk (Hg 1)<|Hk (Hg 2)<|Hk (Hg 3)<|Hq)<|Hq)<|Jl.cons Jl.nil)
theorem eV:LQ P w K mg base 6 C "on" 1 (Ml C):=NB (k:=5) Q (inClass (top 19) 5) 5 ["self","tile"] ["self"] λb f c A outer s H E a=>Ir.out (HG (JM (Qj<|rS<|Iy Q<|Hg 0) (HL<|JS.mk<|IS<|Tu)<|JX)<|HG (JS.mk<|IB 1 b<|HD (Hw a) (HD (Hw a) (Iy Q<|Hg 0)<|Kj Z (zlb rfl<|Hw a) ZE<|Hk (Iy Q<|Hg 0)<|Hq)<|Hm)<|HG (JS.mk<|Kr<|Oz (fA Z Q) Q.cl (a.mono<|by decide) (Hg 0) (Hk (Hg 1)<|Hq)<|Jl.cons Jl.nil)<|HL<|JS.mk<|IS<|Hg 1)
theorem gG:LQ P w K mg base 5 C "back" 1 (OM C):=NB (k:=4) Q (inClass (top 19) 6) 6 ["self","tile"] ["self"] λb f c A outer s H E a=>Ir.out (HG (JM (Qj<|Tt<|Iy Q<|Hg 0) (HL<|Rp)<|JX)<|HG (JS.mk<|IB 1 b<|rZ<|Iy Q<|Hg 0)<|HG (JS.mk<|Kr<|sC (Hw a) (Iy Q<|Hg 0)<|OF (Hg 1) OB<|OC<|Hm)<|HG (JS.mk<|Kr<|Oz (gW Z Q) Q.cl (a.mono<|by decide) (Hg 0) (Hk (OF (Hg 1) OB<|OC<|Hm)<|Hq)<|Jl.cons Jl.nil)<|HL<|JS.mk<|IS<|Hg 1)
theorem XJ:LQ P w K mg base 1 C "standing" 1 (Mn C):=NB (k:=0) Q (inClass (top 19) 7) 7 ["self"] ["self"] λc f a A outer s H E b=>Ir.out (HL<|JS.mk<|IS<|Ms Z Pm OI<|Hk (Kj Z gB RA<|Hk (HR Jn (Ms Z (zld rfl) rN<|Hk (HD (Hw b) (Iy Q<|Hg 0)<|Hm)<|Hq)<|Iy Q<|Hg 0)<|Hq)<|Hq)
theorem Xi:LQ P w K mg base 1 C "row" 1 (Mi C):=NB (k:=0) Q (inClass (top 19) 8) 8 ["self"] ["self"] λb f a A outer s H E c=>Ir.out (HL<|JS.mk<|IS<|Ms Z Pm OI<|Hk (Iy Q<|Hg 0)<|Hq)
theorem gZ:LQ P w K mg base 1 C "growings" 1 (Ng C):=NB (k:=0) Q (inClass (top 19) 9) 9 ["self","found","place"] ["self"] λa f b A outer s H E c=>Ir.out (HG (JS.mk<|IB 1 a<|Kt<|Hq)<|HG (Kc AG rfl (Nc<|Kj Z (zg8 rfl) RA<|Hk (Iy Q<|Hg 0)<|Hq) (sgn 2 a)<|HL<|JS.mk<|Kr<|zlP (Hg 1)<|Hk (HD (Hw c) (Iy Q<|Hg 0)<|Hg 2)<|Hq)<|HL<|JS.mk<|IS<|Ms Z Pm OI<|Hk (Hg 1)<|Hq)
theorem zga:Jt P w K mg base 1 "_law_begin" 2 Xw:=JO (k:=0) Z (top 21) 9 ["_law_script","_law_k","_law_cell","_law_far","_law_own"] ["_law_script","_law_k"] λC f Q A outer s H E a=>Ir.out (HG (JS.mk<|IB 2 C<|qE (JN VI (Hg 1) (Kj Z LW LR<|Hk (Hg 0)<|Hq) rfl) (HD (Hw a) (Hg 0)<|Hg 1)<|Hm)<|HG (JS.mk<|IB 3 C<|HR Rh (HR Rh (HR Rh (HR Rh (HR Ql Hm<|Hm)<|HR Ql Hm<|Hm)<|HR Ql Hm<|Hm)<|HR Ql Hm<|Hm)<|HR Ql Hm<|Hm)<|HG (JS.mk<|IB 4 C<|HR Rh (HR Mh (Hg 2)<|Hg 3)<|Ms Z zE ZD<|Hk (VU QZ (Hg 2) (HR Ql Hm<|Hm) rfl)<|Hq)<|HL<|JS.mk<|IS<|Kt<|Hk (Hg 4)<|Hk (HR Mh (HR Jn (HR Mh (Hg 2)<|Hm)<|HR LV Hm<|Hg 1)<|Hm)<|Hk Hm<|Hq)
theorem JW:Jt P w K mg base 1 "_law_draw" 2 Io:=JO (k:=0) Z (top 22) 10 ["_law_pot","_law_many","_law_digit","_law_mixed"] ["_law_pot","_law_many"] λQ f a A outer s H E C=>Ir.out (HG (JM (JN nV (HD (Hw C) (Hg 0)<|Hm) Hm rfl) (HG (JS.mk<|IB 2 Q<|HR Mh (HD (Hw C) (Hg 0)<|Hm)<|Hg 1)<|HG (JS.mk<|Ou (Hw C) (Hg 0) Hm<|HR Wi (HD (Hw C) (Hg 0)<|Hm)<|Hg 1)<|HL<|JS.mk<|IS<|Hg 2)<|JX)<|HG (JS.mk<|Ou (Hw C) (Hg 0) Hm<|HR Jn (HD (Hw C) (Hg 0)<|Hm)<|Hm)<|HG (JS.mk<|IB 3 Q<|HR Mh (HR LV (HR Jn (HR Jn (HD (Hw C) (Hg 0)<|Hm)<|HR LV (HR LV Hm<|HD (Hw C) (Hg 0)<|Hm)<|HD (Hw C) (Hg 0)<|Hm)<|HR LV Hm<|HD (Hw C) (Hg 0)<|Hm)<|Hm)<|Hm)<|HG (JS.mk<|IB 3 Q<|HR Mh (HR LV (Hg 3)<|HR Jn (HR Mh (Hg 3)<|Hm)<|HR LV Hm<|HD (Hw C) (Hg 0)<|Hm)<|Hm)<|HL<|JS.mk<|IS<|HR Mh (HR Jn (HR Wi (Hg 3)<|Hm)<|HR Wi (Hg 3)<|Hm)<|Hg 1)
theorem zf7:Jt P w K mg base 2 "_law_names" 2 Xz:=JO (k:=1) Z (top 23) 11 ["_law_pot","_law_many","_law_letters","_law_first","_law_step_here"] ["_law_pot","_law_many"] λd f e A outer s H E a=>Ir.out (HG (JS.mk<|IB 2 d<|My)<|HG (JS.mk<|VO (IY<|Hk (Ii (JW Z Q) a<|Hk (Hg 0)<|Hk Hm<|Hq)<|Hk (HD (Hw a) (Kt<|JA.out<|Ic Hm<|Ic Hm<|Ic Hm<|Ic Hm<|Ic Hm<|Ic Hm<|Lj)<|Ii (JW Z Q) a<|Hk (Hg 0)<|Hk Hm<|Hq)<|Hq)<|Nw rfl<|Ks (sgn 3 d)<|Ks (sgn 4 d)<|Nz)<|HG (JM (JN (Oq<|JY a) (Ii (JW Z Q) a<|Hk (Hg 0)<|Hk Hm<|Hq) Hm rfl) (HL<|JS.mk<|IS<|Oy rfl rfl (Mm (N':=["_law_k","_law_letters","_law_first"]) (nt:=1) (fr:=[2,3]) ["_law_letters","_law_first"] rfl (by decide +kernel) (by decide +kernel) (by decide +kernel) rfl ⟨⟨rfl,by decide⟩,⟨⟨rfl,by decide⟩,trivial⟩⟩ ⟨by first|exact Br rfl|exact Bo rfl,⟨by first|exact Br rfl|exact Bo rfl,trivial⟩⟩) (Ky rfl Z.b1<|Hg 1) (λC s0 b c=>sgn 0 kJ) (λC s0 b c=>Nv) λC s0 b c=>HR LV (HD (Hw a) (Hg 1)<|Hg 2) (HR Jn (Hg 0)<|Hm))<|JX)<|HL<|JS.mk<|IS<|Kj Z Xe RA<|Hk (Oy rfl rfl (Mm (N':=["_law_k","_law_letters","_law_first","_law_step_here"]) (nt:=1) (fr:=[2,3,4]) ["_law_letters","_law_first","_law_step_here"] rfl (by decide +kernel) (by decide +kernel) (by decide +kernel) rfl ⟨⟨rfl,by decide⟩,⟨⟨rfl,by decide⟩,⟨⟨rfl,by decide⟩,trivial⟩⟩⟩ ⟨by first|exact Br rfl|exact Bo rfl,⟨by first|exact Br rfl|exact Bo rfl,⟨by first|exact Br rfl|exact Bo rfl,trivial⟩⟩⟩) (Ky rfl Z.b1<|Hg 1) (λC s0 b c=>sgn 0 iL) (λC s0 b c=>Nv) λC s0 b c=>HR LV (HD (Hw a) (Hg 1)<|HR Mh (HR Jn (Hg 2)<|HR LV (Hg 3)<|Hg 0)<|Hm) (HR Jn Hm<|HR Mh (HR Jn (HR LV (Hg 0)<|Hg 0)<|Hg 2)<|Hm))<|Hq)
theorem zgO:Jt P w K mg base 2 "_law_kind" 2 W9:=JO (k:=1) Z (top 24) 12 ["_law_pot","_law_names_here","_law_face","_law_sides_here"] ["_law_pot","_law_names_here"] λb f e A outer s H E a=>Ir.out (HG (JS.mk<|IB 2 b<|HD (Hw a) (Kt<|Hk My<|Hk (HD (Hw a) My<|Ii (JW Z Q) a<|Hk (Hg 0)<|Hk Hm<|Hq)<|Hq)<|Ii (JW Z Q) a<|Hk (Hg 0)<|Hk Hm<|Hq)<|HG (JS.mk<|UG (i:=3) rfl rfl (Mm (N':=["_law_side","_law_names_here","_law_pot"]) (nt:=1) (fr:=[1,0]) ["_law_names_here","_law_pot"] rfl (by decide +kernel) (by decide +kernel) (by decide +kernel) rfl ⟨⟨rfl,by decide⟩,⟨⟨rfl,by decide⟩,trivial⟩⟩ ⟨by first|exact Br rfl|exact Bo rfl,⟨by first|exact Br rfl|exact Bo rfl,trivial⟩⟩) (Ky rfl Z.b1<|Hm) (λC s0 c d=>sgn 0 iM) (λC s0 c d=>Nv) (λC s0 c d=>HD (Hw a) (HR Jn (Kt<|Hk My<|Hq)<|Hg 1) (Ii (JW Z Q) a<|Hk (Hg 2)<|Hk (HR Jn (Kj Z LW LR<|Hk (Hg 1)<|Hq)<|Hm)<|Hq)) b rfl rfl)<|HL<|JS.mk<|IS<|IY<|JA.out<|Ic (Hg 2)<|Ic (HD (Hw a) (Hg 3)<|Hm)<|Ic (HD (Hw a) (Hg 3)<|Hm)<|Ic (HD (Hw a) (Hg 3)<|Hm)<|Ic (HD (Hw a) (Hg 3)<|Hm)<|Lj)
theorem zf8:Jt P w K mg base 3 "_law_house" 1 Xy:=JO (k:=2) Z (top 25) 13 ["_law_pot","_law_names_here","_law_enough","_law_sticks","_law_kinds"] ["_law_pot"] λd f e A outer s H E a=>Ir.out (HG (JS.mk<|IB 1 d<|Ii (zf7 Z Q) a<|Hk (Hg 0)<|Hk (HR Jn Hm<|Ii (JW Z Q) a<|Hk (Hg 0)<|Hk Hm<|Hq)<|Hq)<|HG (JS.mk<|IB 2 d<|HD (Hw a) (Kt<|JA.out<|Ic Hm<|Ic Hm<|Ic Hm<|Ic Hm<|Ic Hm<|Ic Hm<|Ic Hm<|Ic Hm<|Lj)<|Ii (JW Z Q) a<|Hk (Hg 0)<|Hk Hm<|Hq)<|HG (JS.mk<|IB 3 d<|Ms Z Pm OI<|Hk (Oy rfl rfl (Mm (N':=["_law_name","_law_pot"]) (nt:=1) (fr:=[0]) ["_law_pot"] rfl (by decide +kernel) (by decide +kernel) (by decide +kernel) rfl ⟨⟨rfl,by decide⟩,trivial⟩ ⟨by first|exact Br rfl|exact Bo rfl,trivial⟩) (Nc<|Hg 1) (λC s0 b c=>sgn 0 iN) (λC s0 b c=>Nv) λC s0 b c=>IY (Hk (Hg 0)<|Hk (HD (Hw a) (Kt<|JA.out<|Ic Hm<|Ic Hm<|Ic Hm<|Ic (HR Jn Hm<|Ii (JW Z Q) a<|Hk (Hg 1)<|Hk Hm<|Hq)<|Lj)<|Ii (JW Z Q) a<|Hk (Hg 1)<|Hk Hm<|Hq)<|Hq))<|Hq)<|HG (JS.mk<|UG (i:=4) rfl rfl (Mm (N':=["_law_k","_law_pot","_law_names_here"]) (nt:=1) (fr:=[0,1]) ["_law_pot","_law_names_here"] rfl (by decide +kernel) (by decide +kernel) (by decide +kernel) rfl ⟨⟨rfl,by decide⟩,⟨⟨rfl,by decide⟩,trivial⟩⟩ ⟨by first|exact Br rfl|exact Bo rfl,⟨by first|exact Br rfl|exact Bo rfl,trivial⟩⟩) (Ky rfl Z.b1<|HR Jn Hm<|Ii (JW Z Q) a<|Hk (Hg 0)<|Hk (HD (Hw a) (Kt<|JA.out<|Ic Hm<|Ic Hm<|Ic Hm<|Ic Hm<|Lj)<|Ii (JW Z Q) a<|Hk (Hg 0)<|Hk Hm<|Hq)<|Hq) (λC s0 b c=>sgn 0 iO) (λC s0 b c=>Nv) (λC s0 b c=>Ii (zgO Z Q) a (Hk (Hg 1)<|Hk (Hg 2)<|Hq)) d rfl rfl)<|HG (JM (JN (Oq<|JY a) (Ii (JW Z Q) a<|Hk (Hg 0)<|Hk Hm<|Hq) Hm rfl) (HL<|JS.mk<|Kr<|OE (Hg 4)<|Hk (HD (Hw a) (Hg 4)<|Ii (JW Z Q) a<|Hk (Hg 0)<|Hk (Kj Z LW LR<|Hk (Hg 4)<|Hq)<|Hq)<|Hq)<|JX)<|HL<|JS.mk<|IS<|IY<|Hk (Hg 2)<|Hk (Hg 3)<|Hk (Ms Z Pm OI<|Hk (Hg 4)<|Hq)<|Hq)
theorem zen:Jt P w K mg base 2 "_law_standing" 4 RL:=JO (k:=1) Z (top 26) 14 ["_law_pot","_law_house_here","_law_floor","_law_most","_law_there","_law_k","_law_place"] ["_law_pot","_law_house_here","_law_floor","_law_most"] λb f e A outer s H E a=>Ir.out (HG (JS.mk<|IB 4 b<|Wm)<|HG (Kc AG rfl (Ky rfl Z.b1<|Ii (JW Z Q) a<|Hk (Hg 0)<|Hk (HR Jn (Hg 3)<|Hm)<|Hq) (sgn 5 b)<|HG (JS.mk<|IB 6 b<|IY<|Hk (Ii (JW Z Q) a<|Hk (Hg 0)<|Hk (HD (Hw a) (Hg 2)<|Hm)<|Hq)<|Hk (Ii (JW Z Q) a<|Hk (Hg 0)<|Hk (HD (Hw a) (Hg 2)<|Hm)<|Hq)<|Hq)<|HL<|JS.mk<|Ou (Hw a) (Hg 4) (Hg 6)<|Ii (JW Z Q) a<|Hk (Hg 0)<|Hk (Kj Z LW LR<|Hk (HD (Hw a) (Hg 1)<|Hm)<|Hq)<|Hq)<|HL<|JS.mk<|IS<|Ms Z Pm OI<|Hk (Kj Z Xe RA<|Hk (Oy rfl rfl (Mm (N':=["_law_place","_law_there"]) (nt:=1) (fr:=[4]) ["_law_there"] rfl (by decide +kernel) (by decide +kernel) (by decide +kernel) rfl ⟨⟨rfl,by decide⟩,trivial⟩ ⟨by first|exact Br rfl|exact Bo rfl,trivial⟩) (aV<|Hg 4) (λC s0 c d=>sgn 0 Ze) (λC s0 c d=>Nv) λC s0 c d=>HR Jn (Hg 0) (IY<|Hk (cB (Hw a) (Hg 1)<|Hg 0)<|Hq))<|Hq)<|Hq)
theorem zhA:Jt P w K mg base 4 "_law_bed" 1 Xl:=JO (k:=3) Z (top 27) 15 ["_law_pot","_law_house_here","_law_floor"] ["_law_pot"] λa f b A outer s H E C=>Ir.out (HG (JS.mk<|IB 1 a<|Ii (zf8 Z Q) C<|Hk (Hg 0)<|Hq)<|HG (JS.mk<|IB 2 a<|IY<|Hk (HR Jn Hm<|Ii (JW Z Q) C<|Hk (Hg 0)<|Hk Hm<|Hq)<|Hk (HR Jn Hm<|Ii (JW Z Q) C<|Hk (Hg 0)<|Hk (HD (Hw C) (Kt<|JA.out<|Ic Hm<|Ic Hm<|Ic Hm<|Ic Hm<|Lj)<|Ii (JW Z Q) C<|Hk (Hg 0)<|Hk Hm<|Hq)<|Hq)<|Hq)<|HG (JM (JN (Oq<|JY C) (Ii (JW Z Q) C<|Hk (Hg 0)<|Hk Hm<|Hq) Hm rfl) (HL<|JS.mk<|IB 2 a<|sD (Hg 2)<|oY<|Hm)<|JX)<|HL<|JS.mk<|IS<|IY<|Hk (Hg 1)<|Hk (Hg 2)<|Hk (Ii (zen Z Q) C<|JA.out<|Ic (Hg 0)<|Ic (Hg 1)<|Ic (Hg 2)<|Ic (HD (Hw C) (Kt<|Hk Hm<|Hk Hm<|Hk Hm<|Hq)<|Ii (JW Z Q) C<|Hk (Hg 0)<|Hk Hm<|Hq)<|Lj)<|Hq)
theorem XE:Jt P w K mg base 1 "_law_lying" 1 Qz:=JO (k:=0) Z (top 28) 16 ["_law_standing_here"] ["_law_standing_here"] λd f b A outer s H E c=>Ir.out (HL<|JS.mk<|IS<|Ms Z (zjf rfl<|jE c) V1<|Hk (Oy rfl rfl (cS ["_law_x","_law_y","_law_kind_here"] 3 [] []) (Nc<|Hg 0) (λC s0 Q a=>Nw rfl (Ks (sgn 0 Vl)<|Ks (sgn 1 Vl)<|Ks (sgn 2 Vl)<|Nz)) (λC s0 Q a=>Nv) λC s0 Q a=>IY (Hk (IY<|Hk (Hg 0)<|Hk (Hg 1)<|Hq)<|Hk (Hg 2)<|Hq))<|Hq)
theorem zdn:Jt P w K mg base 1 "_law_standing_of" 1 XH:=JO (k:=0) Z (top 29) 17 ["_law_there"] ["_law_there"] λd f b A outer s H E c=>Ir.out (HL<|JS.mk<|IS<|Ms Z Pm OI<|Hk (Kj Z gB RA<|Hk (sE<|Oy rfl rfl (Mm (N':=["_law_place","_law_there"]) (nt:=1) (fr:=[0]) ["_law_there"] rfl (by decide +kernel) (by decide +kernel) (by decide +kernel) rfl ⟨⟨rfl,by decide⟩,trivial⟩ ⟨by first|exact Br rfl|exact Bo rfl,trivial⟩) (aV<|Hg 0) (λC s0 Q a=>sgn 0 Ze) (λC s0 Q a=>Nv) λC s0 Q a=>HR Jn (Hg 0) (IY<|Hk (cB (Hw c) (Hg 1)<|Hg 0)<|Hq))<|Hq)<|Hq)
theorem fZ:Jt P w K mg base 1 "_law_step" 2 NI:=JO (k:=0) Z (top 30) 18 ["_law_place","_law_side","_law_x","_law_y"] ["_law_place","_law_side"] λC f Q A outer s H E a=>Ir.out (HG (JS.mk<|VO (Hg 0)<|Nw rfl<|Ks (sgn 2 C)<|Ks (sgn 3 C)<|Nz)<|HL<|JS.mk<|IS<|HD (Hw a) (Kt<|JA.out<|Ic (IY<|Hk (Hg 2)<|Hk (HR Jn (Hg 3)<|Hm)<|Hq)<|Ic (IY<|Hk (HR Jn (Hg 2)<|Hm)<|Hk (Hg 3)<|Hq)<|Ic (IY<|Hk (Hg 2)<|Hk (HR Qm (Hg 3)<|Hm)<|Hq)<|Ic (IY<|Hk (HR Qm (Hg 2)<|Hm)<|Hk (Hg 3)<|Hq)<|Lj)<|Hg 1)
theorem zf6:Jt P w K mg base 2 "_law_sides" 4 XA:=JO (k:=1) Z (top 31) 19 ["_law_bed_here","_law_there","_law_place","_law_kind_here","_law_kinds","_law_found","_law_side","_law_other","_law_mine"] ["_law_bed_here","_law_there","_law_place","_law_kind_here"] λa f b A outer s H E C=>Ir.out (HG (JS.mk<|ZH (i:=4) (j:=5) rfl a rfl rfl (!1) rfl rfl<|Hk (HD (Hw C) (HD (Hw C) (Hg 0)<|Hm)<|Hm)<|Hk (Kt<|Hq)<|Hq)<|HG (Kc AG rfl (Ky rfl Z.b1<|Hm) (sgn 6 a)<|HG (JS.mk<|IB 7 a<|rW (Hw C) (Hg 1)<|Ii (fZ Z Q) C<|Hk (Hg 2)<|Hk (Hg 6)<|Hq)<|HG (JS.mk<|IB 8 a<|HD (Hw C) (HD (Hw C) (Hg 4)<|Hg 3)<|HR Jn (Hg 6)<|Hm)<|HL<|JM (SW.sb<|Ov (JN bH (Hg 7) Tu rfl)<|Ov (JN (Nx<|JY C) (Hg 8) My rfl)<|Qn<|JN (Oq<|JY C) (HD (Hw C) (HD (Hw C) (Hg 4)<|Hg 7)<|HR Jn (HR Mh (HR Jn (Hg 6)<|Hm)<|Hm)<|Hm) (Hg 8) rfl) (HL<|JS.mk<|Kr<|OE (Hg 5)<|Hk (Hg 6)<|Hq)<|JX)<|HL<|JS.mk<|IS<|Hg 5)
theorem Xj:Jt P w K mg base 3 "_law_by" 4 Nd:=JO (k:=2) Z (top 32) 20 ["_law_bed_here","_law_there","_law_place","_law_kind_here","_law_sides_here","_law_strengths"] ["_law_bed_here","_law_there","_law_place","_law_kind_here"] λb f e A outer s H E a=>Ir.out (HG (JS.mk<|IB 4 b<|Ii (zf6 Z Q) a<|JA.out<|Ic (Hg 0)<|Ic (Hg 1)<|Ic (Hg 2)<|Ic (Hg 3)<|Lj)<|HG (JM (JN (Oq<|JY a) (Hg 4) (Kt<|Hq) rfl) (HL<|JS.mk<|IS<|Hm)<|JX)<|HG (JS.mk<|IB 5 b<|Ms Z (fJ rfl) V1<|Hk (HD (Hw a) (HD (Hw a) (Hg 0)<|Hm)<|Hm)<|Hq)<|HL<|JS.mk<|IS<|Kj Z (dN rfl) ZF<|Hk (Oy rfl rfl (Mm (N':=["_law_side","_law_strengths","_law_bed_here","_law_kind_here"]) (nt:=1) (fr:=[5,0,3]) ["_law_strengths","_law_bed_here","_law_kind_here"] rfl (by decide +kernel) (by decide +kernel) (by decide +kernel) rfl ⟨⟨rfl,by decide⟩,⟨⟨rfl,by decide⟩,⟨⟨rfl,by decide⟩,trivial⟩⟩⟩ ⟨by first|exact Br rfl|exact Bo rfl,⟨by first|exact Br rfl|exact Bo rfl,⟨by first|exact Br rfl|exact Bo rfl,trivial⟩⟩⟩) (Nc<|Hg 4) (λC s0 c d=>sgn 0 iP) (λC s0 c d=>Nv) λC s0 c d=>HD (Hw a) (Hg 1) (HD (Hw a) (HD (Hw a) (HD (Hw a) (HD (Hw a) (Hg 2)<|Hm)<|Hm)<|Hg 3)<|HR Jn (Hg 0)<|Hm))<|Hq)
theorem zf9:Jt P w K mg base 2 "_law_empty" 2 Uz:=JO (k:=1) Z (top 33) 21 ["_law_bed_here","_law_there","_law_found","_law_x","_law_y","_law_beside"] ["_law_bed_here","_law_there"] λb f e A outer s H E a=>Ir.out (HG (JS.mk<|IB 2 b<|Kt<|Hq)<|HG (Kc AG rfl (Ky rfl Z.b1<|HD (Hw a) (HD (Hw a) (Hg 0)<|Hm)<|Hm) (sgn 3 b)<|HL<|Kc AG rfl (Ky rfl Z.b1<|HD (Hw a) (HD (Hw a) (Hg 0)<|Hm)<|Hm) (sgn 4 b)<|HG (JS.mk<|UG (i:=5) rfl rfl (Mm (N':=["_law_side","_law_x","_law_y","_law_there"]) (nt:=1) (fr:=[3,4,1]) ["_law_x","_law_y","_law_there"] rfl (by decide +kernel) (by decide +kernel) (by decide +kernel) rfl ⟨⟨rfl,by decide⟩,⟨⟨rfl,by decide⟩,⟨⟨rfl,by decide⟩,trivial⟩⟩⟩ ⟨by first|exact Br rfl|exact Bo rfl,⟨by first|exact Br rfl|exact Bo rfl,⟨by first|exact Br rfl|exact Bo rfl,trivial⟩⟩⟩) (Ky rfl Z.b1<|Hm) (λC s0 c d=>sgn 0 iQ) (λC s0 c d=>VT (VE (JY a) (Ii (fZ Z Q) a<|Hk (IY<|Hk (Hg 1)<|Hk (Hg 2)<|Hq)<|Hk (Hg 0)<|Hq)<|Hg 3)) (λC s0 c d=>Hg 0) b rfl rfl)<|HL<|JM (SW.sb<|Ov (RB (JY a) (IY<|Hk (Hg 3)<|Hk (Hg 4)<|Hq)<|Hg 1)<|Qn<|JN (Nx<|JY a) (Hg 5) (Kt<|Hq) rfl) (HL<|JS.mk<|Kr<|OE (Hg 2)<|Hk (IY<|Hk (Hg 3)<|Hk (Hg 4)<|Hq)<|Hq)<|JX)<|HL<|JS.mk<|IS<|Hg 2)
theorem zhz:Jt P w K mg base 4 "_law_may" 2 UD:=JO (k:=3) Z (top 34) 22 ["_law_bed_here","_law_there","_law_found","_law_place","_law_kind_here"] ["_law_bed_here","_law_there"] λa f b A outer s H E C=>Ir.out (HG (JS.mk<|IB 2 a<|Kt<|Hq)<|HG (Kc AG rfl (Nc<|Ii (zf9 Z Q) C<|Hk (Hg 0)<|Hk (Hg 1)<|Hq) (sgn 3 a)<|HL<|Kc AG rfl (Ky rfl Z.b1<|Kj Z LW LR<|Hk (HD (Hw C) (HD (Hw C) (Hg 0)<|Hm)<|Hm)<|Hq) (sgn 4 a)<|HL<|JM (JN QZ (Ii (Xj Z Q) C<|JA.out<|Ic (Hg 0)<|Ic (Hg 1)<|Ic (Hg 3)<|Ic (Hg 4)<|Lj) (HD (Hw C) (HD (Hw C) (Hg 0)<|Hm)<|Hm) rfl) (HL<|JS.mk<|Kr<|OE (Hg 2)<|Hk (HR Jn (Hg 3)<|IY<|Hk (Hg 4)<|Hq)<|Hq)<|JX)<|HL<|JS.mk<|IS<|Hg 2)
theorem zeJ:Jt P w K mg base 4 "_law_without" 3 UK:=JO (k:=3) Z (top 35) 23 ["_law_bed_here","_law_tiles","_law_place","_law_there","_law_grows","_law_x","_law_y","_law_kind_here"] ["_law_bed_here","_law_tiles","_law_place"] λa f b A outer s H E C=>Ir.out (HG (JS.mk<|IB 3 a<|Ii (XE Z Q) C<|Hk (HD (Hw C) (Hg 0)<|Hm)<|Hq)<|HG (JS.mk<|IB 4 a<|Nq)<|HG (vB AG (Tt<|Hg 4)<|HG (JS.mk<|IB 4 a<|Nq)<|HL<|Kc AG rfl (Nc<|Hg 1) (Nw rfl<|Ks (sgn 5 a)<|Ks (sgn 6 a)<|Ks (sgn 7 a)<|Nz)<|HL<|JM (SW.sb<|Ov (JN (Nx<|JY C) (IY<|Hk (Hg 5)<|Hk (Hg 6)<|Hq) (Hg 2) rfl)<|Ov (RB (JY C) (IY<|Hk (Hg 5)<|Hk (Hg 6)<|Hq)<|Hg 3)<|Qn<|JN QZ (Ii (Xj Z Q) C<|JA.out<|Ic (Hg 0)<|Ic (Hg 3)<|Ic (IY<|Hk (Hg 5)<|Hk (Hg 6)<|Hq)<|Ic (Hg 7)<|Lj) (HD (Hw C) (HD (Hw C) (Hg 0)<|Hm)<|Hm) rfl) (HG (JS.mk<|Ou (Hw C) (Hg 3) (IY<|Hk (Hg 5)<|Hk (Hg 6)<|Hq)<|Hg 7)<|HL<|JS.mk<|IB 4 a<|Nq)<|JX)<|HL<|JS.mk<|IS<|Hg 3)
theorem zfi:Jt P w K mg base 5 "_law_end_of" 1 XD:=JO (k:=4) Z (top 36) 24 ["_law_bed_here","_law_there","_law_k","_law_some","_law_tile"] ["_law_bed_here"] λa f b A outer s H E C=>Ir.out (HG (JS.mk<|IB 1 a<|Ii (XE Z Q) C<|Hk (HD (Hw C) (Hg 0)<|Hm)<|Hq)<|HG (Kc AG rfl (Ky rfl Z.b1<|HR LV (HD (Hw C) (HD (Hw C) (Hg 0)<|Hm)<|Hm)<|HD (Hw C) (HD (Hw C) (Hg 0)<|Hm)<|Hm) (sgn 2 a)<|HG (JS.mk<|IB 3 a<|Ii (zhz Z Q) C<|Hk (Hg 0)<|Hk (Hg 1)<|Hq)<|HL<|Kc AG rfl (Nc<|OF (Hg 3) OB<|OC<|Hm) (sgn 4 a)<|HL<|JS.mk<|Ou (Hw C) (Hg 1) (OF (Hg 4) OB<|OC<|Hm)<|HD (Hw C) (Hg 4)<|Hm)<|HL<|JS.mk<|IS<|Ii (zdn Z Q) C<|Hk (Hg 1)<|Hq)
theorem zeK:Jt P w K mg base 5 "_law_is_sure" 2 Xr:=JO (k:=4) Z (top 37) 25 ["_law_bed_here","_law_end","_law_seeds","_law_x","_law_y","_law_kind_here","_law_there","_law_some"] ["_law_bed_here","_law_end"] λb f e A outer s H E a=>Ir.out (HG (JS.mk<|IB 2 b<|Ii (XE Z Q) a<|Hk (HD (Hw a) (Hg 0)<|Hm)<|Hq)<|HG (Kc AG rfl (Nc<|Hg 1) (Nw rfl<|Ks (sgn 3 b)<|Ks (sgn 4 b)<|Ks (sgn 5 b)<|Nz)<|HL<|JM (RB (JY a) (IY<|Hk (Hg 3)<|Hk (Hg 4)<|Hq)<|Hg 2) (HG (JS.mk<|IB 6 b<|Ii (zeJ Z Q) a<|Hk (Hg 0)<|Hk (Hg 1)<|Hk (IY<|Hk (Hg 3)<|Hk (Hg 4)<|Hq)<|Hq)<|HG (JS.mk<|UG (i:=7) rfl rfl (Mm (N':=["_law_one","_law_bed_here","_law_there","_law_x","_law_y"]) (nt:=1) (fr:=[0,6,3,4]) ["_law_bed_here","_law_there","_law_x","_law_y"] rfl (by decide +kernel) (by decide +kernel) (by decide +kernel) rfl ⟨⟨rfl,by decide⟩,⟨⟨rfl,by decide⟩,⟨⟨rfl,by decide⟩,⟨⟨rfl,by decide⟩,trivial⟩⟩⟩⟩ ⟨by first|exact Br rfl|exact Bo rfl,⟨by first|exact Br rfl|exact Bo rfl,⟨by first|exact Br rfl|exact Bo rfl,⟨by first|exact Br rfl|exact Bo rfl,trivial⟩⟩⟩⟩) (Ky rfl Z.b1<|Kj Z LW LR<|Hk (HD (Hw a) (HD (Hw a) (Hg 0)<|Hm)<|Hm)<|Hq) (λC s0 c d=>sgn 0 iR) (λC s0 c d=>VT (JN QZ (Ii (Xj Z Q) a<|JA.out<|Ic (Hg 1)<|Ic (Hg 2)<|Ic (IY<|Hk (Hg 3)<|Hk (Hg 4)<|Hq)<|Ic (Hg 0)<|Lj) (HD (Hw a) (HD (Hw a) (Hg 1)<|Hm)<|Hm) rfl)) (λC s0 c d=>Hg 0) b rfl rfl)<|HL<|JM (JN (Nx<|JY a) (Hg 7) (Kt<|Hk (Hg 5)<|Hq) rfl) (HL<|JS.mk<|IS<|Nq)<|JX)<|JX)<|HL<|JS.mk<|IS<|Nq)
theorem zeo:Jt P w K mg base 7 "_law_grown_on" 3 (RK C):=JO (k:=6) Z (top 38) 26 ["_law_pot","_law_keeper","_law_most","_law_turn","_law_some","_law_tile"] ["_law_pot","_law_keeper","_law_most"] λb f c A outer s H E a=>Ir.out (HG (Kc AG rfl (Ky rfl Z.b1<|Hg 2) (sgn 3 b)<|HG (JS.mk<|IB 4 b<|Mj (gZ Z Q) Q.cl (a.mono<|by decide)<|Hg 1)<|HL<|JM (JN (ZN<|JY a) (Hg 4) (IY<|Hq) rfl) (HG (JS.mk<|IB 5 b<|HD (Hw a) (Hg 4)<|Ii (JW Z Q) a<|Hk (Hg 0)<|Hk (Kj Z LW LR<|Hk (Hg 4)<|Hq)<|Hq)<|HL<|JS.mk<|Kr<|Oz (zi3 Z Q) Q.cl (a.mono<|by decide) (Hg 1) (Hk (HD (Hw a) (Hg 5)<|Hm)<|Hk (HD (Hw a) (Hg 5)<|Hm)<|Hk (HD (Hw a) (Hg 5)<|Hm)<|Hq)<|Jl.cons<|Jl.cons<|Jl.cons Jl.nil)<|JX)<|HL<|JS.mk<|IS<|VU (nU<|JY a) (Mj (gZ Z Q) Q.cl (a.mono<|by decide)<|Hg 1) (IY<|Hq) rfl)
theorem kW{f:Addr}{fd:FuncData}(F:Mt K "law" "law" (top 39) f fd):Jd P w K mg base KA 8 f fd ["_law_script"] (MK K 1<|Va C):=jY (k:=7) F ["_law_script","_law_k","_law_pot","_law_bed_here","_law_end","_law_most","_law_sure","_law_keeper","_law_turn","_law_again"] ["_law_script"] λb c A outer s H E a=>Ir.out (HG (Kc AG rfl (Ky rfl Z.b1<|HR Jn Hm<|Kj Z (zG rfl) ZE<|Hk Hm<|Hk (Kj Z LW LR<|Hk (Hg 0)<|Hq)<|Hq) (sgn 1 b)<|HG (JS.mk<|IB 2 b<|Ii (zga Z Q) a<|Hk (Hg 0)<|Hk (Hg 1)<|Hq)<|HG (JS.mk<|IB 3 b<|Ii (zhA Z Q) a<|Hk (Hg 2)<|Hq)<|HG (JS.mk<|ZH (i:=4) (j:=5) rfl b rfl rfl (!1) rfl rfl<|Hk (Ii (zfi Z Q) a<|Hk (Hg 3)<|Hq)<|Hk (HR LV (HD (Hw a) (HD (Hw a) (Hg 3)<|Hm)<|Hm)<|HD (Hw a) (HD (Hw a) (Hg 3)<|Hm)<|Hm)<|Hq)<|HG (JS.mk<|IB 6 b<|Ii (zeK Z Q) a<|Hk (Hg 3)<|Hk (Hg 4)<|Hq)<|HG (JS.mk<|IB 7 b<|xV (zeM Z Q) (a.mono<|by decide) rfl (Hk (Hg 3)<|Hq)<|Jl.cons Jl.nil)<|HG (Kc AG rfl (Ky rfl Z.b1<|HR Jn Hm<|Ii (JW Z Q) a<|Hk (Hg 2)<|Hk Hm<|Hq) (sgn 8 b)<|HG (JM (SW.sb<|Vo (Qj<|Tc<|Ii (zeo Z Q) a<|Hk (Hg 2)<|Hk (Hg 7)<|Hk (Hg 5)<|Hq)<|VQ<|SW.sb<|Ov (Tt<|Hg 6)<|Qn<|JN (Nx<|JY a) (Mj (XJ Z Q) Q.cl (a.mono<|by decide)<|Hg 7) (Hg 4) rfl) (HL<|JS.mk<|IS<|Nq)<|JX)<|HL<|Kc AG rfl (Ky rfl Z.b1<|Ii (JW Z Q) a<|Hk (Hg 2)<|Hk (HR Jn (Kj Z LW LR<|Hk (Mj (Xi Z Q) Q.cl (a.mono<|by decide)<|Hg 7)<|Hq)<|Hm)<|Hq) (sgn 9 b)<|HL<|JS.mk<|Kr<|Mj (gG Z Q) Q.cl (a.mono<|by decide)<|Hg 7)<|HG (Kc AG rfl (Ky rfl Z.b1<|Kj Z LW LR<|Hk (Mj (Xi Z Q) Q.cl (a.mono<|by decide)<|Hg 7)<|Hq) (sgn 9 b)<|HL<|JS.mk<|Kr<|Mj (gG Z Q) Q.cl (a.mono<|by decide)<|Hg 7)<|HG (JM (SW.sb<|Vo (JN (Nx<|JY a) (Mj (XJ Z Q) Q.cl (a.mono<|by decide)<|Hg 7) (HD (Hw a) (Hg 3)<|Hm) rfl)<|VQ<|JN (ZN<|JY a) (Mj (Xi Z Q) Q.cl (a.mono<|by decide)<|Hg 7) (IY<|Hq) rfl) (HL<|JS.mk<|IS<|Nq)<|JX)<|HG (Kc AG rfl (Ky rfl Z.b1<|Hg 5) (sgn 8 b)<|HL<|JS.mk<|Kr<|Mj (eV Z Q) Q.cl (a.mono<|by decide)<|Hg 7)<|HL<|JM (SW.sb<|Vo (JN wY (Mj (eV Z Q) Q.cl (a.mono<|by decide)<|Hg 7) Tu rfl)<|VQ<|JN (Nx<|JY a) (Mj (XJ Z Q) Q.cl (a.mono<|by decide)<|Hg 7) (Hg 4) rfl) (HL<|JS.mk<|IS<|Nq)<|JX)<|HL<|JS.mk<|IS<|Nq)
end
end L2.MP.T0
namespace L2.MP.T0
open PySem L2.MP L2.MP.Hd
open L2.MP.Hn (HU)
variable {x y:Int}
def Ub{d:Nat}{kvs:List (List Key×D)}{st:Hh}(h:st[d]?=some (.dt kvs)):Kn (.tup [.int x,.int y]) (.ref d) st=some (.bl (!(HN kvs [.inl x,.inl y]).isSome),st):=by
 have a:IX 50 st (.ref d)=none:=by rw[IX];simp[Ig,h]
 have b:inD true (.tup [.int x,.int y]) (.ref d) st=none:=by
  unfold inD;rw[a];cases IX 50 st (.tup [.int x,.int y])<;>rfl
 unfold Kn JL Tf JL;rw[b,LD];simp[N1,look,h,keysOf,keyOf,Kv]
def tD(t:Tl):D:=HJ<|Ie t
def JC(stk:List (Str×Int))(ks:List (!6))(P:List Tl)(x y:Int)(k:Nat):Int:=((Jv (IC ks (k:Int))<|names4 ks P x y).map λp=>sv stk p.1).sum
def gK(e:Int)(stk:List (Str×Int))(ks:List (!6))(P:List Tl)(x y:Int)(n:Nat):List Tl:=((As n).filter λk=>decide (e<=JC stk ks P x y k)).map λ(k:Nat)=>(x,y,(k:Int))
def TB(e:Int)(stk:List (Str×Int))(ks:List (!6))(P:List Tl)(x y:Int)(n:Nat):gK e stk ks P x y (n+1)=if e<=JC stk ks P x y n then gK e stk ks P x y n++[(x,y,(n:Int))]else gK e stk ks P x y n:=by
 unfold gK;rw[Cy,DS,AX];by_cases h:e<=JC stk ks P x y n
 ·rw[if_pos h];simp[h]
 rw[if_neg h];simp[h]
def To(e:Int)(stk:List (Str×Int))(ks:List (!6))(P:List Tl)(x y:Int)(n:Nat):(gK e stk ks P x y n).length<=n:=by unfold gK;rw[Af];exact AA (A2 _ _)<|by simp
structure Ctx(bed:D)(e:Int)(stk:List (Str×Int))(ks:List (!6))(w h:Int):Prop where
 at_:∃hs:D,(∀s:Hh,Hj bed (.int 0) s=some (hs,s))/\(∀s:Hh,Hj hs (.int 0) s=some (.int e,s))/\(∀s:Hh,Hj hs (.int 1) s=some (.tup (stk.map Kd),s))/\∀s:Hh,Hj hs (.int 2) s=some (.tup (ks.map IE),s)
 fl:∀s:Hh,Hj bed (.int 1) s=some (.tup [.int w,.int h],s)
 hs:N5 e stk ks
 fo:Jq w h
variable {e w h:Int}
def Ctx.bed{bed:D}{e w h:Int}{stk:List (Str×Int)}{ks:List (!6)}(c:Ctx bed e stk ks w h):KC bed stk ks:=let ⟨x,i0,_,i1,i2⟩:=c.at_;⟨x,i0,i1,i2⟩
def Ctx.ks{bed:D}{e w h:Int}{stk:List (Str×Int)}{ks:List (!6)}(c:Ctx bed e stk ks w h):KQ (stk.map (·.1)) ks:=⟨by have:=c.hs.hi;omega,c.hs.kd⟩
def Ctx.stk{bed:D}{e w h:Int}{stk:List (Str×Int)}{ks:List (!6)}(c:Ctx bed e stk ks w h):∀p∈stk,1<=p.2/\p.2<=4:=λp x=>(c.hs.nm p x).2
def Yr{S:List Str}:Jv S [("":Str),("":Str),("":Str),("":Str)]=[]:=by
 unfold Jv;rw[Dq];intro p e;obtain⟨a,b⟩:=p;have w:b="":=by have:=(CW e).2;simpa using this
 subst w;cases h:a=="" with
 |true=>simp[bne,h]
 |false=>simp[h]
def Zz{stk:List (Str×Int)}{ks:List (!6)}{P:List Tl}(he:1<=e)(h:names4 ks P x y=[("":Str),("":Str),("":Str),("":Str)])(n:Nat):gK e stk ks P x y n=[]:=by
 unfold gK;have:(As n).filter (λk=>decide (e<=JC stk ks P x y k))=[]:=by rw[Dq];intro k _;unfold JC;rw[h,Yr];simp;omega
 rw[this];rfl
end L2.MP.T0
namespace L2.MP.T0
open PySem L2.MP L2.MP.Hd
def nb(x y:Int):Nat->Int×Int
 |0=>(x,y+1)
 |1=>(x+1,y)
 |2=>(x,y-1)
 |_=>(x-1,y)
def II(P:List Tl)(x y:Int)(j:Nat):Bool:=(Im P (nb x y j).1 (nb x y j).2).isSome
def Mp(P:List Tl)(x y:Int):Bool:=!(Im P x y).isSome&&!((As 4).filter<|II P x y).isEmpty
variable {ks:List (!6)}{P:List Tl}{x y:Int}
def qU(h:(As 4).filter (II P x y)=[]):names4 ks P x y=[("":Str),("":Str),("":Str),("":Str)]:=by
 rw[Dq]at h;have a:Im P x (y+1)=none:=by simpa[II,nb]using h 0 (!1)
 have b:Im P (x+1) y=none:=by simpa[II,nb]using h 1 (!1)
 have c:Im P x (y-1)=none:=by simpa[II,nb]using h 2 (!1)
 have d:Im P (x-1) y=none:=by simpa[II,nb]using h 3 (!1)
 unfold names4 Kf;simp only[a,b,c,d]
section
variable (P:List Tl)
def eC(x:Int)(m:Nat):List (Int×Int):=((As m).filter λ(j:Nat)=>Mp P x (j:Int)).map λ(j:Nat)=>(x,(j:Int))
def eF(h:Int)(n:Nat):List (Int×Int):=((As n).map λ(i:Nat)=>eC P (i:Int) h.toNat).flatten
def rA(x:Int)(m:Nat):eC P x (m+1)=if Mp P x (m:Int)=true then eC P x m++[(x,(m:Int))]else eC P x m:=by
 unfold eC;rw[Cy,DS,AX];by_cases h:Mp P x (m:Int)=true
 ·rw[if_pos h];simp[h]
 rw[if_neg h];simp[h]
def Wd(h:Int)(n:Nat):eF P h (n+1)=eF P h n++eC P (n:Int) h.toNat:=by unfold eF;rw[Cy,AX,DH];simp
def Zu(x:Int)(m:Nat):(eC P x m).length<=m:=by unfold eC;rw[Af];exact AA (A2 _ _)<|by simp
theorem Vs(h:Int):∀n:Nat,(eF P h n).length<=n*h.toNat
 |0=>by simp[eF]
 |n+1=>by have a:=Vs h n;have x:=Zu P (n:Int) h.toNat;rw[Wd,AB,DN];omega
end
def Iw(e:Int)(stk:List (Str×Int))(ks:List (!6))(P:List Tl)(ps:List (Int×Int)):List Tl:=(ps.map λp=>gK e stk ks P p.1 p.2 ks.length).flatten
def wL(e:Int)(stk:List (Str×Int))(ks:List (!6))(P:List Tl)(a b:List (Int×Int)):Iw e stk ks P (a++b)=Iw e stk ks P a++Iw e stk ks P b:=by unfold Iw;rw[AX,DH]
variable {l:Nat}{st:Hh}
def ne_nil{m:Nat}{js:List Nat}(a:st[l]?=some (.lst<|js.map λ(i:Nat)=>D.int (i:Int)))(hm:st[m]?=some (.lst [])):JT (.ref l) (.ref m) st=some (.bl !js.isEmpty,st):=by
 have e:(js.map λ(i:Nat)=>D.int (i:Int))=(js.map λ(i:Nat)=>(i:Int)).map D.int:=by rw[AK];rfl
 rw[e]at a;unfold JT;rw[Qr (n:=98) a,Qr (n:=98) (as:=[]) hm];cases js<;>rfl
variable {d:Nat}{s s1:Hh}
def qT{J a b:Int}{q:Bool}(c:NI [.tup [.int x,.int y],.int J] s=some (.tup [.int a,.int b],s1))(e:Ni (.tup [.int a,.int b]) (.ref d) s1=some (.bl q,s1)):Pq [some (.int J),some (.int x),some (.int y),some (.ref d)] s=some (q,s1):=by unfold Pq;simp[c,e]
def qS(hd:st[d]?=some (.dt<|P.map Hl)):∃b,Jj ⟨run 0 4,[]⟩ (Ho 0) Pq RG (run 0 4) [none,some (.int x),some (.int y),some (.ref d)] st=some (((As 4).filter<|II P x y).map λ(i:Nat)=>D.int (i:Int),b)/\Gr st b:=by
 have key:=OW (W:=⟨run 0 4,[]⟩) (g:=Ho 0) (c:=Pq) (m:=RG) (ds:=run 0 4) (acc:=[]) (st:=st) (U:=[none,some (.int x),some (.int y),some (.ref d)])
  (Inv:=λk a U s=>Y3 ((∃u,U=[u,some (.int x),some (.int y),some (.ref d)])) (a=fl (II P x y) k) (Gr st s))
  ⟨⟨_,rfl⟩,rfl,Gr.refl _⟩ (λ_ _ _ _ _ _=>rfl) (λk z a U s j p=>by
   obtain⟨⟨u,rfl⟩,rfl,n⟩:=p;obtain⟨hk,rfl⟩:=Mx j;have q:[D.tup [.int x,.int (y+1)],.tup [.int (x+1),.int y],.tup [.int x,.int (y-1)],.tup [.int (x-1),.int y]][((k:Nat):Int).toNat]?=some (.tup [.int (nb x y k).1,.int (nb x y k).2]):=by
    rw[Bz]
    match k,hk with
    |0,_=>rfl
    |1,_=>rfl
    |2,_=>rfl
    |3,_=>rfl
   obtain⟨s1,r,g1⟩:=aX (s:=s) (J:=(k:Int)) (!0) q;have l:=n.trans g1;have e:=Vf (x:=(nb x y k).1) (y:=(nb x y k).2)<|(l.old _<|qax hd).trans hd;rw[MH,By]at e;have f:=qT r e
   cases h:(Im P (nb x y k).1 (nb x y k).2).isSome with
   |true=>
    rw[h]at f;refine⟨[some (.int (k:Int)),some (.int x),some (.int y),some (.ref d)],s,true,s1,rfl,f,.inl ⟨rfl,.int (k:Int),s1,rfl,⟨_,rfl⟩,?_,l⟩⟩;rw[Qo,if_pos (show II P x y k=true from h)]
   |false=>
    rw[h]at f;refine⟨[some (.int (k:Int)),some (.int x),some (.int y),some (.ref d)],s,false,s1,rfl,f,.inr ⟨rfl,⟨_,rfl⟩,?_,l⟩⟩;rw[Qo,if_neg (show ¬II P x y k=true by unfold II;rw[h];decide)])
 obtain⟨xs,A,v,w,_,o,n⟩:=key;rw[C3]at o;subst o;exact⟨v,w,n⟩
variable {bed:D}{a5:Option D}{L:List D}
def rQ{b:Nat}{c e:Bool}{s2:Hh}(h:Ju (IG<|mK<|.int 4) 1 [3,4,1] (Ho 0) Pq RG [some bed,some (.ref d),some (.ref l),some (.int x),some (.int y),a5] s=some (.ref b,s1))(f:Kn (.tup [.int x,.int y]) (.ref d) s1=some (.bl c,s1))(a:s1++[.lst []]=s2)(g:JT (.ref b) (.ref s1.length) s2=some (.bl e,s2))(i:s2[l]?=some (.lst L))(j:LI (.ref l) [.tup [.int x,.int y]] s2=some (.non,s2.set l (.lst<|L++[.tup [.int x,.int y]]))):
  RJ [some bed,some (.ref d),some (.ref l),some (.int x),some (.int y),a5] s=some (.nx [some bed,some (.ref d),some (.ref l),some (.int x),some (.int y),some (.ref b)],if c=true then(if e=true then s2.set l (.lst<|L++[.tup [.int x,.int y]])else s2)else s1):=by
 unfold RJ;refine Hy (U1:=[some bed,some (.ref d),some (.ref l),some (.int x),some (.int y),some (.ref b)]) (s1:=s1) (by rw[MB,h];rfl) ?_
 cases c with
 |false=>simp[f]
 |true=>
  cases e with
  |false=>simp[f,a,g]
  |true=>simp[f,a,g,Ig,i,j]
variable {st0:Hh}
def rP{L:List (Int×Int)}(hd:s[d]?=some (.dt<|P.map Hl))(e:s[l]?=some (.lst<|L.map Ip))(A:L.length<=9000)(h0:st0.length<=l)(f:d≠l)(h:Gr st0 s):
  ∃(o:Option D) (s':Hh),Y4 (RJ [some bed,some (.ref d),some (.ref l),some (.int x),some (.int y),a5] s=some (.nx [some bed,some (.ref d),some (.ref l),some (.int x),some (.int y),o],s')) (s'[l]?=some (.lst<|(if Mp P x y=true then L++[(x,y)]else L).map Ip)) (s'[d]?=s[d]?) (Gr st0 s'):=by
 obtain⟨s1,p,g1⟩:=qS (x:=x) (y:=y) hd;have hle:((As 4).filter<|II P x y).length<=4:=by have:=A2 (II P x y)<|As 4;rw[Cg]at this;exact this
 have m:fits (((As 4).filter<|II P x y).map λ(i:Nat)=>D.int (i:Int)).length=true:=J8 (by rw[Af];omega);have a2:=IJ s1<|.lst<|((As 4).filter<|II P x y).map λ(i:Nat)=>D.int (i:Int);have g2:=g1.trans<|Gr.app s1 [.lst (((As 4).filter<|II P x y).map λ(i:Nat)=>D.int (i:Int))];have q:Ju (IG<|mK<|.int 4) 1 [3,4,1] (Ho 0) Pq RG [some bed,some (.ref d),some (.ref l),some (.int x),some (.int y),a5] s=some (.ref s1.length,s1++[.lst (((As 4).filter<|II P x y).map λ(i:Nat)=>D.int (i:Int))]):=by rw[JP,Tr (k:=4) rfl (!1)];simp only[Ae];rw[show Jc [some bed,some (.ref d),some (.ref l),some (.int x),some (.int y),a5] 1 [3,4,1]=[none,some (.int x),some (.int y),some (.ref d)] from rfl,p];simp only[Ae,m,if_true]
 generalize s1++[O.lst (((As 4).filter<|II P x y).map λ(i:Nat)=>D.int (i:Int))]=s2 at *;have b:=Ub (x:=x) (y:=y)<|(g2.old _<|qax hd).trans hd;rw[MH,By]at b;have r:(s2++[O.lst []])[s1.length]?=some (.lst<|((As 4).filter<|II P x y).map λ(i:Nat)=>D.int (i:Int)):=by rw[Ar (qax a2)];exact a2
 have u:=ne_nil r<|IJ s2<|.lst [];have g3:=g2.trans<|Gr.app s2 [.lst []];have n:=(g2.old _<|qax e).trans e;have a:=(g3.old _<|qax e).trans e;have hd2:=g2.old _<|qax hd;have c:=g3.old _<|qax hd;have v:=append_at (x:=.tup [.int x,.int y]) a (by rw[Af];omega);have w:=rQ q b rfl u a v;generalize s2++[O.lst []]=s3 at *;refine⟨_,_,w,?_,?_,?_⟩
 ·unfold Mp
  cases (Im P x y).isSome with
  |true=>simpa using n
  |false=>
   cases ((As 4).filter<|II P x y).isEmpty with
   |true=>simpa using a
   |false=>
    simp only[Fd,if_true,GR];rw[AC (qax a),AX];rfl
 ·cases (Im P x y).isSome with
  |true=>simpa using hd2
  |false=>
   cases ((As 4).filter<|II P x y).isEmpty with
   |true=>simpa using c
   |false=>
    simp only[Fd,if_true];rw[Ak (BJ f)];exact c
 ·cases (Im P x y).isSome with
  |true=>simpa using h.trans g2
  |false=>
   cases ((As 4).filter<|II P x y).isEmpty with
   |true=>simpa using h.trans g3
   |false=>
    simp only[Fd,if_true];have g:=h.trans g3;exact⟨by rw[Bq];exact g.len,λj z=>by rw[Ak (!0)];exact g.old j z⟩
variable {e w h:Int}{stk:List (Str×Int)}
def T6(c:Ctx bed e stk ks w h)(hd:st[d]?=some (.dt<|P.map Hl)):
  ∃o,Y3 (Uz [bed,.ref d] st=some (.ref st.length,o)) (o[st.length]?=some (.lst<|(eF P h w.toNat).map Ip)) (Gr st o):=by
 have f1:=c.fo.w0;have f2:=c.fo.w1;have f3:=c.fo.h0;have f4:=c.fo.h1;have E:=qax hd;have F:h.toNat<=12:=by omega
 have bound:∀n m:Nat,n<=12->m<=h.toNat->(eF P h n++eC P (n:Int) m).length<=9000:=λn m N hm=>by have b1:=Vs P h n;have b2:=Zu P (n:Int) m;have b3:n*h.toNat<=12*12:=CO N F;rw[AB];omega
 have G:(st++[O.lst []])[d]?=some (.dt<|P.map Hl):=by rw[Ar E];exact hd
 have key:=Kw (W:=⟨run 0 w.toNat,[]⟩) (g:=Ho 3) (m:=Xs) (ds:=run 0 w.toNat) (U:=[some bed,some (.ref d),some (.ref st.length),none,none,none]) (st:=st++[.lst []])
  (Inv:=λk U s=>Y4 ((∃a b H,U=[some bed,some (.ref d),some (.ref st.length),a,b,H])) (s[st.length]?=some (.lst<|(eF P h k).map Ip)) (s[d]?=some (.dt<|P.map Hl)) (Gr st s))
  ⟨⟨_,_,_,rfl⟩,IJ _ _,G,Gr.app _ _⟩ (λ_ _ _ _ _=>rfl) (λk Q U s p I=>by
   obtain⟨⟨u,v,q,rfl⟩,L,f,B⟩:=I;obtain⟨hk,rfl⟩:=Mx p;have C:=Kw (W:=⟨run 0 h.toNat,[]⟩) (g:=Ho 4) (m:=RJ) (ds:=run 0 h.toNat) (U:=[some bed,some (.ref d),some (.ref st.length),some (.int (k:Int)),v,q]) (st:=s)
    (Inv:=λj U s=>Y4 ((∃b H,U=[some bed,some (.ref d),some (.ref st.length),some (.int (k:Int)),b,H])) (s[st.length]?=some (.lst<|(eF P h k++eC P (k:Int) j).map Ip)) (s[d]?=some (.dt<|P.map Hl)) (Gr st s))
    ⟨⟨_,_,rfl⟩,by simpa[eC]using L,f,B⟩ (λ_ _ _ _ _=>rfl) (λj Q U s p I=>by
     obtain⟨⟨v,q,rfl⟩,L,f,B⟩:=I;obtain⟨hj,rfl⟩:=Mx p;obtain⟨b5,A,S,l,i,r⟩:=rP (bed:=bed) (x:=(k:Int)) (y:=(j:Int)) (a5:=q) f L (bound k j (!0)<|by omega) (Ag _) (!0) B;refine⟨[some bed,some (.ref d),some (.ref st.length),some (.int (k:Int)),some (.int (j:Int)),q],s,_,A,rfl,S,⟨_,_,rfl⟩,?_,i.trans f,r⟩;rw[l,rA]
     by_cases ho:Mp P (k:Int) (j:Int)=true
     ·rw[if_pos ho,if_pos ho,Am]
     rw[if_neg ho,if_neg ho])
   obtain⟨T,A,J,⟨X,Y,rfl⟩,l,i,r⟩:=C;rw[Kx]at l;refine⟨[some bed,some (.ref d),some (.ref st.length),some (.int (k:Int)),v,q],s,[some bed,some (.ref d),some (.ref st.length),some (.int (k:Int)),X,Y],A,rfl,?_,⟨_,_,_,rfl⟩,by rw[Wd];exact l,i,r⟩;have K:small h=true:=OG (!0) (!0);have z:=c.fl s;have M:Hj (.tup [.int w,.int h]) (.int 1) s=some (.int h,s):=IA (!1) rfl;unfold Xs;have:IG (mB Hj (mB Hj (mV 0)<|mK<|.int 1)<|mK<|.int 1) [some bed,some (.ref d),some (.ref st.length),some (.int (k:Int)),v,q] s=some (⟨run 0 h.toNat,[]⟩,s):=by generalize (k:Int)=kk;simp[z,M,K]
   rw[J0,this];exact J)
 obtain⟨T,A,J,⟨u,v,q,rfl⟩,L,f,B⟩:=key;rw[Kx]at L;refine⟨A,IW ?_,L,B⟩;have K:small w=true:=OG (!0) (!0);have z:=c.fl (st++[.lst []]);have Z:Hj (.tup [.int w,.int h]) (.int 0) (st++[.lst []])=some (.int w,st++[.lst []]):=IA (!1) rfl;unfold fU;refine Hy (U1:=[some bed,some (.ref d),some (.ref st.length),none,none,none]) (s1:=st++[.lst []]) (!2) ?_;refine Hy (U1:=[some bed,some (.ref d),some (.ref st.length),u,v,q]) (s1:=A) (by
  have:IG (mB Hj (mB Hj (mV 0)<|mK<|.int 1)<|mK<|.int 0) [some bed,some (.ref d),some (.ref st.length),none,none,none] (st++[.lst []])=some (⟨run 0 w.toNat,[]⟩,st++[.lst []]):=by simp[z,Z,K]
  rw[J0,this];exact J) ?_
 simp
open L2.MP.Hn (HU Mo HI KZ)
def Ra{k:Nat}(h:(IC ks (k:Int)).length=4):((alike (IC ks (k:Int))<|names4 ks P x y).map λi=>sv stk ((IC ks (k:Int)).getD i "")).sum=JC stk ks P x y k:=by unfold JC;rw[zlD h rfl]
variable {hs pl:D}{K E:Int}
def qP{R:Int}{v:D}(b:Nd [bed,.ref d,pl,.int K] s=some (.int R,s1))(c:Hj bed (.int 0) s1=some (hs,s1))(f:Hj hs (.int 0) s1=some (.int E,s1))(g:E<=R)(i:s1[l]?=some (.lst L))(j:Hz pl (.tup [.int K]) s1=some (v,s1))(a:LI (.ref l) [v] s1=some (.non,s1.set l (.lst<|L++[v]))):
  QA [some bed,some (.ref d),some (.ref l),some pl,some (.int K)] s=some (.nx [some bed,some (.ref d),some (.ref l),some pl,some (.int K)],s1.set l (.lst<|L++[v])):=by
 unfold QA;simp[b,c,f,g,Ig,i,j,a]
def wQ{R:Int}(a:Nd [bed,.ref d,pl,.int K] s=some (.int R,s1))(b:Hj bed (.int 0) s1=some (hs,s1))(c:Hj hs (.int 0) s1=some (.int E,s1))(f:¬E<=R):
  QA [some bed,some (.ref d),some (.ref l),some pl,some (.int K)] s=some (.nx [some bed,some (.ref d),some (.ref l),some pl,some (.int K)],s1):=by
 unfold QA;simp[a,b,c,f]
def Rr{P:List Tl}{p:Int×Int}{a4:Option D}{L:List Tl}(c:Ctx bed e stk ks w h)(B:∀t∈P,0<=t.2.2/\t.2.2<(ks.length:Int))(hd:s[d]?=some (.dt<|P.map Hl))(C:s[l]?=some (.lst<|L.map tD))(T:L.length<=9000)(h0:st0.length<=l)(i:d≠l)(X:Gr st0 s):
  ∃(F:Option D) (s':Hh),Y3 (UA [some bed,some (.ref d),some (.ref l),some (Ip p),a4] s=some (.nx [some bed,some (.ref d),some (.ref l),some (Ip p),F],s')) (s'[l]?=some (.lst<|(L++gK e stk ks P p.1 p.2 ks.length).map tD)) (Fr l s s'):=by
 obtain⟨hs,j,z,Y,G⟩:=c.at_;have H:=c.hs.hi;have key:=Kw (W:=⟨run 0 ks.length,[]⟩) (g:=Ho 4) (m:=QA) (ds:=run 0 ks.length) (U:=[some bed,some (.ref d),some (.ref l),some (Ip p),a4]) (st:=s)
  (Inv:=λk U s'=>Y3 ((∃a,U=[some bed,some (.ref d),some (.ref l),some (Ip p),a])) (s'[l]?=some (.lst<|(L++gK e stk ks P p.1 p.2 k).map tD)) (Fr l s s'))
  ⟨⟨_,rfl⟩,by simpa[gK]using C,Fr.refl _ _⟩ (λ_ _ _ _ _=>rfl) (λk Z U s' n I=>by
   obtain⟨⟨u,rfl⟩,b,hf⟩:=I;obtain⟨hk,rfl⟩:=Mx n;have A:((k:Nat):Int)<(ks.length:Int):=by omega
   obtain⟨f,b0,b1,b2,b3,ek,J,M⟩:=MD c.ks (k:=(k:Int)) (!0) A;have o:=(hf.old _ (qax hd) i).trans hd;obtain⟨s2,q,g2⟩:=WL (x:=p.1) (y:=p.2) c.bed c.ks c.stk (by have:=c.hs.sl;omega) B (!0) A o;rw[Ra (by rw[J];rfl)]at q;have E:=(g2.old _<|qax b).trans b;have hlen:=To e stk ks P p.1 p.2 k
   by_cases hR:e<=JC stk ks P p.1 p.2 k
   ·have N:Hz (.tup [.int p.1,.int p.2]) (.tup [.int (k:Int)]) s2=some (tD (p.1,p.2,(k:Int)),s2):=VW (!2) (!2);have r:=append_at (x:=tD (p.1,p.2,(k:Int))) E (by rw[Af,AB];omega);refine⟨_,s',_,_,rfl,qP q (j _) (z _) hR E N r,⟨_,rfl⟩,?_,(hf.trans<|g2.fr l).trans<|GB _ _ _⟩;rw[AC (qax E),TB,if_pos hR];simp
   refine⟨_,s',_,_,rfl,wQ q (j _) (z _) hR,⟨_,rfl⟩,?_,hf.trans<|g2.fr l⟩;rw[TB,if_neg hR];exact E)
 obtain⟨U',s',Q,⟨u,rfl⟩,b,hf⟩:=key;rw[Kx]at b;refine⟨u,s',?_,b,hf⟩;have v:HQ [.tup (ks.map IE)] s=some (.int (ks.length:Int),s):=by rw[Ny,Af]
 have S:IG (Hr HQ<|Hf (mB Hj (mB Hj (mV 0)<|mK<|.int 0)<|mK<|.int 2)<|mZ) [some bed,some (.ref d),some (.ref l),some (Ip p),a4] s=some (⟨run 0 ks.length,[]⟩,s):=by refine Tr (k:=ks.length) ?_ (!0);generalize (ks.length:Int)=K at *;simp[j,G,v]
 unfold UA;rw[J0,S];exact Q
def nM{P:List Tl}(c:Ctx bed e stk ks w h)(G:∀t∈P,0<=t.2.2/\t.2.2<(ks.length:Int))(hd:st[d]?=some (.dt<|P.map Hl)):
  ∃f,Y3 (UD [bed,.ref d] st=some (.ref st.length,f)) (f[st.length]?=some (.lst<|(Iw e stk ks P<|eF P h w.toNat).map tD)) (Gr st f):=by
 have f1:=c.fo.w0;have f2:=c.fo.w1;have T:=c.fo.h0;have f4:=c.fo.h1;have H:=c.hs.hi;have o:=qax hd;have x:(st++[O.lst []])[d]?=some (.dt<|P.map Hl):=by rw[Ar o];exact hd
 have a1:=IJ st<|.lst [];have g1:=Gr.app st [.lst []];have X:(st++[O.lst []]).length=st.length+1:=by simp
 generalize r:st++[O.lst []]=s1 at *;obtain⟨s2,I,a2,g2⟩:=T6 c x;have z:=(g2.old _<|qax a1).trans a1;have hd2:=(g2.old _<|qax x).trans x;have hlen:=Vs P h w.toNat;have C:(eF P h w.toNat).length<=144:=AA hlen<|CO (show w.toNat<=12 by omega) (show h.toNat<=12 by omega);generalize eF P h w.toNat=ps at *;have bound:∀i:Nat,(Iw e stk ks P<|ps.take i).length<=9000:=λi=>by
  have:∀y:List (Int×Int),(Iw e stk ks P y).length<=y.length*13:=by
   intro y
   induction y with
   |nil=>simp[Iw]
   |cons q y Y=>
    have J:=To e stk ks P q.1 q.2 ks.length;have F:(Iw e stk ks P (q::y)).length=(gK e stk ks P q.1 q.2 ks.length).length+(Iw e stk ks P y).length:=by simp[Iw]
    rw[F,Aw,DN];omega
  have J:=this<|ps.take i;have F:(ps.take i).length<=144:=by rw[A3];omega
  omega
 have key:=Kw (W:=⟨ps.map Ip,[(s1.length,ps.map Ip)]⟩) (g:=Ho 3) (m:=UA) (ds:=ps.map Ip) (U:=[some bed,some (.ref d),some (.ref st.length),none,none]) (st:=s2)
  (Inv:=λi U s=>Y3 ((∃a b,U=[some bed,some (.ref d),some (.ref st.length),a,b])) (s[st.length]?=some (.lst<|(Iw e stk ks P<|ps.take i).map tD)) (Fr st.length s2 s))
  ⟨⟨_,_,rfl⟩,z,Fr.refl _ _⟩ (λi U s _ A=>OL ((A.h3.old _ (qax a2)<|by omega).trans a2)) (λi Z U s E A=>by obtain⟨⟨u,v,rfl⟩,l,hf⟩:=A;rw[Az]at E;obtain⟨p,M,rfl⟩:=Ia E;obtain⟨b4,L,N,K,B⟩:=Rr (st0:=[]) (p:=p) (a4:=v) c G ((hf.old _ (qax hd2)<|by omega).trans hd2) l (bound i) (A5 _) (!0) ⟨A5 _,λj n=>absurd n (Eu _)⟩;refine⟨_,s,_,L,rfl,N,⟨_,_,rfl⟩,?_,hf.trans B⟩;rw[K,Bd,M,wL];simp[Iw])
 obtain⟨U',L,Q,⟨u,v,rfl⟩,l,hf⟩:=key;rw[Af,AR]at l;refine⟨L,IW ?_,l,?_⟩
 ·generalize ps.map Ip=PS at *;unfold fI;refine Hy (U1:=[some bed,some (.ref d),some (.ref st.length),none,none]) (s1:=s1) (by simp[r]) ?_;refine Hy (U1:=[some bed,some (.ref d),some (.ref st.length),u,v]) (s1:=L) (by
   have S:J3 (Hr Uz<|Hf (mV 0)<|Hf (mV 1)<|mZ) [some bed,some (.ref d),some (.ref st.length),none,none] s1=some (⟨PS,[(s1.length,PS)]⟩,s2):=by simp[I,Mu,Ig,a2]
   rw[J0,S];exact Q) ?_
  simp
 have g:=g1.trans g2;exact⟨AA g.len hf.len,λj n=>(hf.old j (AD n g.len)<|by omega).trans (g.old j n)⟩
def Wy{lo hi:Int}(a:lo<=x)(b:x<=hi):RF [.int x,.int lo,.int hi] st=some (.bl true,st):=by
 refine IW ?_;have t1:tyName st (.int x)=some "int":=rfl;have d:Ke "int" "int"=true:=by decide
 have t3:Ke "int" "bool"=false:=by decide
 unfold WQ;simp[Mg,t1,d,t3,a,b]
def cL{ds:List D}{n:Nat}{N:Int}(h:ds.length=n)(a:N=(n:Int)):W6 [.tup ds,.int N] st=some (.bl true,st):=by
 have e:HQ [.tup ds] st=some (.int N,st):=by rw[Ny,h,a]
 refine IW ?_;have t1:tyName st (.tup ds)=some "tuple":=rfl;have d:Ke "tuple" "tuple"=true:=by decide
 unfold dY;simp[t1,d,e,eq_int]
def cM(c:Ctx bed e stk ks w h)(x0:0<=x)(f:x<w)(a:0<=y)(g:y<h):NH [bed,.tup [.int x,.int y]] st=some (.bl true,st):=by have d:=cL (ds:=[.int x,.int y]) (n:=2) (N:=2) (st:=st) rfl rfl;have l:=Wy (x:=x) (lo:=0) (hi:=w-1) (st:=st) x0 (!0);have s:=Wy (x:=y) (lo:=0) (hi:=h-1) (st:=st) a (!0);have E:Hj (.tup [.int x,.int y]) (.int 0) st=some (.int x,st):=IA (!1) rfl;have K:Hj (.tup [.int x,.int y]) (.int 1) st=some (.int y,st):=IA (!1) rfl;have L:Hj (.tup [.int w,.int h]) (.int 0) st=some (.int w,st):=IA (!1) rfl;have P:Hj (.tup [.int w,.int h]) (.int 1) st=some (.int h,st):=IA (!1) rfl;have b:=c.fl;refine IW ?_;unfold WO;refine Hy (U1:=[some bed,some (.tup [.int x,.int y]),some (.tup [.int w,.int h])]) (s1:=st) (by simp[b]) ?_;simp[d,l,s,E,K,L,P]
def JE(e:Int)(stk:List (Str×Int))(ks:List (!6))(w h:Int)(P:List Tl)(t:Tl):Prop:=IQ w h ks.length t/\Im P t.1 t.2.1=none/\e<=JC stk ks P t.1 t.2.1 t.2.2.toNat
variable {t:Tl}
def wM(hf:Jq w h)(a:t∈Iw e stk ks P (eF P h w.toNat)):JE e stk ks w h P t:=by
 have f1:=hf.w0;have y:=hf.h0;simp only[Iw,eF,eC,gK,Ed,FO,EG,GL]at a;obtain⟨l,⟨p,⟨m,⟨i,E,rfl⟩,s⟩,rfl⟩,a⟩:=a;simp only[FO,EG,GL]at s a;obtain⟨j,⟨K,d⟩,rfl⟩:=s;obtain⟨k,⟨hk,hs⟩,rfl⟩:=a;have x:Im P (i:Int) (j:Int)=none:=by unfold Mp at d;rw[Aq]at d;simpa using d.1
 refine⟨⟨?_,?_,?_,?_,?_,?_⟩,x,by simpa using hs⟩
 ·show(0:Int)<=(i:Int);omega
 ·show(i:Int)<w;omega
 ·show(0:Int)<=(j:Int);omega
 ·show(j:Int)<h;omega
 ·show(0:Int)<=(k:Int);omega
 show(k:Int)<(ks.length:Int);omega
def Ka(e:Int)(stk:List (Str×Int))(ks:List (!6))(w h:Int):List Tl->List Tl->Prop
 |_,[]=>True
 |P,t::R=>JE e stk ks w h P t/\Ka e stk ks w h (P++[t]) R
theorem Rt:∀{R P:List Tl}{t:Tl},Ka e stk ks w h P R->JE e stk ks w h (P++R) t->Ka e stk ks w h P (R++[t])
 |[],P,t,_,hm=>⟨by simpa using hm,trivial⟩
 |u::R,P,t,a,hm=>⟨a.1,Rt a.2<|by simpa using hm⟩
theorem Wl:∀{R P:List Tl} (i:Nat),Ka e stk ks w h P R->Ka e stk ks w h P (R.take i)
 |[],P,i,_=>by simp[Ka]
 |u::R,P,0,_=>trivial
 |u::R,P,i+1,a=>⟨a.1,Wl i a.2⟩
theorem Pk:∀{R P:List Tl},Ka e stk ks w h P R->∀t∈R,IQ w h ks.length t
 |u::R,P,a,t,ht=>by
  rcases KM.mp ht with rfl|ht
  ·exact a.1.1
  exact Pk a.2 t ht
theorem Rb:∀{R P:List Tl}{i:Nat}{t:Tl},Ka e stk ks w h P R->R[i]?=some t->JE e stk ks w h (P++R.take i) t
 |u::R,P,0,t,b,a=>by simp at a;subst a;simpa using b.1
 |u::R,P,i+1,t,b,a=>by have:=Rb b.2 (i:=i) (t:=t) (by simpa using a);simpa using this
def Lm{P:List Tl}:Im P x y=none ↔ ∀t∈P,¬(t.1=x/\t.2.1=y):=by unfold Im;simp
def Uc(hn:Im P t.1 t.2.1=none):IT P t=P++[t]:=by have d:=Lm.mp hn;unfold IT;rw[if_neg];intro z;obtain⟨u,e,z⟩:=List.any_eq_true.mp z;unfold JB at z;rw[Aq]at z;exact d u e ⟨of_decide_eq_true z.1,of_decide_eq_true z.2⟩
def Z7(a:HC (P++[t])):Im P t.1 t.2.1=none:=by refine Lm.mpr λu d z=>?_;have:=(List.pairwise_append.mp a).2.2 u d t (!2);unfold JB at this;simp[z.1,z.2]at this
def qV(a:HC P)(hn:Im P t.1 t.2.1=none):HC (P++[t]):=by refine List.pairwise_append.mpr ⟨a,by simp,λu d v e=>?_⟩;rw[On.mp e];have:=Lm.mp hn u d;unfold JB;simpa using this
theorem bM:∀{ts acc:List Tl},HC (acc++ts)->ts.foldl IT acc=acc++ts
 |[],acc,_=>by simp
 |t::ts,acc,b=>by
  have a:HC ((acc++[t])++ts):=by simpa using b
  have d:HC (acc++[t]):=(List.pairwise_append.mp a).1;rw[EF,Uc (Z7 d),bM a];simp
def TV{ts:List Tl}(a:HC ts):Lv ts=ts:=by have:=bM (ts:=ts) (acc:=[]) (by simpa using a);simpa[Lv]using this
def qQ{a b:List Tl}(h:a.Perm b)(c:HC b):HC a:=by
 refine(List.Perm.pairwise_iff (λ{x y} z=>?_) h).mpr c;unfold JB at *;rw[Bool.and_eq_false_iff]at *;rcases z with z|z
 ·exact .inl<|by simpa using λq=>(of_decide_eq_false z) q.symm
 exact .inr<|by simpa using λq=>(of_decide_eq_false z) q.symm
theorem Lk{e w h:Int}{stk:List (Str×Int)}{ks:List (!6)}:∀{R P:List Tl},HC P->Ka e stk ks w h P R->HC (P++R)
 |[],P,a,_=>by simpa using a
 |t::R,P,a,b=>by have:=Lk (qV a b.1.2.1) b.2;simpa using this
end L2.MP.T0
namespace L2.MP.T0
open PySem L2.MP L2.MP.Hd
open L2.MP.Hn (HU Mo HI KZ Pl OJ)
theorem Ug(ts:List Tl):HU ts=.tup (ts.map tD):=rfl
def gA{st:Hh}{l:Nat}{ts:List Tl}(b:st[l]?=some (.lst<|ts.map tD))(a:ts.length<64):Rl [.ref l] st=some (.ref st.length,st++[.lst ((HI ts).map tD)]):=by unfold Rl LL;rw[Mo b a,Kv];rfl
def zl0{x y k:Int}{t:Nat}{s:Hh}(hk:Np (.ref t) (.tup [.int x,.int y]) s=some (.int k,s)):QB [some (.tup [.int x,.int y]),some (.ref t)] s=some (.tup [.int x,.int y,.int k],s):=by have a:Hz (.tup [.int x,.int y]) (.tup [.int k]) s=some (.tup [.int x,.int y,.int k],s):=VW (!2) (!2);unfold QB;simp[hk,a]
def zfQ{P:List Tl}{d:Nat}{st:Hh}(hd:st[d]?=some (.dt<|P.map Hl))(l:HC P)(e:P.length<64):∃b,XH [.ref d] st=some (HU (HI P),b)/\Gr st b:=by
 have a:=qax hd;have c:P8 (.ref d) st=some (⟨Js<|P.map Hl,[]⟩,st.set d (.ft<|P.map Hl)):=by unfold P8;simp only[hd]
 have f:(st.set d<|.ft<|P.map Hl)[d]?=some (.ft<|P.map Hl):=by simp[a]
 have back:(st.set d (.ft<|P.map Hl)++[O.lst (P.map tD)]).set d (.dt<|P.map Hl)=st++[.lst (P.map tD)]:=by
  rw[List.set_append_left _ _ (by simpa using a),List.set_set]
  congr 1
  apply F7;intro i;by_cases hi:i=d
  ·subst hi;rw[AC a,hd]
  rw[Ak (λz=>hi z.symm)]
 have j:(st.set d (.ft<|P.map Hl)++[O.lst (P.map tD)])[d]?=some (.ft<|P.map Hl):=by rw[Ar (by simpa using a)];exact f
 have ls:(st.set d<|.ft<|P.map Hl).length=st.length:=by simp
 generalize m:st.set d (.ft<|P.map Hl)=s3 at c f back j ls;have QG:Js (P.map Hl)=P.map λt=>D.tup [.int t.1,.int t.2.1]:=by unfold Js;rw[AK];rfl
 have n:Jj ⟨Js<|P.map Hl,[]⟩ (Ho 0) Je QB (Js<|P.map Hl) [none,some (.ref d)] s3=some (P.map tD,s3):=by
  rw[QG];refine Qg (R:=λU=>∃x,U=[x,some (.ref d)]) ⟨none,rfl⟩ rfl λt o U p=>?_;obtain⟨x,rfl⟩:=p;have q:=Tq l o;have hk:Np (.ref d) (.tup [.int t.1,.int t.2.1]) s3=some (.int t.2.2,s3):=by have r:keysOf [.int t.1,.int t.2.1]=some (Hl t).1:=rfl;simp only[Np,Jk,f,r,AS,Ae,q]
  exact⟨[some (.tup [.int t.1,.int t.2.1]),some (.ref d)],rfl,rfl,zl0 hk,⟨_,rfl⟩⟩
 have fl:fits (P.map tD).length=true:=J8 (by rw[Af];omega);have s:=gA (IJ st<|.lst<|P.map tD) e;have u:=OH<|IJ (st++[.lst (P.map tD)])<|.lst<|(HI P).map tD;refine⟨st++[.lst (P.map tD)]++[.lst ((HI P).map tD)],IW ?_,(Gr.app _ _).trans<|Gr.app _ _⟩;have g:Ju (OQ<|mV 0) 1 [0] (Ho 0) Je QB [some (.ref d)] st=some (.ref st.length,s3++[.lst (P.map tD)]):=by have:OQ (mV 0) [some (.ref d)] st=some (⟨Js<|P.map Hl,[]⟩,s3):=c;rw[JP,this];simp only[Ae];rw[show Jc [some (D.ref d)] 1 [0]=[none,some (.ref d)] from rfl,n];simp only[Ae,fl,if_true,ls]
 have h:QM 0 (Ju (OQ<|mV 0) 1 [0] (Ho 0) Je<|QB) [some (.ref d)] st=some (.ref st.length,st++[.lst (P.map tD)]):=by unfold QM;simp only[Dh,g,Ae];unfold VS;rw[hd,j];show Option.map _ (some<|List.set _ _ _)=_;rw[back];rfl
 unfold gU;rw[Ug];generalize (HI P).map tD=B at *;generalize P.map tD=A at *;generalize st++[O.lst A]=s4 at *;generalize s4++[O.lst B]=s5 at *;simp[h,s,u]
end L2.MP.T0
namespace L2.MP.T0
open PySem L2.MP L2.MP.Hd
open L2.MP.Hn (HU Mo HI KZ)
variable {bed pl hs sl:D}{d ln l:Nat}{num E:Int}{L:List D}{s s1:Hh}
def VB{R a b:Int}{c:D}(es:ML c (some 1) none s=some (sl,s))(e:RO [.ref d,sl,.ref ln] s=some (.int R,s1))(f:Hj hs (.int 0) s1=some (.int E,s1))(g:E<=R)(h:s1[l]?=some (.lst L))(i:Hj pl (.int 0) s1=some (.int a,s1))(j:Hj pl (.int 1) s1=some (.int b,s1))(m:LI (.ref l) [.tup [.int a,.int b,.int num]] s1=some (.non,s1.set l (.lst<|L++[.tup [.int a,.int b,.int num]]))):
  Qy [some bed,some (.ref d),some (.ref ln),some pl,some hs,some (.ref l),some (.int num),some c] s=some (.nx [some bed,some (.ref d),some (.ref ln),some pl,some hs,some (.ref l),some (.int num),some c],s1.set l (.lst<|L++[.tup [.int a,.int b,.int num]])):=by
 unfold Qy;simp[es,e,f,g,Ig,h,i,j,m]
def sN{R:Int}{a:D}(es:ML a (some 1) none s=some (sl,s))(b:RO [.ref d,sl,.ref ln] s=some (.int R,s1))(c:Hj hs (.int 0) s1=some (.int E,s1))(e:¬E<=R):
  Qy [some bed,some (.ref d),some (.ref ln),some pl,some hs,some (.ref l),some (.int num),some a] s=some (.nx [some bed,some (.ref d),some (.ref ln),some pl,some hs,some (.ref l),some (.int num),some a],s1):=by
 unfold Qy;simp[es,b,c,e]
variable {e w h x y:Int}{stk:List (Str×Int)}{ks:List (!6)}{P:List Tl}{st:Hh}
def jL{P:List Tl}(c:Ctx bed e stk ks w h)(hP:∀t∈P,0<=t.2.2/\t.2.2<(ks.length:Int))(hd:st[d]?=some (.dk<|KI stk))(hn:st[ln]?=some (.lst<|(!8).map D.str)):
  ∃n,Uy [bed,.ref d,.ref ln,.tup [.int x,.int y]] st=some (.ref st.length,n)/\n[st.length]?=some (.lst<|(gK e stk ks P x y ks.length).map tD)/\Gr st n:=by
 obtain⟨hs,i0,ie,_,i2⟩:=c.at_;have o:strsOf ((!8).map D.str)=some (!8):=eX _;have hN:∀u∈names4 ks P x y,Iz u:=λu E=>by
  simp[names4]at E;rcases E with rfl|rfl|rfl|rfl<;>exact Ys c.ks hP _ _
 have I:sizeLine=16777216:=CA;have p:((!8).all λz=>decide (z.length<=sizeLine))=true:=List.all_eq_true.mpr λu E=>decide_eq_true (by
  have:=(hN u E).len;rw[len_list,I];omega)
 have J:(st++[O.lst []])[ln]?=some (.lst<|(!8).map D.str):=by rw[Ar (qax hn)];exact hn
 have H:MV [.ref ln] (st++[O.lst []])=some (.bl ((!8).any NX),st++[O.lst []]):=by unfold MV;simp only[Ig,J,Ae,o,p,if_true]
 have hd1:(st++[O.lst []])[d]?=some (.dk<|KI stk):=by rw[Ar (qax hd)];exact hd
 have a1:=IJ st<|.lst [];have g1:=Gr.app st [.lst []];have s1l:(st++[O.lst []]).length=st.length+1:=by simp
 generalize q:st++[O.lst []]=s1 at *;by_cases hany:(!8).any NX=true
 ·rw[hany]at H;have K:=qax hd;have M:=qax hn;have key:=Kw (W:=⟨pairs<|ks.map IE,[]⟩) (g:=J5 2 (gC (Ho 6)<|gC (Ho 7)<|J6)) (m:=Qy) (ds:=pairs (ks.map IE)) (U:=[some bed,some (.ref d),some (.ref ln),some (.tup [.int x,.int y]),some hs,some (.ref st.length),none,none]) (st:=s1)
   (Inv:=λk U s=>(∃a b,U=[some bed,some (.ref d),some (.ref ln),some (.tup [.int x,.int y]),some hs,some (.ref st.length),a,b])/\s[st.length]?=some (.lst<|(gK e stk ks P x y k).map tD)/\Gr st s)
   ⟨⟨_,_,rfl⟩,a1,g1⟩ (λ_ _ _ _ _=>rfl) (λk dd U s Q hI=>by
    obtain⟨⟨u,v,rfl⟩,L,r⟩:=hI;obtain⟨kd,A,rfl⟩:=dD Q;rw[Az]at A;obtain⟨kk,B,rfl⟩:=Ia A;have hk:=qax B;have k1:((k:Nat):Int)<(ks.length:Int):=by omega
    obtain⟨f,b0,b1,b2,b3,ek,T,X⟩:=MD c.ks (k:=(k:Int)) (!0) k1;have C:kk=[f,b0,b1,b2,b3]:=by rw[Bz,B]at ek;exact Av ek
    subst C;have F:ML (IE [f,b0,b1,b2,b3]) (some 1) none s=some (.tup ((IC ks (k:Int)).map D.str),s):=by rw[T];rfl
    obtain⟨s2,e2,g2⟩:=ziT (S:=IC ks (k:Int)) (N:=names4 ks P x y) (st:=s) c.stk (by rw[T];exact Ag _) (λu E=>by rw[T]at E;exact X u E) (λu E=>Ti (hN u E).ab) ((r.old _ K).trans hd)<|(r.old _ M).trans hn;have l:=(g2.old _<|qax L).trans L;have Y:=r.trans g2;have hlen:=To e stk ks P x y k;have k13:=c.hs.hi
    by_cases hR:e<=JC stk ks P x y k
    ·have Z:=append_at (x:=.tup [.int x,.int y,.int (k:Int)]) l (by rw[Af];omega);refine⟨_,s,_,_,rfl,VB F e2 (ie _) hR l (IA (!1) rfl) (IA (!1) rfl) Z,⟨_,_,rfl⟩,?_,⟨by rw[Bq];exact Y.len,λj hj=>by rw[Ak (!0)];exact Y.old j hj⟩⟩;rw[AC (qax l),TB,if_pos hR,AX];rfl
    refine⟨_,s,_,_,rfl,sN F e2 (ie _) hR,⟨_,_,rfl⟩,?_,Y⟩;rw[TB,if_neg hR];exact l)
  obtain⟨U',s',el,⟨u,v,rfl⟩,L,r⟩:=key;have hpl:(pairs<|ks.map IE).length=ks.length:=by unfold pairs;simp
  rw[hpl]at L;refine⟨s',IW ?_,L,r⟩;unfold XF;refine Hy (U1:=[some bed,some (.ref d),some (.ref ln),some (.tup [.int x,.int y]),some hs,none,none,none]) (s1:=st) (by simp[i0]) ?_;refine Hy (U1:=[some bed,some (.ref d),some (.ref ln),some (.tup [.int x,.int y]),some hs,some (.ref st.length),none,none]) (s1:=s1) (by simp[q]) ?_;refine Hy (U1:=[some bed,some (.ref d),some (.ref ln),some (.tup [.int x,.int y]),some hs,some (.ref st.length),none,none]) (s1:=s1) (by simp[H]) ?_;refine Hy (U1:=[some bed,some (.ref d),some (.ref ln),some (.tup [.int x,.int y]),some hs,some (.ref st.length),u,v]) (s1:=s') (by
   have ec:mB Hj (mV 4) (mK<|.int 2) [some bed,some (.ref d),some (.ref ln),some (.tup [.int x,.int y]),some hs,some (.ref st.length),none,none] s1=some (.tup (ks.map IE),s1):=by simp[i2]
   rw[J0,bU ec];exact el) ?_
  simp
 ·have hf:(!8).any NX=false:=by simpa using hany
  rw[hf]at H;have i:∀u∈names4 ks P x y,u="":=λu E=>by
   have h1:NX u=false:=by rw[FR]at hf;simpa using hf u E
   unfold NX at h1;have h2:u.length=0:=by simpa using h1
   refine aY ?_;have h3:u.cps.toList.length=0:=by rw[<-len_list];exact h2
   rw[List.length_eq_zero_iff.mp h3];rfl
  have h4:names4 ks P x y=[("":Str),("":Str),("":Str),("":Str)]:=by have q0:=i (Kf ks P (x,y+1) 2) (by simp[names4]);have q1:=i (Kf ks P (x+1,y) 3) (by simp[names4]);have q2:=i (Kf ks P (x,y-1) 0) (by simp[names4]);have q3:=i (Kf ks P (x-1,y) 1) (by simp[names4]);unfold names4;rw[q0,q1,q2,q3]
  have G:gK e stk ks P x y ks.length=[]:=Zz c.hs.e0 h4 _;refine⟨s1,IW ?_,by rw[G];exact a1,g1⟩;unfold XF;refine Hy (U1:=[some bed,some (.ref d),some (.ref ln),some (.tup [.int x,.int y]),some hs,none,none,none]) (s1:=st) (by simp[i0]) ?_;refine Hy (U1:=[some bed,some (.ref d),some (.ref ln),some (.tup [.int x,.int y]),some hs,some (.ref st.length),none,none]) (s1:=s1) (by simp[q])<|O9 ?_;simp[H]
def Ow(bed:D)(a b ld c:Nat):List (Str×D):=[("bed",bed),("strengths",.ref a),("kinds",.ref b),("laid",.ref ld),("ready",.ref c)]
def OA(C:Addr)(o:Nat)(bed:D)(a b ld c:Nat)(s:Hh):Prop:=s[o]?=some (.ob C<|Ow bed a b ld c)
variable {kd o sd ld rd:Nat}{C:Addr}{U:HX}{f:Str}{fs:List (Str×D)}
section
variable {m:ME}
def Q2{d:D}(hm:m U s=some (.ref o,s1))(h:s1[o]?=some (.ob C fs))(l:fs.lookup f=some d):Hv C f m U s=some (d,s1):=by unfold Hv;simp[hm,h,l]
def PZ(h:OA C o bed sd kd ld rd s):Hv C "bed" (mV 0) (some (.ref o)::U) s=some (bed,s):=Q2 rfl h rfl
def jT(h:OA C o bed sd kd ld rd s):Hv C "strengths" (mV 0) (some (.ref o)::U) s=some (.ref sd,s):=Q2 rfl h rfl
def P0(h:OA C o bed sd kd ld rd s):Hv C "kinds" (mV 0) (some (.ref o)::U) s=some (.ref kd,s):=Q2 rfl h rfl
def Tn(h:OA C o bed sd kd ld rd s):Hv C "laid" (mV 0) (some (.ref o)::U) s=some (.ref ld,s):=Q2 rfl h rfl
def Oc(h:OA C o bed sd kd ld rd s):Hv C "ready" (mV 0) (some (.ref o)::U) s=some (.ref rd,s):=Q2 rfl h rfl
end
noncomputable abbrev Yq:=(Int×Int)×Nat
def Il(q:Yq):List Key×D:=([.inl q.1.1,.inl q.1.2],.ref q.2)
def Km(Y:List Yq)(p:Int×Int):List Yq:=Y.filter λq=>!decide (q.1=p)
def Te(q:Yq)(p:Int×Int):decide ((Il q).1=[.inl p.1,.inl p.2])=decide (q.1=p):=by obtain⟨⟨a,b⟩,n⟩:=q;obtain⟨x,y⟩:=p;simp[Il]
variable {p:Int×Int}
def dQ:∀{Y:List Yq},(∀q∈Y,q.1≠p)->Km Y p=Y:=λ{Y} h=>List.filter_eq_self.mpr λq d=>by simpa using h q d
theorem aN{p:Int×Int}:∀{Y:List Yq},(Y.map (·.1)).Nodup->JV (Y.map Il) [.inl p.1,.inl p.2]=(Km Y p).map Il
 |[],_=>rfl
 |q::Y,a=>by
  rw[Ao,Dz]at a;unfold JV;rw[Ao,Cj,Te];by_cases h:q.1=p
  ·rw[decide_eq_true h];have:∀z∈Y,z.1≠p:=λz l e=>a.1<|P3.mpr ⟨z,l,e.trans h.symm⟩;have d:Km (q::Y) p=Y:=by
    have:=dQ this;unfold Km at this ⊢;simp[h,this]
   rw[d];rfl
  ·rw[decide_eq_false h];have f:=aN (p:=p) a.2;unfold JV at f;have d:Km (q::Y) p=q::Km Y p:=by
    unfold Km;simp[h]
   rw[d,Ao,<-f];rfl
theorem Q8{p:Int×Int}:∀{Y:List Yq},(HN (Y.map Il) [.inl p.1,.inl p.2]=none/\∀q∈Y,q.1≠p)\/∃n,(p,n)∈Y/\HN (Y.map Il) [.inl p.1,.inl p.2]=some (.ref n)
 |[]=>.inl ⟨rfl,λq c=>nomatch c⟩
 |q::Y=>by
  by_cases h:q.1=p
  ·refine .inr ⟨q.2,by rw[<-h];exact Al,?_⟩;unfold HN;rw[Ao,AU];have:=Te q p;simp[this,h,Il]
  ·have e:HN ((q::Y).map Il) [.inl p.1,.inl p.2]=HN (Y.map Il) [.inl p.1,.inl p.2]:=by
    unfold HN;rw[Ao,AU];have:=Te q p;simp[this,h]
   rcases Q8 (p:=p) (Y:=Y)with⟨a,b⟩|⟨n,a,b⟩
   ·exact .inl ⟨e.trans a,λz hz=>by
     rcases KM.mp hz with rfl|hz
     ·exact h
     exact b z hz⟩
   exact .inr ⟨n,Ai _ a,e.trans b⟩
variable {Y:List Yq}
def tM(h:OA C o bed sd kd ld rd s)(c:s[rd]?=some (.dt<|Y.map Il))(g:(Y.map (·.1)).Nodup):
  ∃v,Of (Hv C "ready"<|mV 0) (mV 1) (mK .non) (some (.ref o)::some (Ip p)::U) s=some (v,s.set rd (.dt<|(Km Y p).map Il)):=by
 have hk:keysOf [.int p.1,.int p.2]=some [.inl p.1,.inl p.2]:=rfl;have hd:LA s rd=true:=by unfold LA;rw[c]
 have d:=qax c;rcases Q8 (p:=p) (Y:=Y)with⟨a,b⟩|⟨n,a,b⟩
 ·refine⟨.non,?_⟩;have e:s.set rd (.dt<|(Km Y p).map Il)=s:=by
   rw[dQ b];apply F7;intro i;by_cases hi:i=rd
   ·subst hi;rw[AC d,c]
   rw[Ak (λz=>hi z.symm)]
  rw[e];unfold Of;rw[Oc h];simp[hd,c,Ip,hk,a]
 refine⟨.ref n,?_⟩;rw[<-aN g];unfold Of;rw[Oc h];simp[hd,c,Ip,hk,b]
variable {N:Nat}
def Od{ms:MS}{ds:List D}(h:ms (Lq N ds) st=some (.nx U,s)):ID N ms ds st=some (.non,s):=by unfold ID;rw[h];rfl
def PU(w h:Int)(p:Int×Int):Prop:=0<=p.1/\p.1<w/\0<=p.2/\p.2<h
def bZ{lo hi:Int}(h:¬(lo<=x/\x<=hi)):RF [.int x,.int lo,.int hi] st=some (.bl false,st):=by
 refine IW ?_;have t1:tyName st (.int x)=some "int":=rfl;have d:Ke "int" "int"=true:=by decide
 have t3:Ke "int" "bool"=false:=by decide
 unfold WQ;by_cases h1:lo<=x
 ·have e:¬x<=hi:=λz=>h ⟨h1,z⟩;simp[Mg,t1,d,t3,h1,e]
 simp[Mg,t1,d,t3,h1]
def vV(c:Ctx bed e stk ks w h)(hn:¬PU w h p):NH [bed,Ip p] st=some (.bl false,st):=by
 obtain⟨x,y⟩:=p;have f:=cL (ds:=[.int x,.int y]) (n:=2) (N:=2) (st:=st) rfl rfl;have l:Hj (.tup [.int x,.int y]) (.int 0) st=some (.int x,st):=IA (!1) rfl;have s:Hj (.tup [.int x,.int y]) (.int 1) st=some (.int y,st):=IA (!1) rfl;have o:Hj (.tup [.int w,.int h]) (.int 0) st=some (.int w,st):=IA (!1) rfl;have C:Hj (.tup [.int w,.int h]) (.int 1) st=some (.int h,st):=IA (!1) rfl;have E:=c.fl;refine IW ?_;unfold WO;refine Hy (U1:=[some bed,some (.tup [.int x,.int y]),some (.tup [.int w,.int h])]) (s1:=st) (by simp[E,Ip]) ?_
 by_cases hx:0<=x/\x<w
 ·have d:=Wy (x:=x) (lo:=0) (hi:=w-1) (st:=st) hx.1 (!0);have L:=bZ (x:=y) (lo:=0) (hi:=h-1) (st:=st) λz=>hn ⟨hx.1,hx.2,z.1,by show y<h;omega⟩;simp[f,d,L,l,s,o,C]
 have d:=bZ (x:=x) (lo:=0) (hi:=w-1) (st:=st) λz=>hx ⟨z.1,by omega⟩;simp[f,d,l,o]
variable {v:D}{a2 a3:Option D}{s2 s3:Hh}
section
variable {s4:Hh}
def xC(b:Of (Hv C "ready"<|mV 0) (mV 1) (mK .non) [some (.ref o),some pl,none,none] s=some (v,s1))(c:OA C o bed sd kd ld rd s1)(a:Kn pl (.ref kd) s1=some (.bl false,s1)):
  Pu C [some (.ref o),some pl,none,none] s=some (.nx [some (.ref o),some pl,none,none],s1):=by
 have d:Hv C "kinds" (mV 0) [some (.ref o),some pl,none,none] s1=some (.ref kd,s1):=P0 c;unfold Pu;refine Hy (U1:=[some (.ref o),some pl,none,none]) (s1:=s1) (by rw[LF,b];rfl) ?_;simp[d,a]
def nH(c:Of (Hv C "ready"<|mV 0) (mV 1) (mK .non) [some (.ref o),some pl,none,none] s=some (v,s1))(b:OA C o bed sd kd ld rd s1)(a:Kn pl (.ref kd) s1=some (.bl true,s1))(g:NH [bed,pl] s1=some (.bl false,s1)):
  Pu C [some (.ref o),some pl,none,none] s=some (.nx [some (.ref o),some pl,none,none],s1):=by
 have d:Hv C "kinds" (mV 0) [some (.ref o),some pl,none,none] s1=some (.ref kd,s1):=P0 b;have e:Hv C "bed" (mV 0) [some (.ref o),some pl,none,none] s1=some (bed,s1):=PZ b;unfold Pu;refine Hy (U1:=[some (.ref o),some pl,none,none]) (s1:=s1) (by rw[LF,c];rfl) ?_;simp[d,e,a,g]
def bQ{r:Option (Fl×Hh)}(g:Of (Hv C "ready"<|mV 0) (mV 1) (mK .non) [some (.ref o),some pl,none,none] s=some (v,s1))(b:OA C o bed sd kd ld rd s1)(a:Kn pl (.ref kd) s1=some (.bl true,s1))(i:NH [bed,pl] s1=some (.bl true,s1))(j:UR [bed,.ref kd,pl] s1=some (.ref ln,s2)) (c:OA C o bed sd kd ld rd s2) (m:Uy [bed,.ref sd,.ref ln,pl] s2=some (.ref l,s3)) (k:Jf (Kg<|mV 3) (JR (Hv C "ready"<|mV 0) (mV 1)<|mV 3) Jm [some (.ref o),some pl,some (.ref ln),some (.ref l)] s3=r):
  Pu C [some (.ref o),some pl,none,none] s=r:=by
 have d:Hv C "kinds" (mV 0) [some (.ref o),some pl,none,none] s1=some (.ref kd,s1):=P0 b;have e:Hv C "bed" (mV 0) [some (.ref o),some pl,none,none] s1=some (bed,s1):=PZ b;have f:Hv C "bed" (mV 0) [some (.ref o),some pl,some (.ref ln),none] s2=some (bed,s2):=PZ c;have h:Hv C "strengths" (mV 0) [some (.ref o),some pl,some (.ref ln),none] s2=some (.ref sd,s2):=jT c;unfold Pu;refine Hy (U1:=[some (.ref o),some pl,none,none]) (s1:=s1) (by rw[LF,g];rfl) ?_;rw[Md];have p:LB (mT<|mB Kn (mV 1)<|Hv C "kinds"<|mV 0) (mT<|Hr NH<|Hf (Hv C "bed"<|mV 0)<|Hf (mV 1)<|mZ) [some (.ref o),some pl,none,none] s1=some (true,s1):=by simp[d,e,a,i]
 rw[p,Ae,if_pos rfl];refine Hy (U1:=[some (.ref o),some pl,some (.ref ln),none]) (s1:=s2) (by simp[d,e,j]) ?_;exact Hy (U1:=[some (.ref o),some pl,some (.ref ln),some (.ref l)]) (s1:=s3) (by simp[f,h,m]) k
def rK(a:s3[l]?=some (.lst [])):Jf (Kg<|mV 3) (JR (Hv C "ready"<|mV 0) (mV 1)<|mV 3) Jm [some (.ref o),some pl,some (.ref ln),some (.ref l)] s3=some (.nx [some (.ref o),some pl,some (.ref ln),some (.ref l)],s3):=by simp[Qe,KH,Ig,a]
def nJ{d:D}(a:s3[l]?=some (.lst (d::L)))(b:OA C o bed sd kd ld rd s3)(c:dput s3 rd (.tup [.int x,.int y]) (.ref l)=some s4):Jf (Kg<|mV 3) (JR (Hv C "ready"<|mV 0) (mV 1)<|mV 3) Jm [some (.ref o),some (.tup [.int x,.int y]),some (.ref ln),some (.ref l)] s3=some (.nx [some (.ref o),some (.tup [.int x,.int y]),some (.ref ln),some (.ref l)],s4):=by
 have e:Hv C "ready" (mV 0) [some (.ref o),some (.tup [.int x,.int y]),some (.ref ln),some (.ref l)] s3=some (.ref rd,s3):=Oc b;rw[Md];have f:Kg (mV 3) [some (.ref o),some (.tup [.int x,.int y]),some (.ref ln),some (.ref l)] s3=some (true,s3):=by simp[Qe,KH,Ig,a]
 rw[f,Ae,if_pos rfl,Qd];have h:Ht (mV 3) (Nj IK (Hv C "ready"<|mV 0)<|mV 1) [some (.ref o),some (.tup [.int x,.int y]),some (.ref ln),some (.ref l)] s3=none:=by simp[e,IK]
 rw[h,LD];unfold Nm;simp[e,c]
end
variable {n:Nat}
def Mw{o:O}(g:Gr st s)(h:st.length<=n):Gr st (s.set n o):=⟨by rw[Bq];exact g.len,λj d=>by rw[Ak (!0)];exact g.old j d⟩
structure Gw(C:Addr)(o sd kd ld rd:Nat)(bed:D)(stk:List (Str×Int))(P R:List Tl)(F:Int×Int->List Tl)(Y:List Yq)(st0 s:Hh):Prop where
 ob:OA C o bed sd kd ld rd s
 hs:s[sd]?=some (.dk (KI stk))
 hk:s[kd]?=some (.dt (P.map Hl))
 hl:s[ld]?=some (.lst (R.map tD))
 hr:s[rd]?=some (.dt (Y.map Il))
 nd:(Y.map (·.1)).Nodup
 hy:∀q∈Y,rd<q.2/\s[q.2]?=some (.lst ((F q.1).map tD))
 fr:Gr st0 s
def Ku(e:Int)(stk:List (Str×Int))(ks:List (!6))(w h:Int)(P:List Tl)(p:Int×Int):Prop:=PU w h p/\Im P p.1 p.2=none/\gK e stk ks P p.1 p.2 ks.length≠[]
def Rq{q:Yq}:q∈Km Y p ↔ q∈Y/\q.1≠p:=by unfold Km;rw[EG];simp
def pV{Y:List Yq}(h:∀q∈Y,q.1≠p):putD (Y.map Il) [.inl p.1,.inl p.2] (.ref n)=(Y++[(p,n)]).map Il:=by
 unfold putD;rw[if_neg,AX]
 ·rfl
 intro z;obtain⟨f,d,z⟩:=List.any_eq_true.mp z;obtain⟨q,e,rfl⟩:=P3.mp d;rw[Te]at z;exact h q e<|of_decide_eq_true z
variable {F F':Int×Int->List Tl}{st0 s':Hh}{Y':List Yq}
section
variable {R:List Tl}
def Gw.gr(q:Gw C o sd kd ld rd bed stk P R F Y st0 s)(g:Gr s s'):Gw C o sd kd ld rd bed stk P R F Y st0 s':=⟨(g.old _<|qax q.ob).trans q.ob,(g.old _<|qax q.hs).trans q.hs,(g.old _<|qax q.hk).trans q.hk,(g.old _<|qax q.hl).trans q.hl,(g.old _<|qax q.hr).trans q.hr,q.nd,λz d=>⟨(q.hy z d).1,(g.old _<|qax (q.hy z d).2).trans (q.hy z d).2⟩,q.fr.trans g⟩
def Gw.rdy{Y':List Yq}(q:Gw C o sd kd ld rd bed stk P R F Y st0 s)(hn:st0.length<=o/\o<sd/\sd<kd/\kd<ld/\ld<rd)(b:(Y'.map (·.1)).Nodup)(a:∀z∈Y',rd<z.2/\s[z.2]?=some (.lst<|(F' z.1).map tD)):Gw C o sd kd ld rd bed stk P R F' Y' st0 (s.set rd<|.dt<|Y'.map Il):=by
 obtain⟨e,f,h,l,n⟩:=hn;refine⟨?_,?_,?_,?_,?_,b,λz d=>⟨(a z d).1,?_⟩,Mw q.fr<|by omega⟩
 ·unfold OA;rw[Ak (!0)];exact q.ob
 ·rw[Ak (!0)];exact q.hs
 ·rw[Ak (!0)];exact q.hk
 ·rw[Ak (!0)];exact q.hl
 ·rw[AC (qax q.hr)]
 have:=(a z d).1;rw[Ak (!0)];exact(a z d).2
def W2(c:Ctx bed e stk ks w h)(hn:st0.length<=o/\o<sd/\sd<kd/\kd<ld/\ld<rd)(q:Gw C o sd kd ld rd bed stk P R F Y st0 s)(M:∀t∈P,0<=t.2.2/\t.2.2<(ks.length:Int))(A:Y.length<=1000):
  ∃(Y':List Yq) (s':Hh),Nf C [.ref o,Ip p] s=some (.non,s')/\Gw C o sd kd ld rd bed stk P R (λg=>if g=p then gK e stk ks P p.1 p.2 ks.length else F g) Y' st0 s'/\(∀g,(∃n,(g,n)∈Y') ↔ (g≠p/\∃n,(g,n)∈Y)\/(g=p/\Ku e stk ks w h P p))/\Y'.length<=Y.length+1:=by
 obtain⟨v,r⟩:=tM (p:=p) (U:=[none,none]) q.ob q.hr q.nd;have N:((Km Y p).map (·.1)).Nodup:=q.nd.sublist<|(Fw).map _;have l:Gw C o sd kd ld rd bed stk P R (λg=>if g=p then gK e stk ks P p.1 p.2 ks.length else F g) (Km Y p) st0 (s.set rd<|.dt<|(Km Y p).map Il):=q.rdy hn N λz hz=>by obtain⟨W,B⟩:=Rq.mp hz;rw[if_neg B];exact q.hy z W
 have G:(Km Y p).length<=Y.length:=A2 _ _;have i:∀z∈Km Y p,z.1≠p:=λz hz=>(Rq.mp hz).2;have base:∀g,(∃n,(g,n)∈Km Y p) ↔ (g≠p/\∃n,(g,n)∈Y):=λg=>⟨λ⟨n,z⟩=>⟨(Rq.mp z).2,n,(Rq.mp z).1⟩,λ⟨z,n,B⟩=>⟨n,Rq.mpr ⟨B,z⟩⟩⟩;have stay:¬Ku e stk ks w h P p->∀g,(∃n,(g,n)∈Km Y p) ↔ (g≠p/\∃n,(g,n)∈Y)\/(g=p/\Ku e stk ks w h P p):=λH g=>(base g).trans ⟨.inl,λz=>z.elim id λz=>absurd z.2 H⟩;generalize s.set rd (.dt<|(Km Y p).map Il)=s1 at *;have d:=Ub (x:=p.1) (y:=p.2) l.hk;rw[MH,By]at d
 cases hf:Im P p.1 p.2 with
 |some k'=>
  rw[hf]at d;exact⟨_,s1,Od<|xC r l.ob d,l,stay (λz=>by rw[z.2.1]at hf;cases hf),by omega⟩
 |none=>
  rw[hf]at d;by_cases f:PU w h p
  ·obtain⟨s2,Q,a1,g1⟩:=zQ (x:=p.1) (y:=p.2) c.bed c.ks M l.hk;have j:=l.gr g1;obtain⟨s3,S,a2,g2⟩:=jL (x:=p.1) (y:=p.2) c M j.hs a1;have E:=j.gr g2;have m:=cM (st:=s1) c f.1 f.2.1 f.2.2.1 f.2.2.2
   cases u:gK e stk ks P p.1 p.2 ks.length with
   |nil=>
    rw[u]at a2 E;exact⟨_,s3,Od<|bQ r l.ob d m Q j.ob S<|rK a2,E,stay λz=>z.2.2 u,by omega⟩
   |cons t L=>
    rw[u]at a2 E;have I:rd<s2.length:=qax j.hr;have X:dput s3 rd (.tup [.int p.1,.int p.2]) (.ref s2.length)=some (s3.set rd<|.dt<|(Km Y p++[(p,s2.length)]).map Il):=by have hk:keysOf [.int p.1,.int p.2]=some [.inl p.1,.inl p.2]:=rfl;have J:(Km Y p).length<sizeLine:=BR (AA G A) (!1);unfold dput;rw[E.hr];simp only[hk,Ae,Af,decide_eq_true J,if_true];rw[pV i]
    refine⟨Km Y p++[(p,s2.length)],_,Od<|bQ r l.ob d m Q j.ob S<|nJ a2 E.ob X,E.rdy hn ?_ λz hz=>?_,λg=>?_,by rw[AB,Bm];omega⟩
    ·rw[AX];refine List.nodup_append.mpr ⟨N,by simp,λa Z b T z=>?_⟩;obtain⟨y,hy,rfl⟩:=P3.mp Z;simp at T;exact i y hy<|z.trans T
    ·rcases Os.mp hz with hz|hz
     ·exact E.hy z hz
     rw[On.mp hz];refine⟨I,?_⟩;show s3[s2.length]?=_;rw[a2,if_pos rfl]
    ·have K:Ku e stk ks w h P p:=⟨f,hf,by rw[u];simp⟩
     constructor
     ·rintro⟨n,z⟩
      rcases Os.mp z with z|z
      ·exact .inl<|(base g).mp ⟨n,z⟩
      have:=On.mp z;exact .inr ⟨by cases this;rfl,K⟩
     ·rintro(z|⟨rfl,_⟩)
      ·obtain⟨n,z⟩:=(base g).mpr z;exact⟨n,A4 _ z⟩
      exact⟨s2.length,by simp⟩
  exact⟨_,s1,Od<|nH r l.ob d<|vV c f,l,stay λz=>f z.1,by omega⟩
end
variable {F0:Int×Int->List Tl}{Y0:List Yq}
section
variable {R:List Tl}
structure Jp(e:Int)(stk:List (Str×Int))(ks:List (!6))(w h:Int)(P:List Tl)(ps:List (Int×Int))(F0:Int×Int->List Tl)(Y0:List Yq)(F:Int×Int->List Tl)(Y:List Yq):Prop where
 old:∀p,p∉ps->((∃n,(p,n)∈Y) ↔ ∃n,(p,n)∈Y0)/\F p=F0 p
 new:∀p,p∈ps->((∃n,(p,n)∈Y) ↔ Ku e stk ks w h P p)/\F p=gK e stk ks P p.1 p.2 ks.length
def Jp.nil:Jp e stk ks w h P [] F0 Y0 F0 Y0:=⟨λp _=>⟨Iff.rfl,rfl⟩,λp d=>nomatch d⟩
def Jp.step{ps:List (Int×Int)}(u:Jp e stk ks w h P ps F0 Y0 F Y)(g:∀c,(∃n,(c,n)∈Y') ↔ (c≠p/\∃n,(c,n)∈Y)\/(c=p/\Ku e stk ks w h P p)):Jp e stk ks w h P (ps++[p]) F0 Y0 (λc=>if c=p then gK e stk ks P p.1 p.2 ks.length else F c) Y':=by
 refine⟨λc d=>?_,λc d=>?_⟩
 ·rw[C4,not_or,DT]at d;obtain⟨a,b⟩:=u.old c d.1;refine⟨(g c).trans ⟨λz=>?_,λz=>.inl ⟨d.2,a.mpr z⟩⟩,by rw[if_neg d.2];exact b⟩
  rcases z with z|z
  ·exact a.mp z.2
  exact absurd z.1 d.2
 ·by_cases hpp:c=p
  ·subst hpp;refine⟨(g c).trans ⟨λz=>?_,λz=>.inr ⟨rfl,z⟩⟩,by rw[if_pos rfl]⟩
   rcases z with z|z
   ·exact absurd rfl z.1
   exact z.2
  ·rw[C4,DT]at d;have f:c∈ps:=d.resolve_right hpp;obtain⟨a,b⟩:=u.new c f;refine⟨(g c).trans ⟨λz=>?_,λz=>.inl ⟨hpp,a.mpr z⟩⟩,by rw[if_neg hpp];exact b⟩
   rcases z with z|z
   ·exact a.mp z.2
   exact absurd z.1 hpp
def Pf{g:GN}{mm:MA}(hf:(Ow bed sd kd ld rd).lookup f=none)(h:OA C o bed sd kd ld rd s):Jz C f g (mV 0) mm (some (.ref o)::U) s=(mm (some (.ref o)::U) s).bind λp=>g (.ref o::p.1) p.2:=by have h:s[o]?=some (.ob C<|Ow bed sd kd ld rd):=h;have e:mV 0 (some (.ref o)::U) s=some (.ref o,s):=rfl;unfold Jz;rw[e];simp only[Ae,h,hf];simp
def zjh{a:D}{a2:Option D}(h:OA C o bed sd kd ld rd s)(b:Nf C [.ref o,a] s=some (v,s1)):UT C [some (.ref o),some pl,some a] s=some (.nx [some (.ref o),some pl,some a],s1):=by have d:=Pf (C:=C) (o:=o) (f:="look_at") (g:=Nf C) (mm:=Hf (mV 2) mZ) (U:=[some pl,some a]) rfl h;unfold UT;rw[LF,d];simp[b]
def KU(p:Int×Int):List (Int×Int):=[(p.1,p.2+1),(p.1+1,p.2),(p.1,p.2-1),(p.1-1,p.2)]
def gS(c:Ctx bed e stk ks w h)(hn:st0.length<=o/\o<sd/\sd<kd/\kd<ld/\ld<rd)(q:Gw C o sd kd ld rd bed stk P R F Y st0 s)(b:∀t∈P,0<=t.2.2/\t.2.2<(ks.length:Int))(j:Y.length<=900):
  ∃(F':Int×Int->List Tl) (Y':List Yq) (s':Hh),OO C [.ref o,Ip p] s=some (.non,s')/\Gw C o sd kd ld rd bed stk P R F' Y' st0 s'/\Jp e stk ks w h P (p::KU p) F Y F' Y'/\Y'.length<=Y.length+5:=by
 obtain⟨L,s1,u,z,B,Z⟩:=W2 (p:=p) c hn q b (!0);have G:=Jp.step (ps:=[]) (F0:=F) (F:=F) Jp.nil B;have key:=Kw (W:=⟨(KU p).map Ip,[]⟩) (g:=Ho 2) (m:=UT C) (ds:=(KU p).map Ip) (U:=[some (.ref o),some (Ip p),none]) (st:=s1)
  (Inv:=λi U s=>(∃a,U=[some (.ref o),some (Ip p),a])/\∃(F':Int×Int->List Tl) (Y':List Yq),Gw C o sd kd ld rd bed stk P R F' Y' st0 s/\Jp e stk ks w h P (p::(KU p).take i) F Y F' Y'/\Y'.length<=Y.length+1+i)
  ⟨⟨_,rfl⟩,_,L,z,by simpa using G,by omega⟩ (λ_ _ _ _ _=>rfl) (λi dd U s d H=>by obtain⟨⟨a,rfl⟩,F',Y',l,n,v⟩:=H;rw[Az]at d;obtain⟨r,E,rfl⟩:=Ia d;have hi:i<4:=(KB.mp E).1;obtain⟨I,s2,J,K,M,l2⟩:=W2 (p:=r) c hn l b (!0);refine⟨_,s,_,s2,rfl,zjh (a2:=none) l.ob J,⟨_,rfl⟩,_,I,K,?_,by omega⟩;rw[Bd,E];exact Jp.step n M)
 obtain⟨U',s2,Q,⟨a,rfl⟩,F',Y',l,n,v⟩:=key;rw[Af,AR]at n;have S:((KU p).map Ip).length=4:=rfl;rw[S]at v;refine⟨F',Y',s2,Od (U:=[some (.ref o),some (Ip p),a]) ?_,l,n,by omega⟩;have T:=Pf (C:=C) (o:=o) (f:="look_at") (g:=Nf C) (mm:=Hf (mV 1) mZ) (U:=[some (Ip p),none]) rfl q.ob;unfold gT;refine Hy (U1:=[some (.ref o),some (Ip p),none]) (s1:=s1) (by
  show Iq _ [some (.ref o),some (Ip p),none] s=_;rw[LF,T];simp[u]) ?_
 have X:Po [Ip p] s1=some (.tup ((KU p).map Ip),s1):=dF (x:=p.1) (y:=p.2) (st:=s1);have hw:J3 (Hr Po<|Hf (mV 1)<|mZ) [some (.ref o),some (Ip p),none] s1=some (⟨(KU p).map Ip,[]⟩,s1):=by generalize (KU p).map Ip=N at *;generalize Ip p=A at *;simp[X,Mu]
 rw[J0,hw];exact Q
end
variable {t:Tl}
def Rc(h:¬(t.1=x/\t.2.1=y)):Im (P++[t]) x y=Im P x y:=by
 unfold Im;rw[F6];have:[t].find? (λt=>decide (t.1=x)&&decide (t.2.1=y))=none:=by rw[FN];intro u d;rw[On.mp d];simpa using h
 rw[this,Option.or_none]
def zA(h:(x,y)∉KU (t.1,t.2.1)):names4 ks (P++[t]) x y=names4 ks P x y:=by simp only[KU,Bb,Bt,or_false,Prod.mk.injEq,not_or]at h;obtain⟨h0,d,e,f⟩:=h;unfold names4 Kf;rw[Rc (x:=x) (y:=y+1) (!0),Rc (x:=x+1) (y:=y) (!0),Rc (x:=x) (y:=y-1) (!0),Rc (x:=x-1) (y:=y) (!0)]
section
variable {R:List Tl}
def Vu(a:p∉KU (t.1,t.2.1))(n:Nat):gK e stk ks (P++[t]) p.1 p.2 n=gK e stk ks P p.1 p.2 n:=by unfold gK JC;rw[zA (x:=p.1) (y:=p.2) a]
structure Good(e:Int)(stk:List (Str×Int))(ks:List (!6))(w h:Int)(P:List Tl)(F:Int×Int->List Tl)(Y:List Yq):Prop where
 key:∀p,(∃n,(p,n)∈Y) ↔ Ku e stk ks w h P p
 lst:∀p,Ku e stk ks w h P p->F p=gK e stk ks P p.1 p.2 ks.length
def Tg(c:p∉(t.1,t.2.1)::KU (t.1,t.2.1)):Ku e stk ks w h (P++[t]) p ↔ Ku e stk ks w h P p:=by rw[Bb,not_or]at c;unfold Ku;rw[Vu c.2,Rc λz=>c.1 (by obtain⟨a,b⟩:=p;exact Prod.ext z.1.symm z.2.symm)]
def yD(g:Good e stk ks w h P F Y)(u:Jp e stk ks w h (P++[t]) ((t.1,t.2.1)::KU (t.1,t.2.1)) F Y F' Y'):Good e stk ks w h (P++[t]) F' Y':=by
 refine⟨λp=>?_,λp d=>?_⟩
 ·by_cases hm:p∈(t.1,t.2.1)::KU (t.1,t.2.1)
  ·exact(u.new p hm).1
  exact((u.old p hm).1.trans<|g.key p).trans (Tg hm).symm
 ·by_cases hm:p∈(t.1,t.2.1)::KU (t.1,t.2.1)
  ·exact(u.new p hm).2
  rw[(u.old p hm).2,g.lst p ((Tg hm).mp d),Vu];rw[Bb,not_or]at hm;exact hm.2
def Gw.lay(q:Gw C o sd kd ld rd bed stk P R F Y st0 s)(hn:st0.length<=o/\o<sd/\sd<kd/\kd<ld/\ld<rd)(R':List Tl):Gw C o sd kd ld rd bed stk P R' F Y st0 (s.set ld<|.lst<|R'.map tD):=by
 obtain⟨e,f,h,l,n⟩:=hn;refine⟨?_,?_,?_,?_,?_,q.nd,λz d=>⟨(q.hy z d).1,?_⟩,Mw q.fr<|by omega⟩
 ·unfold OA;rw[Ak (!0)];exact q.ob
 ·rw[Ak (!0)];exact q.hs
 ·rw[Ak (!0)];exact q.hk
 ·rw[AC (qax q.hl)]
 ·rw[Ak (!0)];exact q.hr
 have:=(q.hy z d).1;rw[Ak (!0)];exact(q.hy z d).2
def Gw.kin(q:Gw C o sd kd ld rd bed stk P R F Y st0 s)(hn:st0.length<=o/\o<sd/\sd<kd/\kd<ld/\ld<rd)(P':List Tl):Gw C o sd kd ld rd bed stk P' R F Y st0 (s.set kd<|.dt<|P'.map Hl):=by
 obtain⟨e,f,h,l,n⟩:=hn;refine⟨?_,?_,?_,?_,?_,q.nd,λz d=>⟨(q.hy z d).1,?_⟩,Mw q.fr<|by omega⟩
 ·unfold OA;rw[Ak (!0)];exact q.ob
 ·rw[Ak (!0)];exact q.hs
 ·rw[AC (qax q.hk)]
 ·rw[Ak (!0)];exact q.hl
 ·rw[Ak (!0)];exact q.hr
 have:=(q.hy z d).1;rw[Ak (!0)];exact(q.hy z d).2
def nK{k:Int}(h0:OA C o bed sd kd ld rd s)(a:s[ld]?=some (.lst L))(b:LI (.ref ld) [.tup [.int x,.int y,.int k]] s=some (.non,s1))(c:OA C o bed sd kd ld rd s1)(i:dput s1 kd (.tup [.int x,.int y]) (.int k)=some s2)(j:OA C o bed sd kd ld rd s2)(m:OO C [.ref o,.tup [.int x,.int y]] s2=some (v,s3)):
  NG C [.ref o,.tup [.int x,.int y,.int k]] s=some (.non,s3):=by
 exists 14;have e:Hj (.tup [.int x,.int y,.int k]) (.int 2) s1=some (.int k,s1):=IA (!1) rfl;have l:Hv C "laid" (mV 0) [some (.ref o),some (.tup [.int x,.int y,.int k])] s=some (.ref ld,s):=Tn h0;have h:Hv C "kinds" (mV 0) [some (.ref o),some (.tup [.int x,.int y,.int k])] s1=some (.ref kd,s1):=P0 c;have n:=Pf (C:=C) (o:=o) (f:="look_around") (g:=OO C) (mm:=Hf (Jw (mV 1) Lg<|Lh<|mK<|.int 2) mZ) (U:=[some (.tup [.int x,.int y,.int k])]) rfl j;refine Od (U:=[some (.ref o),some (.tup [.int x,.int y,.int k])]) ?_;unfold dU;refine Hy (U1:=[some (.ref o),some (.tup [.int x,.int y,.int k])]) (s1:=s1) (by simp[l,Ig,a,b]) ?_;refine Hy (U1:=[some (.ref o),some (.tup [.int x,.int y,.int k])]) (s1:=s2) ?_ (by rw[LF,n];simp[d,m]);rw[Qd];have p:Ht (mB Hj (mV 1)<|mK<|.int 2) (Nj IK (Hv C "kinds"<|mV 0)<|Jw (mV 1) Lg<|Lh<|mK<|.int 2) [some (.ref o),some (.tup [.int x,.int y,.int k])] s1=none:=by simp[h,d,e,IK]
 rw[p,LD];unfold Nm;simp[h,d,e,i]
def ZC(c:Ctx bed e stk ks w h)(hn:st0.length<=o/\o<sd/\sd<kd/\kd<ld/\ld<rd)(q:Gw C o sd kd ld rd bed stk P R F Y st0 s)(g:Good e stk ks w h P F Y)(b:∀t∈P,0<=t.2.2/\t.2.2<(ks.length:Int))(i:0<=t.2.2/\t.2.2<(ks.length:Int))(hf:Im P t.1 t.2.1=none)(a:Y.length<=900)(j:P.length<=900)(m:R.length<=900):
  ∃(F':Int×Int->List Tl) (Y':List Yq) (s':Hh),NG C [.ref o,tD t] s=some (.non,s')/\Gw C o sd kd ld rd bed stk (P++[t]) (R++[t]) F' Y' st0 s'/\Good e stk ks w h (P++[t]) F' Y'/\Y'.length<=Y.length+5:=by
 obtain⟨x,y,k⟩:=t;have f:=append_at (x:=tD (x,y,k)) q.hl (by rw[Af];omega);have v:R.map tD++[tD (x,y,k)]=(R++[(x,y,k)]).map tD:=by simp
 rw[v]at f;have d:=q.lay hn (R++[(x,y,k)]);have l:=Rm (x:=x) (y:=y) (k:=k) d.hk (!0);rw[Uc hf]at l;have n:=d.kin hn (P++[(x,y,k)]);obtain⟨F',Y',s3,E,L,N,U⟩:=gS (p:=(x,y)) c hn n (λz hz=>by
  rcases Os.mp hz with hz|hz
  ·exact b z hz
  rw[On.mp hz];exact i) a
 exact⟨F',Y',s3,nK q.ob q.hl f d.ob l n.ob E,L,yD g N,U⟩
end
def Rk{a:ME}{y:D}(b:a (some (.ref o)::U) s=some (y,s2))(h:s2[o]?=some (.ob C fs))(c:fs.length<1000):LC C f (mV 0) a (some (.ref o)::U) s=some (.nx (some (.ref o)::U),s2.set o (.ob C<|HW f y fs)):=by have e:mV 0 (some (.ref o)::U) s2=some (.ref o,s2):=rfl;unfold LC;rw[b];simp only[Ae,e,h];simp[c]
section
variable {R:List Tl}
def yI(h:OA C o bed sd kd ld rd s)(a:Nf C [.ref o,.tup [.int x,.int y]] s=some (v,s1)):UN C [some (.ref o),some pl,some (.int x),some (.int y)] s=some (.nx [some (.ref o),some pl,some (.int x),some (.int y)],s1):=by have d:=Pf (C:=C) (o:=o) (f:="look_at") (g:=Nf C) (mm:=Hf (mU<|Hf (mV 2)<|Hf (mV 3) mZ) mZ) (U:=[some pl,some (.int x),some (.int y)]) rfl h;unfold UN;rw[LF,d];simp[a]
def KL(x:Int)(m:Nat):List (Int×Int):=(As m).map λ(j:Nat)=>(x,(j:Int))
def Jg(h n:Nat):List (Int×Int):=((As n).map λ(i:Nat)=>KL (i:Int) h).flatten
def zK(x:Int)(m:Nat):KL x (m+1)=KL x m++[(x,(m:Int))]:=by unfold KL;rw[Cy,AX];rfl
def dR(h n:Nat):Jg h (n+1)=Jg h n++KL (n:Int) h:=by unfold Jg;rw[Cy,AX,DH];simp
def Qp{h:Nat}(h0:0<=p.1)(c:p.1<(n:Int))(g:0<=p.2)(i:p.2<(h:Int)):p∈Jg h n:=by unfold Jg KL;rw[Ed];refine⟨_,P3.mpr ⟨p.1.toNat,by simp;omega,rfl⟩,P3.mpr ⟨p.2.toNat,by simp;omega,?_⟩⟩;obtain⟨a,b⟩:=p;simp at *;omega
def uT(c:Ctx bed e stk ks w h)(hn:st0.length<=o/\o<sd/\sd<kd/\kd<ld/\ld<rd)(q:Gw C o sd kd ld rd bed stk P R F0 [] st0 s)(J:∀t∈P,0<=t.2.2/\t.2.2<(ks.length:Int)):
  ∃(F:Int×Int->List Tl) (Y:List Yq) (b a:Option D) (s':Hh),mF (IG<|mB Hj (mB Hj (mV 1)<|mK<|.int 1)<|mK<|.int 0) (Ho 2) (UO C) [some (.ref o),some bed,a2,a3] s=some (.nx [some (.ref o),some bed,b,a],s')/\Gw C o sd kd ld rd bed stk P R F Y st0 s'/\Good e stk ks w h P F Y/\Y.length<=144:=by
 have f1:=c.fo.w0;have f2:=c.fo.w1;have f3:=c.fo.h0;have f4:=c.fo.h1;have K:∀s:Hh,Hj (.tup [.int w,.int h]) (.int 0) s=some (.int w,s):=λs=>IA (!1) rfl;have M:∀s:Hh,Hj (.tup [.int w,.int h]) (.int 1) s=some (.int h,s):=λs=>IA (!1) rfl;have x:h.toNat<=12:=by omega
 have key:=Kw (W:=⟨run 0 w.toNat,[]⟩) (g:=Ho 2) (m:=UO C) (ds:=run 0 w.toNat) (U:=[some (.ref o),some bed,a2,a3]) (st:=s)
  (Inv:=λi U s=>(∃b a,U=[some (.ref o),some bed,b,a])/\∃(F:Int×Int->List Tl) (Y:List Yq),Gw C o sd kd ld rd bed stk P R F Y st0 s/\Jp e stk ks w h P (Jg h.toNat i) F0 [] F Y/\Y.length<=i*h.toNat)
  ⟨⟨_,_,rfl⟩,F0,[],q,Jp.nil,A5 _⟩ (λ_ _ _ _ _=>rfl) (λi Q U s f L=>by
   obtain⟨⟨b,a,rfl⟩,F,Y,v,d,N⟩:=L;obtain⟨hi,rfl⟩:=Mx f;have r:i*h.toNat<=12*12:=CO (!0) x;have y:=Kw (W:=⟨run 0 h.toNat,[]⟩) (g:=Ho 3) (m:=UN C) (ds:=run 0 h.toNat) (U:=[some (.ref o),some bed,some (.int (i:Int)),a]) (st:=s)
    (Inv:=λj U s=>(∃a,U=[some (.ref o),some bed,some (.int (i:Int)),a])/\∃(F:Int×Int->List Tl) (Y:List Yq),Gw C o sd kd ld rd bed stk P R F Y st0 s/\Jp e stk ks w h P (Jg h.toNat i++KL (i:Int) j) F0 [] F Y/\Y.length<=i*h.toNat+j)
    ⟨⟨_,rfl⟩,F,Y,v,by simpa[KL]using d,by omega⟩ (λ_ _ _ _ _=>rfl) (λj Q U s f L=>by obtain⟨⟨a,rfl⟩,F,Y,v,d,N⟩:=L;obtain⟨hj,rfl⟩:=Mx f;obtain⟨S,s2,T,u,X,H⟩:=W2 (p:=((i:Int),(j:Int))) c hn v J (!0);refine⟨_,s,_,s2,rfl,yI v.ob T,⟨_,rfl⟩,_,S,u,?_,by omega⟩;rw[zK,<-Am];exact Jp.step d X)
   obtain⟨Z,s',A,⟨B,rfl⟩,F',Y',u,I,H⟩:=y;rw[Kx]at I H;refine⟨[some (.ref o),some bed,some (.int (i:Int)),a],s,[some (.ref o),some bed,some (.int (i:Int)),B],s',rfl,?_,⟨_,_,rfl⟩,F',Y',u,by rw[dR];exact I,by rw[DN];omega⟩;have G:small h=true:=OG (!0) (!0);have l:=c.fl s;unfold UO;have:IG (mB Hj (mB Hj (mV 1)<|mK<|.int 1)<|mK<|.int 1) [some (.ref o),some bed,some (.int (i:Int)),a] s=some (⟨run 0 h.toNat,[]⟩,s):=by generalize (i:Int)=kk;simp[l,M,G]
   rw[J0,this];exact A)
 obtain⟨Z,s',A,⟨b,a,rfl⟩,F,Y,v,d,N⟩:=key;rw[Kx]at d N;have r:w.toNat*h.toNat<=12*12:=CO (!0) x;refine⟨F,Y,b,a,s',?_,v,⟨λp=>?_,λp E=>?_⟩,by omega⟩
 ·have G:small w=true:=OG (!0) (!0);have l:=c.fl s;have:IG (mB Hj (mB Hj (mV 1)<|mK<|.int 1)<|mK<|.int 0) [some (.ref o),some bed,a2,a3] s=some (⟨run 0 w.toNat,[]⟩,s):=by simp[l,K,G]
  rw[J0,this];exact A
 ·by_cases hm:p∈Jg h.toNat w.toNat
  ·exact(d.new p hm).1
  refine(d.old p hm).1.trans ⟨λ⟨n,z⟩=>(nomatch z),λz=>absurd (Qp z.1.1 (by have:=z.1.2.1;omega) z.1.2.2.1 (by have:=z.1.2.2.2;omega)) hm⟩
 have hm:p∈Jg h.toNat w.toNat:=Qp E.1.1 (by have:=E.1.2.1;omega) E.1.2.2.1 (by have:=E.1.2.2.2;omega);exact(d.new p hm).2
end
section
variable {sd:List Tl}
def QY{k:Nat}{x y:O}(h:s[n]?=some x)(hk:n≠k):(s.set k y)[n]?=some x:=by rw[Ak (λz=>hk z.symm)];exact h
def MC{x y:O}(h:s[n]?=some x):(s++[y])[n]?=some x:=by rw[Ar (qax h)];exact h
theorem eK(f:Str)(d:D):∀fs:List (Str×D),(HW f d fs).length<=fs.length+1
 |[]=>Ag _
 |(g,x)::r=>by
  have a:=eK f d r;unfold HW;split
  ·simp
  simp;omega
def M8{d:D}(h:fs.length<=n):(HW f d fs).length<=n+1:=AA (eK f d fs)<|CS h
def Ud(h:fs.length<=0+1+1+1+1):fs.length<1000:=BR h<|by decide
def ZU(c:Ctx (!3) e stk ks w h)(a:∀t∈sd,IQ w h ks.length t)(g:HC sd)(K:sd.length<=60):
  ∃(s5 kd ld rd:Nat) (F:Int×Int->List Tl) (Y:List Yq) (b:Hh),UJ C [.ref st.length,Hu e stk ks w h sd] (st++[.ob C []])=some (.non,b)/\(st.length<=st.length/\st.length<s5/\s5<kd/\kd<ld/\ld<rd)/\Gw C st.length s5 kd ld rd (!3) stk sd [] F Y st b/\Good e stk ks w h sd F Y/\Y.length<=144:=by
 obtain⟨hs,M,ie,Q,i2⟩:=c.at_;have S:∀s:Hh,Hj (!3) (.int 2) s=some (HU sd,s):=λs=>IA (!1) rfl;have T:∀t∈sd,0<=t.2.2/\t.2.2<(ks.length:Int):=λt L=>⟨(a t L).2.2.2.2.1,(a t L).2.2.2.2.2⟩
 have o0:=IJ st (.ob C []);have W:Gr st (st++[.ob C []]):=Gr.app _ _;have X:(st++[O.ob C []]).length=st.length+1:=by simp
 generalize Z:st++[O.ob C []]=t0 at *;generalize N:Hu e stk ks w h sd=bed at *;have r1:LC C "bed" (mV 0) (mV 1) [some (.ref st.length),some bed,none,none] t0=some (.nx [some (.ref st.length),some bed,none,none],t0.set st.length (.ob C (HW "bed" bed []))):=Rk rfl o0 (!2);have P:(t0.set st.length (.ob C (HW "bed" bed [])))[st.length]?=some (.ob C (HW "bed" bed [])):=by rw[AC (qax o0)]
 have g1:Gr st (t0.set st.length (.ob C (HW "bed" bed []))):=Mw W (Ag _);have p:(t0.set st.length (.ob C (HW "bed" bed []))).length=st.length+1:=by rw[Bq,X]
 generalize t0.set st.length (.ob C (HW "bed" bed []))=t1 at *;have i:=aK (stk:=stk) (st:=t1) (by have:=c.hs.sl;omega);rw[p]at i;have d1:(t1++[O.dk (KI stk)])[st.length+1]?=some (.dk (KI stk)):=by rw[<-p];exact IJ t1 _
 have r2:LC C "strengths" (mV 0) (Hr PY (Hf (mB Hj (mB Hj (mV 1) (mK (.int 0))) (mK (.int 1))) mZ)) [some (.ref st.length),some bed,none,none] t1=some (.nx [some (.ref st.length),some bed,none,none],(t1++[O.dk (KI stk)]).set st.length (.ob C (HW "strengths" (.ref (st.length+1)) (HW "bed" bed [])))):=Rk (by simp[M,Q,i]) (MC P) (Ud (AA (M8 (Ag 0)) (!1)));have j:((t1++[O.dk (KI stk)]).set st.length (.ob C (HW "strengths" (.ref (st.length+1)) (HW "bed" bed []))))[st.length]?=some (.ob C (HW "strengths" (.ref (st.length+1)) (HW "bed" bed []))):=by rw[AC (qax (MC P))]
 have m:=QY (k:=st.length) (y:=O.ob C (HW "strengths" (.ref (st.length+1)) (HW "bed" bed []))) d1 (!0);have g2:Gr st ((t1++[O.dk (KI stk)]).set st.length (.ob C (HW "strengths" (.ref (st.length+1)) (HW "bed" bed [])))):=Mw (g1.trans (Gr.app _ _)) (Ag _);have l2:((t1++[O.dk (KI stk)]).set st.length (.ob C (HW "strengths" (.ref (st.length+1)) (HW "bed" bed [])))).length=st.length+2:=by simp[p]
 generalize (t1++[O.dk (KI stk)]).set st.length (.ob C (HW "strengths" (.ref (st.length+1)) (HW "bed" bed [])))=r at *;obtain⟨t3,u,a3,g3⟩:=oH (ts:=sd) (st:=r) (!0);rw[TV g]at a3;rw[l2]at u a3;have A:=(g3.old _ (qax j)).trans j;have d3:=(g3.old _ (qax m)).trans m;have l3:=qax a3;have v:=g2.trans g3;have r3:LC C "kinds" (mV 0) (Hr UL (Hf (mB Hj (mV 1) (mK (.int 2))) mZ)) [some (.ref st.length),some bed,none,none] r=some (.nx [some (.ref st.length),some bed,none,none],t3.set st.length (.ob C (HW "kinds" (.ref (st.length+2)) (HW "strengths" (.ref (st.length+1)) (HW "bed" bed []))))):=Rk (by simp[S,u]) A (Ud (AA (M8 (M8 (Ag 0))) (!1)));have B:(t3.set st.length (.ob C (HW "kinds" (.ref (st.length+2)) (HW "strengths" (.ref (st.length+1)) (HW "bed" bed [])))))[st.length]?=some (.ob C (HW "kinds" (.ref (st.length+2)) (HW "strengths" (.ref (st.length+1)) (HW "bed" bed [])))):=by rw[AC (qax A)]
 have d4:=QY (k:=st.length) (y:=O.ob C (HW "kinds" (.ref (st.length+2)) (HW "strengths" (.ref (st.length+1)) (HW "bed" bed [])))) d3 (!0);have G:=QY (k:=st.length) (y:=O.ob C (HW "kinds" (.ref (st.length+2)) (HW "strengths" (.ref (st.length+1)) (HW "bed" bed [])))) a3 (!0);have g4:Gr st (t3.set st.length (.ob C (HW "kinds" (.ref (st.length+2)) (HW "strengths" (.ref (st.length+1)) (HW "bed" bed []))))):=Mw v (Ag _);generalize t3.set st.length (.ob C (HW "kinds" (.ref (st.length+2)) (HW "strengths" (.ref (st.length+1)) (HW "bed" bed []))))=d at *;have l4:st.length+2<d.length:=qax G
 have r4:LC C "laid" (mV 0) (mL mZ) [some (.ref st.length),some bed,none,none] d=some (.nx [some (.ref st.length),some bed,none,none],(d++[O.lst []]).set st.length (.ob C (HW "laid" (.ref d.length) (HW "kinds" (.ref (st.length+2)) (HW "strengths" (.ref (st.length+1)) (HW "bed" bed [])))))):=Rk (!2) (MC B) (Ud (AA (M8 (M8 (M8 (Ag 0)))) (!1)));have H:((d++[O.lst []]).set st.length (.ob C (HW "laid" (.ref d.length) (HW "kinds" (.ref (st.length+2)) (HW "strengths" (.ref (st.length+1)) (HW "bed" bed []))))))[st.length]?=some (.ob C (HW "laid" (.ref d.length) (HW "kinds" (.ref (st.length+2)) (HW "strengths" (.ref (st.length+1)) (HW "bed" bed []))))):=by rw[AC (qax (MC B))]
 have l:∀{n:Nat}{x:O},(d++[O.lst []])[n]?=some x->n≠st.length->((d++[O.lst []]).set st.length (.ob C (HW "laid" (.ref d.length) (HW "kinds" (.ref (st.length+2)) (HW "strengths" (.ref (st.length+1)) (HW "bed" bed []))))))[n]?=some x:=λz E=>QY z E;have d5:=l (MC d4) (!0);have k5:=l (MC G) (!0);have I:=l (IJ d (.lst [])) (!0);have g5:Gr st ((d++[O.lst []]).set st.length (.ob C (HW "laid" (.ref d.length) (HW "kinds" (.ref (st.length+2)) (HW "strengths" (.ref (st.length+1)) (HW "bed" bed [])))))):=Mw (g4.trans (Gr.app _ _)) (Ag _);clear l;generalize (d++[O.lst []]).set st.length (.ob C (HW "laid" (.ref d.length) (HW "kinds" (.ref (st.length+2)) (HW "strengths" (.ref (st.length+1)) (HW "bed" bed [])))))=f at *;have l5:d.length<f.length:=qax I
 have r5:LC C "ready" (mV 0) (O0 true) [some (.ref st.length),some bed,none,none] f=some (.nx [some (.ref st.length),some bed,none,none],(f++[O.dt []]).set st.length (.ob C (Ow bed (st.length+1) (st.length+2) d.length f.length))):=Rk (!2) (MC H) (Ud (M8 (M8 (M8 (M8 (Ag 0))))));have o:∀{n:Nat}{x:O},(f++[O.dt []])[n]?=some x->n≠st.length->((f++[O.dt []]).set st.length (.ob C (Ow bed (st.length+1) (st.length+2) d.length f.length)))[n]?=some x:=λz E=>QY z E;have q:Gw C st.length (st.length+1) (st.length+2) d.length f.length bed stk sd [] (λ_=>[]) [] st ((f++[O.dt []]).set st.length (.ob C (Ow bed (st.length+1) (st.length+2) d.length f.length))):=
  ⟨by unfold OA;rw[AC (qax (MC H))],o (MC d5) (!0),o (MC k5) (!0),o (MC I) (!0),o (IJ f (.dt [])) (!0),CI,λz hz=>(nomatch hz),Mw (g5.trans (Gr.app _ _)) (Ag _)⟩
 have J:st.length<=st.length/\st.length<st.length+1/\st.length+1<st.length+2/\st.length+2<d.length/\d.length<f.length:=⟨Ag _,by omega,by omega,l4,l5⟩
 obtain⟨F,Y,b2,b3,t7,e7,q7,g7,y7⟩:=uT (a2:=none) (a3:=none) c J q T;refine⟨_,_,_,_,F,Y,t7,Od (U:=[some (.ref st.length),some bed,b2,b3]) ?_,J,q7,g7,y7⟩;unfold gL;refine Hy r1 (Hy r2 (Hy r3 (Hy r4 (Hy r5 e7))))
end
def L7(p q:Int×Int):Prop:=p.1<q.1\/(p.1=q.1/\p.2<q.2)
def rL(p q:Int×Int):HT.lexLt [p.1,p.2] [q.1,q.2]=true ↔ L7 p q:=by
 unfold L7;rw[HT.HZ,HT.HZ,HT.IU];by_cases h1:p.1=q.1
 ·rw[if_pos h1]
  by_cases h2:p.2=q.2
  ·rw[if_pos h2];constructor
   ·intro z;cases z
   intro z;omega
  rw[if_neg h2,decide_eq_true_iff];omega
 rw[if_neg h1,decide_eq_true_iff];omega
theorem V0{α:Type}{lt:α->α->Prop}(tr:∀a b c,lt a b->lt b c->lt a c)(m:∀a,¬lt a a)(at_:Nat->α)(g:Nat->Nat->Bool){N:Nat}(q:∀i j,i<=N->j<=N->(g i j=true ↔ lt (at_ i) (at_ j))):∀k j,k<=N->j<=k->¬lt (at_ j) (at_<|argBest g k)
 |0,j,_,r=>by
  have:j=0:=by omega
  subst this;exact m _
 |k+1,j,d,r=>by
  have hk:=W7 g k;unfold argBest;split
  ·rename_i h
   by_cases hjk:j=k+1
   ·subst hjk;exact m _
   intro z;exact V0 tr m at_ g q k j (!0) (!0)<|tr _ _ _ z<|(q _ _ d<|by omega).mp h
  ·rename_i h
   by_cases hjk:j=k+1
   ·subst hjk;exact λz=>h ((q _ _ d<|by omega).mpr z)
   exact V0 tr m at_ g q k j (!0)<|by omega
def Ik(q:Yq):List Int:=[q.1.1,q.1.2]
def oV{Y:List Yq}(g:Y≠[]):∃q∈Y,QK (Y.map Ik)=Ik q/\∀z∈Y,¬L7 z.1 q.1:=by
 have n:0<Y.length:=List.length_pos_iff.mpr g;have get:∀i,i<=Y.length-1->(Y.map Ik).getD i []=Ik (Y.getD i ((0,0),0)):=λi f=>by
  have:i<Y.length:=by omega
  simp[Ax,this]
 have key:=V0 (lt:=L7) (λa b c x y=>by unfold L7 at *;omega) (λa z=>by unfold L7 at z;omega) (λi=>(Y.getD i ((0,0),0)).1) (λi j=>HT.lexLt ((Y.map Ik).getD i []) ((Y.map Ik).getD j [])) (N:=Y.length-1) (λi j f d=>by rw[get i f,get j d];exact rL _ _) (Y.length-1)
 have h:=W7 (λi j=>HT.lexLt ((Y.map Ik).getD i []) ((Y.map Ik).getD j []))<|Y.length-1;have e:QK (Y.map Ik)=(Y.map Ik).getD (argBest (λi j=>HT.lexLt ((Y.map Ik).getD i []) ((Y.map Ik).getD j []))<|Y.length-1) []:=by unfold QK;rw[Af]
 rw[e];generalize argBest (λi j=>HT.lexLt ((Y.map Ik).getD i []) ((Y.map Ik).getD j [])) (Y.length-1)=b at *;refine⟨Y.getD b ((0,0),0),?_,get b h,λz l=>?_⟩
 ·have:b<Y.length:=by omega
  rw[Ax,Ah this];exact Bj this
 obtain⟨j,d,rfl⟩:=DF l;have:=key j (Ag _) (!0);simpa[Ax,d]using this
section
variable {R:List Tl}
def nN(b:s[rd]?=some (.dt<|Y.map Il))(c:Y≠[])(g:Y.length<=1000):O3 [.ref rd] s=some (HJ (QK<|Y.map Ik),s):=by
 have fl:fits (Y.map Il).length=true:=J8 (by rw[Af];omega);have ne:(!(Y.map Il).isEmpty)=true:=by
  cases Y with
  |nil=>exact absurd rfl c
  |cons a l=>rfl
 have d:Js (Y.map Il)=(Y.map Ik).map HJ:=by unfold Js;rw[AK,AK];rfl
 have e:rowsOf ((Y.map Ik).map HJ)=some (Y.map Ik):=Uv λr b=>by obtain⟨q,_,rfl⟩:=P3.mp b;simp[Ik]
 unfold O3;simp only[b,fl,ne,GW,if_true,d,e,AS]
def ZP(a:OA C o bed sd kd ld rd s)(b:s[rd]?=some (.dt<|Y.map Il))(c:Y.length<=1000):O2 (Hv C "ready"<|mV 0) (some (.ref o)::U) s=some (!Y.isEmpty,s):=by
 have fl:fits (Y.map Il).length=true:=J8 (by rw[Af];omega);unfold O2;rw[Oc a];simp only[Ae,b,fl,if_true]
 cases Y<;>rfl
def uB(q:Gw C o sd kd ld rd bed stk P R F [] st0 s):Ml C [.ref o] s=some (.non,s):=by
 have t:=ZP (U:=[none]) q.ob q.hr (!2);refine IW ?_;unfold WH;refine O9 ?_;show Jf _ _ _ [some (.ref o),none] s=_;rw[Md];have d:Me (O2<|Hv C "ready"<|mV 0) [some (.ref o),none] s=some (true,s):=by rw[aH,t];rfl
 rw[d,Ae,if_pos rfl];simp
def iS{p:D}{a:D}(b:OA C o bed sd kd ld rd s)(t:O2 (Hv C "ready"<|mV 0) [some (.ref o),none] s=some (true,s))(em:O3 [.ref rd] s=some (p,s))(c:Hj (.ref rd) p s=some (.ref n,s))(i:Hj (.ref n) (.int 0) s=some (a,s))(j:NG C [.ref o,a] s=some (v,s1)):Ml C [.ref o] s=some (a,s1):=by
 have d:∀U:HX,Hv C "ready" (mV 0) (some (.ref o)::U) s=some (.ref rd,s):=λU=>Oc b;have e:=Pf (C:=C) (o:=o) (f:="lay") (g:=NG C) (mm:=Hf (mV 1) mZ) (U:=[some a]) rfl b;refine IW ?_;unfold WH;refine Hy (U1:=[some (.ref o),none]) (s1:=s) ?_ ?_
 ·show Jf _ _ _ [some (.ref o),none] s=_;rw[Md];have h:Me (O2<|Hv C "ready"<|mV 0) [some (.ref o),none] s=some (false,s):=by rw[aH,t];rfl
  rw[h,Ae,if_neg AY];rfl
 refine Hy (U1:=[some (.ref o),some a]) (s1:=s) (by simp[d,em,c,i]) ?_;refine Hy (U1:=[some (.ref o),some a]) (s1:=s1) (by rw[LF,e];simp[j]) ?_;simp
def Zy(a:t∈gK e stk ks P p.1 p.2 n):t.1=p.1/\t.2.1=p.2/\0<=t.2.2/\t.2.2<(n:Int):=by unfold gK at a;obtain⟨k,hk,rfl⟩:=P3.mp a;have:=List.mem_range.mp (List.mem_filter.mp hk).1;exact⟨rfl,rfl,by show(0:Int)<=(k:Int);omega,by show(k:Int)<(n:Int);omega⟩
def uC(c:Ctx bed e stk ks w h)(hn:st0.length<=o/\o<sd/\sd<kd/\kd<ld/\ld<rd)(q:Gw C o sd kd ld rd bed stk P R F Y st0 s)(g:Good e stk ks w h P F Y)(G:∀t∈P,0<=t.2.2/\t.2.2<(ks.length:Int))(b:Y≠[])(j:Y.length<=900)(m:P.length<=900)(r:R.length<=900):
  ∃(p:Int×Int) (t:Tl) (L:List Tl) (F':Int×Int->List Tl) (Y':List Yq) (s':Hh),Ku e stk ks w h P p/\(∀i,Ku e stk ks w h P i->¬L7 i p)/\gK e stk ks P p.1 p.2 ks.length=t::L/\Ml C [.ref o] s=some (tD t,s')/\Gw C o sd kd ld rd bed stk (P++[t]) (R++[t]) F' Y' st0 s'/\Good e stk ks w h (P++[t]) F' Y'/\Y'.length<=Y.length+5:=by
 obtain⟨⟨p,H⟩,B,I,v⟩:=oV b;have d:=(g.key p).mp ⟨H,B⟩;have f:∀i,Ku e stk ks w h P i->¬L7 i p:=λi E=>by obtain⟨n',N⟩:=(g.key i).mpr E;exact v _ N
 have t:=ZP (U:=[none]) q.ob q.hr (!0);have tt:(!Y.isEmpty)=true:=by
  cases Y with
  |nil=>exact absurd rfl b
  |cons a l=>rfl
 rw[tt]at t;have em:=nN q.hr b (!0);rw[I]at em;have em:O3 [.ref rd] s=some (.tup [.int p.1,.int p.2],s):=em
 rcases Q8 (p:=p) (Y:=Y)with⟨_,z⟩|⟨n,u,J⟩
 ·exact absurd rfl<|z _ B
 ·have K:=Vn q.hr J;have A:=(q.hy _ u).2;rw[g.lst p d]at A
  cases x:gK e stk ks P p.1 p.2 ks.length with
  |nil=>exact absurd x d.2.2
  |cons y L=>
   rw[x]at A;have M:Hj (.ref n) (.int 0) s=some (tD y,s):=Ld A (!1) rfl;obtain⟨Q,S,T,W⟩:=Zy (p:=p) (t:=y) (by rw[x];exact Al);obtain⟨F',Y',s',X,Z,g',l'⟩:=ZC (t:=y) c hn q g G ⟨T,W⟩ (by rw[Q,S];exact d.2.1) j m r;exact⟨p,y,L,F',Y',s',d,f,x,iS q.ob t em K M X,Z,g',l'⟩
end
end L2.MP.T0
namespace L2.MP.T0
open PySem L2.MP L2.MP.Hd
variable {e w h:Int}{stk:List (Str×Int)}{ks:List (!6)}{P L:List Tl}{f:Int×Int->List Tl}{p:Int×Int}{t:Tl}{n:Nat}{bed:D}
theorem bJ{f:Int×Int->List Tl}:∀{ps:List (Int×Int)},(∀p∈ps,f p=[])->(ps.map f).flatten=[]
 |[],_=>rfl
 |p::ps,h=>by rw[Ao,F8,h p Al,bJ λq a=>h q (Ai _ a)];rfl
theorem eZ{f:Int×Int->List Tl}{p:Int×Int}{t:Tl}{L:List Tl}(d:f p=t::L):∀{ps:List (Int×Int)},ps.Pairwise L7->p∈ps->(∀q∈ps,f q≠[]->¬L7 q p)->∃M,(ps.map f).flatten=t::M
 |[],_,hm,_=>nomatch hm
 |q::ps,c,hm,hl=>by
  rw[Ao,F8];rw[List.pairwise_cons]at c;rcases KM.mp hm with rfl|hm
  ·exact⟨L++(ps.map f).flatten,by rw[d];rfl⟩
  ·have:f q=[]:=by
    cases z:f q with
    |nil=>rfl
    |cons a b=>exact absurd (c.1 p hm)<|hl q Al (by rw[z];simp)
   rw[this];exact eZ d c.2 hm λr e=>hl r (Ai _ e)
def kT(x:Int)(m:Nat):(eC P x m).Pairwise L7:=by unfold eC;refine List.Pairwise.map _ (R:=λa b:Nat=>a<b) (λa b e=>.inr ⟨rfl,by show(a:Int)<(b:Int);omega⟩) ?_;exact List.Pairwise.filter _ List.pairwise_lt_range
def Tj{x:Int}{m:Nat}:p∈eC P x m ↔ p.1=x/\0<=p.2/\p.2<(m:Int)/\Mp P p.1 p.2=true:=by
 unfold eC;rw[FO];constructor
 ·rintro⟨j,n,rfl⟩;obtain⟨e,f⟩:=List.mem_filter.mp n;have:=List.mem_range.mp e;exact⟨rfl,by show(0:Int)<=(j:Int);omega,by show(j:Int)<(m:Int);omega,f⟩
 rintro⟨h0,e,f,w⟩;obtain⟨a,b⟩:=p;have h0:a=x:=h0;have e:0<=b:=e;have f:b<(m:Int):=f;subst h0;have h:((b.toNat:Nat):Int)=b:=AQ e;exact⟨b.toNat,List.mem_filter.mpr ⟨List.mem_range.mpr<|by omega,by rw[h];exact w⟩,by rw[h]⟩
def Zv(g:0<=h):p∈eF P h n ↔ 0<=p.1/\p.1<(n:Int)/\0<=p.2/\p.2<h/\Mp P p.1 p.2=true:=by
 unfold eF;rw[Ed];constructor
 ·rintro⟨l,L,a⟩;obtain⟨i,b,rfl⟩:=P3.mp L;have:=List.mem_range.mp b;obtain⟨h0,e,f,w⟩:=Tj.mp a;exact⟨by omega,by omega,e,by omega,w⟩
 rintro⟨h0,e,f,w,c⟩;have d:((p.1.toNat:Nat):Int)=p.1:=AQ h0;exact⟨_,P3.mpr ⟨p.1.toNat,List.mem_range.mpr<|by omega,rfl⟩,Tj.mpr ⟨d.symm,f,by omega,c⟩⟩
theorem Zw:∀n:Nat,(eF P h n).Pairwise L7
 |0=>by simp[eF]
 |n+1=>by rw[Wd];refine List.pairwise_append.mpr ⟨Zw n,kT _ _,λa c b d=>?_⟩;have d:=(Tj.mp d).1;unfold eF at c;obtain⟨l,e,f⟩:=List.mem_flatten.mp c;obtain⟨i,p,rfl⟩:=P3.mp e;have:=List.mem_range.mp p;have c:=(Tj.mp f).1;exact .inl<|by omega
def Zf(c:Ctx bed e stk ks w h)(b:Ku e stk ks w h P p):p∈eF P h w.toNat:=by
 have f1:=c.fo.w0;have g:=c.fo.h0;obtain⟨⟨x0,i,f,n⟩,hf,L⟩:=b;refine(Zv<|by omega).mpr ⟨x0,by omega,f,n,?_⟩;unfold Mp;rw[hf]
 cases d:(As 4).filter (II P p.1 p.2) with
 |nil=>exact absurd (Zz c.hs.e0 (qU d) _) L
 |cons a l=>rfl
def Za(c:Ctx bed e stk ks w h)(a:p∈eF P h w.toNat)(b:gK e stk ks P p.1 p.2 ks.length≠[]):Ku e stk ks w h P p:=by have f1:=c.fo.w0;have d:=c.fo.h0;obtain⟨h0,g,n,L,f⟩:=(Zv<|by omega).mp a;refine⟨⟨h0,by omega,n,L⟩,?_,b⟩;unfold Mp at f;rw[Aq]at f;simpa using f.1
def yR(c:Ctx bed e stk ks w h)(hno:∀p,¬Ku e stk ks w h P p):Iw e stk ks P (eF P h w.toNat)=[]:=by
 unfold Iw;refine bJ (f:=λp=>gK e stk ks P p.1 p.2 ks.length) λp n=>?_;cases z:gK e stk ks P p.1 p.2 ks.length with
 |nil=>rfl
 |cons a l=>exact absurd (Za c n (by rw[z];simp))<|hno p
def zkt(c:Ctx bed e stk ks w h)(b:Ku e stk ks w h P p)(d:∀a,Ku e stk ks w h P a->¬L7 a p)(g:gK e stk ks P p.1 p.2 ks.length=t::L):∃M,Iw e stk ks P (eF P h w.toNat)=t::M:=by unfold Iw;exact eZ (f:=λp=>gK e stk ks P p.1 p.2 ks.length) (p:=p) g (Zw _) (Zf c b) λq i n=>d q (Za c i n)
variable {C:Addr}{o kd ld rd:Nat}{S:List Tl}{F:Int×Int->List Tl}{Y:List Yq}{st0 s:Hh}{ps:List (Int×Int)}
section
variable {sd:Nat}
def Kz(e:Int)(stk:List (Str×Int))(ks:List (!6))(w h:Int)(P:List Tl):Option Tl:=(Iw e stk ks P<|eF P h w.toNat).head?
def HE(e:Int)(stk:List (Str×Int))(ks:List (!6))(w h:Int)(S:List Tl):Nat->List Tl
 |0=>[]
 |n+1=>match Kz e stk ks w h (S++HE e stk ks w h S n) with
  |some t=>HE e stk ks w h S n++[t]
  |none=>HE e stk ks w h S n
def Wq(a:Kz e stk ks w h (S++HE e stk ks w h S n)=some t):HE e stk ks w h S (n+1)=HE e stk ks w h S n++[t]:=by rw[HE,a]
theorem Wo{n:Nat}(a:Kz e stk ks w h (S++HE e stk ks w h S n)=none):∀k,HE e stk ks w h S (n+k)=HE e stk ks w h S n
 |0=>rfl
 |k+1=>by have b:=Wo a k;show HE e stk ks w h S (n+k+1)=_;rw[HE,b,a]
def Rg(hf:Jq w h)(a:Kz e stk ks w h P=some t):JE e stk ks w h P t:=wM hf<|List.mem_of_mem_head? a
theorem T4(hf:Jq w h):∀n,Ka e stk ks w h S (HE e stk ks w h S n)
 |0=>trivial
 |n+1=>by
  have a:=T4 hf n;rw[HE];split
  ·rename_i t f;exact Rt a<|Rg hf f
  exact a
def QQ(ps:List (Int×Int))(P:List Tl):Nat:=(ps.filter λp=>(Im P p.1 p.2).isNone).length
theorem filter_lt{α:Type}{p q:α->Bool}(h:∀a,p a=true->q a=true):∀{l:List α},(l.filter p).length<=(l.filter q).length/\((∃a∈l,q a=true/\p a=false)->(l.filter p).length+1<=(l.filter q).length)
 |[]=>⟨Ag _,λ⟨a,d,_⟩=>by cases d⟩
 |a::l=>by
  obtain⟨g,c⟩:=filter_lt h (l:=l);cases e:p a with
  |true=>
   have eq:=h a e;simp only[BM,e,eq,if_true,Aw];refine⟨by omega,λ⟨b,hb,z⟩=>?_⟩
   rcases KM.mp hb with rfl|hb
   ·rw[e]at z;cases z.2
   have:=c ⟨b,hb,z⟩;omega
  |false=>
   cases eq:q a with
   |true=>
    simp only[BM,e,eq,if_true,Aw,AJ,if_false];exact⟨by omega,λ_=>by omega⟩
   |false=>
    simp only[BM,e,eq,AJ,if_false];refine⟨g,λ⟨b,hb,z⟩=>?_⟩;rcases KM.mp hb with rfl|hb
    ·rw[eq]at z;cases z.1
    exact c ⟨b,hb,z⟩
def Ul(a:(t.1,t.2.1)∈ps)(hn:Im P t.1 t.2.1=none):QQ ps (P++[t])+1<=QQ ps P:=by
 refine(filter_lt λu e=>?_).2 ⟨(t.1,t.2.1),a,by rw[hn];rfl,?_⟩
 ·have f:Im (P++[t]) u.1 u.2=none:=by simpa using e
  have h:=Lm.mp f;have:Im P u.1 u.2=none:=Lm.mpr λv n=>h v<|A4 _ n;rw[this];rfl
 ·cases q:Im (P++[t]) t.1 t.2.1 with
  |none=>exact absurd ⟨rfl,rfl⟩<|Lm.mp q t<|by simp
  |some k=>rfl
def V3(hf:Jq w h)(hm:JE e stk ks w h P t):(t.1,t.2.1)∈Jg h.toNat w.toNat:=by have f1:=hf.w0;have n:=hf.h0;obtain⟨⟨x0,o,f,p,_,_⟩,_,_⟩:=hm;exact Qp x0 (by show t.1<_;omega) f (by show t.2.1<_;omega)
theorem Rn(a:Nat):∀n,(Jg a n).length=n*a
 |0=>by simp[Jg]
 |n+1=>by rw[dR,AB,Rn a n,DN];simp[KL]
theorem cC(hf:Jq w h):∀n,(∀m,m<n->Kz e stk ks w h (S++HE e stk ks w h S m)≠none)->QQ (Jg h.toNat w.toNat) (S++HE e stk ks w h S n)+n<=w.toNat*h.toNat
 |0,_=>by have:=A2 (λp:Int×Int=>(Im (S++HE e stk ks w h S 0) p.1 p.2).isNone)<|Jg h.toNat w.toNat;rw[Rn]at this;exact this
 |n+1,hh=>by
  have o:=cC hf n λm hm=>hh m<|by omega
  cases f:Kz e stk ks w h (S++HE e stk ks w h S n) with
  |none=>exact absurd f<|hh n<|by omega
  |some t=>
   have hm:=Rg hf f;have:=Ul (V3 hf hm) hm.2.1;rw[Wq f,<-Am];omega
end
open L2.MP.Hn (HU Mo HI KZ)
variable {kn:Int}
section
variable {s5:Nat}{R:List Tl}
theorem WA{ps:List (Int×Int)}(a:HC P)(b:∀t∈P,(t.1,t.2.1)∈ps):∀n,n<=P.length->QQ ps (P.take n)+n<=ps.length
 |0,_=>A2 _ _
 |n+1,hn=>by
  have c:=WA a b n (!0);have f:n<P.length:=hn;have e:P.take (n+1)=P.take n++[P[n]]:=by rw[Bd,Ah f];rfl
  have h:HC (P.take n++[P[n]]):=by rw[<-e];exact Fe (FS _ _) a
  have:=Ul (b _<|Bj f)<|Z7 h;rw[e];omega
def Ro(hf:Jq w h):w.toNat*h.toNat<=60:=by
 have e:=hf.w1;have f:=hf.h1;rcases hf.wh with z|z
 ·exact CO (show w.toNat<=5 by omega) (show h.toNat<=12 by omega)
 exact CO (show w.toNat<=12 by omega) (show h.toNat<=5 by omega)
def Pa(hf:Jq w h)(a:HC P)(b:∀t∈P,IQ w h kn t):P.length<=60:=by
 have f1:=hf.w0;have n:=hf.h0;have:=WA (ps:=Jg h.toNat w.toNat) a (λt e=>by obtain⟨x0,o,f,p,_,_⟩:=b t e;exact Qp x0 (by show t.1<_;omega) f (by show t.2.1<_;omega)) P.length (Ag _)
 rw[Rn]at this;have:=Ro hf;omega
def Tv(hf:Jq w h)(a:HC S)(m:Nat):HC (S++HE e stk ks w h S m):=Lk a<|T4 hf m
def WT(hf:Jq w h)(a:∀t∈S,IQ w h ks.length t)(m:Nat):∀t∈S++HE e stk ks w h S m,IQ w h ks.length t:=λt ht=>by
 exists 17
 ·exact a t ht
 exact Pk (T4 hf m) t ht
def Tw(a:∀t∈P,IQ w h kn t):∀t∈P,0<=t.2.2/\t.2.2<kn:=λt e=>⟨(a t e).2.2.2.2.1,(a t e).2.2.2.2.2⟩
def pZ(q:Gw C o s5 kd ld rd bed stk P R F Y st0 s):Mi C [.ref o] s=some (.tup (R.map tD),s):=by have f:=Tn (U:=[]) q.ob;have e:=OH q.hl;refine IW ?_;unfold dX;simp[f,e]
def jJ(q:Gw C o s5 kd ld rd bed stk P R F Y st0 s)(a:∀st:Hh,Hj bed (.int 2) st=some (HU S,st))(b:(S++R).length<64):∃s',Mn C [.ref o] s=some (HU (HI<|S++R),s')/\Gr s s':=by
 have g:∀st:Hh,OA C o bed s5 kd ld rd st->Hv C "bed" (mV 0) [some (.ref o)] st=some (bed,st):=λst z=>PZ z;have f1:=PZ (U:=[]) q.ob;rw[AB]at b;have n:fits S.length=true:=J8 (!0);have p:SV [HU S] s=some (.ref s.length,s++[.lst (S.map tD)]):=by
  rw[Ug];unfold SV Vg LL;have:SX [.tup (S.map tD)] s=some (.ref s.length,s++[.lst (S.map tD)]):=by unfold SX;simp only[Af,n,if_true]
  rw[this,Kv,Kv]
 have h:=q.gr<|Gr.app s [.lst (S.map tD)];have a1:=IJ s<|.lst<|S.map tD;have f2:=Tn (U:=[]) h.ob;generalize e:s++[O.lst (S.map tD)]=s1 at *;have g1:Gr s s1:=e ▸ Gr.app _ _;have w:Hz (.ref s.length) (.ref ld) s1=some (.ref s1.length,s1++[.lst ((S++R).map tD)]):=by have L:fits (S.length+R.length)=true:=J8 (!0);unfold Hz;simp only[a1,h.hl,Af,L,if_true];rw[AX]
 have a2:=IJ s1<|.lst<|(S++R).map tD;have c:=gA a2 (by rw[AB];omega);generalize f:s1++[O.lst ((S++R).map tD)]=s2 at *;have g2:Gr s1 s2:=f ▸ Gr.app _ _;have d:=OH<|IJ s2<|.lst<|(HI<|S++R).map tD;refine⟨s2++[.lst ((HI<|S++R).map tD)],IW ?_,(g1.trans g2).trans<|Gr.app _ _⟩;unfold gN;rw[Ug (HI<|S++R)];generalize (HI<|S++R).map tD=B at *;generalize HU S=SS at *;simp[f1,a,p,f2,w,c,d]
end
def tP(t:Tl):PyData:=.tuple [.int t.1,.int t.2.1,.int t.2.2]
theorem W4{n:Nat}{st:Hh}:∀ts:List Tl,Jo (IX (n+2) st) (ts.map tD)=some (ts.map tP)
 |[]=>rfl
 |t::ts=>by
  have e:IX (n+2) st (tD t)=some (tP t):=by obtain⟨x,y,k⟩:=t;show IX (n+2) st (.tup [.int x,.int y,.int k])=_;rw[IX];simp only[Jo,IX,Ae,AS];rfl
  rw[Ao,Jo,e,Ae,W4 ts];rfl
section
variable {d l:Nat}
def zR(hf:Jq w h)(a:∀m,m<n->Kz e stk ks w h (S++HE e stk ks w h S m)≠none)(hn:w.toNat*h.toNat<=n):Kz e stk ks w h (S++HE e stk ks w h S n)=none:=by
 have f:=cC (e:=e) (stk:=stk) (ks:=ks) (S:=S) hf n a;cases d:Kz e stk ks w h (S++HE e stk ks w h S n) with
 |none=>rfl
 |some t=>
  have hm:=Rg hf d;have:=Ul (V3 hf hm) hm.2.1;omega
end
end L2.MP.T0
namespace L2.MP.T0
open PySem L2.MP L2.MP.Hd
open L2.MP.Hn (HU Mo HI KZ Pl OJ)
def Sub(P Q:List Tl):Prop:=∀x y k,Im P x y=some k->Im Q x y=some k
variable {ks:List (!6)}{P Q:List Tl}
def TK(h:Sub P Q)(p:Int×Int)(j:Nat):Kf ks P p j=""\/Kf ks P p j=Kf ks Q p j:=by
 unfold Kf;cases e:Im P p.1 p.2 with
 |none=>exact .inl rfl
 |some k=>rw[h _ _ _ e];exact .inr rfl
variable {x y:Int}
def uA{S:List Str}{j:Nat}(h:Sub P Q)(a:LM S (!8) j=true):LM S (names4 ks Q x y) j=true:=by
 unfold LM at *;rw[Aq]at *;refine⟨a.1,?_⟩;have key:(!8).getD j ""=""\/(!8).getD j ""=(names4 ks Q x y).getD j "":=by
  unfold names4
  match j with
  |0=>exact TK h _ _
  |1=>exact TK h _ _
  |2=>exact TK h _ _
  |3=>exact TK h _ _
  |n+4=>exact .inl rfl
 rcases key with e|e
 ·rw[e]at a;have b:=a.1;unfold bne at b;rw[a.2]at b;cases b
 rw[<-e];exact a.2
theorem aZ{f:Nat->Int}{p q:Nat->Bool}(h0:∀i,q i=true->0<=f i)(h:∀i,p i=true->q i=true):∀l:List Nat,((l.filter p).map f).sum<=((l.filter q).map f).sum
 |[]=>by simp
 |i::l=>by
  have a:=aZ h0 h l;cases x:p i with
  |true=>simp[x,h i x];omega
  |false=>
   cases eq:q i with
   |true=>have y:=h0 i eq;simp[x,eq];omega
   |false=>simpa[x,eq]using a
variable {bed:D}{e w h:Int}{stk:List (Str×Int)}
def Ws{k:Nat}(c:Ctx bed e stk ks w h)(j:Sub P Q)(hk:k<ks.length):JC stk ks P x y k<=JC stk ks Q x y k:=by
 obtain⟨f,l,b1,m,n,o,b,g⟩:=MD c.ks (k:=(k:Int)) (!0) (!0);rw[<-Ra (P:=P) (by rw[b];rfl),<-Ra (P:=Q) (by rw[b];rfl)];unfold alike;refine aZ (λi d=>?_) (λi d=>uA j d) _;unfold LM at d;rw[Aq]at d;have a:=d.1;have hm:(IC ks (k:Int)).getD i ""∈IC ks (k:Int):=by
  rw[Ax]at a ⊢;cases q:(IC ks (k:Int))[i]? with
  |none=>rw[q]at a;exact absurd a<|by decide
  |some z=>exact AF q
 rw[b]at hm;rcases(g _ hm).2 with z|z
 ·rw[b,z]at a;exact absurd a<|by decide
 have:=(QW c.stk z).2.1;rw[b];omega
variable {k:Int}
def Pe(h:Im P x y=some k):(x,y,k)∈P:=by unfold Im at h;obtain⟨t,e,rfl⟩:=Ia h;have w:=GD e;have Q:=C2 e;rw[Aq]at w;rw[<-of_decide_eq_true w.1,<-of_decide_eq_true w.2];exact Q
variable {t:Tl}
def TH(a:HC P)(h:t∈P):Im P t.1 t.2.1=some t.2.2:=by
 have x:=Tq a h;have w:=MH t.1 t.2.1 P;rw[show HN (P.map Hl) [.inl t.1,.inl t.2.1]=some (.int t.2.2) from x]at w
 cases e:Im P t.1 t.2.1 with
 |none=>rw[e]at w;cases w
 |some k=>rw[e]at w;simp at w;rw[w]
variable {sd A B:List Tl}
def VP{A:List Tl}(h:∀t∈A,t∈B)(a:HC (sd++B)):Sub (sd++A) (sd++B):=λx y k hf=>by
 refine TH (t:=(x,y,k)) a ?_;rcases Os.mp (Pe hf)with z|z
 ·exact A4 _ z
 exact AI _<|h _ z
variable {T:List Tl}
structure Cl(e:Int)(stk:List (Str×Int))(ks:List (!6))(w h:Int)(sd T R:List Tl):Prop where
 row:Ka e stk ks w h sd R
 sub:∀t∈R,t∈T
 sat:∀t∈T,¬JE e stk ks w h (sd++R) t
theorem SN{A B:List Tl}(c:Ctx bed e stk ks w h)(a:HC T)(b:HC sd)(d:Ka e stk ks w h sd A)(f:∀t∈A,t∈T)(hB:Cl e stk ks w h sd T B):∀i:Nat,∀t∈A.take i,t∈B
 |0,t,ht=>by simp at ht
 |i+1,t,ht=>by
  have g:=SN c a b d f hB i;rw[Bd,C4]at ht;rcases ht with ht|ht
  ·exact g t ht
  ·have ht:A[i]?=some t:=by
    cases q:A[i]? with
    |none=>rw[q]at ht;cases ht
    |some z=>rw[q]at ht;rw[On.mp ht]
   have hm:=Rb d ht;have P:=f t<|AF ht;have y:=Lk b hB.row;have j:=hm.1.2.2.2.2.1;have l:=hm.1.2.2.2.2.2
   cases q:Im (sd++B) t.1 t.2.1 with
   |none=>exact absurd ⟨hm.1,q,Co hm.2.2<|Ws c (VP g y)<|by omega⟩<|hB.sat t P
   |some k=>
    rcases Os.mp (Pe q)with z|z
    ·exact absurd ⟨rfl,rfl⟩<|Lm.mp hm.2.1 _<|A4 _ z
    have Q:=TH a P;have x:=TH a<|hB.sub _ z;have x:Im T t.1 t.2.1=some k:=x;rw[Q]at x;cases x;exact z
def bE{l:List Tl}(c:HC l):l.Nodup:=by refine List.Pairwise.imp (λ{a b} z q=>?_) c;subst q;unfold JB at z;simp at z
def rR(c:Ctx bed e stk ks w h)(b:HC T)(a:HC sd)(d:Cl e stk ks w h sd T A)(f:Cl e stk ks w h sd T B):HI (sd++A)=HI (sd++B):=by
 refine OJ<|List.Perm.append_left sd<|(List.perm_ext_iff_of_nodup ?_ ?_).mpr λt=>⟨λz=>?_,λz=>?_⟩
 ·exact bE (List.pairwise_append.mp<|Lk a d.row).2.1
 ·exact bE (List.pairwise_append.mp<|Lk a f.row).2.1
 ·exact SN c b a d.row d.sub f A.length t (by rw[AR];exact z)
 exact SN c b a f.row f.sub d B.length t (by rw[AR];exact z)
def free(T P:List Tl):Nat:=(T.filter λt=>(Im P t.1 t.2.1).isNone).length
def uU(a:t∈T)(hn:Im P t.1 t.2.1=none):free T (P++[t])+1<=free T P:=by
 refine(filter_lt λu e=>?_).2 ⟨t,a,by rw[hn];rfl,?_⟩
 ·have h:Im (P++[t]) u.1 u.2.1=none:=by simpa using e
  have w:=Lm.mp h;have:Im P u.1 u.2.1=none:=Lm.mpr λv x=>w v<|A4 _ x;rw[this];rfl
 ·cases q:Im (P++[t]) t.1 t.2.1 with
  |none=>exact absurd ⟨rfl,rfl⟩<|Lm.mp q t<|by simp
  |some k=>rfl
def rC(T P:List Tl):free T P<=T.length:=A2 _ _
variable {a b E:Int}{g a3 a4 a5 a6:Option D}{s s1 st0:Hh}{hs:D}
section
variable {TT:D}{d:Nat}
def Ta(a b x y:Int)(s:Hh):JT (.tup [.int x,.int y]) (.tup [.int a,.int b]) s=some (.bl (!decide (x=a/\y=b)),s):=by
 have e:∀u v:Int,IX 100 s (.tup [.int u,.int v])=some (.tuple [.int u,.int v]):=λu v=>by rw[IX,Jo,Jo,Jo];rfl
 unfold JT;rw[e,e];simp[BA,Cf];rfl
def qK(c:x=a/\y=b):MJ [some bed,some TT,some (.tup [.int a,.int b]),some (.ref d),g,some (.int x),some (.int y),some (.int k)] s=some (.nx [some bed,some TT,some (.tup [.int a,.int b]),some (.ref d),g,some (.int x),some (.int y),some (.int k)],s):=by have e:=Ta a b x y s;rw[decide_eq_true c]at e;unfold MJ;simp[e]
def qL(f:¬(x=a/\y=b))(c:Kn (.tup [.int x,.int y]) (.ref d) s=some (.bl false,s)):MJ [some bed,some TT,some (.tup [.int a,.int b]),some (.ref d),g,some (.int x),some (.int y),some (.int k)] s=some (.nx [some bed,some TT,some (.tup [.int a,.int b]),some (.ref d),g,some (.int x),some (.int y),some (.int k)],s):=by have e:=Ta a b x y s;rw[decide_eq_false f]at e;unfold MJ;simp[e,c]
def qM{R:Int}(f:¬(x=a/\y=b))(c:Kn (.tup [.int x,.int y]) (.ref d) s=some (.bl true,s))(i:Nd [bed,.ref d,.tup [.int x,.int y],.int k] s=some (.int R,s1))(j:Hj bed (.int 0) s1=some (hs,s1))(l:Hj hs (.int 0) s1=some (.int E,s1))(m:¬E<=R):
  MJ [some bed,some TT,some (.tup [.int a,.int b]),some (.ref d),g,some (.int x),some (.int y),some (.int k)] s=some (.nx [some bed,some TT,some (.tup [.int a,.int b]),some (.ref d),g,some (.int x),some (.int y),some (.int k)],s1):=by
 have e:=Ta a b x y s;rw[decide_eq_false f]at e;unfold MJ;simp[e,c,i,j,l,m]
def wH{R:Int}{s2:Hh}(f:¬(x=a/\y=b))(c:Kn (.tup [.int x,.int y]) (.ref d) s=some (.bl true,s))(i:Nd [bed,.ref d,.tup [.int x,.int y],.int k] s=some (.int R,s1))(j:Hj bed (.int 0) s1=some (hs,s1))(l:Hj hs (.int 0) s1=some (.int E,s1))(m:E<=R)(n:dput s1 d (.tup [.int x,.int y]) (.int k)=some s2):
  MJ [some bed,some TT,some (.tup [.int a,.int b]),some (.ref d),g,some (.int x),some (.int y),some (.int k)] s=some (.nx [some bed,some TT,some (.tup [.int a,.int b]),some (.ref d),some (.bl true),some (.int x),some (.int y),some (.int k)],s2):=by
 have e:=Ta a b x y s;rw[decide_eq_false f]at e;unfold MJ;rw[Md];have h:LB (mT<|mB JT (mU<|Hf (mV 5)<|Hf (mV 6)<|mZ)<|mV 2) (LB (mT<|mB Kn (mU<|Hf (mV 5)<|Hf (mV 6)<|mZ)<|mV 3)<|mT<|mB Mr (Hr Nd<|Hf (mV 0)<|Hf (mV 3)<|Hf (mU<|Hf (mV 5)<|Hf (mV 6)<|mZ)<|Hf (mV 7)<|mZ)<|mB Hj (mB Hj (mV 0)<|mK<|.int 0)<|mK<|.int 0) [some bed,some TT,some (.tup [.int a,.int b]),some (.ref d),g,some (.int x),some (.int y),some (.int k)] s=some (true,s1):=by simp[e,c,i,j,l,m]
 rw[h,Ae];show mS _ _ _ s1=_;refine Hy (U1:=[some bed,some TT,some (.tup [.int a,.int b]),some (.ref d),g,some (.int x),some (.int y),some (.int k)]) (s1:=s2) ?_ (!2);rw[Qd];have w:Ht (mV 7) (Nj IK (mV 3)<|mU<|Hf (mV 5)<|Hf (mV 6)<|mZ) [some bed,some TT,some (.tup [.int a,.int b]),some (.ref d),g,some (.int x),some (.int y),some (.int k)] s1=none:=by simp[IK]
 rw[w,LD];unfold Nm;simp[n]
def qJ{R:List Tl}{t:Tl}(c:Ctx bed e stk ks w h)(hd:s[d]?=some (.dt<|(sd++R).map Hl))(h0:st0.length<=d)(j:Gr st0 s)(q:∀t∈sd++R,0<=t.2.2/\t.2.2<(ks.length:Int))(m:IQ w h ks.length t)(hlen:sd.length+R.length<=900):
  ∃(s':Hh) (g':Option D) (l:List Tl),Y4 (MJ [some bed,some TT,some (.tup [.int a,.int b]),some (.ref d),g,some (.int t.1),some (.int t.2.1),some (.int t.2.2)] s=some (.nx [some bed,some TT,some (.tup [.int a,.int b]),some (.ref d),g',some (.int t.1),some (.int t.2.1),some (.int t.2.2)],s')) (s'[d]?=some (.dt<|(sd++l).map Hl)) (Gr st0 s') (((g'=g/\l=R/\(¬(t.1=a/\t.2.1=b)->¬JE e stk ks w h (sd++R) t))\/(g'=some (.bl true)/\l=R++[t]/\¬(t.1=a/\t.2.1=b)/\JE e stk ks w h (sd++R) t))):=by
 obtain⟨x,y,k⟩:=t;have tt:=m;obtain⟨x0,v,C,F,B,E⟩:=m;have B:0<=k:=B;have E:k<(ks.length:Int):=E;by_cases hp:x=a/\y=b
 ·exact⟨s,g,R,qK hp,hd,j,.inl ⟨rfl,rfl,λz=>absurd hp z⟩⟩
 have A:=Ub (x:=x) (y:=y) hd;rw[MH,By]at A;cases hf:Im (sd++R) x y with
 |some G=>
  rw[hf]at A;refine⟨s,g,R,qL hp A,hd,j,.inl ⟨rfl,rfl,λ_ z=>?_⟩⟩;have:Im (sd++R) x y=none:=z.2.1;rw[hf]at this;cases this
 |none=>
  rw[hf]at A;obtain⟨hs,n,o,H,I⟩:=c.at_;obtain⟨f,J,b1,K,L,M,r,u⟩:=MD c.ks B E;obtain⟨s2,Q,g2⟩:=WL (x:=x) (y:=y) c.bed c.ks c.stk (by have:=c.hs.sl;omega) q B E hd;have T:((alike (IC ks k)<|names4 ks (sd++R) x y).map λi=>sv stk ((IC ks k).getD i "")).sum=JC stk ks (sd++R) x y k.toNat:=by have:=Ra (stk:=stk) (P:=sd++R) (x:=x) (y:=y) (k:=k.toNat) (ks:=ks) (by rw[AQ B,r];rfl);rw[AQ B]at this;exact this
  rw[T]at Q;have hd2:=(g2.old _<|qax hd).trans hd
  by_cases hR:e<=JC stk ks (sd++R) x y k.toNat
  ·have hm:JE e stk ks w h (sd++R) (x,y,k):=⟨tt,hf,hR⟩
   have p:=Rm (x:=x) (y:=y) (k:=k) hd2 (by simp;omega);rw[Uc hm.2.1,Am]at p;exact⟨_,_,R++[(x,y,k)],wH hp A Q (n _) (o _) hR p,by rw[AC (qax hd2)],Mw (j.trans g2) h0,.inr ⟨rfl,rfl,hp,hm⟩⟩
  exact⟨s2,g,R,qM hp A Q (n _) (o _) hR,hd2,j.trans g2,.inl ⟨rfl,rfl,λ_ z=>hR z.2.2⟩⟩
structure LS(e:Int)(stk:List (Str×Int))(ks:List (!6))(w h:Int)(d:Nat)(a b:Int)(sd T R:List Tl)(st0 s:Hh):Prop where
 at_:s[d]?=some (.dt ((sd++R).map Hl))
 fr:Gr st0 s
 row:Ka e stk ks w h sd R
 sub:∀t∈R,t∈T/\¬(t.1=a/\t.2.1=b)
 few:R.length+free T (sd++R)<=T.length
def qI{R:List Tl}(c:Ctx bed e stk ks w h)(q:LS e stk ks w h d a b sd T R st0 s)(h0:st0.length<=d)(C:∀t∈T,IQ w h ks.length t)(o:∀t∈sd,IQ w h ks.length t)(G:sd.length<=6)(H:T.length<=60):
  ∃(g:Bool) (j l n:Option D) (f:List Tl) (s':Hh),Y4 (UQ [some bed,some (HU T),some (.tup [.int a,.int b]),some (.ref d),a3,a4,a5,a6] s=some (.nx [some bed,some (HU T),some (.tup [.int a,.int b]),some (.ref d),some (.bl g),j,l,n],s')) (LS e stk ks w h d a b sd T f st0 s') ((g=false->∀t∈T,¬(t.1=a/\t.2.1=b)->¬JE e stk ks w h (sd++f) t)) ((g=true->free T (sd++f)<free T (sd++R))):=by
 have key:=Kw (W:=⟨T.map tD,[]⟩) (g:=J5 3 (gC (Ho 5)<|gC (Ho 6)<|gC (Ho 7)<|J6)) (m:=MJ) (ds:=T.map tD) (U:=[some bed,some (HU T),some (.tup [.int a,.int b]),some (.ref d),some (.bl false),a4,a5,a6]) (st:=s)
  (Inv:=λi U s=>∃(g:Bool) (j l n:Option D) (f:List Tl),Y4 (U=[some bed,some (HU T),some (.tup [.int a,.int b]),some (.ref d),some (.bl g),j,l,n]) (LS e stk ks w h d a b sd T f st0 s) ((g=false->f=R/\∀t∈T.take i,¬(t.1=a/\t.2.1=b)->¬JE e stk ks w h (sd++R) t)) ((g=true->free T (sd++f)<free T (sd++R))))
  ⟨false,_,_,_,R,rfl,q,λ_=>⟨rfl,λt Q=>by simp at Q⟩,λz=>by cases z⟩ (λ_ _ _ _ _=>rfl) (λi N U s B I=>by
   obtain⟨g,j,l,n,f,rfl,x,E,y⟩:=I;rw[Az]at B;obtain⟨t,Q,rfl⟩:=Ia B;have A:=AF Q;have J:∀t∈sd++f,0<=t.2.2/\t.2.2<(ks.length:Int):=λt hh=>by
    have:IQ w h ks.length t:=by
     rcases Os.mp hh with hh|hh
     ·exact o t hh
     exact C t (x.sub t hh).1
    exact⟨this.2.2.2.2.1,this.2.2.2.2.2⟩
   have F:=x.few;obtain⟨s2,g2,R2,K,at2,P,L⟩:=qJ (TT:=HU T) (g:=some (.bl g)) c x.at_ h0 x.fr J (C t A) (!0);refine⟨[some bed,some (HU T),some (.tup [.int a,.int b]),some (.ref d),some (.bl g),some (.int t.1),some (.int t.2.1),some (.int t.2.2)],s,_,s2,rfl,K,?_⟩
   rcases L with⟨rfl,rfl,p⟩|⟨rfl,rfl,r,hm⟩
   ·refine⟨g,_,_,_,R2,rfl,⟨at2,P,x.row,x.sub,x.few⟩,λz=>?_,y⟩;obtain⟨rfl,v⟩:=E z;refine⟨rfl,λu hu=>?_⟩;rw[Bd,Q,C4]at hu
    rcases hu with hu|hu
    ·exact v u hu
    rw[On.mp hu];exact p
   ·have hf:=uU A hm.2.1;rw[Am]at hf;refine⟨true,_,_,_,f++[t],rfl,⟨at2,P,Rt x.row hm,λu hu=>?_,by rw[AB,Bm];omega⟩,(λz=>nomatch z),λ_=>?_⟩
    ·rcases Os.mp hu with hu|hu
     ·exact x.sub u hu
     rw[On.mp hu];exact⟨A,r⟩
    ·cases g with
     |true=>have:=y rfl;omega
     |false=>obtain⟨rfl,_⟩:=E rfl;omega)
 obtain⟨S,s',M,g,j,l,n,f,rfl,x,E,y⟩:=key;rw[Af,AR]at E;refine⟨g,j,l,n,f,s',?_,x,λz=>by obtain⟨rfl,v⟩:=E z;exact v,y⟩;unfold UQ;refine Hy (U1:=[some bed,some (HU T),some (.tup [.int a,.int b]),some (.ref d),some (.bl false),a4,a5,a6]) (s1:=s) (!2) ?_;have hw:J3 (mV 1) [some bed,some (HU T),some (.tup [.int a,.int b]),some (.ref d),some (.bl false),a4,a5,a6] s=some (⟨T.map tD,[]⟩,s):=rfl;rw[J0,hw];exact M
def bN{g:Bool}{c a1 a2:Option D}:UH [c,a1,a2,a3,some (.bl g),a4,a5,a6] s=some (g,s):=by unfold UH;simp[Qe,KH]
theorem Z3{a b:Int}{st0:Hh}(c:Ctx bed e stk ks w h)(h0:st0.length<=d)(v:∀t∈T,IQ w h ks.length t)(f:∀t∈sd,IQ w h ks.length t)(i:sd.length<=6)(j:T.length<=60):∀(n:Nat) {R:List Tl}{g:Bool}{a4 a5 a6:Option D}{s:Hh},LS e stk ks w h d a b sd T R st0 s->(g=false->0<n/\∀t∈T,¬(t.1=a/\t.2.1=b)->¬JE e stk ks w h (sd++R) t)->(g=true->free T (sd++R)+1<n) ->
  ∃(l:List Tl) (p r u:Option D) (s':Hh),J1 UH UQ n [some bed,some (HU T),some (.tup [.int a,.int b]),some (.ref d),some (.bl g),a4,a5,a6] s=some (.nx [some bed,some (HU T),some (.tup [.int a,.int b]),some (.ref d),some (.bl false),p,r,u],s')/\LS e stk ks w h d a b sd T l st0 s'/\∀t∈T,¬(t.1=a/\t.2.1=b)->¬JE e stk ks w h (sd++l) t
 |0,R,g,a4,a5,a6,s,q,m,o=>by
  cases g with
  |false=>exact absurd (m rfl).1<|AL _
  |true=>exact absurd (o rfl)<|Eu _
 |n+1,R,false,a4,a5,a6,s,q,m,o=>by refine⟨R,a4,a5,a6,s,?_,q,(m rfl).2⟩;rw[J1];dsimp only;rw[bN];rfl
 |n+1,R,true,a4,a5,a6,s,q,m,o=>by have G:=o rfl;obtain⟨g,p,r,u,H,s1,y,A,B,x⟩:=qI (a3:=some (.bl true)) (a4:=a4) (a5:=a5) (a6:=a6) c q h0 v f i j;obtain⟨l,E,P,Q,s',C,F,sat⟩:=Z3 c h0 v f i j n (g:=g) (a4:=p) (a5:=r) (a6:=u) A (λz=>⟨by omega,B z⟩) (λz=>by have:=x z;omega);refine⟨l,E,P,Q,s',?_,F,sat⟩;rw[J1];dsimp only;rw[bN];simp only[Ae,if_true,y];exact C
def zjr{st:Hh}(c:Ctx (!3) e stk ks w h)(m:∀t∈T,IQ w h ks.length t)(i:∀t∈sd,IQ w h ks.length t)(j:HC sd)(l:sd.length<=6)(n:T.length<=60):
  ∃(d:Nat) (R:List Tl) (f:Hh),Y5 (UK [Hu e stk ks w h sd,HU T,.tup [.int a,.int b]] st=some (.ref d,f)) (f[d]?=some (.dt<|(sd++R).map Hl)) (Gr st f) (Ka e stk ks w h sd R/\∀t∈R,t∈T/\¬(t.1=a/\t.2.1=b)) (∀t∈T,¬(t.1=a/\t.2.1=b)->¬JE e stk ks w h (sd++R) t):=by
 obtain⟨d,s1,x,a1,hd,g1⟩:=WM (ts:=sd) (st:=st) (!0);rw[TV j]at a1;have hf:=rC T<|sd++[];obtain⟨R,E,P,Q,s2,y,q,sat⟩:=Z3 (a:=a) (b:=b) (g:=true) (a4:=none) (a5:=none) (a6:=none) c hd m i l (!0) 1000 (T:=T) (R:=[]) (s:=s1) ⟨by rw[An];exact a1,g1,trivial,λt A=>(by cases A),by simpa using hf⟩ (λz=>by cases z) (λ_=>by omega);refine⟨d,R,s2,IW ?_,q.at_,q.fr,⟨q.row,q.sub⟩,sat⟩;have B:∀s:Hh,Hj (!3) (.int 2) s=some (HU sd,s):=λs=>IA (!1) rfl;unfold gP;generalize Hu e stk ks w h sd=bed at *;generalize HU T=TT at *;generalize HU sd=SS at *;refine Hy (U1:=[some bed,some TT,some (.tup [.int a,.int b]),some (.ref d),none,none,none,none]) (s1:=s1) (by simp[B,x]) ?_;refine Hy (U1:=[some bed,some TT,some (.tup [.int a,.int b]),some (.ref d),some (.bl true),none,none,none]) (s1:=s1) (!2) ?_;refine Hy y ?_;simp
end
end L2.MP.T0
namespace L2.MP.T0
open PySem L2.MP L2.MP.Hd
open L2.MP.Hn (HU Mo HI KZ OJ)
variable {e w h:Int}{stk:List (Str×Int)}{ks:List (!6)}{S:List Tl}
section
variable {S' P Q:List Tl}
def aT(hf:Jq w h):Kz e stk ks w h (S++HE e stk ks w h S (w.toNat*h.toNat))=none:=by
 by_cases hh:∀m,m<w.toNat*h.toNat->Kz e stk ks w h (S++HE e stk ks w h S m)≠none
 ·exact zR hf hh<|Ag _
 obtain⟨m,hm⟩:=Classical.not_forall.mp hh;obtain⟨hm,P⟩:=Classical.not_imp.mp hm;have P:=Classical.not_not.mp P;have:=Wo P<|w.toNat*h.toNat-m;rw[show m+(w.toNat*h.toNat-m)=w.toNat*h.toNat by omega]at this;rw[this];exact P
end
variable {bed:D}{d:Nat}{a2 a3 a4:Option D}{ds:List D}{s:Hh}
section
variable {q:Nat}
def pF{l:Nat}{a b:Option Int}(h:s[l]?=some (.lst ds)):ML (.ref l) a b s=some (.ref s.length,s++[.lst (cutD ds a b)]):=by
 have:Yd (.ref l) a b s=some (.ref s.length,s++[.lst (cutD ds a b)]):=by show(Ig s l).map _=_;simp only[Ig,h,AS]
 unfold ML Ye;rw[this,Kv,Kv]
def qX(ds:List D):cutD ds none (some 1)=ds.take 1:=by cases ds<;>rfl
def zkY{s1:Hh}(c:s1[q]?=some (.lst ds)):J3 (Jw (mV 3) Lg<|Lh<|mK<|.int 1) [some bed,some (.ref d),a2,some (.ref q),a4] s1=some (⟨ds.take 1,[(s1.length,ds.take 1)]⟩,s1++[.lst (ds.take 1)]):=by have e:=pF (a:=none) (b:=some 1) c;rw[qX]at e;have a:=IJ s1<|.lst<|ds.take 1;simp[e,Mu,Ig,a]
def qH{x y k:Int}{s2:Hh}(a:dput s d (.tup [.int x,.int y]) (.int k)=some s2):
  RM [some bed,some (.ref d),a2,a3,some (.tup [.int x,.int y,.int k])] s=some (.nx [some bed,some (.ref d),a2,a3,some (.tup [.int x,.int y,.int k])],s2):=by
 have e:ML (.tup [.int x,.int y,.int k]) none (some 2) s=some (.tup [.int x,.int y],s):=rfl;have h:Hj (.tup [.int x,.int y,.int k]) (.int 2) s=some (.int k,s):=IA (!1) rfl;unfold RM;rw[Qd];have q:Ht (mB Hj (mV 4)<|mK<|.int 2) (Nj IK (mV 1)<|Jw (mV 4) Lg<|Lh<|mK<|.int 2) [some bed,some (.ref d),a2,a3,some (.tup [.int x,.int y,.int k])] s=none:=by simp[e,h,IK]
 rw[q,LD];unfold Nm;simp[e,h,a]
end
section
variable {st0:Hh}{m:Nat}
def uQ(c:Ctx bed e stk ks w h)(b:st0.length<=d)(u:∀t∈S,IQ w h ks.length t)(f:HC S)(q:s[d]?=some (.dt<|(S++HE e stk ks w h S m).map Hl))(l:Gr st0 s):
  ∃(v z:Option D) (s':Hh),XI [some bed,some (.ref d),a2,a3,a4] s=some (.nx [some bed,some (.ref d),a2,v,z],s')/\s'[d]?=some (.dt<|(S++HE e stk ks w h S (m+1)).map Hl)/\Gr st0 s':=by
 have n:=WT (e:=e) (stk:=stk) (ks:=ks) c.fo u m;have A:=Tv (e:=e) (stk:=stk) (ks:=ks) c.fo f m;have B:=Pa c.fo A n;obtain⟨s1,C,a1,g1⟩:=nM c (Tw n) q;have a:Kz e stk ks w h (S++HE e stk ks w h S m)=(Iw e stk ks (S++HE e stk ks w h S m)<|eF (S++HE e stk ks w h S m) h w.toNat).head?:=rfl;generalize Iw e stk ks (S++HE e stk ks w h S m) (eF (S++HE e stk ks w h S m) h w.toNat)=M at a1 a;have o:=zkY (bed:=bed) (d:=d) (a2:=a2) (a4:=a4) a1;have p:Ht (Hr UD<|Hf (mV 0)<|Hf (mV 1)<|mZ) (Ho 3) [some bed,some (.ref d),a2,a3,a4] s=some (.nx [some bed,some (.ref d),a2,some (.ref s.length),a4],s1):=by simp[C]
 have at2:=IJ s1<|.lst<|(M.map tD).take 1;have g:=g1.trans<|Gr.app s1 [.lst ((M.map tD).take 1)];have i:=(g.old _<|qax q).trans q;have dl:=qax q;have J:=g1.len;generalize E:s1++[O.lst ((M.map tD).take 1)]=s2 at *
 cases M with
 |nil=>
  have F:HE e stk ks w h S (m+1)=HE e stk ks w h S m:=by rw[HE,a];rfl
  refine⟨some<|.ref s.length,a4,s2,Hy p ?_,by rw[F];exact i,l.trans g⟩;rw[J0,o];have at2:s2[s1.length]?=some (.lst []):=at2;show JZ ⟨[],[(s1.length,[])]⟩ (Ho 4) RM [] _ s2=_;unfold JZ;rw[if_pos (OL at2)]
 |cons t L=>
  have a:Kz e stk ks w h (S++HE e stk ks w h S m)=some t:=a;have hm:=Rg c.fo a;have G:=Wq a;obtain⟨x,y,k⟩:=t;have r:=Rm (x:=x) (y:=y) (k:=k) i (!0);rw[Uc hm.2.1,Am,<-G]at r;have j:=qax i;have H:(s2.set d<|.dt<|(S++HE e stk ks w h S (m+1)).map Hl)[s1.length]?=some (.lst [tD (x,y,k)]):=by rw[Ak (!0)];exact at2
  have I:=qH (bed:=bed) (a2:=a2) (a3:=some (.ref s.length)) r;refine⟨some<|.ref s.length,some<|tD (x,y,k),s2.set d<|.dt<|(S++HE e stk ks w h S (m+1)).map Hl,Hy p ?_,by rw[AC j],Mw (l.trans g) b⟩;rw[J0,o];have at2:s2[s1.length]?=some (.lst [tD (x,y,k)]):=at2;show JZ ⟨[tD (x,y,k)],[(s1.length,[tD (x,y,k)])]⟩ (Ho 4) RM [tD (x,y,k)] _ s2=_;rw[V2 (OL at2) (U1:=[some bed,some (.ref d),a2,some (.ref s.length),some (tD (x,y,k))]) rfl I];unfold JZ;rw[if_pos (OL H)];rfl
end
def zN{sd:List Tl}{st:Hh}(c:Ctx (!3) e stk ks w h)(b:∀t∈sd,IQ w h ks.length t)(a:HC sd)(j:sd.length<=6):
  ∃f:Hh,XD [Hu e stk ks w h sd] st=some (HU (HI<|sd++HE e stk ks w h sd (w.toNat*h.toNat)),f)/\Gr st f:=by
 obtain⟨d,s1,l,a1,hd,g1⟩:=WM (ts:=sd) (st:=st) (!0);rw[TV a]at a1;have f1:=c.fo.w0;have f2:=c.fo.w1;have K:=c.fo.h0;have n:=c.fl;have o:∀st:Hh,Hj (.tup [.int w,.int h]) (.int 0) st=some (.int w,st):=λ_=>IA (!1) rfl;have p:∀st:Hh,Hj (.tup [.int w,.int h]) (.int 1) st=some (.int h,st):=λ_=>IA (!1) rfl;have em:∀st:Hh,HS (.int w) (.int h) st=some (.int (w*h),st):=λ_=>mul_int (!0);have q:=Ro c.fo;have key:=Kw (W:=⟨run 0<|w.toNat*h.toNat,[]⟩) (g:=Ho 2) (m:=XI) (ds:=run 0 (w.toNat*h.toNat)) (U:=[some (!3),some (.ref d),none,none,none]) (st:=s1)
  (Inv:=λi U s=>(∃a2 a3 a4,U=[some (!3),some (.ref d),a2,a3,a4])/\s[d]?=some (.dt<|(sd++HE e stk ks w h sd i).map Hl)/\Gr st s)
  ⟨⟨_,_,_,rfl⟩,by rw[HE,An];exact a1,g1⟩ (λ_ _ _ _ _=>rfl) (λi r U s u v=>by obtain⟨⟨a2,a3,a4,rfl⟩,x,y⟩:=v;obtain⟨L,N,z,A,B,C⟩:=uQ (a2:=some r) (a3:=a3) (a4:=a4) c hd b a x y;exact⟨_,s,_,z,rfl,A,⟨_,_,_,rfl⟩,B,C⟩)
 obtain⟨P,s3,E,⟨a2,a3,a4,rfl⟩,S,g3⟩:=key;rw[Kx]at S;have F:=Pa c.fo (Tv (e:=e) (stk:=stk) (ks:=ks) c.fo a<|w.toNat*h.toNat)<|WT (e:=e) (stk:=stk) (ks:=ks) c.fo b _;obtain⟨s4,G,H⟩:=zfQ S (Tv (e:=e) (stk:=stk) (ks:=ks) c.fo a _) (!0);have I:IG (mB HS (mB Hj (mB Hj (mV 0)<|mK<|.int 1)<|mK<|.int 0)<|mB Hj (mB Hj (mV 0)<|mK<|.int 1)<|mK<|.int 1) [some (!3),some (.ref d),none,none,none] s1=some (⟨run 0<|w.toNat*h.toNat,[]⟩,s1):=by
  refine M9 (s1:=s1) (k:=w.toNat*h.toNat) (M:=w*h) ?_ ?_<|by omega
  ·rw[Et,AQ (!0),AQ (!0)]
  exists 16;simp[n,o,p,em]
 have J:∀s:Hh,Hj (!3) (.int 2) s=some (HU sd,s):=λs=>IA (!1) rfl;refine⟨s4,IW ?_,g3.trans H⟩;unfold gR;generalize HU (HI<|sd++HE e stk ks w h sd (w.toNat*h.toNat))=SE at *;exists 16;generalize HU sd=SS at *;refine Hy (U1:=[some bed,some (.ref d),none,none,none]) (s1:=s1) (by simp[J,l]) ?_;refine Hy (U1:=[some bed,some (.ref d),a2,a3,a4]) (s1:=s3) (by rw[J0,I];exact E) ?_;simp[G]
end L2.MP.T0
namespace L2.MP.T0
open PySem L2.MP L2.MP.Hd
open L2.MP.Hn (HU Mo HI KZ Pl OJ)
theorem ZG{W:Wk}{g:MG}{c:MT}{m:ME}{α:Type}{f h:α->D}{p:α->Bool}{R:HX->Prop}:∀{as:List α}{U:HX}{st:Hh},R U->(∀s,walked W s=true)->(∀a∈as,∀U s,R U->Gr st s->∃U1 s1,g (f a) U s=some (U1,s)/\c U1 s=some (p a,s1)/\m U1 s1=some (h a,s1)/\Gr s s1/\R U1) ->
  ∃s',Jj W g c m (as.map f) U st=some ((as.filter p).map h,s')/\Gr st s'
 |[],U,st,r,d,_=>⟨st,by unfold Jj;rw[BK];simp only[d st,if_true,Ey,BK],Gr.refl st⟩
 |a::as,U,st,r,d,l=>by
  obtain⟨U1,s1,n,i,o,g1,r1⟩:=l a Al U st r<|Gr.refl st;obtain⟨s',e,u⟩:=ZG (W:=W) (g:=g) (c:=c) (m:=m) (f:=f) (h:=h) (p:=p) (R:=R) (as:=as) (st:=s1) r1 d λb v U s q z=>l b (Ai _ v) U s q<|g1.trans z;refine⟨s',?_,g1.trans u⟩;rw[Ao];unfold Jj;rw[if_pos (d st),n]
  cases j:p a with
  |true=>
   rw[j]at i;simp only[Ae,i,if_true,o,e,AS,BM,j,Ao]
  |false=>
   rw[j]at i;simp only[Ae,i,AJ,if_false,e,BM,j]
variable {h e w:Int}{stk:List (Str×Int)}{ks:List (!6)}{sd T P:List Tl}{bed:D}
section
variable {Q A:List Tl}
def Qa(e:Int)(stk:List (Str×Int))(ks:List (!6))(w h:Int)(sd T:List Tl)(t:Tl):Prop:=Im sd t.1 t.2.1=none->∃R,(Ka e stk ks w h sd R/\∀u∈R,u∈T/\¬(u.1=t.1/\u.2.1=t.2.1))/\(∀u∈T,¬(u.1=t.1/\u.2.1=t.2.1)->¬JE e stk ks w h (sd++R) u)/\∀k:Nat,k<ks.length->e<=JC stk ks (sd++R) t.1 t.2.1 k->(k:Int)=t.2.2
def nQ(c:Ctx bed e stk ks w h)(b:Kz e stk ks w h P=none)(t:Tl):¬JE e stk ks w h P t:=λhm=>by
 obtain⟨⟨x0,T,d,f,g,o⟩,i,j⟩:=hm;have Q:t∈gK e stk ks P t.1 t.2.1 ks.length:=by unfold gK;refine P3.mpr ⟨t.2.2.toNat,List.mem_filter.mpr ⟨List.mem_range.mpr<|by omega,decide_eq_true j⟩,?_⟩;obtain⟨x,y,k⟩:=t;have:((k.toNat:Nat):Int)=k:=AQ g;rw[this]
 have m:=Zf (p:=(t.1,t.2.1)) c ⟨⟨x0,T,d,f⟩,i,λz=>by rw[z]at Q;cases Q⟩;have A:t∈Iw e stk ks P (eF P h w.toNat):=List.mem_flatten.mpr ⟨_,P3.mpr ⟨_,m,rfl⟩,Q⟩;have:Iw e stk ks P (eF P h w.toNat)=[]:=by
  unfold Kz at b;cases n:Iw e stk ks P (eF P h w.toNat) with
  |nil=>rfl
  |cons a l=>rw[n]at b;cases b
 rw[this]at A;cases A
theorem aO(c:Ctx bed e stk ks w h)(a:HC sd)(v:Ka e stk ks w h sd Q)(hE:∀t,¬JE e stk ks w h (sd++Q) t)(j:∀t,t∈T ↔ t∈sd++Q)(x:∀t∈T,Qa e stk ks w h sd T t)(m:Ka e stk ks w h sd A):∀i:Nat,∀t∈A.take i,t∈Q
 |0,t,ht=>by simp at ht
 |i+1,t,ht=>by
  have n:=aO c a v hE j x m i;rw[Bd,C4]at ht;rcases ht with ht|ht
  ·exact n t ht
  have ht:A[i]?=some t:=by
   cases q:A[i]? with
   |none=>rw[q]at ht;cases ht
   |some z=>rw[q]at ht;rw[On.mp ht]
  have hm:=Rb m ht;have b:=Lk a v;have B:=hm.1.2.2.2.2.1;have E:=hm.1.2.2.2.2.2;cases q:Im (sd++Q) t.1 t.2.1 with
  |none=>exact absurd ⟨hm.1,q,Co hm.2.2<|Ws c (VP n b)<|by omega⟩<|hE t
  |some k=>
   have y:=Pe q;have ns:Im sd t.1 t.2.1=none:=Lm.mpr λu P=>Lm.mp hm.2.1 u<|A4 _ P;obtain⟨R,⟨o,p⟩,d,f⟩:=x (t.1,t.2.1,k) ((j _).mpr y) ns;have r:HC Q:=(List.pairwise_append.mp b).2.1;have cl:Cl e stk ks w h sd (Q.filter λu=>!decide (u.1=t.1/\u.2.1=t.2.1)) R:=by
    refine⟨o,λu P=>?_,λu P=>?_⟩
    ·obtain⟨s,l⟩:=p u P;refine List.mem_filter.mpr ⟨?_,by rw[decide_eq_false l];rfl⟩
     rcases Os.mp ((j u).mp s)with z|z
     ·have:=(List.pairwise_append.mp<|Lk a o).2.2 u z u P;unfold JB at this;simp at this
     exact z
    ·obtain⟨s,l⟩:=List.mem_filter.mp P;exact d u ((j u).mpr<|AI _ s) (by
      intro z;rw[decide_eq_true z]at l;cases l)
   have g:=SN (A:=A.take i) c (Fe Fw r) a (Wl i m) (λu P=>List.mem_filter.mpr ⟨n u P,by
    rw[decide_eq_false (Lm.mp hm.2.1 u<|AI _ P)]
    rfl⟩) cl (A.take i).length
   rw[AR]at g;have hk:=f t.2.2.toNat (!0) (Co hm.2.2<|Ws c (VP g<|Lk a o)<|by omega);rw[AQ B]at hk;have C:t=(t.1,t.2.1,k):=by have hk:t.2.2=k:=hk;rw[<-hk]
   rcases Os.mp y with z|z
   ·exact absurd ⟨rfl,rfl⟩<|Lm.mp ns _ z
   rw[C];exact z
def zlC(c:Ctx bed e stk ks w h)(a:HC sd)(b:Ka e stk ks w h sd Q)(f:∀t,¬JE e stk ks w h (sd++Q) t)(i:∀t,t∈T ↔ t∈sd++Q)(j:∀t∈T,Qa e stk ks w h sd T t)(g:Ka e stk ks w h sd A)(l:∀t,¬JE e stk ks w h (sd++A) t):HI (sd++A)=HI (sd++Q):=by have P:=aO c a b f i j g A.length;rw[AR]at P;have d:HC Q:=(List.pairwise_append.mp<|Lk a b).2.1;exact rR (T:=Q) c d a ⟨g,P,λt _=>l t⟩ ⟨b,λt m=>m,λt _=>f t⟩
end
theorem bV:∀as bs:List Int,Cf (as.map Fn) (bs.map Fn)=decide (as=bs)
 |[],[]=>rfl
 |[],b::bs=>by simp[Cf]
 |a::as,[]=>by simp[Cf]
 |a::as,b::bs=>by
  have c:=bV as bs;simp only[Ao,Cf,BA,c];by_cases h1:a=b
  ·subst h1;simp
  simp[h1]
variable {l:Nat}{st:Hh}
def qR{m:Nat}{as bs:List Int}(a:st[l]?=some (.lst<|as.map D.int))(hm:st[m]?=some (.lst<|bs.map D.int)):JT (.ref l) (.ref m) st=some (.bl (!decide (as=bs)),st):=by unfold JT;rw[Qr (n:=98) a,Qr (n:=98) hm];simp only[Ae,AS,BA,bV]
variable {d:Nat}{x y:Int}{a6 a7:Option D}{s:Hh}
section
variable {d0:Nat}
def sO{P:List Tl}(c:Ctx bed e stk ks w h)(v:∀t∈P,0<=t.2.2/\t.2.2<(ks.length:Int))(hd:st[d]?=some (.dt<|P.map Hl)):
  ∃s',Jj ⟨run 0 ks.length,[]⟩ (Ho 0) RN UM (run 0 ks.length) [none,some bed,some (.ref d),some (.int x),some (.int y)] st=some (((As ks.length).filter λj=>decide (e<=JC stk ks P x y j)).map λ(j:Nat)=>D.int (0+(j:Int)),s')/\Gr st s':=by
 refine ZG (f:=λ(j:Nat)=>D.int (0+(j:Int))) (h:=λ(j:Nat)=>D.int (0+(j:Int))) (p:=λj=>decide (e<=JC stk ks P x y j)) (as:=As ks.length) (R:=λr=>∃u,r=[u,some bed,some (.ref d),some (.int x),some (.int y)]) ⟨none,rfl⟩ (λ_=>rfl) λj m U s z g=>?_;obtain⟨u,rfl⟩:=z;have m:=List.mem_range.mp m;obtain⟨C,n,o,E,F⟩:=c.at_;have l:(0:Int)<=0+(j:Int):=by omega
 have q:0+(j:Int)<(ks.length:Int):=by omega
 obtain⟨f,G,b1,H,I,K,A,B⟩:=MD c.ks l q;obtain⟨s2,T,g2⟩:=WL (x:=x) (y:=y) c.bed c.ks c.stk (by have:=c.hs.sl;omega) v l q<|(g.old _<|qax hd).trans hd;have a:(0+(j:Int)).toNat=j:=by omega
 have b:((alike (IC ks<|0+(j:Int))<|names4 ks P x y).map λi=>sv stk ((IC ks<|0+(j:Int)).getD i "")).sum=JC stk ks P x y j:=by have:=Ra (stk:=stk) (P:=P) (x:=x) (y:=y) (k:=(0+(j:Int)).toNat) (ks:=ks) (by rw[AQ l,A];rfl);rw[AQ l,a]at this;exact this
 rw[b]at T;generalize 0+(j:Int)=J at *;refine⟨[some (.int J),some bed,some (.ref d),some (.int x),some (.int y)],s2,rfl,?_,rfl,g2,_,rfl⟩;unfold RN;by_cases hR:e<=JC stk ks P x y j
 ·simp[T,n,o,hR]
 simp[T,n,o,hR]
def qF{TT:D}{ds:Nat}{k:Int}{q:Bool}{s1 s2 s3:Hh}(b:Kn (.tup [.int x,.int y]) (.ref ds) s=some (.bl true,s))(f:UK [bed,TT,.tup [.int x,.int y]] s=some (.ref d,s1))(g:Ju (IG<|Hr HQ<|Hf (mB Hj (mB Hj (mV 0)<|mK<|.int 0)<|mK<|.int 2)<|mZ) 1 [0,6,3,4] (Ho 0) RN UM [some bed,some TT,some (.ref ds),some (.int x),some (.int y),some (.int k),some (.ref d),a7] s1=some (.ref l,s2)) (a:s2++[.lst [.int k]]=s3) (c:JT (.ref l) (.ref s2.length) s3=some (.bl q,s3)):
  ON [some bed,some TT,some (.ref ds),some (.int x),some (.int y),some (.int k),a6,a7] s=if q=true then some (.rt (.bl false),s3)else some (.nx [some bed,some TT,some (.ref ds),some (.int x),some (.int y),some (.int k),some (.ref d),some (.ref l)],s3):=by
 unfold ON;rw[Md];have e:mT (mB Kn (mU<|Hf (mV 3)<|Hf (mV 4)<|mZ)<|mV 2) [some bed,some TT,some (.ref ds),some (.int x),some (.int y),some (.int k),a6,a7] s=some (true,s):=by simp[b]
 rw[e,Ae];show mS _ _ _ s=_;refine Hy (U1:=[some bed,some TT,some (.ref ds),some (.int x),some (.int y),some (.int k),some (.ref d),a7]) (s1:=s1) (by simp[f]) ?_;refine Hy (U1:=[some bed,some TT,some (.ref ds),some (.int x),some (.int y),some (.int k),some (.ref d),some (.ref l)]) (s1:=s2) (by simp[g]) ?_
 cases q with
 |true=>simp[a,c]
 |false=>simp[a,c]
def zlB{t:Tl}(c:Ctx (!3) e stk ks w h)(m:HC sd)(f:∀t∈sd,IQ w h ks.length t)(n:sd.length<=6)(B:∀t∈T,IQ w h ks.length t)(o:T.length<=60)(hd:s[d0]?=some (.dt<|sd.map Hl)):
  ∃s',Gr s s'/\(ON [some (!3),some (HU T),some (.ref d0),some (.int t.1),some (.int t.2.1),some (.int t.2.2),a6,a7] s=some (.rt (.bl false),s')\/∃C E,ON [some (!3),some (HU T),some (.ref d0),some (.int t.1),some (.int t.2.1),some (.int t.2.2),a6,a7] s=some (.nx [some (!3),some (HU T),some (.ref d0),some (.int t.1),some (.int t.2.1),some (.int t.2.2),C,E],s')/\Qa e stk ks w h sd T t):=by
 obtain⟨x,y,k⟩:=t;have l:=Ub (x:=x) (y:=y) hd;rw[MH,By]at l;cases hf:Im sd x y with
 |some X=>
  rw[hf]at l;refine⟨s,Gr.refl _,.inr ⟨a6,a7,?_,λz=>?_⟩⟩
  ·unfold ON;exists 16;generalize HU T=TT at *;simp[l]
  have z:Im sd x y=none:=z;rw[hf]at z;cases z
 |none=>
  rw[hf]at l;obtain⟨d,R,s1,F,p,g1,u,P⟩:=zjr (a:=x) (b:=y) (st:=s) c B f m n o;have G:∀t∈sd++R,0<=t.2.2/\t.2.2<(ks.length:Int):=λt ht=>by
   have:IQ w h ks.length t:=by
    exists 17
    ·exact f t ht
    exact Pk u.1 t ht
   exact⟨this.2.2.2.2.1,this.2.2.2.2.2⟩
  obtain⟨s2,H,g2⟩:=sO (x:=x) (y:=y) c G p;obtain⟨Y,I,Z,i1,J⟩:=c.at_;have K:=c.hs.hi;have fl:fits (((As ks.length).filter λj=>decide (e<=JC stk ks (sd++R) x y j)).map λ(j:Nat)=>D.int (0+(j:Int))).length=true:=J8 (by rw[Af];have:=A2 (λj=>decide (e<=JC stk ks (sd++R) x y j)) (As ks.length);rw[Cg]at this;omega);have L:HQ [.tup (ks.map IE)] s1=some (.int (ks.length:Int),s1):=by rw[Ny,Af]
  have q:Ju (IG<|Hr HQ<|Hf (mB Hj (mB Hj (mV 0)<|mK<|.int 0)<|mK<|.int 2)<|mZ) 1 [0,6,3,4] (Ho 0) RN UM [some (!3),some (HU T),some (.ref d0),some (.int x),some (.int y),some (.int k),some (.ref d),a7] s1=some (.ref s2.length,s2++[.lst (((As ks.length).filter λj=>decide (e<=JC stk ks (sd++R) x y j)).map λ(j:Nat)=>D.int (0+(j:Int)))]):=by
   have N:IG (Hr HQ<|Hf (mB Hj (mB Hj (mV 0)<|mK<|.int 0)<|mK<|.int 2)<|mZ) [some (!3),some (HU T),some (.ref d0),some (.int x),some (.int y),some (.int k),some (.ref d),a7] s1=some (⟨run 0 ks.length,[]⟩,s1):=by refine M9 (s1:=s1) (k:=ks.length) (M:=(ks.length:Int)) rfl ?_ (!0);generalize Hu e stk ks w h sd=bed at *;generalize HU T=TT at *;generalize ks.map IE=KK at *;simp[I,J,L]
   rw[JP,N];simp only[Ae];rw[show Jc [some (!3),some (HU T),some (.ref d0),some (.int x),some (.int y),some (.int k),some (.ref d),a7] 1 [0,6,3,4]=[none,some (!3),some (.ref d),some (.int x),some (.int y)] from rfl,H];simp only[Ae,fl,if_true]
  have v:=IJ s2<|.lst<|((As ks.length).filter λj=>decide (e<=JC stk ks (sd++R) x y j)).map λ(j:Nat)=>D.int (0+(j:Int));have g3:=Gr.app s2 [.lst (((As ks.length).filter λj=>decide (e<=JC stk ks (sd++R) x y j)).map λ(j:Nat)=>D.int (0+(j:Int)))];generalize Q:s2++[O.lst (((As ks.length).filter λj=>decide (e<=JC stk ks (sd++R) x y j)).map λ(j:Nat)=>D.int (0+(j:Int)))]=s3 at *;have A:=Gr.app s3 [.lst [.int k]];have hm:=IJ s3<|.lst [.int k];have g:=(A.old _<|qax v).trans v;generalize r:s3++[O.lst [D.int k]]=s4 at *;have em:(((As ks.length).filter λj=>decide (e<=JC stk ks (sd++R) x y j)).map λ(j:Nat)=>D.int (0+(j:Int)))=(((As ks.length).filter λj=>decide (e<=JC stk ks (sd++R) x y j)).map λ(j:Nat)=>(0+(j:Int))).map D.int:=by rw[AK];rfl
  rw[em]at g;have S:=qR (bs:=[k]) g hm;have i:=qF (a6:=a6) (k:=k) l F q r S;refine⟨s4,((g1.trans g2).trans g3).trans A,?_⟩;by_cases hq:(((As ks.length).filter λj=>decide (e<=JC stk ks (sd++R) x y j)).map λ(j:Nat)=>(0+(j:Int)))=[k]
  ·rw[decide_eq_true hq]at i;refine .inr ⟨_,_,i,λ_=>⟨R,u,P,λj U W=>?_⟩⟩;have:(0+(j:Int))∈(((As ks.length).filter λj=>decide (e<=JC stk ks (sd++R) x y j)).map λ(j:Nat)=>(0+(j:Int))):=P3.mpr ⟨j,List.mem_filter.mpr ⟨List.mem_range.mpr U,decide_eq_true W⟩,rfl⟩;rw[hq,DT]at this;show(j:Int)=k;omega
  rw[decide_eq_false hq]at i;exact .inl i
theorem eB(c:Ctx (!3) e stk ks w h)(a:HC sd)(b:∀t∈sd,IQ w h ks.length t)(f:sd.length<=6)(m:∀t∈T,IQ w h ks.length t)(g:T.length<=60):∀(us:List Tl) {a3 a4 a5 a6 a7:Option D}{s:Hh},s[d0]?=some (.dt<|sd.map Hl) ->
  ∃s',Gr s s'/\(JZ ⟨T.map tD,[]⟩ (J5 3<|gC (Ho 3)<|gC (Ho 4)<|gC (Ho 5)<|J6) ON (us.map tD) [some (!3),some (HU T),some (.ref d0),a3,a4,a5,a6,a7] s=some (.rt (.bl false),s')\/∃j,JZ ⟨T.map tD,[]⟩ (J5 3<|gC (Ho 3)<|gC (Ho 4)<|gC (Ho 5)<|J6) ON (us.map tD) [some (!3),some (HU T),some (.ref d0),a3,a4,a5,a6,a7] s=some (.nx j,s')/\∀u∈us,Qa e stk ks w h sd T u)
 |[],a3,a4,a5,a6,a7,s,hd=>⟨s,Gr.refl _,.inr ⟨_,by unfold JZ;rw[BK];rfl,λu hu=>by cases hu⟩⟩
 |t::us,a3,a4,a5,a6,a7,s,hd=>by
  obtain⟨s1,g1,i⟩:=zlB (t:=t) (a6:=a6) (a7:=a7) c a b f m g hd;have x:J5 3 (gC (Ho 3)<|gC (Ho 4)<|gC (Ho 5)<|J6) (tD t) [some (!3),some (HU T),some (.ref d0),a3,a4,a5,a6,a7] s=some ([some (!3),some (HU T),some (.ref d0),some (.int t.1),some (.int t.2.1),some (.int t.2.2),a6,a7],s):=rfl;rw[Ao]
  rcases i with i|⟨y,P,i,n⟩
  ·exact⟨s1,g1,.inl<|qG rfl x i⟩
  ·obtain⟨s2,g2,d⟩:=eB c a b f m g us (a3:=some (.int t.1)) (a4:=some (.int t.2.1)) (a5:=some (.int t.2.2)) (a6:=y) (a7:=P) (s:=s1)<|(g1.old _<|qax hd).trans hd;refine⟨s2,g1.trans g2,?_⟩;rw[V2 rfl x i]
   rcases d with d|⟨j,d,l⟩
   ·exact .inl d
   ·refine .inr ⟨j,d,λu hu=>?_⟩
    rcases KM.mp hu with rfl|hu
    ·exact n
    exact l u hu
def zkI(c:Ctx (!3) e stk ks w h)(a:HC sd)(g:∀t∈sd,IQ w h ks.length t)(i:sd.length<=6)(m:∀t∈T,IQ w h ks.length t)(j:T.length<=60):
  ∃(b:Bool) (f:Hh),Xr [Hu e stk ks w h sd,HU T] st=some (.bl b,f)/\Gr st f/\(b=true->∀t∈T,Qa e stk ks w h sd T t):=by
 obtain⟨d,s1,y,a1,hd,g1⟩:=WM (ts:=sd) (st:=st) (!0);rw[TV a]at a1;obtain⟨s2,g2,l⟩:=eB c a g i m j T (a3:=none) (a4:=none) (a5:=none) (a6:=none) (a7:=none) a1;have P:∀s:Hh,Hj (!3) (.int 2) s=some (HU sd,s):=λs=>IA (!1) rfl;have x:Ht (Hr Qz<|Hf (mB Hj (mV 0)<|mK<|.int 2)<|mZ) (Ho 2) (Lq 8 [Hu e stk ks w h sd,HU T]) st=some (.nx [some (!3),some (HU T),some (.ref d),none,none,none,none,none],s1):=by generalize Hu e stk ks w h sd=bed at *;generalize HU T=TT at *;generalize HU sd=SS at *;simp[Lq,P,y]
 have hw:J3 (mV 1) [some (!3),some (HU T),some (.ref d),none,none,none,none,none] s1=some (⟨T.map tD,[]⟩,s1):=rfl;rcases l with l|⟨n,l,o⟩
 ·refine⟨false,s2,IW ?_,g1.trans g2,λz=>by cases z⟩;unfold Xq;refine Hy x<|O9 ?_;rw[J0,hw];exact l
 refine⟨true,s2,IW ?_,g1.trans g2,λ_=>o⟩;unfold Xq;refine Hy x<|Hy (U1:=n) (s1:=s2) ?_ rfl;rw[J0,hw];exact l
end
end L2.MP.T0
namespace L2.MP.T0
open PySem L2.MP L2.MP.Hd
open L2.MP.Hn (HU Mo HI KZ Pl OJ fT)
def Lo(o:Nat)(s s':Hh):Prop:=∀k,k<o->s'[k]?=s[k]?
variable {o:Nat}{s s':Hh}
def Vh(g:Gr (s.take o) s')(a:o<=s.length):Lo o s s':=λk hk=>(g.old k (by rw[A3];omega)).trans<|C7 hk
variable {n m:Nat}
def ZJ(h:HF n m s)(l:Lo o s s')(hn:n<o):HF n m s':=by obtain⟨a,b,c,e,r⟩:=h;exact⟨a,b,c,(l n hn).trans e,r⟩
def ZT(o:Nat)(s:Hh):Gr (s.take o) s:=⟨by rw[A3];omega,λk hk=>by rw[A3]at hk;rw[C7 (!0)]⟩
theorem dB{α:Type}[DecidableEq α]:∀{l m:List α},l.Nodup->(∀a∈l,a∈m)->l.length<=m.length
 |[],m,_,_=>A5 _
 |a::l,m,c,h=>by have hm:=h a Al;obtain⟨o,s⟩:=List.nodup_cons.mp c;have d:=dB (l:=l) (m:=m.erase a) s λb n=>(List.mem_erase_of_ne (by rintro rfl;exact o n)).mpr<|h b<|Ai _ n;rw[List.length_erase_of_mem hm]at d;have:=List.length_pos_of_mem hm;rw[Aw];omega
variable {C:Addr}{s5 kd ld rd d:Nat}{bed v:D}{e w h k x y:Int}{stk:List (Str×Int)}{ks:List (!6)}{sd P:List Tl}{F:Int×Int->List Tl}{Y:List Yq}{st0 s1 s2:Hh}{t:Tl}{kvs:List (List Key×D)}{U:HX}
section
variable {R:List Tl}
def Gw.base(q:Gw C o s5 kd ld rd bed stk P R F Y st0 s):Gw C o s5 kd ld rd bed stk P R F Y (s.take o) s:=⟨q.ob,q.hs,q.hk,q.hl,q.hr,q.nd,q.hy,ZT o s⟩
def VG(hm:JE e stk ks w h P t):t∈gK e stk ks P t.1 t.2.1 ks.length:=by obtain⟨⟨_,_,_,_,d,n⟩,_,m⟩:=hm;unfold gK;refine P3.mpr ⟨t.2.2.toNat,List.mem_filter.mpr ⟨List.mem_range.mpr<|by omega,decide_eq_true m⟩,?_⟩;obtain⟨x,y,k⟩:=t;have:((k.toNat:Nat):Int)=k:=AQ d;rw[this]
def Z6(hm:JE e stk ks w h P t):Ku e stk ks w h P (t.1,t.2.1):=by have d:=VG hm;obtain⟨⟨x0,m,n,o,_,_⟩,s,_⟩:=hm;exact⟨⟨x0,m,n,o⟩,s,λz=>by rw[z]at d;cases d⟩
def kX{p:Int×Int}(b:Ku e stk ks w h P p)(a:t∈gK e stk ks P p.1 p.2 ks.length):JE e stk ks w h P t:=by obtain⟨x,y,d,m⟩:=Zy a;unfold gK at a;obtain⟨k,hk,rfl⟩:=P3.mp a;obtain⟨⟨x0,n,o,s⟩,v,_⟩:=b;exact⟨⟨x0,n,o,s,d,m⟩,v,of_decide_eq_true (List.mem_filter.mp hk).2⟩
structure Kp(C:Addr)(o:Nat)(bed:D)(e:Int)(stk:List (Str×Int))(ks:List (!6))(w h:Int)(sd R:List Tl)(s:Hh):Prop where
 ex:∃(s5 kd ld rd:Nat) (F:Int×Int->List Tl) (Y:List Yq),(o<s5/\s5<kd/\kd<ld/\ld<rd)/\Gw C o s5 kd ld rd bed stk (sd++R) R F Y (s.take o) s/\Good e stk ks w h (sd++R) F Y
 row:Ka e stk ks w h sd R
def Kp.fr(K:Kp C o bed e stk ks w h sd R s)(f:Fr n s s')(hn:n<o):Kp C o bed e stk ks w h sd R s':=by obtain⟨⟨s5,kd,ld,rd,F,Y,y,q,g⟩,r⟩:=K;have d:∀{a:Nat}{x:O},s[a]?=some x->o<=a->s'[a]?=some x:=λ{a x} v P=>(f.old a (qax v)<|by omega).trans v;exact⟨⟨s5,kd,ld,rd,F,Y,y,⟨d q.ob<|Ag _,d q.hs<|by omega,d q.hk<|by omega,d q.hl<|by omega,d q.hr<|by omega,q.nd,λz m=>⟨(q.hy z m).1,d (q.hy z m).2 (by have:=(q.hy z m).1;omega)⟩,ZT o s'⟩,g⟩,r⟩
def Kp.gr(K:Kp C o bed e stk ks w h sd R s)(g:Gr s s'):Kp C o bed e stk ks w h sd R s':=by obtain⟨⟨s5,kd,ld,rd,F,Y,d,q,m⟩,r⟩:=K;exact⟨⟨s5,kd,ld,rd,F,Y,d,(q.gr g).base,m⟩,r⟩
def TC(hf:Jq w h)(q:Gw C o s5 kd ld rd bed stk P R F Y st0 s)(g:Good e stk ks w h P F Y):Y.length<=60:=by
 have f1:=hf.w0;have x:=hf.h0;have:=dB (m:=Jg h.toNat w.toNat) q.nd λp d=>by obtain⟨z,n,rfl⟩:=P3.mp d;obtain⟨⟨x0,y,v,U⟩,_⟩:=(g.key z.1).mp ⟨z.2,n⟩;exact Qp x0 (!0) v<|by omega
 rw[Af,Rn]at this;have:=Ro hf;omega
def Wg(o:Nat)(s:Hh):(s.take o).length<=o:=by rw[A3];omega
def rD{k:Nat}{a b:Int}{mk mx:ME}{md:ME}{x:D}(hm:md U s=some (.ref d,s))(h:s[d]?=some (.dt kvs))(hk:mk U s=some (.tup [.int a,.int b],s))(c:mx U s=some (x,s1))(f:s1[d]?=some (.dt kvs)):P5 md mk mx U s=some ((HN kvs [.inl a,.inl b]).getD x,s1):=by
 have e:LA s d=true:=by unfold LA;rw[h]
 have m:O5 s1 d (.tup [.int a,.int b])=some (HN kvs [.inl a,.inl b]):=by
  unfold O5;have:look s1 d (.tup [.int a,.int b])=some (HN kvs [.inl a,.inl b]):=by unfold look;simp only[f];rfl
  rw[this,Kv]
 unfold P5;rw[hm];simp only[Ae,e,if_true];rw[hk];simp only[Ae,c,m,AS]
def LP{i:Nat}{f:Str}{g:GN}{mm:MA}(hi:U[i]?=some (some<|.ref o))(hf:(Ow bed s5 kd ld rd).lookup f=none)(h:OA C o bed s5 kd ld rd s):Jz C f g (mV i) mm U s=(mm U s).bind λp=>g (.ref o::p.1) p.2:=by
 have h:s[o]?=some (.ob C<|Ow bed s5 kd ld rd):=h;have e:mV i U s=some (.ref o,s):=by rw[QX,hi]
 unfold Jz;rw[e];simp only[Ae,h,hf];simp
def ZO(a:Tl):IX (n+2) s (tD a)=some (tP a):=by
 have:=W4 (n:=n) (st:=s) [a];simp only[Ao,BK,Jo]at this;cases d:IX (n+2) s (tD a) with
 |none=>rw[d]at this;cases this
 |some z=>rw[d]at this;simpa using this
def cI(a b:Tl):BA (tP a) (tP b)=decide (a=b):=by obtain⟨a1,a2,d⟩:=a;obtain⟨b1,e,h⟩:=b;simp[tP,BA,Cf];rfl
def rJ{c kk:D}{K:Int}{nl:Nat}(i:OA C o bed s5 kd ld rd s)(a:OA C o bed s5 kd ld rd s1)(j:NH [bed,.tup [.int x,.int y]] s=some (.bl true,s))(b:Ni (.tup [.int x,.int y]) (.ref kd) s=some (.bl false,s))(l:∀s:Hh,Hj bed (.int 0) s=some (c,s))(p:∀s:Hh,Hj c (.int 2) s=some (kk,s))(q:∀s:Hh,HQ [kk] s=some (.int K,s))(r:0<=k)(u:k<K)(z:P5 (Hv C "ready"<|mV 0) (mV 4) (mL<|mZ) [some (.ref o),some (.int x),some (.int y),some (.int k),some (.tup [.int x,.int y])] s=some (.ref nl,s1)) (A:Kn (.tup [.int x,.int y,.int k]) (.ref nl) s1=some (.bl false,s1)) (B:NG C [.ref o,.tup [.int x,.int y,.int k]] s1=some (v,s2)):
  Qu C [.ref o,.int x,.int y,.int k] s=some (.non,s2):=by
 have d:=PZ (U:=[some (.int x),some (.int y),some (.int k),some (.tup [.int x,.int y])]) i;have e:=P0 (U:=[some (.int x),some (.int y),some (.int k),some (.tup [.int x,.int y])]) i;have h:=Pf (C:=C) (o:=o) (f:="lay") (g:=NG C) (mm:=Hf (mU<|Hf (mV 1)<|Hf (mV 2)<|Hf (mV 3)<|mZ) mZ) (U:=[some (.int x),some (.int y),some (.int k),some (.tup [.int x,.int y])]) rfl a;refine Od (U:=[some (.ref o),some (.int x),some (.int y),some (.int k),some (.tup [.int x,.int y])]) ?_;unfold dW;refine Hy (U1:=[some (.ref o),some (.int x),some (.int y),some (.int k),some (.tup [.int x,.int y])]) (s1:=s) rfl ?_;refine Hy (U1:=[some (.ref o),some (.int x),some (.int y),some (.int k),some (.tup [.int x,.int y])]) (s1:=s) (by simp[d,j]) ?_;refine Hy (U1:=[some (.ref o),some (.int x),some (.int y),some (.int k),some (.tup [.int x,.int y])]) (s1:=s) (by simp[e,b]) ?_;refine Hy (U1:=[some (.ref o),some (.int x),some (.int y),some (.int k),some (.tup [.int x,.int y])]) (s1:=s) (by simp[Mg,d,l,p,q,r,u]) ?_;refine Hy (U1:=[some (.ref o),some (.int x),some (.int y),some (.int k),some (.tup [.int x,.int y])]) (s1:=s1) (by simp[z,A]) ?_;rw[LF,h];simp[B]
def pW(c:Ctx bed e stk ks w h)(j:∀t∈sd,IQ w h ks.length t)(l:HC sd)(K:Kp C o bed e stk ks w h sd R s)(hm:JE e stk ks w h (sd++R) t):
  ∃s',Qu C [.ref o,.int t.1,.int t.2.1,.int t.2.2] s=some (.non,s')/\Kp C o bed e stk ks w h sd (R++[t]) s'/\Lo o s s':=by
 obtain⟨⟨s5,kd,ld,rd,F,Y,⟨E,G,H,I⟩,q,g⟩,r⟩:=K;obtain⟨x,y,k⟩:=t;have d:=Z6 hm;have u:=VG hm;obtain⟨⟨x0,T,W,X,J,L⟩,m,Z⟩:=id hm;have M:∀t∈sd++R,IQ w h ks.length t:=λt ht=>by
  exists 17
  ·exact j t ht
  exact Pk r t ht
 have nd:=Lk l r;have len:=Pa c.fo nd M;have lY:=TC c.fo q g;have ip:=cM (st:=s) c x0 T W X;have v:=Vf (x:=x) (y:=y) q.hk;rw[MH,By,m]at v;obtain⟨nl,A⟩:=(g.key (x,y)).mpr d;rcases Q8 (p:=(x,y)) (Y:=Y)with⟨_,z⟩|⟨n1,B,hv⟩
 ·exact absurd rfl<|z _ A
 have P:=q.gr<|Gr.app s [.lst []];have i:=rD (k:=0) (md:=Hv C "ready" (mV 0)) (mk:=mV 4) (mx:=mL mZ) (U:=[some (.ref o),some (.int x),some (.int y),some (.int k),some (.tup [.int x,.int y])]) (a:=x) (b:=y) (Oc q.ob) q.hr rfl (s1:=s++[.lst []]) (x:=.ref s.length) (!2) P.hr;rw[hv]at i;have i:P5 (Hv C "ready"<|mV 0) (mV 4) (mL<|mZ) [some (.ref o),some (.int x),some (.int y),some (.int k),some (.tup [.int x,.int y])] s=some (.ref n1,s++[.lst []]):=i;have N:=(P.hy _ B).2;rw[g.lst (x,y) d]at N;have Q:=Ce.L1 (f:=tD) (p:=tP) cI (x:=(x,y,k)) N (ZO (n:=48) _) λa _=>ZO (n:=47) a;simp only[u,decide_true]at Q;obtain⟨F',Y',s2,el,S,g2,l2⟩:=ZC (t:=(x,y,k)) c ⟨Wg o s,E,G,H,I⟩ P g (Tw M) ⟨J,L⟩ m (!0) (!0) (by rw[AB]at len;omega);obtain⟨hs,i0,ie,i1,i2⟩:=c.at_;refine⟨s2,rJ (kk:=.tup (ks.map IE)) (K:=(ks.length:Int)) q.ob P.ob ip v i0 i2 (λ_=>by rw[Ny,Af]) J L i Q el,⟨⟨s5,kd,ld,rd,F',Y',⟨E,G,H,I⟩,?_,?_⟩,Rt r hm⟩,Vh S.fr<|BX<|qax q.ob⟩
 ·rw[<-Am];exact S.base
 rw[<-Am];exact g2
end
variable {L:List D}
section
variable {R:List Tl}
def zS{A:List Tl}(h:s[n]?=some (.lst<|(A++[t]).map tD)):OY (.ref n) [] s=some (tD t,s.set n (.lst<|A.map tD)):=by unfold OY;simp only[h];rw[AX];simp
theorem aM{x y k:Int}:∀{P:List Tl},(∀u∈P,¬(u.1=x/\u.2.1=y))->JV ((P++[(x,y,k)]).map Hl) [.inl x,.inl y]=P.map Hl
 |[],_=>by simp[JV,Hl]
 |u::P,h=>by
  have a:=aM (k:=k) (P:=P) λv d=>h v<|Ai _ d;have e:=h u Al;have hk:decide ((Hl u).1=[Cu x,Cu y])=false:=decide_eq_false λz=>by simp[Hl]at z;exact e z
  unfold JV at a ⊢;rw[List.cons_append,Ao,Cj,hk];simp only[cond_false,Ei,a,Ao]
def yB(g:Good e stk ks w h (P++[t]) F Y){a:Int×Int->List Tl}{b:List Yq}(u:Jp e stk ks w h P ((t.1,t.2.1)::KU (t.1,t.2.1)) F Y a b):Good e stk ks w h P a b:=by
 refine⟨λp=>?_,λp d=>?_⟩
 ·by_cases hm:p∈(t.1,t.2.1)::KU (t.1,t.2.1)
  ·exact(u.new p hm).1
  exact((u.old p hm).1.trans<|g.key p).trans<|Tg hm
 ·by_cases hm:p∈(t.1,t.2.1)::KU (t.1,t.2.1)
  ·exact(u.new p hm).2
  rw[(u.old p hm).2,g.lst p ((Tg hm).mpr d),Vu];rw[Bb,not_or]at hm;exact hm.2
def oT{s3:Hh}(l:OA C o bed s5 kd ld rd s)(j:s[ld]?=some (.lst L))(a:L.isEmpty=false)(ep:OY (.ref ld) [] s=some (.tup [.int x,.int y,.int k],s1))(b:OA C o bed s5 kd ld rd s1)(hk:s1[kd]?=some (.dt kvs))(p:HN kvs [.inl x,.inl y]=some (.int k))(c:s1.set kd (.dt<|JV kvs [.inl x,.inl y])=s2)(i:OA C o bed s5 kd ld rd s2)(r:OO C [.ref o,.tup [.int x,.int y]] s2=some (v,s3)):
  OM C [.ref o] s=some (.tup [.int x,.int y,.int k],s3):=by
 exists 14;have f0:=Tn (U:=[none]) l;have f1:=P0 (U:=[some (.tup [.int x,.int y,.int k])]) b;have e:=Pf (C:=C) (o:=o) (f:="look_around") (g:=OO C) (mm:=Hf (Jw (mV 1) Lg<|Lh<|mK<|.int 2) mZ) (U:=[some (.tup [.int x,.int y,.int k])]) rfl i;refine IW ?_;unfold fH;refine Hy (U1:=[some (.ref o),none]) (s1:=s) (by simp[Lq,f0,Qe,KH,Ig,j,a]) ?_;refine Hy (U1:=[some (.ref o),some (.tup [.int x,.int y,.int k])]) (s1:=s1) (by simp[f0,oP,Ig,j,ep]) ?_;refine Hy (U1:=[some (.ref o),some (.tup [.int x,.int y,.int k])]) (s1:=s2) ?_ ?_
 ·have h:LA s1 kd=true:=by unfold LA;rw[hk]
  have m:keysOf [D.int x,.int y]=some [.inl x,.inl y]:=rfl;rw[LF];unfold Vj;rw[f1];simp[h,d,hk,m,p,c]
 refine Hy (U1:=[some (.ref o),some (.tup [.int x,.int y,.int k])]) (s1:=s3) (by rw[LF,e];simp[d,r]) ?_;simp
def oR(c:Ctx bed e stk ks w h)(a:∀t∈sd,IQ w h ks.length t)(b:HC sd)(K:Kp C o bed e stk ks w h sd (R++[t]) s):
  ∃s',OM C [.ref o] s=some (tD t,s')/\Kp C o bed e stk ks w h sd R s'/\Lo o s s':=by
 obtain⟨⟨s5,kd,ld,rd,F,Y,⟨U,f,j,l⟩,q,g⟩,v⟩:=K;have hm:=Rb (i:=R.length) (t:=t) v (!2);have d:=Wl R.length v;rw[GM]at hm d;obtain⟨x,y,k⟩:=t;have L:(s.take o).length<=o/\o<s5/\s5<kd/\kd<ld/\ld<rd:=⟨Wg o s,U,f,j,l⟩
 have u:∀t∈sd++R,IQ w h ks.length t:=λt ht=>by
  exists 17
  ·exact a t ht
  exact Pk d t ht
 have I:=TC c.fo q g;have z:=zS q.hl;have P:=q.lay L R;have A:HN ((sd++(R++[(x,y,k)])).map Hl) [.inl x,.inl y]=some (.int k):=by rw[MH,TH (t:=(x,y,k)) (Lk b v) (!2)];rfl
 have n:JV ((sd++(R++[(x,y,k)])).map Hl) [.inl x,.inl y]=(sd++R).map Hl:=by rw[<-Am];exact aM<|Lm.mp hm.2.1
 have m:=P.kin L<|sd++R;rw[<-n]at m;obtain⟨B,E,s3,G,r,H,J⟩:=gS (p:=(x,y)) c L (by rw[n]at m;exact m) (Tw u) (!0);rw[<-Am]at g;rw[n]at m;refine⟨s3,oT q.ob q.hl (!2) z P.ob P.hk A (by rw[n]) m.ob G,⟨⟨s5,kd,ld,rd,B,E,⟨U,f,j,l⟩,r.base,yB g H⟩,d⟩,Vh r.fr<|BX<|qax q.ob⟩
end
section
variable {R:List Tl}
def zjM(hd:s[d]?=some (.dt<|Y.map Il))(a:Y.length<64):∃L:List (Int×Int),Y3 (Ph [.ref d] s=some (.ref s.length,s++[.lst (L.map Ip)])) (L.length=Y.length) (∀p,p∈L ↔ ∃n,(p,n)∈Y):=by
 have fl:fits (Y.map Il).length=true:=J8 (by rw[Af];omega);have x:Js (Y.map Il)=(Y.map (·.1)).map Ip:=by unfold Js;rw[AK,AK];rfl
 have y:((Y.map (·.1)).map Ip).length=Y.length:=by rw[Af,Af]
 have m:∀p:Int×Int,p∈Y.map (·.1) ↔ ∃n,(p,n)∈Y:=λp=>⟨λhp=>by obtain⟨z,C,rfl⟩:=P3.mp hp;exact⟨z.2,C⟩,λ⟨n,v⟩=>P3.mpr ⟨_,v,rfl⟩⟩
 by_cases h:Y.length<2
 ·refine⟨Y.map (·.1),?_,by rw[Af],m⟩;unfold Ph;simp only[hd,fl,if_true,x];rw[if_pos (by rw[y];exact decide_eq_true h)]
 ·have F:rowsOf ((Y.map (·.1)).map Ip)=some (Y.map Ik):=by
   have:(Y.map (·.1)).map Ip=(Y.map Ik).map HJ:=by rw[AK,AK];rfl
   rw[this];exact Uv λr e=>by obtain⟨t,_,rfl⟩:=P3.mp e;simp[Ik]
  have hp:=Uw<|Y.map Ik;have o:∀r∈KW (Y.map Ik),∃t∈Y,r=Ik t:=λr e=>by obtain⟨t,w,rfl⟩:=P3.mp<|hp.mem_iff.mp e;exact⟨t,w,rfl⟩
  have hlen:=hp.length_eq;rw[Af]at hlen;refine⟨(KW<|Y.map Ik).map λr=>(r.getD 0 0,r.getD 1 0),?_,by rw[Af];exact hlen,λp=>?_⟩
  ·have P:((KW<|Y.map Ik).map λr=>(r.getD 0 0,r.getD 1 0)).map Ip=(KW<|Y.map Ik).map HJ:=by
    rw[AK];refine CV λr e=>?_;obtain⟨t,_,rfl⟩:=o r e;rfl
   unfold Ph;simp only[hd,fl,if_true,x];rw[if_neg (by rw[y];simpa using h),F];simp only[Ae,Af];rw[if_pos (by simp;omega),P]
  ·refine⟨λU=>?_,λ⟨n,v⟩=>?_⟩
   ·obtain⟨r,e,rfl⟩:=P3.mp U;obtain⟨t,w,rfl⟩:=o r e;exact⟨t.2,w⟩
   exact P3.mpr ⟨Ik (p,n),hp.mem_iff.mpr<|P3.mpr ⟨_,v,rfl⟩,rfl⟩
def kZ{p:D}{l:Nat}{a:List D}(b:OA C o bed s5 kd ld rd s)(c:Hj (.ref rd) p s=some (.ref n,s))(f:s[l]?=some (.lst L))(g:Ox (.ref l) [.ref n] s=some (.non,s.set l (.lst a))):
  UP C [some (.ref o),some (.ref l),some p] s=some (.nx [some (.ref o),some (.ref l),some p],s.set l (.lst a)):=by
 have f1:=Oc (U:=[some (.ref l),some p]) b;unfold UP;simp[kK,f1,c,Ig,f,g]
def fO(c:Ctx bed e stk ks w h)(X:∀t∈sd,IQ w h ks.length t)(Z:HC sd)(K:Kp C o bed e stk ks w h sd R s):
  ∃(G:List Tl) (s':Hh),Ng C [.ref o] s=some (.tup (G.map tD),s')/\Gr s s'/\(∀t∈G,JE e stk ks w h (sd++R) t)/\(G=[]->∀t,¬JE e stk ks w h (sd++R) t)/\G.length<=1000:=by
 obtain⟨⟨s5,kd,ld,rd,F,Y,⟨h1,h2,h3,h4⟩,q,g⟩,hr⟩:=K;have lY:=TC c.fo q g;have k13:=c.hs.hi;have j:=q.gr<|Gr.app s [.lst []];have a1:=IJ s<|.lst [];have g1:=Gr.app s [.lst []];have rl:rd<s.length:=qax q.hr;generalize r:s++[O.lst []]=s1 at *;have l1:s.length<s1.length:=qax a1;obtain⟨L,es,lL,u⟩:=zjM (s:=s1) j.hr (!0);have q2:=j.gr<|Gr.app s1 [.lst (L.map Ip)];have a2:=IJ s1<|.lst<|L.map Ip;have g2:=Gr.app s1 [.lst (L.map Ip)];have b2:=(g2.old _<|qax a1).trans a1;generalize hs2:s1++[O.lst (L.map Ip)]=s2 at *;have key:=Kw (W:=⟨L.map Ip,[(s1.length,L.map Ip)]⟩) (g:=Ho 2) (m:=UP C) (ds:=L.map Ip) (U:=[some (.ref o),some (.ref s.length),none]) (st:=s2)
  (Inv:=λi U q=>(∃a,U=[some (.ref o),some (.ref s.length),a])/\Gr s q/\Gw C o s5 kd ld rd bed stk (sd++R) R F Y (s.take o) q/\q[s1.length]?=some (.lst<|L.map Ip)/\q[s.length]?=some (.lst<|(((L.take i).map λp=>gK e stk ks (sd++R) p.1 p.2 ks.length).flatten).map tD)/\(((L.take i).map λp=>gK e stk ks (sd++R) p.1 p.2 ks.length).flatten).length<=i*13)
  ⟨⟨_,rfl⟩,g1.trans g2,q2,a2,by simpa using b2,by simp⟩ (λi U q _ A=>OL A.2.2.2.1) (λi dd U q' x A=>by
   obtain⟨⟨a,rfl⟩,B,b,J,v,M⟩:=A;rw[Az]at x;obtain⟨p,y,rfl⟩:=Ia x;have hi:i<L.length:=(KB.mp y).1;obtain⟨n,N⟩:=(u p).mp<|AF y;have d:=(g.key p).mp ⟨n,N⟩
   rcases Q8 (p:=p) (Y:=Y)with⟨_,z⟩|⟨n1,E,hv⟩
   ·exact absurd rfl<|z _ N
   have ei:=Vn b.hr hv;have Q:=(b.hy _ E).2;rw[g.lst p d]at Q;have gl:=To e stk ks (sd++R) p.1 p.2 ks.length;have S:=fT v Q (by rw[Af,Af];omega);have f:(((L.take<|i+1).map λp=>gK e stk ks (sd++R) p.1 p.2 ks.length).flatten)=(((L.take i).map λp=>gK e stk ks (sd++R) p.1 p.2 ks.length).flatten)++gK e stk ks (sd++R) p.1 p.2 ks.length:=by rw[Bd,y];simp
   rw[<-AX,<-f]at S;have er:=kZ (C:=C) (p:=Ip p) (L:=((((L.take i).map λp=>gK e stk ks (sd++R) p.1 p.2 ks.length).flatten).map tD)) b.ob ei v S;have T:=Mw (o:=O.lst ((((L.take<|i+1).map λp=>gK e stk ks (sd++R) p.1 p.2 ks.length).flatten).map tD)) B<|Ag s.length;refine⟨_,q',_,_,rfl,er,⟨_,rfl⟩,T,q.gr T,by rw[Ak (!0)];exact J,by rw[AC (qax v)],?_⟩;rw[f,AB,DN]
   omega)
 obtain⟨U',s3,el,⟨a,rfl⟩,B,b,J,v,M⟩:=key;rw[Af,AR]at v M;have f:=OH v;have H:=Oc (U:=[some (.ref s.length),none]) j.ob;refine⟨(L.map λp=>gK e stk ks (sd++R) p.1 p.2 ks.length).flatten,s3,IW ?_,B,λt I=>?_,λhG t hm=>?_,by omega⟩
 ·unfold gM;generalize ((L.map λp=>gK e stk ks (sd++R) p.1 p.2 ks.length).flatten).map tD=GG at *;refine Hy (U1:=[some (.ref o),some (.ref s.length),none]) (s1:=s1) (by
   show Ht _ _ [some (.ref o),none,none] s=_;simp[r]) ?_
  refine Hy (U1:=[some (.ref o),some (.ref s.length),a]) (s1:=s3) ?_ (by simp[f]);have hw:J3 (Hr Ph<|Hf (Hv C "ready"<|mV 0)<|mZ) [some (.ref o),some (.ref s.length),none] s1=some (⟨L.map Ip,[(s1.length,L.map Ip)]⟩,s2):=by simp[H,es,Mu,Ig,a2]
  rw[J0,hw];exact el
 ·obtain⟨l,hl,I⟩:=List.mem_flatten.mp I;obtain⟨p,y,rfl⟩:=P3.mp hl;exact kX ((g.key p).mp<|(u p).mp y) I
 have d:=Z6 hm;have P:t∈((L.map λp=>gK e stk ks (sd++R) p.1 p.2 ks.length).flatten):=List.mem_flatten.mpr ⟨_,P3.mpr ⟨(t.1,t.2.1),(u _).mpr<|(g.key _).mpr d,rfl⟩,VG hm⟩;rw[hG]at P;cases P
def V9(K:Kp C o bed e stk ks w h sd R s):Mi C [.ref o] s=some (.tup (R.map tD),s):=by obtain⟨⟨s5,kd,ld,rd,F,Y,_,q,g⟩,d⟩:=K;exact pZ q
def VJ(K:Kp C o (!3) e stk ks w h sd R s)(a:(sd++R).length<64):∃s',Mn C [.ref o] s=some (HU (HI<|sd++R),s')/\Gr s s':=by obtain⟨⟨s5,kd,ld,rd,F,Y,_,q,g⟩,d⟩:=K;exact jJ q (λs=>IA (!1) rfl) a
def Z9(c:Ctx bed e stk ks w h)(a:∀t∈sd,IQ w h ks.length t)(b:HC sd)(K:Kp C o bed e stk ks w h sd R s):
  (Kz e stk ks w h (sd++R)=none/\Ml C [.ref o] s=some (.non,s))\/∃(t:Tl) (s':Hh),Kz e stk ks w h (sd++R)=some t/\Ml C [.ref o] s=some (tD t,s')/\Kp C o bed e stk ks w h sd (R++[t]) s'/\Lo o s s':=by
 obtain⟨⟨s5,kd,ld,rd,F,Y,⟨y,P,U,f⟩,q,g⟩,m⟩:=K;have G:=TC c.fo q g;have i:∀t∈sd++R,IQ w h ks.length t:=λt ht=>by
  exists 17
  ·exact a t ht
  exact Pk m t ht
 have len:=Pa c.fo (Lk b m) i;by_cases hy:Y=[]
 ·subst hy;refine .inl ⟨?_,uB q⟩;unfold Kz;rw[yR c λp r=>by
   obtain⟨k,hk⟩:=(g.key p).mpr r;cases hk]
  rfl
 ·obtain⟨p,t,L,u,z,s',n,d,A,B,v,j,E⟩:=uC c ⟨Wg o s,y,P,U,f⟩ q g (Tw i) hy (!0) (!0) (by rw[AB]at len;omega);obtain⟨H,x⟩:=zkt c n d A;have l:Kz e stk ks w h (sd++R)=some t:=by
   unfold Kz;rw[x];rfl
  rw[Am]at v j;exact .inr ⟨t,s',l,B,⟨⟨s5,kd,ld,rd,u,z,⟨y,P,U,f⟩,v.base,j⟩,Rt m<|Rg c.fo l⟩,Vh v.fr<|BX<|qax q.ob⟩
end
end L2.MP.T0
namespace L2.MP.T0
open PySem L2.MP L2.MP.Hd
open L2.MP.Hn (HU Mo HI KZ Pl OJ)
variable {e w h:Int}{stk:List (Str×Int)}{ks:List (!6)}{sd:List Tl}
def kO(a:N5 e stk ks)(hf:Jq w h):Ctx (!3) e stk ks w h:=⟨⟨Nu e stk ks,λs=>IA (!1) rfl,λs=>IA (!1) rfl,λs=>IA (!1) rfl,λs=>IA (!1) rfl⟩,λs=>IA (!1) rfl,a,hf⟩
def zlG{a:Int}{l:List Tl}(h':∀t∈l,IQ w h a t):∀t∈HI l,IQ w h a t:=λt e=>h' t<|(KZ l).mem_iff.mp e
def W8{sd R:List Tl}(a:∀t∈sd,IQ w h ks.length t)(b:Ka e stk ks w h sd R):∀t∈sd++R,IQ w h ks.length t:=λt ht=>by
 exists 17
 ·exact a t ht
 exact Pk b t ht
def RC(G:List Tl)(s:Hh):IX 100 s (.tup<|G.map tD)=some (.tuple<|G.map tP):=by rw[IX,W4 (n:=97) G];rfl
def WN(G:List Tl)(s:Hh):OP (.tup<|G.map tD) (.tup []) s=some (.bl (!G.isEmpty),s):=by have e:=RC [] s;have e:IX 100 s (.tup [])=some (.tuple []):=e;unfold OP JL JT;rw[RC,e];cases G<;>rfl
def zP(G:List Tl)(s:Hh):eqZ (.tup<|G.map tD) (.tup []) s=some (.bl G.isEmpty,s):=by have e:=RC [] s;have e:IX 100 s (.tup [])=some (.tuple []):=e;unfold eqZ JL La;rw[RC,e];cases G<;>rfl
theorem eD:∀ts:List Tl,Cf (ts.map tP) (ts.map tP)=true
 |[]=>rfl
 |t::ts=>by simp only[Ao,Cf,cI,eD ts,decide_true,GW]
def WE(ts:List Tl)(s:Hh):JT (HU ts) (HU ts) s=some (.bl false,s):=by rw[Ug];unfold JT;rw[RC];simp only[Ae,AS,BA,eD];rfl
variable {C:Addr}{s s1 s2 s':Hh}{M k:Int}{G:List Tl}{a3 a4 a5:Option D}{U:HX}{d:D}
section
variable {o n m:Nat}{R:List Tl}
noncomputable abbrev KP (C:Addr) (o:Nat) (e:Int) (stk:List (Str×Int)) (ks:List (!6)) (w h:Int) (sd R:List Tl) (s:Hh):Prop:=Kp C o (!3) e stk ks w h sd R s
def kG(c:Ctx (!3) e stk ks w h)(a:∀t∈sd,IQ w h ks.length t)(b:HC sd)(f:Ka e stk ks w h sd R):QQ (Jg h.toNat w.toNat) (sd++R)+(sd++R).length<=w.toNat*h.toNat:=by
 have f1:=c.fo.w0;have n:=c.fo.h0;have:=WA (ps:=Jg h.toNat w.toNat) (Lk b f) (λt d=>by obtain⟨x0,o,m,s,_,_⟩:=W8 a f t d;exact Qp x0 (by show t.1<_;omega) m (by show t.2.1<_;omega)) (sd++R).length (Ag _)
 rw[Rn,AR]at this;exact this
def rE{G:List Tl}(K:KP C o e stk ks w h sd R s)(a:Ng C [.ref o] s=some (.tup [],s1)):Pt C [some (.ref n),some (.ref o),some (.int M),a3,a4,a5] s=some (.nx [some (.ref n),some (.ref o),some (.int M),a3,some (.tup []),a5],s1):=by obtain⟨⟨s5,b,ld,c,F,Y,_,q,g⟩,j⟩:=K;have m:=LP (C:=C) (i:=1) (f:="growings") (g:=Ng C) (mm:=mZ) (U:=[some (.ref n),some (.ref o),some (.int M),a3,a4,a5]) rfl rfl q.ob;have d:=WN [] s1;have d:OP (.tup []) (.tup []) s1=some (.bl false,s1):=d;unfold Pt;refine Hy (U1:=[some (.ref n),some (.ref o),some (.int M),a3,some (.tup []),a5]) (s1:=s1) (by rw[MB,m];simp[a]) ?_;simp[d]
def uW{r x y:Int}{s3:Hh}(K:KP C o e stk ks w h sd R s)(a:KP C o e stk ks w h sd R s2)(b:Ng C [.ref o] s=some (.tup (G.map tD),s1))(c:G.isEmpty=false)(j:Io [.ref n,.int (G.length:Int)] s1=some (.int r,s2))(l:Hj (.tup<|G.map tD) (.int r) s2=some (.tup [.int x,.int y,.int k],s2))(p:Qu C [.ref o,.int x,.int y,.int k] s2=some (.non,s3)):
  Pt C [some (.ref n),some (.ref o),some (.int M),a3,a4,a5] s=some (.nx [some (.ref n),some (.ref o),some (.int M),a3,some (.tup<|G.map tD),some (.tup [.int x,.int y,.int k])],s3):=by
 obtain⟨⟨s5,Q,ld,S,F,Y,_,q,g⟩,T⟩:=K;obtain⟨⟨W,u,v,z,X,Z,_,A,g2⟩,B⟩:=a;have E:=LP (C:=C) (i:=1) (f:="growings") (g:=Ng C) (mm:=mZ) (U:=[some (.ref n),some (.ref o),some (.int M),a3,a4,a5]) rfl rfl q.ob;have H:=LP (C:=C) (i:=1) (f:="put") (g:=Qu C) (mm:=Hf (mB Hj (mV 5)<|mK<|.int 0) (Hf (mB Hj (mV 5)<|mK<|.int 1)<|Hf (mB Hj (mV 5)<|mK<|.int 2)<|mZ)) (U:=[some (.ref n),some (.ref o),some (.int M),a3,some (.tup<|G.map tD),some (.tup [.int x,.int y,.int k])]) rfl rfl A.ob;have m:=WN G s1;rw[c]at m;have I:HQ [.tup (G.map tD)] s1=some (.int (G.length:Int),s1):=by rw[Ny,Af]
 have J:∀s:Hh,Hj (.tup [.int x,.int y,.int k]) (.int 0) s=some (.int x,s):=λs=>IA (!1) rfl;have L:∀s:Hh,Hj (.tup [.int x,.int y,.int k]) (.int 1) s=some (.int y,s):=λs=>IA (!1) rfl;have N:∀s:Hh,Hj (.tup [.int x,.int y,.int k]) (.int 2) s=some (.int k,s):=λs=>IA (!1) rfl;unfold Pt;generalize G.map tD=d at *;refine Hy (U1:=[some (.ref n),some (.ref o),some (.int M),a3,some (.tup d),a5]) (s1:=s1) (by rw[MB,E];simp[b]) ?_;rw[Md];have P:mT (mB OP (mV 4)<|mU<|mZ) [some (.ref n),some (.ref o),some (.int M),a3,some (.tup d),a5] s1=some (true,s1):=by simp[m]
 rw[P,Ae,if_pos rfl];refine Hy (U1:=[some (.ref n),some (.ref o),some (.int M),a3,some (.tup d),some (.tup [.int x,.int y,.int k])]) (s1:=s2) (by simp[I,j,l]) ?_;rw[LF,H];simp[J,L,N,p]
def yE(c:Ctx (!3) e stk ks w h)(a:∀t∈sd,IQ w h ks.length t)(b:HC sd)(K:KP C o e stk ks w h sd R s)(l:HF n m s)(f:n<o)(hm:m<=1000000):
  ∃(x y:Option D) (g:List Tl) (s':Hh),Pt C [some (.ref n),some (.ref o),some (.int M),a3,a4,a5] s=some (.nx [some (.ref n),some (.ref o),some (.int M),a3,x,y],s')/\KP C o e stk ks w h sd g s'/\HF n (m+1) s'/\((g=R/\∀t,¬JE e stk ks w h (sd++R) t)\/∃t,g=R++[t]):=by
 obtain⟨G,s1,p,g1,hM,z,L⟩:=fO c a b K;cases i:G with
 |nil=>
  subst i;exact⟨_,_,R,s1,rE (G:=[]) K p,K.gr g1,(l.gr g1).up<|by omega,.inl ⟨rfl,z rfl⟩⟩
 |cons t0 N=>
  have j:G.isEmpty=false:=by rw[i];rfl
  have q:0<G.length:=by rw[i];simp
  obtain⟨r,s2,A,B,P,E,f2⟩:=Kb (many:=(G.length:Int)) (l.gr g1) hm (!0) (!0);have u:r.toNat<G.length:=by omega
  have d:=Ah u;have U:=Bj u;generalize G[r.toNat]=t at d U;have v:=(K.gr g1).fr f2 f;obtain⟨s3,F,H,I⟩:=pW c a b v<|hM t U;have J:Hj (.tup<|G.map tD) (.int r) s2=some (tD t,s2):=IA B (by rw[Az,d];rfl);exact⟨_,_,R++[t],s3,uW K v p j A J F,H,ZJ E I f,.inr ⟨t,rfl⟩⟩
def uX(c:Ctx (!3) e stk ks w h)(a:∀t∈sd,IQ w h ks.length t)(b:HC sd)(K:KP C o e stk ks w h sd R s)(v:HF n m s)(l:n<o)(hm:m<=900000):
  ∃(R':List Tl) (s':Hh),RK C [.ref n,.ref o,.int ((w.toNat*h.toNat:Nat):Int)] s=some (.bl true,s')/\KP C o e stk ks w h sd R' s'/\HF n (m+60) s'/\∀t,¬JE e stk ks w h (sd++R') t:=by
 have x:=Ro c.fo;have key:=Kw (W:=⟨run 0<|w.toNat*h.toNat,[]⟩) (g:=Ho 3) (m:=Pt C) (ds:=run 0 (w.toNat*h.toNat)) (U:=[some (.ref n),some (.ref o),some (.int ((w.toNat*h.toNat:Nat):Int)),none,none,none]) (st:=s)
  (Inv:=λi U s=>(∃a3 a4 a5,U=[some (.ref n),some (.ref o),some (.int ((w.toNat*h.toNat:Nat):Int)),a3,a4,a5])/\∃R',KP C o e stk ks w h sd R' s/\HF n (m+i) s/\(i<=R'.length\/∀t,¬JE e stk ks w h (sd++R') t))
  ⟨⟨_,_,_,rfl⟩,R,K,v,.inl<|A5 _⟩ (λ_ _ _ _ _=>rfl) (λi y U q p z=>by
   obtain⟨⟨a3,a4,a5,rfl⟩,R1,K1,j,hh⟩:=z;have P:i<w.toNat*h.toNat:=by have:=(KB.mp p).1;rw[Kx]at this;exact this
   obtain⟨Q,S,R2,s2,d,K2,A,B⟩:=yE (M:=((w.toNat*h.toNat:Nat):Int)) (a3:=some y) (a4:=a4) (a5:=a5) c a b K1 j l (!0);refine⟨_,q,_,s2,rfl,d,⟨_,_,_,rfl⟩,R2,K2,A,?_⟩
   rcases B with⟨rfl,hN⟩|⟨t,rfl⟩
   ·exact .inr hN
   ·rcases hh with hh|hh
    ·exact .inl (by rw[AB,Bm];omega)
    exact absurd (Rb (i:=R1.length) (t:=t) K2.row<|by simp) (by rw[GM];exact hh t))
 obtain⟨T,s1,E,⟨a3,a4,a5,rfl⟩,R1,K1,j,hh⟩:=key;rw[Kx]at j hh;have hN:∀t,¬JE e stk ks w h (sd++R1) t:=by
  rcases hh with hh|hh
  ·intro t u;have:=kG c a b K1.row;have:=Ul (V3 c.fo u) u.2.1;rw[AB]at *;omega
  exact hh
 obtain⟨G,s2,d,g2,H,_,X⟩:=fO c a b K1;have I:G=[]:=by
  cases G with
  |nil=>rfl
  |cons t L=>exact absurd (H t Al)<|hN t
 subst I;have r:=zP [] s2;have r:eqZ (.tup []) (.tup []) s2=some (.bl true,s2):=r;have d:Ng C [.ref o] s1=some (.tup [],s2):=d;refine⟨R1,s2,IW ?_,K1.gr g2,(j.gr g2).up<|by omega,hN⟩;obtain⟨⟨s5,Z,ld,rd,F,Y,_,q,g⟩,hr⟩:=K1;have J:=LP (C:=C) (i:=1) (f:="growings") (g:=Ng C) (mm:=mZ) (U:=[some (.ref n),some (.ref o),some (.int ((w.toNat*h.toNat:Nat):Int)),a3,a4,a5]) rfl rfl q.ob;unfold gX;refine Hy (U1:=[some (.ref n),some (.ref o),some (.int ((w.toNat*h.toNat:Nat):Int)),a3,a4,a5]) (s1:=s1) ?_ ?_
 ·have N:IG (mV 2) [some (.ref n),some (.ref o),some (.int ((w.toNat*h.toNat:Nat):Int)),none,none,none] s=some (⟨run 0<|w.toNat*h.toNat,[]⟩,s):=M9 rfl rfl (!0);show mF _ _ _ [some (.ref n),some (.ref o),some (.int ((w.toNat*h.toNat:Nat):Int)),none,none,none] s=_;rw[J0,N];exact E
 generalize ((w.toNat*h.toNat:Nat):Int)=M at *;rw[kL,Nt,J];simp[d,r]
theorem WI{g:MG}{L:MS}{Q:HX->Prop}(v:∀{t:D}{s s':Hh}{U:HX}{R:List Tl},Q U->KP C o e stk ks w h sd R s->OM C [.ref o] s=some (t,s')->L U s=some (.nx U,s'))(x:∀(d:D) (U:HX) (s:Hh),Q U->∃U1,g d U s=some (U1,s)/\Q U1)(c:Ctx (!3) e stk ks w h)(a:∀t∈sd,IQ w h ks.length t)(b:HC sd)(f:n<o):∀(r:Nat) (j:Nat) {R:List Tl}{U:HX}{s:Hh},Q U->KP C o e stk ks w h sd R s->HF n m s->r<=R.length ->
  ∃(i:HX) (s':Hh),JZ ⟨run 0<|j+r,[]⟩ g L ((run 0<|j+r).drop j) U s=some (.nx i,s')/\Q i/\KP C o e stk ks w h sd (R.take<|R.length-r) s'/\HF n m s'
 |0,j,R,U,s,p,K,q,l=>by refine⟨U,s,?_,p,by rw[Nat.sub_zero,AR];exact K,q⟩;rw[List.drop_of_length_le (by rw[Kx];omega)];unfold JZ;rfl
 |r+1,j,R,U,s,p,K,q,l=>by
  obtain⟨R0,t,rfl⟩:∃R0 t,R=R0++[t]:=by
   have G:R≠[]:=by intro z;rw[z]at l;simp at l
   exact⟨R.dropLast,R.getLast G,(List.dropLast_concat_getLast G).symm⟩
  rw[AB,Bm]at l;obtain⟨s1,A,B,E⟩:=oR c a b K;have F:j<(run 0<|j+(r+1)).length:=by rw[Kx];omega
  obtain⟨U1,H,M⟩:=x ((run 0<|j+(r+1))[j]) U s p;obtain⟨i,s',y,u,I,J⟩:=WI v x c a b f r (j+1) (R:=R0) (U:=U1) (s:=s1) M B (ZJ q E f) (!0);rw[show j+1+r=j+(r+1) by omega]at y;refine⟨i,s',?_,u,?_,J⟩
  ·rw[CY F,V2 rfl H (v M K A)];exact y
  rw[AB,Bm,show R0.length+1-(r+1)=R0.length-r by omega,List.take_append_of_le_length (!0)];exact I
def ZZ(hi:U[7]?=some (some<|.ref o))(K:KP C o e stk ks w h sd R s)(a:OM C [.ref o] s=some (d,s')):TM C U s=some (.nx U,s'):=by obtain⟨⟨s5,n,ld,G,F,Y,_,q,g⟩,M⟩:=K;have m:=LP (C:=C) (f:="back") (g:=OM C) (mm:=mZ) hi rfl q.ob;unfold TM;rw[LF,m];simp[a]
def Z0(hi:U[7]?=some (some<|.ref o))(K:KP C o e stk ks w h sd R s)(a:Ml C [.ref o] s=some (d,s')):TQ C U s=some (.nx U,s'):=by obtain⟨⟨s5,n,ld,G,F,Y,_,q,g⟩,M⟩:=K;have m:=LP (C:=C) (f:="on") (g:=Ml C) (mm:=mZ) hi rfl q.ob;unfold TQ;rw[LF,m];simp[a]
section
variable {A0 A1 BB EE MM SS a8 a9:D}{b:Bool}{v8 v9:Option D}
def vF(K:KP C o e stk ks w h sd R s1)(a:RK C [.ref n,.ref o,MM] s=some (.bl true,s1))(c:b=true->Mn C [.ref o] s1=some (EE,s2)/\JT EE EE s2=some (.bl false,s2))(h0:b=false->s2=s1):
  Jf (L4 (Me<|mT<|Hr (RK C)<|Hf (mV 2)<|Hf (mV 7)<|Hf (mV 5)<|mZ)<|LB (Kg<|mV 6)<|mT<|mB JT (Jz C "standing" (Mn C) (mV 7) mZ)<|mV 4) (mR<|mK<|.bl false) Jm [some A0,some A1,some (.ref n),some BB,some EE,some MM,some (.bl b),some (.ref o),v8,v9] s=some (.nx [some A0,some A1,some (.ref n),some BB,some EE,some MM,some (.bl b),some (.ref o),v8,v9],s2):=by
 obtain⟨⟨s5,M,ld,j,F,Y,_,q,g⟩,l⟩:=K;have d:=LP (C:=C) (i:=7) (f:="standing") (g:=Mn C) (mm:=mZ) (U:=[some A0,some A1,some (.ref n),some BB,some EE,some MM,some (.bl b),some (.ref o),v8,v9]) rfl rfl q.ob;cases b with
 |true=>
  obtain⟨m,G⟩:=c rfl;simp[a,Qe,KH,d,m,G]
 |false=>
  have:=h0 rfl;subst this;simp[a,Qe,KH]
def zj1(c:Ctx (!3) e stk ks w h)(j:∀t∈sd,IQ w h ks.length t)(a:HC sd)(K:KP C o e stk ks w h sd R s)(H:HF n m s)(l:n<o)(hm:m<=900000)(y:EE=HU (HI<|sd++HE e stk ks w h sd (w.toNat*h.toNat)))(I:MM=.int ((w.toNat*h.toNat:Nat):Int))(J:b=true->∀t∈HI (sd++HE e stk ks w h sd (w.toNat*h.toNat)),Qa e stk ks w h sd (HI<|sd++HE e stk ks w h sd (w.toNat*h.toNat)) t):
  ∃(p:Option D) (N:List Tl) (s':Hh),TN C [some A0,some A1,some (.ref n),some BB,some EE,some MM,some (.bl b),some (.ref o),v8,v9] s=some (.nx [some A0,some A1,some (.ref n),some BB,some EE,some MM,some (.bl b),some (.ref o),v8,p],s')/\KP C o e stk ks w h sd N s'/\HF n (m+100) s':=by
 obtain⟨R1,s1,A,K1,P,W⟩:=uX c j a K H l hm;rw[<-I]at A;have len:=Pa c.fo (Lk a K1.row)<|W8 j K1.row;have G:Ka e stk ks w h sd (HE e stk ks w h sd<|w.toNat*h.toNat):=T4 c.fo _;have u:=aT (e:=e) (stk:=stk) (ks:=ks) (w:=w) (h:=h) (S:=sd) c.fo;have fin:∃s2,Gr s1 s2/\(b=true->Mn C [.ref o] s1=some (EE,s2)/\JT EE EE s2=some (.bl false,s2))/\(b=false->s2=s1):=by
  cases b with
  |false=>exact⟨s1,Gr.refl _,(λz=>by cases z),λ_=>rfl⟩
  |true=>
   obtain⟨s2,B,g2⟩:=VJ K1 (!0);rw[zlC (T:=HI (sd++HE e stk ks w h sd (w.toNat*h.toNat))) c a G (nQ c u) (λt=>(KZ _).mem_iff) (J rfl) K1.row W,<-y]at B;exact⟨s2,g2,(λ_=>⟨B,by rw[y];exact WE _ _⟩),λz=>by cases z⟩
 obtain⟨s2,g2,f1,f2⟩:=fin;have X:=vF (A0:=A0) (A1:=A1) (BB:=BB) (v8:=v8) (v9:=v9) K1 A f1 f2;have K2:=K1.gr g2;have Z:=V9 K2;have rl:R1.length<=60:=by rw[AB]at len;omega
 obtain⟨r,s3,e3,r0,r1,p3,f3⟩:=Kb (many:=(R1.length:Int)+1) (P.gr g2) (!0) (!0) (!0);have K3:=K2.fr f3 l;obtain⟨r,rfl⟩:=El r0;obtain⟨U',s4,E,⟨p,rfl⟩,K4,p4⟩:=WI (g:=Ho 9) (L:=TM C) (Q:=λU=>∃v,U=[some A0,some A1,some (.ref n),some BB,some EE,some MM,some (.bl b),some (.ref o),v8,v]) (λ{t s s' U R} G K e=>by
   obtain⟨v,rfl⟩:=G;exact ZZ rfl K e) (λd U s G=>by
   obtain⟨v,rfl⟩:=G;exact⟨_,rfl,_,rfl⟩) c j a l r 0 (U:=[some A0,some A1,some (.ref n),some BB,some EE,some MM,some (.bl b),some (.ref o),v8,v9]) ⟨_,rfl⟩ K3 p3 (!0)
 rw[Nat.zero_add,DK]at E;refine⟨p,_,s4,?_,K4,p4.up<|by omega⟩;obtain⟨⟨s5,kd,ld,rd,F,Y,_,q,g⟩,hr⟩:=K2;have m1:=LP (C:=C) (i:=7) (f:="row") (g:=Mi C) (mm:=mZ) (U:=[some A0,some A1,some (.ref n),some BB,some EE,some MM,some (.bl b),some (.ref o),v8,v9]) rfl rfl q.ob;have x:HQ [.tup (R1.map tD)] s2=some (.int (R1.length:Int),s2):=by rw[Ny,Af]
 unfold TN;refine Hy X ?_;have ew:IG (Hr Io<|Hf (mV 2)<|Hf (mB Hz (Hr HQ<|Hf (Jz C "row" (Mi C) (mV 7) mZ)<|mZ)<|mK<|.int 1)<|mZ) [some A0,some A1,some (.ref n),some BB,some EE,some MM,some (.bl b),some (.ref o),v8,v9] s2=some (⟨run 0 r,[]⟩,s3):=by refine M9 (s1:=s3) (k:=r) (M:=(r:Int)) rfl ?_ (!0);have ar:Hz (.int (R1.length:Int)) (.int 1) s2=some (.int ((R1.length:Int)+1),s2):=rfl;generalize R1.map tD=RR at *;generalize (r:Int)=rr at *;simp[m1,Z,x,ar,e3]
 rw[J0,ew];exact E
end
end
def wF{ns:List Int}{a2 a6 a7 a8 a9:Option D}(h0:0<=k)(h1:k<=1000):
  ∃(b2 b3 b4 b5 b6 b7 u z:Option D) (s':Hh),TR C [some (.kl (!7)),some (.int k),a2,a3,a4,a5,a6,a7,a8,a9] s=some (.nx [some (.kl (!7)),some (.int k),b2,b3,b4,b5,b6,b7,u,z],s'):=by
 obtain⟨s1,e1,p1,g1⟩:=vK (ns:=ns) (k:=k) (st:=s) h0 h1;generalize hn:s.length=n at *;obtain⟨e,stk,ks,w,h,sd,s2,e2,hs,hf,p,⟨l,hsl,ndl⟩,lsd,p2,f2⟩:=oU p1 (!0);have A:HC sd:=by rw[hsl];exact qQ (KZ l) ndl
 have c:Ctx (!3) e stk ks w h:=kO hs hf;have w0:=hf.w0;have w1:=hf.w1;have w2:=hf.h1;have w3:=hf.h0;have h60:=Ro hf;obtain⟨s3,e3,g3⟩:=zN (st:=s2) c p A lsd;have v:=WT (e:=e) (stk:=stk) (ks:=ks) c.fo p (w.toNat*h.toNat);have E:=Pa c.fo (Tv (e:=e) (stk:=stk) (ks:=ks) c.fo A (w.toNat*h.toNat)) v;obtain⟨b,s4,e4,g4,hb⟩:=zkI (T:=HI (sd++HE e stk ks w h sd (w.toNat*h.toNat))) (st:=s3) c A p lsd (zlG v) (by rw[(KZ _).length_eq];exact E);have p4:=(p2.gr g3).gr g4;obtain⟨s5,kd,ld,rd,F,Y,s6,e6,hord,q6,gd6,_⟩:=ZU (C:=C) (st:=s4) c p A (!0);have H:n<s4.length:=p4.lt;have K6:KP C s4.length e stk ks w h sd [] s6:=⟨⟨s5,kd,ld,rd,F,Y,hord.2,by rw[An];exact q6.base,by rw[An];exact gd6⟩,trivial⟩
 have p6:=p4.gr q6.fr;generalize ho:s4.length=o at *;obtain⟨r,s7,e7,r0,r1,p7,f7⟩:=Kb (many:=3) p6 (!0) (!1) (!1);have K7:=K6.fr f7 H;obtain⟨r,rfl⟩:=El r0;have eM:(w*h:Int)=((w.toNat*h.toNat:Nat):Int):=by rw[Et,AQ (!0),AQ (!0)]
 generalize hEE:HU (HI (sd++HE e stk ks w h sd (w.toNat*h.toNat)))=EE at *;generalize I:D.int ((w.toNat*h.toNat:Nat):Int)=a at *;have key:=Kw (W:=⟨run 0 (1+r),[]⟩) (g:=Ho 8) (m:=TN C) (ds:=run 0 (1+r)) (U:=[some (.kl (!7)),some (.int k),some (.ref n),some (!3),some EE,some a,some (.bl b),some (.ref o),a8,a9]) (st:=s7)
  (Inv:=λi U q=>(∃u z,U=[some (.kl (!7)),some (.int k),some (.ref n),some (!3),some EE,some a,some (.bl b),some (.ref o),u,z])/\∃R,KP C o e stk ks w h sd R q/\HF n (0+400+1+i*100) q)
  ⟨⟨_,_,rfl⟩,[],K7,p7.up (!0)⟩ (λ_ _ _ _ _=>rfl) (λi dd U q hdd hI=>by
   obtain⟨⟨u,z,rfl⟩,R,X,pq⟩:=hI;have hi:i<1+r:=by have:=(KB.mp hdd).1;rw[Kx]at this;exact this
   obtain⟨G,R',s',e',K',p'⟩:=zj1 (A0:=.kl (!7)) (A1:=.int k) (BB:=Hu e stk ks w h sd) (v8:=some dd) (v9:=z) c p A X pq H (!0) hEE.symm I.symm hb;exact⟨_,q,_,s',rfl,e',⟨_,_,rfl⟩,R',K',p'.up (!0)⟩)
 obtain⟨U',Z,el8,⟨u,z,rfl⟩,R8,K8,p8⟩:=key;obtain⟨U',s9,el9,⟨G,rfl⟩,K9,p9⟩:=WI (g:=Ho 9) (L:=aE C) (Q:=λU=>∃x9,U=[some (.kl (!7)),some (.int k),some (.ref n),some (!3),some EE,some a,some (.bl b),some (.ref o),u,x9]) (λ{t s s' U R} hQ K e=>by
   obtain⟨x9,rfl⟩:=hQ;exact ZZ rfl K e) (λd U s hQ=>by
   obtain⟨x9,rfl⟩:=hQ;exact⟨_,rfl,_,rfl⟩) c p A H R8.length 0 (U:=[some (.kl (!7)),some (.int k),some (.ref n),some (!3),some EE,some a,some (.bl b),some (.ref o),u,z]) ⟨_,rfl⟩ K8 p8 (Ag _)
 rw[Nat.zero_add,DK]at el9;rw[C8,List.take_zero]at K9;obtain⟨j,e10,g10⟩:=VJ K9 (by rw[An];omega);have es:HI (sd++[])=sd:=by rw[An,hsl];exact OJ (KZ l)
 rw[es]at e10;have J:=K9.gr g10;have x:=V9 J;have p10:=p9.gr g10;have key:=Kw (W:=⟨run 0 (w.toNat*h.toNat),[]⟩) (g:=Ho 8) (m:=TQ C) (ds:=run 0 (w.toNat*h.toNat)) (U:=[some (.kl (!7)),some (.int k),some (.ref n),some (!3),some EE,some a,some (.bl b),some (.ref o),u,G]) (st:=j)
  (Inv:=λi U q=>(∃u,U=[some (.kl (!7)),some (.int k),some (.ref n),some (!3),some EE,some a,some (.bl b),some (.ref o),u,G])/\KP C o e stk ks w h sd (HE e stk ks w h sd i) q)
  ⟨⟨_,rfl⟩,J⟩ (λ_ _ _ _ _=>rfl) (λi dd U q hdd hI=>by
   obtain⟨⟨x8,rfl⟩,X⟩:=hI;rcases Z9 c p A X with⟨hx,N⟩|⟨t,s',hx,N,K',_⟩
   ·refine⟨_,q,_,q,rfl,Z0 rfl X N,⟨_,rfl⟩,?_⟩;have:=Wo hx 1;rw[this];exact X
   refine⟨_,q,_,s',rfl,Z0 rfl X N,⟨_,rfl⟩,?_⟩;rw[Wq hx];exact K')
 obtain⟨U',P,el11,⟨c8,rfl⟩,B⟩:=key;rw[Kx]at B;have hxE:=aT (e:=e) (stk:=stk) (ks:=ks) (w:=w) (h:=h) (S:=sd) hf;have N:Ml C [.ref o] P=some (.non,P):=by
  rcases Z9 c p A B with⟨_,N⟩|⟨t,s',hx,_⟩
  ·exact N
  rw[hxE]at hx;cases hx
 obtain⟨s12,e12,g12⟩:=VJ B (!0);have nE:=WE (HI (sd++HE e stk ks w h sd (w.toNat*h.toNat))) s12;rw[hEE]at e12 nE;have nS:=WE sd j;have nz:=WN [] j;have nz:OP (.tup []) (.tup []) j=some (.bl false,j):=nz;have x:Mi C [.ref o] j=some (.tup [],j):=x;have x2:∀s:Hh,Hj (!3) (.int 2) s=some (HU sd,s):=λs=>IA (!1) rfl;have cf:=c.fl;have j0:∀st:Hh,Hj (.tup [.int w,.int h]) (.int 0) st=some (.int w,st):=λ_=>IA (!1) rfl;have j1:∀st:Hh,Hj (.tup [.int w,.int h]) (.int 1) st=some (.int h,st):=λ_=>IA (!1) rfl;have em:∀st:Hh,HS (.int w) (.int h) st=some (a,st):=λ_=>by rw[<-I,<-eM];exact mul_int (!0)
 have lr8:HQ [.tup (R8.map tD)] Z=some (.int (R8.length:Int),Z):=by rw[Ny,Af]
 have er8:=V9 K8;have l8:R8.length<=60:=by have:=Pa hf (Lk A K8.row) (W8 p K8.row);rw[AB]at this;omega
 obtain⟨⟨_,_,_,_,_,_,_,q8,_⟩,_⟩:=K8;obtain⟨⟨_,_,_,_,_,_,_,q9,_⟩,_⟩:=K9;obtain⟨⟨_,_,_,_,_,_,_,q10,_⟩,_⟩:=J;obtain⟨⟨_,_,_,_,_,_,_,q11,_⟩,_⟩:=B;have iF:IG (mB Hz (mK (.int 1)) (Hr Io (Hf (mV 2) (Hf (mK (.int 3)) mZ)))) [some (.kl (!7)),some (.int k),some (.ref n),some (!3),some EE,some a,some (.bl b),some (.ref o),a8,a9] s6=some (⟨run 0 (1+r),[]⟩,s7):=by refine M9 (s1:=s7) (k:=1+r) (M:=1+(r:Int)) (!0) ?_ (!0);have ar:∀q:Hh,Hz (.int 1) (.int (r:Int)) q=some (.int (1+(r:Int)),q):=λq=>rfl;generalize ns.map D.int=y at *;generalize Hu e stk ks w h sd=bed at *;have e7:Io [.ref n,.int 3] s6=some (.int (r:Int),s7):=e7;generalize (r:Int)=rr at *;simp[e7,ar]
 have er9:IG (Hr HQ (Hf (Jz C "row" (Mi C) (mV 7) mZ) mZ)) [some (.kl (!7)),some (.int k),some (.ref n),some (!3),some EE,some a,some (.bl b),some (.ref o),u,z] Z=some (⟨run 0 R8.length,[]⟩,Z):=by refine M9 (s1:=Z) (k:=R8.length) (M:=(R8.length:Int)) rfl ?_ (!0);have m1:=LP (C:=C) (i:=7) (f:="row") (g:=Mi C) (mm:=mZ) (U:=[some (.kl (!7)),some (.int k),some (.ref n),some (!3),some EE,some a,some (.bl b),some (.ref o),u,z]) rfl rfl q8.ob;rw[aF,VX,m1];generalize ns.map D.int=y at *;generalize R8.map tD=RR at *;simp[er8,lr8]
 have erM:IG (mV 5) [some (.kl (!7)),some (.int k),some (.ref n),some (!3),some EE,some a,some (.bl b),some (.ref o),u,G] j=some (⟨run 0 (w.toNat*h.toNat),[]⟩,j):=by rw[<-I];exact M9 rfl rfl (!0)
 have m9:=LP (C:=C) (i:=7) (f:="standing") (g:=Mn C) (mm:=mZ) (U:=[some (.kl (!7)),some (.int k),some (.ref n),some (!3),some EE,some a,some (.bl b),some (.ref o),u,G]) rfl rfl q9.ob;have m10:=LP (C:=C) (i:=7) (f:="row") (g:=Mi C) (mm:=mZ) (U:=[some (.kl (!7)),some (.int k),some (.ref n),some (!3),some EE,some a,some (.bl b),some (.ref o),u,G]) rfl rfl q10.ob;have m11:=LP (C:=C) (i:=7) (f:="on") (g:=Ml C) (mm:=mZ) (U:=[some (.kl (!7)),some (.int k),some (.ref n),some (!3),some EE,some a,some (.bl b),some (.ref o),c8,G]) rfl rfl q11.ob;have m12:=LP (C:=C) (i:=7) (f:="standing") (g:=Mn C) (mm:=mZ) (U:=[some (.kl (!7)),some (.int k),some (.ref n),some (!3),some EE,some a,some (.bl b),some (.ref o),c8,G]) rfl rfl q11.ob;have emk:∀U:HX,U[3]?=some (some (!3))->QL C (UJ C) (Hf (mV 3) mZ) U s4=some (.ref o,s6):=λU hU=>by unfold QL;simp only[VX,QX,hU,Ae,Zl,ho,e6]
 refine⟨some (.ref n),some (!3),some EE,some a,some (.bl b),some (.ref o),c8,G,s12,?_⟩;generalize HU sd=SS at *;exists 16;generalize ns.map D.int=y at *;unfold TR;refine Hy (U1:=[some (.kl y),some (.int k),some (.ref n),a3,a4,a5,a6,a7,a8,a9]) (s1:=s1) (by simp[e1]) ?_;refine Hy (U1:=[some (.kl y),some (.int k),some (.ref n),some bed,a4,a5,a6,a7,a8,a9]) (s1:=s2) (by simp[e2]) ?_;refine Hy (U1:=[some (.kl y),some (.int k),some (.ref n),some bed,some EE,some a,a6,a7,a8,a9]) (s1:=s3) (by simp[e3,cf,j0,j1,em]) ?_;refine Hy (U1:=[some (.kl y),some (.int k),some (.ref n),some bed,some EE,some a,some (.bl b),a7,a8,a9]) (s1:=s4) (by simp[e4]) ?_;refine Hy (U1:=[some (.kl y),some (.int k),some (.ref n),some bed,some EE,some a,some (.bl b),some (.ref o),a8,a9]) (s1:=s6) (by rw[MB,emk _ rfl];rfl) ?_;refine Hy (U1:=[some (.kl y),some (.int k),some (.ref n),some bed,some EE,some a,some (.bl b),some (.ref o),u,z]) (s1:=Z) (by rw[J0,iF];exact el8) ?_;refine Hy (U1:=[some (.kl y),some (.int k),some (.ref n),some bed,some EE,some a,some (.bl b),some (.ref o),u,G]) (s1:=s9) (by rw[J0,er9];exact el9) ?_;refine Hy (U1:=[some (.kl y),some (.int k),some (.ref n),some bed,some EE,some a,some (.bl b),some (.ref o),u,G]) (s1:=j) ?_ ?_
 ·rw[Md,Zm,Vy,Nt,m9];simp[e10,x2,nS,m10,x,nz]
 refine Hy (U1:=[some (.kl y),some (.int k),some (.ref n),some bed,some EE,some a,some (.bl b),some (.ref o),c8,G]) (s1:=P) (by rw[J0,erM];exact el11) ?_;have nn:∀q:Hh,Vm .non .non q=some (.bl false,q):=λq=>rfl;rw[Md,Zm,Vy,Nt,m11];simp[N,nn,m12,e12,nE]
def xF(ns:List Int)(v:ns.length<=63):∃st,Va C [.kl (!7)] []=some (.bl true,st):=by
 obtain⟨M,o,p⟩:∃M:Nat,(1+(if(ns.length:Int)<3 then(ns.length:Int)else 3))=(M:Int)/\M<=4:=by
  by_cases h:(ns.length:Int)<3
  ·exact⟨1+ns.length,by rw[if_pos h];omega,by omega⟩
  exact⟨4,by rw[if_neg h];rfl,by omega⟩
 have key:=Kw (W:=⟨run 0 M,[]⟩) (g:=Ho 1) (m:=TR C) (ds:=run 0 M) (U:=[some (.kl<|ns.map D.int),none,none,none,none,none,none,none,none,none]) (st:=[])
  (Inv:=λi U s=>∃a b c d e f g h i,U=[some (.kl<|ns.map D.int),a,b,c,d,e,f,g,h,i]) ⟨_,_,_,_,_,_,_,_,_,rfl⟩ (λ_ _ _ _ _=>rfl) (λi x U s hd q=>by obtain⟨a1,a2,a3,a4,a5,w,G,j,l,rfl⟩:=q;obtain⟨y,rfl⟩:=Mx hd;obtain⟨z,A,B,E,F,H,I,J,s',e⟩:=wF (C:=C) (ns:=ns) (k:=(i:Int)) (a2:=a2) (a3:=a3) (a4:=a4) (a5:=a5) (a6:=w) (a7:=G) (a8:=j) (a9:=l) (s:=s) (!0) (!0);exact⟨[some (.kl<|ns.map D.int),some (.int (i:Int)),a2,a3,a4,a5,w,G,j,l],s,_,s',rfl,e,_,_,_,_,_,_,_,_,_,rfl⟩)
 obtain⟨L,s2,r,a1,a2,a3,a4,a5,w,G,j,l,rfl⟩:=key;refine⟨s2,IW ?_⟩;unfold YU;have n:HQ [.kl (!7)] []=some (.int (ns.length:Int),[]):=by rw[VL,Af]
 have u:IG (mB Hz (mK<|.int 1)<|Hr QN<|Hf (mK<|.int 3)<|Hf (Hr HQ<|Hf (mV 0)<|mZ)<|mZ) [some (.kl<|ns.map D.int),none,none,none,none,none,none,none,none,none] []=some (⟨run 0 M,[]⟩,[]):=by refine M9 (s1:=[]) (k:=M) o ?_ (!0);generalize ns.map D.int=N at *;generalize (ns.length:Int)=K at *;simp[n,QN]
 refine Hy (U1:=[some (.kl<|ns.map D.int),a1,a2,a3,a4,a5,w,G,j,l]) (s1:=s2) (by
  show mF _ _ _ [some (.kl<|ns.map D.int),none,none,none,none,none,none,none,none,none] []=_;rw[J0,u];exact r) ?_
 simp
end L2.MP.T0
namespace L2.MP.T0
open PySem L2 L2.MP PySem.Spec PyProof.Rows PySem.W
noncomputable abbrev hk:=Hx.OT fns QI cos "Grow" LN QF
end L2.MP.T0
open PySem PySem.W PyProof.Rows L2 L2.MP L2.MP.T0 in
set_option maxRecDepth 100000 in
set_option maxHeartbeats 0 in
theorem PySem.Challenge.cw_stickytiles_k43_begun_anew_holds : PySem.Challenge.rw_stickytiles_k43_begun_anew.Holds := by
 refine holds_law (by decide +kernel) λb=>?_;refine holds_open (q:=vw) (loose:=[]) (XP:=XL vw []) (YP:=hk.says) sF hk.of hk.keeps (λs e=>xl_of s (Bool.and_eq_true_iff.mp e).1) XL.keeps (by rfl) (by rfl) (by rfl) (λs e=>recFacts_of (Bool.and_eq_true_iff.mp e).2) (by rfl) b (by decide +kernel) ⟨rfl,rfl,rfl,rfl,rfl,by decide +kernel⟩ ?hw ?hc
 case hw=>w_witness2
 case hc=>
  refine Hx.LX (l:=PySem.Challenge.rw_stickytiles_k43_begun_anew) (n:=63) (k:=8) (x:="_law_script") (CX:=KA) (sp:=λK C=>MK K 1 (Va C)) rfl (!1) rfl ⟨rfl,by decide,by decide,rfl⟩ (λK C w m o h A B X G e=>?_) (λK C H a ns d g j=>(xF (C:=C) ns d).elim λ_ e=>xI g j e) λ_ _ _ _ z=>z;obtain⟨f,⟨p,r,kV,u,pm,an,cd,y,E,l,c⟩,n,k⟩:=A.fn ("law",top 39) (AF (i:=27) rfl)
  cases e.symm.trans (mg_of X G n);exact⟨_,λs v=>.of_eq rfl,λbase _ _=>kW (En.of A X G) (EC.of B X G) (Pb (st:=top 39) l c k)⟩