import PyProof.Rows.All
import Wide.All
import Wide.FinOn
import PyProof.EqAt
import PyProof.EqKinds
import PyProof.TupleCall
import PyProof.AttrMissHeap
import PyProof.StrWalks
import PyProof.EnumMake
import PyProof.FitsBits
import PyProof.CallStr
import PyProof.StrCalls
import PyProof.RulesTry
import PyProof.Rows.RuleIs
import PyProof.DictTruth
import PyProof.MinMaxWalk
import PyProof.FactsAll.tuple_2
import PyProof.WalkInts
import PyProof.WalksMore
import PyProof.SetScanFacts
import PyProof.Draws
import PyProof.TupleKey
import PyProof.IsRules
import PyProof.FString5
import PyProof.NeKinds
import PyProof.FactsAll.dict_2
import PyProof.ExcClass3
import PyProof.InstStoreFacts
import PyProof.RulesAs
import PyProof.AssignAttr
import PyProof.ExcArgs
import PyProof.NsDelKeeps
import PyProof.StrLawsIn
import PyProof.StrLawsChain
import PyProof.Rows.StrIntSpec
import PyProof.StrLawsTight
import PyProof.Rows.ReprOcc
import PyProof.ExcBaseAll.ValueError
import PyProof.Rows.StrSplitAre
import KE.IntText
import KE.IntTextLaws
import KE.IntTextText
import KE.KDictOf
import KE.KIntText
import KE.KIsAll
import KE.KItem
import KE.KPairComp
import KE.KSortAsk
import KE.KSortTup
import KE.KTryMore
import KE.KUnpack
import KE.KxText
import OpenK.KCall
import OpenK.KDescr
import OpenK.KDict
import OpenK.KFacts
import OpenK.KGet
import OpenK.KLine
import OpenK.KList
import OpenK.KMake
import OpenK.KNot
import OpenK.KOps
import OpenK.KRaise
import OpenK.KWalk
import OpenK.Peek
import PySem.Challenge.RW_stickytiles_k79_no_texts_and_cut_ones
set_option maxHeartbeats 8000000
set_option maxRecDepth 100000
open Option renaming bind_some→Aa,map_some→Aj,isNone_none→DL,isSome_map→DR,getD_some→D6,isSome_some→Fk,getD_none→FT,map_none→Ge,bind→GH
open PySem renaming wpAny_bind→Ab,wpAny_pure→Ae,wpAny_field→AR,mem_of_lookup→AW,wpAny_newObj_type→A2,wpAny_mono→A6,wpAny_setField_rec→Be,wpAny_holding→Bf,wpAny_callSpecial?_slot→Bk,wpAny_call_entry→Bp,wpAny_truthy_bool→Bq,wpAny_loadPart_at→Bw,wpAny_standAt→BC,wpAny_setField→BI,wpAny_typeNameOfWhole_itemiter→BN,wpAny_seqItems→BV,wpAny_Call_Name_kw→BX,wpAny_passesOwn→B1,wpAny_getItem_str_slice→Ca,wpAny_execs_nil→Cd,sizeLine_eq→Cm,wpAny_typeOf→Cv,post_val_or_str→CK,tupleKind_room_in1→CO,wpAny_rule→CY,intText?→C1,wpAny_pyNext_list_item→C5,wpAny_isOneOf_itemiter→C7,wpAny_attempt→C8,plainId_quiet→C9,wpAny_pyNext_list_end→Dg,wpAny_notOrdered_dict→Dh,builtinLookup_eq_fast→Di,codeAny_mono→Dl,wpAny_loadPart'→Dm,typeIs_str→Do,call_meets→Dp,pushCells_keeps→Dr,wpAny_updateSeq_pair→Du,codeAny_builtin→Dv,length_partsBetween→DB,wpAny_isSubtype_exc→DC,wpAny_onRaise→DO,wpAny_pyIter_list→DQ,wpAny_dictEntries→DV,wpAny_call→DW,wpAny_execs_cons→D0,wpAny_pyNext_tuple_item→Eb,wpAny_dictEpoch→Ek,typeLookup_type→Em,wpAny_pyNext_tuple_end→Ep,richCompare_meets_room→Es,wpAny_letGo→EA,wpAny_isTrue_Compare1→EH,wpAny_newTuple→EK,wpAny_loadName_local→EO,codeAny_call_builtin→ET,wpAny_loadName_cell→EY,wpAny_Tuple_spliced→EZ,wpAny_dictSet_pairs→Fe,seqIndex_neg→Fp,sub_AttributeError→Ft,wpAny_entryPlaceOf→Fv,wpAny_assign_Name→Fz,wpAny_Assign_Name→FB,wpAny_sequenceKey→FE,wpAny_pyIter_enum→FJ,wpAny_frameOf_fun→FN,seqIndex_of→FQ,wpAny_Name→F5,call→F7
open PySem.W renaming Frag→Ac,keepIn→BH,fnOf→BY,codeIn→CZ,callWith_K→DJ,KitAt→DN,methodObj→DP,kitx_dict→DU,cellsFrom_some→Er,nsIn→Fq,kitx_list→FH,kas_ask→Gc,lookIn→Gf,kitOne→Gh
open PySem.Heap renaming get?_push_of_some→Ad,lt_size→An,get?_push_size→Aq,get?_update_other→AO,get?_update_self→Bg,size_push→Bu,SameBut→By,get?_none_of_le→Dk,ExtBut→EB,get?_update_ne→Ff,get?_push_at→FM,size_update→FZ,MadeExcOf→Gi
open List renaming length_map→Af,getElem?_cons_zero→Ai,mem_cons_of_mem→Ak,mem_cons_self→Al,append_nil→Am,append_assoc→Ao,map_cons→Au,getElem?_eq_getElem→Av,size_toArray→Az,length_cons→AB,getElem?_cons_succ→AD,getElem?_set_ne→AE,length_append→AF,getElem?_map→AJ,mem_of_getElem?→AK,getElem?_append_left→AL,length_take→AN,getD_eq_getElem?_getD→AQ,getElem?_append_right→AU,mem_append_right→AV,range→AZ,length_nil→A1,replicate→A3,lookup_cons→A9,eq_nil_of_length_eq_zero→Ba,mem_of_mem_take→Bc,find?_cons→Bl,mem_cons→Br,map_append→Bt,map_take→BF,not_mem_nil→BG,mem_append_left→BL,map_nil→BM,map_map→BO,length_drop→BQ,all_eq_true→BS,take_length→B4,filterMap_cons→B7,getElem?_replicate→B8,pairwise_mergeSort→B9,any_cons→Cb,zip_cons_cons→Cg,length_set→Ci,getElem?_set_self→Ck,take_sublist→Cp,length_replicate→Ct,length_singleton→Cw,getElem_of_mem→CG,mergeSort_perm→CH,mem_map_of_mem→CJ,nil_append→CN,toArray→CT,forIn_nil→C0,getElem?_set→C4,getElem_mem→De,cons_append→Df,eq_nil_or_concat→Dj,mem_of_mem_drop→Dx,map_congr_left→DA,take_succ_cons→DE,drop_zero→DF,length→DG,contains_cons→DM,nodup_append→DS,length_range→DT,drop_eq_getElem_cons→DX,isEmpty_map→D9,of_mem_zip→Ef,forIn_cons→Eh,zipIdx_nil→El,mem_append→Eo,drop_eq_nil_of_le→Ey,lookup→EC,getElem?_toArray→EI,countP_mono_left→EJ,mem_of_getLast?→EV,all_cons→EW,getElem?_range→Fc,takeWhile_cons→Fh,zip_nil_right→Fn,mem_singleton→Fy,zip_nil_left→FD,take_add_one→FI,map_id→FR,countP_cons→FW,ext_getElem→FX,getElem_map→FY,zipIdx_cons→F1,take_append→F3,nodup_cons→F8,nodup_nil→Gg,sum_cons→Gq,all_nil→Gy,all_map→GA,mem_map→GB
open Bool renaming and_eq_true→Ag,false_eq_true→AG,eq_iff_iff→A8,false_ne_true→Bd,not_eq_true'→Bv,true_and→BE,or_eq_true→Cj,false_and→Cs,not_false→C2,not_true→Da,true_or→D2,not_not→Fx,and_false→Gj,false_or→Gn,or_false→Gp,and_self→Gu,or_true→GC
open Nat renaming le_refl→Ah,le_trans→Ar,ne_of_lt→Aw,lt_of_lt_of_le→Ay,ne_of_gt→A0,lt_irrefl→A4,le_succ→Bj,zero_le→Bo,le_add_right→BU,lt_of_le_of_lt→BZ,le_of_succ_le→B2,le_of_lt→B3,lt_trans→Cu,mul_le_mul_right→CD,sub_self→CP,toDigits→CV,succ_le_succ→Dc,le_of_eq→Dq,add_le_add_left→Dy,min_le_right→D5,mul_le_mul_left→Fg,lt_succ_of_lt→FG,le_of_not_lt→FU,lt_succ_self→FV,min_le_left→F9,not_lt_zero→Gb,digitChar→Gs
open PySem.PyData renaming strOk→Ap,eqv→Bb,canLay0→BR,canLayAll0→Cq,str→CB,depth→CQ,depthAll→Ei,eqvAll→EX
open Option.some renaming inj→As
open PySem.Value renaming ref→Ax,none→AH,builtin→Cc,bool→CA,int→Ee,notImplemented→ER,str→Gk,isStrOf→Gm,isInt→GD
open Array renaming length_toList→AA,getD_eq_getD_getElem?→B0,getElem?_toList→Cy,all_eq_true'→DK,contains_toList→EN,toList_extract→EU,append_assoc→Fi,mk→FS,toList→Gw
open PySem.NameKind renaming free→AI,cell→AX
open List.cons renaming inj→AM
open PySem.Str renaming length_append→AS,ofString→Bm,join→B5,empty→Ej,mk→Gz
open PySem.Obj renaming mapFields→AY,isFreed_of_fields→Bs,data_mapFields→BJ,mapSeq→BW
open PySem.StrLaws renaming glued_eq_join→A5,occ_length_le→EM,join_split→Fw,found_one→FP
open Ne renaming symm→A7
open Prod.mk renaming inj→Bi
open Or renaming inr→Bx,inl→Bz
open PyProof.Rows renaming callWith_type1→BA,slot_tuple_getitem→BK,mem_join→Cz,slot_tupleiter_next→CI,cps_toList_append→Dw,assignInOrder_cons→DH,digits10_le→D8,subscriptTail_builtinR→Eu,entry_tupleiter_next→ES,entry_tuple_getitem→Fb,args_tupleiter_next→Fd,args_tuple_getitem→Fo,assignInOrder_nil→FA,lt_int→F4,Subscript_→F6,le_int→Gv
open PySem.PassesOwn renaming never→BB
open PySem.Paired renaming length→BP,snoc→GG
open PySem.AutoSeq1 renaming wpAny_loadPart'→B6,sub_tuple_tuple→D3
open True renaming intro→Cf
open PySem.F renaming slot_str_split→Cn,type_str_split→Co,args_tuple_add_2→D4,entry_tuple_add→Ec,slot_dict_items→Ed,slot_tuple_add→Et,plainAttrs_str→Ez,slot_str_strip→EF,type_str_strip→EG
open Int renaming toNat_natCast→Cr,emod_nonneg→CM,le_of_lt→CS,emod_lt_of_pos→CU,le_refl→C6,le_trans→Dt,le_antisymm→Ga
open PySem.Around renaming under_plainId→CC,under→D1
open PySem.Calls renaming Name_function_global→CF,spliced_cons→DI,loadGlobal_global→Ea,callWith_builtin→Ew,spliced_nil→FC
open Array.Perm renaming refl→CL
open Sum renaming inl→CW,inr→DZ
open List.Pairwise renaming nil→C3
open ForInStep renaming yield→Ds
open PySem.Heap.SameBut renaming update→Dz
open PySem.EntryCells renaming newEntry→DD
open Decidable renaming byContradiction→DY
open Nat.succ renaming inj→D7
open PySem.Heap.DictOf renaming new→Eg
open PySem.Heap.IsList renaming «at»→EL
open PySem.Code renaming isFrame→Fj,quiet_builtin→Fu,isGuard→Gx
open PySem.SeqAt.EqAt renaming int_int→Fm
open PySem.Heap.IsListIter renaming «at»→Fs
open PySem.NumText renaming digitsVal→FO
open Char renaming toNat→Gd
open Sum.inr renaming inj→GF
open PySem.W.KatTups renaming cons→GI,nil→GK
open PySem.W.KasFin renaming intro→GJ
open PySem.Heap.IsSliceOf renaming new→GL
set_option Elab.async false
open PySem renaming Value→GM,model→IR,Heap→KF,Program→Os,compareOp→Pv,Expr→PP,World→Re,starEach→SL,Stmt→SZ,bootBuiltins→UF,eval→UV,mainGlobals→Wp
open List renaming getElem?_eq_some_iff→KB,mem_cons→KM,mem_singleton→On,mem_map→P3,mem_append→W1
noncomputable section
abbrev Qqa:=PySem.Value->PySem.Shared->Prop
abbrev Qqb (v:PySem.Env) (e:PySem.Expr) (l:List PySem.Expr):Prop:=PySem.starEach (e::l) v=(false,PySem.eval e v)::PySem.starEach l v
abbrev Qqc (p:PySem.Pos) (l:List PySem.Expr) (v:PySem.Env):Prop:=(PySem.backTo p (PySem.starEach l v)).any (·.1)=false
abbrev Qqd:PySem.Obj:={cls:=.type "dict",data:=.dict #[]}
open PySem.Challenge renaming pw_stickytiles_k79_no_texts_and_cut_ones→P0
namespace L2
open PySem PySem.Spec PyProof.Rows
def OZ(s:SZ):Arguments:=match s with
 |.FunctionDef _ a _ _ _ _ _ _ _ _=>a
 |_=>{posonlyargs:=[],args:=[],vararg:=none,kwonlyargs:=[],kw_defaults:=[],kwarg:=none,defaults:=[]}
def K9(s:SZ):List SZ:=match s with
 |.FunctionDef _ _ b _ _ _ _ _ _ _=>b
 |_=>[]
def Jd(s:SZ):Scope:=match s with
 |.FunctionDef _ _ _ _ _ _ sc _ _ _=>sc
 |_=>{kind:=.function,names:=[],isGenerator:=false,isCoroutine:=false}
end L2
namespace L2.MP.Hx
open PySem L2 PySem.W PyProof.Rows
def ML(h:KF):Frag:=(AZ h.objs.size).filterMap λa=>(h.get? a).map λo=>(a,o)
def Sg(g:Addr->Option Obj)(ns:Addr)(x:Str):Option (Option GM):=match g ns with
 |some ⟨_,_,.dict a _,_⟩=>(match a.toList.find? (·.key.isStr x) with
   |some e=>some<|some e.val
   |none=>if a.toList.any (·.refKey)then none else some none)
 |_=>none
def mJ(g:Addr->Option Obj)(cd:GM)(q:Str):Bool:=match cd with
 |.ref c=>(match g c with
   |some ⟨_,_,.fields a,_⟩=>(match a.toList with|_::.str n _::_=>n==q|_=>false)
   |_=>false)
 |_=>false
def Z8(g:Addr->Option Obj)(x:Str):Option (FuncData×Bool):=match Sg g Wp x with
 |some (some<|.ref f)=>(match g f with
   |some ⟨_,_,.func fd,_⟩=>some ({fd with kwdefaults:=.none,doc:=.none,pyModule:=.none,annotations:=none,code:=.none,closureTuple:=.none},mJ g fd.code x)
   |_=>none)
 |_=>none
def Z9(x:Str)(st:SZ):Option (FuncData×Bool):=some (fnOf x x (OZ st) (K9 st) (Jd st) .none .none .none .none none .none .none,true)
def GS(v:Option (Option GM)):Option (Str⊕Int):=match v with
 |some (some<|.str s _)=>some<|.inl s
 |some (some<|.int i _)=>some<|.inr i
 |_=>none
def Nb(g:Addr->Option Obj)(fns:List (Str×SZ))(a:List Str)(co:List (Str×(Str⊕Int))):List (Option<|FuncData×Bool)×List (Option<|Option GM)×List (Option<|Str⊕Int):=(fns.map λp=>Z8 g p.1,a.map λx=>Sg g Wp x,co.map λc=>GS (Sg g Wp c.1))
def P2(fns:List (Str×SZ))(a:List Str)(co:List (Str×(Str⊕Int))):List (Option<|FuncData×Bool)×List (Option<|Option GM)×List (Option<|Str⊕Int):=(fns.map λp=>Z9 p.1 p.2,a.map λ_=>some none,co.map λc=>some c.2)
def inClass(s:SZ)(i:Nat):SZ:=match s with
 |.ClassDef _ _ _ b _ _ _ _ _ _ _=>b.getD i<|.Pass ⟨0,0,0,0⟩
 |_=>.Pass ⟨0,0,0,0⟩
def NP:List GM:=[.type "ValueError",.type "Exception",.type "BaseException",.type "object"]
def OA:List Str:=["__init__","__setattr__","number","line"]
def P4(K:Frag)(C:Addr):Option (ClassData×Addr×Array DictEntry):=match K.lookup C with
 |some ⟨.type t,_,.cls cd,⟨[_,_,_,_,some (.builtin n),_]⟩⟩=>if t="type"/\n="ValueError.__new__"/\cd.hasDel=false/\cd.hasDict=true then(match K.lookup cd.ns with
   |some ⟨_,_,.dict a _,_⟩=>if a.toList.all (λe=>match e.key with|.str _ _=>true|_=>false)=true then some (cd,C,a)else none
   |_=>none)else none
 |_=>none
def Ra(K:Frag)(C:Addr):Bool:=findIn K (.ref C) "__getattribute__"==some (some<|.builtin "BaseException.__getattribute__")&&findIn K (.ref C) "__getattr__"==some none&&findIn K (.ref C) "__class__"==some (some<|.builtin "object.__class__")
&&mroIn K C (.type "object")==some true&&mroIn K C (.type "BaseException")==some true&&keepIn K (.ref C)&&kitOne K (.ref C) (.type "ValueError")==some true&&hasDictIn K C
def WC(K:Frag):Bool:=specialIn K (.builtin "object.__class__") "__get__"==some (some<|.builtin "getset_descriptor.__get__")&&takesIn K (.builtin "object.__class__")==some true
structure ED where
 c:Str
 f:Option (Str×SZ)
def WS(K:Frag)(qual:Str)(v:Option GM):Option (FuncData×Bool):=match v with
 |some (.ref f)=>(match K.lookup f with
   |some ⟨.type t,_,.func fd,_⟩=>if t="function" then some ({fd with kwdefaults:=.none,doc:=.none,pyModule:=.none,annotations:=none,code:=.none,closureTuple:=.none},codeIn K fd.code qual)else none
   |_=>none)
 |_=>none
def WR(qual:Str)(st:SZ):Option (FuncData×Bool):=some (fnOf "__init__" qual (OZ st) (K9 st) (Jd st) .none .none .none .none none .none .none,true)
def Mj(K:Frag)(c:Str):Option Addr:=match nsIn K Wp c with
 |some (some<|.ref C)=>some C
 |_=>none
noncomputable abbrev OM:=Bool×Option (FuncData×Bool)
def QZ(K:Frag)(T:Addr)(d:ED):OM:=match Mj K d.c with
 |some C=>(match P4 K C with
   |some (cd,_,a)=>(Ra K C&&(cd.mro==.ref C::(if d.c="TileError" then NP else .ref T::NP))&&(if d.f.isSome then OA.tail else OA).all (λn=>(nsFind a n).isNone)&&(match d.f with
      |some (f,_)=>findIn K (.ref C) f==some none&&fastLookup "ValueError" f==some none
      |none=>true),match d.f with
      |some _=>WS K (d.c++".__init__") (nsFind a "__init__")
      |none=>none)
   |none=>(false,none))
 |none=>(false,none)
def Q0(d:ED):OM:=(true,match d.f with
 |some (_,st)=>WR (d.c++".__init__") st
 |none=>none)
def Oz(c y:Str):Bool:=decide (c=y) || decide (y="TileError")
def aE(K:Frag)(c y:Str):Bool:=match Mj K c,Mj K y with
 |some C,some D=>kitOne K (.ref C) (.ref D)==some (Oz c y)
 |_,_=>false
def OE(K:Frag)(ds:List ED):Bool×List OM:=match Mj K "TileError" with
 |some T=>(WC K&&(ds.all λd=>ds.all λe=>aE K d.c e.c),ds.map λd=>QZ K T d)
 |none=>(false,[])
def OF(ds:List ED):Bool×List OM:=(true,ds.map Q0)
def PK(a:String->Option Builtin)(p:Os)(w:Re)(n₀:Nat)(ann:Option GM):Nat->SharedT->Thread->Option SharedT
 |0,_,_=>none
 |n+1,s,t=>match through t with
  |true=>some s
  |false=>match stepOk n₀ ann t with
   |false=>none
   |true=>match stepT (denote a) p w s t with
    |some (s',t')=>PK a p w n₀ ann n s' t'
    |none=>none
variable {p:Os}
theorem cP{e:String->Option Builtin}{p:Os}{w:Re}{n₀:Nat}{ann:Option GM}:∀(n:Nat) (s s':SharedT) (t:Thread),PK e p w n₀ ann n s t=some s'->topRun e p w n₀ ann n s.abs t=some s'.abs
 |0,_,_,_,h=>by cases h
 |n+1,s,s',t,h=>by
  unfold PK at h;unfold topRun;split at h
  ·rename_i a;rw[a];cases h;rfl
  ·rename_i a;rw[a]
   split at h
   ·cases h
   ·rename_i b;rw[b]
    split at h
    ·rename_i x y c;rw[stepT_spec c];exact cP n x s' y h
    ·cases h
def aL:List Obj->Nat->BT->BT
 |[],_,t=>t
 |o::l,n,t=>aL l (n+1)<|t.ins n o
def aO(w:Re)(os:OsState):SharedT:=⟨aL (boot_heap w.params).objs.toList 0 .nil,11,(boot_heap w.params).life,FS [],boot_drawn,boot_toks,os⟩
def boot_abs(w:Re)(os:OsState):(aO w os).abs=⟨boot_heap w.params,FS [],boot_drawn,boot_toks,os⟩:=by kernel_rfl
def qW(P:Params):((boot_heap P).isNs Wp,(boot_heap P).objs.size)=(true,11):=by kernel_rfl
noncomputable abbrev ZK (p:Os) (N:Nat) (w:Re) (os:OsState):Option SharedT:=PK treeTable p w 11 ((boot_heap w.params).nsMap Wp "__annotations__") N (aO w os) (topStub p)
variable {β:Type}
noncomputable abbrev Qo  (p:Os) (N:Nat) (f:Re->Shared->β) (b:Re->β):Prop:=∀w os,(ZK p N w os).map (λs=>f w s.abs)=some (b w)
noncomputable abbrev P1 (p:Os) (w:Re) (s:Shared):Bool:=staticsOk (importedModules p.main.body) (boot_heap w.params) s.heap&&namesBound p s.heap&&gensDone s&&laidKept (boot_heap w.params) s.heap
variable {N:Nat}
def bS{f:Re->Shared->β}{b:Re->β}(e:opening p=plainProg p.main.scope.names)(a:Nat.ble 600 N=true)(g:∀s,fenceModules? p s=some s)(h0:Qo p N (P1 p) λ_=>true)(h:Qo p N f b)(w:Re):(openEnds treeTable p w N).map (f w)=some (b w):=by
 obtain⟨⟨i,j,d,k,os⟩,l,m⟩:=Option.map_eq_some_iff.mp<|boot_open e a g w;obtain⟨rfl,rfl,rfl,rfl⟩:i=boot_heap w.params/\j=FS []/\d=boot_drawn/\k=boot_toks:=by simpa using m
 obtain⟨s,r,c⟩:=Option.map_eq_some_iff.mp<|h0 w os;have y:=h w os;rw[r]at y;have t:=cP _ _ _ _ r;rw[boot_abs]at t;obtain⟨n,o⟩:=Bi<|qW w.params;have u:topFrom treeTable p w N ⟨boot_heap w.params,FS [],boot_drawn,boot_toks,os⟩=some s.abs:=by unfold topFrom;dsimp only;rw[n,o,t];show(match P1 p w s.abs with|true=>some s.abs|false=>none)=_;rw[c]
 unfold openEnds;rw[l];show(topFrom treeTable p w N _).map _=_;rw[u];exact y
noncomputable abbrev Sn (p q:Os) (l:List Str) (X:Shared->Bool) (s:Shared):=openSeen q l (importedModules p.main.body) X true s
def PY{q:Os}{l:List Str}{X:Shared->Bool}{α:Type}{Y:Shared->α}{Z:Re->α}(e:opening p=plainProg p.main.scope.names)(c:Nat.ble 600 N=true)(g:∀s,fenceModules? p s=some s)(h0:Qo p N (P1 p) λ_=>true)(f:Qo p N (λ_ s=>Sn p q l X s) λ_=>openGood q l)(h:Qo p N (λ_ s=>Y s) Z):LeftO p q l X Y Z N:=λw=>by
 have a:=bS e c g h0 f w;have b:=bS e c g h0 h w;generalize openEnds treeTable p w N=o at *;cases o with
 |none=>cases a
 |some s=>exact congrArg some<|looks_pair (As a)<|As b
end L2.MP.Hx
namespace L2.MP.T0
open PySem L2 PySem.Spec PyProof.Rows PySem.W
def top(i:Nat):SZ:=P0.main.body.getD i<|.Pass ⟨0,0,0,0⟩
def fns:List (Str×SZ):=("is_whole",top 3)::("is_tuple",top 4)::("is_name",top 5)::("is_stick",top 6)::("is_face",top 7)::("is_side",top 8)::("is_kind",top 9)::("is_floor",top 10)::("is_place",top 11)::("is_tile",top 12)::("read_number",top 29)::("read_numbers",top 30)::("read_enough",top 31)::("read_stick",top 32)::("read_kind",top 33)::("read_floor",top 34)::("read_seed_tile",top 35)::("read_run",top 36)::("read_bed",top 37)::("_law_pot",top 39)::("_law_next",top 40)::("_law_of",top 41)::("_law_names",top 42)::("_law_house",top 43)::("_law_floor",top 44)::("_law_standing",top 45)::("_law_bed",top 46)::("_law_same",top 47)::("_law_is_name",top 48)::("_law_lines",top 49)::("_law_number",top 50)::("_law_head_right",top 51)::("_law_kind_right",top 52)::("_law_tile_right",top 53)::("_law_fault",top 54)::("_law_read",top 55)::("law",top 56)::[]
def Sm:List Str:=["isinstance","int","bool","tuple","len","str","all","dict","abs","range","sorted","zip","enumerate","min","max"]
def cos:List (Str×(Str⊕Int)):=[("LETTERS",.inl "abcdefghijklmnopqrstuvwxyz"),("FACE_SIGNS",.inl "abcdefghijklmnopqrstuvwxyz0123456789"),("MOST_FIGURES",.inr 6),("TEN_FIGURES",.inl "0123456789")]
def Sk:List Hx.ED:=[⟨"TileError",none⟩,⟨"NoGrowing",some ("number",Hx.inClass (top 15) 0)⟩,⟨"NoText",some ("line",Hx.inClass (top 16) 0)⟩,⟨"NoPlace",none⟩,⟨"Taken",none⟩,⟨"NoKind",none⟩,⟨"NotHeld",none⟩,⟨"NothingBack",none⟩,⟨"NotSure",none⟩,⟨"TooMany",none⟩,⟨"NotFramed",none⟩,⟨"NoLine",none⟩]
def vw:Os:=view P0 [1,2,3,4,5,6,7,8,9,10,11,12,14,15,16,17,18,19,20,21,22,23,24,25,27,28,29,30,31,32,33,34,35,36,37,39,40,41,42,43,44,45,46,47,48,49,50,51,52,53,54,55,56]
noncomputable abbrev sX:Shared->Bool:=λs=>xlAt vw [] s&&recOk [] s
def sr0:Hx.Qo P0 20000 (Hx.P1 P0) λ_=>true:=λw os=>by kernel_rfl
def sr1:Hx.Qo P0 20000 (λ_ s=>Hx.Sn P0 vw [] sX s) λ_=>openGood vw []:=λw os=>by kernel_rfl
def sr2:Hx.Qo P0 20000 (λ_ s=>(Hx.Nb s.heap.get? fns Sm cos,Hx.OE (Hx.ML s.heap) Sk)) λ_=>(Hx.P2 fns Sm cos,Hx.OF Sk):=λw os=>by kernel_rfl
def uU:LeftO P0 vw [] sX (λs=>(Hx.Nb s.heap.get? fns Sm cos,Hx.OE (Hx.ML s.heap) Sk)) (λ_=>(Hx.P2 fns Sm cos,Hx.OF Sk)) 20000:=Hx.PY (by kernel_rfl) rfl (λs=>by kernel_rfl) sr0 sr1 sr2
end L2.MP.T0
set_option linter.all false
namespace L2
open PySem PySem.Spec PyProof.Rows
noncomputable abbrev Key:=Sum Int Str
def Rp:Key->GM->Bool
 |.inl k,v=>GD k v
 |.inr x,v=>Gm x v
def ZZ(w:Re):Key->Int
 |.inl k=>hashInt k
 |.inr x=>hashStr w x
def PF:∀{k:Key}{v:GM},Rp k v=true->(∃i t,k=CW i/\v=Ee i t)\/(∃x t,k=DZ x/\v=Gk x t)
 |.inl i,v,h=>by obtain⟨t,e⟩:=Value.isInt_shape (k:=i) (v:=v) h;exact .inl ⟨i,t,rfl,e⟩
 |.inr x,v,h=>by obtain⟨t,e⟩:=Value.isStrOf_shape (x:=x) (v:=v) h;exact .inr ⟨x,t,rfl,e⟩
def zmP(i:Int)(t:Tok):Rp (.inl i) (.int i t)=true:=by simp[Rp,GD]
def zmO(x:Str)(t:Tok):Rp (.inr x) (.str x t)=true:=by simp[Rp,Gm]
def pY(a b:Int):decide ((CW a:Key)=CW b)=(a==b):=by
 by_cases e:a=b
 ·subst e;simp
 have h:¬(CW a:Key)=CW b:=λq=>e<|Sum.inl.inj q;rw[decide_eq_false h];exact(beq_eq_false_iff_ne.mpr e).symm
def qB(a b:Str):decide ((DZ a:Key)=DZ b)=decide (a=b):=by
 by_cases e:a=b
 ·subst e;simp
 have h:¬(DZ a:Key)=DZ b:=λq=>e<|GF q;rw[decide_eq_false h,decide_eq_false e]
def pZ(a:Int)(b:Str):decide ((CW a:Key)=DZ b)=false:=decide_eq_false λq=>nomatch q
def qA(a:Str)(b:Int):decide ((DZ a:Key)=CW b)=false:=decide_eq_false λq=>nomatch q
def J7(prog:Os)(w:Re):PySem.KeyKind prog w Key where
 is:=Rp
 hash:=ZZ w
 inj:=λv a b g f=>by
  rcases PF g with⟨i,t,rfl,rfl⟩|⟨x,t,rfl,rfl⟩
  ·rcases PF f with⟨j,u,rfl,e⟩|⟨y,u,rfl,e⟩
   ·injection e with e1 _;rw[e1]
   exact nomatch e
  ·rcases PF f with⟨j,u,rfl,e⟩|⟨y,u,rfl,e⟩
   ·exact nomatch e
   injection e with e1 _;rw[e1]
 byValue:=λk v h=>by rcases PF h with⟨i,t,rfl,rfl⟩|⟨x,t,rfl,rfl⟩<;>rfl
 pyHash:=λc h=>by
  rcases PF c with⟨i,t,rfl,rfl⟩|⟨x,t,rfl,rfl⟩
  ·exact wpAny_pyHash_int h
  exact wpAny_pyHash_str h
 eqBool:=λl c h=>by
  rcases PF l with⟨i,t,rfl,rfl⟩|⟨x,t,rfl,rfl⟩
  ·rcases PF c with⟨j,u,rfl,rfl⟩|⟨y,u,rfl,rfl⟩
   ·rw[pY]at h;exact wpAny_eqBool_int h
   rw[pZ]at h;exact SeqAt.EqAt.int_str i t y u _ _ _ _ h
  ·rcases PF c with⟨j,u,rfl,rfl⟩|⟨y,u,rfl,rfl⟩
   ·rw[qA]at h;exact SeqAt.EqAt.str_int x t j u _ _ _ _ h
   rw[qB]at h;exact wpAny_eqBool_str h
 «strs»:=λk x t v h=>by
  rcases PF h with⟨i,u,rfl,e⟩|⟨y,u,rfl,e⟩
  ·exact nomatch e
  ·injection e with e1 _
   subst e1;cases v<;>rfl
def zi8(prog:Os)(w:Re)(i:Int)(t:Tok):(J7 prog w).is (.inl i) (.int i t)=true:=zmP i t
def zi7(prog:Os)(w:Re)(x:Str)(t:Tok):(J7 prog w).is (.inr x) (.str x t)=true:=zmO x t
inductive V where
 |non|bl (b:Bool)|int (i:Int)|str (x:Str)|byt (b:Array UInt8)|flt (b:UInt64)|ref (a:Addr)|ty (n:String)
 deriving DecidableEq
def RelV:V->GM->Prop
 |.non,u=>u=AH
 |.bl b,u=>u=CA b
 |.int i,u=>∃t,u=Ee i t
 |.str x,u=>∃t,u=Gk x t
 |.byt b,u=>∃t,u=Value.bytes b t
 |.flt b,u=>∃t,u=Value.float b t
 |.ref a,u=>u=Ax a
 |.ty n,u=>u=Value.type n
noncomputable abbrev Vals:List V->List GM->Prop:=Paired RelV
variable {us:List GM}
def Vals.length{xs:List V}{us:List GM}(r:Vals xs us):xs.length=us.length:=BP r
theorem Vals.get:∀{xs:List V}{us:List GM}{i:Nat}{x:V},Vals xs us->xs[i]?=some x->∃u,us[i]?=some u/\RelV x u
 |_,_,_,_,.nil,e=>by simp at e
 |_,_,0,_,.cons r _,e=>by simp at e;subst e;exact⟨_,rfl,r⟩
 |_,_,i+1,x,.cons _ t,e=>by obtain⟨u,a,c⟩:=Vals.get (i:=i) (x:=x) t (by simpa using e);exact⟨u,by simpa using a,c⟩
variable {u:GM}
theorem Vals.set{x:V}{u:GM}(r:RelV x u):∀{xs:List V}{us:List GM} (i:Nat),Vals xs us->Vals (xs.set i x) (us.set i u)
 |_,_,_,.nil=>.nil
 |_,_,0,.cons _ t=>.cons r t
 |_,_,i+1,.cons q t=>.cons q<|Vals.set r i t
theorem Vals.append:∀{xs a:List V}{us ws:List GM},Vals xs us->Vals a ws->Vals (xs++a) (us++ws)
 |_,_,_,_,.nil,s=>s
 |_,_,_,_,.cons r t,s=>.cons r<|Vals.append t s
theorem Vals.take:∀{xs:List V}{us:List GM} (n:Nat),Vals xs us->Vals (xs.take n) (us.take n)
 |_,_,0,_=>.nil
 |_,_,_+1,.nil=>.nil
 |_,_,n+1,.cons r t=>.cons r<|Vals.take n t
theorem Vals.drop:∀{xs:List V}{us:List GM} (n:Nat),Vals xs us->Vals (xs.drop n) (us.drop n)
 |_,_,0,r=>r
 |_,_,_+1,.nil=>.nil
 |_,_,n+1,.cons _ t=>Vals.drop n t
def KI:Option V->Option GM->Prop
 |some v,some u=>RelV v u
 |none,none=>True
 |_,_=>False
variable {κ:Type}
def KV:List (κ×V)->List (κ×GM)->Prop:=Paired λ(p:κ×V) (q:κ×GM)=>p.1=q.1/\RelV p.2 q.2
def kV:Key->V
 |.inl i=>.int i
 |.inr x=>.str x
inductive HO where
  |lst (xs:List V)
  |tup (xs:List V)
  |dK (kvs:List (Key×V))|dT (kvs:List (List Key×V))
  |set (S:Int->Bool) (n:Nat)
  |ins (C dx:Addr) (fs:List (Str×V))
  |own (x:Addr)
  |xd (fs:List (Str×V))
  |met (f x:Addr)
  |rng (lo hi:Int)
  |frz (o:Obj) (u:HO)
  |tbl (ps:Array GM)
  |ext (φ:KF->Prop)
noncomputable abbrev Hp:=Addr->Option HO
def upd(H:Hp)(a:Addr)(o:HO):Hp:=λb=>if b=a then some o else H b
variable {H:Hp}{a:Addr}{o:HO}
def KQ:upd H a o a=some o:=by unfold upd;rw[if_pos rfl]
variable {b:Addr}
def HR(h:b≠a):upd H a o b=H b:=by unfold upd;rw[if_neg h]
def vN{u:HO}:upd (upd H a o) a u=upd H a u:=by funext b;unfold upd;split<;>rfl
def OS{u:HO}(h:H a=some o)(h':H b=some u)(d:o≠u):a≠b:=by intro e;subst e;rw[h]at h';exact d<|As h'
def Ka(h:H a=some o)(h':H b=none):a≠b:=by intro e;subst e;rw[h]at h';cases h'
def MY(h:KF)(a:Addr)(items:Array GM):Prop:=∃o,h.get? a=some o/\o.cls=.type "tuple"/\o.dict=none/\∃n,o.data=.seq items n
variable {h:KF}{items:Array GM}
def MY.t(x:MY h a items):IsTup h a items:=let ⟨o,ho,hc,_,r⟩:=x;⟨o,ho,hc,r⟩
variable {h':KF}
def MY.keeps(x:MY h a items)(hk:∀b o,h.get? b=some o->h'.get? b=some o):MY h' a items:=let ⟨o,ho,r⟩:=x;⟨o,hk a o ho,r⟩
def MY.new(h:KF)(items:Array GM):MY (h.push {cls:=.type "tuple",data:=.seq items}) h.objs.size items:=⟨_,Aq _ rfl,rfl,rfl,0,rfl⟩
section
variable (P:Os) (w:Re)
def Kw(H:Hp)(h:KF)(a:Addr):HO->Prop
 |.lst xs=>xs.length<=sizeLine/\∃(its:List GM) (n:Nat),Vals xs its/\h.get? a=some {cls:=.type "list",data:=.seq its.toArray n}
 |.tup xs=>xs.length<=sizeLine/\∃its:List GM,Vals xs its/\MY h a its.toArray
 |.dK kvs=>kvs.length<=sizeLine/\(a==sysModules)=false/\∃g,KV kvs g/\h.DictOf (J7 P w) a g
 |.dT kvs=>kvs.length<=sizeLine/\(a==sysModules)=false/\∃xs:List (List Key×Addr×GM),
   Paired (λ(p:List Key×V) (q:List Key×Addr×GM)=>p.1=q.1/\H q.2.1=some (.tup<|p.1.map kV)/\RelV p.2 q.2.2) kvs xs /\
   ∃o es ep,h.get? a=some o/\o.ExactDict/\o.data=.dict es ep/\es.toList=xs.map (entryOfKey<|tupleKind<|J7 P w)/\(xs.map (·.1)).Nodup
 |.set S n=>h.SetOf (intKind P w) a S n
 |.ins C e fs=>H e=some (.own a)/\fs.length<=1000/\e≠a/\h.get? a=some (PySem.W.instObj C e) /\
   ∃c,h.Ns1 e c/\(∀f,KI (fs.lookup f) (c f))/\PySem.Within c (fs.map (·.1))
 |.own _=>∃o,h.get? a=some o
 |.xd fs=>∃c,h.Ns1 a c/\∀f,KI (fs.lookup f) (c f)
 |.rng lo hi=>∃t u v,h.get? a=some {cls:=.type "range",data:=.fields #[.int lo t,.int hi u,.int 1 v]}
 |.frz o u=>h.get? a=some o/\Kw H h a u
 |.tbl ps=>h.get? a=some {cls:=.none,data:=.fields ps}
 |.met f x=>h.get? a=some (DP (.ref f)<|.ref x)
 |.ext φ=>φ h/\(∃o,h.get? a=some o)/\∀i j:KF,φ i->(∀o,i.get? a=some o->j.get? a=some o)->φ j
def JX(H:Hp)(h:KF):Prop:=∀a o,H a=some o->Kw P w H h a o
end
variable {P:Os}{w:Re}{H':Hp}{α:Type}
def Kw.lt(x:Kw P w H h a o):a<h.objs.size:=by
 cases o with
 |lst xs=>obtain⟨_,_,_,_,e⟩:=x;exact An e
 |tup xs=>obtain⟨_,_,_,p⟩:=x;exact p.t.lt
 |dK c=>obtain⟨_,_,_,_,o,_,_,e,_⟩:=x;exact An e
 |dT c=>obtain⟨_,_,_,_,o,_,_,e,_⟩:=x;exact An e
 |set S n=>obtain⟨o,_,_,_,e,_⟩:=x;exact An e
 |ins C g fs=>obtain⟨_,_,_,e,_⟩:=x;exact An e
 |own y=>obtain⟨_,e⟩:=x;exact An e
 |xd fs=>obtain⟨_,⟨_,_,_,e,_⟩,_⟩:=x;exact An e
 |rng lo i=>obtain⟨_,_,_,e⟩:=x;exact An e
 |frz ob u=>obtain⟨e,_⟩:=x;exact An e
 |tbl j=>exact An (show h.get? a=some _ from x)
 |met f y=>exact An (show h.get? a=some _ from x)
 |ext φ=>obtain⟨_,⟨_,e⟩,_⟩:=x;exact An e
theorem Paired.mapP{α β:Type}{F G:α->β->Prop}:∀{l₁:List α}{l₂:List β},Paired F l₁ l₂->(∀a b,F a b->G a b)->Paired G l₁ l₂
 |_,_,.nil,_=>.nil
 |_,_,.cons r t,f=>.cons (f _ _ r)<|Paired.mapP t f
def Kw.stay(x:Kw P w H h a o)(k:∀b u,(b=a\/H b=some (.own a))->h.get? b=some u->h'.get? b=some u)(B:∀b,H b=some (.own a)->H' b=some (.own a)) (E:∀b xs,H b=some (.tup xs)->H' b=some (.tup xs)):Kw P w H' h' a o:=by
 induction o with
 |lst xs=>obtain⟨z,j,n,r,e⟩:=x;exact⟨z,j,n,r,k _ _ (.inl rfl) e⟩
 |tup xs=>obtain⟨z,j,r,ob,e,c⟩:=x;exact⟨z,j,r,ob,k _ _ (.inl rfl) e,c⟩
 |dK l=>obtain⟨z,y,F,r,ob,g,i,e,c⟩:=x;exact⟨z,y,F,r,ob,g,i,k _ _ (.inl rfl) e,c⟩
 |dT l=>
  obtain⟨z,y,xs,r,ob,g,i,e,c⟩:=x;exact⟨z,y,xs,Paired.mapP r λp q z=>⟨z.1,E _ _ z.2.1,z.2.2⟩,ob,g,i,k _ _ (.inl rfl) e,c⟩
 |set S n=>obtain⟨ob,g,i,t,e,c⟩:=x;exact⟨ob,g,i,t,k _ _ (.inl rfl) e,c⟩
 |ins C J fs=>
  obtain⟨d,z,ne,e,m,⟨s,g,i,G,c⟩,r⟩:=x;exact⟨B _ d,z,ne,k _ _ (.inl rfl) e,m,⟨s,g,i,k _ _ (.inr d) G,c⟩,r⟩
 |own y=>obtain⟨ob,e⟩:=x;exact⟨ob,k _ _ (.inl rfl) e⟩
 |xd fs=>obtain⟨m,⟨s,g,i,e,c⟩,r⟩:=x;exact⟨m,⟨s,g,i,k _ _ (.inl rfl) e,c⟩,r⟩
 |rng lo K=>obtain⟨t,u,v,e⟩:=x;exact⟨t,u,v,k _ _ (.inl rfl) e⟩
 |frz ob u I=>obtain⟨e,q⟩:=x;exact⟨k _ _ (.inl rfl) e,I q⟩
 |tbl A=>
  have e:h.get? a=some {cls:=.none,data:=.fields A}:=x;show h'.get? a=some {cls:=.none,data:=.fields A};exact k a _ (.inl rfl) e
 |met f y=>
  have e:h.get? a=some (DP (.ref f)<|.ref y):=x;show h'.get? a=some (DP (.ref f)<|.ref y);exact k a _ (.inl rfl) e
 |ext φ=>obtain⟨p,⟨o,e⟩,st⟩:=x;exact⟨st _ _ p λo q=>k _ _ (.inl rfl) q,⟨o,k _ _ (.inl rfl) e⟩,st⟩
def JX.lt(x:JX P w H h)(e:H a=some o):a<h.objs.size:=(x a o e).lt
def JX.fresh(x:JX P w H h)(e:h.objs.size<=a):H a=none:=by
 cases q:H a with
 |none=>rfl
 |some u=>exact absurd (Ay (x.lt q) e)<|A4 _
def JX.kept(x:JX P w H h)(k:∀b u,h.get? b=some u->h'.get? b=some u):JX P w H h':=λa o e=>
 (x a o e).stay (λb u _ q=>k b u q) (λ_ q=>q) λ_ _ q=>q
def JX.laid(x:JX P w H h)(k:∀b u,h.get? b=some u->h'.get? b=some u)(g:h.objs.size<=a)(new:Kw P w (upd H a o) h' a o):JX P w (upd H a o) h':=λb u e=>by
 have f:=x.fresh g;by_cases hb:b=a
 ·subst hb;rw[KQ]at e;cases e;exact new
 rw[HR hb]at e;exact(x b u e).stay (λc v _ q=>k c v q) (λc q=>by rw[HR (Ka q f)];exact q) λc xs q=>by rw[HR (Ka q f)];exact q
def Rd(H:Hp)(a:Addr)(u:HO):Prop:=H a=some u\/∃o,H a=some (.frz o u)
def Rd.ok{u:HO}(r:Rd H a u)(x:JX P w H h):Kw P w H h a u:=by
 rcases r with r|⟨o,r⟩
 ·exact x a u r
 obtain⟨_,q⟩:=x a _ r;exact q
def Sq:Option HO->Prop
 |some (.lst _)=>True
 |some (.dK _)=>True
 |some (.dT _)=>True
 |some (.set _ _)=>True
 |some (.ins _ _ _)=>True
 |some (.ext _)=>True
 |_=>False
section
variable {x e:Addr}{o':HO}
def JX.write(ok:JX P w H h)(f:Sq (H x))(he:e=x\/H e=some (.own x))(k:∀b u,b≠e->h.get? b=some u->h'.get? b=some u)(g:∃u,h'.get? e=some u)(new:Kw P w (upd H x o') h' x o'):JX P w (upd H x o') h':=λb u q=>by
 have a:∀c y,H c=some (.own y)->c≠x:=λc y r z=>by subst z;rw[r]at f;exact f
 have o:∀c xs,H c=some (.tup xs)->c≠x:=λc xs r z=>by subst z;rw[r]at f;exact f
 by_cases hb:b=x
 ·subst hb;rw[KQ]at q;cases q;exact new
 ·rw[HR hb]at q
  by_cases hbe:b=e
  ·have i:H b=some (.own x):=by
    rcases he with z|z
    ·exact absurd (hbe.trans z) hb
    rw[hbe];exact z
   rw[q]at i;cases i;obtain⟨v,j⟩:=g;exact⟨v,by rw[hbe];exact j⟩
  ·refine(ok b u q).stay (λc v hc r=>k c v ?_ r) (λc r=>by rw[HR (a c b r)];exact r) λc xs r=>by rw[HR (o c xs r)];exact r
   rcases hc with rfl|hc
   ·exact hbe
   ·rintro rfl
    rcases he with z|z
    ·exact a c b hc z
    rw[hc]at z;cases z;exact hb rfl
end
structure Un(fs ex:List Addr)(H H':Hp)(h h':KF):Prop where
 keep:∀b o,h.get? b=some o->H b=none->b∉fs->b∉ex->h'.get? b=some o
 slot:∀b o,h.get? b=some o->H b=none->b∈fs->b∉ex->∃sl,h'.get? b=some {o with slots:=sl}
 free:∀b o,h.get? b=some o->H b=none->b∉ex->H' b=none
 there:∀b o,h.get? b=some o->b∉ex->∃o',h'.get? b=some o'
 tups:∀b xs,H b=some (.tup xs)->H' b=some (.tup xs)
 frzs:∀b o u,H b=some (.frz o u)->H' b=some (.frz o u)
 tbls:∀b ps,H b=some (.tbl ps)->∃more,H' b=some (.tbl (ps++more))
section
variable {fs fs' ex ex':List Addr}{H1 H2:Hp}{h1 h2:KF}{x e:Addr}
def Un.any(u:Un fs ex H H1 h h1){ob:Obj}(q:h.get? b=some ob)(n:H b=none)(c:b∉ex):∃f,h1.get? b=some {ob with slots:=f}:=by
 by_cases hb:b∈fs
 ·exact u.slot b ob q n hb c
 exact⟨ob.slots,u.keep b ob q n hb c⟩
def Un.kept(k:∀b u,h.get? b=some u->h'.get? b=some u):Un fs ex H H h h':=⟨λb ob q _ _ _=>k b ob q,λb ob q _ _ _=>⟨ob.slots,k b ob q⟩,λ_ _ _ n _=>n,λb ob q _=>⟨ob,k b ob q⟩,λ_ _ q=>q,λ_ _ _ q=>q,λ_ a q=>⟨#[],by rw[q];simp⟩⟩
def Un.refl:Un fs ex H H h h:=Un.kept λ_ _ q=>q
def Un.laid(k:∀b u,h.get? b=some u->h'.get? b=some u)(f:h.objs.size<=a)(c:H a=none):Un fs ex H (upd H a o) h h' where
 keep:=λb u q _ _ _=>k b u q
 slot:=λb u q _ _ _=>⟨u.slots,k b u q⟩
 free:=λb u q n _=>by rw[HR (Aw<|Ay (An q) f)];exact n
 there:=λb u q _=>⟨u,k b u q⟩
 tups:=λb xs q=>by rw[HR (Ka q c)];exact q
 frzs:=λb u xs q=>by rw[HR (Ka q c)];exact q
 tbls:=λb e q=>⟨#[],by rw[HR (Ka q c),q];simp⟩
def Un.write(c:Sq (H x))(he:e=x\/H e=some (.own x))(k:∀b u,b≠e->h.get? b=some u->h'.get? b=some u)(f:∃u,h'.get? e=some u):Un fs ex H (upd H x o) h h':=by
 have a:∀b,H b=none->b≠x:=λb n z=>by subst z;rw[n]at c;exact c
 have w:∀b,H b=none->b≠e:=λb n z=>by
  subst z;rcases he with r|r
  ·exact a b n r
  rw[n]at r;cases r
 have hm:∀b u,H b=some u->¬Sq (some u)->b≠x:=λb u q nm z=>by subst z;rw[q]at c;exact nm c
 refine⟨λb u q n _ _=>k b u (w b n) q,λb u q n _ _=>⟨u.slots,k b u (w b n) q⟩,λb u q n _=>by rw[HR (a b n)];exact n,λb u q _=>?_,
  λb xs q=>by rw[HR (hm b _ q λz=>z)];exact q,λb u xs q=>by rw[HR (hm b _ q λz=>z)];exact q,λb g q=>⟨#[],by rw[HR (hm b _ q λz=>z),q];simp⟩⟩
 by_cases hbe:b=e
 ·subst hbe;exact f
 exact⟨u,k b u hbe q⟩
end
def Wv(h:KF)(H:Hp):List Addr:=(AZ h.objs.size).filter λa=>(H a).isSome
def LF(h:KF)(H:Hp):KF:=PySem.W.hideAll h<|Wv h H
def zmU(h:KF)(H:Hp):(LF h H).objs.size=h.objs.size:=PySem.W.hideAll_size _ _
def xE{o:Obj}(e:h.get? b=some o)(n:H b=none):(LF h H).get? b=some o:=PySem.W.hideAll_get _ e λhm=>by have q:(H b).isSome=true:=(List.mem_filter.mp hm).2;rw[n]at q;simp at q
def sU{o:Obj}(e:(LF h H).get? b=some o):h.get? b=some o/\H b=none:=by
 have a:h.get? b=some o:=PySem.W.of_hideAll (Wv h H) e;refine⟨a,?_⟩;cases q:H b with
 |none=>rfl
 |some x=>
  have hm:b∈Wv h H:=List.mem_filter.mpr ⟨List.mem_range.mpr<|An a,by simp[q]⟩;have z:(LF h H).get? b=none:=PySem.W.hideAll_none (Wv h H) hm;rw[z]at e;cases e
def Vw(g h:KF)(L:Addr):List (Addr×Obj):=(AZ h.objs.size).filterMap λa=>if a=L\/(g.get? a).isSome=true then none else(h.get? a).map λo=>(a,o)
variable {g:KF}{L:Addr}
def jP{o:Obj}(e:a≠L)(f:g.get? a=none)(c:h.get? a=some o):(a,o)∈Vw g h L:=List.mem_filterMap.mpr ⟨a,List.mem_range.mpr<|An c,by simp[e,f,c]⟩
def zgi{p:Addr×Obj}(c:p∈Vw g h L):p.1≠L/\g.get? p.1=none/\h.get? p.1=some p.2:=by
 obtain⟨b,_,e⟩:=List.mem_filterMap.mp c;split at e
 ·cases e
 ·rename_i a
  cases q:h.get? b with
  |none=>rw[q]at e;simp at e
  |some u=>
   rw[q]at e;simp only[Aj,Option.some.injEq]at e;subst e;refine⟨λz=>a (.inl z),?_,q⟩;show g.get? b=none;cases r:g.get? b with
   |none=>rfl
   |some v=>exact(a<|.inr<|by simp[r]).elim
def zA:News g L h (Vw g h L):=λp o=>let ⟨a,b,c⟩:=zgi o;⟨c,a,b⟩
structure Mod(K:Ac)(mg:Str->Option GM)(base:KF):Prop where
 kin:K.In base
 glob:base.Ns Wp mg
 blt:∃mb,base.Ns builtinsNs mb/\∀x:Str,x≠"__name__"->mb x=UF x
 nolimit:base.NoLimit
structure Cx where
 prog:Os
 w:Re
 K:Ac
 mg:Str->Option GM
 base:KF
 A:Around
 N:List Str
 s₀:Shared
 H₀:Hp
 env:Env
 outer:List Env
 stack:List Env
 ex:List Addr
 fn:Str->Bool
 calm:Bool
 pn:List (Addr×Obj)
 xe:Qqa
def MK(l:List Env):List Addr:=l.filterMap (·.frame)
noncomputable abbrev Cx.fs (X:Cx):List Addr:=MK X.outer
def UL(sc:Scope)(x:Str):Prop:=sc.names.lookup x=some .local\/sc.names.lookup x=some .cell\/sc.names.lookup x=some .free
def Loc(sc:Scope)(x:Str):Prop:=sc.names.lookup x=some .local\/sc.names.lookup x=some .cell
def Look(env:Env)(h:KF)(m:Str->Option GM)(x:Str)(u:GM):Prop:=(env.kindOf x=some .local/\m x=some u)\/((env.kindOf x=some .cell\/env.kindOf x=some .free)/\∃c,env.cells.lookup x=some c/\h.IsCell c (some u))
structure Cx.Ok(X:Cx):Prop where
 mod:Mod X.K X.mg X.base
 kind:X.env.scope.kind=.function
 glob:X.env.globals=Wp
 blt:X.env.builtins=builtinsNs
 above:X.s₀.heap.objs.size<=X.env.locals
 inj:∀x y c,X.env.cells.lookup x=some c->X.env.cells.lookup y=some c->x=y
 has:∀x,(X.env.kindOf x=some .cell\/X.env.kindOf x=some .free)->∃c,X.env.cells.lookup x=some c
 cab:∀x c,X.fn x=true->X.env.cells.lookup x=some c->X.s₀.heap.objs.size<=c
 hd:X.calm=true->X.A.handled=none
 frames:X.A.frames=some X.stack
 stk:X.stack=X.outer\/(X.stack=X.env::X.outer/\X.env.frame=some X.env.locals)
 exf:∀b∈X.ex,b≠X.env.locals/\∀x c,X.env.cells.lookup x=some c->c≠b
 bs:∀b o,X.base.get? b=some o->X.s₀.heap.get? b=some o/\X.H₀ b=none
 bsz:X.base.objs.size<=X.s₀.heap.objs.size
 noex:∀b o,X.base.get? b=some o->b∉X.ex
 exfs:∀b∈X.ex,b∉X.fs
 funs:X.s₀.heap.FunFrames X.base X.outer
 frf:∀b∈X.fs,X.H₀ b=none
structure Inv(X:Cx)(qp:List (Addr×Obj))(σ:List (Option V))(H:Hp)(s:Shared):Prop where
 ok:X.Ok
 os:s.os=X.s₀.os
 bare:AllBare s.gens
 base:Un X.fs X.ex X.H₀ H X.s₀.heap s.heap
 loc:∃m,s.heap.Ns X.env.locals m/\∀(i:Nat) (x:Str) (v:V),X.N[i]?=some x->σ[i]?=some (some v)->UL X.env.scope x->∃u,RelV v u/\Look X.env s.heap m x u
 cell:∀x c,X.env.cells.lookup x=some c->∃v,s.heap.IsCell c v
 free:H X.env.locals=none
 freeC:∀x c,X.env.cells.lookup x=some c->H c=none
 pin:∀p∈X.pn++qp,s.heap.get? p.1=some p.2/\H p.1=none/\p.1≠X.env.locals/\p.1∉X.fs/\∀v,p.2.data≠.cell v
 hok:JX X.prog X.w H s.heap
 len:σ.length=X.N.length
variable {x:Str}{X:Cx}{qp:List (Addr×Obj)}{s s':Shared}{g':Array GenState}{t' i j:Nat}{d':Drawn}{ch:List Addr}{it:Addr}{N:List Str}{M:Model}{A:Around}{E:Qqa}{v:V}
section
variable {σ:List (Option V)}
def Cx.Ok.nofr(ok:X.Ok){o:Obj}(e:X.base.get? b=some o):b∉X.fs:=λa=>by have:=(ok.funs.mem a).1;rw[e]at this;cases this
def Inv.bs(I:Inv X qp σ H s):∀b o,X.base.get? b=some o->s.heap.get? b=some o/\H b=none:=λb o e=>
 ⟨I.base.keep b o (I.ok.bs b o e).1 (I.ok.bs b o e).2 (I.ok.nofr e)<|I.ok.noex b o e,I.base.free b o (I.ok.bs b o e).1 (I.ok.bs b o e).2<|I.ok.noex b o e⟩
def Inv.bk(I:Inv X qp σ H s):∀b o,X.base.get? b=some o->s.heap.get? b=some o:=λb o e=>(I.bs b o e).1
def Inv.mod(I:Inv X qp σ H s):Mod X.K X.mg X.base:=I.ok.mod
def Inv.kIn(I:Inv X qp σ H s):X.K.In s.heap:=I.ok.mod.kin.keeps I.bk
def Inv.fr(I:Inv X qp σ H s):∃m,Fr X.base X.env.locals s.heap m:=
 let ⟨m,hn,_⟩:=I.loc
 ⟨m,hn,I.bk,Ar I.ok.bsz I.ok.above⟩
def Inv.lt(I:Inv X qp σ H s):X.env.locals<s.heap.objs.size:=let ⟨_,hn,_⟩:=I.loc;hn.lt
def Inv.sz(I:Inv X qp σ H s):X.s₀.heap.objs.size<=s.heap.objs.size:=Ar I.ok.above<|B3 I.lt
def Inv.nofs(I:Inv X qp σ H s)(h:s.heap.objs.size<=a):a∉X.fs:=λg=>by obtain⟨_,o,i,_⟩:=I.ok.funs.mem g;exact absurd (Ay (An i)<|Ar I.sz h)<|A4 _
def Inv.cne(I:Inv X qp σ H s):∀x c,X.env.cells.lookup x=some c->c≠X.env.locals:=λx c e z=>by obtain⟨v,o,h,hd⟩:=I.cell x c e;obtain⟨m,⟨i,j,u,a,g,_⟩,_⟩:=I.loc;rw[z,a]at h;cases h;rw[g]at hd;cases hd
def Inv.funs(I:Inv X qp σ H s):s.heap.FunFrames X.base X.outer:=by
 have all:∀(l:List Env),(∀b∈MK l,b∈X.fs)->X.s₀.heap.FunFrames X.base l->s.heap.FunFrames X.base l:=by
  intro l
  induction l with
  |nil=>intro _ _;trivial
  |cons env r i=>
   intro h j;obtain⟨hk,⟨L,o,hf,u,v,hd⟩,w⟩:=j;have a:L∈X.fs:=h L (by unfold MK;rw[B7,hf];exact Al);obtain⟨x,e⟩:=I.base.slot L o v (I.ok.frf L a) a λz=>I.ok.exfs L z a;exact⟨hk,⟨L,_,hf,u,e,hd⟩,i (λb g=>h b (by unfold MK;rw[B7,hf];exact Ak _ g)) w⟩
 exact all X.outer (λ_ g=>g) I.ok.funs
def Inv.stack(I:Inv X qp σ H s):s.heap.FunFrames X.base X.stack:=by
 rcases I.ok.stk with e|⟨e,hf⟩
 ·rw[e];exact I.funs
 rw[e];obtain⟨m,a,_⟩:=I.loc;refine .cons (by rw[I.ok.kind];decide) hf a ?_ I.funs;exact Dk<|Ar I.ok.bsz I.ok.above
def Inv.stkSub(I:Inv X qp σ H s):∀b∈MK X.stack,b∈X.env.locals::X.fs:=λb a=>by
 rcases I.ok.stk with e|⟨e,hf⟩
 ·rw[e]at a;exact Ak _ a
 rw[e]at a;unfold MK at a;rw[B7,hf]at a;exact a
def Inv.stkFree(I:Inv X qp σ H s):∀b∈MK X.stack,H b=none:=λb hb=>by
 rcases KM.mp (I.stkSub b hb)with e|hb
 ·rw[e];exact I.free
 obtain⟨_,o,a,_⟩:=I.ok.funs.mem hb;exact I.base.free b o a (I.ok.frf b hb) λz=>I.ok.exfs b z hb
def Inv.step{ch:List Addr}(I:Inv X qp σ H s)(f:∀b∈ch,(b∈X.ex\/X.s₀.heap.objs.size<=b)/\b≠X.env.locals/\(∀x c,X.env.cells.lookup x=some c->c≠b)/\∀p∈X.pn++qp,p.1≠b)(keep:∀b o,b≠X.env.locals->b∉X.fs->b∉ch->s.heap.get? b=some o->H b=none->h'.get? b=some o)(slot:∀b o,b≠X.env.locals->b∈X.fs->b∉ch->s.heap.get? b=some o->H b=none->∃G,h'.get? b=some {o with slots:=G}) (free:∀b o,b∉ch->s.heap.get? b=some o->H b=none->H' b=none)(there:∀b o,b∉ch->s.heap.get? b=some o->∃y,h'.get? b=some y)(B:∀b xs,H b=some (.tup xs)->H' b=some (.tup xs)) (C:∀b o u,H b=some (.frz o u)->H' b=some (.frz o u)) (F:∀b ps,H b=some (.tbl ps)->∃more,H' b=some (.tbl<|ps++more))(ns:∀m,s.heap.Ns X.env.locals m->h'.Ns X.env.locals m) (J:JX X.prog X.w H' h') (S:AllBare g'):
  Inv X qp σ H' {s with heap:=h',gens:=g',drawn:=d',toks:=t'}:=by
 have L:∀b o,X.s₀.heap.get? b=some o->b≠X.env.locals:=λb o e=>Aw<|Ay (An e) I.ok.above;have h:∀b o,X.s₀.heap.get? b=some o->b∉X.ex->b∉ch:=λb o e a A=>by
  rcases(f b A).1 with z|z
  ·exact a z
  exact absurd (Ay (An e) z)<|A4 _
 have cellK:∀x c,X.env.cells.lookup x=some c->∀v,s.heap.IsCell c v->h'.IsCell c v:=by
  rintro x c e v ⟨o,E,hd⟩;have g:c∉ch:=λz=>(f c z).2.2.1 x c e rfl;by_cases hc:c∈X.fs
  ·obtain⟨G,q⟩:=slot c o (I.cne x c e) hc g E<|I.freeC x c e;exact⟨_,q,hd⟩
  exact⟨o,keep c o (I.cne x c e) hc g E<|I.freeC x c e,hd⟩
 refine⟨I.ok,I.os,S,⟨λb o e n A a=>?_,λb o e n A a=>?_,λb o e n a=>?_,λb o e a=>?_,λb xs e=>B b xs (I.base.tups b xs e),λb o xs e=>C b o xs (I.base.frzs b o xs e),λb ps e=>?_⟩,?_,λx c e=>?_,?_,λx c e=>?_,λp K=>?_,J,I.len⟩
 ·exact keep b o (L b o e) A (h b o e a) (I.base.keep b o e n A a)<|I.base.free b o e n a
 ·obtain⟨G,j⟩:=I.base.slot b o e n A a;obtain⟨N,M⟩:=slot b _ (L b o e) A (h b o e a) j<|I.base.free b o e n a;exact⟨N,M⟩
 ·obtain⟨y,j⟩:=I.base.there b o e a;exact free b y (h b o e a) j<|I.base.free b o e n a
 ·obtain⟨y,j⟩:=I.base.there b o e a;exact there b y (h b o e a) j
 ·obtain⟨T,j⟩:=I.base.tbls b ps e;obtain⟨U,M⟩:=F b _ j;exact⟨T++U,by rw[M,Fi]⟩
 ·obtain⟨m,W,Y⟩:=I.loc;refine⟨m,ns m W,λi x v j M Z=>?_⟩;obtain⟨u,r,l⟩:=Y i x v j M Z;refine⟨u,r,?_⟩
  rcases l with l|⟨k,c,e,z⟩
  ·exact .inl l
  exact .inr ⟨k,c,e,cellK x c e _ z⟩
 ·obtain⟨v,z⟩:=I.cell x c e;exact⟨v,cellK x c e v z⟩
 ·obtain⟨m,⟨o,_,_,E,_⟩,_⟩:=I.loc;exact free _ o (λz=>(f _ z).2.1 rfl) E I.free
 ·obtain⟨v,o,E,hd⟩:=I.cell x c e;exact free c o (λz=>(f c z).2.2.1 x c e rfl) E<|I.freeC x c e
 obtain⟨e,n,ne,Q,d⟩:=I.pin p K;have g:p.1∉ch:=λz=>(f p.1 z).2.2.2 p K rfl;exact⟨keep p.1 p.2 ne Q g e n,free p.1 p.2 g e n,ne,Q,d⟩
def Inv.un(I:Inv X qp σ H s)(u:Un X.fs [] H H' s.heap h')(c:JX X.prog X.w H' h'):Inv X qp σ H' {s with heap:=h',toks:=t'}:=by obtain⟨m,⟨o,A,E,j,r⟩,_⟩:=id I.loc;obtain⟨L,v⟩:=u.any j I.free (by simp);exact I.step (g':=s.gens) (d':=s.drawn) (ch:=[]) (λ_ z=>nomatch z) (λb o _ g _ e n=>u.keep b o e n g (by simp)) (λb o _ g _ e n=>u.slot b o e n g (by simp)) (λb o _ e n=>u.free b o e n (by simp)) (λb o _ e=>u.there b o e (by simp)) u.tups u.frzs u.tbls (λM hm=>by obtain⟨N,h,i,a,x⟩:=hm;rw[j]at a;cases a;exact⟨_,h,i,v,x⟩) c I.bare
def Inv.call{ch:List Addr}(I:Inv X qp σ H s)(u:Un (MK X.stack) ch H H' s.heap h')(l:JX X.prog X.w H' h')(q:AllBare g')(f:∀b∈ch,(b∈X.ex\/X.s₀.heap.objs.size<=b)/\b≠X.env.locals/\(∀x c,X.env.cells.lookup x=some c->c≠b)/\∀p∈X.pn++qp,p.1≠b):
  Inv X qp σ H' {s with heap:=h',gens:=g',drawn:=d',toks:=t'}:=by
 obtain⟨m,⟨o,L,M,v,r⟩,_⟩:=id I.loc;obtain⟨N,h⟩:=u.any v I.free λz=>(f _ z).2.1 rfl;exact I.step (ch:=ch) f (λb o h A a e n=>u.keep b o e n (λz=>(KM.mp<|I.stkSub b z).elim h A) a) (λb o _ _ a e n=>u.any e n a) (λb o a e n=>u.free b o e n a) (λb o a e=>u.there b o e a) u.tups u.frzs u.tbls (λy hm=>by obtain⟨B,i,j,g,E⟩:=hm;rw[v]at g;cases g;exact⟨_,i,j,h,E⟩) l q
def Inv.turned(I:Inv X qp σ H s)(k:∀b o,b≠it->s.heap.get? b=some o->h'.get? b=some o)(l:H it=none)(f:it≠X.env.locals)(y:it∈X.ex\/X.s₀.heap.objs.size<=it) (B:∀x c,X.env.cells.lookup x=some c->c≠it) (C:∀p∈X.pn++qp,p.1≠it):Inv X qp σ H {s with heap:=h',toks:=t'}:=by
 have g:∀b u,H b=some u->b≠it:=λb u e z=>by rw[z,l]at e;cases e
 refine I.step (g':=s.gens) (d':=s.drawn) (ch:=[it]) (λb h=>?_) (λb o _ _ a e _=>k b o (λz=>a (by simp[z])) e) (λb o _ _ a e _=>⟨o.slots,k b o (λz=>a (by simp[z])) e⟩) (λ_ _ _ _ n=>n)
  (λb o a e=>⟨o,k b o (λz=>a (by simp[z])) e⟩) (λ_ _ e=>e) (λ_ _ _ e=>e) (λb A e=>⟨#[],by rw[e];simp⟩) (λm hm=>?_) (λb u e=>?_) I.bare
 ·have e:b=it:=by simpa using h
  subst e;exact⟨y,f,B,C⟩
 ·obtain⟨o,i,j,w,r⟩:=hm;exact⟨o,i,j,k _ o (A7 f) w,r⟩
 ·refine(I.hok b u e).stay (λc v a q=>k c v ?_ q) (λ_ q=>q) λ_ _ q=>q
  rcases a with z|z
  ·rw[z];exact g b u e
  exact g c _ z
def Inv.tok(I:Inv X qp σ H s)(t:Nat):Inv X qp σ H {s with toks:=t}:=I.un (h':=s.heap) (t':=t) Un.refl I.hok
def Inv.kept{t':Nat}(I:Inv X qp σ H s)(k:∀b u,s.heap.get? b=some u->h'.get? b=some u):Inv X qp σ H {s with heap:=h',toks:=t'}:=I.un (Un.kept k)<|I.hok.kept k
def Inv.laid{a:Addr}{o:HO}{t':Nat}(I:Inv X qp σ H s)(k:∀b u,s.heap.get? b=some u->h'.get? b=some u)(c:s.heap.objs.size<=a)(new:Kw X.prog X.w (upd H a o) h' a o):
  Inv X qp σ (upd H a o) {s with heap:=h',toks:=t'}:=I.un (Un.laid k c<|I.hok.fresh c) (I.hok.laid k c new)
def Inv.write{x e:Addr}{o:HO}{t':Nat}(I:Inv X qp σ H s)(f:Sq (H x))(he:e=x\/H e=some (.own x))(k:∀b u,b≠e->s.heap.get? b=some u->h'.get? b=some u)(c:∃u,h'.get? e=some u)(new:Kw X.prog X.w (upd H x o) h' x o):Inv X qp σ (upd H x o) {s with heap:=h',toks:=t'}:=I.un (Un.write f he k c) (I.hok.write f he k c new)
def Inv.pins_of{c:List (Addr×Obj)}(I:Inv X qp σ H s)(h:∀p∈c,s.heap.get? p.1=some p.2/\H p.1=none/\p.1≠X.env.locals/\p.1∉X.fs/\∀v,p.2.data≠.cell v):Inv X c σ H s:=⟨I.ok,I.os,I.bare,I.base,I.loc,I.cell,I.free,I.freeC,λp a=>(W1.mp a).elim (λz=>I.pin p (BL _ z)) (h p),I.hok,I.len⟩
def Ys(c:N.Nodup)(a:N[i]?=some x)(b:N[j]?=some x):i=j:=by obtain⟨h,e1⟩:=KB.mp a;obtain⟨o,g⟩:=KB.mp b;exact(List.getElem_inj c).mp<|e1.trans g.symm
def iL{Q:Unit->Shared->Prop}(I:Inv X qp σ H s)(hN:X.N.Nodup)(hi:X.N[i]?=some x)(f:Loc X.env.scope x)(r:RelV v u)(h:∀s',Inv X qp (σ.set i<|some v) H s'->(∃a,By a s.heap s'.heap/\(a=X.env.locals\/X.env.cells.lookup x=some a))->Q () s') (hf:X.fn x=true\/X.env.scope.names.lookup x=some .local:=by first|exact .inl rfl|exact .inr rfl|assumption):wpAny M A (storeName X.env x u) Q E s:=by
 obtain⟨m,W,hl⟩:=id I.loc;have G:(X.env.scope.kind==.class || (X.env.scope.kind==.module&&X.env.locals != X.env.globals))=false:=by rw[I.ok.kind];rfl
 have hiσ:i<σ.length:=by rw[I.len];exact(KB.mp hi).1
 have cne:=I.cne;have tracked:∀{a:Addr}{h':KF},(∃o,s.heap.get? a=some o/\H a=none)->By a s.heap h'->JX X.prog X.w H h':=λ{a h'} ha g b ob e=>by
  obtain⟨_,_,l⟩:=ha;refine(I.hok b ob e).stay (λc T hc q=>(g.2 c ?_).trans q) (λ_ q=>q) λ_ _ q=>q;rintro rfl;rcases hc with rfl|hc
  ·rw[l]at e;cases e
  rw[l]at hc;cases hc
 rcases f with hk|hk
 ·refine wpAny_storeName_local hk W (λh' Y g=>?_) G;obtain⟨oL,_,_,Z,_⟩:=id W;refine h _ ⟨I.ok,I.os,I.bare,⟨λb o e n C f=>?_,λb o e n C f=>?_,I.base.free,λb o e f=>?_,I.base.tups,I.base.frzs,I.base.tbls⟩,⟨_,Y,λj y v' L B e3=>?_⟩,λy c e=>?_,I.free,I.freeC,λp hp=>?_,tracked ⟨oL,Z,I.free⟩ g,by simpa using I.len⟩ ⟨_,g,.inl rfl⟩
  ·exact(g.2 b<|Aw<|Ay (An e) I.ok.above).trans<|I.base.keep b o e n C f
  ·obtain⟨sl,L⟩:=I.base.slot b o e n C f;exact⟨sl,(g.2 b<|Aw<|Ay (An e) I.ok.above).trans L⟩
  ·obtain⟨o',L⟩:=I.base.there b o e f;exact⟨o',(g.2 b<|Aw<|Ay (An e) I.ok.above).trans L⟩
  ·by_cases hj:j=i
   ·subst hj;rw[hi]at L;cases L;rw[Ck hiσ]at B;cases B;exact⟨u,r,.inl ⟨hk,by simp⟩⟩
   ·rw[AE (A7 hj)]at B;obtain⟨u',r',q⟩:=hl j y v' L B e3;refine⟨u',r',?_⟩
    rcases q with⟨k,e⟩|⟨k,c,e,z⟩
    ·refine .inl ⟨k,?_⟩;have:y≠x:=λe=>hj<|Ys hN L<|e ▸ hi;simp[this,e]
    exact .inr ⟨k,c,e,z.sameBut g<|cne y c e⟩
  ·obtain⟨T,z⟩:=I.cell y c e;exact⟨T,z.sameBut g<|cne y c e⟩
  obtain⟨e,n,ne,nf,d⟩:=I.pin p hp;exact⟨(g.2 p.1 ne).trans e,n,ne,nf,d⟩
 ·have F:X.fn x=true:=by
   rcases hf with z|z
   ·exact z
   rw[z]at hk;cases hk
  obtain⟨c,hc⟩:=I.ok.has x<|.inl hk;obtain⟨T,z⟩:=I.cell x c hc;refine wpAny_storeName_cell I.ok.kind hk hc z λh' J g=>?_;obtain⟨oc,K,S⟩:=id z;refine h {s with heap:=h'} ⟨I.ok,I.os,I.bare,⟨λb o e n C f=>?_,λb o e n C f=>?_,I.base.free,λb o e f=>?_,I.base.tups,I.base.frzs,I.base.tbls⟩,⟨m,W.sameBut g<|A7<|cne x c hc,λj y v' L B e3=>?_⟩,λy U e=>?_,I.free,I.freeC,λp hp=>?_,tracked ⟨oc,K,I.freeC x c hc⟩ g,by simpa using I.len⟩ ⟨c,g,.inr hc⟩
  ·exact(g.2 b<|Aw<|Ay (An e)<|I.ok.cab x c F hc).trans<|I.base.keep b o e n C f
  ·obtain⟨sl,L⟩:=I.base.slot b o e n C f;exact⟨sl,(g.2 b<|Aw<|Ay (An e)<|I.ok.cab x c F hc).trans L⟩
  ·obtain⟨o',L⟩:=I.base.there b o e f;exact⟨o',(g.2 b<|Aw<|Ay (An e)<|I.ok.cab x c F hc).trans L⟩
  ·by_cases hj:j=i
   ·subst hj;rw[hi]at L;cases L;rw[Ck hiσ]at B;cases B;exact⟨u,r,.inr ⟨.inl hk,c,hc,J⟩⟩
   ·rw[AE (A7 hj)]at B;obtain⟨u',r',q⟩:=hl j y v' L B e3;refine⟨u',r',?_⟩
    rcases q with q|⟨k,U,e,z'⟩
    ·exact .inl q
    refine .inr ⟨k,U,e,z'.sameBut g ?_⟩;rintro rfl;exact hj<|Ys hN L<|I.ok.inj _ _ _ e hc ▸ hi
  ·by_cases hcc:U=c
   ·subst hcc;exact⟨_,J⟩
   obtain⟨w2,z2⟩:=I.cell y U e;exact⟨w2,z2.sameBut g hcc⟩
  obtain⟨e,n,ne,nf,d⟩:=I.pin p hp;refine⟨(g.2 p.1 ?_).trans e,n,ne,nf,d⟩;intro q;rw[q,K]at e;have q':oc=p.2:=As e;exact d T (by rw[<-q'];exact S)
def QJ{Q:Unit->Shared->Prop}(I:Inv X qp σ H s)(c:X.N.Nodup)(hi:X.N[i]?=some x)(e:Loc X.env.scope x)(r:RelV v u)(h:∀s',Inv X qp (σ.set i<|some v) H s'->Q () s') (hf:X.fn x=true\/X.env.scope.names.lookup x=some .local:=by first|exact .inl rfl|exact .inr rfl|assumption):wpAny M A (storeName X.env x u) Q E s:=
 iL I c hi e r (λs' a _=>h s' a) hf
def Inv.call'{ch:List Addr}(I:Inv X qp σ H s)(m:s'.os=s.os)(u:Un (MK X.stack) ch H H' s.heap s'.heap)(f:JX X.prog X.w H' s'.heap)(n:AllBare s'.gens)(l:∀b∈ch,(b∈X.ex\/X.s₀.heap.objs.size<=b)/\b≠X.env.locals/\(∀x c,X.env.cells.lookup x=some c->c≠b)/\∀p∈X.pn++qp,p.1≠b):Inv X qp σ H' s':=by
 obtain⟨h',g',d',t',a⟩:=s';have e:a=s.os:=m;subst e;exact I.call (g':=g') (t':=t') (d':=d') u f n l
end
noncomputable abbrev XK:=GM->Option Addr->Hp->Prop
noncomputable abbrev St:=List (Option V)
noncomputable abbrev VK:=V->Hp->Prop
noncomputable abbrev TE:=St->Hp->VK->Prop
noncomputable abbrev TT:=St->Hp->(Bool->Hp->Prop)->Prop
noncomputable abbrev TA:=St->Hp->(List V->Hp->Prop)->Prop
structure Ends where
 nx:St->Hp->Prop
 rt:VK
 bk:St->Hp->Prop:=λ_ _=>False
 ct:St->Hp->Prop:=λ_ _=>False
noncomputable abbrev TS:=Ends->St->Hp->Prop
def EP(X:Cx)(qp:List (Addr×Obj))(σ:St)(Q:VK)(u:GM)(s':Shared):Prop:=∃v H',Inv X qp σ H' s'/\RelV v u/\Q v H'
def TP(X:Cx)(qp:List (Addr×Obj))(σ:St)(Q:Bool->Hp->Prop)(b:Bool)(s':Shared):Prop:=∃H',Inv X qp σ H' s'/\Q b H'
def AP(X:Cx)(qp:List (Addr×Obj))(σ:St)(Q:List V->Hp->Prop)(us:List GM)(s':Shared):Prop:=∃a H',Inv X qp σ H' s'/\Vals a us/\Q a H'
def SP(X:Cx)(qp:List (Addr×Obj))(D:Ends)(f:Flow)(s':Shared):Prop:=
 match f with
 |.next=>∃σ' H',Inv X qp σ' H' s'/\D.nx σ' H'
 |.brk=>∃σ' H',Inv X qp σ' H' s'/\D.bk σ' H'
 |.cont=>∃σ' H',Inv X qp σ' H' s'/\D.ct σ' H'
 |.ret u=>∃v σ' H',Inv X qp σ' H' s'/\RelV v u/\D.rt v H'
def PE(X:Cx)(e:PP)(t:TE):Prop:=∀(qp:List (Addr×Obj)) (s:Shared) (σ:St) (H:Hp) (Q:VK),Inv X qp σ H s->t σ H Q->wpAny (IR X.prog X.w) X.A (UV e X.env) (EP X qp σ Q) X.xe s
def PT(X:Cx)(e:PP)(t:TT):Prop:=∀(qp:List (Addr×Obj)) (s:Shared) (σ:St) (H:Hp) (Q:Bool->Hp->Prop),Inv X qp σ H s->t σ H Q->wpAny (IR X.prog X.w) X.A (isTrue e X.env<|UV e X.env) (TP X qp σ Q) X.xe s
def PW(X:Cx)(e:PP)(t:TT):Prop:=∀(whole:Sem GM) (qp:List (Addr×Obj)) (s:Shared) (σ:St) (H:Hp) (Q:Bool->Hp->Prop),Inv X qp σ H s->t σ H Q->wpAny (IR X.prog X.w) X.A (isTrue e X.env whole) (TP X qp σ Q) X.xe s
variable {e:PP}
def PW.pt{t:TT}(h:PW X e t):PT X e t:=h _
def PA(X:Cx)(es:List PP)(t:TA):Prop:=∀(pos:Pos) (qp:List (Addr×Obj)) (s:Shared) (σ:St) (H:Hp) (Q:List V->Hp->Prop),Inv X qp σ H s->t σ H Q->wpAny (IR X.prog X.w) X.A (spliced<|backTo pos<|SL es X.env) (AP X qp σ Q) X.xe s
def PS(X:Cx)(st:SZ)(t:TS):Prop:=∀(qp:List (Addr×Obj)) (s:Shared) (σ:St) (H:Hp) (D:Ends),Inv X qp σ H s->t D σ H->wpAny (IR X.prog X.w) X.A (exec st X.env) (SP X qp D) X.xe s
def K1(X:Cx)(st:List SZ)(t:TS):Prop:=∀(qp:List (Addr×Obj)) (s:Shared) (σ:St) (H:Hp) (D:Ends),Inv X qp σ H s->t D σ H->wpAny (IR X.prog X.w) X.A (execs st X.env) (SP X qp D) X.xe s
def HA{t:Sem α}{Q c:α->Shared->Prop}{s:Shared}(h:wpAny M A t Q E s)(f:∀a s,Q a s->c a s):wpAny M A t c E s:=A6 h f λ_ _ x=>x
variable {σ:St}{Q:Qqa}{pos:Pos}{ta tb:TE}{op:CmpOp}{c:PP}
section
def Uk(i:Nat):TE:=λσ H Q=>∃v,σ[i]?=some (some v)/\Q v H
def tC(v:V):TE:=λ_ H Q=>Q v H
def bX(n:X.N[i]?=some x)(q:UL X.env.scope x)(hd:(x==("__debug__":Str))=false:=by decide)(f:(x==("__classdict__":Str))=false:=by decide):PE X (.Name x pos) (Uk i):=by
 intro qp s σ H Q I h;obtain⟨v,e,h⟩:=h;obtain⟨m,j,o⟩:=I.loc;obtain⟨u,r,l⟩:=o i x v n e q;have fin:EP X qp σ Q u s:=⟨v,H,I,r,h⟩;rcases l with⟨hk,hm⟩|⟨hk,c,g,a⟩
 ·exact F5 (EO I.ok.kind hk j hm fin) hd
 ·rcases hk with hk|hk
  ·exact F5 (EY I.ok.kind hk g a fin) hd
  exact F5 (wpAny_loadName_free I.ok.kind hk g a fin f) hd
def oV{i j pos}:PE X (.Constant (.int i) j pos) (tC<|.int i):=λ_ _ _ H _ I h=>wpAny_Constant_int ⟨.int i,H,I.tok _,⟨_,rfl⟩,h⟩
def oI{b j pos}:PE X (.Constant (.bool b) j pos) (tC<|.bl b):=λ_ _ _ H _ I h=>Constant_bool ⟨.bl b,H,I,rfl,h⟩
def oX{j pos}:PE X (.Constant .none j pos) (tC .non):=λ_ _ _ H _ I h=>Constant_none ⟨.non,H,I,rfl,h⟩
def bW{x j pos}:PE X (.Constant (.str x) j pos) (tC<|.str x):=λ_ _ _ H _ I h=>Calls.Constant_str ⟨.str x,H,I.tok _,⟨_,rfl⟩,h⟩
def Gl(X:Cx)(x:Str):Prop:=X.env.kindOf x=some .globalImplicit
def Vm(I:Inv X qp σ H s)(f:Gl X x)(hm:X.mg x=some u)(h:Q u s)(hd:(x==("__debug__":Str))=false:=by decide):wpAny (IR X.prog X.w) X.A (UV (.Name x pos) X.env) Q E s:=
 CF I.ok.kind f (Ea (by rw[I.ok.glob];exact I.mod.glob.keeps I.bk) hm h) hd
def QB(I:Inv X qp σ H s)(f:Gl X x)(hm:X.mg x=none)(l:UF x=some u)(h:Q u s)(m:x≠"__name__":=by decide) (hd:(x==("__debug__":Str))=false:=by decide):wpAny (IR X.prog X.w) X.A (UV (.Name x pos) X.env) Q E s:=by
 obtain⟨e,a,c⟩:=I.mod.blt;exact CF I.ok.kind f (Calls.loadGlobal_builtin (by rw[I.ok.glob];exact I.mod.glob.keeps I.bk) hm (by rw[I.ok.blt];exact a.keeps I.bk) ((c x m).trans l) h) hd
def XQ(f:Gl X x)(hm:X.mg x=some u)(r:RelV v u)(hd:(x==("__debug__":Str))=false:=by decide):PE X (.Name x pos) (tC v):=λ_ _ _ H _ I h=>Vm I f hm ⟨v,H,I,r,h⟩ hd
def tP(f:Gl X x)(hm:X.mg x=none)(l:UF x=some u)(r:RelV v u)(m:x≠"__name__":=by decide)(hd:(x==("__debug__":Str))=false:=by decide):PE X (.Name x pos) (tC v):=λ_ _ _ H _ I h=>QB I f hm l ⟨v,H,I,r,h⟩ m hd
variable {a b:PP}
def PC(X:Cx)(op:CmpOp)(a b:PP)(t:TE):Prop:=
 ∀(qp:List (Addr×Obj)) (s:Shared) (σ:St) (H:Hp) (Q:VK),Inv X qp σ H s->t σ H Q ->
  wpAny (IR X.prog X.w) X.A (UV a X.env) (λv s₁=>wpAny (IR X.prog X.w) X.A (UV b X.env) (λu s₂=>wpAny (IR X.prog X.w) X.A (Pv op v u) (EP X qp σ Q) X.xe s₂) X.xe s₁) X.xe s
def tB(t:TE):TT:=λσ H Q=>t σ H λx H1=>∃c,x=.bl c/\Q c H1
def oS{t:TE}(h:PC X op a b t)(l:behindInMarks op b=false:=by first|exact f _ (by decide) (by decide)|rfl):PE X (.Compare a [op] [b] pos) t:=λqp s σ H Q I hw=>wpAny_Compare1 (h qp s σ H Q I hw) l
def bQ{t:TE}(h:PC X op a b t)(l:behindInMarks op b=false:=by first|exact f _ (by decide) (by decide)|rfl):PT X (.Compare a [op] [b] pos) (tB t):=by intro qp s σ H Q I hw;refine EH (HA (h qp s σ H _ I hw) λv s1 l=>HA l λu s2 e=>HA e ?_) l;rintro c s3 ⟨x,H1,g,i,j⟩;obtain⟨d,rfl,q⟩:=j;cases i;exact Bq ⟨H1,g,q⟩
variable {tA tB':TT}{rest:List PP}
def ZF(t u:TT):TT:=λσ H Q=>t σ H λc H1=>if c=true then u σ H1 Q else Q false H1
def tOr(t u:TT):TT:=λσ H Q=>t σ H λc H1=>if c=true then Q true H1 else u σ H1 Q
def Zv(t:TT):TT:=λσ H Q=>t σ H λc H1=>Q (!c) H1
def PQ(f:PT X a tA):PW X (.BoolOp .And [a] pos) tA:=by
 intro g qp s σ H Q I h;refine isTrue_and<|HA (f qp s σ H Q I h) λc s1 e=>?_
 cases c with
 |true=>exact isTrue_and_nil e
 |false=>exact e
def QX(f:PT X a tA):PW X (.BoolOp .Or [a] pos) tA:=by
 intro g qp s σ H Q I h;refine isTrue_or<|HA (f qp s σ H Q I h) λc s1 e=>?_
 cases c with
 |false=>exact isTrue_or_nil e
 |true=>exact e
def QY(f:PT X a tA)(l:PW X (.BoolOp .And (b::rest) pos) tB'):PW X (.BoolOp .And (a::b::rest) pos) (ZF tA tB'):=by
 intro i qp s σ H Q I h;refine isTrue_and<|HA (f qp s σ H _ I h) ?_;rintro c s1 ⟨H1,e,g⟩
 cases c with
 |true=>exact l i qp s1 σ H1 Q e g
 |false=>exact⟨H1,e,g⟩
def Ut(f:PT X a tA)(l:PW X (.BoolOp .Or (b::rest) pos) tB'):PW X (.BoolOp .Or (a::b::rest) pos) (tOr tA tB'):=by
 intro i qp s σ H Q I h;refine isTrue_or<|HA (f qp s σ H _ I h) ?_;rintro c s1 ⟨H1,e,g⟩
 cases c with
 |true=>exact⟨H1,e,g⟩
 |false=>exact l i qp s1 σ H1 Q e g
def pN(ha:PT X a tA):PT X (.UnaryOp .Not a pos) (Zv tA):=by intro qp s σ H Q I h;exact isTrue_not<|ha qp s σ H (λc H1=>Q (!c) H1) I h
def nO(ta tb:TE):TE:=λσ H Q=>ta σ H λx H1=>∃c,x=.bl c/\if c=true then tb σ H1 Q else Q (.bl false) H1
def Zu(ta tb:TE):TE:=λσ H Q=>ta σ H λx H1=>∃c,x=.bl c/\if c=true then Q (.bl true) H1 else tb σ H1 Q
def nW(ta:TE):TE:=λσ H Q=>ta σ H λx H1=>∃c,x=.bl c/\Q (.bl<|!c) H1
def bV{op}{t:TE}(h:PE X a t):PE X (.BoolOp op [a] pos) t:=λqp s σ H Q I hw=>BoolOp_one<|h qp s σ H Q I hw
def oR(f:PE X a ta)(l:PE X (.BoolOp .And (b::rest) pos) tb):PE X (.BoolOp .And (a::b::rest) pos) (nO ta tb):=by
 intro qp s σ H Q I h;refine BoolOp_and<|HA (f qp s σ H _ I h) ?_;rintro v s1 ⟨x,H1,g,i,e⟩;obtain⟨c,rfl,e⟩:=e;cases i;refine Bq ?_
 cases c with
 |true=>exact l qp s1 σ H1 Q g e
 |false=>exact⟨.bl false,H1,g,rfl,e⟩
def oM(f:PE X a ta)(l:PE X (.BoolOp .Or (b::rest) pos) tb):PE X (.BoolOp .Or (a::b::rest) pos) (Zu ta tb):=by
 intro qp s σ H Q I h;refine BoolOp_or<|HA (f qp s σ H _ I h) ?_;rintro v s1 ⟨x,H1,g,i,e⟩;obtain⟨c,rfl,e⟩:=e;cases i;refine Bq ?_
 cases c with
 |false=>exact l qp s1 σ H1 Q g e
 |true=>exact⟨.bl true,H1,g,rfl,e⟩
def oY(f:PE X a ta):PE X (.UnaryOp .Not a pos) (nW ta):=by intro qp s σ H Q I h;refine UnaryOp_<|HA (f qp s σ H _ I h) ?_;rintro v s1 ⟨x,H1,g,i,e⟩;obtain⟨c,rfl,e⟩:=e;cases i;exact not_of<|Bq ⟨.bl<|!c,H1,g,rfl,e⟩
def tIf(t:TT)(ta tb:TE):TE:=λσ H Q=>t σ H λc H1=>if c=true then ta σ H1 Q else tb σ H1 Q
def zG(f:PT X c tA)(l:PE X a ta)(m:PE X b tb):PE X (.IfExp c a b pos) (tIf tA ta tb):=by
 intro qp s σ H Q I h;refine wpAny_IfExp<|HA (f qp s σ H _ I h) ?_;rintro d s1 ⟨H1,e,g⟩
 cases d with
 |true=>exact l qp s1 σ H1 Q e g
 |false=>exact m qp s1 σ H1 Q e g
end
def Kf(K:Ac)(H:Hp)(a:Addr)(xs:List V):Prop:=
 Rd H a (.lst xs) \/
  ∃(o:Obj) (c:Array GM) (n:Nat),K.lookup a=some o/\o.cls=.type "list"/\o.dict=none/\o.data=.seq c n/\c.size<=sizeLine/\Vals xs c.toList
def Jg(K:Ac)(H:Hp)(a:Addr)(xs:List V):Prop:=
 Rd H a (.tup xs) \/
  ∃(o:Obj) (c:Array GM) (n:Nat),K.lookup a=some o/\o.cls=.type "tuple"/\o.data=.seq c n/\c.size<=sizeLine/\Vals xs c.toList
def GW:GM->Option V
 |.none=>some .non
 |.bool b=>some<|.bl b
 |.int i _=>some<|.int i
 |.str x _=>some<|.str x
 |.bytes b _=>some<|.byt b
 |.float b _=>some<|.flt b
 |.ref a=>some<|.ref a
 |.type n=>some<|.ty n
 |_=>none
def RelV.abs{x:V}(r:RelV x u):GW u=some x:=by
 cases x with
 |non=>cases r;rfl
 |bl _=>cases r;rfl
 |int _=>obtain⟨t,rfl⟩:=r;rfl
 |str _=>obtain⟨t,rfl⟩:=r;rfl
 |byt _=>obtain⟨t,rfl⟩:=r;rfl
 |flt _=>obtain⟨t,rfl⟩:=r;rfl
 |ref _=>cases r;rfl
 |ty _=>cases r;rfl
variable {y:V}
def RelV.inj{x:V}(r:RelV x u)(q:RelV y u):x=y:=As<|r.abs.symm.trans q.abs
theorem Vals.inj:∀{xs f:List V}{us:List GM},Vals xs us->Vals f us->xs=f
 |_,_,_,.nil,.nil=>rfl
 |_,_,_,.cons r t,.cons l t'=>by rw[r.inj l,Vals.inj t t']
variable {K:Ac}
section
variable {xs ys:List V}
def Kf.of(h:H a=some (.lst xs)):Kf K H a xs:=.inl<|.inl h
def Jg.of(h:H a=some (.tup xs)):Jg K H a xs:=.inl<|.inl h
def Inv.list(I:Inv X qp σ H s)(h:Kf X.K H a xs):∃its:List GM,Vals xs its/\PlainL s.heap a its.toArray/\xs.length<=sizeLine:=by
 rcases h with h|⟨o,its,n,hk,c,hd,g,i,r⟩
 ·obtain⟨z,its,n,r,e⟩:=h.ok I.hok;exact⟨its,r,⟨_,n,e,rfl,rfl,rfl⟩,z⟩
 refine⟨its.toList,r,⟨o,n,I.kIn a o hk,c,hd,by simpa using g⟩,?_⟩;have e:=r.length;simp only[AA]at e;omega
def Inv.tuple(I:Inv X qp σ H s)(h:Jg X.K H a xs):∃its:List GM,Vals xs its/\IsTup s.heap a its.toArray/\xs.length<=sizeLine:=by
 rcases h with h|⟨o,its,n,hk,c,g,i,r⟩
 ·obtain⟨z,its,r,p⟩:=h.ok I.hok;exact⟨its,r,p.t,z⟩
 refine⟨its.toList,r,⟨o,I.kIn a o hk,c,n,by simpa using g⟩,?_⟩;have e:=r.length;simp only[AA]at e;omega
def Inv.list_inj(I:Inv X qp σ H s)(h:Kf X.K H a xs)(h':Kf X.K H a ys):xs=ys:=by
 obtain⟨g,r,⟨o,n,e,_,_,d⟩,_⟩:=I.list h;obtain⟨c,j,⟨u,v,i,_,_,d'⟩,_⟩:=I.list h';rw[e]at i;cases i;rw[d]at d';injection d' with d1 _
 have:g=c:=by simpa using congrArg Gw d1
 subst this;exact r.inj j
def Inv.tuple_inj(I:Inv X qp σ H s)(h:Jg X.K H a xs)(h':Jg X.K H a ys):xs=ys:=by
 obtain⟨g,r,⟨o,e,_,n,d⟩,_⟩:=I.tuple h;obtain⟨c,j,⟨u,i,_,v,d'⟩,_⟩:=I.tuple h';rw[e]at i;cases i;rw[d]at d';injection d' with d1 _
 have:g=c:=by simpa using congrArg Gw d1
 subst this;exact r.inj j
end
noncomputable abbrev Cx.wish (X:Cx) (E:Qqa):Cx:={X with xe:=E}
noncomputable abbrev Cx.nox (X:Cx):Cx:=X.wish λ_ _=>False
def Cx.Ok.wish{X:Cx}(ok:X.Ok)(E:Qqa):(X.wish E).Ok:=⟨ok.mod,ok.kind,ok.glob,ok.blt,ok.above,ok.inj,ok.has,ok.cab,ok.hd,ok.frames,ok.stk,ok.exf,ok.bs,ok.bsz,ok.noex,ok.exfs,ok.funs,ok.frf⟩
def Cx.Ok.unwish(ok:(X.wish E).Ok):X.Ok:=⟨ok.mod,ok.kind,ok.glob,ok.blt,ok.above,ok.inj,ok.has,ok.cab,ok.hd,ok.frames,ok.stk,ok.exf,ok.bs,ok.bsz,ok.noex,ok.exfs,ok.funs,ok.frf⟩
def Inv.wish(I:Inv X qp σ H s)(E:Qqa):Inv (X.wish E) qp σ H s:=⟨I.ok.wish E,I.os,I.bare,I.base,I.loc,I.cell,I.free,I.freeC,I.pin,I.hok,I.len⟩
def Inv.unwish(I:Inv (X.wish E) qp σ H s):Inv X qp σ H s:=⟨I.ok.unwish,I.os,I.bare,I.base,I.loc,I.cell,I.free,I.freeC,I.pin,I.hok,I.len⟩
def SP.unwish{D:Ends}{f:Flow}{s':Shared}(h:SP (X.wish E) qp D f s'):SP X qp D f s':=by
 cases f with
 |next=>obtain⟨σ',H',I,q⟩:=h;exact⟨σ',H',I.unwish,q⟩
 |brk=>obtain⟨σ',H',I,q⟩:=h;exact⟨σ',H',I.unwish,q⟩
 |cont=>obtain⟨σ',H',I,q⟩:=h;exact⟨σ',H',I.unwish,q⟩
 |ret u=>obtain⟨v,σ',H',I,r,q⟩:=h;exact⟨v,σ',H',I.unwish,r,q⟩
def K1.nox{st:List SZ}{t:TS}(h:K1 X.nox st t):K1 X st t:=λqp s σ H D I hw=>
 A6 (h qp s σ H D (I.wish _) hw) (λ_ _ q=>q.unwish) λ_ _ z=>False.elim z
variable {te:TE}{tc:TT}
section
variable {st:SZ}{rest:List SZ}{t u:TS}
def nV:TS:=λD σ H=>D.nx σ H
def Zr(t u:TS):TS:=λD σ H=>t {D with nx:=u D} σ H
def vR:K1 X [] nV:=λ_ _ σ H _ I h=>Cd ⟨σ,H,I,h⟩
def fW(l:PS X st t)(m:K1 X rest u):K1 X (st::rest) (Zr t u):=by
 intro qp s σ H D I h;refine D0<|HA (l qp s σ H {D with nx:=u D} I h) λf s1 q=>?_
 cases f with
 |next=>
  obtain⟨σ',H',a,q⟩:=q;exact m qp s1 σ' H' D a q
 |ret v=>exact q
 |brk=>exact q
 |cont=>exact q
def Ya(l:PS X st t):K1 X [st] t:=by
 intro qp s σ H D I h;refine D0<|HA (l qp s σ H D I h) λf s1 q=>?_
 cases f with
 |next=>exact Cd q
 |ret v=>exact q
 |brk=>exact q
 |cont=>exact q
def Inv.quiet(I:Inv X qp σ H s):interactive X.env=false:=by simp[interactive,I.ok.kind]
def nU(te:TE):TS:=λD σ H=>te σ H λ_ H1=>D.nx σ H1
def vQ(he:PE X e te)(f:swapsWith e none pos.line X.env=pure false:=by rfl):PS X (.Expr e pos) (nU te):=by intro qp s σ H D I h;exact wpAny_Expr_any (HA (he qp s σ H _ I h) λv s1 ⟨x,H1,a,g,c⟩=>⟨σ,H1,a,c⟩) I.quiet f
def Zs(te:TE):TS:=λD σ H=>te σ H D.rt
def pM(he:PE X e te):PS X (.Return (some e) pos) (Zs te):=by intro qp s σ H D I h;exact wpAny_Return_some<|HA (he qp s σ H _ I h) λv s1 ⟨x,H1,a,c,g⟩=>⟨x,σ,H1,a,c,g⟩
def Zy(c:TT)(t u:TS):TS:=λD σ H=>c σ H λb H1=>if b=true then t D σ H1 else u D σ H1
def aG{a b:List SZ}(f:PT X c tc)(l:K1 X a t)(m:K1 X b u):PS X (.If c a b pos) (Zy tc t u):=by
 intro qp s σ H D I h;refine wpAny_If<|HA (f qp s σ H _ I h) ?_;rintro d s1 ⟨H1,e,g⟩
 cases d with
 |true=>exact l qp s1 σ H1 D e g
 |false=>exact m qp s1 σ H1 D e g
end
noncomputable abbrev TG:=V->St->Hp->(St->Hp->Prop)->Prop
noncomputable abbrev Pc:=List V->St->Hp->(St->Hp->Prop)->Prop
def PG(X:Cx)(target:PP)(t:TG):Prop:=
 ∀(qp:List (Addr×Obj)) (s:Shared) (σ:St) (H:Hp) (v:V) (u:GM) (Q:St->Hp->Prop),Inv X qp σ H s->RelV v u->t v σ H Q ->
  wpAny (IR X.prog X.w) X.A (assign target X.env u) (λ_ s'=>∃σ' H',Inv X qp σ' H' s'/\Q σ' H') X.xe s
def OK(X:Cx)(ts:List PP)(t:Pc):Prop:=
 ∀(qp:List (Addr×Obj)) (s:Shared) (σ:St) (H:Hp) (a:List V) (us:List GM) (Q:St->Hp->Prop),Inv X qp σ H s->Vals a us->t a σ H Q ->
  wpAny (IR X.prog X.w) X.A (assignInOrder ((assignEach ts X.env).map (·.2)) us) (λ_ s'=>∃σ' H',Inv X qp σ' H' s'/\Q σ' H') X.xe s
noncomputable abbrev Rh:=V->V->V->Hp->(Hp->Prop)->Prop
def Rj(X:Cx)(t:Rh):Prop:=
 ∀(qp:List (Addr×Obj)) (s:Shared) (σ:St) (H:Hp) (o i v:V) (a c u:GM) (Q:Hp->Prop),Inv X qp σ H s->RelV o a->RelV i c->RelV v u->t o i v H Q ->
  wpAny (IR X.prog X.w) X.A (setItem a c u) (λ_ s'=>∃H',Inv X qp σ H' s'/\Q H') X.xe s
noncomputable abbrev WE:=V->V->Hp->VK->Prop
def kU(X:Cx)(op:Operator)(t:WE):Prop:=
 ∀(qp:List (Addr×Obj)) (s:Shared) (σ:St) (H:Hp) (x y:V) (v u:GM) (Q:VK),Inv X qp σ H s->RelV x v->RelV y u->t x y H Q ->
  wpAny (IR X.prog X.w) X.A (inplaceOp op v u) (EP X qp σ Q) X.xe s
variable {es:List PP}{n:Nat}{tg:PP}{pos':Pos}
def G5(i:Nat):TG:=λv σ H Q=>Q (σ.set i<|some v) H
def wK(f:X.N.Nodup)(hi:X.N[i]?=some x)(l:Loc X.env.scope x)(hf:X.fn x=true\/X.env.scope.names.lookup x=some .local:=by first|exact .inl rfl|exact .inr rfl|assumption):PG X (.Name x pos) (G5 i):=by intro qp s σ H v u Q I r h;exact Fz<|QJ I f hi l r (λs' a=>⟨_,H,a,h⟩) hf
def Z5:Pc:=λa σ H Q=>a=[]/\Q σ H
def lD(t:TG)(u:Pc):Pc:=λa σ H Q=>∃v r,a=v::r/\t v σ H λσ' H'=>u r σ' H' Q
def wL:OK X [] Z5:=by intro qp s σ H a us Q I r h;obtain⟨e,h⟩:=h;subst e;cases r;exact FA ⟨σ,H,I,h⟩
def zH{t:TG}{u:Pc}(f:PG X e t)(l:OK X es u)(m:(assignEach (e::es) X.env).map (·.2)=assign e X.env::(assignEach es X.env).map (·.2):=by rfl):OK X (e::es) (lD t u):=by
 intro qp s σ H j us Q I r h;obtain⟨v,n,a,h⟩:=h;subst a;cases r with
 |cons r c=>
  rw[m];refine DH<|HA (f qp s σ H _ _ _ I r h) ?_;rintro _ s1 ⟨σ1,H1,g,i⟩;exact l qp s1 σ1 H1 _ _ Q g c i
def Z3(K:Ac)(n:Nat)(t:Pc):TG:=λv σ H Q=>∃a xs,v=.ref a/\Jg K H a xs/\xs.length=n/\t xs σ H Q
def pC{k:Nat}{t:Pc}(l:X.calm=true)(h:OK X es t)(m:(assignEach es X.env).length=n:=by rfl) (f:(assignEach es X.env).findIdx? (·.1)=none:=by rfl):PG X (.Tuple es k pos) (Z3 X.K n t):=by
 intro qp s σ H v u Q I r hw;obtain⟨a,xs,g,i,j,hw⟩:=hw;subst g;cases r;obtain⟨w,c,x,E⟩:=I.tuple i;refine assign_Tuple_tuple (I.ok.hd l) x (by simp[m,<-j,c.length]) f λh' y=>?_;have A:Inv X qp σ H {s with heap:=h'}:=I.kept (t':=s.toks) λb o e=>y b o (Aw<|An e) e;exact h qp _ σ H xs _ Q A (by simpa using c) hw
def Z4(to f:TE)(t:Rh):TG:=λv σ H Q=>to σ H λo H1=>f σ H1 λi a=>t o i v a λc=>Q σ c
def pB{o i:PP}{to m:TE}{t:Rh}(q:PE X o to)(hi:PE X i m)(z:Rj X t)(B:∀v,assign (.Subscript o i pos) X.env v=(do
   let f <-holding [v] (UV o X.env)
   let l <-holding [v,f] (UV i X.env)
   standAt pos
   holding [v,f,l] (setItem f l v)
   release [v,f,l] []):=by intro _;rfl):PG X (.Subscript o i pos) (Z4 to m t):=by
 intro qp s σ H v u Q I r h;rw[B];refine Ab<|Bf<|HA (q qp s σ H _ I h) ?_;rintro f s1 ⟨x,H1,a,c,e⟩;refine Ab<|Bf<|HA (hi qp s1 σ H1 _ a e) ?_;rintro l s2 ⟨y,g,j,n,w⟩;refine Ab<|BC<|Ab<|Bf<|HA (z qp s2 σ g x y v f l u _ j c n r w) ?_;rintro _ s3 ⟨A,E,K⟩;exact wpAny_release ⟨σ,A,E,K⟩
def QW(te:TE)(g:TG):TS:=λD σ H=>te σ H λx H1=>g x σ H1 D.nx
def pG{g:TG}(he:PE X e te)(f:PG X tg g)(l:swapsWithSole [tg] e pos.line X.env=pure false:=by rfl)(hw:swappedStores [tg] e X.env=pure none:=by rfl)(m:(assignEach [tg] X.env).map (·.2)=[assign tg X.env]:=by rfl):PS X (.Assign [tg] e pos) (QW te g):=by
 intro qp s σ H D I h;refine wpAny_Assign_stores (HA (he qp s σ H _ I h) ?_) l hw;rintro v s1 ⟨x,H1,a,c,i⟩;rw[m];exact HA (f qp s1 σ H1 x v _ a c i) λ_ s2 q=>q
def bP(f:X.N.Nodup)(hi:X.N[i]?=some x)(l:Loc X.env.scope x)(he:PE X e te)(m:swapsWith e (some<|.Name x pos') pos.line X.env=pure false:=by rfl)(hf:X.fn x=true\/X.env.scope.names.lookup x=some .local:=by first|exact .inl rfl|exact .inr rfl|assumption):
  PS X (.Assign [.Name x pos'] e pos) (QW te<|G5 i):=by
 intro qp s σ H D I h;refine FB (HA (he qp s σ H _ I h) ?_) m;rintro v s1 ⟨y,H1,a,c,g⟩;exact QJ a f hi l c (λs2 j=>⟨_,H1,j,g⟩) hf
def Zt(i j:Nat)(ta:TA):TS:=λD σ H=>ta σ H λa H1=>∃v w,a=[v,w]/\D.nx ((σ.set i<|some v).set j<|some w) H1
def pL{y:Str}{a b:PP}{ta:TA}{f py pt:Pos}{kt k2 pt2}(B:X.calm=true)(m:X.N.Nodup)(hi:X.N[i]?=some x)(C:X.N[j]?=some y)(l:i≠j)(r:X.env.scope.names.lookup x=some .local) (z:X.env.scope.names.lookup y=some .local) (F:PA X [a,b] ta)(hw:swappedStores [.Tuple [.Name x f,.Name y py] kt pt] (.Tuple [a,b] k2 pt2) X.env=pure (some [x,y]))(G:swapsWithSole [.Tuple [.Name x f,.Name y py] kt pt] (.Tuple [a,b] k2 pt2) pos.line X.env=pure false:=by rfl):
  PS X (.Assign [.Tuple [.Name x f,.Name y py] kt pt] (.Tuple [a,b] k2 pt2) pos) (Zt i j ta):=by
 intro qp s σ H D I h;rw[exec_Assign_arm];refine Ab<|BC ?_;rw[G];refine Ab<|Ae ?_;rw[if_neg (by decide)];refine Ab<|Tuple_<|HA (F _ qp s σ H _ I h) ?_;rintro us s1 ⟨W,H1,I1,L,n⟩;obtain⟨v,w,M,n⟩:=n;subst M;obtain⟨c,g,rfl,Q,u⟩:∃c g,us=[c,g]/\RelV v c/\RelV w g:=by
  cases L with
  |cons p q=>
   cases q with
   |cons J S=>
    cases S;exact⟨_,_,rfl,p,J⟩
 refine A2 ?_ (by show 2<=sizeLine;decide);have I2:Inv X qp σ H1 {s1 with heap:=s1.heap.push {cls:=.type "tuple",data:=.seq [c,g].toArray} }:=I1.kept (t':=s1.toks) λb o e=>Ad _ e;rw[hw];refine Ab<|Ae ?_;show wpAny (IR X.prog X.w) X.A (do rule "assign.swapped-stores";let items <-unpackItems (.ref s1.heap.objs.size) 2 none;assignInOrder [λv=>bindName X.env y v,λv=>bindName X.env x v] items.reverse;pure Flow.next) _ _ _;refine Ab<|CY<|Ab<|unpackItems_tuple (items:=#[c,g]) (I.ok.hd B) (IsTup.new s1.heap _) λh' E=>?_;have T:=I2.kept (h':=h') (t':=s1.toks) λb o e=>E b o (Aw<|An e) e;show wpAny _ _ (assignInOrder [λv=>bindName X.env y v,λv=>bindName X.env x v] [g,c] >>= λ_=>pure Flow.next) _ _ _;refine Ab<|DH<|wpAny_bindName<|QJ T m C (.inl z) u (λs2 U=>?_)<|.inr z;refine DH<|wpAny_bindName<|QJ U m hi (.inl r) Q (λs3 K=>FA (Ae ?_))<|.inr r;rw[List.set_comm _ _ (A7 l)]at K;exact⟨_,H1,K,n⟩
def ZE(i:Nat)(te:TE)(f:WE):TS:=λD σ H=>∃x,σ[i]?=some (some x)/\te σ H λy H1=>f x y H1 λz a=>D.nx (σ.set i<|some z) a
def pH{op:Operator}{q:WE}(B:X.N.Nodup)(hi:X.N[i]?=some x)(f:Loc X.env.scope x)(he:PE X e te)(C:kU X op q)(hf:X.fn x=true\/X.env.scope.names.lookup x=some .local:=by first|exact .inl rfl|exact .inr rfl|assumption):
  PS X (.AugAssign (.Name x pos') op e pos) (ZE i te q):=by
 intro qp s σ H D I h;obtain⟨v,j,h⟩:=h;obtain⟨m,n,o⟩:=I.loc;have g:UL X.env.scope x:=by rcases f with k|k;exact .inl k;exact .inr<|.inl k
 obtain⟨u,r,l⟩:=o i x v hi j g;refine wpAny_AugAssign_Name ?_;have go:wpAny (IR X.prog X.w) X.A (UV e X.env) (λw s₂=>wpAny (IR X.prog X.w) X.A (inplaceOp op u w) (λr s₃=>wpAny (IR X.prog X.w) X.A (storeName X.env x r) (λ_=>SP X qp D .next) X.xe s₃) X.xe s₂) X.xe s:=by refine HA (he qp s σ H _ I h) ?_;rintro w s1 ⟨y,H1,E,K,L⟩;refine HA (C qp s1 σ H1 v y u w _ E r K L) ?_;rintro z s2 ⟨T,M,Q,F,G⟩;exact QJ Q B hi f F (λs3 J=>⟨_,M,J,G⟩) hf
 rcases l with⟨hk,hm⟩|⟨hk,c,S,a⟩
 ·exact EO I.ok.kind hk n hm go
 ·rcases hk with hk|hk
  ·exact EY I.ok.kind hk S a go
  ·rcases f with k|k
   ·have:X.env.scope.names.lookup x=some .free:=hk;rw[k]at this;cases this
   have:X.env.scope.names.lookup x=some .free:=hk;rw[k]at this;cases this
def ipI(f:Int->Int->Int):WE:=λx y H Q=>∃i j,x=.int i/\y=.int j/\Q (.int<|f i j) H
def pQ:kU X .Add (ipI λi j=>i+j):=by intro qp s σ H x y v u Q I a c h;obtain⟨i,j,e,g,q⟩:=h;subst e;subst g;obtain⟨t,rfl⟩:=a;obtain⟨t',rfl⟩:=c;exact iadd_int ⟨.int _,H,I.tok _,⟨_,rfl⟩,q⟩
variable {body:List SZ}
def rT(c:TT)(tb:TS):TS:=λD σ H=>∃W:Nat->St->Hp->Prop,(∃m,W m σ H)/\∀m σ H,W m σ H ->
 c σ H λb H1=>if b=true then ∃N:St->Hp->Prop,(∀σ' H',N σ' H'->∃a,a<m/\W a σ' H')/\tb {D with nx:=N,ct:=N,bk:=D.nx} σ H1 else D.nx σ H1
def zN{tb:TS}(l:PassesOwn (IR X.prog X.w) X.A X.env X.xe)(m:PT X c tc)(q:K1 X body tb):PS X (.While c body [] pos) (rT tc tb):=by
 intro qp s σ H D I h;obtain⟨W,⟨m0,K⟩,turn⟩:=h;refine wpAny_While<|codeAny_whileLoop (λn s'=>∃σ' H',Inv X qp σ' H' s'/\W n σ' H') ?_ m0 ⟨σ,H,I,K⟩;rintro n s1 ⟨σ1,H1,L,M⟩;refine B1 l<|HA (m qp s1 σ1 H1 _ L<|turn n σ1 H1 M) ?_;rintro b s2 ⟨x,y,e⟩
 cases b with
 |true=>
  obtain⟨N,E,e⟩:=e;rw[if_pos rfl];refine B1 l<|HA (q qp s2 σ1 x _ y e) λf s3 g=>?_
  cases f with
  |next=>
   obtain⟨σ3,a,i,j⟩:=g;obtain⟨o,hm,u⟩:=E σ3 a j;exact⟨o,hm,σ3,a,i,u⟩
  |cont=>
   obtain⟨σ3,a,i,j⟩:=g;obtain⟨o,hm,u⟩:=E σ3 a j;exact⟨o,hm,σ3,a,i,u⟩
  |brk=>exact g
  |ret v=>exact g
 |false=>
  rw[if_neg Bd];exact Cd ⟨σ1,x,y,e⟩
structure It where
 go:Nat->Hp->Prop
 yld:Nat->Hp->V->Hp->Prop
 stop:Nat->Hp->Prop
def K2(X:Cx)(qp:List (Addr×Obj))(H:Hp)(b:Addr):Prop:=H b=none/\b≠X.env.locals/\b∉X.fs/\(b∈X.ex\/X.s₀.heap.objs.size<=b)/\(∀x c,X.env.cells.lookup x=some c->c≠b)/\∀p∈X.pn++qp,p.1≠b
def Inv.fpOk(I:Inv X qp σ H s)(f:s.heap.objs.size<=b)(l:H' b=none):K2 X qp H' b:=by
 refine⟨l,A0<|Ay I.lt f,I.nofs f,.inr<|Ar I.sz f,λx c e z=>?_,λp a z=>?_⟩
 ·obtain⟨v,q⟩:=I.cell x c e;exact absurd (Ay q.lt (by rw[z];exact f))<|A4 _
 exact absurd (Ay (An (I.pin p a).1) (by rw[z];exact f))<|A4 _
structure Turn(P:Os)(w:Re)(K:Ac)(tg:PP)(J:It)(fp:List Addr)(it:Addr)(tn:Nat->KF->Prop):Prop where
 mem:it∈fp
 obj:∀i h,tn i h->∀b∈fp,∃o,h.get? b=some o/\∀v,o.data≠.cell v
 keep:∀i h h',tn i h->(∀b∈fp,∀o,h.get? b=some o->h'.get? b=some o)->tn i h'
 item:∀(X:Cx),X.prog=P->X.w=w->X.K=K->X.calm=true->∀(i:Nat) (qp:List (Addr×Obj)) (s:Shared) (σ:St) (H:Hp) (E:Qqa),Inv X qp σ H s->(∀b∈fp,K2 X qp H b)->tn i s.heap->J.go i H ->
  wpAny (IR P w) X.A (pyNext (.ref it)) (λr s1=>∃u,r=some u /\
   wpAny (IR P w) X.A (letOwnedTupleGo tg (.ref it) u) (λ_ s2=>∃x H',Inv X qp σ H' s2/\RelV x u/\J.yld i H x H'/\tn (i+1) s2.heap/\∀b∈fp,H' b=none) E s1) E s
 done:∀(X:Cx),X.prog=P->X.w=w->X.K=K->X.calm=true->∀(i:Nat) (qp:List (Addr×Obj)) (s:Shared) (σ:St) (H:Hp) (E:Qqa),Inv X qp σ H s->(∀b∈fp,K2 X qp H b)->tn i s.heap->J.stop i H ->
  wpAny (IR P w) X.A (pyNext (.ref it)) (λr s1=>r=none/\Inv X qp σ H s1) E s
 self:∀(A:Around) (i:Nat) (s:Shared) (Q:Qqa) (E:Qqa),tn i s.heap->Q (.ref it) s->wpAny (IR P w) A (pyIter (.ref it)) Q E s
noncomputable abbrev TI:=St->Hp->(It->Hp->Prop)->Prop
def kW(X:Cx)(qp:List (Addr×Obj))(σ:St)(tg:PP)(R:It->Hp->Prop)(f:GM)(s2:Shared):Prop:=∃(it:Addr) (a:List Addr) (c:Nat->KF->Prop) (J:It) (H':Hp),f=.ref it/\Inv X qp σ H' s2/\Turn X.prog X.w X.K tg J a it c/\c 0 s2.heap/\(∀b∈a,K2 X qp H' b)/\R J H'
def PI(X:Cx)(tg iter:PP)(f:TI):Prop:=
 ∀(qp:List (Addr×Obj)) (s:Shared) (σ:St) (H:Hp) (R:It->Hp->Prop),Inv X qp σ H s->f σ H R ->
  wpAny (IR X.prog X.w) X.A (UV iter X.env) (λv s1=>wpAny (IR X.prog X.w) X.A (pyIter v) (kW X qp σ tg R) X.xe s1) X.xe s
def U5{o:Obj}{n:String}{l:Array GM}{Q:Unit->Shared->Prop}(m:s.heap.get? it=some o)(q:o.cls=.type n)(hd:o.data=.fields l)(r:["enumerate","zip","dict_itemiterator","dict_reverseitemiterator","odict_iterator","itertools.zip_longest","itertools.pairwise"].contains n=false) (f:Q () s):wpAny M A (letOwnedTupleGo tg (.ref it) u) Q E s:=by
 unfold letOwnedTupleGo;cases tg<;>first
  |exact Ae f
  |(cases u<;>first
    |exact Ae f
    |(refine Ab (wpAny_load m ?_);rw[q,hd];show wpAny M A (if(["enumerate","zip","dict_itemiterator","dict_reverseitemiterator","odict_iterator","itertools.zip_longest","itertools.pairwise"].contains n&&l[0]?==some (rawInt _))=true then _ else _) Q E s;rw[if_neg (by intro h;rw[r,Cs]at h;cases h)];exact Ae f))
def G1(K:Ac)(a:Addr):It:=⟨λi H=>∃xs x,Kf K H a xs/\xs[i]?=some x,λi H x H'=>H'=H/\∀xs,Kf K H a xs->xs[i]?=some x,λi H=>∃xs,Kf K H a xs/\xs.length<=i⟩
def G0(K:Ac)(a:Addr):It:=⟨λi H=>∃xs x,Jg K H a xs/\xs[i]?=some x,λi H x H'=>H'=H/\∀xs,Jg K H a xs->xs[i]?=some x,λi H=>∃xs,Jg K H a xs/\xs.length<=i⟩
def UQ(lo:Int)(n:Nat):It:=⟨λi _=>i<n,λi H x H'=>H'=H/\x=.int (lo+i),λi _=>n<=i⟩
def zlW(a it:Addr):Turn P w K tg (G1 K a) [it] it (λi h=>h.IsListIter it a i) where
 mem:=by simp
 obj:=λi h st b g=>by
  have e:b=it:=by simpa using g
  subst e;obtain⟨o,e,c,d⟩:=st;exact⟨o,e,λv z=>by rw[d]at z;cases z⟩
 keep:=λi h h' st k=>st.at λo e=>k it (by simp) o e
 item:=by intro X y hw A m i qp s σ H E I hf st L;subst y hw A;obtain⟨xs,x,n,M⟩:=L;obtain⟨N,Q,p,q⟩:=I.list n;obtain⟨u,r,B⟩:=Q.get M;obtain⟨f0,f1,f2,f,f4,l⟩:=hf it (by simp);refine C5 st p.isList (x:=u) (by simpa using r) λh' j sb=>?_;have C:Inv X qp σ H {s with heap:=h'}:=I.turned (t':=s.toks) (λb o g e=>(sb.2 b g).trans e) f0 f1 f f4 l;obtain⟨o,e,c,d⟩:=id j;exact⟨u,rfl,U5 (s:={s with heap:=h'}) e c d (by decide) ⟨x,H,C,B,⟨rfl,λJ F=>by rw[I.list_inj F n];exact M⟩,j,λb g=>(hf b g).1⟩⟩
 done:=by intro X y hw A m i qp s σ H E I hf st L;subst y hw A;obtain⟨xs,n,M⟩:=L;obtain⟨N,Q,p,q⟩:=I.list n;obtain⟨f0,f1,f2,f,f4,l⟩:=hf it (by simp);have S:=Q.length;exact Dg (I.ok.hd m) st p.isList (by simp;omega) λh' G=>⟨rfl,I.turned (t':=s.toks) (λb o g e=>G b o g e) f0 f1 f f4 l⟩
 self:=λ_ _ _ _ _ st h=>wpAny_pyIter_listiter st h
def zjC(a it:Addr):Turn P w K tg (G0 K a) [it] it (λi h=>h.IsTupleIter it a i) where
 mem:=by simp
 obj:=λi h st b g=>by
  have e:b=it:=by simpa using g
  subst e;obtain⟨o,e,c,d⟩:=st;exact⟨o,e,λv z=>by rw[d]at z;cases z⟩
 keep:=λi h h' st k=>st.at λo e=>k it (by simp) o e
 item:=by intro X A hw L m i qp s σ H E I hf st M;subst A hw L;obtain⟨xs,x,y,N⟩:=M;obtain⟨j,Q,p,q⟩:=I.tuple y;obtain⟨u,r,B⟩:=Q.get N;obtain⟨f0,f1,f2,f,f4,l⟩:=hf it (by simp);refine Eb st (show s.heap.IsTuple a j.toArray from p) (x:=u) (by simpa using r) λh' n sb=>?_;have C:Inv X qp σ H {s with heap:=h'}:=I.turned (t':=s.toks) (λb o g e=>(sb.2 b g).trans e) f0 f1 f f4 l;obtain⟨o,e,c,d⟩:=id n;exact⟨u,rfl,U5 (s:={s with heap:=h'}) e c d (by decide) ⟨x,H,C,B,⟨rfl,λJ F=>by rw[I.tuple_inj F y];exact N⟩,n,λb g=>(hf b g).1⟩⟩
 done:=by intro X A hw L m i qp s σ H E I hf st M;subst A hw L;obtain⟨xs,y,N⟩:=M;obtain⟨j,Q,p,q⟩:=I.tuple y;obtain⟨f0,f1,f2,f,f4,l⟩:=hf it (by simp);have S:=Q.length;exact Ep (I.ok.hd m) st (show s.heap.IsTuple a j.toArray from p) (by simp;omega) λh' G=>⟨rfl,I.turned (t':=s.toks) (λb o g e=>G b o g e) f0 f1 f f4 l⟩
 self:=λ_ _ _ _ _ st h=>wpAny_pyIter_tupleiter st h
def zjD(it:Addr)(lo:Int)(n:Nat):Turn P w K tg (UQ lo n) [it] it (λi h=>IsRangeIter h it (lo+(i:Nat)*1) ((n:Int)-(i:Nat)) 1) where
 mem:=by simp
 obj:=λi h st b a=>by
  have e:b=it:=by simpa using a
  subst e;exact⟨_,st,λv z=>by have M:Data.fields _=Data.cell v:=z;cases M⟩
 keep:=λi h h' st k=>k it (by simp) _ st
 item:=by intro X g hw j u i qp s σ H E I hf st x;subst g hw j;obtain⟨f0,f1,f2,y,f4,A⟩:=hf it (by simp);have W:=Walks.range (prog:=X.prog) (w:=X.w) (I.ok.hd u) it lo 1 n;refine W.item i s _ _ x st λv h' L N c Q=>?_;obtain⟨t,rfl⟩:=N;have f:Inv X qp σ H {s with heap:=h',toks:=L}:=I.turned (λb o a e=>Q b o (by simpa using a) e) f0 f1 y f4 A;refine⟨_,rfl,U5 (s:={s with heap:=h',toks:=L}) (n:="range_iterator") c rfl rfl (by decide) ⟨.int<|lo+i,H,f,⟨t,?_⟩,⟨rfl,rfl⟩,c,λb a=>(hf b a).1⟩⟩;rw[Int.mul_one]
 done:=by intro X g hw j u i qp s σ H E I hf st x;subst g hw j;obtain⟨f0,f1,f2,y,f4,A⟩:=hf it (by simp);exact wpAny_pyNext_range_end (I.ok.hd u) st (by have:n<=i:=x;omega) λh' l=>⟨rfl,I.turned (t':=s.toks) (λb o a e=>l b o a e) f0 f1 y f4 A⟩
 self:=λ_ _ _ _ _ st h=>wpAny_pyIter_rangeiter st h
variable {p:Pos}{l:PP}{tl:TE}{fp:List Addr}
def lH(K:Ac)(tl:TE):TI:=λσ H R=>tl σ H λx H1=>∃a,x=.ref a/\(∃xs,Kf K H1 a xs)/\R (G1 K a) H1
def Z1(K:Ac)(tl:TE):TI:=λσ H R=>tl σ H λx H1=>∃a,x=.ref a/\(∃xs,Jg K H1 a xs)/\R (G0 K a) H1
def wM(f:PE X l tl):PI X tg l (lH X.K tl):=by
 intro qp s σ H R I h;refine HA (f qp s σ H _ I h) ?_;rintro v s1 ⟨x,H1,I1,c,g⟩;obtain⟨a,e,⟨xs,i⟩,q⟩:=g;subst e;cases c;obtain⟨j,u,p,w⟩:=I1.list i;refine DQ p.isList ?_;refine⟨s1.heap.objs.size,[s1.heap.objs.size],_,_,H1,rfl,I1.kept (t':=s1.toks) λb o e=>Ad _ e,zlW a _,⟨_,Aq _ rfl,rfl,rfl⟩,λb n=>?_,q⟩;have e:b=s1.heap.objs.size:=by simpa using n
 subst e;exact I1.fpOk (Ah _)<|I1.hok.fresh<|Ah _
def pE(f:PE X l tl):PI X tg l (Z1 X.K tl):=by
 intro qp s σ H R I h;refine HA (f qp s σ H _ I h) ?_;rintro v s1 ⟨x,H1,I1,g,i⟩;obtain⟨a,e,⟨xs,j⟩,q⟩:=i;subst e;cases g;obtain⟨c,u,p,w⟩:=I1.tuple j;refine wpAny_pyIter_tuple (show s1.heap.IsTuple a c.toArray from p) ?_;refine⟨s1.heap.objs.size,[s1.heap.objs.size],_,_,H1,rfl,I1.kept (t':=s1.toks) λb o e=>Ad _ e,zjC a _,⟨_,Aq _ rfl,rfl,rfl⟩,λb n=>?_,q⟩;have e:b=s1.heap.objs.size:=by simpa using n
 subst e;exact I1.fpOk (Ah _)<|I1.hok.fresh<|Ah _
def fY{R:It->Hp->Prop}{lo hi:Int}{t u v:Tok}{f:Nat}(I:Inv X qp σ H s)(m:-(2^62)<=lo)(r:lo<2^62)(z:-(2^62)<=hi)(B:hi<2^62)(q:R (UQ lo (hi-lo).toNat) H):wpAny (IR X.prog X.w) X.A (pyIter<|.ref s.heap.objs.size) (kW X qp σ tg R) E {s with heap:=s.heap.push {cls:=.type "range",data:=.fields #[.int lo t,.int hi u,.int 1 v]},toks:=f}:=by
 refine wpAny_pyIter_range (IsRange.new ..) (small_one m r z B) ?_;have I1:Inv X qp σ H {s with heap:=s.heap.push {cls:=.type "range",data:=.fields #[.int lo t,.int hi u,.int 1 v]},toks:=f}:=I.kept λb o e=>Ad _ e;refine⟨(s.heap.push {cls:=.type "range",data:=.fields #[.int lo t,.int hi u,.int 1 v]}).objs.size,[(s.heap.push {cls:=.type "range",data:=.fields #[.int lo t,.int hi u,.int 1 v]}).objs.size],_,_,H,rfl,
  I1.kept (t':=f) λb o e=>Ad _ e,zjD _ lo (hi-lo).toNat,?_,λb a=>?_,q⟩
 ·have c:lo+((0:Nat):Int)*1=lo:=by simp
  have g:(((hi-lo).toNat:Nat):Int)-((0:Nat):Int)=Builtin.Range.rangeSize lo hi 1:=by rw[rangeSize_one];split<;>omega
  show IsRangeIter _ _ (lo+((0:Nat):Int)*1) ((((hi-lo).toNat:Nat):Int)-((0:Nat):Int)) 1;rw[c,g];exact Aq _ rfl
 ·have e:b=(s.heap.push {cls:=.type "range",data:=.fields #[.int lo t,.int hi u,.int 1 v]}).objs.size:=by simpa using a
  subst e;exact I1.fpOk (Ah _)<|I1.hok.fresh<|Ah _
def lI(ta:TA):TI:=λσ H R=>ta σ H λa H1=>∃j:Int,a=[.int j]/\-(2^62)<=j/\j<2^62/\R (UQ 0 j.toNat) H1
def lJ(ta:TA):TI:=λσ H R=>ta σ H λa H1=>∃i j:Int,a=[.int i,.int j]/\(-(2^62)<=i/\i<2^62/\-(2^62)<=j/\j<2^62)/\R (UQ i (j-i).toNat) H1
def zmq{a:PP}{ta:TA}(f:Gl X "range")(hm:X.mg "range"=none)(m:PA X [a] ta)(z:SL [a] X.env=[(false,UV a X.env)]:=by rfl):PI X tg (.Call (.Name "range" p) [a] [] pos) (lI ta):=by
 intro qp s σ H R I h;refine Call_<|QB I f hm boot_range<|BA (HA (m pos qp s σ H _ I h) ?_) z rfl;rintro us s1 ⟨o,H1,g,i,c⟩;obtain⟨j,e,c,l,q⟩:=c;subst e
 cases i with
 |cons r n=>
  cases n;obtain⟨t,rfl⟩:=r;exact call_range_1<|fY g (by omega) (by omega) c l<|by simpa using q
def zmp{a b:PP}{ta:TA}(m:Gl X "range")(hm:X.mg "range"=none)(z:PA X [a,b] ta)(B:SL [a,b] X.env=[(false,UV a X.env),(false,UV b X.env)]:=by rfl)(f:SL [b] X.env=[(false,UV b X.env)]:=by rfl):
  PI X tg (.Call (.Name "range" p) [a,b] [] pos) (lJ ta):=by
 intro qp s σ H R I h;refine Call_<|QB I m hm boot_range<|BA (HA (z pos qp s σ H _ I h) ?_) (by rw[B,f]) (by rw[f];rfl);rintro us s1 ⟨x,H1,l,n,c⟩;obtain⟨i,j,e,⟨c,o,u,v⟩,q⟩:=c;subst e
 cases n with
 |cons r g=>
  cases g with
  |cons w g=>
   cases g;obtain⟨t,rfl⟩:=r;obtain⟨t',rfl⟩:=w;exact call_range_2<|fY l c o u v q
def Zz(f:TI)(g:TG)(tb:TS):TS:=λD σ H=>f σ H λJ H1=>∃W:Nat->Nat->St->Hp->Prop,(∃m,W 0 m σ H1)/\∀i m σ H,W i m σ H ->
 (J.stop i H/\D.nx σ H)\/(J.go i H/\∃N:St->Hp->Prop,(∀σ' H',N σ' H'->∃a,a<m/\W (i+1) a σ' H')/\∀x H',J.yld i H x H'->g x σ H' λσ2 c=>tb {D with nx:=N,ct:=N,bk:=D.nx} σ2 c)
def Tc(fp:List Addr)(h:KF):List (Addr×Obj):=fp.filterMap λb=>(h.get? b).map λo=>(b,o)
def V0{o:Obj}(f:b∈fp)(e:h.get? b=some o):(b,o)∈Tc fp h:=List.mem_filterMap.mpr ⟨b,f,by rw[e];rfl⟩
def zmB{p:Addr×Obj}(f:p∈Tc fp h):p.1∈fp/\h.get? p.1=some p.2:=by
 obtain⟨b,a,e⟩:=List.mem_filterMap.mp f;cases q:h.get? b with
 |none=>rw[q]at e;cases e
 |some o=>
  rw[q]at e;have c:(b,o)=p:=As e;subst c;exact⟨a,q⟩
def Inv.pinned{fp:List Addr}(I:Inv X qp σ H s)(hf:∀b∈fp,K2 X qp H b)(f:∀b∈fp,∃o,s.heap.get? b=some o/\∀v,o.data≠.cell v):Inv X (qp++Tc fp s.heap) σ H s:=I.pins_of λp g=>(W1.mp g).elim (λz=>I.pin p (AV _ z)) λz=>by obtain⟨a,e⟩:=zmB z;obtain⟨f0,f1,f2,_⟩:=hf p.1 a;obtain⟨o,c,d⟩:=f p.1 a;rw[e]at c;cases c;exact⟨e,f0,f1,f2,d⟩
def Inv.unpinned{pl:List (Addr×Obj)}(I:Inv X (qp++pl) σ H s):Inv X qp σ H s:=I.pins_of λp a=>I.pin p<|AV _<|BL _ a
def pJ{iter:PP}{G:TI}{g:TG}{tb:TS}(z:PassesOwn (IR X.prog X.w) X.A X.env X.xe)(S:X.calm=true)(hi:PI X tg iter G)(hg:PG X tg g)(q:K1 X body tb)(hs:∀x,foldedSetIterable iter X.env x=pure x:=by intro _;rfl):PS X (.For tg iter body [] pos) (Zz G g tb):=by
 intro qp s σ H D I h;refine wpAny_For (HA (hi qp s σ H _ I h) λv s1 h1=>HA h1 λitv s2 h2=>?_) hs;obtain⟨it,fp,U,J,H2,e,I2,T,M,f2,W,⟨m0,w0⟩,turn⟩:=h2;subst e;have a:∀{H':Hp},(∀b∈fp,H' b=none)->∀b∈fp,K2 X qp H' b:=λhn b q=>⟨hn b q,(f2 b q).2⟩;refine codeAny_forLoop_any (λn s'=>∃i σ' H',Inv X qp σ' H' s'/\U i s'.heap/\(∀b∈fp,H' b=none)/\W i n σ' H') ?_ m0 ⟨0,σ,H2,I2,M,λb q=>(f2 b q).1,w0⟩;rintro n s3 ⟨i,σ3,L,Y,y,E,w3⟩;rcases turn i n σ3 L w3 with⟨stop,qn⟩|⟨go,N,hN,step⟩
 ·refine B1 z (HA (T.done X rfl rfl rfl S i qp s3 σ3 L X.xe Y (a E) y stop) ?_);rintro r s4 ⟨Q,I4⟩;subst Q;exact Cd ⟨σ3,L,I4,qn⟩
 ·refine B1 z (HA (T.item X rfl rfl rfl S i qp s3 σ3 L X.xe Y (a E) y go) ?_);rintro r s4 ⟨u,Q,h4⟩;subst Q;refine B1 z (HA h4 ?_);rintro _ s5 ⟨x,Z,I5,r5,y5,l,B⟩;have C:=I5.pinned (a B) (T.obj _ _ l);refine B1 z (HA (hg _ s5 σ3 Z x u _ C r5 (step x Z y5)) ?_);rintro _ s6 ⟨σ6,H6,I6,q6⟩;refine B1 z (HA (q _ s6 σ6 H6 _ I6 q6) λf F j=>?_);have again:∀{σ7:St}{c:Hp},Inv X (qp++Tc fp s5.heap) σ7 c F->N σ7 c->∃m,m<n/\∃i σ' H',Inv X qp σ' H' F/\U i F.heap/\(∀b∈fp,H' b=none)/\W i m σ' H':=λ{σ7 c} I7 K=>by
   obtain⟨m',hm,w7⟩:=hN σ7 c K;refine⟨m',hm,i+1,σ7,c,I7.unpinned,T.keep _ _ _ l λb q o e=>(I7.pin (b,o) (AV _ (AV _ (V0 q e)))).1,λb q=>?_,w7⟩;obtain⟨o,e,d⟩:=T.obj _ _ l b q;exact(I7.pin (b,o) (AV _ (AV _ (V0 q e)))).2.1
  cases f with
  |next=>obtain⟨σ7,c,I7,K⟩:=j;exact again I7 K
  |cont=>obtain⟨σ7,c,I7,K⟩:=j;exact again I7 K
  |brk=>obtain⟨σ7,c,I7,j⟩:=j;exact⟨σ7,c,I7.unpinned,j⟩
  |ret v=>obtain⟨x7,σ7,c,I7,r7,j⟩:=j;exact⟨x7,σ7,c,I7.unpinned,r7,j⟩
noncomputable abbrev R2:=V->V->Hp->VK->Prop
def Kg(X:Cx)(f:GM->GM->Sem GM)(r:R2):Prop:=
 ∀(qp:List (Addr×Obj)) (s:Shared) (σ:St) (H:Hp) (x y:V) (v u:GM) (Q:VK),Inv X qp σ H s->RelV x v->RelV y u->r x y H Q ->
  wpAny (IR X.prog X.w) X.A (f v u) (EP X qp σ Q) X.xe s
def GX(X:Cx)(f:GM->Sem GM)(r:V->Hp->VK->Prop):Prop:=
 ∀(qp:List (Addr×Obj)) (s:Shared) (σ:St) (H:Hp) (x:V) (v:GM) (Q:VK),Inv X qp σ H s->RelV x v->r x H Q ->
  wpAny (IR X.prog X.w) X.A (f v) (EP X qp σ Q) X.xe s
def NL(X:Cx)(f:GM)(r:List V->Hp->VK->Prop):Prop:=
 ∀(qp:List (Addr×Obj)) (s:Shared) (σ:St) (H:Hp) (xs:List V) (us:List GM) (Q:VK),Inv X qp σ H s->Vals xs us->r xs H Q ->
  wpAny (IR X.prog X.w) X.A (call f us) (EP X qp σ Q) X.xe s
def GY(X:Cx)(r:V->Hp->(Bool->Hp->Prop)->Prop):Prop:=
 ∀(qp:List (Addr×Obj)) (s:Shared) (σ:St) (H:Hp) (x:V) (v:GM) (Q:Bool->Hp->Prop),Inv X qp σ H s->RelV x v->r x H Q ->
  wpAny (IR X.prog X.w) X.A (truthy v) (TP X qp σ Q) X.xe s
def Um(r:R2)(ta tb:TE):TE:=λσ H Q=>ta σ H λx H1=>tb σ H1 λy a=>r x y a Q
def tUn(r:V->Hp->VK->Prop)(ta:TE):TE:=λσ H Q=>ta σ H λx H1=>r x H1 Q
def rI(C:Int->Int->Prop)(g:Int->Int->V):R2:=λx y H Q=>∃i j,x=.int i/\y=.int j/\C i j/\Q (g i j) H
def PN(g:Int->Int->V):R2:=λx y H Q=>∃i j,x=.int i/\y=.int j/\Q (g i j) H
def rU(g:Int->V):V->Hp->VK->Prop:=λx H Q=>∃i,x=.int i/\Q (g i) H
variable {f:GM->GM->Sem GM}{r:R2}
section
variable {a b:PP}{tc:TE}
def Rc(q:PE X a ta)(z:PE X b tb){R:V->V->Hp->Prop}(I:Inv X qp σ H s)(h:ta σ H λx H1=>tb σ H1 λy m=>R x y m)  
  (hf:∀v u s2 x y m,Inv X qp σ m s2->RelV x v->RelV y u->R x y m->wpAny (IR X.prog X.w) X.A (f v u) Q X.xe s2):
  wpAny (IR X.prog X.w) X.A (UV a X.env) (λv s₁=>wpAny (IR X.prog X.w) X.A (UV b X.env) (λu s₂=>wpAny (IR X.prog X.w) X.A (f v u) Q X.xe s₂) X.xe s₁) X.xe s:=by
 refine HA (q qp s σ H _ I h) ?_;rintro v s1 ⟨x,H1,c,e,g⟩;refine HA (z qp s1 σ H1 _ c g) ?_;rintro u s2 ⟨y,m,i,j,l⟩;exact hf v u s2 x y m i e j l
def oK{op:Operator}(m:Kg X (binaryOp op) r)(z:PE X a ta)(B:PE X b tb):PE X (.BinOp a op b pos) (Um r ta tb):=by intro qp s σ H Q I h;exact wpAny_BinOp<|Rc z B I h λv u s2 x y c e rx f q=>m qp s2 σ c x y v u Q e rx f q
def nB{op:UnaryOp}{r:V->Hp->VK->Prop}(m:GX X (unaryOp op) r)(q:PE X a ta):PE X (.UnaryOp op a pos) (tUn r ta):=by intro qp s σ H Q I h;exact UnaryOp_<|HA (q qp s σ H _ I h) λv s1 ⟨x,H1,c,e,f⟩=>m qp s1 σ H1 x v Q c e f
def Wy{C:Int->Int->Prop}{g:Int->Int->Int}(rule:∀(i j:Int) (t u:Tok) (s:Shared) (Q:Qqa) (E:Qqa),C i j->Q (.int (g i j) s.toks) {s with toks:=s.toks+1}->wpAny (IR X.prog X.w) X.A (f (.int i t)<|.int j u) Q E s):
  Kg X f (rI C λi j=>.int (g i j)):=by
 intro qp s σ H x y v u Q I rx a h;obtain⟨i,j,rfl,rfl,c,q⟩:=h;obtain⟨t,rfl⟩:=rx;obtain⟨t',rfl⟩:=a;exact rule i j t t' s _ _ c ⟨.int<|g i j,H,I.tok _,⟨_,rfl⟩,q⟩
def Uv{g:Int->Int->Int}(rule:∀(i j:Int) (t u:Tok) (s:Shared) (Q:Qqa) (E:Qqa),Q (.int (g i j) s.toks) {s with toks:=s.toks+1}->wpAny (IR X.prog X.w) X.A (f (.int i t)<|.int j u) Q E s):
  Kg X f (PN λi j=>.int (g i j)):=by
 intro qp s σ H x y v u Q I rx a h;obtain⟨i,j,rfl,rfl,q⟩:=h;obtain⟨t,rfl⟩:=rx;obtain⟨t',rfl⟩:=a;exact rule i j t t' s _ _ ⟨.int<|g i j,H,I.tok _,⟨_,rfl⟩,q⟩
def PR{g:Int->Int->Bool}(rule:∀(i j:Int) (t u:Tok) (s:Shared) (Q:Qqa) (E:Qqa),Q (.bool<|g i j) s->wpAny (IR X.prog X.w) X.A (f (.int i t)<|.int j u) Q E s):
  Kg X f (PN λi j=>.bl (g i j)):=by
 intro qp s σ H x y v u Q I rx a h;obtain⟨i,j,rfl,rfl,q⟩:=h;obtain⟨t,rfl⟩:=rx;obtain⟨t',rfl⟩:=a;exact rule i j t t' s _ _ ⟨.bl<|g i j,H,I,rfl,q⟩
def Rn(i j:Int):Prop:=(-(2^64)<i/\i<2^64)\/(-(2^64)<j/\j<2^64)
def Rn.ok{i j:Int}(h:Rn i j):IntMulOk i j:=by
 rcases h with⟨a,c⟩|⟨a,c⟩
 ·exact .of_left<|intBits_le_64 a c
 exact .of_right<|intBits_le_64 a c
def qJ:Kg X (binaryOp .Add) (PN λi j=>.int (i+j)):=Uv λ_ _ _ _ _ _ _ q=>add_int q
def oQ:Kg X (binaryOp .Sub) (PN λi j=>.int (i-j)):=Uv λ_ _ _ _ _ _ _ q=>sub_int q
def oP:Kg X (binaryOp .Mult) (rI Rn λi j=>.int (i*j)):=Wy λ_ _ _ _ _ _ _ a q=>mul_int q a.ok
def oO:Kg X (binaryOp .Mod) (rI (λ_ j=>0<j) λi j=>.int (i % j)):=Wy λi j _ _ _ _ _ a q=>by have c:(0:Int)<j:=a;exact mod_int' (by omega) (by rw[Int.fmod_eq_emod_of_nonneg i (by omega)];exact q)
def unI{f:GM->Sem GM}{g:Int->Int}(rule:∀(i:Int) (t:Tok) (s:Shared) (Q:Qqa) (E:Qqa),Q (.int (g i) s.toks) {s with toks:=s.toks+1}->wpAny (IR X.prog X.w) X.A (f<|.int i t) Q E s):
  GX X f (rU λi=>.int (g i)):=by
 intro qp s σ H x v Q I rx h;obtain⟨i,rfl,q⟩:=h;obtain⟨t,rfl⟩:=rx;exact rule i t s _ _ ⟨.int<|g i,H,I.tok _,⟨_,rfl⟩,q⟩
def rX:GX X (unaryOp .USub) (rU λi=>.int (-i)):=unI λ_ _ _ _ _ q=>neg_int q
end
variable {op':CmpOp}{r':R2}
section
variable {a b:PP}{tc:TE}
def Vc{Q:VK}{k m:Bool}(I:Inv X qp σ H s)(q:Q (.bl k) H)(e:k=m):EP X qp σ Q (.bool m) s:=by subst e;exact⟨.bl k,H,I,rfl,q⟩
def mE:Kg X (Pv .Lt) (PN λi j=>.bl (decide (i<j))):=PR λ_ _ _ _ _ _ _ q=>F4 q
def mD:Kg X (Pv .LtE) (PN λi j=>.bl (decide (i<=j))):=PR λ_ _ _ _ _ _ _ q=>Gv q
def mC:Kg X (Pv .Gt) (PN λi j=>.bl (decide (j<i))):=PR λ_ _ _ _ _ _ _ q=>gt_int q
def lZ:Kg X (Pv .GtE) (PN λi j=>.bl (decide (j<=i))):=PR λ_ _ _ _ _ _ _ q=>ge_int q
def zmy:Kg X (Pv .In) (λx y H Q=>∃i j,x=.str i/\y=.str j/\Q (.bl<|!(Builtin.Str.occurrences j i 0 j.length 1).isEmpty) H):=by intro qp s σ H x y v u Q I rx a h;obtain⟨i,j,rfl,rfl,q⟩:=h;obtain⟨t,rfl⟩:=rx;obtain⟨t',rfl⟩:=a;exact in_str<|Vc I q rfl
def qL:Kg X (Pv .Is) (λx y H Q=>y=.non/\Q (.bl<|decide (x=.non)) H):=by
 intro qp s σ H x y v u Q I rx a h;obtain⟨rfl,q⟩:=h;cases a;refine is_none_gen<|Vc I q ?_
 cases x<;>first
  |(cases rx;rfl)
  |(obtain⟨t,rfl⟩:=rx;rfl)
def tN:Kg X (Pv .IsNot) (λx y H Q=>y=.non/\Q (.bl<|!decide (x=.non)) H):=by
 intro qp s σ H x y v u Q I rx a h;obtain⟨rfl,q⟩:=h;cases a;refine isnot_none_gen<|Vc I q ?_
 cases x<;>first
  |(cases rx;rfl)
  |(obtain⟨t,rfl⟩:=rx;rfl)
def zhC:Kg X (Pv .NotIn) (λx y H Q=>∃i j,x=.str i/\y=.str j/\Q (.bl<|!(!(Builtin.Str.occurrences j i 0 j.length 1).isEmpty)) H):=by intro qp s σ H x y v u Q I rx a h;obtain⟨i,j,rfl,rfl,q⟩:=h;obtain⟨t,rfl⟩:=rx;obtain⟨t',rfl⟩:=a;exact notIn_str<|Vc I q rfl
def tQ(m:Kg X (Pv op) r)(z:PE X a ta)(B:PE X b tb)(hm:behindInMarks op b=false):PE X (.Compare a [op] [b] pos) (Um r ta tb):=by intro qp s σ H Q I h;exact wpAny_Compare1 (Rc z B I h λv u s2 x y c e rx f q=>m qp s2 σ c x y v u Q e rx f q) hm
def aJ(t:TE):TT:=λσ H Q=>t σ H λx H'=>∃k,x=.bl k/\Q k H'
def vS(m:Kg X (Pv op) r)(q:PE X a ta)(B:PE X b tb)(hm:behindInMarks op b=false):PT X (.Compare a [op] [b] pos) (aJ<|Um r ta tb):=by
 intro qp s σ H Q I h;refine EH (HA (q qp s σ H _ I h) λv s1 ⟨x,H1,f,g,i⟩=>HA (B qp s1 σ H1 _ f i) λu s2 ⟨y,j,l,n,o⟩=>
  HA (m qp s2 σ j x y v u _ l g n o) λc s3 ⟨z,w,A,E,k,e,K⟩=>?_) hm
 subst e;cases E;exact Bq ⟨w,A,K⟩
def Xs(r r':R2)(ta tb tc:TE):TE:=λσ H Q=>ta σ H λx H1=>tb σ H1 λy c=>r x y c λz a=>∃k,z=.bl k /\
 (if k=true then tc σ a λe f=>r' y e f Q else Q (.bl false) a)
def zE(q:Kg X (Pv op) r)(m:Kg X (Pv op') r')(B:PE X a ta)(C:PE X b tb)(F:PE X c tc)(hm:lastMarks [op,op'] [b,c]=false:=by with_unfolding_all rfl):PE X (.Compare a [op,op'] [b,c] pos) (Xs r r' ta tb tc):=by
 intro qp s σ H Q I h;refine Compare_chain (HA (B qp s σ H _ I h) λv s1 ⟨x,H1,l,n,o⟩=>chain_link (HA (C qp s1 σ H1 _ l o) λu s2 ⟨y,w,A,f,E⟩=>
  HA (q qp s2 σ w x y v u _ A n f E) λd s3 ⟨z,g,i,K,k,e,j⟩=>?_)) hm
 subst e;cases K;refine Bq ?_;cases k with
 |false=>exact ite_ff ⟨.bl false,g,i,rfl,j⟩
 |true=>exact ite_tt<|chain_last<|HA (F qp s3 σ g _ i j) λL s4 ⟨M,N,G,J,S⟩=>m qp s4 σ N y M u L Q G f J S
def zO(q:Kg X (Pv op) r)(m:Kg X (Pv op') r')(B:PE X a ta)(C:PE X b tb)(F:PE X c tc)(hm:lastMarks [op,op'] [b,c]=false:=by with_unfolding_all rfl):PT X (.Compare a [op,op'] [b,c] pos) (aJ<|Xs r r' ta tb tc):=by
 intro qp s σ H Q I h;refine isTrue_chain (HA (B qp s σ H _ I h) λv s1 ⟨x,H1,l,n,o⟩=>test_link (HA (C qp s1 σ H1 _ l o) λu s2 ⟨y,w,A,f,E⟩=>
  HA (q qp s2 σ w x y v u _ A n f E) λd s3 ⟨z,g,i,K,k,e,j⟩=>?_)) hm
 subst e;cases K;refine Bq ?_;cases k with
 |false=>
  obtain⟨k',L,M⟩:=j;cases L;exact ite_ff ⟨g,i,M⟩
 |true=>
  refine ite_tt<|test_last<|HA (F qp s3 σ g _ i j) λN s4 ⟨G,J,S,T,U⟩=>HA (m qp s4 σ J y G u N _ S f T U) ?_;rintro d' s5 ⟨z2,W,Y,Z,k2,e2,q5⟩;subst e2;cases Z;exact Bq ⟨W,Y,q5⟩
def UM(K:Ac)(x:V)(H:Hp)(k:Bool):Prop:=
 match x with
 |.non=>k=false
 |.bl b=>k=b
 |.int i=>k=(i != 0)
 |.str y=>y.length<=sizeLine/\k=((y.length:Int) != 0)
 |.byt y=>y.size<=sizeLine/\k=((y.size:Int) != 0)
 |.ref p=>(∃xs,Kf K H p xs/\k=!xs.isEmpty)\/(∃xs,Jg K H p xs/\k=!xs.isEmpty)\/∃a,H p=some (.dK a)/\k=!a.isEmpty
 |_=>False
def zlb{kvs:List (κ×V)}{m:List (κ×GM)}(r:KV kvs m):(!m.isEmpty)=!kvs.isEmpty:=by cases r<;>rfl
def iQ{xs:List V}{its:List GM}(r:Vals xs its):(!its.toArray.isEmpty)=!xs.isEmpty:=by cases r<;>simp
def QC:(sizeLine:Nat)<2^63:=by rw[Cm];decide
def rV:GY X (λx H Q=>∃k,UM X.K x H k/\Q k H):=by
 intro qp s σ H x v Q I rx h;obtain⟨k,e,q⟩:=h;have u:=QC;have A:sizeLine=16777216:=Cm;cases x with
 |non=>
  cases rx;have a:k=false:=e;subst a;exact truthy_none ⟨H,I,q⟩
 |bl b=>
  cases rx;have a:k=b:=e;subst a;exact Bq ⟨H,I,q⟩
 |int i=>
  obtain⟨t,rfl⟩:=rx;have a:k=(i != 0):=e;subst a;exact PySem.P.truthy_int ⟨H,I,q⟩
 |str y=>
  obtain⟨t,rfl⟩:=rx;obtain⟨n,a⟩:y.length<=sizeLine/\k=((y.length:Int) != 0):=e;subst a;exact PySem.P.truthy_str (by omega) ⟨H,I.tok _,q⟩
 |byt y=>
  obtain⟨t,rfl⟩:=rx;obtain⟨n,a⟩:y.size<=sizeLine/\k=((y.size:Int) != 0):=e;subst a;exact PySem.W.truthy_bytes (by omega) ⟨H,I.tok _,q⟩
 |ref p=>
  cases rx;have a:(∃xs,Kf X.K H p xs/\k=!xs.isEmpty)\/(∃xs,Jg X.K H p xs/\k=!xs.isEmpty)\/∃c,H p=some (.dK c)/\k=!c.isEmpty:=e;rcases a with⟨xs,f,a⟩|⟨xs,f,a⟩|⟨c,f,a⟩
  ·subst a;obtain⟨j,r,pl,l⟩:=I.list f;have hlen:=r.length;exact wpAny_truthy_list pl.isList (by simp only[Az];omega) ⟨H,I.tok _,by rw[iQ r];exact q⟩
  ·subst a;obtain⟨j,r,pl,l⟩:=I.tuple f;have hlen:=r.length;exact truthy_tuple pl (by simp only[Az];omega) ⟨H,I.tok _,by rw[iQ r];exact q⟩
  subst a;obtain⟨l,o,g,r,m⟩:c.length<=sizeLine/\(p==sysModules)=false/\∃g,KV c g/\s.heap.DictOf (J7 X.prog X.w) p g:=I.hok p _ f;have hlen:c.length=g.length:=BP r;exact wpAny_truthy_dict o m (by omega) ⟨H,I.tok _,by rw[zlb r];exact q⟩
 |_=>exact(show False from e).elim
def fX(m:PE X a ta)(he:∀whole,isTrue a X.env whole=(do let v <-whole;standAt a.pos;holding [v] (truthy v))):
  PT X a (λσ H Q=>ta σ H λx H'=>∃k,UM X.K x H' k/\Q k H'):=by
 intro qp s σ H Q I h;exact isTrue_plain (HA (m qp s σ H _ I h) λv s1 ⟨x,H1,c,e,f⟩=>rV qp s1 σ H1 x v Q c e f)<|he _
def zkq:Kg X (binaryOp .Add) (λx y H Q=>∃i j,x=.str i/\y=.str j/\i.length+j.length<=sizeLine/\Q (.str<|i++j) H):=by intro qp s σ H x y v u Q I rx a h;obtain⟨i,j,rfl,rfl,c,q⟩:=h;obtain⟨t,rfl⟩:=rx;obtain⟨t',rfl⟩:=a;exact add_str (λt' e=>⟨.str<|i++j,H,I.tok _,⟨_,rfl⟩,q⟩) c
def vals1{x:V}(r:Vals [x] us):∃u,us=[u]/\RelV x u:=by
 cases r with
 |cons a c=>cases c;exact⟨_,rfl,a⟩
def vals2{x:V}(r:Vals [x,y] us):∃u m,us=[u,m]/\RelV x u/\RelV y m:=by
 cases r with
 |cons a c=>
  cases c with
  |cons e f=>cases f;exact⟨_,_,rfl,a,e⟩
def xO:NL X (.builtin "abs") (λxs H Q=>∃i,xs=[.int i]/\Q (.int<|if i<0 then -i else i) H):=by intro qp s σ H xs us Q I r h;obtain⟨i,rfl,q⟩:=h;obtain⟨u,rfl,t,rfl⟩:=vals1 r;exact call_abs_int λu a=>⟨.int<|if i<0 then -i else i,H,I.tok _,⟨_,rfl⟩,q⟩
def znc(m:X.calm=true):NL X (.builtin "max") (λxs H Q=>∃i j,xs=[.int i,.int j]/\Q (.int<|if j > i then j else i) H):=by
 intro qp s σ H xs us Q I r h;obtain⟨i,j,rfl,q⟩:=h;obtain⟨u,a,rfl,⟨t,rfl⟩,⟨t',rfl⟩⟩:=vals2 r;refine max_two_ints (I.ok.hd m) λh' c k=>⟨_,H,I.kept k,?_,q⟩;by_cases hj:j > i
 ·rw[if_pos hj,if_pos hj];exact⟨_,rfl⟩
 rw[if_neg hj,if_neg hj];exact⟨_,rfl⟩
def znb(m:X.calm=true):NL X (.builtin "min") (λxs H Q=>∃i j,xs=[.int i,.int j]/\Q (.int<|if j<i then j else i) H):=by
 intro qp s σ H xs us Q I r h;obtain⟨i,j,rfl,q⟩:=h;obtain⟨u,a,rfl,⟨t,rfl⟩,⟨t',rfl⟩⟩:=vals2 r;refine min_two_ints (I.ok.hd m) λh' c k=>⟨_,H,I.kept k,?_,q⟩;by_cases hj:j<i
 ·rw[if_pos hj,if_pos hj];exact⟨_,rfl⟩
 rw[if_neg hj,if_neg hj];exact⟨_,rfl⟩
def gX:NL X (.type "int") (λxs H Q=>(∃i,xs=[.int i]/\Q (.int i) H)\/∃k,xs=[.bl k]/\Q (.int<|if k then 1 else 0) H):=by
 intro qp s σ H xs us Q I r h;rcases h with⟨i,rfl,q⟩|⟨k,rfl,q⟩
 ·obtain⟨u,rfl,t,rfl⟩:=vals1 r;exact call_int_int ⟨.int i,H,I,⟨_,rfl⟩,q⟩
 obtain⟨u,rfl,a⟩:=vals1 r;cases a;exact call_int_bool ⟨.int<|if k then 1 else 0,H,I.tok _,⟨_,rfl⟩,q⟩
def zhV:NL X (.type "str") (λxs H Q=>∃i,xs=[.int i]/\i.natAbs.log2<1920/\Q (.str<|toString i) H):=by intro qp s σ H xs us Q I r h;obtain⟨i,rfl,a,q⟩:=h;obtain⟨u,rfl,t,rfl⟩:=vals1 r;exact PySem.P.str_of_int a ⟨.str _,H,I.tok _,⟨_,rfl⟩,q⟩
end
variable {dx:Addr}
def gF{m:Str->Option GM}(n:h.Ns1 dx m):∃B,h.get? dx=some B/\∀name,Gf name B=some (m name):=by
 obtain⟨o,es,j,f,hd,hk,_,hm⟩:=n;refine⟨o,f,λname=>?_⟩;have e:=hm name;unfold nsFind findBy at e;rw[<-Array.find?_toList]at e;unfold Gf;rw[hd];dsimp only;split
 ·rename_i y q;rw[q]at e;exact congrArg some e
 ·rename_i q;rw[q]at e;have a:es.toList.any (·.refKey)=false:=by
   rw[List.any_eq_false];intro y g;obtain⟨z,t,c⟩:=hk y<|Array.mem_toList_iff.mp g;simp[DictEntry.refKey,c]
  have i:¬es.toList.any (·.refKey)=true:=by rw[a];exact Bd
  rw[if_neg i];exact congrArg some e
def KI.some_of{o:Option GM}(r:KI (some v) o):∃u,o=some u/\RelV v u:=by
 cases o with
 |none=>exact(show False from r).elim
 |some u=>exact⟨u,rfl,r⟩
variable {C:Addr}{prog:Os}{env:Env}
section
variable {fs:List (Str×V)} {f:Str}
def qV{f:Str}(m:attributeBase e f env (UV e env)=UV e env)(h:wpAny (IR prog w) A (UV e env) (λo s₁=>wpAny (IR prog w) A (getAttr o f true) Q E s₁) E s):wpAny (IR prog w) A (UV (.Attribute e f pos) env) Q E s:=
 Attribute_any_ h (by rw[arm_eval_Attribute,m])
end
structure HK(k:Nat)(A:Around):Prop where
 hd:A.handled=none
 dp:A.depth+3*k+5<recursionLimit
 un:A.units+16*k+200<cLine
 gd:A.guards=some []
def HK.mono{k:Nat}(r:HK k A)(h:j<=k):HK j A:=⟨r.hd,by have:=r.dp;omega,by have:=r.un;omega,r.gd⟩
def HK.deeper{k:Nat}{A:Around}(r:HK (k+1) A)(env:Env):HK k (A.deeper env):=⟨r.hd,by have:=r.dp;show A.depth+1+3*k+5<_;omega,by have:=r.un;show A.units+3+16*k+200<_;omega,r.gd⟩
variable {kw:List (Str×GM)}
def zkJ:(A.under<|.builtin "type.__call__" ⟨.ref C::us,kw⟩).depth=A.depth+1:=by first|rfl|simp[D1,Code.weight,Code.isCreation,Gx,Code.isCaller,Code.frames,Fj,guardIds]
def zkI:(A.under<|.builtin "type.__call__" ⟨.ref C::us,kw⟩).units=A.units+1:=by first|rfl|simp[D1,Code.cUnits,Code.frames,Fj]
def zi9:(A.under<|.builtin "type.__call__" ⟨.ref C::us,kw⟩).guards=A.guards:=by
 have h:(Code.builtin "type.__call__" ⟨.ref C::us,kw⟩).guards=[]:=by first|rfl|simp[Code.guards,Gx,guardIds]
 dsimp only[D1];rw[h];cases A.guards<;>rfl
def HK.make{k:Nat}(r:HK (k+1) A)(C:Addr)(us:List GM)(kw:List (Str×GM)):HK k (A.under<|.builtin "type.__call__" ⟨.ref C::us,kw⟩):=⟨r.hd,by have:=r.dp;rw[zkJ];omega,by have:=r.un;rw[zkI];omega,by rw[zi9];exact r.gd⟩
def HK.depth{k:Nat}{A:Around}(r:HK k A):A.depth<recursionLimit:=by have:=r.dp;omega
def HK.units{k:Nat}{A:Around}(r:HK k A):A.units+64<cLine:=by have:=r.un;omega
def Zw:TA:=λ_ H Q=>Q [] H
def nQ(ta:TE)(m:TA):TA:=λσ H Q=>ta σ H λx H1=>m σ H1 λxs a=>Q (x::xs) a
section
variable {t:TA}
def bE:PA X [] Zw:=λ_ _ _ _ H Q I h=>FC ⟨[],H,I,.nil,h⟩
def XN(m:PE X e te)(q:PA X es t)(z:Qqb X.env e es:=by rfl):PA X (e::es) (nQ te t):=by intro pos qp s σ H Q I h;rw[z];show wpAny _ _ (spliced ((false,UV e X.env)::backTo pos (SL es X.env))) _ _ s;refine DI<|HA (m qp s σ H _ I h) ?_;rintro u s1 ⟨x,H1,a,c,f⟩;exact HA (q pos qp s1 σ H1 _ a f) λus s2 ⟨xs,g,i,j,l⟩=>⟨x::xs,g,i,.cons c j,l⟩
def Zq(t:TA):TE:=λσ H Q=>t σ H λxs H1=>xs.length<=sizeLine/\∀p,H1 p=none->Q (.ref p) (upd H1 p<|.tup xs)
def Zx(t:TA):TE:=λσ H Q=>t σ H λxs H1=>xs.length<=sizeLine/\∀p,H1 p=none->Q (.ref p) (upd H1 p<|.lst xs)
def oZ{x1}(h:PA X es t):PE X (.Tuple es x1 pos) (Zq t):=by intro qp s σ H Q I a;refine EZ<|HA (h pos qp s σ H _ I a) λus s1 ⟨xs,H1,I1,r,z,q⟩=>⟨by rw[<-r.length];exact z,?_⟩;have hf:H1 s1.heap.objs.size=none:=I1.hok.fresh<|Ah _;refine⟨.ref s1.heap.objs.size,upd H1 s1.heap.objs.size<|.tup xs,I1.laid (t':=s1.toks) (λb u e=>Ad _ e) (Ah _) ?_,rfl,q _ hf⟩;exact⟨z,us,r,⟨_,Aq _ rfl,rfl,rfl,_,rfl⟩⟩
def oW(h:PA X es t):PE X (.List es pos) (Zx t):=by intro qp s σ H Q I a;refine wpAny_List_spliced<|HA (h pos qp s σ H _ I a) λus s1 ⟨xs,H1,I1,r,z,q⟩=>⟨by rw[<-r.length];exact z,?_⟩;have hf:H1 s1.heap.objs.size=none:=I1.hok.fresh<|Ah _;refine⟨.ref s1.heap.objs.size,upd H1 s1.heap.objs.size<|.lst xs,I1.laid (t':=s1.toks) (λb u e=>Ad _ e) (Ah _) ?_,rfl,q _ hf⟩;exact⟨z,us,0,r,Aq _ rfl⟩
end
noncomputable abbrev Sp:=List V->Hp->VK->XK->Prop
noncomputable abbrev Oi:=List Env->Hp->Shared->XK->Qqa
structure MV(P:Os)(w:Re)(K:Ac)(mg:Str->Option GM)(base:KF)(A:Around)(outer:List Env)(s:Shared)(H:Hp):Prop where
 frames:A.frames=some outer
 mod:Mod K mg base
 bs:∀b o,base.get? b=some o->s.heap.get? b=some o/\H b=none
 bsz:base.objs.size<=s.heap.objs.size
 funs:s.heap.FunFrames base outer
 frf:∀b∈MK outer,H b=none
 hok:JX P w H s.heap
 bare:AllBare s.gens
def CE(outer:List Env)(P:Os)(w:Re)(H:Hp)(s:Shared)(Q:VK)(u:GM)(s':Shared):Prop:=∃v H',s'.os=s.os/\AllBare s'.gens/\Un (MK outer) [] H H' s.heap s'.heap/\JX P w H' s'.heap/\RelV v u/\Q v H'
def CR(CX:Oi)(outer:List Env)(P:Os)(w:Re)(H:Hp)(s:Shared)(Q:VK)(E:XK)(r:Result)(s':Shared):Prop:=
 match r with
 |.ok (.ret u)=>CE outer P w H s Q u s'
 |.ok _=>False
 |.error e=>CX outer H s E e s'
structure Ja(P:Os)(w:Re)(K:Ac)(mg:Str->Option GM)(base:KF)(CX:Oi)(k:Nat)(f:Addr)(fd:FuncData)(ps:List Str)(sp:Sp):Prop where
 len:∀vs H Q E,sp vs H Q E->vs.length=ps.length
 run:∀(A:Around) (outer:List Env) (s:Shared) (H:Hp) (args:Args) (us:List GM) (vs:List V) (Q:VK) (E:XK),HK k A->MV P w K mg base A outer s H->BindsTo s fd args (ps.zip us)->Vals vs us->sp vs H Q E ->
  codeAny (IR P w) A (.call (.ref f) args) (CR CX outer P w H s Q E) s
variable {mg:Str->Option GM}{base:KF}{CX:Oi}{fd:FuncData}{ps:List Str}{sp:Sp}
def Ja.mono{P:Os}{w:Re}{K:Ac}{mg:Str->Option GM}{base:KF}{CX:Oi}{j k:Nat}{f:Addr}{fd:FuncData}{ps:List Str}{sp:Sp}(F:Ja P w K mg base CX j f fd ps sp)(h:j<=k):
  Ja P w K mg base CX k f fd ps sp:=⟨F.len,λA outer s H args us a Q E c=>F.run A outer s H args us a Q E (c.mono h)⟩
variable {outer:List Env}
def MV.make(e:MV P w K mg base A outer s H)(C:Addr)(us:List GM)(kw:List (Str×GM)):
  MV P w K mg base (A.under<|.builtin "type.__call__" ⟨.ref C::us,kw⟩) outer s H:=⟨by first|exact e.frames|(simpa[D1,Code.envs,Fj,pushEnvs]using e.frames),e.mod,e.bs,e.bsz,e.funs,e.frf,e.hok,e.bare⟩
def Inv.env0(I:Inv X qp σ H s):MV X.prog X.w X.K X.mg X.base X.A X.stack s H:=⟨I.ok.frames,I.ok.mod,I.bs,Ar I.ok.bsz I.sz,I.stack,I.stkFree,I.hok,I.bare⟩
def Inv.after{Q:VK}(I:Inv X qp σ H s)(h:CE X.stack X.prog X.w H s Q u s'):EP X qp σ Q u s':=by obtain⟨v,H',os,bare,un,a,r,q⟩:=h;obtain⟨e,g,d,t,c⟩:=s';obtain rfl:c=s.os:=os;exact⟨v,H',I.call (h':=e) (g':=g) (d':=d) (t':=t) (ch:=[]) un a bare λb z=>absurd z (by simp),r,q⟩
def nP(sp:Sp)(m:List V)(E:XK)(t:TA):TE:=λσ H Q=>t σ H λa H1=>sp (a++m) H1 Q E
def Binds(K:Ac)(fd:FuncData)(ps:List Str)(ds:List GM):Prop:=∀(s:Shared) (us:List GM),K.In s.heap->(us++ds).length=ps.length->BindsTo s fd ⟨us,[]⟩ (ps.zip<|us++ds)
def Binds.all(h:∀us:List GM,us.length=ps.length->bindArgs fd ⟨us,[]⟩=pure (ps.zip us)):Binds K fd ps []:=λs us _ a=>by rw[Am]at a ⊢;exact .of_eq<|h us a
def Passes(CX:Oi)(X:Cx)(E:XK):Prop:=∀(qp:List (Addr×Obj)) (σ:St) (H:Hp) (s:Shared) (e:GM) (s':Shared),Inv X qp σ H s->CX X.stack H s E e s'->X.xe e s'
section
variable {k:Nat}{f:Addr}{dvs:List V}{ds:List GM}{E:XK}{m:Str}{apos:Pos}{o:PP}{t:TA}
def bR{Q:VK}{q:List V}(F:Ja X.prog X.w X.K X.mg X.base CX k f fd ps sp)(z:HK k X.A)(B:Binds X.K fd ps ds)(hd:Vals dvs ds)(G:Passes CX X E)(I:Inv X qp σ H s) (r:Vals q us) (h:sp (q++dvs) H Q E):wpAny (IR X.prog X.w) X.A (call (.ref f) us) (EP X qp σ Q) X.xe s:=by
 have c:Vals (q++dvs) (us++ds):=r.append hd;have g:(us++ds).length=ps.length:=by rw[<-c.length];exact F.len _ _ _ _ h
 refine DW<|Dl (F.run X.A X.stack s H ⟨us,[]⟩ (us++ds) (q++dvs) Q E z I.env0 (B s us I.kIn g) c h) λr s' a=>?_
 cases r with
 |error e=>exact G qp σ H s e s' I a
 |ok i=>
  cases i with
  |ret u=>exact I.after a
  |next=>exact False.elim a
  |brk=>exact False.elim a
  |cont=>exact False.elim a
def cF(F:Ja X.prog X.w X.K X.mg X.base CX k f fd ps sp)(G:HK k X.A)(J:Gl X x)(hm:X.mg x=some (.ref f))(hk:BH X.K (.ref f)=true)(S:Binds X.K fd ps ds)(hd:Vals dvs ds)(T:Passes CX X E)(U:PA X (e::es) t) (z:(x==("__debug__":Str))=false:=by decide) (he:Qqb X.env e es:=by rfl) (B:Qqc pos es X.env:=by rfl):
  PE X (.Call (.Name x p) (e::es) [] pos) (nP sp dvs E t):=by
 intro qp s σ H Q I h;refine BX<|Vm I J hm ?_ z;refine DJ (h₀:=X.base) I.ok.mod.kin hk (HA (U pos qp s σ H _ I h) λus s1 ⟨a,H1,I1,r,q⟩=>⟨I1.kIn,?_⟩) he B;exact bR F G S hd T I1 r q
end
structure Iv(N P:List Str)(sc:Scope):Prop where
 kind:sc.kind=.function
 co:sc.isCoroutine=false
 gen:sc.isGenerator=false
 nd:N.Nodup
 pre:N.take P.length=P
 par:∀x∈P,sc.names.lookup x=some .local\/sc.names.lookup x=some .cell
 nofree:∀y∈sc.names,y.2≠.free
variable {kindOf:Str->Option NameKind}
theorem gV{kindOf:Str->Option NameKind}{x:Str}:∀{binds:List (Str×GM)} {m:Str->Option GM},(∀v,(x,v)∉binds)->bindL kindOf binds m x=m x
 |[],_,_=>rfl
 |(n,v)::r,m,h=>by
  unfold bindL;rw[gV λw hw=>h w (Ak _ hw)];split
  ·have:x≠n:=by rintro rfl;exact h v Al
   simp[this]
  rfl
theorem gT{kindOf:Str->Option NameKind}{x:Str}:∀{binds:List (Str×GM)} {m:Str->Option GM},(∀v,(x,v)∉binds)->bindC kindOf binds m x=m x
 |[],_,_=>rfl
 |(n,v)::r,m,h=>by
  unfold bindC;rw[gT λw hw=>h w (Ak _ hw)];split
  ·rfl
  ·have:x≠n:=by rintro rfl;exact h v Al
   simp[this]
theorem gU{kindOf:Str->Option NameKind}{x:Str}{v:GM}:∀{P:List Str}{q:List GM}{i:Nat}{m:Str->Option GM},P.Nodup->P[i]?=some x->q[i]?=some v->kindOf x=some .local ->
  bindL kindOf (P.zip q) m x=some v
 |[],_,_,_,_,h,_,_=>by simp at h
 |_::_,[],_,_,_,_,h,_=>by simp at h
 |p::P,w::q,0,m,F,z,B,hk=>by simp at z B;subst z;subst B;show bindL kindOf ((p,w)::P.zip q) m p=_;unfold bindL;rw[gV λv G=>(List.nodup_cons.mp F).1 (Ef G).1,if_pos hk];simp
 |p::P,w::q,i+1,m,F,z,B,hk=>by show bindL kindOf ((p,w)::P.zip q) m x=_;unfold bindL;exact gU (i:=i) (List.nodup_cons.mp F).2 (by simpa using z) (by simpa using B) hk
theorem gS{kindOf:Str->Option NameKind}{x:Str}{v:GM}:∀{P:List Str}{q:List GM}{i:Nat}{m:Str->Option GM},P.Nodup->P[i]?=some x->q[i]?=some v->kindOf x≠some .local ->
  bindC kindOf (P.zip q) m x=some v
 |[],_,_,_,_,h,_,_=>by simp at h
 |_::_,[],_,_,_,_,h,_=>by simp at h
 |p::P,w::q,0,m,F,z,B,hk=>by simp at z B;subst z;subst B;show bindC kindOf ((p,w)::P.zip q) m p=_;unfold bindC;rw[gT λv G=>(List.nodup_cons.mp F).1 (Ef G).1,if_neg hk];simp
 |p::P,w::q,i+1,m,F,z,B,hk=>by show bindC kindOf ((p,w)::P.zip q) m x=_;unfold bindC;exact gS (i:=i) (List.nodup_cons.mp F).2 (by simpa using z) (by simpa using B) hk
def start(N:List Str)(m:List V):St:=m.map some++A3 (N.length-m.length) none
def HJ(CX:Oi)(P:Os)(w:Re)(K:Ac)(mg:Str->Option GM)(base:KF)(N:List Str)(qual:Str)(scope:Scope)(f:Addr)(cd:GM)(A:Around)(outer:List Env)(s:Shared)(H:Hp)(E:XK):Cx where
 prog:=P
 w:=w
 K:=K
 mg:=mg
 base:=base
 A:=A.deeper (envOfC qual scope s.heap.objs.size f cd)
 N:=N
 s₀:=s
 H₀:=H
 env:=envOfC qual scope s.heap.objs.size f cd
 outer:=outer
 stack:=envOfC qual scope s.heap.objs.size f cd::outer
 ex:=[]
 calm:=true
 fn:=λ_=>true
 pn:=[]
 xe:=λe s'=>wpAny (IR P w) (A.deeper<|envOfC qual scope s.heap.objs.size f cd) (leaving (envOfC qual scope s.heap.objs.size f cd) e) (λ_ a=>CX outer H s E e a) (λc a=>CX outer H s E c a) s'
def dS{sc:Scope}(h:sc.names.lookup x=some .cell):∃c,(cellsFrom n sc.names []).lookup x=some c:=by have q:=Er sc.names n []<|.inl h;exact Option.isSome_iff_exists.mp q
variable {qual:Str}{scope:Scope}
def zmS{f:Addr}{cd:GM}{s1:Shared}{E:XK}{B:List V}(S:Iv N ps scope) (hd:A.handled=none) (m:MV P w K mg base A outer s H) (G:B.length=ps.length) (r:Vals B us)(x:InCallC s s.heap.objs.size (bindL (envOfC qual scope s.heap.objs.size f cd).kindOf (ps.zip us) λ_=>none) (cellsFrom (s.heap.objs.size+1) scope.names []) (bindC (envOfC qual scope s.heap.objs.size f cd).kindOf (ps.zip us) λ_=>none) s1):
  Inv (HJ CX P w K mg base N qual scope f cd A outer s H E) [] (start N B) H s1:=by
 have Q:ps.length<=N.length:=by have:=congrArg DG S.pre;rw[AN]at this;omega
 obtain⟨C,I,rfl,hk⟩:=x.done;have j:∀b:Addr,b∉(HJ CX P w K mg base N qual scope f cd A outer s H E).ex:=λb z=>absurd (show b∈([]:List Addr) from z) (by simp);refine⟨⟨m.mod,S.kind,rfl,rfl,Ah _,λy z c C g=>?_,λy hy=>?_,λy c _ h=>?_,λ_=>hd,Around.frames_deeper m.frames,.inr ⟨rfl,rfl⟩,λb z=>absurd z (j b),m.bs,m.bsz,λb _ _=>j b,λb z=>absurd z (j b),m.funs,m.frf⟩,
  rfl,m.bare,Un.kept hk,⟨_,x.toInCall.ns,λi y v C g J=>?_⟩,λy c h=>⟨_,x.cell y c h⟩,m.hok.fresh (Ah _),λy c h=>?_,λp l=>absurd (show p∈([]:List (Addr×Obj)) from l) (by simp),m.hok.kept hk,?_⟩
 ·exact name_of_addr x.apart (AW C)<|AW g
 ·have hy:scope.names.lookup y=some .cell\/scope.names.lookup y=some .free:=hy
  rcases hy with hy|hy
  ·exact dS hy
  exact absurd rfl<|S.nofree _<|AW hy
 ·exact B3<|x.above y c<|AW h
 ·have L:i<B.length:=by
   unfold start at g;by_cases L:i<B.length
   ·exact L
   ·rw[AU (by simpa using L)]at g;rw[B8]at g
    split at g<;>cases g
  have X:B[i]?=some v:=by
   unfold start at g;rw[AL (by simpa using L),AJ]at g
   cases e:B[i]? with
   |none=>rw[e]at g;cases g
   |some a=>rw[e]at g;cases g;rfl
  obtain⟨u,M,F⟩:=r.get X;have l:ps[i]?=some y:=by rw[<-S.pre,List.getElem?_take_of_lt (by omega)];exact C
  have o:ps.Nodup:=by rw[<-S.pre];exact S.nd.sublist<|Cp _ _
  refine⟨u,F,?_⟩;rcases S.par y (AK l)with k|k
  ·exact .inl ⟨k,gU o l M k⟩
  obtain⟨c,e⟩:=dS (n:=s.heap.objs.size+1) k;refine .inr ⟨.inl k,c,e,?_⟩;have q:=x.cell y c e;rw[gS o l M (by show scope.names.lookup y≠_;rw[k];decide)]at q;exact q
 ·exact m.hok.fresh<|B3<|x.above y c<|AW h
 unfold start;show _=N.length;rw[AF,Af,Ct];omega
def G4{k:Nat}{f:Addr}{name qual:Str}{params:Arguments}{body:List SZ}{scope:Scope}{T kV doc pm m U Y:GM}{an Z:Option Addr}{F:Array (Option GM)}   (lk:K.lookup f=some ⟨Y,Z,.func<|BY name qual params body scope T kV doc pm an m U,F⟩) (G:CZ K m qual=true) (S:Iv N ps scope)(len:∀z H Q E,sp z H Q E->z.length=ps.length)(B:∀(A:Around) (outer:List Env) (s:Shared) (H:Hp) (z:List V) (Q:VK) (E:XK),HK k (A.deeper<|envOfC qual scope s.heap.objs.size f m)->sp z H Q E ->
   ∃t,K1 (HJ CX P w K mg base N qual scope f m A outer s H E) body t/\t {nx:=λ_ H'=>Q .non H',rt:=Q} (start N z) H):
  Ja P w K mg base CX (k+1) f (BY name qual params body scope T kV doc pm an m U) ps sp:=by
 refine⟨len,λA outer s H args us z Q E i g hb r h=>?_⟩;have C:=len _ _ _ _ h;have l:K.In s.heap:=g.mod.kin.keeps λb o e=>(g.bs b o e).1;have lim:s.heap.NoLimit:=g.mod.nolimit.keeps λb o e=>(g.bs b o e).1;have a:∀y∈ps.zip us,scope.names.lookup y.1=some .local\/(scope.names.lookup y.1=some .cell/\((cellsFrom (s.heap.objs.size+1) scope.names []).lookup y.1).isSome=true):=by
  rintro⟨n,v⟩ L;rcases S.par n (Ef L).1 with q|q
  ·exact .inl q
  exact .inr ⟨q,Er _ _ _<|.inl q⟩
 refine codeAny_call_function i.depth (l _ _ lk) rfl S.co S.gen rfl (PySem.W.codeRec_of l G)<|hb _ _ _ _ ?_;refine wpAny_newFunctionEnv_cells S.kind a λenv he s1 x=>?_;subst he;refine⟨lim.keeps x.toInCall.keep,codeAny_func ?_⟩;obtain⟨t,M,X⟩:=B A outer s H z Q E (i.deeper _) h;have I:Inv (HJ CX P w K mg base N qual scope f m A outer s H E) [] (start N z) H s1:=zmS S i.hd g C r x;refine A6 (M [] s1 (start N z) H _ I X) (λfl s' c=>?_) λe s' c=>c;have fin:∀{σ':St}{H':Hp}{v:V}{u:GM},Inv (HJ CX P w K mg base N qual scope f m A outer s H E) [] σ' H' s'->RelV v u->Q v H'->CE outer P w H s Q u s':=
  λ{σ' H' v u} J j q=>⟨v,H',J.os,J.bare,J.base,J.hok,j,q⟩
 cases fl with
 |ret u=>
  obtain⟨v,σ',H',J,j,q⟩:=c;exact fin J j q
 |next=>
  obtain⟨σ',H',J,q⟩:=c;exact fin (v:=V.non) (u:=AH) J rfl q
 |brk=>
  obtain⟨_,_,_,q⟩:=c;exact False.elim q
 |cont=>
  obtain⟨_,_,_,q⟩:=c;exact False.elim q
variable {id T:String}
section
variable {t:TA}{r:List V->Hp->VK->Prop}
def ZD(r:List V->Hp->VK->Prop)(t:TA):TE:=λσ H Q=>t σ H λa H1=>r a H1 Q
def fC(z:NL X (.builtin id) r)(B:Gl X x)(hm:X.mg x=none)(F:UF x=some (.builtin id))(G:PA X (e::es) t)(J:x≠"__name__":=by decide)(m:(x==("__debug__":Str))=false:=by decide)(he:Qqb X.env e es:=by rfl) (q:Qqc pos es X.env:=by rfl):PE X (.Call (.Name x p) (e::es) [] pos) (ZD r t):=by
 intro qp s σ H Q I h;refine BX<|QB I B hm F ?_ J m;exact PyProof.Rows.callWith_builtin1 (HA (G pos qp s σ H _ I h) λus s1 ⟨a,H1,c,f,g⟩=>z qp s1 σ H1 a us Q c f g) he q
def zmr(z:NL X (.type T) r)(B:Gl X x)(hm:X.mg x=none)(F:UF x=some (.type T))(G:PA X (e::es) t)(J:x≠"__name__":=by decide)(m:(x==("__debug__":Str))=false:=by decide)(he:Qqb X.env e es:=by rfl) (q:Qqc pos es X.env:=by rfl):PE X (.Call (.Name x p) (e::es) [] pos) (ZD r t):=by
 intro qp s σ H Q I h;refine BX<|QB I B hm F ?_ J m;exact BA (HA (G pos qp s σ H _ I h) λus s1 ⟨a,H1,c,f,g⟩=>z qp s1 σ H1 a us Q c f g) he q
end
section
variable [DecidableEq κ]
def JZ(kvs:List (κ×V))(k:κ):Option V:=(kvs.find? λa=>decide (a.1=k)).map (·.2)
def putK(kvs:List (κ×V))(k:κ)(v:V):List (κ×V):=if(kvs.any λa=>decide (a.1=k))=true then kvs.map (λa=>if a.1=k then(a.1,v)else a)else kvs++[(k,v)]
def Yl{p:κ×V}{r:List (κ×V)}{k:κ}(e:p.1=k):JZ (p::r) k=some p.2:=by simp[JZ,Bl,e]
def Yk{p:κ×V}{r:List (κ×V)}{k:κ}(e:¬p.1=k):JZ (p::r) k=JZ r k:=by simp[JZ,Bl,e]
theorem fV(k:κ):∀kvs:List (κ×V),(kvs.any λm=>decide (m.1=k))=(JZ kvs k).isSome
 |[]=>rfl
 |p::r=>by
  rw[Cb];by_cases e:p.1=k
  ·simp only[Yl e,decide_eq_true e,D2,Fk]
  rw[Yk e,decide_eq_false e,Gn];exact fV k r
def Y6(kvs:List (κ×V))(k:κ)(v:V):(putK kvs k v).length<=kvs.length+1:=by
 unfold putK;split
 ·rw[Af];omega
 rw[AF,AB,A1];omega
def KI.isSome_eq{o:Option V}{u:Option GM}(r:KI o u):o.isSome=u.isSome:=by
 cases o with
 |none=>cases u with
  |none=>rfl
  |some _=>exact(show False from r).elim
 |some _=>cases u with
  |none=>exact(show False from r).elim
  |some _=>rfl
def KV.val{kvs:List (κ×V)}{m:List (κ×GM)}(r:KV kvs m)(k:κ):KI (JZ kvs k) (valueAt m k):=by
 unfold KV at r
 induction r with
 |nil=>exact Cf
 |@cons p q ps a h t f=>
  obtain⟨h1,g⟩:=h;by_cases e:p.1=k
  ·have c:q.1=k:=h1.symm.trans e;have b:valueAt (q::a) k=some q.2:=by simp[valueAt,Bl,c]
   rw[Yl e,b];exact g
  ·have c:¬q.1=k:=λz=>e<|h1.trans z;have b:valueAt (q::a) k=valueAt a k:=by simp[valueAt,Bl,c]
   rw[Yk e,b];exact f
def KV.any{kvs:List (κ×V)}{q:List (κ×GM)}(r:KV kvs q)(k:κ):(kvs.any λm=>decide (m.1=k))=q.any λm=>decide (m.1=k):=by
 unfold KV at r
 induction r with
 |nil=>rfl
 |cons h t a=>rw[Cb,Cb,a,h.1]
def KV.repl{kvs:List (κ×V)}{B:List (κ×GM)}(r:KV kvs B)(k:κ)(F:RelV y u):
  KV (kvs.map λm=>if m.1=k then(m.1,y)else m) (B.map λm=>if m.1=k then(m.1,u)else m):=by
 unfold KV at r ⊢
 induction r with
 |nil=>exact .nil
 |@cons p q ps g h t c=>
  rw[Au,Au];refine .cons ?_ c;obtain⟨a,f⟩:=h;by_cases e:p.1=k
  ·rw[if_pos e,if_pos (a.symm.trans e)];exact⟨a,F⟩
  rw[if_neg e,if_neg (λz=>e (a.trans z))];exact⟨a,f⟩
def KV.put{kvs:List (κ×V)}{m:List (κ×GM)}(r:KV kvs m)(k:κ)(q:RelV y u):KV (putK kvs k y) (stored m k u):=by
 unfold putK stored;rw[r.any k];by_cases e:(m.any λa=>decide (a.1=k))=true
 ·rw[if_pos e,if_pos e];exact r.repl k q
 rw[if_neg e,if_neg e];exact GG r ⟨rfl,q⟩
def KV.length{kvs:List (κ×V)}{m:List (κ×GM)}(r:KV kvs m):kvs.length=m.length:=BP r
end
def Qp{k:Key}(r:RelV (kV k) u):(J7 P w).is k u=true:=by
 cases k with
 |inl i=>obtain⟨t,e⟩:=(show ∃t,u=Ee i t from r);subst e;exact zi8 P w i t
 |inr x=>obtain⟨t,e⟩:=(show ∃t,u=Gk x t from r);subst e;exact zi7 P w x t
theorem fZ{P:Os}{w:Re}:∀{ks:List Key}{us:List GM},Vals (ks.map kV) us->ItemsAre (J7 P w) ks us
 |[],_,r=>by rw[BM]at r;cases r;exact .nil
 |k::ks,_,r=>by
  rw[Au]at r;cases r with
  |cons h t=>exact .cons (Qp h)<|fZ t
noncomputable abbrev KT (H:Hp):List (List Key×V)->List (List Key×Addr×GM)->Prop:=Paired λp q=>p.1=q.1/\H q.2.1=some (.tup<|p.1.map kV)/\RelV p.2 q.2.2
variable {xs:List (List Key×Addr×GM)}{kvs:List (List Key×V)}
def KT.val(r:KT H kvs xs)(k:List Key):KI (JZ kvs k) ((atKey xs k).map (·.2)):=by
 induction r with
 |nil=>exact Cf
 |@cons p q ps a h t f=>
  obtain⟨h1,_,g⟩:=h;by_cases e:p.1=k
  ·have c:q.1=k:=h1.symm.trans e;have b:atKey (q::a) k=some q.2:=by simp[atKey,Bl,c]
   rw[Yl e,b];exact g
  ·have c:¬q.1=k:=λz=>e<|h1.trans z;have b:atKey (q::a) k=atKey a k:=by simp[atKey,Bl,c]
   rw[Yk e,b];exact f
def KT.repl(r:KT H kvs xs)(k:List Key)(B:RelV y u):
  KT H (kvs.map λm=>if m.1=k then(m.1,y)else m) (xs.map<|putAt k u):=by
 induction r with
 |nil=>exact .nil
 |@cons p q ps i h t f=>
  rw[Au,Au];refine .cons ?_ f;obtain⟨a,c,g⟩:=h;unfold putAt;by_cases e:p.1=k
  ·rw[if_pos e,if_pos (a.symm.trans e)];exact⟨a,c,B⟩
  rw[if_neg e,if_neg (λz=>e (a.trans z))];exact⟨a,c,g⟩
def KT.put(r:KT H kvs xs)(k:List Key)(z:H b=some (.tup<|k.map kV))(m:RelV y u):
  KT H (putK kvs k y) (storedH xs k b u):=by
 have e:(kvs.any λa=>decide (a.1=k))=(atKey xs k).isSome:=by rw[fV,(r.val k).isSome_eq,DR]
 unfold putK storedH;rw[e];by_cases q:(atKey xs k).isSome=true
 ·rw[if_pos q,if_pos q];exact r.repl k m
 rw[if_neg q,if_neg q];exact GG r ⟨rfl,z,m⟩
def KT.keeps(r:KT H kvs xs)(q:∀b m,H b=some (.tup m)->H' b=some (.tup m)):KT H' kvs xs:=Paired.mapP r λ_ _ z=>⟨z.1,q _ _ z.2.1,z.2.2⟩
def aH{u:HO}(ok:JX P w H h)(e:Rd H a u):Kw P w H h a u:=e.ok ok
def Rv{kvs:List (Key×V)}(ok:JX P w H h)(e:Rd H a (.dK kvs)):kvs.length<=sizeLine/\(a==sysModules)=false/\∃m,KV kvs m/\h.DictOf (J7 P w) a m:=show Kw P w H h a (.dK kvs) from aH ok e
def aP{kvs:List (Key×V)}(ok:JX P w H h)(e:H a=some (.dK kvs)):kvs.length<=sizeLine/\(a==sysModules)=false/\∃m,KV kvs m/\h.DictOf (J7 P w) a m:=Rv ok<|.inl e
def Td{ks:List Key}(ok:JX P w H h)(e:H a=some (.tup<|ks.map kV)):(tupleKind<|J7 P w).is h ks a:=by
 obtain⟨_,c,r,o,f,g,_,n,i⟩:=(show Kw P w H h a (.tup<|ks.map kV) from ok a _ e)
 exact⟨o,c.toArray,n,f,g,i,by simpa using fZ r⟩
def RA(ok:JX P w H h)(e:Rd H a (.dT kvs)):kvs.length<=sizeLine/\(a==sysModules)=false /\
  ∃xs,KT H kvs xs/\h.DictOfH (tupleKind<|J7 P w) a xs:=by
 obtain⟨z,y,xs,r,o,es,f,g,i,j,n,s⟩:=(show Kw P w H h a (.dT kvs) from aH ok e)
 refine⟨z,y,xs,r,o,es,f,g,i,j,n,λx hx=>?_,s⟩;have all:∀{l:List (List Key×V)} {m:List (List Key×Addr×GM)},KT H l m->∀x∈m,(tupleKind<|J7 P w).is h x.1 x.2.1:=by
  intro l m q
  induction q with
  |nil=>intro x hx;exact nomatch hx
  |@cons p q ps v c t u=>
   intro x hx;rcases KM.mp hx with e|hx
   ·subst e;exact Td ok (by rw[<-c.1];exact c.2.1)
   exact u x hx
 exact all r x hx
def mO(ok:JX P w H h)(e:H a=some (.dT kvs)):kvs.length<=sizeLine/\(a==sysModules)=false /\
  ∃xs,KT H kvs xs/\h.DictOfH (tupleKind<|J7 P w) a xs:=RA ok (.inl e)
def J6(H:Hp)(a:Addr)(y:V)(r:Option V):Prop:=(∃kvs k,Rd H a (.dK kvs)/\y=kV k/\r=JZ kvs k)\/∃kvs k b,Rd H a (.dT kvs)/\y=.ref b/\H b=some (.tup<|k.map kV)/\r=JZ kvs k
def LJ(H:Hp)(a:Addr)(y v:V)(H':Hp):Prop:=
 (∃kvs k,H a=some (.dK kvs)/\y=kV k/\kvs.length<sizeLine/\H'=upd H a (.dK<|putK kvs k v)) \/
 ∃kvs k b,H a=some (.dT kvs)/\y=.ref b/\H b=some (.tup<|k.map kV)/\kvs.length<sizeLine/\H'=upd H a (.dT<|putK kvs k v)
def J6.k{H:Hp}{a:Addr}{kvs:List (Key×V)}{k:Key}(e:H a=some (.dK kvs)):J6 H a (kV k) (JZ kvs k):=.inl ⟨kvs,k,.inl e,rfl,rfl⟩
def J6.t{k:List Key}(e:H a=some (.dT kvs))(m:H b=some (.tup<|k.map kV)):J6 H a (.ref b) (JZ kvs k):=.inr ⟨kvs,k,b,.inl e,rfl,m,rfl⟩
def LJ.k{H:Hp}{a:Addr}{kvs:List (Key×V)}{k:Key}{v:V}(e:H a=some (.dK kvs))(m:kvs.length<sizeLine):LJ H a (kV k) v (upd H a<|.dK<|putK kvs k v):=.inl ⟨kvs,k,e,rfl,m,rfl⟩
def LJ.t{k:List Key}(e:H a=some (.dT kvs))(m:H b=some (.tup<|k.map kV))(q:kvs.length<sizeLine):
  LJ H a (.ref b) v (upd H a<|.dT<|putK kvs k v):=.inr ⟨kvs,k,b,e,rfl,m,q,rfl⟩
section
variable {r:GM}{o:Option V}
def Inv.big(I:Inv X qp σ H s):sysModules<s.heap.objs.size:=by have h:Wp<s.heap.objs.size:=(I.mod.glob.keeps I.bk).lt;exact Cu (by decide) h
def zm5(B:A.units+1<cLine)(I:Inv X qp σ H s)(g:J6 H a y (some v))(q:RelV y u)(h:∀m s',Inv X qp σ H s'->RelV v m->Q m s'):
  wpAny (IR X.prog X.w) A (getItem (.ref a) u) Q E s:=by
 rcases g with⟨kvs,k,e,f,l⟩|⟨kvs,k,b,e,f,n,l⟩
 ·subst f;obtain⟨z,hd,r,rel,i⟩:=Rv I.hok e;obtain⟨m,hw,c⟩:=KI.some_of (v:=v) (o:=valueAt r k) (by rw[l];exact rel.val k);exact wpAny_getItem_of (Qp q) i.mapOf hw<|h m _ (I.tok _) c
 ·subst f
  cases (show u=Ax b from q)
  obtain⟨z,hd,xs,rel,i⟩:=RA I.hok e;obtain⟨m,hw,c⟩:=KI.some_of (v:=v) (o:=(atKey xs k).map (·.2)) (by rw[l];exact rel.val k);obtain⟨p,x,j⟩:=Option.map_eq_some_iff.mp hw;refine wpAny_getItem_heap (CO B) (Td I.hok n) i x ?_;rw[j];exact h m _ (I.tok _) c
def GR(B:A.units+1<cLine)(I:Inv X qp σ H s)(g:J6 H a y o)(m:RelV y u)(h:∀s',Inv X qp σ H s'->Q (.bool o.isSome) s'):
  wpAny (IR X.prog X.w) A (Pv .In u<|.ref a) Q E s:=by
 rcases g with⟨kvs,k,e,c,l⟩|⟨kvs,k,b,e,c,i,l⟩
 ·subst c;obtain⟨z,hd,j,rel,f⟩:=Rv I.hok e;refine wpAny_in_of (Qp m) hd f.mapOf ?_;rw[<-(rel.val k).isSome_eq,<-l];exact h _<|I.tok _
 ·subst c
  cases (show u=Ax b from m)
  obtain⟨z,hd,xs,rel,f⟩:=RA I.hok e;refine wpAny_in_heap (CO B) (Td I.hok i) hd f ?_;have q:=(rel.val k).isSome_eq;rw[DR]at q;rw[<-q,<-l];exact h _<|I.tok _
def rC(B:A.units+1<cLine)(I:Inv X qp σ H s)(g:J6 H a y o)(m:RelV y u)(h:∀s',Inv X qp σ H s'->Q (.bool<|!o.isSome) s'):
  wpAny (IR X.prog X.w) A (Pv .NotIn u<|.ref a) Q E s:=by
 rcases g with⟨kvs,k,e,c,l⟩|⟨kvs,k,b,e,c,i,l⟩
 ·subst c;obtain⟨z,hd,j,rel,f⟩:=Rv I.hok e;refine wpAny_notIn_of (Qp m) hd f.mapOf ?_;rw[<-(rel.val k).isSome_eq,<-l];exact h _<|I.tok _
 ·subst c
  cases (show u=Ax b from m)
  obtain⟨z,hd,xs,rel,f⟩:=RA I.hok e;refine wpAny_notIn_heap (CO B) (Td I.hok i) hd f ?_;have q:=(rel.val k).isSome_eq;rw[DR]at q;rw[<-q,<-l];exact h _<|I.tok _
def Xw{ob:HO}(I:Inv X qp σ H s)(m:Sq (H a))(B:By a s.heap h')(he:∃q,h'.get? a=some q)(new:Kw X.prog X.w (upd H a ob) h' a ob):
  Inv X qp σ (upd H a ob) {s with heap:=h',toks:=t'}:=
 I.write (x:=a) (e:=a) m (.inl rfl) (λb q c z=>(B.2 b c).trans z) he new
def Vh{kvs:List (Key×V)}{m:List (Key×GM)}(z:kvs.length<=sizeLine)(hd:(a==sysModules)=false)(rel:KV kvs m)(dd:h'.DictOf (J7 P w) a m):
  Kw P w H' h' a (.dK kvs):=⟨z,hd,m,rel,dd⟩
def zm4{Q:Unit->Shared->Prop}(F:A.units+1<cLine)(I:Inv X qp σ H s)(g:LJ H a y v H')(m:RelV y u)(B:RelV v r)(h:∀s',Inv X qp σ H' s'->Q () s'):
  wpAny (IR X.prog X.w) A (setItem (.ref a) u r) Q E s:=by
 rcases g with⟨kvs,k,e,j,l,n⟩|⟨kvs,k,b,e,j,L,l,n⟩
 ·subst j n;obtain⟨z,hd,N,rel,o⟩:=aP I.hok e;have x:N.length<=sizeLine:=by rw[<-rel.length];exact z
  have C:(putK kvs k v).length<=sizeLine:=by have:=Y6 kvs k v;omega
  refine wpAny_setItem_pairs (hsz:=x) (Qp m) o λh' f K=>h _ ?_;have he:∃q,h'.get? a=some q:=let ⟨q,_,_,i,_⟩:=f;⟨q,i⟩;exact Xw I (by rw[e];exact Cf) K he<|Vh C hd (rel.put k B) f
 ·subst j n
  cases (show u=Ax b from m)
  obtain⟨z,hd,xs,rel,o⟩:=mO I.hok e;have x:xs.length<=sizeLine:=by rw[<-BP rel];exact z
  have C:(putK kvs k v).length<=sizeLine:=by have:=Y6 kvs k v;omega
  refine wpAny_setItem_heap (hsz:=x) (CO F) (Td I.hok L) o λh' f K=>h _ ?_;obtain⟨q,es,T,i,G,J,S,_,U⟩:=f;refine Xw I (by rw[e];exact Cf) K ⟨q,i⟩ ⟨C,hd,_,(rel.put k L B).keeps λc W M=>?_,q,es,T,i,G,J,S,U⟩;rw[HR (OS M e λz=>nomatch z)];exact M
end
def P7(i:PP):Prop:=∀a c,subscripted i false a c=operate [a,c] (getItem a c)
variable {value:PP}
def vE{slice:PP}(m:typeLookup (.type T) "__getitem__"=pure (some<|.builtin id)) (q:P7 slice)(h:wpAny (IR prog w) A (UV value env) (λo s₁=>wpAny (IR prog w) A (UV slice env) (λi s₂=>s₂.TypeIs o T/\wpAny (IR prog w) A (getItem o i) Q E s₂) E s₁) E s):
  wpAny (IR prog w) A (UV (.Subscript value slice pos) env) Q E s:=by
 refine F6<|A6 h (λo s₁ h₁=>A6 h₁ (λi s₂ h₂=>?_) λ_ _ x=>x) λ_ _ x=>x;obtain⟨a,h₂⟩:=h₂;unfold subscriptTail;refine Ab ?_;rw[getitemInPython_of_ne a.not_modules];refine Ab<|wpAny_specialOf a m ?_;have fin:wpAny (IR prog w) A (subscripted slice false o i) (λr s₃=>wpAny (IR prog w) A (letTemporaryGo value o r >>= λ_=>pure r) Q E s₃) E s₂:=by rw[q o i];exact wpAny_operating<|A6 h₂ (λr s₃ h₃=>Ab (wpAny_letTemporaryGo<|Ae h₃)) λ_ _ x=>x
 first
  |exact Ae (Ab fin)
  |exact Ab (Ae<|Ab fin)
  |exact Ab fin
def zjc{o:Option V}(I:Inv X qp σ H s)(g:J6 H a y o):s.TypeIs (.ref a) "dict":=by
 rcases g with⟨kvs,k,e,_,_⟩|⟨kvs,k,b,e,_,_,_⟩
 ·obtain⟨_,_,f,_,c⟩:=Rv I.hok e;exact c.typeIs
 obtain⟨_,_,xs,_,c⟩:=RA I.hok e;exact c.typeIs
def nR(m ty:TE):TE:=λσ H Q=>m σ H λx H1=>ty σ H1 λy c=>∃a v,x=.ref a/\J6 c a y (some v)/\Q v c
def ZC(ty m:TE):TE:=λσ H Q=>ty σ H λy H1=>m σ H1 λx c=>∃a o,x=.ref a/\J6 c a y o/\Q (.bl o.isSome) c
def vF(ty m:TE):TE:=λσ H Q=>ty σ H λy H1=>m σ H1 λx c=>∃a o,x=.ref a/\J6 c a y o/\Q (.bl<|!o.isSome) c
def nJ(m ty q:TE):TS:=λD σ H=>q σ H λv H1=>m σ H1 λx e=>ty σ e λy f=>∃a c,x=.ref a/\LJ f a y v c/\D.nx σ c
variable {tv:TE}
section
variable {o i:PP}{tpos:Pos}{td ty:TE}
def tR(m:X.A.units+1<cLine)(q:PE X o td)(hi:PE X i ty)(z:P7 i):PE X (.Subscript o i pos) (nR td ty):=by intro qp s σ H Q I h;refine vE PySem.F.slot_dict_getitem.lookup z<|HA (q qp s σ H _ I h) λu s1 ⟨x,H1,f,rx,j⟩=>HA (hi qp s1 σ H1 _ f j) ?_;rintro C s2 ⟨y,l,e,n,a,v,ex,g,r⟩;subst ex;obtain rfl:u=Ax a:=rx;exact⟨zjc e g,zm5 m e g n λE s3 w c=>⟨v,l,w,c,r⟩⟩
def bF(m:X.A.units+1<cLine)(hi:PE X i ty)(q:PE X o td):PC X .In i o (ZC ty td):=by intro qp s σ H Q I h;refine HA (hi qp s σ H _ I h) λw s1 ⟨y,H1,c,e,f⟩=>HA (q qp s1 σ H1 _ c f) ?_;rintro u s2 ⟨x,j,l,rx,a,n,ex,g,r⟩;subst ex;obtain rfl:u=Ax a:=rx;exact GR m l g e λs3 v=>⟨.bl n.isSome,j,v,rfl,r⟩
def zms(m:X.A.units+1<cLine)(hi:PE X i ty)(q:PE X o td):PC X .NotIn i o (vF ty td):=by intro qp s σ H Q I h;refine HA (hi qp s σ H _ I h) λw s1 ⟨y,H1,c,e,f⟩=>HA (q qp s1 σ H1 _ c f) ?_;rintro u s2 ⟨x,j,l,rx,a,n,ex,g,r⟩;subst ex;obtain rfl:u=Ax a:=rx;exact rC m l g e λs3 v=>⟨.bl<|!n.isSome,j,v,rfl,r⟩
def vP(m:X.A.units+1<cLine)(q:PE X o td)(hi:PE X i ty)(z:PE X value tv)(B:swapsWith value (some<|.Subscript o i pos') pos.line X.env=pure false):
  PS X (.Assign [.Subscript o i pos'] value pos) (nJ td ty tv):=by
 intro qp s σ H D I h;refine wpAny_Assign_Subscript (HA (z qp s σ H _ I h) λr s1 ⟨v,H1,c,e,f⟩=>HA (q qp s1 σ H1 _ c f) λu s2 ⟨x,j,l,rx,n⟩=>HA (hi qp s2 σ j _ l n) ?_) B;rintro M s3 ⟨y,N,w,C,a,E,ex,g,K⟩;subst ex;obtain rfl:u=Ax a:=rx;exact zm4 m w g C e λs4 L=>⟨σ,E,L,K⟩
end
def xZ(h:KF)(m:sysModules<h.objs.size):Kw P w H (h.push Qqd) h.objs.size (.dK []):=⟨Bo _,beq_eq_false_iff_ne.mpr<|A7<|Aw m,[],.nil,Eg h⟩
def yD(h:KF)(m:sysModules<h.objs.size):Kw P w H (h.push Qqd) h.objs.size (.dT []):=⟨Bo _,beq_eq_false_iff_ne.mpr<|A7<|Aw m,[],.nil,_,#[],0,Aq _ rfl,⟨rfl,rfl,rfl⟩,rfl,rfl,Gg⟩
def rR:TE:=λ_ H Q=>∀p,H p=none->Q (.ref p) (upd H p<|.dT [])
def zF:PE X (.Dict [] [] pos) rR:=λqp s σ H Q I h=>
 wpAny_Dict_empty ⟨.ref s.heap.objs.size,_,I.laid (a:=s.heap.objs.size) (o:=.dT []) (t':=s.toks) (λ_ _ q=>Ad _ q) (Ah _)<|yD s.heap I.big,rfl,h _<|I.hok.fresh<|Ah _⟩
def Xt:List (TE×TE)->St->Hp->(List (V×V)->Hp->Prop)->Prop
 |[],_,H,Q=>Q [] H
 |(m,tv)::r,σ,H,Q=>m σ H λx H1=>tv σ H1 λy q=>Xt r σ q λps z=>Q ((x,y)::ps) z
noncomputable abbrev VV:List (V×V)->List (GM×GM)->Prop:=Paired λp q=>RelV p.1 q.1/\RelV p.2 q.2
def WG(X:Cx)(pos:Pos)(keys:List (Option PP))(values:List PP)(m:List (TE×TE)):Prop:=
 ∀(qp:List (Addr×Obj)) (s:Shared) (σ:St) (H:Hp) (Q:List (V×V)->Hp->Prop),Inv X qp σ H s->Xt m σ H Q ->
  wpAny (IR X.prog X.w) X.A (evalPairs<|pairTrees keys values X.env pos) (λa s'=>∃ps H',Inv X qp σ H' s'/\VV ps a/\Q ps H') X.xe s
def wQ:WG X pos [] [] []:=λqp s σ H Q I h=>pairTrees_nil_walk ⟨[],H,I,.nil,h⟩
variable {trs:List (TE×TE)}
def zL{k v:PP}{ks:List (Option PP)}{m:List PP}{q:TE}(hk:PE X k q)(z:PE X v tv)(B:WG X pos ks m trs):
  WG X pos (some k::ks) (v::m) ((q,tv)::trs):=λqp s σ H Q I h=>
 pairTrees_cons_walk (HA (hk qp s σ H _ I h) λu s1 ⟨x,H1,a,rx,c⟩=>HA (z qp s1 σ H1 _ a c) λo s2 ⟨y,e,f,g,i⟩=>
  HA (B qp s2 σ e _ f i) λws s3 ⟨ps,j,l,rel,n⟩=>⟨(x,y)::ps,j,l,.cons ⟨rx,g⟩ rel,n⟩)
def N7(kvs more:List (Key×V)):List (Key×V):=more.foldl (λacc a=>putK acc a.1 a.2) kvs
def KV.merge:∀{more:List (Key×V)} {rs:List (Key×GM)} {kvs:List (Key×V)} {m:List (Key×GM)},KV more rs->KV kvs m->KV (N7 kvs more) (merged m rs):=by
 intro more rs kvs m r;unfold KV at r
 induction r generalizing kvs m with
 |nil=>intro q;exact q
 |@cons p q ps f h t a=>
  intro c;have e:KV (putK kvs p.1 p.2) (stored m q.1 q.2):=by have:=c.put p.1 h.2;rw[<-h.1];exact this
  exact a e
theorem V5:∀(more kvs:List (Key×V)),(N7 kvs more).length<=kvs.length+more.length
 |[],kvs=>by show kvs.length<=kvs.length+0;omega
 |p::r,kvs=>by have m:=V5 r<|putK kvs p.1 p.2;have a:=Y6 kvs p.1 p.2;show(N7 (putK kvs p.1 p.2) r).length<=_;rw[AB];omega
theorem iY{P:Os}{w:Re}:∀{kvs:List (Key×V)} {ws:List (GM×GM)},VV (kvs.map λm=>(kV m.1,m.2)) ws->∃rs,Carries (J7 P w) ws rs/\KV kvs rs
 |[],_,r=>by rw[BM]at r;cases r;exact⟨[],Cf,.nil⟩
 |p::kvs,_,r=>by
  rw[Au]at r;cases r with
  |@cons a b as bs h t=>
   obtain⟨rs,c,q⟩:=iY (P:=P) (w:=w) t;obtain⟨b1,e⟩:=b;exact⟨(p.1,e)::rs,⟨Qp h.1,rfl,c⟩,.cons ⟨rfl,h.2⟩ q⟩
def nS(trs:List (TE×TE)):TE:=λσ H Q=>∀p,H p=none->Xt trs σ (upd H p<|.dK []) λps a=>a p=some (.dK [])/\∃kvs:List (Key×V),ps=kvs.map (λc=>(kV c.1,c.2))/\kvs.length<=15/\Q (.ref p) (upd a p<|.dK<|N7 [] kvs)
def wJ{keys:List (Option PP)}{values:List PP}(h:WG X pos keys values trs)(m:keys.all (·.isSome)=true)(F:keys.length=values.length)(h0:keys≠[])(B:keys.length<=15):PE X (.Dict keys values pos) (nS trs):=by
 intro qp s σ H Q I q;have g:=I.hok.fresh<|Ah s.heap.objs.size;have i:=I.laid (a:=s.heap.objs.size) (o:=.dK []) (h':=s.heap.push Qqd) (t':=s.toks) (λ_ _ q=>Ad _ q) (Ah _) (xZ s.heap I.big);refine wpAny_Dict_walk (knd:=J7 X.prog X.w) m F h0 B<|HA (h qp _ σ _ _ i<|q _ g) ?_;rintro ws s2 ⟨ps,C,I2,rel,e,kvs,j,E,l⟩;subst j;obtain⟨rs,c,n⟩:=iY (P:=X.prog) (w:=X.w) rel;obtain⟨z,hd,r,u,v⟩:=aP I2.hok e;cases u;refine⟨rs,c,v,λh' f x=>⟨.ref s.heap.objs.size,_,?_,rfl,l⟩⟩;have y:(N7 [] kvs).length<=sizeLine:=by have A:=V5 kvs [];rw[A1]at A;rw[Cm];omega
 have he:∃q,h'.get? s.heap.objs.size=some q:=let ⟨q,_,_,hq,_⟩:=f;⟨q,hq⟩;exact Xw I2 (by rw[e];exact Cf) x he<|Vh y hd (n.merge .nil) f
def IsD(H:Hp)(a:Addr):Prop:=(∃kvs,Rd H a (.dK kvs))\/∃kvs,Rd H a (.dT kvs)
def pR(I:Inv X qp σ H s)(d:IsD H a):
  s.TypeIs (.ref a) "dict"/\(∀b,Ax a=.ref b->∃ob,s.heap.get? b=some ob/\ob.dict=none)/\(a==sysModules)=false:=by
 rcases d with⟨kvs,e⟩|⟨kvs,e⟩
 ·obtain⟨_,hd,h,_,c⟩:=Rv I.hok e;refine⟨c.typeIs,λb q=>?_,hd⟩;cases q;obtain⟨ob,_,_,f,g,_⟩:=c;exact⟨ob,f,g.2.1⟩
 obtain⟨_,hd,xs,_,c⟩:=RA I.hok e;refine⟨c.typeIs,λb q=>?_,hd⟩;cases q;obtain⟨ob,_,_,f,g,_⟩:=c;exact⟨ob,f,g.2.1⟩
end L2
namespace HT
open PySem PyProof.Rows
def lexLt:List Int->List Int->Bool
 |[],[]=>false
 |[],_::_=>true
 |_::_,[]=>false
 |x::xs,y::a=>if x=y then lexLt xs a else decide (x<y)
theorem HS(x y:Int)(xs a:List Int):lexLt (x::xs) (y::a)=if x=y then lexLt xs a else decide (x<y):=rfl
theorem Jk:lexLt [] []=false:=rfl
theorem HP(y:Int)(a:List Int):lexLt [] (y::a)=true:=rfl
theorem HY(x:Int)(xs:List Int):lexLt (x::xs) []=false:=rfl
def Mb(A:Around)(s:Shared)(a:Int)(t:Tok)(c:Int)(u:Tok):∃e,SeqAt.EqAt A s (.int a t) (.int c u) e/\(e=true ↔ a=c):=⟨(a==c),Fm a t c u,by simp⟩
def zU(A:Around)(s:Shared)(a:Int)(t:Tok)(c:Int)(u:Tok)(prog:Os)(w:Re)(E:Qqa)(Q:Qqa)(h:Q (.bool<|decide (a<c)) s):
  wpAny (IR prog w) A (richCompare .Lt (.int a t)<|.int c u) Q E s:=
 (F4 h:wpAny (IR prog w) A (Pv .Lt (.int a t)<|.int c u) Q E s)
section
open PySem.SeqAt
open PySem.MeetsSeq PySem.MeetsSeq2 PySem.MeetsSeq3
def zgB(l b:Addr)(items f:Array GM)(n N:Nat)(dd I:Option Addr)(Q My:Array (Option GM))(ns ms:List Int)(hi:IntsAre items.toList ns)(L:IntsAre f.toList ms):
  Meets (Builtin.«tuple.__lt__» ⟨[.ref l,.ref b],[]⟩)
   (λ_ R s=>s.heap.get? l=some {cls:=.type "tuple",dict:=dd,data:=.seq items n,slots:=Q}/\s.heap.get? b=some {cls:=.type "tuple",dict:=I,data:=.seq f N,slots:=My} /\
    R (.ok<|.ret<|.bool<|lexLt ns ms) s):=
 .of_wp λprog w A R s h=>by
  obtain⟨F,g,d,G,os⟩:=s;obtain⟨S,T,h⟩:=h;have f2:=D3;have U:items.size=ns.length:=by rw[<-hi.length];simp
  have W:f.size=ms.length:=by rw[<-L.length];simp
  wp_walk using Dm S,Dm T,wpAny_forIn_list _ (λrest b J=>b.1=none/\J=⟨F,g,d,G,os⟩/\∃(H ws:List GM) (i j:List Int),rest=H.zip ws /\
   IntsAre H i/\IntsAre ws j/\i.length+f.size=j.length+items.size/\R (.ok<|.ret<|.bool<|lexLt i j) ⟨F,g,d,G,os⟩) _
  case turn=>
   rintro⟨y,x⟩ rest b J ⟨z,rfl,H,ws,i,j,m,B,o,hlen,r⟩;cases B with
   |nil=>rw[FD]at m;cases m
   |cons a t C=>
    cases o with
    |nil=>rw[Fn]at m;cases m
    |cons c u E=>
     rw[Cg]at m;injection m with hyx hrest
     injection hyx with hy hx
     subst hy hx;rw[HS]at r;simp only[AB]at hlen;obtain⟨e,he,v⟩:=Mb A.in1 ⟨F,g,d,G,os⟩ a t c u;refine Ab<|he prog w _ _ ?_
     cases e with
     |true=>
      rw[if_pos (v.mp rfl)]at r
      wp_walk
      exact⟨rfl,rfl,_,_,_,_,hrest,C,E,by omega,r⟩
     |false=>
      rw[if_neg (λq=>absurd (v.mpr q) Bd)]at r;have K:=zU A.in1 ⟨F,g,d,G,os⟩ a t c u prog w
      wp_walk using K
      exact⟨_,rfl,by simpa using r⟩
  case fin=>
   rintro⟨b1,X⟩ J ⟨z,rfl,H,ws,i,j,m,B,o,hlen,r⟩;simp only at z;subst z;have M:lexLt i j=decide (items.size<f.size):=by
    cases B with
    |nil=>
     cases o with
     |nil=>
      simp only[A1]at hlen;rw[Jk];exact(decide_eq_false<|by omega).symm
     |cons c u hw=>
      simp only[A1,AB]at hlen;rw[HP];exact(decide_eq_true<|by omega).symm
    |cons a t M=>
     cases o with
     |nil=>
      simp only[A1,AB]at hlen;rw[HY];exact(decide_eq_false<|by omega).symm
     |cons c u hw=>
      rw[Cg]at m;cases m
   rw[M]at r
   wp_walk
   exact⟨_,rfl,by simpa[Builtin.Tuple.tupleCompareSizes]using r⟩
  case h=>
   exact⟨rfl,rfl,items.toList,f.toList,ns,ms,rfl,hi,L,by omega,h⟩
end
variable {b t sl:Addr}{items:Array GM}{Q:Qqa}{vl vu:GM}{lo hi:Option Int}
section
variable {prog:Os}{w:Re}{A:Around}{E:Qqa}{s:Shared}
def MH{l:Addr}{a:Array GM}{ns ms:List Int}(m:IsTup s.heap l items)(o:IsTup s.heap b a)(hi:IntsAre items.toList ns)(q:IntsAre a.toList ms)(r:A.units<cLine) (h:Q (.bool<|lexLt ns ms) s):wpAny (IR prog w) A (Pv .Lt (.ref l)<|.ref b) Q E s:=by
 obtain⟨⟨cls,u,data,sl⟩,g,i,n,hd⟩:=id m;obtain⟨⟨j,f,data2,My⟩,c,e,v,hd2⟩:=id o;simp only at i hd e hd2;subst i hd e hd2;exact Es (op:=.Lt) ⟨_,g,rfl⟩ ⟨_,c,rfl⟩ PySem.F.slot_tuple_lt PySem.F.entry_tuple_lt (PySem.F.args_tuple_lt_2 _ _) (zgB l b items a n v u f sl My ns ms hi q)
  ⟨g,c,show CA (lexLt ns ms)≠ER/\Q (.bool<|lexLt ns ms) s from⟨(λx=>nomatch x),h⟩⟩ r
def P5{c ws:List GM}(q:IsTup s.heap t c.toArray)(r:IsTup s.heap b ws.toArray)(i:c≠[])(u:ws=[]->Q (.ref t) s) (v:ws≠[]->Q (.ref s.heap.objs.size) {s with heap:=s.heap.push {cls:=.type "tuple",data:=.seq (c++ws).toArray} })(hsz:c.length+ws.length<=sizeLine):wpAny (IR prog w) A (binaryOp .Add (.ref t)<|.ref b) Q E s:=by
 obtain⟨⟨cls,j,data,sl⟩,h,l,n,hd⟩:=id q;obtain⟨⟨m,f,data2,My⟩,a,g,o,hd2⟩:=id r;simp only at l hd g hd2;subst l hd g hd2;have e:c.toArray++ws.toArray=(c++ws).toArray:=by simp
 by_cases hw:ws=[]
 ·exact concat_meets ⟨_,h,rfl⟩ ⟨_,a,rfl⟩ noFill_tuple_add seq_tuple_add Et Ec (D4 _ _)
   (tuple_addW1 t b c.toArray ws.toArray n o j f sl My (by simpa using i)<|by simp[hw]) ⟨h,a,u hw⟩
 ·refine concat_meets ⟨_,h,rfl⟩ ⟨_,a,rfl⟩ noFill_tuple_add seq_tuple_add Et Ec (D4 _ _)
   (tuple_addW2 t b c.toArray ws.toArray n o j f sl My (by simpa using i) (by simpa using hw) (by rw[Az,Az];exact hsz)) ⟨h,a,?_⟩
  rw[e];exact v hw
def HN(n d:Nat):Option Int->Nat
 |none=>d
 |some v=>if v<0 then(v+(n:Int)).toNat else min v.toNat n
def sF(n d:Nat)(hd:d<=n)(o:Option Int):HN n d o<=n:=by
 cases o with
 |none=>exact hd
 |some v=>
  show(if v<0 then(v+(n:Int)).toNat else min v.toNat n)<=n;by_cases hv:v<0
  ·rw[if_pos hv];omega
  rw[if_neg hv];exact D5 _ _
def cZ(v:Int)(n d:Nat):(if v<0 then max (v+(n:Int)) 0 else min v (n:Int))=((HN n d (some v):Nat):Int):=by
 show(if v<0 then max (v+(n:Int)) 0 else min v (n:Int))=(((if v<0 then(v+(n:Int)).toNat else min v.toNat n):Nat):Int);by_cases hv:v<0
 ·simp only[if_pos hv];omega
 simp only[if_neg hv];omega
def zlL(lo hi:Option Int)(n:Nat):Builtin.Slice.sliceAdjust lo hi 1 (n:Int)=(((HN n 0 lo:Nat):Int),((HN n n hi:Nat):Int)):=by
 have s:¬((1:Int)<0):=by omega
 unfold Builtin.Slice.sliceAdjust;simp only[s,if_false];refine Prod.ext ?_ ?_
 ·cases lo with
  |none=>rfl
  |some v=>exact cZ v n 0
 ·cases hi with
  |none=>rfl
  |some v=>exact cZ v n n
def zka(i j:Nat):Builtin.Slice.slicePlaces (i:Int) (j:Int) 1=j-i:=by
 unfold Builtin.Slice.slicePlaces;have s:(1:Int) > 0:=by omega
 simp only[s,if_true,Int.ediv_one];split<;>omega
def iU{v:GM}{o:Option Int}{Q:Option Int->Shared->Prop}(p:IsPart v o)(h:Q o s):wpAny (IR prog w) A (Builtin.Slice.slicePartIndex v) Q E s:=by
 cases p with
 |none=>exact slicePart_none h
 |int i t=>exact slicePart_int h
def Jq{n:Nat}{Q:Int×Int×Nat->Shared->Prop}(e:s.heap.IsSliceOf sl vl vu .none)(pl:IsPart vl lo)(pu:IsPart vu hi)(h:Q (((HN n 0 lo:Nat):Int),1,HN n n hi-HN n 0 lo) s):wpAny (IR prog w) A (Builtin.Slice.sliceApplied (.ref sl)<|pure (n:Int)) Q E s:=by
 obtain⟨os,a,f,c⟩:=id e;unfold Builtin.Slice.sliceApplied Builtin.Slice.sliceFields;refine Ab<|Ab<|AR a c (x:=vl) rfl<|Ab<|AR a c (x:=vu) rfl<|Ab<|AR a c (x:=.none) rfl<|Ae ?_;refine Ab<|slicePart_none ?_;show wpAny _ _ (if((1:Int)==0)=true then _ else _) _ _ s;rw[if_neg (by decide)];refine Ab<|iU pl<|Ab<|iU pu<|Ab<|Ae ?_;show wpAny _ _ (match Builtin.Slice.sliceAdjust lo hi 1 (n:Int) with|(lo,hi)=>pure (lo,(1:Int),Builtin.Slice.slicePlaces lo hi 1)) _ _ s;rw[zlL lo hi n];show wpAny _ _ (pure (((HN n 0 lo:Nat):Int),(1:Int),Builtin.Slice.slicePlaces ((HN n 0 lo:Nat):Int) ((HN n n hi:Nat):Int) 1)) _ _ s;rw[zka];exact Ae h
def zI(xs:Array GM)(i k:Nat):((AZ k).filterMap λ(m:Nat)=>xs[((i:Int)+(m:Int)*1).toNat]?).toArray=((xs.toList.drop i).take k).toArray:=by
 have e:(λ(m:Nat)=>xs[((i:Int)+(m:Int)*1).toNat]?)=λm=>xs[i+m]?:=by
  funext m
  have:((i:Int)+(m:Int)*1).toNat=i+m:=by omega
  rw[this]
 rw[e];have:=pick_run xs i k;rw[List.filterMap_map]at this;have s:((λx=>xs[x]?) ∘ λx=>i+x)=λm=>xs[i+m]?:=rfl;rw[s]at this;rw[this]
def Kc(c:IsTup s.heap t items)(j:s.heap.IsSliceOf sl vl vu .none)(pl:IsPart vl lo)(pu:IsPart vu hi)(hw:¬(HN items.size 0 lo=0/\HN items.size items.size hi=items.size))(h:Q (.ref s.heap.objs.size) {s with heap:=s.heap.push {cls:=.type "tuple",data:=.seq ((items.toList.drop<|HN items.size 0 lo).take<|HN items.size items.size hi-HN items.size 0 lo).toArray} })(hsz:items.size<=sizeLine):wpAny (IR prog w) A (getItem (.ref t)<|.ref sl) Q E s:=by
 have a:sizeOk (.seq ((items.toList.drop<|HN items.size 0 lo).take<|HN items.size items.size hi-HN items.size 0 lo).toArray):=by show((items.toList.drop<|HN items.size 0 lo).take<|HN items.size items.size hi-HN items.size 0 lo).toArray.size<=sizeLine;rw[Az,AN,BQ,AA];omega
 have n:HN items.size items.size hi<=items.size:=sF _ _ (Ah _) hi;obtain⟨os,e,f,l⟩:=id j;have g:s.TypeIs (.ref sl) "slice":=⟨os,e,f⟩;unfold getItem
 try with_reducible refine Bf ?_
 first|refine Ab (Ae ?_)|skip
 refine Ab (FE c.typeIs (by decide) ?_);refine Ab (Bk (name:=Bm "__getitem__") c.typeIs BK
  (Bp BK c.typeIs Fb ?_<|Fo _ _))
 show wpAny _ _ (Builtin.Tuple.tupleItemsOf (.ref t) >>= _) _ _ s;refine Ab<|tupleItemsOf_ c ?_;refine Ab<|Cv g ?_;rw[if_pos (by decide)];refine Ab<|Jq j pl pu ?_;have i:¬((((HN items.size 0 lo:Nat):Int)==0&&(1:Int)==1&&(HN items.size items.size hi-HN items.size 0 lo)==items.size)=true):=by intro q;rw[Ag,Ag]at q;have o:((HN items.size 0 lo:Nat):Int)=0:=eq_of_beq q.1.1;have r:HN items.size items.size hi-HN items.size 0 lo=items.size:=eq_of_beq q.2;exact hw ⟨by omega,by omega⟩
 show wpAny _ _ (if(((HN items.size 0 lo:Nat):Int)==0&&(1:Int)==1&&(HN items.size items.size hi-HN items.size 0 lo)==items.size)=true then _ else _) _ _ s;rw[if_neg i,zI]
 first
  |exact Ab (m:=Builtin.Tuple.tupleExact _) (A2 (Ae ⟨_,rfl,Ae h⟩) a)
  |exact Ab (m:=Builtin.Tuple.tupleExact _) (A2 (Ab<|Ae<|Ae ⟨_,rfl,Ae h⟩) a)
  |exact Ab (Ab (m:=Builtin.Tuple.tupleExact _)<|A2 (Ae<|Ae ⟨_,rfl,Ae h⟩) a)
  |exact Ab (Ab (m:=Builtin.Tuple.tupleExact _)<|A2 (Ae ⟨_,rfl,Ae h⟩) a)
end
end HT
namespace L2
open PySem PySem.Spec PyProof.Rows
noncomputable abbrev TO:=St->Hp->(Option Int->Hp->Prop)->Prop
def PO(X:Cx)(e:Option PP)(t:TO):Prop:=
 ∀(a:List (Addr×Obj)) (s:Shared) (σ:St) (H:Hp) (Q:Option Int->Hp->Prop),Inv X a σ H s->t σ H Q ->
  wpAny (IR X.prog X.w) X.A (evalPart e X.env) (λu f=>∃o c,Inv X a σ c f/\IsPart u o/\Q o c) X.xe s
def vG:TO:=λ_ H Q=>Q none H
def nX(t:TE):TO:=λσ H Q=>t σ H λx H1=>∃i,x=.int i/\Q (some i) H1
def intsAre_of{ns:List Int}:∀{us:List GM},Vals (ns.map V.int) us->IntsAre us ns:=by
 induction ns with
 |nil=>intro us r;rw[BM]at r;cases r;exact .nil
 |cons n ns ih=>
  intro us r;rw[Au]at r;cases r with
  |cons a c=>
   obtain⟨t,e⟩:=a;subst e;exact .cons n t<|ih c
variable {X:Cx}{e:PP}{pos:Pos}{xs:List V}{us:List GM}
section
variable {te:TE}{lo hi:Option PP}{tl th:TO}{p2:Pos}
def wN:PO X none vG:=by intro e s σ H Q I h;rw[evalPart_none];exact Ae ⟨none,H,I,.none,h⟩
def wO(h:PE X e te):PO X (some e) (nX te):=by intro a s σ H Q I hw;rw[evalPart_some];refine HA (h a s σ H _ I hw) ?_;rintro u s1 ⟨x,H1,c,f,g⟩;obtain⟨i,rfl,q⟩:=g;obtain⟨t,rfl⟩:=f;exact⟨some i,H1,c,.int i t,q⟩
def So(X:Cx)(r:V->Option Int->Option Int->Hp->VK->Prop):Prop:=
 ∀(e:List (Addr×Obj)) (s:Shared) (σ:St) (H:Hp) (x:V) (v a c:GM) (lo hi:Option Int) (f:Addr) (Q:VK),Inv X e σ H s->RelV x v->s.heap.IsSliceOf f a c .none->IsPart a lo->IsPart c hi->r x lo hi H Q ->
  ∃T id,typeLookup (.type T) "__getitem__"=pure (some<|.builtin id)/\s.TypeIs v T/\wpAny (IR X.prog X.w) X.A (getItem v<|.ref f) (EP X e σ Q) X.xe s
def tSl(r:V->Option Int->Option Int->Hp->VK->Prop)(te:TE)(tl th:TO):TE:=λσ H Q=>te σ H λx H1=>tl σ H1 λl e=>th σ e λu X=>r x l u X Q
def VF{r:V->Option Int->Option Int->Hp->VK->Prop}(i:So X r)(he:PE X e te)(j:PO X lo tl)(m:PO X hi th):PE X (.Subscript e (.Slice lo hi none p2) pos) (tSl r te tl th):=by intro a s σ H Q I h;refine F6<|HA (he a s σ H _ I h) ?_;rintro v s1 ⟨x,H1,n,o,y⟩;refine wpAny_Slice<|HA (j a s1 σ H1 _ n y) λc s2 ⟨l,z,B,pl,C⟩=>HA (m a s2 σ z _ B C) ?_;rintro f s3 ⟨u,g,I3,pu,E⟩;rw[evalPart_none];refine Ae ?_;have F:Inv X a σ g {s3 with heap:=s3.heap.push {cls:=.type "slice",data:=.fields #[c,f,.none]} }:=I3.kept (t':=s3.toks) λb ob q=>Ad _ q;obtain⟨T,id,G,J,K⟩:=i a {s3 with heap:=s3.heap.push {cls:=.type "slice",data:=.fields #[c,f,.none]} } σ g x v c f l u s3.heap.objs.size Q F o (GL ..) pl pu E;show wpAny (IR X.prog X.w) X.A (subscriptTail e (.Slice lo hi none p2) v<|.ref s3.heap.objs.size) (EP X a σ Q) X.xe {s3 with heap:=s3.heap.push {cls:=.type "slice",data:=.fields #[c,f,.none]} };exact tail_any (ops:=[.ref s3.heap.objs.size,v]) J G K<|by with_unfolding_all rfl
def Md(xs:List V)(lo hi:Option Int):List V:=(xs.drop<|HT.HN xs.length 0 lo).take<|HT.HN xs.length xs.length hi-HT.HN xs.length 0 lo
def jK(xs:List V)(lo hi:Option Int):(Md xs lo hi).length<=xs.length:=by unfold Md;rw[AN,BQ];omega
def Uq(K:Ac):V->Option Int->Option Int->Hp->VK->Prop:=λx lo hi H Q=>∃a xs,x=.ref a/\Jg K H a xs /\
 ¬(HT.HN xs.length 0 lo=0/\HT.HN xs.length xs.length hi=xs.length)/\∀p,H p=none->Q (.ref p) (upd H p<|.tup<|Md xs lo hi)
def Xi:So X (Uq X.K):=by
 intro j s σ H x v l m lo hi n Q I rx g pl pu h;obtain⟨a,xs,rfl,i,hw,q⟩:=h;cases rx;obtain⟨e,r,c,f⟩:=I.tuple i;have hlen:e.toArray.size=xs.length:=by rw[Az];exact r.length.symm
 refine⟨"tuple",_,PyProof.Rows.slot_tuple_getitem.lookup,c.typeIs,?_⟩;refine HT.Kc c g pl pu (by rw[hlen];exact hw) ?_ (by rw[hlen];exact f);rw[hlen];refine⟨.ref s.heap.objs.size,_,I.laid (t':=s.toks) (o:=.tup (Md xs lo hi)) (λb ob q=>Ad _ q) (Ah _) ?_,rfl,q _<|I.hok.fresh<|Ah _⟩;exact⟨Ar (jK xs lo hi) f,_,(r.drop<|HT.HN xs.length 0 lo).take<|HT.HN xs.length xs.length hi-HT.HN xs.length 0 lo,MY.new _ _⟩
def ZO(K:Ac):R2:=λx y H Q=>∃a b ns ms,x=.ref a/\y=.ref b/\Jg K H a (ns.map V.int)/\Jg K H b (ms.map V.int)/\Q (.bl<|HT.lexLt ns ms) H
def oN(f:X.A.units<cLine):Kg X (Pv .Lt) (ZO X.K):=by intro w s σ H x y v u Q I rx g h;obtain⟨a,b,ns,ms,rfl,rfl,i,j,q⟩:=h;cases rx;cases g;obtain⟨c,l,m,_⟩:=I.tuple i;obtain⟨e,n,p2,_⟩:=I.tuple j;have o:IntsAre c.toArray.toList ns:=intsAre_of l;have r:IntsAre e.toArray.toList ms:=intsAre_of n;exact HT.MH m p2 o r f ⟨.bl<|HT.lexLt ns ms,H,I,rfl,q⟩
def nC(K:Ac):R2:=λx y H Q=>∃a b xs e,x=.ref a/\y=.ref b/\Jg K H a xs/\Jg K H b e/\xs≠[]/\xs.length+e.length<=sizeLine /\
 (e=[]->Q (.ref a) H)/\(e≠[]->∀p,H p=none->Q (.ref p) (upd H p<|.tup<|xs++e))
def Vals.nil_iff(r:Vals xs us):us=[] ↔ xs=[]:=by
 cases r with
 |nil=>simp
 |cons _ _=>simp
def sZ:Kg X (binaryOp .Add) (nC X.K):=by intro C s σ H x y v u Q I rx g h;obtain⟨a,b,xs,i,rfl,rfl,j,l,m,c,n,r⟩:=h;cases rx;cases g;obtain⟨A,e,B,_⟩:=I.tuple j;obtain⟨f,r2,p2,_⟩:=I.tuple l;refine HT.P5 B p2 (λz=>m (e.nil_iff.mp z)) (λz=>⟨.ref a,H,I,rfl,n<|r2.nil_iff.mp z⟩) (λz=>?_) (by rw[<-e.length,<-r2.length];exact c);refine⟨.ref s.heap.objs.size,_,I.laid (t':=s.toks) (o:=.tup (xs++i)) (λb ob q=>Ad _ q) (Ah _) ?_,rfl,r (λw=>z (r2.nil_iff.mpr w)) _<|I.hok.fresh<|Ah _⟩;exact⟨by rw[AF];exact c,_,e.append r2,MY.new _ _⟩
end
def Nc(n:Nat)(i:Int):Option Nat:=if 0<=i then(if i<n then some i.toNat else none)else if -(n:Int)<=i then some (i+n).toNat else none
variable {α:Type}
def LH(xs:List α)(i:Int):Option α:=(Nc xs.length i).bind λj=>xs[j]?
variable {n:Nat}{i:Int}
def dJ{j:Nat}(h:Nc n i=some j):seqIndex? i n=some j/\j<n/\-(n:Int)<=i/\i<n:=by
 unfold Nc at h;by_cases h0:0<=i
 ·rw[if_pos h0]at h
  by_cases h1:i<n
  ·rw[if_pos h1]at h;have e:i.toNat=j:=As h;exact⟨by rw[FQ h0 h1,e],by omega,by omega,h1⟩
  rw[if_neg h1]at h;cases h
 ·rw[if_neg h0]at h
  by_cases h1:-(n:Int)<=i
  ·rw[if_pos h1]at h;have e:(i+n).toNat=j:=As h;exact⟨by rw[Fp (by omega) h1,e],by omega,h1,by omega⟩
  rw[if_neg h1]at h;cases h
def XC{xs:List α}{v:α}(h:LH xs i=some v):∃j,seqIndex? i xs.length=some j/\xs[j]?=some v/\j<xs.length/\-(xs.length:Int)<=i/\i<xs.length:=by
 unfold LH at h;cases e:Nc xs.length i with
 |none=>rw[e]at h;cases h
 |some j=>
  rw[e]at h;obtain⟨n,X,a,c⟩:=dJ e;exact⟨j,n,h,X,a,c⟩
def XA(b:PP):Prop:=∀o i,subscripted b false o i=operate [o,i] (getItem o i)
def UP(X:Cx)(r:R2):Prop:=
 ∀(value slice:PP) (e:List (Addr×Obj)) (s:Shared) (σ:St) (H:Hp) (x y:V) (v u:GM) (Q:VK),Inv X e σ H s->RelV x v->RelV y u->r x y H Q ->
  subscripted slice false v u=operate [v,u] (getItem v u)->wpAny (IR X.prog X.w) X.A (subscriptTail value slice v u) (EP X e σ Q) X.xe s
def Ss(X:Cx)(id:String)(r:V->List V->Hp->VK->Prop):Prop:=
 ∀(e:List (Addr×Obj)) (s:Shared) (σ:St) (H:Hp) (x:V) (xs:List V) (v:GM) (us:List GM) (Q:VK),Inv X e σ H s->RelV x v->Vals xs us->r x xs H Q ->
  wpAny (IR X.prog X.w) X.A (call (.builtin id) (v::us)) (EP X e σ Q) X.xe s
variable {qp:List (Addr×Obj)}{σ:St}{H:Hp}{s:Shared}{p:Addr}{ys:List V}{its its':List GM}{T:String}{x:V}
section
variable {a b:PP}{ta tb:TE}
def oJ{r:R2}(c:UP X r)(f:PE X a ta)(g:PE X b tb)(j:XA b):PE X (.Subscript a b pos) (Um r ta tb):=by intro qp s σ H Q I h;exact F6<|Rc f g I h λv u s2 x y e i rx n q=>c a b qp s2 σ e x y v u Q i rx n q (j _ _)
def ZR(K:Ac):R2:=λx y H Q=>∃p xs i v,x=.ref p/\y=.int i/\Kf K H p xs/\LH xs i=some v/\Q v H
def ZP(K:Ac):R2:=λx y H Q=>∃p xs i v,x=.ref p/\y=.int i/\Jg K H p xs/\LH xs i=some v/\Q v H
def ZQ:R2:=λx y H Q=>∃z i c,x=.str z/\y=.int i/\z.length<=sizeLine/\LH z.cps.toList i=some c/\Q (.str ⟨#[c]⟩) H
def dM:UP X (ZR X.K):=by
 intro value slice qp s σ H x y v u Q I rx f h T;obtain⟨p,xs,i,z,rfl,rfl,g,he,q⟩:=h;cases rx;obtain⟨t,rfl⟩:=f;obtain⟨its,r,pl,C⟩:=I.list g;obtain⟨j,a,l,E,m,o⟩:=XC he;obtain⟨w,c,e⟩:=r.get l;have A:=r.length;have F:=QC;have fin:EP X qp σ Q w s:=⟨z,H,I,e,q⟩;by_cases h0:0<=i
 ·have n:i.toNat=j:=by
   rw[FQ h0 o]at a;exact As a
  exact item_listR pl.isList h0 (by omega) (by rw[n];simpa using c) fin T
 ·have n:(i+(its.toArray.size:Int)).toNat=j:=by
   rw[Fp (by omega) m]at a;rw[Az,<-A];exact As a
  exact Eu (x:=w) pl.isList.typeIs slot_list_getitem.lookup
   (wpAny_getItem_list_neg (Q:=λr B=>r=w/\EP X qp σ Q r B) pl.isList (by omega) (by rw[Az]<;>omega) (by omega) (by rw[n];simpa using c) ⟨rfl,fin⟩) T
def Kk:UP X (ZP X.K):=by
 intro value slice qp s σ H x y v u Q I rx e h n;obtain⟨p,xs,i,z,rfl,rfl,T,he,q⟩:=h;cases rx;obtain⟨t,rfl⟩:=e;obtain⟨its,r,pl,o⟩:=I.tuple T;obtain⟨j,c,f,A,B,C⟩:=XC he;obtain⟨w,g,a⟩:=r.get f;have l:=r.length;have E:=QC;have fin:EP X qp σ Q w s:=⟨z,H,I,a,q⟩;exact Eu (x:=w) pl.typeIs slot_tuple_getitem.lookup
  (getItem_tuple (j:=j) (Q:=λr m=>r=w/\EP X qp σ Q r m) pl (by omega) (by omega) (by rw[Az,<-l];exact c) (by simpa using g) ⟨rfl,fin⟩) n
def Ti:UP X ZQ:=by
 intro value slice qp s σ H x y v u Q I rx e h n;obtain⟨z,i,c,rfl,rfl,r,he,q⟩:=h;obtain⟨t,rfl⟩:=rx;obtain⟨w,rfl⟩:=e;obtain⟨j,a,T,A,f,g⟩:=XC he;have l:z.cps.toList.length=z.length:=by simp[Str.length]
 rw[l]at a f g;have B:=QC;exact tail_any (Do s z t) slot_str_getitem.lookup (getItem_str (c:=c) (by
  have m:decide (i < -(2^63:Int))=false:=decide_eq_false (by omega);have o:decide (i ≥ 2^63)=false:=decide_eq_false (by omega);rw[m,o,Gp]) (by rw[a];simpa using T) ⟨.str ⟨#[c]⟩,H,I.tok _,⟨_,rfl⟩,q⟩) n
def zkH(its:List GM)(n j:Nat)(u:GM):BW (·.setIfInBounds j u) {cls:=.type "list",data:=.seq its.toArray n}={cls:=.type "list",data:=.seq (its.set j u).toArray n}:=by simp[BW]
def Inv.lst{qp:List (Addr×Obj)}{σ:St}{H:Hp}{s:Shared}{p:Addr}{xs:List V}(I:Inv X qp σ H s)(h:H p=some (.lst xs)):
  ∃(its:List GM) (n:Nat),Vals xs its/\s.heap.get? p=some {cls:=.type "list",data:=.seq its.toArray n}/\xs.length<=sizeLine:=by
 obtain⟨z,its,n,r,e⟩:=I.hok p _ h;exact⟨its,n,r,e,z⟩
def Inv.lstUpd{c:Nat}{f:Obj->Obj}(I:Inv X qp σ H s)(h:H p=some (.lst xs))(g:s.heap.get? p=some {cls:=.type "list",data:=.seq its.toArray n}) (hf:f {cls:=.type "list",data:=.seq its.toArray n}={cls:=.type "list",data:=.seq its'.toArray c}) (r:Vals ys its') (j:ys.length<=sizeLine) (t:Nat):
  Inv X qp σ (upd H p<|.lst ys) {s with heap:=s.heap.update p f,toks:=t}:=by
 have e:(s.heap.update p f).get? p=some {cls:=.type "list",data:=.seq its'.toArray c}:=by rw[Bg f g (by rw[hf]<;>rfl),hf]
 refine I.write (x:=p) (e:=p) (by rw[h];trivial) (.inl rfl) (λb u a q=>(AO _ _<|A7 a).trans q) ⟨_,e⟩ ?_;exact⟨j,its',c,r,e⟩
def nE:V->V->V->Hp->(Hp->Prop)->Prop:=λo i v H Q=>∃p xs k j,o=.ref p/\i=.int k/\H p=some (.lst xs)/\Nc xs.length k=some j/\Q (upd H p<|.lst<|xs.set j v)
def set_list:Rj X nE:=by
 intro qp s σ H o i v A B u Q I l m w h;obtain⟨p,xs,k,j,rfl,rfl,T,y,q⟩:=h;cases l;obtain⟨t,rfl⟩:=m;obtain⟨its,n,r,e,z⟩:=I.lst T;obtain⟨a,C,c,f⟩:=dJ y;have x:=r.length;have E:=QC;have g:Inv X qp σ (upd H p<|.lst<|xs.set j v) {s with heap:=s.heap.update p (BW (·.setIfInBounds j u))}:=
  I.lstUpd T e (zkH its n j u) (r.set w j) (by rw[Ci];exact z) s.toks
 by_cases h0:0<=k
 ·have hk:k.toNat=j:=by
   rw[FQ h0 f]at a;exact As a
  exact PySem.W.ki_setAt e h0 (by omega) (by rw[Az,<-x];exact f) (by rw[hk];exact⟨_,g,q⟩)
 ·have hk:(k+(its.toArray.size:Int)).toNat=j:=by
   rw[Fp (by omega) c]at a;rw[Az,<-x];exact As a
  exact PySem.W.ki_setBack e (by omega) (by rw[Az,<-x];exact c) (by omega) (by rw[hk];exact⟨_,g,q⟩)
def zhv(lo hi:Option Int)(n:Nat):(sliceBounds lo hi none n).1=((HT.HN n 0 lo:Nat):Int)/\(sliceBounds lo hi none n).2.1=((HT.HN n n hi:Nat):Int)/\(sliceBounds lo hi none n).2.2=1:=by
 refine⟨?_,?_,rfl⟩
 ·cases lo with
  |none=>simp[sliceBounds,HT.HN]
  |some i=>
   simp only[sliceBounds,HT.HN,FT,show(1:Int) > 0 by decide,if_true]
   by_cases h:i<0
   ·simp only[h,if_true]<;>omega
   simp only[h,if_false]<;>omega
 ·cases hi with
  |none=>simp[sliceBounds,HT.HN]
  |some i=>
   simp only[sliceBounds,HT.HN,FT,show(1:Int) > 0 by decide,if_true]
   by_cases h:i<0
   ·simp only[h,if_true]<;>omega
   simp only[h,if_false]<;>omega
def zgI(its:List GM)(lo hi:Option Int):slicePick its.toArray lo hi none=((its.drop<|HT.HN its.length 0 lo).take<|HT.HN its.length its.length hi-HT.HN its.length 0 lo).toArray:=by obtain⟨a,e,i⟩:=zhv lo hi its.toArray.size;unfold slicePick;rw[a,e,i];simp only[sliceRange_one,pick_run,Az]<;>rfl
def Ur(K:Ac):V->Option Int->Option Int->Hp->VK->Prop:=λx lo e H Q=>∃a xs,x=.ref a/\Kf K H a xs/\∀p,H p=none->Q (.ref p) (upd H p<|.lst<|Md xs lo e)
def cM:So X (Ur X.K):=by intro qp s σ H x v f g lo e j Q I rx n pl pu h;obtain⟨a,xs,rfl,T,q⟩:=h;cases rx;obtain⟨its,r,i,c⟩:=I.list T;have hlen:=r.length;refine⟨"list",_,slot_list_getitem.lookup,i.isList.typeIs,?_⟩;refine wpAny_getItem_list_slice i.isList n pl pu .none (by simp) ?_ (by rw[Az]<;>omega);rw[zgI,<-hlen];refine⟨.ref s.heap.objs.size,_,I.laid (t':=s.toks) (o:=.lst (Md xs lo e)) (λb ob q=>Ad _ q) (Ah _) ?_,rfl,q _<|I.hok.fresh<|Ah _⟩;exact⟨Ar (jK xs lo e) c,_,0,(r.drop<|HT.HN xs.length 0 lo).take<|HT.HN xs.length xs.length e-HT.HN xs.length 0 lo,Aq _ rfl⟩
def Y4:NL X (.builtin "len") (λxs H Q=>∃p ys,xs=[.ref p]/\(Kf X.K H p ys\/Jg X.K H p ys)/\Q (.int ys.length) H):=by
 intro qp s σ H xs us Q I r h;obtain⟨p,ys,rfl,hq,q⟩:=h;obtain⟨u,rfl,rx⟩:=vals1 r;cases rx;have i:=QC;rcases hq with hq|hq
 ·obtain⟨its,a,pl,e⟩:=I.list hq;have hlen:=a.length;exact Calls.call_len_list pl.isList (by simp only[Az]<;>omega) ⟨.int ys.length,H,I.tok _,⟨s.toks+1,by rw[Az,hlen]⟩,q⟩
 obtain⟨its,a,pl,e⟩:=I.tuple hq;have hlen:=a.length;exact len_tuple pl (by simp only[Az]<;>omega) ⟨.int ys.length,H,I.tok _,⟨s.toks+1,by rw[Az,hlen]⟩,q⟩
def zhW:NL X (.builtin "len") (λxs H Q=>∃z,xs=[.str z]/\z.length<=sizeLine/\Q (.int z.length) H):=by intro qp s σ H xs us Q I r h;obtain⟨z,rfl,a,q⟩:=h;obtain⟨u,rfl,t,rfl⟩:=vals1 r;have e:=QC;exact len_str (by omega) ⟨.int z.length,H,I.tok _,⟨_,rfl⟩,q⟩
def jZ:NL X (.type "tuple") (λxs H Q=>∃p ys,xs=[.ref p]/\((Kf X.K H p ys/\∀l,H l=none->Q (.ref l) (upd H l<|.tup ys))\/(Jg X.K H p ys/\Q (.ref p) H))):=by
 intro qp s σ H xs us Q I r h;obtain⟨p,ys,rfl,h⟩:=h;obtain⟨u,rfl,rx⟩:=vals1 r;cases rx;rcases h with⟨i,q⟩|⟨i,q⟩
 ·obtain⟨its,n,pl,x⟩:=I.list i;have hlen:=n.length;refine call_tuple_list pl.isList (λa kp=>?_) (by simp only[Az]<;>omega);have I1:Inv X qp σ H {s with heap:=a}:=I.kept (t':=s.toks) kp;have T:Inv X qp σ (upd H a.objs.size<|.tup ys) {s with heap:=a.push {cls:=.type "tuple",data:=.seq its.toArray} }:=
   I1.laid (t':=s.toks) (λb o e=>Ad _ e) (Ah _) (show Kw X.prog X.w _ _ _ (.tup ys) from⟨x,its,n,MY.new _ _⟩)
  exact⟨.ref a.objs.size,_,T,rfl,q _<|I1.hok.fresh<|Ah _⟩
 obtain⟨its,n,pl,x⟩:=I.tuple i;exact call_tuple_same pl ⟨.ref p,H,I,rfl,q⟩
def Zn(K:Ac)(T:String)(x:V)(H:Hp):Prop:=match x with
 |.str _=>T="str"
 |.int _=>T="int"
 |.ref p=>(T="list"/\∃xs,Kf K H p xs)\/(T="tuple"/\∃o,K.lookup p=some o/\o.cls=.type "tuple"/\o.dict=none) \/
   (T="dict"/\((∃a,H p=some (.dK a))\/∃a,H p=some (.dT a)))\/(T="set"/\∃S n,H p=some (.set S n))
 |_=>False
def rW{v:GM}(I:Inv X qp σ H s)(r:RelV x v)(ty:Zn X.K T x H):
  s.TypeIs v T/\∀a,v=.ref a->∃ob,s.heap.get? a=some ob/\ob.dict=none:=by
 cases x with
 |str z=>
  obtain⟨t,rfl⟩:=r;cases (show T="str" from ty)
  exact⟨Do s z t,λ_ e=>nomatch e⟩
 |int i=>
  obtain⟨t,rfl⟩:=r;cases (show T="int" from ty)
  exact⟨typeIs_int s i t,λ_ e=>nomatch e⟩
 |ref p=>
  cases r;rcases ty with⟨rfl,xs,h⟩|⟨rfl,o,hk,j,hd⟩|⟨rfl,hk⟩|⟨rfl,S,n,hk⟩
  ·obtain⟨its,_,pl,_⟩:=I.list h;refine⟨pl.isList.typeIs,λa e=>?_⟩;cases e;obtain⟨o,n,e,c,hd,_⟩:=pl;exact⟨o,e,hd⟩
  ·refine⟨⟨o,I.kIn p o hk,j⟩,λa e=>?_⟩;cases e;exact⟨o,I.kIn _ o hk,hd⟩
  ·have z:∃o,s.heap.get? p=some o/\o.ExactDict:=by
    rcases hk with⟨f,hk⟩|⟨f,hk⟩
    ·obtain⟨_,_,_,_,o,_,_,e,ex,_⟩:=I.hok p _ hk;exact⟨o,e,ex⟩
    obtain⟨_,_,_,_,o,_,_,e,ex,_⟩:=I.hok p _ hk;exact⟨o,e,ex⟩
   obtain⟨o,e,ex⟩:=z;refine⟨⟨o,e,ex.1⟩,λa g=>?_⟩;cases g;exact⟨o,e,ex.2.1⟩
  obtain⟨o,_,_,_,e,ex,_⟩:=I.hok p _ hk;refine⟨⟨o,e,ex.1⟩,λa g=>?_⟩;cases g;exact⟨o,e,ex.2.1⟩
 |_=>exact False.elim ty
def kM(K:Ac)(T:String)(r:V->List V->Hp->VK->Prop)(to:TE)(t:TA):TE:=λσ H Q=>to σ H λx H1=>Zn K T x H1/\t σ H1 λxs a=>r x xs a Q
variable {o:PP}{es:List PP}{to:TE}{t:TA}{name:Str}{apos cpos:Pos}{id:String}{r:V->List V->Hp->VK->Prop}
def WQ(m:PlainAttrs T)(slot:Slot T name id)(l:typeOf (.builtin id)=pure (.type "method_descriptor"))(hm:Ss X id r)(q:PE X o to)(u:PA X (e::es) t)(f:attributeBase o name X.env (UV o X.env)=UV o X.env:=by rfl)(j:((backTo cpos<|SL (e::es) X.env).all (λx=>!x.1)&&(backToKw cpos<|keywordEach [] X.env).all (λx=>x.1.isSome)
   &&decide ((e::es).length+([]:List Keyword).length+(if([]:List Keyword).isEmpty then 0 else 1)<30))=true:=by rfl)
  (g:(apos.endLine==cpos.line)=true:=by rfl) (w:Qqb X.env e es:=by rfl) (c:Qqc cpos es X.env:=by rfl):
  PE X (.Call (.Attribute o name apos) (e::es) [] cpos) (kM X.K T r to t):=by
 intro qp s σ H Q I h;refine wpAny_Call_method_late f j g rfl<|HA (q qp s σ H _ I h) ?_;rintro v s1 ⟨x,H1,a,i,ty,y⟩;obtain⟨z,A⟩:=rW a i ty;refine⟨T,id,m,slot,l,z,A,?_⟩;have n:=u cpos qp s1 σ H1 _ a y;rw[w]at n ⊢;refine Ew (by show(false || (backTo cpos<|SL es X.env).any (·.1))=false;rw[c]<;>rfl)<|Calls.evalArgs_plain ?_;exact HA n λus s2 ⟨B,C,E,F,G⟩=>hm qp s2 σ C x B v us Q E i F G
end
def MtM(X:Cx)(id:String)(r:V->List V->Hp->VK->Prop):Prop:=
 ∀(qp:List (Addr×Obj)) (s:Shared) (σ:St) (H:Hp) (x:V) (xs:List V) (v:GM) (us:List GM) (Q:VK),Inv X qp σ H s->RelV x v->Vals xs us->r x xs H Q ->
  wpAny (IR X.prog X.w) X.A (call (.builtin id) (v::us)) (EP X qp σ Q) X.xe s
def Vals.one:∀{x:V}{us:List GM},Vals [x] us->∃u,us=[u]/\RelV x u
 |_,_,.cons r .nil=>⟨_,rfl,r⟩
def Vals.two{y:V}(h:Vals [x,y] us):∃u v,us=[u,v]/\RelV x u/\RelV y v:=by
 cases h with
 |cons r t=>
  cases t with
  |cons q t=>
   cases t;exact⟨_,_,rfl,r,q⟩
variable {t':Nat}
section
variable {l b:Addr}{zs:List V}
def Inv.lset{f:Array GM->Array GM}(I:Inv X qp σ H s)(a:H l=some (.lst xs))(e:s.heap.get? l=some {cls:=.type "list",data:=.seq its.toArray n}) (hf:f its.toArray=its'.toArray) (c:Vals ys its') (g:ys.length<=sizeLine):
  Inv X qp σ (upd H l<|.lst ys) {s with heap:=s.heap.update l (BW f),toks:=t'}:=by
 have q:=PySem.IsL.update e f;rw[hf]at q;refine I.write (x:=l) (e:=l) (by rw[a];exact trivial) (.inl rfl) (λh u i T=>(AO s.heap (BW f)<|A7 i).trans T) ⟨_,q⟩ ?_;exact⟨g,its',_,c,q⟩
def Inv.lnew(I:Inv X qp σ H s)(a:Vals ys its)(c:ys.length<=sizeLine):
  Inv X qp σ (upd H s.heap.objs.size<|.lst ys) {s with heap:=s.heap.push {cls:=.type "list",data:=.seq its.toArray},toks:=t'}:=
 I.laid (λ_ _ q=>Ad _ q) (Ah _) ⟨c,its,0,a,Aq _ rfl⟩
def Inv.fresh(I:Inv X qp σ H s):H s.heap.objs.size=none:=I.hok.fresh<|Ah _
def Inv.lstM(I:Inv X qp σ H s)(a:H l=some (.lst xs)):xs.length<=sizeLine/\∃(its:List GM) (n:Nat),Vals xs its/\xs.length=its.length/\s.heap.get? l=some {cls:=.type "list",data:=.seq its.toArray n}:=by obtain⟨z,its,n,r,e⟩:=I.hok l _ a;exact⟨z,its,n,r,r.length,e⟩
end
def vV:V->List V->Hp->VK->Prop:=λx e H Q=>∃l xs y,x=.ref l/\e=[y]/\H l=some (.lst xs)/\xs.length<sizeLine/\Q .non (upd H l<|.lst<|xs++[y])
def gH:MtM X "list.append" vV:=by intro qp s σ H x c v us Q I rx T h;obtain⟨l,xs,y,rfl,rfl,i,f,q⟩:=h;cases rx;obtain⟨u,rfl,a⟩:=T.one;obtain⟨z,its,n,r,g,e⟩:=I.lstM i;refine Dp F.slot_list_append ⟨_,e,rfl⟩ F.entry_list_append (F.args_list_append_2 _ _) (PySem.list_append l its.toArray n u (by rw[Az];omega)) ⟨e,?_⟩;refine⟨.non,_,I.lset (its':=its++[u]) i e (by simp) (r.append<|.cons a .nil) ?_,rfl,q⟩;rw[AF,Cw];omega
def ZT:R2:=λx y H Q=>∃l b xs zs,x=.ref l/\y=.ref b/\H l=some (.lst xs)/\H b=some (.lst zs)/\xs.length+zs.length<=sizeLine/\∀p,H p=none->Q (.ref p) (upd H p<|.lst<|xs++zs)
def qK:Kg X (binaryOp .Add) ZT:=by
 intro qp s σ H x y v u Q I rx T h;obtain⟨l,b,xs,zs,rfl,rfl,a,c,o,q⟩:=h;cases rx;cases T;obtain⟨z,its,n,r,w,e⟩:=I.lstM a;obtain⟨A,i,B,f,g,j⟩:=I.lstM c;refine PySem.P.add_list e j ?_ (by rw[Az,Az];omega);have m:its.toArray++i.toArray=(its++i).toArray:=by simp
 rw[m];exact⟨.ref _,_,I.lnew (t':=s.toks) (r.append f) (by rw[AF];omega),rfl,q _ I.fresh⟩
section
variable {prog:Os}{w:Re}{A:Around}{E:Qqa}
set_option maxRecDepth 100000 in
end
end L2
namespace Att
open PySem PySem.W PySem.Calls PyProof.Rows
def zfy{P:Params}{h:KF}:∀(ns:List Int) (c:List GM),WellAll P h c (ns.map WData.int)->IntsAre c ns:=by
 intro ns
 induction ns with
 |nil=>
  intro c w;rw[BM]at w;cases w;exact .nil
 |cons n ns ih=>
  intro c w;rw[Au]at w;cases w with
  |cons a b=>
   cases a;exact .cons _ _<|ih _ b
def zmg{l:OpenLaw}{n:Nat}(s:l.most=some n){P:Params}{h:KF}{args:List WData}{vals:List GM}(c:l.row.toRowW.claim.pre args=true) (i:WellAll P h vals args):
  ∃a m ns,vals=[Ax a]/\args=[WData.list (ns.map WData.int)]/\h.get? a=some {cls:=.type "list",data:=.seq m.toArray}/\IntsAre m ns/\ns.length<=n:=by
 have j:WShape.hasAll [] args [.list .int]=true:=(pre_splitW c).1;have o:l.pre.holds [] {args:=args}=true:=(pre_splitW c).2;obtain⟨d,r,rfl,u,v⟩:=hasAllW_cons j;obtain rfl:=hasAllW_nil v;obtain⟨xs,rfl,w⟩:=hasW_list u;obtain⟨ns,rfl⟩:=items_int w;have hlen:ns.length<=n:=by
  unfold OpenLaw.pre at o;have f:(WTm.not<|.lt (.lit<|.int (n:Int))<|.len<|.arg 0).holds [] {args:=[.list (ns.map .int)]}=true:=by have f:=(holds_andW o).1;rw[s]at f;exact f
  have g:=condW_of f<|w_not<|w_lt w_lit<|w_len_list<|w_arg rfl;rw[Af]at g;refine FU λq=>?_;have x:(n:Int)<((ns.length:Nat):Int):=by omega
  first
   |(rw[decide_eq_true x]at g;exact absurd g (by decide))
   |(simp at g;omega)
 cases i with
 |cons y z=>
  cases z;cases y with
  |list A e=>exact⟨_,_,ns,rfl,rfl,A,zfy ns _ e,hlen⟩
def zmo(l:OpenLaw)(args:List WData):l.row.toRowW.claim.post args (.bool true) args=true:=
 postW_of (r:=l.row.toRowW) (X:=(true==true))
  (show WShape.has [] (.bool true) .bool=true by first|rfl|decide|simp[WShape.has,WShape.arms,WShape.armsAll])
  (show(WTm.eq .res<|.lit<|.bool true).value [] {args:=args,res:=some (.bool true),after:=args}=some (.bool<|true==true) from w_eq_bool (w_res rfl) w_lit) rfl
def Me{l:OpenLaw}{n:Nat}{q:Os}{loose:List Str}{XP:(Str->Option GM)->KF->Prop}{YP:Re->KF->Prop}{d:DefRec}(A:l.most=some n) (j:d.params.defaults=[])(call:∀(w:Re) (s₀ s₁:Shared) (i m:Str->Option GM) (e:Addr) (o:Obj) (pm cd doc:GM) (a:Addr) (c:List GM) (ns:List Int),
   Ground q loose [] XP w s₀ i m s₁.heap->YP w s₁.heap ->
   s₁.heap.get? e=some o->o.data=.func (docDef d.name d.params d.body d.scope pm cd doc)->s₁.heap.CodeRec cd d.name->i d.name=some (.ref e) ->
   s₁.heap.get? a=some {cls:=.type "list",data:=.seq c.toArray}->IntsAre c ns->ns.length<=n->s₁.gens=#[] ->
   codeAny (IR l.prog w) callerA (.call (.ref e) ⟨[.ref a],[]⟩) (λr s'=>r=.ok (.ret<|.bool true)/\OldK s₁.heap s'.heap/\s'.os=s₁.os/\AllBare s'.gens) s₁):
  WalkO q loose XP YP l.row.toRowW d [] (λf c=>F7 f c):=by
 intro w s₀ s₁ i m G Y e o pm cd doc B kV C hd u y v E args vals as g z F x H;obtain rfl:B=.none:=Dflts.none y j;obtain rfl:kV=.none:=Dflts.noKw y;obtain⟨a,c,ns,rfl,rfl,h,hints,hlen⟩:=zmg A g x;refine enter_call<|Dl (call w s₀ s₁ i m e o pm cd doc a c ns G Y C (fd_plain hd) u v h hints hlen E) λr s' I=>?_;obtain⟨rfl,J,K,L⟩:=I;exact⟨.inl ⟨.bool true,.bool true,[],rfl,λ_=>rfl,.bool true,zmo l _,λ_=>⟨C3,λ_ hm=>(nomatch hm)⟩⟩,J,K,L⟩
end Att
namespace L2
open PySem PySem.Spec PyProof.Rows
theorem iH:∀{a:List GM}{ns:List Int},IntsAre a ns->Vals (ns.map V.int) a
 |_,_,.nil=>.nil
 |_,_,.cons n t h=>.cons ⟨t,rfl⟩<|iH h
def OL(H:Hp):Prop:=∀b,H b=none\/∃o xs,H b=some (.frz o<|.lst xs)
variable {P:Os}{w:Re}{K:Ac}{mg:Str->Option GM}{k:Nat}{fd:FuncData}{x:Str}{sp:Sp}
def xI{M:Str->Option GM}{CX:Oi}{N a:Addr}{x:Str}{s₁:Shared}{i:List GM}{ns:List Int}(X:K.In s₁.heap) (l:s₁.heap.Ns Wp mg) (f:s₁.heap.Ns builtinsNs M) (Q:∀x:Str,x≠"__name__"->M x=UF x) (y:s₁.heap.NoLimit) (hg:s₁.gens=#[])(L:s₁.heap.get? a=some {cls:=.type "list",data:=.seq i.toArray}) (hi:IntsAre i ns) (Y:ns.length<=sizeLine) (hr:HK k callerA)(F:∀base:KF,K.In base->base.Ns Wp mg->Ja P w K mg base CX k N fd [x] sp) (j:∀(s:Shared) (u:GM),BindsTo s fd ⟨[u],[]⟩ [(x,u)])(S:∀H:Hp,OL H->Kf K H a (ns.map V.int)->sp [.ref a] H (λv _=>v=.bl true) λ_ _ _=>False)(T:∀H e s',CX [] H s₁ (λ_ _ _=>False) e s'->False):
  codeAny (IR P w) callerA (.call (.ref N) ⟨[.ref a],[]⟩) (λr s'=>r=.ok (.ret (.bool true))/\OldK s₁.heap s'.heap/\s'.os=s₁.os/\AllBare s'.gens) s₁:=by
 have Z:=iH hi;have A:=hi.length;have core:∀H:Hp,OL H->Kf K H a (ns.map V.int)->JX P w H s₁.heap->(∀b,H b≠none->b=a)->(H a≠none->K.lookup a=none) ->
   codeAny (IR P w) callerA (.call (.ref N) ⟨[.ref a],[]⟩) (λr s'=>r=.ok (.ret (.bool true))/\OldK s₁.heap s'.heap/\s'.os=s₁.os/\AllBare s'.gens) s₁:=by
  intro H hO hS B hA hK;have c:∀{b:Addr}{o:Obj},s₁.heap.get? b=some o->H b=none->(LF s₁.heap H).get? b=some o:=λe n=>xE e n;have U:∀{b:Addr}{o:Obj}{C:Array DictEntry}{E:Nat},s₁.heap.get? b=some o->o.data=.dict C E->H b=none:=λ{b o C E} e d=>by
   cases q:H b with
   |none=>rfl
   |some u=>
    have W:b=a:=hA b (by rw[q];simp);subst W;rw[L]at e;cases e;have d':Data.seq i.toArray _=Data.dict C E:=d;cases d'
  have g:∀{b:Addr}{m:Str->Option GM},s₁.heap.Ns b m->(LF s₁.heap H).Ns b m:=λ{b m} ⟨o,C,E,e,d,r⟩=>⟨o,C,E,c e (U e d),d,r⟩;have G:K.In (LF s₁.heap H):=λb o e=>c (X b o e) (by
   cases q:H b with
   |none=>rfl
   |some u=>
    have W:b=a:=hA b (by rw[q];simp);subst W;rw[hK (by rw[q];simp)]at e;cases e)
  have hM:Mod K mg (LF s₁.heap H):=⟨G,g l,⟨M,g f,Q⟩,let ⟨mc,h1,h2⟩:=y;⟨mc,g h1,h2⟩⟩;have e0:MV P w K mg (LF s₁.heap H) callerA [] s₁ H:=⟨rfl,hM,λb o e=>sU e,Dq (zmU _ _),trivial,λb f=>absurd (show b∈([]:List Addr) from f) (by simp),B,.of_eq hg⟩
  refine Dl ((F _ G (g l)).run callerA [] s₁ H ⟨[.ref a],[]⟩ [.ref a] [.ref a] _ _ hr e0 (j s₁ (.ref a)) (.cons rfl .nil) (S H hO hS)) λr s' h=>?_;cases r with
  |error e=>exact(T H e s' h).elim
  |ok fl=>
   cases fl with
   |next=>exact False.elim h
   |brk=>exact False.elim h
   |cont=>exact False.elim h
   |ret u=>
    obtain⟨v,H',os,bare,un,I,r',q⟩:=h;have q':v=.bl true:=q;subst q';obtain rfl:u=CA true:=r';refine⟨rfl,OldK.of_keep λb o e=>?_,os,bare⟩;cases q:H b with
    |none=>exact un.keep b o e q (by intro z;exact absurd (show b∈([]:List Addr) from z) (by simp)) (by simp)
    |some u=>
     rcases hO b with z|⟨ob,xs,z⟩
     ·rw[q]at z;cases z
     have z2:=un.frzs b ob _ z;obtain⟨e1,_⟩:=B b _ z;obtain⟨e2,_⟩:=I b _ z2;rw[e]at e1;cases e1;exact e2
 cases hk:K.lookup a with
 |some o=>
  have e:=X a o hk;rw[L]at e;cases e;refine core (λ_=>none) (λ_=>.inl rfl) (.inr ⟨_,i.toArray,_,hk,rfl,rfl,rfl,by rw[Az,A];exact Y,by simpa using Z⟩) (λb u z=>by have J:(none:Option HO)=some u:=z;cases J) (λb z=>absurd rfl z) λz=>absurd rfl z
 |none=>
  refine core (λb=>if b=a then some (.frz {cls:=.type "list",data:=.seq i.toArray} (.lst (ns.map V.int)))else none) (λb=>?_) (.inl (.inr ⟨{cls:=.type "list",data:=.seq i.toArray},if_pos rfl⟩)) (λb u z=>?_) (λb z=>?_) λ_=>hk
  ·by_cases f:b=a
   ·exact .inr ⟨_,_,if_pos f⟩
   exact .inl (if_neg f)
  ·by_cases f:b=a
   ·have J:=(if_pos f).symm.trans z;cases J;subst f;exact⟨L,by rw[Af];exact Y,i,_,Z,L⟩
   have J:=(if_neg f).symm.trans z;cases J
  ·by_cases f:b=a
   ·exact f
   exact absurd (if_neg f) z
variable {n:Nat}
def PJ{l:PySem.W.OpenLaw}{q:Os}{loose:List Str}{XP:(Str->Option GM)->KF->Prop}{YP:Re->KF->Prop}{d:DefRec}{K:Params->Ac}{CX:Re->Oi}{sp:Re->Sp}(C:l.most=some n) (j:n<=sizeLine) (m:d.params.defaults=[]) (E:HK k callerA)(I:∀(w:Re) (h:KF),YP w h->(K w.params).In h)(F:∀(w:Re) (mg:Str->Option GM) (i:Addr) (h:KF),(K w.params).In h->h.Ns Wp mg->mg d.name=some (.ref i) ->
   ∃fd:FuncData,(∀(s:Shared) (u:GM),BindsTo s fd ⟨[u],[]⟩ [(x,u)]) /\
    ∀base:KF,(K w.params).In base->base.Ns Wp mg->Ja l.prog w (K w.params) mg base (CX w) k i fd [x] (sp w))
  (r:∀(w:Re) (H:Hp) (a:Addr) (ns:List Int),ns.length<=n->OL H->Kf (K w.params) H a (ns.map V.int)->sp w [.ref a] H (λv _=>v=.bl true) λ_ _ _=>False)
  (y:∀(w:Re) (H:Hp) (s:Shared) (e:GM) (s':Shared),CX w [] H s (λ_ _ _=>False) e s'->False):
  PySem.W.WalkO q loose XP YP l.row.toRowW d [] (λf A=>F7 f A):=by
 refine Att.Me C m λw s₀ s₁ mg U i o pm cd doc a A ns G Y X hd J z c hints hlen L=>?_;have B:=I w _ Y;obtain⟨fd,M,N⟩:=F w mg i _ B G.T.g z;exact xI B G.T.g G.T.b G.T.builtins G.T.nolimit L c hints (Ar hlen j) E N M (λH Q S=>r w H a ns hlen Q S) λH e s'=>y w H s₁ e s'
def inClass(s:SZ)(j:Nat):SZ:=match s with
 |.ClassDef _ _ _ body _ _ _ _ _ _ _=>body.getD j<|.Pass ⟨0,0,0,0⟩
 |_=>.Pass ⟨0,0,0,0⟩
noncomputable abbrev Lu:Oi:=λ_ _ _ _ _ _=>False
noncomputable abbrev E0:XK:=λ_ _ _=>False
variable {X:Cx}
def aF:Passes Lu X E0:=λ_ _ _ _ _ _ _ h=>h.elim
structure Nd(K:Ac)(x qual:Str)(st:SZ)(f:Addr)(fd:FuncData):Prop where
 ex:∃(oc:GM) (od:Option Addr) (kV doc pm:GM) (an:Option Addr) (cdv ct:GM) (osl:Array (Option GM)),
  fd=BY x qual (OZ st) (K9 st) (Jd st) .none kV doc pm an cdv ct/\K.lookup f=some ⟨oc,od,.func fd,osl⟩/\CZ K cdv qual=true
 kp:BH K (.ref f)=true
variable {qual:Str}{st:SZ}{f:Addr}{ps:List Str}
section
variable {base:KF}
def Nd.ok{N:List Str}(F:Nd K x qual st f fd)(S:Iv N ps (Jd st))(len:∀c H Q E,sp c H Q E->c.length=ps.length)(e:∀(a:GM) (A:Around) (outer:List Env) (s:Shared) (H:Hp) (c:List V) (Q:VK) (E:XK),HK k (A.deeper<|envOfC qual (Jd st) s.heap.objs.size f a)->sp c H Q E ->
   ∃t,K1 (HJ Lu P w K mg base N qual (Jd st) f a A outer s H E).nox (K9 st) t/\t {nx:=λ_ g=>Q .non g,rt:=Q} (start N c) H):Ja P w K mg base Lu (k+1) f fd ps sp:=by
 obtain⟨m,o,kV,doc,pm,an,a,r,i,rfl,j,n⟩:=F.ex;refine G4 j n S len λA outer s H c Q E l X=>?_;obtain⟨t,h,q⟩:=e a A outer s H c Q E l X;exact⟨t,h.nox,q⟩
def Nd.binds(F:Nd K x qual st f fd)(h:∀(kV doc pm:GM) (an:Option Addr) (a c:GM) (us:List GM),us.length=ps.length->bindArgs (BY x qual (OZ st) (K9 st) (Jd st) .none kV doc pm an a c) ⟨us,[]⟩=pure (ps.zip us)):Binds K fd ps []:=by
 obtain⟨X,e,kV,doc,pm,an,a,c,n,rfl,g,w⟩:=F.ex;exact .all<|h kV doc pm an a c
def Vd{x qual:Str}{st:SZ}{h:GM}{i an:Option Addr}{e:Array (Option GM)}{kV doc pm a g:GM}(l:K.lookup f=some ⟨h,i,.func<|BY x qual (OZ st) (K9 st) (Jd st) .none kV doc pm an a g,e⟩)(c:CZ K a qual=true) (k:BH K (.ref f)=true):Nd K x qual st f (BY x qual (OZ st) (K9 st) (Jd st) .none kV doc pm an a g):=⟨⟨h,i,kV,doc,pm,an,a,g,e,rfl,l,c⟩,k⟩
end
def HZ{A:Around}(a:HK k A):A.units+1<cLine:=BZ (Dy (by decide:1<=64) _) a.units
def zma(h:n<=1000):n<sizeLine:=BZ h<|by decide
def pv(i:Nat){pos:Pos}(c:X.N[i]?=some x:=by rfl)(e:UL X.env.scope x:=by first|exact Bz rfl|exact Bx (Bz rfl)|exact Bx (Bx rfl))(hd:(x==("__debug__":Str))=false:=by decide)(a:(x==("__classdict__":Str))=false:=by decide):PE X (.Name x pos) (Uk i):=bX c e hd a
end L2
namespace L2.MP
open PySem PySem.Spec PyProof.Rows
inductive D where
 |non|bl (b:Bool)|int (i:Int)|str (x:Str)|tup (xs:List D)|ref (n:Nat)|kl (xs:List D)|fn (x:Str)|er (b:Bool) (c:Str) (f:Option (Str×Int))
inductive O where
 |lst (xs:List D)|fz (xs:List D)|dk (kvs:List (Key×D))|dt (kvs:List (List Key×D))|fk (kvs:List (Key×D))|ft (kvs:List (List Key×D))|ob (C:Addr) (fs:List (Str×D))|sz (n:Nat)|dz
noncomputable abbrev Hf:=List O
noncomputable abbrev HX:=List (Option D)
structure Kp(H H':Hp):Prop where
 tup:∀a xs,H a=some (.tup xs)->H' a=some (.tup xs)
 frz:∀a o u,H a=some (.frz o u)->H' a=some (.frz o u)
def Ri(K:Ac)(H:Hp)(a:Addr)(xs:List V):Prop:=(∃o,H a=some (.frz o<|.lst xs))\/∃(o:Obj) (c:Array GM) (n:Nat),K.lookup a=some o/\o.cls=.type "list"/\o.dict=none/\o.data=.seq c n/\c.size<=sizeLine/\Vals xs c.toList
variable {K:Ac}{H:Hp}{a:Addr}{xs:List V}
def Ri.sq(h:Ri K H a xs):Kf K H a xs:=by
 rcases h with h|h
 ·exact .inl<|.inr h
 exact .inr h
variable {H':Hp}
def Ri.kp(T:Kp H H')(h:Ri K H a xs):Ri K H' a xs:=by
 rcases h with⟨o,h⟩|h
 ·exact .inl ⟨o,T.frz _ _ _ h⟩
 exact .inr h
def KJ(K:Ac)(x:Str)(a:Addr):Prop:=Fq K Wp x=some (some<|.ref a)
def Su(C a:Addr)(c:Option Addr)(h:KF):Prop:=∃o fs,h.get? a=some o/\o.cls=.ref C/\o.dict=c/\o.data=.fields fs
def UR(K:Ac)(H:Hp)(v:V)(c:Str):Option (Str×Int)->Prop
 |none=>∃a C o,v=.ref a/\KJ K c C/\H a=some (.frz o<|.ext<|Su C a none)
 |some (f,n)=>∃a C o e g,v=.ref a/\KJ K c C/\H a=some (.frz o<|.ext<|Su C a<|some e)/\H e=some (.frz g<|.xd [(f,.int n)])
variable {v:V}
def UR.kp{c:Str}{f:Option (Str×Int)}(T:∀a o u,H a=some (.frz o u)->(∀ps,u≠.dT ps)->H' a=some (.frz o u))(h:UR K H v c f):UR K H' v c f:=by
 cases f with
 |none=>
  obtain⟨a,C,o,e,q,r⟩:=h;exact⟨a,C,o,e,q,T _ _ _ r<|by simp⟩
 |some p=>
  obtain⟨a,C,o,g,i,e,q,r,z⟩:=h;exact⟨a,C,o,g,i,e,q,T _ _ _ r<|by simp,T _ _ _ z<|by simp⟩
mutual
def Rep(K:Ac)(H:Hp)(io:List Addr):V->D->Prop
 |v,.non=>v=.non
 |v,.bl b=>v=.bl b
 |v,.int i=>v=.int i
 |v,.str x=>v=.str x
 |v,.tup ds=>∃a xs,v=.ref a/\H a=some (.tup xs)/\Hh K H io xs ds
 |v,.ref n=>∃a,v=.ref a/\io[n]?=some a
 |v,.kl ds=>∃a xs,v=.ref a/\Ri K H a xs/\Hh K H io xs ds
 |v,.fn x=>∃a,v=.ref a/\KJ K x a
 |v,.er b c f=>b=true/\UR K H v c f
def Hh(K:Ac)(H:Hp)(io:List Addr):List V->List D->Prop
 |xs,[]=>xs=[]
 |xs,d::ds=>∃y c,xs=y::c/\Rep K H io y d/\Hh K H io c ds
end
variable {io ka:List Addr}
mutual
theorem Rep.mono{K:Ac}{H c:Hp}{io ka:List Addr}(T:Kp H c):∀{v:V}{d:D},Rep K H io v d->Rep K c (io++ka) v d
 |_,.non,h=>h
 |_,.bl _,h=>h
 |_,.int _,h=>h
 |_,.str _,h=>h
 |_,.tup ds,h=>by obtain⟨a,xs,e,q,r⟩:=h;exact⟨a,xs,e,T.tup a xs q,Hh.mono T r⟩
 |_,.ref n,h=>by obtain⟨a,e,q⟩:=h;exact⟨a,e,by rw[AL (KB.mp q).1];exact q⟩
 |_,.kl ds,h=>by obtain⟨a,xs,e,q,r⟩:=h;exact⟨a,xs,e,q.kp T,Hh.mono T r⟩
 |_,.fn _,h=>h
 |_,.er _ _ _,h=>⟨h.1,h.2.kp λa o u q _=>T.frz a o u q⟩
theorem Hh.mono{K:Ac}{H a:Hp}{io ka:List Addr}(T:Kp H a):∀{xs:List V}{ds:List D},Hh K H io xs ds->Hh K a (io++ka) xs ds
 |_,[],h=>h
 |_,d::ds,h=>by obtain⟨y,c,e,r,rs⟩:=h;exact⟨y,c,e,Rep.mono T r,Hh.mono T rs⟩
end
variable {H1 H2:Hp}{kb:List Addr}{st st':Hf}{d:D}{o:HO}{ρ:HX}{p:Addr}{ob:O}
section
variable {ys:List V}{ds es:List D}
theorem Hh.length:∀{xs:List V}{ds:List D},Hh K H io xs ds->xs.length=ds.length
 |_,[],h=>by rw[show _=[] from h];rfl
 |_,d::ds,h=>by obtain⟨y,ys,e,_,rs⟩:=h;rw[e,AB,AB,Hh.length rs]
theorem Hh.get:∀{xs:List V}{ds:List D}{i:Nat}{d:D},Hh K H io xs ds->ds[i]?=some d->∃v,xs[i]?=some v/\Rep K H io v d
 |_,[],_,_,_,e=>by simp at e
 |_,a::ds,0,d,h,e=>by
  obtain⟨y,ys,rfl,r,_⟩:=h;have o:a=d:=by simpa using e
  subst o;exact⟨y,rfl,r⟩
 |_,a::ds,i+1,d,h,e=>by obtain⟨y,ys,rfl,_,rs⟩:=h;exact Hh.get (i:=i) rs<|by simpa using e
theorem Hh.append:∀{xs ys:List V}{ds es:List D},Hh K H io xs ds->Hh K H io ys es->Hh K H io (xs++ys) (ds++es)
 |_,_,[],_,h,q=>by rw[show _=[] from h];exact q
 |_,_,d::ds,_,h,q=>by obtain⟨y,ys,rfl,r,rs⟩:=h;exact⟨y,_,rfl,r,Hh.append rs q⟩
theorem Hh.set:∀{xs:List V}{ds:List D}{v:V}{d:D} (i:Nat),Hh K H io xs ds->Rep K H io v d->Hh K H io (xs.set i v) (ds.set i d)
 |_,[],_,_,_,h,_=>by rw[show _=[] from h];exact rfl
 |_,a::ds,v,d,0,h,q=>by obtain⟨y,ys,rfl,_,rs⟩:=h;exact⟨v,ys,rfl,q,rs⟩
 |_,a::ds,v,d,i+1,h,q=>by obtain⟨y,ys,rfl,r,rs⟩:=h;exact⟨y,_,rfl,r,Hh.set i rs q⟩
theorem Hh.take:∀{xs:List V}{ds:List D} (n:Nat),Hh K H io xs ds->Hh K H io (xs.take n) (ds.take n)
 |_,[],n,h=>by rw[show _=[] from h];simp[Hh]
 |_,_::_,0,_=>by simp[Hh]
 |_,d::ds,n+1,h=>by obtain⟨y,ys,rfl,r,rs⟩:=h;exact⟨y,_,rfl,r,Hh.take n rs⟩
theorem Hh.drop:∀{xs:List V}{ds:List D} (n:Nat),Hh K H io xs ds->Hh K H io (xs.drop n) (ds.drop n)
 |_,[],n,h=>by rw[show _=[] from h];simp[Hh]
 |_,_::_,0,h=>h
 |_,d::ds,n+1,h=>by obtain⟨y,ys,rfl,r,rs⟩:=h;exact Hh.drop n rs
theorem Hh.nil:Hh K H io [] []:=rfl
def Hh.cons(r:Rep K H io v d)(rs:Hh K H io xs ds):Hh K H io (v::xs) (d::ds):=⟨v,xs,rfl,r,rs⟩
def Hh.one(r:Hh K H io xs [d]):∃v,xs=[v]/\Rep K H io v d:=by
 obtain⟨y,ys,rfl,r,e⟩:=r;cases (show ys=[] from e)
 exact⟨y,rfl,r⟩
def Hh.two{e:D}(r:Hh K H io xs [d,e]):∃v u,xs=[v,u]/\Rep K H io v d/\Rep K H io u e:=by obtain⟨y,ys,rfl,r,q⟩:=r;obtain⟨v,rfl,o⟩:=q.one;exact⟨y,v,rfl,r,o⟩
noncomputable abbrev KR (κ:Type) (K:Ac) (H:Hp) (io:List Addr):List (κ×V)->List (κ×D)->Prop:=Paired λ(p:κ×V) (q:κ×D)=>p.1=q.1/\Rep K H io p.2 q.2
def GZ(a:Addr)(n:Nat)(h:KF):Prop:=∃o es c t,h.get? a=some o/\o.ExactSet/\o.data=.set es c t/\es.size<scanBound/\t.fits es.size=true/\es.size=n
def kY(a:Addr)(h:KF):Prop:=∃o es c,h.get? a=some o/\o.ExactDict/\o.data=.dict es c
def OR(K:Ac)(H:Hp)(io:List Addr)(a:Addr):O->Prop
 |.lst ds=>∃xs,H a=some (.lst xs)/\Hh K H io xs ds
 |.fz ds=>∃o xs,H a=some (.frz o<|.lst xs)/\Hh K H io xs ds
 |.dk kvs=>∃ps,H a=some (.dK ps)/\KR Key K H io ps kvs
 |.dt kvs=>∃ps,H a=some (.dT ps)/\KR (List Key) K H io ps kvs
 |.fk kvs=>∃o ps,H a=some (.frz o<|.dK ps)/\KR Key K H io ps kvs
 |.ft kvs=>∃o ps,H a=some (.frz o<|.dT ps)/\KR (List Key) K H io ps kvs
 |.ob C fs=>∃c ps,H a=some (.ins C c ps)/\KR Str K H io ps fs
 |.sz n=>H a=some (.ext<|GZ a n)
 |.dz=>H a=some (.ext<|kY a)
structure Hv(K:Ac)(H:Hp)(io:List Addr)(st:Hf):Prop where
 len:io.length=st.length
 nd:io.Nodup
 ob:∀(n:Nat) (a:Addr) (o:O),io[n]?=some a->st[n]?=some o->OR K H io a o
structure Hy(K:Ac)(H:Hp)(io:List Addr)(σ:St)(ρ:HX):Prop where
 len:σ.length=ρ.length
 at_:∀(i:Nat) (d:D),ρ[i]?=some (some d)->∃v,σ[i]?=some (some v)/\Rep K H io v d
structure Ext(io ka:List Addr)(H H':Hp):Prop where
 keep:∀b o,H b=some o->b∉io->H' b=some o
 fresh:∀b,b∈ka->H b=none
 frz:∀b o u,H b=some (.frz o u)->H' b=some (.frz o u)
def OR.stands{o:O}(h:OR K H io a o):∃u,H a=some u/\∀xs,u≠.tup xs/\∀ob,u≠.frz ob (.tup xs):=by
 cases o with
 |lst ds=>obtain⟨xs,e,_⟩:=h;exact⟨_,e,λ_=>⟨by simp,by simp⟩⟩
 |fz ds=>obtain⟨ob,xs,e,_⟩:=h;exact⟨_,e,λ_=>⟨by simp,by simp⟩⟩
 |dk c=>obtain⟨xs,e,_⟩:=h;exact⟨_,e,λ_=>⟨by simp,by simp⟩⟩
 |dt c=>obtain⟨xs,e,_⟩:=h;exact⟨_,e,λ_=>⟨by simp,by simp⟩⟩
 |fk c=>obtain⟨ob,xs,e,_⟩:=h;exact⟨_,e,λ_=>⟨by simp,by simp⟩⟩
 |ft c=>obtain⟨ob,xs,e,_⟩:=h;exact⟨_,e,λ_=>⟨by simp,by simp⟩⟩
 |ob C fs=>obtain⟨f,xs,e,_⟩:=h;exact⟨_,e,λ_=>⟨by simp,by simp⟩⟩
 |sz n=>exact⟨_,h,λ_=>⟨by simp,by simp⟩⟩
 |dz=>exact⟨_,h,λ_=>⟨by simp,by simp⟩⟩
def Hv.mem(S:Hv K H io st)(h:a∈io):∃u,H a=some u/\∀xs,u≠.tup xs/\∀ob,u≠.frz ob (.tup xs):=by
 obtain⟨n,o,e⟩:=CG h;have c:io[n]?=some a:=by rw[Av o,e]
 have f:n<st.length:=by rw[<-S.len];exact o
 exact(S.ob n a _ c<|Av f).stands
def Ext.sqT(S:Hv K H io st)(E:Ext io ka H H'):∀a xs,H a=some (.tup xs)->H' a=some (.tup xs):=by intro a xs h;refine E.keep _ _ h λm=>?_;obtain⟨u,e,q⟩:=S.mem m;rw[h]at e;exact(q xs).1 (As e).symm
def Ext.kp(S:Hv K H io st)(E:Ext io ka H H'):Kp H H':=⟨E.sqT S,E.frz⟩
def Ext.refl:Ext io [] H H:=⟨λ_ _ h _=>h,λ_ h=>absurd h (by simp),λ_ _ _ h=>h⟩
def Ext.trans(S1:Hv K H1 (io++ka) st)(E1:Ext io ka H H1)(E2:Ext (io++ka) kb H1 H2):Ext io (ka++kb) H H2 where
 keep:=λb o h n=>E2.keep b o (E1.keep b o h n) λm=>by
  rcases W1.mp m with m|m
  ·exact n m
  rw[E1.fresh b m]at h;cases h
 fresh:=λb m=>by
  rcases W1.mp m with m|m
  ·exact E1.fresh b m
  ·have a:=E2.fresh b m
   cases e:H b with
   |none=>rfl
   |some o=>
    by_cases c:b∈io
    ·obtain⟨u,f,_⟩:=S1.mem<|BL _ c;rw[f]at a;cases a
    rw[E1.keep b o e c]at a;cases a
 frz:=λb o u h=>E2.frz b o u (E1.frz b o u h)
def Ext.app(E:Ext io (ka++[]) H H'):Ext io ka H H':=by rw[Am]at E;exact E
def Rep.ext(S:Hv K H io st)(E:Ext io ka H H')(h:Rep K H io v d):Rep K H' (io++ka) v d:=Rep.mono (E.kp S) h
def Hh.ext(S:Hv K H io st)(E:Ext io ka H H')(h:Hh K H io xs ds):Hh K H' (io++ka) xs ds:=Hh.mono (E.kp S) h
def Hy.ext{σ:St}{ρ:HX}(h:Hy K H io σ ρ)(S:Hv K H io st)(E:Ext io ka H H'):Hy K H' (io++ka) σ ρ:=⟨h.len,λi d e=>let ⟨v,q,r⟩:=h.at_ i d e;⟨v,q,r.ext S E⟩⟩
def Hy.set{σ:St}{ρ:HX}{v:V}{d:D}(i:Nat)(h:Hy K H io σ ρ)(r:Rep K H io v d):Hy K H io (σ.set i<|some v) (ρ.set i<|some d):=by
 refine⟨by rw[Ci,Ci];exact h.len,λj e q=>?_⟩
 by_cases hij:i=j
 ·subst hij;rw[C4]at q;rw[if_pos rfl]at q
  split at q
  ·rename_i o
   cases (As<|As q)
   exact⟨v,by rw[C4,if_pos rfl,if_pos (by rw[h.len];exact o)],r⟩
  ·cases q
 rw[AE hij]at q;obtain⟨u,a,c⟩:=h.at_ j e q;exact⟨u,by rw[AE hij];exact a,c⟩
def Hv.nil(S:Hv K H io st):Hv K H (io++[]) st:=by rw[Am];exact S
def KR.mono{κ:Type}{ps:List (κ×V)}{kvs:List (κ×D)}(T:Kp H H')(h:KR κ K H io ps kvs):KR κ K H' (io++ka) ps kvs:=Paired.mapP h λ_ _ z=>⟨z.1,Rep.mono T z.2⟩
def OR.mono{a:Addr}{o:O}(T:Kp H H')(e:H' a=H a)(h:OR K H io a o):OR K H' (io++ka) a o:=by
 cases o with
 |lst ds=>obtain⟨xs,q,r⟩:=h;exact⟨xs,e.trans q,Hh.mono T r⟩
 |fz ds=>obtain⟨ob,xs,q,r⟩:=h;exact⟨ob,xs,e.trans q,Hh.mono T r⟩
 |dk c=>obtain⟨xs,q,r⟩:=h;exact⟨xs,e.trans q,KR.mono T r⟩
 |dt c=>obtain⟨xs,q,r⟩:=h;exact⟨xs,e.trans q,KR.mono T r⟩
 |fk c=>obtain⟨ob,xs,q,r⟩:=h;exact⟨ob,xs,e.trans q,KR.mono T r⟩
 |ft c=>obtain⟨ob,xs,q,r⟩:=h;exact⟨ob,xs,e.trans q,KR.mono T r⟩
 |ob C fs=>obtain⟨f,xs,q,r⟩:=h;exact⟨f,xs,e.trans q,KR.mono T r⟩
 |sz n=>exact e.trans h
 |dz=>exact e.trans h
def Tv(S:Hv K H io st)(c:H p=none):Ext io [] H (upd H p o)/\Hv K (upd H p o) (io++[]) st:=by
 have E:Ext io [] H (upd H p o):=⟨λb u h _=>by rw[HR (Ka h c)];exact h,λ_ h=>absurd h (by simp),λb u v h=>by rw[HR (Ka h c)];exact h⟩
 refine⟨E,?_⟩;refine⟨by rw[Am];exact S.len,by rw[Am];exact S.nd,λn a ob e f=>?_⟩;rw[Am]at e;obtain⟨u,g,_⟩:=(S.ob n a ob e f).stands;exact OR.mono (E.kp S) (HR<|Ka g c)<|S.ob n a ob e f
def Tg(S:Hv K H io st)(f:H p=none)(new:∀l,Kp H l->l p=some o->OR K l (io++[p]) p ob):Ext io [p] H (upd H p o)/\Hv K (upd H p o) (io++[p]) (st++[ob]):=by
 have E:Ext io [p] H (upd H p o):=⟨λb u h _=>by rw[HR (Ka h f)];exact h,λb h=>by rw[On.mp h];exact f,λb u v h=>by rw[HR (Ka h f)];exact h⟩
 have np:p∉io:=λm=>by obtain⟨u,j,_⟩:=S.mem m;rw[f]at j;cases j
 refine⟨E,by simp[S.len],?_,λn a g c i=>?_⟩
 ·rw[DS];refine⟨S.nd,by simp,λa q b r=>?_⟩;rw[On.mp r];rintro rfl;exact np q
 ·by_cases hn:n<io.length
  ·rw[AL hn]at c;rw[AL (by rw[<-S.len];exact hn)]at i;obtain⟨u,j,_⟩:=(S.ob n a g c i).stands;exact OR.mono (E.kp S) (HR<|Ka j f)<|S.ob n a g c i
  ·have s:n<(io++[p]).length:=(KB.mp c).1;rw[AF,Cw]at s;have e:n=io.length:=by omega
   subst e;rw[AU (Ah _),CP]at c;rw[S.len,AU (Ah _),CP]at i;cases (As c);cases (As i);exact new _ (E.kp S) KQ
def RI{n:Nat}{o:HO}{old:O}(S:Hv K H io st)(f:io[n]?=some p)(q:st[n]?=some old)(nf:∀o u,H p≠some (.frz o u))(new:∀g,Kp H g->g p=some o->OR K g (io++[]) p ob):Ext io [] H (upd H p o)/\Hv K (upd H p o) (io++[]) (st.set n ob):=by
 have l:p∈io:=AK f;have E:Ext io [] H (upd H p o):=⟨λb u h nb=>by rw[HR (λe=>nb (by rw[e];exact l))];exact h,λb h=>absurd h (by simp),λb u v h=>by
  by_cases hb:b=p
  ·subst hb;exact absurd h<|nf u v
  rw[HR hb];exact h⟩
 refine⟨E,by simp[S.len],by rw[Am];exact S.nd,λm a i h1 c=>?_⟩;rw[Am]at h1
 by_cases hm:m=n
 ·subst hm;rw[f]at h1
  cases (As h1);rw[C4,if_pos rfl]at c;split at c
  ·cases (As c)
   exact new _ (E.kp S) KQ
  ·cases c
 ·rw[AE (λe=>hm e.symm)]at c;have j:a≠p:=λe=>by
   subst e;exact hm<|(List.getElem?_inj (KB.mp h1).1 S.nd).mp<|h1.trans f.symm
  exact OR.mono (E.kp S) (HR j)<|S.ob m a i h1 c
end
noncomputable abbrev ME:=HX->Hf->Option (D×Hf)
noncomputable abbrev MT:=HX->Hf->Option (Bool×Hf)
noncomputable abbrev MA:=HX->Hf->Option (List D×Hf)
inductive Fl where
 |nx (ρ:HX)|rt (d:D)|bk (ρ:HX)|ct (ρ:HX)
noncomputable abbrev MS:=HX->Hf->Option (Fl×Hf)
noncomputable abbrev MG:=D->HX->Hf->Option (HX×Hf)
noncomputable abbrev OO:=List D->HX->Hf->Option (HX×Hf)
def Bh(K:Ac)(io:List Addr)(H:Hp)(st':Hf)(d:D)(Q:VK):Prop:=∀v o ka,Ext io ka H o->Hv K o (io++ka) st'->Rep K o (io++ka) v d->Q v o
inductive tE (K:Ac) (m:ME) (σ:L2.St) (H:Hp) (Q:VK):Prop
 |mk (ρ:HX) (st:Hf) (io:List Addr) (d:D) (st':Hf) (h1:Hy K H io σ ρ) (h2:Hv K H io st) (h3:m ρ st=some (d,st')) (h4:Bh K io H st' d Q)
inductive tT (K:Ac) (m:MT) (σ:L2.St) (H:Hp) (Q:Bool->Hp->Prop):Prop
 |mk (ρ:HX) (st:Hf) (io:List Addr) (b:Bool) (st':Hf) (h1:Hy K H io σ ρ) (h2:Hv K H io st) (h3:m ρ st=some (b,st')) (h4:∀H' ka,Ext io ka H H'->Hv K H' (io++ka) st'->Q b H')
inductive tA (K:Ac) (m:MA) (σ:L2.St) (H:Hp) (Q:List V->Hp->Prop):Prop
 |mk (ρ:HX) (st:Hf) (io:List Addr) (ds:List D) (st':Hf) (h1:Hy K H io σ ρ) (h2:Hv K H io st) (h3:m ρ st=some (ds,st')) (h4:∀vs H' ka,Ext io ka H H'->Hv K H' (io++ka) st'->Hh K H' (io++ka) vs ds->Q vs H')
def tS(K:Ac)(m:MS):TS:=λN σ H=>∃ρ st io f st',Hy K H io σ ρ/\Hv K H io st/\m ρ st=some (f,st') /\
 match f with
 |.nx ρ'=>∀σ' o ka,Ext io ka H o->Hv K o (io++ka) st'->Hy K o (io++ka) σ' ρ'->N.nx σ' o
 |.bk ρ'=>∀σ' o ka,Ext io ka H o->Hv K o (io++ka) st'->Hy K o (io++ka) σ' ρ'->N.bk σ' o
 |.ct ρ'=>∀σ' o ka,Ext io ka H o->Hv K o (io++ka) st'->Hy K o (io++ka) σ' ρ'->N.ct σ' o
 |.rt d=>Bh K io H st' d N.rt
inductive tG (K:Ac) (m:MG) (v:V) (σ:L2.St) (H:Hp) (Q:L2.St->Hp->Prop):Prop
 |mk (d:D) (ρ:HX) (st:Hf) (io:List Addr) (ρ':HX) (st':Hf) (h0:Rep K H io v d) (h1:Hy K H io σ ρ) (h2:Hv K H io st) (h3:m d ρ st=some (ρ',st')) (h4:∀σ' H' ka,Ext io ka H H'->Hv K H' (io++ka) st'->Hy K H' (io++ka) σ' ρ'->Q σ' H')
inductive tGs (K:Ac) (m:OO) (vs:List V) (σ:L2.St) (H:Hp) (Q:L2.St->Hp->Prop):Prop
 |mk (ds:List D) (ρ:HX) (st:Hf) (io:List Addr) (ρ':HX) (st':Hf) (h0:Hh K H io vs ds) (h1:Hy K H io σ ρ) (h2:Hv K H io st) (h3:m ds ρ st=some (ρ',st')) (h4:∀σ' H' ka,Ext io ka H H'->Hv K H' (io++ka) st'->Hy K H' (io++ka) σ' ρ'->Q σ' H')
def SE(X:Cx)(e:PP)(m:ME):Prop:=PE X e<|tE X.K m
def SB(X:Cx)(e:PP)(m:MT):Prop:=PT X e<|tT X.K m
def SA(X:Cx)(es:List PP)(m:MA):Prop:=PA X es<|tA X.K m
def SS(X:Cx)(s:SZ)(m:MS):Prop:=PS X s<|tS X.K m
def LI(X:Cx)(s:List SZ)(m:MS):Prop:=K1 X s<|tS X.K m
def SG(X:Cx)(e:PP)(m:MG):Prop:=PG X e<|tG X.K m
def UO(X:Cx)(e:List PP)(m:OO):Prop:=OK X e<|tGs X.K m
variable {σ:L2.St}{b:Bool}{pos:Pos}{t u:TT}{x:Str}{Q:VK}{op:CmpOp}{s1:Hf}{rs:List PP}
section
variable {X:Cx}{e a b c:PP}{es:List PP}{st1 st2:SZ}{rest body orelse:List SZ}{m ma mb mc:ME}{mt mu:MT}{mm:MA}{ms mq mr:MS}{mg:MG}{mgs:OO}
def PE.imp{t u:TE}(h:PE X e t)(k:∀σ H Q,u σ H Q->t σ H Q):PE X e u:=λa s σ H Q I q=>h a s σ H Q I<|k σ H Q q
def PT.imp(h:PT X e t)(k:∀σ H Q,u σ H Q->t σ H Q):PT X e u:=λa s σ H Q I q=>h a s σ H Q I<|k σ H Q q
def PA.imp{t u:TA}(h:PA X es t)(k:∀σ H Q,u σ H Q->t σ H Q):PA X es u:=λp a s σ H Q I q=>h p a s σ H Q I<|k σ H Q q
def PS.imp{t u:TS}(h:PS X st1 t)(k:∀N σ H,u N σ H->t N σ H):PS X st1 u:=λa s σ H N I q=>h a s σ H N I<|k N σ H q
def K1.imp{t u:TS}(h:K1 X rest t)(k:∀N σ H,u N σ H->t N σ H):K1 X rest u:=λa s σ H N I q=>h a s σ H N I<|k N σ H q
def PG.imp{t u:TG}(h:PG X e t)(k:∀v σ H Q,u v σ H Q->t v σ H Q):PG X e u:=λa s σ H v w Q I r q=>h a s σ H v w Q I r<|k v σ H Q q
def OK.imp{t u:Pc}(h:OK X es t)(k:∀v σ H Q,u v σ H Q->t v σ H Q):OK X es u:=λa s σ H v w Q I r q=>h a s σ H v w Q I r<|k v σ H Q q
def Hu{α β:Type}{x:Option α}{f:α->Option β}{y:β}(h:x.bind f=some y):∃z,x=some z/\f z=some y:=by
 cases x with
 |none=>cases h
 |some z=>exact⟨z,rfl,h⟩
def Bh.now(h:Bh K io H st d Q)(S:Hv K H io st)(r:Rep K H io v d):Q v H:=h v H [] Ext.refl S.nil (by rw[Am];exact r)
def Bh.on(h:Bh K io H st' d Q)(f:Hv K H1 (io++ka) st)(E:Ext io ka H H1):Bh K (io++ka) H1 st' d Q:=λv a kb c e r=>
 h v a (ka++kb) (E.trans f c) (by rw[<-Ao];exact e) (by rw[<-Ao];exact r)
def mV(i:Nat):ME:=λρ st=>match ρ[i]? with
 |some (some d)=>some (d,st)
 |_=>none
def He(i:Nat)(h:X.N[i]?=some x:=by rfl)(f:UL X.env.scope x:=by first|exact Bz rfl|exact Bx (Bz rfl)|exact Bx (Bx rfl))(hd:(x==("__debug__":Str))=false:=by decide)(g:(x==("__classdict__":Str))=false:=by decide):SE X (.Name x pos) (mV i):=PE.imp (bX h f hd g) <| by
 rintro σ H Q ⟨ρ,st,io,d,st',E,S,e,k⟩;unfold mV at e;split at e
 ·rename_i a he;cases e;obtain⟨v,f,r⟩:=E.at_ i _ he;exact⟨v,f,k.now S r⟩
 ·cases e
def mK(d:D):ME:=λ_ st=>some (d,st)
def Hj{i j pos}:SE X (.Constant (.int i) j pos) (mK<|.int i):=PE.imp oV <| by
 rintro σ H Q ⟨ρ,st,io,d,st',E,S,e,k⟩;cases e;exact k.now S rfl
def Om{b j pos}:SE X (.Constant (.bool b) j pos) (mK<|.bl b):=PE.imp oI <| by
 rintro σ H Q ⟨ρ,st,io,d,st',E,S,e,k⟩;cases e;exact k.now S rfl
def IA{x j pos}:SE X (.Constant (.str x) j pos) (mK<|.str x):=PE.imp bW <| by
 rintro σ H Q ⟨ρ,st,io,d,st',E,S,e,k⟩;cases e;exact k.now S rfl
def Km{j pos}:SE X (.Constant .none j pos) (mK .non):=PE.imp oX <| by
 rintro σ H Q ⟨ρ,st,io,d,st',E,S,e,k⟩;cases e;exact k.now S rfl
def XX{z:Str}{t:Tok}(f:Gl X x)(hm:X.mg x=some (.str z t))(hd:(x==("__debug__":Str))=false:=by decide):SE X (.Name x pos) (mK<|.str z):=
 PE.imp (XQ f hm (v:=.str z) ⟨t,rfl⟩ hd) <| by
  rintro σ H Q ⟨ρ,st,io,d,st',E,S,e,k⟩;cases e;exact k.now S rfl
noncomputable abbrev G2:=D->D->Hf->Option (D×Hf)
inductive Us (K:Ac) (g:G2) (x y:V) (H:Hp) (Q:VK):Prop
 |mk (dx dy:D) (st:Hf) (io:List Addr) (d:D) (st':Hf) (h0:Rep K H io x dx) (h1:Rep K H io y dy) (h2:Hv K H io st) (h3:g dx dy st=some (d,st')) (h4:Bh K io H st' d Q)
def Jv(X:Cx)(f:GM->GM->Sem GM)(g:G2):Prop:=Kg X f<|Us X.K g
def mB(g:G2)(ma mb:ME):ME:=λρ st=>(ma ρ st).bind λ(x,s1)=>(mb ρ s1).bind λ(y,s2)=>g x y s2
def VL{g:G2}(h:tE K (mB g ma mb) σ H Q):Um (Us K g) (tE K ma) (tE K mb) σ H Q:=by obtain⟨ρ,st,io,d,st',E,S,e,k⟩:=h;obtain⟨⟨x,s1⟩,X,e⟩:=Hu e;obtain⟨⟨y,s2⟩,f,i⟩:=Hu e;refine⟨ρ,st,io,x,s1,E,S,X,λv1 H1 c m a R1=>?_⟩;refine⟨ρ,s1,io++c,y,s2,E.ext S m,a,f,λv2 H2 j o u R2=>?_⟩;exact⟨x,y,s2,(io++c)++j,d,st',R1.ext a o,R2,u,i,(k.on a m).on u o⟩
def Io{op:Operator}{g:G2}(f:Jv X (binaryOp op) g)(i:SE X a ma)(j:SE X b mb):SE X (.BinOp a op b pos) (mB g ma mb):=PE.imp (oK f i j) λ_ _ _ h=>VL h
def KP{g:G2}(f:Jv X (Pv op) g)(i:SE X a ma)(j:SE X b mb)(hm:behindInMarks op b=false):SE X (.Compare a [op] [b] pos) (mB g ma mb):=PE.imp (tQ f i j hm) λ_ _ _ h=>VL h
def mT(m:ME):MT:=λρ st=>(m ρ st).bind λ(x,s1)=>match x with
 |.bl b=>some (b,s1)
 |_=>none
def Ts{b:Bool}(e:mT m ρ st=some (b,st')):m ρ st=some (.bl b,st'):=by
 obtain⟨⟨x,s1⟩,a,e⟩:=Hu e;dsimp only at e;split at e
 ·cases e;exact a
 ·cases e
def T7{Q:Bool->Hp->Prop}(h:tT K (mT m) σ H Q):tE K m σ H λx f=>∃b,x=.bl b/\Q b f:=by obtain⟨ρ,st,io,b,st',E,S,e,k⟩:=h;exact⟨ρ,st,io,_,st',E,S,Ts e,λv f ka a c o=>⟨b,o,k f ka a c⟩⟩
def IK{g:G2}(f:Jv X (Pv op) g)(i:SE X a ma)(j:SE X b mb)(hm:behindInMarks op b=false):SB X (.Compare a [op] [b] pos) (mT<|mB g ma mb):=PT.imp (vS f i j hm) λσ H Q h=>VL (T7 h)
def LK(h:SE X a m)(he:∀whole,isTrue a X.env whole=(do let v <-whole;standAt a.pos;holding [v] (truthy v)):=by intro _;rfl):SB X a (mT m):=PT.imp (fX h he) λσ H Q h=>by obtain⟨ρ,st,io,b,st',E,S,e,k⟩:=T7 h;refine⟨ρ,st,io,b,st',E,S,e,λv o ka u x f=>?_⟩;obtain⟨c,g,q⟩:=k v o ka u x f;subst g;exact⟨c,rfl,q⟩
def J8(m:MT):MT:=λρ st=>(m ρ st).map λ(b,s)=>(!b,s)
def Mq(h:SB X a mt):SB X (.UnaryOp .Not a pos) (J8 mt):=PT.imp (pN h) <| by
 rintro σ H Q ⟨ρ,st,io,b,st',E,S,e,k⟩;unfold J8 at e;cases c:mt ρ st with
 |none=>rw[c]at e;cases e
 |some p=>rw[c]at e;cases e;exact⟨ρ,st,io,_,_,E,S,c,λm ka o u=>k m ka o u⟩
def JD(m n:MT):MT:=λρ st=>(m ρ st).bind λ(b,s)=>if b=true then n ρ s else some (false,s)
def IL(m n:MT):MT:=λρ st=>(m ρ st).bind λ(b,s)=>if b=true then some (true,s)else n ρ s
def SW(X:Cx)(e:PP)(m:MT):Prop:=PW X e<|tT X.K m
def PW.imp(h:PW X e t)(k:∀σ H Q,u σ H Q->t σ H Q):PW X e u:=λw a s σ H Q I q=>h w a s σ H Q I<|k σ H Q q
def SW.sb(h:SW X a mt):SB X a mt:=PW.pt h
def Ls(f:SB X a mt):SW X (.BoolOp .And [a] pos) mt:=PQ f
def Pu(f:SB X a mt):SW X (.BoolOp .Or [a] pos) mt:=QX f
def eV{n:MT}{Q:Bool->Hp->Prop}{b:Bool}(E:Hy K H io σ ρ)(S:Hv K H io st)(X1:Ext io ka H H1)(g:Hv K H1 (io++ka) s1)(e:n ρ s1=some (b,st'))(k:∀f ka,Ext io ka H f->Hv K f (io++ka) st'->Q b f):tT K n σ H1 Q:=⟨ρ,s1,io++ka,b,st',E.ext S X1,g,e,λf kb a c=>k f (ka++kb) (X1.trans g a) (by rw[<-Ao];exact c)⟩
def K8(f:SB X a mt)(g:SW X (.BoolOp .And (b::rs) pos) mu):SW X (.BoolOp .And (a::b::rs) pos) (JD mt mu):=PW.imp (QY f g) <| by
 rintro σ H Q ⟨ρ,st,io,v,st',E,S,e,k⟩;obtain⟨⟨x,s1⟩,o,e⟩:=Hu e;refine⟨ρ,st,io,x,s1,E,S,o,λH1 u c m=>?_⟩;cases x with
 |true=>rw[if_pos rfl];exact eV E S c m e k
 |false=>
  rw[if_neg (by decide)];have h:some (false,s1)=some (v,st'):=e;cases h;exact k H1 u c m
def Mk(f:SB X a mt)(g:SW X (.BoolOp .Or (b::rs) pos) mu):SW X (.BoolOp .Or (a::b::rs) pos) (IL mt mu):=PW.imp (Ut f g) <| by
 rintro σ H Q ⟨ρ,st,io,v,st',E,S,e,k⟩;obtain⟨⟨x,s1⟩,o,e⟩:=Hu e;refine⟨ρ,st,io,x,s1,E,S,o,λH1 u c m=>?_⟩;cases x with
 |false=>rw[if_neg (by decide)];exact eV E S c m e k
 |true=>
  rw[if_pos rfl];have h:some (true,s1)=some (v,st'):=e;cases h;exact k H1 u c m
def JE(m n:ME):ME:=λρ st=>(mT m ρ st).bind λ(b,s)=>if b=true then n ρ s else some (.bl false,s)
def L9(m n:ME):ME:=λρ st=>(mT m ρ st).bind λ(b,s)=>if b=true then some (.bl true,s)else n ρ s
def UX(m:ME):ME:=λρ st=>(mT m ρ st).map λ(b,s)=>(.bl !b,s)
def Vg{n:ME}(E:Hy K H io σ ρ)(S:Hv K H io st)(f:Ext io ka H H1)(g:Hv K H1 (io++ka) s1)(e:n ρ s1=some (d,st'))(k:Bh K io H st' d Q):tE K n σ H1 Q:=⟨ρ,s1,io++ka,d,st',E.ext S f,g,e,k.on g f⟩
def Mo(f:SE X a ma):SE X (.BoolOp .And [a] pos) ma:=bV f
def Tp(f:SE X a ma):SE X (.BoolOp .Or [a] pos) ma:=bV f
def Kx(f:SE X a ma)(g:SE X (.BoolOp .And (b::rs) pos) mb):SE X (.BoolOp .And (a::b::rs) pos) (JE ma mb):=PE.imp (oR f g) <| by
 rintro σ H Q ⟨ρ,st,io,v,st',E,S,e,k⟩;obtain⟨⟨x,s1⟩,o,e⟩:=Hu e;refine⟨ρ,st,io,.bl x,s1,E,S,Ts o,λv1 H1 u c m h=>⟨x,h,?_⟩⟩;cases x with
 |true=>rw[if_pos rfl];exact Vg E S c m e k
 |false=>
  rw[if_neg (by decide)];have i:some (D.bl false,s1)=some (v,st'):=e;cases i;exact k _ H1 u c m rfl
def SK(f:SE X a ma)(g:SE X (.BoolOp .Or (b::rs) pos) mb):SE X (.BoolOp .Or (a::b::rs) pos) (L9 ma mb):=PE.imp (oM f g) <| by
 rintro σ H Q ⟨ρ,st,io,v,st',E,S,e,k⟩;obtain⟨⟨x,s1⟩,o,e⟩:=Hu e;refine⟨ρ,st,io,.bl x,s1,E,S,Ts o,λv1 H1 u c m h=>⟨x,h,?_⟩⟩;cases x with
 |false=>rw[if_neg (by decide)];exact Vg E S c m e k
 |true=>
  rw[if_pos rfl];have i:some (D.bl true,s1)=some (v,st'):=e;cases i;exact k _ H1 u c m rfl
def rF(f:SE X a ma):SE X (.UnaryOp .Not a pos) (UX ma):=PE.imp (oY f) <| by
 rintro σ H Q ⟨ρ,st,io,v,st',E,S,e,k⟩;unfold UX at e;cases c:mT ma ρ st with
 |none=>rw[c]at e;cases e
 |some p=>
  rw[c]at e;cases e;exact⟨ρ,st,io,_,_,E,S,Ts c,λv1 H1 m o u x=>⟨_,x,k _ H1 m o u rfl⟩⟩
def MD(c:MT)(m n:ME):ME:=λρ st=>(c ρ st).bind λ(b,s)=>if b=true then m ρ s else n ρ s
def Vb(f:SB X c mt)(g:SE X a ma)(h:SE X b mb):SE X (.IfExp c a b pos) (MD mt ma mb):=PE.imp (zG f g h) <| by
 rintro σ H Q ⟨ρ,st,io,v,st',E,S,e,k⟩;obtain⟨⟨x,s1⟩,u,e⟩:=Hu e;refine⟨ρ,st,io,x,s1,E,S,u,λH1 i m o=>?_⟩;cases x with
 |true=>rw[if_pos rfl];exact Vg E S m o e k
 |false=>rw[if_neg (by decide)];exact Vg E S m o e k
end
end L2.MP
set_option linter.unusedVariables false
namespace L2.MP
open PySem PySem.Spec PyProof.Rows
variable {X:Cx}{e a b c i o tg iter:PP}{es:List PP}{st1 st2:SZ}{rest body orelse:List SZ}{pos pos':Pos}{m ma mb mc:ME}{mt mu:MT}{mm:MA}{ms mq mr:MS}{mg:MG}{mgs:OO}{K:Ac}{H H1 H2:Hp}{io ka kb:List Addr}{st st' s1:Hf}{α:Type}{x:Str}{ds:List D}{vs:List V}{Q:VK}{p:Addr}{σ:L2.St}{T:String}{k n:Nat}{f:Fl}{fd:FuncData}{ρ:HX}{N:Ends}
def mZ:MA:=λ_ st=>some ([],st)
def Hc(m:ME)(mm:MA):MA:=λρ st=>(m ρ st).bind λ(x,s1)=>(mm ρ s1).bind λ(xs,s2)=>some (x::xs,s2)
def Hk:SA X [] mZ:=PA.imp bE <| by
 rintro σ H Q ⟨ρ,st,io,ds,st',E,S,e,k⟩;cases e;exact k [] H [] Ext.refl S.nil Hh.nil
def Hg(g:SE X e m)(h:SA X es mm)(j:Qqb X.env e es:=by rfl):SA X (e::es) (Hc m mm):=PA.imp (XN g h j) <| by rintro σ H Q ⟨ρ,st,io,ds,st',E,S,e,k⟩;obtain⟨⟨x,s1⟩,i,e⟩:=Hu e;obtain⟨⟨xs,s2⟩,n,e⟩:=Hu e;cases e;refine⟨ρ,st,io,x,s1,E,S,i,λv1 H1 c X1 a R1=>⟨ρ,s1,io++c,xs,_,E.ext S X1,a,n,λvs H2 o f u R2=>?_⟩⟩;exact k _ H2 (c++o) (X1.trans a f) (by rw[<-Ao];exact u) (by rw[<-Ao];exact Hh.cons (R1.ext a f) R2)
def fits(n:Nat):Bool:=decide (n<=sizeLine)
def mU(mm:MA):ME:=λρ st=>(mm ρ st).bind λ(xs,s)=>if fits xs.length=true then some (.tup xs,s)else none
def mL(mm:MA):ME:=λρ st=>(mm ρ st).bind λ(xs,s)=>if fits xs.length=true then some (.ref s.length,s++[.lst xs])else none
def JJ{c:Prop}[Decidable c]{x:Option α}{y:α}(h:(if c then x else none)=some y):c/\x=some y:=by
 by_cases hc:c
 ·rw[if_pos hc]at h;exact⟨hc,h⟩
 rw[if_neg hc]at h;cases h
def Bh.tup{ds:List D}{vs:List V}{Q:VK}{p:Addr}(k:Bh K io H st (.tup ds) Q)(S:Hv K H io st)(R:Hh K H io vs ds)(g:H p=none):Q (.ref p) (upd H p<|.tup vs):=by obtain⟨E,a⟩:=Tv (o:=.tup vs) S g;refine k _ _ [] E a ⟨p,vs,rfl,KQ,R.ext S E⟩
def getElem?_len(l:List α)(x:α):(l++[x])[l.length]?=some x:=by rw[AU (Ah _),CP];rfl
def Bh.lst{ds:List D}{vs:List V}{Q:VK}{p:Addr}(k:Bh K io H (st++[.lst ds]) (.ref st.length) Q)(S:Hv K H io st)(R:Hh K H io vs ds)(g:H p=none):Q (.ref p) (upd H p<|.lst vs):=by obtain⟨E,a⟩:=Tg (o:=.lst vs) (ob:=.lst ds) S g λc T e=>⟨vs,e,Hh.mono T R⟩;exact k _ _ [p] E a ⟨p,rfl,by rw[<-S.len];exact getElem?_len io p⟩
def Kn{x1}(h:SA X es mm):SE X (.Tuple es x1 pos) (mU mm):=PE.imp (oZ h) <| by rintro σ H Q ⟨ρ,st,io,d,st',E,S,e,k⟩;obtain⟨⟨xs,s1⟩,c,e⟩:=Hu e;obtain⟨hf,e⟩:=JJ e;cases e;refine⟨ρ,st,io,xs,_,E,S,c,λvs H1 m f a R1=>⟨by rw[R1.length];exact of_decide_eq_true hf,λp i=>(k.on a f).tup a R1 i⟩⟩
def K7(h:SA X es mm):SE X (.List es pos) (mL mm):=PE.imp (oW h) <| by rintro σ H Q ⟨ρ,st,io,d,st',E,S,e,k⟩;obtain⟨⟨xs,s1⟩,c,e⟩:=Hu e;obtain⟨hf,e⟩:=JJ e;cases e;refine⟨ρ,st,io,xs,_,E,S,c,λvs H1 m f a R1=>⟨by rw[R1.length];exact of_decide_eq_true hf,λp i=>(k.on a f).lst a R1 i⟩⟩
noncomputable abbrev GN:=List D->Hf->Option (D×Hf)
inductive kO (K:Ac) (g:GN) (xs:List V) (H:Hp) (Q:VK):Prop
 |mk (ds:List D) (st:Hf) (io:List Addr) (d:D) (st':Hf) (h1:Hh K H io xs ds) (h2:Hv K H io st) (h3:g ds st=some (d,st')) (h4:Bh K io H st' d Q)
def Kz(X:Cx)(f:GM)(g:GN):Prop:=NL X f<|kO X.K g
def Hi(g:GN)(mm:MA):ME:=λρ st=>(mm ρ st).bind λ(xs,s)=>g xs s
def iX{g:GN}(h:tE K (Hi g mm) σ H Q):ZD (kO K g) (tA K mm) σ H Q:=by obtain⟨ρ,st,io,d,st',E,S,e,k⟩:=h;obtain⟨⟨xs,s1⟩,c,e⟩:=Hu e;exact⟨ρ,st,io,xs,s1,E,S,c,λvs H1 f i a m=>⟨xs,s1,io++f,d,st',m,a,e,k.on a i⟩⟩
def fQ{p:Pos}{id:String}{g:GN}(q:Kz X (.builtin id) g)(r:Gl X x)(hm:X.mg x=none)(s:UF x=some (.builtin id))(v:SA X (e::es) mm)(w:x≠"__name__":=by decide)(j:(x==("__debug__":Str))=false:=by decide)(he:Qqb X.env e es:=by rfl) (l:Qqc pos es X.env:=by rfl):SE X (.Call (.Name x p) (e::es) [] pos) (Hi g mm):=
 PE.imp (fC q r hm s v w j he l) λ_ _ _ h=>iX h
def zmf{p:Pos}{g:GN}(q:Kz X (.type T) g)(r:Gl X x)(hm:X.mg x=none)(s:UF x=some (.type T))(v:SA X (e::es) mm)(w:x≠"__name__":=by decide)(j:(x==("__debug__":Str))=false:=by decide)(he:Qqb X.env e es:=by rfl) (l:Qqc pos es X.env:=by rfl):SE X (.Call (.Name x p) (e::es) [] pos) (Hi g mm):=
 PE.imp (zmr q r hm s v w j he l) λ_ _ _ h=>iX h
def Qj(K:Ac)(n:Nat)(g:GN):Sp:=λvs H Q _=>∃ds st io d st',vs.length=n/\Hh K H io vs ds/\Hv K H io st/\g ds st=some (d,st')/\Bh K io H st' d Q
def wG{p:Pos}{f:Addr}{ps:List Str}{g:GN}(F:Ja X.prog X.w X.K X.mg X.base Lu k f fd ps (Qj X.K n g))(l:HK k X.A)(q:Gl X x)(hm:X.mg x=some (.ref f))(hk:BH X.K (.ref f)=true)(r:Binds X.K fd ps [])(v:SA X (e::es) mm) (h:(x==("__debug__":Str))=false:=by decide) (he:Qqb X.env e es:=by rfl) (j:Qqc pos es X.env:=by rfl) (z:(e::es).length=n:=by rfl)(y:∀ρ st xs s,mm ρ st=some (xs,s)->xs.length=n):
  SE X (.Call (.Name x p) (e::es) [] pos) (Hi g mm):=PE.imp (cF F l q hm hk r .nil aF v h he j) <| by
 rintro σ H Q ⟨ρ,st,io,d,st',E,S,e,k⟩;obtain⟨⟨xs,s1⟩,a,e⟩:=Hu e;refine⟨ρ,st,io,xs,s1,E,S,a,λvs H1 i m c R1=>⟨xs,s1,io++i,d,st',?_,?_,c,e,k.on c m⟩⟩
 ·rw[Am,R1.length];exact y _ _ _ _ a
 rw[Am];exact R1
def zX{xs:List D}{s:Hf}(h:mZ ρ st=some (xs,s)):xs.length=0:=by cases h;rfl
def zmH{ρ:HX}{st:Hf}{xs:List D}{s:Hf}(g:∀ρ st xs s,mm ρ st=some (xs,s)->xs.length=n)(h:Hc m mm ρ st=some (xs,s)):xs.length=n+1:=by obtain⟨⟨x,s1⟩,c,e⟩:=Hu h;obtain⟨⟨f,s2⟩,a,e⟩:=Hu e;cases e;rw[AB,g _ _ _ _ a]
def Wn(K:Ac)(io:List Addr)(H:Hp)(st':Hf)(N:Ends):Fl->Prop
 |.nx ρ'=>∀σ' g ka,Ext io ka H g->Hv K g (io++ka) st'->Hy K g (io++ka) σ' ρ'->N.nx σ' g
 |.bk ρ'=>∀σ' g ka,Ext io ka H g->Hv K g (io++ka) st'->Hy K g (io++ka) σ' ρ'->N.bk σ' g
 |.ct ρ'=>∀σ' g ka,Ext io ka H g->Hv K g (io++ka) st'->Hy K g (io++ka) σ' ρ'->N.ct σ' g
 |.rt d=>Bh K io H st' d N.rt
inductive tSi (K:Ac) (m:MS) (N:Ends) (σ:L2.St) (H:Hp):Prop
 |mk (ρ:HX) (st:Hf) (io:List Addr) (f:Fl) (st':Hf) (h1:Hy K H io σ ρ) (h2:Hv K H io st) (h3:m ρ st=some (f,st')) (h4:Wn K io H st' N f)
def Mr:tS K ms N σ H ↔ tSi K ms N σ H:=by
 constructor
 ·rintro⟨ρ,st,io,f,st',E,S,e,k⟩;exact⟨ρ,st,io,f,st',E,S,e,by cases f<;>exact k⟩
 rintro⟨ρ,st,io,f,st',E,S,e,k⟩;exact⟨ρ,st,io,f,st',E,S,e,by cases f<;>exact k⟩
def Qc{P:L2.St->Hp->Prop}{ρ':HX}(h:∀σ' g ka,Ext io ka H g->Hv K g (io++ka) st'->Hy K g (io++ka) σ' ρ'->P σ' g)(X1:Ext io ka H H1)(j:Hv K H1 (io++ka) st):
  ∀σ' g kb,Ext (io++ka) kb H1 g->Hv K g ((io++ka)++kb) st'->Hy K g ((io++ka)++kb) σ' ρ'->P σ' g:=λσ' g kb a c e=>
 h σ' g (ka++kb) (X1.trans j a) (by rw[<-Ao];exact c) (by rw[<-Ao];exact e)
def Wn.on{N:Ends}{f:Fl}(h:Wn K io H st' N f)(g:Ext io ka H H1)(j:Hv K H1 (io++ka) st):Wn K (io++ka) H1 st' N f:=by
 cases f with
 |nx ρ'=>exact Qc h g j
 |bk ρ'=>exact Qc h g j
 |ct ρ'=>exact Qc h g j
 |rt d=>exact Bh.on h j g
def Pn(E:Hy K H io σ ρ)(S:Hv K H io st)(e:ms ρ st=some (f,st'))(w:Wn K io H st' N f):tS K ms N σ H:=Mr.mpr ⟨ρ,st,io,f,st',E,S,e,w⟩
def WZ(h:Ext io ka H H1)(g:Hv K H1 (io++ka) s1)(E:Hy K H1 (io++ka) σ ρ)(e:ms ρ s1=some (f,st'))(w:Wn K io H st' N f):tS K ms N σ H1:=Pn E g e (w.on h g)
def IH:MS:=λρ st=>some (.nx ρ,st)
def RU:LI X [] IH:=K1.imp vR λN σ H h=>by obtain⟨ρ,st,io,f,st',E,S,e,w⟩:=Mr.mp h;cases e;exact w σ H [] Ext.refl S.nil (by rw[Am];exact E)
def mS(m n:MS):MS:=λρ st=>(m ρ st).bind λ(f,s)=>match f with
 |.nx ρ1=>n ρ1 s
 |f=>some (f,s)
def yU(g:SS X st1 ms)(j:LI X rest mq):LI X (st1::rest) (mS ms mq):=K1.imp (fW g j) λN σ H h=>by
 obtain⟨ρ,st,io,f,st',E,S,e,w⟩:=Mr.mp h;obtain⟨⟨f1,s1⟩,a,e⟩:=Hu e;refine Pn E S a ?_;cases f1 with
 |nx ρ1=>exact λσ' n ka c i m=>WZ c i m e w
 |bk ρ1=>cases e;exact w
 |ct ρ1=>cases e;exact w
 |rt d=>cases e;exact w
def vC(g:SS X st1 ms):LI X [st1] ms:=Ya g
def Li(m:ME):MS:=λρ st=>(m ρ st).map λ(_,s)=>(.nx ρ,s)
def mR(m:ME):MS:=λρ st=>(m ρ st).map λ(d,s)=>(.rt d,s)
def ID{β:Type}{x:Option α}{f:α->β}{y:β}(h:x.map f=some y):∃z,x=some z/\f z=y:=by
 cases x with
 |none=>cases h
 |some z=>exact⟨z,rfl,As h⟩
def TJ(he:SE X e m)(g:swapsWith e none pos.line X.env=pure false:=by rfl):SS X (.Expr e pos) (Li m):=PS.imp (vQ he g) λN σ H h=>by obtain⟨ρ,st,io,f,st',E,S,e,w⟩:=Mr.mp h;obtain⟨⟨d,s1⟩,c,e⟩:=ID e;cases e;exact⟨ρ,st,io,d,_,E,S,c,λv i ka a n o=>w σ i ka a n (E.ext S a)⟩
def Ir(he:SE X e m):SS X (.Return (some e) pos) (mR m):=PS.imp (pM he) λN σ H h=>by obtain⟨ρ,st,io,f,st',E,S,e,w⟩:=Mr.mp h;obtain⟨⟨d,s1⟩,a,e⟩:=ID e;cases e;exact⟨ρ,st,io,d,_,E,S,a,w⟩
def Ih(c:MT)(m n:MS):MS:=λρ st=>(c ρ st).bind λ(b,s)=>if b=true then m ρ s else n ρ s
def nN(g:SB X c mt)(j:LI X body ms)(l:LI X orelse mq):SS X (.If c body orelse pos) (Ih mt ms mq):=PS.imp (aG g j l) λN σ H h=>by
 obtain⟨ρ,st,io,f,st',E,S,e,w⟩:=Mr.mp h;obtain⟨⟨x,s1⟩,m,e⟩:=Hu e;refine⟨ρ,st,io,x,s1,E,S,m,λH1 n a i=>?_⟩;cases x with
 |true=>rw[if_pos rfl];exact WZ a i (E.ext S a) e w
 |false=>rw[if_neg (by decide)];exact WZ a i (E.ext S a) e w
def Ho(i:Nat):MG:=λd ρ st=>some (ρ.set i (some d),st)
def uV{i:Nat}(g:X.N.Nodup)(hi:X.N[i]?=some x)(h:Loc X.env.scope x)(hf:X.fn x=true\/X.env.scope.names.lookup x=some .local:=by first|exact .inl rfl|exact .inr rfl|assumption):SG X (.Name x pos) (Ho i):=PG.imp (wK g hi h hf) <| by rintro v σ H Q ⟨d,ρ,st,io,ρ',st',R,E,S,e,k⟩;cases e;exact k _ H [] Ext.refl S.nil (by rw[Am];exact E.set i R)
def Lo:OO:=λds ρ st=>match ds with
 |[]=>some (ρ,st)
 |_=>none
def gC(g:MG)(h:OO):OO:=λds ρ st=>match ds with
 |d::r=>(g d ρ st).bind λ(ρ1,s1)=>h r ρ1 s1
 |[]=>none
def Qe:UO X [] Lo:=OK.imp wL <| by
 rintro v σ H Q ⟨ds,ρ,st,io,ρ',st',R,E,S,e,k⟩;cases ds with
 |nil=>cases e;exact⟨R,k σ H [] Ext.refl S.nil (by rw[Am];exact E)⟩
 |cons d r=>cases e
def Le(g:SG X e mg)(h:UO X es mgs)(j:(assignEach (e::es) X.env).map (·.2)=assign e X.env::(assignEach es X.env).map (·.2):=by rfl):UO X (e::es) (gC mg mgs):=
 OK.imp (zH g h j) <| by
  rintro v σ H Q ⟨ds,ρ,st,io,ρ',st',R,E,S,e,k⟩;cases ds with
  |nil=>cases e
  |cons d r=>
   obtain⟨y,f,rfl,i,rs⟩:=R;obtain⟨⟨ρ1,s1⟩,m,e⟩:=Hu e;refine⟨y,f,rfl,d,ρ,st,io,ρ1,s1,i,E,S,m,λσ1 H1 n a c o=>?_⟩;exact⟨r,ρ1,s1,io++n,ρ',st',rs.ext S a,o,c,e,Qc k a c⟩
def LP(n:Nat)(h:OO):MG:=λd ρ st=>match d with
 |.tup ds=>if ds.length=n then h ds ρ st else none
 |_=>none
def Qy(j:X.calm=true)(h:UO X es mgs)(l:(assignEach es X.env).length=n:=by rfl)(g:(assignEach es X.env).findIdx? (·.1)=none:=by rfl):SG X (.Tuple es k pos) (LP n mgs):=
 PG.imp (pC j h l g) <| by
  rintro v σ H Q ⟨d,ρ,st,io,ρ',st',R,E,S,e,k⟩;cases d with
  |tup ds=>
   obtain⟨a,xs,rfl,c,rs⟩:=R;obtain⟨f,e⟩:=JJ e;exact⟨a,xs,rfl,Jg.of c,by rw[rs.length];exact f,ds,ρ,st,io,ρ',st',rs,E,S,e,k⟩
  |_=>cases e
noncomputable abbrev G3:=D->D->D->Hf->Option Hf
inductive Ul (K:Ac) (g:G3) (o i v:V) (H:Hp) (Q:Hp->Prop):Prop
 |mk (d1 d2 d3:D) (st:Hf) (io:List Addr) (st':Hf) (h0:Rep K H io o d1) (h1:Rep K H io i d2) (h2:Rep K H io v d3) (h3:Hv K H io st) (h4:g d1 d2 d3 st=some st') (h5:∀H' ka,Ext io ka H H'->Hv K H' (io++ka) st'->Q H')
def UN(X:Cx)(g:G3):Prop:=Rj X<|Ul X.K g
def Q8(g:G3)(mo h:ME):MG:=λd ρ st=>(mo ρ st).bind λ(o,s1)=>(h ρ s1).bind λ(i,s2)=>(g o i d s2).map λs3=>(ρ,s3)
def rG{mo l:ME}{g:G3}(q:SE X o mo)(hi:SE X i l)(r:UN X g)(s:∀v,assign (.Subscript o i pos) X.env v=(do
   let h <-holding [v] (UV o X.env)
   let j <-holding [v,h] (UV i X.env)
   standAt pos
   holding [v,h,j] (setItem h j v)
   release [v,h,j] []):=by intro _;rfl):SG X (.Subscript o i pos) (Q8 g mo l):=
 PG.imp (pB q hi r s) <| by rintro v σ H Q ⟨d,ρ,st,io,ρ',st',R,E,S,e,k⟩;obtain⟨⟨x,s1⟩,T,e⟩:=Hu e;obtain⟨⟨y,s2⟩,w,e⟩:=Hu e;obtain⟨s3,z,e⟩:=ID e;cases e;refine⟨ρ,st,io,x,s1,E,S,T,λv1 H1 a X1 c R1=>⟨ρ,s1,io++a,y,s2,E.ext S X1,c,w,λv2 H2 m n f R2=>?_⟩⟩;have X12:=X1.trans c n;refine⟨x,y,d,s2,(io++a)++m,_,R1.ext c n,R2,(R.ext S X1).ext c n,f,z,λA B u N=>?_⟩;rw[Ao]at u f;rw[Ao,Ao]at N;refine k σ A ((a++m)++B) (X12.trans f u) (by simpa using N) ?_;have E2:Hy X.K H2 (io++(a++m)) σ ρ:=E.ext S X12;have:=E2.ext f u;simpa using this
def Hm(m:ME)(g:MG):MS:=λρ st=>(m ρ st).bind λ(d,s1)=>(g d ρ s1).map λ(ρ',s2)=>(.nx ρ',s2)
def znf(h:tS K (Hm m mg) N σ H):QW (tE K m) (tG K mg) N σ H:=by obtain⟨ρ,st,io,f,st',E,S,e,w⟩:=Mr.mp h;obtain⟨⟨x,s1⟩,i,e⟩:=Hu e;obtain⟨⟨ρ',s2⟩,n,e⟩:=ID e;cases e;exact⟨ρ,st,io,x,s1,E,S,i,λv1 H1 o a c u=>⟨x,ρ,s1,io++o,ρ',_,u,E.ext S a,c,n,Qc w a c⟩⟩
def Vj(he:SE X e m)(g:SG X tg mg)(j:swapsWithSole [tg] e pos.line X.env=pure false:=by rfl)(hw:swappedStores [tg] e X.env=pure none:=by rfl)(l:(assignEach [tg] X.env).map (·.2)=[assign tg X.env]:=by rfl):SS X (.Assign [tg] e pos) (Hm m mg):=PS.imp (pG he g j hw l) λ_ _ _ h=>znf h
def rP{i:Nat}(g:X.N.Nodup)(hi:X.N[i]?=some x)(j:Loc X.env.scope x)(he:SE X e m)(l:swapsWith e (some<|.Name x pos') pos.line X.env=pure false:=by rfl)(hf:X.fn x=true\/X.env.scope.names.lookup x=some .local:=by first|exact .inl rfl|exact .inr rfl|assumption):
  SS X (.Assign [.Name x pos'] e pos) (Hm m<|Ho i):=PS.imp (bP g hi j he l hf) λN σ H h=>by
 obtain⟨ρ,st,io,f,st',E,S,e,w⟩:=Mr.mp h;obtain⟨⟨x,s1⟩,c,e⟩:=Hu e;obtain⟨⟨ρ',s2⟩,n,e⟩:=ID e;cases e;cases n;exact⟨ρ,st,io,x,_,E,S,c,λv1 H1 o a u K=>w _ H1 o a u ((E.ext S a).set i K)⟩
structure Wk where
 ds:List D
 g:List (Nat×List D)
def stays(W:Wk)(st:Hf):Prop:=∀p,p∈W.g->st[p.1]?=some (.lst p.2)\/st[p.1]?=some (.fz p.2)
structure MQ(K:Ac)(H0:Hp)(io:List Addr)(W:Wk)(J:It):Prop where
 go:∀i d H ka st,W.ds[i]?=some d->Ext io ka H0 H->Hv K H (io++ka) st->stays W st->J.go i H/\∀x H',J.yld i H x H'->Ext (io++ka) [] H H'/\Hv K H' (io++ka) st/\Rep K H' (io++ka) x d
 stop:∀H ka st,Ext io ka H0 H->Hv K H (io++ka) st->stays W st->J.stop W.ds.length H
 stop':∀H ka st i,W.ds.length<=i->Ext io ka H0 H->Hv K H (io++ka) st->stays W st->J.stop i H
noncomputable abbrev MI:=HX->Hf->Option (Wk×Hf)
inductive tI (K:Ac) (m:MI) (σ:L2.St) (H:Hp) (R:It->Hp->Prop):Prop
 |mk (ρ:HX) (st:Hf) (io:List Addr) (W:Wk) (st':Hf) (h1:Hy K H io σ ρ) (h2:Hv K H io st) (h3:m ρ st=some (W,st')) (h4:∀J H' ka,Ext io ka H H'->Hv K H' (io++ka) st'->MQ K H' (io++ka) W J->R J H')
def SI(X:Cx)(tg iter:PP)(m:MI):Prop:=PI X tg iter<|tI X.K m
def PI.imp{t u:TI}(h:PI X tg iter t)(k:∀σ H R,u σ H R->t σ H R):PI X tg iter u:=λa s σ H R I q=>h a s σ H R I<|k σ H R q
mutual
def D.eqb:D->D->Bool
 |.non,.non=>true
 |.bl a,.bl b=>a==b
 |.int a,.int b=>decide (a=b)
 |.str a,.str b=>decide (a=b)
 |.tup a,.tup b=>D.eqbs a b
 |.ref a,.ref b=>decide (a=b)
 |.kl a,.kl b=>D.eqbs a b
 |.fn a,.fn b=>decide (a=b)
 |.er a b c,.er a2 b2 g=>decide (a=a2/\b=b2/\c=g)
 |_,_=>false
def D.eqbs:List D->List D->Bool
 |[],[]=>true
 |a::as,b::bs=>D.eqb a b&&D.eqbs as bs
 |_,_=>false
end
mutual
theorem D.eqb_refl:∀a:D,D.eqb a a=true
 |.non=>rfl
 |.bl a=>by simp[D.eqb]
 |.int a=>by simp[D.eqb]
 |.str a=>by simp[D.eqb]
 |.tup a=>by rw[D.eqb];exact D.eqbs_refl a
 |.ref a=>by simp[D.eqb]
 |.kl a=>by rw[D.eqb];exact D.eqbs_refl a
 |.fn a=>by simp[D.eqb]
 |.er a b c=>by simp[D.eqb]
theorem D.eqbs_refl:∀a:List D,D.eqbs a a=true
 |[]=>rfl
 |a::as=>by rw[D.eqbs,D.eqb_refl a,D.eqbs_refl as];rfl
end
mutual
theorem D.eq_of:∀{a b:D},D.eqb a b=true->a=b
 |.non,b,h=>by cases b<;>simp[D.eqb]at h ⊢
 |.bl a,b,h=>by cases b<;>simp[D.eqb]at h ⊢;exact h
 |.int a,b,h=>by cases b<;>simp[D.eqb]at h ⊢;exact h
 |.str a,b,h=>by cases b<;>simp[D.eqb]at h ⊢;exact h
 |.tup a,.tup b,h=>by rw[D.eqb]at h;rw[D.eqs_of h]
 |.tup a,.non,h=>by simp[D.eqb]at h
 |.tup a,.bl _,h=>by simp[D.eqb]at h
 |.tup a,.int _,h=>by simp[D.eqb]at h
 |.tup a,.str _,h=>by simp[D.eqb]at h
 |.tup a,.ref _,h=>by simp[D.eqb]at h
 |.tup a,.kl _,h=>by simp[D.eqb]at h
 |.tup a,.fn _,h=>by simp[D.eqb]at h
 |.tup a,.er _ _ _,h=>by simp[D.eqb]at h
 |.kl a,.kl b,h=>by rw[D.eqb]at h;rw[D.eqs_of h]
 |.kl a,.non,h=>by simp[D.eqb]at h
 |.kl a,.bl _,h=>by simp[D.eqb]at h
 |.kl a,.int _,h=>by simp[D.eqb]at h
 |.kl a,.str _,h=>by simp[D.eqb]at h
 |.kl a,.ref _,h=>by simp[D.eqb]at h
 |.kl a,.tup _,h=>by simp[D.eqb]at h
 |.kl a,.fn _,h=>by simp[D.eqb]at h
 |.kl a,.er _ _ _,h=>by simp[D.eqb]at h
 |.fn a,b,h=>by cases b<;>simp[D.eqb]at h ⊢;exact h
 |.er a b c,d,h=>by cases d<;>simp[D.eqb]at h ⊢;exact h
 |.ref a,b,h=>by cases b<;>simp[D.eqb]at h ⊢;exact h
theorem D.eqs_of:∀{a b:List D},D.eqbs a b=true->a=b
 |[],[],_=>rfl
 |[],_::_,h=>by simp[D.eqbs]at h
 |_::_,[],h=>by simp[D.eqbs]at h
 |a::as,b::bs,h=>by rw[D.eqbs,Ag]at h;rw[D.eq_of h.1,D.eqs_of h.2]
end
noncomputable instance:DecidableEq D:=λa b=>if h:D.eqb a b=true then .isTrue (D.eq_of h)else .isFalse λe=>h (by rw[e];exact D.eqb_refl b)
def SY(st:Hf)(n:Nat)(ds:List D):Bool:=match st[n]? with
 |some (.lst xs)=>D.eqbs xs ds
 |some (.fz xs)=>D.eqbs xs ds
 |_=>false
def zmT(h:SY st n ds=true):st[n]?=some (.lst ds)\/st[n]?=some (.fz ds):=by
 unfold SY at h;split at h
 ·rename_i xs e;rw[D.eqs_of h]at e;exact .inl e
 ·rename_i xs e;rw[D.eqs_of h]at e;exact .inr e
 ·cases h
def zld(h:st[n]?=some (.lst ds)):SY st n ds=true:=by unfold SY;rw[h];exact D.eqbs_refl ds
variable {mi:MI}{W:Wk}
def walked(W:Wk)(st:Hf):Bool:=W.g.all λp=>SY st p.1 p.2
def T8(h:walked W st=true):stays W st:=λp o=>zmT<|List.all_eq_true.mp h p o
def Ld(W:Wk)(g:MG)(m:MS):List D->HX->Hf->Option (Fl×Hf)
 |[],ρ,st=>if walked W st=true then some (.nx ρ,st)else none
 |d::ds,ρ,st=>if walked W st=true then(g d ρ st).bind λ(ρ1,s1)=>(m ρ1 s1).bind λ(f,s2)=>match f with
  |.nx ρ2=>Ld W g m ds ρ2 s2
  |.ct ρ2=>Ld W g m ds ρ2 s2
  |.bk ρ2=>some (.nx ρ2,s2)
  |.rt d=>some (.rt d,s2)else none
def mF(mi:MI)(g:MG)(m:MS):MS:=λρ st=>(mi ρ st).bind λ(W,s)=>Ld W g m W.ds ρ s
def rM(Y:PassesOwn (IR X.prog X.w) X.A X.env X.xe)(Z:X.calm=true)(hi:SI X tg iter mi)(hg:SG X tg g)(hb:LI X body ms)(hs:∀x,foldedSetIterable iter X.env x=pure x:=by intro _;rfl):SS X (.For tg iter body [] pos) (mF mi g ms):=PS.imp (pJ Y Z hi hg hb hs) λN σ H h=>by
 obtain⟨ρ,st,io,f,st',E,S,e,w⟩:=Mr.mp h;obtain⟨⟨W,s1⟩,e1,e⟩:=Hu e;refine⟨ρ,st,io,W,s1,E,S,e1,λJ H1 o m q IO=>?_⟩;refine⟨λi n σ2 H2=>n=W.ds.length-i/\∃ρ2 s2 u,Ext (io++o) u H1 H2/\Hv X.K H2 ((io++o)++u) s2/\Hy X.K H2 ((io++o)++u) σ2 ρ2/\Ld W g ms (W.ds.drop i) ρ2 s2=some (f,st'),
  ⟨_,rfl,ρ,s1,[],Ext.refl,by rw[Am];exact q,by rw[Am];exact E.ext S m,by rw[DF];exact e⟩,?_⟩
 rintro i n σ2 H2 ⟨rfl,ρ2,s2,u,X2,S2,E2,Q⟩;have w2:Wn X.K ((io++o)++u) H2 st' N f:=(w.on m q).on X2 S2;cases hd:W.ds[i]? with
 |none=>
  have r:W.ds.length<=i:=List.getElem?_eq_none_iff.mp hd;rw[Ey r]at Q;obtain⟨hw,Q⟩:=JJ Q;cases Q;refine .inl ⟨?_,w2 σ2 H2 [] Ext.refl S2.nil (by rw[Am];exact E2)⟩
  by_cases hi:i=W.ds.length
  ·rw[hi];exact IO.stop H2 u _ X2 S2 (T8 hw)
  exact IO.stop' H2 u _ i r X2 S2 (T8 hw)
 |some d=>
  have r:i<W.ds.length:=(KB.mp hd).1;have B:W.ds.drop i=d::W.ds.drop (i+1):=by rw[DX r,(KB.mp hd).2]
  rw[B]at Q;obtain⟨hw,Q⟩:=JJ Q;obtain⟨⟨ρ3,s3⟩,e3,Q⟩:=Hu Q;obtain⟨⟨f4,s4⟩,e4,Q⟩:=Hu Q;obtain⟨go,yl⟩:=IO.go i d H2 u s2 hd X2 S2 (T8 hw);refine .inr ⟨go,λσ5 s=>∃ρ5 s5 a,Ext (io++o) a H1 s/\Hv X.K s ((io++o)++a) s5/\Hy X.K s ((io++o)++a) σ5 ρ5/\Ld W g ms (W.ds.drop (i+1)) ρ5 s5=some (f,st'),
   λσ5 s h5=>⟨W.ds.length-(i+1),by omega,rfl,h5⟩,λx G y=>?_⟩
  obtain⟨I,v,R3⟩:=yl x G y;have X23:Ext (io++o) u H1 G:=(X2.trans S2 I).app;refine⟨d,ρ2,s2,(io++o)++u,ρ3,s3,R3,?_,v,e3,λσ6 L j C z E6=>?_⟩
  ·have:=E2.ext S2 I;rw[Am]at this;exact this
  ·refine Pn E6 z e4 ?_;have X26:=X23.trans v C;have F:Hv X.K L ((io++o)++(u++j)) s3:=by rw[<-Ao];exact z
   have fin:∀{ρ7:HX},Ld W g ms (W.ds.drop (i+1)) ρ7 s4=some (f,st')->∀σ7 c l,Ext ((io++o)++u++j) l L c->Hv X.K c ((io++o)++u++j++l) s4->Hy X.K c ((io++o)++u++j++l) σ7 ρ7 ->
     ∃ρ5 s5 a,Ext (io++o) a H1 c/\Hv X.K c ((io++o)++a) s5/\Hy X.K c ((io++o)++a) σ7 ρ5/\Ld W g ms (W.ds.drop (i+1)) ρ5 s5=some (f,st'):=by
    intro ρ7 e7 σ7 c l M T U;rw[Ao (io++o)]at M;rw[Ao (io++o),Ao (io++o)]at T U;exact⟨ρ7,s4,(u++j)++l,X26.trans F M,T,U,e7⟩
   cases f4 with
   |nx ρ7=>exact fin Q
   |ct ρ7=>exact fin Q
   |bk ρ7=>
    cases Q;exact((w.on m q).on X23 v).on C z
   |rt dd=>
    cases Q;exact((w.on m q).on X23 v).on C z
variable {xs:List V}{l:PP}{d:D}
def RZ{x:D}{xs:List D}{s s2:Hf}(a:m ρ s=some (x,s1))(c:mm ρ s1=some (xs,s2)):Hc m mm ρ s=some (x::xs,s2):=by unfold Hc;rw[a];show GH (mm ρ s1) _=_;rw[c];rfl
def Il(st:Hf)(n:Nat):Option (List D):=match st[n]? with
 |some (.lst ds)=>some ds
 |some (.fz ds)=>some ds
 |_=>none
def LX(S:Hv K H io st)(a:io[n]?=some p)(h:Il st n=some ds):∃xs,Kf K H p xs/\Hh K H io xs ds:=by
 unfold Il at h;split at h
 ·rename_i o he;cases h;obtain⟨xs,e,r⟩:=S.ob n p _ a he;exact⟨xs,Kf.of e,r⟩
 ·rename_i o he;cases h;obtain⟨ob,xs,e,r⟩:=S.ob n p _ a he;exact⟨xs,.inl<|.inr ⟨ob,e⟩,r⟩
 ·cases h
def Y7(hm:(n,ds)∈W.g)(h:stays W st):Il st n=some ds:=by
 unfold Il;rcases h _ hm with h|h
 ·have h:st[n]?=some (.lst ds):=h;rw[h]
 have h:st[n]?=some (.fz ds):=h;rw[h]
def kR(m:ME):MI:=λρ st=>(m ρ st).bind λ(d,s)=>match d with
 |.ref n=>(Il s n).map λds=>(⟨ds,[(n,ds)]⟩,s)
 |_=>none
def kP(m:ME):MI:=λρ st=>(m ρ st).bind λ(d,s)=>match d with
 |.tup ds=>some (⟨ds,[]⟩,s)
 |_=>none
def QN(h:io[n]?=some p):(io++ka)[n]?=some p:=by rw[AL (KB.mp h).1];exact h
def pV(a:io[n]?=some p):MQ K H io ⟨ds,[(n,ds)]⟩ (G1 K p) where
 go:=λi d H1 Q s hd W l u=>by obtain⟨xs,o,r⟩:=LX l (QN a)<|Y7 Al u;obtain⟨v,c,f⟩:=r.get hd;refine⟨⟨xs,v,o,c⟩,λx h y=>?_⟩;obtain⟨rfl,y⟩:=y;have e:=y xs o;rw[c]at e;cases e;exact⟨Ext.refl,l,f⟩
 stop:=λH1 Q s W l u=>by obtain⟨xs,o,r⟩:=LX l (QN a)<|Y7 Al u;exact⟨xs,o,by rw[r.length];exact Ah _⟩
 stop':=λH1 Q s i g W l u=>by obtain⟨xs,o,r⟩:=LX l (QN a)<|Y7 Al u;exact⟨xs,o,by rw[r.length];exact g⟩
def uY(a:SE X l m):SI X tg l (kR m):=PI.imp (wM a) <| by
 rintro σ H R ⟨ρ,st,io,W,st',E,S,e,k⟩;obtain⟨⟨d,s1⟩,x,e⟩:=Hu e;dsimp only at e;split at e
 ·rename_i n;obtain⟨ds,Q,e⟩:=ID e;cases e;refine⟨ρ,st,io,_,_,E,S,x,λv H1 c f o g=>?_⟩;obtain⟨p,rfl,u⟩:=g;obtain⟨xs,h,r⟩:=LX o u Q;exact⟨p,rfl,⟨xs,h⟩,k _ H1 c f o<|pV u⟩
 ·cases e
def pW(S:Hv K H io st)(a:H p=some (.tup xs))(r:Hh K H io xs ds):MQ K H io ⟨ds,[]⟩ (G0 K p) where
 go:=λi d H1 o s hd X1 l u=>by obtain⟨v,Q,c⟩:=(r.ext S X1).get hd;have W:Jg K H1 p xs:=Jg.of<|X1.sqT S p xs a;refine⟨⟨xs,v,W,Q⟩,λx g y=>?_⟩;obtain⟨rfl,y⟩:=y;have e:=y xs W;rw[Q]at e;cases e;exact⟨Ext.refl,l,c⟩
 stop:=λH1 o s X1 l u=>⟨xs,Jg.of<|X1.sqT S p xs a,by rw[r.length];exact Ah _⟩
 stop':=λH1 o s i f X1 l u=>⟨xs,Jg.of<|X1.sqT S p xs a,by rw[r.length];exact f⟩
def rJ(a:SE X l m):SI X tg l (kP m):=PI.imp (pE a) <| by
 rintro σ H R ⟨ρ,st,io,W,st',E,S,e,k⟩;obtain⟨⟨d,s1⟩,x,e⟩:=Hu e;dsimp only at e;split at e
 ·rename_i ds;cases e;refine⟨ρ,st,io,_,_,E,S,x,λv H1 Q c o f=>?_⟩;obtain⟨p,xs,rfl,u,r⟩:=f;exact⟨p,rfl,⟨xs,Jg.of u⟩,k _ H1 Q c o<|pW o u r⟩
 ·cases e
def run(lo:Int)(n:Nat):List D:=(AZ n).map λ(k:Nat)=>D.int<|lo+(k:Int)
def O2(lo:Int)(n:Nat):(run lo n).length=n:=by unfold run;rw[Af,DT]
def run_get{lo:Int}{i:Nat}(h:(run lo n)[i]?=some d):i<n/\d=.int (lo+(i:Int)):=by
 have l:i<n:=by
  have q:=(KB.mp h).1
  rwa [O2]at q
 unfold run at h;rw[AJ,Fc l]at h;exact⟨l,(As h).symm⟩
def bH(lo:Int)(n:Nat):MQ K H io ⟨run lo n,[]⟩ (UQ lo n) where
 go:=λi d H1 u s hd Q o W=>by obtain⟨l,rfl⟩:=run_get hd;refine⟨l,λx a y=>?_⟩;obtain⟨rfl,rfl⟩:=y;exact⟨Ext.refl,o,rfl⟩
 stop:=λH1 u s Q o W=>by show n<=_;rw[O2];exact Ah _
 stop':=λH1 u s i l Q o W=>by
  show n<=i;have l:(run lo n).length<=i:=l
  rwa [O2]at l
def small(j:Int):Bool:=decide (-(2^62)<=j)&&decide (j<2^62)
def R0{j:Int}(h:small j=true):-(2^62)<=j/\j<2^62:=by unfold small at h;rw[Ag]at h;exact⟨of_decide_eq_true h.1,of_decide_eq_true h.2⟩
def Of(m:ME):MI:=λρ st=>(m ρ st).bind λ(d,s)=>match d with
 |.int j=>if small j=true then some (⟨run 0 j.toNat,[]⟩,s)else none
 |_=>none
def QP{p:Pos}(f:Gl X "range")(hm:X.mg "range"=none)(g:SE X a m)(c:SL [a] X.env=[(false,UV a X.env)]:=by rfl):SI X tg (.Call (.Name "range" p) [a] [] pos) (Of m):=
 PI.imp (zmq f hm (Hg g Hk c) c) <| by
  rintro σ H R ⟨ρ,st,io,W,st',E,S,e,k⟩;obtain⟨⟨d,s1⟩,o,e⟩:=Hu e;dsimp only at e;split at e
  ·rename_i j;obtain⟨l,e⟩:=JJ e;cases e;refine⟨ρ,st,io,[.int j],_,E,S,(RZ o rfl),λh H1 u x Q R1=>?_⟩;obtain⟨v,rfl,rfl⟩:=R1.one;exact⟨j,rfl,(R0 l).1,(R0 l).2,k _ H1 u x Q<|bH 0 _⟩
  ·cases e
def Wz(m n:ME):MI:=λρ st=>(m ρ st).bind λ(d,s)=>(n ρ s).bind λ(l,s2)=>match d,l with
 |.int i,.int j=>if(small i&&small j)=true then some (⟨run i (j-i).toNat,[]⟩,s2)else none
 |_,_=>none
def zmc{p:Pos}(f:Gl X "range")(hm:X.mg "range"=none)(g:SE X a ma)(h:SE X b mb)(hs:SL [a,b] X.env=[(false,UV a X.env),(false,UV b X.env)]:=by rfl)(c:SL [b] X.env=[(false,UV b X.env)]:=by rfl):SI X tg (.Call (.Name "range" p) [a,b] [] pos) (Wz ma mb):=
 PI.imp (zmp f hm (Hg g (Hg h Hk c)<|hs.trans<|by rw[c]) hs c) <| by
  rintro σ H R ⟨ρ,st,io,W,st',E,S,e,k⟩;obtain⟨⟨d,s1⟩,o,e⟩:=Hu e;obtain⟨⟨x,s2⟩,Q,e⟩:=Hu e;cases d with
  |int i=>
   cases x with
   |int j=>
    obtain⟨l,e⟩:=JJ e;cases e;rw[Ag]at l;refine⟨ρ,st,io,[.int i,.int j],_,E,S,(RZ o<|RZ Q rfl),λr H1 m n q R1=>?_⟩;obtain⟨v,u,rfl,rfl,rfl⟩:=R1.two;exact⟨i,j,rfl,⟨(R0 l.1).1,(R0 l.1).2,(R0 l.2).1,(R0 l.2).2⟩,k _ H1 m n q<|bH i _⟩
   |_=>cases e
  |_=>cases e
def Jf(n:Nat)(ds:List D):HX:=ds.map some++A3 (n-ds.length) none
def Jc(n:Nat)(m:MS):GN:=λds st=>(m (Jf n ds) st).bind λ(f,s)=>match f with
 |.rt d=>some (d,s)
 |.nx _=>some (.non,s)
 |_=>none
def hJ{N:List Str}(R:Hh K H io vs ds):Hy K H io (start N vs) (Jf N.length ds):=by
 have l:=R.length;refine⟨by unfold start Jf;simp[l],λi d h=>?_⟩;unfold Jf at h;unfold start
 by_cases hi:i<ds.length
 ·rw[AL (by simpa using hi),AJ]at h
  cases e:ds[i]? with
  |none=>rw[e]at h;cases h
  |some u=>
   rw[e]at h;cases (As<|As h)
   obtain⟨v,o,r⟩:=R.get e;exact⟨v,by rw[AL (by simpa[l]using hi),AJ,o];rfl,r⟩
 ·rw[AU (by simpa using hi),B8]at h
  split at h<;>cases h
variable {w:Re}
section
variable {P:Os}{mg:Str->Option GM}{base:KF}
def UG{qual:Str}{st:SZ}{f:Addr}{N ps:List Str}{m:MS}(F:Nd K x qual st f fd)(S:Iv N ps (Jd st))(c:∀(a:GM) (A:Around) (outer:List Env) (s:Shared) (H:Hp) (E:XK),HK k (A.deeper<|envOfC qual (Jd st) s.heap.objs.size f a) ->
   LI (HJ Lu P w K mg base N qual (Jd st) f a A outer s H E).nox (K9 st) m):Ja P w K mg base Lu (k+1) f fd ps (Qj K ps.length<|Jc N.length m):=by
 refine F.ok S (λo H Q E ⟨_,_,_,_,_,h,_⟩=>h) λa A outer s H o Q E u h=>?_;obtain⟨ds,W,io,d,st',v,R,g,e,l⟩:=h;refine⟨_,c a A outer s H E u,?_⟩;obtain⟨⟨i,s1⟩,j,e⟩:=Hu e;refine Pn (hJ R) g j ?_;cases i with
 |rt y=>cases e;exact l
 |nx ρ=>cases e;exact λσ' n ka q r z=>l .non n ka q r rfl
 |bk ρ=>cases e
 |ct ρ=>cases e
end
def KH(cells:List (Str×Addr)):List (Str×NameKind)->List (Str×Addr)->List (Str×Addr)
 |[],acc=>acc
 |(n,k)::r,acc=>if k==.free then KH cells r ((n,(cells.lookup n).getD 0)::acc)else KH cells r acc
variable {env:Env}
theorem YK{env:Env}(f:Str×NameKind->List (Str×Addr)->Sem (ForInStep<|List<|Str×Addr))(hf:∀n k acc,f (n,k) acc=if k==.free then(do let c <-cellOf env n;pure (.yield ((n,c)::acc)))else pure (.yield acc)):
  ∀(names:List (Str×NameKind)) (acc:List (Str×Addr)),(∀n,(n,AI)∈names->∃c,env.cells.lookup n=some c)->(forIn names acc f:Sem (List<|Str×Addr))=pure (KH env.cells names acc)
 |[],acc,_=>by rw[C0];rfl
 |(n,k)::r,acc,h=>by
  rw[Eh,hf];unfold KH;cases hk:k==AI with
  |false=>
   rw[if_neg (by simp),if_neg (by simp)];have:=YK f hf r acc λm hm=>h m<|Ak _ hm;rw[<-this];rfl
  |true=>
   rw[if_pos rfl,if_pos rfl];have l:k=AI:=by simpa using hk
   obtain⟨c,o⟩:=h n (by rw[l];exact Al);have:=YK f hf r ((n,c)::acc) λm hm=>h m<|Ak _ hm;rw[o,D6,<-this];unfold cellOf;rw[o];rfl
variable {scope:Scope}
def zlw(h:∀n,(n,AI)∈scope.names->∃c,env.cells.lookup n=some c):closureFor scope env=pure (KH env.cells scope.names []):=by unfold closureFor;have:=YK (env:=env) (λx acc=>(match x with|(n,k)=>if k==.free then(do let c <-cellOf env n;pure (.yield ((n,c)::acc)))else pure (.yield acc))) (λ_ _ _=>rfl) scope.names [] h;refine Eq.trans ?_ this;simp only[bind_pure]
variable {cells:List (Str×Addr)}
theorem Yo{cells:List (Str×Addr)}:∀{names:List (Str×NameKind)} {acc:List (Str×Addr)} {p:Str×Addr},p∈KH cells names acc->p∈acc\/((p.1,AI)∈names/\p.2=(cells.lookup p.1).getD 0)
 |[],acc,p,h=>.inl h
 |(n,k)::r,acc,p,h=>by
  unfold KH at h;cases hk:k==AI with
  |false=>
   rw[hk,if_neg (by simp)]at h
   rcases Yo h with h|h
   ·exact .inl h
   exact .inr ⟨Ak _ h.1,h.2⟩
  |true=>
   rw[hk,if_pos rfl]at h;have a:k=AI:=by simpa using hk
   rcases Yo h with h|h
   ·rcases KM.mp h with h|h
    ·subst h;exact .inr ⟨by rw[a];exact Al,rfl⟩
    exact .inl h
   exact .inr ⟨Ak _ h.1,h.2⟩
theorem VB{cells:List (Str×Addr)}:∀{names:List (Str×NameKind)} {acc:List (Str×Addr)} {x:Str},((x,AI)∈names\/(acc.lookup x).isSome=true)->((KH cells names acc).lookup x).isSome=true
 |[],acc,x,h=>by
  rcases h with h|h
  ·exact absurd h<|by simp
  exact h
 |(n,k)::r,acc,x,h=>by
  unfold KH;cases hk:k==AI with
  |false=>
   rw[if_neg (by simp)];refine VB ?_
   rcases h with h|h
   ·rcases KM.mp h with h|h
    ·have:k=AI:=(Bi h).2.symm;rw[this]at hk;exact absurd hk<|by decide
    exact .inl h
   exact .inr h
  |true=>
   rw[if_pos rfl];refine VB ?_;by_cases hx:x=n
   ·subst hx;exact .inr<|by simp
   ·rcases h with h|h
    ·rcases KM.mp h with h|h
     ·exact absurd (Bi h).1 hx
     exact .inl h
    ·refine .inr ?_;rw[A9];have:(x==n)=false:=by simpa using hx
     rw[this];exact h
theorem YE:∀{names:List (Str×NameKind)} {n:Nat} {acc:List (Str×Addr)} {p:Str×Addr},p∈cellsFrom n names acc->p∈acc\/n<=p.2
 |[],_,_,_,h=>.inl h
 |(x,k)::r,n,acc,p,h=>by
  unfold cellsFrom at h;split at h
  ·rcases YE h with h|h
   ·rcases KM.mp h with h|h
    ·subst h;exact .inr<|Ah _
    exact .inl h
   exact .inr<|B2 h
  exact YE h
theorem YV:∀{names:List (Str×NameKind)} {n:Nat} {acc:List (Str×Addr)},(acc.Pairwise λx y=>x.2≠y.2)->(∀p∈acc,p.2<n)->(cellsFrom n names acc).Pairwise λx y=>x.2≠y.2
 |[],_,_,h,_=>h
 |(x,k)::r,n,acc,h,hl=>by
  unfold cellsFrom;split
  ·refine YV (List.pairwise_cons.mpr ⟨λy a e=>?_,h⟩) λp hp=>?_
   ·have q:=hl y a;have l:n=y.2:=e;rw[<-l]at q;exact A4 _ q
   ·rcases KM.mp hp with rfl|hp
    ·exact FV _
    exact FG<|hl p hp
  exact YV h hl
theorem XM:∀{names:List (Str×NameKind)} {n:Nat} {acc:List (Str×Addr)} {x:Str},((x,AX)∈names\/(acc.lookup x).isSome=true)->((cellsFrom n names acc).lookup x).isSome=true
 |[],n,acc,x,h=>by
  rcases h with h|h
  ·exact absurd h<|by simp
  exact h
 |(m,k)::r,n,acc,x,h=>by
  unfold cellsFrom;cases hk:k==AX with
  |false=>
   rw[if_neg (by simp)];refine XM ?_
   rcases h with h|h
   ·rcases KM.mp h with h|h
    ·have:k=AX:=(Bi h).2.symm;rw[this]at hk;exact absurd hk<|by decide
    exact .inl h
   exact .inr h
  |true=>
   rw[if_pos rfl];refine XM ?_;by_cases hx:x=m
   ·subst hx;exact .inr<|by simp
   ·rcases h with h|h
    ·rcases KM.mp h with h|h
     ·exact absurd (Bi h).1 hx
     exact .inl h
    ·refine .inr ?_;rw[A9];have:(x==m)=false:=by simpa using hx
     rw[this];exact h
theorem VE:∀{names:List (Str×NameKind)} {n:Nat} {acc:List (Str×Addr)} {x:Str},(x,AX)∉names->(cellsFrom n names acc).lookup x=acc.lookup x
 |[],_,_,_,_=>rfl
 |(m,k)::r,n,acc,x,h=>by
  unfold cellsFrom;cases hk:k==AX with
  |false=>rw[if_neg (by simp)];exact VE λq=>h (Ak _ q)
  |true=>
   rw[if_pos rfl,VE λq=>h (Ak _ q),A9];have a:k=AX:=by simpa using hk
   have:(x==m)=false:=by
    cases e:x==m with
    |false=>rfl
    |true=>exact absurd (by rw[a,show x=m by simpa using e];exact Al) h
   rw[this]
theorem XJ:∀{names:List (Str×NameKind)} {n:Nat} {acc:List (Str×Addr)} {x:Str}{c:Addr},(x,AX)∈names->(cellsFrom n names acc).lookup x=some c->n<=c
 |[],_,_,_,_,h,_=>absurd h<|by simp
 |(m,k)::r,n,acc,x,c,h,e=>by
  unfold cellsFrom at e;cases hk:k==AX with
  |false=>
   rw[hk,if_neg (by simp)]at e
   rcases KM.mp h with h|h
   ·have:k=AX:=(Bi h).2.symm;rw[this]at hk;exact absurd hk<|by decide
   exact XJ h e
  |true=>
   rw[hk,if_pos rfl]at e;by_cases l:(x,AX)∈r
   ·exact B2<|XJ l e
   ·rw[VE l]at e
    rcases KM.mp h with h|h
    ·have o:x=m:=(Bi h).1;subst o;rw[List.lookup_cons_self]at e;exact Dq<|As e
    exact absurd h l
theorem YN:∀{names:List (Str×NameKind)} {h:KF} {acc:List (Str×Addr)} {p:Str×Addr},p∈cellsFrom h.objs.size names acc->p∈acc\/(pushCells h names).IsCell p.2 none
 |[],_,_,_,h=>.inl h
 |(x,k)::r,h,acc,p,e=>by
  unfold cellsFrom at e;unfold pushCells;split at e
  ·rename_i hk;rw[if_pos hk];have sz:(h.push {cls:=.type "cell",data:=.cell none}).objs.size=h.objs.size+1:=Bu ..;rw[<-sz]at e
   rcases YN e with q|q
   ·rcases KM.mp q with q|q
    ·subst q;exact .inr ⟨_,Dr _ _ _ _<|Aq _ rfl,rfl⟩
    exact .inl q
   exact .inr q
  rename_i hk;rw[if_neg hk];exact YN e
def M7(X:Cx)(scope:Scope)(N':List Str)(cells:List (Str×Addr))(C:Addr)(s0:Shared)(a:Hp)(ex:List Addr):Cx:={X with N:=N',s₀:=s0,H₀:=a,env:=compEnvC scope cells C X.env,outer:=X.stack,ex:=ex,fn:=λx=>scope.names.any λp=>p.1==x&&p.2==.cell,pn:=[],xe:=λ_ _=>False}
structure Ki(X:Cx)(scope:Scope)(N':List Str)(nt:Nat)(fr:List Nat):Prop where
 kind:scope.kind=.function
 nd:(scope.names.map (·.1)).Nodup
 len:N'.length=nt+fr.length
 cap:∀(i j:Nat) (x:Str),fr[i]?=some j->N'[nt+i]?=some x->X.N[j]?=some x/\(x,AI)∈scope.names
 out:∀x,(x,AI)∈scope.names->X.env.kindOf x=some .cell\/X.env.kindOf x=some .free
theorem lookup_mem:∀{l:List (Str×NameKind)} {x:Str}{k:NameKind},(l.map (·.1)).Nodup->(x,k)∈l->l.lookup x=some k
 |[],_,_,_,h=>absurd h<|by simp
 |(n,j)::r,x,k,a,h=>by
  rw[Au,F8]at a;rw[A9];rcases KM.mp h with h|h
  ·cases h;simp
  ·have:x≠n:=λe=>a.1 (by rw[<-e];exact P3.mpr ⟨_,h,rfl⟩);have:(x==n)=false:=by simpa using this
   rw[this];exact lookup_mem a.2 h
theorem Wu{env:Env}:∀{l:List (Str×NameKind)} {x:Str}{k:NameKind},(l.map λ(n,k)=>if(k==AI&&env.scope.kind==.function&&env.kindOf n==some .cell)then(n,AX)else(n,k)).lookup x=some k ->
  ∃c,l.lookup x=some c/\(c=k\/c=.free)
 |[],_,_,h=>by simp at h
 |(n,j)::r,x,k,h=>by
  rw[Au]at h;dsimp only at h;by_cases hc:(j==AI&&env.scope.kind==.function&&env.kindOf n==some .cell)=true
  ·rw[if_pos hc,A9]at h;rw[A9]
   cases a:x==n with
   |true=>
    have:j=.free:=by rw[Ag,Ag]at hc;simpa using hc.1.1
    exact⟨j,rfl,.inr this⟩
   |false=>rw[a]at h;exact Wu h
  ·rw[if_neg hc,A9]at h;rw[A9]
   cases a:x==n with
   |true=>rw[a]at h;cases h;exact⟨j,rfl,.inl rfl⟩
   |false=>rw[a]at h;exact Wu h
theorem Y5{env:Env}:∀{l:List (Str×NameKind)} {x:Str},l.lookup x=some .free ->
  (l.map λ(n,k)=>if(k==AI&&env.scope.kind==.function&&env.kindOf n==some .cell)then(n,AX)else(n,k)).lookup x=some .cell \/
  (l.map λ(n,k)=>if(k==AI&&env.scope.kind==.function&&env.kindOf n==some .cell)then(n,AX)else(n,k)).lookup x=some .free
 |[],_,h=>by simp at h
 |(n,j)::r,x,h=>by
  rw[Au];dsimp only;rw[A9]at h;by_cases hc:(j==AI&&env.scope.kind==.function&&env.kindOf n==some .cell)=true
  ·rw[if_pos hc,A9]
   cases a:x==n with
   |true=>exact .inl rfl
   |false=>rw[a]at h;exact Y5 h
  ·rw[if_neg hc,A9]
   cases a:x==n with
   |true=>rw[a]at h;cases h;exact .inr rfl
   |false=>rw[a]at h;exact Y5 h
variable {s:Shared}{N':List Str}{nt:Nat}{fr:List Nat}{qp:List (Addr×Obj)}{A:Around}{E:Qqa}{fp:List Addr}
noncomputable abbrev Sl (X:Cx) (scope:Scope):List (Str×Addr):=KH X.env.cells scope.names []
noncomputable abbrev M6 (X:Cx) (scope:Scope) (C:Nat):List (Str×Addr):=cellsFrom (C+1) scope.names (Sl X scope)
def Xu(Z:Ki X scope N' nt fr)(ok:X.Ok){p:Str×Addr}(h:p∈Sl X scope):(p.1,AI)∈scope.names/\X.env.cells.lookup p.1=some p.2:=by
 rcases Yo h with h|⟨l,o⟩
 ·exact absurd h<|by simp
 obtain⟨c,s⟩:=ok.has p.1<|Z.out p.1 l;rw[s,D6]at o;exact⟨l,by rw[s,o]⟩
def zm7(Z:Ki X scope N' nt fr)(ok:X.Ok)(h:(x,AI)∈scope.names):∃c,X.env.cells.lookup x=some c/\∀C,(M6 X scope C).lookup x=some c:=by
 obtain⟨c,l⟩:=ok.has x<|Z.out x h;refine⟨c,l,λC=>?_⟩;have no:(x,AX)∉scope.names:=λq=>by have a:=lookup_mem Z.nd h;have b:=lookup_mem Z.nd q;rw[a]at b;cases b
 rw[VE no];have q:=VB (cells:=X.env.cells) (acc:=[])<|.inl h;obtain⟨o,e⟩:=Option.isSome_iff_exists.mp q;have:=(Xu Z ok<|AW e).2;have this:X.env.cells.lookup x=some o:=this;rw[l]at this;rw[e,this]
def xT(Z:Ki X scope N' nt fr)(ok:X.Ok):(Sl X scope).Pairwise λx y=>x.2≠y.2:=by
 have gen:∀(names:List (Str×NameKind)) (acc:List (Str×Addr)),(∀n,(n,AI)∈names->∃c,X.env.cells.lookup n=some c)->(names.map (·.1)).Nodup->(∀p∈acc,p.1∉names.map (·.1)/\X.env.cells.lookup p.1=some p.2)->(acc.Pairwise λx y=>x.2≠y.2) ->
   (KH X.env.cells names acc).Pairwise λx y=>x.2≠y.2:=by
  intro names
  induction names with
  |nil=>intro acc _ _ _ h;exact h
  |cons p r A=>
   intro acc hf o l s;obtain⟨n,k⟩:=p;rw[Au,F8]at o;unfold KH;cases hk:k==AI with
   |false=>
    rw[if_neg (by simp)];exact A acc (λm hm=>hf m (Ak _ hm)) o.2 (λq hq=>⟨λz=>(l q hq).1 (by rw[Au];exact Ak _ z),(l q hq).2⟩) s
   |true=>
    rw[if_pos rfl];have u:k=AI:=by simpa using hk
    obtain⟨c,w⟩:=hf n (by rw[u];exact Al);refine A _ (λm hm=>hf m (Ak _ hm)) o.2 (λq hq=>?_)<|List.pairwise_cons.mpr ⟨λy E e=>?_,s⟩
    ·rcases KM.mp hq with rfl|hq
     ·exact⟨o.1,by rw[w];rfl⟩
     exact⟨λz=>(l q hq).1 (by rw[Au];exact Ak _ z),(l q hq).2⟩
    have Q:(X.env.cells.lookup n).getD 0=y.2:=e;rw[w,D6]at Q;have W:=(l y E).2;rw[<-Q]at W;have:=ok.inj _ _ _ W w;exact(l y E).1 (by rw[this,Au];exact Al)
 exact gen scope.names [] (λn a=>ok.has n (Z.out n a)) Z.nd (λp s=>absurd s (by simp)) C3
def xU{M:Model}{cl:List (Str×Addr)}{Q:Env->Shared->Prop}(h:Q {scope:=scope,locals:=s.heap.objs.size,globals:=env.globals,cells:=cellsFrom (s.heap.objs.size+1) scope.names cl,qual:=env.qual,func:=none,code:=env.code,frame:=env.frame,builtins:=env.builtins}
   {s with heap:=pushCells (s.heap.push Qqd) scope.names}):
  wpAny M A (newFunctionEnv scope env.globals cl [] env.qual none .none<|some env) Q E s:=by
 simp only[newFunctionEnv,Fk,if_true];refine Ab<|wpAny_alloc ?_;refine Ab<|wpAny_layCells _ (λname kind cells=>by cases l:kind==AX<;>simp[l]) _ _ _ _ ?_;rw[show({s with heap:=s.heap.push Qqd}:Shared).heap.objs.size=s.heap.objs.size+1 from Bu ..];rw[C0];exact Ab<|Ae<|Ae h
def Pm(σ:L2.St)(nt:Nat)(fr:List Nat):L2.St:=A3 nt none++fr.map λ(j:Nat)=>(σ[j]?).join
def xH{fp:List Addr}(Z:Ki X scope N' nt fr)(I:Inv X qp σ H s)(hf:∀b∈fp,K2 X qp H b)(g:∀b∈fp,b<s.heap.objs.size):
  Inv (M7 X scope N' (M6 X scope s.heap.objs.size) s.heap.objs.size s H fp) [] (Pm σ nt fr) H {s with heap:=pushCells (s.heap.push Qqd) scope.names}:=by
 have ok:=I.ok;have kp:∀b o,s.heap.get? b=some o->(pushCells (s.heap.push Qqd) scope.names).get? b=some o:=λb o e=>Dr _ _ b o (Ad _ e);have B:∀p∈Sl X scope,p.2<s.heap.objs.size:=λp W=>by obtain⟨_,e⟩:=Xu Z ok W;obtain⟨v,q⟩:=I.cell p.1 p.2 e;exact q.lt
 have sz:(s.heap.push Qqd).objs.size=s.heap.objs.size+1:=Bu ..;have cells:∀x c,(M6 X scope s.heap.objs.size).lookup x=some c->(X.env.cells.lookup x=some c)\/(s.heap.objs.size+1<=c/\(pushCells (s.heap.push Qqd) scope.names).IsCell c none):=λx c e=>by
  have m:=AW e;rcases YE m with h|h
  ·exact .inl (Xu Z ok h).2
  ·refine .inr ⟨h,?_⟩;have M:(x,c)∈cellsFrom (s.heap.push Qqd).objs.size scope.names (Sl X scope):=by rw[sz];exact m
   rcases YN M with q|q
   ·have l:=B _ q;exact absurd (Ay l (B2 h)) (A4 _)
   exact q
 refine⟨⟨ok.mod,Z.kind,ok.glob,ok.blt,Ah _,λx y c f A=>?_,λx hx=>?_,λx c f A=>?_,ok.hd,ok.frames,.inl rfl,λb Q=>?_,I.bs,Ar ok.bsz I.sz,λb o e Q=>?_,λb Q=>?_,I.stack,I.stkFree⟩,
  rfl,I.bare,Un.kept kp,⟨λ_=>none,?_,λi x v f A h3=>?_⟩,λx c e=>?_,I.hok.fresh (Ah _),λx c e=>?_,λp W=>absurd W (by simp[M7]),I.hok.kept kp,?_⟩
 ·exact name_of_addr (YV (xT Z ok) λp W=>FG (B p W)) (AW f) (AW A)
 ·have hx:(relabel scope X.env).names.lookup x=some .cell\/(relabel scope X.env).names.lookup x=some .free:=hx;have q:(x,AX)∈scope.names\/(x,AI)∈scope.names:=by
   rcases hx with hx|hx
   ·obtain⟨N,e,z|z⟩:=Wu hx
    ·subst z;exact .inl (AW e)
    subst z;exact .inr (AW e)
   ·obtain⟨N,e,z|z⟩:=Wu hx
    ·subst z;exact .inr (AW e)
    subst z;exact .inr (AW e)
  refine Option.isSome_iff_exists.mp (XM (n:=s.heap.objs.size+1) (acc:=Sl X scope) ?_);rcases q with q|q
  ·exact .inl q
  exact .inr (VB (.inl q))
 ·have f:(scope.names.any λp=>p.1==x&&p.2==AX)=true:=f;obtain⟨p,W,e⟩:=List.any_eq_true.mp f;rw[Ag]at e;have S:p.1=x:=by simpa using e.1
  have T:p.2=AX:=by simpa using e.2
  have hm:(x,AX)∈scope.names:=by rw[<-S,<-T];exact W
  exact B2 (XJ hm A)
 ·refine⟨Aw (g b Q),λx c e z=>?_⟩
  rcases cells x c e with q|⟨q,_⟩
  ·exact(hf b Q).2.2.2.2.1 x c q z
  have l:=g b Q;rw[<-z]at l;exact absurd (Ay l (B2 q)) (A4 _)
 ·rcases(hf b Q).2.2.2.1 with z|z
  ·exact ok.noex b o e z
  exact absurd (Ay (An e) (Ar ok.bsz z)) (A4 _)
 ·intro U
  rcases KM.mp (I.stkSub b U)with e|e
  ·exact(hf b Q).2.1 e
  exact(hf b Q).2.2.1 e
 ·exact(Heap.Ns.new s.heap (.type "dict")).keeps (Dr _ _)
 ·
  have F:nt<=i:=by
   by_cases F:i<nt
   ·unfold Pm at A;rw[AL (by simpa using F),B8,if_pos F]at A;cases A
   omega
  obtain⟨C,rfl⟩:∃C,i=nt+C:=⟨i-nt,by omega⟩
  unfold Pm at A;rw[AU (by simp),Ct,Nat.add_sub_cancel_left,AJ]at A
  cases G:fr[C]? with
  |none=>rw[G]at A;cases A
  |some j=>
   rw[G]at A;have A:(σ[j]?).join=some v:=As A;have A:σ[j]?=some (some v):=by
    cases q:σ[j]? with
    |none=>rw[q]at A;cases A
    |some w=>rw[q]at A;cases w with
     |none=>cases A
     |some w=>cases A;rfl
   obtain⟨Y,E⟩:=Z.cap C j x G f;obtain⟨c,hc,J⟩:=zm7 Z ok E;have K:=Z.out x E;obtain⟨m,hn,hl⟩:=I.loc;obtain⟨u,r,l⟩:=hl j x v Y A (K.elim (λz=>.inr (.inl z)) λz=>.inr (.inr z));refine⟨u,r,.inr ⟨?_,c,J _,?_⟩⟩
   ·exact Y5 (lookup_mem Z.nd E)
   ·rcases l with⟨k,_⟩|⟨_,c',L,z⟩
    ·rcases K with q|q
     ·rw[k]at q;cases q
     rw[k]at q;cases q
    rw[hc]at L;cases L;exact z.keeps kp
 ·rcases cells x c e with q|⟨_,q⟩
  ·obtain⟨v,z⟩:=I.cell x c q;exact⟨v,z.keeps kp⟩
  exact⟨none,q⟩
 ·rcases cells x c e with q|⟨q,_⟩
  ·exact I.freeC x c q
  exact I.hok.fresh (B2 q)
 show _=N'.length;unfold Pm;rw[Z.len,AF,Ct,Af]
noncomputable abbrev FF:Qqa:=λ_ _=>False
variable {elt:PP}{ifs:List PP}
def zjd{prog:Os}{R:Result->Shared->Prop}{s:Shared}{target:PP}{it acc:GM}(I:Nat->Shared->Prop)(turn:∀n s,I n s->wpAny (IR prog w) A (pyNext it) (λr s1=>match r with
   |none=>R (.ok .next) s1
   |some v=>wpAny (IR prog w) A (letOwnedTupleGo target it v) (λ_ s1=>wpAny (IR prog w) A (assign target env v) (λ_ s2=>
     wpAny (IR prog w) A (forIn ifs true λc r=>if r=true then do let ok <-isTrue c env (UV c env);pure (Ds ok)else pure (Ds r)) (λok s3=>
      if ok=true then wpAny (IR prog w) A (UV elt env) (λx s4=>
       wpAny (IR prog w) A (call (.builtin "list.append") [acc,x]) (λ_ s5=>∃m,m<n/\I m s5) FF s4) FF s3
      else ∃m,m<n/\I m s3) FF s2) FF s1) FF s1) FF s)
  (n:Nat) (h:I n s):
  codeAny (IR prog w) A (.compLoop (.ListComp elt [⟨target,iter,ifs,0⟩] scope pos) 0 it acc env) R s:=by
 refine codeAny_loop rfl I (λn s o=>?_) n h;show wpAny _ A ((compTurn (.ListComp elt [⟨target,iter,ifs,0⟩] scope pos) 0 it acc env).onRaise (λx=>do noteFrame x env;theTreesLotGoes x)) _ _ s;refine wpAny_noted ?_;rw[compTurn_list];refine Ab<|BC<|Ab<|A6 (turn n s o) (λr s₁ h₁=>?_) λ_ _ l=>False.elim l
 cases r with
 |none=>exact Ae h₁
 |some v=>
  refine Ab<|A6 h₁ (λ_ s₂ h₂=>?_) λ_ _ l=>False.elim l;refine Ab<|A6 h₂ (λ_ s₂ h₂=>Ab (A6 h₂ (λok s₃ h₃=>?_) λ_ _ l=>False.elim l)) λ_ _ l=>False.elim l
  cases ok with
  |false=>exact Ae ⟨rfl,h₃⟩
  |true=>
   exact Ab<|Ab<|A6 h₃ (λx s₄ h₄=>Ab (A6 h₄ (λ_ s₅ h₅=>Ae (Ae ⟨rfl,h₅⟩)) λ_ _ l=>False.elim l)) λ_ _ l=>False.elim l
def Kt(W:Wk)(g:MG)(c:MT)(m:ME):List D->HX->Hf->Option (List D×Hf)
 |[],ρ,st=>if walked W st=true then some ([],st)else none
 |d::ds,ρ,st=>if walked W st=true then(g d ρ st).bind λ(ρ1,s1)=>(c ρ1 s1).bind λ(b,s2)=>
   if b=true then(m ρ1 s2).bind λ(x,s3)=>(Kt W g c m ds ρ1 s3).map λ(xs,s4)=>(x::xs,s4)else Kt W g c m ds ρ1 s2 else none
def Hz(ρ:HX)(nt:Nat)(fr:List Nat):HX:=A3 nt none++fr.map λ(j:Nat)=>(ρ[j]?).join
def Jl(mi:MI)(nt:Nat)(fr:List Nat)(g:MG)(c:MT)(m:ME):ME:=λρ st=>(mi ρ st).bind λ(W,s1)=>(Kt W g c m W.ds (Hz ρ nt fr) s1).bind λ(xs,s2)=>
 if fits xs.length=true then some (.ref s2.length,s2++[.lst xs])else none
def IC:MT:=λ_ st=>some (true,st)
def SC(X:Cx)(ifs:List PP)(m:MT):Prop:=∀(qp:List (Addr×Obj)) (s:Shared) (σ:L2.St) (H:Hp) (Q:Bool->Hp->Prop),Inv X qp σ H s->tT X.K m σ H Q ->
 wpAny (IR X.prog X.w) X.A (forIn ifs true λc r=>if r=true then do let ok <-isTrue c X.env (UV c X.env);pure (Ds ok)else pure (Ds r)) (TP X qp σ Q) X.xe s
def Ly:SC X [] IC:=by rintro qp s σ H Q I ⟨ρ,st,io,b,st',E,S,e,k⟩;cases e;rw[C0];exact Ae ⟨H,I,k H [] Ext.refl S.nil⟩
def wU(h:Hy K H io σ ρ):Hy K H io (Pm σ nt fr) (Hz ρ nt fr):=by
 refine⟨by unfold Pm Hz;simp,λi d e=>?_⟩;unfold Hz at e;unfold Pm
 by_cases hi:i<nt
 ·rw[AL (by simpa using hi),B8,if_pos hi]at e;cases e
 ·rw[AU (by simpa using hi),Ct,AJ]at e ⊢
  cases l:fr[i-nt]? with
  |none=>rw[l]at e;cases e
  |some j=>
   rw[l]at e;have e:(ρ[j]?).join=some d:=As e;have e:ρ[j]?=some (some d):=by
    cases q:ρ[j]? with
    |none=>rw[q]at e;cases e
    |some w=>rw[q]at e;cases w with
     |none=>cases e
     |some w=>cases e;rfl
   obtain⟨v,o,r⟩:=h.at_ j d e;exact⟨v,by simp[o],r⟩
def adopt(S:Hv K H io st)(c:H p=some (.lst xs))(np:p∉io)(R:Hh K H io xs ds):Hv K H (io++[p]) (st++[.lst ds]):=by
 refine⟨by simp[S.len],?_,λn a ob l o=>?_⟩
 ·rw[DS];refine⟨S.nd,by simp,λa s b u=>?_⟩;rw[On.mp u];rintro rfl;exact np s
 ·by_cases hn:n<io.length
  ·rw[AL hn]at l;rw[AL (by rw[<-S.len];exact hn)]at o;exact OR.mono ⟨λ_ _ h=>h,λ_ _ _ h=>h⟩ rfl<|S.ob n a ob l o
  ·have w:n<(io++[p]).length:=(KB.mp l).1;rw[AF,Cw]at w;have e:n=io.length:=by omega
   subst e;rw[AU (Ah _),CP]at l;rw[S.len,AU (Ah _),CP]at o;cases (As l);cases (As o);exact⟨xs,c,Hh.mono ⟨λ_ _ h=>h,λ_ _ _ h=>h⟩ R⟩
section
variable {g:MG}{c:MT}
structure CompEnd(X:Cx)(qp:List (Addr×Obj))(σ:L2.St)(H:Hp)(io:List Addr)(d:D)(st':Hf)(Dd C:Addr)(H5:Hp)(s6:Shared):Prop where
 inv:Inv X qp σ H5 s6
 ns:∃m,s6.heap.Ns C m
 free:H5 C=none
 ne:C≠X.env.locals
 young:X.s₀.heap.objs.size<=C
 cells:∀x c,X.env.cells.lookup x=some c->c≠C
 pin:∀p∈X.pn++qp,p.1≠C
 val:∃ka,Ext io ka H H5/\Hv X.K H5 (io++ka) st'/\Rep X.K H5 (io++ka) (.ref Dd) d
inductive CompI (X Y:Cx) (W:Wk) (tn:Nat->KF->Prop) (fp io:List Addr) (H1:Hp) (Dd:Addr) (g:MG) (c:MT) (m:ME) (t2:Hf) (xs:List D) (n:Nat) (s5:Shared):Prop
 |mk (i:Nat) (σ5:L2.St) (H5:Hp) (ρ5:HX) (st5:Hf) (k5:List Addr) (ac rs:List D) (h0:n=W.ds.length-i) (h1:Inv Y [] σ5 H5 s5) (h2:tn i s5.heap) (h3:∀b∈fp,H5 b=none) (h4:Ext io k5 H1 H5) (h5:Dd∉k5) (h6:Hv X.K H5 (io++k5) st5) (h7:Hy X.K H5 (io++k5) σ5 ρ5) (h8:∃vs,H5 Dd=some (.lst vs)/\Hh X.K H5 (io++k5) vs ac) (h9:Kt W g c m (W.ds.drop i) ρ5 st5=some (rs,t2)) (h10:xs=ac++rs)
def dU(hx:X.xe=FF)(hc:X.calm=true)(Z:Ki X scope N' nt fr)(hi:SI X tg iter mi)(hg:∀C s0 H0 fp,SG (M7 X scope N' (M6 X scope C) C s0 H0 fp) tg g) (ht:∀C s0 H0 fp,SC (M7 X scope N' (M6 X scope C) C s0 H0 fp) ifs c) (he:∀C s0 H0 fp,SE (M7 X scope N' (M6 X scope C) C s0 H0 fp) elt m)(hs:∀x,foldedSetIterable iter X.env x=pure x)         {use:Option (GM->Sem Unit)} {Qf:Qqa}{ps:Pos}(I:Inv X qp σ H s) (E:Hy X.K H io σ ρ) (S:Hv X.K H io st) (e:Jl mi nt fr g c m ρ st=some (d,st'))(kf:∀f C H5 s6,CompEnd X qp σ H io d st' f C H5 s6->compPost (IR X.prog X.w) X.A X.xe use Qf (.ref f) C (.ok .next) s6):
  wpAny (IR X.prog X.w) X.A (comprehension (.ListComp elt [⟨tg,iter,ifs,0⟩] scope pos) scope X.env ps (newList []) false (UV iter X.env) use) Qf X.xe s:=by
 obtain⟨⟨W,t1⟩,e1,e⟩:=Hu e;obtain⟨⟨xs,t2⟩,e2,e⟩:=Hu e;obtain⟨hfit,e⟩:=JJ e;cases e;refine wpAny_comprehension_free (use:=use) rfl hs (zlw λn hn=>I.ok.has n (Z.out n hn)) Z.kind (λx hx hl=>by
  obtain⟨n,k⟩:=x;cases (show k=.local from hl)
  exact lookup_mem Z.nd hx) ?_
 refine HA (hi qp s σ H (λJ H1=>∃ka,Ext io ka H H1/\Hv X.K H1 (io++ka) t1/\MQ X.K H1 (io++ka) W J) I ⟨ρ,st,io,W,t1,E,S,e1,λJ H' ka X' S' O'=>⟨ka,X',S',O'⟩⟩) λv sa ha=>?_;refine HA ha ?_;rintro itv s2 ⟨it,fp,tn,J,H1,WD,I1,T,tn0,fpok,y,X1,S1,IO⟩;subst WD;refine A2 ?_;have hD:H1 s2.heap.objs.size=none:=I1.hok.fresh (Ah _);have I3:Inv X qp σ (upd H1 s2.heap.objs.size (.lst [])) {s2 with heap:=s2.heap.push {cls:=.type "list",data:=.seq ([]:List GM).toArray},toks:=s2.toks}:=I1.lnew .nil (Bo _);obtain⟨X2,S2a⟩:=Tv (o:=.lst []) S1 hD;rw[Am]at S2a;have S2:Hv X.K (upd H1 s2.heap.objs.size (.lst [])) (io++y) t1:=S2a;clear S2a;generalize hH3:upd H1 s2.heap.objs.size (.lst [])=H3 at I3 X2 S2;have H3D:H3 s2.heap.objs.size=some (.lst []):=by rw[<-hH3];exact KQ
 generalize hD':s2.heap.objs.size=f at hD I3 X2 S2 hH3 H3D ⊢;generalize hs3:({s2 with heap:=s2.heap.push {cls:=.type "list",data:=.seq ([]:List GM).toArray},toks:=s2.toks}:Shared)=s3 at I3;have fplt:∀b∈fp,b<s3.heap.objs.size:=λb hb=>by obtain⟨o,ho,_⟩:=T.obj 0 _ tn0 b hb;rw[<-hs3];exact Ay (An ho) (by show _<=(s2.heap.push _).objs.size;rw[Bu];exact Bj _)
 have fpD:∀b∈fp,b≠f:=λb hb z=>by obtain⟨o,ho,_⟩:=T.obj 0 _ tn0 b hb;have:=An ho;rw[z,<-hD']at this;exact A4 _ this
 have N:∀b∈fp,K2 X qp H3 b:=λb hb=>⟨by rw[<-hH3,HR (fpD b hb)];exact(fpok b hb).1,(fpok b hb).2⟩
 have tn3:tn 0 s3.heap:=T.keep 0 _ _ tn0 λb _ o ho=>by rw[<-hs3];exact Ad _ ho
 refine xU ?_;have I4:=xH (fp:=fp) Z I3 N fplt;have tn4:tn 0 (pushCells (s3.heap.push Qqd) scope.names):=T.keep 0 _ _ tn3 λb _ o ho=>Dr _ _ _ _ (Ad _ ho);generalize hs4:({s3 with heap:=pushCells (s3.heap.push Qqd) scope.names}:Shared)=s4 at I4;have tn4:tn 0 s4.heap:=by rw[<-hs4];exact tn4
 show codeAny (IR X.prog X.w) X.A (.compStart (.ListComp elt [⟨tg,iter,ifs,0⟩] scope pos) 0 (.ref it) (.ref f) (M7 X scope N' (M6 X scope s3.heap.objs.size) s3.heap.objs.size s3 H3 fp).env) _ _;generalize U:M7 X scope N' (M6 X scope s3.heap.objs.size) s3.heap.objs.size s3 H3 fp=Y at I4;have yP:Y.prog=X.prog:=by rw[<-U];rfl
 have yW:Y.w=X.w:=by rw[<-U];rfl
 have yK:Y.K=X.K:=by rw[<-U];rfl
 have yC:Y.calm=true:=by rw[<-U];exact hc
 have yA:Y.A=X.A:=by rw[<-U];rfl
 have yx:Y.xe=FF:=by rw[<-U];rfl
 have hg:=hg s3.heap.objs.size s3 H3 fp;have ht:=ht s3.heap.objs.size s3 H3 fp;have he:=he s3.heap.objs.size s3 H3 fp;rw[U]at hg ht he;have yex:Y.ex=fp:=by rw[<-U];rfl
 have yfs:∀b∈fp,b∉Y.fs:=λb hb hs=>by
  rw[<-U]at hs;have hs:b∈MK X.stack:=hs;rcases KM.mp (I3.stkSub b hs)with z|z
  ·exact(N b hb).2.1 z
  exact(N b hb).2.2.1 z
 have yL:Y.env.locals=s3.heap.objs.size:=by rw[<-U];rfl
 have hio:f∉io++y:=λhm=>by obtain⟨u,hu,_⟩:=S1.mem hm;rw[hD]at hu;cases hu
 have start:∀{H':Hp}{sx:Shared}{σ':L2.St},Inv Y [] σ' H' sx->(∀b∈fp,H' b=none)->∀b∈fp,K2 Y [] H' b:=λ{H' sx σ'} I' hn b hb=>by
  refine⟨hn b hb,λz=>?_,yfs b hb,.inl (by rw[yex];exact hb),λx cc e z=>?_,λp hp=>absurd hp (by rw[<-U];simp[M7])⟩
  ·rw[yL]at z;exact absurd (fplt b hb) (by rw[z];exact A4 _)
  exact(I'.ok.exf b (by rw[yex];exact hb)).2 x cc e z
 have loop:∀sx:Shared,Inv Y [] (Pm σ nt fr) H3 sx->tn 0 sx.heap->codeAny (IR X.prog X.w) X.A (.compLoop (.ListComp elt [⟨tg,iter,ifs,0⟩] scope pos) 0 (.ref it) (.ref f) Y.env) (compPost (IR X.prog X.w) X.A X.xe use Qf (.ref f) s3.heap.objs.size) sx:=by
  intro sx Ix tnx;refine zjd (CompI X Y W tn fp (io++y) H1 f g c m t2 xs) ?_ (W.ds.length-0)
   ⟨0,Pm σ nt fr,H3,Hz ρ nt fr,t1,[],[],xs,rfl,Ix,tnx,λb hb=>(N b hb).1,X2,by simp,S2.nil,by rw[Am];exact wU (by have:=(E.ext S X1).ext S1 X2;rw[Am]at this;exact this),⟨[],H3D,rfl⟩,by rw[DF];exact e2,rfl⟩
  rintro n s5 ⟨i,σ5,H5,ρ5,st5,Q,ac,rs,rfl,I5,tn5,fr5,X25,nk5,S5,E5,⟨M,hvs,Rvs⟩,L,exs⟩;have nD:∀{kk:List Addr},f∉kk->f∉(io++y)++kk:=λ{kk} hk hm=>(W1.mp hm).elim hio hk;have nF:∀{kk jj:List Addr}{Ha Hb:Hp}{vv:List V},Ext jj kk Ha Hb->Ha f=some (.lst vv)->f∉kk:=λ{kk jj Ha Hb vv} Xx hv hm=>by have q:=Xx.fresh f hm;rw[hv]at q;cases q
  cases hd:W.ds[i]? with
  |none=>
   have hl:W.ds.length<=i:=List.getElem?_eq_none_iff.mp hd;rw[Ey hl]at L;obtain⟨hw,L⟩:=JJ L;cases L;have:=T.done Y yP yW yK yC i [] s5 σ5 H5 FF I5 (start I5 fr5) tn5 (IO.stop' H5 Q _ i hl X25 S5 (T8 hw));rw[yA]at this;refine HA this ?_;rintro r s6 ⟨hr,I6⟩;subst hr;obtain⟨mm,hn,_⟩:=id I6.loc;rw[yL]at hn;have base:Un (MK X.stack) fp H3 H5 s3.heap s6.heap:=by have b:=I6.base;rw[<-U]at b;exact b
   have os:s6.os=s3.os:=by have b:=I6.os;rw[<-U]at b;exact b
   have free:H5 s3.heap.objs.size=none:=by have b:=I6.free;rw[yL]at b;exact b
   have hok:JX X.prog X.w H5 s6.heap:=by have b:=I6.hok;rw[yP,yW]at b;exact b
   have I7:Inv X qp σ H5 s6:=Inv.call' (s':=s6) (ch:=fp) I3 os base hok I6.bare λb hb=>⟨(N b hb).2.2.2.1,(N b hb).2.1,(N b hb).2.2.2.2.1,(N b hb).2.2.2.2.2⟩;have np:f∉(io++y)++Q:=nD nk5;rw[Am]at exs;subst exs;have SA:=adopt S5 hvs np Rvs;have X6:Ext io (y++Q) H H5:=X1.trans S1 X25;have lt3:X.env.locals<s3.heap.objs.size:=I3.lt;refine kf f s3.heap.objs.size H5 s6 ⟨I7,⟨mm,hn⟩,free,A0 lt3,I3.sz,λx cc e z=>?_,λp hp z=>?_,?_⟩
   ·obtain⟨vv,q⟩:=I3.cell x cc e;have:=q.lt;rw[z]at this;exact A4 _ this
   ·have:=An (I3.pin p hp).1;rw[z]at this;exact A4 _ this
   refine⟨(y++Q)++[f],⟨λb o hb nb=>X6.keep b o hb nb,λb hb=>?_,X6.frz⟩,(by simpa using SA),⟨f,rfl,?_⟩⟩
   ·rcases W1.mp hb with hb|hb
    ·exact X6.fresh b hb
    ·rw[On.mp hb]
     cases q:H f with
     |none=>rfl
     |some o=>
      by_cases hb:f∈io
      ·exact absurd (BL _ hb) hio
      have:=X1.keep f o q hb;rw[hD]at this;cases this
   have:=getElem?_len ((io++y)++Q) f;rw[<-S5.len];simpa using this
  |some dd=>
   have hl:i<W.ds.length:=(KB.mp hd).1;have hdr:W.ds.drop i=dd::W.ds.drop (i+1):=by rw[DX hl,(KB.mp hd).2]
   rw[hdr]at L;obtain⟨hw,L⟩:=JJ L;obtain⟨⟨ρ6,t6⟩,e6,L⟩:=Hu L;obtain⟨⟨b7,t7⟩,e7,L⟩:=Hu L;obtain⟨go,yl⟩:=IO.go i dd H5 Q st5 hd X25 S5 (T8 hw);have hit:=T.item Y yP yW yK yC i [] s5 σ5 H5 FF I5 (start I5 fr5) tn5 go;rw[yA]at hit;refine HA hit ?_;rintro r s6 ⟨u,hr,h6⟩;subst hr;refine HA h6 ?_;rintro _ s7 ⟨x,H7,I7,r7,y7,tn7,fr7⟩;obtain⟨X7,S7,R7⟩:=yl x H7 y7;have X57:Ext (io++y) Q H1 H7:=(X25.trans S5 X7).app;have hv7:H7 f=some (.lst M):=X7.keep _ _ hvs (nD nk5);have E7:Hy X.K H7 ((io++y)++Q) σ5 ρ5:=by have:=E5.ext S5 X7;rw[Am]at this;exact this
   have R7v:Hh X.K H7 ((io++y)++Q) M ac:=by have:=Rvs.ext S5 X7;rw[Am]at this;exact this
   have I7p:=I7.pinned (start I7 fr7) (T.obj _ _ tn7);rw[<-yA,<-yP,<-yW];rw[<-yx];refine HA (hg _ s7 σ5 H7 x u (λσ8 H8=>∃B,Ext ((io++y)++Q) B H7 H8/\Hv X.K H8 (((io++y)++Q)++B) t6/\Hy X.K H8 (((io++y)++Q)++B) σ8 ρ6) I7p r7 (by rw[yK];exact⟨dd,ρ5,st5,(io++y)++Q,ρ6,t6,R7,E7,S7,e6,λσ8 H8 B X8 S8 E8=>⟨B,X8,S8,E8⟩⟩)) ?_;rintro _ s8 ⟨σ8,H8,I8,B,X8,S8,E8⟩;have S8':Hv X.K H8 ((io++y)++(Q++B)) t6:=by rw[<-Ao];exact S8
   have E8':Hy X.K H8 ((io++y)++(Q++B)) σ8 ρ6:=by rw[<-Ao];exact E8
   have X38:Ext (io++y) (Q++B) H1 H8:=X57.trans S7 X8;have nk8:f∉Q++B:=λhm=>(W1.mp hm).elim nk5 (nF X8 hv7);refine HA (ht _ s8 σ8 H8 (λb H9=>b=b7/\∃G,Ext ((io++y)++(Q++B)) G H8 H9/\Hv X.K H9 (((io++y)++(Q++B))++G) t7) I8 (by rw[yK];exact⟨ρ6,t6,(io++y)++(Q++B),b7,t7,E8',S8',e7,λH9 G X9 S9=>⟨rfl,G,X9,S9⟩⟩)) ?_;rintro ok s9 ⟨H9,I9,eb,G,X9,S9⟩;subst eb;have X39:Ext (io++y) ((Q++B)++G) H1 H9:=X38.trans S8' X9;have S9':Hv X.K H9 ((io++y)++((Q++B)++G)) t7:=by rw[<-Ao];exact S9
   have E9:Hy X.K H9 ((io++y)++((Q++B)++G)) σ8 ρ6:=by have:=E8'.ext S8' X9;rw[Ao]at this;exact this
   have hv8:H8 f=some (.lst M):=X8.keep _ _ hv7 (nD nk5);have hv9:H9 f=some (.lst M):=X9.keep _ _ hv8 (nD nk8);have nk9:f∉(Q++B)++G:=λhm=>(W1.mp hm).elim nk8 (nF X9 hv8);have R8v:Hh X.K H8 ((io++y)++(Q++B)) M ac:=by have:=R7v.ext S7 X8;rw[Ao]at this;exact this
   have R9v:Hh X.K H9 ((io++y)++((Q++B)++G)) M ac:=by have:=R8v.ext S8' X9;rw[Ao]at this;exact this
   have back:∀{Hx:Hp}{sx:Shared}{σx:L2.St},Inv Y ([]++Tc fp s7.heap) σx Hx sx->Inv Y [] σx Hx sx/\tn (i+1) sx.heap/\∀b∈fp,Hx b=none:=λ{Hx sx σx} Ix=>by refine⟨Ix.unpinned,T.keep _ _ _ tn7 λb hb o e=>(Ix.pin (b,o) (AV _ (AV _ (V0 hb e)))).1,λb hb=>?_⟩;obtain⟨o,e,dn⟩:=T.obj _ _ tn7 b hb;exact(Ix.pin (b,o) (AV _ (AV _ (V0 hb e)))).2.1
   cases ok with
   |false=>
    rw[if_neg (by decide)];have L:Kt W g c m (W.ds.drop (i+1)) ρ6 t7=some (rs,t2):=L;obtain⟨Ib,tnb,frb⟩:=back I9;exact⟨W.ds.length-(i+1),by omega,i+1,σ8,H9,ρ6,t7,(Q++B)++G,ac,rs,rfl,Ib,tnb,frb,X39,nk9,S9',E9,⟨M,hv9,R9v⟩,L,exs⟩
   |true=>
    rw[if_pos rfl];have L:((m ρ6 t7).bind λ(x,s3)=>(Kt W g c m (W.ds.drop (i+1)) ρ6 s3).map λ(xs,s4)=>(x::xs,s4))=some (rs,t2):=L;obtain⟨⟨x10,t10⟩,e10,L⟩:=Hu L;obtain⟨⟨rs',t11⟩,e11,L⟩:=ID L;cases L;refine HA (he _ s9 σ8 H9 (λv l=>∃F,Ext ((io++y)++((Q++B)++G)) F H9 l/\Hv X.K l (((io++y)++((Q++B)++G))++F) t10/\Rep X.K l (((io++y)++((Q++B)++G))++F) v x10) I9
     (by rw[yK];exact⟨ρ6,t7,(io++y)++((Q++B)++G),x10,t10,E9,S9',e10,λv l F X10 S10 R10=>⟨F,X10,S10,R10⟩⟩)) λu10 s10 ⟨v10,l,I10,r10,F,X10,S10,R10⟩=>?_
    have X310:Ext (io++y) (((Q++B)++G)++F) H1 l:=X39.trans S9' X10;have nk10:f∉((Q++B)++G)++F:=λhm=>(W1.mp hm).elim nk9 (nF X10 hv9);have S10':Hv X.K l ((io++y)++(((Q++B)++G)++F)) t10:=by rw[<-Ao];exact S10
    have hv10:l f=some (.lst M):=X10.keep _ _ hv9 (nD nk9);have E10:Hy X.K l ((io++y)++(((Q++B)++G)++F)) σ8 ρ6:=by have:=E9.ext S9' X10;rw[Ao]at this;exact this
    have R10v:Hh X.K l ((io++y)++(((Q++B)++G)++F)) (M++[v10]) (ac++[x10]):=by have a:=R9v.ext S9' X10;rw[Ao]at a;rw[Ao]at R10;exact a.append (Hh.cons R10 Hh.nil)
    have hlen:M.length<sizeLine:=by rw[R9v.length];have:=of_decide_eq_true hfit;rw[exs]at this;simp at this;omega
    refine HA (gH _ s10 σ8 l (.ref f) [v10] (.ref f) [u10] (λ_ H11=>H11=upd l f (.lst (M++[v10]))) I10 rfl (.cons r10 .nil) ⟨f,M,v10,rfl,rfl,hv10,hlen,rfl⟩) ?_;rintro _ s11 ⟨_,H11,I11,_,e11'⟩;subst e11';have nD10:=nD nk10;have XU:∀b o,l b=some o->b≠f->upd l f (.lst (M++[v10])) b=some o:=λb o hb hn=>by rw[HR hn];exact hb
    have TU:Kp l (upd l f (.lst (M++[v10]))):=⟨λa ys hb=>XU a _ hb (OS hb hv10 (by simp)),λa o u hb=>XU a _ hb (OS hb hv10 (by simp))⟩
    have S11:Hv X.K (upd l f (.lst (M++[v10]))) ((io++y)++(((Q++B)++G)++F)) t10:=by refine⟨S10'.len,S10'.nd,λn a ob h1 h2=>?_⟩;have hne:a≠f:=λz=>nD10 (by rw[<-z];exact AK h1);have:=OR.mono (ka:=[]) TU (HR hne) (S10'.ob n a ob h1 h2);rw[Am]at this;exact this
    have mono0:∀{v:V}{d:D},Rep X.K l ((io++y)++(((Q++B)++G)++F)) v d->Rep X.K (upd l f (.lst (M++[v10]))) ((io++y)++(((Q++B)++G)++F)) v d:=λ{v d} h=>by have:=Rep.mono (ka:=[]) TU h;rw[Am]at this;exact this
    have mono1:∀{v:List V}{d:List D},Hh X.K l ((io++y)++(((Q++B)++G)++F)) v d->Hh X.K (upd l f (.lst (M++[v10]))) ((io++y)++(((Q++B)++G)++F)) v d:=λ{v d} h=>by have:=Hh.mono (ka:=[]) TU h;rw[Am]at this;exact this
    obtain⟨Ib,tnb,frb⟩:=back I11;refine⟨W.ds.length-(i+1),by omega,i+1,σ8,upd l f (.lst (M++[v10])),ρ6,t10,((Q++B)++G)++F,ac++[x10],rs',rfl,Ib,tnb,frb,⟨λb o hb nb=>XU b o (X310.keep b o hb nb) (λz=>by rw[z,hD]at hb;cases hb),X310.fresh,λb o u hb=>XU b _ (X310.frz b o u hb) (λz=>by rw[z,hD]at hb;cases hb)⟩,nk10,S11,⟨E10.len,λj dj hj=>?_⟩,⟨_,KQ,mono1 R10v⟩,e11,by rw[exs,Ao];rfl⟩;obtain⟨v,q,r⟩:=E10.at_ j dj hj;exact⟨v,q,mono0 r⟩
 have l4:=loop s4 I4 tn4;exact codeAny_compStart_list l4 (T.self _ 0 _ _ _ tn4 l4)
def LV(f:X.xe=FF)(h:X.calm=true)(Z:Ki X scope N' nt fr)(hi:SI X tg iter mi)(i:∀C s0 a fp,SG (M7 X scope N' (M6 X scope C) C s0 a fp) tg g) (j:∀C s0 a fp,SC (M7 X scope N' (M6 X scope C) C s0 a fp) ifs c) (he:∀C s0 a fp,SE (M7 X scope N' (M6 X scope C) C s0 a fp) elt m)(n:∀x,foldedSetIterable iter X.env x=pure x:=by intro _;rfl):SE X (.ListComp elt [⟨tg,iter,ifs,0⟩] scope pos) (Jl mi nt fr g c m):=by
 rintro qp s σ H Q I ⟨ρ,st,io,d,st',E,S,e,k⟩;rw[eval_ListComp];refine dU (use:=none) f h Z hi i j he n I E S e λu C w A R=>?_;obtain⟨W,r⟩:=R.ns;refine⟨W,r,λF l=>?_⟩;obtain⟨ka,v,y,z⟩:=R.val;exact⟨.ref u,w,R.inv.turned (t':=A.toks) (it:=C) (λb o B q=>(l.2 b B).trans q) R.free R.ne (.inr R.young) R.cells R.pin,rfl,k _ _ ka v y z⟩
def jS{i:Nat}{x:Str}{j:Pos}(J:X.xe=FF)(K:X.calm=true)(Z:Ki X scope N' nt fr)(hi:SI X r iter mi)(L:∀C s0 n fp,SG (M7 X scope N' (M6 X scope C) C s0 n fp) r g) (M:∀C s0 n fp,SC (M7 X scope N' (M6 X scope C) C s0 n fp) ifs c) (he:∀C s0 n fp,SE (M7 X scope N' (M6 X scope C) C s0 n fp) elt m)(T:X.N.Nodup) (y:X.N[i]?=some x) (F:X.env.scope.names.lookup x=some .local)(B:swapsWith (.ListComp elt [⟨r,iter,ifs,0⟩] scope pos) (some<|.Name x pos') j.line X.env=pure true:=by rfl)(U:∀x,foldedSetIterable iter X.env x=pure x:=by intro _;rfl):SS X (.Assign [.Name x pos'] (.ListComp elt [⟨r,iter,ifs,0⟩] scope pos) j) (Hm (Jl mi nt fr g c m)<|Ho i):=by
 intro qp s σ H N I h;obtain⟨ρ,st,io,f,st',E,S,e,w⟩:=Mr.mp h;obtain⟨⟨d,s1⟩,Y,e⟩:=Hu e;obtain⟨⟨ρ',s2⟩,e2,e⟩:=ID e;cases e;cases e2;rw[exec_Assign_Name_used _ _ _ _ B];refine Ab<|BC<|Ab ?_;show wpAny _ X.A (do let _ <-comprehension (.ListComp elt [⟨r,iter,ifs,0⟩] scope pos) scope X.env _ (newList []) false (UV iter X.env) (some<|assign (.Name x pos') X.env)) _ _ s;refine Ab<|HA (dU (use:=some (assign (.Name x pos') X.env)) (Qf:=λ_ Q=>SP X qp N .next Q) J K Z hi L M he U I E S Y λW C H5 s6 R=>?_) λ_ Q hq=>Ae (Ae hq);obtain⟨m5,hn⟩:=R.ns;obtain⟨ka,G,S5,R5⟩:=R.val;show wpAny _ _ (assign (.Name x pos') X.env<|.ref W) _ _ _;refine Fz<|iL (v:=.ref W) R.inv T y (.inl F) rfl (?_)<|.inr F;rintro s7 I7 ⟨a,sb,ha⟩;have l:C≠a:=λz=>by
  rcases ha with q|q
  ·exact R.ne<|z.trans q
  exact R.cells _ _ q z.symm
 refine⟨m5,hn.sameBut sb l,λh' u=>?_⟩;refine⟨_,H5,I7.turned (t':=s7.toks) (it:=C) (λb o hb q=>(u.2 b hb).trans q) R.free R.ne (.inr R.young) R.cells R.pin,?_⟩;exact w _ _ ka G S5<|(E.ext S G).set i R5
end
variable {v:V}
def Ht:G2
 |.int i,.int j,st=>some (.int (i+j),st)
 |.str a,.str b,st=>if fits (a.length+b.length)=true then some (.str (a++b),st)else none
 |.tup a,.tup b,st=>if(!a.isEmpty&&fits (a.length+b.length))=true then some (.tup (a++b),st)else none
 |.ref a,.ref b,st=>match st[a]?,st[b]? with
  |some (.lst x),some (.lst y)=>if fits (x.length+y.length)=true then some (.ref st.length,st++[.lst (x++y)])else none
  |_,_=>none
 |_,_,_=>none
def JK:Jv X (binaryOp .Add) Ht:=by
 rintro qp s σ H x y v u Q I rx A ⟨h,E,st,io,d,st',W,a,S,e,k⟩;cases h with
 |int i=>
  cases E with
  |int j=>cases e;exact qJ qp s σ H x y v u Q I rx A ⟨i,j,W,a,k.now S rfl⟩
  |_=>cases e
 |str i=>
  cases E with
  |str j=>
   obtain⟨hf,e⟩:=JJ e;cases e;exact zkq qp s σ H x y v u Q I rx A ⟨i,j,W,a,of_decide_eq_true hf,k.now S rfl⟩
  |_=>cases e
 |tup i=>
  cases E with
  |tup j=>
   obtain⟨hf,e⟩:=JJ e;cases e;rw[Ag]at hf;obtain⟨p,xs,ex,l,o⟩:=W;obtain⟨q,c,f,g,w⟩:=a;refine sZ qp s σ H x y v u Q I rx A ⟨p,q,xs,c,ex,f,Jg.of l,Jg.of g,λz=>?_,by rw[o.length,w.length];exact of_decide_eq_true hf.2,λz=>?_,λz p l=>k.tup S (o.append w) l⟩
   ·have:=o.length;rw[z]at this;have:i=[]:=Ba this.symm;rw[this]at hf;exact absurd hf.1<|by decide
   have:=w.length;rw[z]at this;have:j=[]:=Ba this.symm;subst this;rw[Am]at k;exact k.now S ⟨p,xs,rfl,l,o⟩
  |_=>cases e
 |ref i=>
  cases E with
  |ref j=>
   unfold Ht at e;dsimp only at e;split at e
   ·rename_i C F m n;obtain⟨hf,e⟩:=JJ e;cases e;obtain⟨p,ex,l⟩:=W;obtain⟨q,f,g⟩:=a;obtain⟨xs,r,o⟩:=S.ob i p _ l m;obtain⟨c,B,w⟩:=S.ob j q _ g n;exact qK qp s σ H x y v u Q I rx A ⟨p,q,xs,c,ex,f,r,B,by rw[o.length,w.length];exact of_decide_eq_true hf,λp l=>k.lst S (o.append w) l⟩
   ·cases e
  |_=>cases e
 |_=>cases e
def intD(c:Int->Int->Bool)(g:Int->Int->D):G2
 |.int i,.int j,st=>if c i j=true then some (g i j,st)else none
 |_,_,_=>none
def Tz{f:GM->GM->Sem GM}{C:Int->Int->Prop}{c:Int->Int->Bool}{g:Int->Int->Int}(h:Kg X f (rI C λi j=>.int (g i j)))(a:∀i j,c i j=true->C i j):Jv X f (intD c λi j=>.int (g i j)):=by
 rintro qp s σ H x y v u Q I rx l ⟨o,w,st,io,d,st',A,E,S,e,k⟩;cases o with
 |int i=>
  cases w with
  |int j=>
   obtain⟨hf,e⟩:=JJ e;cases e;exact h qp s σ H x y v u Q I rx l ⟨i,j,A,E,a i j hf,k.now S rfl⟩
  |_=>cases e
 |_=>cases e
def Zo:Int->Int->Bool:=λ_ _=>true
def KC:G2:=intD Zo λi j=>.int<|i-j
def TC:Jv X (binaryOp .Sub) KC:=Tz (C:=λ_ _=>True) (λqp s σ H x y v u Q I rx l ⟨i,j,o,w,_,q⟩=>oQ qp s σ H x y v u Q I rx l ⟨i,j,o,w,q⟩) λ_ _ _=>trivial
def J4(i:Int):Bool:=decide (-(2^64)<i)&&decide (i<2^64)
def KZ:G2:=intD (λi j=>J4 i || J4 j) λi j=>.int<|i*j
def tM:Jv X (binaryOp .Mult) KZ:=Tz oP λi j h=>by
 rw[Cj]at h;unfold J4 at h;rw[Ag,Ag]at h;rcases h with h|h
 ·exact .inl ⟨of_decide_eq_true h.1,of_decide_eq_true h.2⟩
 exact .inr ⟨of_decide_eq_true h.1,of_decide_eq_true h.2⟩
def KG:G2:=intD (λ_ j=>decide (0<j)) λi j=>.int<|i % j
def TB:Jv X (binaryOp .Mod) KG:=Tz oO λi j h=>of_decide_eq_true h
def HG(g:Int->Int->Bool):G2
 |.int i,.int j,st=>some (.bl (g i j),st)
 |_,_,_=>none
def Vq{f:GM->GM->Sem GM}{g:Int->Int->Bool}(h:Kg X f (PN λi j=>.bl (g i j))):Jv X f (HG g):=by
 rintro qp s σ H x y v u Q I rx l ⟨o,w,st,io,d,st',A,E,S,e,k⟩;cases o with
 |int i=>
  cases w with
  |int j=>cases e;exact h qp s σ H x y v u Q I rx l ⟨i,j,A,E,k.now S rfl⟩
  |_=>cases e
 |_=>cases e
def Ik:G2:=HG λi j=>decide (i<j)
def HV:G2:=HG λi j=>decide (i<=j)
def IV:G2:=HG λi j=>decide (j<i)
def Jp:G2:=HG λi j=>decide (j<=i)
def NZ:Jv X (Pv .Lt) Ik:=Vq mE
def LU:Jv X (Pv .LtE) HV:=Vq mD
def RH:Jv X (Pv .Gt) IV:=Vq mC
def bA:Jv X (Pv .GtE) Jp:=Vq lZ
def Pg:D->Bool
 |.non=>true
 |_=>false
def OB:G2:=λx y st=>match y with
 |.non=>some (.bl (Pg x),st)
 |_=>none
def aD:G2:=λx y st=>match y with
 |.non=>some (.bl !Pg x,st)
 |_=>none
def cI(h:Rep K H io v d):decide (v=.non)=Pg d:=by
 cases d with
 |non=>cases (show v=.non from h);rfl
 |bl b=>cases (show v=.bl b from h);rfl
 |int b=>cases (show v=.int b from h);rfl
 |str b=>cases (show v=.str b from h);rfl
 |tup b=>obtain⟨a,xs,rfl,_⟩:=h;rfl
 |ref b=>obtain⟨a,rfl,_⟩:=h;rfl
 |kl b=>obtain⟨a,xs,rfl,_⟩:=h;rfl
 |fn b=>obtain⟨a,rfl,_⟩:=h;rfl
 |er b c f=>cases f<;>(obtain⟨_,_,_,_,h⟩:=h;first|(obtain⟨rfl,_⟩:=h;rfl)|(obtain⟨_,rfl,_⟩:=h;rfl)|(obtain⟨_,_,rfl,_⟩:=h;rfl))
def XH:Jv X (Pv .Is) OB:=by
 rintro qp s σ H x y v u Q I rx l ⟨E,o,st,io,d,st',w,A,S,e,k⟩;cases o with
 |non=>
  cases e;refine qL qp s σ H x y v u Q I rx l ⟨A,?_⟩;rw[cI w];exact k.now S rfl
 |_=>cases e
def zC:Jv X (Pv .IsNot) aD:=by
 rintro qp s σ H x y v u Q I rx l ⟨E,o,st,io,d,st',w,A,S,e,k⟩;cases o with
 |non=>
  cases e;refine tN qp s σ H x y v u Q I rx l ⟨A,?_⟩;rw[cI w];exact k.now S rfl
 |_=>cases e
def Ny:D->Hf->Option (D×Hf)
 |.int i,st=>some (.int (-i),st)
 |_,_=>none
def Lh(m:ME):ME:=λρ st=>(m ρ st).bind λ(x,s)=>Ny x s
def To(c:SE X a ma):SE X (.UnaryOp .USub a pos) (Lh ma):=PE.imp (nB rX c) <| by
 rintro σ H Q ⟨ρ,st,io,d,st',E,S,e,k⟩;obtain⟨⟨x,s1⟩,l,e⟩:=Hu e;cases x with
 |int i=>
  cases e;exact⟨ρ,st,io,.int i,_,E,S,l,λv H1 o s u w=>⟨i,w,k _ H1 o s u rfl⟩⟩
 |_=>cases e
def Ln:G2
 |.tup ds,.int i,st=>(LH ds i).map λd=>(d,st)
 |.ref n,.int i,st=>(Il st n).bind λds=>(LH ds i).map λd=>(d,st)
 |.kl ds,.int i,st=>(LH ds i).map λd=>(d,st)
 |.str z,.int i,st=>if fits z.length=true then(LH z.cps.toList i).map λc=>(.str ⟨#[c]⟩,st)else none
 |_,_,_=>none
def XD{i:Int}(r:Hh K H io xs ds)(h:LH ds i=some d):∃v,LH xs i=some v/\Rep K H io v d:=by unfold LH at h ⊢;rw[r.length];obtain⟨j,l,h⟩:=Hu h;obtain⟨v,o,s⟩:=r.get h;exact⟨v,by rw[l];exact o,s⟩
def Z0:UP X (Us X.K Ln):=by
 rintro value slice qp s σ H x y v u Q I rx A ⟨h,j,st,io,d,st',E,W,S,e,k⟩ a;cases j with
 |int i=>
  cases h with
  |tup ds=>
   obtain⟨c,o,e⟩:=ID e;cases e;obtain⟨p,xs,ex,f,r⟩:=E;obtain⟨w,hw,l⟩:=XD r o;exact Kk value slice qp s σ H x y v u Q I rx A ⟨p,xs,i,w,ex,W,Jg.of f,hw,k.now S l⟩ a
  |ref n=>
   obtain⟨ds,m,e⟩:=Hu e;obtain⟨c,o,e⟩:=ID e;cases e;obtain⟨p,ex,f⟩:=E;obtain⟨xs,g,r⟩:=LX S f m;obtain⟨w,hw,l⟩:=XD r o;exact dM value slice qp s σ H x y v u Q I rx A ⟨p,xs,i,w,ex,W,g,hw,k.now S l⟩ a
  |kl ds=>
   obtain⟨c,o,e⟩:=ID e;cases e;obtain⟨p,xs,ex,g,r⟩:=E;obtain⟨w,hw,l⟩:=XD r o;exact dM value slice qp s σ H x y v u Q I rx A ⟨p,xs,i,w,ex,W,g.sq,hw,k.now S l⟩ a
  |str z=>
   obtain⟨hf,e⟩:=JJ e;obtain⟨c,o,e⟩:=ID e;cases e;exact Ti value slice qp s σ H x y v u Q I rx A ⟨z,i,c,E,W,of_decide_eq_true hf,o,k.now S rfl⟩ a
  |_=>cases e
 |_=>cases h<;>cases e
def nK(c:SE X a ma)(e:SE X b mb)(f:XA b:=by intro _ _;rfl):SE X (.Subscript a b pos) (mB Ln ma mb):=PE.imp (oJ Z0 c e f) λ_ _ _ h=>VL h
def Hl:GN
 |[.tup ds],st=>some (.int ds.length,st)
 |[.ref n],st=>(Il st n).map λds=>(.int ds.length,st)
 |[.kl ds],st=>some (.int ds.length,st)
 |[.str z],st=>if fits z.length=true then some (.int z.length,st)else none
 |_,_=>none
def JG:Kz X (.builtin "len") Hl:=by
 rintro qp s σ H xs us Q I r ⟨ds,st,io,d,st',R,S,e,k⟩;cases ds with
 |nil=>cases e
 |cons x E=>
 cases E with
 |cons a l=>cases x<;>cases e
 |nil=>
 cases x with
 |tup A=>
  cases e;obtain⟨v,rfl,p,o,rfl,u,l⟩:=R.one;refine Y4 qp s σ H _ us Q I r ⟨p,o,rfl,.inr<|Jg.of u,?_⟩;rw[l.length];exact k.now S rfl
 |ref n=>
  obtain⟨A,W,e⟩:=ID e;cases e;obtain⟨v,rfl,p,rfl,u⟩:=R.one;obtain⟨o,w,l⟩:=LX S u W;refine Y4 qp s σ H _ us Q I r ⟨p,o,rfl,.inl w,?_⟩;rw[l.length];exact k.now S rfl
 |kl A=>
  cases e;obtain⟨v,rfl,p,o,rfl,w,l⟩:=R.one;refine Y4 qp s σ H _ us Q I r ⟨p,o,rfl,.inl w.sq,?_⟩;rw[l.length];exact k.now S rfl
 |str z=>
  obtain⟨hf,e⟩:=JJ e;cases e;obtain⟨v,rfl,rfl⟩:=R.one;exact zhW qp s σ H _ us Q I r ⟨z,rfl,of_decide_eq_true hf,k.now S rfl⟩
 |_=>cases e
def HF:GN
 |[.int i],st=>some (.int i,st)
 |[.bl b],st=>some (.int (if b then 1 else 0),st)
 |_,_=>none
def T3:Kz X (.type "int") HF:=by
 rintro qp s σ H xs us Q I r ⟨ds,st,io,d,st',R,S,e,k⟩;cases ds with
 |nil=>cases e
 |cons l o=>
 cases o with
 |cons u w=>cases l<;>cases e
 |nil=>
 cases l with
 |int i=>
  cases e;obtain⟨v,rfl,rfl⟩:=R.one;exact gX qp s σ H _ us Q I r<|.inl ⟨i,rfl,k.now S rfl⟩
 |bl b=>
  cases e;obtain⟨v,rfl,rfl⟩:=R.one;exact gX qp s σ H _ us Q I r<|.inr ⟨b,rfl,k.now S rfl⟩
 |_=>cases e
def OI:GN
 |[.int i],st=>some (.int (if i<0 then -i else i),st)
 |_,_=>none
def zne:Kz X (.builtin "abs") OI:=by
 rintro qp s σ H xs us Q I r ⟨ds,st,io,d,st',R,S,e,k⟩;cases ds with
 |nil=>cases e
 |cons l o=>
 cases o with
 |cons u w=>cases l<;>cases e
 |nil=>
 cases l with
 |int i=>
  cases e;obtain⟨v,rfl,rfl⟩:=R.one;exact xO qp s σ H _ us Q I r ⟨i,rfl,k.now S rfl⟩
 |_=>cases e
def Pl:GN
 |[.int i,.int j],st=>some (.int (if j > i then j else i),st)
 |_,_=>none
def SD:GN
 |[.int i,.int j],st=>some (.int (if j<i then j else i),st)
 |_,_=>none
def gZ(a:X.calm=true):Kz X (.builtin "max") Pl:=by
 rintro qp s σ H xs us Q I r ⟨ds,st,io,d,st',R,S,e,k⟩;unfold Pl at e;split at e
 ·rename_i i j;cases e;obtain⟨v,u,rfl,rfl,rfl⟩:=R.two;exact znc a qp s σ H _ us Q I r ⟨i,j,rfl,k.now S rfl⟩
 ·cases e
def zna(a:X.calm=true):Kz X (.builtin "min") SD:=by
 rintro qp s σ H xs us Q I r ⟨ds,st,io,d,st',R,S,e,k⟩;unfold SD at e;split at e
 ·rename_i i j;cases e;obtain⟨v,u,rfl,rfl,rfl⟩:=R.two;exact znb a qp s σ H _ us Q I r ⟨i,j,rfl,k.now S rfl⟩
 ·cases e
def LR:GN
 |[.tup ds],st=>some (.tup ds,st)
 |[.ref n],st=>(Il st n).map λds=>(.tup ds,st)
 |_,_=>none
def PD:Kz X (.type "tuple") LR:=by
 rintro qp s σ H xs us Q I r ⟨ds,st,io,d,st',R,S,e,k⟩;cases ds with
 |nil=>cases e
 |cons x A=>
 cases A with
 |cons f o=>cases x<;>cases e
 |nil=>
 cases x with
 |tup E=>
  cases e;obtain⟨v,rfl,p,u,rfl,w,o⟩:=R.one;exact jZ qp s σ H _ us Q I r ⟨p,u,rfl,.inr ⟨Jg.of w,k.now S ⟨p,u,rfl,w,o⟩⟩⟩
 |ref n=>
  obtain⟨E,W,e⟩:=ID e;cases e;obtain⟨v,rfl,p,rfl,w⟩:=R.one;obtain⟨u,a,o⟩:=LX S w W;exact jZ qp s σ H _ us Q I r ⟨p,u,rfl,.inl ⟨a,λl c=>k.tup S o c⟩⟩
 |_=>cases e
def KW(f:D->Option PyData):List D->Option (List PyData)
 |[]=>some []
 |d::ds=>(f d).bind λp=>(KW f ds).map λps=>p::ps
def Jj:Nat->Hf->D->Option PyData
 |0,_,_=>none
 |n+1,st,d=>match d with
  |.non=>some .none
  |.bl b=>some<|.bool b
  |.int i=>some<|.int i
  |.str x=>if Ap x=true then some (.str x)else none
  |.tup ds=>(KW (Jj n st) ds).map .tuple
  |.ref k=>(Il st k).bind λds=>(KW (Jj n st) ds).map .list
  |.kl _=>none
  |.fn _=>none
  |.er _ _ _=>none
theorem YW{n:Nat}:∀{ps:List PyData},(∀p∈ps,p.depth<=n)->Ei ps<=n
 |[],_=>by rw[Ei];exact Bo _
 |p::ps,h=>by rw[Ei];exact Nat.max_le.mpr ⟨h p Al,YW λq a=>h q (Ak _ a)⟩
def jE{ps:List PyData}:(∀p∈ps,p.canLay0=true)->Cq ps=true:=by
 induction ps with
 |nil=>intro _;simp only[Cq]
 |cons p ps l=>
  intro h;simp only[Cq];rw[h p Al,l λq o=>h q (Ak _ o)];rfl
theorem Yh{f:D->Option PyData}:∀{ds:List D}{ps:List PyData},KW f ds=some ps->∀p∈ps,∃d,f d=some p
 |[],ps,h,p,hp=>by cases h;exact absurd hp<|by simp
 |d::ds,ps,h,p,hp=>by
  obtain⟨q,a,h⟩:=Hu h;obtain⟨o,l,h⟩:=ID h;subst h;rcases KM.mp hp with rfl|hp
  ·exact⟨d,a⟩
  exact Yh l p hp
theorem OX:∀{n:Nat}{st:Hf}{d:D}{p:PyData},Jj n st d=some p->p.canLay0=true/\p.depth<=n
 |0,_,_,_,h=>by cases h
 |n+1,st,d,p,h=>by
  cases d with
  |non=>cases h;exact⟨by simp only[BR],by simp only[CQ];exact Bo _⟩
  |bl b=>cases h;exact⟨by simp only[BR],by simp only[CQ];exact Bo _⟩
  |int b=>cases h;exact⟨by simp only[BR],by simp only[CQ];exact Bo _⟩
  |str b=>
   obtain⟨a,h⟩:=JJ h;cases h;exact⟨by simp only[BR];exact a,by simp only[CQ];exact Bo _⟩
  |tup ds=>
   obtain⟨o,e,h⟩:=ID h;subst h;have q:∀p∈o,p.canLay0=true/\p.depth<=n:=λp l=>let ⟨d,hd⟩:=Yh e p l;OX hd;exact⟨by simp only[BR];exact jE λp l=>(q p l).1,by simp only[CQ];exact Dc (YW λp l=>(q p l).2)⟩
  |kl ds=>cases h
  |fn ds=>cases h
  |er _ _ _=>cases h
  |ref k=>
   obtain⟨ds,s,h⟩:=Hu h;obtain⟨o,e,h⟩:=ID h;subst h;have q:∀p∈o,p.canLay0=true/\p.depth<=n:=λp l=>let ⟨d,hd⟩:=Yh e p l;OX hd;exact⟨by simp only[BR];exact jE λp l=>(q p l).1,by simp only[CQ];exact Dc (YW λp l=>(q p l).2)⟩
theorem Y8{f:D->Option PyData}(hf:∀{v:V}{u:GM}{d:D}{p:PyData},Rep X.K H io v d->RelV v u->f d=some p->∃as,Reads s.heap u p as):
  ∀{xs:List V}{us:List GM}{ds:List D}{ps:List PyData},Hh X.K H io xs ds->Vals xs us->KW f ds=some ps->∃as,ReadsAll s.heap us ps as
 |_,_,[],ps,h,r,e=>by
  cases (show _=[] from h)
  cases r;cases e;exact⟨_,.nil⟩
 |_,_,d::ds,ps,h,r,e=>by
  obtain⟨y,g,rfl,a,c⟩:=h;cases r with
  |cons l o=>
   obtain⟨q,w,e⟩:=Hu e;obtain⟨Q,x,e⟩:=ID e;subst e;obtain⟨as,A⟩:=hf a l w;obtain⟨bs,E⟩:=Y8 hf c o x;exact⟨_,.cons A E⟩
theorem O5(I:Inv X qp σ H s)(S:Hv X.K H io st):∀{n:Nat}{v:V}{u:GM}{d:D}{p:PyData},Rep X.K H io v d->RelV v u->Jj n st d=some p->∃as,Reads s.heap u p as
 |0,_,_,_,_,_,_,h=>by cases h
 |n+1,v,u,d,p,h,r,e=>by
  cases d with
  |non=>cases e;cases (show v=.non from h);cases r;exact⟨_,.none⟩
  |bl b=>cases e;cases (show v=.bl b from h);cases r;exact⟨_,.bool _⟩
  |int b=>cases e;cases (show v=.int b from h);obtain⟨t,rfl⟩:=r;exact⟨_,.int _ _⟩
  |str b=>
   obtain⟨m,e⟩:=JJ e;cases e;cases (show v=.str b from h);obtain⟨t,rfl⟩:=r;exact⟨_,.str _ _⟩
  |tup ds=>
   obtain⟨c,l,q⟩:=ID e;subst q;obtain⟨a,xs,rfl,w,rs⟩:=h;cases r;obtain⟨x,A,⟨o,E,Q,k,hd⟩,g⟩:=I.tuple<|Jg.of w;obtain⟨as,W⟩:=Y8 (f:=Jj n st) (λh r e=>O5 I S h r e) rs A l;exact⟨_,.tuple E Q hd<|by simpa using W⟩
  |kl ds=>cases e
  |fn ds=>cases e
  |er _ _ _=>cases e
  |ref k=>
   obtain⟨ds,i,e⟩:=Hu e;obtain⟨c,l,q⟩:=ID e;subst q;obtain⟨a,rfl,w⟩:=h;cases r;obtain⟨xs,j,rs⟩:=LX S w i;obtain⟨x,A,⟨o,k,E,Q,_,hd⟩,g⟩:=I.list j;obtain⟨as,W⟩:=Y8 (f:=Jj n st) (λh r e=>O5 I S h r e) rs A l;exact⟨_,.list E Q hd<|by simpa using W⟩
def Ie:G2:=λx y st=>(Jj 100 st x).bind λp=>(Jj 100 st y).map λq=>(.bl (Bb p q),st)
def IS:G2:=λx y st=>(Jj 100 st x).bind λp=>(Jj 100 st y).map λq=>(.bl !PyData.eqv p q,st)
def JY(a:X.A.units+100<cLine):Jv X (Pv .Eq) Ie:=by rintro qp s σ H x y v u Q I rx E ⟨i,j,st,io,d,st',W,c,S,e,k⟩;obtain⟨p,l,e⟩:=Hu e;obtain⟨q,o,e⟩:=ID e;cases e;obtain⟨as,f⟩:=O5 I S W rx l;obtain⟨bs,g⟩:=O5 I S c E o;have w:=OX l;have h:=OX o;exact PySem.SeqAt.compareEq_reads f g w.1 h.1 (BZ (Dy (Ar (F9 _ _) w.2) _) a) ⟨.bl _,H,I,rfl,k.now S rfl⟩
def Mm(a:X.A.units+100<cLine):Jv X (Pv .NotEq) IS:=by rintro qp s σ H x y v u Q I rx E ⟨i,j,st,io,d,st',W,c,S,e,k⟩;obtain⟨p,l,e⟩:=Hu e;obtain⟨q,o,e⟩:=ID e;cases e;obtain⟨as,f⟩:=O5 I S W rx l;obtain⟨bs,g⟩:=O5 I S c E o;have w:=OX l;have h:=OX o;exact PySem.SeqAt.compareNe_reads f g w.1 h.1 (BZ (Dy (Ar (F9 _ _) w.2) _) a) ⟨.bl _,H,I,rfl,k.now S rfl⟩
def Iu(a:HK k A):A.units+100<cLine:=by have:=a.un;omega
variable {t':Nat}
section
variable {h':KF}
def Inv.turnNew{fp:List Addr}{o:HO}(I:Inv X qp σ H s)(hf:∀b∈fp,K2 X qp H b)(k:∀b ob,b∉fp->s.heap.get? b=some ob->h'.get? b=some ob)(f:s.heap.objs.size<=p)(g:∀b∈fp,∀ob,s.heap.get? b=some ob->∃a,h'.get? b=some a) (new:Kw X.prog X.w (upd H p o) h' p o):Inv X qp σ (upd H p o) {s with heap:=h',toks:=t'}:=by
 have l:=I.hok.fresh f;have A:∀b ob,s.heap.get? b=some ob->b≠p:=λb ob e=>Aw<|Ay (An e) f;refine Inv.step (ch:=fp) (g':=s.gens) (d':=s.drawn) I (λb x=>⟨(hf b x).2.2.2.1,(hf b x).2.1,(hf b x).2.2.2.2.1,(hf b x).2.2.2.2.2⟩) (λb ob _ _ hc e _=>k b ob hc e) (λb ob _ _ hc e _=>⟨ob.slots,k b ob hc e⟩)
  (λb ob hc e n=>by rw[HR (A b ob e)];exact n) (λb ob hc e=>⟨ob,k b ob hc e⟩) (λb xs e=>by rw[HR (Ka e l)];exact e) (λb ob u e=>by rw[HR (Ka e l)];exact e)
  (λb i e=>⟨#[],by rw[HR (Ka e l),e];simp⟩) (λm hm=>?_) (λb u e=>?_) I.bare
 ·obtain⟨ob,Q,W,h,r⟩:=hm;exact⟨ob,Q,W,k _ ob (λz=>(hf _ z).2.1 rfl) h,r⟩
 ·by_cases x:b=p
  ·subst x;rw[KQ]at e;cases e;exact new
  ·rw[HR x]at e;refine(I.hok b u e).stay (λc v hc q=>k c v (λz=>?_) q) (λc q=>by rw[HR (Ka q l)];exact q) λc xs q=>by rw[HR (Ka q l)];exact q
   have E:=(hf c z).1;rcases hc with rfl|hc
   ·rw[E]at e;cases e
   rw[E]at hc;cases hc
def Inv.turnAll{fp:List Addr}(I:Inv X qp σ H s)(hf:∀b∈fp,K2 X qp H b)(k:∀b ob,b∉fp->s.heap.get? b=some ob->h'.get? b=some ob):Inv X qp σ H {s with heap:=h',toks:=t'}:=by
 refine Inv.step (ch:=fp) (g':=s.gens) (d':=s.drawn) I (λb l=>⟨(hf b l).2.2.2.1,(hf b l).2.1,(hf b l).2.2.2.2.1,(hf b l).2.2.2.2.2⟩) (λb ob _ _ hc e _=>k b ob hc e) (λb ob _ _ hc e _=>⟨ob.slots,k b ob hc e⟩)
  (λb ob hc e n=>n) (λb ob hc e=>⟨ob,k b ob hc e⟩) (λb xs e=>e) (λb ob u e=>e)
  (λb E e=>⟨#[],by rw[e];simp⟩) (λm hm=>?_) (λb u e=>?_) I.bare
 ·obtain⟨ob,w,x,A,r⟩:=hm;exact⟨ob,w,x,k _ ob (λz=>(hf _ z).2.1 rfl) A,r⟩
 ·refine(I.hok b u e).stay (λc v hc q=>k c v (λz=>?_) q) (λc q=>q) λc xs q=>q;have o:=(hf c z).1
  rcases hc with rfl|hc
  ·rw[o]at e;cases e
  rw[o]at hc;cases hc
end
def boot_enumerate:UF "enumerate"=some (.type "enumerate"):=by decide +kernel
def pairs(ds:List D):List D:=(ds.zipIdx).map λ(d,k)=>.tup [.int (k:Nat),d]
def zmv{i:Nat}(h:(pairs ds)[i]?=some d):∃e,ds[i]?=some e/\d=.tup [.int (i:Nat),e]:=by
 unfold pairs at h;rw[AJ,List.getElem?_zipIdx]at h;cases e:ds[i]? with
 |none=>rw[e]at h;cases h
 |some x=>
  rw[e]at h;simp at h;exact⟨x,rfl,h.symm⟩
def pairs_len(ds:List D):(pairs ds).length=ds.length:=by unfold pairs;simp
section
variable {κ:Type} [DecidableEq κ]
def Kr(kvs:List (κ×D))(k:κ):Option D:=(kvs.find? λl=>decide (l.1=k)).map (·.2)
def putD(kvs:List (κ×D))(k:κ)(d:D):List (κ×D):=if(kvs.any λl=>decide (l.1=k))=true then kvs.map (λl=>if l.1=k then(l.1,d)else l)else kvs++[(k,d)]
def KR.any{ps:List (κ×V)}{kvs:List (κ×D)}(r:KR κ K H io ps kvs)(k:κ):(ps.any λa=>decide (a.1=k))=(kvs.any λa=>decide (a.1=k)):=by
 induction r with
 |nil=>rfl
 |cons z t l=>rw[Cb,Cb,l,z.1]
def KR.length{ps:List (κ×V)}{kvs:List (κ×D)}(r:KR κ K H io ps kvs):ps.length=kvs.length:=BP r
def KR.val{ps:List (κ×V)}{kvs:List (κ×D)}(r:KR κ K H io ps kvs)(k:κ):(Kr kvs k=none/\JZ ps k=none)\/∃d v,Kr kvs k=some d/\JZ ps k=some v/\Rep K H io v d:=by
 induction r with
 |nil=>exact .inl ⟨rfl,rfl⟩
 |@cons p q o s z t l=>
  unfold Kr JZ at *;rw[Bl,Bl,z.1];by_cases e:q.1=k
  ·rw[decide_eq_true e];exact .inr ⟨q.2,p.2,rfl,rfl,z.2⟩
  rw[decide_eq_false e];exact l
def KR.append{ps c:List (κ×V)}{kvs a:List (κ×D)}(r:KR κ K H io ps kvs)(e:KR κ K H io c a):KR κ K H io (ps++c) (kvs++a):=by
 induction r with
 |nil=>exact e
 |cons z t l=>exact .cons z l
def KR.put{ps:List (κ×V)}{kvs:List (κ×D)}(r:KR κ K H io ps kvs)(k:κ)(a:Rep K H io v d):KR κ K H io (putK ps k v) (putD kvs k d):=by
 unfold putK putD;rw[KR.any r k];by_cases e:(kvs.any λl=>decide (l.1=k))=true
 ·rw[if_pos e,if_pos e]
  induction r with
  |nil=>exact .nil
  |@cons p q u w z t s=>
   rw[Au,Au];have o:KR κ K H io (u.map λl=>if l.1=k then(l.1,v)else l) (w.map λl=>if l.1=k then(l.1,d)else l):=by
    clear s e
    induction t with
    |nil=>exact .nil
    |@cons p q u w z t s=>
     rw[Au,Au];refine .cons ?_ s;rw[z.1];by_cases e:q.1=k
     ·rw[if_pos e,if_pos e];exact⟨rfl,a⟩
     rw[if_neg e,if_neg e];exact z
   refine .cons ?_ o;rw[z.1];by_cases e:q.1=k
   ·rw[if_pos e,if_pos e];exact⟨rfl,a⟩
   rw[if_neg e,if_neg e];exact z
 rw[if_neg e,if_neg e];exact KR.append r<|.cons ⟨rfl,a⟩ .nil
end
def keyOf:D->Option Key
 |.int i=>some<|.inl i
 |.str x=>some<|.inr x
 |_=>none
def keysOf:List D->Option (List Key)
 |[]=>some []
 |d::ds=>(keyOf d).bind λk=>(keysOf ds).map λks=>k::ks
variable {y:V}{md mk:ME}
def T5{k:Key}(h:Rep K H io v d)(e:keyOf d=some k):v=kV k:=by
 cases d with
 |int i=>cases e;exact h
 |str i=>cases e;exact h
 |_=>cases e
theorem YZ:∀{xs:List V}{ds:List D}{ks:List Key},Hh K H io xs ds->keysOf ds=some ks->xs=ks.map kV
 |_,[],ks,h,e=>by cases e;exact h
 |_,d::ds,ks,h,e=>by obtain⟨y,f,rfl,a,c⟩:=h;obtain⟨k,l,e⟩:=Hu e;obtain⟨o,s,e⟩:=ID e;subst e;rw[T5 a l,YZ c s];rfl
def look(st:Hf)(n:Nat)(k:D):Option (Option D):=match st[n]? with
 |some (.dk l)=>(keyOf k).map λq=>Kr l q
 |some (.dt l)=>match k with
  |.tup ds=>(keysOf ds).map λq=>Kr l q
  |_=>none
 |_=>none
def fI{k:D}{r:Option D}(S:Hv K H io st)(a:io[n]?=some p)(c:Rep K H io y k)(h:look st n k=some r):∃o,J6 H p y o/\((r=none/\o=none)\/∃d v,r=some d/\o=some v/\Rep K H io v d):=by
 unfold look at h;split at h
 ·rename_i u e;obtain⟨q,w,h⟩:=ID h;subst h;obtain⟨E,x,r⟩:=S.ob n p _ a e;have Q:=T5 c w;subst Q;refine⟨_,J6.k x,?_⟩
  rcases KR.val r q with⟨l,s⟩|⟨d,v,l,s,A⟩
  ·exact .inl ⟨l,s⟩
  exact .inr ⟨d,v,l,s,A⟩
 ·rename_i u e
  split at h
  ·rename_i ds;obtain⟨q,w,h⟩:=ID h;subst h;obtain⟨E,x,r⟩:=S.ob n p _ a e;obtain⟨b,xs,rfl,W,rs⟩:=c;have ex:=YZ rs w;subst ex;refine⟨_,J6.t x W,?_⟩
   rcases KR.val r q with⟨l,s⟩|⟨d,v,l,s,A⟩
   ·exact .inl ⟨l,s⟩
   exact .inr ⟨d,v,l,s,A⟩
  ·cases h
 ·cases h
def G8(md mk:ME):ME:=λρ st=>(md ρ st).bind λ(d,s1)=>(mk ρ s1).bind λ(k,s2)=>match d with
 |.ref n=>(look s2 n k).bind λr=>r.map λv=>(v,s2)
 |_=>none
def wH(a:X.A.units+1<cLine)(c:SE X o md)(hi:SE X i mk)(f:P7 i:=by intro _ _;rfl):SE X (.Subscript o i pos) (G8 md mk):=PE.imp (tR a c hi f) <| by
 rintro σ H Q ⟨ρ,st,io,d,st',E,S,e,k⟩;obtain⟨⟨x,s1⟩,W,e⟩:=Hu e;obtain⟨⟨y,s2⟩,h,e⟩:=Hu e;cases x with
 |ref n=>
  obtain⟨r,j,e⟩:=Hu e;obtain⟨w,m,e⟩:=ID e;cases e;subst m;refine⟨ρ,st,io,_,s1,E,S,W,λv1 H1 q s u B=>⟨ρ,s1,io++q,y,_,E.ext S s,u,h,λv2 H2 J C l R2=>?_⟩⟩;obtain⟨p,rfl,F⟩:=B;obtain⟨o,g,⟨z,_⟩|⟨K,v,hd,G,I⟩⟩:=fI l (QN F) R2 j
  ·cases z
  ·cases hd;subst G;exact⟨p,v,rfl,g,((k.on u s).on l C).now l I⟩
 |_=>cases e
def MF(neg:Bool)(mk md:ME):ME:=λρ st=>(mk ρ st).bind λ(k,s1)=>(md ρ s1).bind λ(d,s2)=>match d with
 |.ref n=>(look s2 n k).map λr=>(.bl (if neg then !r.isSome else r.isSome),s2)
 |_=>none
def YC{neg:Bool}(h:tE K (MF neg mk md) σ H Q):tE K mk σ H λy H1=>tE K md σ H1 λx H2=>∃a o,x=.ref a/\J6 H2 a y o/\Q (.bl<|if neg then !o.isSome else o.isSome) H2:=by
 obtain⟨ρ,st,io,d,st',E,S,e,k⟩:=h;obtain⟨⟨y,s1⟩,A,e⟩:=Hu e;obtain⟨⟨x,s2⟩,W,e⟩:=Hu e;cases x with
 |ref n=>
  obtain⟨r,c,e⟩:=ID e;cases e;refine⟨ρ,st,io,y,s1,E,S,A,λv1 H1 f u l R1=>⟨ρ,s1,io++f,_,_,E.ext S u,l,W,λv2 H2 j w s R2=>?_⟩⟩;obtain⟨p,rfl,i⟩:=R2;obtain⟨o,g,z⟩:=fI s i (R1.ext l w) c;have:o.isSome=r.isSome:=by
   rcases z with⟨a,b⟩|⟨m,v,a,b,_⟩
   ·rw[a,b];rfl
   rw[a,b];rfl
  exact⟨p,o,rfl,g,by rw[this];exact((k.on l u).on s w).now s rfl⟩
 |_=>cases e
def sJ(a:X.A.units+1<cLine)(hi:SE X i mk)(c:SE X o md)(hm:behindInMarks .In o=false:=by rfl):SE X (.Compare i [.In] [o] pos) (MF false mk md):=PE.imp (oS (bF a hi c) hm) λσ H Q h=>YC h
variable {lo hi:Option PP}{apos cpos p2:Pos}
def sG(a:X.A.units+1<cLine)(hi:SE X i mk)(c:SE X o md)(hm:behindInMarks .In o=false:=by rfl):SB X (.Compare i [.In] [o] pos) (mT<|MF false mk md):=PT.imp (bQ (bF a hi c) hm) λσ H Q h=>YC (T7 h)
def zmj(a:X.A.units+1<cLine)(hi:SE X i mk)(c:SE X o md)(hm:behindInMarks .NotIn o=false:=by rfl):SB X (.Compare i [.NotIn] [o] pos) (mT<|MF true mk md):=PT.imp (bQ (zms a hi c) hm) λσ H Q h=>YC (T7 h)
def dput(st:Hf)(n:Nat)(k d:D):Option Hf:=match st[n]? with
 |some (.dk l)=>(keyOf k).bind λq=>if decide (l.length<sizeLine)=true then some (st.set n<|.dk<|putD l q d)else none
 |some (.dt l)=>match k with
  |.tup ds=>(keysOf ds).bind λq=>if decide (l.length<sizeLine)=true then some (st.set n<|.dt<|putD l q d)else none
  |_=>none
 |_=>none
def yB{k:D}(S:Hv K H io st)(c:io[n]?=some p)(f:Rep K H io y k)(g:Rep K H io v d)(h:dput st n k d=some st'):∃a,LJ H p y v a/\Ext io [] H a/\Hv K a (io++[]) st':=by
 unfold dput at h;split at h
 ·rename_i s e;obtain⟨q,w,h⟩:=Hu h;obtain⟨x,h⟩:=JJ h;cases h;obtain⟨E,l,r⟩:=S.ob n p _ c e;have Q:=T5 f w;subst Q;have:=KR.length r;refine⟨_,LJ.k l (by rw[this];exact of_decide_eq_true x),?_⟩;exact RI S c e (λo u z=>by rw[l]at z;cases z) λa T A=>⟨_,A,KR.put (KR.mono T r) q<|Rep.mono T g⟩
 ·rename_i s e
  split at h
  ·rename_i ds;obtain⟨q,w,h⟩:=Hu h;obtain⟨x,h⟩:=JJ h;cases h;obtain⟨E,l,r⟩:=S.ob n p _ c e;obtain⟨b,xs,rfl,W,rs⟩:=f;have ex:=YZ rs w;subst ex;have:=KR.length r;refine⟨_,LJ.t l W (by rw[this];exact of_decide_eq_true x),?_⟩;exact RI S c e (λo u z=>by rw[l]at z;cases z) λa T A=>⟨_,A,KR.put (KR.mono T r) q<|Rep.mono T g⟩
  ·cases h
 ·cases h
def UW(md mk a:ME):MS:=λρ st=>(a ρ st).bind λ(v,s1)=>(md ρ s1).bind λ(d,s2)=>(mk ρ s2).bind λ(k,s3)=>match d with
 |.ref n=>(dput s3 n k v).map λs4=>(.nx ρ,s4)
 |_=>none
def vA{value:PP}{a:ME}(q:X.A.units+1<cLine)(r:SE X o md)(hi:SE X i mk)(z:SE X value a)(B:swapsWith value (some<|.Subscript o i pos') pos.line X.env=pure false:=by rfl):
  SS X (.Assign [.Subscript o i pos'] value pos) (UW md mk a):=PS.imp (vP q r hi z B) λN σ H h=>by
 obtain⟨ρ,st,io,f,st',E,S,e,w⟩:=Mr.mp h;obtain⟨⟨v,s1⟩,C,e⟩:=Hu e;obtain⟨⟨d,s2⟩,F,e⟩:=Hu e;obtain⟨⟨k,s3⟩,G,e⟩:=Hu e;cases d with
 |ref n=>
  obtain⟨s4,I,e⟩:=ID e;cases e;refine⟨ρ,st,io,v,s1,E,S,C,λv1 H1 y s l R1=>⟨ρ,s1,io++y,_,s2,E.ext S s,l,F,λv2 H2 c u x R2=>⟨ρ,s2,(io++y)++c,k,s3,(E.ext S s).ext l u,x,G,λZ J K Q W L=>?_⟩⟩⟩;obtain⟨p,rfl,M⟩:=R2;obtain⟨j,g,m,T⟩:=yB W (QN M) L ((R1.ext l u).ext x Q) I;refine⟨p,j,rfl,g,?_⟩;have U:∀σ' Y kb,Ext (((io++y)++c)++K) kb J Y->_:=Qc (Qc (Qc w s l) u x) Q W;exact U σ j [] m T<|(((E.ext S s).ext l u).ext x Q).ext W m
 |_=>cases e
def UU(t:Bool):ME:=λ_ st=>some (.ref st.length,st++[if t then .dt []else .dk []])
def yJ:SE X (.Dict [] [] pos) (UU true):=PE.imp zF <| by
 rintro σ H Q ⟨ρ,st,io,d,st',E,S,e,k⟩;cases e;intro p l;obtain⟨s,u⟩:=Tg (o:=.dT []) (ob:=.dt []) S l λv T e=>⟨[],e,.nil⟩;exact k _ _ [p] s u ⟨p,rfl,by rw[<-S.len];exact getElem?_len io p⟩
inductive Sh (K:Ac) (g:D->List D->Hf->Option (D×Hf)) (x:V) (xs:List V) (H:Hp) (Q:VK):Prop
 |mk (dx:D) (ds:List D) (st:Hf) (io:List Addr) (d:D) (st':Hf) (h0:Rep K H io x dx) (h1:Hh K H io xs ds) (h2:Hv K H io st) (h3:g dx ds st=some (d,st')) (h4:Bh K io H st' d Q)
def Qd:D->List D->Hf->Option (D×Hf):=λx xs st=>match x,xs with
 |.ref n,[d]=>match st[n]? with
  |some (.lst ds)=>if decide (ds.length<sizeLine)=true then some (.non,st.set n (.lst<|ds++[d]))else none
  |_=>none
 |_,_=>none
def append_in{ds:List D}{xs:List D}(h:Qd (.ref n) xs st=some (d,st')):∃ds x,st[n]?=some (.lst ds)/\xs=[x]/\ds.length<sizeLine/\d=.non/\st'=st.set n (.lst<|ds++[x]):=by
 unfold Qd at h
 match xs,h with
 |[x],h=>
  dsimp only at h;split at h
  ·rename_i ds e;obtain⟨l,h⟩:=JJ h;cases h;exact⟨ds,x,e,rfl,of_decide_eq_true l,rfl,rfl⟩
  ·cases h
 |[],h=>cases h
 |_::_::_,h=>cases h
def zkE:Ss X "list.append" (Sh X.K Qd):=by
 rintro qp s σ H x xs v us Q I rx rs ⟨c,ds,st,io,d,st',f,Rs,S,e,k⟩;cases c with
 |ref n=>
  obtain⟨l,y,A,rfl,g,rfl,rfl⟩:=append_in (ds:=[]) e;obtain⟨p,rfl,E⟩:=f;obtain⟨w,rfl,h⟩:=Rs.one;obtain⟨W,a,r⟩:=S.ob n p _ E A;refine gH qp s σ H _ _ v us Q I rx rs ⟨p,W,w,rfl,rfl,a,by rw[r.length];exact g,?_⟩;obtain⟨i,j⟩:=RI (o:=.lst (W++[w])) (ob:=.lst (l++[y])) S E A (λo u z=>by rw[a]at z;cases z) λq T m=>⟨_,m,(Hh.mono T r).append<|Hh.cons (Rep.mono T h) Hh.nil⟩
  exact k _ _ [] i j rfl
 |_=>unfold Qd at e;cases ds<;>cases e
def znZ{l:List D}(R:Rep K H io v (.ref n))(S:Hv K H io st)(h:Il st n=some l):Zn K "list" v H:=by obtain⟨p,rfl,o⟩:=R;obtain⟨xs,s,_⟩:=LX S o h;exact .inl ⟨rfl,xs,s⟩
def Lk(m:ME)(a:MA):ME:=λρ st=>(m ρ st).bind λ(x,s1)=>match x with
 |.ref n=>(Il s1 n).bind λ_=>(a ρ s1).bind λ(xs,s2)=>Qd x xs s2
 |_=>none
def T6(h:SE X o m)(i:SA X (e::es) mm)(c:attributeBase o "append" X.env (UV o X.env)=UV o X.env:=by rfl)(g:((backTo cpos<|SL (e::es) X.env).all (λx=>!x.1)&&(backToKw cpos<|keywordEach [] X.env).all (λx=>x.1.isSome)
   &&decide ((e::es).length+([]:List Keyword).length+(if([]:List Keyword).isEmpty then 0 else 1)<30))=true:=by rfl)
  (f:(apos.endLine==cpos.line)=true:=by rfl) (j:Qqb X.env e es:=by rfl) (a:Qqc cpos es X.env:=by rfl):
  SE X (.Call (.Attribute o "append" apos) (e::es) [] cpos) (Lk m mm):=
 PE.imp (WQ PySem.F.plainAttrs_list PySem.F.slot_list_append PySem.F.type_list_append zkE h i c g f j a) <| by
  rintro σ H Q ⟨ρ,st,io,d,st',E,S,e,k⟩;obtain⟨⟨x,s1⟩,A,e⟩:=Hu e;cases x with
  |ref n=>
   obtain⟨l,W,e⟩:=Hu e;obtain⟨⟨xs,s2⟩,q,e⟩:=Hu e;refine⟨ρ,st,io,_,s1,E,S,A,λv1 H1 u v s R1=>⟨znZ R1 s W,ρ,s1,io++u,xs,s2,E.ext S v,s,q,λz H2 r w y R2=>?_⟩⟩;exact⟨_,xs,s2,(io++u)++r,d,st',R1.ext s w,R2,y,e,(k.on s v).on y w⟩
  |_=>cases e
noncomputable abbrev MO:=HX->Hf->Option (Option Int×Hf)
inductive tOm (K:Ac) (m:MO) (σ:L2.St) (H:Hp) (Q:Option Int->Hp->Prop):Prop
 |mk (ρ:HX) (st:Hf) (io:List Addr) (d:Option Int) (st':Hf) (h1:Hy K H io σ ρ) (h2:Hv K H io st) (h3:m ρ st=some (d,st')) (h4:∀H' ka,Ext io ka H H'->Hv K H' (io++ka) st'->Q d H')
def SO(X:Cx)(e:Option PP)(m:MO):Prop:=PO X e<|tOm X.K m
def Jw:MO:=λ_ st=>some (none,st)
def IW(m:ME):MO:=λρ st=>(m ρ st).bind λ(d,s)=>match d with
 |.int i=>some (some i,s)
 |_=>none
def LO:SO X none Jw:=λqp s σ H Q I ⟨ρ,st,io,d,st',E,S,e,k⟩=>wN qp s σ H Q I (by cases e;exact k H [] Ext.refl S.nil)
def La(h:SE X e m):SO X (some e) (IW m):=λqp s σ H Q I ⟨ρ,st,io,d,st',E,S,e,k⟩=>wO h qp s σ H Q I (by
 obtain⟨⟨x,s1⟩,l,e⟩:=Hu e;cases x with
 |int i=>
  cases e;exact⟨ρ,st,io,_,_,E,S,l,λv1 H1 o u v w=>⟨i,w,k H1 o u v⟩⟩
 |_=>cases e)
def cutD(xs:List D)(lo hi:Option Int):List D:=(xs.drop<|HT.HN xs.length 0 lo).take<|HT.HN xs.length xs.length hi-HT.HN xs.length 0 lo
def Xv(r:Hh K H io xs ds)(lo hi:Option Int):Hh K H io (Md xs lo hi) (cutD ds lo hi):=by unfold Md cutD;rw[r.length];exact(r.drop _).take _
def Qk:D->Option Int->Option Int->Hf->Option (D×Hf):=λx lo hi st=>match x with
 |.tup ds=>if(decide (HT.HN ds.length 0 lo=0)&&decide (HT.HN ds.length ds.length hi=ds.length))=true then none else some (.tup (cutD ds lo hi),st)
 |.ref n=>(Il st n).map λds=>(.ref st.length,st++[.lst (cutD ds lo hi)])
 |_=>none
def kS(m:ME)(l h:MO):ME:=λρ st=>(m ρ st).bind λ(x,s1)=>(l ρ s1).bind λ(lo,s2)=>(h ρ s2).bind λ(hi,s3)=>Qk x lo hi s3
def ZN(K:Ac):V->Option Int->Option Int->Hp->VK->Prop:=λx lo hi H Q=>Uq K x lo hi H Q\/Ur K x lo hi H Q
def ZH:So X (ZN X.K):=by
 intro qp s σ H x v l o lo hi u Q I rx w pl pu h;rcases h with h|h
 ·exact Xi qp s σ H x v l o lo hi u Q I rx w pl pu h
 exact cM qp s σ H x v l o lo hi u Q I rx w pl pu h
def yM{a c:MO}(he:SE X e m)(j:SO X lo a)(B:SO X hi c):SE X (.Subscript e (.Slice lo hi none p2) pos) (kS m a c):=PE.imp (VF ZH he j B) <| by
 rintro σ H Q ⟨ρ,st,io,d,st',E,S,e,k⟩;obtain⟨⟨x,s1⟩,C,e⟩:=Hu e;obtain⟨⟨l,s2⟩,F,e⟩:=Hu e;obtain⟨⟨o,s3⟩,G,e⟩:=Hu e;refine⟨ρ,st,io,x,s1,E,S,C,λv1 H1 f v s R1=>⟨ρ,s1,io++f,l,s2,E.ext S v,s,F,λH2 I w y=>⟨ρ,s2,(io++f)++I,o,s3,(E.ext S v).ext s w,y,G,λL M g u=>?_⟩⟩⟩;have h:=(R1.ext s w).ext y g;have i:=((k.on s v).on y w).on u g;cases x with
 |tup ds=>
  have e:(if(decide (HT.HN ds.length 0 l=0)&&decide (HT.HN ds.length ds.length o=ds.length))=true then none else some (D.tup (cutD ds l o),s3))=some (d,st'):=e;by_cases hw:(decide (HT.HN ds.length 0 l=0)&&decide (HT.HN ds.length ds.length o=ds.length))=true
  ·rw[if_pos hw]at e;cases e
  rw[if_neg hw]at e;cases e;obtain⟨p,xs,rfl,A,r⟩:=h;refine .inl ⟨p,xs,rfl,Jg.of A,λz=>hw ?_,λq W=>i.tup u (Xv r _ _) W⟩;rw[r.length]at z;rw[Ag];exact⟨decide_eq_true z.1,decide_eq_true z.2⟩
 |ref n=>
  obtain⟨ds,J,e⟩:=ID e;cases e;obtain⟨p,rfl,A⟩:=h;obtain⟨xs,K,r⟩:=LX u A J;exact .inr ⟨p,xs,rfl,K,λq W=>i.lst u (Xv r _ _) W⟩
 |_=>cases e
def Ro:G2:=intD (λ_ j=>decide (0<j)&&decide (j<2^128)) λi j=>.int<|i / j
def Yt:Jv X (binaryOp .FloorDiv) Ro:=Tz (C:=λi j=>0<j/\j<2^128) (Wy λi j _ _ _ _ _ o q=>by
 refine floordiv_int (by omega) (by rw[Int.fdiv_eq_ediv_of_nonneg i (by omega)];exact q)<|.inl<|PyProof.noPylong_of_log2 ?_;have h0:j.natAbs≠0:=by omega
 have l:j.natAbs<2^128:=by omega
 exact Cu ((Nat.log2_lt h0).mpr l) (by decide)) λi j h=>by rw[Ag]at h;exact⟨of_decide_eq_true h.1,of_decide_eq_true h.2⟩
def LB:G2:=intD (λi j=>decide (0<=j)&&decide ((Builtin.Int.intBits i:Int)*j<=2^27)) λi j=>.int<|i^j.toNat
def XI:Jv X (binaryOp .Pow) LB:=Tz (C:=λi j=>0<=j/\(Builtin.Int.intBits i:Int)*j<=2^27) (Wy λi j _ _ _ _ _ l q=>pow_int l.1 l.2 q) λi j h=>by rw[Ag]at h;exact⟨of_decide_eq_true h.1,of_decide_eq_true h.2⟩
def IX(t T:String):Bool:=t==T || (t=="bool"&&T=="int")
def sorts:List String:=["NoneType","bool","int","str","tuple","list","dict"]
def kinds:List String:=["bool","int","str","tuple","list","dict"]
variable {t:String}
def uI(a:t∈sorts)(c:T∈kinds):Gh K (.type t) (.type T)=some (IX t T):=by
 have all:∀t∈sorts,∀T∈kinds,Gh K (.type t) (.type T)=some (IX t T):=by
  intro t a T c;simp only[sorts,kinds,Br,BG,or_false]at a c;rcases a with rfl|rfl|rfl|rfl|rfl|rfl|rfl<;>rcases c with rfl|rfl|rfl|rfl|rfl|rfl<;>rfl
 exact all t a T c
def tyName(st:Hf):D->Option String
 |.non=>some "NoneType"
 |.bl _=>some "bool"
 |.int _=>some "int"
 |.str _=>some "str"
 |.tup _=>some "tuple"
 |.ref n=>match st[n]? with
  |some (.lst _)=>some "list"
  |some (.fz _)=>some "list"
  |some (.dk _)=>some "dict"
  |some (.dt _)=>some "dict"
  |some .dz=>some "dict"
  |_=>none
 |.kl _=>none
 |.fn _=>none
 |.er _ _ _=>none
def fE(I:Inv X qp σ H s)(h:Kf X.K H p xs):DN p "list" s.heap:=by obtain⟨l,_,⟨o,n,e,c,_,_⟩,_⟩:=I.list h;exact⟨o,e,c⟩
def zmM{ps:List (Key×V)}(I:Inv X qp σ H s)(h:H p=some (.dK ps)):DN p "dict" s.heap:=by obtain⟨_,_,_,_,o,_,_,e,ex,_⟩:=I.hok p _ h;exact⟨o,e,ex.1⟩
def zmL{ps:List (List Key×V)}(I:Inv X qp σ H s)(h:H p=some (.dT ps)):DN p "dict" s.heap:=by obtain⟨_,_,_,_,o,_,_,e,ex,_⟩:=I.hok p _ h;exact⟨o,e,ex.1⟩
def qC(I:Inv X qp σ H s)(h:H p=some (.ext<|kY p)):DN p "dict" s.heap:=by obtain⟨⟨o,_,_,e,ex,_⟩,_⟩:=I.hok p _ h;exact⟨o,e,ex.1⟩
def uE{u:GM}{Q:Qqa}(I:Inv X qp σ H s)(S:Hv X.K H io st)(R:Rep X.K H io v d)(r:RelV v u)(a:tyName st d=some t)(g:T∈kinds)(q:∀h,Q (.bool<|IX t T) {s with toks:=h}):wpAny (IR X.prog X.w) X.A (call (.builtin "isinstance") [u,.type T]) Q E s:=by
 have k:=λ{x:GM}{f:KF->Prop} (i:t∈sorts) (Z:PySem.W.KitX X.K x (.type t) f) (p:f s.heap) (j:x≠.builtin "__main__.__loader__#opaque")=>PySem.W.kia_one (prog:=X.prog) (w:=X.w) (A:=X.A) (E:=E) Z I.kIn p (uI i g) j q;cases d with
 |non=>cases a;cases (show v=.non from R);cases r;exact k (by decide) PySem.W.kitx_none trivial (by intro e;cases e)
 |bl b=>cases a;cases (show v=.bl b from R);cases r;exact k (by decide) PySem.W.kitx_bool trivial (by intro e;cases e)
 |int b=>cases a;cases (show v=.int b from R);obtain⟨t,rfl⟩:=r;exact k (by decide) PySem.W.kitx_int trivial (by intro e;cases e)
 |str b=>cases a;cases (show v=.str b from R);obtain⟨t,rfl⟩:=r;exact k (by decide) PySem.W.kitx_str trivial (by intro e;cases e)
 |tup ds=>
  cases a;obtain⟨p,xs,rfl,l,_⟩:=R;cases r;obtain⟨m,_,⟨o,e,c,_⟩,_⟩:=I.tuple<|Jg.of l;exact k (by decide) PySem.W.kitx_tuple ⟨o,e,c⟩ (by intro e;cases e)
 |ref n=>
  obtain⟨p,rfl,l⟩:=R;cases r;unfold tyName at a;dsimp only at a;split at a
  ·rename_i o e;cases a;obtain⟨xs,y,_⟩:=S.ob n p _ l e;exact k (by decide) FH (fE I<|Kf.of y) (by intro e;cases e)
  ·rename_i o e;cases a;obtain⟨ob,xs,y,_⟩:=S.ob n p _ l e;exact k (by decide) FH (fE I<|.inl<|.inr ⟨ob,y⟩) (by intro e;cases e)
  ·rename_i o e;cases a;obtain⟨xs,y,_⟩:=S.ob n p _ l e;exact k (by decide) DU (zmM I y) (by intro e;cases e)
  ·rename_i o e;cases a;obtain⟨xs,y,_⟩:=S.ob n p _ l e;exact k (by decide) DU (zmL I y) (by intro e;cases e)
  ·rename_i e;cases a;exact k (by decide) DU (qC I<|S.ob n p _ l e) (by intro e;cases e)
  ·cases a
 |kl ds=>cases a
 |fn ds=>cases a
 |er _ _ _=>cases a
def ZS(K:Ac)(T:String):List V->Hp->VK->Prop:=λxs H Q=>∃x d st io t,xs=[x,.ty T]/\Rep K H io x d/\Hv K H io st/\tyName st d=some t/\Q (.bl<|IX t T) H
def xQ(a:T∈kinds):NL X (.builtin "isinstance") (ZS X.K T):=by rintro qp s σ H xs us Q I r ⟨x,d,st,io,t,e,R,S,o,q⟩;subst e;obtain⟨u,w,rfl,v,l⟩:=r.two;cases l;exact uE I S R v o a λy=>⟨.bl _,H,I.tok y,rfl,q⟩
def IY(T:String)(m:ME):ME:=λρ st=>(m ρ st).bind λ(x,s)=>(tyName s x).map λt=>(.bl (IX t T),s)
def sM{x y:Str}{p:Pos}(r:T∈kinds)(z:Gl X "isinstance")(hm:X.mg "isinstance"=none)(B:SE X a m)(c:Gl X y)(f:X.mg y=none)(g:UF y=some (.type T))(h:y≠"__name__":=by decide)(i:(y==("__debug__":Str))=false:=by decide)(q:SL [a,.Name y p2] X.env=(false,UV a X.env)::SL [.Name y p2] X.env:=by rfl) (j:SL [.Name y p2] X.env=[(false,UV (.Name y p2) X.env)]:=by rfl) (n:(backTo pos<|SL [.Name y p2] X.env).any (·.1)=false:=by rfl):
  SE X (.Call (.Name "isinstance" p) [a,.Name y p2] [] pos) (IY T m):=
 PE.imp (fC (xQ r) z hm (by decide +kernel) (XN B (XN (tP (v:=.ty T) c f g rfl h i) bE j) q) (by decide) (by decide) q n) <| by rintro σ H Q ⟨ρ,st,io,d,st',E,S,e,k⟩;obtain⟨⟨x,s1⟩,s,e⟩:=Hu e;obtain⟨t,u,e⟩:=ID e;cases e;exact⟨ρ,st,io,x,_,E,S,s,λv1 H1 l w o A=>⟨v1,x,_,io++l,t,rfl,A,o,u,k _ H1 l w o rfl⟩⟩
theorem YX{α:Type}{le:α->α->Prop}:∀{c f:List α},c.Perm f->c.Pairwise le->f.Pairwise le->(∀a∈c,∀b∈c,le a b->le b a->a=b)->c=f
 |[],f,p,_,_,_=>(List.Perm.nil_eq p)
 |a::c,[],p,_,_,_=>absurd p.symm (by intro h;have:=h.length_eq;simp at this)
 |a::c,b::f,p,i,j,an=>by
  obtain⟨m,g⟩:=List.pairwise_cons.mp i;obtain⟨hb,l⟩:=List.pairwise_cons.mp j;have e:a=b:=by
   have o:a∈b::f:=p.mem_iff.mp Al;have s:b∈a::c:=p.mem_iff.mpr Al;rcases KM.mp o with q|q
   ·exact q
   ·rcases KM.mp s with r|r
    ·exact r.symm
    exact an a Al b (Ak _ r) (m b r)<|hb a q
  subst e;rw[YX ((List.perm_cons a).mp p) g l λx u y v=>an x (Ak _ u) y (Ak _ v)]
def sle(a b:Str):Bool:=!decide (b.cps.toList<a.cps.toList)
def O3(ss:List Str):List Str:=ss.mergeSort sle
def Py{a b:Str}(h:a.cps.toList=b.cps.toList):a=b:=by
 obtain⟨x⟩:=a;obtain⟨y⟩:=b;have:x=y:=by have l:x.toList=y.toList:=h;exact Array.toList_inj.mp l
 rw[this]
def iI(a b:Str):(sle a b || sle b a)=true:=by
 unfold sle;rw[Cj,Bv,Bv,decide_eq_false_iff_not,decide_eq_false_iff_not];by_cases h:b.cps.toList<a.cps.toList
 ·exact .inr<|List.lt_asymm h
 exact .inl h
def YO(a b c:Str)(e:sle a b=true)(f:sle b c=true):sle a c=true:=by unfold sle at *;rw[Bv,decide_eq_false_iff_not]at *;have e:a.cps.toList<=b.cps.toList:=e;have f:b.cps.toList<=c.cps.toList:=f;exact List.le_trans e f
def fS{a b:Str}(c:sle a b=true)(e:sle b a=true):a=b:=by unfold sle at *;rw[Bv,decide_eq_false_iff_not]at *;exact Py<|List.le_antisymm c e
theorem jQ:∀{ss:List Str}{p:Str},risingS p ss=true->(p::ss).Pairwise λa b=>sle a b=true
 |[],p,_=>by simp
 |s::ss,p,h=>by
  have h':(!ltCps s.cps.toList p.cps.toList&&risingS s ss)=true:=h;rw[Ag]at h';have o:=jQ h'.2;have l:sle p s=true:=by have:=h'.1;rw[ltCps_eq]at this;exact this
  refine List.pairwise_cons.mpr ⟨λx hx=>?_,o⟩;rcases KM.mp hx with rfl|hx
  ·exact l
  exact YO _ _ _ l<|(List.pairwise_cons.mp o).1 x hx
variable {ss:List Str}
def zgH{e:List Str}(p:e.Perm ss)(h:sortedS e=true):e=O3 ss:=by
 have l:e.Pairwise λa b=>sle a b=true:=by
  cases e with
  |nil=>exact C3
  |cons x r=>exact jQ h
 refine YX (p.trans (CH ss sle).symm) l (B9 (λa b c=>YO a b c) iI ss) λa _ b _=>fS
variable {r:List D}
def strsOf:List D->Option (List Str)
 |[]=>some []
 |.str x::r=>(strsOf r).map λxs=>x::xs
 |_=>none
def ziV(h:strsOf (d::r)=some ss):∃x xs,d=.str x/\strsOf r=some xs/\ss=x::xs:=by
 cases d with
 |str x=>
  obtain⟨xs,e,h⟩:=ID h;exact⟨x,xs,rfl,e,h.symm⟩
 |_=>cases h
def YY(ss:List Str):strsOf (ss.map D.str)=some ss:=by
 induction ss with
 |nil=>rfl
 |cons x r l=>show(strsOf<|r.map D.str).map _=_;rw[l];rfl
theorem Yf:∀{xs:List V}{us:List GM}{ds:List D}{ss:List Str},Hh K H io xs ds->Vals xs us->strsOf ds=some ss->StrsAre us ss
 |_,_,[],ss,h,r,e=>by cases (show _=[] from h);cases r;cases e;exact .nil
 |_,_,d::ds,ss,h,r,e=>by
  obtain⟨y,f,rfl,a,c⟩:=h;obtain⟨x,rest,rfl,l,rfl⟩:=ziV e;cases r with
  |cons o s=>
   cases (show y=.str x from a)
   obtain⟨t,rfl⟩:=o;exact .cons x t<|Yf c s l
theorem YQ:∀{us:List GM}{ss:List Str},StrsAre us ss->Vals (ss.map V.str) us
 |_,_,.nil=>.nil
 |_,_,.cons y t r=>.cons ⟨t,rfl⟩<|YQ r
def iN(ss:List Str):Hh K H io (ss.map V.str) (ss.map D.str):=by
 induction ss with
 |nil=>exact rfl
 |cons x r l=>exact Hh.cons rfl l
def UA(h:n<64):n<=sizeLine:=Ar (B3 h)<|by decide
def QI:GN
 |[.ref n],st=>(Il st n).bind λds=>(strsOf ds).bind λss=>if decide (ss.length<64)=true then some (.ref st.length,st++[.lst ((O3 ss).map D.str)])else none
 |_,_=>none
def zg8:Kz X (.builtin "sorted") QI:=by
 rintro qp s σ H xs us Q I r ⟨ds,st,io,d,st',R,S,e,k⟩;unfold QI at e;split at e
 ·rename_i n;obtain⟨G,c,e⟩:=Hu e;obtain⟨ss,f,e⟩:=Hu e;obtain⟨y,e⟩:=JJ e;cases e;have y:=of_decide_eq_true y;obtain⟨v,rfl,p,rfl,g⟩:=R.one;obtain⟨u,rfl,h⟩:=r.one;cases h;obtain⟨J,i,j⟩:=LX S g c;obtain⟨x,E,pl,K⟩:=I.list i;have W:=Yf j E f;have hlen:x.length=ss.length:=by
   have L:=E.length;have m:=(YQ W).length;rw[Af]at m;omega
  refine sorted_strs pl.isList W (by omega) λout ss' a1 a2 z=>?_;have B:=zgH a2 z;obtain⟨C,A⟩:=sortedAll_at s.heap x out;have F:=YQ a1;have l:H (s.heap.objs.size+1)=none:=I.hok.fresh<|Bj _;have w:(ss'.map V.str).length<=sizeLine:=by rw[Af,a2.length_eq];exact UA y
  refine⟨.ref<|s.heap.objs.size+1,upd H (s.heap.objs.size+1)<|.lst<|ss'.map V.str,I.laid (t':=s.toks) (a:=s.heap.objs.size+1) (λb o q=>sortedAll_old q) (Bj _) ⟨w,out.toList,C,F,by simpa using A⟩,rfl,?_⟩;rw[B]at *;exact k.lst S (iN _) l
 ·cases e
def Ph:D->List D->Hf->Option (D×Hf):=λx xs st=>match x,xs with
 |.str z,[.ref n]=>(Il st n).bind λds=>(strsOf ds).bind λss=>if decide ((ss.map (·.length)).sum+ss.length*z.length<=16777216)=true then some (.str (Txt.join z ss),st)else none
 |_,_=>none
def zZ:Ss X "str.join" (Sh X.K Ph):=by
 rintro qp s σ H x xs v us Q I rx rs ⟨h,ds,st,io,d,st',l,Rs,S,e,k⟩;unfold Ph at e;split at e
 ·rename_i z n;obtain⟨i,o,e⟩:=Hu e;obtain⟨ss,r,e⟩:=Hu e;obtain⟨y,e⟩:=JJ e;cases e
  cases (show x=.str z from l)
  obtain⟨t,rfl⟩:=rx;obtain⟨w,rfl,p,rfl,A⟩:=Rs.one;obtain⟨u,rfl,E⟩:=rs.one;cases E;obtain⟨j,W,a⟩:=LX S A o;obtain⟨c,f,pl,m⟩:=I.list W;exact join_list pl.isList (Yf a f r) (of_decide_eq_true y) λt' g=>⟨.str _,H,I.tok g,⟨t',rfl⟩,k.now S rfl⟩
 ·cases e
def OQ(m:ME)(a:MA):ME:=λρ st=>(m ρ st).bind λ(x,s1)=>match x with
 |.str _=>(a ρ s1).bind λ(xs,s2)=>Ph x xs s2
 |_=>none
def TH(h:SE X o m)(i:SA X (e::es) mm)(c:attributeBase o "join" X.env (UV o X.env)=UV o X.env:=by rfl)(g:((backTo cpos<|SL (e::es) X.env).all (λx=>!x.1)&&(backToKw cpos<|keywordEach [] X.env).all (λx=>x.1.isSome)
   &&decide ((e::es).length+([]:List Keyword).length+(if([]:List Keyword).isEmpty then 0 else 1)<30))=true:=by rfl)
  (f:(apos.endLine==cpos.line)=true:=by rfl) (j:Qqb X.env e es:=by rfl) (a:Qqc cpos es X.env:=by rfl):
  SE X (.Call (.Attribute o "join" apos) (e::es) [] cpos) (OQ m mm):=
 PE.imp (WQ Ez PySem.F.slot_str_join PySem.F.type_str_join zZ h i c g f j a) <| by
  rintro σ H Q ⟨ρ,st,io,d,st',E,S,e,k⟩;obtain⟨⟨x,s1⟩,w,e⟩:=Hu e;cases x with
  |str z=>
   obtain⟨⟨xs,s2⟩,y,e⟩:=Hu e;refine⟨ρ,st,io,_,s1,E,S,w,λv1 H1 r s l R1=>⟨by cases (show v1=.str z from R1);rfl,ρ,s1,io++r,xs,s2,E.ext S s,l,y,λW H2 A u v R2=>?_⟩⟩;exact⟨_,xs,s2,(io++r)++A,d,st',R1.ext l u,R2,v,e,(k.on l s).on v u⟩
  |_=>cases e
def ZM:V->Option Int->Option Int->Hp->VK->Prop:=λx lo hi H Q=>∃z,x=.str z/\z.length<=sizeLine/\Q (.str<|Txt.slice z lo hi) H
def Xh:So X ZM:=by
 rintro qp s σ H x v A E lo hi W Q I rx o pl pu ⟨z,e,r,q⟩;subst e;obtain⟨t,rfl⟩:=rx;refine⟨"str",_,F.slot_str_getitem.lookup,Do _ _ _,?_⟩;have fin:∀t' k,EP X qp σ Q (.str (Txt.slice z lo hi) t') {s with toks:=k}:=λt' k=>⟨.str _,H,I.tok k,⟨t',rfl⟩,q⟩
 cases pl with
 |none=>
  cases pu with
  |none=>exact Ca (l:=none) (u:=none) (st:=none) o rfl<|CK ⟨Ar (Txt.slice_le z _ _) r,fin⟩
  |int j w=>exact Ca (l:=none) (u:=some (j,w)) (st:=none) o rfl<|CK ⟨Ar (Txt.slice_le z _ _) r,fin⟩
 |int i y=>
  cases pu with
  |none=>exact Ca (l:=some (i,y)) (u:=none) (st:=none) o rfl<|CK ⟨Ar (Txt.slice_le z _ _) r,fin⟩
  |int j w=>exact Ca (l:=some (i,y)) (u:=some (j,w)) (st:=none) o rfl<|CK ⟨Ar (Txt.slice_le z _ _) r,fin⟩
def Uo:D->Option Int->Option Int->Hf->Option (D×Hf):=λx lo hi st=>match x with
 |.str z=>if fits z.length=true then some (.str (Txt.slice z lo hi),st)else none
 |_=>none
def Uz(m:ME)(l h:MO):ME:=λρ st=>(m ρ st).bind λ(x,s1)=>(l ρ s1).bind λ(lo,s2)=>(h ρ s2).bind λ(hi,s3)=>Uo x lo hi s3
def zmd{a c:MO}(he:SE X e m)(f:SO X lo a)(g:SO X hi c):SE X (.Subscript e (.Slice lo hi none p2) pos) (Uz m a c):=PE.imp (VF Xh he f g) <| by
 rintro σ H Q ⟨ρ,st,io,d,st',E,S,e,k⟩;obtain⟨⟨x,s1⟩,A,e⟩:=Hu e;obtain⟨⟨l,s2⟩,W,e⟩:=Hu e;obtain⟨⟨o,s3⟩,h,e⟩:=Hu e;refine⟨ρ,st,io,x,s1,E,S,A,λv1 H1 u r s i=>⟨ρ,s1,io++u,l,s2,E.ext S r,s,W,λH2 j v w=>⟨ρ,s2,(io++u)++j,o,s3,(E.ext S r).ext s v,w,h,λB C n y=>?_⟩⟩⟩;have q:=((k.on s r).on w v).on y n;cases x with
 |str z=>
  obtain⟨hf,e⟩:=JJ e;cases e;exact⟨z,i,of_decide_eq_true hf,q.now y rfl⟩
 |_=>cases e
def L5(x:Str)(n:Int):Str:=if n<1 then Ej else if(n==1 || x.length==0)=true then x else⟨(A3 n.toNat x.cps).foldl (·++·) #[]⟩
def Qw:G2
 |.str x,.int n,st=>if(decide (-(2^62)<=n)&&decide (n<2^20)&&decide (x.length*n.toNat<=sizeLine)&&decide ((L5 x n).length<=sizeLine))=true then some (.str (L5 x n),st)else none
 |_,_,_=>none
def zB:Jv X (binaryOp .Mult) Qw:=by
 rintro qp s σ H x y v u Q I rx c ⟨h,i,st,io,d,st',f,g,S,e,k⟩;unfold Qw at e;split at e
 ·rename_i z n;obtain⟨A,e⟩:=JJ e;cases e;rw[Ag,Ag,Ag]at A;obtain⟨⟨⟨E,W⟩,a⟩,l⟩:=A;have E:=of_decide_eq_true E;have W:=of_decide_eq_true W;have a:=of_decide_eq_true a;have l:=of_decide_eq_true l
  cases (show x=.str z from f)
  cases (show y=.int n from g)
  obtain⟨t,rfl⟩:=rx;obtain⟨j,rfl⟩:=c;have fin:∀t' r,EP X qp σ Q (.str (L5 z n) t') {s with toks:=r}:=λt' r=>⟨.str _,H,I.tok r,⟨t',rfl⟩,k.now S rfl⟩
  refine PySem.P.mul_str (by rw[decide_eq_false (by omega),decide_eq_false (by omega)];rfl) (λo _=>?_) (λo _=>?_) ?_
  ·have m:sizeLine=16777216:=Cm;have w:((n.toNat:Nat):Int)=n:=Int.toNat_of_nonneg (by omega);have hm:(z.length:Int)*n<=2^63-1:=by
    rw[<-w,<-Int.natCast_mul];omega
   have:=Int.le_ediv_of_mul_le (by omega:0<n) hm;omega
  ·unfold Builtin.Str.tooLong;exact decide_eq_false<|by omega
  ·unfold L5 at fin l
   by_cases o:n<1
   ·rw[if_pos o]at fin l ⊢;exact⟨l,fin s.toks<|s.toks+1⟩
   rw[if_neg o]at fin l ⊢;exact CK ⟨l,fin⟩
 ·cases e
def PU(p:PyData):PyData->Option Bool
 |.list xs=>some<|xs.any λy=>Bb y p
 |.tuple xs=>some<|xs.any λy=>Bb y p
 |_=>none
def inD(neg:Bool):G2:=λx y st=>(Jj 50 st x).bind λp=>(Jj 50 st y).bind λq=>(PU p q).map λb=>(.bl (if neg then !b else b),st)
def jI{xs:List PyData}(h:(PyData.list xs).canLay0=true):Cq xs=true:=by simpa only [BR]using h
def jF{xs:List PyData}(h:(PyData.tuple xs).canLay0=true):Cq xs=true:=by simpa only [BR]using h
def bB(j:X.A.units+100<cLine):Jv X (Pv .In) (inD false):=by
 rintro qp s σ H x y v u Q I rx g ⟨m,z,st,io,d,st',h,i,S,e,k⟩;obtain⟨p,o,e⟩:=Hu e;obtain⟨q,w,e⟩:=Hu e;obtain⟨r,l,e⟩:=ID e;cases e;obtain⟨as,E⟩:=O5 I S h rx o;obtain⟨bs,W⟩:=O5 I S i g w;have a:=OX o;have c:=OX w;have f:∀n,X.A.units+1+min n p.depth<cLine:=λn=>by have:=D5 n p.depth;omega
 cases q with
 |list xs=>cases l;exact PySem.SeqAt.in_list_reads W E (jI c.1) a.1 (f _) ⟨.bl _,H,I,rfl,k.now S rfl⟩
 |tuple xs=>cases l;exact PySem.SeqAt.in_tuple_reads W E (jF c.1) a.1 (f _) ⟨.bl _,H,I,rfl,k.now S rfl⟩
 |_=>cases l
def zmx(j:X.A.units+100<cLine):Jv X (Pv .NotIn) (inD true):=by
 rintro qp s σ H x y v u Q I rx g ⟨m,z,st,io,d,st',h,i,S,e,k⟩;obtain⟨p,o,e⟩:=Hu e;obtain⟨q,w,e⟩:=Hu e;obtain⟨r,l,e⟩:=ID e;cases e;obtain⟨as,E⟩:=O5 I S h rx o;obtain⟨bs,W⟩:=O5 I S i g w;have a:=OX o;have c:=OX w;have f:∀n,X.A.units+1+min n p.depth<cLine:=λn=>by have:=D5 n p.depth;omega
 cases q with
 |list xs=>cases l;exact PySem.SeqAt.notIn_list_reads W E (jI c.1) a.1 (f _) ⟨.bl _,H,I,rfl,k.now S rfl⟩
 |tuple xs=>cases l;exact PySem.SeqAt.notIn_tuple_reads W E (jF c.1) a.1 (f _) ⟨.bl _,H,I,rfl,k.now S rfl⟩
 |_=>cases l
def OC:G2
 |.str i,.str j,st=>some (.bl (!(Builtin.Str.occurrences j i 0 j.length 1).isEmpty),st)
 |_,_,_=>none
def cE:Jv X (Pv .In) OC:=by
 rintro qp s σ H x y v u Q I rx l ⟨w,A,st,io,d,st',o,r,S,e,k⟩;unfold OC at e;split at e
 ·rename_i i j
  cases e;exact zmy qp s σ H x y v u Q I rx l ⟨i,j,o,r,k.now S rfl⟩
 ·cases e
def Ol:List D->Option (List Bool)
 |[]=>some []
 |.bl x::r=>(Ol r).map λxs=>x::xs
 |_=>none
def zlE{ss:List Bool}(h:Ol (d::r)=some ss):∃x xs,d=.bl x/\Ol r=some xs/\ss=x::xs:=by
 cases d with
 |bl x=>
  obtain⟨xs,e,h⟩:=ID h;exact⟨x,xs,rfl,e,h.symm⟩
 |_=>cases h
theorem cX:∀{xs:List V}{us:List GM}{ds:List D}{ss:List Bool},Hh K H io xs ds->Vals xs us->Ol ds=some ss->us=ss.map CA
 |_,_,[],ss,h,r,e=>by cases (show _=[] from h);cases r;cases e;rfl
 |_,_,d::ds,ss,h,r,e=>by
  obtain⟨y,f,rfl,a,c⟩:=h;obtain⟨x,rest,rfl,l,rfl⟩:=zlE e;cases r with
  |cons o s=>
   cases (show y=.bl x from a)
   cases o;rw[cX c s l];rfl
def Jy:GN
 |[.ref n],st=>(Il st n).bind λds=>(Ol ds).map λbs=>(.bl (bs.all id),st)
 |_,_=>none
def range_all(bs:List Bool):((AZ bs.length).all λi=>bs.getD i false)=bs.all id:=by
 rw[A8,BS,BS];constructor
 ·intro h b l;obtain⟨i,hi,e⟩:=CG l;have:=h i<|List.mem_range.mpr hi;rw[AQ,Av hi,e]at this;exact this
 intro h i hi;have hi:=List.mem_range.mp hi;rw[AQ,Av hi];exact h _<|De hi
def RW(a:X.calm=true):Kz X (.builtin "all") Jy:=by
 rintro qp s σ H xs us Q I r ⟨ds,st,io,d,st',R,S,e,k⟩;unfold Jy at e;split at e
 ·rename_i n;obtain⟨L,E,e⟩:=Hu e;obtain⟨bs,W,e⟩:=ID e;cases e;obtain⟨v,rfl,p,rfl,f⟩:=R.one;obtain⟨u,rfl,g⟩:=r.one;cases g;obtain⟨M,h,j⟩:=LX S f E;obtain⟨m,z,pl,N⟩:=I.list h;have B:=cX j z W;subst B;refine call_all_walk<|DQ pl.isList ?_;have x:p<s.heap.objs.size:=by
   obtain⟨o,_,e,_⟩:=pl;exact An e
  refine⟨_,_,_,_,_,_,λi=>bs.getD i false,rfl,Walks.list (A:=X.A.in1) (I.ok.hd a) s.heap.objs.size p (Aw x) (bs.map CA).toArray,⟨⟨_,Aq _ rfl,rfl,rfl⟩,?_⟩,?_,λT C hk=>?_⟩
  ·obtain⟨o,nn,e,c,U,sq⟩:=pl;exact⟨o,Ad _ e,c,nn,sq⟩
  ·intro i v F G Y l w;have l:((bs.map CA).toArray)[i]?=some v:=l;rw[EI,AJ]at l
   cases y:bs[i]? with
   |none=>rw[y]at l;cases l
   |some J=>
    rw[y]at l;cases l;refine Bq ?_;have K:bs.getD i false=J:=by rw[AQ,y];rfl
    have w:G (bs.getD i false) F:=w;rw[K]at w;exact w
  ·refine⟨.bl _,H,I.kept (t':=C) λb o q=>hk b o ?_ (Ad _ q),rfl,?_⟩
   ·simp;exact Aw<|An q
   ·have:((AZ (bs.map CA).toArray.size).all λi=>bs.getD i false)=bs.all id:=by simpa using range_all bs
    rw[this];exact k.now S rfl
 ·cases e
end L2.MP
namespace Srt
open PySem PySem.W PyProof.Rows
variable {α:Type}
def Hd(n:Nat)(r:Nat->Int){α:Type}:KasT α->(α->Prop)->Prop
 |.ret a,Q=>Q a
 |.ask i j k,Q=>(i<n/\j<n)/\Hd n r (k<|decide (r i<r j)) Q
variable {n i j src d m N:Nat}{c:Prop}{p:Array Nat}
section
variable {r:Nat->Int}{β:Type}
theorem Hd.bind{f:α->KasT β}{Q:β->Prop}:∀{t:KasT α},Hd n r t (λa=>Hd n r (f a) Q)->Hd n r (t.bind f) Q
 |.ret _,h=>h
 |.ask i j k,h=>⟨h.1,Hd.bind (t:=k _) h.2⟩
theorem Hd.mono{P Q:α->Prop}(k:∀a,P a->Q a):∀{t:KasT α},Hd n r t P->Hd n r t Q
 |.ret a,h=>k a h
 |.ask i j f,h=>⟨h.1,Hd.mono k (t:=f _) h.2⟩
def SV[Decidable c]{A B:KasT α}{Q:α->Prop}(a:c)(h:Hd n r A Q):Hd n r (if decide c=true then A else B) Q:=by rw[decide_eq_true a,if_pos rfl];exact h
def SU[Decidable c]{A B:KasT α}{Q:α->Prop}(a:¬c)(h:Hd n r B Q):Hd n r (if decide c=true then A else B) Q:=by rw[decide_eq_false a,if_neg Bd];exact h
def Nf(n:Nat)(p:Array Nat):Prop:=∀k,p.getD k 0<n
def R(r:Nat->Int)(p:Array Nat)(k:Nat):Int:=r<|p.getD k 0
def Up(r:Nat->Int)(p:Array Nat)(m:Nat):Prop:=∀i j,i<=j->j<m->R r p i<=R r p j
def Dn(r:Nat->Int)(p:Array Nat)(m:Nat):Prop:=∀i j,i<=j->j<m->R r p j<=R r p i
def getD_eq{q:Array Nat}(h:p[i]?=q[j]?):p.getD i 0=q.getD j 0:=by rw[B0,B0,h]
def Vs(a:j<=p.size)(k:Nat):(kas_rev p i j).getD k 0=if i<=k/\k<j then p.getD (i+j-1-k) 0 else p.getD k 0:=by
 have e:=getElem?_mirror_all (i:=i) a k;unfold kas_rev;by_cases h:i<=k/\k<j
 ·rw[if_pos h]at e ⊢;exact getD_eq e
 rw[if_neg h]at e ⊢;exact getD_eq e
def cY(a:src<p.size)(hd:d<=src)(k:Nat):(bubble p src d).getD k 0=if k=src-d then p.getD src 0 else if src-d<k/\k<=src then p.getD (k-1) 0 else p.getD k 0:=by
 have e:=getElem?_bubble a d hd k;by_cases h1:k=src-d
 ·rw[if_pos h1]at e ⊢;exact getD_eq e
 ·rw[if_neg h1]at e ⊢
  by_cases h2:src-d<k/\k<=src
  ·rw[if_pos h2]at e ⊢;exact getD_eq e
  rw[if_neg h2]at e ⊢;exact getD_eq e
def TF(a:j<=p.size)(h:Nf n p):Nf n (kas_rev p i j):=λk=>by
 rw[Vs a];split
 ·exact h _
 exact h _
def qY(a:src<p.size)(hd:d<=src)(h:Nf n p):Nf n (bubble p src d):=λk=>by
 rw[cY a hd];by_cases h1:k=src-d
 ·rw[if_pos h1];exact h _
 ·rw[if_neg h1]
  by_cases h2:src-d<k/\k<=src
  ·rw[if_pos h2];exact h _
  rw[if_neg h2];exact h _
def Xb(p:Array Nat)(i j:Nat):(kas_rev p i j).size=p.size:=mirror_size _ _ _ _
def U9(p:Array Nat)(i j:Nat):(kas_rev p i j).Perm p:=mirror_perm _ _ _ _
def Up.more(h:Up r p m)(hl:m=0\/R r p (m-1)<=R r p m):Up r p (m+1):=λi j c l=>by
 by_cases hm:j<m
 ·exact h i j c hm
 ·have e:j=m:=by omega
  subst e;by_cases hi:i=j
  ·rw[hi];exact C6 _
  ·rcases hl with hl|hl
   ·omega
   exact Dt (h i (j-1) (by omega)<|by omega) hl
def Dn.more(h:Dn r p m)(hl:m=0\/R r p m<=R r p (m-1)):Dn r p (m+1):=λi j c l=>by
 by_cases hm:j<m
 ·exact h i j c hm
 ·have e:j=m:=by omega
  subst e;by_cases hi:i=j
  ·rw[hi];exact C6 _
  ·rcases hl with hl|hl
   ·omega
   exact Dt hl<|h i (j-1) (by omega)<|by omega
theorem Xa{p:Array Nat}(e:Nf n p):∀(f m:Nat),1<=m->Up r p m->Hd n r (kas_asc p f m) λa=>m<=a/\a<=m+f/\Up r p a/\(a<m+f->R r p a<R r p (a-1))
 |0,m,g,h=>⟨Ah _,Ah _,h,λz=>absurd z (A4 _)⟩
 |f+1,m,g,h=>by
  refine⟨⟨e _,e _⟩,?_⟩;by_cases c:r (p.getD m 0)<r (p.getD (m-1) 0)
  ·refine SV c ?_;exact⟨Ah _,BU _ _,h,λ_=>c⟩
  refine SU c ?_;refine Hd.mono (λa h'=>?_)<|Xa e f (m+1) (by omega)<|h.more<|.inr<|Int.not_lt.mp c;exact⟨by omega,by omega,h'.2.2.1,λz=>h'.2.2.2 (by omega)⟩
def WJ(r:Nat->Int)(p:Array Nat)(i j:Nat):Prop:=∀k,i<=k->k<j->R r p k=R r p (j-1)
def Yb(a:j<=p.size)(h:WJ r p i j)(k:Nat):R r (kas_rev p i j) k=R r p k:=by
 unfold R;rw[Vs a];split
 ·rename_i hk;have c:=h (i+j-1-k) (by omega) (by omega);have l:=h k hk.1 hk.2;exact c.trans l.symm
 rfl
def Dn.same{f:Array Nat}(h:Dn r p m)(e:∀k,R r f k=R r p k):Dn r f m:=λi j a b=>by rw[e,e];exact h i j a b
def sA(hm:m<=p.size)(h:Dn r p m):Up r (kas_rev p 0 m) m:=λi j c l=>by unfold R;rw[Vs hm,Vs hm,if_pos (by omega),if_pos (by omega)];exact h (0+m-1-j) (0+m-1-i) (by omega)<|by omega
theorem Vx{N:Nat}:∀(f:Nat) (p:Array Nat) (m q:Nat),Nf n p->p.size=N->1<=m->m+f<=N->q+1<=m->Dn r p m->WJ r p (m-(q+1)) m ->
  Hd n r (kas_desc f p m q) λt=>Nf n t.1/\t.1.Perm p/\m<=t.2.1/\t.2.1<=m+f/\t.2.2+1<=t.2.1/\Dn r t.1 t.2.1/\WJ r t.1 (t.2.1-(t.2.2+1)) t.2.1
 |0,p,m,q,a,g,z,B,h,hd,he=>⟨a,CL _,Ah _,Ah _,h,hd,he⟩
 |f+1,p,m,q,a,g,z,B,h,hd,he=>by
  refine⟨⟨a _,a _⟩,?_⟩;by_cases c:r (p.getD m 0)<r (p.getD (m-1) 0)
  ·refine SV c ?_;have one:∀C:Array Nat,WJ r C (m+1-(0+1)) (m+1):=λC k z B=>by
    have e:k=m+1-1:=by omega
    subst e;rfl
   by_cases hq:q > 0
   ·rw[if_pos hq];have j:m<=p.size:=by omega
    have e:=Yb j he;refine Hd.mono (λt i=>?_)<|Vx f (kas_rev p (m-(q+1)) m) (m+1) 0 (TF j a) ((Xb _ _ _).trans g) (by omega) (by omega) (by omega) ((hd.more<|.inr<|CS c).same e)<|one _;exact⟨i.1,i.2.1.trans<|U9 _ _ _,by omega,by omega,i.2.2.2.2⟩
   rw[if_neg hq];refine Hd.mono (λt i=>?_)<|Vx f p (m+1) 0 a g (by omega) (by omega) (by omega) (hd.more<|.inr<|CS c)<|one _;exact⟨i.1,i.2.1,by omega,by omega,i.2.2.2.2⟩
  ·refine SU c ?_;refine⟨⟨a _,a _⟩,?_⟩
   by_cases d:r (p.getD (m-1) 0)<r (p.getD m 0)
   ·refine SV d ?_;exact⟨a,CL _,Ah _,BU _ _,h,hd,he⟩
   ·refine SU d ?_;have eq:R r p m=R r p (m-1):=Ga (Int.not_lt.mp d)<|Int.not_lt.mp c;refine Hd.mono (λt i=>?_) (Vx f p (m+1) (q+1) a g (by omega) (by omega) (by omega) (hd.more<|.inr<|Int.not_lt.mp d) λk l o=>?_)
    ·exact⟨i.1,i.2.1,by omega,by omega,i.2.2.2.2⟩
    ·show R r p k=R r p (m+1-1)
     by_cases hk:k=m
     ·rw[hk];rfl
     rw[Nat.add_sub_cancel,eq];exact he k (by omega)<|by omega
def WM(n N:Nat)(r:Nat->Int)(p:Array Nat)(t:Nat×Array Nat):Prop:=Nf n t.2/\t.2.Perm p/\1<=t.1/\t.1<=N/\Up r t.2 t.1
def fU(a:Nf n p)(f:p.size=N)(e:1<=m)(g:m<=N)(hd:Dn r p m):Hd n r (kas_tail3 m N p) (WM n N r p):=by
 unfold kas_tail3;have c:m<=p.size:=by omega
 refine Hd.bind<|Hd.mono (λj i=>?_)<|Xa (TF c a) (N-m) m e<|sA c hd;exact⟨TF c a,U9 _ _ _,by omega,by omega,i.2.2.1⟩
def jL(e:Nf n p)(a:p.size=N)(f:1<=m)(g:m+1<=N)(hd:Dn r p (m+1)):Hd n r (kas_descPart m N p) (WM n N r p):=by
 unfold kas_descPart;refine Hd.bind (Hd.mono (λt o=>?_) (Vx (N:=N) (N-(m+1)) p (m+1) 0 e a (by omega) (by omega) (by omega) hd λk v w=>by
  have:k=m+1-1:=by omega
  rw[this]))
 obtain⟨t1,j,t3,x,y,t6,s⟩:=o;have i:t.1.size=N:=j.size_eq.trans a;by_cases hq:t.2.2 > 0
 ·rw[if_pos hq];have l:t.2.1<=t.1.size:=by omega
  refine Hd.mono (λu c=>?_)<|fU (TF l t1) ((Xb _ _ _).trans i) (by omega) (by omega)<|t6.same<|Yb l s;exact⟨c.1,(c.2.1.trans<|U9 _ _ _).trans j,c.2.2⟩
 rw[if_neg hq];refine Hd.mono (λu c=>?_)<|fU t1 i (by omega) (by omega) t6;exact⟨c.1,c.2.1.trans j,c.2.2⟩
def xV(f:Nf n p)(h:p.size=N)(q:1<=N):Hd n r (kas_count N p) (WM n N r p):=by
 unfold kas_count;have up1:Up r p 1:=λi j a b=>by
  have:i=j:=by omega
  rw[this];exact C6 _
 refine Hd.bind<|Hd.mono (λm hm=>?_)<|Xa f (N-1) 1 (Ah _) up1;obtain⟨l,x,m3,w⟩:=hm
 by_cases e:(m==N)=true
 ·rw[if_pos e];exact⟨f,CL _,l,by omega,m3⟩
 ·rw[if_neg e];have ne:m≠N:=λz=>e (by simp[z]);have lt:=w (by omega)
  by_cases g:m > 1
  ·rw[if_pos g];refine⟨⟨f _,f _⟩,?_⟩
   by_cases c:r (p.getD 0 0)<r (p.getD (m-1) 0)
   ·refine SV c ?_;exact⟨f,CL _,l,by omega,m3⟩
   ·refine SU c ?_;have v:m<=p.size:=by omega
    have all:∀k,k<m->R r p k=R r p (m-1):=λk hk=>Ga (m3 k (m-1) (by omega)<|by omega)<|Dt (Int.not_lt.mp c)<|m3 0 k (by omega) hk;have e:=Yb (i:=0) v λk _ hk=>all k hk;have dn:Dn r p m:=λi j a b=>by rw[all i (by omega),all j b];exact C6 _
    refine Hd.mono (λu o=>?_)<|jL (TF (i:=0) v f) ((Xb _ _ _).trans h) l (by omega)<|(dn.more<|.inr<|CS lt).same e;exact⟨o.1,o.2.1.trans<|U9 _ _ _,o.2.2⟩
  ·rw[if_neg g];have s:m=1:=by omega
   subst s;have dn:Dn r p 1:=λi j a b=>by
    have:i=j:=by omega
    rw[this];exact C6 _
   exact jL f h (Ah _) (by omega)<|dn.more<|.inr<|CS lt
theorem Yv{p:Array Nat}{k:Nat}(e:Nf n p)(hu:Up r p k):∀(f a b:Nat),a<=b->b<=k->b<=a+f->(∀x,x<a->R r p x<=R r p k)->(∀x,b<=x->x<k->R r p k<=R r p x) ->
  Hd n r (kas_place p k f a b) λl=>l<=k/\(∀x,x<l->R r p x<=R r p k)/\∀x,l<=x->x<k->R r p k<=R r p x
 |0,a,b,B,h,C,q,z=>by
  have:a=b:=by omega
  subst this;exact⟨h,q,z⟩
 |f+1,a,b,B,h,C,q,z=>by
  unfold kas_place;by_cases g:a ≥ b
  ·rw[if_pos g];have:a=b:=by omega
   subst this;exact⟨h,q,z⟩
  ·rw[if_neg g];refine⟨⟨e _,e _⟩,?_⟩
   by_cases c:r (p.getD k 0)<r (p.getD ((a+b) / 2) 0)
   ·refine SV c ?_;refine Yv e hu f a ((a+b) / 2) (by omega) (by omega) (by omega) q λx i j=>?_;exact Dt (CS c)<|hu ((a+b) / 2) x i j
   refine SU c ?_;refine Yv e hu f ((a+b) / 2+1) b (by omega) h (by omega) (λx m=>?_) z;exact Dt (hu x ((a+b) / 2) (by omega)<|by omega)<|Int.not_lt.mp c
theorem aU{N:Nat}:∀(f:Nat) (p:Array Nat) (k:Nat),Nf n p->p.size=N->k+f=N->Up r p k->Hd n r (kas_bin f p k) λq=>q.Perm p/\Up r q N
 |0,p,k,z,B,hk,h=>⟨CL _,by rw[<-hk];exact h⟩
 |f+1,p,k,z,B,hk,h=>by
  unfold kas_bin;refine Hd.bind<|Hd.mono (λl C=>?_)<|Yv z h k 0 k (Bo _) (Ah _) (by omega) (λx F=>absurd F (Gb _)) λx a b=>absurd (Ay b a) (A4 _);obtain⟨I,G,H⟩:=C;have c:k<p.size:=by omega
  refine Hd.mono (λq o=>⟨o.1.trans<|bubble_perm _ _ _,o.2⟩)<|aU f (bubble p k<|k-l) (k+1) (qY c (by omega) z) ((bubble_size _ _ _).trans B) (by omega) λi j m s=>?_;have g:∀x,R r (bubble p k<|k-l) x=if x=l then R r p k else if l<x/\x<=k then R r p (x-1)else R r p x:=λx=>by
   unfold R;rw[cY c (by omega)];have e:k-(k-l)=l:=by omega
   rw[e];by_cases a1:x=l
   ·rw[if_pos a1,if_pos a1]
   ·rw[if_neg a1,if_neg a1]
    by_cases a2:l<x/\x<=k
    ·rw[if_pos a2,if_pos a2]
    rw[if_neg a2,if_neg a2]
  rw[g i,g j];by_cases h1:i=l
  ·rw[if_pos h1]
   by_cases h2:j=l
   ·rw[if_pos h2];exact C6 _
   rw[if_neg h2,if_pos (by omega)];exact H (j-1) (by omega)<|by omega
  ·rw[if_neg h1]
   by_cases h2:j=l
   ·rw[if_pos h2,if_neg (by omega)];exact G i<|by omega
   ·rw[if_neg h2]
    by_cases h3:l<i/\i<=k
    ·rw[if_pos h3,if_pos (by omega)];exact h (i-1) (j-1) (by omega)<|by omega
    ·rw[if_neg h3]
     by_cases h4:l<j/\j<=k
     ·rw[if_pos h4];exact h i (j-1) (by omega)<|by omega
     rw[if_neg h4];exact h i j m<|by omega
def zmn(a:1<=n):Nf n (CT<|AZ n):=λk=>by
 rw[B0,EI];by_cases h:k<n
 ·rw[Fc h];exact h
 rw[List.getElem?_eq_none_iff.mpr (by rw[DT];omega)];exact a
def PL(a:1<=n):Hd n r (kas_sort n) λq=>q.Perm (CT<|AZ n)/\Up r q n:=by
 unfold kas_sort;have i:(CT<|AZ n).size=n:=by simp
 refine Hd.bind<|Hd.mono (λt m=>?_)<|xV (zmn a) i a;obtain⟨t1,c,t3,o,j⟩:=m
 by_cases h:t.1<n
 ·rw[if_pos h];have e:max t.1 1=t.1:=Nat.max_eq_left t3;rw[e];refine Hd.mono (λq l=>⟨l.1.trans c,l.2⟩)<|aU (N:=n) (n-t.1) t.2 t.1 t1 (c.size_eq.trans i) (by omega) j
 ·rw[if_neg h];have e:t.1=n:=by omega
  exact⟨c,by rw[<-e];exact j⟩
end
end Srt
namespace L2.MP
open PySem PySem.Spec PyProof.Rows
theorem bK:∀a:List Int,HT.lexLt a a=false
 |[]=>rfl
 |x::r=>by rw[HT.HS,if_pos rfl];exact bK r
theorem bZ:∀{a b:List Int},HT.lexLt a b=false->HT.lexLt b a=false->a=b
 |[],[],_,_=>rfl
 |[],_::_,h,_=>by rw[HT.HP]at h;cases h
 |_::_,[],_,h=>by rw[HT.HP]at h;cases h
 |x::a,y::b,c,f=>by
  rw[HT.HS]at c f;by_cases e:x=y
  ·subst e;rw[if_pos rfl]at c f;rw[bZ c f]
  rw[if_neg e]at c;rw[if_neg (A7 e)]at f;have a1:=of_decide_eq_false c;have a2:=of_decide_eq_false f;omega
theorem fJ:∀{a b c:List Int},HT.lexLt b a=false->HT.lexLt c b=false->HT.lexLt c a=false
 |a,[],c,_,f=>by
  cases c with
  |nil=>
   cases a with
   |nil=>rfl
   |cons x a=>rename_i e;rw[HT.HP]at e;cases e
  |cons z c=>
   cases a with
   |nil=>exact HT.HY _ _
   |cons x a=>rename_i e;rw[HT.HP]at e;cases e
 |a,y::b,[],_,f=>by rw[HT.HP]at f;cases f
 |[],y::b,z::c,_,_=>HT.HY _ _
 |x::a,y::b,z::c,e,f=>by
  rw[HT.HS]at e f ⊢;by_cases e1:y=x
  ·subst e1;rw[if_pos rfl]at e
   by_cases e2:z=y
   ·subst e2;rw[if_pos rfl]at f ⊢;exact fJ e f
   rw[if_neg e2]at f ⊢;exact f
  ·rw[if_neg e1]at e;have a1:=of_decide_eq_false e
   by_cases e2:z=y
   ·subst e2;rw[if_neg e1];exact e
   rw[if_neg e2]at f;have a2:=of_decide_eq_false f;rw[if_neg (by omega)];exact decide_eq_false<|by omega
def cA{a b:List Int}(h:HT.lexLt a b=true):HT.lexLt b a=false:=by
 cases e:HT.lexLt b a with
 |false=>rfl
 |true=>
  exfalso;have:∀{a b:List Int},HT.lexLt a b=true->HT.lexLt b a=true->False:=by
   intro a
   induction a with
   |nil=>intro b l o;cases b with
    |nil=>rw[HT.Jk]at l;cases l
    |cons y b=>rw[HT.HY]at o;cases o
   |cons x a r=>intro b l o;cases b with
    |nil=>rw[HT.HY]at l;cases l
    |cons y b=>
     rw[HT.HS]at l o;by_cases q:x=y
     ·subst q;rw[if_pos rfl]at l o;exact r l o
     rw[if_neg q]at l;rw[if_neg (A7 q)]at o;have a1:=of_decide_eq_true l;have a2:=of_decide_eq_true o;omega
  exact this h e
def Kl(a b:List Int):Bool:=!HT.lexLt b a
def Po(ts:List (List Int)):List (List Int):=ts.mergeSort Kl
def VU(a b c:List Int)(e:Kl a b=true)(f:Kl b c=true):Kl a c=true:=by unfold Kl at *;rw[Bv]at *;exact fJ e f
def iP(a b:List Int):(Kl a b || Kl b a)=true:=by
 unfold Kl;cases e:HT.lexLt b a with
 |false=>rfl
 |true=>rw[cA e];rfl
def zn2{a b:List Int}(c:Kl a b=true)(e:Kl b a=true):a=b:=by unfold Kl at *;rw[Bv]at *;exact bZ e c
def rank(ts:List (List Int))(i:Nat):Int:=((ts.countP λt=>HT.lexLt t (ts.getD i [])):Nat)
variable {ts:List (List Int)}{i j:Nat}
def cH(hi:i<ts.length):(decide (rank ts i<rank ts j))=HT.lexLt (ts.getD i []) (ts.getD j []):=by
 unfold rank;cases e:HT.lexLt (ts.getD i []) (ts.getD j []) with
 |true=>
  refine decide_eq_true ?_;have le:ts.countP (λt=>HT.lexLt t (ts.getD i []))<ts.countP (λt=>HT.lexLt t (ts.getD j [])):=by
   have hm:ts.getD i []∈ts:=by rw[AQ,Av hi];exact De hi
   generalize v:ts.getD i []=a at *;generalize w:ts.getD j []=b at *;clear v w hi;have sub:∀t,HT.lexLt t a=true->HT.lexLt t b=true:=λt l=>by
    cases q:HT.lexLt t b with
    |true=>rfl
    |false=>
     exfalso;have x:HT.lexLt a t=false:=cA l;have:HT.lexLt a b=false:=by
      have o:Kl b t=true:=by unfold Kl;rw[q];rfl
      have s:Kl t a=true:=by unfold Kl;rw[x];rfl
      have:=VU b t a o s;unfold Kl at this;rw[Bv]at this;exact this
     rw[e]at this;cases this
   induction ts with
   |nil=>exact absurd hm (by simp)
   |cons t r y=>
    rw[FW,FW];rcases KM.mp hm with q|q
    ·subst q;rw[bK,e];have:r.countP (λt=>HT.lexLt t a)<=r.countP (λt=>HT.lexLt t b):=EJ λt _ l=>sub t l;simp only[AG,if_false,if_true];omega
    ·have:=y q
     by_cases c:HT.lexLt t a=true
     ·rw[if_pos c,if_pos (sub t c)];omega
     rw[if_neg c];split<;>omega
  omega
 |false=>
  refine decide_eq_false ?_;have le:ts.countP (λt=>HT.lexLt t (ts.getD j []))<=ts.countP (λt=>HT.lexLt t (ts.getD i [])):=EJ λt _ l=>by
   cases q:HT.lexLt t (ts.getD i []) with
   |true=>rfl
   |false=>
    exfalso;have o:Kl (ts.getD j []) (ts.getD i [])=true:=by unfold Kl;rw[e];rfl
    have s:Kl (ts.getD i []) t=true:=by unfold Kl;rw[q];rfl
    have u:=VU _ _ _ o s;unfold Kl at u;rw[l]at u;cases u
  omega
variable {n:Nat}{α:Type}{s:Shared}
theorem G7{n:Nat}{r:Nat->Int}{α:Type}{P:α->Prop}{Q:α->Shared->Prop}{s:Shared}{cmp:Nat->Nat->(Bool->Shared->Prop)->Shared->Prop}(c:∀i j,i<n->j<n->∀C:Bool->Shared->Prop,C (decide (r i<r j)) s->cmp i j C s)(e:∀a,P a->Q a s):
  ∀{t:PySem.W.KasT α},Srt.Hd n r t P->t.kasWp cmp Q s
 |.ret a,h=>e a h
 |.ask i j k,h=>c i j h.1.1 h.1.2 _<|G7 c e (t:=k _) h.2
variable {prog:Os}{w:Re}{A:Around}{E:Qqa}
theorem jN{Q:Bool->Shared->Prop}:∀{xs c:List Int}{us ws:List GM} (i:Nat),Vals (xs.map V.int) us->Vals (c.map V.int) ws->Q (HT.lexLt xs c) s->PySem.W.KatLex prog w A true (decide (us.length<ws.length)) Q (us.zip ws) i s
 |[],[],_,_,i,.nil,.nil,h=>h
 |[],y::c,_,_,i,.nil,.cons r t,h=>by show Q (decide (_<_)) s;rw[decide_eq_true (by simp)];exact h
 |x::xs,[],_,_,i,.cons r t,.nil,h=>by show Q (decide (_<_)) s;rw[decide_eq_false (by simp)];exact h
 |x::xs,y::c,_,_,i,.cons f t1,.cons g m,h=>by
  obtain⟨a1,rfl⟩:=f;obtain⟨a2,rfl⟩:=g;rw[HT.HS]at h;refine Fm x a1 y a2 prog w _ _ ?_;by_cases e:x=y
  ·subst e;rw[if_pos rfl]at h;rw[beq_self_eq_true,if_pos rfl];have:=jN (Q:=Q) (i+1) t1 m h;rw[AB,AB];have j:∀a b:Nat,decide (a+1<b+1)=decide (a<b):=λa b=>by
    by_cases q:a<b
    ·rw[decide_eq_true q,decide_eq_true (by omega)]
    rw[decide_eq_false q,decide_eq_false (by omega)]
   rw[j];exact this
  ·rw[if_neg e]at h;have l:(x==y)=false:=by simpa using e
   rw[l,if_neg Bd];by_cases hi:i=0
   ·subst hi;exact oneLt_int h
   ·have:(true&&i==0)=false:=by simpa using hi
    rw[this];exact PySem.W.kat_one _ _<|F4 h
variable {X:Cx}{qp:List (Addr×Obj)}{σ:L2.St}{H:Hp}
def S0(H:Hp):List V->List (List Int)->Prop:=Paired λv t=>∃a,v=.ref a/\H a=some (.tup<|t.map V.int)/\t≠[]
theorem Yj:∀{xs:List V} {ts:List (List Int)} {i:Nat},S0 H xs ts->i<ts.length->∃a,xs[i]?=some (.ref a)/\H a=some (.tup<|(ts.getD i []).map V.int)/\ts.getD i []≠[]
 |_,[],i,_,hi=>absurd hi<|by simp
 |_,t::ts,0,.cons r q,_=>by obtain⟨a,rfl,c,e⟩:=r;exact⟨a,rfl,c,e⟩
 |_,t::ts,i+1,.cons r q,hi=>by have:=Yj (i:=i) q (by simpa using hi);simpa using this
def mX{xs:List V}{us:List GM}{s':Shared}(I:Inv X qp σ H s)(hk:∀b o,H b≠none->s.heap.get? b=some o->s'.heap.get? b=some o)(T:S0 H xs ts)(r:Vals xs us)(hi:i<ts.length)(c:j<ts.length)(C:Bool->Shared->Prop)(h:C (decide (rank ts i<rank ts j)) s'):Gc X.prog X.w A (PyProof.Rows.tuples' true) us i j C s':=by
 rw[cH hi]at h;obtain⟨a,y,v,_⟩:=Yj T hi;obtain⟨b,E,x,_⟩:=Yj T c;obtain⟨u,e,f⟩:=r.get y;obtain⟨B,l,n⟩:=r.get E;cases f;cases n;obtain⟨F,g,⟨G,ga,ca,na,m⟩,_⟩:=I.tuple<|Jg.of (K:=X.K) v;obtain⟨J,q,⟨ob,z,L,nb,db⟩,_⟩:=I.tuple<|Jg.of (K:=X.K) x;unfold Gc;rw[AQ,AQ,e,l];refine PySem.W.kat_lt (hk _ _ (by rw[v];simp) ga) m (hk _ _ (by rw[x];simp) z) db ?_;have:=jN (prog:=X.prog) (w:=X.w) (A:=A) (Q:=C) (s:=s') 0 g q h;simpa using this
variable {h':KF}
theorem fP{h':KF}(I:Inv X qp σ H s)(hk:∀b o,H b≠none->s.heap.get? b=some o->h'.get? b=some o):∀{xs:List V}{us:List GM} {ts:List (List Int)},S0 H xs ts->Vals xs us ->
  ∃fs:List GM,PySem.W.KatTups h' us fs/\fs.length=us.length/\∀v∈fs,∃i t,v=Ee i t
 |_,_,[],.nil,.nil=>⟨[],GK,rfl,λv hv=>absurd hv (by simp)⟩
 |_,_,t::ts,.cons r q,.cons h e=>by
  obtain⟨a,rfl,f,m⟩:=r;cases h;obtain⟨fs,l,w,y⟩:=fP I hk q e;obtain⟨A,E,⟨o,g,c,n,d⟩,_⟩:=I.tuple<|Jg.of (K:=X.K) f
  cases t with
  |nil=>exact absurd rfl m
  |cons x t=>
   cases E with
   |@cons _ u _ Q z B=>
    obtain⟨j,rfl⟩:=z;refine⟨.int x j::fs,GI (hk _ _ (by rw[f];simp) g) c d (by simp) l,by rw[AB,AB,w],λv hv=>?_⟩
    rcases KM.mp hv with rfl|hv
    ·exact⟨x,j,rfl⟩
    exact y v hv
variable {a:Addr}{P:Os}{h:KF}
def zmC{o:HO}(x:Kw P w H h a o):∃u,h.get? a=some u:=by
 cases o with
 |lst xs=>obtain⟨_,_,_,_,e⟩:=x;exact⟨_,e⟩
 |tup xs=>obtain⟨_,_,_,o,e,_⟩:=x;exact⟨_,e⟩
 |dK i=>obtain⟨_,_,_,_,o,_,_,e,_⟩:=x;exact⟨_,e⟩
 |dT i=>obtain⟨_,_,_,_,o,_,_,e,_⟩:=x;exact⟨_,e⟩
 |set S n=>obtain⟨o,_,_,_,e,_⟩:=x;exact⟨_,e⟩
 |ins C j fs=>obtain⟨_,_,_,e,_⟩:=x;exact⟨_,e⟩
 |own y=>exact x
 |xd fs=>obtain⟨_,⟨_,_,_,e,_⟩,_⟩:=x;exact⟨_,e⟩
 |rng lo hi=>obtain⟨_,_,_,e⟩:=x;exact⟨_,e⟩
 |frz ob u=>obtain⟨e,_⟩:=x;exact⟨_,e⟩
 |tbl l=>exact⟨_,x⟩
 |met f y=>exact⟨_,x⟩
 |ext φ=>obtain⟨_,e,_⟩:=x;exact e
variable {m:Str->Option GM}
def qH{c:Str->Option GM}(x:h.Ns a m)(y:h.Ns a c):m=c:=by
 obtain⟨o,v,w,r,hd,_,hm⟩:=x;obtain⟨A,s,u,i,j,_,l⟩:=y;rw[r]at i;cases i;rw[hd]at j;cases j
 funext n
 rw[<-hm n,l n]
variable {l:Addr}
def Inv.laidAt{m:Str->Option GM}{o:HO}(I:Inv X qp σ H s)(k:∀b u,b≠X.env.locals->s.heap.get? b=some u->h'.get? b=some u)(ns:∀m,s.heap.Ns X.env.locals m->h'.Ns X.env.locals m)(g:∃u,h'.get? X.env.locals=some u)(B:s.heap.get? a=none) (f:H a=none) (C:a≠X.env.locals) (new:Kw X.prog X.w (upd H a o) h' a o):Inv X qp σ (upd H a o) {s with heap:=h'}:=by
 have na:∀b u,s.heap.get? b=some u->b≠a:=λb u e z=>by rw[z,B]at e;cases e
 refine Inv.step (t':=s.toks) (ch:=[]) (g':=s.gens) (d':=s.drawn) I (λb h=>absurd h (by simp)) (λb u i _ _ e _=>k b u i e) (λb u i _ _ e _=>⟨u.slots,k b u i e⟩) (λb u _ e n=>by rw[HR (na b u e)];exact n) (λb u _ e=>?_)
  (λb xs e=>by rw[HR (Ka e f)];exact e) (λb u v e=>by rw[HR (Ka e f)];exact e) (λb j e=>⟨#[],by rw[HR (Ka e f),e];simp⟩) ns (λb u e=>?_) I.bare
 ·by_cases h:b=X.env.locals
  ·rw[h];exact g
  exact⟨u,k b u h e⟩
 ·by_cases h:b=a
  ·subst h;rw[KQ]at e;cases e;exact new
  ·rw[HR h]at e;refine(I.hok b u e).stay (λc v hc q=>k c v (λz=>?_) q) (λc q=>by rw[HR (Ka q f)];exact q) λc xs q=>by rw[HR (Ka q f)];exact q
   subst z;rcases hc with rfl|hc
   ·rw[I.free]at e;cases e
   rw[I.free]at hc;cases hc
def ziY{xs:List V}{Q:VK}(I:Inv X qp σ H s)(hl:Kf X.K H l xs)(T:S0 H xs ts)(f:2<=ts.length)(h64:ts.length<64)(h:∀(q:Array Nat) (p:Addr),q.Perm (CT<|AZ ts.length)->Srt.Up (rank ts) q ts.length->H p=none->Q (.ref p) (upd H p<|.lst<|q.toList.map λi=>xs.getD i .non)):
  wpAny (IR X.prog X.w) X.A (call (.builtin "sorted") [.ref l]) (EP X qp σ Q) X.xe s:=by
 obtain⟨x,G,pl,hz⟩:=I.list hl;have hlen:x.length=ts.length:=by have a:=G.length;have b:=BP T;omega
 obtain⟨m,F⟩:=I.fr;have M:∀b,H b≠none->b≠X.env.locals:=λb E z=>E (by rw[z];exact I.free);have trkB:∀b,H b≠none->X.base.get? b=none:=λb E=>by
  cases e:X.base.get? b with
  |none=>rfl
  |some o=>exact absurd (I.bs b o e).2 E
 refine PySem.W.kat_sorted F (zA (g:=X.base) (h:=s.heap) (L:=X.env.locals)) pl.isList (by omega) (by omega) λD e1 h' F' N' N=>?_;have keep:∀{f:KF}{o:Obj},Fr X.base X.env.locals f m->News X.base X.env.locals f ((D,o)::Vw X.base s.heap X.env.locals)->∀b u,b≠X.env.locals->s.heap.get? b=some u->f.get? b=some u:=λ{f o} F2 Z b u E e=>by
  cases q:X.base.get? b with
  |some v=>
   have z:=(I.bs b v q).1;rw[e]at z;cases z;exact F2.keep b _ q
  |none=>exact(Z (b,u)<|Ak _<|jP E q e).1
 have hk:∀b o,H b≠none->s.heap.get? b=some o->h'.get? b=some o:=λb o E e=>keep F' N' b o (M b E) e;have B:=N' _ Al;have S:s.heap.get? D=none:=by
  cases e:s.heap.get? D with
  |none=>rfl
  |some u=>exact absurd (N _<|jP B.2.1 B.2.2 e)<|A4 _
 have U:H D=none:=by
  cases e:H D with
  |none=>rfl
  |some o=>
   obtain⟨u,hu⟩:=zmC<|I.hok D o e;rw[S]at hu;cases hu
 obtain⟨fs,k1,k2,k3⟩:=fP (h':=h') I hk T G;refine PySem.W.kat_kind (s:={s with heap:=h'}) (T:=.type "int") k1 (by omega) (λv hv=>?_) rfl ?_
 ·obtain⟨i,t,rfl⟩:=k3 v hv;exact PySem.W.Looks.of_pure rfl
 have ok:=Srt.PL (n:=x.length) (r:=rank ts) (by omega);refine G7 (n:=x.length) (r:=rank ts) (s:={s with heap:=h'}) (λi j hi hj C hC=>mX (s':={s with heap:=h'}) I hk T G (by omega) (by omega) C hC) (λq Y=>?_) ok;refine GJ F' N' (PySem.W.UpdF.head λp hp=>Aw (N p hp)) λf c F2 Z=>?_;have hD2:=(Z _ Al).1;rw[hlen]at Y;have vals:Vals (q.toList.map λi=>xs.getD i .non) (q.toList.map λi=>x.getD i AH):=by
  have y:∀i∈q.toList,i<xs.length:=λi hi=>by have:i∈(CT<|AZ ts.length).toList:=(Array.perm_iff_toList_perm.mp Y.1).mem_iff.mp hi;have hr:=G.length;simp at this;omega
  generalize q.toList=ql at y
  induction ql with
  |nil=>exact .nil
  |cons i r ih=>
   refine .cons ?_<|ih λj hj=>y j (Ak _ hj);have hi:=y i Al;obtain⟨u,eu,ru⟩:=G.get<|Av hi;show RelV (xs.getD i V.non) (x.getD i AH);rw[AQ,AQ,Av hi,eu];exact ru
 have hql:q.toList.length=ts.length:=by have:=(Array.perm_iff_toList_perm.mp Y.1).length_eq;simpa using this
 have J:Inv X qp σ (upd H D<|.lst<|q.toList.map λi=>xs.getD i .non) {s with heap:=f}:=
  Inv.laidAt (m:=m) I (keep F2 Z) (λm' hm'=>by rw[qH hm' F.ns];exact F2.ns) (let ⟨o,_,_,e,_⟩:=F2.ns;⟨o,e⟩) S U B.2.1 ⟨by rw[Af,hql];exact UA h64,_,c,vals,hD2⟩
 exact⟨.ref D,_,J,rfl,h q D Y.1 Y.2 U⟩
def zgk(ts:List α)(d:α):(AZ ts.length).map (λi=>ts.getD i d)=ts:=by
 apply FX
 ·simp
 intro i h a;simp[AQ,Av a]
def zi0{q:Array Nat}(g:q.Perm (CT<|AZ ts.length))(f:Srt.Up (rank ts) q ts.length):q.toList.map (λi=>ts.getD i [])=Po ts:=by
 have hl:=Array.perm_iff_toList_perm.mp g;have hl:q.toList.Perm (AZ ts.length):=by simpa using hl
 have n:q.toList.length=ts.length:=by rw[hl.length_eq,DT]
 have o:(q.toList.map λi=>ts.getD i []).Perm ts:=by have:=hl.map λi=>ts.getD i [];rw[zgk]at this;exact this
 refine YX (le:=λa b=>Kl a b=true) (o.trans (CH ts Kl).symm) ?_ (B9 (λa b c=>VU a b c) iP ts) λa _ b _=>zn2;rw[List.pairwise_iff_getElem];intro i j hi h l;rw[FY,FY];rw[Af]at hi h;have f:=f i j (B3 l) (by omega);have m:∀(k:Nat) (hk:k<q.toList.length),q.getD k 0=q.toList[k]:=λk hk=>by rw[B0,<-Cy,Av hk];rfl
 unfold Srt.R at f;rw[m i hi,m j h]at f;have lt:∀k∈q.toList,k<ts.length:=λk hk=>List.mem_range.mp<|hl.mem_iff.mp hk;have e:=cH (ts:=ts) (i:=q.toList[j]) (j:=q.toList[i])<|lt _<|De h;rw[decide_eq_false (by omega)]at e;unfold Kl;rw[<-e];rfl
def intsOf:List D->Option (List Int)
 |[]=>some []
 |.int i::r=>(intsOf r).map λis=>i::is
 |_=>none
def zjb{d:D}{r:List D}{ss:List Int}(h:intsOf (d::r)=some ss):∃x xs,d=.int x/\intsOf r=some xs/\ss=x::xs:=by
 cases d with
 |int x=>
  obtain⟨xs,e,h⟩:=ID h;exact⟨x,xs,rfl,e,h.symm⟩
 |_=>cases h
def rowOf:D->Option (List Int)
 |.tup ds=>(intsOf ds).bind λt=>if(!t.isEmpty)=true then some t else none
 |_=>none
def rowsOf:List D->Option (List<|List Int)
 |[]=>some []
 |d::r=>(rowOf d).bind λt=>(rowsOf r).map λts=>t::ts
def HE(t:List Int):D:=.tup<|t.map D.int
variable {K:Ac}{io:List Addr}{st st':Hf}
theorem ints_rep:∀{xs:List V}{ds:List D}{t:List Int},Hh K H io xs ds->intsOf ds=some t->xs=t.map V.int/\ds=t.map D.int
 |_,[],t,h,e=>by cases e;exact⟨h,rfl⟩
 |_,d::ds,t,h,e=>by
  obtain⟨y,g,rfl,c,f⟩:=h;obtain⟨x,rest,rfl,i,rfl⟩:=zjb e;obtain⟨a,b⟩:=ints_rep f i;cases (show y=.int x from c)
  rw[a,b];exact⟨rfl,rfl⟩
theorem cJ:∀{xs:List V}{ds:List D} {ts:List (List Int)},Hh K H io xs ds->rowsOf ds=some ts->S0 H xs ts/\ds=ts.map HE
 |_,[],ts,h,e=>by cases e;cases (show _=[] from h);exact⟨.nil,rfl⟩
 |_,d::ds,ts,h,e=>by
  obtain⟨y,g,rfl,c,f⟩:=h;obtain⟨t,i,e⟩:=Hu e;obtain⟨us,l,e⟩:=ID e;subst e;obtain⟨a,b⟩:=cJ f l;cases d with
  |tup zs=>
   obtain⟨t',f1,f2⟩:=Hu i;obtain⟨j,f2⟩:=JJ f2;cases f2;obtain⟨p,r,rfl,m,rs⟩:=c;obtain⟨n,o⟩:=ints_rep rs f1;subst n;refine⟨.cons ⟨p,rfl,m,λz=>?_⟩ a,?_⟩
   ·rw[z]at j;exact absurd j<|by decide
   rw[b,o];rfl
  |_=>cases i
def VG:GN
 |[.ref n],st=>(Il st n).bind λds=>(rowsOf ds).bind λts=>if(decide (2<=ts.length)&&decide (ts.length<64))=true then some (.ref st.length,st++[.lst ((Po ts).map HE)])else none
 |_,_=>none
theorem gK{xs:List V}{ts:List (List Int)}(r:Hh K H io xs (ts.map HE)):∀{q:List Nat},(∀i∈q,i<ts.length)->Hh K H io (q.map λi=>xs.getD i .non) ((q.map λi=>ts.getD i []).map HE)
 |[],_=>rfl
 |i::q,h=>by
  have hi:=h i Al;have a:(ts.map HE)[i]?=some (HE<|ts.getD i []):=by rw[AJ,Av hi,AQ,Av hi];rfl
  obtain⟨v,l,m⟩:=r.get a;refine⟨_,_,rfl,?_,gK r λj n=>h j (Ak _ n)⟩;show Rep K H io (xs.getD i .non) _;rw[AQ,l];exact m
def zg7:Kz X (.builtin "sorted") VG:=by
 rintro qp s σ H xs us Q I r ⟨ds,st,io,d,st',R,S,e,k⟩;unfold VG at e;split at e
 ·rename_i n;obtain⟨zs,m,e⟩:=Hu e;obtain⟨ts,o,e⟩:=Hu e;obtain⟨a,e⟩:=JJ e;cases e;rw[Ag]at a;obtain⟨v,rfl,p,rfl,w⟩:=R.one;obtain⟨u,rfl,x⟩:=r.one;cases x;obtain⟨E,y,h⟩:=LX S w m;obtain⟨T,hd⟩:=cJ h o;subst hd;refine ziY I y T (of_decide_eq_true a.1) (of_decide_eq_true a.2) λq K j A hf=>?_;have hm:∀i∈q.toList,i<ts.length:=λi hi=>by
   have:=(Array.perm_iff_toList_perm.mp j).mem_iff.mp hi;simpa using this
  have l:=gK h hm;rw[zi0 j A]at l;exact k.lst S l hf
 ·cases e
variable {ma mb:ME}{pos p:Pos}{g:GN}{mg:Str->Option GM}{base:KF}{k:Nat}{N ps:List Str}
section
variable {a b c e:PP}{es:List PP}{mc m:ME}{mm:MA}
def Od:Option α->Option α->Option α
 |some x,_=>some x
 |none,y=>y
def PB{x y:Option α}{z:α}(h:Od x y=some z):x=some z\/y=some z:=by
 cases x with
 |none=>exact .inr h
 |some w=>exact .inl h
def JM(g h:G2):G2:=λx y st=>Od (g x y st)<|h x y st
def Oe(g h:GN):GN:=λxs st=>Od (g xs st)<|h xs st
def Pt{f:GM->GM->Sem GM}{g h:G2}(p:Jv X f g)(q:Jv X f h):Jv X f (JM g h):=by
 rintro qp s σ H x y v u Q I rx a ⟨c,i,st,io,d,st',j,l,S,e,k⟩;rcases PB e with e|e
 ·exact p qp s σ H x y v u Q I rx a ⟨c,i,st,io,d,st',j,l,S,e,k⟩
 exact q qp s σ H x y v u Q I rx a ⟨c,i,st,io,d,st',j,l,S,e,k⟩
def VA{f:GM}{h:GN}(p:Kz X f g)(q:Kz X f h):Kz X f (Oe g h):=by
 rintro qp s σ H xs us Q I r ⟨ds,st,io,d,st',R,S,e,k⟩;rcases PB e with e|e
 ·exact p qp s σ H xs us Q I r ⟨ds,st,io,d,st',R,S,e,k⟩
 exact q qp s σ H xs us Q I r ⟨ds,st,io,d,st',R,S,e,k⟩
def Vn{g:G2}{ρ:HX}{x y:D}{s0 s1 s2:Hf}{r:D×Hf}(f:ma ρ s0=some (x,s1))(q:mb ρ s1=some (y,s2))(z:g x y s2=some r):mB g ma mb ρ s0=some r:=by unfold mB;rw[f];show GH (mb ρ s1) _=_;rw[q];exact z
def bU{g h:G2}(p:SE X e (mB g ma mb))(q:SE X e (mB h ma mb)):SE X e (mB (JM g h) ma mb):=by
 rintro qp s σ H Q I ⟨ρ,st,io,d,st',E,S,e,k⟩;obtain⟨⟨x,s1⟩,a,e⟩:=Hu e;obtain⟨⟨y,s2⟩,c,e⟩:=Hu e;rcases PB e with e|e
 ·exact p qp s σ H Q I ⟨ρ,st,io,d,st',E,S,Vn a c e,k⟩
 exact q qp s σ H Q I ⟨ρ,st,io,d,st',E,S,Vn a c e,k⟩
def Xd{g h:G2}(p:SB X e (mT<|mB g ma mb))(q:SB X e (mT<|mB h ma mb)):SB X e (mT<|mB (JM g h) ma mb):=by
 rintro qp s σ H Q I ⟨ρ,st,io,d,st',E,S,e,k⟩;have e:=Ts e;obtain⟨⟨x,s1⟩,a,e⟩:=Hu e;obtain⟨⟨y,s2⟩,c,e⟩:=Hu e;rcases PB e with e|e
 ·exact p qp s σ H Q I ⟨ρ,st,io,d,st',E,S,by unfold mT;rw[Vn a c e];rfl,k⟩
 exact q qp s σ H Q I ⟨ρ,st,io,d,st',E,S,by unfold mT;rw[Vn a c e];rfl,k⟩
def WW:G2:=λd k st=>match d with
 |.ref n=>(look st n k).bind λr=>r.map λv=>(v,st)
 |_=>none
def Hr:G2:=JM Ln WW
def Ig(B:X.A.units+1<cLine)(q:SE X a ma)(z:SE X b mb)(C:XA b:=by intro _ _;rfl)(f:P7 b:=by intro _ _;rfl):SE X (.Subscript a b pos) (mB Hr ma mb):=bU (nK q z C) (show SE X (.Subscript a b pos) (G8 ma mb) from wH B q z f)
def Rb(neg:Bool):G2:=λk d st=>match d with
 |.ref n=>(look st n k).map λr=>(.bl (if neg then !r.isSome else r.isSome),st)
 |_=>none
def Lb:G2:=JM (JM (inD false) OC)<|Rb false
def QD:G2:=JM (inD true)<|Rb true
def Tn(z:X.A.units+100<cLine)(f:SE X a ma)(q:SE X b mb)(hm:behindInMarks .In b=false:=by rfl):SE X (.Compare a [.In] [b] pos) (mB Lb ma mb):=bU (KP (Pt (bB z) cE) f q hm) (show SE X _ (MF false ma mb) from sJ (by omega) f q hm)
def sH(z:X.A.units+100<cLine)(f:SE X a ma)(q:SE X b mb)(hm:behindInMarks .In b=false:=by rfl):SB X (.Compare a [.In] [b] pos) (mT<|mB Lb ma mb):=Xd (IK (Pt (bB z) cE) f q hm) (show SB X _ (mT<|MF false ma mb) from sG (by omega) f q hm)
def gN(z:X.A.units+100<cLine)(f:SE X a ma)(q:SE X b mb)(hm:behindInMarks .NotIn b=false:=by rfl):SB X (.Compare a [.NotIn] [b] pos) (mT<|mB QD ma mb):=Xd (IK (zmx z) f q hm) (show SB X _ (mT<|MF true ma mb) from zmj (by omega) f q hm)
def Pa:D->Option Int->Option Int->Hf->Option (D×Hf):=λx lo hi st=>Od (Qk x lo hi st)<|Uo x lo hi st
def LD(m:ME)(l h:MO):ME:=λρ st=>(m ρ st).bind λ(x,s1)=>(l ρ s1).bind λ(lo,s2)=>(h ρ s2).bind λ(hi,s3)=>Pa x lo hi s3
def VQ{lo hi:Option PP}{f q:MO}{p2:Pos}(he:SE X e m)(z:SO X lo f)(B:SO X hi q):SE X (.Subscript e (.Slice lo hi none p2) pos) (LD m f q):=by
 rintro qp s σ H Q I ⟨ρ,st,io,d,st',E,S,e0,k⟩;obtain⟨⟨x,s1⟩,a,e0⟩:=Hu e0;obtain⟨⟨h,s2⟩,c,e0⟩:=Hu e0;obtain⟨⟨i,s3⟩,g,e0⟩:=Hu e0;rcases PB e0 with e0|e0
 ·exact yM he z B qp s σ H Q I ⟨ρ,st,io,d,st',E,S,by simp only[kS,a,c,g,Aa];exact e0,k⟩
 exact zmd he z B qp s σ H Q I ⟨ρ,st,io,d,st',E,S,by simp only[Uz,a,c,g,Aa];exact e0,k⟩
def Ru:D->Hf->Option (Wk×Hf)
 |.ref n,s=>(Il s n).map λds=>(⟨ds,[(n,ds)]⟩,s)
 |.tup ds,s=>some (⟨ds,[]⟩,s)
 |_,_=>none
def mW(m:ME):MI:=λρ st=>(m ρ st).bind λ(d,s)=>Ru d s
def cL{q l:PP}(f:SE X l m):SI X q l (mW m):=by
 rintro qp s σ H R I ⟨ρ,st,io,W,st',E,S,a,k⟩;obtain⟨⟨d,s1⟩,c,a⟩:=Hu a;cases d with
 |ref n=>exact uY f qp s σ H R I ⟨ρ,st,io,W,st',E,S,by unfold kR;rw[c];exact a,k⟩
 |tup ds=>exact rJ f qp s σ H R I ⟨ρ,st,io,W,st',E,S,by unfold kP;rw[c];exact a,k⟩
 |_=>cases a
def LY:G3:=λo i v st=>match o,i with
 |.ref n,.int k=>match st[n]? with
  |some (.lst ds)=>(Nc ds.length k).map λj=>st.set n<|.lst<|ds.set j v
  |_=>none
 |_,_=>none
def nL:UN X LY:=by
 rintro qp s σ H o i v m w u Q I x y A ⟨E,a,K,st,io,st',N,R2,W,S,e,k⟩;cases E with
 |ref n=>
  cases a with
  |int j=>
   unfold LY at e;dsimp only at e;split at e
   ·rename_i ds c;obtain⟨q,f,e⟩:=ID e;cases e;obtain⟨p,rfl,g⟩:=N;obtain⟨h,l,r⟩:=S.ob n p _ g c;refine set_list qp s σ H _ _ v m w u Q I x y A ⟨p,h,j,q,rfl,R2,l,by rw[r.length];exact f,?_⟩;obtain⟨B,C⟩:=RI (o:=.lst (h.set q v)) (ob:=.lst (ds.set q K)) S g c (λo u z=>by rw[l]at z;cases z) λG T F=>⟨_,F,(Hh.mono T r).set q<|Rep.mono T W⟩
    exact k _ [] B C
   ·cases e
  |_=>cases e
 |_=>cases a<;>cases e
def MB(mo mi f:ME):MS:=λρ st=>Od (Hm f (Q8 LY mo mi) ρ st)<|UW mo mi f ρ st
def Xk{o i value:PP}{mo mi C:ME}{pos':Pos}(J:X.A.units+1<cLine)(F:SE X o mo)(hi:SE X i mi)(G:SE X value C)(L:swapsWith value (some<|.Subscript o i pos') pos.line X.env=pure false:=by rfl)(M:∀v,assign (.Subscript o i pos') X.env v=(do
   let q <-holding [v] (UV o X.env)
   let z <-holding [v,q] (UV i X.env)
   standAt pos'
   holding [v,q,z] (setItem q z v)
   release [v,q,z] []):=by intro _;rfl)
  (B:swapsWithSole [.Subscript o i pos'] value pos.line X.env=pure false:=by rfl) (hw:swappedStores [.Subscript o i pos'] value X.env=pure none:=by rfl)
  (T:(assignEach [.Subscript o i pos'] X.env).map (·.2)=[assign (.Subscript o i pos') X.env]:=by rfl):SS X (.Assign [.Subscript o i pos'] value pos) (MB mo mi C):=by
 intro qp s σ H N I h;obtain⟨ρ,st,io,f,st',E,S,e,w⟩:=Mr.mp h;rcases PB e with e|e
 ·exact Vj G (rG F hi nL M) B hw T qp s σ H N I<|Pn E S e w
 exact vA J F hi G L qp s σ H N I<|Pn E S e w
def Q2(i j:Nat)(mm:MA):MS:=λρ st=>(mm ρ st).bind λ(xs,s)=>match xs with
 |[x,y]=>some (.nx ((ρ.set i<|some x).set j<|some y),s)
 |_=>none
def rO{x y:Str}{z py pt:Pos}{kt k2 pt2}(C:X.calm=true)(F:X.N.Nodup)(hi:X.N[i]?=some x)(G:X.N[j]?=some y)(B:i≠j)(I:X.env.scope.names.lookup x=some .local) (J:X.env.scope.names.lookup y=some .local) (L:SA X [a,b] mm)(hw:swappedStores [.Tuple [.Name x z,.Name y py] kt pt] (.Tuple [a,b] k2 pt2) X.env=pure (some [x,y]):=by rfl)(M:swapsWithSole [.Tuple [.Name x z,.Name y py] kt pt] (.Tuple [a,b] k2 pt2) pos.line X.env=pure false:=by rfl):
  SS X (.Assign [.Tuple [.Name x z,.Name y py] kt pt] (.Tuple [a,b] k2 pt2) pos) (Q2 i j mm):=PS.imp (pL C F hi G B I J L hw M) λN σ H h=>by
 obtain⟨ρ,st,io,f,st',E,S,e,w⟩:=Mr.mp h;obtain⟨⟨xs,s1⟩,c,e⟩:=Hu e
 match xs,e,c with
 |[u,v],e,c=>
  cases e;refine⟨ρ,st,io,_,_,E,S,c,λr H1 l g m R1=>?_⟩;obtain⟨p,q,rfl,n,o⟩:=R1.two;exact⟨p,q,rfl,w _ H1 l g m<|((E.ext S g).set i n).set j o⟩
def IT(P:Os)(w:Re)(K:Ac)(mg:Str->Option GM)(base:KF)(k:Nat)(x:Str)(n:Nat)(g:GN):Prop:=∃f fd ps,Ja P w K mg base Lu k f fd ps (Qj K n g)/\mg x=some (.ref f)/\BH K (.ref f)=true/\Binds K fd ps []
def IT.mono{P:Os}{w:Re}{mg:Str->Option GM}{base:KF}{j k:Nat}{x:Str}{n:Nat}{g:GN}(h:IT P w K mg base j x n g)(q:j<=k):IT P w K mg base k x n g:=by obtain⟨f,fd,ps,F,r⟩:=h;exact⟨f,fd,ps,F.mono q,r⟩
def IQ(n:Nat)(mm:MA):Prop:=∀ρ st xs s,mm ρ st=some (xs,s)->xs.length=n
def IQ.nil:IQ 0 mZ:=λ_ _ _ _ h=>zX h
def IQ.cons(h:IQ n mm):IQ (n+1) (Hc m mm):=λ_ _ _ _ q=>zmH h q
def fR{x:Str}(F:IT X.prog X.w X.K X.mg X.base k x n g)(B:HK k X.A)(C:Gl X x)(G:SA X (e::es) mm)(I:IQ n mm)(q:(x==("__debug__":Str))=false:=by decide)(he:Qqb X.env e es:=by rfl) (z:Qqc pos es X.env:=by rfl) (J:(e::es).length=n:=by rfl):
  SE X (.Call (.Name x p) (e::es) [] pos) (Hi g mm):=by
 obtain⟨f,fd,ps,F,hm,hk,a⟩:=F;exact wG F B C hm hk a G q he z J I
def Laid(K:Ac)(mg:Str->Option GM)(x:Str)(st:SZ)(ps:List Str):Prop:=∃f fd,Nd K x x st f fd/\mg x=some (.ref f)/\Binds K fd ps []
def aZ{x:Str}{st:SZ}{m:MS}(L:Laid K mg x st ps)(S:Iv N ps (Jd st))(hbody:∀(f:Addr) (q:GM) (A:Around) (outer:List Env) (s:Shared) (H:Hp) (E:XK),HK k (A.deeper<|envOfC x (Jd st) s.heap.objs.size f q) ->
   LI (HJ Lu P w K mg base N x (Jd st) f q A outer s H E).nox (K9 st) m):IT P w K mg base (k+1) x ps.length (Jc N.length m):=by
 obtain⟨f,fd,F,hm,a⟩:=L;exact⟨f,fd,ps,UG F S<|hbody f,hm,F.kp,a⟩
def noG:GN:=λ_ _=>none
def L6(n:Nat)(G:GN->MS):Nat->GN
 |0=>noG
 |k+1=>Jc n<|G<|L6 n G k
theorem dB{P:Os}{w:Re}{mg:Str->Option GM}{base:KF}{x:Str}{st:SZ}{N ps:List Str}{j:Nat}{G:GN->MS}(L:Laid K mg x st ps)(S:Iv N ps (Jd st))(q:∀(i:Nat) (g:GN),IT P w K mg base (j+i) x ps.length g->∀(f:Addr) (z:GM) (A:Around) (outer:List Env) (s:Shared) (H:Hp) (E:XK),HK (j+i) (A.deeper<|envOfC x (Jd st) s.heap.objs.size f z) ->
   LI (HJ Lu P w K mg base N x (Jd st) f z A outer s H E).nox (K9 st) (G g)):∀i,IT P w K mg base (j+i) x ps.length (L6 N.length G i)
 |0=>by
  obtain⟨f,fd,F,hm,B⟩:=L;refine⟨f,fd,ps,⟨λc H Q E h=>?_,λA outer s H args us c Q E a he B e h=>?_⟩,hm,F.kp,B⟩
  ·obtain⟨_,_,_,_,_,h,_⟩:=h;exact h
  obtain⟨_,_,_,_,_,_,_,_,h,_⟩:=h;cases h
 |i+1=>aZ L S λf z A outer s H E a=>q i _ (dB L S q i) f z A outer s H E a
end
variable {v:GM}
def zl6{at_:Addr}{R:PySem.Fin->Shared->Prop}(c:s.heap.get? at_=some (seqObj "list" #[v] k))(fin:R (.done<|.ret .none) {s with heap:=sortedHeap s.heap at_ [v] #[v]}):
  wpAny (IR prog w) A (Builtin.«list.sort» ⟨[.ref at_],[]⟩) R E s:=by
 have g:=An c;obtain⟨a,g1⟩:∃a,(s.heap.update at_<|BW λ_=>(#[]:Array GM)).get? at_=some (seqObj "list" #[] a):=⟨_,get?_update_seq c λ_=>#[]⟩
 have g2:(((s.heap.update at_<|BW λ_=>(#[]:Array GM)).push<|seqObj "tuple" #[v] 0).push<|seqObj "list" #[] 0).get? at_=some (seqObj "list" #[] a):=Ad _<|Ad _ g1;rw[list_sort_plain];refine Ab<|listItems_at c rfl<|Ab<|listUpdate_at c rfl<|Ab<|seqEpoch_at g1 rfl<|Ab<|EK<|Ab<|wpAny_newList<|Bf ?_;show wpAny (IR prog w) A _ R E {s with heap:=((s.heap.update at_<|BW λ_=>(#[]:Array GM)).push<|seqObj "tuple" #[v] 0).push (seqObj "list" #[] 0)};have two:(#[v]:Array GM).size<2:=by show 1<2;decide
 have same:(arrOf<|SortSt.mk' general' ((#[v]:Array GM).zip #[v]) #[] 7 none).map (·.2)=#[v]:=by show(((#[v]:Array GM).zip #[v]).map (·.2))=#[v];simp
 dsimp only;rw[if_pos two,if_pos two];refine Ab<|Ae ?_;rw[StateT.run_pure];refine Ab<|Ae ?_;dsimp only;rw[same];refine Ab<|seqEpoch_at g2 rfl<|Ab<|listUpdate_at g2 rfl ?_;simp only[bne_self_eq_false,AG,if_false];exact Ae fin
def ziZ{R:Qqa}(c:s.heap.IsList l [v].toArray)(fin:R (.ref<|s.heap.objs.size+1) {s with heap:=sortedAll s.heap [v] #[v]}):
  wpAny (IR prog w) A (call (.builtin "sorted") [.ref l]) R E s:=by
 have sz:((s.heap.push<|seqObj "list" #[] 0).update s.heap.objs.size (BW (·++[v].toArray))).objs.size=s.heap.objs.size+1:=(FZ ..).trans<|size_push' ..;have a:(((s.heap.push<|seqObj "list" #[] 0).update s.heap.objs.size (BW (·++[v].toArray))).push<|seqObj "list" [v].toArray 0).get? (s.heap.objs.size+1)=some (seqObj "list" [v].toArray 0):=by rw[<-sz];exact Aq _ rfl
 refine Calls.call_function_entry kind_sorted plain_sorted entry_sorted (args_sorted1 _) ?_;unfold Builtin.«sorted»;refine Ab (m:=checkCount "sorted" 1 1 _) (Ae<|Ab<|collect_list c<|Ab<|wpAny_newList ?_);show wpAny _ _ _ _ _ {s with heap:=((s.heap.push<|seqObj "list" #[] 0).update s.heap.objs.size (BW (·++[v].toArray))).push (seqObj "list" [v].toArray 0)};rw[sz];exact Ab<|Bf<|Bp slot_list_sort ⟨_,a,rfl⟩ entry_list_sort (zl6 a ⟨_,rfl,Ae ⟨_,rfl,fin⟩⟩)<|args_list_sort _
def TZ:GN
 |[.ref n],st=>(Il st n).bind λds=>if decide (ds.length=1)=true then some (.ref st.length,st++[.lst ds])else none
 |_,_=>none
def zg9:Kz X (.builtin "sorted") TZ:=by
 rintro qp s σ H xs us Q I r ⟨ds,st,io,d,st',R,S,e,k⟩;unfold TZ at e;split at e
 ·rename_i n;obtain⟨zs,m,e⟩:=Hu e;obtain⟨w,e⟩:=JJ e;cases e;obtain⟨y,rfl⟩:=List.length_eq_one_iff.mp<|of_decide_eq_true w;obtain⟨v,rfl,p,rfl,x⟩:=R.one;obtain⟨u,rfl,A⟩:=r.one;cases A;obtain⟨c,E,j⟩:=LX S x m;obtain⟨K,l,pl,f⟩:=I.list E;obtain⟨N,rfl,z⟩:=j.one;obtain⟨i,rfl,B⟩:=l.one;refine ziZ pl.isList ?_;obtain⟨W,h⟩:=sortedAll_at s.heap [i] #[i];have g:H (s.heap.objs.size+1)=none:=I.hok.fresh<|Bj _;refine⟨.ref<|s.heap.objs.size+1,upd H (s.heap.objs.size+1)<|.lst [N],I.laid (t':=s.toks) (a:=s.heap.objs.size+1) (λb o q=>sortedAll_old q) (Bj _) ⟨by show 1<=sizeLine;decide,[i],W,l,by simpa using h⟩,rfl,?_⟩;exact k.lst S j g
 ·cases e
def O4:GN:=Oe QI<|Oe TZ VG
def jD:Kz X (.builtin "sorted") O4:=VA zg8<|VA zg9 zg7
variable {o:Obj}{d it:Addr}{es:Array DictEntry}{ep:Nat}{ok ov:GM}
def zk6{o:Obj}{R:Qqa}(ty:s.TypeIs (.ref d) "dict")(hd:(d==sysModules)=false)(k:R (.ref s.heap.objs.size) {s with heap:=s.heap.push {cls:=.type "dict_items",data:=.fields #[.ref d]} }):wpAny (IR prog w) A (call (.builtin "dict.items") [.ref d]) R E s:=by
 refine Bp Ed ty PySem.F.entry_dict_items ?_<|PySem.F.args_dict_items_1 _;unfold Builtin.«dict.items» Builtin.Dict.noArgs;refine Ab<|Ab<|Dh ty ?_;show wpAny _ _ (pure d) _ _ s;refine Ae ?_;unfold Builtin.Dict.showsAll;show wpAny _ _ ((if(d==sysModules)=true then _ else _) >>= _) _ _ s;rw[if_neg (show ¬(d==sysModules)=true by rw[hd];decide)];exact Ab<|Ae<|Ab<|A2<|Ae ⟨_,rfl,k⟩
def zk9{v:Addr}{R:Qqa}(c:s.heap.IsItemsView v d)(g:s.heap.get? d=some o)(dd:o.data=.dict es ep)(k:R (.ref s.heap.objs.size) {s with heap:=s.heap.push {cls:=.type "dict_itemiterator",data:=.fields #[.none,.bool false,.ref d,.int 0 0,.int es.size 0,.int ep 0,.none,.none]} }):
  wpAny (IR prog w) A (pyIter<|.ref v) R E s:=by
 obtain⟨i,a,j,h⟩:=id c;refine wpAny_pyIter_slot c.typeIs F.slot_dict_items_iter<|Bp F.slot_dict_items_iter c.typeIs F.entry_dict_items_iter ?go<|F.args_dict_items_iter_1 _;unfold Builtin.«dict_items.__iter__» Builtin.Dict_items.dictOf Builtin.Dict_items.newIterator;refine Ab<|Ae<|Ab<|Ab<|AR a h (x:=.ref d) rfl<|Ae<|Ab<|Ab<|DV g dd<|Ab<|Ek g dd ?_;have own:Builtin.Dict_items.ownsTuple "dict_itemiterator"=true:=by decide
 simp only[own,if_true];refine A2 (Ae ⟨_,rfl,"dict_itemiterator",_,⟨_,Aq _ rfl,rfl⟩,F.slot_dict_itemiterator_next.lookup,?_⟩) (by
  simp only[sizeOk,Builtin.Dict_items.ownedTupleFields,Az,AF,AB,A1,Cm];omega)
 simpa[rawInt,Builtin.Dict_items.ownedTupleFields]using k
def zk8{c:DictEntry}{R:Option GM->Shared->Prop}(hit:IsItemIter s.heap it d i es.size ep ok ov)(g:s.heap.get? d=some o)(dd:o.data=.dict es ep)(B:es[i]?=some c)(k:∀h',IsItemIterOut h' it d (i+1) es.size ep c.key c.val s.heap.objs.size->h'.get? s.heap.objs.size=some {cls:=.type "tuple",data:=.seq #[c.key,c.val]}->h'.objs.size=s.heap.objs.size+1 ->
   (∀b u,b≠it->s.heap.get? b=some u->h'.get? b=some u)->R (some<|.ref s.heap.objs.size) {s with heap:=h'}):wpAny (IR prog w) A (pyNext<|.ref it) R E s:=by
 obtain⟨a,j,l,m,os⟩:=s;have ty:Shared.TypeIs ⟨a,j,l,m,os⟩ (.ref it) "dict_itemiterator":=⟨_,hit,rfl⟩;have own:Builtin.Dict_items.ownsTuple "dict_itemiterator"=true:=by decide
 have lt:it<a.objs.size:=An hit;unfold pyNext;refine Ab (C8<|Bk (name:=Bm "__next__") ty F.slot_dict_itemiterator_next<|Bp F.slot_dict_itemiterator_next ty F.entry_dict_itemiterator_next ?_<|F.args_dict_itemiterator_next_1 _);refine Ab<|Ae<|Ab<|Ab ?_;refine Ab<|BN ty<|Ae<|Ab<|wpAny_fieldsOf hit rfl ?_;simp only[own,if_true];show wpAny _ _ (if(Ax d==AH)=true then _ else _) _ _ _;rw[if_neg (show ¬(Ax d==AH)=true from λz=>Bd z)];refine Ab<|Ae<|Ab<|DV g dd ?_;rw[if_neg (by simp)];refine Ab<|Ae<|Ab<|Ek g dd ?_;rw[if_neg (by simp)];refine Ae ?_;have C:¬((i:Int)<0):=by omega
 simp only[C,if_false,Cr,B];refine Ab<|Ab<|BN ty<|Ae<|Ab<|C7 ty ?_;show wpAny _ _ (setField (.ref it) 3 (rawInt<|(i:Int)+1) >>= _) _ _ ⟨a,j,l,m,os⟩;refine Ab<|Be hit (by simp) λg1 n s1=>?_
 replace s1:By it a g1:=s1
 replace n:IsItemIter g1 it d (i+1) es.size ep ok ov:=by
  have cast:((i+1:Nat):Int)=(i:Int)+1:=by omega
  unfold IsItemIter;rw[cast];simpa[rawInt]using n
 have h:Shared.TypeIs ⟨g1,j,l,m,os⟩ (.ref it) "dict_itemiterator":=⟨_,n,rfl⟩;refine Ab<|Bf<|Ab<|C7 h<|Ab<|C7 h ?_;show wpAny _ _ (Builtin.Dict_items.pairFromOwner (.ref it) 6 c.key c.val) _ _ ⟨g1,j,l,m,os⟩;unfold Builtin.Dict_items.pairFromOwner;refine Ab<|EK ?_;have r:IsItemIter (g1.push {cls:=.type "tuple",data:=.seq #[c.key,c.val]}) it d (i+1) es.size ep ok ov:=Ad _ n;have y:g1.objs.size=a.objs.size:=s1.1;generalize H:g1.push {cls:=.type "tuple",data:=.seq #[c.key,c.val]}=g2 at r;have G:g2.get? a.objs.size=some {cls:=.type "tuple",data:=.seq #[c.key,c.val]}:=by rw[<-H,<-y];exact Aq _ rfl
 have I:g2.objs.size=a.objs.size+1:=by rw[<-H,Bu,y]
 have J:∀b u,b≠it->a.get? b=some u->g2.get? b=some u:=λb u nb q=>by rw[<-H];exact Ad _<|s1.extBut b u nb q
 show wpAny _ _ (Builtin.Dict_items.ownedTupleIsFree (.ref it) >>= _) _ _ ⟨g2,j,l,m,os⟩;rw[y];clear H n s1 h y g1;unfold Builtin.Dict_items.ownedTupleIsFree;refine Ab<|Ab<|AR r rfl (x:=.none) rfl<|Ae ?_;simp only[if_true];refine Ab<|AR r rfl (x:=ok) rfl<|Ab<|AR r rfl (x:=ov) rfl<|Ab<|Be r (by simp) λg3 N s3=>?_
 replace s3:By it g2 g3:=s3
 replace N:IsItemIter g3 it d (i+1) es.size ep c.key ov:=N
 refine Ab<|Be N (by simp) λQ W s4=>?_
 replace s4:By it g3 Q:=s4
 replace W:IsItemIter Q it d (i+1) es.size ep c.key c.val:=W
 refine Ab<|Be W (by simp) λX e s5=>?_
 replace s5:By it Q X:=s5
 replace e:IsItemIterOut X it d (i+1) es.size ep c.key c.val a.objs.size:=e
 refine Ab<|Be e (by simp) λv f K=>?_
 replace K:By it X v:=K
 replace f:IsItemIterOut v it d (i+1) es.size ep c.key c.val a.objs.size:=f
 have up:∀b u,b≠it->g2.get? b=some u->v.get? b=some u:=λb u nb q=>K.extBut b u nb<|s5.extBut b u nb<|s4.extBut b u nb<|s3.extBut b u nb q;refine Ab<|EA<|Ae<|Ae ⟨_,rfl,Ae<|k v f (up _ _ (A0 lt) G) ?_ λb u nb q=>up b u nb (J b u nb q)⟩;show v.objs.size=a.objs.size+1;rw[K.1,s5.1,s4.1,s3.1,I]
def zk7{R:Option GM->Shared->Prop}(c:A.handled=none)(hit:IsItemIter s.heap it d i es.size ep ok ov)(g:s.heap.get? d=some o)(dd:o.data=.dict es ep)(e:es[i]?=none)(k:∀h',EB it s.heap h'->R none {s with heap:=h'}):wpAny (IR prog w) A (pyNext<|.ref it) R E s:=by
 have ty:s.TypeIs (.ref it) "dict_itemiterator":=⟨_,hit,rfl⟩;have own:Builtin.Dict_items.ownsTuple "dict_itemiterator"=true:=by decide
 unfold pyNext;refine Ab (C8<|Bk (name:=Bm "__next__") ty F.slot_dict_itemiterator_next<|Bp F.slot_dict_itemiterator_next ty F.entry_dict_itemiterator_next ?_<|F.args_dict_itemiterator_next_1 _);refine Ab<|Ae<|Ab<|Ab ?_;refine Ab<|BN ty<|Ae<|Ab<|wpAny_fieldsOf hit rfl ?_;simp only[own,if_true];show wpAny _ _ (if(Ax d==AH)=true then _ else _) _ _ s;rw[if_neg (show ¬(Ax d==AH)=true from λz=>Bd z)];refine Ab<|Ae<|Ab<|DV g dd ?_;rw[if_neg (by simp)];refine Ab<|Ae<|Ab<|Ek g dd ?_;rw[if_neg (by simp)];refine Ae ?_;have h:¬((i:Int)<0):=by omega
 simp only[h,if_false,Cr,e];refine Ab<|Ab<|BN ty<|Ae ?_;show wpAny _ _ (setField (.ref it) 2 .none >>= _) _ _ s;refine Ab<|BI hit rfl (by simp) ?_;show wpAny _ _ (newExc (.type "StopIteration") [] >>= _) _ _ _;simp only[newExc,newTuple];refine Ab (Ab<|A2 (Ab (m:=firstArgMember _ _)<|wpAny_of_eq (a:=AH) (by first|rfl|(simp only[firstArgMember];rfl))<|A2 ?_<|by size_fits)<|by size_fits);simp only[raiseNew];refine Ab<|wpAny_handled ?_;rw[show A.in1.handled=none from c];refine Ab<|Ae<|wpAny_throw ?_;refine Ab (wpAny_isInstance (T:="StopIteration") (b:=true) ⟨_,Aq _ rfl,rfl⟩ isSubtype_stop<|Ae ?_);exact k _<|((Dz ..).extBut.push _).push _
def Inv.freeze{o:Obj}{u:HO}(I:Inv X qp σ H s)(hd:H d=some u)(g:s.heap.get? d=some o)(e:∀xs,u≠.tup xs)(f:∀x,u≠.own x)(B:∀o w,u≠.frz o w)(C:∀ps,u≠.tbl ps):Inv X qp σ (upd H d<|.frz o u) s:=by
 have ne:∀{b:Addr}{v:HO},H b=some v->v≠u->b≠d:=λ{b v} q a z=>by subst z;rw[hd]at q;exact a (As q).symm
 refine Inv.step (h':=s.heap) (t':=s.toks) (g':=s.gens) (d':=s.drawn) (ch:=[]) I (λ_ z=>nomatch z) (λb v _ _ _ q _=>q) (λb v _ _ _ q _=>⟨v.slots,q⟩) (λb v _ q n=>?_) (λb v _ q=>⟨v,q⟩) (λb xs q=>?_) (λb v w q=>?_) (λb ps q=>⟨#[],?_⟩) (λm hm=>hm) (λb v q=>?_) I.bare
 ·have:b≠d:=λz=>by
   rw[z,hd]at n;cases n
  rw[HR this];exact n
 ·rw[HR (ne q λz=>e xs z.symm)];exact q
 ·rw[HR (ne q λz=>B v w z.symm)];exact q
 ·rw[HR (ne q λz=>C ps z.symm),q];simp
 ·by_cases hb:b=d
  ·subst hb;rw[KQ]at q;cases q;refine⟨g,?_⟩;exact(I.hok b u hd).stay (λc x _ y=>y) (λc y=>by rw[HR (ne y λz=>f b z.symm)];exact y) λc xs y=>by rw[HR (ne y λz=>e xs z.symm)];exact y
  rw[HR hb]at q;exact(I.hok b v q).stay (λc x _ y=>y) (λc y=>by rw[HR (ne y λz=>f b z.symm)];exact y) λc xs y=>by rw[HR (ne y λz=>e xs z.symm)];exact y
def kX(o:Obj)(d:Addr):It:=
 ⟨λi H=>∃ps p,H d=some (.frz o<|.dT ps)/\ps[i]?=some p,λi H x a=>∃q b ps k v,H q=none/\a=upd H q (.tup [.ref b,v])/\x=.ref q/\H d=some (.frz o<|.dT ps)/\ps[i]?=some (k,v)/\H b=some (.tup<|k.map kV),
  λi H=>∃ps,H d=some (.frz o<|.dT ps)/\ps.length<=i⟩
def dW{ps:List (List Key×V)}(x:Kw P w H h d (.frz o<|.dT ps))(dd:o.data=.dict es ep):
  h.get? d=some o/\es.size=ps.length/\∀(i:Nat) (k:List Key) (v:V),ps[i]?=some (k,v)->∃(c:DictEntry) (b:Addr),es[i]?=some c/\c.key=.ref b/\H b=some (.tup<|k.map kV)/\RelV v c.val:=by
 obtain⟨g,z,y,xs,r,X,E,K,s,ex,a,u,f⟩:=x;rw[g]at s;cases s;rw[dd]at a;cases a;have N:es.size=ps.length:=by have n:=congrArg DG u;have A:=BP r;simp at n;omega
 refine⟨g,N,λi k v hi=>?_⟩;have get:∀{l:List (List Key×V)} {m:List (List Key×Addr×GM)} {i:Nat},Paired (λ(p:List Key×V) (q:List Key×Addr×GM)=>p.1=q.1/\H q.2.1=some (.tup<|p.1.map kV)/\RelV p.2 q.2.2) l m->l[i]?=some (k,v)->∃q,m[i]?=some q/\H q.2.1=some (.tup<|k.map kV)/\RelV v q.2.2:=by
  intro l m i q
  induction q generalizing i with
  |nil=>intro e;simp at e
  |cons h t Q=>
   cases i with
   |zero=>
    intro e;simp at e;subst e;exact⟨_,rfl,h.2.1,h.2.2⟩
   |succ j=>intro e;exact Q<|by simpa using e
 obtain⟨q,W,n,A⟩:=get r hi;have he:es[i]?=some (entryOfKey (tupleKind<|J7 P w) q):=by
  have:es.toList[i]?=some (entryOfKey (tupleKind<|J7 P w) q):=by rw[u,AJ,W];rfl
  simpa using this
 exact⟨_,q.2.1,he,rfl,n,A⟩
variable {elts:List PP}
def zjE{x1}(d it:Addr)(dd:o.data=.dict es ep):
  Turn P w K (.Tuple elts x1 pos) (kX o d) [it] it (λi h=>∃ok ov,IsItemIter h it d i es.size ep ok ov) where
 mem:=by simp
 obj:=λi h st b j=>by obtain⟨ok,ov,he⟩:=st;rw[On.mp j];exact⟨_,he,λv z=>by cases z⟩
 keep:=λi h h' st k=>by obtain⟨ok,ov,he⟩:=st;exact⟨ok,ov,k it (by simp) _ he⟩
 item:=by
  intro X r hw x a i qp s σ H E I hf st y;subst r hw x;obtain⟨ps,⟨k,v⟩,n,A⟩:=y;obtain⟨g,C,ent⟩:=dW (I.hok d _ n) dd;obtain⟨Q,b,he,l,j,F⟩:=ent i k v A;obtain⟨ok,ov,hi⟩:=st;refine zk8 hi g dd he λG J t1 T k1=>?_;refine⟨_,rfl,wpAny_letOwnedTupleGo_items (s:={s with heap:=G}) J λN e f=>?_⟩;have m:it≠s.heap.objs.size:=Aw<|An hi;have L:∀c u,c ∉ [it]->s.heap.get? c=some u->N.get? c=some u:=λc u a q=>by have B:c≠it:=λz=>a (by simp[z]);exact(f.2 c B).trans<|k1 c u B q
  have M:N.get? s.heap.objs.size=some {cls:=.type "tuple",data:=.seq #[.ref b,Q.val]}:=by rw[l]at t1;exact(f.2 _ m.symm).trans t1
  refine⟨.ref s.heap.objs.size,upd H s.heap.objs.size<|.tup [.ref b,v],?_,rfl,⟨_,b,ps,k,v,I.hok.fresh<|Ah _,rfl,rfl,n,A,j⟩,⟨_,_,e⟩,λc a=>?_⟩
  ·exact Inv.turnNew (s:=s) (h':=N) (t':=s.toks) I hf L (Ah _) (λc a ob q=>by rw[On.mp a];exact⟨_,e⟩) ⟨by show 2<=sizeLine;decide,[.ref b,Q.val],.cons rfl<|.cons F .nil,⟨_,M,rfl,rfl,_,rfl⟩⟩
  rw[On.mp a,HR m];exact(hf it<|by simp).1
 done:=by intro X r hw x a i qp s σ H E I hf st y;subst r hw x;obtain⟨ps,n,A⟩:=y;obtain⟨g,C,_⟩:=dW (I.hok d _ n) dd;obtain⟨ok,ov,hi⟩:=st;exact zk7 (I.ok.hd a) hi g dd (by simp;omega) λh' S=>⟨rfl,Inv.turnAll (t':=s.toks) I hf λb o j q=>S b o (λz=>j (by simp[z])) q⟩
 self:=λ_ _ _ _ _ st h=>by obtain⟨ok,ov,hi⟩:=st;exact PySem.W.kcp_self hi h
variable {tp:Pos}
section
variable {m:ME}
def UE:Key->D
 |.inl i=>.int i
 |.inr x=>.str x
def Nm(kvs:List (List Key×D)):List D:=kvs.map λp=>.tup [.tup (p.1.map UE),p.2]
theorem Yr:∀(ks:List Key),Hh K H io (ks.map kV) (ks.map UE)
 |[]=>rfl
 |.inl i::r=>⟨_,_,rfl,rfl,Yr r⟩
 |.inr x::r=>⟨_,_,rfl,rfl,Yr r⟩
def SJ:D->Hf->Option (Wk×Hf)
 |.ref n,s=>match s[n]? with
  |some (.dt kvs)=>some (⟨Nm kvs,[]⟩,s.set n (.ft kvs))
  |_=>none
 |_,_=>none
def Xo(m:ME):MI:=λρ st=>(m ρ st).bind λ(d,s)=>SJ d s
def pU{p:Addr}{ps:List (List Key×V)}{kvs:List (List Key×D)}(S:Hv K H io st)(M:io[n]?=some p)(c:H p=some (.frz o<|.dT ps))(r:KR (List Key) K H io ps kvs):MQ K H io ⟨Nm kvs,[]⟩ (kX o p) where
 go:= λi d H1 g s hd X1 A N=>by
  have Q:=X1.frz _ _ _ c;have F:=KR.mono (ka:=g) (X1.kp S) r;have hd:(Nm kvs)[i]?=some d:=hd;unfold Nm at hd;rw[AJ]at hd;obtain⟨⟨k,y⟩,hk,rfl⟩:=ID hd;have get:∀{l:List (List Key×V)} {m:List (List Key×D)} {i:Nat},KR (List Key) K H1 (io++g) l m->m[i]?=some (k,y)->∃v,l[i]?=some (k,v)/\Rep K H1 (io++g) v y:=by
   intro l m i q
   induction q generalizing i with
   |nil=>intro e;simp at e
   |@cons a b _ _ h t G=>
    cases i with
    |zero=>
     intro e;simp at e;subst e;obtain⟨a1,a2⟩:=a;have z:a1=k:=h.1;subst z;exact⟨a2,rfl,h.2⟩
    |succ j=>intro e;exact G<|by simpa using e
  obtain⟨v,W,I⟩:=get F hk;refine⟨⟨ps,_,Q,W⟩,λx T J=>?_⟩;obtain⟨q,b,L,U,Y,X,rfl,rfl,u,w,f⟩:=J;rw[Q]at u;cases u;rw[W]at w;cases w;obtain⟨E,B⟩:=Tv (o:=.tup [.ref b,v]) A X;rw[Am]at B;refine⟨E,B,⟨q,_,rfl,KQ,?_⟩⟩;have C:=I.ext A E;rw[Am]at C;refine Hh.cons ⟨b,_,rfl,?_,Yr k⟩<|Hh.cons C Hh.nil;rw[HR (Ka f X)];exact f
 stop:=λH1 g s X1 A N=>⟨ps,X1.frz _ _ _ c,by show ps.length<=(Nm kvs).length;unfold Nm;rw[Af,KR.length r];exact Ah _⟩
 stop':=λH1 g s i hi X1 A N=>⟨ps,X1.frz _ _ _ c,by have hi:(Nm kvs).length<=i:=hi;unfold Nm at hi;rw[Af,<-KR.length r]at hi;exact hi⟩
def yN{x1}{o:PP}{apos cpos:Pos}(B:SE X o m)(c:attributeBase o "items" X.env (UV o X.env)=UV o X.env:=by rfl)(f:(apos.endLine==cpos.line)=true:=by rfl):
  SI X (.Tuple elts x1 tp) (.Call (.Attribute o "items" apos) [] [] cpos) (Xo m):=by
 rintro qp s σ H R I ⟨ρ,st,io,W,st',E,S,e,k⟩;obtain⟨⟨d,s1⟩,C,e⟩:=Hu e;cases d with
 |ref n=>
  unfold SJ at e;dsimp only at e;split at e
  ·rename_i j A;cases e;refine wpAny_Call_method0_late c f<|HA (B qp s σ H (λv a=>∃ka,Ext io ka H a/\Hv X.K a (io++ka) s1/\Rep X.K a (io++ka) v (.ref n)) I ⟨ρ,st,io,_,s1,E,S,C,λv1 H1 h X1 S1 l=>⟨h,X1,S1,l⟩⟩) ?_;rintro v s2 ⟨x,H1,I1,G,h,X1,S1,l⟩;obtain⟨p,rfl,w⟩:=l;cases G;obtain⟨ps,i,r⟩:=S1.ob n p _ w A;obtain⟨t1,L,M⟩:=pR I1<|.inr ⟨ps,.inl i⟩;refine⟨"dict","dict.items",PySem.F.plainAttrs_dict,Ed,PySem.F.type_dict_items,t1,L,Ew rfl<|PySem.evalArgs_none<|zk6 (o:=default) t1 M ?_⟩;obtain⟨_,_,xs,_,o,es,ep,g,_,N,_,_⟩:=I1.hok p _ i;refine zk9 (o:=o) (es:=es) (ep:=ep) ⟨_,Aq _ rfl,rfl,rfl⟩ (Ad _ g) N ?_;have J:=I1.kept (t':=s2.toks) (h':=(s2.heap.push {cls:=.type "dict_items",data:=.fields #[.ref p]}).push {cls:=.type "dict_itemiterator",data:=.fields #[.none,.bool false,.ref p,.int 0 0,.int es.size 0,.int ep 0,.none,.none]}) λb u q=>Ad _<|Ad _ q;have U:=Inv.freeze J i (Ad _<|Ad _ g) (by simp) (by simp) (by simp) (by simp);obtain⟨X2,Q⟩:=RI (o:=.frz o (.dT ps)) (ob:=.ft j) S1 w A (λo u z=>by rw[i]at z;cases z) λa T Y=>⟨o,ps,Y,KR.mono T r⟩
   have big:s2.heap.objs.size<=(s2.heap.push {cls:=.type "dict_items",data:=.fields #[.ref p]}).objs.size:=by rw[Bu];exact Bj _
   refine⟨_,[_],_,_,_,rfl,U,zjE p _ N,⟨_,_,Aq _ rfl⟩,λb Z=>?_,?_⟩
   ·rw[On.mp Z];refine I1.fpOk big ?_;rw[HR (A7<|Aw<|Ay (An g) big)];exact I1.hok.fresh big
   ·have y:((io++h)++[])[n]?=some p:=by rw[Am];exact w
    have r2:=KR.mono (ka:=[]) (X2.kp S1) r;have ok:=pU Q y KQ r2;refine k _ _ (h++[]) (X1.trans S1 X2) (by rw[<-Ao];exact Q) (by rw[<-Ao];exact ok)
  ·cases e
 |_=>cases e
end
inductive Sr where
 |l (a:Addr)|t (a:Addr)
def Sr.ad:Sr->Addr
 |.l a=>a
 |.t a=>a
def Sr.ob:Sr->Obj
 |.l a=>{cls:=.type "list_iterator",data:=.fields #[.ref a,.int 0 0]}
 |.t a=>{cls:=.type "tuple_iterator",data:=.fields #[.ref a,.int 0 0]}
def Sr.is(h:KF)(xs:Array GM):Sr->Prop
 |.l a=>h.IsList a xs
 |.t a=>IsTup h a xs
def Sr.at_(h:KF)(i:Addr)(k:Nat):Sr->Prop
 |.l a=>h.IsListIter i a k
 |.t a=>IsTupIter h i a k
variable {xs:Array GM}{x:Sr}
def Sr.is_keep(q:x.is h xs)(k:∀u,h.get? x.ad=some u->h'.get? x.ad=some u):x.is h' xs:=by
 cases x with
 |l a=>exact EL q k
 |t a=>obtain⟨o,g,c⟩:=q;exact⟨o,k o g,c⟩
def Sr.at_keep{i:Addr}(q:x.at_ h i n)(k:∀u,h.get? i=some u->h'.get? i=some u):x.at_ h' i n:=by
 cases x with
 |l a=>exact Fs q k
 |t a=>obtain⟨o,g,c⟩:=q;exact⟨o,k o g,c⟩
def Sr.at_get{i:Addr}(q:x.at_ h i n):∃o e,h.get? i=some o/\o.data=.fields e:=by
 cases x with
 |l a=>obtain⟨o,g,c,d⟩:=q;exact⟨o,_,g,d⟩
 |t a=>obtain⟨o,g,c,d⟩:=q;exact⟨o,_,g,d⟩
def Sr.iter{R:Qqa}(h:x.is s.heap xs)(k:R (.ref s.heap.objs.size) {s with heap:=s.heap.push x.ob}):wpAny (IR prog w) A (pyIter<|.ref x.ad) R E s:=by
 cases x with
 |l a=>exact DQ h k
 |t a=>exact iter_tuple h k
def zkA{R:Qqa}(hit:IsTupIter s.heap it a i)(c:IsTup s.heap a xs)(e:xs[i]?=some v)(k:∀h',IsTupIter h' it a (i+1)->By it s.heap h'->R v {s with heap:=h'}):wpAny (IR prog w) A (Builtin.SmallTypes.nextOf<|.ref it) R E s:=by
 obtain⟨m,h,rc,g⟩:=id hit;obtain⟨to,j,_,n,l⟩:=c;unfold Builtin.SmallTypes.nextOf;refine Ab (Bk (name:=Bm "__next__") hit.typeIs CI<|Bp CI hit.typeIs ES ?_<|Fd _);show wpAny _ _ (field (.ref it) 0 >>= _) _ _ s;refine Ab<|AR h g (x:=.ref a) rfl ?_;show wpAny _ _ (if(Ax a==AH)=true then _ else _) _ _ s;rw[if_neg (show ¬(Ax a==AH)=true from λz=>Bd z)];show wpAny _ _ (field (.ref it) 1 >>= _) _ _ s;refine Ab<|AR h g (x:=.int i 0) rfl ?_;show wpAny _ _ (seqItems? (.ref a) >>= _) _ _ s;refine Ab<|BV j l ?_;simp only[Cr,e];refine Ab<|BI h g (by simp)<|Ae ⟨v,rfl,Ae<|k _ ⟨_,Bg _ h<|Bs<|BJ g _,(Obj.cls_mapFields ..).trans rc,?_⟩<|Dz ..⟩;rw[BJ g];simp[rawInt]
def zgj{R:Qqa}(c:A.handled=none)(hit:IsTupIter s.heap it a i)(f:IsTup s.heap a xs)(q:xs[i]?=none)(k:∀h' e,EB it s.heap h'->(∃o,h'.get? e=some o/\o.cls=.type "StopIteration")->E (.ref e) {s with heap:=h'}):wpAny (IR prog w) A (Builtin.SmallTypes.nextOf<|.ref it) R E s:=by
 obtain⟨n,g,rc,h⟩:=id hit;obtain⟨to,j,_,r,l⟩:=f;unfold Builtin.SmallTypes.nextOf;refine Ab (Bk (name:=Bm "__next__") hit.typeIs CI<|Bp CI hit.typeIs ES ?_<|Fd _);show wpAny _ _ (field (.ref it) 0 >>= _) _ _ s;refine Ab<|AR g h (x:=.ref a) rfl ?_;show wpAny _ _ (if(Ax a==AH)=true then _ else _) _ _ s;rw[if_neg (show ¬(Ax a==AH)=true from λz=>Bd z)];show wpAny _ _ (field (.ref it) 1 >>= _) _ _ s;refine Ab<|AR g h (x:=.int i 0) rfl ?_;show wpAny _ _ (seqItems? (.ref a) >>= _) _ _ s;refine Ab<|BV j l ?_;simp only[Cr,q];refine Ab<|CY<|Ab<|BI g h (by simp) ?_;show wpAny _ _ (newExc (.type "StopIteration") [] >>= _) _ _ _;simp only[newExc,newTuple];refine Ab (Ab<|A2 (Ab (m:=firstArgMember _ _)<|wpAny_of_eq (a:=AH) (by first|rfl|(simp only[firstArgMember];rfl))<|A2 ?_<|by size_fits)<|by size_fits);simp only[raiseNew];refine Ab<|wpAny_handled ?_
 first|rw[show A.in1.handled=none from c]|rw[c]
 refine Ab<|Ae<|wpAny_throw ?_;exact k _ _ (((Dz ..).extBut.push _).push _) ⟨_,Aq _ rfl,rfl⟩
def Sr.next{R:Qqa}(hit:x.at_ s.heap it i)(h:x.is s.heap xs)(c:xs[i]?=some v)(k:∀h',x.at_ h' it (i+1)->By it s.heap h'->R v {s with heap:=h'}):
  wpAny (IR prog w) A (Builtin.SmallTypes.nextOf<|.ref it) R E s:=by
 cases x with
 |l a=>exact wpAny_nextOf_list_item hit h c k
 |t a=>exact zkA hit h c k
def Sr.stop{R:Qqa}(c:A.handled=none)(hit:x.at_ s.heap it i)(h:x.is s.heap xs)(f:xs[i]?=none)(k:∀h' e,EB it s.heap h'->(∃o,h'.get? e=some o/\o.cls=.type "StopIteration")->E (.ref e) {s with heap:=h'}):wpAny (IR prog w) A (Builtin.SmallTypes.nextOf<|.ref it) R E s:=by
 cases x with
 |l a=>exact wpAny_nextOf_list_end c hit h f k
 |t a=>exact zgj c hit h f k
def Sr.at_new{i:Addr}(g:h.get? i=some x.ob):x.at_ h i 0:=by
 cases x with
 |l a=>exact⟨_,g,rfl,rfl⟩
 |t a=>exact⟨_,g,rfl,rfl⟩
noncomputable abbrev Rz (h:KF) (x:Sr):KF:=h.push x.ob
noncomputable abbrev SN (h:KF) (x y:Sr):KF:=(Rz h x).push y.ob
noncomputable abbrev SM (h:KF) (x y:Sr):KF:=(SN h x y).push {cls:=.type "tuple",data:=.seq #[.ref h.objs.size,.ref (Rz h x).objs.size]}
noncomputable abbrev U6 (h:KF) (x y:Sr):KF:=(SM h x y).push {cls:=.type "tuple",data:=.seq #[.none,.none]}
noncomputable abbrev Qt (h:KF) (x y:Sr):KF:=(U6 h x y).push {cls:=.type "zip",data:=.fields #[.none,.bool false,.bool false,.ref (SN h x y).objs.size,.ref (SM h x y).objs.size]}
def zlR(x y:Sr)(xs c:Array GM):Meets (Builtin.«zip.__new__» ⟨[.type "zip",.ref x.ad,.ref y.ad],[]⟩) (λ_ R s=>x.is s.heap xs/\y.is s.heap c/\R (.ok<|.ret<|.ref (U6 s.heap x y).objs.size) {s with heap:=Qt s.heap x y}):=
 .of_wp λprog w A R s h=>by
  obtain⟨a,g,d,i,os⟩:=s;obtain⟨l,m,h⟩:=h;have j:=sub_zip;have n:x.is (Shared.heap ⟨a,g,d,i,os⟩) xs:=l;have o:y.is (Shared.heap ⟨a.push x.ob,g,d,i,os⟩) c:=Sr.is_keep m λu q=>Ad _ q
  wp_walk using Sr.iter n,Sr.iter o
  exact⟨_,rfl,h⟩
structure Zp(z TI TO i j:Addr):Prop where
 TIz:TI≠z
 TOz:TO≠z
 iz:i≠z
 jz:j≠z
 TIO:TI≠TO
 TIi:TI≠i
 TIj:TI≠j
 TOi:TO≠i
 TOj:TO≠j
 ij:i≠j
def Pb{a b:Nat}(h:a≠b):(show Addr from a)≠(show Addr from b):=h
def Zp.new(n:Nat):Zp (n+4) (n+2) (n+3) n (n+1):=⟨Pb<|by omega,Pb<|by omega,Pb<|by omega,Pb<|by omega,Pb<|by omega,Pb<|by omega,Pb<|by omega,Pb<|by omega,Pb<|by omega,Pb<|by omega⟩
variable {b:GM}{y:Sr}{z:Addr}{ys:Array GM}
def zm9{R:Qqa}(e:x.is s.heap xs)(f:y.is s.heap ys)(k:∀h',IsZip h' (s.heap.objs.size+4) (s.heap.objs.size+2) (s.heap.objs.size+3) .none->IsPair h' (s.heap.objs.size+2) (.ref s.heap.objs.size) (.ref<|s.heap.objs.size+1)->IsPair h' (s.heap.objs.size+3) .none .none ->
   x.at_ h' s.heap.objs.size 0->y.at_ h' (s.heap.objs.size+1) 0->(∀c u,s.heap.get? c=some u->h'.get? c=some u)->R (.ref<|s.heap.objs.size+4) {s with heap:=h'}):wpAny (IR prog w) A (call (.type "zip") [.ref x.ad,.ref y.ad]) R E s:=by
 refine callType_new F.called_zip (by decide) (F.typeCall_zip_2 _ _) (F.newCall_zip_2 _ _) (λobj=>F.args_object_init_3 obj _ _) F.entry_zip_new (zlR x y xs ys) ⟨e,f,?_⟩;have a:(Rz s.heap x).objs.size=s.heap.objs.size+1:=Bu ..;have g:(SN s.heap x y).objs.size=s.heap.objs.size+2:=(Bu ..).trans (by rw[a]);have h:(SM s.heap x y).objs.size=s.heap.objs.size+3:=(Bu ..).trans (by rw[g]);have j:(U6 s.heap x y).objs.size=s.heap.objs.size+4:=(Bu ..).trans (by rw[h]);have up:∀c u,(Rz s.heap x).get? c=some u->(Qt s.heap x y).get? c=some u:=λc u q=>Ad _<|Ad _<|Ad _<|Ad _ q;have i:(Qt s.heap x y).get? (U6 s.heap x y).objs.size=some {cls:=.type "zip",data:=.fields #[.none,.bool false,.bool false,.ref (SN s.heap x y).objs.size,.ref (SM s.heap x y).objs.size]}:=Aq _ rfl;have f4:(Qt s.heap x y).get? (SM s.heap x y).objs.size=some {cls:=.type "tuple",data:=.seq #[.none,.none]}:=Ad _<|Aq _ rfl;have l:(Qt s.heap x y).get? (SN s.heap x y).objs.size=some {cls:=.type "tuple",data:=.seq #[.ref s.heap.objs.size,.ref (Rz s.heap x).objs.size]}:=Ad _<|Ad _<|Aq _ rfl;have f2:(Qt s.heap x y).get? (Rz s.heap x).objs.size=some y.ob:=Ad _<|Ad _<|Ad _<|Aq _ (by cases y<;>rfl);have f1:(Qt s.heap x y).get? s.heap.objs.size=some x.ob:=up _ _<|Aq _ (by cases x<;>rfl);rw[g,h,j]at i;rw[a,g]at l;rw[h]at f4;rw[a]at f2;show _/\_;rw[j];exact⟨⟨_,i,rfl⟩,k _ i l f4 (Sr.at_new f1) (Sr.at_new f2) λc u q=>up c u (Ad _ q)⟩
def znY{TI TO i j:Addr}{m:Nat}{u a:GM}{R:Option GM->Shared->Prop}(D:Zp z TI TO i j)(xz:x.ad≠z/\x.ad≠TO/\x.ad≠i/\x.ad≠j)(B:y.ad≠z/\y.ad≠TO/\y.ad≠i/\y.ad≠j)(e:IsZip s.heap z TI TO .none) (f:IsPair s.heap TI (.ref i) (.ref j)) (C:IsPair s.heap TO a b) (hi:x.at_ s.heap i n) (Z:y.at_ s.heap j m) (hx:x.is s.heap xs) (hy:y.is s.heap ys) (gx:xs[n]?=some u) (gy:ys[m]?=some v)(k:∀h',IsZip h' z TI TO (rawInt s.heap.objs.size)->IsPair h' TI (.ref i) (.ref j)->IsPair h' TO u v->x.at_ h' i (n+1)->y.at_ h' j (m+1)->IsPair h' s.heap.objs.size u v ->
   (∀c o,c≠z->c≠TO->c≠i->c≠j->s.heap.get? c=some o->h'.get? c=some o)->R (some<|.ref s.heap.objs.size) {s with heap:=h'}):wpAny (IR prog w) A (pyNext<|.ref z) R E s:=by
 have ty:s.TypeIs (.ref z) "zip":=⟨_,e,rfl⟩;unfold pyNext;refine Ab (C8<|Bk (name:=Bm "__next__") ty F.slot_zip_next<|Bp F.slot_zip_next ty F.entry_zip_next ?_<|F.args_zip_next_1 _);show wpAny _ _ (field (.ref z) 2 >>= _) _ _ _;refine Ab<|AR e rfl (x:=.bool false) rfl ?_;show wpAny _ _ (field (.ref z) 3 >>= _) _ _ _;refine Ab<|AR e rfl (x:=.ref TI) rfl<|Ab<|BV f rfl ?_;show wpAny _ _ (Builtin.SmallTypes.ownedTupleIsFree (.ref z) >>= _) _ _ _;unfold Builtin.SmallTypes.ownedTupleIsFree;refine Ab<|Ab<|AR e rfl (x:=.none) rfl<|Ae ?_;simp only[if_true];refine Ab<|CY<|Ab<|AR e rfl (x:=.ref TO) rfl<|Ab<|Be e (by simp) λg1 Q s1=>?_
 replace Q:IsZip g1 z TI TO .ellipsis:=Q
 have k1:∀c o,c≠z->s.heap.get? c=some o->g1.get? c=some o:=λc o h q=>s1.extBut c o h q;simp only[F1,El,Eh,C0];refine Ab<|Ab<|Ab<|DO ?_;show wpAny _ _ (Builtin.SmallTypes.nextOf (.ref i) >>= _) _ _ _;refine Ab<|Sr.next (Sr.at_keep hi λo q=>k1 _ o D.iz q) (Sr.is_keep hx λo q=>k1 _ o xz.1 q) gx λg2 i2 s2=>Ae ?_;have k2:∀c o,c≠z->c≠i->s.heap.get? c=some o->g2.get? c=some o:=λc o h W q=>s2.extBut c o W<|k1 c o h q;have L:IsPair g2 TO a b:=k2 _ _ D.TOz D.TOi C;refine Ab<|BV L rfl<|Ab<|Du L λg3 X s3=>(Ab<|EA<|Ae ?_)
 replace X:IsPair g3 TO u b:=X
 have k3:∀c o,c≠z->c≠i->c≠TO->s.heap.get? c=some o->g3.get? c=some o:=λc o h W nt q=>s3.extBut c o nt<|k2 c o h W q;refine Ab<|Ab<|DO ?_;show wpAny _ _ (Builtin.SmallTypes.nextOf (.ref j) >>= _) _ _ _;refine Ab<|Sr.next (Sr.at_keep Z λo q=>k3 _ o D.jz D.ij.symm D.TOj.symm q) (Sr.is_keep hy λo q=>k3 _ o B.1 B.2.2.1 B.2.1 q) gy λg4 j4 s4=>Ae ?_;have M:IsPair g4 TO u b:=s4.extBut _ _ D.TOj X;refine Ab<|BV M rfl<|Ab<|Du M λg l s5=>(Ab<|EA<|Ae<|Ae ?_)
 replace l:IsPair g TO u v:=l
 refine Ab<|BV l rfl<|Ab<|EK ?_;have sz:g.objs.size=s.heap.objs.size:=by rw[s5.1,s4.1,s3.1,s2.1,s1.1]
 have S:IsZip g z TI TO .ellipsis:=s5.extBut _ _ D.TOz.symm<|s4.extBut _ _ D.jz.symm<|s3.extBut _ _ D.TOz.symm<|s2.extBut _ _ D.iz.symm Q;have k5:∀c o,c≠z->c≠TO->c≠i->c≠j->s.heap.get? c=some o->g.get? c=some o:=λc o r H G I q=>s5.extBut c o H<|s4.extBut c o I<|k3 c o r G H q;have i5:x.at_ g i (n+1):=Sr.at_keep i2 λo q=>s5.extBut _ _ D.TOi.symm<|s4.extBut _ _ D.ij<|s3.extBut _ _ D.TOi.symm q;have j5:y.at_ g j (m+1):=Sr.at_keep j4 λo q=>s5.extBut _ _ D.TOj.symm q;have T:z<g.objs.size:=An S;show wpAny _ _ (Builtin.SmallTypes.ownedTupleHandOut (.ref z) (.ref g.objs.size) >>= _) _ _ _;unfold Builtin.SmallTypes.ownedTupleHandOut;have z6:IsZip (g.push {cls:=.type "tuple",data:=.seq #[u,v]}) z TI TO .ellipsis:=Ad _ S;refine Ab<|Ab<|Be z6 (by simp) λg7 J s7=>?_
 replace J:IsZip g7 z TI TO (rawInt g.objs.size):=J
 refine Be J (by simp) λK N U=>?_
 replace N:IsZip K z TI TO (rawInt g.objs.size):=N
 have up:∀c o,c≠z->g.get? c=some o->K.get? c=some o:=λc o h q=>U.extBut c o h<|s7.extBut c o h<|Ad _ q;have Y:IsPair K g.objs.size u v:=U.extBut _ _ (A0 T)<|s7.extBut _ _ (A0 T)<|Aq _ rfl;rw[sz]at N Y;refine Ae ⟨_,rfl,Ae ?_⟩;show R (some<|.ref g.objs.size) _;rw[sz];exact k K N (up _ _ D.TIz<|k5 _ _ D.TIz D.TIO D.TIi D.TIj f) (up _ _ D.TOz l) (Sr.at_keep i5 λo q=>up _ o D.iz q) (Sr.at_keep j5 λo q=>up _ o D.jz q) Y λc o r H G I q=>up c o r (k5 c o r H G I q)
def yF{TI TO i j:Addr}{m:Nat}{a:GM}{R:Option GM->Shared->Prop}(I:A.handled=none)(D:Zp z TI TO i j)(xz:x.ad≠z/\x.ad≠TO/\x.ad≠i/\x.ad≠j)(B:y.ad≠z/\y.ad≠TO/\y.ad≠i/\y.ad≠j)(f:IsZip s.heap z TI TO .none) (C:IsPair s.heap TI (.ref i) (.ref j)) (G:IsPair s.heap TO a b) (hi:x.at_ s.heap i n) (S:y.at_ s.heap j m) (J:x.is s.heap xs) (U:y.is s.heap ys) (he:xs[n]?=none\/ys[m]?=none)(k:∀h',(∀c o,c≠z->c≠TO->c≠i->c≠j->s.heap.get? c=some o->h'.get? c=some o)->R none {s with heap:=h'}):wpAny (IR prog w) A (pyNext<|.ref z) R E s:=by
 have ty:s.TypeIs (.ref z) "zip":=⟨_,f,rfl⟩;have halt:∀h' e,(∀c o,c≠z->c≠TO->c≠i->c≠j->s.heap.get? c=some o->h'.get? c=some o)->(∃o,h'.get? e=some o/\o.cls=.type "StopIteration") ->
   wpAny (IR prog w) A (do if <-isInstance (.ref e) (.type "StopIteration")then pure none else throw (Ax e)) R E {s with heap:=h'}:=λh' e q ⟨o,g,c⟩=>
  Ab (wpAny_isInstance (T:="StopIteration") (b:=true) ⟨o,g,c⟩ isSubtype_stop<|Ae<|k h' q)
 unfold pyNext;refine Ab (C8<|Bk (name:=Bm "__next__") ty F.slot_zip_next<|Bp F.slot_zip_next ty F.entry_zip_next ?_<|F.args_zip_next_1 _);show wpAny _ _ (field (.ref z) 2 >>= _) _ _ _;refine Ab<|AR f rfl (x:=.bool false) rfl ?_;show wpAny _ _ (field (.ref z) 3 >>= _) _ _ _;refine Ab<|AR f rfl (x:=.ref TI) rfl<|Ab<|BV C rfl ?_;show wpAny _ _ (Builtin.SmallTypes.ownedTupleIsFree (.ref z) >>= _) _ _ _;unfold Builtin.SmallTypes.ownedTupleIsFree;refine Ab<|Ab<|AR f rfl (x:=.none) rfl<|Ae ?_;simp only[if_true];refine Ab<|CY<|Ab<|AR f rfl (x:=.ref TO) rfl<|Ab<|Be f (by simp) λg1 H s1=>?_
 replace H:IsZip g1 z TI TO .ellipsis:=H
 have k1:∀c o,c≠z->s.heap.get? c=some o->g1.get? c=some o:=λc o l q=>s1.extBut c o l q;have sep:∀{g:KF}{e:Addr}{o:Obj},IsZip g z TI TO .ellipsis->g.get? e=some o->o.cls=.type "StopIteration"->e≠z:=λ{g e o} q h c r=>by subst r;rw[q]at h;cases h;simp at c
 simp only[F1,El,Eh,C0];refine Ab<|Ab<|Ab<|DO ?_;show wpAny _ _ (Builtin.SmallTypes.nextOf (.ref i) >>= _) _ _ _
 cases K:xs[n]? with
 |none=>
  refine Ab<|Sr.stop I (Sr.at_keep hi λo q=>k1 _ o D.iz q) (Sr.is_keep J λo q=>k1 _ o xz.1 q) K ?_;rintro g2 e s2 ⟨N,he,ce⟩;have X:IsZip g2 z TI TO .ellipsis:=s2 _ _ D.iz.symm H;exact Be X (by simp) λg3 _ s3=>halt g3 e (λc o v _ Q _ q=>s3.extBut c o v (s2 c o Q<|k1 c o v q)) ⟨N,s3.extBut _ _ (sep X he ce) he,ce⟩
 |some u=>
  have Y:ys[m]?=none:=he.resolve_left (by rw[K];simp);refine Ab<|Sr.next (Sr.at_keep hi λo q=>k1 _ o D.iz q) (Sr.is_keep J λo q=>k1 _ o xz.1 q) K λg2 i2 s2=>Ae ?_;have k2:∀c o,c≠z->c≠i->s.heap.get? c=some o->g2.get? c=some o:=λc o l W q=>s2.extBut c o W<|k1 c o l q;have L:IsPair g2 TO a b:=k2 _ _ D.TOz D.TOi G;refine Ab<|BV L rfl<|Ab<|Du L λg3 o3 s3=>(Ab<|EA<|Ae ?_);have k3:∀c o,c≠z->c≠i->c≠TO->s.heap.get? c=some o->g3.get? c=some o:=λc o l W nt q=>s3.extBut c o nt<|k2 c o l W q;refine Ab<|Ab<|DO ?_;show wpAny _ _ (Builtin.SmallTypes.nextOf (.ref j) >>= _) _ _ _;refine Ab<|Sr.stop I (Sr.at_keep S λo q=>k3 _ o D.jz D.ij.symm D.TOj.symm q) (Sr.is_keep U λo q=>k3 _ o B.1 B.2.2.1 B.2.1 q) Y ?_;rintro Z e s4 ⟨N,he,ce⟩;have M:IsZip Z z TI TO .ellipsis:=s4 _ _ D.jz.symm<|s3.extBut _ _ D.TOz.symm<|s2.extBut _ _ D.iz.symm H;exact Be M (by simp) λg5 _ s5=>halt g5 e (λc o v c2 Q c4 q=>s5.extBut c o v (s4 c o c4<|k3 c o v Q c2 q)) ⟨N,s5.extBut _ _ (sep M he ce) he,ce⟩
def Sr.sq(H:Hp)(xs:List V):Sr->Prop
 |.l a=>H a=some (.lst xs)\/∃o,H a=some (.frz o<|.lst xs)
 |.t a=>H a=some (.tup xs)
def Sr.sq_ne{xs:List V}{b:Addr}(h:x.sq H xs)(c:H b=none):x.ad≠b:=by
 cases x with
 |l a=>rcases h with h|⟨o,h⟩<;>exact Ka h c
 |t a=>exact Ka (show H a=some (.tup xs) from h) c
def Sr.sq_inj{xs ys:List V}(h:x.sq H xs)(h':x.sq H ys):xs=ys:=by
 cases x with
 |l a=>rcases h with h|⟨o,h⟩<;>rcases h' with h'|⟨g,h'⟩<;>rw[h]at h'<;>cases h'<;>rfl
 |t a=>
  have h:H a=some (.tup xs):=h;have h':H a=some (.tup ys):=h';rw[h]at h';cases h';rfl
def Sr.sq_is{xs:List V}(I:Inv X qp σ H s)(h:x.sq H xs):∃its:List GM,Vals xs its/\x.is s.heap its.toArray:=by
 cases x with
 |l a=>
  obtain⟨its,g,p,_⟩:=I.list (show Kf X.K H a xs from .inl h);exact⟨its,g,p.isList⟩
 |t a=>
  obtain⟨its,g,p,_⟩:=I.tuple<|Jg.of (K:=X.K) h;exact⟨its,g,p⟩
def Itz(x y:Sr):It:=
 ⟨λi H=>∃xs ys u v,x.sq H xs/\y.sq H ys/\xs[i]?=some u/\ys[i]?=some v,λi H r a=>∃p u v,H p=none/\a=upd H p (.tup [u,v])/\r=.ref p/\(∀xs,x.sq H xs->xs[i]?=some u)/\∀ys,y.sq H ys->ys[i]?=some v,
  λi H=>∃xs ys,x.sq H xs/\y.sq H ys/\(xs.length<=i\/ys.length<=i)⟩
def zn0{x1}(x y:Sr){TI TO i j:Addr}(D:Zp z TI TO i j):
  Turn P w K (.Tuple elts x1 pos) (Itz x y) [z,TI,TO,i,j] z (λn h=>IsZip h z TI TO .none/\IsPair h TI (.ref i) (.ref j)/\(∃a b,IsPair h TO a b)/\x.at_ h i n/\y.at_ h j n) where
 mem:=by simp
 obj:=λn h st b l=>by
  obtain⟨f,m,⟨a,c,r⟩,hi,B⟩:=st;simp only[Br,BG,or_false]at l;rcases l with rfl|rfl|rfl|rfl|rfl
  ·exact⟨_,f,λv q=>by cases q⟩
  ·exact⟨_,m,λv q=>by cases q⟩
  ·exact⟨_,r,λv q=>by cases q⟩
  ·obtain⟨o,C,g,d⟩:=Sr.at_get hi;exact⟨o,g,λv q=>by rw[d]at q;cases q⟩
  obtain⟨o,C,g,d⟩:=Sr.at_get B;exact⟨o,g,λv q=>by rw[d]at q;cases q⟩
 keep:=λn h h' st k=>by obtain⟨f,m,⟨a,c,r⟩,hi,B⟩:=st;exact⟨k z (by simp) _ f,k TI (by simp) _ m,⟨a,c,k TO (by simp) _ r⟩,Sr.at_keep hi λo q=>k i (by simp) o q,Sr.at_keep B λo q=>k j (by simp) o q⟩
 item:=by
  intro X L hw M hc n qp s σ H E I hf st S;subst L hw M;obtain⟨xs,ys,u,v,A,N,gu,gv⟩:=S;obtain⟨f,m,⟨a,c,r⟩,hi,B⟩:=st;obtain⟨T,rx,ix⟩:=Sr.sq_is I A;obtain⟨U,Y,Z⟩:=Sr.sq_is I N;obtain⟨u',gu',ru⟩:=rx.get gu;obtain⟨v',gv',rv⟩:=Y.get gv;have F:=(hf z<|by simp).1;have Q:=(hf TO<|by simp).1;have G:=(hf i<|by simp).1;have J:=(hf j<|by simp).1;refine znY D ⟨Sr.sq_ne A F,Sr.sq_ne A Q,Sr.sq_ne A G,Sr.sq_ne A J⟩ ⟨Sr.sq_ne N F,Sr.sq_ne N Q,Sr.sq_ne N G,Sr.sq_ne N J⟩ f m r hi B ix Z (u:=u') (v:=v') (by simpa using gu') (by simpa using gv') λh1 z1 ti1 to1 i1 j1 t1 k1=>?_;refine⟨_,rfl,wpAny_letOwnedTupleGo_zip (s:={s with heap:=h1}) z1 λe z2 b2=>?_⟩;have up:∀b o,b≠z->h1.get? b=some o->e.get? b=some o:=λb o nb q=>(b2.2 b nb).trans q;have k2:∀b o,b ∉ [z,TI,TO,i,j]->s.heap.get? b=some o->e.get? b=some o:=λb o l q=>by simp only[Br,BG,or_false,not_or]at l;exact up b o l.1<|k1 b o l.1 l.2.2.1 l.2.2.2.1 l.2.2.2.2 q
  have lt:∀b∈[z,TI,TO,i,j],b<s.heap.objs.size:=λb l=>by
   simp only[Br,BG,or_false]at l;rcases l with rfl|rfl|rfl|rfl|rfl
   ·exact An f
   ·exact An m
   ·exact An r
   ·obtain⟨o,C,g,d⟩:=Sr.at_get hi;exact An g
   obtain⟨o,C,g,d⟩:=Sr.at_get B;exact An g
  have t2:e.get? s.heap.objs.size=some {cls:=.type "tuple",data:=.seq #[u',v']}:=up _ _ (A0<|lt z<|by simp) t1;have W:IsZip e z TI TO .none/\IsPair e TI (.ref i) (.ref j)/\(∃a b,IsPair e TO a b)/\x.at_ e i (n+1)/\y.at_ e j (n+1):=
   ⟨z2,up _ _ D.TIz ti1,⟨_,_,up _ _ D.TOz to1⟩,Sr.at_keep i1 λo q=>up _ o D.iz q,Sr.at_keep j1 λo q=>up _ o D.jz q⟩
  refine⟨.ref s.heap.objs.size,upd H s.heap.objs.size<|.tup [u,v],?_,rfl,⟨_,u,v,I.hok.fresh<|Ah _,rfl,rfl,λzs h=>by rw[Sr.sq_inj h A];exact gu,λzs h=>by rw[Sr.sq_inj h N];exact gv⟩,W,λb l=>?_⟩
  ·refine Inv.turnNew (s:=s) (h':=e) (t':=s.toks) I hf k2 (Ah _) (λb l ob q=>?_) ⟨by show 2<=sizeLine;decide,[u',v'],.cons ru<|.cons rv .nil,⟨_,t2,rfl,rfl,_,rfl⟩⟩;simp only[Br,BG,or_false]at l
   rcases l with rfl|rfl|rfl|rfl|rfl
   ·exact⟨_,z2⟩
   ·exact⟨_,W.2.1⟩
   ·obtain⟨_,_,q⟩:=W.2.2.1;exact⟨_,q⟩
   ·obtain⟨o,C,g,d⟩:=Sr.at_get W.2.2.2.1;exact⟨o,g⟩
   obtain⟨o,C,g,d⟩:=Sr.at_get W.2.2.2.2;exact⟨o,g⟩
  rw[HR (Aw<|lt b l)];exact(hf b l).1
 done:=by
  intro X L hw M hc n qp s σ H E I hf st S;subst L hw M;obtain⟨xs,ys,A,N,he⟩:=S;obtain⟨f,m,⟨a,c,r⟩,hi,B⟩:=st;obtain⟨T,rx,ix⟩:=Sr.sq_is I A;obtain⟨U,Y,Z⟩:=Sr.sq_is I N;have F:=(hf z<|by simp).1;have Q:=(hf TO<|by simp).1;have G:=(hf i<|by simp).1;have J:=(hf j<|by simp).1;have l1:=rx.length;have l2:=Y.length;exact yF (I.ok.hd hc) D ⟨Sr.sq_ne A F,Sr.sq_ne A Q,Sr.sq_ne A G,Sr.sq_ne A J⟩ ⟨Sr.sq_ne N F,Sr.sq_ne N Q,Sr.sq_ne N G,Sr.sq_ne N J⟩ f m r hi B ix Z (by
   rcases he with h|h
   ·exact .inl (by simp;omega)
   ·exact .inr (by simp;omega)) λh' k=>⟨rfl,Inv.turnAll (t':=s.toks) I hf λb o l q=>by simp only[Br,BG,or_false,not_or]at l;exact k b o l.1 l.2.2.1 l.2.2.2.1 l.2.2.2.2 q⟩
 self:=λ_ _ _ _ _ st h=>wpAny_pyIter_zip st.1 h
def Nu(s:Hf):D->Option (List D×List (Nat×List D))
 |.ref n=>(Il s n).map λds=>(ds,[(n,ds)])
 |.tup ds=>some (ds,[])
 |_=>none
def pairD(a b:List D):List D:=(a.zip b).map λp=>.tup [p.1,p.2]
def Qx(x y:D)(s:Hf):Option (Wk×Hf):=(Nu s x).bind λ(a,f)=>(Nu s y).map λ(b,g)=>(⟨pairD a b,f++g⟩,s)
def Q1(ma mb:ME):MI:=λρ st=>(ma ρ st).bind λ(x,s1)=>(mb ρ s1).bind λ(y,s2)=>Qx x y s2
def XY{d:D}{v:V}{ds:List D}{g:List (Nat×List D)}(S:Hv K H io st)(R:Rep K H io v d)(h:Nu st d=some (ds,g)):∃x:Sr,v=.ref x.ad/\(∃xs,x.sq H xs) /\
  ∀H1 ka s1,Ext io ka H H1->Hv K H1 (io++ka) s1->(∀p,p∈g->s1[p.1]?=some (.lst p.2)\/s1[p.1]?=some (.fz p.2))->∃xs,x.sq H1 xs/\Hh K H1 (io++ka) xs ds:=by
 cases d with
 |ref n=>
  obtain⟨l,e,q⟩:=ID h;cases q;obtain⟨p,rfl,a⟩:=R;refine⟨.l p,rfl,?_,λH1 ka s1 X1 S1 j=>?_⟩
  ·unfold Il at e
   split at e
   ·rename_i o he;cases e;obtain⟨xs,q,_⟩:=S.ob n p _ a he;exact⟨xs,.inl q⟩
   ·rename_i o he;cases e;obtain⟨ob,xs,q,_⟩:=S.ob n p _ a he;exact⟨xs,.inr ⟨ob,q⟩⟩
   ·cases e
  ·rcases j (n,ds) Al with q|q
   ·obtain⟨xs,i,r⟩:=S1.ob n p _ (QN a) q;exact⟨xs,.inl i,r⟩
   obtain⟨ob,xs,i,r⟩:=S1.ob n p _ (QN a) q;exact⟨xs,.inr ⟨ob,i⟩,r⟩
 |tup ts=>
  cases h;obtain⟨p,xs,rfl,a,r⟩:=R;exact⟨.t p,rfl,⟨xs,a⟩,λH1 ka s1 X1 S1 _=>⟨xs,X1.sqT S p xs a,r.ext S X1⟩⟩
 |_=>cases h
def zmw{a b:List D}{d:D}(h:(pairD a b)[i]?=some d):∃x y,a[i]?=some x/\b[i]?=some y/\d=.tup [x,y]:=by unfold pairD at h;rw[AJ]at h;obtain⟨⟨x,y⟩,e,q⟩:=ID h;rw[List.getElem?_zip_eq_some]at e;exact⟨x,y,e.1,e.2,q.symm⟩
def boot_zip:UF "zip"=some (.type "zip"):=by decide +kernel
def rK{x1}{a b:PP}(hg:Gl X "zip")(hm:X.mg "zip"=none)(ha:SE X a ma)(G:SE X b mb)(c:SL [a,b] X.env=[(false,UV a X.env),(false,UV b X.env)]:=by rfl)(B:SL [b] X.env=[(false,UV b X.env)]:=by rfl) (L:(backTo pos<|SL [b] X.env).any (·.1)=false:=by rfl):SI X (.Tuple elts x1 tp) (.Call (.Name "zip" p) [a,b] [] pos) (Q1 ma mb):=by
 rintro qp s σ H R I ⟨ρ,st,io,W,st',E,S,e,k⟩;obtain⟨⟨x,s1⟩,e1,e⟩:=Hu e;obtain⟨⟨y,s2⟩,e2,e⟩:=Hu e;obtain⟨⟨as,f⟩,e3,e⟩:=Hu e;obtain⟨⟨bs,g⟩,e4,e⟩:=ID e;cases e;have Q:SL [a,b] X.env=(false,UV a X.env)::SL [b] X.env:=by rw[c,B]
 refine Call_<|QB I hg hm boot_zip<|BA (HA (Hg ha (Hg G Hk B) Q pos qp s σ H (λM J=>∃ka,Ext io ka H J/\Hv X.K J (io++ka) st'/\Hh X.K J (io++ka) M [x,y]) I ⟨ρ,st,io,[x,y],st',E,S,RZ e1<|RZ e2 rfl,λM H1 T U C R1=>⟨T,U,C,R1⟩⟩) ?_) Q L;rintro us t1 ⟨M,H1,I1,r1,T,U,C,R1⟩;obtain⟨v,u,rfl,Rx,Ry⟩:=R1.two;obtain⟨v',u',rfl,Y,Z⟩:=r1.two;obtain⟨xx,rfl,⟨xs,hx⟩,kx⟩:=XY C Rx e3;obtain⟨yy,rfl,⟨ys,hy⟩,ky⟩:=XY C Ry e4;cases Y;cases Z;obtain⟨its,vx,ix⟩:=Sr.sq_is I1 hx;obtain⟨jts,vy,iy⟩:=Sr.sq_is I1 hy;refine zm9 ix iy λh' hz hTI hTO hi hj kk=>wpAny_pyIter_zip hz ?_;refine⟨_,_,_,_,H1,rfl,I1.kept (t':=t1.toks) kk,zn0 xx yy<|Zp.new t1.heap.objs.size,⟨hz,hTI,⟨_,_,hTO⟩,hi,hj⟩,λb G=>?_,?_⟩
 ·have hle:t1.heap.objs.size<=b:=by
   simp only[Br,BG,or_false]at G;rcases G with rfl|rfl|rfl|rfl|rfl
   ·exact BU _ 4
   ·exact BU _ 2
   ·exact BU _ 3
   ·exact Ah _
   exact BU _ 1
  exact I1.fpOk hle<|I1.hok.fresh hle
 ·refine k _ H1 T U C ?_;have m:∀{s3:Hf},stays ⟨pairD as bs,f++g⟩ s3->(∀p,p∈f->s3[p.1]?=some (.lst p.2)\/s3[p.1]?=some (.fz p.2))/\∀p,p∈g->s3[p.1]?=some (.lst p.2)\/s3[p.1]?=some (.fz p.2):=λ{s3} h=>⟨λp hp=>h p (BL _ hp),λp hp=>h p (AV _ hp)⟩
  have len:∀{a b:List D},(pairD a b).length=min a.length b.length:=λ{a b}=>by unfold pairD;rw[Af,List.length_zip]
  refine⟨λi d H2 w s3 hd z n c=>?_,λH2 w s3 z n c=>?_,λH2 w s3 i hi z n c=>?_⟩
  ·obtain⟨j,A,rx⟩:=kx H2 w s3 z n (m c).1;obtain⟨l,N,F⟩:=ky H2 w s3 z n (m c).2;obtain⟨dx,dy,g1,g2,rfl⟩:=zmw hd;obtain⟨u1,gu,Z⟩:=rx.get g1;obtain⟨v1,gv,Y⟩:=F.get g2;refine⟨⟨j,l,u1,v1,A,N,gu,gv⟩,λr J yl=>?_⟩;obtain⟨q,u2,v2,hq,rfl,rfl,yu,yv⟩:=yl;have e5:=yu j A;have e6:=yv l N;rw[gu]at e5;rw[gv]at e6;cases e5;cases e6;obtain⟨E',S'⟩:=Tv (o:=.tup [u1,v1]) n hq;rw[Am]at S';refine⟨E',S',⟨q,_,rfl,KQ,?_⟩⟩;have r2:=Z.ext n E';have r3:=Y.ext n E';rw[Am]at r2 r3;exact Hh.cons r2<|Hh.cons r3 Hh.nil
  ·obtain⟨j,A,rx⟩:=kx H2 w s3 z n (m c).1;obtain⟨l,N,F⟩:=ky H2 w s3 z n (m c).2;refine⟨j,l,A,N,?_⟩;show j.length<=(pairD as bs).length\/l.length<=(pairD as bs).length;rw[len,rx.length,F.length];omega
  obtain⟨j,A,rx⟩:=kx H2 w s3 z n (m c).1;obtain⟨l,N,F⟩:=ky H2 w s3 z n (m c).2;refine⟨j,l,A,N,?_⟩;have hi:(pairD as bs).length<=i:=hi;rw[len]at hi;rw[rx.length,F.length];omega
def NK(X:Cx)(fs:List Str):List Nat->List Str->Prop
 |[],[]=>True
 |j::c,x::xs=>(X.N[j]?=some x/\x∈fs)/\NK X fs c xs
 |_,_=>False
def NI(X:Cx):List Str->Prop
 |[]=>True
 |x::xs=>(X.env.kindOf x=some .cell\/X.env.kindOf x=some .free)/\NI X xs
theorem NI.get{X:Cx}:∀{fs:List Str}{x:Str},NI X fs->x∈fs->X.env.kindOf x=some .cell\/X.env.kindOf x=some .free
 |[],_,_,m=>nomatch m
 |y::ys,x,h,m=>by
  rcases KM.mp m with rfl|m
  ·exact h.1
  exact NI.get h.2 m
theorem NK.get{X:Cx}{fs:List Str}:∀{fr:List Nat}{xs:List Str}{i j:Nat}{x:Str},NK X fs fr xs->fr[i]?=some j->xs[i]?=some x->X.N[j]?=some x/\x∈fs
 |[],[],i,j,x,_,h,_=>by simp at h
 |[],_::_,i,j,x,h,_,_=>h.elim
 |_::_,[],i,j,x,h,_,_=>h.elim
 |k::ks,y::ys,0,j,x,h,c,e=>by simp at c e;subst c e;exact h.1
 |k::ks,y::ys,i+1,j,x,h,c,e=>NK.get (i:=i) h.2 (by simpa using c)<|by simpa using e
def RV{scope:Scope}{N':List Str}{nt:Nat}{fr:List Nat}(fs:List Str)(kind:scope.kind=.function)(e:(scope.names.map (·.1)).Nodup)(hf:scope.names.all (λp=>!(p.2==AI) || fs.contains p.1)=true)(f:fs.all (λx=>scope.names.contains (x,AI))=true) (len:N'.length=nt+fr.length) (c:NK X fs fr (N'.drop nt)) (out:NI X fs):Ki X scope N' nt fr:=by
 refine⟨kind,e,len,λi j x h l=>?_,λx m=>?_⟩
 ·have g:(N'.drop nt)[i]?=some x:=by rw[List.getElem?_drop];exact l
  obtain⟨a,b⟩:=c.get h g;refine⟨a,?_⟩;have:=List.all_eq_true.mp f x b;simpa using this
 ·have:=List.all_eq_true.mp hf _ m;have hm:x∈fs:=by simpa using this
  exact out.get hm
def JI:UF "len"=some (.builtin "len"):=by decide +kernel
def qM:UF "abs"=some (.builtin "abs"):=by decide +kernel
def aW:UF "max"=some (.builtin "max"):=by decide +kernel
def qN:UF "min"=some (.builtin "min"):=by decide +kernel
def gW:UF "sorted"=some (.builtin "sorted"):=by decide +kernel
def RD:UF "all"=some (.builtin "all"):=by decide +kernel
def Pq:UF "int"=some (.type "int"):=by decide +kernel
def XF:UF "bool"=some (.type "bool"):=by decide +kernel
def M5:UF "str"=some (.type "str"):=by decide +kernel
def Oc:UF "tuple"=some (.type "tuple"):=by decide +kernel
def qX:UF "dict"=some (.type "dict"):=by decide +kernel
def IE:G2:=JM KZ Qw
def O0:Jv X (binaryOp .Mult) IE:=Pt tM zB
theorem dG{K:Ac}{H:Hp}{io:List Addr}:∀(ns:List Int),Hh K H io (ns.map V.int) (ns.map D.int)
 |[]=>rfl
 |n::ns=>⟨_,_,rfl,rfl,dG ns⟩
def yS{ns:List Int}{E:XK}(c:OL H)(f:Kf K H a (ns.map V.int))(e:g [.kl (ns.map D.int)] []=some (.bl true,st)):Qj K 1 g [.ref a] H (λv _=>v=.bl true) E:=by
 have i:Ri K H a (ns.map V.int):=by
  rcases f with(h|h)|h
  ·rcases c a with z|⟨o,xs,z⟩
   ·rw[z]at h;cases h
   rw[z]at h;cases h
  ·exact .inl h
  exact .inr h
 refine⟨_,[],[],_,_,rfl,Hh.cons (show Rep K H [] (.ref a) (.kl<|ns.map D.int) from⟨a,_,rfl,i,dG ns⟩) Hh.nil,⟨rfl,Gg,λn b o h=>by simp at h⟩,e,λv l ka m r j=>j⟩
end L2.MP
namespace L2.MP
open PySem
structure Gr(st st':Hf):Prop where
 len:st.length<=st'.length
 old:∀k,k<st.length->st'[k]?=st[k]?
structure Fr(n:Nat)(st st':Hf):Prop where
 len:st.length<=st'.length
 old:∀k,k<st.length->k≠n->st'[k]?=st[k]?
def Gr.refl(st:Hf):Gr st st:=⟨Ah _,λ_ _=>rfl⟩
def Fr.refl(n:Nat)(st:Hf):Fr n st st:=⟨Ah _,λ_ _ _=>rfl⟩
def Gr.fr{st st':Hf}(h:Gr st st')(n:Nat):Fr n st st':=⟨h.len,λk hk _=>h.old k hk⟩
variable {a b c:Hf}
def Gr.trans{a b c:Hf}(h:Gr a b)(h':Gr b c):Gr a c:=⟨Ar h.len h'.len,λk hk=>(h'.old k<|Ay hk h.len).trans (h.old k hk)⟩
variable {n:Nat}
def Fr.trans{n:Nat}{a b c:Hf}(h:Fr n a b)(h':Fr n b c):Fr n a c:=⟨Ar h.len h'.len,λk hk l=>(h'.old k (Ay hk h.len) l).trans (h.old k hk l)⟩
def Gr.app(st:Hf)(l:List O):Gr st (st++l):=⟨by simp,λk hk=>AL hk⟩
def Fr.app(n:Nat)(st:Hf)(l:List O):Fr n st (st++l):=(Gr.app st l).fr n
def Fr.set(n:Nat)(st:Hf)(o:O):Fr n st (st.set n o):=⟨by simp,λk _ hk=>by rw[AE (λh=>hk h.symm)]⟩
variable {α:Type}
def qax{l:List α}{x:α}(h:l[n]?=some x):n<l.length:=(KB.mp h).1
def IJ(st:Hf)(o:O):(st++[o])[st.length]?=some o:=getElem?_len st o
variable {W:Wk}{g:MG}
theorem QG{W:Wk}{g:MG}{m:MS}:∀{ds:List D}{Inv:Nat->HX->Hf->Prop}{ρ:HX}{st:Hf},Inv 0 ρ st->(∀k ρ s,k<=ds.length->Inv k ρ s->walked W s=true) ->
  (∀k d ρ s,ds[k]?=some d->Inv k ρ s->∃ρ1 s1 ρ2 s2,g d ρ s=some (ρ1,s1)/\m ρ1 s1=some (.nx ρ2,s2)/\Inv (k+1) ρ2 s2)->∃ρ' s',Ld W g m ds ρ st=some (.nx ρ',s')/\Inv ds.length ρ' s'
 |[],Inv,ρ,st,h0,f,step=>⟨ρ,st,by unfold Ld;rw[if_pos (f 0 ρ st (Ah _) h0)],h0⟩
 |d::ds,Inv,ρ,st,h0,f,step=>by obtain⟨ρ1,s1,ρ2,s2,i,j,q⟩:=step 0 d ρ st rfl h0;obtain⟨ρ',s',e,h⟩:=QG (W:=W) (g:=g) (m:=m) (ds:=ds) (Inv:=λk=>Inv (k+1)) q (λk ρ s hk h=>f (k+1) ρ s (Dc hk) h) λk d ρ s hd h=>step (k+1) d ρ s (by simpa using hd) h;refine⟨ρ',s',?_,h⟩;unfold Ld;rw[if_pos (f 0 ρ st (Bo _) h0),i];simp only[Aa,j];exact e
variable {m:ME}
theorem Qs{W:Wk}{g:MG}{c:MT}{m:ME}:∀{ds:List D}{Inv:Nat->List D->HX->Hf->Prop}{acc:List D}{ρ:HX}{st:Hf},Inv 0 acc ρ st->(∀k a ρ s,k<=ds.length->Inv k a ρ s->walked W s=true) ->
  (∀k d a ρ s,ds[k]?=some d->Inv k a ρ s->∃ρ1 s1 b s2,g d ρ s=some (ρ1,s1)/\c ρ1 s1=some (b,s2)/\((b=true/\∃x s3,m ρ1 s2=some (x,s3)/\Inv (k+1) (a++[x]) ρ1 s3)\/(b=false/\Inv (k+1) a ρ1 s2))) ->
  ∃xs ρ' s',Kt W g c m ds ρ st=some (xs,s')/\Inv ds.length (acc++xs) ρ' s'
 |[],Inv,acc,ρ,st,h0,f,step=>⟨[],ρ,st,by unfold Kt;rw[if_pos (f 0 acc ρ st (Ah _) h0)],by rw[Am];exact h0⟩
 |d::ds,Inv,acc,ρ,st,h0,f,step=>by
  obtain⟨ρ1,s1,b,s2,j,q,i⟩:=step 0 d acc ρ st rfl h0;have l:∀k a ρ s,k<=ds.length->Inv (k+1) a ρ s->walked W s=true:=λk a ρ s hk h=>f (k+1) a ρ s (Dc hk) h;have st':∀k d a ρ s,ds[k]?=some d->Inv (k+1) a ρ s->∃ρ1 s1 b s2,g d ρ s=some (ρ1,s1)/\c ρ1 s1=some (b,s2)/\((b=true/\∃x s3,m ρ1 s2=some (x,s3)/\Inv (k+1+1) (a++[x]) ρ1 s3)\/(b=false/\Inv (k+1+1) a ρ1 s2)):=λk d a ρ s hd h=>step (k+1) d a ρ s (by simpa using hd) h
  rcases i with⟨rfl,x,s3,n,i⟩|⟨rfl,i⟩
  ·obtain⟨xs,ρ',s',e,h⟩:=Qs (W:=W) (g:=g) (c:=c) (m:=m) (ds:=ds) (Inv:=λk=>Inv (k+1)) i l st';refine⟨x::xs,ρ',s',?_,by simpa using h⟩;unfold Kt;rw[if_pos (f 0 acc ρ st (Bo _) h0),j];simp only[Aa,q,if_true,n,e,Aj]
  obtain⟨xs,ρ',s',e,h⟩:=Qs (W:=W) (g:=g) (c:=c) (m:=m) (ds:=ds) (Inv:=λk=>Inv (k+1)) i l st';refine⟨xs,ρ',s',?_,h⟩;unfold Kt;rw[if_pos (f 0 acc ρ st (Bo _) h0),j];simp only[Aa,q,AG,if_false,e]
theorem QA{W:Wk}{g:MG}{c:MT}{m:ME}{α:Type}{f h:α->D}{R:HX->Prop}:∀{as:List α}{ρ:HX}{st:Hf},R ρ->walked W st=true->(∀a∈as,∀ρ,R ρ->∃ρ1,g (f a) ρ st=some (ρ1,st)/\c ρ1 st=some (true,st)/\m ρ1 st=some (h a,st)/\R ρ1) ->
  Kt W g c m (as.map f) ρ st=some (as.map h,st)
 |[],ρ,st,r,i,_=>by unfold Kt;rw[BM];simp only[i,if_true,BM]
 |a::as,ρ,st,r,i,j=>by obtain⟨ρ1,q,z,B,C⟩:=j a Al ρ r;have e:=QA (W:=W) (g:=g) (c:=c) (m:=m) (f:=f) (h:=h) (R:=R) (as:=as) C i λb l=>j b<|Ak _ l;rw[Au];unfold Kt;rw[if_pos i,q];simp only[Aa,z,if_true,B,e,Aj,Au]
def QT{ds xs:List D}{s:Hf}(h:s[n]?=some (.lst xs)):walked ⟨ds,[(n,xs)]⟩ s=true:=by unfold walked;simp only[EW,Gy,Bool.and_true];exact zld h
def Ko(h:n<=10000):fits n=true:=by unfold fits;exact decide_eq_true<|Ar h<|by decide
end L2.MP
namespace L2.MP
@[simp] theorem JF{α:Type}(x:α)(y:Option α):Od (some x) y=some x:=rfl
@[simp] theorem Kj{α:Type}(y:Option α):Od none y=y:=rfl
end L2.MP
namespace L2.MP.Hn
open PySem L2.MP
def jH:MS:=mS (Hm (mK<|.int 0)<|Ho 2)<|mS (Ih (mT<|mB Ik (mV 1)<|Hi Hl<|Hc (mV 0)<|mZ) (Hm (mB Hr (mV 0)<|mV 1)<|Ho 2)<|IH)<|mS (Hm (mB Ht (mB IE (mK<|.int 2)<|mB KG (Hi OI<|Hc (mV 2)<|mZ)<|mB LB (mB LB (mK<|.int 10)<|mK<|.int 60)<|mK<|.int 15)<|Hi HF<|Hc (mB Ik (mV 2)<|mK<|.int 0)<|mZ)<|Ho 3)<|mS (Hm (mB KG (mV 3)<|mK<|.int 18446744073709551557)<|Ho 4)<|mS (Hm (mB KG (mB Ht (mB Ht (mB IE (mV 4)<|mK<|.int 6364136223846793005)<|mB IE (mK<|.int 97)<|mV 1)<|mK<|.int 3)<|mK<|.int 18446744073709551616)<|Ho 5)<|mR<|mL<|Hc (mB IE (mV 3)<|Hi HF<|Hc (mB Jp (mV 3)<|mB IE (mK<|.int 2)<|mB LB (mK<|.int 10)<|mK<|.int 18)<|mZ)<|Hc (mV 5)<|mZ
def YU:GN:=Jc 6 jH
def Y2:MS:=mS (Ih (mT<|mB IV (mB Hr (mV 0)<|mK<|.int 0)<|mK<|.int 0) (mS (Hm (mB KG (mB Hr (mV 0)<|mK<|.int 0)<|mV 1)<|Ho 2)<|mS (MB (mV 0) (mK<|.int 0)<|mB Ro (mB Hr (mV 0)<|mK<|.int 0)<|mV 1)<|mR<|mV 2)<|IH)<|mS (MB (mV 0) (mK<|.int 1)<|mB KG (mB Ht (mB IE (mB Hr (mV 0)<|mK<|.int 1)<|mK<|.int 6364136223846793005)<|mK<|.int 1442695040888963407)<|mK<|.int 18446744073709551616)<|mR<|mB Ro (mB IE (mB Ro (mB Hr (mV 0)<|mK<|.int 1)<|mK<|.int 4294967296)<|mV 1)<|mK<|.int 4294967296
def Kq:GN:=Jc 3 Y2
def iD:MS:=mR<|mB Hr (mV 1)<|Hi Kq<|Hc (mV 0)<|Hc (Hi Hl<|Hc (mV 1)<|mZ)<|mZ
def Lz:GN:=Jc 2 iD
def Uc:ME:=mB Hr (mV 1)<|Hi Kq<|Hc (mV 2)<|Hc (mK<|.int 26)<|mZ
def Wt:MS:=mS (Hm (Hi Kq<|Hc (mV 0)<|Hc (mK<|.int 4)<|mZ)<|Ho 5) (mS (Hm (OQ (mK<|.str "")<|Hc (Jl (Of<|Hi Lz<|Hc (mV 0)<|Hc (mL<|Hc (mK<|.int 1)<|Hc (mK<|.int 1)<|Hc (mK<|.int 2)<|Hc (mK<|.int 3)<|Hc (mK<|.int 8)<|mZ)<|mZ) 1 [2,0] (Ho 0) IC<|Uc)<|mZ)<|Ho 6)<|mS (Ih (JD (mT<|mB IS (mV 3)<|mL<|mZ)<|mT<|mB Ie (mV 5)<|mK<|.int 1) (Hm (LD (mB Ht (Hi Lz<|Hc (mV 0)<|Hc (mV 3)<|mZ)<|mV 6) Jw<|IW<|mK<|.int 8)<|Ho 6)<|IH)<|mS (Ih (JD (mT<|mB IS (mV 3)<|mL<|mZ)<|mT<|mB Ie (mV 5)<|mK<|.int 2) (Hm (mB Ht (LD (Hi Lz<|Hc (mV 0)<|Hc (mV 3)<|mZ) Jw<|IW<|Lh<|mK<|.int 1)<|LD (mV 6) Jw<|IW<|mK<|.int 1)<|Ho 6)<|IH)<|Ih (JD (mT<|mB Ik (Hi Hl<|Hc (mV 3)<|mZ)<|mV 1)<|mT<|mB QD (mV 6)<|mV 3) (Li<|Lk (mV 3)<|Hc (mV 6)<|mZ)<|IH)
def jW:MS:=mS (Hm (mK<|.str "abcdefghijklmnopqrstuvwxyz")<|Ho 2) (mS (Hm (mL<|mZ)<|Ho 3)<|mS (mF (Of<|mB IE (mK<|.int 2)<|mV 1) (Ho 4)<|Wt)<|mR<|mV 3)
def V2:GN:=Jc 7 jW
def Wl:ME:=mU<|Hc (mV 0)<|Hc (mB Ht (mK<|.int 1)<|Hi Kq<|Hc (mV 1)<|Hc (Hi Lz<|Hc (mV 1)<|Hc (mL<|Hc (mK<|.int 1)<|Hc (mK<|.int 2)<|Hc (mK<|.int 4)<|mZ)<|mZ)<|mZ)<|mZ
def Sb:ME:=Hi Lz<|Hc (mV 1)<|Hc (mV 2)<|mZ
def Ws:MS:=mS (Hm (mB IE (mB Hr (mV 4)<|Hi Kq<|Hc (mV 0)<|Hc (mK<|.int 36)<|mZ)<|Hi HF<|Hc (mB IV (Hi Kq<|Hc (mV 0)<|Hc (mK<|.int 4)<|mZ)<|mK<|.int 0)<|mZ)<|Ho 8)<|mS (Hm (mB Ht (mU<|Hc (mV 8)<|mZ)<|Hi LR<|Hc (Jl (Of<|mK<|.int 4) 1 [0,5] (Ho 0) IC<|Sb)<|mZ)<|Ho 9)<|mS (Ih (JD (mT<|mB IS (mV 6)<|mL<|mZ)<|mT<|mB Ie (Hi Kq<|Hc (mV 0)<|Hc (mK<|.int 8)<|mZ)<|mK<|.int 0) (Hm (Hi Lz<|Hc (mV 0)<|Hc (mV 6)<|mZ)<|Ho 9)<|IH)<|Li<|Lk (mV 6)<|Hc (mV 9)<|mZ
def jU:MS:=mS (Hm (Hi O4<|Hc (Hi V2<|Hc (mV 0)<|Hc (Hi Lz<|Hc (mV 0)<|Hc (mL<|Hc (mK<|.int 1)<|Hc (mK<|.int 2)<|Hc (mK<|.int 2)<|Hc (mK<|.int 3)<|Hc (mK<|.int 5)<|Hc (mK<|.int 0)<|mZ)<|mZ)<|mZ)<|mZ)<|Ho 2) (mS (Hm (Hi LR<|Hc (Jl (mW<|mV 2) 1 [0] (Ho 0) IC<|Wl)<|mZ)<|Ho 3)<|mS (Hm (mK<|.str "abcdefghijklmnopqrstuvwxyz0123456789")<|Ho 4)<|mS (Hm (mB Ht (mB Ht (mB Ht (mL<|Hc (mK<|.str "")<|mZ)<|mV 2)<|mV 2)<|mV 2)<|Ho 5)<|mS (Hm (mL<|mZ)<|Ho 6)<|mS (mF (Of<|mB Ht (mK<|.int 1)<|Hi Kq<|Hc (mV 0)<|Hc (mV 1)<|mZ) (Ho 7)<|Ws)<|mR<|mU<|Hc (Hi Lz<|Hc (mV 0)<|Hc (mL<|Hc (mK<|.int 1)<|Hc (mK<|.int 2)<|Hc (mK<|.int 2)<|Hc (mK<|.int 3)<|Hc (mK<|.int 4)<|mZ)<|mZ)<|Hc (mV 3)<|Hc (Hi LR<|Hc (mV 6)<|mZ)<|mZ)
def Zh:GN:=Jc 10 jU
def zhg:MS:=mS (Hm (Hi Lz<|Hc (mV 0)<|Hc (mL<|Hc (mK<|.int 4)<|Hc (mK<|.int 4)<|Hc (mK<|.int 4)<|Hc (mK<|.int 6)<|Hc (mK<|.int 6)<|Hc (mK<|.int 6)<|Hc (mK<|.int 6)<|Hc (mK<|.int 12)<|mZ)<|mZ)<|Ho 1)<|mR<|mU<|Hc (mB Ht (mK<|.int 1)<|Hi Kq<|Hc (mV 0)<|Hc (mV 1)<|mZ)<|Hc (mB Ht (mK<|.int 1)<|Hi Kq<|Hc (mV 0)<|Hc (mV 1)<|mZ)<|mZ
def Zg:GN:=Jc 2 zhg
def Wj:MS:=MB (mV 4) (mU<|Hc (Hi Kq<|Hc (mV 0)<|Hc (mB Hr (mV 2)<|mK<|.int 0)<|mZ)<|Hc (Hi Kq<|Hc (mV 0)<|Hc (mB Hr (mV 2)<|mK<|.int 1)<|mZ)<|mZ)<|Hi Kq<|Hc (mV 0)<|Hc (Hi Hl<|Hc (mB Hr (mV 1)<|mK<|.int 2)<|mZ)<|mZ
def Zm:ME:=mB Ht (mV 0)<|mU<|Hc (mV 1)<|mZ
def kJ:MS:=mS (Hm (UU true)<|Ho 4)<|mS (mF (Of<|Hi Kq<|Hc (mV 0)<|Hc (mB Ht (mV 3)<|mK<|.int 1)<|mZ) (Ho 5)<|Wj)<|mR<|Hi LR<|Hc (Hi O4<|Hc (Jl (Xo<|mV 4) 2 [] (LP 2<|gC (Ho 0)<|gC (Ho 1)<|Lo) IC<|Zm)<|mZ)<|mZ
def Wf:GN:=Jc 6 kJ
def jG:MS:=mS (Q2 2 3<|Hc (Hi Zh<|Hc (mV 0)<|Hc (mV 1)<|mZ)<|Hc (Hi Zg<|Hc (mV 0)<|mZ)<|mZ)<|mR<|mU<|Hc (mV 2)<|Hc (mV 3)<|Hc (Hi Wf<|Hc (mV 0)<|Hc (mV 2)<|Hc (mV 3)<|Hc (Hi Lz<|Hc (mV 0)<|Hc (mL<|Hc (mK<|.int 1)<|Hc (mK<|.int 1)<|Hc (mK<|.int 3)<|Hc (mK<|.int 6)<|mZ)<|mZ)<|mZ)<|mZ
def YT:GN:=Jc 4 jG
def Zf(g:GN):ME:=Hi g<|Hc (mV 0)<|Hc (mV 1)<|mZ
def Ov(g:GN):MS:=mS (Ih (JD (mT<|IY "tuple"<|mV 0)<|mT<|IY "tuple"<|mV 1) (mR<|JE (mB Ie (Hi Hl<|Hc (mV 0)<|mZ)<|Hi Hl<|Hc (mV 1)<|mZ)<|Hi Jy<|Hc (Jl (Q1 (mV 0)<|mV 1) 2 [] (LP 2<|gC (Ho 0)<|gC (Ho 1)<|Lo) IC<|Zf g)<|mZ)<|IH) (mS (Ih (JD (mT<|IY "str"<|mV 0)<|mT<|IY "str"<|mV 1) (mR<|mB Ie (mV 0)<|mV 1)<|IH)<|mS (Ih (JD (mT<|IY "int"<|mV 0)<|mT<|IY "int"<|mV 1) (mR<|JE (mB Ie (IY "bool"<|mV 0)<|IY "bool"<|mV 1)<|mB Ie (mV 0)<|mV 1)<|IH)<|mR<|JE (mB OB (mV 0)<|mK .non)<|mB OB (mV 1)<|mK .non)
def V7:GN:=L6 2 Ov 12
end L2.MP.Hn
namespace L2.MP
open PySem
variable {n:Nat}{ds:List D}{mi:MI}{k:Int}{s:Hf}{x:D}
section
variable {ρ ρ1:HX}{st s1:Hf}{m n ma mb:ME}{mm:MA}{ms mq:MS}{mt mu:MT}{g:G2}{gn:GN}{d:D}{i j:Nat}{mg:MG}{mgs:OO}{ml mh:MO}
@[simp] theorem Im:mV i ρ st=match ρ[i]? with
 |some (some d)=>some (d,st)
 |_=>none:=rfl
@[simp] theorem Ii:mK d ρ st=some (d,st):=rfl
@[simp] theorem II:mB g ma mb ρ st=(ma ρ st).bind λp=>(mb ρ p.2).bind λq=>g p.1 q.1 q.2:=rfl
@[simp] theorem KL:mT m ρ st=(m ρ st).bind λp=>match p.1 with
 |.bl b=>some (b,p.2)
 |_=>none:=rfl
@[simp] theorem LN:J8 mt ρ st=(mt ρ st).map λp=>(!p.1,p.2):=rfl
@[simp] theorem Mt:JD mt mu ρ st=(mt ρ st).bind λp=>if p.1=true then mu ρ p.2 else some (false,p.2):=rfl
@[simp] theorem Lw:IL mt mu ρ st=(mt ρ st).bind λp=>if p.1=true then some (true,p.2)else mu ρ p.2:=rfl
@[simp] theorem M8:JE m n ρ st=(mT m ρ st).bind λp=>if p.1=true then n ρ p.2 else some (.bl false,p.2):=rfl
theorem Jn:L9 m n ρ st=(mT m ρ st).bind λp=>if p.1=true then some (.bl true,p.2)else n ρ p.2:=rfl
@[simp] theorem N8:UX m ρ st=(mT m ρ st).map λp=>(.bl !p.1,p.2):=rfl
@[simp] theorem Je:Hi gn mm ρ st=(mm ρ st).bind λp=>gn p.1 p.2:=rfl
@[simp] theorem Iy:Hc m mm ρ st=(m ρ st).bind λp=>(mm ρ p.2).bind λq=>some (p.1::q.1,q.2):=rfl
@[simp] theorem Iz:mZ ρ st=some ([],st):=rfl
@[simp] theorem M4:mU mm ρ st=(mm ρ st).bind λp=>if fits p.1.length=true then some (.tup p.1,p.2)else none:=rfl
@[simp] theorem Nk:mL mm ρ st=(mm ρ st).bind λp=>if fits p.1.length=true then some (.ref p.2.length,p.2++[.lst p.1])else none:=rfl
@[simp] theorem Lx:mR m ρ st=(m ρ st).map λp=>(.rt p.1,p.2):=rfl
@[simp] theorem M0:Li m ρ st=(m ρ st).map λp=>(.nx ρ,p.2):=rfl
@[simp] theorem J9:Hm m mg ρ st=(m ρ st).bind λp=>(mg p.1 ρ p.2).map λq=>(.nx q.1,q.2):=rfl
@[simp] theorem Ng:Ho i d ρ st=some (ρ.set i (some d),st):=rfl
@[simp] theorem Np:IH ρ st=some (.nx ρ,st):=rfl
@[simp] theorem N3:Lh m ρ st=(m ρ st).bind λp=>Ny p.1 p.2:=rfl
@[simp] theorem K4:Ih mt ms mq ρ st=(mt ρ st).bind λp=>if p.1=true then ms ρ p.2 else mq ρ p.2:=rfl
@[simp] theorem Nl:MB ma mb m ρ st=Od (Hm m (Q8 LY ma mb) ρ st) (UW ma mb m ρ st):=rfl
@[simp] theorem NN{g3:G3}:Q8 g3 ma mb d ρ st=(ma ρ st).bind λp=>(mb ρ p.2).bind λq=>(g3 p.1 q.1 d q.2).map λs=>(ρ,s):=rfl
@[simp] theorem NO:LP i mgs d ρ st=match d with
 |.tup ds=>if ds.length=i then mgs ds ρ st else none
 |_=>none:=rfl
@[simp] theorem N0:Lo [] ρ st=some (ρ,st):=rfl
@[simp] theorem NM:gC mg mgs (d::ds) ρ st=(mg d ρ st).bind λp=>mgs ds p.1 p.2:=rfl
theorem Ia:mW m ρ st=(m ρ st).bind λp=>Ru p.1 p.2:=rfl
@[simp] theorem Nh:Of m ρ st=(m ρ st).bind λp=>match p.1 with
 |.int j=>if small j=true then some (⟨run 0 j.toNat,[]⟩,p.2)else none
 |_=>none:=rfl
@[simp] theorem N9:IC ρ st=some (true,st):=rfl
theorem Ji{k:Nat}{fr:List Nat}:Jl mi k fr mg mt m ρ st=(mi ρ st).bind λp=>(Kt p.1 mg mt m p.1.ds (Hz ρ k fr) p.2).bind λq=>if fits q.1.length=true then some (.ref q.2.length,q.2++[.lst q.1])else none:=rfl
@[simp] theorem Lv:mF mi mg ms ρ st=(mi ρ st).bind λp=>Ld p.1 mg ms p.1.ds ρ p.2:=rfl
theorem JO:LD m ml mh ρ st=(m ρ st).bind λp=>(ml ρ p.2).bind λq=>(mh ρ q.2).bind λr=>Pa p.1 q.1 r.1 r.2:=rfl
@[simp] theorem Lr:Jw ρ st=some (none,st):=rfl
@[simp] theorem Lc:IW m ρ st=(m ρ st).bind λp=>match p.1 with
 |.int i=>some (some i,p.2)
 |_=>none:=rfl
@[simp] theorem N1{T:String}:IY T m ρ st=(m ρ st).bind λp=>(tyName p.2 p.1).map λt=>(.bl (IX t T),p.2):=rfl
theorem JH:OQ m mm ρ st=(m ρ st).bind λp=>match p.1 with
 |.str _=>(mm ρ p.2).bind λq=>Ph p.1 q.1 q.2
 |_=>none:=rfl
@[simp] theorem MZ:Lk m mm ρ st=(m ρ st).bind λp=>match p.1 with
 |.ref n=>(Il p.2 n).bind λ_=>(mm ρ p.2).bind λq=>Qd p.1 q.1 q.2
 |_=>none:=rfl
@[simp] theorem N4:Q2 i j mm ρ st=(mm ρ st).bind λp=>match p.1 with
 |[x,y]=>some (.nx ((ρ.set i<|some x).set j<|some y),p.2)
 |_=>none:=rfl
theorem JP:Xo m ρ st=(m ρ st).bind λp=>SJ p.1 p.2:=rfl
@[simp] theorem N5:Q1 ma mb ρ st=(ma ρ st).bind λp=>(mb ρ p.2).bind λq=>Qx p.1 q.1 q.2:=rfl
@[simp] theorem Ob:UU true ρ st=some (.ref st.length,st++[.dt []]):=rfl
@[simp] theorem Oa:UU false ρ st=some (.ref st.length,st++[.dk []]):=rfl
def HD{r:Option (Fl×Hf)}(h:ms ρ st=some (.nx ρ1,s1))(k:mq ρ1 s1=r):mS ms mq ρ st=r:=by unfold mS;rw[h];exact k
def JL(h:ms ρ st=some (.rt d,s)):mS ms mq ρ st=some (.rt d,s):=by unfold mS;rw[h];rfl
def IG{N:Nat}(h:ms (Jf N ds) st=some (.rt d,s)):Jc N ms ds st=some (d,s):=by unfold Jc;rw[h];rfl
def Pz{k:Nat}(h:k<=10000:=by decide):fits k=true:=Ko h
@[simp] theorem NQ:fits 0=true:=Pz
@[simp] theorem NR:fits 1=true:=Pz
@[simp] theorem NS:fits 2=true:=Pz
@[simp] theorem NT:fits 3=true:=Pz
@[simp] theorem NU:fits 4=true:=Pz
@[simp] theorem NV:fits 5=true:=Pz
@[simp] theorem NW:fits 6=true:=Pz
@[simp] theorem NX:fits 7=true:=Pz
@[simp] theorem NY:fits 8=true:=Pz
def Qi(h0:0<=k)(a:k<=1000000):small k=true:=by unfold small;simp;omega
def N6{n:Nat}(h:st[n]?=some (.lst ds))(h0:0<=k)(a:ds[k.toNat]?=some x):Hr (.ref n) (.int k) st=some (x,st):=by
 have i:=qax a;have g:k<ds.length:=by omega
 simp[Hr,JM,Ln,Il,h,LH,Nc,h0,g,JF];exact(KB.mp a).2
def Kk(h0:0<=k)(a:ds[k.toNat]?=some x):Hr (.tup ds) (.int k) st=some (x,st):=by
 have i:=qax a;have g:k<ds.length:=by omega
 simp[Hr,JM,Ln,LH,Nc,h0,g,JF];exact(KB.mp a).2
def lK(h0:0<=k)(a:ds[k.toNat]?=some x):Hr (.kl ds) (.int k) st=some (x,st):=by
 have i:=qax a;have g:k<ds.length:=by omega
 simp[Hr,JM,Ln,LH,Nc,h0,g,JF];exact(KB.mp a).2
def Ti{z:Str}{c:Nat}(e:z.length<=10000)(h0:0<=k)(a:z.cps[k.toNat]?=some c):Hr (.str z) (.int k) st=some (.str ⟨#[c]⟩,st):=by
 have i:k.toNat<z.cps.size:=(Array.getElem?_eq_some_iff.mp a).1;have g:k<z.cps.size:=by omega
 have hf:fits z.length=true:=Ko e;simp[Hr,JM,Ln,LH,Nc,h0,g,JF,hf];exact(Array.getElem?_eq_some_iff.mp a).2
def M9{n:Nat}(h:st[n]?=some (.lst ds)):Hl [.ref n] st=some (.int ds.length,st):=by simp[Hl,Il,h]
theorem Px:Hl [.tup ds] st=some (.int ds.length,st):=rfl
theorem W7:Hl [.kl ds] st=some (.int ds.length,st):=rfl
def O6{n:Nat}(h:st[n]?=some (.lst ds)):LR [.ref n] st=some (.tup ds,st):=by simp[LR,Il,h]
@[simp] theorem add_int(a b:Int):Ht (.int a) (.int b) st=some (.int (a+b),st):=rfl
@[simp] theorem sub_int(a b:Int):KC (.int a) (.int b) st=some (.int (a-b),st):=rfl
def mul_int{a b:Int}(h:-1000000<=a/\a<=1000000):IE (.int a) (.int b) st=some (.int (a*b),st):=by
 have:J4 a=true:=by unfold J4;simp;omega
 simp[IE,JM,KZ,intD,this,JF]
def cT{a b:List D}(c:a≠[])(h:a.length+b.length<=10000):Ht (.tup a) (.tup b) st=some (.tup (a++b),st):=by
 have:fits (a.length+b.length)=true:=Ko h;cases a with
 |nil=>exact absurd rfl c
 |cons x a=>simp[Ht,this]at *
def RJ{a b:Nat}{x y:List D}(c:st[a]?=some (.lst x))(e:st[b]?=some (.lst y))(h:x.length+y.length<=10000):Ht (.ref a) (.ref b) st=some (.ref st.length,st++[.lst (x++y)]):=by have:fits (x.length+y.length)=true:=Ko h;simp[Ht,c,e,this]
def add_str{a b:Str}(h:a.length+b.length<=10000):Ht (.str a) (.str b) st=some (.str (a++b),st):=by have:fits (a.length+b.length)=true:=Ko h;simp[Ht,this]
def append_at{n:Nat}(h:st[n]?=some (.lst ds))(a:ds.length<=10000):Qd (.ref n) [x] st=some (.non,st.set n (.lst<|ds++[x])):=by have:ds.length<sizeLine:=BZ a (by decide);simp[Qd,h,this]
end
end L2.MP
set_option linter.unusedSimpArgs false
namespace L2.MP.Hn
open PySem L2.MP
def Jh(n:Nat)(st:Hf):Prop:=∃a b:Int,st[n]?=some (.lst [.int a,.int b])/\0<=a/\0<=b/\b<18446744073709551616
variable {n:Nat}{st:Hf}
def Jh.lt(h:Jh n st):n<st.length:=by obtain⟨a,b,e,_⟩:=h;exact qax e
def Jh.gr{st':Hf}(h:Jh n st)(g:Gr st st'):Jh n st':=by obtain⟨a,b,e,r⟩:=h;exact⟨a,b,by rw[g.old n (qax e)];exact e,r⟩
def qP{x m:Int}(h0:0<=x)(a:x<4294967296)(hm:0<m):0<=x*m / 4294967296/\x*m / 4294967296<m:=by have l:x*m<4294967296*m:=Int.mul_lt_mul_of_pos_right a hm;have n:0<=x*m:=Int.mul_nonneg h0<|CS hm;omega
def Mu{many:Int}(h:Jh n st)(c:0<many)(z:many<18446744073709551616):∃(r:Int) (st':Hf),Kq [.ref n,.int many] st=some (.int r,st')/\0<=r/\r<many/\Jh n st'/\Fr n st st'/\st'.length=st.length:=by
 obtain⟨a,b,e,x,y,l⟩:=h;have s:=qax e;have u:many<340282366920938463463374607431768211456:=by omega
 by_cases hp:0<a
 ·refine⟨a % many,st.set n<|.lst [.int (a / many),.int b],?_,CM _<|by omega,CU _ c,⟨a / many,b,by simp[s],Int.ediv_nonneg x<|by omega,y,l⟩,Fr.set _ _ _,by simp⟩;simp[Kq,Y2,Jc,mS,Ih,mT,mB,mV,mK,Hi,Hc,mZ,mR,Hm,Ho,IH,Hr,JM,Ln,WW,Il,LH,Nc,Ik,HV,IV,Jp,HG,Ht,KC,KG,Ro,IE,KZ,Qw,LB,intD,Zo,HF,OI,Hl,MB,Q8,LY,Jf,e,hp,c,u]
 ·have A:a=0:=by omega
  subst A;have v:0<=(b*6364136223846793005+1442695040888963407) % 18446744073709551616:=CM _ (by decide);have w:(b*6364136223846793005+1442695040888963407) % 18446744073709551616<18446744073709551616:=CU _ (by decide);generalize E:(b*6364136223846793005+1442695040888963407) % 18446744073709551616=q at v w;have Q:0<=q / 4294967296:=by omega
  have W:q / 4294967296<4294967296:=by omega
  obtain⟨f,g⟩:=qP Q W c;refine⟨q / 4294967296*many / 4294967296,st.set n<|.lst [.int 0,.int q],?_,f,g,⟨0,q,by simp[s],by omega,v,w⟩,Fr.set _ _ _,by simp⟩;have i:J4 b=true:=by unfold J4;simp;omega
  have j:J4 (q / 4294967296)=true:=by unfold J4;simp;omega
  have m:∀o,(List.set st n o)[n]?=some o:=λo=>by simp[s]
  simp[Kq,Y2,Jc,mS,Ih,mT,mB,mV,mK,Hi,Hc,mZ,mR,Hm,Ho,IH,Hr,JM,Ln,WW,Il,LH,Nc,Ik,HV,IV,Jp,HG,Ht,KC,KG,Ro,IE,KZ,Qw,LB,intD,Zo,HF,OI,Hl,MB,Q8,LY,Jf,e,m,i,j,E]
def of_ok{l:Nat}{ds:List D}(h:Jh n st)(a:st[l]?=some (.lst ds))(e:0<ds.length)(hlen:ds.length<1000000)(c:l≠n):
  ∃d st',Lz [.ref n,.ref l] st=some (d,st')/\d∈ds/\Jh n st'/\Fr n st st':=by
 obtain⟨r,s1,u,v,x,w,f1,_⟩:=Mu (many:=ds.length) h (by omega) (by omega);have s:r.toNat<ds.length:=by omega
 have o:s1[l]?=some (.lst ds):=(f1.old l (qax a) c).trans a;refine⟨ds[r.toNat],s1,IG ?_,De s,w,f1⟩;unfold iD;simp[Jf,Jn,Ia,Ji,JO,JH,JP,Aa,Aj,Ik,HV,IV,Jp,HG,HF,Hz,M9 a,u];exact N6 o v<|Av s
def QF(ds:List D)(h:Jh n st)(a:0<ds.length)(hlen:ds.length<1000000):∃d st',Lz [.ref n,.ref st.length] (st++[.lst ds])=some (d,st')/\d∈ds/\Jh n st'/\Fr n st st':=by obtain⟨d,s,e,hd,p,f⟩:=of_ok (l:=st.length) (h.gr<|Gr.app st [.lst ds]) (IJ st _) a hlen<|A0 h.lt;exact⟨d,s,e,hd,p,(Fr.app n st _).trans f⟩
def xB(h:Jh n st):∃(w h':Int) (st':Hf),Zg [.ref n] st=some (.tup [.int w,.int h'],st')/\1<=w/\w<=12/\1<=h'/\h'<=12/\Jh n st'/\Fr n st st':=by
 obtain⟨d,s1,l,hd,o,f1⟩:=QF [.int 4,.int 4,.int 4,.int 6,.int 6,.int 6,.int 6,.int 12] h (by decide) (by decide);obtain⟨m,rfl,hm⟩:∃m:Int,d=.int m/\0<m/\m<=12:=by
  simp at hd;rcases hd with rfl|rfl|rfl<;>exact⟨_,rfl,by decide,by decide⟩
 obtain⟨a,s2,r,x,a1,p2,f2,_⟩:=Mu (many:=m) o hm.1 (by omega);obtain⟨b,s3,s,y,b1,u,v,_⟩:=Mu (many:=m) p2 hm.1 (by omega);refine⟨1+a,1+b,s3,IG ?_,by omega,by omega,by omega,by omega,u,(f1.trans f2).trans v⟩;refine HD (ρ1:=[some (.ref n),some (.int m)]) (s1:=s1) (by simp[Jf,Jn,Ia,Ji,JO,JH,JP,Aa,Aj,Ik,HV,IV,Jp,HG,HF,Hz,l]) ?_;simp[r,s]
def ZU:∃P M Q:Int,0<M/\(∀st:Hf,LB (.int 10) (.int 60) st=some (.int P,st))/\(∀st:Hf,LB (.int P) (.int 15) st=some (.int M,st))/\∀st:Hf,LB (.int 10) (.int 18) st=some (.int Q,st):=⟨10^60,(10^60)^15,10^18,by decide,λst=>rfl,λst=>rfl,λst=>rfl⟩
def pF{ns:List Int}{k:Int}(h0:0<=k)(H:k<1000):∃st',YU [.kl (ns.map D.int),.int k] st=some (.ref st.length,st')/\Jh st.length st'/\Gr st st':=by
 obtain⟨P,M,Q,x,y,p2,A⟩:=ZU;have cell:∃c:Int,Ih (mT<|mB Ik (mV 1)<|Hi Hl<|Hc (mV 0)<|mZ) (Hm (mB Hr (mV 0)<|mV 1)<|Ho 2) IH [some (.kl<|ns.map D.int),some (.int k),some (.int 0),none,none,none] st =
   some (.nx [some (.kl<|ns.map D.int),some (.int k),some (.int c),none,none,none],st):=by
  by_cases hk:k<ns.length
  ·have E:k.toNat<ns.length:=by omega
   refine⟨ns[k.toNat],?_⟩;have e:Hr (.kl<|ns.map D.int) (.int k) st=some (.int ns[k.toNat],st):=lK h0 (by rw[AJ,Av E];rfl);simp[Jf,Im,Ii,II,KL,LN,Mt,Lw,M8,Jn,N8,Je,Iy,Iz,M4,Nk,Lx,M0,J9,Ng,Np,N3,K4,Nl,NN,NO,N0,NM,Ia,Nh,N9,Ji,Lv,JO,Lr,Lc,N1,JH,MZ,N4,JP,N5,Ob,Oa,JF,Kj,NQ,NR,NS,NT,NU,NV,NW,NX,NY,Aa,Aj,add_int,sub_int,Ik,HV,IV,Jp,HG,HF,Hz,W7,hk,e]
  refine⟨0,?_⟩;simp[Jf,Im,Ii,II,KL,LN,Mt,Lw,M8,Jn,N8,Je,Iy,Iz,M4,Nk,Lx,M0,J9,Ng,Np,N3,K4,Nl,NN,NO,N0,NM,Ia,Nh,N9,Ji,Lv,JO,Lr,Lc,N1,JH,MZ,N4,JP,N5,Ob,Oa,JF,Kj,NQ,NR,NS,NT,NU,NV,NW,NX,NY,Aa,Aj,add_int,sub_int,Ik,HV,IV,Jp,HG,HF,Hz,W7,hk]
 obtain⟨c,W⟩:=cell;have a:∃R:Int,0<=R/\KG (.int<|if c<0 then -c else c) (.int M) st=some (.int R,st):=⟨(if c<0 then -c else c) % M,CM _<|by omega,by simp[KG,intD,x]⟩
 obtain⟨R,f,g⟩:=a;have h:∃N:Int,0<=N/\2*R+(if c<0 then 1 else 0)=N:=⟨_,by split<;>omega,rfl⟩
 obtain⟨N,i,j⟩:=h;have o:0<=N % 18446744073709551557:=CM _ (by decide);have r:N % 18446744073709551557<18446744073709551557:=CU _ (by decide);generalize m:N % 18446744073709551557=B at o r;have l:0<=(B*6364136223846793005+97*k+3) % 18446744073709551616:=CM _ (by decide);have n:(B*6364136223846793005+97*k+3) % 18446744073709551616<18446744073709551616:=CU _ (by decide);generalize q:(B*6364136223846793005+97*k+3) % 18446744073709551616=X at l n;have z:J4 B=true:=by unfold J4;simp;omega
 have s:J4 97=true:=by decide
 have C:J4 2=true:=by decide
 have F:∃Y:Int,0<=Y/\IE (.int N) (.int<|if 2*Q<=N then 1 else 0) st=some (.int Y,st):=by
  by_cases hq:2*Q<=N
  ·refine⟨N*1,by omega,?_⟩;have:J4 1=true:=by decide
   simp[hq,IE,JM,KZ,intD,this,JF]
  ·refine⟨N*0,by omega,?_⟩;have:J4 0=true:=by decide
   simp[hq,IE,JM,KZ,intD,this,JF]
 obtain⟨Y,u,w⟩:=F;refine⟨st++[.lst [.int Y,.int X]],IG ?_,⟨Y,X,IJ _ _,u,l,n⟩,Gr.app _ _⟩;unfold jH;refine HD (ρ1:=[some (.kl<|ns.map D.int),some (.int k),some (.int 0),none,none,none]) (s1:=st) (by simp[Jf,Im,Ii,II,KL,LN,Mt,Lw,M8,Jn,N8,Je,Iy,Iz,M4,Nk,Lx,M0,J9,Ng,Np,N3,K4,Nl,NN,NO,N0,NM,Ia,Nh,N9,Ji,Lv,JO,Lr,Lc,N1,JH,MZ,N4,JP,N5,Ob,Oa,JF,Kj,NQ,NR,NS,NT,NU,NV,NW,NX,NY,Aa,Aj,add_int,sub_int,Ik,HV,IV,Jp,HG,HF,Hz]) ?_;refine HD W ?_;refine HD (ρ1:=[some (.kl<|ns.map D.int),some (.int k),some (.int c),some (.int N),none,none]) (s1:=st) (by
  simp[Jf,Im,Ii,II,KL,LN,Mt,Lw,M8,Jn,N8,Je,Iy,Iz,M4,Nk,Lx,M0,J9,Ng,Np,N3,K4,Nl,NN,NO,N0,NM,Ia,Nh,N9,Ji,Lv,JO,Lr,Lc,N1,JH,MZ,N4,JP,N5,Ob,Oa,JF,Kj,NQ,NR,NS,NT,NU,NV,NW,NX,NY,Aa,Aj,add_int,sub_int,Ik,HV,IV,Jp,HG,HF,Hz,y,p2,OI,g,IE,JM,KZ,intD,C,j]) ?_
 refine HD (ρ1:=[some (.kl<|ns.map D.int),some (.int k),some (.int c),some (.int N),some (.int B),none]) (s1:=st) (by simp[Jf,Im,Ii,II,KL,LN,Mt,Lw,M8,Jn,N8,Je,Iy,Iz,M4,Nk,Lx,M0,J9,Ng,Np,N3,K4,Nl,NN,NO,N0,NM,Ia,Nh,N9,Ji,Lv,JO,Lr,Lc,N1,JH,MZ,N4,JP,N5,Ob,Oa,JF,Kj,NQ,NR,NS,NT,NU,NV,NW,NX,NY,Aa,Aj,add_int,sub_int,Ik,HV,IV,Jp,HG,HF,Hz,KG,intD,m]) ?_;refine HD (ρ1:=[some (.kl<|ns.map D.int),some (.int k),some (.int c),some (.int N),some (.int B),some (.int X)]) (s1:=st) (by simp[Jf,Im,Ii,II,KL,LN,Mt,Lw,M8,Jn,N8,Je,Iy,Iz,M4,Nk,Lx,M0,J9,Ng,Np,N3,K4,Nl,NN,NO,N0,NM,Ia,Nh,N9,Ji,Lv,JO,Lr,Lc,N1,JH,MZ,N4,JP,N5,Ob,Oa,JF,Kj,NQ,NR,NS,NT,NU,NV,NW,NX,NY,Aa,Aj,add_int,sub_int,Ik,HV,IV,Jp,HG,HF,Hz,KG,IE,JM,KZ,intD,z,s,q]) ?_;have G:IE (.int N) (.int<|if decide (2*Q<=N)=true then 1 else 0) st=some (.int Y,st):=by simpa using w
 have v:IE (.int 2) (.int Q) st=some (.int (2*Q),st):=mul_int (by omega);simp[Jf,Jn,Ia,Ji,JO,JH,JP,Aa,Aj,Ik,HV,IV,Jp,HG,HF,Hz,A,v,w]
end L2.MP.Hn
namespace L2.MP
open PySem PySem.Builtin PySem.Builtin.Str
def rL(j:Int)(n:Nat):strSliceIndices none (some j) 1 n=AZ (max 0<|min (if j<0 then j+n else j) n).toNat:=by
 unfold strSliceIndices sliceRange;have l:(1:Int) > 0:=by decide
 simp only[l,if_true];generalize max 0 (min (if j<0 then j+(n:Int)else j) (n:Int))=c;by_cases hc:0<c
 ·simp only[hc,if_true,Int.ediv_one];have e:(c-0+1-1).toNat=c.toNat:=by omega
  rw[e];apply FX
  ·simp
  intro i l o;simp
 ·simp only[hc,if_false];have e:c.toNat=0:=by omega
  simp[e]
theorem gL{z:Array Nat}:∀{k:Nat},k<=z.size->(AZ k).filterMap (λi=>z[i]?)=z.toList.take k
 |0,_=>by simp
 |k+1,h=>by
  rw[List.range_succ,List.filterMap_append,gL (k:=k) (by omega),List.take_succ]
  congr 1
  have hk:k<z.size:=by omega
  simp[Array.getElem?_eq_getElem hk,B7]
def QS(z:Str)(j:Int):(Txt.slice z none<|some j).cps.toList=z.cps.toList.take (max 0<|min (if j<0 then j+z.length else j) z.length).toNat:=by
 unfold Txt.slice;rw[rL];have hk:(max 0<|min (if j<0 then j+(z.length:Int)else j) (z.length:Int)).toNat<=z.cps.size:=by show _<=z.length;omega
 generalize (max 0<|min (if j<0 then j+(z.length:Int)else j) (z.length:Int)).toNat=k at hk
 split
 ·rename_i l;simp at l;rw[l];have:z.length=z.cps.toList.length:=rfl;rw[this,B4]
 show(((AZ k).filterMap λi=>z.cps[i]?).toArray).toList=_;rw[gL hk]
theorem join_nil:∀cs:List Nat,(B5 ("":Str)<|cs.map λc=>⟨#[c]⟩).cps.toList=cs
 |[]=>rfl
 |[c]=>rfl
 |c::d::cs=>by
  have f:=join_nil (d::cs);show((⟨#[c]⟩++("":Str)++B5 ("":Str) ((d::cs).map λc=>⟨#[c]⟩):Str)).cps.toList=_;have e:∀a b:Str,(a++b).cps.toList=a.cps.toList++b.cps.toList:=λa b=>by show(a.cps++b.cps).toList=_;simp
  rw[e,e,f];rfl
def app_list(a b:Str):(a++b).cps.toList=a.cps.toList++b.cps.toList:=by show(a.cps++b.cps).toList=_;simp
theorem len_list(a:Str):a.length=a.cps.toList.length:=rfl
end L2.MP
namespace L2.MP
open PySem
theorem YL{f:D->Option PyData}(hf:∀x:Str,Ap x=true->f (.str x)=some (.str x)):∀{ss:List Str},(∀x∈ss,Ap x=true)->KW f (ss.map D.str)=some (ss.map CB)
 |[],_=>rfl
 |x::ss,h=>by rw[Au,KW,hf x (h x Al),Aa,YL hf λy a=>h y (Ak _ a)];rfl
variable {n:Nat}{st:Hf}{x:Str}
def Ot(h:Ap x=true):Jj (n+1) st (.str x)=some (.str x):=by rw[Jj];simp[h]
variable {ss:List Str}
def QK{k:Nat}{ss:List Str}(hk:st[k]?=some (.lst<|ss.map D.str))(h:∀x∈ss,Ap x=true):Jj (n+2) st (.ref k)=some (.list<|ss.map CB):=by rw[Jj];simp only[Il,hk,Aa];rw[YL (λx l=>Ot l) h];rfl
variable {f:Nat}
def ne_nil{g:Nat}{ss:List Str}(hf:st[f]?=some (.lst<|ss.map D.str))(a:st[g]?=some (.lst []))(h:∀x∈ss,Ap x=true):IS (.ref f) (.ref g) st=some (.bl (!ss.isEmpty),st):=by
 unfold IS;rw[QK (n:=98) hf h,QK (n:=98) (ss:=[]) a (by simp)]
 cases ss<;>rfl
theorem XB(x:Str):∀ss:List Str,(ss.map CB).any (λy=>Bb y (.str x))=decide (x∈ss)
 |[]=>rfl
 |y::ss=>by
  rw[Au,Cb,XB x ss];have:Bb (.str y) (.str x)=(y==x):=by simp[Bb]
  rw[this];by_cases hyx:y=x
  ·simp[hyx]
  simp[hyx,A7 hyx]
def zkz{x:Str}{ss:List Str}(hf:st[f]?=some (.lst<|ss.map D.str))(h:∀x∈ss,Ap x=true)(a:Ap x=true):QD (.str x) (.ref f) st=some (.bl (!decide (x∈ss)),st):=by unfold QD JM inD;rw[QK (n:=48) hf h,Ot (n:=49) a];simp only[Aa,PU,Aj,XB,JF];rfl
def eq_int(a b:Int)(st:Hf):Ie (.int a) (.int b) st=some (.bl (a==b),st):=by unfold Ie;rw[Jj,Jj];simp[Bb]
end L2.MP
namespace L2.MP.Hn
open PySem L2.MP
structure HB(x:Str):Prop where
 lo:1<=x.cps.toList.length
 hi:x.cps.toList.length<=8
 ab:∀c∈x.cps.toList,97<=c/\c<=122
def HB.str{x:Str}(h:HB x):Ap x=true:=by unfold Ap;rw[DK];intro c l;have:=h.ab c (by simpa using l);simp;omega
noncomputable abbrev KS:Str:="abcdefghijklmnopqrstuvwxyz"
def zkP:∀k:Nat,k<26->KS.cps[k]?=some (97+k):=by decide +kernel
variable {n:Nat}{st:Hf}
def rA{v:Option D}(h:Jh n st)(j:Nat)(i:j<=1000):∃(cs:List Nat) (st':Hf),Kt ⟨run 0 j,[]⟩ (Ho 0) IC Uc (run 0 j) [v,some (.str KS),some (.ref n)] st=some (cs.map λc=>.str ⟨#[c]⟩,st')/\cs.length=j/\(∀c∈cs,97<=c/\c<=122)/\Jh n st'/\Fr n st st':=by
 have key:=Qs (W:=⟨run 0 j,[]⟩) (g:=Ho 0) (c:=IC) (m:=Uc) (ds:=run 0 j) (acc:=[]) (st:=st) (ρ:=[v,some (.str KS),some (.ref n)])
  (Inv:=λk a ρ s=>(∃x,ρ=[x,some (.str KS),some (.ref n)])/\(∃cs:List Nat,a=cs.map (λc=>D.str ⟨#[c]⟩)/\cs.length=k/\∀c∈cs,97<=c/\c<=122)/\Jh n s/\Fr n st s)
  ⟨⟨v,rfl⟩,⟨[],rfl,rfl,by simp⟩,h,Fr.refl _ _⟩ (λ_ _ _ _ _ _=>rfl) (λk d a ρ s hd y=>by
   obtain⟨⟨x,rfl⟩,⟨cs,rfl,l,o⟩,u,hf⟩:=y;obtain⟨r,s1,A,E,q,Q,f1,_⟩:=Mu (many:=26) u (by decide) (by decide);have hk:r.toNat<26:=by omega
   have ex:Hr (.str KS) (.int r) s1=some (.str ⟨#[97+r.toNat]⟩,s1):=Ti (by decide) E<|zkP _ hk;refine⟨[some d,some (.str KS),some (.ref n)],s,true,s,by simp,rfl,.inl ⟨rfl,.str ⟨#[97+r.toNat]⟩,s1,?_,⟨_,rfl⟩,⟨cs++[97+r.toNat],by simp,by simp[l],?_⟩,Q,hf.trans f1⟩⟩
   ·unfold Uc;simp[A,ex]
   ·intro c hm
    rcases W1.mp hm with hm|hm
    ·exact o c hm
    ·rw[On.mp hm]
     omega)
 obtain⟨xs,ρ',f,e,_,⟨cs,w,l,o⟩,u,hf⟩:=key;rw[CN]at w;subst w;exact⟨cs,f,e,by rw[l,O2],o,u,hf⟩
def Xe{z:Str}{j:Int}(a:z.length<=10000):Pa (.str z) none (some j) st=some (.str (Txt.slice z none<|some j),st):=by have:fits z.length=true:=Ko a;simp[Pa,Qk,Uo,this,Kj]
def Yg{l:List Nat}{k c:Nat}(h:c∈l.take k):c∈l:=Bc h
theorem jR:∀cs:List Nat,((cs.map λc=>(⟨#[c]⟩:Str)).map (·.length)).sum=cs.length
 |[]=>rfl
 |c::cs=>by have a:=jR cs;simp only[Au,Gq,AB];rw[a];show 1+_=_;omega
def joined{cs:List Nat}{l:Nat}(a:st[l]?=some (.lst<|cs.map λc=>.str ⟨#[c]⟩))(f:cs.length<=1000):∃z:Str,Ph (.str "") [.ref l] st=some (.str z,st)/\z.cps.toList=cs:=by
 refine⟨Txt.join ""<|cs.map λc=>⟨#[c]⟩,?_,?_⟩
 ·have e:cs.map (λc=>D.str ⟨#[c]⟩)=(cs.map λc=>(⟨#[c]⟩:Str)).map D.str:=by simp
  unfold Ph;simp only[Il,a,Aa];rw[e,YY];simp only[Aa];rw[if_pos];apply decide_eq_true;have h0:(("":Str)).length=0:=by decide
  rw[h0,Nat.mul_zero,Nat.add_zero];rw[jR];omega
 show(Builtin.Str.glued "" _).cps.toList=cs;rw[A5];exact join_nil cs
structure Kh(n f:Nat)(many:Int)(st0:Hf)(ss:List Str)(s:Hf):Prop where
 at_:s[f]?=some (.lst (ss.map D.str))
 ok:∀x∈ss,HB x
 nd:ss.Nodup
 len:(ss.length:Int)<=many
 pot:Jh n s
 fr:Fr n st0 s
variable {f:Nat}{many:Int}{st0 s:Hf}{ss:List Str}
def Kh.fr'{s':Hf}(h:Kh n f many st0 ss s)(hf:f≠n)(p:Jh n s')(g:Fr n s s'):Kh n f many st0 ss s':=⟨(g.old f (qax h.at_) hf).trans h.at_,h.ok,h.nd,h.len,p,h.fr.trans g⟩
def Kh.app{n f:Nat}{many:Int}{st0:Hf}{ss:List Str}{s:Hf}(h:Kh n f many st0 ss s)(hf:f≠n)(l:List O):Kh n f many st0 ss (s++l):=h.fr' hf (h.pot.gr<|Gr.app _ _)<|Fr.app _ _ _
def eU(h:Kh n f many st0 ss s)(hf:f≠n)(a:ss≠[])(hm:many<=1000):∃(y:Str) (s':Hf),Lz [.ref n,.ref f] s=some (.str y,s')/\HB y/\Kh n f many st0 ss s':=by have u:=h.len;obtain⟨d,s1,l,hd,o,f1⟩:=of_ok h.pot h.at_ (by rw[Af];exact List.length_pos_iff.mpr a) (by rw[Af];omega) hf;obtain⟨y,r,rfl⟩:=P3.mp hd;exact⟨y,s1,l,h.ok y r,h.fr' hf o f1⟩
def zkC{v4 v5 v6:Option D}(h:Kh n f many st0 ss s)(hf:f≠n)(hf0:st0.length<=f)(hm:many<=1000):
  ∃(g:List Str) (w5 w6:Option D) (s':Hf),Wt [some (.ref n),some (.int many),some (.str KS),some (.ref f),v4,v5,v6] s=some (.nx [some (.ref n),some (.int many),some (.str KS),some (.ref f),v4,w5,w6],s')/\Kh n f many st0 g s'/\(0<many->g≠[]):=by
 obtain⟨w,s1,e1,w0,w1,Z,f1,_⟩:=Mu (many:=4) h.pot (by decide) (by decide);have h1:=h.fr' hf Z f1;obtain⟨d,s2,e2,hd,p2,f2⟩:=QF [.int 1,.int 1,.int 2,.int 3,.int 8] Z (by decide) (by decide);obtain⟨j,rfl,hj1,hj8⟩:∃j:Int,d=.int j/\1<=j/\j<=8:=by
  simp at hd;rcases hd with rfl|rfl|rfl|rfl<;>exact⟨_,rfl,by decide,by decide⟩
 have h2:=h1.fr' hf p2 f2;obtain⟨cs,s3,e3,hl3,M,p3,f3⟩:=rA (v:=none) p2 j.toNat (by omega);have h3:=h2.fr' hf p3 f3;have h4:=h3.app hf [.lst (cs.map λc=>D.str ⟨#[c]⟩)];obtain⟨z,ez,N⟩:=joined (IJ s3 (.lst (cs.map λc=>D.str ⟨#[c]⟩))) (by omega);have L:HB z:=⟨by rw[N];omega,by rw[N];omega,by rw[N];exact M⟩
 have sj:small j=true:=Qi (by omega) (by omega);have fc:fits cs.length=true:=Ko (by omega);unfold Wt;generalize S:s3++[O.lst (cs.map λc=>D.str ⟨#[c]⟩)]=s4 at h4 ez
 have if1:∃(G:Str) (s5:Hf),Ih (JD (mT (mB IS (mV 3) (mL mZ))) (mT (mB Ie (mV 5) (mK (.int 1))))) (Hm (LD (mB Ht (Hi Lz (Hc (mV 0) (Hc (mV 3) mZ))) (mV 6)) Jw (IW (mK (.int 8)))) (Ho 6)) IH
   [some (.ref n),some (.int many),some (.str KS),some (.ref f),v4,some (.int w),some (.str z)] s4=some (.nx [some (.ref n),some (.int many),some (.str KS),some (.ref f),v4,some (.int w),some (.str G)],s5)/\HB G/\Kh n f many st0 ss s5:=by
  have F:=h4.app hf [.lst []];have W:=ne_nil F.at_ (IJ s4 (.lst [])) λx hx=>(F.ok x hx).str;by_cases hc:ss≠[]/\w=1
  ·obtain⟨u,rfl⟩:=hc;obtain⟨y,o,e6,Q,l⟩:=eU F hf u hm;have hlen:(y++z).length<=10000:=by rw[len_list,app_list,AF];have:=Q.hi;have:=L.hi;omega
   have H:Ht (.str y) (.str z) o=some (.str (y++z),o):=add_str (by rw[len_list,len_list];have:=Q.hi;have:=L.hi;omega);have es:=Xe (z:=y++z) (j:=8) (st:=o) hlen;refine⟨Txt.slice (y++z) none (some 8),o,?_,⟨?_,?_,?_⟩,l⟩
   ·have he:ss.isEmpty=false:=by cases ss with
     |nil=>exact absurd rfl u
     |cons a b=>rfl
    simp[Jf,Jn,Ia,Ji,JO,JH,JP,Aa,Aj,Ik,HV,IV,Jp,HG,HF,Hz,W,he,eq_int,e6,H,es]
   ·rw[QS,AN,app_list,AF,len_list,app_list,AF];have q:=Q.lo;simp at q ⊢;omega
   ·rw[QS,AN];simp;omega
   ·intro c hc;rw[QS,app_list]at hc
    rcases W1.mp (Yg hc)with hc|hc
    ·exact Q.ab c hc
    exact L.ab c hc
  ·refine⟨z,s4++[.lst []],?_,L,F⟩
   by_cases he:ss=[]
   ·subst he;simp[W]
   ·have i:ss.isEmpty=false:=by cases ss with
     |nil=>exact absurd rfl he
     |cons a b=>rfl
    have hw:¬w=1:=λq=>hc ⟨he,q⟩;have m:(w==1)=false:=by simp[hw]
    simp[W,i,eq_int,m]
 obtain⟨B,s5,i5,E,F⟩:=if1;have if2:∃(G:Str) (o:Hf),Ih (JD (mT (mB IS (mV 3) (mL mZ))) (mT (mB Ie (mV 5) (mK (.int 2))))) (Hm (mB Ht (LD (Hi Lz (Hc (mV 0) (Hc (mV 3) mZ))) Jw (IW (Lh (mK (.int 1))))) (LD (mV 6) Jw (IW (mK (.int 1))))) (Ho 6)) IH
   [some (.ref n),some (.int many),some (.str KS),some (.ref f),v4,some (.int w),some (.str B)] s5=some (.nx [some (.ref n),some (.int many),some (.str KS),some (.ref f),v4,some (.int w),some (.str G)],o)/\HB G/\Kh n f many st0 ss o:=by
  have l:=F.app hf [.lst []];have W:=ne_nil l.at_ (IJ s5 (.lst [])) λx hx=>(l.ok x hx).str;by_cases hc:ss≠[]/\w=2
  ·obtain⟨u,rfl⟩:=hc;obtain⟨y,A,T,Q,U⟩:=eU l hf u hm;have e8:=Xe (z:=y) (j:=-1) (st:=A) (by rw[len_list];have:=Q.hi;omega);have e9:=Xe (z:=B) (j:=1) (st:=A) (by rw[len_list];have:=E.hi;omega);have l8:(Txt.slice y none (some (-1))).cps.toList.length<=7:=by
    rw[QS,AN,len_list];have q:=Q.hi;simp at q ⊢;omega
   have l9:(Txt.slice B none (some 1)).cps.toList.length=1:=by rw[QS,AN,len_list];have q:=E.lo;simp at q ⊢;omega
   have H:Ht (.str (Txt.slice y none (some (-1)))) (.str (Txt.slice B none (some 1))) A=some (.str (Txt.slice y none (some (-1))++Txt.slice B none (some 1)),A):=add_str (by rw[len_list,len_list];omega);refine⟨Txt.slice y none (some (-1))++Txt.slice B none (some 1),A,?_,⟨?_,?_,?_⟩,U⟩
   ·have he:ss.isEmpty=false:=by cases ss with
     |nil=>exact absurd rfl u
     |cons a b=>rfl
    simp[Jf,Jn,Ia,Ji,JO,JH,JP,Aa,Aj,Ik,HV,IV,Jp,HG,HF,Hz,W,he,eq_int,T,H,e8,e9,Ny]
   ·rw[app_list,AF];omega
   ·rw[app_list,AF];omega
   ·intro c hc;rw[app_list]at hc
    rcases W1.mp hc with hc|hc
    ·rw[QS]at hc;exact Q.ab c (Yg hc)
    rw[QS]at hc;exact E.ab c (Yg hc)
  ·refine⟨B,s5++[.lst []],?_,E,l⟩
   by_cases he:ss=[]
   ·subst he;simp[W]
   ·have i:ss.isEmpty=false:=by cases ss with
     |nil=>exact absurd rfl he
     |cons a b=>rfl
    have hw:¬w=2:=λq=>hc ⟨he,q⟩;have m:(w==2)=false:=by simp[hw]
    simp[W,i,eq_int,m]
 obtain⟨C,o,i6,I,l⟩:=if2;have J:Hm (Hi Kq (Hc (mV 0) (Hc (mK (.int 4)) mZ))) (Ho 5) [some (.ref n),some (.int many),some (.str KS),some (.ref f),v4,v5,v6] s=some (.nx [some (.ref n),some (.int many),some (.str KS),some (.ref f),v4,some (.int w),v6],s1):=by simp[e1]
 have K:Hm (OQ (mK (.str "")) (Hc (Jl (Of (Hi Lz (Hc (mV 0) (Hc (mL (Hc (mK (.int 1)) (Hc (mK (.int 1)) (Hc (mK (.int 2)) (Hc (mK (.int 3)) (Hc (mK (.int 8)) mZ)))))) mZ)))) 1 [2,0] (Ho 0) IC Uc) mZ)) (Ho 6)
   [some (.ref n),some (.int many),some (.str KS),some (.ref f),v4,some (.int w),v6] s1=some (.nx [some (.ref n),some (.int many),some (.str KS),some (.ref f),v4,some (.int w),some (.str z)],s4):=by
  simp[Jf,Jn,Ia,Ji,JO,JH,JP,Aa,Aj,Ik,HV,IV,Jp,HG,HF,Hz,e2,sj,e3,fc,S,ez]
 have last:∃(g:List Str) (A:Hf),Ih (JD (mT (mB Ik (Hi Hl (Hc (mV 3) mZ)) (mV 1))) (mT (mB QD (mV 6) (mV 3)))) (Li (Lk (mV 3) (Hc (mV 6) mZ))) IH
   [some (.ref n),some (.int many),some (.str KS),some (.ref f),v4,some (.int w),some (.str C)] o=some (.nx [some (.ref n),some (.int many),some (.str KS),some (.ref f),v4,some (.int w),some (.str C)],A)/\Kh n f many st0 g A/\(0<many->g≠[]):=by
  have X:=M9 l.at_;have ei:=zkz l.at_ (λx hx=>(l.ok x hx).str) I.str;by_cases hlt:(ss.length:Int)<many
  ·by_cases hin:C∈ss
   ·exact⟨ss,o,by simp[Jf,Jn,Ia,Ji,JO,JH,JP,Aa,Aj,Ik,HV,IV,Jp,HG,HF,Hz,X,ei,hlt,hin],l,λ_ z=>by subst z;cases hin⟩
   ·have Y:=qax l.at_;have H:=append_at (x:=.str C) l.at_ (by rw[Af];omega);refine⟨ss++[C],o.set f (.lst (ss.map D.str++[.str C])),by simp[Jf,Jn,Ia,Ji,JO,JH,JP,Aa,Aj,Ik,HV,IV,Jp,HG,HF,Hz,X,ei,hlt,hin,H,Il,l.at_],?_,λ_ z=>by simp at z⟩;refine⟨by simp[Y],λx hx=>?_,?_,by simp;omega,?_,?_⟩
    ·rcases W1.mp hx with hx|hx
     ·exact l.ok x hx
     rw[On.mp hx];exact I
    ·rw[DS];refine⟨l.nd,by simp,λa ha b hb=>?_⟩;rw[On.mp hb];rintro rfl;exact hin ha
    ·obtain⟨a,b,e,r⟩:=l.pot;exact⟨a,b,by rw[AE hf];exact e,r⟩
    exact⟨by have:=l.fr.len;simpa using this,λk hk nk=>by rw[AE (by omega)];exact l.fr.old k hk nk⟩
  exact⟨ss,o,by simp[Jf,Jn,Ia,Ji,JO,JH,JP,Aa,Aj,Ik,HV,IV,Jp,HG,HF,Hz,X,hlt],l,λhp z=>by subst z;exact hlt (by simpa using hp)⟩
 obtain⟨g,A,T,U,h8⟩:=last;refine⟨g,some (.int w),some (.str C),A,?_,U,h8⟩;exact HD J (HD K (HD i5 (HD i6 T)))
def zo1(h:Jh n st)(h0:0<=many)(i:many<=100):∃(ss:List Str) (st':Hf),V2 [.ref n,.int many] st=some (.ref st.length,st')/\st'[st.length]?=some (.lst<|ss.map D.str)/\(∀x∈ss,HB x)/\ss.Nodup/\(ss.length:Int)<=many/\Jh n st'/\Fr n st st'/\(0<many->ss≠[]):=by
 have hf:st.length≠n:=A0 h.lt;have key:=QG (W:=⟨run 0 (2*many).toNat,[]⟩) (g:=Ho 4) (m:=Wt) (ds:=run 0 (2*many).toNat) (ρ:=[some (.ref n),some (.int many),some (.str KS),some (.ref st.length),none,none,none]) (st:=st++[.lst []])
  (Inv:=λk ρ s=>∃(ss:List Str) (a b c:Option D),ρ=[some (.ref n),some (.int many),some (.str KS),some (.ref st.length),a,b,c]/\Kh n st.length many st ss s/\(0<k->0<many->ss≠[]))
  ⟨[],none,none,none,rfl,⟨IJ st _,by simp,by simp,by simpa using h0,h.gr<|Gr.app _ _,Fr.app _ _ _⟩,λz=>absurd z (A4 _)⟩ (λ_ _ _ _ _=>rfl) (λk d ρ s hd v=>by obtain⟨ss,a,b,c,rfl,f,_⟩:=v;obtain⟨o,w,y,l,e,r,u⟩:=zkC (v4:=some d) (v5:=b) (v6:=c) f hf (Ah _) (by omega);exact⟨_,s,_,l,rfl,e,o,some d,w,y,rfl,r,λ_=>u⟩)
 obtain⟨ρ',l,e,ss,a,b,c,rfl,f,u⟩:=key;refine⟨ss,l,IG ?_,f.at_,f.ok,f.nd,f.len,f.pot,f.fr,λA=>u (by rw[O2];omega) A⟩;unfold jW;refine HD (ρ1:=[some (.ref n),some (.int many),some (.str KS),none,none,none,none]) (s1:=st) (by simp[Jf,Jn,Ia,Ji,JO,JH,JP,Aa,Aj,Ik,HV,IV,Jp,HG,HF,Hz]) ?_;refine HD (ρ1:=[some (.ref n),some (.int many),some (.str KS),some (.ref st.length),none,none,none]) (s1:=st++[.lst []]) (by simp) ?_;have E:small (2*many)=true:=Qi (by omega) (by omega);have em:IE (.int 2) (.int many) (st++[.lst []])=some (.int (2*many),st++[.lst []]):=mul_int (by omega);refine HD (ρ1:=[some (.ref n),some (.int many),some (.str KS),some (.ref st.length),a,b,c]) (s1:=l) (by simp[em,E,e]) ?_;simp
def zo0(h:Jh n st)(h0:0<=many)(i:many<=100):∃(ss:List Str) (st':Hf),V2 [.ref n,.int many] st=some (.ref st.length,st')/\st'[st.length]?=some (.lst<|ss.map D.str)/\(∀x∈ss,HB x)/\ss.Nodup/\(ss.length:Int)<=many/\Jh n st'/\Fr n st st':=by obtain⟨ss,s,a,b,c,d,e,f,g,_⟩:=zo1 h h0 i;exact⟨ss,s,a,b,c,d,e,f,g⟩
end L2.MP.Hn
namespace L2.MP
open PySem
def Jb(p:Str×Int):D:=.tup [.str p.1,.int p.2]
def JB(k:List Str):D:=.tup<|k.map D.str
def zlY{n:Nat}{st:Hf}{k:Nat}:∀{ks:List (List Str)},st[k]?=some (.lst<|ks.map JB)->(∀q∈ks,∀x∈q,Ap x=true)->Jj (n+3) st (.ref k)=some (.list<|ks.map λq=>.tuple (q.map CB)):=by
 intro ks hk h;rw[Jj];simp only[Il,hk,Aa];have:∀l:List (List Str),(∀q∈l,∀x∈q,Ap x=true)->KW (Jj (n+2) st) (l.map JB)=some (l.map λq=>.tuple (q.map CB)):=by
  intro l
  induction l with
  |nil=>intro _;rfl
  |cons q l s=>
   intro o;rw[Au,KW];have e:Jj (n+2) st (JB q)=some (.tuple<|q.map CB):=by unfold JB;rw[Jj,YL (λx u=>Ot u) (o q Al)];rfl
   rw[e,Aa,s λr v=>o r (Ak _ v)];rfl
 rw[this ks h];rfl
def sP{st:Hf}{f g:Nat}{ks:List (List Str)}(hf:st[f]?=some (.lst<|ks.map JB))(a:st[g]?=some (.lst []))(h:∀q∈ks,∀x∈q,Ap x=true):IS (.ref f) (.ref g) st=some (.bl (!ks.isEmpty),st):=by
 unfold IS;rw[zlY (n:=97) hf h,QK (n:=98) (ss:=[]) a (by simp)]
 cases ks<;>rfl
end L2.MP
namespace L2.MP.Hn
open PySem L2.MP
structure K3(x:Str):Prop where
 len:x.cps.toList.length<=1
 ab:∀c∈x.cps.toList,(97<=c/\c<=122)\/(48<=c/\c<=57)
variable {x:Str}
def K3.str(h:K3 x):Ap x=true:=by unfold Ap;rw[DK];intro c l;have:=h.ab c (by simpa using l);simp;omega
def Oo(ns:List Str)(x:Str):Prop:=x=""\/x∈ns
def OY(ns:List Str)(k:List Str):Prop:=∃f a b c d,k=[f,a,b,c,d]/\K3 f/\Oo ns a/\Oo ns b/\Oo ns c/\Oo ns d
def eA:Ap ("":Str)=true:=by decide +kernel
variable {ns:List Str}
def Oo.str{ns:List Str}{x:Str}(a:∀y∈ns,HB y)(h:Oo ns x):Ap x=true:=by
 rcases h with rfl|h
 ·exact eA
 exact(a x h).str
def OY.str{ns:List Str}{k:List Str}(e:∀y∈ns,HB y)(h:OY ns k):∀x∈k,Ap x=true:=by
 obtain⟨f,a,b,c,d,rfl,hf,o,r,s,hd⟩:=h;intro x l;simp at l;rcases l with rfl|rfl|rfl|rfl|rfl
 ·exact hf.str
 ·exact o.str e
 ·exact r.str e
 ·exact s.str e
 exact hd.str e
variable {n l:Nat}{st:Hf}{ss:List Str}{v:Option D}
def zl3(h:Jh n st)(j:st[l]?=some (.lst<|ss.map D.str))(i:l≠n):∃(f:List (Str×Int)) (st':Hf),
  Kt ⟨ss.map D.str,[(l,ss.map D.str)]⟩ (Ho 0) IC Wl (ss.map D.str) [v,some (.ref n)] st=some (f.map Jb,st')/\f.map (·.1)=ss/\(∀p∈f,1<=p.2/\p.2<=4)/\Jh n st'/\Fr n st st':=by
 have key:=Qs (W:=⟨ss.map D.str,[(l,ss.map D.str)]⟩) (g:=Ho 0) (c:=IC) (m:=Wl) (ds:=ss.map D.str) (acc:=[]) (st:=st) (ρ:=[v,some (.ref n)])
  (Inv:=λk a ρ s=>(∃x,ρ=[x,some (.ref n)])/\(∃f:List (Str×Int),a=f.map Jb/\f.map (·.1)=ss.take k/\∀p∈f,1<=p.2/\p.2<=4)/\Jh n s/\Fr n st s)
  ⟨⟨v,rfl⟩,⟨[],rfl,by simp,by simp⟩,h,Fr.refl _ _⟩ (λk a ρ s _ o=>QT ((o.2.2.2.old l (qax j) i).trans j)) (λk d a ρ s hd o=>by
   obtain⟨⟨x,rfl⟩,⟨f,rfl,hm,u⟩,hp,hf⟩:=o;rw[AJ]at hd;obtain⟨y,A,rfl⟩:=ID hd;obtain⟨d,s1,E,hd,Q,f1⟩:=QF [.int 1,.int 2,.int 4] hp (by decide) (by decide);obtain⟨m,rfl,q,z⟩:∃m:Int,d=.int m/\1<=m/\m<=4:=by
    simp at hd;rcases hd with rfl|rfl|rfl<;>exact⟨_,rfl,by decide,by decide⟩
   obtain⟨r,s2,B,F,G,p2,f2,_⟩:=Mu (many:=m) Q (by omega) (by omega);refine⟨[some (.str y),some (.ref n)],s,true,s,rfl,rfl,.inl ⟨rfl,Jb (y,1+r),s2,?_,⟨_,rfl⟩,⟨f++[(y,1+r)],by simp,?_,?_⟩,p2,hf.trans<|f1.trans f2⟩⟩
   ·unfold Wl Jb;simp[E,B]
   ·rw[Bt,hm,FI,A];rfl
   ·intro p hp
    rcases W1.mp hp with hp|hp
    ·exact u p hp
    rw[On.mp hp];exact⟨by show 1<=1+r;omega,by show 1+r<=4;omega⟩)
 obtain⟨xs,ρ',C,e,_,⟨f,w,hm,u⟩,hp,hf⟩:=key;rw[CN]at w;subst w;refine⟨f,C,e,?_,u,hp,hf⟩;rw[hm,Af,B4]
variable {sd:List Str}
def yQ(h:Jh n st)(i:st[l]?=some (.lst<|sd.map D.str))(f:l≠n)(h0:0<sd.length)(B:sd.length<1000):∃(xs:List Str) (st':Hf),
  Kt ⟨run 0 4,[]⟩ (Ho 0) IC Sb (run 0 4) [v,some (.ref n),some (.ref l)] st=some (xs.map D.str,st')/\xs.length=4/\(∀x∈xs,x∈sd)/\Jh n st'/\Fr n st st':=by
 have key:=Qs (W:=⟨run 0 4,[]⟩) (g:=Ho 0) (c:=IC) (m:=Sb) (ds:=run 0 4) (acc:=[]) (st:=st) (ρ:=[v,some (.ref n),some (.ref l)])
  (Inv:=λk a ρ s=>(∃x,ρ=[x,some (.ref n),some (.ref l)])/\(∃xs:List Str,a=xs.map D.str/\xs.length=k/\∀x∈xs,x∈sd)/\Jh n s/\Fr n st s)
  ⟨⟨v,rfl⟩,⟨[],rfl,rfl,by simp⟩,h,Fr.refl _ _⟩ (λ_ _ _ _ _ _=>rfl) (λk d a ρ s hd w=>by
   obtain⟨⟨x,rfl⟩,⟨xs,rfl,hlen,o⟩,r,hf⟩:=w;obtain⟨C,s1,A,u,E,f1⟩:=of_ok r ((hf.old l (qax i) f).trans i) (by simpa using h0) (by rw[Af];omega) f;obtain⟨y,Q,rfl⟩:=P3.mp u;refine⟨[some d,some (.ref n),some (.ref l)],s,true,s,rfl,rfl,.inl ⟨rfl,.str y,s1,?_,⟨_,rfl⟩,⟨xs++[y],by simp,by simp[hlen],?_⟩,E,hf.trans f1⟩⟩
   ·unfold Sb;simp[A]
   ·intro z hz
    rcases W1.mp hz with hz|hz
    ·exact o z hz
    rw[On.mp hz];exact Q)
 obtain⟨F,ρ',j,e,_,⟨xs,o,hm,q⟩,r,hf⟩:=key;rw[CN]at o;subst o;exact⟨xs,j,e,by rw[hm,O2],q,r,hf⟩
noncomputable abbrev signs:Str:="abcdefghijklmnopqrstuvwxyz0123456789"
def signs_at:∀k:Nat,k<36->∃c,signs.cps[k]?=some c/\((97<=c/\c<=122)\/(48<=c/\c<=57)):=by
 have:∀k:Nat,k<36->(match signs.cps[k]? with|some c=>decide ((97<=c/\c<=122)\/(48<=c/\c<=57))|none=>false)=true:=by decide +kernel
 intro k hk;have h:=this k hk;cases e:signs.cps[k]? with
 |none=>rw[e]at h;cases h
 |some c=>rw[e]at h;exact⟨c,rfl,of_decide_eq_true h⟩
def eJ{z:Str}{b:Bool}(a:z.length<=100):IE (.str z) (.int<|if b=true then 1 else 0) st=some (.str (if b=true then z else Ej),st):=by
 have l:sizeLine=16777216:=by decide
 cases b with
 |true=>
  have e:L5 z 1=z:=by simp[L5]
  simp[IE,JM,KZ,Qw,intD,Kj,e,l];omega
 |false=>
  have e:L5 z 0=Ej:=by simp[L5]
  have n:Str.empty.length=0:=by decide
  simp[IE,JM,KZ,Qw,intD,Kj,e,l,n]
structure Lp(n f l:Nat)(ns sd:List Str)(st0:Hf)(ks:List (List Str))(s:Hf):Prop where
 at_:s[f]?=some (.lst (ks.map JB))
 sd_:s[l]?=some (.lst (sd.map D.str))
 ok:∀k∈ks,OY ns k
 pot:Jh n s
 fr:Fr n st0 s
variable {f:Nat}{st0 s:Hf}{ks:List (List Str)}
def Lp.fr'{s':Hf}(h:Lp n f l ns sd st0 ks s)(hf:f≠n)(a:l≠n)(p:Jh n s')(g:Fr n s s'):Lp n f l ns sd st0 ks s':=⟨(g.old f (qax h.at_) hf).trans h.at_,(g.old l (qax h.sd_) a).trans h.sd_,h.ok,p,h.fr.trans g⟩
def Lp.app{n f l:Nat}{ns sd:List Str}{st0:Hf}{ks:List (List Str)}{s:Hf}(h:Lp n f l ns sd st0 ks s)(hf:f≠n)(a:l≠n)(o:List O):Lp n f l ns sd st0 ks (s++o):=h.fr' hf a (h.pot.gr<|Gr.app _ _)<|Fr.app _ _ _
noncomputable abbrev Jr (n:Nat) (most:Int) (v2 v3:Option D) (l f:Nat) (v7 v8 v9:Option D):HX:=[some (.ref n),some (.int most),v2,v3,some (.str signs),some (.ref l),some (.ref f),v7,v8,v9]
def NB{xs:List Str}(h:xs.length=4):∃a b c d,xs=[a,b,c,d]:=by
 match xs,h with
 |[a,b,c,d],_=>exact⟨a,b,c,d,rfl⟩
variable {most:Int}
def zlc{ns sd:List Str}{v2 v3 v7 v8 v9:Option D}(h:Lp n f l ns sd st0 ks s)(hf:f≠n)(i:l≠n)(J:f≠l)(hf0:st0.length<=f)(g:∀x∈sd,Oo ns x)(K:∀x∈ns,HB x)(h0:0<sd.length) (h1:sd.length<1000) (hk:ks.length<=1000):∃(k:List Str) (w8 w9:Option D) (s':Hf),Ws (Jr n most v2 v3 l f v7 v8 v9) s=some (.nx (Jr n most v2 v3 l f v7 w8 w9),s')/\Lp n f l ns sd st0 (ks++[k]) s':=by
 obtain⟨r,s1,e1,r0,r1,p1,f1,_⟩:=Mu (many:=36) h.pot (by decide) (by decide);obtain⟨c,hc,L⟩:=signs_at r.toNat (by omega);have ei:Hr (.str signs) (.int r) s1=some (.str ⟨#[c]⟩,s1):=Ti (by decide) r0 hc;obtain⟨q,s2,e2,q0,q1,p2,f2,_⟩:=Mu (many:=4) p1 (by decide) (by decide);have Z:=h.fr' hf i p2<|f1.trans f2;obtain⟨face,ef,E⟩:∃face:Str,IE (.str ⟨#[c]⟩) (.int<|if 0<q then 1 else 0) s2=some (.str face,s2)/\K3 face:=by
  have e:=eJ (z:=⟨#[c]⟩) (b:=decide (0<q)) (st:=s2) (by show 1<=100;decide);refine⟨_,by simpa using e,?_⟩
  by_cases H:0<q
  ·rw[if_pos (by simpa using H)];exact⟨by simp,λx hx=>by simp at hx;rw[hx];exact L⟩
  rw[if_neg (by simpa using H)];exact⟨by decide,λx hx=>by rw[show Str.empty.cps.toList=[] from by decide]at hx;cases hx⟩
 obtain⟨xs,s3,e3,M,hxs,p3,f3⟩:=yQ (v:=none) p2 Z.sd_ i h0 h1;have h3:=Z.fr' hf i p3 f3;have h4:=h3.app hf i [.lst (xs.map D.str)];obtain⟨a,b,o,d,rfl⟩:=NB M;have ka:OY ns [face,a,b,o,d]:=⟨face,a,b,o,d,rfl,E,g a<|hxs a<|by simp,g b<|hxs b<|by simp,g o<|hxs o<|by simp,g d<|hxs d<|by simp⟩
 have et:=O6<|IJ s3<|.lst<|[a,b,o,d].map D.str;have Q:Hm (mB IE (mB Hr (mV 4)<|Hi Kq<|Hc (mV 0)<|Hc (mK<|.int 36)<|mZ)<|Hi HF<|Hc (mB IV (Hi Kq<|Hc (mV 0)<|Hc (mK<|.int 4)<|mZ)<|mK<|.int 0)<|mZ) (Ho 8) (Jr n most v2 v3 l f v7 v8 v9) s=some (.nx (Jr n most v2 v3 l f v7 (some<|.str face) v9),s2):=by simp[Jr,Jf,Jn,Ia,Ji,JO,JH,JP,Aa,Aj,Ik,HV,IV,Jp,HG,HF,Hz,e1,ei,e2,ef]
 have sm:small 4=true:=Qi (by decide) (by decide);have W:Ht (.tup [.str face]) (.tup [.str a,.str b,.str o,.str d]) (s3++[.lst [.str a,.str b,.str o,.str d]])=some (.tup [.str face,.str a,.str b,.str o,.str d],s3++[.lst [.str a,.str b,.str o,.str d]]):=cT (by simp) (by simp);have m:Kt ⟨run 0<|Int.toNat 4,[]⟩ (Ho 0) IC Sb (run 0<|Int.toNat 4) [none,some (.ref n),some (.ref l)] s2=some ([.str a,.str b,.str o,.str d],s3):=e3;have B:LR [.ref s3.length] (s3++[.lst [.str a,.str b,.str o,.str d]])=some (.tup [.str a,.str b,.str o,.str d],s3++[.lst [.str a,.str b,.str o,.str d]]):=et;have y:Hm (mB Ht (mU<|Hc (mV 8)<|mZ)<|Hi LR<|Hc (Jl (Of<|mK<|.int 4) 1 [0,5] (Ho 0) IC<|Sb)<|mZ) (Ho 9) (Jr n most v2 v3 l f v7 (some<|.str face) v9) s2=some (.nx (Jr n most v2 v3 l f v7 (some<|.str face)<|some<|JB [face,a,b,o,d]),s3++[.lst ([a,b,o,d].map D.str)]):=by simp[Jr,Jf,Jn,Ia,Ji,JO,JH,JP,Aa,Aj,Ik,HV,IV,Jp,HG,HF,Hz,sm,JB]at m B W ⊢;simp[m,Jf,Jn,Ia,Ji,JO,JH,JP,Aa,Aj,Ik,HV,IV,Jp,HG,HF,Hz,B,W]
 generalize hs4:s3++[O.lst ([a,b,o,d].map D.str)]=s4 at h4 y;have N:∃(k:List Str) (A:Hf),Ih (JD (mT<|mB IS (mV 6)<|mL<|mZ)<|mT<|mB Ie (Hi Kq<|Hc (mV 0)<|Hc (mK<|.int 8)<|mZ)<|mK<|.int 0) (Hm (Hi Lz<|Hc (mV 0)<|Hc (mV 6)<|mZ)<|Ho 9) IH
   (Jr n most v2 v3 l f v7 (some<|.str face)<|some<|JB [face,a,b,o,d]) s4=some (.nx (Jr n most v2 v3 l f v7 (some<|.str face)<|some<|JB k),A)/\OY ns k/\Lp n f l ns sd st0 ks A:=by
  have C:=h4.app hf i [.lst []];have S:=sP C.at_ (IJ s4<|.lst []) λq H=>(C.ok q H).str K
  by_cases he:ks=[]
  ·subst he;exact⟨[face,a,b,o,d],s4++[.lst []],by simp[Jr,S],ka,C⟩
  ·have F:ks.isEmpty=false:=by cases ks with
    |nil=>exact absurd rfl he
    |cons a b=>rfl
   obtain⟨u,A,I,u0,u1,p6,f6,_⟩:=Mu (many:=8) C.pot (by decide) (by decide);have w:=C.fr' hf i p6 f6
   by_cases hu:u=0
   ·subst hu;obtain⟨d7,s7,e7,T,p7,f7⟩:=of_ok w.pot w.at_ (by rw[Af];exact List.length_pos_iff.mpr he) (by rw[Af];omega) hf;obtain⟨k,U,rfl⟩:=P3.mp T;exact⟨k,s7,by simp[Jr,S,F,I,eq_int,e7],w.ok k U,w.fr' hf i p7 f7⟩
   ·have X:(u==0)=false:=by simp[hu]
    exact⟨[face,a,b,o,d],A,by simp[Jr,S,F,I,eq_int,X],ka,w⟩
 obtain⟨k,A,I,kk,w⟩:=N;have ea:=append_at (x:=JB k) w.at_ (by rw[Af];omega);have Y:=qax w.at_;have G:Li (Lk (mV 6)<|Hc (mV 9)<|mZ) (Jr n most v2 v3 l f v7 (some<|.str face)<|some<|JB k) A=some (.nx (Jr n most v2 v3 l f v7 (some<|.str face)<|some<|JB k),A.set f (.lst<|ks.map JB++[JB k])):=by simp[Jr,Il,w.at_,ea]
 refine⟨k,some<|.str face,some<|JB k,A.set f<|.lst<|ks.map JB++[JB k],?_,?_⟩
 ·unfold Ws;exact HD Q<|HD y<|HD I G
 ·refine⟨by simp[Y],by rw[AE J];exact w.sd_,λx hx=>?_,?_,⟨by have:=w.fr.len;simpa using this,λj hj nj=>by rw[AE (by omega)];exact w.fr.old j hj nj⟩⟩
  ·rcases W1.mp hx with hx|hx
   ·exact w.ok x hx
   rw[On.mp hx];exact kk
  obtain⟨a,b,e,r⟩:=w.pot;exact⟨a,b,by rw[AE hf];exact e,r⟩
structure Jt where
 e:Int
 sticks:List (Str×Int)
 kinds:List (List Str)
def Jt.d(h:Jt):D:=.tup [.int h.e,.tup (h.sticks.map Jb),.tup (h.kinds.map JB)]
structure Jt.Ok(h:Jt)(most:Int):Prop where
 e0:1<=h.e
 e1:h.e<=4
 names:∀p∈h.sticks,HB p.1
 srt:(h.sticks.map (·.1)).Pairwise λa b=>sle a b=true
 nd:(h.sticks.map (·.1)).Nodup
 str:∀p∈h.sticks,1<=p.2/\p.2<=4
 few:h.sticks.length<=5
 kind:∀k∈h.kinds,OY (h.sticks.map (·.1)) k
 k0:0<h.kinds.length
 k1:(h.kinds.length:Int)<=most
def zf3(a:st[l]?=some (.lst<|ss.map D.str))(h:ss.length<64):O4 [.ref l] st=some (.ref st.length,st++[.lst ((O3 ss).map D.str)]):=by simp[O4,Oe,QI,Il,a,YY,h,JF]
def xG(h:Jh n st)(h0:1<=most)(h1:most<=500):∃(ho:Jt) (st':Hf),Zh [.ref n,.int most] st=some (ho.d,st')/\ho.Ok most/\Jh n st'/\Fr n st st':=by
 obtain⟨d,s1,e1,hd,p1,f1⟩:=QF [.int 1,.int 2,.int 2,.int 3,.int 5,.int 0] h (by decide) (by decide);obtain⟨m,rfl,hm0,hm5⟩:∃m:Int,d=.int m/\0<=m/\m<=5:=by
  simp at hd;rcases hd with rfl|rfl|rfl|rfl|rfl<;>exact⟨_,rfl,by decide,by decide⟩
 obtain⟨ss,s2,e2,at2,ok2,nd2,NC,p2,f2⟩:=zo0 p1 hm0 (by omega);have es:=zf3 at2 (by omega);have l:(O3 ss).Perm ss:=CH _ _;have Q:(O3 ss).Pairwise λa b=>sle a b=true:=B9 (λa b c h1 h2=>YO a b c h1 h2) (λa b=>iI a b) ss;have j:∀x∈O3 ss,HB x:=λx hx=>ok2 x (l.mem_iff.mp hx);have I:(O3 ss).Nodup:=l.nodup_iff.mpr nd2;have J:(O3 ss).length<=5:=by rw[l.length_eq];omega
 generalize O3 ss=ns at es Q j I J;generalize K:s2++[O.lst (ns.map D.str)]=s3 at es;have g3:Gr s2 s3:=by rw[<-K];exact Gr.app _ _
 have p3:=p2.gr g3;have y:s3[s2.length]?=some (.lst (ns.map D.str)):=by rw[<-K];exact IJ _ _
 have n2:s2.length≠n:=A0 p2.lt;obtain⟨o,s4,e4,w,hv2,p4,f4⟩:=zl3 (v:=none) p3 y n2;have L:s4[s2.length]?=some (.lst (ns.map D.str)):=(f4.old _ (qax y) n2).trans y;have hvl:o.length=ns.length:=by rw[<-w,Af]
 have fv:fits (o.map Jb).length=true:=Ko (by rw[Af];omega);have et:=O6 (IJ s4 (.lst (o.map Jb)));generalize M:s4++[O.lst (o.map Jb)]=s5 at et;have g5:Gr s4 s5:=by rw[<-M];exact Gr.app _ _
 have p5:=p4.gr g5;have A:s5[s2.length]?=some (.lst (ns.map D.str)):=(g5.old _ (qax L)).trans L;have a1:=RJ (st:=s5++[.lst [.str ""]]) (IJ s5 _) (((Gr.app s5 [.lst [.str ""]]).old _ (qax A)).trans A) (by simp;omega);generalize N:s5++[O.lst [.str ""]]=q at a1;have g6:Gr s5 q:=by rw[<-N];exact Gr.app _ _
 have E:q[s2.length]?=some (.lst (ns.map D.str)):=(g6.old _ (qax A)).trans A;have a2:=RJ (st:=q++[.lst ([.str ""]++ns.map D.str)]) (IJ q _) (((Gr.app q [.lst ([.str ""]++ns.map D.str)]).old _ (qax E)).trans E) (by simp;omega);generalize hs7:q++[O.lst ([.str ""]++ns.map D.str)]=z at a1 a2;have g7:Gr q z:=by rw[<-hs7];exact Gr.app _ _
 have S:z[s2.length]?=some (.lst (ns.map D.str)):=(g7.old _ (qax E)).trans E;have a3:=RJ (st:=z++[.lst ([.str ""]++ns.map D.str++ns.map D.str)]) (IJ z _) (((Gr.app z [.lst ([.str ""]++ns.map D.str++ns.map D.str)]).old _ (qax S)).trans S) (by simp;omega);generalize hs8:z++[O.lst ([.str ""]++ns.map D.str++ns.map D.str)]=u at a2 a3;have g8:Gr z u:=by rw[<-hs8];exact Gr.app _ _
 obtain⟨sd,B⟩:∃sd:List Str,sd=(("":Str)::ns)++ns++ns:=⟨_,rfl⟩;have T:[D.str ""]++ns.map D.str++ns.map D.str++ns.map D.str=sd.map D.str:=by rw[B];simp
 rw[T]at a3;generalize U:u++[O.lst (sd.map D.str)]=f at a3;have X:f[u.length]?=some (.lst (sd.map D.str)):=by rw[<-U];exact IJ _ _
 have g9:Gr u f:=by rw[<-U];exact Gr.app _ _
 have p9:Jh n f:=((((p5.gr g6).gr g7).gr g8)).gr g9;have n8:u.length≠n:=A0 (((p5.gr g6).gr g7).gr g8).lt;have g59:Gr s5 f:=((g6.trans g7).trans g8).trans g9;have p10:=p9.gr (Gr.app f [.lst []]);obtain⟨r,C,e11,r0,r1,p11,F,_⟩:=Mu (many:=most) p10 (by omega) (by omega);have n9:f.length≠n:=A0 p9.lt;have l9:u.length<f.length:=qax X;have Y:C[f.length]?=some (.lst []):=(F.old _ (by simp) n9).trans (IJ f _);have Z:C[u.length]?=some (.lst (sd.map D.str)):=(F.old _ (by simp;omega) n8).trans (((Gr.app f [.lst []]).old _ l9).trans X);have hsdk:∀x∈sd,Oo ns x:=λx hx=>by
  rw[B]at hx;simp at hx;rcases hx with rfl|hx
  ·exact .inl rfl
  exact .inr hx
 have sdl:sd.length=1+3*ns.length:=by rw[B];simp;omega
 have key:=QG (W:=⟨run 0 (1+r).toNat,[]⟩) (g:=Ho 7) (m:=Ws) (ds:=run 0 (1+r).toNat) (ρ:=Jr n most (some (.ref s2.length)) (some (.tup (o.map Jb))) u.length f.length none none none) (st:=C)
  (Inv:=λk ρ s=>∃(ks:List (List Str)) (a b c:Option D),ρ=Jr n most (some (.ref s2.length)) (some (.tup (o.map Jb))) u.length f.length a b c/\ks.length=k/\Lp n f.length u.length ns sd f ks s)
  ⟨[],none,none,none,rfl,rfl,⟨Y,Z,by simp,p11,(Fr.app n f _).trans F⟩⟩ (λ_ _ _ _ _=>rfl) (λk d ρ s hd hI=>by obtain⟨ks,a,b,c,rfl,hk,G⟩:=hI;have H:k<(run 0 (1+r).toNat).length:=qax hd;rw[O2]at H;obtain⟨kd,w8,w9,s',e,hN'⟩:=zlc (most:=most) (v2:=some (.ref s2.length)) (v3:=some (.tup (o.map Jb))) (v7:=some d) (v8:=b) (v9:=c) G n9 n8 (A0 l9) (Ah _) hsdk j (by omega) (by omega) (by omega);exact⟨_,s,_,s',rfl,e,ks++[kd],some d,w8,w9,rfl,by simp[hk],hN'⟩)
 obtain⟨ρ',s12,e12,ks,a,b,c,rfl,H,G⟩:=key;rw[O2]at H;obtain⟨d13,s13,e13,i,p13,f13⟩:=QF [.int 1,.int 2,.int 2,.int 3,.int 4] G.pot (by decide) (by decide);obtain⟨en,rfl,en1,en4⟩:∃m:Int,d13=.int m/\1<=m/\m<=4:=by
  simp at i;rcases i with rfl|rfl|rfl|rfl<;>exact⟨_,rfl,by decide,by decide⟩
 have at13:s13[f.length]?=some (.lst (ks.map JB)):=(f13.old _ (qax G.at_) n9).trans G.at_;have et13:=O6 at13;refine⟨⟨en,o,ks⟩,s13,IG ?_,?_,p13,?_⟩
 ·unfold jU Jt.d;refine HD (ρ1:=[some (.ref n),some (.int most),some (.ref s2.length),none,none,none,none,none,none,none]) (s1:=s3) (by simp[Jf,Jn,Ia,Ji,JO,JH,JP,Aa,Aj,Ik,HV,IV,Jp,HG,HF,Hz,e1,e2,es]) ?_;refine HD (ρ1:=[some (.ref n),some (.int most),some (.ref s2.length),some (.tup (o.map Jb)),none,none,none,none,none,none]) (s1:=s5) (by
   have fv':=fv;simp only[Af]at fv';simp[Jf,Jn,Ia,Ji,JO,JH,JP,Aa,Aj,Ik,HV,IV,Jp,HG,HF,Hz,Ru,Il,y,e4,fv',M,et]) ?_
  refine HD (ρ1:=[some (.ref n),some (.int most),some (.ref s2.length),some (.tup (o.map Jb)),some (.str signs),none,none,none,none,none]) (s1:=s5) (by simp) ?_;refine HD (ρ1:=[some (.ref n),some (.int most),some (.ref s2.length),some (.tup (o.map Jb)),some (.str signs),some (.ref u.length),none,none,none,none]) (s1:=f) (by
   simp[N,a1,a2,a3]) ?_
  refine HD (ρ1:=[some (.ref n),some (.int most),some (.ref s2.length),some (.tup (o.map Jb)),some (.str signs),some (.ref u.length),some (.ref f.length),none,none,none]) (s1:=f++[.lst []]) (by simp) ?_;have sm:small (1+r)=true:=Qi (by omega) (by omega);refine HD (ρ1:=Jr n most (some (.ref s2.length)) (some (.tup (o.map Jb))) u.length f.length a b c) (s1:=s12) (by simp[e11,sm];exact e12) ?_;simp[Jr,e13,et13]
 ·refine⟨en1,en4,λp hp=>j p.1 (by rw[<-w];exact CJ hp),by rw[w];exact Q,by rw[w];exact I,hv2,by show o.length<=5;omega,λk hk=>by rw[w];exact G.ok k hk,by show 0<ks.length;omega,by show(ks.length:Int)<=most;omega⟩
 have fr1:Fr n st s3:=(f1.trans f2).trans (g3.fr n);have fr2:Fr n st f:=(fr1.trans f4).trans ((g5.trans g59).fr n);exact(fr2.trans G.fr).trans f13
end L2.MP.Hn
namespace L2.MP
open PySem
theorem jA:∀t:List Int,intsOf (t.map D.int)=some t
 |[]=>rfl
 |x::t=>by rw[Au,intsOf,jA t];rfl
theorem iT:∀{rows:List (List Int)},(∀r∈rows,r≠[])->rowsOf (rows.map HE)=some rows
 |[],_=>rfl
 |r::rows,h=>by
  have c:rowOf (HE r)=some r:=by
   unfold rowOf HE;simp only[jA,Aa];have:r.isEmpty=false:=by
    cases r with
    |nil=>exact absurd rfl<|h [] Al
    |cons a b=>rfl
   simp[this]
  rw[Au,rowsOf,c,Aa,iT λq l=>h q (Ak _ l)];rfl
variable {st:Hf}
def zjO{l:Nat}{rows:List (List Int)}(c:st[l]?=some (.lst<|rows.map HE))(h:∀r∈rows,r≠[])(a:rows.length<64):O4 [.ref l] st=some (.ref st.length,st++[.lst ((Po rows).map HE)]):=by
 match rows,c,h,a with
 |[],c,h,a=>simp[O4,Oe,QI,Il,c,strsOf,O3,Po,JF]
 |[r],c,h,a=>
  have e:strsOf [HE r]=none:=rfl;simp[O4,Oe,QI,TZ,Il,c,e,Po,JF,Kj]
 |r::q::rows,c,h,a=>
  have e:strsOf (HE r::HE q::rows.map HE)=none:=rfl;have o:=iT h;simp only[Au]at o;simp at a;have s:rows.length+1+1<64:=by omega
  simp[O4,Oe,QI,TZ,VG,Il,c,e,o,JF,Kj,s]
def zjP(rows:List (List Int)):(Po rows).Perm rows:=CH _ _
def zl8(rows:List (List Int)):(Po rows).Pairwise λa b=>Kl a b=true:=B9 (λa b c=>VU a b c) iP rows
noncomputable abbrev Tl:=Int×Int×Int
def Ip(t:Tl):List Key×D:=([CW t.1,CW t.2.1],.int t.2.2)
def HC(t:Tl):List Int:=[t.1,t.2.1,t.2.2]
def KU(a b:Tl):Bool:=decide (a.1=b.1)&&decide (a.2.1=b.2.1)
def KY(l:List Tl)(t:Tl):List Tl:=if l.any (λu=>KU u t)=true then l.map (λu=>if KU u t=true then t else u)else l++[t]
def W6(u t:Tl):decide ((Ip u).1=(Ip t).1)=KU u t:=by unfold Ip KU;by_cases h1:u.1=t.1<;>by_cases h2:u.2.1=t.2.1<;>simp[h1,h2]
def vT(l:List Tl)(t:Tl):putD (l.map Ip) (Ip t).1 (Ip t).2=(KY l t).map Ip:=by
 unfold putD KY;have e:((l.map Ip).any λr=>decide (r.1=(Ip t).1))=l.any λu=>KU u t:=by
  rw[List.any_map]
  congr 1
  funext u
  exact W6 u t
 rw[e];split
 ·rw[BO,BO];apply DA;intro u _;show(if(Ip u).1=(Ip t).1 then _ else _)=Ip (if KU u t=true then t else u)
  by_cases h:KU u t=true
  ·have o:(Ip u).1=(Ip t).1:=of_decide_eq_true<|(W6 u t).trans h;rw[if_pos o,if_pos h,o]
  have o:¬(Ip u).1=(Ip t).1:=λz=>h<|(W6 u t).symm.trans<|decide_eq_true z;rw[if_neg o,if_neg h]
 rw[Bt];rfl
def Mg(l:List Tl):Prop:=l.Pairwise λa b=>KU a b=false
def Y9(a b:Tl):KU a b=KU b a:=by unfold KU;by_cases h1:a.1=b.1<;>by_cases h2:a.2.1=b.2.1<;>simp[h1,h2,eq_comm]
variable {l:List Tl}{t:Tl}
def vU(h:Mg l):Mg (KY l t):=by
 unfold KY;split
 ·unfold Mg at *;rw[List.pairwise_map];refine h.imp λ{a b} r=>?_;have u:∀{a b c:Tl},KU a b=true->KU a c=KU b c:=λ{a b c} q=>by
   unfold KU at *;simp at q;rw[q.1,q.2]
  by_cases s:KU a t=true
  ·by_cases o:KU b t=true
   ·have v:KU a b=KU t b:=u s;rw[Y9]at o;rw[v,o]at r;cases r
   rw[if_pos s,if_neg o,Y9];simpa using o
  ·by_cases o:KU b t=true
   ·rw[if_neg s,if_pos o];simpa using s
   rw[if_neg s,if_neg o];exact r
 ·rename_i w;unfold Mg at *;rw[List.pairwise_append];refine⟨h,List.pairwise_singleton _ _,λa s b o=>?_⟩;rw[On.mp o]
  cases e:KU a t with
  |false=>rfl
  |true=>exact absurd (List.any_eq_true.mpr ⟨a,s,e⟩) w
def zP{P:Tl->Prop}{l:List Tl}{t:Tl}(h:∀u∈l,P u)(a:P t):∀u∈KY l t,P u:=by
 unfold KY;split
 ·intro u hu;obtain⟨v,o,rfl⟩:=P3.mp hu
  split
  ·exact a
  exact h v o
 ·intro u hu
  rcases W1.mp hu with hu|hu
  ·exact h u hu
  rw[On.mp hu];exact a
def zQ(l:List Tl)(t:Tl):(KY l t).length<=l.length+1:=by
 unfold KY;split
 ·rw[Af];omega
 simp
def uN{t:Nat}{x y k:Int}(h:st[t]?=some (.dt<|l.map Ip))(a:l.length<=1000):dput st t (.tup [.int x,.int y]) (.int k)=some (st.set t<|.dt<|(KY l (x,y,k)).map Ip):=by have o:(l.map Ip).length<sizeLine:=BZ (by rw[Af];exact a) (by decide);have e:=vT l (x,y,k);have r:keysOf [.int x,.int y]=some (Ip (x,y,k)).1:=rfl;have s:D.int k=(Ip (x,y,k)).2:=rfl;unfold dput;simp only[h,r,Aa];rw[s,e,if_pos (decide_eq_true o)]
end L2.MP
namespace L2.MP.Hn
open PySem L2.MP
def W9(w h a:Int)(t:Tl):Prop:=0<=t.1/\t.1<w/\0<=t.2.1/\t.2.1<h/\0<=t.2.2/\t.2.2<a
structure JR(w h kn:Int)(ts:List Tl):Prop where
 ok:∀t∈ts,W9 w h kn t
 nd:Mg ts
 srt:(ts.map HC).Pairwise λa b=>Kl a b=true
def Ms(ts:List Tl):D:=.tup<|ts.map λt=>HE (HC t)
def zl7(l:List Tl):∃a:List Tl,a.Perm l/\a.map HC=Po (l.map HC):=by
 have o:=zjP<|l.map HC;have:∀(rs:List (List Int)) (l:List Tl),rs.Perm (l.map HC)->∃a:List Tl,a.Perm l/\a.map HC=rs:=by
  intro rs l h;refine⟨rs.map λr=>(r.getD 0 0,r.getD 1 0,r.getD 2 0),?_,?_⟩
  ·have:=h.map λr:List Int=>((r.getD 0 0,r.getD 1 0,r.getD 2 0):Tl)
   rw[BO]at this;have e:(λr:List Int=>((r.getD 0 0,r.getD 1 0,r.getD 2 0):Tl)) ∘ HC=id:=by funext t;rfl
   rw[e,FR]at this;exact this
  ·rw[BO]
   conv=>rhs;rw[<-FR rs]
   apply DA;intro r s;obtain⟨t,_,rfl⟩:=P3.mp<|h.mem_iff.mp s;rfl
 exact this _ l o
variable {w h kn:Int}{l:List Tl}
def yV{l:List Tl}(c:∀t∈l,W9 w h kn t)(f:Mg l):∃ts:List Tl,ts.Perm l/\ts.map HC=Po (l.map HC)/\JR w h kn ts:=by obtain⟨ts,o,e⟩:=zl7 l;refine⟨ts,o,e,λt r=>c t (o.mem_iff.mp r),?_,by rw[e];exact zl8 _⟩;exact(o.pairwise_iff (λ{a b} q=>by rw[Y9];exact q)).mpr f
structure NH(n t:Nat)(w h kn:Int)(st0:Hf)(l:List Tl)(s:Hf):Prop where
 at_:s[t]?=some (.dt (l.map Ip))
 ok:∀u∈l,W9 w h kn u
 nd:Mg l
 pot:Jh n s
 fr:Fr n st0 s
variable {n t:Nat}{st0 s:Hf}
def NH.fr'{s':Hf}(q:NH n t w h kn st0 l s)(a:t≠n)(p:Jh n s')(g:Fr n s s'):NH n t w h kn st0 l s':=⟨(g.old t (qax q.at_) a).trans q.at_,q.ok,q.nd,p,q.fr.trans g⟩
noncomputable abbrev KD (n:Nat) (hd:D) (w h most:Int) (t:Nat) (v:Option D):HX:=[some (.ref n),some hd,some (.tup [.int w,.int h]),some (.int most),some (.ref t),v]
variable {most:Int}{a b:D}{ks:List D}
def zjL{v:Option D}(q:NH n t w h ks.length st0 l s)(f:t≠n)(z:st0.length<=t)(hw:0<w)(B:w<=1000)(C:0<h)(F:h<=1000)(hk:0<ks.length)(G:ks.length<100000)(H:l.length<=1000):
  ∃(g:List Tl) (s':Hf),Wj (KD n (.tup [a,b,.tup ks]) w h most t v) s=some (.nx (KD n (.tup [a,b,.tup ks]) w h most t v),s')/\NH n t w h ks.length st0 g s'/\g.length<=l.length+1:=by
 obtain⟨k,s1,E,I,J,K,f1,_⟩:=Mu (many:=ks.length) q.pot (by omega) (by omega);obtain⟨x,s2,Q,x0,L,p2,f2,_⟩:=Mu (many:=w) K hw (by omega);obtain⟨y,s3,W,M,N,S,T,_⟩:=Mu (many:=h) p2 C (by omega);have o:=q.fr' f S<|(f1.trans f2).trans T;have U:=uN (x:=x) (y:=y) (k:=k) o.at_ H;have A:=qax o.at_;have u:∀s:Hf,Hr (.tup [a,b,.tup ks]) (.int 2) s=some (.tup ks,s):=λs=>Kk (by decide) rfl;have i:∀s:Hf,Hr (.tup [.int w,.int h]) (.int 0) s=some (.int w,s):=λs=>Kk (by decide) rfl;have m:∀s:Hf,Hr (.tup [.int w,.int h]) (.int 1) s=some (.int h,s):=λs=>Kk (by decide) rfl;refine⟨KY l (x,y,k),s3.set t<|.dt<|(KY l (x,y,k)).map Ip,?_,⟨by simp[A],zP o.ok ⟨x0,L,M,N,I,J⟩,vU o.nd,?_,⟨by have:=o.fr.len;simpa using this,λj X Y=>by rw[AE (by omega)];exact o.fr.old j X Y⟩⟩,zQ _ _⟩
 ·unfold Wj;rw[Nl];have Z:Hm (Hi Kq<|Hc (mV 0)<|Hc (Hi Hl<|Hc (mB Hr (mV 1)<|mK<|.int 2)<|mZ)<|mZ) (Q8 LY (mV 4)<|mU<|Hc (Hi Kq<|Hc (mV 0)<|Hc (mB Hr (mV 2)<|mK<|.int 0)<|mZ)<|Hc (Hi Kq<|Hc (mV 0)<|Hc (mB Hr (mV 2)<|mK<|.int 1)<|mZ)<|mZ) (KD n (.tup [a,b,.tup ks]) w h most t v) s=none:=by
   simp[KD,u,i,m,Px,E,Q,W,LY]
  rw[Z,Kj];unfold UW;simp[KD,u,i,m,Px,E,Q,W,U]
 obtain⟨c,d,e,r⟩:=o.pot;exact⟨c,d,by rw[AE f];exact e,r⟩
variable {st:Hf}
def ziW(J:Jh n st)(hw:0<w)(i:w<=1000)(L:0<h)(z:h<=1000)(hk:0<ks.length)(B:ks.length<100000)(hm:0<=most)(M:most<60):
  ∃(ts:List Tl) (st':Hf),Wf [.ref n,.tup [a,b,.tup ks],.tup [.int w,.int h],.int most] st=some (Ms ts,st')/\JR w h ks.length ts/\(ts.length:Int)<=most/\Jh n st'/\Fr n st st':=by
 have f:st.length≠n:=A0 J.lt;have N:=J.gr<|Gr.app st [.dt []];obtain⟨r,s1,S,r0,r1,T,f1,_⟩:=Mu (many:=most+1) N (by omega) (by omega);have C:s1[st.length]?=some (.dt<|([]:List Tl).map Ip):=(f1.old _ (by simp) f).trans<|IJ st _;have key:=QG (W:=⟨run 0 r.toNat,[]⟩) (g:=Ho 5) (m:=Wj) (ds:=run 0 r.toNat) (ρ:=KD n (.tup [a,b,.tup ks]) w h most st.length none) (st:=s1)
  (Inv:=λk ρ s=>∃(l:List Tl) (v:Option D),ρ=KD n (.tup [a,b,.tup ks]) w h most st.length v/\l.length<=k/\NH n st.length w h ks.length st l s)
  ⟨[],none,rfl,Ah _,⟨C,by simp,C3,T,(Fr.app _ _ _).trans f1⟩⟩ (λ_ _ _ _ _=>rfl) (λk d ρ s hd U=>by obtain⟨l,v,rfl,K,q⟩:=U;have F:k<(run 0 r.toNat).length:=qax hd;rw[O2]at F;obtain⟨X,Y,e,Z,hl'⟩:=zjL (most:=most) (a:=a) (b:=b) (v:=some d) q f (Ah _) hw i L z hk B (by omega);exact⟨_,s,_,Y,rfl,e,X,some d,rfl,by omega,Z⟩)
 obtain⟨ρ',s2,e2,l,v,rfl,K,q⟩:=key;rw[O2]at K;have hlt:=qax q.at_;have u:SJ (.ref st.length) s2=some (⟨Nm<|l.map Ip,[]⟩,s2.set st.length (.ft<|l.map Ip)):=by unfold SJ;simp only[q.at_]
 generalize A:s2.set st.length (.ft<|l.map Ip)=s3 at u;have G:Fr n st s3:=by rw[<-A];exact⟨by have:=q.fr.len;simpa using this,λj hj nj=>by rw[AE (by omega)];exact q.fr.old j hj nj⟩
 have p3:Jh n s3:=by obtain⟨c,d,e,r⟩:=q.pot;exact⟨c,d,by rw[<-A,AE f];exact e,r⟩
 have WD:Nm (l.map Ip)=l.map λt=>D.tup [.tup [.int t.1,.int t.2.1],.int t.2.2]:=by unfold Nm;rw[BO];rfl
 have ec:Kt ⟨Nm<|l.map Ip,[]⟩ (LP 2<|gC (Ho 0)<|gC (Ho 1)<|Lo) IC Zm (Nm<|l.map Ip) [none,none] s3=some (l.map λt=>HE (HC t),s3):=by rw[WD];refine QA (R:=λρ=>∃x y,ρ=[x,y]) ⟨none,none,rfl⟩ rfl λt f ρ hρ=>?_;obtain⟨x,y,rfl⟩:=hρ;refine⟨[some (.tup [.int t.1,.int t.2.1]),some (.int t.2.2)],by simp[Jf,Im,Ii,II,KL,LN,Mt,Lw,M8,Jn,N8,Je,Iy,Iz,M4,Nk,Lx,M0,J9,Ng,Np,N3,K4,Nl,NN,NO,N0,NM,Ia,Nh,N9,Ji,Lv,JO,Lr,Lc,N1,JH,MZ,N4,JP,N5,Ob,Oa,JF,Kj,NQ,NR,NS,NT,NU,NV,NW,NX,NY,Aa,Aj,add_int,sub_int,Ik,HV,IV,Jp,HG,HF,Hz],rfl,?_,⟨_,_,rfl⟩⟩;unfold Zm;have ea:Ht (.tup [.int t.1,.int t.2.1]) (.tup [.int t.2.2]) s3=some (.tup [.int t.1,.int t.2.1,.int t.2.2],s3):=cT (by simp) (by simp);simp[Jf,Im,Ii,II,KL,LN,Mt,Lw,M8,Jn,N8,Je,Iy,Iz,M4,Nk,Lx,M0,J9,Ng,Np,N3,K4,Nl,NN,NO,N0,NM,Ia,Nh,N9,Ji,Lv,JO,Lr,Lc,N1,JH,MZ,N4,JP,N5,Ob,Oa,JF,Kj,NQ,NR,NS,NT,NU,NV,NW,NX,NY,Aa,Aj,add_int,sub_int,Ik,HV,IV,Jp,HG,HF,Hz,ea,HE,HC]
 have fl:fits l.length=true:=Ko (by omega);have es:=zjO (st:=s3++[.lst ((l.map HC).map HE)]) (rows:=l.map HC) (IJ s3 _) (λr hr=>by obtain⟨t,_,rfl⟩:=P3.mp hr;simp[HC]) (by rw[Af];omega);obtain⟨ts,o,H,I⟩:=yV q.ok q.nd;have E:O4 [.ref s3.length] (s3++[.lst (l.map λt=>HE (HC t))])=some (.ref (s3++[O.lst (l.map λt=>HE (HC t))]).length,(s3++[.lst (l.map λt=>HE (HC t))])++[.lst (ts.map λt=>HE (HC t))]):=by have q:=es;rw[<-H]at q;simp only[BO]at q;exact q
 generalize Q:s3++[O.lst (l.map λt=>HE (HC t))]=s4 at E;have g4:Gr s3 s4:=by rw[<-Q];exact Gr.app _ _
 have et:=O6<|IJ s4<|.lst<|ts.map λt=>HE (HC t);refine⟨ts,s4++[.lst (ts.map λt=>HE (HC t))],IG ?_,I,by rw[o.length_eq];omega,(p3.gr g4).gr<|Gr.app _ _,(G.trans<|g4.fr n).trans<|Fr.app _ _ _⟩;unfold kJ Ms;refine HD (ρ1:=KD n (.tup [a,b,.tup ks]) w h most st.length none) (s1:=st++[.dt []]) (by simp[KD,Jf,Im,Ii,II,KL,LN,Mt,Lw,M8,Jn,N8,Je,Iy,Iz,M4,Nk,Lx,M0,J9,Ng,Np,N3,K4,Nl,NN,NO,N0,NM,Ia,Nh,N9,Ji,Lv,JO,Lr,Lc,N1,JH,MZ,N4,JP,N5,Ob,Oa,JF,Kj,NQ,NR,NS,NT,NU,NV,NW,NX,NY,Aa,Aj,add_int,sub_int,Ik,HV,IV,Jp,HG,HF,Hz]) ?_;have sr:small r=true:=Qi (by omega) (by omega);refine HD (ρ1:=KD n (.tup [a,b,.tup ks]) w h most st.length v) (s1:=s2) (by simp[KD,Jf,Im,Ii,II,KL,LN,Mt,Lw,M8,Jn,N8,Je,Iy,Iz,M4,Nk,Lx,M0,J9,Ng,Np,N3,K4,Nl,NN,NO,N0,NM,Ia,Nh,N9,Ji,Lv,JO,Lr,Lc,N1,JH,MZ,N4,JP,N5,Ob,Oa,JF,Kj,NQ,NR,NS,NT,NU,NV,NW,NX,NY,Aa,Aj,add_int,sub_int,Ik,HV,IV,Jp,HG,HF,Hz,S,sr];exact e2) ?_;simp[KD,Jf,Jn,Ia,Ji,JO,JH,JP,Aa,Aj,Ik,HV,IV,Jp,HG,HF,Hz,u,ec,fl,Q,E,et]
structure Iw where
 ho:Jt
 w:Int
 h:Int
 ts:List Tl
def Iw.d(b:Iw):D:=.tup [b.ho.d,.tup [.int b.w,.int b.h],Ms b.ts]
structure Iw.Ok(b:Iw)(most:Int):Prop where
 ho:b.ho.Ok most
 w0:1<=b.w
 w1:b.w<=12
 h0:1<=b.h
 h1:b.h<=12
 ts:JR b.w b.h b.ho.kinds.length b.ts
 len:b.ts.length<=6
def mY(c:Jh n st)(h0:1<=most)(f:most<=500):∃(b:Iw) (st':Hf),YT [.ref n,.int most] st=some (b.d,st')/\b.Ok most/\Jh n st'/\Fr n st st':=by
 obtain⟨o,s1,y,l,A,f1⟩:=xG c h0 f;obtain⟨w,h,s2,E,Q,W,r,s,p2,f2⟩:=xB A;obtain⟨d,s3,g,hd,i,j⟩:=QF [.int 1,.int 1,.int 3,.int 6] p2 (by decide) (by decide);obtain⟨m,rfl,q,z⟩:∃m:Int,d=.int m/\1<=m/\m<=6:=by
  simp at hd;rcases hd with rfl|rfl|rfl<;>exact⟨_,rfl,by decide,by decide⟩
 have B:=l.k0;have G:=l.k1;obtain⟨u,s4,C,x,H,F,f4⟩:=ziW (w:=w) (h:=h) (most:=m) (a:=.int o.e) (b:=.tup (o.sticks.map Jb)) (ks:=o.kinds.map JB) i (by omega) (by omega) (by omega) (by omega) (by simpa using B) (by rw[Af];omega) (by omega) (by omega);rw[Af]at x;refine⟨⟨o,w,h,u⟩,s4,IG ?_,⟨l,Q,W,r,s,x,by show u.length<=6;omega⟩,F,((f1.trans f2).trans j).trans f4⟩;unfold jG Iw.d;refine HD (ρ1:=[some (.ref n),some (.int most),some o.d,some (.tup [.int w,.int h])]) (s1:=s2) (by simp[Jf,Jn,Ia,Ji,JO,JH,JP,Aa,Aj,Ik,HV,IV,Jp,HG,HF,Hz,y,E]) ?_;have v:Wf [.ref n,o.d,.tup [.int w,.int h],.int m] s3=some (Ms u,s4):=C;simp[g,v]
def plain:Nat->D->Prop
 |0,_=>False
 |_+1,.non=>True
 |_+1,.bl _=>True
 |_+1,.int _=>True
 |_+1,.str x=>Ap x=true
 |n+1,.tup ds=>ds.length<=10000/\∀d∈ds,plain n d
 |_+1,.ref _=>False
 |_+1,.kl _=>False
 |_+1,.fn _=>False
 |_+1,.er _ _ _=>False
theorem iF:∀n:Nat,Ol (A3 n<|.bl true)=some (A3 n true)
 |0=>rfl
 |n+1=>by rw[List.replicate_succ,Ol,iF n];rfl
theorem cK:∀{n:Nat}{d:D}{st:Hf},plain n d->∃st',L6 2 Ov n [d,d] st=some (.bl true,st')/\Gr st st'
 |0,d,st,h=>h.elim
 |n+1,.non,st,h=>by refine⟨st,IG ?_,Gr.refl _⟩;unfold Ov;refine HD (ρ1:=[some .non,some .non]) (s1:=st) (by simp[Jf,Jn,Ia,Ji,JO,JH,JP,Aa,Aj,Ik,HV,IV,Jp,HG,HF,Hz,tyName,IX]) ?_;refine HD (ρ1:=[some .non,some .non]) (s1:=st) (by simp[tyName,IX]) ?_;refine HD (ρ1:=[some .non,some .non]) (s1:=st) (by simp[tyName,IX]) ?_;simp[OB,Pg]
 |n+1,.bl b,st,h=>by
  refine⟨st,IG ?_,Gr.refl _⟩;unfold Ov;refine HD (ρ1:=[some (.bl b),some (.bl b)]) (s1:=st) (by simp[Jf,Jn,Ia,Ji,JO,JH,JP,Aa,Aj,Ik,HV,IV,Jp,HG,HF,Hz,tyName,IX]) ?_;refine HD (ρ1:=[some (.bl b),some (.bl b)]) (s1:=st) (by simp[tyName,IX]) ?_;refine JL ?_;have f:∀x:Bool,Ie (.bl x) (.bl x) st=some (.bl true,st):=λx=>by unfold Ie;rw[Jj];simp[Bb]
  simp[tyName,IX,f]
 |n+1,.int i,st,h=>by
  refine⟨st,IG ?_,Gr.refl _⟩;unfold Ov;refine HD (ρ1:=[some (.int i),some (.int i)]) (s1:=st) (by simp[Jf,Jn,Ia,Ji,JO,JH,JP,Aa,Aj,Ik,HV,IV,Jp,HG,HF,Hz,tyName,IX]) ?_;refine HD (ρ1:=[some (.int i),some (.int i)]) (s1:=st) (by simp[tyName,IX]) ?_;refine JL ?_;have f:∀x:Bool,Ie (.bl x) (.bl x) st=some (.bl true,st):=λx=>by unfold Ie;rw[Jj];simp[Bb]
  simp[tyName,IX,f,eq_int]
 |n+1,.str x,st,h=>by
  refine⟨st,IG ?_,Gr.refl _⟩;unfold Ov;refine HD (ρ1:=[some (.str x),some (.str x)]) (s1:=st) (by simp[Jf,Jn,Ia,Ji,JO,JH,JP,Aa,Aj,Ik,HV,IV,Jp,HG,HF,Hz,tyName,IX]) ?_;refine JL ?_;have f:Ie (.str x) (.str x) st=some (.bl true,st):=by unfold Ie;rw[Ot (n:=99) (show Ap x=true from h)];simp[Bb]
  simp[tyName,IX,f]
 |n+1,.tup ds,st,h=>by
  obtain⟨o,hd⟩:ds.length<=10000/\∀d∈ds,plain n d:=h;have r:pairD ds ds=ds.map λd=>.tup [d,d]:=by
   unfold pairD;clear o hd
   induction ds with
   |nil=>rfl
   |cons d ds v=>rw[Cg,Au,v];rfl
  have key:=Qs (W:=⟨pairD ds ds,[]⟩) (g:=LP 2 (gC (Ho 0)<|gC (Ho 1)<|Lo)) (c:=IC) (m:=Zf (L6 2 Ov n)) (ds:=pairD ds ds) (acc:=[]) (st:=st) (ρ:=[none,none])
   (Inv:=λk a ρ s=>(∃x y,ρ=[x,y])/\a=A3 k (.bl true)/\Gr st s) ⟨⟨none,none,rfl⟩,rfl,Gr.refl _⟩ (λ_ _ _ _ _ _=>rfl) (λk d a ρ s hk w=>by
    obtain⟨⟨x,y,rfl⟩,rfl,g⟩:=w;rw[r,AJ]at hk;obtain⟨e,he,rfl⟩:=ID hk;obtain⟨s1,f,g1⟩:=cK (st:=s)<|hd e<|AK he;refine⟨[some e,some e],s,true,s,by simp[Jf,Im,Ii,II,KL,LN,Mt,Lw,M8,Jn,N8,Je,Iy,Iz,M4,Nk,Lx,M0,J9,Ng,Np,N3,K4,Nl,NN,NO,N0,NM,Ia,Nh,N9,Ji,Lv,JO,Lr,Lc,N1,JH,MZ,N4,JP,N5,Ob,Oa,JF,Kj,NQ,NR,NS,NT,NU,NV,NW,NX,NY,Aa,Aj,add_int,sub_int,Ik,HV,IV,Jp,HG,HF,Hz],rfl,.inl ⟨rfl,.bl true,s1,?_,⟨_,_,rfl⟩,?_,g.trans g1⟩⟩
    ·unfold Zf;simp[Jf,Im,Ii,II,KL,LN,Mt,Lw,M8,Jn,N8,Je,Iy,Iz,M4,Nk,Lx,M0,J9,Ng,Np,N3,K4,Nl,NN,NO,N0,NM,Ia,Nh,N9,Ji,Lv,JO,Lr,Lc,N1,JH,MZ,N4,JP,N5,Ob,Oa,JF,Kj,NQ,NR,NS,NT,NU,NV,NW,NX,NY,Aa,Aj,add_int,sub_int,Ik,HV,IV,Jp,HG,HF,Hz,f]
    rw[<-List.replicate_succ'])
  obtain⟨xs,ρ',s1,f,_,u,g1⟩:=key;rw[CN]at u;subst u;have l:(pairD ds ds).length=ds.length:=by rw[r,Af]
  rw[l]at f;have A:fits ds.length=true:=Ko o;have E:Jy [.ref s1.length] (s1++[.lst (A3 ds.length<|.bl true)])=some (.bl true,s1++[.lst (A3 ds.length<|.bl true)]):=by unfold Jy;simp only[Il,IJ,Aa,iF,Aj];simp
  refine⟨s1++[.lst (A3 ds.length<|.bl true)],IG ?_,g1.trans<|Gr.app _ _⟩;show Ov (L6 2 Ov n) _ _=_;generalize L6 2 Ov n=g at f ⊢;unfold Ov;refine JL ?_;simp[Jf,Jn,Ia,Ji,JO,JH,JP,Aa,Aj,Ik,HV,IV,Jp,HG,HF,Hz,tyName,IX,Px,eq_int,Qx,Nu,f,A,E]
theorem TV:∀{n m:Nat}{d:D},plain n d->n<=m->plain m d
 |0,_,_,h,_=>h.elim
 |n+1,0,_,_,hm=>absurd hm<|by omega
 |n+1,m+1,.non,_,_=>trivial
 |n+1,m+1,.bl _,_,_=>trivial
 |n+1,m+1,.int _,_,_=>trivial
 |n+1,m+1,.str _,h,_=>h
 |n+1,m+1,.tup ds,h,hm=>⟨h.1,λd hd=>TV (h.2 d hd) (by omega)⟩
 |n+1,m+1,.ref _,h,_=>h
 |n+1,m+1,.kl _,h,_=>h
 |n+1,m+1,.fn _,h,_=>h
 |n+1,m+1,.er _ _ _,h,_=>h
theorem iG{f:D->Option PyData}:∀{ds:List D},(∀d∈ds,∃p,f d=some p/\Bb p p=true)->∃ps,KW f ds=some ps/\EX ps ps=true
 |[],_=>⟨[],rfl,by simp[EX]⟩
 |d::ds,h=>by
  obtain⟨p,e,q⟩:=h d Al;obtain⟨ps,a,l⟩:=iG λx n=>h x<|Ak _ n;refine⟨p::ps,?_,?_⟩
  ·rw[KW,e,Aa,a];rfl
  rw[EX,q,l];rfl
theorem YM:∀{n:Nat}{d:D}{st:Hf},plain n d->∃p,Jj n st d=some p/\Bb p p=true
 |0,_,_,h=>h.elim
 |n+1,.non,st,_=>⟨.none,by rw[Jj],by simp[Bb]⟩
 |n+1,.bl b,st,_=>⟨.bool b,by rw[Jj],by simp[Bb]⟩
 |n+1,.int i,st,_=>⟨.int i,by rw[Jj],by simp[Bb]⟩
 |n+1,.str x,st,h=>⟨.str x,Ot h,by simp[Bb]⟩
 |n+1,.tup ds,st,h=>by
  obtain⟨ps,e,q⟩:=iG (f:=Jj n st) λd hd=>YM (st:=st)<|h.2 d hd;refine⟨.tuple ps,?_,?_⟩
  ·rw[Jj,e];rfl
  rw[Bb];exact q
 |n+1,.ref _,_,h=>h.elim
 |n+1,.kl _,_,h=>h.elim
 |n+1,.fn _,_,h=>h.elim
 |n+1,.er _ _ _,_,h=>h.elim
def sQ{d:D}(h:plain n d)(c:n<=100):IS d d st=some (.bl false,st):=by obtain⟨p,e,q⟩:=YM (st:=st)<|TV h c;unfold IS;rw[e];simp[q]
def ziX{ts:List Tl}(h:ts.length<=10000):plain 3 (Ms ts):=by
 refine⟨by rw[Af];exact h,λd hd=>?_⟩;obtain⟨t,_,rfl⟩:=P3.mp hd;refine⟨by show 3<=10000;decide,λd hd=>?_⟩;simp[HC]at hd
 rcases hd with rfl|rfl|rfl<;>trivial
structure Iw.P(b:Iw):Prop where
 names:∀p∈b.ho.sticks,Ap p.1=true
 few:b.ho.sticks.length<=10000
 kinds:∀k∈b.ho.kinds,k.length=5/\∀x∈k,Ap x=true
 many:b.ho.kinds.length<=10000
 len:b.ts.length<64
def xF{c:Jt}(f:∀p∈c.sticks,Ap p.1=true)(g:c.sticks.length<=10000)(e:∀k∈c.kinds,k.length=5/\∀x∈k,Ap x=true)(i:c.kinds.length<=10000):plain 4 c.d:=by
 refine⟨by show 3<=10000;decide,λd hd=>?_⟩;simp at hd
 rcases hd with rfl|rfl|rfl
 ·trivial
 ·refine⟨by rw[Af];exact g,λd hd=>?_⟩;obtain⟨p,a,rfl⟩:=P3.mp hd;refine⟨by show 2<=10000;decide,λd hd=>?_⟩;simp at hd
  rcases hd with rfl|rfl
  ·exact f p a
  trivial
 refine⟨by rw[Af];exact i,λd hd=>?_⟩;obtain⟨k,hk,rfl⟩:=P3.mp hd;refine⟨by rw[Af,(e k hk).1];decide,λd hd=>?_⟩;obtain⟨x,h,rfl⟩:=P3.mp hd;exact(e k hk).2 x h
def Iw.P.plain{b:Iw}(h:b.P):plain 5 b.d:=by
 refine⟨by show 3<=10000;decide,λd hd=>?_⟩;simp at hd
 rcases hd with rfl|rfl|rfl
 ·exact xF h.names h.few h.kinds h.many
 ·refine⟨by show 2<=10000;decide,λd hd=>?_⟩;simp at hd
  rcases hd with rfl|rfl<;>trivial
 exact TV (ziX (by have:=h.len;omega))<|by decide
def Rg(b:Iw)(s:Hf):Hr b.d (.int 0) s=some (b.ho.d,s):=Kk (by decide) rfl
def UK(b:Iw)(s:Hf):Hr b.d (.int 1) s=some (.tup [.int b.w,.int b.h],s):=Kk (by decide) rfl
def Rf(b:Iw)(s:Hf):Hr b.d (.int 2) s=some (Ms b.ts,s):=Kk (by decide) rfl
def GP(w h:Int)(s:Hf):Hr (.tup [.int w,.int h]) (.int 0) s=some (.int w,s):=Kk (by decide) rfl
def GO(w h:Int)(s:Hf):Hr (.tup [.int w,.int h]) (.int 1) s=some (.int h,s):=Kk (by decide) rfl
end L2.MP.Hn
namespace L2.MP
open PySem PySem.Spec PyProof.Rows
end L2.MP
namespace L2.MP
open PySem
end L2.MP
namespace L2.MP.Hn
open PySem L2.MP
end L2.MP.Hn
namespace L2.MP
open PySem PySem.Spec PyProof.Rows
def zln(x:Sr)(o:Obj)(xs:Array GM):Meets (Builtin.«enumerate.__new__» ⟨[.type "enumerate",.ref x.ad],[]⟩) (λ_ R s=>s.heap.get? x.ad=some o/\x.is s.heap xs /\
   R (.ok<|.ret<|.ref (s.heap.push x.ob).objs.size) {s with heap:=(s.heap.push x.ob).push {cls:=.type "enumerate",data:=.fields #[.none,.bool false,.ref s.heap.objs.size,rawInt 0,.none,.none]} }):=
 .of_wp λprog w A R s h=>by
  obtain⟨v,g,d,y,os⟩:=s;obtain⟨l,E,h⟩:=h;have u:=sub_enumerate;have r:x.is (Shared.heap ⟨v,g,d,y,os⟩) xs:=E
  wp_walk using B6 l
  refine wpAny_stack_any λQ=>Ae ?_;split
  ·rename_i c _ _ _ _ _
   cases (c==Value.type "enumerate")
   ·wp_walk using B6 l,Sr.iter r
    exact⟨_,rfl,h⟩
   ·wp_walk using B6 l,Sr.iter r
    exact⟨_,rfl,h⟩
  ·wp_walk using B6 l,Sr.iter r
   exact⟨_,rfl,h⟩
variable {prog:Os}{w:Re}{A:Around}{E:Qqa}{s:Shared}{h:KF}{xs:Array GM}{x:Sr}
def Sr.is_get(q:x.is h xs):∃o,h.get? x.ad=some o:=by
 cases x with
 |l a=>obtain⟨o,g,_⟩:=q;exact⟨o,g⟩
 |t a=>obtain⟨o,g,_⟩:=q;exact⟨o,g⟩
def zlA{R:Qqa}(a:x.is s.heap xs)(k:∀h',IsEnum h' (s.heap.objs.size+1) s.heap.objs.size 0 .none->x.at_ h' s.heap.objs.size 0->(∀c u,s.heap.get? c=some u->h'.get? c=some u)->R (.ref<|s.heap.objs.size+1) {s with heap:=h'}):
  wpAny (IR prog w) A (call (.type "enumerate") [.ref x.ad]) R E s:=by
 obtain⟨o,g⟩:=Sr.is_get a;refine callType_new F.called_enumerate (by decide) (F.typeCall_enumerate_1 _) (F.newCall_enumerate_1 _) (λobj=>F.args_object_init_2 obj _) F.entry_enumerate_new (zln x o xs) ⟨g,a,?_⟩;have h:(s.heap.push x.ob).objs.size=s.heap.objs.size+1:=Bu ..;have f2:((s.heap.push x.ob).push {cls:=.type "enumerate",data:=.fields #[.none,.bool false,.ref s.heap.objs.size,rawInt 0,.none,.none]}).get? (s.heap.push x.ob).objs.size=some {cls:=.type "enumerate",data:=.fields #[.none,.bool false,.ref s.heap.objs.size,rawInt 0,.none,.none]}:=Aq _ rfl;have f1:((s.heap.push x.ob).push {cls:=.type "enumerate",data:=.fields #[.none,.bool false,.ref s.heap.objs.size,rawInt 0,.none,.none]}).get? s.heap.objs.size=some x.ob:=Ad _<|Aq _ (by cases x<;>rfl);show _/\_;rw[h]at f2 ⊢;exact⟨⟨_,f2,rfl⟩,k _ f2 (Sr.at_new f1) λc u q=>Ad _ (Ad _ q)⟩
def Sr.draws(f:A.handled=none)(it:Addr)(x:Sr)(c:x.ad≠it)(items:Array GM):Draws prog w A it [it,x.ad] items.size (λi v=>items[i]?=some v) (λi h=>x.at_ h it i/\x.is h items) where
 live:=λ_ _ q=>let ⟨o,_,g,_⟩:=Sr.at_get q.1;⟨o,g⟩
 frame:=λ_ _ _ q k=>⟨Sr.at_keep q.1 λo e=>k it (by simp) o e,Sr.is_keep q.2 λo e=>k x.ad (by simp) o e⟩
 item:=λi s Q E hi q k=>by refine Sr.next q.1 q.2 (v:=items[i]) (by simp[hi]) λl a b=>?_;exact k _ l s.toks (by simp[hi]) ⟨a,Sr.is_keep q.2 λo e=>b.extBut _ _ c e⟩ b
 done:=λs Q E q k=>Sr.stop f q.1 q.2 (by simp) k
def Sr.drawsEnd(a:A.handled=none)(it:Addr)(x:Sr)(items:Array GM)(n:Nat)(c:items[n]?=none):Draws prog w A it [it,x.ad] n (λ_ _=>True) (λj h=>j=n/\x.at_ h it n/\x.is h items) where
 live:=λ_ _ q=>let ⟨o,_,g,_⟩:=Sr.at_get q.2.1;⟨o,g⟩
 frame:=λ_ _ _ q k=>⟨q.1,Sr.at_keep q.2.1 λo e=>k it (by simp) o e,Sr.is_keep q.2.2 λo e=>k x.ad (by simp) o e⟩
 item:=λi s Q E hi q k=>absurd q.1 (Aw hi)
 done:=λs Q E q k=>Sr.stop a q.2.1 q.2.2 c k
def Itn(x:Sr):It:=⟨λi H=>∃xs v,x.sq H xs/\xs[i]?=some v,λi H r h=>∃p v,H p=none/\h=upd H p (.tup [.int (i:Nat),v])/\r=.ref p/\∀xs,x.sq H xs->xs[i]?=some v,λi H=>∃xs,x.sq H xs/\xs.length<=i⟩
variable {P:Os}{K:Ac}{elts:List PP}{pos:Pos}
def zjF{x1}(x:Sr)(it e:Addr)(a:e≠it):
  Turn P w K (.Tuple elts x1 pos) (Itn x) [e,it] e (λi h=>(∃old,IsEnum h e it (i:Nat) old)/\x.at_ h it i) where
 mem:=by simp
 obj:=λi h st b hb=>by
  obtain⟨⟨old,he⟩,hi⟩:=st;rcases KM.mp hb with rfl|hb
  ·exact⟨_,he,λv z=>by cases z⟩
  rw[On.mp hb];obtain⟨o,M,g,d⟩:=Sr.at_get hi;exact⟨o,g,λv z=>by rw[d]at z;cases z⟩
 keep:=λi h N st k=>by obtain⟨⟨old,he⟩,hi⟩:=st;exact⟨⟨old,k e (by simp) _ he⟩,Sr.at_keep hi λo q=>k it (by simp) o q⟩
 item:= by
  intro X m hw n B i qp s σ H E I hf st C;subst m hw n;obtain⟨xs,v,u,S⟩:=C;obtain⟨⟨old,he⟩,hi⟩:=st;obtain⟨l,rx,ix⟩:=Sr.sq_is I u;obtain⟨Y,T,Z⟩:=rx.get S;have fit:=(hf it<|by simp).1;have fe:=(hf e<|by simp).1;have F:i<l.toArray.size:=by have:=(KB.mp T).1;simpa using this
  refine wpAny_pyNext_enum_itemD (Sr.draws (A:=X.A.in1) (I.ok.hd B) it x (Sr.sq_ne u fit) l.toArray) he ⟨hi,ix⟩ F a (by
   simp only[Br,BG,or_false,not_or];exact⟨a,λz=>Sr.sq_ne u fe z.symm⟩) λy h1 f G J L t1 z1 k1=>?_
  have ey:y=Y:=by
   have:l[i]?=some y:=by simpa using G
   rw[T]at this;exact(As this).symm
  subst ey;refine⟨_,rfl,wpAny_letOwnedTupleGo_enum (s:={s with heap:=h1,toks:=f+1}) J λj Q r=>?_⟩;have k2:∀b o,b ∉ [e,it]->s.heap.get? b=some o->j.get? b=some o:=λb o hb q=>by have U:b≠e:=λz=>hb (by simp[z]);have n2:b≠it:=λz=>hb (by simp[z]);exact(r.2 b U).trans<|k1 b o U n2 q
  have W:e≠s.heap.objs.size:=Aw<|An he;have t2:j.get? s.heap.objs.size=some {cls:=.type "tuple",data:=.seq #[.int i f,y]}:=(r.2 _ W.symm).trans t1;have c:x.at_ j it (i+1):=Sr.at_keep L.1 λo q=>(r.2 it a.symm).trans q;refine⟨.ref s.heap.objs.size,upd H s.heap.objs.size<|.tup [.int (i:Nat),v],?_,rfl,⟨_,v,I.hok.fresh<|Ah _,rfl,rfl,λys G=>by rw[Sr.sq_inj G u];exact S⟩,⟨⟨_,by exact_mod_cast Q⟩,c⟩,λb hb=>?_⟩
  ·exact Inv.turnNew (s:=s) (h':=j) (t':=f+1) I hf k2 (Ah _) (λb hb ob q=>by
    rcases KM.mp hb with rfl|hb
    ·exact⟨_,Q⟩
    rw[On.mp hb];obtain⟨o,M,g,d⟩:=Sr.at_get c;exact⟨o,g⟩) ⟨by show 2<=sizeLine;decide,[.int i f,y],.cons ⟨_,rfl⟩<|.cons Z .nil,⟨_,t2,rfl,rfl,_,rfl⟩⟩
  ·rw[HR (λz=>?_)]
   ·exact(hf b hb).1
   ·rcases KM.mp hb with q|hb
    ·exact W<|q.symm.trans z
    have q:=On.mp hb;obtain⟨o,M,g,d⟩:=Sr.at_get hi;exact(Aw<|An g)<|q.symm.trans z
 done:=by intro X m hw n B i qp s σ H E I hf st C;subst m hw n;obtain⟨xs,u,hl⟩:=C;obtain⟨⟨old,he⟩,hi⟩:=st;obtain⟨l,rx,ix⟩:=Sr.sq_is I u;have l1:=rx.length;exact wpAny_pyNext_enum_endD (Sr.drawsEnd (A:=X.A.in1) (I.ok.hd B) it x l.toArray i (by simp;omega)) he ⟨rfl,hi,ix⟩ λN eb=>⟨rfl,Inv.turnAll (t':=s.toks) I hf λb o hb q=>eb b o (λz=>hb (by simp[z])) q⟩
 self:=λ_ _ _ _ _ st h=>by obtain⟨⟨old,he⟩,_⟩:=st;exact FJ he h
variable {X:Cx}{H:Hp}{io:List Addr}{m:ME}{st st':Hf}{a:PP}
def WY(x:D)(s:Hf):Option (Wk×Hf):=(Nu s x).map λ(a,f)=>(⟨pairs a,f⟩,s)
def Sy(m:ME):MI:=λρ st=>(m ρ st).bind λ(x,s1)=>WY x s1
def uX{x1}{M:Pos}{p:Pos}(N:Gl X "enumerate")(hm:X.mg "enumerate"=none)(T:SE X a m)(c:SL [a] X.env=[(false,UV a X.env)]:=by rfl):
  SI X (.Tuple elts x1 M) (.Call (.Name "enumerate" p) [a] [] pos) (Sy m):=by
 rintro qp s σ H R I ⟨ρ,st,io,W,st',E,S,e,k⟩;obtain⟨⟨x,s1⟩,U,e⟩:=Hu e;obtain⟨⟨as,f⟩,Y,e⟩:=ID e;cases e;refine Call_<|QB I N hm boot_enumerate<|BA (HA (Hg T Hk c pos qp s σ H (λg A=>∃ka,Ext io ka H A/\Hv X.K A (io++ka) st'/\Hh X.K A (io++ka) g [x]) I ⟨ρ,st,io,[x],st',E,S,RZ U rfl,λg H1 j n Q R1=>⟨j,n,Q,R1⟩⟩) ?_) c rfl;rintro us t1 ⟨g,H1,I1,Z,j,n,Q,R1⟩;obtain⟨v,rfl,Rx⟩:=R1.one;obtain⟨v',rfl,rv⟩:=Z.one;obtain⟨xx,rfl,⟨xs,hx⟩,z⟩:=XY Q Rx Y;cases rv;obtain⟨its,vx,ix⟩:=Sr.sq_is I1 hx;refine zlA ix λh' he hi kk=>FJ he ?_;refine⟨_,_,_,_,H1,rfl,I1.kept (t':=t1.toks) kk,zjF xx t1.heap.objs.size (t1.heap.objs.size+1)<|Nat.succ_ne_self _,⟨⟨_,he⟩,hi⟩,λb hb=>?_,?_⟩
 ·have hle:t1.heap.objs.size<=b:=by
   rcases KM.mp hb with q|hb
   ·rw[q];exact Bj _
   rw[On.mp hb];exact Ah _
  exact I1.fpOk hle<|I1.hok.fresh hle
 ·refine k _ H1 j n Q ?_;refine⟨λi d H2 w s3 hd y l c=>?_,λH2 w s3 y l c=>?_,λH2 w s3 i hi y l c=>?_⟩
  ·obtain⟨h,u,rx⟩:=z H2 w s3 y l c;obtain⟨dx,g1,rfl⟩:=zmv hd;obtain⟨B,C,ru⟩:=rx.get g1;refine⟨⟨h,B,u,C⟩,λr A yl=>?_⟩;obtain⟨q,u2,hq,rfl,rfl,yu⟩:=yl;have F:=yu h u;rw[C]at F;cases F;obtain⟨G,J⟩:=Tv (o:=.tup [.int (i:Nat),B]) l hq;rw[Am]at J;refine⟨G,J,⟨q,_,rfl,KQ,?_⟩⟩;have L:=ru.ext l G;rw[Am]at L;exact Hh.cons rfl<|Hh.cons L Hh.nil
  ·obtain⟨h,u,rx⟩:=z H2 w s3 y l c;exact⟨h,u,by show h.length<=(pairs as).length;rw[pairs_len,rx.length];exact Ah _⟩
  obtain⟨h,u,rx⟩:=z H2 w s3 y l c;have hi:(pairs as).length<=i:=hi;rw[pairs_len]at hi;exact⟨h,u,by rw[rx.length];exact hi⟩
@[simp] theorem qU{ρ:HX}:Sy m ρ st=(m ρ st).bind λp=>WY p.1 p.2:=rfl
variable {ma mb mc:ME}{b c:PP}{g g':G2}{σ:L2.St}{Q:VK}{op op':CmpOp}
def Jm(g g':G2)(ma mb mc:ME):ME:=λρ st=>(ma ρ st).bind λ(x,s1)=>(mb ρ s1).bind λ(y,s2)=>(g x y s2).bind λ(z,s3)=>match z with
 |.bl q=>if q=true then(mc ρ s3).bind λ(w,s4)=>g' y w s4 else some (.bl false,s3)
 |_=>none
def jJ(h:tE K (Jm g g' ma mb mc) σ H Q):Xs (Us K g) (Us K g') (tE K ma) (tE K mb) (tE K mc) σ H Q:=by
 obtain⟨ρ,st,io,d,st',E,S,e,k⟩:=h;obtain⟨⟨x,s1⟩,f,e⟩:=Hu e;obtain⟨⟨y,s2⟩,i,e⟩:=Hu e;obtain⟨⟨z,s3⟩,j,e⟩:=Hu e;refine⟨ρ,st,io,x,s1,E,S,f,λv1 H1 a o c R1=>?_⟩;refine⟨ρ,s1,io++a,y,s2,E.ext S o,c,i,λv2 H2 r s l R2=>?_⟩;refine⟨x,y,s2,(io++a)++r,z,s3,R1.ext c s,R2,l,j,λI J v u m n=>?_⟩;have A:=((k.on c o).on l s).on m u;dsimp only at e;split at e
 ·rename_i q;refine⟨q,n,?_⟩
  cases q with
  |true=>
   rw[if_pos rfl]at e ⊢;obtain⟨⟨w,s4⟩,B,C⟩:=Hu e;refine⟨ρ,s3,((io++a)++r)++v,w,s4,((E.ext S o).ext c s).ext l u,m,B,λv4 L F W X G=>?_⟩;exact⟨y,w,s4,(((io++a)++r)++v)++F,d,st',(R2.ext l u).ext m W,G,X,C,A.on X W⟩
  |false=>
   rw[if_neg Bd]at e ⊢;cases e;exact Bh.now A m rfl
 ·cases e
def TY(f:Jv X (Pv op) g)(e:Jv X (Pv op') g')(i:SE X a ma)(j:SE X b mb)(n:SE X c mc)(hm:lastMarks [op,op'] [b,c]=false:=by with_unfolding_all rfl):
  SE X (.Compare a [op,op'] [b,c] pos) (Jm g g' ma mb mc):=PE.imp (zE f e i j n hm) λ_ _ _ h=>jJ h
def TX(f:Jv X (Pv op) g)(e:Jv X (Pv op') g')(i:SE X a ma)(j:SE X b mb)(n:SE X c mc)(hm:lastMarks [op,op'] [b,c]=false:=by with_unfolding_all rfl):
  SB X (.Compare a [op,op'] [b,c] pos) (mT<|Jm g g' ma mb mc):=PT.imp (zO f e i j n hm) λ_ _ _ h=>jJ (T7 h)
def Te(mk e:ME):ME:=λρ st=>(mk ρ<|st++[.dk []]).bind λ(k,s1)=>(e ρ s1).bind λ(v,s2)=>match keyOf k,s2[st.length]? with
 |some q,some (.dk [])=>some (.ref st.length,s2.set st.length (.dk [(q,v)]))
 |_,_=>none
def yI{mk f:ME}(hk:SE X a mk)(i:SE X b f):SE X (.Dict [some a] [b] pos) (Te mk f):=
 PE.imp (wJ (zL hk i wQ) rfl rfl (by simp)<|by simp) <| by
  rintro σ H Q ⟨ρ,st,io,d,st',E,S,e,k⟩;obtain⟨⟨x,s1⟩,A,e⟩:=Hu e;obtain⟨⟨y,s2⟩,W,e⟩:=Hu e;intro p j;obtain⟨g,h⟩:=Tg (o:=.dK []) (ob:=.dk []) S j λm T e=>⟨[],e,.nil⟩;refine⟨ρ,_,_,x,s1,E.ext S g,h,A,λv1 H1 n s l R1=>?_⟩;refine⟨ρ,s1,_,y,s2,(E.ext S g).ext h s,l,W,λv2 H2 B v S2 R2=>?_⟩;dsimp only at e;split at e
  ·rename_i q eq1 eq2;cases e;have hlen:io.length=st.length:=S.len;have c:((io++[p])++n++B)[st.length]?=some p:=by
    rw[Ao,Ao,AU (by omega),hlen,CP];rfl
   obtain⟨C,w,r⟩:=S2.ob st.length p _ c eq2;cases r;have F:=T5 (R1.ext l v) eq1;subst F;refine⟨w,[(q,v2)],rfl,by simp,?_⟩;obtain⟨G,I⟩:=RI (o:=.dK [(q,v2)]) (ob:=.dk [(q,y)]) S2 c eq2 (λo u z=>by rw[w]at z;cases z) λm T J=>⟨_,J,(KR.put (κ:=Key) (ps:=[]) (kvs:=[]) .nil q (Rep.mono T R2):KR Key X.K m _ [(q,v2)] [(q,y)])⟩
   have L:=((k.on h g).on l s).on S2 v;exact L _ _ [] G I ⟨p,rfl,by rw[Am];exact c⟩
  ·cases e
def zhL:typeLookup (.type "list") "keys"=pure none:=by rw[Em,Di];kernel_rfl
def VY:entryFor table "dict.update.loop"=some Builtin.«dict.update.loop»:=entryFor_of_fast<|by kernel_rfl
def PH:plainId "dict.update.loop"=true:=by decide +kernel
section
variable {a:Addr}
def gB{Q:Option GM->Shared->Prop}{k:Nat}{f:Array (Option GM)}(i:s.heap.get? a=some {cls:=.type "list",dict:=none,data:=.seq xs k,slots:=f})(n:A.handled=none)(h:∀h' j,(∀b u,s.heap.get? b=some u->h'.get? b=some u)->Q none {s with heap:=h',toks:=j}):wpAny (IR prog w) A (getAttr? (.ref a) "keys") Q E s:=by
 obtain⟨o,g,d,j,os⟩:=s;have m:∀c,(⟨o,g,d,c,os⟩:Shared).TypeIs (.ref a) "list":=λ_=>⟨_,i,rfl⟩;have f1:=Ft;have r:=F.slot_list_getattribute.lookup;have f4:=F.slot_list_getattribute.bind<|.ref a;have v:=am_list_getattr_none;unfold getAttr? getAttrBy? getAttrBy
 repeat (any_goals (first|assumption|exact m _|((with_reducible show wpAny _ _ (call (Cc "list.__getattribute__") _ _) _ _ _);refine Dp F.slot_list_getattribute (m _) am_entry_list_getattribute (F.args_list_getattribute_2 _ _) (meets_getattribute_miss_list a xs k f _ _ zhL<|by decide +kernel) ⟨i,n,λh' c e l=>?_⟩)|wp_step))
 obtain⟨t',x,he⟩:=l.there;show wpAny _ _ (getattributeRaised _ _ _ _ _ _ _) _ _ _;unfold getattributeRaised
 repeat (any_goals (first|assumption|wp_step))
 exact h _ _ l.keeps
def Qb(prog:Os)(w:Re)(h:KF)(v:GM)(e:Key×GM):Prop:=∃p a,v=.ref p/\IsTup h p #[a,e.2]/\(J7 prog w).is e.1 a=true
def Qb.keep{h':KF}{v:GM}{e:Key×GM}(q:Qb prog w h v e)(k:∀b o,v=.ref b->h.get? b=some o->h'.get? b=some o):Qb prog w h' v e:=by obtain⟨p,a,rfl,⟨o,g,c⟩,i⟩:=q;exact⟨p,a,rfl,⟨o,k p o rfl g,c⟩,i⟩
def kA{p:Addr}{Q:List GM->Shared->Prop}(e:IsTup s.heap p xs)(h:Q xs.toList s):wpAny (IR prog w) A (Builtin.Dict.pairItems<|.ref p) Q E s:=by
 obtain⟨a,g,d,l,os⟩:=s;obtain⟨o,m,c,n,r⟩:=e;have u:(⟨a,g,d,l,os⟩:Shared).TypeIs (.ref p) "tuple":=⟨_,m,c⟩;unfold Builtin.Dict.pairItems seqItems?
 repeat (any_goals (first|assumption|wp_step))
 rw[r];exact Ae<|Ae h
end
variable {its:List GM}{kvs:List (Key×GM)}
section
variable {a:Addr}
def zjK{K:Type}[DecidableEq K](kvs:List (K×GM))(k:K)(v:GM):(stored kvs k v).length<=kvs.length+1:=by unfold stored;split<;>simp
theorem Y0{K:Type}[DecidableEq K]:∀(more kvs:List (K×GM)),(merged kvs more).length<=kvs.length+more.length
 |[],kvs=>by show kvs.length<=kvs.length+0;omega
 |p::r,kvs=>by have e:=Y0 r<|stored kvs p.1 p.2;have a:=zjK kvs p.1 p.2;show(merged (stored kvs p.1 p.2) r).length<=_;rw[AB];omega
def mM{R:Result->Shared->Prop}{D I l:Addr}{h0:KF}(hh:A.in1.handled=none)(hl:its.length=kvs.length)(hz:kvs.length<=sizeLine)(f:D≠I)(B:l≠D)(C:l≠I):
  ∀(k i:Nat) (s:Shared),kvs.length-i=k->i<=kvs.length->s.heap.IsListIter I l i->s.heap.IsList l its.toArray->s.heap.DictOf (J7 prog w) D (merged []<|kvs.take i) ->
  (∀(j:Nat) (v:GM) (n:Key×GM),its[j]?=some v->kvs[j]?=some n->Qb prog w s.heap v n/\v≠.ref D/\v≠.ref I)->(∀b o,b≠D->b≠I->h0.get? b=some o->s.heap.get? b=some o) ->
  (∀h' tk,h'.DictOf (J7 prog w) D (merged [] kvs)->(∀b o,b≠D->b≠I->h0.get? b=some o->h'.get? b=some o)->R (.ok<|.ret .none) {s with heap:=h',toks:=tk}) ->
  codeAny (IR prog w) A (.builtin "dict.update.loop" ⟨[.ref D,.ref I,rawInt i,.none],[]⟩) R s:=by
 intro k
 induction k with
 |zero=>
  intro i s hk hi hit a hd Q h0k W;have X:i=kvs.length:=by omega
  subst X;refine Dv VY ?_;rw[CC PH _];show wpAny _ A.in1 (pyNext (.ref I) >>= _) _ _ s;refine Ab<|Dg hh hit a (by simp[hl]) λh' h=>?_;show wpAny _ A.in1 (Builtin.Dict.addKeywords D [] >>= λ_=>ret .none) _ _ _;refine Ab<|Ae<|Ae ?_;rw[B4]at hd;refine W h' s.toks ?_ λb o F y e=>h b o y (h0k b o F y e);obtain⟨o,G,E,J,r⟩:=hd;exact⟨o,G,E,h D o f J,r⟩
 |succ k ih=>
  intro i s hk hi hit a hd Q h0k W;have L:i<kvs.length:=by omega
  have m:i<its.length:=by omega
  refine Dv VY ?_;rw[CC PH _];show wpAny _ A.in1 (pyNext (.ref I) >>= _) _ _ s;have hv:its[i]?=some its[i]:=Av m;have H:kvs[i]?=some kvs[i]:=Av L;refine Ab<|C5 (x:=its[i]) hit a (by simp[m]) λh' K h=>?_;obtain⟨pa,nD,nI⟩:=Q i _ _ hv H;have M:Qb prog w h' its[i] kvs[i]:=pa.keep λb o e g=>h.extBut b o (λz=>nI (by rw[e,z])) g;obtain⟨p,kx,E,tp,ik⟩:=M;have N:h'.DictOf (J7 prog w) D (merged []<|kvs.take i):=by obtain⟨o,G,E,J,r⟩:=hd;exact⟨o,G,E,h.extBut D o f J,r⟩
  have hlen:(merged []<|kvs.take i).length<=sizeLine:=by have:=Y0 (kvs.take i) [];rw[AN,A1]at this;omega
  rw[E];refine Ab<|Bf<|Ab<|wpAny_tryCatch<|kA (s:={s with heap:=h'}) tp ?_;refine Bf<|Fe (s:={s with heap:=h'}) ik N (λy hd2 S=>?_) hlen;have c:∀b o,b≠D->h'.get? b=some o->y.get? b=some o:=λb o hb e=>S.extBut b o hb e;have e1:stored (merged []<|kvs.take i) kvs[i].1 kvs[i].2=merged [] (kvs.take<|i+1):=(merged_take_succ [] kvs i _ H).symm;refine Ae ⟨C9 PH _,?_⟩;refine ih (i+1) {s with heap:=y,toks:=s.toks+1} (by omega) (by omega) ?_ ?_ (by rw[<-e1];exact hd2) (λj v n F T=>?_) (λb o b1 Y e=>c b o b1 (h.extBut b o Y<|h0k b o b1 Y e)) λh3 U d3 k3=>W h3 U d3 k3
  ·exact Fs K λu e=>c I u (A7 f) e
  ·exact EL (EL a λu e=>h.extBut l u C e) λu e=>c l u B e
  obtain⟨q,Z,q2⟩:=Q j v n F T;exact⟨(q.keep λb o e g=>h.extBut b o (λz=>q2 (by rw[e,z])) g).keep λb o e g=>c b o (λz=>Z (by rw[e,z])) g,Z,q2⟩
def zha{l:Addr}{Q:Qqa}(J:A.handled=none)(f:PlainL s.heap l its.toArray)(S:its.length=kvs.length)(T:kvs.length<=sizeLine)(U:∀(j:Nat) (v:GM) (i:Key×GM),its[j]?=some v->kvs[j]?=some i->Qb prog w s.heap v i)(h:∀h' G,h'.DictOf (J7 prog w) s.heap.objs.size (merged [] kvs)->(∀b o,s.heap.get? b=some o->h'.get? b=some o)->Q (.ref s.heap.objs.size) {s with heap:=h',toks:=G}):
  wpAny (IR prog w) A (call (.type "dict") [.ref l]) Q E s:=by
 refine callType_codes (Q₁:=λobj s₁=>obj=.ref s.heap.objs.size/\s₁={s with heap:=s.heap.push Qqd}) F.kt_called_dict (F.kt_typeCall_dict_1 _) F.entry_dict_init (kt_code_dict_new _ ⟨rfl,rfl⟩) ?_;rintro obj s₁ ⟨rfl,rfl⟩;have a:(s.heap.push Qqd).DictOf (J7 prog w) s.heap.objs.size []:=Eg s.heap;have k1:∀b o,s.heap.get? b=some o->(s.heap.push Qqd).get? b=some o:=λb o e=>Ad _ e;have u:=f.keeps k1;obtain⟨⟨cl,di,da,sl⟩,n,g1,L,M,N⟩:=id u;simp only at L M N;subst L M N;have hlt:∀b o,s.heap.get? b=some o->b<s.heap.objs.size:=λb o e=>An e;have K:l<s.heap.objs.size:=by obtain⟨o,_,g,_⟩:=f;exact hlt l o g
 refine⟨a.typeIs,F.args_dict_init_2 _ _,?_⟩;unfold Builtin.«dict.__init__»;refine Ab ?_;unfold Builtin.Dict.selfAndRest;refine Ab<|Dh a.typeIs ?_;show wpAny _ _ (pure (s.heap.objs.size,[Ax l])) _ _ _;refine Ae ?_;show wpAny _ _ (Builtin.Dict.updateFrom "dict.__init__" s.heap.objs.size (.ref l) [] .none) _ _ _;unfold Builtin.Dict.updateFrom;refine Ab (Cv (show Shared.TypeIs {s with heap:=s.heap.push Qqd} (.ref l) "list" from⟨_,g1,rfl⟩) ?_);rw[if_pos (by decide)];refine Ab<|gB g1 J λc H X=>?_;have y:=u.keeps X;have hd2:c.DictOf (J7 prog w) s.heap.objs.size []:=by obtain⟨o,z,B,W,r⟩:=a;exact⟨o,z,B,X _ o W,r⟩
 have m:s.heap.objs.size<c.objs.size:=by obtain⟨o,z,B,W,r⟩:=hd2;exact An W
 simp only[DL,if_true];refine Ab<|CY ?_;refine Ab<|Sr.iter (x:=.l l) (s:={s with heap:=c,toks:=H}) (xs:=its.toArray) y.isList ?_;have C:∀b o,c.get? b=some o->(c.push<|Sr.ob<|.l l).get? b=some o:=λb o e=>Ad _ e;refine Ae ⟨C9 PH _,?_⟩;have Y:s.heap.objs.size≠c.objs.size:=Aw m;have Z:l≠s.heap.objs.size:=Aw K;have n3:l≠c.objs.size:=Aw<|Cu K m;show codeAny (IR prog w) A.in1 (.builtin "dict.update.loop" ⟨[.ref s.heap.objs.size,.ref c.objs.size,rawInt (0:Nat),.none],[]⟩) _ {s with heap:=c.push (Sr.ob<|.l l),toks:=H};refine mM (A:=A.in1) (h0:=s.heap) (l:=l) (its:=its) (kvs:=kvs) (D:=s.heap.objs.size) (I:=c.objs.size) J S T Y Z n3 kvs.length 0 {s with heap:=c.push (Sr.ob<|.l l),toks:=H} rfl (Bo _) ?_ (y.keeps C).isList ?_ (λj v i e1 e2=>?_) (λb o _ _ e=>C b o (X b o<|k1 b o e)) λh' G d' k'=>?_
 ·exact Sr.at_new (x:=.l l)<|Aq _ rfl
 ·obtain⟨o,z,B,W,r⟩:=hd2;exact⟨o,z,B,C _ o W,r⟩
 ·have q:=U j v i e1 e2;have nn:∀b,v=.ref b->b<s.heap.objs.size:=λb e=>by
   obtain⟨p,kx,rfl,⟨o,g,_⟩,_⟩:=q;cases e;exact hlt _ o g
  refine⟨q.keep λb o _ g=>C b o (X b o<|k1 b o g),λe=>?_,λe=>?_⟩
  ·exact absurd (nn _ e)<|A4 _
  exact absurd (nn _ e)<|Nat.not_lt_of_lt m
 exact⟨rfl,h h' G d' λb o e=>k' b o (Aw<|hlt b o e) (Aw<|Cu (hlt b o e) m) e⟩
end
def Uu:D->Option (Key×D)
 |.tup [k,v]=>(keyOf k).map λq=>(q,v)
 |_=>none
def Rq:List D->Option (List<|Key×D)
 |[]=>some []
 |d::r=>(Uu d).bind λt=>(Rq r).map λts=>t::ts
def OV(kvs more:List (Key×D)):List (Key×D):=more.foldl (λacc a=>putD acc a.1 a.2) kvs
section
variable {qp:List (Addr×Obj)}
def fK:∀{more:List (Key×V)} {i:List (Key×D)} {kvs:List (Key×V)} {f:List (Key×D)},KR Key K H io more i->KR Key K H io kvs f->KR Key K H io (N7 kvs more) (OV f i):=by
 intro more i kvs f r;unfold KR at r
 induction r generalizing kvs f with
 |nil=>intro q;exact q
 |@cons p q g l h t a=>
  intro c;have e:KR Key K H io (putK kvs p.1 p.2) (putD f q.1 q.2):=by rw[<-h.1];exact KR.put c p.1 h.2
  exact a e
theorem Xm(I:Inv X qp σ H s):∀{z:List V}{ds:List D} {f:List (Key×D)} {its:List GM},Hh X.K H io z ds->Rq ds=some f->Vals z its ->
  ∃(i:List (Key×V)) (kvs:List (Key×GM)),KR Key X.K H io i f/\KV i kvs/\its.length=kvs.length/\kvs.length=f.length/\∀(j:Nat) (v:GM) (n:Key×GM),its[j]?=some v->kvs[j]?=some n->Qb X.prog X.w s.heap v n
 |_,[],f,_,h,e,r=>by
  cases e;cases (show _=[] from h)
  cases r;exact⟨[],[],.nil,.nil,rfl,rfl,λj v n h=>by simp at h⟩
 |_,d::ds,f,_,h,e,r=>by
  obtain⟨y,z,rfl,B,C⟩:=h;obtain⟨t,a,e⟩:=Hu e;obtain⟨U,c,e⟩:=ID e;subst e;cases r with
  |@cons _ u _ us l g=>
   obtain⟨i,kvs,a1,a2,m,o,x⟩:=Xm I C c g;unfold Uu at a;split at a
   ·rename_i k v;obtain⟨q,eq1,a⟩:=ID a;subst a;obtain⟨p,Y,rfl,A,rs⟩:=B;obtain⟨v1,Z,rfl,E,rs⟩:=rs;obtain⟨v2,Q,rfl,W,rs⟩:=rs
    cases (show Q=[] from rs)
    have F:=T5 E eq1;subst F;cases l;obtain⟨ia,G,J,_⟩:=I.tuple<|Jg.of (K:=X.K) A
    cases G with
    |cons L t1=>
     cases t1 with
     |cons M N=>
      cases N;rename_i S T;refine⟨(q,v2)::i,(q,T)::kvs,.cons ⟨rfl,W⟩ a1,.cons ⟨rfl,M⟩ a2,by rw[AB,AB,m],by rw[AB,AB,o],λj v n a c=>?_⟩
      cases j with
      |zero=>
       cases a;cases c;exact⟨p,S,rfl,J,Qp L⟩
      |succ j=>exact x j v n a c
   ·cases a
def U2:GN
 |[.ref n],st=>(Il st n).bind λds=>(Rq ds).bind λe=>if fits e.length=true then some (.ref st.length,st++[.dk (OV [] e)])else none
 |_,_=>none
def zlB(f:X.calm=true):Kz X (.type "dict") U2:=by
 rintro qp s σ H xs us Q I r ⟨ds,st,io,d,st',R,S,e,k⟩;unfold U2 at e;split at e
 ·rename_i n;obtain⟨zs,l,e⟩:=Hu e;obtain⟨g,m,e⟩:=Hu e;obtain⟨hf,e⟩:=JJ e;cases e;obtain⟨v,rfl,p,rfl,w⟩:=R.one;obtain⟨u,rfl,x⟩:=r.one;cases x;obtain⟨G,y,A⟩:=LX S w l;obtain⟨its,E,pl,J⟩:=I.list y;obtain⟨c,kvs,a1,a2,K,W,i⟩:=Xm I A m E;have h:kvs.length<=sizeLine:=by
   rw[W];exact of_decide_eq_true hf
  refine zha (I.ok.hd f) pl K h i λL j q z=>?_;have B:c.length=kvs.length:=BP a2;have hm:(N7 [] c).length<=sizeLine:=by have:=V5 c [];rw[A1]at this;omega
  have hd:(s.heap.objs.size==sysModules)=false:=beq_eq_false_iff_ne.mpr<|A7<|Aw I.big;refine⟨.ref s.heap.objs.size,_,I.laid (a:=s.heap.objs.size) (o:=.dK (N7 [] c)) (t':=j) z (Ah _)<|Vh hm hd (a2.merge .nil) q,rfl,?_⟩;obtain⟨C,F⟩:=Tg (o:=.dK (N7 [] c)) (ob:=.dk (OV [] g)) S (I.hok.fresh<|Ah _) λM T e=>⟨_,e,fK (KR.mono T a1) .nil⟩
  exact k _ _ [s.heap.objs.size] C F ⟨s.heap.objs.size,rfl,by rw[<-S.len];exact getElem?_len io _⟩
 ·cases e
end
def WH(n:Nat)(f:Nat->Option V):It:=⟨λi _=>i<n,λi H v a=>a=H/\f i=some v,λi _=>n<=i⟩
def zkZ:List String:=["enumerate","zip","dict_itemiterator","dict_reverseitemiterator","odict_iterator","itertools.zip_longest","itertools.pairwise"]
variable {tg:PP}
def zjB(it:Addr)(n:Nat)(f:Nat->Option V){R:Nat->GM->Prop}{T:Nat->KF->Prop}(W:∀A:Around,A.handled=none->Walks P w A it [it] [it] n R T)(J:∀i v,R i v->∃x,f i=some x/\RelV x v) (q:∀i h,T i h->∃o nm B,h.get? it=some o/\o.cls=.type nm/\o.data=.fields B/\zkZ.contains nm=false)(j:∀(A:Around) (i:Nat) (s:Shared) (Q:Qqa) (E:Qqa),T i s.heap->Q (.ref it) s->wpAny (IR P w) A (pyIter<|.ref it) Q E s):
  Turn P w K tg (WH n f) [it] it (λi h=>i<=n/\T i h) where
 mem:=by simp
 obj:=λi h st b a=>by
  have e:b=it:=by simpa using a
  subst e;obtain⟨o,nm,B,e,c,d,_⟩:=q i h st.2;exact⟨o,e,λv z=>by rw[d]at z;cases z⟩
 keep:=λi h g st k=>⟨st.1,(W {} rfl).frame i h g st.2 k⟩
 item:=by intro X m hw r u i qp s σ H E I hf st l;subst m hw r;obtain⟨f0,f1,f2,y,f4,C⟩:=hf it (by simp);refine(W X.A<|I.ok.hd u).item i s _ _ l st.2 λv g F L st' G=>?_;obtain⟨x,M,rx⟩:=J i v L;have N:Inv X qp σ H {s with heap:=g,toks:=F}:=I.turned (λb o a e=>G b o (by simpa using a) e) f0 f1 y f4 C;obtain⟨o,nm,B,e,c,d,S⟩:=q (i+1) g st';exact⟨_,rfl,U5 (s:={s with heap:=g,toks:=F}) e c d S ⟨x,H,N,rx,⟨rfl,M⟩,⟨l,st'⟩,λb a=>(hf b a).1⟩⟩
 done:=by intro X m hw r u i qp s σ H E I hf st l;subst m hw r;obtain⟨f0,f1,f2,y,f4,C⟩:=hf it (by simp);have e:i=n:=Nat.le_antisymm st.1 l;subst e;exact(W X.A<|I.ok.hd u).done s _ _ st.2 λg F G=>⟨rfl,I.turned (λb o a e=>G b o (by simpa using a) e) f0 f1 y f4 C⟩
 self:=λA i s Q E st h=>j A i s Q E st.2 h
def pX{H:Hp}{io:List Addr}{ds:List D}{n:Nat}{f:Nat->Option V}(e:n=ds.length)(hf:∀i d,ds[i]?=some d->∃v,f i=some v/\∀H io,Rep K H io v d):MQ K H io ⟨ds,[]⟩ (WH n f) where
 go:=λi d H1 c s hd g a h=>by have hi:i<ds.length:=(KB.mp hd).1;refine⟨by show i<n;omega,λx o y=>?_⟩;obtain⟨rfl,y⟩:=y;obtain⟨v,l,m⟩:=hf i d hd;rw[l]at y;cases y;exact⟨Ext.refl,a,m _ _⟩
 stop:=λH1 c s g a h=>by show n<=ds.length;omega
 stop':=λH1 c s i hi g a h=>by show n<=i;have hi:ds.length<=i:=hi;omega
variable {l e:PP}{es:List PP}{mm:MA}{mt:MT}{ms:MS}{body:List SZ}
def signs(z:Str):List D:=z.cps.toList.map λc=>D.str ⟨#[c]⟩
def Rr(z:Str)(i:Nat):Option V:=z.cps[i]?.map λc=>V.str ⟨#[c]⟩
def zlV(f:A.handled=none)(I:Addr)(x:Str)(t:Tok):Walks P w A I [I] [I] x.cps.size (SignAt x) (λi h=>h.IsStrIter I (strIterType x) x t i):=by
 unfold strIterType;cases x.cps.all (· < 128)
 ·exact Walks.strWide f I x t
 exact Walks.strAscii f I x t
def zn1(it:Addr)(x:Str)(t:Tok):Turn P w K tg (WH x.cps.size<|Rr x) [it] it (λi h=>i<=x.cps.size/\h.IsStrIter it (strIterType x) x t i):=
 zjB it x.cps.size (Rr x) (λA a=>zlV a it x t) (λi v ⟨c,u,g,l⟩=>⟨.str ⟨#[c]⟩,by unfold Rr;rw[g];rfl,u,l⟩)
  (λi h ⟨o,e,c,d⟩=>⟨o,_,_,e,c,d,by unfold strIterType;split<;>decide⟩) λA i s Q E st h=>by
   unfold strIterType at st;split at st
   ·exact wpAny_pyIter_striter_ascii st h
   exact wpAny_pyIter_striter_wide st h
def Z2(f:TE):TI:=λσ H R=>f σ H λx H1=>∃z,x=.str z/\R (WH z.cps.size<|Rr z) H1
def pD{f:TE}(i:PE X l f):PI X tg l (Z2 f):=by
 intro qp s σ H R I h;refine HA (i qp s σ H _ I h) ?_;rintro v s1 ⟨x,H1,I1,a,c⟩;obtain⟨z,e,q⟩:=c;subst e;obtain⟨t,rfl⟩:=a;refine wpAny_pyIter_strU ?_;refine⟨s1.heap.objs.size,[s1.heap.objs.size],_,_,H1,rfl,I1.kept (t':=s1.toks) λb o e=>Ad _ e,zn1 _ z t,⟨Bo _,_,Aq _ rfl,rfl,rfl⟩,λb g=>?_,q⟩;have e:b=s1.heap.objs.size:=by simpa using g
 subst e;exact I1.fpOk (Ah _)<|I1.hok.fresh<|Ah _
def signs_get{z:Str}{i:Nat}{d:D}(h:(signs z)[i]?=some d):∃v,Rr z i=some v/\∀H io,Rep K H io v d:=by unfold signs at h;rw[AJ]at h;obtain⟨c,a,e⟩:=ID h;subst e;refine⟨.str ⟨#[c]⟩,?_,λH io=>rfl⟩;unfold Rr;rw[Cy]at a;rw[a];rfl
def zmb(z:Str):z.cps.size=(signs z).length:=by unfold signs;rw[Af,AA]
def kQ(m:ME):MI:=λρ st=>(m ρ st).bind λ(d,s)=>match d with
 |.str z=>some (⟨signs z,[]⟩,s)
 |_=>none
def rH(f:SE X l m):SI X tg l (kQ m):=PI.imp (pD f) <| by
 rintro σ H R ⟨ρ,st,io,W,st',E,S,e,k⟩;obtain⟨⟨d,s1⟩,a,e⟩:=Hu e;dsimp only at e;split at e
 ·rename_i z;cases e;refine⟨ρ,st,io,_,_,E,S,a,λv H1 c g o r=>?_⟩;exact⟨z,r,k _ H1 c g o<|pX (zmb z) λi d h=>signs_get h⟩
 ·cases e
def Ju(m:ME):MI:=λρ st=>(m ρ st).bind λ(d,s)=>Od (Ru d s)<|match d with|.str z=>some (⟨signs z,[]⟩,s)|_=>none
def Mn(f:SE X l m):SI X tg l (Ju m):=by
 rintro qp s σ H R I ⟨ρ,st,io,W,st',E,S,e0,k⟩;obtain⟨⟨d,s1⟩,a,e0⟩:=Hu e0;rcases PB e0 with e0|e0
 ·exact cL f qp s σ H R I ⟨ρ,st,io,W,st',E,S,by unfold mW;rw[a];exact e0,k⟩
 exact rH f qp s σ H R I ⟨ρ,st,io,W,st',E,S,by unfold kQ;rw[a];exact e0,k⟩
def J3(c:MT)(m:MS):Nat->MS
 |0=>λ_ _=>none
 |n+1=>λρ st=>(c ρ st).bind λ(b,s)=>if b=true then(m ρ s).bind λ(f,s2)=>match f with
   |.nx ρ2=>J3 c m n ρ2 s2
   |.ct ρ2=>J3 c m n ρ2 s2
   |.bk ρ2=>some (.nx ρ2,s2)
   |.rt d=>some (.rt d,s2)
  else some (.nx ρ,s)
def MX(g:D->List D->Hf->Option (D×Hf))(m:ME)(mm:MA):ME:=λρ st=>(m ρ st).bind λ(x,s1)=>match x with
 |.str _=>(mm ρ s1).bind λ(xs,s2)=>g x xs s2
 |_=>none
def zkF{g:D->List D->Hf->Option (D×Hf)}(h:tE K (MX g m mm) σ H Q):kM K "str" (Sh K g) (tE K m) (tA K mm) σ H Q:=by
 obtain⟨ρ,st,io,d,st',E,S,e,k⟩:=h;obtain⟨⟨x,s1⟩,s,e⟩:=Hu e;cases x with
 |str z=>
  obtain⟨⟨xs,s2⟩,u,e⟩:=Hu e;refine⟨ρ,st,io,_,s1,E,S,s,λv1 H1 c l a R1=>⟨by cases (show v1=.str z from R1);rfl,ρ,s1,io++c,xs,s2,E.ext S l,a,u,λw H2 v o r R2=>?_⟩⟩;exact⟨_,xs,s2,(io++c)++v,d,st',R1.ext a o,R2,r,e,(k.on a l).on r o⟩
 |_=>cases e
def RR{name:Str}{id:String}{g:D->List D->Hf->Option (D×Hf)}{o:PP}{apos cpos:Pos}(slot:Slot "str" name id)(q:typeOf (.builtin id)=pure (.type "method_descriptor"))(hm:Ss X id (Sh X.K g))(z:SE X o m)(B:SA X (e::es) mm)(i:attributeBase o name X.env (UV o X.env)=UV o X.env:=by rfl)(n:((backTo cpos<|SL (e::es) X.env).all (λx=>!x.1)&&(backToKw cpos<|keywordEach [] X.env).all (λx=>x.1.isSome)
   &&decide ((e::es).length+([]:List Keyword).length+(if([]:List Keyword).isEmpty then 0 else 1)<30))=true:=by rfl)
  (j:(apos.endLine==cpos.line)=true:=by rfl) (C:Qqb X.env e es:=by rfl) (f:Qqc cpos es X.env:=by rfl):
  SE X (.Call (.Attribute o name apos) (e::es) [] cpos) (MX g m mm):=
 PE.imp (WQ Ez slot q hm z B i n j C f) λσ H Q h=>zkF h
def kN:D->Option Int->Option Int->Hf->Option (D×Hf):=λx lo hi st=>match x with
 |.kl ds=>some (.ref st.length,st++[.lst (cutD ds lo hi)])
 |_=>none
def Nt:D->Option Int->Option Int->Hf->Option (D×Hf):=λx lo hi st=>Od (Pa x lo hi st)<|kN x lo hi st
def Ij(m:ME)(l h:MO):ME:=λρ st=>(m ρ st).bind λ(x,s1)=>(l ρ s1).bind λ(lo,s2)=>(h ρ s2).bind λ(hi,s3)=>Nt x lo hi s3
def Na{lo hi:Option PP}{f i:MO}{p2:Pos}(he:SE X e m)(j:SO X lo f)(n:SO X hi i):SE X (.Subscript e (.Slice lo hi none p2) pos) (Ij m f i):=by
 rintro qp s σ H Q I ⟨ρ,st,io,d,st',E,S,e0,k⟩;obtain⟨⟨x,s1⟩,u,e0⟩:=Hu e0;obtain⟨⟨c,s2⟩,v,e0⟩:=Hu e0;obtain⟨⟨g,s3⟩,w,e0⟩:=Hu e0;rcases PB e0 with e0|e0
 ·exact VQ he j n qp s σ H Q I ⟨ρ,st,io,d,st',E,S,by simp only[LD,u,v,w,Aa];exact e0,k⟩
 ·refine VF cM he j n qp s σ H Q I ?_;refine⟨ρ,st,io,x,s1,E,S,u,λv1 H1 y h a R1=>⟨ρ,s1,io++y,c,s2,E.ext S h,a,v,λH2 W l o=>⟨ρ,s2,(io++y)++W,g,s3,(E.ext S h).ext a l,o,w,λG J A K=>?_⟩⟩⟩;have z:=(R1.ext a l).ext o A;have B:=((k.on a h).on o l).on K A
  cases x with
  |kl ds=>
   cases e0;obtain⟨p,xs,rfl,C,r⟩:=z;exact⟨p,xs,rfl,C.sq,λq F=>B.lst K (Xv r _ _) F⟩
  |_=>cases e0
def cD:G2
 |.str i,.str j,st=>some (.bl (!(!(Builtin.Str.occurrences j i 0 j.length 1).isEmpty)),st)
 |_,_,_=>none
def zkn:Jv X (Pv .NotIn) cD:=by
 rintro qp s σ H x y v u Q I rx a ⟨c,g,st,io,d,st',h,l,S,e,k⟩;cases c with
 |str i=>
  cases g with
  |str j=>cases e;exact zhC qp s σ H x y v u Q I rx a ⟨i,j,h,l,k.now S rfl⟩
  |_=>cases e
 |_=>cases e
def QE:G2:=JM QD cD
def zmi(j:X.A.units+100<cLine)(f:SE X a ma)(i:SE X b mb)(hm:behindInMarks .NotIn b=false:=by rfl):SB X (.Compare a [.NotIn] [b] pos) (mT<|mB QE ma mb):=Xd (gN j f i hm) (IK zkn f i hm)
end L2.MP
namespace PySem.F
end PySem.F
namespace PySem
open Builtin
end PySem
namespace L2.MP
open PySem PySem.Spec PyProof.Rows
variable {st:Hf}{m ma mb:ME}{mm:MA}
section
variable {ρ ρ1:HX}{s1:Hf}{n o:ME}{ms mq:MS}{mt mu:MT}{d:D}{ml mh:MO}
@[simp] theorem WO:Ju m ρ st=(m ρ st).bind λp=>Od (Ru p.1 p.2) (match p.1 with|.str z=>some (⟨signs z,[]⟩,p.2)|_=>none):=rfl
theorem RM{g:D->List D->Hf->Option (D×Hf)}:MX g m mm ρ st=(m ρ st).bind λp=>match p.1 with
 |.str _=>(mm ρ p.2).bind λq=>g p.1 q.1 q.2
 |_=>none:=rfl
@[simp] theorem RC:Ij m ml mh ρ st=(m ρ st).bind λp=>(ml ρ p.2).bind λq=>(mh ρ q.2).bind λr=>Nt p.1 q.1 r.1 r.2:=rfl
end
def zgY:typeLookup (.type "tuple") "keys"=pure none:=by rw[Em,Di];kernel_rfl
structure Rl(prog:Os)(w:Re)(A:Around)(D I:Addr)(n:Nat)(key val:Nat->GM)(T:Nat->KF->Prop):Prop where
 keep:∀i h h',T i h->(∀b o,b≠I->h.get? b=some o->h'.get? b=some o)->T i h'
 step:∀i (s:Shared) (Q:Unit->Shared->Prop) (E:Qqa),i<n->T i s.heap->(∀h' tk,T (i+1) h'->By D s.heap h'->Q () {s with heap:=h',toks:=tk})->wpAny (IR prog w) A (dictSet D (key i) (val i)) Q E s
variable {n i:Nat}{prog:Os}{w:Re}{A:Around}{E:Qqa}{s:Shared}{a it I:Addr}{xs:Array GM}{x:Sr}{its:List GM}{key:Nat->GM}{T:Nat->KF->Prop}{h:KF}
def zkX{Q:Option GM->Shared->Prop}{k:Nat}{c:Array (Option GM)}(f:s.heap.get? a=some {cls:=.type "tuple",dict:=none,data:=.seq xs k,slots:=c})(q:A.handled=none)(h:∀h' j,(∀b u,s.heap.get? b=some u->h'.get? b=some u)->Q none {s with heap:=h',toks:=j}):wpAny (IR prog w) A (getAttr? (.ref a) "keys") Q E s:=by
 obtain⟨n,g,d,j,os⟩:=s;have m:∀i,(⟨n,g,d,i,os⟩:Shared).TypeIs (.ref a) "tuple":=λ_=>⟨_,f,rfl⟩;have f1:=Ft;have o:=F.slot_tuple_getattribute.lookup;have f4:=F.slot_tuple_getattribute.bind<|.ref a;have r:=am_tuple_getattr_none;unfold getAttr? getAttrBy? getAttrBy
 repeat (any_goals (first|assumption|exact m _|((with_reducible show wpAny _ _ (call (Cc "tuple.__getattribute__") _ _) _ _ _);refine Dp F.slot_tuple_getattribute (m _) am_entry_tuple_getattribute (F.args_tuple_getattribute_2 _ _) (meets_getattribute_miss_tuple a xs k c _ _ zgY<|by decide +kernel) ⟨f,q,λh' i e l=>?_⟩)|wp_step))
 obtain⟨t',v,he⟩:=l.there;show wpAny _ _ (getattributeRaised _ _ _ _ _ _ _) _ _ _;unfold getattributeRaised
 repeat (any_goals (first|assumption|wp_step))
 exact h _ _ l.keeps
def Sr.nextN{v:GM}{R:Option GM->Shared->Prop}(hit:x.at_ s.heap it i)(h:x.is s.heap xs)(c:xs[i]?=some v)(k:∀h',x.at_ h' it (i+1)->By it s.heap h'->R (some v) {s with heap:=h'}):
  wpAny (IR prog w) A (pyNext<|.ref it) R E s:=by
 cases x with
 |l a=>exact C5 hit h c k
 |t a=>exact Eb (show s.heap.IsTupleIter it a i from hit) (show s.heap.IsTuple a xs from h) c k
def Sr.stopN{R:Option GM->Shared->Prop}(c:A.handled=none)(hit:x.at_ s.heap it i)(h:x.is s.heap xs)(e:xs[i]?=none)(k:∀h',EB it s.heap h'->R none {s with heap:=h'}):
  wpAny (IR prog w) A (pyNext<|.ref it) R E s:=by
 cases x with
 |l a=>exact Dg c hit h e k
 |t a=>exact Ep c (show s.heap.IsTupleIter it a i from hit) (show s.heap.IsTuple a xs from h) e k
def lE{R:Result->Shared->Prop}{D:Addr}{val:Nat->GM}{h0:KF}(F:Rl prog w A.in1 D I n key val T)(U:A.in1.handled=none)(X:its.length=n)(f:D≠I)(z:x.ad≠D)(B:x.ad≠I):
  ∀(k i:Nat) (s:Shared),n-i=k->i<=n->x.at_ s.heap I i->x.is s.heap its.toArray->T i s.heap ->
  (∀(j:Nat) (v:GM),its[j]?=some v->∃p,v=.ref p/\IsTup s.heap p #[key j,val j]/\p≠D/\p≠I)->(∀b o,b≠D->b≠I->h0.get? b=some o->s.heap.get? b=some o) ->
  (∀h' Y,T n h'->(∀b o,b≠D->b≠I->h0.get? b=some o->h'.get? b=some o)->R (.ok<|.ret .none) {s with heap:=h',toks:=Y}) ->
  codeAny (IR prog w) A (.builtin "dict.update.loop" ⟨[.ref D,.ref I,rawInt i,.none],[]⟩) R s:=by
 intro k
 induction k with
 |zero=>
  intro i s hk hi hit a hd E h0k hR;have Q:i=n:=by omega
  subst Q;refine Dv VY ?_;rw[CC PH _];show wpAny _ A.in1 (pyNext (.ref I) >>= _) _ _ s;refine Ab<|Sr.stopN U hit a (by simp[X]) λh' hx=>?_;show wpAny _ A.in1 (Builtin.Dict.addKeywords D [] >>= λ_=>ret .none) _ _ _;exact Ab<|Ae<|Ae<|hR h' s.toks (F.keep _ _ _ hd λb o m e=>hx b o m e) λb o W r e=>hx b o r (h0k b o W r e)
 |succ k Z=>
  intro i s hk hi hit a hd E h0k hR;have C:i<n:=by omega
  have l:i<its.length:=by omega
  refine Dv VY ?_;rw[CC PH _];show wpAny _ A.in1 (pyNext (.ref I) >>= _) _ _ s;have hv:its[i]?=some its[i]:=Av l;refine Ab<|Sr.nextN (v:=its[i]) hit a (by simp[l]) λh' y hx=>?_;obtain⟨p,ep,tp,nD,nI⟩:=E i _ hv;have G:IsTup h' p #[key i,val i]:=by obtain⟨o,g,c⟩:=tp;exact⟨o,hx.extBut p o nI g,c⟩
  have H:T i h':=F.keep _ _ _ hd λb o m e=>hx.extBut b o m e;rw[ep];refine Ab<|Bf<|Ab<|wpAny_tryCatch<|kA (s:={s with heap:=h'}) G ?_;refine Bf<|F.step i {s with heap:=h'} _ _ C H λr J hd2 K=>?_;have h:∀b o,b≠D->h'.get? b=some o->r.get? b=some o:=λb o m e=>K.extBut b o m e;refine Ae ⟨C9 PH _,?_⟩;refine Z (i+1) {s with heap:=r,toks:=J} (by omega) (by omega) ?_ ?_ hd2 (λj v W=>?_) (λb o b1 M e=>h b o b1 (hx.extBut b o M<|h0k b o b1 M e)) λh3 L d3 k3=>hR h3 L d3 k3
  ·exact Sr.at_keep y λu e=>h I u (A7 f) e
  ·exact Sr.is_keep (Sr.is_keep a λu e=>hx.extBut _ u B e) λu e=>h _ u z e
  obtain⟨q,e,⟨o,g,c⟩,N,S⟩:=E j v W;exact⟨q,e,⟨o,h q o N<|hx.extBut q o S g,c⟩,N,S⟩
def Sr.pl(h:KF)(xs:Array GM):Sr->Prop
 |.l a=>PlainL h a xs
 |.t a=>MY h a xs
def Sr.pl_is(q:x.pl h xs):x.is h xs:=by
 cases x with
 |l a=>exact PlainL.isList q
 |t a=>exact MY.t q
def Sr.pl_keep{h':KF}(q:x.pl h xs)(k:∀b u,h.get? b=some u->h'.get? b=some u):x.pl h' xs:=by
 cases x with
 |l a=>exact PlainL.keeps q k
 |t a=>exact MY.keeps q k
def zhb{val:Nat->GM}{Q:Qqa}(K:A.handled=none)(q:x.pl s.heap its.toArray)(M:its.length=n)(N:∀I:Addr,s.heap.objs.size<I->Rl prog w A.in1.in1 s.heap.objs.size I n key val T) (h0:T 0 (s.heap.push Qqd))(S:∀(j:Nat) (v:GM),its[j]?=some v->∃p,v=.ref p/\IsTup s.heap p #[key j,val j])(h:∀h' L,T n h'->(∀b o,s.heap.get? b=some o->h'.get? b=some o)->Q (.ref s.heap.objs.size) {s with heap:=h',toks:=L}):
  wpAny (IR prog w) A (call (.type "dict") [.ref x.ad]) Q E s:=by
 refine callType_codes (Q₁:=λobj s₁=>obj=.ref s.heap.objs.size/\s₁={s with heap:=s.heap.push Qqd}) F.kt_called_dict (F.kt_typeCall_dict_1 _) F.entry_dict_init (kt_code_dict_new _ ⟨rfl,rfl⟩) ?_;rintro obj s₁ ⟨rfl,rfl⟩;have f:Shared.TypeIs {s with heap:=s.heap.push Qqd} (.ref s.heap.objs.size) "dict":=⟨_,Aq _ rfl,rfl⟩
 have k1:∀b o,s.heap.get? b=some o->(s.heap.push Qqd).get? b=some o:=λb o e=>Ad _ e;have m:=Sr.pl_keep q k1;have hlt:∀b o,s.heap.get? b=some o->b<s.heap.objs.size:=λb o e=>An e;have z:x.ad<s.heap.objs.size:=by obtain⟨o,g⟩:=Sr.is_get<|Sr.pl_is q;exact hlt _ o g
 refine⟨f,F.args_dict_init_2 _ _,?_⟩;unfold Builtin.«dict.__init__»;refine Ab ?_;unfold Builtin.Dict.selfAndRest;refine Ab<|Dh f ?_;show wpAny _ _ (pure (s.heap.objs.size,[Ax x.ad])) _ _ _;refine Ae ?_;show wpAny _ _ (Builtin.Dict.updateFrom "dict.__init__" s.heap.objs.size (.ref x.ad) [] .none) _ _ _;unfold Builtin.Dict.updateFrom;have rest:∀(y:KF) (i:Nat),(∀b u,(s.heap.push Qqd).get? b=some u->y.get? b=some u) ->
   codeAny (IR prog w) A.in1 (.builtin "dict.update.loop" ⟨[.ref s.heap.objs.size,.ref y.objs.size,rawInt (0:Nat),.none],[]⟩) (wants (λr s₂=>r=.none/\Q (.ref s.heap.objs.size) s₂) E) {s with heap:=y.push x.ob,toks:=i}:=by
  intro y i k2;have B:=Sr.pl_keep m k2;have W:s.heap.objs.size<y.objs.size:=by obtain⟨o,U,_⟩:=f;exact An<|k2 _ o U
  have J:∀b o,y.get? b=some o->(y.push x.ob).get? b=some o:=λb o e=>Ad _ e;have X:s.heap.objs.size≠y.objs.size:=Aw W;have Y:x.ad≠s.heap.objs.size:=Aw z;have Z:x.ad≠y.objs.size:=Aw<|Cu z W;have FF:=N y.objs.size W;refine lE (A:=A.in1) (h0:=s.heap) (x:=x) (its:=its) FF K M X Y Z n 0 {s with heap:=y.push x.ob,toks:=i} rfl (Bo _) ?_ (Sr.pl_is<|Sr.pl_keep B J) ?_ (λj v e1=>?_) (λb o _ _ e=>J b o (k2 b o<|k1 b o e)) λh' L d' k'=>?_
  ·exact Sr.at_new<|Aq _ (by cases x<;>rfl)
  ·exact FF.keep _ _ _ h0 λb o _ e=>J b o (k2 b o e)
  ·obtain⟨p,e,⟨o,g,c⟩⟩:=S j v e1;exact⟨p,e,⟨o,J p o<|k2 p o<|k1 p o g,c⟩,Aw<|hlt p o g,Aw<|Cu (hlt p o g) W⟩
  exact⟨rfl,h h' L d' λb o e=>k' b o (Aw<|hlt b o e) (Aw<|Cu (hlt b o e) W) e⟩
 cases x with
 |l a=>
  obtain⟨⟨cl,di,da,sl⟩,nn,g1,C,G,H⟩:=id m;simp only at C G H;subst C G H;refine Ab (Cv (show Shared.TypeIs {s with heap:=s.heap.push Qqd} (.ref a) "list" from⟨_,g1,rfl⟩) ?_);rw[if_pos (by decide)];refine Ab<|gB g1 K λy i k2=>?_;simp only[DL,if_true];refine Ab<|CY ?_;refine Ab<|Sr.iter (x:=.l a) (s:={s with heap:=y,toks:=i}) (xs:=its.toArray) (Sr.pl_is (x:=.l a)<|Sr.pl_keep (x:=.l a) m k2) ?_;exact Ae ⟨C9 PH _,rest y i k2⟩
 |t a=>
  obtain⟨⟨cl,di,da,sl⟩,g1,C,G,nn,H⟩:=id m;simp only at C G H;subst C G H;refine Ab (Cv (show Shared.TypeIs {s with heap:=s.heap.push Qqd} (.ref a) "tuple" from⟨_,g1,rfl⟩) ?_);rw[if_pos (by decide)];refine Ab<|zkX g1 K λy i k2=>?_;simp only[DL,if_true];refine Ab<|CY ?_;refine Ab<|Sr.iter (x:=.t a) (s:={s with heap:=y,toks:=i}) (xs:=its.toArray) (Sr.pl_is (x:=.t a)<|Sr.pl_keep (x:=.t a) m k2) ?_;exact Ae ⟨C9 PH _,rest y i k2⟩
def FK(prog:Os)(w:Re)(D:Addr)(kvs:List (Key×GM))(i:Nat)(h:KF):Prop:=h.DictOf (J7 prog w) D<|merged []<|kvs.take i
def Se(xs:List GM)(i:Nat):GM:=match xs[i]? with|some x=>x|none=>.none
def Uj(xs:List (Key×GM))(i:Nat):GM:=match xs[i]? with|some x=>x.2|none=>.none
def lB{D:Addr}{kvs:List (Key×GM)}{c:List GM}(f:D≠I)(q:kvs.length<=sizeLine)(hk:∀(j:Nat) (g:Key×GM),kvs[j]?=some g->(J7 prog w).is g.1 (Se c j)=true):Rl prog w A D I kvs.length (Se c) (Uj kvs) (FK prog w D kvs) where
 keep:=λi h l ⟨o,m,n,u,r⟩ k=>⟨o,m,n,k D o f u,r⟩
 step:=λi s Q E hi hd h=>by
  have e:kvs[i]?=some kvs[i]:=Av hi;have ev:Uj kvs i=kvs[i].2:=by unfold Uj;rw[e]
  rw[ev];have v:(merged []<|kvs.take i).length<=sizeLine:=by have:=Y0 (kvs.take i) [];rw[AN,A1]at this;omega
  refine Fe (hk i _ e) hd (λl a x=>h l _ ?_ x) v;have y:stored (merged []<|kvs.take i) kvs[i].1 kvs[i].2=merged [] (kvs.take<|i+1):=(merged_take_succ [] kvs i _ e).symm;unfold FK;rw[<-y];exact a
theorem gJ{h:KF}:∀{its:List GM} {kvs:List (Key×GM)},its.length=kvs.length->(∀(j:Nat) (v:GM) (c:Key×GM),its[j]?=some v->kvs[j]?=some c->Qb prog w h v c) ->
  ∃f:List GM,∀(j:Nat) (v:GM) (c:Key×GM),its[j]?=some v->kvs[j]?=some c->∃p,v=.ref p/\IsTup h p #[Se f j,c.2]/\(J7 prog w).is c.1 (Se f j)=true
 |[],kvs,_,_=>⟨[],λj v c e=>by simp at e⟩
 |v::its,[],e,_=>by cases e
 |v::its,c::kvs,e,g=>by
  obtain⟨f,hk⟩:=gJ (its:=its) (kvs:=kvs) (by simpa using e) λj u q a i=>g (j+1) u q a i;obtain⟨p,l,a,i,m⟩:=g 0 v c rfl rfl;refine⟨l::f,λj u q f1 f2=>?_⟩
  cases j with
  |zero=>
   cases f1;cases f2;exact⟨p,a,i,m⟩
  |succ j=>exact hk j u q f1 f2
variable {X:Cx}{K:Ac}{H:Hp}{io:List Addr}{st':Hf}
section
variable {qp:List (Addr×Obj)} {σ:L2.St}
def U3:GN
 |[.tup ds],st=>(Rq ds).bind λc=>if fits c.length=true then some (.ref st.length,st++[.dk (OV [] c)])else none
 |_,_=>none
def zje(g:X.calm=true):Kz X (.type "dict") U3:=by
 rintro qp s σ H xs us Q I r ⟨ds,st,io,d,st',R,S,e,k⟩;unfold U3 at e;split at e
 ·rename_i zs;obtain⟨A,z,e⟩:=Hu e;obtain⟨hf,e⟩:=JJ e;cases e;obtain⟨v,rfl,p,B,rfl,C,F⟩:=R.one;obtain⟨u,rfl,G⟩:=r.one;cases G;obtain⟨hz,its,J,pl⟩:=(show Kw X.prog X.w H s.heap p (.tup B) from I.hok p _ C)
  obtain⟨l,h,a1,a2,n,L,M⟩:=Xm I F z J;have E:h.length<=sizeLine:=by rw[L];exact of_decide_eq_true hf
  obtain⟨m,hk⟩:=gJ n M;have K:∀(j:Nat) (y:Key×GM),h[j]?=some y->(J7 X.prog X.w).is y.1 (Se m j)=true:=λj y e=>by
   have W:j<its.length:=by rw[n];exact(KB.mp e).1
   obtain⟨_,_,_,q⟩:=hk j _ y (Av W) e;exact q
  refine zhb (x:=.t p) (T:=FK X.prog X.w s.heap.objs.size h) (key:=Se m) (val:=Uj h) (I.ok.hd g) pl n (λi hi=>lB (Aw hi) E K) (Eg s.heap) (λj v e=>?_) λf N c U=>?_
  ·have W:j<h.length:=by
    rw[<-n];exact(KB.mp e).1
   have ex:h[j]?=some h[j]:=Av W;obtain⟨Y,Z,tp,_⟩:=hk j v _ e ex;refine⟨Y,Z,?_⟩;unfold Uj;rw[ex];exact tp
  ·have c:f.DictOf (J7 X.prog X.w) s.heap.objs.size (merged [] h):=by
    have:FK X.prog X.w s.heap.objs.size h h.length f:=c;unfold FK at this
    rwa [B4]at this
   have hlV:l.length=h.length:=BP a2;have hm:(N7 [] l).length<=sizeLine:=by have:=V5 l [];rw[A1]at this;omega
   have hd:(s.heap.objs.size==sysModules)=false:=beq_eq_false_iff_ne.mpr<|A7<|Aw I.big;refine⟨.ref s.heap.objs.size,_,I.laid (a:=s.heap.objs.size) (o:=.dK (N7 [] l)) (t':=N) U (Ah _)<|Vh hm hd (a2.merge .nil) c,rfl,?_⟩;obtain⟨E',S'⟩:=Tg (o:=.dK (N7 [] l)) (ob:=.dk (OV [] A)) S (I.hok.fresh<|Ah _) λH' T e=>⟨_,e,fK (KR.mono T a1) .nil⟩
   exact k _ _ [s.heap.objs.size] E' S' ⟨s.heap.objs.size,rfl,by rw[<-S.len];exact getElem?_len io _⟩
 ·cases e
def U1:GN:=Oe U2 U3
def zjf(c:X.calm=true):Kz X (.type "dict") U1:=VA (zlB c)<|zje c
end
variable {pos:Pos}
section
variable {a b c e:PP}{es:List PP}{mc:ME}
def wI{x:Str}{z:Int}{t:Tok}(f:Gl X x)(hm:X.mg x=some (.int z t))(hd:(x==("__debug__":Str))=false:=by decide):SE X (.Name x pos) (mK<|.int z):=
 PE.imp (XQ f hm (v:=.int z) ⟨t,rfl⟩ hd) <| by
  rintro σ H Q ⟨ρ,st,io,d,st',E,S,e,k⟩;cases e;exact k.now S rfl
def XT(i:Int):Bool:=decide (i.natAbs.log2<1920)
def J1:GN
 |[.str x],st=>some (.str x,st)
 |[.int i],st=>if XT i=true then some (.str (toString i),st)else none
 |_,_=>none
def QO:Kz X (.type "str") J1:=by
 rintro qp s σ H xs us Q I r ⟨ds,st,io,d,st',R,S,e,k⟩;unfold J1 at e;split at e
 ·rename_i x;cases e;obtain⟨v,rfl,a⟩:=R.one
  cases (show v=.str x from a)
  obtain⟨u,rfl,t,rfl⟩:=r.one;exact PySem.P.str_of_str ⟨.str x,H,I,⟨t,rfl⟩,k.now S rfl⟩
 ·rename_i i;obtain⟨hf,e⟩:=JJ e;cases e;obtain⟨v,rfl,a⟩:=R.one
  cases (show v=.int i from a)
  exact zhV qp s σ H _ us Q I r ⟨i,rfl,of_decide_eq_true hf,k.now S rfl⟩
 ·cases e
end
end L2.MP
namespace L2.MP
variable {prog:Os}{w:Re}{A:Around}{E Q:Qqa}{s:Shared}
section
open PySem PySem.Spec PyProof.Rows PySem.Builtin PySem.Builtin.Str
variable {z y:Str}{t u:Tok}
def yT(a:(y.length==0)=false)(c:z.length+2<=sizeLine)(k:∀(ps:List (Str×Tok)) (n:Nat),ps.map (·.1)=Txt.split z y->Q (.ref s.heap.objs.size) {s with heap:=s.heap.push {cls:=.type "list",data:=.seq (strValues ps).toArray},toks:=n}):
  wpAny (IR prog w) A (call (.builtin "str.split") [.str z t,.str y u]) Q E s:=by
 have v:(partsBetween z (occurrences z y 0 z.length<|z.length+1) y.length).length<=sizeLine:=by have:=EM z y 0 z.length<|z.length+1;rw[DB];omega
 by_cases l:(decide (z.length<y.length) || decide (strKind z<strKind y))=true
 ·refine Dp F.slot_str_split (Do _ _ _) F.entry_str_split (F.args_str_split_2 _ _) (meets_str_split_cannot_occur z y t u l) ?_;exact k [(z,t)] s.toks (if_pos l).symm
 ·have o:=Bool.eq_false_iff.mpr l
  by_cases r:(occurrences z y 0 z.length<|z.length+1).isEmpty=true
  ·refine Dp F.slot_str_split (Do _ _ _) F.entry_str_split (F.args_str_split_2 _ _) (meets_str_split_not_found z y t u o a r) ?_;exact k [(z,t)] s.toks ((if_neg l).trans<|if_pos r).symm
  refine Dp F.slot_str_split (Do _ _ _) F.entry_str_split (F.args_str_split_2 _ _) (meets_str_split_sep z y t u o a (Bool.eq_false_iff.mpr r) (by omega) v) ?_;have q:=k (numbered s.toks<|partsBetween z (occurrences z y 0 z.length<|z.length+1) y.length) (s.toks+(partsBetween z (occurrences z y 0 z.length<|z.length+1) y.length).length)<|(numbered_texts _ _).trans ((if_neg l).trans<|if_neg r).symm;rw[<-strsFrom_eq]at q;exact q
theorem cN:∀ps:List (Str×Tok),Vals (ps.map λp=>V.str p.1) (strValues ps)
 |[]=>.nil
 |p::ps=>.cons ⟨p.2,rfl⟩<|cN ps
end
variable {X:Cx}{K:Ac}{H:Hp}{io:List Addr}{st st':Hf}{a b c e:PP}{es:List PP}{ma mb mc m:ME}{mm:MA}{pos:Pos}
section
open PySem PySem.Spec PyProof.Rows
def OW:D->List D->Hf->Option (D×Hf):=λx xs st=>match x,xs with
 |.str z,[.str y]=>if(!(y.length==0)&&fits (z.length+2)&&fits (Txt.split z y).length)=true then some (.ref st.length,st++[.lst ((Txt.split z y).map D.str)])else none
 |_,_=>none
def VN:Ss X "str.split" (Sh X.K OW):=by
 rintro qp s σ H x xs v us Q I rx rs ⟨g,ds,st,io,d,st',l,Rs,S,e,k⟩;unfold OW at e;split at e
 ·rename_i z y;obtain⟨hf,e⟩:=JJ e;cases e;rw[Ag,Ag]at hf;have m:(y.length==0)=false:=by simpa using hf.1.1
  have o:z.length+2<=sizeLine:=of_decide_eq_true hf.1.2;have r:(Txt.split z y).length<=sizeLine:=of_decide_eq_true hf.2;cases (show x=.str z from l)
  obtain⟨w,rfl,A⟩:=Rs.one;cases (show w=.str y from A)
  obtain⟨t,rfl⟩:=rx;obtain⟨u,rfl,E⟩:=Vals.one rs;obtain⟨t',rfl⟩:=E;refine yT m o λa n W=>?_;have f:(a.map λp=>V.str p.1)=(Txt.split z y).map V.str:=by rw[<-W,BO];rfl
  have c:=cN a;rw[f]at c;refine⟨.ref s.heap.objs.size,upd H s.heap.objs.size<|.lst<|(Txt.split z y).map V.str,I.lnew (t':=n) c (by rw[Af];exact r),rfl,?_⟩;exact k.lst S (iN _)<|I.hok.fresh<|Ah _
 ·cases e
end
open PySem
variable {ρ:HX}
theorem RB{c:MT}{n:ME}:MD c m n ρ st=(c ρ st).bind λp=>if p.1=true then m ρ p.2 else n ρ p.2:=rfl
variable {W:Wk}{g:MG}{d:D}{ds:List D}{ρ1:HX}{s1 s2:Hf}
def dR{m:MS}{r:D}(f:walked W st=true)(h:g d ρ st=some (ρ1,s1))(i:m ρ1 s1=some (.rt r,s2)):Ld W g m (d::ds) ρ st=some (.rt r,s2):=by unfold Ld;rw[if_pos f,h];simp only[Aa,i]
def dQ{m:MS}{ρ2:HX}(f:walked W st=true)(h:g d ρ st=some (ρ1,s1))(i:m ρ1 s1=some (.nx ρ2,s2)):Ld W g m (d::ds) ρ st=Ld W g m ds ρ2 s2:=by
 conv=>lhs;unfold Ld
 rw[if_pos f,h];simp only[Aa,i]
def gR(f:Str):f++Ej=f:=by cases f;show Gz (_++#[])=_;simp
open PySem.Spec PyProof.Rows
def Sv:GN
 |[.str x],st=>if decide (x.length<=640)=true then(C1 x).map λn=>(.int n,st)else none
 |_,_=>none
def zlz:Kz X (.type "int") Sv:=by
 rintro qp s σ H xs us Q I r ⟨ds,st,io,d,st',R,S,e,k⟩;unfold Sv at e;split at e
 ·rename_i x;obtain⟨hf,e⟩:=JJ e;obtain⟨n,a,e⟩:=ID e;cases e;obtain⟨v,rfl,c⟩:=R.one
  cases (show v=.str x from c)
  obtain⟨u,rfl,t,rfl⟩:=r.one;exact PySem.W.KIN.call_text a (of_decide_eq_true hf) ⟨.int n,H,I.tok _,⟨_,rfl⟩,k.now S rfl⟩
 ·cases e
def MJ:GN:=Oe HF Sv
def gY:Kz X (.type "int") MJ:=VA T3 zlz
def Oq:D->List D->Hf->Option (D×Hf):=λx xs st=>match x,xs with
 |.str z,[.str y]=>if fits z.length=true then some (.str (Txt.stripChars z y),st)else none
 |_,_=>none
def gI:Ss X "str.strip" (Sh X.K Oq):=by
 rintro qp s σ H x xs v us Q I rx rs ⟨l,ds,st,io,d,st',a,Rs,S,e,k⟩;unfold Oq at e;split at e
 ·rename_i z y;obtain⟨hf,e⟩:=JJ e;cases e
  cases (show x=.str z from a)
  obtain⟨w,rfl,c⟩:=Rs.one;cases (show w=.str y from c)
  obtain⟨t,rfl⟩:=rx;obtain⟨u,rfl,g⟩:=Vals.one rs;obtain⟨t',rfl⟩:=g;exact PySem.SC.stripChars (λt' n=>⟨.str _,H,I.tok _,⟨t',rfl⟩,k.now S rfl⟩)<|of_decide_eq_true hf
 ·cases e
@[irreducible] def I0 (X:Cx) (s:List SZ) (m:MS):Prop:=LI X s m
@[irreducible] def JS (X:Cx) (s:SZ) (m:MS):Prop:=SS X s m
@[irreducible] def JA (X:Cx) (es:List PP) (m:MA):Prop:=SA X es m
variable {body:List SZ}{ms:MS}
section
variable {st1 st2:SZ}{rest orelse:List SZ}{mt mu:MT}{mq mr:MS}{mg:MG}{mi:MI}
def I0.out(h:I0 X body ms):LI X body ms:=by unfold I0 at h;exact h
def I0.mk(h:LI X body ms):I0 X body ms:=by unfold I0;exact h
def JS.out(h:JS X st1 ms):SS X st1 ms:=by unfold JS at h;exact h
def JS.mk(h:SS X st1 ms):JS X st1 ms:=by unfold JS;exact h
def JA.out(h:JA X es mm):SA X es mm:=by unfold JA at h;exact h
def JA.mk(h:SA X es mm):JA X es mm:=by unfold JA;exact h
def Kb:I0 X [] IH:=.mk RU
def HQ(h:JS X st1 ms):I0 X [st1] ms:=.mk<|vC h.out
def HM(h:JS X st1 ms)(f:I0 X rest mq):I0 X (st1::rest) (mS ms mq):=.mk<|yU h.out f.out
def JU(f:SB X c mt)(h:I0 X body ms)(i:I0 X orelse mq):JS X (.If c body orelse pos) (Ih mt ms mq):=.mk<|nN f h.out i.out
def Pr{f iter:PP}(h:PassesOwn (IR X.prog X.w) X.A X.env X.xe)(i:X.calm=true)(hi:SI X f iter mi)(j:SG X f mg)(n:I0 X body ms)(q:∀x,foldedSetIterable iter X.env x=pure x:=by intro _;rfl):JS X (.For f iter body [] pos) (mF mi mg ms):=.mk<|rM h i hi j n.out q
def Ml:JA X [] mZ:=.mk Hk
def HL(f:SE X e m)(h:JA X es mm)(hs:∀q,Qqb X.env e q:=by intro _;rfl):JA X (e::es) (Hc m mm):=.mk<|Hg f h.out<|hs _
end
section
variable {o:PP}{apos cpos:Pos}
def Mw:D->Hf->Option Bool
 |.bl b,_=>some b
 |.non,_=>some false
 |.int i,_=>some<|i != 0
 |.tup ds,_=>some<|!ds.isEmpty
 |.ref n,st=>(Il st n).map λds=>!ds.isEmpty
 |_,_=>none
def Nz(m:ME):MT:=λρ st=>(m ρ st).bind λ(x,s1)=>(Mw x s1).map λb=>(b,s1)
def iS{xs:List V}(r:Hh K H io xs ds):(!xs.isEmpty)=!ds.isEmpty:=by have:=r.length;cases xs<;>cases ds<;>simp_all
def bT(h:SE X a m)(he:∀whole,isTrue a X.env whole=(do let v <-whole;standAt a.pos;holding [v] (truthy v)):=by intro _;rfl):SB X a (Nz m):=
 PT.imp (fX h he) <| by
  rintro σ H Q ⟨ρ,st,io,b,st',E,S,e,k⟩;obtain⟨⟨x,s1⟩,o,e⟩:=Hu e;obtain⟨i,c,e⟩:=ID e;cases e;refine⟨ρ,st,io,x,st',E,S,o,λv s ka u l g=>⟨b,?_,k s ka u l⟩⟩;unfold Mw at c;split at c
  ·cases c
   cases (show v=_ from g)
   exact rfl
  ·cases c
   cases (show v=_ from g)
   exact rfl
  ·cases c
   cases (show v=_ from g)
   exact rfl
  ·cases c;obtain⟨p,xs,rfl,w,r⟩:=g;exact .inr<|.inl ⟨xs,.inl<|.inl w,(iS r).symm⟩
  ·obtain⟨ds,y,c⟩:=ID c;cases c;obtain⟨p,rfl,A⟩:=g;obtain⟨K,W,f⟩:=LX l A y;exact .inl ⟨K,W,(iS f).symm⟩
  ·cases c
theorem U7:Nz m ρ st=(m ρ st).bind λp=>(Mw p.1 p.2).map λb=>(b,p.2):=rfl
end
def Ku:G2:=JM OB λx y st=>match x,y with
 |.bl a,.bl b=>some (.bl (a==b),st)
 |_,_=>none
def Qv:G2:=JM aD λx y st=>match x,y with
 |.bl a,.bl b=>some (.bl (a != b),st)
 |_,_=>none
def RO:Jv X (Pv .Is) Ku:=Pt XH (by
 rintro qp s σ H x y v u Q I rx a ⟨l,m,st,io,d,st',c,g,S,e,k⟩
 (try dsimp only at e)
 split at e
 ·cases e
  cases (show x=_ from c)
  cases (show y=_ from g)
  cases rx;cases a;exact PyProof.Rows.is_bool ⟨.bl _,H,I,rfl,k.now S rfl⟩
 ·cases e)
def eW:Jv X (Pv .IsNot) Qv:=Pt zC (by
 rintro qp s σ H x y v u Q I rx a ⟨l,m,st,io,d,st',c,g,S,e,k⟩
 (try dsimp only at e)
 split at e
 ·cases e
  cases (show x=_ from c)
  cases (show y=_ from g)
  cases rx;cases a;exact PyProof.Rows.isnot_bool ⟨.bl _,H,I,rfl,k.now S rfl⟩
 ·cases e)
open PySem.SeqAt PySem.MeetsSeq PySem.MeetsSeq2 PySem.MeetsSeq3
def zg3{t i:Addr}{items:Array GM}{j n:GM}{lo hi:Option Int}(f:IsTup s.heap t items)(q:s.heap.IsSliceOf i j n .none)(pl:IsPart j lo)(pu:IsPart n hi)(h0:HT.HN items.size 0 lo=0) (z:HT.HN items.size items.size hi=items.size) (h:Q (.ref t) s):wpAny (IR prog w) A (getItem (.ref t)<|.ref i) Q E s:=by
 obtain⟨os,a,c,g⟩:=id q;have e:s.TypeIs (.ref i) "slice":=⟨os,a,c⟩;unfold getItem
 try with_reducible refine Bf ?_
 first|refine Ab (Ae ?_)|skip
 refine Ab (FE f.typeIs (by decide)<|Ab<|Bk (name:=Bm "__getitem__") f.typeIs BK<|Bp BK f.typeIs Fb ?_<|Fo _ _);show wpAny _ _ (Builtin.Tuple.tupleItemsOf (.ref t) >>= _) _ _ s;refine Ab<|tupleItemsOf_ f<|Ab<|Cv e ?_;rw[if_pos (by decide)];refine Ab<|HT.Jq q pl pu ?_;rw[h0,z];have yes:((((0:Nat):Int)==0&&(1:Int)==1&&(items.size-0)==items.size)=true):=by simp
 show wpAny _ _ (if(((0:Nat):Int)==0&&(1:Int)==1&&(items.size-0)==items.size)=true then _ else _) _ _ s;rw[if_pos yes];refine Ab (m:=Builtin.Tuple.tupleIsExact _)<|Ab<|Cv f.typeIs<|Ae ?_;rw[if_pos (by decide)];exact Ab (m:=(pure (Fin.done<|Flow.ret<|Ax t):Sem Fin))<|Ae<|Ae ⟨_,rfl,Ae h⟩
def ZL(K:Ac):V->Option Int->Option Int->Hp->VK->Prop:=λx lo hi H Q=>∃a xs,x=.ref a/\Jg K H a xs/\HT.HN xs.length 0 lo=0/\HT.HN xs.length xs.length hi=xs.length/\Q (.ref a) H
def yR:So X (ZL X.K):=by
 intro qp s σ H x v o u lo hi w Q I rx g pl pu h;obtain⟨a,xs,rfl,l,h0,m,q⟩:=h;cases rx;obtain⟨c,r,e,y⟩:=I.tuple l;have hlen:c.toArray.size=xs.length:=by rw[Az];exact r.length.symm
 exact⟨"tuple",_,PyProof.Rows.slot_tuple_getitem.lookup,e.typeIs,zg3 e g pl pu (by rw[hlen];exact h0) (by rw[hlen];exact m) ⟨.ref a,H,I,rfl,q⟩⟩
def ZI:D->Option Int->Option Int->Hf->Option (D×Hf):=λx lo hi st=>match x with
 |.tup ds=>if(decide (HT.HN ds.length 0 lo=0)&&decide (HT.HN ds.length ds.length hi=ds.length))=true then some (.tup ds,st)else none
 |_=>none
def O9:D->Option Int->Option Int->Hf->Option (D×Hf):=λx lo hi st=>Od (Nt x lo hi st)<|ZI x lo hi st
def Lg(m:ME)(l h:MO):ME:=λρ st=>(m ρ st).bind λ(x,s1)=>(l ρ s1).bind λ(lo,s2)=>(h ρ s2).bind λ(hi,s3)=>O9 x lo hi s3
def VR{lo hi:Option PP}{f h:MO}{p2:Pos}(he:SE X e m)(i:SO X lo f)(j:SO X hi h):SE X (.Subscript e (.Slice lo hi none p2) pos) (Lg m f h):=by
 rintro qp s σ H Q I ⟨ρ,st,io,d,st',E,S,e0,k⟩;obtain⟨⟨x,s1⟩,v,e0⟩:=Hu e0;obtain⟨⟨c,s2⟩,w,e0⟩:=Hu e0;obtain⟨⟨g,s3⟩,y,e0⟩:=Hu e0;rcases PB e0 with e0|e0
 ·exact Na he i j qp s σ H Q I ⟨ρ,st,io,d,st',E,S,by simp only[Ij,v,w,y,Aa];exact e0,k⟩
 ·refine VF yR he i j qp s σ H Q I ?_;refine⟨ρ,st,io,x,s1,E,S,v,λv1 H1 A l a R1=>⟨ρ,s1,io++A,c,s2,E.ext S l,a,w,λH2 q o u=>⟨ρ,s2,(io++A)++q,g,s3,(E.ext S l).ext a o,u,y,λC F K W=>?_⟩⟩⟩;have n:=(R1.ext a o).ext u K;have z:=((k.on a l).on u o).on W K;unfold ZI at e0
  split at e0
  ·rename_i ds;obtain⟨hw,e0⟩:=JJ e0;cases e0;rw[Ag]at hw;obtain⟨p,xs,rfl,B,r⟩:=id n;exact⟨p,xs,rfl,Jg.of B,by rw[r.length];exact of_decide_eq_true hw.1,by rw[r.length];exact of_decide_eq_true hw.2,z.now W n⟩
  ·cases e0
end L2.MP
namespace L2.MP
open PySem L2 PySem.Spec PyProof.Rows
section
variable {K:Ac}{x:Str}{st:SZ}{f:Addr}
structure P9(K:Ac)(x:Str)(st:SZ)(f:Addr):Prop where
 ex:∃(oc:GM) (od:Option Addr) (kV dc pm:GM) (an:Option Addr) (cd ct:GM) (sl:Array (Option GM)),K.lookup f=some ⟨oc,od,.func (BY x x (OZ st) (K9 st) (Jd st) .none kV dc pm an cd ct),sl⟩/\CZ K cd x=true
 ns:Fq K Wp x=some (some (.ref f))
 kp:BH K (.ref f)=true
def mP{e kV g pm cd h:GM}{i an:Option Addr}{j:Array (Option GM)}(a:Fq K Wp x=some (some<|.ref f))(l:K.lookup f=some ⟨e,i,.func<|BY x x (OZ st) (K9 st) (Jd st) .none kV g pm an cd h,j⟩)(c:CZ K cd x=true)(k:BH K (.ref f)=true):P9 K x st f:=⟨⟨e,i,kV,g,pm,an,cd,h,j,l,c⟩,a,k⟩
end
variable {α:Type}
def PX{P:List α->Prop}(h:∀a,P [a])(l:List α)(e:l.length=1):P l:=by
 rcases l with _|⟨a,_|⟨b,l⟩⟩
 ·cases e
 ·exact h a
 ·cases e
def NC{P:List α->Prop}(h:∀a b,P [a,b])(l:List α)(e:l.length=2):P l:=by
 rcases l with _|⟨a,l⟩
 ·cases e
 exact PX (P:=λl=>P (a::l)) (h a) l<|D7 e
def PV{P:List α->Prop}(h:∀a b c,P [a,b,c])(l:List α)(e:l.length=3):P l:=by
 rcases l with _|⟨a,l⟩
 ·cases e
 exact NC (P:=λl=>P (a::l)) (h a) l<|D7 e
def NB{P:List α->Prop}(h:∀a b c d,P [a,b,c,d])(l:List α)(e:l.length=4):P l:=by
 rcases l with _|⟨a,l⟩
 ·cases e
 exact PV (P:=λl=>P (a::l)) (h a) l<|D7 e
def Q5{P:List α->Prop}(h:∀a b c d f,P [a,b,c,d,f])(l:List α)(e:l.length=5):P l:=by
 rcases l with _|⟨a,l⟩
 ·cases e
 exact NB (P:=λl=>P (a::l)) (h a) l<|D7 e
end L2.MP
namespace L2.MP
open PySem PySem.Spec PyProof.Rows
section
variable {X:Cx}{K:Ac}{H:Hp}{io:List Addr}{st st':Hf}{o e value:PP}{es:List PP}{m mo mv:ME}{mm:MA}{pos pos' apos:Pos}{C:Addr}{f:Str}
def inClass(st:SZ)(j:Nat):SZ:=match st with
 |.ClassDef _ _ _ body _ _ _ _ _ _ _=>body.getD j<|.Pass ⟨0,0,0,0⟩
 |_=>.Pass ⟨0,0,0,0⟩
end
open L2
end L2.MP
namespace L2.MP
open PySem PySem.Spec PyProof.Rows
section
variable {X:Cx}{K:Ac}{H:Hp}{io:List Addr}
def Q4:G2:=λx y st=>match x,y with
 |.str a,.str b=>some (.bl (decide (a.cps.toList<b.cps.toList)),st)
 |_,_=>none
def tJ:Jv X (Pv .Lt) Q4:=by
 rintro qp s σ H x y v u Q I rx l ⟨w,A,st,io,d,st',o,r,S,e,k⟩;unfold Q4 at e;split at e
 ·cases e
  cases (show x=_ from o)
  cases (show y=_ from r)
  obtain⟨t,rfl⟩:=rx;obtain⟨t,rfl⟩:=l;exact lt_str ⟨.bl _,H,I,rfl,k.now S rfl⟩
 ·cases e
def Q3:G2:=λx y st=>match x,y with
 |.tup a,.tup b=>(intsOf a).bind λns=>(intsOf b).map λms=>(.bl (HT.lexLt ns ms),st)
 |_,_=>none
def tK(g:X.A.units+100<cLine):Jv X (Pv .Lt) Q3:=by
 rintro qp s σ H x y v u Q I rx l ⟨h,i,st,io,d,st',o,r,S,e,k⟩;unfold Q3 at e;split at e
 ·obtain⟨ns,w,e⟩:=Hu e;obtain⟨ms,E,e⟩:=ID e;cases e;obtain⟨p,xs,ex,K,W⟩:=o;obtain⟨q,j,a,c,f⟩:=r
  cases (ints_rep W w).1;cases (ints_rep f E).1;exact oN (by omega) qp s σ H x y v u Q I rx l ⟨p,q,ns,ms,ex,a,Jg.of K,Jg.of c,k.now S rfl⟩
 ·cases e
def ltB:G2:=JM Ik<|JM Q4 Q3
def bD(a:X.A.units+100<cLine):Jv X (Pv .Lt) ltB:=Pt NZ<|Pt tJ<|tK a
end
end L2.MP
namespace L2.MP
open PySem PySem.Spec
open PyProof.Rows
end L2.MP
namespace L2.MP
open PySem PySem.Spec
open PyProof.Rows
section
variable {X:Cx}{K:Ac}{H:Hp}{io:List Addr}{m:ME}{st st':Hf}{tg:PP}
end
end L2.MP
namespace L2.MP
open PySem PySem.Spec
open PyProof.Rows
end L2.MP
namespace L2.MP.ST
open PySem PySem.SetTable
end L2.MP.ST
namespace L2.MP
open PySem PySem.Spec PyProof.Rows
end L2.MP
namespace L2.MP
open PySem PySem.Spec
open PyProof.Rows
variable {X:Cx}{pos:Pos}
end L2.MP
namespace L2.MP.ST
open PySem PySem.SetTable
end L2.MP.ST
namespace L2.MP
open PySem PySem.Spec PyProof.Rows
end L2.MP
namespace L2.MP
open PySem PySem.Spec
open PyProof.Rows
variable {x:Str}{p:Pos}{tbl:Str->Option GN}{i:Nat}{ρ:HX}
section
variable {X:Cx}{K:Ac}{H:Hp}{io:List Addr}{st st':Hf}{e:PP}{es:List PP}{m:ME}{mm:MA}{pos:Pos}
def aI{f:Addr}(a:Gl X x)(hm:X.mg x=some (.ref f))(c:KJ X.K x f)(hd:(x==("__debug__":Str))=false:=by decide):SE X (.Name x p) (mK<|.fn x):=
 PE.imp (XQ a hm (v:=.ref f) rfl hd) <| by
  rintro σ H Q ⟨ρ,st,io,d,st',E,S,e,k⟩;cases e;exact k.now S ⟨f,rfl,c⟩
def Vf(tbl:Str->Option GN)(m:ME)(mm:MA):ME:=λρ st=>(m ρ st).bind λ(d,s1)=>match d with
 |.fn x=>(tbl x).bind λg=>(mm ρ s1).bind λ(ds,s2)=>g ds s2
 |_=>none
def aN(X:Cx)(k n:Nat)(tbl:Str->Option GN):Prop:=∀x g,tbl x=some g->IT X.prog X.w X.K X.mg X.base k x n g
def yH{y:Str}{k n:Nat}(T:aN X k n tbl)(G:HK k X.A)(hf:SE X (.Name y p) m)(J:SA X (e::es) mm)(L:IQ n mm)(he:Qqb X.env e es:=by rfl) (c:Qqc pos es X.env:=by rfl):
  SE X (.Call (.Name y p) (e::es) [] pos) (Vf tbl m mm):=by
 rintro qp s σ H Q I ⟨ρ,st,io,d,st',E,S,i,M⟩;obtain⟨⟨N,s1⟩,U,i⟩:=Hu i;cases N with
 |fn x=>
  dsimp only at i;obtain⟨g,Y,i⟩:=Hu i;obtain⟨⟨ds,s2⟩,z,Z⟩:=Hu i;obtain⟨f,fd,ps,F,hm,hk,hb⟩:=T x g Y;refine BX<|HA (hf qp s σ H (λv H1=>∃ka,v=.ref f/\Ext io ka H H1/\Hv X.K H1 (io++ka) s1) I ⟨ρ,st,io,.fn x,s1,E,S,U,λv H1 l o w R1=>?_⟩) ?_
  ·obtain⟨a,rfl,hn⟩:=R1;have B:X.mg x=some (.ref a):=PySem.W.mg_of I.ok.mod.kin I.ok.mod.glob hn;rw[hm]at B;cases B;exact⟨l,rfl,o,w⟩
  ·rintro u t1 ⟨v,H1,I1,r1,l,rfl,o,w⟩;cases r1;have hh:=J pos qp t1 σ H1 (λj H2=>Qj X.K n g j H2 Q E0) I1 ⟨ρ,s1,io++l,ds,s2,E.ext S o,w,z,λj H2 k2 X2 C R2=>by
    refine⟨ds,s2,(io++l)++k2,d,st',?_,R2,C,Z,(M.on w o).on C X2⟩;rw[R2.length];exact L _ _ _ _ z⟩
   refine DJ (h₀:=X.base) I1.ok.mod.kin hk (HA hh λus t2 ⟨j,H2,I2,r,q⟩=>⟨I2.kIn,?_⟩) he c;exact bR F G hb .nil aF I2 r (by rw[Am];exact q)
 |_=>cases i
def Lj(i:Nat)(m:ME):MS:=λρ st=>match ρ[i]? with
 |some (some<|.int a)=>(m ρ st).bind λ(d,s1)=>match d with
  |.int b=>some (.nx (ρ.set i<|some<|.int<|a+b),s1)
  |_=>none
 |_=>none
def Tq{pos':Pos}(c:X.N.Nodup)(hi:X.N[i]?=some x)(g:Loc X.env.scope x)(he:SE X e m)(hf:X.fn x=true\/X.env.scope.names.lookup x=some .local:=by first|exact .inl rfl|exact .inr rfl|assumption):
  SS X (.AugAssign (.Name x pos') .Add e pos) (Lj i m):=PS.imp (pH c hi g he pQ hf) λN σ H h=>by
 obtain⟨ρ,st,io,f,st',E,S,e,w⟩:=Mr.mp h;unfold Lj at e;split at e
 ·rename_i a o;obtain⟨⟨d,s1⟩,s,e⟩:=Hu e
  cases d with
  |int b=>
   cases e;obtain⟨v,u,r⟩:=E.at_ i _ o;cases (show v=.int a from r)
   refine⟨_,u,ρ,st,io,.int b,_,E,S,s,λv1 H1 y l A K=>⟨a,b,rfl,K,?_⟩⟩;exact w _ H1 y l A<|(E.ext S l).set i (show Rep _ _ _ (.int<|a+b) (.int<|a+b) from rfl)
  |_=>cases e
 ·cases e
theorem xN:Vf tbl m mm ρ st=(m ρ st).bind λp=>match p.1 with
 |.fn x=>(tbl x).bind λg=>(mm ρ p.2).bind λq=>g q.1 q.2
 |_=>none:=rfl
def cW{a b:Int}{s1:Hf}(h:ρ[i]?=some (some<|.int a))(e:m ρ st=some (.int b,s1)):Lj i m ρ st=some (.nx (ρ.set i<|some<|.int<|a+b),s1):=by unfold Lj;rw[h];simp only[e,Aa]
end
end L2.MP
namespace L2.MP
open PySem PyProof.Rows
def lexLe:List Int->List Int->Bool
 |[],_=>true
 |_::_,[]=>false
 |x::xs,y::a=>if x=y then lexLe xs a else decide (x<=y)
def zT(A:Around)(s:Shared)(a:Int)(t:Tok)(c:Int)(u:Tok)(prog:Os)(w:Re)(E:Qqa)(Q:Qqa)(h:Q (.bool<|decide (a<=c)) s):
  wpAny (IR prog w) A (richCompare .LtE (.int a t)<|.int c u) Q E s:=
 (Gv h:wpAny (IR prog w) A (Pv .LtE (.int a t)<|.int c u) Q E s)
section
open PySem.SeqAt
open PySem.MeetsSeq PySem.MeetsSeq2 PySem.MeetsSeq3
def zgC(l b:Addr)(items f:Array GM)(n L:Nat)(dd G:Option Addr)(M My:Array (Option GM))(ns ms:List Int)(hi:IntsAre items.toList ns)(J:IntsAre f.toList ms):
  Meets (Builtin.«tuple.__le__» ⟨[.ref l,.ref b],[]⟩)
   (λ_ R s=>s.heap.get? l=some {cls:=.type "tuple",dict:=dd,data:=.seq items n,slots:=M}/\s.heap.get? b=some {cls:=.type "tuple",dict:=G,data:=.seq f L,slots:=My} /\
    R (.ok<|.ret<|.bool<|lexLe ns ms) s):=
 .of_wp λprog w A R s h=>by
  obtain⟨B,g,d,C,os⟩:=s;obtain⟨N,S,h⟩:=h;have f2:=D3;have T:items.size=ns.length:=by rw[<-hi.length];simp
  have U:f.size=ms.length:=by rw[<-J.length];simp
  wp_walk using Dm N,Dm S,wpAny_forIn_list _ (λrest b H=>b.1=none/\H=⟨B,g,d,C,os⟩/\∃(F ws:List GM) (o r:List Int),rest=F.zip ws /\
   IntsAre F o/\IntsAre ws r/\o.length+f.size=r.length+items.size/\R (.ok<|.ret<|.bool<|lexLe o r) ⟨B,g,d,C,os⟩) _
  case turn=>
   rintro⟨y,x⟩ rest b H ⟨W,rfl,F,ws,o,r,v,i,j,hlen,E⟩;cases i with
   |nil=>rw[FD]at v;cases v
   |cons a t m=>
    cases j with
    |nil=>rw[Fn]at v;cases v
    |cons c u z=>
     rw[Cg]at v;injection v with hyx hrest
     injection hyx with hy hx
     subst hy hx;rw[lexLe]at E;simp only[AB]at hlen;obtain⟨e,he,Q⟩:=HT.Mb A.in1 ⟨B,g,d,C,os⟩ a t c u;refine Ab<|he prog w _ _ ?_
     cases e with
     |true=>
      rw[if_pos (Q.mp rfl)]at E
      wp_walk
      exact⟨rfl,rfl,_,_,_,_,hrest,m,z,by omega,E⟩
     |false=>
      rw[if_neg (λq=>absurd (Q.mpr q) Bd)]at E;have I:=zT A.in1 ⟨B,g,d,C,os⟩ a t c u prog w
      wp_walk using I
      exact⟨_,rfl,by simpa using E⟩
  case fin=>
   rintro⟨b1,X⟩ H ⟨W,rfl,F,ws,o,r,v,i,j,hlen,E⟩;simp only at W;subst W;have K:lexLe o r=decide (items.size<=f.size):=by
    cases i with
    |nil=>
     simp only[A1]at hlen;rw[lexLe];exact(decide_eq_true<|by omega).symm
    |cons a t K=>
     cases j with
     |nil=>
      simp only[A1,AB]at hlen;rw[lexLe];exact(decide_eq_false<|by omega).symm
     |cons c u hw=>
      rw[Cg]at v;cases v
   rw[K]at E
   wp_walk
   exact⟨_,rfl,by simpa[Builtin.Tuple.tupleCompareSizes]using E⟩
  case h=>
   exact⟨rfl,rfl,items.toList,f.toList,ns,ms,rfl,hi,J,by omega,h⟩
end
section
variable {prog:Os}{w:Re}{A:Around}{E:Qqa}{s:Shared}
def zkR{l b:Addr}{items a:Array GM}{ns ms:List Int}{Q:Qqa}(c:IsTup s.heap l items)(e:IsTup s.heap b a)(hi:IntsAre items.toList ns)(f:IntsAre a.toList ms)(g:A.units<cLine) (h:Q (.bool<|lexLe ns ms) s):wpAny (IR prog w) A (Pv .LtE (.ref l)<|.ref b) Q E s:=by
 obtain⟨⟨cls,i,data,j⟩,v,y,n,hd⟩:=id c;obtain⟨⟨W,u,data2,My⟩,o,r,m,hd2⟩:=id e;simp only at y hd r hd2;subst y hd r hd2;exact Es (op:=.LtE) ⟨_,v,rfl⟩ ⟨_,o,rfl⟩ PySem.F.slot_tuple_le PySem.F.entry_tuple_le (PySem.F.args_tuple_le_2 _ _) (zgC l b items a n m i u j My ns ms hi f)
  ⟨v,o,show CA (lexLe ns ms)≠ER/\Q (.bool<|lexLe ns ms) s from⟨(λx=>nomatch x),h⟩⟩ g
end
section
variable {X:Cx}{K:Ac}{H:Hp}{io:List Addr}
def Q7:G2:=λx y st=>match x,y with
 |.str a,.str b=>some (.bl (!decide (b.cps.toList<a.cps.toList)),st)
 |_,_=>none
def tD:Jv X (Pv .LtE) Q7:=by
 rintro qp s σ H x y v u Q I rx l ⟨w,A,st,io,d,st',o,r,S,e,k⟩;unfold Q7 at e;split at e
 ·cases e
  cases (show x=_ from o)
  cases (show y=_ from r)
  obtain⟨t,rfl⟩:=rx;obtain⟨t,rfl⟩:=l;exact PySem.P.le_str ⟨.bl _,H,I,rfl,k.now S rfl⟩
 ·cases e
def Q6:G2:=λx y st=>match x,y with
 |.tup a,.tup b=>(intsOf a).bind λns=>(intsOf b).map λms=>(.bl (lexLe ns ms),st)
 |_,_=>none
def tF(i:X.A.units+100<cLine):Jv X (Pv .LtE) Q6:=by
 rintro qp s σ H x y v u Q I rx o ⟨j,m,st,io,d,st',r,w,S,e,k⟩;unfold Q6 at e;split at e
 ·obtain⟨ns,E,e⟩:=Hu e;obtain⟨ms,K,e⟩:=ID e;cases e;obtain⟨p,xs,rfl,W,a⟩:=r;obtain⟨q,n,rfl,c,f⟩:=w
  cases (ints_rep a E).1;cases (ints_rep f K).1;cases rx;cases o;obtain⟨g,v1,h,_⟩:=I.tuple<|Jg.of W;obtain⟨l,v2,p2,_⟩:=I.tuple<|Jg.of c;exact zkR h p2 (L2.intsAre_of v1) (L2.intsAre_of v2) (by omega) ⟨.bl _,H,I,rfl,k.now S rfl⟩
 ·cases e
def leB:G2:=JM HV<|JM Q7 Q6
def bC(a:X.A.units+100<cLine):Jv X (Pv .LtE) leB:=Pt LU<|Pt tD<|tF a
end
open PySem.Spec
open PySem.SeqAt
end L2.MP
namespace L2.MP
open PySem PySem.Spec PyProof.Rows
end L2.MP
namespace L2.MP
open PySem
variable {prog:Os}{w:Re}{A:Around}{E:Qqa}{hp:KF}{gs:Array GenState}{dr:Drawn}{tk:Nat}{os:OsState}{nm ql:Str}{C N f:Addr}{bs bm sub xs:List GM}{b1 b2:Bool}{sn:List Str}{b3:Option Bool}{dd:Option Addr}{k0 k1 k2 k3 k5:Option GM}{B newId:String}{mN:Str->Option GM}{oF:Obj}
section
variable {bmB bmN:List GM}{Bn nid initId inN:String}
noncomputable abbrev PM (xs:List GM):Obj:={cls:=.type "tuple",data:=.seq xs.toArray}
noncomputable abbrev OD (C n:Addr):Obj:={cls:=.ref C,data:=.fields #[.ref n,.none,.none,.none,.bool false,.none]}
def zgA(X1:ExcBaseFacts Bn newId inN bmN)(h:bmB.contains (.type Bn)=true)(X3:ExcBaseFacts B nid initId bmB)(T:OwnTail hp bmB bm){Q:Fin->Shared->Prop}(at_:hp.get? C=some (excClassObj nm ql C N bs bm b1 sn sub b2 b3 dd k0 k1 k2 k3 k5 newId)) (ns:hp.Ns N mN) (own:mN "__init__"=some (.ref f)) (a:hp.get? f=some oF) (c:oF.cls=.type "function")(k:∀h' e,hp.objs.size<=e->Gi hp h' e (.ref C) xs->wpAny (IR prog w) A (call (.ref f) (.ref e::xs)) (λr s'=>r=.none/\Q (.done<|.ret<|.ref e) s') E ⟨h',gs,dr,tk,os⟩) (g:xs.length<=sizeLine):
  wpAny (IR prog w) A (Builtin.«type.__call__» ⟨.ref C::xs,[]⟩) Q E ⟨hp,gs,dr,tk,os⟩:=by
 repeat (first|with_reducible refine Bw at_ ?_|with_reducible refine wpAny_madeBy_exc at_ ?_|wp_step)
 refine codeAny_call_builtin_code (Fu _ X1.quiet)<|wpAny_check_new_subU X1 h T at_<|codeAny_exc_new_subU X1 h X3 T at_ ?_ g;show wpAny _ _ _ _ _ _;have up:∀{b:Addr}{o:Obj},hp.get? b=some o->((hp.push<|PM xs).push<|OD C hp.objs.size).get? b=some o:=λe=>Ad _<|Ad _ e;have l:=up at_;have f1:=up a;have s:((hp.push<|PM xs).push<|OD C hp.objs.size).Ns N mN:=by obtain⟨o,u,v,e,r⟩:=ns;exact⟨o,u,v,up e,r⟩
 have new:((hp.push<|PM xs).push<|OD C hp.objs.size).get? (hp.objs.size+1)=some (OD C hp.objs.size):=by heap_get
 have self:(Ax C::bm).contains (.ref C)=true:=by simp
 have x:=T.keeps (h':=(hp.push<|PM xs).push (OD C hp.objs.size)) λb o e=>up e;unfold isInstance
 repeat (first|with_reducible refine Bw new ?_|(with_reducible refine DC l ?_;rw[self])|wp_step)
 show wpAny _ _ (typeLookup (.ref C) _) _ _ _;refine wpAny_typeLookup_tail l s x X3.mroIs X3.init.lookup ?_;rw[own];refine Bf<|Ab ?_;unfold bindSpecial;refine Ab (Cv (T:="function") ⟨_,f1,c⟩ ?_);rw[if_pos (by decide)];refine Ae<|Ab<|A6 (k _ (hp.objs.size+1) (Bj _) ⟨λb o e=>up e,Dk<|Bj _,hp.objs.size,new,Dk<|Ah _,Ad _<|FM rfl rfl⟩) (λr s' z=>?_) λ_ _ z=>z;obtain⟨rfl,z⟩:=z
 wp_walk
 exact z
def znd(h:ExcBaseFacts Bn newId inN bmN)(i:bmB.contains (.type Bn)=true)(j:ExcBaseFacts B nid initId bmB)(T:OwnTail hp bmB bm){Q:Qqa}(at_:hp.get? C=some (excClassObj nm ql C N bs bm b1 sn sub b2 b3 dd k0 k1 k2 k3 k5 newId)) (ns:hp.Ns N mN) (own:mN "__init__"=some (.ref f)) (a:hp.get? f=some oF) (c:oF.cls=.type "function")(k:∀h' e,hp.objs.size<=e->Gi hp h' e (.ref C) xs->wpAny (IR prog w) (A.under<|.builtin "type.__call__" ⟨.ref C::xs,[]⟩) (call (.ref f) (.ref e::xs)) (λr s'=>r=.none/\Q (.ref e) s') E ⟨h',gs,dr,tk,os⟩) (g:xs.length<=sizeLine):
  wpAny (IR prog w) A (call (.ref C) xs) Q E ⟨hp,gs,dr,tk,os⟩:=by
 have l:=tc_lookup;have o:=tc_bind<|.ref C;have ty:(⟨hp,gs,dr,tk,os⟩:Shared).TypeIs (.ref C) "type":=⟨_,at_,rfl⟩
 refine DW<|codeAny_of_tree ?_;show wpAny _ _ (callAny (.ref C) _) _ _ _
 repeat (any_goals (first|assumption|with_reducible refine Bw at_ ?_|wp_step))
 exact⟨rfl,codeAny_call_builtin_at (Fu _<|by decide +kernel) entry_typeCall<|wpAny_check_type_call_sub at_<|zgA h i j T at_ ns own a c k g⟩
end
inductive OT (hp:KF) (nn:List Str) (top:List GM):List GM->Prop
 |base:OT hp nn top top
 |own {a:Addr}{c0:GM}{dd:Option Addr}{cd:ClassData} {sl:Array (Option GM)} {mA:Str->Option GM}{tl:List GM}
   (at_:hp.get? a=some {cls:=c0,dict:=dd,data:=.cls cd,slots:=sl}) (ns:hp.Ns cd.ns mA) (no:∀n∈nn,mA n=none) (more:OT hp nn top tl):OT hp nn top (.ref a::tl)
variable {nn:List Str}{tl:List GM}
section
variable {hp':KF}{top:List GM}
def OT.tail(T:OT hp nn top tl)(h:("__init__":Str)∈nn):OwnTail hp top tl:=by
 induction T with
 |base=>exact .base
 |own at_ ns no _ f=>exact .own at_ ns (no _ h) f
def OT.has(T:OT hp nn top tl){z:String}{b:Bool}(h:top.contains (.type z)=b):tl.contains (.type z)=b:=by
 induction T with
 |base=>exact h
 |own _ _ _ _ f=>rw[DM,f];rfl
def OT.pass(T:OT hp nn top tl)(self:GM)(a:Str):refuseLoop self a tl=refuseLoop self a top:=by
 induction T with
 |base=>rfl
 |own _ _ _ _ f=>rw[refuseLoop_ref,f]
end
variable {Q:Unit->Shared->Prop}{M:Model}{x:Addr}{sa owner:String}{name:Str}{v:GM}{y:Option GM}{o:Obj}
section
variable {top:List GM}
def xM{Q:Option GM->Shared->Prop}(T:OT hp nn top tl)(hm:name∈nn)(e:lookupAlong top name=pure y)(k:Q y ⟨hp,gs,dr,tk,os⟩):wpAny M A (lookupAlong tl name) Q E ⟨hp,gs,dr,tk,os⟩:=by
 induction T with
 |base=>rw[e];exact Ae k
 |own at_ ns no _ f=>
  rw[lookupAlong_cons];refine Ab<|wpAny_classOwn_cls at_ ns ?_;rw[no _ hm];exact f
def gG{Q:Option GM->Shared->Prop}(at_:hp.get? C=some (excClassObj nm ql C N bs bm b1 sn sub b2 b3 dd k0 k1 k2 k3 k5 newId))(ns:hp.Ns N mN)(T:OT hp nn top bm)(hm:name∈nn)(mro:mroOf (.type B)=pure top)(e:typeLookup (.type B) name=pure y) (no:mN name=none) (k:Q y ⟨hp,gs,dr,tk,os⟩):wpAny M A (typeLookup (.ref C) name) Q E ⟨hp,gs,dr,tk,os⟩:=by
 rw[typeLookup_eq,mro]at e;rw[typeLookup_eq];refine Ab<|wpAny_mroOf_exc at_ ?_;rw[lookupAlong_cons];refine Ab<|wpAny_classOwn_exc at_ ns ?_;rw[no];exact xM T hm e k
def xS{u:GM}(SF:StoreFacts B top sa owner)(T:OT hp nn top bm)(at_:hp.get? C=some (excClassObj nm ql C N bs bm true sn sub b2 b3 dd k0 k1 k2 k3 k5 newId))(a:hp.get? x=some o)(c:o.cls=.ref C)(k:Q () ⟨hp,gs,dr,tk,os⟩):
  wpAny M A (checkBuiltinCall sa ⟨[.ref x,u,v],[]⟩) Q E ⟨hp,gs,dr,tk,os⟩:=by
 have own:(Ax C::bm).contains (.type owner)=true:=by rw[DM,T.has SF.hasOwner];simp
 have ok:=SF.args (.ref x) u v;simp only[checkBuiltinCall,SF.kind,SF.split];refine Ab ?_;unfold isInstance
 repeat (first|(with_reducible refine Bw a ?_;rw[c])|(with_reducible refine DC at_ ?_;rw[own])|wp_step)
 cases f:Manifest.signature? sa with
 |none=>exact Ae k
 |some g=>
  simp only[argsOk,f]at ok;show wpAny M A (Bind.checkArgs sa g ⟨[.ref x,u,v],[]⟩) Q E _;rw[show Bind.checkArgs sa g ⟨[.ref x,u,v],[]⟩=pure () from ok];exact Ae k
end
section
variable {top:List GM}
open Builtin Builtin.ObjectAttr in
def wR{tok:Tok}{Q:Fin->Shared->Prop}(SF:StoreFacts B top sa owner)(T:OT hp nn top bm)(hm:name∈nn)(at_:hp.get? C=some (excClassObj nm ql C N bs bm true sn sub b2 b3 dd k0 k1 k2 k3 k5 newId))(ns:hp.Ns N mN)(no:mN name=none)(e:typeLookup (.type B) name=pure none) (a:hp.get? x=some o) (h:o.cls=.ref C) (hnc:∀c,o.data≠.cls c) (hd:o.dict=none)(k:∀h' g,h'.get? x=some {o with dict:=some hp.objs.size}->h'.Ns1 hp.objs.size (λy=>if y=name then some v else none)->(∀b ob,b≠x->hp.get? b=some ob->h'.get? b=some ob)->Q (.done<|.ret .none) ⟨h',gs,dr,g,os⟩):
  wpAny (IR prog w) A (Builtin.«object.__setattr__» ⟨[.ref x,.str name tok,v],[]⟩) Q E ⟨hp,gs,dr,tk,os⟩:=by
 have pass:=(T.pass (.ref x) "__setattr__").trans (SF.passes<|.ref x);have f:x≠hp.objs.size:=Aw<|An a;unfold Builtin.«object.__setattr__»
 repeat (first|rw[refuse_eq]|(rw[refuseLoop_ref,pass])|(with_reducible refine Bw a ?_;rw[h])|with_reducible refine wpAny_mroOf_exc at_ ?_|with_reducible refine gG at_ ns T hm SF.mro e no ?_|wp_step)
 rw[hd,if_neg (by simp[typeHasDict])]
 split
 ·rename_i z;cases z
 split
 ·rename_i c z;exact absurd z<|hnc c
 ·have l:(hp.push Qqd).get? x=some o:=Ad _ a;refine Ab<|wpAny_alloc'<|Ab<|wpAny_update' l<|Ae ?_;have M:((hp.push Qqd).update x λo=>{cls:=o.cls,dict:=some hp.objs.size,data:=o.data,slots:=o.slots}).get? hp.objs.size=some Qqd:=by
   rw[Ff _ _ _ _ f.symm];exact FM rfl rfl
  have W:((hp.push Qqd).update x λo=>{cls:=o.cls,dict:=some hp.objs.size,data:=o.data,slots:=o.slots}).get? x=some {o with dict:=some hp.objs.size}:=by
   refine Bg _ l ?_;have fr:=(Heap.get?_some_iff.mp a).2;obtain⟨L,S,r,i⟩:=o;cases r<;>first|rfl|exact fr
  have j:∀b ob,b≠x->hp.get? b=some ob->((hp.push Qqd).update x λo=>{cls:=o.cls,dict:=some hp.objs.size,data:=o.data,slots:=o.slots}).get? b=some ob:=λb ob s z=>by rw[Ff _ _ _ _ s];exact Ad _ z
  generalize ((hp.push Qqd).update x λo=>{cls:=o.cls,dict:=some hp.objs.size,data:=o.data,slots:=o.slots})=m at *;have n:m.Ns hp.objs.size (λ_=>none):=⟨_,#[],_,M,rfl,λz q=>absurd q (by simp),λ_=>rfl⟩
  show wpAny _ _ (storeInDict hp.objs.size (.str name tok) name v) _ _ _;unfold storeInDict newKeyGuard;refine Ab<|Ae<|Ab<|wpAny_nsSet1 (Heap.Ns1.of_empty n) λF u sb=>?_;obtain⟨U,G,H,I,J,K⟩:=u.count<|Within.cons name v Within.nil;refine Ab<|wpAny_lookBehind I (by rw[J];exact pastItsLine_dict (Ar K (by rw[AB,A1,Cm];omega))) ?_
  wp_walk
  exact k F _ ((sb.2 x f).trans W) u λb ob s z=>(sb.2 b<|Aw<|An z).trans (j b ob s z)
def yY(SF:StoreFacts B top sa owner)(T:OT hp nn top bm)(hm:name∈nn)(g:("__setattr__":Str)∈nn)(at_:hp.get? C=some (excClassObj nm ql C N bs bm true sn sub b2 b3 dd k0 k1 k2 k3 k5 newId))(ns:hp.Ns N mN)(no:mN name=none)(h:mN "__setattr__"=none)(e:typeLookup (.type B) name=pure none) (i:hp.get? x=some o) (j:o.cls=.ref C) (m:∀c,o.data≠.cls c) (hd:o.dict=none)(k:∀h' a,h'.get? x=some {o with dict:=some hp.objs.size}->h'.Ns1 hp.objs.size (λy=>if y=name then some v else none)->(∀b ob,b≠x->hp.get? b=some ob->h'.get? b=some ob)->Q () ⟨h',gs,dr,a,os⟩):
  wpAny (IR prog w) A (setAttr (.ref x) name v) Q E ⟨hp,gs,dr,tk,os⟩:=by
 have bd:=SF.slot.bind<|.ref x;unfold setAttr callSpecial? specialOf
 repeat (any_goals (first|assumption|(with_reducible refine Bw i ?_;rw[j])|with_reducible refine gG at_ ns T g SF.mro SF.slot.lookup h ?_|wp_step))
 refine ET SF.slot.plain SF.entry<|xS SF T at_ i j<|wR SF T hm at_ ns no e i j m hd λh' a f l r=>?_
 repeat (any_goals (first|assumption|wp_step))
 exact k h' a f l r
end
variable {pos:Pos}
section
variable {s:Shared}{env:Env}
def Y1{x:Sem GM}{Q:Flow->Shared->Prop}(a:bm.contains (.type "BaseException")=true)(c:A.handled=none)(h:wpAny M A x (λv s1=>∃e t D,v=.ref e/\s1.heap.get? C=some (excClassObj nm ql C N bs bm b1 sn sub b2 b3 dd k0 k1 k2 k3 k5 newId) /\
   s1.heap.get? e=some {cls:=.ref C,dict:=D,data:=.fields #[.ref t,.none,.none,.none,.bool false,.none]}/\E (.ref e) s1) E s):wpAny M A (raiseStmt env (some x) none) Q E s:=by
 have top:(Ax C::bm).contains (.type "BaseException")=true:=by rw[DM,a];simp
 unfold raiseStmt;refine Ab<|A6 h (λv s1 z=>?_) λ_ _ z=>z;obtain⟨e,t,D,rfl,at_,he,k⟩:=z;obtain⟨hp,gs,dr,tk,os⟩:=s1
 repeat (first|with_reducible refine Bw he ?_|with_reducible refine Bw at_ ?_|(with_reducible refine DC at_ ?_;rw[top])|wp_step)
 exact wpAny_raiseNew_none c k
def zj5{ex:PP}{Q:Flow->Shared->Prop}(a:bm.contains (.type "BaseException")=true)(c:A.handled=none)(h:wpAny M A (UV ex env) (λv s1=>∃e t D,v=.ref e/\s1.heap.get? C=some (excClassObj nm ql C N bs bm b1 sn sub b2 b3 dd k0 k1 k2 k3 k5 newId) /\
   s1.heap.get? e=some {cls:=.ref C,dict:=D,data:=.fields #[.ref t,.none,.none,.none,.bool false,.none]}/\E (.ref e) s1) E s):wpAny M A (exec (.Raise (some ex) none pos) env) Q E s:=by
 rw[arm_exec_Raise]
 first
  |exact Ab (BC<|Y1 a c h)
  |(simp only[evalOpt,Option.map];exact Ab (BC<|Y1 a c<|Ab<|A6 h (λv s3 z=>Ab (BC<|Ae z)) λ_ _ z=>z))
  |exact Ab (BC<|Y1 a c<|Ab<|A6 h (λv s3 z=>Ab (BC<|Ae z)) λ_ _ z=>z)
end
open PySem.Spec PyProof.Rows
structure WX(K:Ac)(er:Int->D)(z:Int->Hp->Prop)(io:List Addr)(H:Hp)(st':Hf)(N:Ends)(f:Fl):Prop where
 x:∀n,f=.rt (er n)->∀H' ka,Ext io ka H H'->Hv K H' (io++ka) st'->z n H'
 w:Wn K io H st' N f
inductive tX (K:Ac) (er:Int->D) (z:Int->Hp->Prop) (m:MS) (N:Ends) (σ:L2.St) (H:Hp):Prop
 |mk (ρ:HX) (st:Hf) (io:List Addr) (f:Fl) (st':Hf) (h1:Hy K H io σ ρ) (h2:Hv K H io st) (h3:m ρ st=some (f,st')) (h4:WX K er z io H st' N f)
def SX(X:Cx)(er:Int->D)(z:Int->Hp->Prop)(s:SZ)(m:MS):Prop:=PS X s<|tX X.K er z m
def P6(X:Cx)(er:Int->D)(z:Int->Hp->Prop)(s:List SZ)(m:MS):Prop:=K1 X s<|tX X.K er z m
variable {X:Cx}{K:Ac}{H:Hp}{er:Int->D}
section
variable {e a b c:PP}{st1 st2:SZ}{rest body orelse:List SZ}{m:ME}{mt:MT}{ms mq:MS}{mg:MG}{mi:MI}
variable {H1 H2:Hp}{io ka kb:List Addr}{st st':Hf}{z:Int->Hp->Prop}{N:Ends}{f:Fl}
def WX.on(h:WX K er z io H st' N f)(X1:Ext io ka H H1)(g:Hv K H1 (io++ka) st):WX K er z (io++ka) H1 st' N f:=⟨λn e a kb c l=>h.x n e a (ka++kb) (X1.trans g c) (by rw[<-Ao];exact l),h.w.on X1 g⟩
def Ni(h:SS X st1 ms):SX X er z st1 ms:=PS.imp h λN σ H ⟨ρ,st,io,f,st',E,S,e,w⟩=>Pn E S e w.w
def Tr(h:LI X rest ms):P6 X er z rest ms:=K1.imp h λN σ H ⟨ρ,st,io,f,st',E,S,e,w⟩=>Pn E S e w.w
def Qg(g:SX X er z st1 ms):P6 X er z [st1] ms:=Ya g
def Lf(g:SX X er z st1 ms)(i:P6 X er z rest mq):P6 X er z (st1::rest) (mS ms mq):=K1.imp (fW g i) λN σ H h=>by
 obtain⟨ρ,st,io,f,st',E,S,e,w⟩:=h;obtain⟨⟨f1,s1⟩,a,e⟩:=Hu e;cases f1 with
 |nx ρ1=>exact⟨ρ,st,io,_,s1,E,S,a,λn q=>(by cases q),λσ' o ka l c m=>⟨ρ1,s1,io++ka,f,st',m,c,e,w.on l c⟩⟩
 |bk ρ1=>cases e;exact⟨ρ,st,io,_,_,E,S,a,λn q=>(by cases q),w.w⟩
 |ct ρ1=>cases e;exact⟨ρ,st,io,_,_,E,S,a,λn q=>(by cases q),w.w⟩
 |rt d=>cases e;exact⟨ρ,st,io,_,_,E,S,a,w.x,w.w⟩
def SH(g:SB X c mt)(i:P6 X er z body ms)(j:P6 X er z orelse mq):SX X er z (.If c body orelse pos) (Ih mt ms mq):=PS.imp (aG g i j) λN σ H h=>by
 obtain⟨ρ,st,io,f,st',E,S,e,w⟩:=h;obtain⟨⟨x,s1⟩,m,e⟩:=Hu e;refine⟨ρ,st,io,x,s1,E,S,m,λH1 k1 a l=>?_⟩;cases x with
 |true=>rw[if_pos rfl];exact⟨ρ,s1,io++k1,f,st',E.ext S a,l,e,w.on a l⟩
 |false=>rw[if_neg (by decide)];exact⟨ρ,s1,io++k1,f,st',E.ext S a,l,e,w.on a l⟩
end
def ZG(K:Ac)(er:Int->D)(n:Nat)(g:GN):Sp:=λl H Q E=>∃ds st io d st',l.length=n/\Hh K H io l ds/\Hv K H io st/\g ds st=some (d,st')/\Bh K io H st' d Q/\∀i,d=er i->∀f ka,Ext io ka H f->Hv K f (io++ka) st'->E (.int i 0) none f
section
variable {P:Os}{mg:Str->Option GM}{base:KF}
def nA{X:Cx}{n:Nat}{m:MS}{c:List V}{Q:VK}{E:XK}{N:List Str}(g:∀i,er i≠.non)(h:ZG K er n (Jc N.length m) c H Q E):
  tX K er (λi a=>E (.int i 0) none a) m {nx:=λ_ a=>Q .non a,rt:=Q} (start N c) H:=by
 obtain⟨ds,f,io,d,st',w,R,o,e,k,r⟩:=h;obtain⟨⟨l,s1⟩,s,e⟩:=Hu e;refine⟨_,f,io,l,s1,hJ R,o,s,?_⟩;cases l with
 |rt dd=>cases e;exact⟨λi q=>r i (by cases q;rfl),k⟩
 |nx ρ=>cases e;exact⟨λi q=>(by cases q),λσ' a ka u v x=>k .non a ka u v rfl⟩
 |bk ρ=>cases e
 |ct ρ=>cases e
end
end L2.MP
namespace L2.MP
open PySem
variable {M:Model}{A:Around}{E:Qqa}{s:Shared}{base:KF}{env:Env}{outer:List Env}{L x:Addr}{o:Obj}{vs:Array GM}{Q:Unit->Shared->Prop}
structure OP(base:KF)(l:List Env)(x:Addr)(o:Obj)(h h':KF):Prop where
 stays:base.StaysIn h'
 frames:h'.FunFrames base l
 err:∃ws T oT ts,h'.get? x=some {o with data:=.fields ws}/\ws[1]?=some (.ref T)/\(base.get? T=none/\(h.get? T=none->h.objs.size<=T))/\T≠x/\h'.get? T=some oT/\oT.data=.fields ts/\ts[3]?=some .none
 rest:∀b ob,h.get? b=some ob->(∀ws,ob.data≠.fields ws)->∃sl,h'.get? b=some {ob with slots:=sl}
def cC(hd:o.data=.fields vs)(g:Array GM->Array GM):AY g o={o with data:=.fields (g vs)}:=by obtain⟨s,u,l,r⟩:=o;cases hd;rfl
def zja(fr:A.frames=some (env::outer))(fl:s.heap.FunFrames base (env::outer))(hf:env.frame=some L)(a:s.heap.get? x=some o)(st:base.StaysIn s.heap)(no:base.get? x=none)(hd:o.data=.fields vs)(e:vs[1]?=some .none)(k:∀h',OP base (env::outer) x o s.heap h'->Q () {s with heap:=h'}):wpAny M A (leaving env<|.ref x) Q E s:=by
 have big:1<vs.size:=(Array.getElem?_eq_some_iff.mp e).1;have C:x∉(env::outer).filterMap (·.frame):=λz=>by obtain⟨_,ob,l,u⟩:=fl.mem z;rw[a]at l;cases l;exact u vs hd
 unfold leaving noteFrame;simp only[hf];refine Ab<|Ab<|AR a hd e ?_;rw[if_neg (by decide)];refine Ab<|FN fr fl hf λg1 v=>Ab (Fv λpl hpl=>?_);unfold DD newFields;refine Ab<|A2 ?_<|hpl.sizeOk5 _ _ _ _ _;have g:g1.get? x=some o:=(v.2.1 x C).trans a;have w:base.StaysIn g1:=λb ob l=>(v.2.1 b λz=>by rw[(fl.mem z).1]at l;cases l).trans<|st b ob l;have y:g1.objs.size≠x:=A0<|An g;generalize F:({cls:=.type "traceback",dict:=none,data:=.fields ([AH,.ref L,.none,rawInt L,.none]++(if pl.isEmpty then A3 6 AH else pl)).toArray}:Obj)=nw;have W:nw.data=.fields ([AH,.ref L,.none,rawInt L,.none]++(if pl.isEmpty then A3 6 AH else pl)).toArray:=by rw[<-F]
 have c:nw.isFreed=false:=Bs W;have h:(g1.push nw).get? x=some o:=Ad nw g;refine BI h hd big ?_;have i:=BJ hd (·.setIfInBounds 1 (Ax g1.objs.size));have j:=Bg (AY (·.setIfInBounds 1 (Ax g1.objs.size))) h<|Bs i;have t3:((g1.push nw).update x (AY (·.setIfInBounds 1 (Ax g1.objs.size)))).get? g1.objs.size=some nw:=(AO _ _<|A7 y).trans<|Aq g1 c;unfold setFlight;refine Ab<|AR j i (x:=.ref g1.objs.size) (by simp[big]) ?_;rw[if_pos (show(Ax g1.objs.size != AH)=true from by simp)];refine BI t3 W (by simp only[Az,AF,AB,A1]<;>omega)<|k _ ?_;have m:=BJ W (·.setIfInBounds 3 ((none:Option Addr).elim AH λf=>rawInt f));have G:=Bg (AY (·.setIfInBounds 3 ((none:Option Addr).elim AH λf=>rawInt f))) t3<|Bs m;have n:(((g1.push nw).update x (AY (·.setIfInBounds 1 (Ax g1.objs.size)))).update g1.objs.size (AY (·.setIfInBounds 3 ((none:Option Addr).elim AH λf=>rawInt f)))).get? x=some (AY (·.setIfInBounds 1 (Ax g1.objs.size)) o):=by rw[AO _ _ y];exact j
 have old:∀b ob,b≠x->g1.get? b=some ob->(((g1.push nw).update x (AY (·.setIfInBounds 1 (Ax g1.objs.size)))).update g1.objs.size (AY (·.setIfInBounds 3 ((none:Option Addr).elim AH λf=>rawInt f)))).get? b=some ob:=λb ob l z=>by rw[AO _ _ (A0<|An z),AO _ _ (A7 l)];exact Ad _ z
 have r:∀b ob,s.heap.get? b=some ob->(∀ws,ob.data≠.fields ws)->b≠x:=λb ob z u q=>by rw[q,a]at z;cases z;exact u vs hd
 rw[cC hd]at n;refine⟨λb ob l=>old b ob (λq=>by rw[q,no]at l;cases l) (w b ob l),fl.of_keeps λb ob z u=>?_,⟨_,g1.objs.size,_,_,n,by simp[big],⟨w.fresh,λ_=>Dq v.1.symm⟩,y,G,m,?_⟩,λb ob z u=>?_⟩
 ·obtain⟨B,q⟩:=v.2.2 b ob z;exact⟨_,old b _ (r b ob z u) q,rfl⟩
 ·first|(simp;done)|(rcases hpl with rfl|⟨_,_,_,_,_,_,_,rfl⟩<;>simp)
 obtain⟨B,q⟩:=v.2.2 b ob z;exact⟨B,old b _ (r b ob z u) q⟩
variable {T:Addr}{oT:Obj}{ts:Array GM}
def entry_any{c:GM}{C:Bool}(fr:A.frames=some (env::outer))(fl:s.heap.FunFrames base (env::outer))(hf:env.frame=some L)(e:s.heap.get? x=some o)(st:base.StaysIn s.heap)(no:base.get? x=none)(hd:o.data=.fields vs)(big:1<vs.size)(k:∀h',OP base (env::outer) x o s.heap h'->Q () {s with heap:=h'}):
  wpAny M A (do let a <-frameOf env;let pl <-entryPlaceOf L C;let b <-DD c a .none (rawInt L) .none pl;setField (.ref x) 1 b) (λ_ s'=>wpAny M A (setFlight (.ref x) none) Q E s') E s:=by
 have F:x∉(env::outer).filterMap (·.frame):=λz=>by obtain⟨_,ob,l,u⟩:=fl.mem z;rw[e]at l;cases l;exact u vs hd
 refine Ab<|FN fr fl hf λg1 v=>Ab (Fv λpl hpl=>?_);unfold DD newFields;refine Ab<|A2 ?_<|hpl.sizeOk5 _ _ _ _ _;have g:g1.get? x=some o:=(v.2.1 x F).trans e;have w:base.StaysIn g1:=λb ob l=>(v.2.1 b λz=>by rw[(fl.mem z).1]at l;cases l).trans<|st b ob l;have y:g1.objs.size≠x:=A0<|An g;generalize G:({cls:=.type "traceback",dict:=none,data:=.fields ([c,.ref L,.none,rawInt L,.none]++(if pl.isEmpty then A3 6 AH else pl)).toArray}:Obj)=nw;have T:nw.data=.fields ([c,.ref L,.none,rawInt L,.none]++(if pl.isEmpty then A3 6 AH else pl)).toArray:=by rw[<-G]
 have W:nw.isFreed=false:=Bs T;have h:(g1.push nw).get? x=some o:=Ad nw g;refine BI h hd big ?_;have i:=BJ hd (·.setIfInBounds 1 (Ax g1.objs.size));have j:=Bg (AY (·.setIfInBounds 1 (Ax g1.objs.size))) h<|Bs i;have t3:((g1.push nw).update x (AY (·.setIfInBounds 1 (Ax g1.objs.size)))).get? g1.objs.size=some nw:=(AO _ _<|A7 y).trans<|Aq g1 W;unfold setFlight;refine Ab<|AR j i (x:=.ref g1.objs.size) (by simp[big]) ?_;rw[if_pos (show(Ax g1.objs.size != AH)=true from by simp)];refine BI t3 T (by simp only[Az,AF,AB,A1]<;>omega)<|k _ ?_;have m:=BJ T (·.setIfInBounds 3 ((none:Option Addr).elim AH λf=>rawInt f));have H:=Bg (AY (·.setIfInBounds 3 ((none:Option Addr).elim AH λf=>rawInt f))) t3<|Bs m;have n:(((g1.push nw).update x (AY (·.setIfInBounds 1 (Ax g1.objs.size)))).update g1.objs.size (AY (·.setIfInBounds 3 ((none:Option Addr).elim AH λf=>rawInt f)))).get? x=some (AY (·.setIfInBounds 1 (Ax g1.objs.size)) o):=by rw[AO _ _ y];exact j
 have old:∀b ob,b≠x->g1.get? b=some ob->(((g1.push nw).update x (AY (·.setIfInBounds 1 (Ax g1.objs.size)))).update g1.objs.size (AY (·.setIfInBounds 3 ((none:Option Addr).elim AH λf=>rawInt f)))).get? b=some ob:=λb ob l z=>by rw[AO _ _ (A0<|An z),AO _ _ (A7 l)];exact Ad _ z
 have r:∀b ob,s.heap.get? b=some ob->(∀ws,ob.data≠.fields ws)->b≠x:=λb ob z u q=>by rw[q,e]at z;cases z;exact u vs hd
 rw[cC hd]at n;refine⟨λb ob l=>old b ob (λq=>by rw[q,no]at l;cases l) (w b ob l),fl.of_keeps λb ob z u=>?_,⟨_,g1.objs.size,_,_,n,by simp[big],⟨w.fresh,λ_=>Dq v.1.symm⟩,y,H,m,?_⟩,λb ob z u=>?_⟩
 ·obtain⟨B,q⟩:=v.2.2 b ob z;exact⟨_,old b _ (r b ob z u) q,rfl⟩
 ·first|(simp;done)|(rcases hpl with rfl|⟨_,_,_,_,_,_,_,rfl⟩<;>simp)
 obtain⟨B,q⟩:=v.2.2 b ob z;exact⟨B,old b _ (r b ob z u) q⟩
def zmE(fr:A.frames=some (env::outer))(fl:s.heap.FunFrames base (env::outer))(hf:env.frame=some L)(e:s.heap.get? x=some o)(st:base.StaysIn s.heap)(no:base.get? x=none)(hd:o.data=.fields vs)(f:vs[1]?=some (.ref T)) (i:base.get? T=none) (j:T≠x) (a:s.heap.get? T=some oT) (c:oT.data=.fields ts) (h:ts[3]?=some .none) 
  (k:∀h',OP base (env::outer) x o s.heap h'->Q () {s with heap:=h'}):wpAny M A (noteFrame (.ref x) env) (λ_ s'=>wpAny M A (setFlight (.ref x) none) Q E s') E s:=by
 unfold noteFrame;simp only[hf];refine Ab<|AR e hd f ?_;rw[if_pos (show(Ax T != AH)=true from by simp)];refine Ab<|AR a c h ?_;rw[if_neg (show ¬((AH==rawInt L)=true) from by simp[rawInt])];refine Ab<|BI a c (Array.getElem?_eq_some_iff.mp h).1 ?_;have l:∀b,b≠T->(s.heap.update T (AY (·.setIfInBounds 3 AH))).get? b=s.heap.get? b:=λb W=>AO _ _<|A7 W;have nrec:∀b ob,s.heap.get? b=some ob->(∀ws,ob.data≠.fields ws)->b≠T:=λb ob z r q=>by rw[q,a]at z;cases z;exact r ts c
 refine entry_any fr (fl.of_keeps λb ob z r=>⟨ob,(l b<|nrec b ob z r).trans z,rfl⟩) hf ((l x<|A7 j).trans e) (λb ob z=>(l b λq=>by rw[q,i]at z;cases z).trans (st b ob z)) no hd (Array.getElem?_eq_some_iff.mp f).1 λh' g=>?_;obtain⟨ws,u,v,w,m,n,y,B⟩:=g.err;exact k h' ⟨g.stays,g.frames,⟨ws,u,v,w,m,n,⟨y.1,λz=>by
  have:=y.2 (by
   by_cases q:u=T
   ·rw[q,a]at z;cases z
   rw[l u q];exact z)
  rwa [FZ]at this⟩,B⟩,λb ob z r=>g.rest b ob ((l b<|nrec b ob z r).trans z) r⟩
variable {w:Re}{C:Addr}
section
variable {prog:Os}
variable {nm ql:Str}{N:Addr}{bs bm:List GM}{b1:Bool}{sn:List Str}{sub:List GM}{b2:Bool}{b3:Option Bool}{dd:Option Addr}{k0 k1 k2 k3 k5:Option GM}{newId:String}
noncomputable abbrev PZ (prog:Os) (w:Re) (A:Around) (env:Env) (x:Addr) (E:Qqa):Qqa:=notedBy (IR prog w) (A.mark<|some<|.ref x) env (cameBackBy (IR prog w) A env E)
end
section
variable {l:List Env}
def zj3(st:base.StaysIn s.heap)(fl:s.heap.FunFrames base l)(e:s.heap.get? x=some o)(hd:o.data=.fields vs)(g:vs[1]?=some (.ref T))(h:base.get? T=none)(i:T≠x)(a:s.heap.get? T=some oT)(c:oT.data=.fields ts)(j:ts[3]?=some .none)(k:∀h',OP base l x o s.heap h'->Q () {s with heap:=h'}):wpAny M A (setFlight (.ref x) none) Q E s:=by
 have big:3<ts.size:=(Array.getElem?_eq_some_iff.mp j).1;unfold setFlight;refine Ab<|AR e hd g ?_;rw[if_pos (show(Ax T != AH)=true from by simp)];refine BI a c big<|k _ ?_;have r:∀b,b≠T->(s.heap.update T (AY (·.setIfInBounds 3 ((none:Option Addr).elim AH λf=>rawInt f)))).get? b=s.heap.get? b:=λb w=>AO _ _<|A7 w;have nrec:∀b ob,s.heap.get? b=some ob->(∀ws,ob.data≠.fields ws)->b≠T:=λb ob z u q=>by rw[q,a]at z;cases z;exact u ts c
 have v:=BJ c (·.setIfInBounds 3 ((none:Option Addr).elim AH λf=>rawInt f));have y:({o with data:=.fields vs}:Obj)=o:=by obtain⟨W,m,C,L⟩:=o;cases hd;rfl
 refine⟨λb ob z=>(r b λq=>by rw[q,h]at z;cases z).trans (st b ob z),fl.of_keeps λb ob z u=>⟨ob,(r b<|nrec b ob z u).trans z,rfl⟩,⟨vs,T,_,_,?_,g,⟨h,λz=>by rw[a]at z;cases z⟩,i,Bg _ a<|Bs v,v,?_⟩,λb ob z u=>⟨ob.slots,(r b<|nrec b ob z u).trans z⟩⟩
 ·rw[r x (A7 i),y];exact e
 simp[big]
end
open PySem.Spec PyProof.Rows
structure Mi(hp:KF)(C:Addr)(f:Str):Prop where
 ex:∃(nm ql:Str) (N:Addr) (bs bm top:List GM) (sn:List Str) (sub:List GM) (b2:Bool) (b3:Option Bool) (dd:Option Addr) (k0 k1 k2 k3 k5:Option GM) (newId B sa owner:String) (mN:Str->Option GM) (nn:List Str),
  hp.get? C=some (excClassObj nm ql C N bs bm true sn sub b2 b3 dd k0 k1 k2 k3 k5 newId)/\hp.Ns N mN/\mN f=none/\mN "__setattr__"=none/\OT hp nn top bm/\f∈nn/\("__setattr__":Str)∈nn/\StoreFacts B top sa owner/\typeLookup (.type B) f=pure none
def MC(C x:Addr)(h:KF):Prop:=∃t,h.get? x=some {cls:=.ref C,data:=.fields #[.ref t,.none,.none,.none,.bool false,.none]}
def ND(C x a:Addr)(h:KF):Prop:=∃t,h.get? x=some {cls:=.ref C,dict:=some a,data:=.fields #[.ref t,.none,.none,.none,.bool false,.none]}
def ZJ(C:Addr)(a c:TE)(f:Str):TS:=λD σ H=>c σ H λy H1=>a σ H1 λv H2=>∃x,v=.ref x/\H2 x=some (.ext<|MC C x) /\
 ∀l,H2 l=none->x<l->D.nx σ (upd (upd H2 l<|.xd [(f,y)]) x<|.ext<|ND C x l)
variable {X:Cx}{f:Str}{pos pos':Pos}{qp:List (Addr×Obj)}{σ:L2.St}{H:Hp}
section
variable {o value:PP}{ta tv:TE}
def uO{y:V}{u:GM}(I:Inv X qp σ H s)(m:H x=some (.ext (MC C x)))(K:Mi s.heap C f)(G:RelV y u)(k:∀a s',H a=none->x<a->Inv X qp σ (upd (upd H a (.xd [(f,y)])) x (.ext (ND C x a))) s'->Q () s'):wpAny (IR X.prog X.w) A (setAttr (.ref x) f u) Q E s:=by
 obtain⟨nm,ql,N,bs,bm,top,sn,sub,b2,b3,dd,k0,k1,k2,k3,k5,newId,B,sa,owner,mN,nn,at_,ns,no,M,T,hm,W,J,e⟩:=K.ex;obtain⟨⟨t,h⟩,_,_⟩:=I.hok x _ m;have n:=An h;have xs:s.heap.objs.size≠x:=A0 n;have i:H s.heap.objs.size=none:=I.hok.fresh (Ah _);obtain⟨r,S,U,tk,os⟩:=s;refine yY J T hm W at_ ns no M e h rfl (by intro c z;cases z) rfl λv l L Y Z=>?_;refine k r.objs.size _ i n ?_
 have nf:({cls:=.ref C,data:=.fields #[.ref t,.none,.none,.none,.bool false,.none]}:Obj).isFreed=false:=rfl;have u1:(v.update x λ_=>{cls:=.ref C,data:=.fields #[.ref t,.none,.none,.none,.bool false,.none]}).get? x=some {cls:=.ref C,data:=.fields #[.ref t,.none,.none,.none,.bool false,.none]}:=Bg _ L nf;have j:∀b,b≠x->(v.update x λ_=>{cls:=.ref C,data:=.fields #[.ref t,.none,.none,.none,.bool false,.none]}).get? b=v.get? b:=λb o=>AO _ _ (A7 o);generalize (v.update x λ_=>{cls:=.ref C,data:=.fields #[.ref t,.none,.none,.none,.bool false,.none]})=F at *;have kp:∀b q,r.get? b=some q->F.get? b=some q:=λb q z=>by
  by_cases o:b=x
  ·rw[o]at z ⊢;rw[u1];exact h.symm.trans z
  rw[j b o];exact Z b q o z
 have I1:Inv X qp σ (upd H r.objs.size (.xd [(f,y)])) ⟨F,S,U,l,os⟩:=I.laid (t':=l) kp (Ah _) ⟨_,Y.at λq z=>(j _ xs).trans z,λg=>by
  show KI (EC g [(f,y)]) _;by_cases q:g=f
  ·rw[if_pos q,q];simp[EC];exact G
  ·rw[if_neg q];have:(g==f)=false:=by simpa using q
   simp[EC,this]
   trivial⟩
 have mu:Sq (upd H r.objs.size (.xd [(f,y)]) x):=by rw[HR (A7 xs),m];exact Cf
 exact I1.write (x:=x) (e:=x) (t':=l) mu (.inl rfl) (λb q o z=>(j b o).symm.trans z) ⟨_,L⟩ ⟨⟨t,L⟩,⟨_,L⟩,λg1 g2 z kk=>by obtain⟨t',z⟩:=z;exact⟨t',kk _ z⟩⟩
def pI(a:∀h:KF,X.K.In h->Mi h C f)(c:PE X o ta)(e:PE X value tv)(g:swapsWith value (some<|.Attribute o f pos') pos.line X.env=pure false):PS X (.Assign [.Attribute o f pos'] value pos) (ZJ C ta tv f):=by intro qp s σ H D I h;refine plainObj_wpAny_Assign_Attribute (HA (e qp s σ H _ I h) λu s1 ⟨y,H1,l,r,q⟩=>HA (c qp s1 σ H1 _ l q) ?_) g;rintro w s2 ⟨v,H2,I2,rx,x,ex,A,E⟩;subst ex;obtain rfl:w=Ax x:=rx;exact uO I2 A (a _ I2.kIn) r λL s3 M Q T=>⟨σ,_,T,E L M Q⟩
end
structure Kv(hp:KF)(C f:Addr):Prop where
 ex:∃(nm ql:Str) (N:Addr) (bs bm bmB bmN:List GM) (b1:Bool) (sn:List Str) (sub:List GM) (b2:Bool) (b3:Option Bool) (dd:Option Addr) (k0 k1 k2 k3 k5:Option GM) (newId B Bn nid initId inN:String) (mN:Str->Option GM) (oF:Obj),
  ExcBaseFacts Bn newId inN bmN/\bmB.contains (.type Bn)=true/\ExcBaseFacts B nid initId bmB/\OwnTail hp bmB bm/\hp.get? C=some (excClassObj nm ql C N bs bm b1 sn sub b2 b3 dd k0 k1 k2 k3 k5 newId)/\hp.Ns N mN/\mN "__init__"=some (.ref f)/\hp.get? f=some oF/\oF.cls=.type "function"
def ZA(b:Nat)(C:Addr)(sp:Sp)(t:TA):TE:=λσ H Q=>t σ H λvs H1=>vs.length<=1000/\∀x,H1 x=none->b<=x->sp (.ref x::vs) (upd H1 x<|.ext<|MC C x) (λv H2=>v=.non/\Q (.ref x) H2) E0
variable {y:Str}{fd:FuncData}{ps:List Str}{sp:Sp}{k:Nat}{us:List GM}{p:Pos}{e:PP}
section
variable {f:Addr}{Q:VK}{vs:List V}{es:List PP}{t:TA}
def wF(c:∀h:KF,X.K.In h->Kv h C f)(F:Ja X.prog X.w X.K X.mg X.base Lu k f fd ps sp)(g:HK (k+1) X.A)(i:Binds X.K fd ps [])(I:Inv X qp σ H s)(r:Vals vs us)(a:vs.length<=1000)(h:∀x,H x=none->X.s₀.heap.objs.size<=x->sp (.ref x::vs) (upd H x<|.ext<|MC C x) (λv H2=>v=.non/\Q (.ref x) H2) E0):wpAny (IR X.prog X.w) X.A (call (.ref C) us) (EP X qp σ Q) X.xe s:=by
 obtain⟨nm,ql,N,bs,bm,j,n,b1,sn,sub,b2,b3,dd,k0,k1,k2,k3,k5,newId,B,Bn,G,l,J,mN,oF,S,U,Y,T,at_,ns,own,o,y⟩:=(c _ I.kIn).ex;obtain⟨hp,Z,dr,E,os⟩:=s;have lu:us.length=vs.length:=r.length.symm;refine znd S U Y T at_ ns own o y (λh' x hle m=>?_) (by rw[lu];exact B3 (zma a));have hx:H x=none:=I.hok.fresh hle;obtain⟨t',L,_,_⟩:=m.there;have I2:Inv X qp σ (upd H x<|.ext<|MC C x) ⟨h',Z,dr,E,os⟩:=I.laid (t':=E) m.keeps hle ⟨⟨t',L⟩,⟨_,L⟩,λg1 g2 z kk=>by obtain⟨t2,z⟩:=z;exact⟨t2,kk _ z⟩⟩
 have M:=h x hx<|Ar I.sz hle;have W:Vals (V.ref x::vs) (Ax x::us):=.cons rfl r;have hl:(Ax x::us).length=ps.length:=by have q:=W.length;rw[F.len _ _ _ _ M]at q;exact q.symm
 have r3:Vals (V.ref x::vs) (Ax x::us++[]):=by rw[Am];exact W
 refine DW<|Dl (F.run _ X.stack _ _ ⟨Ax x::us,[]⟩ (Ax x::us++[]) _ _ E0 (g.make C us []) (I2.env0.make C us []) (i _ (Ax x::us) I2.kIn (by rw[Am];exact hl)) r3 M) λrr s' z=>?_
 cases rr with
 |error e=>exact False.elim z
 |ok fl=>
  cases fl with
  |ret u=>
   obtain⟨v,H',I3,rv,ev,q3⟩:=I2.after z;subst ev;exact⟨rv,⟨V.ref x,H',I3,rfl,q3⟩⟩
  |next=>exact False.elim z
  |brk=>exact False.elim z
  |cont=>exact False.elim z
def oU(i:∀h:KF,X.K.In h->Kv h C f)(a:BH X.K (.ref C)=true)(F:Ja X.prog X.w X.K X.mg X.base Lu k f fd ps sp)(j:HK (k+1) X.A)(m:Gl X y)(hm:X.mg y=some (.ref C))(n:Binds X.K fd ps [])(z:PA X (e::es) t) (c:(y==("__debug__":Str))=false:=by decide) (he:Qqb X.env e es:=by rfl) (g:Qqc pos es X.env:=by rfl):
  PE X (.Call (.Name y p) (e::es) [] pos) (ZA X.s₀.heap.objs.size C sp t):=by
 intro qp s σ H Q I h;refine BX<|Vm I m hm ?_ c;refine DJ (h₀:=X.base) I.ok.mod.kin a (HA (z pos qp s σ H _ I h) λus s1 ⟨vs,H1,I1,r,l,q⟩=>⟨I1.kIn,?_⟩) he g;exact wF i F j n I1 r l q
end
structure JT(hp:KF)(C:Addr):Prop where
 ex:∃(nm ql:Str) (N:Addr) (bs bm:List GM) (b1:Bool) (sn:List Str) (sub:List GM) (b2:Bool) (b3:Option Bool) (dd:Option Addr) (k0 k1 k2 k3 k5:Option GM) (newId:String),
  hp.get? C=some (excClassObj nm ql C N bs bm b1 sn sub b2 b3 dd k0 k1 k2 k3 k5 newId)/\bm.contains (.type "BaseException")=true
def rS(C:Addr)(X:Cx)(a:TE):TS:=λ_ σ H=>a σ H λv H1=>∃x f,v=.ref x/\H1 x=some (.ext<|ND C x f)/\∀qp e,Inv X qp σ H1 e->X.xe (.ref x) e
def Xj(C:Addr)(f:Str):Sp:=λvs H Q _=>∃x y,vs=[.ref x,y]/\H x=some (.ext<|MC C x)/\∀e,H e=none->x<e->Q .non (upd (upd H e<|.xd [(f,y)]) x<|.ext<|ND C x e)
section
variable {ex:PP}{te:TE}
def zM(a:∀h:KF,X.K.In h->JT h C)(c:X.calm=true)(he:PE X ex te):PS X (.Raise (some ex) none pos) (rS C X te):=by intro qp s σ H D I h;obtain⟨nm,e,N,bs,bm,b1,sn,sub,f,l,o,r,w,y,A,E,newId,at_,L⟩:=(a _ I.ok.mod.kin).ex;refine zj5 (nm:=nm) (ql:=e) (C:=C) (N:=N) (bs:=bs) (bm:=bm) (b1:=b1) (sn:=sn) (sub:=sub) (b2:=f) (b3:=l) (dd:=o) (k0:=r) (k1:=w) (k2:=y) (k3:=A) (k5:=E) (newId:=newId) L (I.ok.hd c)<|HA (he qp s σ H _ I h) ?_;rintro u s1 ⟨v,H1,I1,M,x,Q,rfl,T,q⟩;obtain rfl:u=Ax x:=M;obtain⟨⟨t,W⟩,_,_⟩:=I1.hok x _ T;exact⟨x,t,some Q,rfl,I1.bk _ _ at_,W,q qp s1 I1⟩
end
variable {P:Os}{K:Ac}{mg:Str->Option GM}{qual:Str}{st:SZ}{fa:Addr}
def uA{x c g:Str}{i j:Pos}(F:Nd K x qual st fa fd)(S:Iv [c,g] [c,g] (Jd st))(m:K9 st=[.Assign [.Attribute (.Name c i) f pos'] (.Name g j) pos])(n:∀h:KF,K.In h->Mi h C f) (v0:(Jd st).names.lookup c=some .local) (v1:(Jd st).names.lookup g=some .local) (z:(c==("__debug__":Str))=false) (B:(g==("__debug__":Str))=false) (G:(c==("__classdict__":Str))=false) (I:(g==("__classdict__":Str))=false)(hs:∀env,swapsWith (.Name g j) (some<|.Attribute (.Name c i) f pos') pos.line env=pure false):Ja P w K mg base Lu (k+1) fa fd [c,g] (Xj C f):=by
 refine F.ok S (λvs H Q E ⟨x,y,e,_⟩=>by rw[e];rfl) λl A outer s H vs Q E L h=>?_;rw[m];refine⟨_,Ya<|pI (C:=C) n (pv 0 rfl (.inl v0) z G) (pv 1 rfl (.inl v1) B I)<|hs _,?_⟩;obtain⟨a,y,rfl,o,q⟩:=h;exact⟨y,rfl,.ref a,rfl,a,rfl,o,λr u v=>q r u v⟩
open PySem.W
def Ma(C x a:Addr)(h:KF):Prop:=∃ws,h.get? x=some {cls:=.ref C,dict:=some a,data:=.fields ws}
structure MN(P:Os)(w:Re)(C:Addr)(f:Str)(outer:List Env)(H:Hp)(s:Shared)(E:XK)(x dx T:Addr)(n:Int)(H':Hp)(s':Shared):Prop where
 at_:H' x=some (.ext (Ma C x dx))
 dict:H' dx=some (.xd [(f,.int n)])
 tr:∃ws oT ts,s'.heap.get? x=some {cls:=.ref C,dict:=some dx,data:=.fields ws}/\ws[1]?=some (.ref T)/\T≠x/\s'.heap.get? T=some oT/\oT.data=.fields ts/\ts[3]?=some .none
 free:H' T=none
 new:s.heap.objs.size<=x/\s.heap.objs.size<=T/\s.heap.objs.size<=dx
 os:s'.os=s.os
 bare:AllBare s'.gens
 un:Un (MK outer) [] H H' s.heap s'.heap
 hok:JX P w H' s'.heap
 wish:E (.int n 0) none H'
def JN(P:Os)(w:Re)(C:Addr)(f:Str):Oi:=λouter H s E e l=>∃x o T n r,e=.ref x/\MN P w C f outer H s E x o T n r l
variable {N:List Str}{scope:Scope}{cd:GM}{s0:Shared}{H0:Hp}{dx:Addr}{n:Int}
section
variable {s1:Shared}{H1:Hp}{E:XK}
def zlS(I:Inv (HJ (JN P w C f) P w K mg base N qual scope fa cd A outer s0 H0 E) qp σ H1 s1)(h:H1 x=some (.ext<|ND C x dx))(i:H1 dx=some (.xd [(f,.int n)]))(old:s0.heap.objs.size<=x)(j:s0.heap.objs.size<=dx)(k:E (.int n 0) none (upd H1 x<|.ext<|Ma C x dx)):(HJ (JN P w C f) P w K mg base N qual scope fa cd A outer s0 H0 E).xe (.ref x) s1:=by
 obtain⟨⟨t,ox⟩,_,_⟩:=I.hok x _ h;have W:dx≠x:=OS i h (by intro z;cases z);have fr:=I.ok.frames;have v:s1.heap.FunFrames base (envOfC qual scope s0.heap.objs.size fa cd::outer):=I.env0.funs;have X:∀b∈(envOfC qual scope s0.heap.objs.size fa cd::outer).filterMap (·.frame),H1 b=none:=I.env0.frf;have fun1:s1.heap.FunFrames (hideAll s1.heap (x::(envOfC qual scope s0.heap.objs.size fa cd::outer).filterMap (·.frame))) (envOfC qual scope s0.heap.objs.size fa cd::outer):=
  funFrames_hide v λenv he a hf=>Ak _ (List.mem_filterMap.mpr ⟨env,he,hf⟩)
 refine zja (L:=s0.heap.objs.size) fr fun1 rfl ox (λb o e=>of_hideAll _ e) (hideAll_none _ Al) rfl rfl λh' g=>?_;obtain⟨ws,T,oT,ts,g1,g2,⟨g3,B⟩,F,Z,g6,g7⟩:=g.err;have Tf:T∉(envOfC qual scope s0.heap.objs.size fa cd::outer).filterMap (·.frame):=λz=>by obtain⟨_,o,ho,M⟩:=g.frames.mem z;rw[Z]at ho;cases ho;exact M _ g6
 have T1:s1.heap.get? T=none:=by
  cases q:s1.heap.get? T with
  |none=>rfl
  |some o=>
   have:=hideAll_get (x::(envOfC qual scope s0.heap.objs.size fa cd::outer).filterMap (·.frame)) q (λz=>by
    rcases KM.mp z with z|z
    ·exact F z
    exact Tf z)
   rw[g3]at this;cases this
 have Q:s1.heap.objs.size<=T:=B T1;have stay:∀b o,b≠x->b∉(envOfC qual scope s0.heap.objs.size fa cd::outer).filterMap (·.frame)->s1.heap.get? b=some o->h'.get? b=some o:=λb o y hf z=>
  g.stays b o (hideAll_get _ z λq=>by
   rcases KM.mp q with q|q
   ·exact y q
   exact hf q)
 have U:=I.base;have sz:s0.heap.objs.size<=s1.heap.objs.size:=I.sz;have own:∀b o,s0.heap.get? b=some o->b≠x/\b≠s0.heap.objs.size:=λb o z=>⟨λq=>by have l:=An z;rw[q]at l;exact absurd l (Nat.not_lt.mpr old),Aw (An z)⟩
 have mem:∀b,b≠s0.heap.objs.size->b∉MK outer->b∉(envOfC qual scope s0.heap.objs.size fa cd::outer).filterMap (·.frame):=λb r s z=>by
  obtain⟨env,he,hf⟩:=List.mem_filterMap.mp z;rcases KM.mp he with rfl|he
  ·exact r (As hf).symm
  exact s<|List.mem_filterMap.mpr ⟨env,he,hf⟩
 have nx:∀b,H1 b=none->b≠x:=λb r q=>by rw[q,h]at r;cases r
 have nofr:∀b o,H1 b=some o->b∉(envOfC qual scope s0.heap.objs.size fa cd::outer).filterMap (·.frame):=λb o r z=>by rw[X b z]at r;cases r
 refine⟨x,dx,T,n,upd H1 x<|.ext<|Ma C x dx,rfl,KQ,by rw[HR W];exact i,⟨ws,oT,ts,g1,g2,F,Z,g6,g7⟩,by rw[HR F];exact I.hok.fresh Q,⟨old,Ar sz Q,j⟩,I.os,I.bare,?_,?_,k⟩
 ·refine⟨λb o z r s H=>?_,λb o z r s H=>?_,λb o z r H=>?_,λb o z H=>?_,λb xs r=>?_,λb o u r=>?_,λb ps r=>?_⟩
  ·exact stay b o (own b o z).1 (mem b (own b o z).2 s)<|U.keep b o z r s H
  ·obtain⟨sl,q⟩:=U.slot b o z r s H;obtain⟨_,G,q2,M⟩:=v.mem (b:=b) (by
    obtain⟨env,he,hf⟩:=List.mem_filterMap.mp s;exact List.mem_filterMap.mpr ⟨env,Ak _ he,hf⟩)
   rw[q]at q2;cases q2;obtain⟨My,J⟩:=g.rest b _ q M;exact⟨My,J⟩
  ·rw[HR (own b o z).1];exact U.free b o z r H
  ·obtain⟨G,q⟩:=U.there b o z H
   by_cases y:b∈(envOfC qual scope s0.heap.objs.size fa cd::outer).filterMap (·.frame)
   ·obtain⟨_,o3,J,M⟩:=v.mem y;obtain⟨sl,q4⟩:=g.rest b o3 J M;exact⟨_,q4⟩
   exact⟨G,stay b G (own b o z).1 y q⟩
  ·have s:=U.tups b xs r;rw[HR (OS s h (by intro z;cases z))];exact s
  ·have s:=U.frzs b o u r;rw[HR (OS s h (by intro z;cases z))];exact s
  obtain⟨m,s⟩:=U.tbls b ps r;exact⟨m,by rw[HR (OS s h (by intro z;cases z))];exact s⟩
 ·intro b o z
  by_cases y:b=x
  ·subst y;rw[KQ]at z;cases z;exact⟨⟨ws,g1⟩,⟨_,g1⟩,λa1 a2 q kk=>by obtain⟨S,q⟩:=q;exact⟨S,kk _ q⟩⟩
  ·rw[HR y]at z;refine(I.hok b o z).stay (λc u hc q=>?_) (λc hc=>?_) (λc xs hc=>?_)
   ·have r:∃Y,H1 c=some Y:=by
     rcases hc with rfl|hc
     ·exact⟨_,z⟩
     exact⟨_,hc⟩
    obtain⟨Y,r⟩:=r;refine stay c u (λe=>?_) (nofr c Y r) q;rcases hc with rfl|hc
    ·exact y e
    rw[e,h]at hc;cases hc
   ·rw[HR (OS hc h (by intro z;cases z))];exact hc
   rw[HR (OS hc h (by intro z;cases z))];exact hc
end
variable {CX:Oi}{er:Int->D}{fld:Str}
def uT{x:Str}{f:Addr}(F:Nd K x qual st f fd)(S:Iv N ps (Jd st))(len:∀vs H Q E,sp vs H Q E->vs.length=ps.length)(c:∀(a:GM) (A:Around) (outer:List Env) (s:Shared) (H:Hp) (vs:List V) (Q:VK) (E:XK),HK k (A.deeper<|envOfC qual (Jd st) s.heap.objs.size f a)->sp vs H Q E ->
   ∃t,K1 (HJ CX P w K mg base N qual (Jd st) f a A outer s H E) (K9 st) t/\t {nx:=λ_ g=>Q .non g,rt:=Q} (start N vs) H):Ja P w K mg base CX (k+1) f fd ps sp:=by
 obtain⟨u,v,kV,doc,pm,an,a,y,n,rfl,o,e⟩:=F.ex;exact G4 o e S len λA outer s H vs Q E r l=>c a A outer s H vs Q E r l
def Z7{x:Str}{f:Addr}{m:MS}(g:∀i,er i≠.non)(F:Nd K x qual st f fd)(S:Iv N ps (Jd st))(c:∀(a:GM) (A:Around) (outer:List Env) (s:Shared) (H:Hp) (E:XK),HK k (A.deeper<|envOfC qual (Jd st) s.heap.objs.size f a) ->
   P6 (HJ (JN P w C fld) P w K mg base N qual (Jd st) f a A outer s H E) er (λi j=>E (.int i 0) none j) (K9 st) m):Ja P w K mg base (JN P w C fld) (k+1) f fd ps (ZG K er ps.length<|Jc N.length m):=by
 refine uT F S (λvs H Q E ⟨_,_,_,_,_,h,_⟩=>h) λa A outer s H vs Q E e h=>⟨_,c a A outer s H E e,?_⟩;exact nA (X:=HJ (JN P w C fld) P w K mg base N qual (Jd st) f a A outer s H E) g h
def XZ{io:List Addr}{st:Hf}{p:Addr}{o:HO}(S:Hv K H io st)(c:H p=none):Ext io [] H (upd H p o)/\Hv K (upd H p o) (io++[]) st:=by
 have E:Ext io [] H (upd H p o):=⟨λb u h _=>by rw[HR (Ka h c)];exact h,λb h=>absurd h (by simp),λb u v h=>by rw[HR (Ka h c)];exact h⟩
 refine⟨E,by rw[Am];exact S.len,by rw[Am];exact S.nd,λn a ob e f=>?_⟩;rw[Am]at e;obtain⟨u,l,_⟩:=(S.ob n a ob e f).stands;exact OR.mono (E.kp S) (by rw[HR (Ka l c)])<|S.ob n a ob e f
def OU(er:Int->D)(m:ME):MS:=λρ st=>(m ρ st).bind λ(d,s)=>match d with
 |.int n=>some (.rt (er n),s)
 |_=>none
section
variable {E:XK}{f:Addr}{m:ME}{cpos:Pos}
def zn6(B:∀i j,er i=er j->i=j)(G:∀h:KF,K.In h->Kv h C f)(J:∀h:KF,K.In h->JT h C)(c:BH K (.ref C)=true)(F:Ja P w K mg base Lu k f fd ps (Xj C fld)) (U:HK (k+1) (HJ (JN P w C fld) P w K mg base N qual scope fa cd A outer s0 H0 E).A) (Y:Gl (HJ (JN P w C fld) P w K mg base N qual scope fa cd A outer s0 H0 E) y) (hm:mg y=some (.ref C)) (a:Binds K fd ps [])(he:SE (HJ (JN P w C fld) P w K mg base N qual scope fa cd A outer s0 H0 E) e m) (Z:SA (HJ (JN P w C fld) P w K mg base N qual scope fa cd A outer s0 H0 E) [e] (Hc m mZ)) (g:(y==("__debug__":Str))=false)(z:SL [e] (HJ (JN P w C fld) P w K mg base N qual scope fa cd A outer s0 H0 E).env=(false,UV e (HJ (JN P w C fld) P w K mg base N qual scope fa cd A outer s0 H0 E).env)::SL [] (HJ (JN P w C fld) P w K mg base N qual scope fa cd A outer s0 H0 E).env):
  SX (HJ (JN P w C fld) P w K mg base N qual scope fa cd A outer s0 H0 E) er (λi H'=>E (.int i 0) none H') (.Raise (some<|.Call (.Name y p) [e] [] cpos) none pos) (OU er m):=by
 refine PS.imp (zM (C:=C) J rfl<|oU (pos:=cpos) G c F U Y hm a Z g z rfl) λD σ H h=>?_;obtain⟨ρ,st,io,fl,st',En,S,l,W⟩:=h;obtain⟨⟨d,s1⟩,X,l⟩:=Hu l
 cases d with
 |int n=>
  cases l;have e2:Hc m mZ ρ st=some ([.int n],st'):=by show(m ρ st).bind _=_;rw[X];rfl
  refine⟨ρ,st,io,_,st',En,S,e2,λvs H1 ka X1 M R1=>?_⟩;obtain⟨v,s,rfl,hv,r⟩:=R1;cases (show s=[] from r)
  cases (show v=.int n from hv)
  refine⟨by simp,λx hx hle=>⟨x,.int n,rfl,KQ,λdx Q r=>⟨rfl,x,dx,rfl,KQ,λqp s' I=>?_⟩⟩⟩;have u:dx≠x:=A0 r;have L:H1 dx=none:=by rw[HR u]at Q;exact Q
  refine zlS I KQ (by rw[HR u,KQ]) hle (Ar hle<|B3 r) ?_;have q:upd (upd (upd (upd H1 x<|.ext<|MC C x) dx<|.xd [(fld,.int n)]) x<|.ext<|ND C x dx) x (.ext<|Ma C x dx)=upd (upd H1 dx<|.xd [(fld,.int n)]) x (.ext<|Ma C x dx):=by
   funext b
   unfold upd;by_cases a:b=x
   ·simp[a]
   simp[a]
  rw[q];obtain⟨X2,T⟩:=XZ (o:=.xd [(fld,.int n)]) M L;obtain⟨X3,S3⟩:=XZ (p:=x) (o:=.ext (Ma C x dx)) T (by rw[HR (A7 u)];exact hx);have X4:=(X1.trans M X2).trans (by rw[<-Ao];exact T) (by rw[<-Ao];exact X3);refine W.x n rfl _ _ X4 ?_;rw[<-Ao,<-Ao];exact S3
 |_=>cases l
end
section
variable {h':KF}
def eO(I:Inv X qp σ H s)(a:H x=some (.ext<|Ma C x dx))(h:H T=none)(new:X.s₀.heap.objs.size<=T)(nl:T≠X.env.locals)(i:∀y c,X.env.cells.lookup y=some c->c≠T)(np:∀p∈X.pn++qp,p.1≠T)(g:OP (hideAll s.heap (x::T::X.stack.filterMap (·.frame))) X.stack x o s.heap h') (ox:s.heap.get? x=some o):Inv X qp σ H {s with heap:=h'}:=by
 obtain⟨v,M⟩:=(I.hok x _ a).1;have N:o={cls:=.ref C,dict:=some dx,data:=.fields v}:=As<|ox.symm.trans M;obtain⟨ws,G,oT,ts,g1,_⟩:=g.err;have stay:∀b q,b≠x->b≠T->b∉X.stack.filterMap (·.frame)->s.heap.get? b=some q->h'.get? b=some q:=λb q f r l z=>
  g.stays b q (hideAll_get _ z λm=>by
   rcases KM.mp m with m|m
   ·exact f m
   ·rcases KM.mp m with m|m
    ·exact r m
    exact l m)
 have w:∀b∈X.stack.filterMap (·.frame),H b=none:=I.env0.frf;have Q:∀b,H b=none->b≠x:=λb f q=>by rw[q,a]at f;cases f
 have W:∀b q,H b=some q->b≠T:=λb q f z=>by rw[z,h]at f;cases f
 refine I.call (h':=h') (g':=s.gens) (d':=s.drawn) (t':=s.toks) (ch:=[T]) ⟨λb q z f r l=>?_,λb q z f r l=>?_,λb q z f l=>f,λb q z l=>?_,λb xs f=>f,λb q u f=>f,λb ps f=>⟨#[],by rw[f];simp⟩⟩ ?_ I.bare λb z=>?_
 ·exact stay b q (Q b f) (λe=>l (by rw[e];exact On.mpr rfl)) r z
 ·obtain⟨_,j,n,A⟩:=I.env0.funs.mem r;rw[z]at n;cases n;exact g.rest b _ z A
 ·by_cases hb:b∈X.stack.filterMap (·.frame)
  ·obtain⟨_,j,n,A⟩:=I.env0.funs.mem hb;obtain⟨J,B⟩:=g.rest b _ n A;exact⟨_,B⟩
  ·by_cases e:b=x
   ·rw[e];exact⟨_,g1⟩
   exact⟨q,stay b q e (λe=>l (by rw[e];exact On.mpr rfl)) hb z⟩
 ·intro b q z
  by_cases e:b=x
  ·subst e;rw[a]at z;cases z;rw[N]at g1;exact⟨⟨ws,g1⟩,⟨_,g1⟩,λa1 a2 q F=>by obtain⟨E,q⟩:=q;exact⟨E,F _ q⟩⟩
  ·refine(I.hok b q z).stay (λc u hc n=>?_) (λc hc=>hc) λc xs hc=>hc;have f:∃K,H c=some K:=by
    rcases hc with rfl|hc
    ·exact⟨_,z⟩
    exact⟨_,hc⟩
   obtain⟨K,f⟩:=f;refine stay c u (λL=>?_) (W c K f) (λm=>by rw[w c m]at f;cases f) n
   rcases hc with rfl|hc
   ·exact e L
   rw[L,a]at hc;cases hc
 rw[On.mp z];exact⟨.inr new,nl,i,np⟩
end
variable {W:Qqa}
section
variable {H':Hp}{s':Shared}{E:XK}{np hpos:Pos}{st0:SZ}{more:List SZ}{rest:List ExceptHandler}{Q:Flow->Shared->Prop}
def landed{R:Shared->Prop}(i:X.stack=X.env::X.outer)(hf:X.env.frame=some X.env.locals)(I:Inv X qp σ H s)(Th:MN X.prog X.w C f X.stack H s E x dx T n H' s')(k:∀s2,Inv X qp σ H' s2->(∀(M:Model) (A:Around) (E:Qqa) (Q:Unit->Shared->Prop),(∀s3,Inv X qp σ H' s3->Q () s3)->wpAny M A (setFlight (.ref x) none) Q E s2) ->
   (∃T2 ws oT ts,(s2.heap.get? x=some {cls:=.ref C,dict:=some dx,data:=.fields ws}/\ws[1]?=some (.ref T2)/\T2≠x/\s2.heap.get? T2=some oT/\oT.data=.fields ts/\ts[3]?=some .none)/\H' T2=none/\s.heap.objs.size<=T2)->R s2):
  wpAny (IR X.prog X.w) X.A (noteFrame (.ref x) X.env) (λ_ s2=>wpAny (IR X.prog X.w) X.A (setFlight (.ref x) none) (λ_ s3=>R s3) W s2) W s':=by
 have I1:Inv X qp σ H' s':=I.call' Th.os Th.un Th.hok Th.bare λb z=>absurd z (by simp);obtain⟨ws,oT,ts,U,w1,Tx,Y,dT,t3⟩:=Th.tr;have fr:=I.ok.frames;rw[i]at fr;have L:X.s₀.heap.objs.size<=s.heap.objs.size:=I.sz;obtain⟨m0,N,_⟩:=I.loc;have ll:X.env.locals<s.heap.objs.size:=N.lt;have lc:∀z c,X.env.cells.lookup z=some c->c<s.heap.objs.size:=λz c h=>by obtain⟨v,q⟩:=I.cell z c h;exact q.lt
 have lp:∀p∈X.pn++qp,p.1<s.heap.objs.size:=λp u=>An (I.pin p u).1;have y:∀T2:Addr,s.heap.objs.size<=T2->X.s₀.heap.objs.size<=T2/\T2≠X.env.locals/\(∀z c,X.env.cells.lookup z=some c->c≠T2)/\∀p∈X.pn++qp,p.1≠T2:=λT2 h=>
  ⟨Ar L h,A0<|Ay ll h,λz c q=>Aw (Ay (lc z c q) h),λp u=>Aw (Ay (lp p u) h)⟩
 have hide:∀{u:KF}{T2:Addr},u.FunFrames X.base X.stack->u.FunFrames (hideAll u (x::T2::X.stack.filterMap (·.frame))) X.stack:=λh=>funFrames_hide h λenv he a hf=>Ak _<|Ak _<|List.mem_filterMap.mpr ⟨env,he,hf⟩;have K:=hide (T2:=T) I1.env0.funs;obtain⟨c1,c2,c3,c4⟩:=y T Th.new.2.1;refine zmE (base:=hideAll s'.heap (x::T::X.stack.filterMap (·.frame))) (outer:=X.outer) fr (by rw[i]at K ⊢;exact K) hf U (λb o e=>of_hideAll _ e) (hideAll_none _ Al) rfl w1 (hideAll_none _<|Ak _ Al) Tx Y dT t3 λh2 g=>?_;rw[<-i]at g;have I2:=eO I1 Th.at_ Th.free c1 c2 c3 c4 g U;obtain⟨j,T2,m,B,g1,g2,⟨g3,g3'⟩,F,G,J,Z⟩:=g.err;have Tf:T2∉X.stack.filterMap (·.frame):=λz=>by obtain⟨_,o,ho,nf⟩:=g.frames.mem z;rw[G]at ho;cases ho;exact nf _ J
 have r:s.heap.objs.size<=T2/\H' T2=none:=by
  by_cases e:T2=T
  ·rw[e];exact⟨Th.new.2.1,Th.free⟩
  ·have z:s'.heap.get? T2=none:=by
    cases q:s'.heap.get? T2 with
    |none=>rfl
    |some o=>
     have:=hideAll_get (x::T::X.stack.filterMap (·.frame)) q (λz=>by
      rcases KM.mp z with z|z
      ·exact F z
      ·rcases KM.mp z with z|z
       ·exact e z
       exact Tf z)
     rw[g3]at this;cases this
   have sz:s.heap.objs.size<=s'.heap.objs.size:=by have:=An Y;exact Ar Th.new.2.1<|B3 this
   exact⟨Ar sz<|g3' z,I1.hok.fresh<|g3' z⟩
 obtain⟨e1,e2,e3,e4⟩:=y T2 r.1;have S:=hide (T2:=T2) I2.env0.funs;refine k _ I2 (λM A E Q q=>?_) ⟨T2,j,m,B,⟨g1,g2,F,G,J,Z⟩,r.2,r.1⟩;refine zj3 (base:=hideAll h2 (x::T2::X.stack.filterMap (·.frame))) (l:=X.stack) (λb o e=>of_hideAll _ e) S g1 rfl g2 (hideAll_none _<|Ak _ Al) F G J Z λh3 g'=>?_;exact q _<|eO I2 Th.at_ r.2 e1 e2 e3 e4 g' g1
end
section
variable {E:XK}{Q:VK}{vs:List V}
def yG(F:Ja X.prog X.w X.K X.mg X.base CX k fa fd ps sp)(a:HK k X.A)(c:Binds X.K fd ps [])(I:Inv X qp σ H s)(r:Vals vs us)(h:sp vs H Q E)(g:∀e s',CX X.stack H s E e s'->W e s'):
  wpAny (IR X.prog X.w) X.A (call (.ref fa) us) (EP X qp σ Q) W s:=by
 have f:(us++[]).length=ps.length:=by rw[Am,<-r.length];exact F.len _ _ _ _ h
 have l:Vals vs (us++[]):=by rw[Am];exact r
 refine DW<|Dl (F.run X.A X.stack s H ⟨us,[]⟩ (us++[]) vs Q E a I.env0 (c s us I.kIn f) l h) λn s' z=>?_
 cases n with
 |error e=>exact g e s' z
 |ok o=>
  cases o with
  |ret u=>exact I.after z
  |next=>exact False.elim z
  |brk=>exact False.elim z
  |cont=>exact False.elim z
end
end L2.MP
namespace L2.MP
open PySem PySem.W PyProof.Rows Builtin.ObjectAttr
structure Pd(K:Frag)(C:Addr):Prop where
 ga:findIn K (.ref C) "__getattribute__"=some (some (.builtin "BaseException.__getattribute__"))
 hk:findIn K (.ref C) "__getattr__"=some none
 cl:findIn K (.ref C) "__class__"=some (some (.builtin "object.__class__"))
 gs:specialIn K (.builtin "object.__class__") "__get__"=some (some (.builtin "getset_descriptor.__get__"))
 tk:takesIn K (.builtin "object.__class__")=some true
 mo:mroIn K C (.type "object")=some true
 mb:mroIn K C (.type "BaseException")=some true
variable {expr:Bool}{Q:Qqa}{v:GM}
section
variable {prog:Os}{w:Re}{A:Around}{E:Qqa}{s:Shared}{K:Frag}{x C:Addr}{ox:Obj}{od:Option Obj}{name:Str}{tk:Tok}
def bL{fill:Bool}(Z:Pd K C)(X:K.In s.heap)(I:InstAt s.heap x ox C od)(h:wpAny (IR prog w) A.in1 (Builtin.«object.__getattribute__» ⟨[.ref x,.str name tk],[]⟩) (λfin s'=>match fin with|.done (.ret v)=>handedIn v=true/\Q v s'|_=>False) (λ_ _=>False) s):
  wpAny (IR prog w) A (getAttrBy (.ref x) (.str name tk) fill expr) Q E s:=by
 obtain⟨l,g,d,t,os⟩:=s;have L0:=I.type (M:=IR prog w);have L1:=looks_findIn (M:=IR prog w) X Z.ga;have L2:=looks_findIn (M:=IR prog w) X Z.hk;have o:Looks (IR prog w) l (isInstance (.ref x)<|.type "BaseException") true:=L0.andThen<|looks_mroIn X Z.mb;have bd:=F.excAttr_ValueError.ga.bind<|.ref x;have c:(expr&&onTheHeap (Cc "BaseException.__getattribute__"))=false:=by cases expr<;>rfl
 have r:(Cc "BaseException.__getattribute__"==Cc "object.__getattribute__")=false:=by decide +kernel
 have e:(onTheHeap (Ax C)&&Cc "BaseException.__getattribute__"==Cc "object.__getattribute__")=false:=by rw[r];rfl
 repeat (any_goals (first|assumption|(with_reducible refine Bw I.at_ ?_;rw[I.cls])|with_reducible refine L1.here ?_|with_reducible refine L2.here ?_|wp_step))
 have u:builtinKind "BaseException.__getattribute__"=some .slot:=by decide +kernel
 have sp:splitId "BaseException.__getattribute__"=some ("BaseException","__getattribute__"):=by decide +kernel
 refine ET F.excAttr_ValueError.ga.plain F.entry_bexc_ga ?_;have y:=F.args_bexc_ga (.ref x)<|.str name tk;show wpAny _ _ (checkBuiltinCall "BaseException.__getattribute__" ⟨.ref x::[.str name tk],[]⟩) _ _ _;refine check_slot (s:=⟨l,g,d,t,os⟩) (i:="BaseException.__getattribute__") (owner:="BaseException") (n:="__getattribute__") (self:=.ref x) (rest:=[.str name tk]) (kw:=[]) u sp o y ?_;refine A6 h (λfin s' z=>?_) λ_ _ z=>z.elim
 rcases fin with(_|_|_|v)|_<;>first|exact z.elim|skip
 obtain⟨W,a⟩:=z;show wpAny _ _ (handedOut _) _ _ _;rw[handedOut_of W];exact Ae a
def xC{Q:Fin->Shared->Prop}(X:K.In s.heap)(I:InstAt s.heap x ox C od)(hf:findObj K C od name=some (.value v))(h:Q (.done<|.ret v) s):
  wpAny (IR prog w) A (Builtin.«object.__getattribute__» ⟨[.ref x,.str name tk],[]⟩) Q E s:=by
 obtain⟨l,g,d,t,os⟩:=s;have L0:=I.type (M:=IR prog w);have L1:=looks_find (M:=IR prog w) X I hf;refine Ab<|Ae<|Ab<|Ae<|Ab<|L0.at<|Ab<|L1.at ?_;exact Ae h
def tU{ge a:GM}{Q:Fin->Shared->Prop}(X:K.In s.heap)(I:InstAt s.heap x ox C od)(hf:findObj K C od name=some (.bind ge a))(h:wpAny (IR prog w) A (call ge [a,.ref x,.ref C]) (λv s'=>Q (.done<|.ret v) s') E s):
  wpAny (IR prog w) A (Builtin.«object.__getattribute__» ⟨[.ref x,.str name tk],[]⟩) Q E s:=by
 obtain⟨l,g,d,t,os⟩:=s;have L0:=I.type (M:=IR prog w);have L1:=looks_find (M:=IR prog w) X I hf;refine Ab<|Ae<|Ab<|Ae<|Ab<|L0.at<|Ab<|L1.at ?_;show wpAny _ _ (holding [a] (call ge [a,.ref x,.ref C]) >>= ret) _ _ _;exact Ab<|Bf<|A6 h (λv s' z=>Ae z) λ_ _ z=>z
def zm0{Q:Option GM->Shared->Prop}(Z:Pd K C)(X:K.In s.heap)(I:InstAt s.heap x ox C od)(h:Q (some<|.ref C) {s with toks:=s.toks+1}):wpAny (IR prog w) A (getAttr? (.ref x) "__class__") Q E s:=by
 have l:(clsIn K C).isSome=true:=by
  have:=Z.mo;unfold mroIn at this;cases o:clsIn K C with
  |none=>rw[o]at this;cases this
  |some _=>rfl
 have hf:findObj K C od "__class__"=some (.bind (.builtin "getset_descriptor.__get__")<|.builtin "object.__class__"):=by obtain⟨cd,l⟩:=Option.isSome_iff_exists.mp l;unfold findObj;rw[l,Aa,Z.cl,Aa];simp[Z.gs,Z.tk]
 unfold getAttr? getAttrBy?;refine Ab<|wpAny_mkText<|Ab<|C8<|bL (s:={s with toks:=s.toks+1}) Z X I<|tU (s:={s with toks:=s.toks+1}) X I hf<|DW<|class_get (s:={s with toks:=s.toks+1}) X I Z.mo ?_;exact⟨rfl,Ae h⟩
def wV(Z:Pd K C)(X:K.In s.heap)(I:InstAt s.heap x ox C od)(hf:findObj K C od name=some (.value v))(a:handedIn v=true)(h:Q v {s with toks:=s.toks+1}):wpAny (IR prog w) A (getAttr (.ref x) name expr) Q E s:=by unfold getAttr;exact Ab<|wpAny_mkText<|bL (s:={s with toks:=s.toks+1}) Z X I<|xC (s:={s with toks:=s.toks+1}) X I hf ⟨a,h⟩
def fF(Z:Pd K C):KitX K (.ref x) (.ref C) (λh=>∃ox od,InstAt h x ox C od) where
 ty:=λ_ _ _ ⟨_,_,I⟩=>I.type
 it:=λ_ _ X _=>by
  have:=Z.mo;unfold mroIn clsIn at this;split at this
  ·rename_i l;intro u v w y k q;unfold isType loadHead;exact Ab<|wpAny_loadPart (k _ _<|X _ _ l)<|Ae q
  ·cases this
 ne:=λh r A s n E X o=>by
  have:=Z.mo;refine Bool.eq_false_iff.mpr λq=>?_;have e:C=r:=Value.ref.inj<|beq_iff_eq.mp q;subst e;unfold mroIn clsIn at this
  split at this
  ·rename_i l;have z:=(X _ _ l).symm.trans o;cases z
  ·cases this
 ca:=λX ⟨_,_,I⟩ k=>zm0 Z X I k
end
end L2.MP
namespace L2.MP
open PySem PySem.W
open PySem.Spec PyProof.Rows
structure PlainAt(hp:KF)(C:Addr):Prop where
 ex:∃(nm ql:Str) (N:Addr) (bs bm bmB bmN:List GM) (b1:Bool) (sn:List Str) (sub:List GM) (b2:Bool) (b3:Option Bool) (dd:Option Addr) (k0 k1 k2 k3 k5:Option GM) (newId B Bn nid initId inN:String) (mN:Str->Option GM),
  ExcBaseFacts Bn newId inN bmN/\bmB.contains (.type Bn)=true/\ExcBaseFacts B nid initId bmB/\OwnTail hp bmB bm/\hp.get? C=some (excClassObj nm ql C N bs bm b1 sn sub b2 b3 dd k0 k1 k2 k3 k5 newId)/\hp.Ns N mN/\mN "__init__"=none
def Mf(t:Str->Str->Option Bool)(c:Str):List D->Option Bool
 |[]=>some false
 |d::ds=>match d with
  |.fn y=>(t c y).bind λb=>if b=true then some true else Mf t c ds
  |_=>none
def Qm(t:Str->Str->Option Bool):GN:=λds st=>match ds with
 |[.er true c _,.fn y]=>(t c y).map λb=>(.bl b,st)
 |[.er true c _,.tup (.fn y::l)]=>(Mf t c (.fn y::l)).map λb=>(.bl b,st)
 |_=>none
def NA(ok:Str->Bool)(f:Str)(m:ME):ME:=λρ st=>(m ρ st).bind λ(d,s)=>match d with
 |.er true c (some (g,n))=>if g=f/\ok c=true then some (.int n,s)else none
 |_=>none
def Rk(K:Frag)(t:Str->Str->Option Bool):Prop:=∀c y b C D,t c y=some b->KJ K c C->KJ K y D->Pd K C/\kitOne K (.ref C) (.ref D)=some b
def mG(K:Frag)(T:String)(t:Str->Option Bool):Prop:=∀c b C,t c=some b->KJ K c C->Pd K C/\kitOne K (.ref C) (.type T)=some b
def UT(K:Frag)(f:Str)(ok:Str->Bool):Prop:=∀c C,ok c=true->KJ K c C->Pd K C/\findIn K (.ref C) f=some none/\hasDictIn K C=true
variable {X:Cx}{qp:List (Addr×Obj)}{σ:L2.St}{H:Hp}{s:Shared}{io:List Addr}{st:Hf}{x C:Addr}{c:Str}{K:Frag}{t:Str->Str->Option Bool}
def Inv.er{a:Option Addr}{φ:KF->Prop}{o:Obj}{fs:Array GM}(I:Inv X qp σ H s)(f:H x=some (.ext φ))(g:s.heap.get? x=some o)(c:o.cls=.ref C)(d:o.dict=a)(e:o.data=.fields fs):Inv X qp σ (upd H x<|.frz o<|.ext<|Su C x a) s:=by
 have v:Inv X qp σ (upd H x<|.ext<|Su C x a) s:=I.write (x:=x) (e:=x) (h':=s.heap) (t':=s.toks) (by rw[f];exact Cf) (.inl rfl) (λb u _ q=>q) ⟨_,g⟩ ⟨⟨o,fs,g,c,d,e⟩,⟨_,g⟩,λE K ⟨w,l,y,r⟩ A=>⟨w,l,A _ y,r⟩⟩;have:=Inv.freeze v (d:=x) (o:=o) KQ g (by simp) (by simp) (by simp)<|by simp
 rwa [vN]at this
def dF{v:V}{f:Option (Str×Int)}(I:Inv X qp σ H s)(h:UR X.K H v c f):∃a C e i,v=.ref a/\KJ X.K c C/\InstAt s.heap a e C i:=by
 cases f with
 |none=>
  obtain⟨a,C,o,rfl,q,r⟩:=h;obtain⟨g,⟨l,fs,g1,u,w,x⟩,_⟩:=I.hok _ _ r;refine⟨a,C,l,none,rfl,q,g1,u,by unfold notCls;rw[x],?_⟩;rw[w];exact Cf
 |some p=>
  obtain⟨a,C,o,A,y,rfl,q,r,z⟩:=h;obtain⟨g,⟨l,fs,g1,u,w,x⟩,_⟩:=I.hok _ _ r;obtain⟨g2,_⟩:=I.hok _ _ z;refine⟨a,C,l,some y,rfl,q,g1,u,by unfold notCls;rw[x],?_⟩;rw[w];exact g2
theorem cV{K:Frag}{c:Str}{C:Addr}{t:Str->Str->Option Bool}(T:Rk K t)(a:KJ K c C){io:List Addr}:∀{ds:List D}{xs:List V}{us:List GM}{b:Bool},Mf t c ds=some b->Hh K H io xs ds->Vals xs us->kitAny K (.ref C) us=some b
 |[],xs,us,b,e,R,r=>by
  cases e;cases (show xs=[] from R)
  cases r;rfl
 |d::ds,xs,us,b,e,R,r=>by
  obtain⟨x,xs,rfl,f,R⟩:=R;cases r with
  |cons q r=>
   unfold Mf at e;split at e
   ·rename_i y;obtain⟨b1,l,e⟩:=Hu e;obtain⟨D,rfl,o⟩:=f;obtain rfl:=(show _=Ax D from q)
    have hk:=(T c y b1 C D l a o).2;unfold kitAny;rw[hk];cases b1 with
    |true=>cases e;rfl
    |false=>exact cV T a e R r
   ·cases e
def xP(T:Rk X.K t):Kz X (.builtin "isinstance") (Qm t):=by
 rintro qp s σ H xs us Q I r ⟨ds,st,io,d,st',R,S,e,k⟩;unfold Qm at e;split at e
 ·rename_i c f y;obtain⟨b,l,e⟩:=ID e;cases e;obtain⟨v1,v2,rfl,v,w⟩:=R.two;obtain⟨x,A,rfl,E,W⟩:=r.two;obtain⟨a,C,h,i,rfl,u,J⟩:=dF I v.2;obtain⟨D,rfl,j⟩:=w;obtain rfl:=(show x=Ax a from E)
  obtain rfl:=(show A=Ax D from W)
  obtain⟨Z,hk⟩:=T c y b C D l u j;exact kia_one (fF Z) I.kIn ⟨h,i,J⟩ hk (by intro z;cases z) λm=>⟨.bl b,H,I.tok m,rfl,k.now S rfl⟩
 ·rename_i c f y ys;obtain⟨b,l,e⟩:=ID e;cases e;obtain⟨v1,v2,rfl,v,w⟩:=R.two;obtain⟨x,A,rfl,E,W⟩:=r.two;obtain⟨a,C,h,i,rfl,u,J⟩:=dF I v.2;obtain⟨p,zs,rfl,F,q⟩:=w;obtain rfl:=(show x=Ax a from E)
  obtain rfl:=(show A=Ax p from W)
  obtain⟨G,L,⟨o,g,B,n,hd⟩,_⟩:=I.tuple<|Jg.of F;obtain⟨oc,M,da,sl⟩:=o;dsimp only at B hd;subst B hd;have Z:Pd X.K C:=by obtain⟨b1,N,_⟩:=Hu (show(t c y).bind _=_ from l);obtain⟨z,U,rfl,Y,_⟩:=q;obtain⟨D,_,j⟩:=Y;exact(T c y b1 C D N u j).1
  exact kia_tup (fF Z) I.kIn ⟨h,i,J⟩ g (cV T u l q L) (by intro z;cases z) λm=>⟨.bl b,H,I.tok m,rfl,k.now S rfl⟩
 ·cases e
variable {fld y:Str}{k:Nat}{e:PP}{p pos:Pos}
section
variable {f:Addr}{fd:FuncData}{ps:List Str}{m:ME}
def sI{ok:Str->Bool}(A:UT X.K fld ok)(he:SE X e m)(z:attributeBase e fld X.env (UV e X.env)=UV e X.env:=by rfl):SE X (.Attribute e fld pos) (NA ok fld m):=by
 rintro qp s σ H Q I ⟨ρ,st,io,d,st',En,S,i,B⟩;obtain⟨⟨d0,s1⟩,l,f⟩:=Hu i;clear i;dsimp only at f;split at f
 ·rename_i c g n
  split at f
  ·rename_i q;obtain⟨rfl,q⟩:=q;cases f;refine qV z<|HA (he qp s σ H (λv H1=>∃ka,Ext io ka H H1/\Hv X.K H1 (io++ka) st'/\Rep X.K H1 (io++ka) v (.er true c<|some (g,n))) I ⟨ρ,st,io,_,st',En,S,l,λv H1 ka r x F=>⟨ka,r,x,F⟩⟩) ?_;rintro u s2 ⟨v,H1,I1,G,ka,r,x,_,a,C,o,dx,o',rfl,L,M,hd⟩;obtain rfl:=(show u=Ax a from G)
   obtain⟨Z,N,T⟩:=A c C q L;obtain⟨g0,⟨U,fs,g1,Y,d1,l⟩,_⟩:=I1.hok _ _ M;obtain⟨g2,mA,ns,rl⟩:=I1.hok _ _ hd;obtain⟨j,y,lk⟩:=gF ns;have J:InstAt s2.heap a U C (some j):=⟨g1,Y,by unfold notCls;rw[l],by rw[d1];exact y⟩
   obtain⟨w,hw,E⟩:=KI.some_of (v:=.int n) (o:=mA g) (by have:=rl g;simpa[EC]using this);obtain⟨t,rfl⟩:=(show ∃t,w=Ee n t from E)
   obtain⟨cd,hc,h⟩:=any_some T;have hf:findObj X.K C (some j) g=some (.value<|.int n t):=by unfold findObj;rw[hc,Aa,N];simp only[Aa,PySem.W.ownOf];rw[if_pos h,lk,hw];rfl
   exact wV Z I1.kIn J hf rfl ⟨.int n,H1,I1.tok _,⟨t,rfl⟩,B _ _ _ r x rfl⟩
  ·cases f
 ·cases f
end
variable {A:Around}{i:Nat}{W:Qqa}
def Vl{M:Model}{E:Qqa}{x:Str}{Q:Unit->Shared->Prop}(I:Inv X qp σ H s)(g:X.N.Nodup)(hi:X.N[i]?=some x)(hk:X.env.scope.names.lookup x=some .local)(h:∀s',Inv X qp (σ.set i none) H s'->Q () s'):
  wpAny M A (do bindName X.env x .none;unbindBehindTheSuite X.env x pos) Q E s:=by
 obtain⟨m,a,B⟩:=id I.loc;have u:(X.env.scope.kind==.class || (X.env.scope.kind==.module&&X.env.locals != X.env.globals))=false:=by rw[I.ok.kind];rfl
 have hiσ:i<σ.length:=by rw[I.len];exact(KB.mp hi).1
 have cne:=I.cne;obtain⟨oL,_,_,F,_⟩:=id a;refine wpAny_nameGoes_keeps hk a u λG v K l=>?_;have far:∀{b:Addr}{o:Obj},X.s₀.heap.get? b=some o->b≠X.env.locals:=λe=>Aw<|Ay (An e) I.ok.above;have J:Inv X qp (σ.set i none) H {s with heap:=G}:=by
  refine⟨I.ok,I.os,I.bare,⟨λb o e n W w=>(l.2 b<|far e).trans (I.base.keep b o e n W w),λb o e n W w=>?_,I.base.free,λb o e w=>?_,I.base.tups,I.base.frzs,I.base.tbls⟩,⟨_,K,λj y L r C S=>?_⟩,λy c e=>?_,I.free,I.freeC,λp T=>?_,λb ob e=>?_,by simpa using I.len⟩
  ·obtain⟨U,r⟩:=I.base.slot b o e n W w;exact⟨U,(l.2 b<|far e).trans r⟩
  ·obtain⟨Y,r⟩:=I.base.there b o e w;exact⟨Y,(l.2 b<|far e).trans r⟩
  ·by_cases hj:j=i
   ·subst hj;rw[Ck hiσ]at C;cases C
   ·rw[AE (A7 hj)]at C;obtain⟨Z,r',q⟩:=B j y L r C S;refine⟨Z,r',?_⟩
    rcases q with⟨k,e⟩|⟨k,c,e,z⟩
    ·refine .inl ⟨k,?_⟩;have ny:y≠x:=λe=>hj<|Ys g r<|e ▸ hi;simp[ny,e]
    exact .inr ⟨k,c,e,z.sameBut l<|cne y c e⟩
  ·obtain⟨f,z⟩:=I.cell y c e;exact⟨f,z.sameBut l<|cne y c e⟩
  ·obtain⟨e,n,ne,nf,d⟩:=I.pin p T;exact⟨(l.2 p.1 ne).trans e,n,ne,nf,d⟩
  ·refine(I.hok b ob e).stay (λc f hc q=>(l.2 c ?_).trans q) (λ_ q=>q) λ_ _ q=>q;rintro rfl
   rcases hc with rfl|hc
   ·rw[I.free]at e;cases e
   rw[I.free]at hc;cases hc
 exact h _<|J.tok _
def WB(X:Cx)(x:Addr)(W:Qqa):Cx:={X with A:=X.A.mark (some<|.ref x),calm:=false,xe:=W}
def lF(I:Inv X qp σ H s):Inv (WB X x W) qp σ H s:=⟨⟨I.ok.mod,I.ok.kind,I.ok.glob,I.ok.blt,I.ok.above,I.ok.inj,I.ok.has,I.ok.cab,λz=>(by cases z),I.ok.frames,I.ok.stk,I.ok.exf,I.ok.bs,I.ok.bsz,I.ok.noex,I.ok.exfs,I.ok.funs,I.ok.frf⟩,I.os,I.bare,I.base,I.loc,I.cell,I.free,I.freeC,I.pin,I.hok,I.len⟩
def Ve(ok:X.Ok)(I:Inv (WB X x W) qp σ H s):Inv X qp σ H s:=⟨ok,I.os,I.bare,I.base,I.loc,I.cell,I.free,I.freeC,I.pin,I.hok,I.len⟩
variable {w:Re}{st0:SZ}{more:List SZ}
section
variable {prog:Os}{E:Qqa}{env:Env}
def zmZ{t:PP}{n:Str}{rest:List ExceptHandler}{Q:Flow->Shared->Prop}(h:wpAny (IR prog w) (A.mark<|some<|.ref x) (UV t env) (λc s1=>c=.ref C/\Looks (IR prog w) s1.heap (excMatches (.ref x)<|.ref C) true/\wpAny (IR prog w) (A.mark<|some<|.ref x) (setFlight (.ref x) none) (λ_ s2=>
     wpAny (IR prog w) (A.mark<|some<|.ref x) (storeName env n<|.ref x) (λ_ s3=>
      wpAny (IR prog w) (A.mark<|some<|.ref x) (execs (st0::more) env) (λf s4=>wpAny (IR prog w) A (do bindName env n .none;unbindBehindTheSuite env n pos) (λ_ s5=>Q f s5) E s4)
       (AsSuiteRaised (IR prog w) (A.mark<|some<|.ref x) env n pos<|PZ prog w A env x E) s3) (PZ prog w A env x E) s2) (PZ prog w A env x E) s1) (PZ prog w A env x E) s):
  wpAny (IR prog w) A (handleBy (.ref x) env (.ExceptHandler (some t) (some n) (st0::more) pos::rest)) Q E s:=by
 refine wpAny_handleBy_cons (codeAny_handlers_test<|A6 h (λc s1 z=>?_) λ_ _ z=>z) (by intro q;cases q);obtain⟨rfl,L,k⟩:=z;exact L.here<|codeAny_handlers_suite_as k
end
def LG(n:Int):D:=.er false "" (some ("",n))
def NJ(P:Os)(w:Re)(K:Frag)(a:Str->Option GM)(base:KF)(k:Nat)(x:Str)(n:Nat)(c fld:Str)(g:GN):Prop:=∃C e fd i,KJ K c C/\a c=some (.ref C)/\(∀h:KF,K.In h->JT h C)/\Ja P w K a base (JN P w C fld) k e fd i (ZG K LG n g)/\a x=some (.ref e)/\keepIn K (.ref e)=true/\Binds K fd i []
def G6(j:Nat):Fl->Fl
 |.nx ρ=>.nx<|ρ.set j none
 |.bk ρ=>.bk<|ρ.set j none
 |.ct ρ=>.ct<|ρ.set j none
 |.rt d=>.rt d
def Sz(a:Str)(g:GN)(h:MA)(i j:Nat)(c fld:Str)(m:MS):MS:=λρ st=>(h ρ st).bind λ(ds,s1)=>(g ds s1).bind λ(d,s2)=>match d with
 |.er false _ (some (_,n))=>(m (ρ.set j<|some<|.er true c<|some (fld,n)) s2).map λ(f,s3)=>(G6 j f,s3)
 |.er false _ none=>none
 |_=>some (.nx (ρ.set i<|some<|.tup [.str a,d]),s2)
variable {o:HO}{kb:List Addr}{st':Hf}{P:Os}{dx:Addr}
section
variable {H' H1:Hp}{ka:List Addr}
def Hy.unset{ρ:HX}(i:Nat)(h:Hy K H io σ ρ):Hy K H io (σ.set i none) (ρ.set i none):=by
 refine⟨by rw[Ci,Ci];exact h.len,λj e q=>?_⟩
 by_cases hij:i=j
 ·subst hij;rw[C4]at q
  split at q
  ·split at q
   ·cases q
   ·cases q
  exact absurd rfl ‹_›
 rw[AE hij]at q;obtain⟨v,c,r⟩:=h.at_ j e q;exact⟨v,by rw[AE hij];exact c,r⟩
def eI{p:Addr}(E:Ext io ka H H')(a:H p=none):Ext io ka H (upd H' p o):=⟨λb u h n=>by rw[HR (Ka h a)];exact E.keep b u h n,E.fresh,λb u v h=>by rw[HR (Ka h a)];exact E.frz b u v h⟩
def fT{p:Addr}{o u:HO}(S:Hv K H io st)(f:p∉io)(g:H p=some u)(h:∀xs,u≠.tup xs)(j:∀o w,u≠.frz o w):Hv K (upd H p o) io st:=by
 have ne:∀{b:Addr}{v:HO},H b=some v->v≠u->b≠p:=λ{b v} q e z=>by subst z;rw[g]at q;exact e (As q).symm
 have T:Kp H (upd H p o):=⟨λa xs q=>by rw[HR (ne q λz=>h xs z.symm)];exact q,λa v w q=>by rw[HR (ne q λz=>j v w z.symm)];exact q⟩
 refine⟨S.len,S.nd,λn a ob c i=>?_⟩;have:=OR.mono (ka:=[]) T (HR λz=>f (by rw[<-z];exact AK c))<|S.ob n a ob c i
 rwa [Am]at this
def qG{p:Addr}{fs:List (Str×V)}(S:Hv K H io st)(a:H p=some (.xd fs)):p∉io:=λhm=>by
 obtain⟨n,c,e⟩:=CG hm;have i:io[n]?=some p:=by rw[Av c,e]
 have l:n<st.length:=by rw[<-S.len];exact c
 have:=S.ob n p _ i<|Av l;generalize st[n]=o at this
 cases o with
 |lst ds=>obtain⟨xs,q,_⟩:=this;rw[a]at q;cases q
 |fz ds=>obtain⟨ob,xs,q,_⟩:=this;rw[a]at q;cases q
 |dk ds=>obtain⟨xs,q,_⟩:=this;rw[a]at q;cases q
 |dt ds=>obtain⟨xs,q,_⟩:=this;rw[a]at q;cases q
 |fk ds=>obtain⟨ob,xs,q,_⟩:=this;rw[a]at q;cases q
 |ft ds=>obtain⟨ob,xs,q,_⟩:=this;rw[a]at q;cases q
 |ob C fs=>obtain⟨dx,xs,q,_⟩:=this;rw[a]at q;cases q
 |sz n=>have q:H p=_:=this;rw[a]at q;cases q
 |dz=>have q:H p=_:=this;rw[a]at q;cases q
def sR{h:KF}{p:Addr}(S:Hv K H io st)(A:JX P w H h)(a:H p=some (.ext<|Ma C p dx)):p∉io:=λhm=>by
 obtain⟨n,c,e⟩:=CG hm;have i:io[n]?=some p:=by rw[Av c,e]
 have l:n<st.length:=by rw[<-S.len];exact c
 have:=S.ob n p _ i<|Av l;obtain⟨⟨ws,g⟩,_,_⟩:=A p _ a;generalize st[n]=o at this
 cases o with
 |lst ds=>obtain⟨xs,q,_⟩:=this;rw[a]at q;cases q
 |fz ds=>obtain⟨ob,xs,q,_⟩:=this;rw[a]at q;cases q
 |dk ds=>obtain⟨xs,q,_⟩:=this;rw[a]at q;cases q
 |dt ds=>obtain⟨xs,q,_⟩:=this;rw[a]at q;cases q
 |fk ds=>obtain⟨ob,xs,q,_⟩:=this;rw[a]at q;cases q
 |ft ds=>obtain⟨ob,xs,q,_⟩:=this;rw[a]at q;cases q
 |ob C fs=>obtain⟨dx,xs,q,_⟩:=this;rw[a]at q;cases q
 |sz n=>
  obtain⟨⟨o,r,s,t,g2,x,_⟩,_,_⟩:=A p _ this;rw[g]at g2;cases g2;cases x.1
 |dz=>
  obtain⟨⟨o,r,s,g2,x,_⟩,_,_⟩:=A p _ this;rw[g]at g2;cases g2;cases x.1
end
variable {j:Nat}
def yE{H:Hp}{N:Ends}{f:Fl}(w:Wn K io H st' N (G6 j f)):Wn K io H st' {nx:=λσ H=>N.nx (σ.set j none) H,rt:=N.rt,bk:=λσ H=>N.bk (σ.set j none) H,ct:=λσ H=>N.ct (σ.set j none) H} f:=by
 cases f with
 |nx ρ=>exact λσ' c ka e i E'=>w (σ'.set j none) c ka e i<|E'.unset j
 |bk ρ=>exact λσ' c ka e i E'=>w (σ'.set j none) c ka e i<|E'.unset j
 |ct ρ=>exact λσ' c ka e i E'=>w (σ'.set j none) c ka e i<|E'.unset j
 |rt d=>exact w
variable {E:XK}{n:Nat}{g:Str}{gg:GN}{es:List PP}{mm:MA}{cpos px:Pos}
section
variable {xn nm c0:Str}{mh:MS}{epos np hpos cp tp apos:Pos}{kk:Nat}{T:Addr}
def zm8{B:Addr}{s' h:Shared}{H2 a:Hp}{s2:Hf}{m:Int}(Th:MN X.prog X.w C fld X.stack H2 s E x dx B m a s')(I2:Inv X qp σ H2 s)(I7:Inv X qp σ a h)(F:Ext io kb H2 a)(q:Hv X.K a (io++kb) s2)(G:KJ X.K c C):
  ∃f,Inv X qp σ f h/\Ext io kb H2 f/\Hv X.K f (io++kb) s2/\Rep X.K f (io++kb) (.ref x) (.er true c<|some (fld,m)):=by
 have e:=Th.at_;have hd:=Th.dict;have i:dx≠x:=OS hd e (by intro z;cases z);obtain⟨⟨ws,r⟩,_,_⟩:=I7.hok x _ e;obtain⟨Q,ns,_⟩:=I7.hok dx _ hd;obtain⟨j,l,_⟩:=gF ns;have u:H2 x=none:=I2.hok.fresh Th.new.1;have v:H2 dx=none:=I2.hok.fresh Th.new.2.2;have y:=Inv.er I7 e r rfl rfl rfl;have A:=Inv.freeze y (d:=dx) (o:=j) (by rw[HR i];exact hd) l (by simp) (by simp) (by simp) (by simp);have n:=fT (p:=x) (o:=.frz {cls:=.ref C,dict:=some dx,data:=.fields ws} (.ext<|Su C x<|some dx)) q (sR q I7.hok e) e (by simp) (by simp);have g:upd a x (.frz {cls:=.ref C,dict:=some dx,data:=.fields ws}<|.ext<|Su C x<|some dx) dx=some (.xd [(fld,.int m)]):=by rw[HR i];exact hd
 have H:=fT (p:=dx) (o:=.frz j (.xd [(fld,.int m)])) n (qG n g) g (by simp) (by simp);refine⟨_,A,eI (eI F u) v,H,rfl,x,C,{cls:=.ref C,dict:=some dx,data:=.fields ws},dx,j,rfl,G,?_,KQ⟩;rw[HR (A7 i),KQ]
def vB(D:NJ X.prog X.w X.K X.mg X.base k g n c fld gg)(hs:X.stack=X.env::X.outer)(hf:X.env.frame=some X.env.locals)(hr:HK k X.A)(hg:Gl X g)(ha:SA X.nox (e::es) mm)(hl:IQ n mm)(hgy:Gl X y) (hmy:X.mg y=some (.ref T)) (hx:∀C,KJ X.K c C->exmOne X.K (.ref C) (.ref T)=some true) (Z:X.N.Nodup) (hi:X.N[i]?=some xn) (hj:X.N[j]?=some nm) (hil:X.env.scope.names.lookup xn=some .local) (B:X.env.scope.names.lookup nm=some .local) (hh:∀x W,LI (WB X x W) (st0::more) mh)(hdy:(y==("__debug__":Str))=false:=by decide) (hdb:(g==("__debug__":Str))=false:=by decide) (he:Qqb X.env e es:=by rfl) (hpl:Qqc cpos es X.env:=by rfl)(hst:SL [.Constant (.str c0) kk cp,.Call (.Name g p) (e::es) [] cpos] X.env=[(false,UV (.Constant (.str c0) kk cp) X.env),(false,UV (.Call (.Name g p) (e::es) [] cpos) X.env)]:=by rfl){x1:Nat} (hsw:swapsWith (.Tuple [.Constant (.str c0) kk cp,.Call (.Name g p) (e::es) [] cpos] x1 tp) (some<|.Name xn px) apos.line X.env=pure false:=by rfl):
  SS X (.Try [.Assign [.Name xn px] (.Tuple [.Constant (.str c0) kk cp,.Call (.Name g p) (e::es) [] cpos] x1 tp) apos] [.ExceptHandler (some<|.Name y np) (some nm) (st0::more) hpos] [] [] pos) (Sz c0 gg mm i j c fld mh):=by
 obtain⟨C,fa,fd,ps,hC,hmC,hR,F,hm,hk,hb⟩:=D;intro qp s σ H N I h;obtain⟨ρ,st,io,f,st',En,S,e0,w⟩:=Mr.mp h;obtain⟨⟨ds,s1⟩,e1,e3⟩:=Hu e0;obtain⟨⟨d,s2⟩,e2,e4⟩:=Hu e3;clear e0 e3;dsimp only at e4;refine wpAny_Try_except (D0<|FB (EZ ?_) hsw);rw[hst];show wpAny _ _ (spliced ((false,UV (.Constant (.str c0) kk cp) X.env)::[(false,UV (.Call (.Name g p) (e::es) [] cpos) X.env)])) _ _ s;refine DI (A6 (bW (X:=X.nox) qp s σ H (λv H1=>v=.str c0/\H1=H) (I.wish _) ⟨rfl,rfl⟩) (λu s3 z=>?_) λ_ _ z=>z.elim);obtain⟨v0,H1,I1,rv,rfl,rfl⟩:=z;refine DI (BX<|Vm I1.unwish hg hm ?_ hdb);refine callWith_K (h₀:=X.base) I.ok.mod.kin hk (A6 (ha cpos qp s3 σ H1 (λvs H2=>∃ka,Ext io ka H1 H2/\Hv X.K H2 (io++ka) s1/\Hh X.K H2 (io++ka) vs ds) I1 ⟨ρ,st,io,ds,s1,En,S,e1,λvs H2 ka X2 L R2=>⟨ka,X2,L,R2⟩⟩) (λus s4 z=>?_) λ_ _ z=>z.elim) he hpl;obtain⟨vs,H2,I2,r,ka,X2,L,R2⟩:=z;refine⟨I2.unwish.kIn,A6 (yG (W:=λe s₁=>wpAny (IR X.prog X.w) X.A (noteFrame e X.env) (λ_ s₂=>wpAny (IR X.prog X.w) X.A (setFlight e none) (λ_ s₃=>wpAny (IR X.prog X.w) X.A (handleBy e X.env [.ExceptHandler (some<|.Name y np) (some nm) (st0::more) hpos]) (SP X qp N) X.xe s₃) X.xe s₂) X.xe s₁) (Q:=λv l=>∃kb,Ext (io++ka) kb H2 l/\Hv X.K l (io++ka++kb) s2/\Rep X.K l (io++ka++kb) v d) (E:=λv _ l=>∃n,v=.int n 0/\d=LG n/\∃kb,Ext (io++ka) kb H2 l/\Hv X.K l (io++ka++kb) s2) F hr hb I2.unwish r
  ⟨ds,s1,io++ka,d,s2,by rw[R2.length];exact hl _ _ _ _ e1,R2,L,e2,λv l kb X3 G R3=>⟨kb,X3,G,R3⟩,λi ed l kb X3 G=>⟨i,rfl,ed,kb,X3,G⟩⟩ λe s' z=>?_) (λu2 s5 z=>?_) λ_ _ z=>z⟩
 ·obtain⟨x,dx,T',m,l,rfl,Th⟩:=z;obtain⟨m',em,ed,kb,X3,G⟩:=Th.wish;cases em;subst ed;obtain⟨⟨f1,s8⟩,e5,e6⟩:=ID e4;cases e6;refine landed hs hf I2.unwish Th λs6 I6 ra _=>zmZ (C:=T) ?_;refine CF I6.ok.kind hgy (Ea (by rw[I6.ok.glob];exact I6.mod.glob.keeps I6.bk) hmy ?_) hdy;obtain⟨⟨ws,g1⟩,_,_⟩:=I6.hok x _ Th.at_;refine⟨rfl,exm_one I6.kIn ((Looks.ld g1).andThen .now)<|hx C hC,ra _ _ _ _ λs7 I7=>?_⟩;obtain⟨H4,I8,X4,S4,R4⟩:=zm8 Th I2.unwish I7 X3 G hC;refine QJ I8 Z hj (.inl B) (v:=.ref x) rfl (λs9 I9=>?_)<|.inr B;have E4:Hy X.K H4 (io++ka++kb) (σ.set j<|some<|.ref x) (ρ.set j<|some<|.er true c<|some (fld,m)):=((En.ext S X2).ext L X4).set j R4;refine HA (hh x _ qp s9 _ H4 {nx:=λσ H=>N.nx (σ.set j none) H,rt:=N.rt,bk:=λσ H=>N.bk (σ.set j none) H,ct:=λσ H=>N.ct (σ.set j none) H} (lF I9)<|Pn E4 S4 e5<|yE<|(w.on X2 L).on X4 S4) λf s' z=>?_
  cases f with
  |next=>obtain⟨σ',M,U,q⟩:=z;exact Vl (Ve I.ok U) Z hj B λY J=>⟨_,M,J,q⟩
  |brk=>obtain⟨σ',M,U,q⟩:=z;exact Vl (Ve I.ok U) Z hj B λY J=>⟨_,M,J,q⟩
  |cont=>obtain⟨σ',M,U,q⟩:=z;exact Vl (Ve I.ok U) Z hj B λY J=>⟨_,M,J,q⟩
  |ret u=>obtain⟨v,σ',M,U,r,q⟩:=z;exact Vl (Ve I.ok U) Z hj B λY J=>⟨v,_,M,J,r,q⟩
 ·obtain⟨v,l,I3,rv2,kb,X3,G,R3⟩:=z;refine FC ⟨by show(2:Nat)<=sizeLine;rw[Cm];omega,?_⟩;have hf3:l s5.heap.objs.size=none:=I3.hok.fresh<|Ah _;have I4:=I3.laid (a:=s5.heap.objs.size) (o:=.tup [.str c0,v]) (h':=s5.heap.push {cls:=.type "tuple",data:=.seq #[u,u2]}) (t':=s5.toks) (λb q z=>Ad _ z) (Ah _) ⟨by show(2:Nat)<=sizeLine;rw[Cm];omega,[u,u2],.cons rv<|.cons rv2 .nil,⟨_,Aq _ rfl,rfl,rfl,_,rfl⟩⟩;obtain⟨X5,S5⟩:=XZ (p:=s5.heap.objs.size) (o:=.tup [.str c0,v]) G hf3;have X35:=X3.trans G X5;have S5':Hv X.K (upd l s5.heap.objs.size<|.tup [.str c0,v]) (io++ka++(kb++[])) s2:=by rw[<-Ao];exact S5
  refine QJ I4 Z hi (.inl hil) (v:=.ref s5.heap.objs.size) rfl (λs6 I6=>?_)<|.inr hil;refine Cd<|Cd ⟨_,_,I6,?_⟩;have R5:Rep X.K (upd l s5.heap.objs.size<|.tup [.str c0,v]) (io++ka++(kb++[])) (.ref s5.heap.objs.size) (.tup [.str c0,d]):=by have q:=R3.ext G X5;rw[Ao (io++ka)]at q;exact⟨_,_,rfl,KQ,.cons rfl<|.cons q .nil⟩
  have e7:f=.nx (ρ.set i<|some<|.tup [.str c0,d])/\st'=s2:=by
   split at e4
   ·exact absurd R3.1<|by decide
   ·cases e4
   ·cases e4;exact⟨rfl,rfl⟩
  obtain⟨rfl,rfl⟩:=e7;have w2:=(w.on X2 L).on X35 S5';exact w2 _ _ [] Ext.refl S5'.nil (by rw[Am];exact((En.ext S X2).ext L X35).set i R5)
end
variable {f qual:Str}{N:List Str}{mg:Str->Option GM}{base:KF}{scope:Scope}{fa:Addr}{cd:GM}{outer:List Env}{s0:Shared}{H0:Hp}
def tO:Passes (JN P w C f) (HJ (JN P w C f) P w K mg base N qual scope fa cd A outer s0 H0 E) E:=by intro qp σ H s e g I z;obtain⟨x,dx,T,n,i,rfl,Th⟩:=z;show wpAny (IR P w) _ (leaving _<|.ref x) _ _ g;unfold leaving;refine Ab<|landed (X:=HJ (JN P w C f) P w K mg base N qual scope fa cd A outer s0 H0 E) rfl rfl I Th λs2 I2 v c=>?_;obtain⟨j,ws,l,o,c,r,u⟩:=c;have sz:s0.heap.objs.size<=s.heap.objs.size:=I.sz;exact⟨x,dx,j,n,i,rfl,⟨Th.at_,Th.dict,⟨ws,l,o,c⟩,r,⟨Ar sz Th.new.1,Ar sz u,Ar sz Th.new.2.2⟩,I2.os,I2.bare,I2.base,I2.hok,Th.wish⟩⟩
section
variable {c:PP}{body:List SZ}{mt:MT}{ms:MS}{er:Int->D}{z:Int->Hp->Prop}
def zn5(F:PassesOwn (IR X.prog X.w) X.A X.env X.xe)(G:SB X c mt)(I:P6 X er z body ms):SX X er z (.While c body [] pos) (J3 mt ms n):=PS.imp (zN F G I) λN σ H h=>by
 obtain⟨ρ,st,io,f,st',E,S,e,w⟩:=h;refine⟨λk σ2 H2=>∃ρ2 s2 i,Ext io i H H2/\Hv X.K H2 (io++i) s2/\Hy X.K H2 (io++i) σ2 ρ2/\J3 mt ms k ρ2 s2=some (f,st'),⟨n,ρ,st,[],Ext.refl,S.nil,by rw[Am];exact E,e⟩,?_⟩;rintro k σ2 H2 ⟨ρ2,s2,i,X2,u,E2,g⟩;have y:=w.on X2 u
 cases k with
 |zero=>cases g
 |succ k=>
  obtain⟨⟨b,s3⟩,J,g⟩:=Hu g;refine⟨ρ2,s2,io++i,b,s3,E2,u,J,λQ r j s=>?_⟩;have X23:=X2.trans u j;have W:Hv X.K Q (io++(i++r)) s3:=by rw[<-Ao];exact s
  dsimp only;cases b with
  |false=>
   rw[if_neg (by decide)];have g:some (Fl.nx ρ2,s3)=some (f,st'):=g;cases g;exact y.w σ2 Q r j s<|E2.ext u j
  |true=>
   rw[if_pos rfl];obtain⟨⟨f4,s4⟩,L,g⟩:=Hu (show(ms ρ2 s3).bind _=some (f,st') from g);refine⟨λσ5 C=>∃ρ5 s5 l,Ext io l H C/\Hv X.K C (io++l) s5/\Hy X.K C (io++l) σ5 ρ5/\J3 mt ms k ρ5 s5=some (f,st'),λσ5 C M=>⟨k,FV k,M⟩,?_⟩;refine⟨_,_,_,f4,s4,E2.ext u j,s,L,?_⟩;have fin:∀{ρ7:HX},J3 mt ms k ρ7 s4=some (f,st')->∀σ7 o v,Ext (io++i++r) v Q o->Hv X.K o (io++i++r++v) s4->Hy X.K o (io++i++r++v) σ7 ρ7 ->
     ∃ρ5 s5 l,Ext io l H o/\Hv X.K o (io++l) s5/\Hy X.K o (io++l) σ7 ρ5/\J3 mt ms k ρ5 s5=some (f,st'):=by
    intro ρ7 T σ7 o v a m B;rw[Ao io]at a;rw[Ao io,Ao io]at m B;exact⟨ρ7,s4,(i++r)++v,X23.trans W a,m,B,T⟩
   cases f4 with
   |nx ρ7=>exact⟨λn q=>(by cases q),fin g⟩
   |ct ρ7=>exact⟨λn q=>(by cases q),fin g⟩
   |bk ρ7=>
    cases g;exact⟨λn q=>(by cases q),(y.on j s).w⟩
   |rt U=>
    cases g;exact⟨(y.on j s).x,(y.on j s).w⟩
end
def Pk(g:GN)(mm:MA)(i:Nat):MS:=λρ st=>(mm ρ st).bind λ(ds,s1)=>(g ds s1).bind λ(d,s2)=>match d with
 |.er false _ _=>some (.rt d,s2)
 |_=>some (.nx (ρ.set i<|some d),s2)
section
variable {x:Str}
def TK(D:NJ P w K mg base k g n c f gg)(z:KJ K c C)(B:HK k (HJ (JN P w C f) P w K mg base N qual scope fa cd A outer s0 H0 E).A)(G:SA (HJ (JN P w C f) P w K mg base N qual scope fa cd A outer s0 H0 E) (e::es) mm)(I:IQ n mm)(J:N.Nodup) (hi:N[i]?=some x) (L:Loc scope x)(T:Gl (HJ (JN P w C f) P w K mg base N qual scope fa cd A outer s0 H0 E) g:=by rfl) (m:(g==("__debug__":Str))=false:=by decide)(he:SL (e::es) (HJ (JN P w C f) P w K mg base N qual scope fa cd A outer s0 H0 E).env=(false,UV e (HJ (JN P w C f) P w K mg base N qual scope fa cd A outer s0 H0 E).env)::SL es (HJ (JN P w C f) P w K mg base N qual scope fa cd A outer s0 H0 E).env:=by rfl) (q:(backTo cpos<|SL es (HJ (JN P w C f) P w K mg base N qual scope fa cd A outer s0 H0 E).env).any (·.1)=false:=by rfl)(U:swapsWith (.Call (.Name g p) (e::es) [] cpos) (some<|.Name x px) pos.line (HJ (JN P w C f) P w K mg base N qual scope fa cd A outer s0 H0 E).env=pure false:=by rfl) (hf:(HJ (JN P w C f) P w K mg base N qual scope fa cd A outer s0 H0 E).fn x=true\/scope.names.lookup x=some .local:=by first|exact .inl rfl|exact .inr rfl|assumption):
  SX (HJ (JN P w C f) P w K mg base N qual scope fa cd A outer s0 H0 E) LG (λi a=>E (.int i 0) none a) (.Assign [.Name x px] (.Call (.Name g p) (e::es) [] cpos) pos) (Pk gg mm i):=by
 obtain⟨Y,ga,fd,ps,o,_,_,F,hm,hk,Z⟩:=D;have eC:Y=C:=by unfold KJ at z o;rw[z]at o;cases o;rfl
 subst eC;refine PS.imp (bP J hi L (cF F B T hm hk Z .nil tO G m he q) U hf) λM σ H h=>?_;obtain⟨ρ,st,io,fl,st',En,S,l,Q⟩:=h;obtain⟨⟨ds,s1⟩,W,l⟩:=Hu l;obtain⟨⟨d,s2⟩,e3,l⟩:=Hu l;refine⟨ρ,st,io,ds,s1,En,S,W,λvs H1 ka u r R1=>⟨ds,s1,io++ka,d,s2,by rw[Am,R1.length];exact I _ _ _ _ W,by rw[Am];exact R1,r,e3,λv a kb s y X=>?_,λj ed a kb s y=>?_⟩⟩
 ·dsimp only at l
  split at l
  ·exact absurd X.1<|by decide
  ·cases l;exact(Q.on u r).w _ a kb s y<|((En.ext S u).ext r s).set i X
 subst ed;cases l;exact(Q.on u r).x j rfl a kb s y
end
def rN{st:SZ}{m:MS}(h:SS X.nox st m):SS X st m:=λqp s σ H N I q=>A6 (h qp s σ H N (I.wish _) q) (λ_ _ z=>SP.unwish z) λ_ _ z=>z.elim
def Z6(K:Frag)(n:Nat)(t:Pc):TG:=λv σ H Q=>∃a xs,v=.ref a/\Kf K H a xs/\xs.length=n/\t xs σ H Q
def NF(n:Nat)(h:OO):MG:=λd ρ st=>match d with
 |.ref k=>match st[k]? with
  |some (.lst ds)=>if ds.length=n then h ds ρ st else none
  |_=>none
 |_=>none
section
variable {mgs:OO}
def pA{t:Pc}(z:X.calm=true)(h:OK X es t)(B:(assignEach es X.env).length=n:=by rfl)(q:(assignEach es X.env).findIdx? (·.1)=none:=by rfl):PG X (.Tuple es k pos) (Z6 X.K n t):=by
 intro qp s σ H v u Q I r hw;obtain⟨a,xs,i,j,l,hw⟩:=hw;subst i;cases r;obtain⟨f,g,⟨o,m,e,c,E,w⟩,_⟩:=I.list j;have x:(assignEach es X.env).length=f.toArray.size:=by simp[B,<-l,g.length]
 rw[assign_Tuple];refine Ab<|BC ?_;unfold unpack;rw[x,q];refine Ab<|Bf<|kun_itemsOf (I.ok.hd z) ⟨o,e,c,m,w⟩ λy A=>?_;have C:Inv X qp σ H {s with heap:=y}:=I.kept (t':=s.toks) λb o e=>A b o (Aw<|An e) e;exact h qp _ σ H xs _ Q C (by simpa using g) hw
def uW(m:X.calm=true)(h:UO X es mgs)(q:(assignEach es X.env).length=n:=by rfl)(a:(assignEach es X.env).findIdx? (·.1)=none:=by rfl):SG X (.Tuple es k pos) (NF n mgs):=
 PG.imp (pA m h q a) <| by
  rintro v σ H Q ⟨d,ρ,st,io,ρ',st',R,E,S,e,k⟩;unfold NF at e;split at e
  ·rename_i j
   split at e
   ·rename_i ds c;obtain⟨f,e⟩:=JJ e;obtain⟨p,rfl,g⟩:=R;obtain⟨i,l,rs⟩:=S.ob j p _ g c;exact⟨p,i,rfl,.inl<|.inl l,by rw[rs.length];exact f,ds,ρ,st,io,ρ',st',rs,E,S,e,k⟩
   ·cases e
  ·cases e
end
end L2.MP
namespace L2.MP.Hb
open PySem L2.MP
end L2.MP.Hb
namespace L2.MP
open PySem
end L2.MP
namespace L2.MP.Hb
open PySem L2.MP
end L2.MP.Hb
namespace L2.MP.Hd
open PySem L2.MP
end L2.MP.Hd
namespace L2.MP
open PySem
@[simp] theorem zvB(n:Nat)(ds:List D):Jf n ds=ds.map some++A3 (n-ds.length) none:=rfl
@[simp] theorem zuz(ρ:HX)(n:Nat)(l:List Nat):Hz ρ n l=A3 n none++l.map λ(j:Nat)=>(ρ[j]?).join:=rfl
variable {a b:Int}{st:Hf}
@[simp] theorem zvI:Ik (.int a) (.int b) st=some (.bl (decide (a<b)),st):=rfl
@[simp] theorem zvJ:HV (.int a) (.int b) st=some (.bl (decide (a<=b)),st):=rfl
@[simp] theorem zvM:IV (.int a) (.int b) st=some (.bl (decide (b<a)),st):=rfl
@[simp] theorem zvN:Jp (.int a) (.int b) st=some (.bl (decide (b<=a)),st):=rfl
@[simp] theorem zvL:HF [.int a] st=some (.int a,st):=rfl
@[simp] theorem zvK{b:Bool}:HF [.bl b] st=some (.int (if b then 1 else 0),st):=rfl
end L2.MP
namespace L2.MP.Hd
open PySem L2.MP
open L2.MP.Hn (Ms)
end L2.MP.Hd
namespace L2.MP
open PySem
variable {α:Type}
theorem WV{W:Wk}{g:MG}{c:MT}{m:ME}{α:Type}{f h:α->D}{R:HX->Prop}:∀{as:List α}{ρ:HX}{st:Hf},R ρ->(∀s,Gr st s->walked W s=true)->(∀a∈as,∀ρ s,R ρ->Gr st s->∃ρ1 s1,g (f a) ρ s=some (ρ1,s)/\c ρ1 s=some (true,s)/\m ρ1 s=some (h a,s1)/\Gr s s1/\R ρ1) ->
  ∃s',Kt W g c m (as.map f) ρ st=some (as.map h,s')/\Gr st s'
 |[],ρ,st,r,i,_=>⟨st,by unfold Kt;rw[BM];simp only[i st (Gr.refl st),if_true,BM],Gr.refl st⟩
 |a::as,ρ,st,r,i,j=>by obtain⟨ρ1,s1,n,B,C,g1,F⟩:=j a Al ρ st r<|Gr.refl st;obtain⟨s',e,l⟩:=WV (W:=W) (g:=g) (c:=c) (m:=m) (f:=f) (h:=h) (R:=R) (as:=as) (st:=s1) F (λs q=>i s (g1.trans q)) λb o ρ s q z=>j b (Ak _ o) ρ s q<|g1.trans z;refine⟨s',?_,g1.trans l⟩;rw[Au];unfold Kt;rw[if_pos (i st<|Gr.refl st),n];simp only[Aa,B,if_true,C,e,Aj,Au]
variable {st:Hf}{l:Nat}{z:Str}{ss:List Str}
def uG(a:st[l]?=some (.lst<|ss.map D.str))(c:(ss.map (·.length)).sum+ss.length*z.length<=16777216):Ph (.str z) [.ref l] st=some (.str (Txt.join z ss),st):=by unfold Ph;simp only[Il,a,Aa];rw[YY];simp only[Aa];rw[if_pos (decide_eq_true c)]
variable {c:Nat}
theorem Xr{α:Type}{f:α->Nat}{c:Nat}:∀{l:List α},(∀x∈l,f x<=c)->(l.map f).sum<=l.length*c
 |[],_=>by simp
 |x::l,h=>by have a:=h x Al;have r:=Xr (l:=l) λy o=>h y<|Ak _ o;rw[Au,Gq,AB,Nat.succ_mul];omega
def Yq{n:Nat}{ss:List Str}(e:st[l]?=some (.lst<|ss.map D.str))(g:∀x∈ss,x.length<=c)(h:ss.length<=n)(i:z.length<=1)(j:n*c+n<=16777216):Ph (.str z) [.ref l] st=some (.str (Txt.join z ss),st):=by refine uG e ?_;have a:=Xr (f:=λx:Str=>x.length) g;have b:ss.length*c<=n*c:=CD c h;have d:ss.length*z.length<=ss.length*1:=Fg _ i;omega
variable {i:Int}
def zmJ(h0:0<=i)(a:i<=1000000):XT i=true:=by
 unfold XT;apply decide_eq_true;by_cases h:i.natAbs=0
 ·rw[h];decide
 have:i.natAbs.log2<20:=(Nat.log2_lt h).mpr (by omega);omega
def Hq(i:Int):Str:=Bm<|toString i
def zht{s:Hf}(h0:0<=i)(a:i<=1000000):J1 [.int i] s=some (.str (Hq i),s):=by unfold J1;simp only[zmJ h0 a,if_true];rfl
def TN(h0:0<=i):(Hq i).cps.toList=(CV 10 i.toNat).map Gd:=by obtain⟨m,rfl⟩:=Int.eq_ofNat_of_zero_le h0;have:=PyProof.Rows.text_ofNat m;show(Bm<|toString<|Int.ofNat m).cps.toList=_;rw[this];simp
def fO(h0:0<=i)(a:i<=1000000):(Hq i).length<=7:=by show(Hq i).cps.size<=7;rw[<-AA,TN h0,Af];exact D8 (by decide)<|by omega
def all1{P:α->Prop}{a:α}(e:P a):∀x∈[a],P x:=λx c=>by rw[On.mp c];exact e
def Js{P:α->Prop}{a:α}{l:List α}(e:P a)(f:∀x∈l,P x):∀x∈a::l,P x:=λx hx=>by
 rcases KM.mp hx with rfl|hx
 ·exact e
 exact f x hx
def all2{P:α->Prop}{a b:α}(e:P a)(f:P b):∀x∈[a,b],P x:=Js e<|all1 f
def OH{P:α->Prop}{a b c:α}(e:P a)(f:P b)(g:P c):∀x∈[a,b,c],P x:=Js e<|all2 f g
def jl(c:Nat):List (List Nat)->List Nat
 |[]=>[]
 |[x]=>x
 |x::y::r=>x++c::jl c (y::r)
theorem XW(c:Nat):∀ws:List Str,(B5 ⟨#[c]⟩ ws).cps.toList=jl c (ws.map (·.cps.toList))
 |[]=>rfl
 |[x]=>rfl
 |x::y::r=>by have:=XW c (y::r);rw[PyProof.Rows.join_cons_cons,Dw,Dw,this];simp[jl]
theorem aX{c:Nat}:∀{x x' r f:List Nat},c∉x->c∉x'->x++c::r=x'++c::f->x=x'/\r=f
 |[],[],r,f,_,_,e=>⟨rfl,(AM e).2⟩
 |[],a::x',r,f,_,h',e=>by have:=(AM e).1;exact absurd Al<|this ▸ h'
 |a::x,[],r,f,h,_,e=>by have:=(AM e).1;exact absurd Al<|this ▸ h
 |a::x,b::x',r,f,h,h',e=>by obtain⟨i,l⟩:=AM e;obtain⟨o,s⟩:=aX (x:=x) (x':=x') (λz=>h (Ak _ z)) (λz=>h' (Ak _ z)) l;exact⟨by rw[i,o],s⟩
theorem bI{c:Nat}:∀{ps ws:List (List Nat)},ps≠[]->ws≠[]->(∀p∈ps,c∉p)->(∀w∈ws,c∉w)->jl c ps=jl c ws->ps=ws
 |[],_,h,_,_,_,_=>absurd rfl h
 |_,[],_,h,_,_,_=>absurd rfl h
 |[x],[y],_,_,_,_,e=>by have:x=y:=e;rw[this]
 |[x],y::z::r,_,_,i,hw,e=>by have e:x=y++c::jl c (z::r):=e;have:=i x Al;rw[e]at this;simp at this
 |x::z::r,[y],_,_,i,hw,e=>by have e:x++c::jl c (z::r)=y:=e;have:=hw y Al;rw[<-e]at this;simp at this
 |x::z::r,y::l::o,_,_,i,hw,e=>by have e:x++c::jl c (z::r)=y++c::jl c (l::o):=e;obtain⟨s,u⟩:=aX (i x Al) (hw y Al) e;rw[s,bI (by simp) (by simp) (λp h=>i p (Ak _ h)) (λp h=>hw p (Ak _ h)) u]
def Ye(z y:Str):Txt.split z y≠[]:=by
 unfold Txt.split;split
 ·simp
 ·split
  ·simp
  intro h;have:=congrArg DG h;rw[DB]at this;simp at this
theorem jO:∀{a b:List Str},a.map (·.cps.toList)=b.map (·.cps.toList)->a=b
 |[],[],_=>rfl
 |[],_::_,h=>by simp at h
 |_::_,[],h=>by simp at h
 |x::a,y::b,h=>by rw[Au,Au]at h;obtain⟨e,f⟩:=AM h;rw[Py e,jO f]
def iV{ws:List Str}(a:ws≠[])(h:∀w∈ws,c∉w.cps.toList):Txt.split (Txt.join ⟨#[c]⟩ ws) ⟨#[c]⟩=ws:=by
 have r:Txt.join ⟨#[c]⟩ ws=B5 ⟨#[c]⟩ ws:=A5 _ _;have s:=Fw (Txt.join ⟨#[c]⟩ ws) ⟨#[c]⟩;have o:(B5 ⟨#[c]⟩<|Txt.split (Txt.join ⟨#[c]⟩ ws) ⟨#[c]⟩).cps.toList=(B5 ⟨#[c]⟩ ws).cps.toList:=by rw[s,r]
 rw[XW,XW]at o;refine jO<|bI (c:=c) ?_ ?_ ?_ ?_ o
 ·intro z;exact Ye _ _<|List.map_eq_nil_iff.mp z
 ·intro z;exact a<|List.map_eq_nil_iff.mp z
 ·intro p i;obtain⟨q,l,rfl⟩:=P3.mp i;exact StrLaws.split_free _ c q l
 intro p i;obtain⟨q,l,rfl⟩:=P3.mp i;exact h q l
def xD(m:Nat):0<m->∃c r,(CV 10 m).map Gd=c::r/\49<=c/\c<=57:=by
 induction m using Nat.strongRecOn with
 |_ m i=>
  intro h0;by_cases h:m<10
  ·rw[Nat.toDigits_of_lt_base h];have:∀d:Nat,d<10->0<d->49<=(Gs d).toNat/\(Gs d).toNat<=57:=by decide
   exact⟨_,[],rfl,this m h h0⟩
  have hm:m % 10<10:=Nat.mod_lt m (by decide);have t:CV 10 (m / 10)++CV 10 (m % 10)=CV 10 (10*(m / 10)+m % 10):=Nat.toDigits_append_toDigits (by decide) (by omega) hm;rw[Nat.div_add_mod]at t;obtain⟨c,r,e,q⟩:=i (m / 10) (by omega) (by omega);refine⟨c,r++(CV 10<|m % 10).map Gd,?_,q⟩;rw[<-t,Bt,e];rfl
def fN{i:Int}(h0:0<=i):∀c∈(Hq i).cps.toList,48<=c/\c<=57:=by intro c o;rw[TN h0]at o;obtain⟨ch,l,e⟩:=P3.mp o;have r:=PyProof.Rows.digit_range<|Nat.isDigit_of_mem_toDigits (by decide) (by decide) l;rw[<-e];exact r
def uF(h0:0<=i):1<=(Hq i).length:=by show 1<=(Hq i).cps.size;rw[<-AA,TN h0,Af];exact PyProof.Rows.tDigits_len_ge 10 _
def dI(h0:0<=i)(a:i<1000000):(Hq i).length<=6:=by show(Hq i).cps.size<=6;rw[<-AA,TN h0,Af];exact D8 (by decide)<|by omega
def zk3(h0:0<=i)(a:i<1000000):C1 (Hq i)=some i:=PySem.W.KIN.num_reads h0<|by omega
def VI{z:Str}(h:∀c∈z.cps.toList,c<1114112):Ap z=true:=by unfold Ap;rw[DK];intro c i;exact decide_eq_true<|h c<|by simpa using i
end L2.MP
namespace L2.MP.Ce
open PySem L2.MP
variable {α:Type}
theorem XE{α:Type}(f:α->Bool):∀as:List α,Ol (as.map λa=>D.bl (f a))=some (as.map f)
 |[]=>rfl
 |a::as=>by show(Ol<|as.map λa=>D.bl (f a)).map _=_;rw[XE f as];rfl
variable {st:Hf}
def MM{f:α->Bool}{as:List α}{n:Nat}(h:st[n]?=some (.lst<|as.map λa=>D.bl (f a))):Jy [.ref n] st=some (.bl (as.all f),st):=by unfold Jy;simp only[Il,h,Aa,XE,Aj,GA];rfl
variable {t:MT}{a:MS}{ρ:HX}{s1:Hf}{b:Bool}
def kT(h:t ρ st=some (b,s1)):Ih t a IH ρ st=if b=true then a ρ s1 else some (.nx ρ,s1):=by simp only[K4,h,Aa,Np]
def J5{r:Option (Fl×Hf)}(h:t ρ st=some (true,s1))(k:a ρ s1=r):Ih t a IH ρ st=r:=by rw[kT h,if_pos rfl];exact k
def Ky(h:t ρ st=some (false,s1)):Ih t a IH ρ st=some (.nx ρ,s1):=by rw[kT h,if_neg (by decide)]
variable {m:ME}
def Hw(h:m ρ st=some (.bl b,s1)):mT m ρ st=some (b,s1):=by simp only[KL,h,Aa]
def Ic(h:m ρ st=some (.bl b,s1)):J8 (mT m) ρ st=some (!b,s1):=by simp only[LN,KL,h,Aa,Aj]
def L8{a b:MT}(c:a ρ st=some (true,s1)):IL a b ρ st=some (true,s1):=by simp only[Lw,c,Aa,if_true]
def JQ{a b:MT}{r:Option (Bool×Hf)}(c:a ρ st=some (false,s1))(e:b ρ s1=r):IL a b ρ st=r:=by simp only[Lw,c,Aa,AG,if_false,e]
def Kd{a b:ME}(c:a ρ st=some (.bl false,s1)):JE a b ρ st=some (.bl false,s1):=by simp[M8,c]
def Jx{a b:ME}{r:Option (D×Hf)}(c:a ρ st=some (.bl true,s1))(e:b ρ s1=r):JE a b ρ st=r:=by simp[M8,c,e]
def LM{s:Hf}{d:D}(h:m ρ st=some (d,s)):mR m ρ st=some (.rt d,s):=by rw[Lx,h];rfl
def Ww(ds:List D)(lo hi:Option Int):List D:=if(decide (HT.HN ds.length 0 lo=0)&&decide (HT.HN ds.length ds.length hi=ds.length))=true then ds else cutD ds lo hi
variable {ds:List D}{lo hi:Option Int}
def X0:O9 (.tup ds) lo hi st=some (.tup (Ww ds lo hi),st):=by
 unfold O9 Nt Pa Qk Uo kN ZI Ww;by_cases h:(decide (HT.HN ds.length 0 lo=0)&&decide (HT.HN ds.length ds.length hi=ds.length))=true
 ·simp only[h,if_true,Kj]
 simp only[h,if_false,JF,AG]
def Xf:Ww ds lo hi=cutD ds lo hi:=by
 unfold Ww;split
 ·rename_i h;rw[Ag,decide_eq_true_eq,decide_eq_true_eq]at h;unfold cutD;rw[h.1,h.2,DF,Nat.sub_zero,B4]
 rfl
variable {z:Str}
def iK{c:Nat}(h:c∈(Txt.slice z lo hi).cps.toList):c∈z.cps.toList:=by
 unfold Txt.slice at h;split at h
 ·exact h
 ·have a:c∈(Builtin.Str.strSliceIndices lo hi 1 z.length).filterMap (z.cps[·]?):=by simpa using h
  obtain⟨i,_,e⟩:=List.mem_filterMap.mp a;rw[<-Cy]at e;exact AK e
def iJ:(Txt.slice z lo hi).cps.toList.length<=z.cps.toList.length:=by have:=Txt.slice_le z lo hi;rw[len_list,len_list]at this;exact this
theorem Tb{c e:MO}:Lg m c e ρ st=(m ρ st).bind λp=>(c ρ p.2).bind λq=>(e ρ q.2).bind λr=>O9 p.1 q.1 r.1 r.2:=rfl
section
variable {mi:MI}{f h:α->D}{b:α->Bool}{as:List α}{fr:List Nat}{ρ0:HX} {gd:List (Nat×List D)}
def TM(hw:mi ρ st=some (⟨as.map f,gd⟩,st))(i:∀s,Gr st s->walked ⟨as.map f,gd⟩ s=true)(hρ:Hz ρ 1 fr=none::ρ0)(j:as.length<=10000)(H:∀a∈as,∀s,Gr st s->∃s1,m (some (f a)::ρ0) s=some (h a,s1)/\Gr s s1):
  ∃s1,Jl mi 1 fr (Ho 0) IC m ρ st=some (.ref s1.length,s1++[.lst (as.map h)])/\Gr st s1:=by
 obtain⟨s1,e,g⟩:=WV (W:=⟨as.map f,gd⟩) (g:=Ho 0) (c:=IC) (m:=m) (f:=f) (h:=h) (R:=λr=>∃x,r=x::ρ0) (as:=as) (ρ:=none::ρ0) (st:=st) ⟨none,rfl⟩ i (λa l r s o u=>by obtain⟨x,rfl⟩:=o;obtain⟨s1,e,g⟩:=H a l s u;exact⟨some (f a)::ρ0,s1,rfl,rfl,e,g,_,rfl⟩)
 have v:fits (as.map h).length=true:=Ko (by rw[Af];exact j);refine⟨s1,?_,g⟩;rw[Ji,hw];simp only[Aa];rw[hρ,e];simp only[Aa,v,if_true]
def Qz(hw:mi ρ st=some (⟨as.map f,gd⟩,st))(c:∀s,Gr st s->walked ⟨as.map f,gd⟩ s=true)(hρ:Hz ρ 1 fr=none::ρ0)(e:as.length<=10000)(H:∀a∈as,∀s,Gr st s->∃s1,m (some (f a)::ρ0) s=some (.bl (b a),s1)/\Gr s s1):
  ∃st',Hi Jy (Hc (Jl mi 1 fr (Ho 0) IC m) mZ) ρ st=some (.bl (as.all b),st')/\Gr st st':=by
 obtain⟨s1,l,g⟩:=TM (h:=λa=>D.bl (b a)) hw c hρ e H;refine⟨_,?_,g.trans<|Gr.app s1 [.lst (as.map λa=>D.bl (b a))]⟩;simp only[Je,Iy,Iz,l,Aa];exact MM<|IJ s1 _
end
theorem VD{α:Type}{W:Wk}{g:MG}{m:MS}{f:α->D}{b:α->Bool}{R:HX->Prop}:∀{as:List α}{ρ:HX}{st:Hf},R ρ->(∀s,Gr st s->walked W s=true) ->
  (∀a∈as,∀ρ s,R ρ->Gr st s->∃ρ1 ρ2 s',g (f a) ρ s=some (ρ1,s)/\Gr s s'/\(m ρ1 s=if b a=true then some (.nx ρ2,s')else some (.rt (.bl false),s'))/\R ρ2) ->
  ∃ρ' s',Gr st s'/\R ρ'/\Ld W g m (as.map f) ρ st=if as.all b=true then some (.nx ρ',s')else some (.rt (.bl false),s')
 |[],ρ,st,r,c,_=>⟨ρ,st,Gr.refl st,r,by unfold Ld;rw[BM];simp only[c st (Gr.refl st),if_true,Gy]⟩
 |a::as,ρ,st,r,c,h=>by
  obtain⟨ρ1,ρ2,s1,i,g1,e,j⟩:=h a Al ρ st r<|Gr.refl st
  cases l:b a with
  |false=>
   rw[l]at e;refine⟨ρ,s1,g1,r,?_⟩;rw[EW,l];exact dR (c st<|Gr.refl st) i e
  |true=>
   rw[l]at e;obtain⟨ρ',s',g2,u,v⟩:=VD (W:=W) (g:=g) (m:=m) (f:=f) (b:=b) (R:=R) (as:=as) j (λs o=>c s (g1.trans o)) λx w ρ s y o=>h x (Ak _ w) ρ s y (g1.trans o);refine⟨ρ',s',g1.trans g2,u,?_⟩;rw[EW,l,BE,<-v];exact dQ (c st<|Gr.refl st) i e
def Nx(f:α->D)(as:List α):pairs (as.map f)=as.zipIdx.map λp=>D.tup [.int (p.2:Nat),f p.1]:=by unfold pairs;rw[List.zipIdx_map,BO];rfl
end L2.MP.Ce
namespace L2.MP.Hx
open PySem L2 L2.MP PySem.W PyProof.Rows
theorem XS{g:Addr->Option Obj}(a:Addr):∀l:List Addr,(l.filterMap λb=>(g b).map λo=>(b,o)).lookup a=if a∈l then g a else none
 |[]=>rfl
 |b::l=>by
  rw[B7];by_cases h:a=b
  ·subst h;rw[if_pos Al]
   cases c:g a with
   |none=>
    simp only[Ge];rw[XS a l,c];split<;>rfl
   |some o=>simp only[Aj,A9,beq_self_eq_true]
  ·have e:(a==b)=false:=beq_false_of_ne h;have r:(if a∈b::l then g a else none)=if a∈l then g a else none:=by simp only[Br,h,false_or]
   rw[r,<-XS a l];cases c:g b with
   |none=>simp only[Ge]
   |some o=>simp only[Aj,A9,e]
def hU(h:KF)(a:Addr):(ML h).lookup a=h.get? a:=by
 unfold ML;rw[XS];split
 ·rfl
 ·rename_i l
  cases r:h.get? a with
  |none=>rfl
  |some o=>exact absurd (List.mem_range.mpr<|An r) l
def uS(h:KF):(ML h).In h:=λa o e=>(hU h a).symm.trans e
def US(K:Frag)(x:Str):Str⊕Int->Prop
 |.inl s=>∃t,nsIn K Wp x=some (some<|.str s t)
 |.inr i=>∃t,nsIn K Wp x=some (some<|.int i t)
variable {K:Frag}
def dN{f:Addr}{a:GM}{c:Option Addr}{fd:FuncData}{e:Array (Option GM)}(h:K.lookup f=some ⟨a,c,.func fd,e⟩):keepIn K (.ref f)=true:=by unfold keepIn;dsimp only;rw[h]
variable {x:Str}
def lA{st:SZ}(e:Z8 (K.lookup ·) x=Z9 x st):∃f,P9 K x st f:=by
 unfold Z8 Z9 at e;cases l:Sg (K.lookup ·) Wp x with
 |none=>rw[l]at e;cases e
 |some v=>
  cases v with
  |none=>rw[l]at e;cases e
  |some v=>
   cases v with
   |ref f=>
    rw[l]at e;dsimp only at e;cases r:K.lookup f with
    |none=>rw[r]at e;cases e
    |some o=>
     rw[r]at e;obtain⟨u,w,s,y⟩:=o;cases s with
     |func fd=>
      dsimp only at e;obtain⟨a1,a2⟩:=Bi<|As e;obtain⟨n,q,p,b,sc,gl,cl,A,E,Q,pm,an,cd,W,a⟩:=fd;cases a1;exact⟨f,mP l r a2<|dN r⟩
     |_=>cases e
   |_=>rw[l]at e;cases e
def mI{c:Str⊕Int}(e:GS (Sg (K.lookup ·) Wp x)=some c):US K x c:=by
 unfold GS at e;cases l:Sg (K.lookup ·) Wp x with
 |none=>rw[l]at e;cases e
 |some v=>
  cases v with
  |none=>rw[l]at e;cases e
  |some v=>
   rw[l]at e;cases v with
   |str s t=>cases e;exact⟨t,l⟩
   |int i t=>cases e;exact⟨t,l⟩
   |_=>cases e
structure WI(K:Frag)(fns:List (Str×SZ))(bl:List Str)(co:List (Str×(Str⊕Int))):Prop where
 fn:∀p∈fns,∃f,P9 K p.1 p.2 f
 bl:∀x∈bl,nsIn K Wp x=some none
 co:∀c∈co,US K c.1 c.2
theorem Ta{α β:Type}{f g:α->β}:∀{l:List α},l.map f=l.map g->∀a∈l,f a=g a
 |[],_,a,h=>by cases h
 |b::l,e,a,h=>by
  obtain⟨c,i⟩:=AM e;rcases KM.mp h with rfl|h
  ·exact c
  exact Ta i a h
def pO{fns:List (Str×SZ)}{a:List Str}{co:List (Str×(Str⊕Int))}(e:Nb (K.lookup ·) fns a co=P2 fns a co):WI K fns a co:=by obtain⟨o,l⟩:=Bi e;obtain⟨l,r⟩:=Bi l;exact⟨λp s=>lA (Ta o p s),λx u=>Ta l x u,λc v=>mI (Ta r c v)⟩
end L2.MP.Hx
namespace L2.MP
open PySem L2 PySem.W PyProof.Rows
variable {bl ps:List Str}{co:List (Str×(Str⊕Int))}{x:Str}{st:SZ}{P:Os}{w:Re}{base:KF}{k j:Nat}{m:MS}
section
variable {K:Frag}{mg:Str->Option GM} {fns:List (Str×SZ)}
structure En(K:Frag)(mg:Str->Option GM)(fns:List (Str×SZ))(bl:List Str)(co:List (Str×(Str⊕Int))):Prop where
 b:∀x∈bl,mg x=none
 c:∀c∈co,match c.2 with
  |.inl s=>∃t,mg c.1=some (.str s t)
  |.inr i=>∃t,mg c.1=some (.int i t)
 l:∀p∈fns,∃f,P9 K p.1 p.2 f/\mg p.1=some (.ref f)
def En.of{h:KF}(A:Hx.WI K fns bl co)(X:K.In h)(G:h.Ns Wp mg):En K mg fns bl co:=by
 refine⟨λx j=>mg_none_of X G (A.bl x j),λc l=>?_,λp m=>?_⟩
 ·have q:=A.co c l;obtain⟨x,c⟩:=c
  cases c with
  |inl s=>obtain⟨t,q⟩:=q;exact⟨t,mg_of X G q⟩
  |inr i=>obtain⟨t,q⟩:=q;exact⟨t,mg_of X G q⟩
 obtain⟨f,q⟩:=A.fn p m;exact⟨f,q,mg_of X G q.ns⟩
def En.b1(Z:En K mg fns bl co)(h:x∈bl:=by decide +kernel):mg x=none:=Z.b x h
def En.cs(Z:En K mg fns bl co){s:Str}(i:Nat)(h:co[i]?=some (x,.inl s):=by rfl):∃t,mg x=some (.str s t):=Z.c _<|AK h
def En.ci(Z:En K mg fns bl co){s:Int}(i:Nat)(h:co[i]?=some (x,.inr s):=by rfl):∃t,mg x=some (.int s t):=Z.c _<|AK h
def Sf(N ps:List Str)(sc:Scope):Bool:=decide (sc.kind=.function)&&decide (sc.isCoroutine=false)&&decide (sc.isGenerator=false)&&decide N.Nodup&&decide (N.take ps.length=ps)&&ps.all (λx=>decide (sc.names.lookup x=some .local\/sc.names.lookup x=some .cell))&&sc.names.all λy=>decide (y.2≠.free)
def Pe{N:List Str}{sc:Scope}(h:Sf N ps sc=true):Iv N ps sc:=by unfold Sf at h;simp only[Ag,decide_eq_true_eq,BS]at h;obtain⟨⟨⟨⟨⟨⟨a,b⟩,c⟩,d⟩,e⟩,f⟩,g⟩:=h;exact⟨a,b,c,d,e,f,g⟩
noncomputable abbrev WK (x:Str) (st:SZ) (ps:List Str):Prop:=∀(kV doc pm:GM) (an:Option Addr) (j l:GM) (us:List GM),us.length=ps.length->bindArgs (BY x x (OZ st) (K9 st) (Jd st) .none kV doc pm an j l) ⟨us,[]⟩=pure (ps.zip us)
def En.laid{i:Nat}(Z:En K mg fns bl co)(hi:fns[i]?=some (x,st))(b:WK x st ps):Laid K mg x st ps:=by obtain⟨f,F,hm⟩:=Z.l _<|AK hi;obtain⟨⟨j,m,kV,o,pm,an,cd,r,s,l,c⟩,a,k⟩:=F;exact⟨_,_,Vd l c k,hm,(Vd l c k).binds b⟩
def JV(Z:En K mg fns bl co)(st:SZ)(i:Nat)(N ps:List Str)(a:N.Nodup->∀(f:Addr) (c:GM) (A:Around) (outer:List Env) (s:Shared) (H:Hp) (E:XK),HK k (A.deeper<|envOfC x (Jd st) s.heap.objs.size f c) ->
   LI (HJ Lu P w K mg base N x (Jd st) f c A outer s H E).nox (K9 st) m) (hi:fns[i]?=some (x,st):=by rfl)
  (S:Sf N ps (Jd st)=true:=by decide +kernel) (b:WK x st ps:=by intro _ _ _ _ _ _;first|exact PX λ_=>rfl|exact NC λ_ _=>rfl|exact PV λ_ _ _=>rfl|exact NB λ_ _ _ _=>rfl|exact Q5 λ_ _ _ _ _=>rfl):IT P w K mg base (k+1) x ps.length (Jc N.length m):=
 aZ (Z.laid hi b) (Pe S) (a (Pe S).nd)
def xY{G:GN->MS}(Z:En K mg fns bl co)(st:SZ)(i:Nat)(N ps:List Str)(n:Nat)(a:N.Nodup->∀(i:Nat) (g:GN),IT P w K mg base (j+i) x ps.length g->∀(f:Addr) (c:GM) (A:Around) (outer:List Env) (s:Shared) (H:Hp) (E:XK),HK (j+i) (A.deeper<|envOfC x (Jd st) s.heap.objs.size f c) ->
   LI (HJ Lu P w K mg base N x (Jd st) f c A outer s H E).nox (K9 st) (G g)) (hi:fns[i]?=some (x,st):=by rfl)
  (S:Sf N ps (Jd st)=true:=by decide +kernel) (b:WK x st ps:=by intro _ _ _ _ _ _;first|exact PX λ_=>rfl|exact NC λ_ _=>rfl|exact PV λ_ _ _=>rfl|exact NB λ_ _ _ _=>rfl|exact Q5 λ_ _ _ _ _=>rfl):IT P w K mg base (j+n) x ps.length (L6 N.length G n):=
 dB (Z.laid hi b) (Pe S) (a (Pe S).nd) n
def lC{qual:Str}{f:Addr}{fd:FuncData}(F:Nd K x qual st f fd)(N ps:List Str)(a:N.Nodup->∀(c:GM) (A:Around) (outer:List Env) (s:Shared) (H:Hp) (E:XK),HK k (A.deeper<|envOfC qual (Jd st) s.heap.objs.size f c) ->
   LI (HJ Lu P w K mg base N qual (Jd st) f c A outer s H E).nox (K9 st) m) (S:Sf N ps (Jd st)=true:=by decide +kernel):Ja P w K mg base Lu (k+1) f fd ps (Qj K ps.length<|Jc N.length m):=UG F (Pe S) (a (Pe S).nd)
end
variable {g:GN}{T:String}
section
variable {X:Cx}{e:PP}{es:List PP}{m:ME}{mm:MA}{pos pos' p p2:Pos}{y:Str}
def sgn(i:Nat)(a:X.N.Nodup)(hi:X.N[i]?=some x:=by rfl)(c:Loc X.env.scope x:=by first|exact Bz rfl|exact Bx rfl)(hf:X.fn x=true\/X.env.scope.names.lookup x=some .local:=by first|exact .inl rfl|exact .inr rfl|assumption):SG X (.Name x pos) (Ho i):=uV a hi c hf
def IB(i:Nat)(a:X.N.Nodup)(he:SE X e m)(hi:X.N[i]?=some x:=by rfl)(c:Loc X.env.scope x:=by first|exact Bz rfl|exact Bx rfl)(f:swapsWith e (some<|.Name x pos') pos.line X.env=pure false:=by rfl)(hf:X.fn x=true\/X.env.scope.names.lookup x=some .local:=by first|exact .inl rfl|exact .inr rfl|assumption):SS X (.Assign [.Name x pos'] e pos) (Hm m<|Ho i):=rP a hi c he f hf
def HW{n:Nat}(F:IT X.prog X.w X.K X.mg X.base k x n g)(f:HK j X.A)(h:SA X (e::es) mm)(i:k<=j:=by decide)(q:Gl X x:=by rfl)(z:IQ n mm:=by repeat (first|exact IQ.nil|refine IQ.cons ?_))(a:(x==("__debug__":Str))=false:=by decide)(he:Qqb X.env e es:=by rfl) (c:Qqc pos es X.env:=by rfl) (B:(e::es).length=n:=by rfl):SE X (.Call (.Name x p) (e::es) [] pos) (Hi g mm):=fR F (f.mono i) q h z a he c B
variable {fns:List (Str×SZ)}
def JW(Z:En X.K X.mg fns bl co)(q:SE X e m)(z:UF y=some (.type T))(B:T∈kinds:=by decide)(C:Gl X "isinstance":=by rfl)(hm:("isinstance":Str)∈bl:=by decide +kernel)(a:Gl X y:=by rfl)(c:y∈bl:=by decide +kernel)(f:y≠"__name__":=by decide)(h:(y==("__debug__":Str))=false:=by decide)(F:SL [e,.Name y p2] X.env=(false,UV e X.env)::SL [.Name y p2] X.env:=by rfl) (i:SL [.Name y p2] X.env=[(false,UV (.Name y p2) X.env)]:=by rfl) (n:(backTo pos<|SL [.Name y p2] X.env).any (·.1)=false:=by rfl):SE X (.Call (.Name "isinstance" p) [e,.Name y p2] [] pos) (IY T m):=
 sM (x:="isinstance") B C (Z.b _ hm) q a (Z.b _ c) z f h F i n
def IZ{id:String}(Z:En X.K X.mg fns bl co)(f:Kz X (.builtin id) g)(h:UF x=some (.builtin id))(i:SA X (e::es) mm)(n:Gl X x:=by rfl)(hm:x∈bl:=by decide +kernel)(q:x≠"__name__":=by decide)(a:(x==("__debug__":Str))=false:=by decide)(he:Qqb X.env e es:=by rfl) (c:Qqc pos es X.env:=by rfl):SE X (.Call (.Name x p) (e::es) [] pos) (Hi g mm):=fQ f n (Z.b _ hm) h i q a he c
def K0(Z:En X.K X.mg fns bl co)(f:Kz X (.type T) g)(h:UF x=some (.type T))(i:SA X (e::es) mm)(n:Gl X x:=by rfl)(hm:x∈bl:=by decide +kernel)(q:x≠"__name__":=by decide)(a:(x==("__debug__":Str))=false:=by decide)(he:Qqb X.env e es:=by rfl) (c:Qqc pos es X.env:=by rfl):SE X (.Call (.Name x p) (e::es) [] pos) (Hi g mm):=zmf f n (Z.b _ hm) h i q a he c
def cS{scope:Scope}(N':List Str)(nt:Nat)(fr:List Nat)(fs:List Str)(kind:scope.kind=.function:=by rfl)(c:(scope.names.map (·.1)).Nodup:=by decide +kernel)(hf:scope.names.all (λp=>!(p.2==AI) || fs.contains p.1)=true:=by decide +kernel)(f:fs.all (λx=>scope.names.contains (x,AI))=true:=by decide +kernel) (len:N'.length=nt+fr.length:=by rfl) (a:NK X fs fr (N'.drop nt):=by trivial) (out:NI X fs:=by trivial):Ki X scope N' nt fr:=RV fs kind c hf f len a out
end
end L2.MP
namespace L2.MP.Hx
open PySem L2 L2.MP PySem.W PyProof.Rows
structure kZ(K:Frag)(C:Addr)(cd:ClassData)(es:Array DictEntry):Prop where
 at_:∀bm,cd.mro=.ref C::bm->∃nm ql bs sn sub b2 b3 dd k0 k1 k2 k3 k5,K.lookup C=some (excClassObj nm ql C cd.ns bs bm true sn sub b2 b3 dd k0 k1 k2 k3 k5 "ValueError.__new__")
 ns:∀h:KF,K.In h->h.Ns cd.ns (nsFind es)
variable {K:Frag}{C:Addr}{cd:ClassData}{es:Array DictEntry}
def qZ{a:Addr}(h:P4 K C=some (cd,a,es)):kZ K C cd es:=by
 unfold P4 at h;split at h
 ·rename_i t r s u v w y n A E
  split at h
  ·rename_i q;obtain⟨rfl,rfl,l,o⟩:=q
   split at h
   ·rename_i j m Q W My c
    split at h
    ·rename_i f;cases h;refine⟨λbm e=>?_,λh X=>⟨_,_,_,X _ _ c,rfl,λe he=>?_,λ_=>rfl⟩⟩
     ·obtain⟨nm,bs,mro,ns,g,hd,sn,sub,i,col,del⟩:=cd;dsimp only at e l o;subst e l o;exact⟨nm,g,bs,sn,sub,i,col,r,u,v,w,y,A,E⟩
     ·have:=List.all_eq_true.mp f e (Array.mem_toList_iff.mpr he)
      split at this
      ·rename_i x t' hk;exact⟨x,t',hk⟩
      ·cases this
    ·cases h
   ·cases h
  ·cases h
 ·cases h
def qR(a:Ra K C=true)(b:WC K=true):Pd K C/\keepIn K (.ref C)=true/\kitOne K (.ref C) (.type "ValueError")=some true/\hasDictIn K C=true:=by unfold Ra at a;unfold WC at b;simp only[Ag,beq_iff_eq]at a b;obtain⟨⟨⟨⟨⟨⟨⟨a1,a2⟩,l⟩,o⟩,r⟩,s⟩,u⟩,v⟩:=a;exact⟨⟨a1,a2,l,b.1,b.2,o,r⟩,s,u,v⟩
variable {c:Str}
def Pw(h:Mj K c=some C):KJ K c C:=by
 unfold Mj at h;split at h
 ·rename_i D e;cases h;exact e
 ·cases h
def RL{D:Addr}(h:Mj K c=some C)(g:KJ K c D):D=C:=by have:=Pw h;unfold KJ at this g;rw[g]at this;cases this;rfl
structure Oh(K:Frag)(T:Addr)(d:ED)(C:Addr)(bm:List GM)(cd:ClassData)(es:Array DictEntry):Prop where
 a:Mj K d.c=some C
 k:Pd K C
 kp:keepIn K (.ref C)=true
 v:kitOne K (.ref C) (.type "ValueError")=some true
 hd:hasDictIn K C=true
 cl:kZ K C cd es
 m:cd.mro=.ref C::bm
 b:bm=if d.c="TileError" then NP else .ref T::NP
 no:∀n∈(if d.f.isSome then OA.tail else OA),nsFind es n=none
 ini:∀f st,d.f=some (f,st)->findIn K (.ref C) f=some none/\fastLookup "ValueError" f=some none/\WS K (d.c++".__init__") (nsFind es "__init__")=WR (d.c++".__init__") st
variable {T:Addr}{d:ED}
def U8(g:WC K=true)(h:QZ K T d=Q0 d):∃C bm cd es,Oh K T d C bm cd es:=by
 unfold QZ Q0 at h;cases o:Mj K d.c with
 |none=>rw[o]at h;cases (Bi h).1
 |some C=>
  rw[o]at h;dsimp only at h;cases r:P4 K C with
  |none=>rw[r]at h;cases (Bi h).1
  |some p=>
   obtain⟨cd,Q,es⟩:=p;rw[r]at h;dsimp only at h;obtain⟨u,s⟩:=Bi h;simp only[Ag,beq_iff_eq,BS,Option.isNone_iff_eq_none]at u;obtain⟨⟨⟨b1,v⟩,w⟩,l⟩:=u;obtain⟨x,y,A,E⟩:=qR b1 g;refine⟨C,_,cd,es,o,x,y,A,E,qZ r,v,rfl,w,λf st e=>?_⟩;rw[e]at s l;dsimp only at s l;simp only[Ag,beq_iff_eq]at l;exact⟨l.1,l.2,s⟩
structure P8(K:Frag)(ds:List ED):Prop where
 ex:∃T,Mj K "TileError"=some T/\∀d∈ds,∃C bm cd es,Oh K T d C bm cd es
 pr:∀d∈ds,∀e∈ds,∀C D,KJ K d.c C->KJ K e.c D->kitOne K (.ref C) (.ref D)=some (Oz d.c e.c)
def tW{ds:List ED}(h:OE K ds=OF ds):P8 K ds:=by
 unfold OE OF at h;cases l:Mj K "TileError" with
 |none=>rw[l]at h;cases (Bi h).1
 |some T=>
  rw[l]at h;dsimp only at h;obtain⟨c,o⟩:=Bi h;rw[Ag]at c;obtain⟨g,c⟩:=c;refine⟨⟨T,l,λd hd=>U8 g (Ta o d hd)⟩,λd hd e he C D r s=>?_⟩;have:=List.all_eq_true.mp (List.all_eq_true.mp c d hd) e he;unfold aE at this;split at this
  ·rename_i u v a1 a2
   cases RL a1 r;cases RL a2 s;exact beq_iff_eq.mp this
  ·cases this
variable {bm b2:List GM}{cd2:ClassData}{es2:Array DictEntry}{h:KF}
def UY{D:Addr}(X:K.In h)(U:Oh K T ⟨"TileError",none⟩ D b2 cd2 es2)(f:Mj K "TileError"=some T)(E:Oh K T d C bm cd es):OT h OA NP bm:=by
 rw[E.b];split
 ·exact .base
 have e:D=T:=As<|U.a.symm.trans f;subst e;obtain⟨nm,o,bs,sn,sub,c,r,s,u,v,w,x,y,at_⟩:=U.cl.at_ b2 U.m;exact .own (X _ _ at_) (U.cl.ns h X) (λn l=>U.no n l) .base
def eQ:NP.contains (.type "ValueError")=true:=by decide +kernel
def zK{D:Addr}(X:K.In h)(U:Oh K T ⟨"TileError",none⟩ D b2 cd2 es2)(a:Mj K "TileError"=some T)(E:Oh K T d C bm cd es)(hf:d.f=none):PlainAt h C:=by obtain⟨nm,l,bs,sn,sub,c,o,r,s,u,v,w,x,at_⟩:=E.cl.at_ bm E.m;exact⟨nm,l,cd.ns,bs,bm,NP,NP,true,sn,sub,c,o,r,s,u,v,w,x,"ValueError.__new__","ValueError","ValueError","ValueError.__new__","ValueError.__init__","ValueError.__init__",nsFind es,F.excBase_ValueError,eQ,F.excBase_ValueError,(UY X U a E).tail<|by decide,X _ _ at_,E.cl.ns h X,E.no _ (by rw[hf];exact Al)⟩
def zR{D:Addr}(X:K.In h)(U:Oh K T ⟨"TileError",none⟩ D b2 cd2 es2)(a:Mj K "TileError"=some T)(E:Oh K T d C bm cd es):JT h C:=by obtain⟨nm,l,bs,sn,sub,c,o,r,s,u,v,w,x,at_⟩:=E.cl.at_ bm E.m;exact⟨nm,l,cd.ns,bs,bm,true,sn,sub,c,o,r,s,u,v,w,x,"ValueError.__new__",X _ _ at_,(UY X U a E).has<|by decide +kernel⟩
variable {f:Str}{st:SZ}
def qQ{D:Addr}(X:K.In h)(U:Oh K T ⟨"TileError",none⟩ D b2 cd2 es2)(e:Mj K "TileError"=some T)(E:Oh K T d C bm cd es)(hf:d.f=some (f,st))(a:f∈OA.tail):Mi h C f:=by
 obtain⟨nm,l,bs,sn,sub,c,o,r,s,u,v,w,x,at_⟩:=E.cl.at_ bm E.m;have no:=E.no;rw[hf]at no;have y:typeLookup (.type "ValueError") f=pure none:=by rw[Em,Di,(E.ini f st hf).2.1]
 exact⟨nm,l,cd.ns,bs,bm,NP,sn,sub,c,o,r,s,u,v,w,x,"ValueError.__new__","ValueError","object.__setattr__","object",nsFind es,OA,X _ _ at_,E.cl.ns h X,no f a,no _ (show("__setattr__":Str)∈OA.tail by decide),UY X U e E,List.mem_of_mem_tail a,by decide,F.store_ValueError,y⟩
def tZ{D:Addr}(U:Oh K T ⟨"TileError",none⟩ D b2 cd2 es2)(g:Mj K "TileError"=some T)(E:Oh K T d C bm cd es)(hf:d.f=some (f,st)):
  ∃a fd,Nd K "__init__" (d.c++".__init__") st a fd/\∀h:KF,K.In h->Kv h C a:=by
 have e:=(E.ini f st hf).2.2;unfold WS WR at e;split at e
 ·rename_i a r
  split at e
  ·rename_i t j fd z l
   split at e
   ·rename_i s;subst s;obtain⟨a1,a2⟩:=Bi<|As e;obtain⟨n,q,p,b,sc,gl,cl,B,G,H,pm,an,u,I,J⟩:=fd;cases a1;refine⟨a,_,Vd l a2<|dN l,λh X=>?_⟩;obtain⟨nm,v,bs,sn,sub,o,w,x,y,A,Q,W,i,at_⟩:=E.cl.at_ bm E.m;exact⟨nm,v,cd.ns,bs,bm,NP,NP,true,sn,sub,o,w,x,y,A,Q,W,i,"ValueError.__new__","ValueError","ValueError","ValueError.__new__","ValueError.__init__","ValueError.__init__",nsFind es,_,F.excBase_ValueError,eQ,F.excBase_ValueError,(UY X U g E).tail<|by decide,X _ _ at_,E.cl.ns h X,r,X _ _ l,rfl⟩
   ·cases e
  ·cases e
 ·cases e
end L2.MP.Hx
namespace L2.MP
open PySem L2 PySem.W PyProof.Rows Hx
def J0(ns:List Str)(c y:Str):Option Bool:=if c∈ns/\y∈ns then some (Oz c y)else none
def QV(ns:List Str)(c:Str):Option Bool:=if c∈ns then some true else none
structure EE(K:Frag)(mg:Str->Option GM)(ds:List ED):Prop where
 e0:∀d∈ds,d.f=none->∃C,KJ K d.c C/\mg d.c=some (.ref C)/\keepIn K (.ref C)=true/\∀h:KF,K.In h->PlainAt h C
 e1:∀d∈ds,∀f st,d.f=some (f,st)->f∈OA.tail->∃C fa fd,KJ K d.c C/\mg d.c=some (.ref C)/\keepIn K (.ref C)=true/\Nd K "__init__" (d.c++".__init__") st fa fd/\(∀h:KF,K.In h->Kv h C fa)/\(∀h:KF,K.In h->Mi h C f)/\∀h:KF,K.In h->JT h C
 is:Rk K (J0 (ds.map (·.c)))
 it:mG K "ValueError" (QV (ds.map (·.c)))
 at_:∀d∈ds,∀f st,d.f=some (f,st)->UT K f λc=>decide (c=d.c)
 fn:∀d∈ds,∃C,KJ K d.c C/\mg d.c=some (.ref C)
 ex:∀d∈ds,d.c≠"TileError"->∃T,mg "TileError"=some (.ref T)/\∀C,KJ K d.c C->exmOne K (.ref C) (.ref T)=some true
variable {K:Frag}{mg:Str->Option GM}{ds:List ED}
def EE.of{h:KF}(A:P8 K ds)(g:⟨"TileError",none⟩∈ds)(X:K.In h)(G:h.Ns Wp mg):EE K mg ds:=by
 obtain⟨T,o,all⟩:=A.ex;obtain⟨D,B,H,I,U⟩:=all _ g;refine⟨λd hd hf=>?_,λd hd f st hf J=>?_,λc y b C D e l L=>?_,λc b C e l=>?_,λd hd f st hf c C N l=>?_,λd hd=>?_,λd hd u=>⟨T,mg_of X G<|Pw o,λC l=>?_⟩⟩
 ·obtain⟨C,bm,cd,r,E⟩:=all d hd;exact⟨C,Pw E.a,mg_of X G<|Pw E.a,E.kp,λW s=>zK s U o E hf⟩
 ·obtain⟨C,bm,cd,r,E⟩:=all d hd;obtain⟨S,fd,F,M⟩:=tZ U o E hf;exact⟨C,S,fd,Pw E.a,mg_of X G<|Pw E.a,E.kp,F,M,λW s=>qQ s U o E hf J,λW s=>zR s U o E⟩
 ·unfold J0 at e
  split at e
  ·rename_i q;cases e;obtain⟨d,hd,rfl⟩:=P3.mp q.1;obtain⟨Y,w,rfl⟩:=P3.mp q.2;obtain⟨x,bm,cd,r,E⟩:=all d hd
   cases RL E.a l;exact⟨E.k,A.pr d hd Y w _ _ l L⟩
  ·cases e
 ·unfold QV at e
  split at e
  ·rename_i q;cases e;obtain⟨d,hd,rfl⟩:=P3.mp q;obtain⟨x,bm,cd,r,E⟩:=all d hd
   cases RL E.a l;exact⟨E.k,E.v⟩
  ·cases e
 ·have Q:=of_decide_eq_true N;subst Q;obtain⟨x,bm,cd,r,E⟩:=all d hd
  cases RL E.a l;exact⟨E.k,(E.ini f st hf).1,E.hd⟩
 ·obtain⟨C,bm,cd,r,E⟩:=all d hd;exact⟨C,Pw E.a,mg_of X G<|Pw E.a⟩
 ·obtain⟨x,bm,cd,r,E⟩:=all d hd
  cases RL E.a l;have Z:D=T:=As<|U.a.symm.trans o;subst Z;have ne:C≠D:=λz=>by subst z;obtain⟨_,_,_,_,_,_,_,_,_,_,_,_,_,h1⟩:=E.cl.at_ bm E.m;obtain⟨_,_,_,_,_,_,_,_,_,_,_,_,_,i⟩:=U.cl.at_ B U.m;rw[h1]at i;have j:=E.b;rw[if_neg u]at j;have n:=U.b;rw[if_pos rfl]at n;subst j n;simp[excClassObj,NP]at i
  have hk:=A.pr d hd _ g C D l<|Pw o;have hs:Oz d.c "TileError"=true:=by simp[Oz]
  rw[show(ED.mk "TileError" none).c="TileError" from rfl,hs]at hk;unfold kitOne at hk;rw[if_neg (by simp[ne])]at hk;unfold exmOne;have mb:subIn K (.ref D) (.type "BaseException")=some true:=U.k.mb;rw[if_pos (by rw[mb];rfl)];exact hk
def Uw(c:Str):Str->Bool:=λx=>decide (x=c)
structure MR(c f n1:Str)(st:SZ):Prop where
 S:Iv ["self",n1] ["self",n1] (Jd st)
 hb:∃p0 p1 pos' pos,K9 st=[.Assign [.Attribute (.Name "self" p0) f pos'] (.Name n1 p1) pos]/\∀env,swapsWith (.Name n1 p1) (some (.Attribute (.Name "self" p0) f pos')) pos.line env=pure false
 v0:(Jd st).names.lookup ("self":Str)=some .local
 v1:(Jd st).names.lookup n1=some .local
 d1:(n1==("__debug__":Str))=false
 c1:(n1==("__classdict__":Str))=false
 bd:∀(kV doc pm:GM) (an:Option Addr) (cdv ct:GM) (us:List GM),us.length=2->bindArgs (fnOf "__init__" (c++".__init__") (OZ st) (K9 st) (Jd st) .none kV doc pm an cdv ct) ⟨us,[]⟩=pure ((["self",n1]:List Str).zip us)
variable {X:Cx}{c f n1:Str}{st:SZ}{m:ME}{mm:MA}{e:PP}{es:List PP}{p pos:Pos}{ns:List Str}
section
variable {p2:Pos}{d:ED}
def OG(Y:EE X.K X.mg ds)(i:Nat)(hi:ds[i]?.map (·.c)=some c:=by rfl)(g:Gl X c:=by rfl)(a:(c==("__debug__":Str))=false:=by decide):SE X (.Name c p) (mK<|.fn c):=by obtain⟨d,hd,rfl⟩:=Option.map_eq_some_iff.mp hi;obtain⟨C,e,hm⟩:=Y.fn _<|AK hd;exact aI g hm e a
def GQ(Y:EE X.K X.mg ds)(g:X.mg "isinstance"=none)(h:SA X (e::es) mm)(i:ds.map (·.c)=ns:=by rfl)(j:Gl X "isinstance":=by rfl)(he:Qqb X.env e es:=by rfl)(a:Qqc pos es X.env:=by rfl):
  SE X (.Call (.Name "isinstance" p) (e::es) [] pos) (Hi (Qm<|J0 ns) mm):=by
 subst i;exact fQ (xP Y.is) j g (by decide +kernel) h (by decide) (by decide) he a
def eat(Y:EE X.K X.mg ds)(i:Nat)(he:SE X e m)(hi:ds[i]?=some ⟨c,some (f,st)⟩:=by rfl)(a:attributeBase e f X.env (UV e X.env)=UV e X.env:=by rfl):SE X (.Attribute e f pos) (NA (Uw c) f m):=sI (Y.at_ _ (AK hi) f st rfl) he a
end
structure RX(P:Os)(w:Re)(K:Frag)(mg:Str->Option GM)(base:KF)(c fld:Str)(C:Addr):Prop where
 fn:KJ K c C
 at_:mg c=some (.ref C)
 kp:keepIn K (.ref C)=true
 ex:∃fa fd ps,(∀h:KF,K.In h->Kv h C fa)/\Ja P w K mg base Lu 1 fa fd ps (Xj C fld)/\Binds K fd ps []
 ra:∀h:KF,K.In h->JT h C
variable {k j:Nat}{cpos:Pos}
section
variable {P:Os}{w:Re}{base:KF}
def EE.rx(Y:EE K mg ds)(J:MR c f n1 st)(i:Nat)(hi:ds[i]?=some ⟨c,some (f,st)⟩)(hf:f∈OA.tail):∃C,RX P w K mg base c f C:=by obtain⟨C,j,fd,l,hm,hk,F,m,o,r⟩:=Y.e1 _ (AK hi) f st rfl hf;obtain⟨v,x,pos',e,s,u⟩:=J.hb;exact⟨C,l,hm,hk,⟨j,fd,_,m,uA (k:=0) F J.S s o J.v0 J.v1 (by decide) J.d1 (by decide) J.c1 u,F.binds J.bd⟩,r⟩
def dZ{fns:List (Str×SZ)}{n:List Str}{co:List (Str×(Str⊕Int))}{x:Str}{m:MS}(Z:En K mg fns n co)(Y:EE K mg ds)(J:MR c f n1 st)(q:Nat)(s0:SZ)(i:Nat)(N ps:List Str)(g:N.Nodup->∀(C:Addr),RX P w K mg base c f C->∀(h:Addr) (a:GM) (A:Around) (outer:List Env) (s:Shared) (H:Hp) (E:XK),HK k (A.deeper<|envOfC x (Jd s0) s.heap.objs.size h a) ->
   P6 (HJ (JN P w C f) P w K mg base N x (Jd s0) h a A outer s H E) LG (λi B=>E (.int i 0) none B) (K9 s0) m) (G:ds[q]?=some ⟨c,some (f,st)⟩:=by rfl) (hf:f∈OA.tail:=by decide) (hi:fns[i]?=some (x,s0):=by rfl)
  (S:Sf N ps (Jd s0)=true:=by decide +kernel) (b:WK x s0 ps:=by intro _ _ _ _ _ _;first|exact PX λ_=>rfl|exact NC λ_ _=>rfl|exact PV λ_ _ _=>rfl|exact NB λ_ _ _ _=>rfl|exact Q5 λ_ _ _ _ _=>rfl):NJ P w K mg base (k+1) x ps.length c f (Jc N.length m):=by
 obtain⟨C,R⟩:=Y.rx (P:=P) (w:=w) (base:=base) J q G hf;obtain⟨h,fd,F,hm,e⟩:=Z.laid hi b;exact⟨C,h,fd,ps,R.fn,R.at_,R.ra,Z7 (by intro i z;cases z) F (Pe S) λa A outer s H E j=>g (Pe S).nd C R h a A outer s H E j,hm,F.kp,e⟩
variable {N:List Str}{qual:Str}{scope:Scope}{fa:Addr}{cd:GM}{A:Around}{outer:List Env}{s0:Shared}{H0:Hp}{E:XK}{C:Addr}
def UI(R:RX P w K mg base c f C)(h:HK j (HJ (JN P w C f) P w K mg base N qual scope fa cd A outer s0 H0 E).A)(he:SE (HJ (JN P w C f) P w K mg base N qual scope fa cd A outer s0 H0 E) e m)(n:2<=j:=by decide)(q:Gl (HJ (JN P w C f) P w K mg base N qual scope fa cd A outer s0 H0 E) c:=by rfl)(g:(c==("__debug__":Str))=false:=by decide)(a:SL [e] (HJ (JN P w C f) P w K mg base N qual scope fa cd A outer s0 H0 E).env=(false,UV e (HJ (JN P w C f) P w K mg base N qual scope fa cd A outer s0 H0 E).env)::SL [] (HJ (JN P w C f) P w K mg base N qual scope fa cd A outer s0 H0 E).env:=by rfl):
  SX (HJ (JN P w C f) P w K mg base N qual scope fa cd A outer s0 H0 E) LG (λi B=>E (.int i 0) none B) (.Raise (some<|.Call (.Name c p) [e] [] cpos) none pos) (OU LG m):=by
 obtain⟨ga,fd,r,l,F,o⟩:=R.ex;exact zn6 (λi j z=>by cases z;rfl) l R.ra R.kp F (h.mono n) q R.at_ o he (Hg he Hk a) g a
end
section
variable {n i:Nat}{g fld xn nm c0:Str}{gg:GN}{mh:MS}{epos np hpos px cp tp apos:Pos}{st0:SZ}{more:List SZ}{kk x1:Nat} {fs:Option (Str×SZ)}
def etA(Y:EE X.K X.mg ds)(q i j:Nat)(D:NJ X.prog X.w X.K X.mg X.base k g n c fld gg)(I:HK k X.A)(J:SA X.nox (e::es) mm)(L:IQ n mm)(M:X.N.Nodup)(S:∀x W,LI (WB X x W) (st0::more) mh)(U:ds[q]?=some ⟨c,fs⟩:=by rfl) (a:c≠"TileError":=by decide) (Z:X.stack=X.env::X.outer:=by rfl) (hf:X.env.frame=some X.env.locals:=by rfl) (hg:Gl X g:=by rfl) (h:Gl X "TileError":=by rfl) (hi:X.N[i]?=some xn:=by rfl) (hj:X.N[j]?=some nm:=by rfl)(z:X.env.scope.names.lookup xn=some .local:=by rfl) (B:X.env.scope.names.lookup nm=some .local:=by rfl) (C:(g==("__debug__":Str))=false:=by decide) (he:Qqb X.env e es:=by rfl) (F:Qqc cpos es X.env:=by rfl)(G:SL [.Constant (.str c0) kk cp,.Call (.Name g p) (e::es) [] cpos] X.env=[(false,UV (.Constant (.str c0) kk cp) X.env),(false,UV (.Call (.Name g p) (e::es) [] cpos) X.env)]:=by rfl)(H:swapsWith (.Tuple [.Constant (.str c0) kk cp,.Call (.Name g p) (e::es) [] cpos] x1 tp) (some<|.Name xn px) apos.line X.env=pure false:=by rfl):
  SS X (.Try [.Assign [.Name xn px] (.Tuple [.Constant (.str c0) kk cp,.Call (.Name g p) (e::es) [] cpos] x1 tp) apos] [.ExceptHandler (some<|.Name "TileError" np) (some nm) (st0::more) hpos] [] [] pos) (Sz c0 gg mm i j c fld mh):=by
 obtain⟨T,hm,f⟩:=Y.ex _ (AK U) a;exact vB D Z hf I hg J L h hm f M hi hj z B S (by decide) C he F G H
end
end L2.MP
namespace L2.MP.Hx
open PySem L2 L2.MP PySem.W PyProof.Rows
def Qn(fns:List (Str×SZ))(c:List Str)(co:List (Str×(Str⊕Int)))(ds:List ED):Hook where
 α:=(List (Option<|FuncData×Bool)×List (Option<|Option GM)×List (Option<|Str⊕Int))×Bool×List OM
 obs s:=(Nb s.heap.get? fns c co,OE (ML s.heap) ds)
 val _:=(P2 fns c co,OF ds)
 says _ h:=∃K:Frag,K.In h/\WI K fns c co/\P8 K ds
 of w s e:=by obtain⟨l,o⟩:=Bi e;exact⟨ML s.heap,uS _,pO (by rw[funext (hU s.heap)];exact l),tW o⟩
 keeps w h h':=λ⟨K,a,b⟩ k=>⟨K,a.keeps k,b⟩
def Nr{l:OpenLaw}{n k:Nat}{q:Os}{loose:List Str}{XP:(Str->Option GM)->KF->Prop}{fns:List (Str×SZ)}{C:List Str}{co:List (Str×(Str⊕Int))}{ds:List ED}{d:DefRec}{CX:Oi}{sp:Frag->Sp}{x:Str}(I:l.most=some n) (j:n<=sizeLine) (m:d.params.defaults=[]) (J:HK k callerA)(F:∀(K:Frag) (w:Re) (g:Str->Option GM) (i:Addr) (h:KF),WI K fns C co->P8 K ds->K.In h->h.Ns Wp g->g d.name=some (.ref i) ->
   ∃fd:FuncData,(∀(s:Shared) (u:GM),BindsTo s fd ⟨[u],[]⟩ [(x,u)])/\∀base:KF,K.In base->base.Ns Wp g->Ja l.prog w K g base CX k i fd [x] (sp K))
  (z:∀(K:Frag) (H:Hp) (a:Addr) (ns:List Int),ns.length<=n->OL H->Kf K H a (ns.map V.int)->sp K [.ref a] H (λv _=>v=.bl true) λ_ _ _=>False)
  (B:∀(H:Hp) (s:Shared) (e:GM) (s':Shared),CX [] H s (λ_ _ _=>False) e s'->False):
  WalkO q loose XP (Qn fns C co ds).says l.row.toRowW d [] (λf L=>F7 f L):=by
 intro w s₀ s₁ g o G Y;obtain⟨K,r,A,E⟩:=Y;exact L2.PJ (K:=λ_=>K) (CX:=λ_=>CX) (sp:=λ_=>sp K) (YP:=λ_ h=>K.In h) I j m J (λ_ _ y=>y) (λw g i h a b c=>F K w g i h A E a b c) (λ_ H a ns Q W M=>z K H a ns Q W M) (λ_ H s e s'=>B H s e s') w s₀ s₁ g o G r
end L2.MP.Hx
namespace L2.MP
open PySem L2 PySem.W PyProof.Rows
def UH{X:Cx}{x:Str}{st:SZ}{p:Pos}{fns:List (Str×SZ)}{c:List Str}{co:List (Str×(Str⊕Int))}(Z:En X.K X.mg fns c co)(i:Nat)(hi:fns[i]?=some (x,st):=by rfl)(e:Gl X x:=by rfl)(a:(x==("__debug__":Str))=false:=by decide):SE X (.Name x p) (mK<|.fn x):=by obtain⟨f,F,hm⟩:=Z.l _<|AK hi;exact aI e hm F.ns a
end L2.MP
namespace L2.MP.T0
open PySem L2.MP L2.MP.Hn
def Og:List Str:=["TileError","NoGrowing","NoText","NoPlace","Taken","NoKind","NotHeld","NothingBack","NotSure","TooMany","NotFramed","NoLine"]
def YG:MS:=mR (JE (IY "int"<|mV 0)<|JE (UX<|IY "bool"<|mV 0)<|Jm HV HV (mV 1) (mV 0)<|mV 2)
def Ou:GN:=Jc 3 YG
def iC:MS:=mR (JE (IY "tuple"<|mV 0)<|mB Ie (Hi Hl<|Hc (mV 0)<|mZ)<|mV 1)
def LW:GN:=Jc 2 iC
def YS:ME:=mB Lb (mV 0) (mK<|.str "abcdefghijklmnopqrstuvwxyz")
def znh:MS:=mR (JE (IY "str"<|mV 0)<|JE (Jm HV HV (mK<|.int 1) (Hi Hl<|Hc (mV 0)<|mZ)<|mK<|.int 8)<|Hi Jy<|Hc (Jl (Ju<|mV 0) 1 [] (Ho 0) IC<|YS)<|mZ)
def Yx:GN:=Jc 1 znh
def iA:MS:=mR<|JE (Hi LW<|Hc (mV 0)<|Hc (mK<|.int 2)<|mZ)<|JE (Hi Yx<|Hc (mB Hr (mV 0)<|mK<|.int 0)<|mZ)<|Hi Ou<|Hc (mB Hr (mV 0)<|mK<|.int 1)<|Hc (mK<|.int 1)<|Hc (mK<|.int 4)<|mZ
def YJ:GN:=Jc 1 iA
def zni:MS:=mR (JE (IY "str"<|mV 0)<|JE (mB HV (Hi Hl<|Hc (mV 0)<|mZ)<|mK<|.int 1)<|mB Lb (mV 0)<|mK<|.str "abcdefghijklmnopqrstuvwxyz0123456789")
def VJ:GN:=Jc 1 zni
def gP:MS:=mR (JE (IY "str"<|mV 0)<|L9 (mB Ie (mV 0)<|mK<|.str "")<|mB Lb (mV 0)<|mV 1)
def Yy:GN:=Jc 2 gP
def VW:ME:=Hi Yy<|Hc (mV 0)<|Hc (mV 1)<|mZ
def gO:MS:=mR<|JE (Hi LW<|Hc (mV 0)<|Hc (mK<|.int 5)<|mZ)<|JE (Hi VJ<|Hc (mB Hr (mV 0)<|mK<|.int 0)<|mZ)<|Hi Jy<|Hc (Jl (Ju<|Ij (mV 0) (IW<|mK<|.int 1)<|Jw) 1 [1] (Ho 0) IC<|VW)<|mZ
def Yw:GN:=Jc 2 gO
def YF:MS:=mR<|JE (Hi LW<|Hc (mV 0)<|Hc (mK<|.int 2)<|mZ)<|JE (Hi Ou<|Hc (mB Hr (mV 0)<|mK<|.int 0)<|Hc (mK<|.int 1)<|Hc (mK<|.int 12)<|mZ)<|Hi Ou<|Hc (mB Hr (mV 0)<|mK<|.int 1)<|Hc (mK<|.int 1)<|Hc (mK<|.int 12)<|mZ
def YH:GN:=Jc 1 YF
def hV:MS:=mS (Hm (mB Hr (mV 0)<|mK<|.int 1)<|Ho 2)<|mR<|JE (Hi LW<|Hc (mV 1)<|Hc (mK<|.int 2)<|mZ)<|JE (Hi Ou<|Hc (mB Hr (mV 1)<|mK<|.int 0)<|Hc (mK<|.int 0)<|Hc (mB KC (mB Hr (mV 2)<|mK<|.int 0)<|mK<|.int 1)<|mZ)<|Hi Ou<|Hc (mB Hr (mV 1)<|mK<|.int 1)<|Hc (mK<|.int 0)<|Hc (mB KC (mB Hr (mV 2)<|mK<|.int 1)<|mK<|.int 1)<|mZ
def YI:GN:=Jc 3 hV
def gQ:MS:=mS (Hm (mB Hr (mB Hr (mV 0)<|mK<|.int 0)<|mK<|.int 2)<|Ho 2)<|mR<|JE (Hi LW<|Hc (mV 1)<|Hc (mK<|.int 3)<|mZ)<|JE (Hi YI<|Hc (mV 0)<|Hc (Ij (mV 1) Jw<|IW<|mK<|.int 2)<|mZ)<|Hi Ou<|Hc (mB Hr (mV 1)<|mK<|.int 2)<|Hc (mK<|.int 0)<|Hc (mB KC (Hi Hl<|Hc (mV 2)<|mZ)<|mK<|.int 1)<|mZ
def Yz:GN:=Jc 3 gQ
def Wq:ME:=mB Lb (mV 0) (mK<|.str "0123456789")
def jY:MS:=mS (Ih (IL (J8<|mT<|Jm HV HV (mK<|.int 1) (Hi Hl<|Hc (mV 0)<|mZ)<|mK<|.int 6)<|J8<|mT<|Hi Jy<|Hc (Jl (Ju<|mV 0) 1 [] (Ho 0) IC<|Wq)<|mZ) (mR<|mK .non)<|IH) (mS (Ih (JD (mT<|mB Ie (mB Hr (mV 0)<|mK<|.int 0)<|mK<|.str "0")<|mT<|mB IS (mV 0)<|mK<|.str "0") (mR<|mK .non)<|IH)<|mR<|Hi MJ<|Hc (mV 0)<|mZ)
def V4:GN:=Jc 1 jY
def Ze:ME:=Hi V4<|Hc (mV 0)<|mZ
def kF:MS:=mR<|Hi LR<|Hc (Jl (Ju<|mV 0) 1 [] (Ho 0) IC<|Ze)<|mZ
def Sa:GN:=Jc 1 kF
def jX:MS:=mS (Hm (Hi Sa<|Hc (Ij (mV 0) (IW<|mK<|.int 1)<|Jw)<|mZ)<|Ho 3)<|mS (Ih (IL (mT<|mB IS (Hi Hl<|Hc (mV 3)<|mZ)<|mK<|.int 1)<|IL (mT<|mB IV (Hi Hl<|Hc (mV 1)<|mZ)<|mK<|.int 0)<|J8<|mT<|Hi Ou<|Hc (mB Hr (mV 3)<|mK<|.int 0)<|Hc (mK<|.int 1)<|Hc (mK<|.int 4)<|mZ) (mR<|mK .non)<|IH)<|mR<|mB Hr (mV 3)<|mK<|.int 0
def V3:GN:=Jc 4 jX
def Y3:MS:=mS (Ih (mT<|mB IS (Hi Hl<|Hc (mV 0)<|mZ)<|mK<|.int 3) (mR<|mK .non)<|IH)<|mS (Hm (mU<|Hc (mB Hr (mV 0)<|mK<|.int 1)<|Hc (Hi V4<|Hc (mB Hr (mV 0)<|mK<|.int 2)<|mZ)<|mZ)<|Ho 3)<|mS (Ih (IL (J8<|mT<|Hi YJ<|Hc (mV 3)<|mZ)<|JD (Nz<|mV 1)<|mT<|mB leB (mB Hr (mV 3)<|mK<|.int 0)<|mB Hr (mB Hr (mV 1)<|Lh<|mK<|.int 1)<|mK<|.int 0) (mR<|mK .non)<|IH)<|mR<|mV 3
def V9:GN:=Jc 4 Y3
def V1:ME:=MD (mT<|mB Ie (mV 0)<|mK<|.str "-") (mK<|.str "") (mV 0)
def YR:MS:=mS (Ih (mT<|mB Lb (mK<|.str "")<|mV 0) (mR<|mK .non)<|IH) (mS (Hm (Hi LR<|Hc (Jl (Ju<|Ij (mV 0) (IW<|mK<|.int 1)<|Jw) 1 [] (Ho 0) IC<|V1)<|mZ)<|Ho 3)<|mR<|MD (mT<|Hi Yw<|Hc (mV 3)<|Hc (mV 2)<|mZ) (mV 3)<|mK .non)
def VX:GN:=Jc 4 YR
def jC:MS:=mS (Hm (Hi Sa<|Hc (Ij (mV 0) (IW<|mK<|.int 1)<|Jw)<|mZ)<|Ho 3)<|mS (Ih (IL (mT<|mB Ie (Hi Hl<|Hc (mV 2)<|mZ)<|mK<|.int 0)<|IL (mT<|mB IV (Hi Hl<|Hc (mV 1)<|mZ)<|mK<|.int 0)<|J8<|mT<|Hi YH<|Hc (mV 3)<|mZ) (mR<|mK .non)<|IH)<|mR<|mV 3
def V8:GN:=Jc 4 jC
def kK:MS:=mS (Hm (Hi Sa<|Hc (Ij (mV 0) (IW<|mK<|.int 1)<|Jw)<|mZ)<|Ho 3)<|mS (Ih (IL (J8<|mT<|Hi Yz<|Hc (mV 2)<|Hc (mV 3)<|mZ)<|JD (Nz<|mV 1)<|mT<|mB leB (Ij (mV 3) Jw<|IW<|mK<|.int 2)<|Ij (mB Hr (mV 1)<|Lh<|mK<|.int 1) Jw<|IW<|mK<|.int 2) (mR<|mK .non)<|IH)<|mR<|mV 3
def Wg:GN:=Jc 4 kK
def Oy:Str->Option GN:=λx=>if x="read_enough" then some V3 else if x="read_stick" then some V9 else if x="read_kind" then some VX else if x="read_floor" then some V8 else if x="read_seed_tile" then some Wg else none
def Ub:MT:=JD (mT<|mB Ik (mV 1)<|Hi Hl<|Hc (mV 0)<|mZ)<|mT<|mB Ie (mB Hr (mB Hr (mV 0)<|mV 1)<|mK<|.int 0)<|mV 2
def Wa:MS:=mS (Hm (Vf Oy (mV 3)<|Hc (mB Hr (mV 0)<|mV 1)<|Hc (mV 5)<|Hc (mV 4)<|mZ)<|Ho 6)<|mS (Ih (mT<|mB Ku (mV 6)<|mK .non) (OU LG<|mV 1)<|IH)<|mS (Li<|Lk (mV 5)<|Hc (mV 6)<|mZ)<|Lj 1<|mK<|.int 1
def iE:MS:=mS (Hm (mL<|mZ)<|Ho 5)<|mS (J3 Ub Wa 9000)<|mR<|Hi LR<|Hc (mV 5)<|mZ
def QM:GN:=Jc 7 iE
def V6:ME:=MX OW (mV 0) (Hc (mK<|.str " ")<|mZ)
def VZ:MS:=mS (Ih (J8<|mT<|IY "str"<|mV 0) (OU LG<|mK<|.int 0)<|IH) (mS (Hm (Jl (Ju<|MX OW (mV 0)<|Hc (mK<|.str "\n")<|mZ) 1 [] (Ho 0) IC<|V6)<|Ho 1)<|mS (Pk QM (Hc (mV 1)<|Hc (mK<|.int 0)<|Hc (mK<|.str "enough")<|Hc (mK<|.fn "read_enough")<|Hc (mK .non)<|mZ) 2)<|mS (Ih (mT<|mB Ie (Hi Hl<|Hc (mV 2)<|mZ)<|mK<|.int 0) (OU LG<|mK<|.int 0)<|IH)<|mS (Hm (mK<|.int 1)<|Ho 3)<|mS (Pk QM (Hc (mV 1)<|Hc (mV 3)<|Hc (mK<|.str "stick")<|Hc (mK<|.fn "read_stick")<|Hc (mK .non)<|mZ) 4)<|mS (Lj 3<|Hi Hl<|Hc (mV 4)<|mZ)<|mS (Pk QM (Hc (mV 1)<|Hc (mV 3)<|Hc (mK<|.str "kind")<|Hc (mK<|.fn "read_kind")<|Hc (Hi U1<|Hc (mV 4)<|mZ)<|mZ) 5)<|mS (Lj 3<|Hi Hl<|Hc (mV 5)<|mZ)<|mS (Pk QM (Hc (mV 1)<|Hc (mV 3)<|Hc (mK<|.str "floor")<|Hc (mK<|.fn "read_floor")<|Hc (mV 5)<|mZ) 6)<|mS (Ih (mT<|mB Ie (Hi Hl<|Hc (mV 6)<|mZ)<|mK<|.int 0) (OU LG<|mV 3)<|IH)<|mS (Lj 3<|mK<|.int 1)<|mS (Hm (mU<|Hc (mB Hr (mV 2)<|mK<|.int 0)<|Hc (mV 4)<|Hc (mV 5)<|mZ)<|Ho 7)<|mS (Pk QM (Hc (mV 1)<|Hc (mV 3)<|Hc (mK<|.str "tile")<|Hc (mK<|.fn "read_seed_tile")<|Hc (mU<|Hc (mV 7)<|Hc (mB Hr (mV 6)<|mK<|.int 0)<|Hc (mU<|mZ)<|mZ)<|mZ) 8)<|mS (Lj 3<|Hi Hl<|Hc (mV 8)<|mZ)<|mS (Ih (mT<|mB Ik (mV 3)<|Hi Hl<|Hc (mV 1)<|mZ) (OU LG<|mV 3)<|IH)<|mR<|mU<|Hc (mV 7)<|Hc (mB Hr (mV 6)<|mK<|.int 0)<|Hc (mV 8)<|mZ)
def R9:GN:=Jc 9 VZ
def kC:MS:=mR (JE (IY "str"<|mV 0)<|JE (Jm Ik Ik (mK<|.int 0) (Hi Hl<|Hc (mV 0)<|mZ)<|mK<|.int 9)<|mB Ie (MX Oq (mV 0)<|Hc (mK<|.str "abcdefghijklmnopqrstuvwxyz")<|mZ)<|mK<|.str "")
def Wr:GN:=Jc 1 kC
def Wm:ME:=mB Ht (mB Ht (mB Ht (mK<|.str "stick ")<|mV 0)<|mK<|.str " ") (Hi J1<|Hc (mV 1)<|mZ)
def Sd:ME:=mB Ht (mV 0) (mB IE (mK<|.str "-")<|Hi HF<|Hc (mB Ie (mV 0)<|mK<|.str "")<|mZ)
def Zc:MS:=Li (Lk (mV 4)<|Hc (mB Ht (mK<|.str "kind ")<|OQ (mK<|.str " ")<|Hc (Jl (Ju<|mV 5) 1 [] (Ho 0) IC<|Sd)<|mZ)<|mZ)
def Wo:ME:=mB Ht (mB Ht (mB Ht (mB Ht (mB Ht (mK<|.str "tile ")<|Hi J1<|Hc (mV 0)<|mZ)<|mK<|.str " ")<|Hi J1<|Hc (mV 1)<|mZ)<|mK<|.str " ") (Hi J1<|Hc (mV 2)<|mZ)
def jV:MS:=mS (Hm (mB Hr (mV 0)<|mK<|.int 0)<|LP 3<|gC (Ho 1)<|gC (Ho 2)<|gC (Ho 3)<|Lo) (mS (Hm (mB Ht (mL<|Hc (mB Ht (mK<|.str "enough ")<|Hi J1<|Hc (mV 1)<|mZ)<|mZ)<|Jl (Ju<|mV 2) 2 [] (LP 2<|gC (Ho 0)<|gC (Ho 1)<|Lo) IC<|Wm)<|Ho 4)<|mS (mF (Ju<|mV 3) (Ho 5)<|Zc)<|mS (Li<|Lk (mV 4)<|Hc (mB Ht (mB Ht (mB Ht (mK<|.str "floor ")<|Hi J1<|Hc (mB Hr (mB Hr (mV 0)<|mK<|.int 1)<|mK<|.int 0)<|mZ)<|mK<|.str " ")<|Hi J1<|Hc (mB Hr (mB Hr (mV 0)<|mK<|.int 1)<|mK<|.int 1)<|mZ)<|mZ)<|mR<|mB Ht (mV 4)<|Jl (Ju<|mB Hr (mV 0)<|mK<|.int 2) 3 [] (LP 3<|gC (Ho 0)<|gC (Ho 1)<|gC (Ho 2)<|Lo) IC<|Wo)
def Zi:GN:=Jc 6 jV
def kE:MS:=mS (Ih (IL (mT<|mB Ie (mV 0)<|mK<|.str "")<|IL (mT<|mB IS (MX Oq (mV 0)<|Hc (mK<|.str "0123456789")<|mZ)<|mK<|.str "")<|IL (JD (mT<|mB Ie (mB Hr (mV 0)<|mK<|.int 0)<|mK<|.str "0")<|mT<|mB IS (mV 0)<|mK<|.str "0")<|mT<|mB IV (Hi Hl<|Hc (mV 0)<|mZ)<|mK<|.int 9) (mR<|Lh<|mK<|.int 1)<|IH) (mR<|Hi MJ<|Hc (mV 0)<|mZ)
def O7:GN:=Jc 1 kE
def zel:MS:=mS (Ih (IL (mT<|mB IS (Hi Hl<|Hc (mV 0)<|mZ)<|mK<|.int 3)<|IL (J8<|mT<|Hi Wr<|Hc (mB Hr (mV 0)<|mK<|.int 1)<|mZ)<|J8<|mT<|Jm HV HV (mK<|.int 1) (Hi O7<|Hc (mB Hr (mV 0)<|mK<|.int 2)<|mZ)<|mK<|.int 4) (mR<|mK<|.bl false)<|IH)<|mR<|L9 (mB Ie (mV 1)<|mL<|mZ)<|mB ltB (mB Hr (mV 1)<|Lh<|mK<|.int 1)<|mB Hr (mV 0)<|mK<|.int 1
def Wh:GN:=Jc 2 zel
def Zk:ME:=L9 (mB Ie (mV 0)<|mK<|.str "-") (mB Lb (mV 0)<|mV 1)
def zek:MS:=mS (Ih (IL (mT<|mB IS (Hi Hl<|Hc (mV 0)<|mZ)<|mK<|.int 6)<|IL (mT<|mB IS (Hi Hl<|Hc (mB Hr (mV 0)<|mK<|.int 1)<|mZ)<|mK<|.int 1)<|mT<|mB QE (mB Hr (mV 0)<|mK<|.int 1)<|mK<|.str "abcdefghijklmnopqrstuvwxyz0123456789-") (mR<|mK<|.bl false)<|IH) (mR<|Hi Jy<|Hc (Jl (Ju<|Ij (mV 0) (IW<|mK<|.int 2)<|Jw) 1 [1] (Ho 0) IC<|Zk)<|mZ)
def Wi:GN:=Jc 2 zek
def Zl:ME:=Hi O7<|Hc (mV 0)<|mZ
def kI:MS:=mS (Ih (mT<|mB IS (Hi Hl<|Hc (mV 0)<|mZ)<|mK<|.int 4) (mR<|mK<|.bl false)<|IH)<|mS (Hm (Jl (Ju<|Ij (mV 0) (IW<|mK<|.int 1)<|Jw) 1 [] (Ho 0) IC<|Zl)<|NF 3<|gC (Ho 4)<|gC (Ho 5)<|gC (Ho 6)<|Lo)<|mS (Ih (IL (J8<|mT<|Jm HV Ik (mK<|.int 0) (mV 4)<|mB Hr (mV 1)<|mK<|.int 0)<|IL (J8<|mT<|Jm HV Ik (mK<|.int 0) (mV 5)<|mB Hr (mV 1)<|mK<|.int 1)<|J8<|mT<|Jm HV Ik (mK<|.int 0) (mV 6)<|mV 2) (mR<|mK<|.bl false)<|IH)<|mR<|L9 (mB Ku (mV 3)<|mK .non)<|mB ltB (mV 3)<|mU<|Hc (mV 4)<|Hc (mV 5)<|mZ
def Ui:GN:=Jc 7 kI
def kD:ME:=Hi O7<|Hc (mV 0)<|mZ
def Za:ME:=Jm HV HV (mK<|.int 1) (mV 0)<|mK<|.int 12
def Zb:ME:=Hi O7<|Hc (mV 0)<|mZ
def Ud:MS:=mS (Hm (MX OW (mV 7)<|Hc (mK<|.str " ")<|mZ)<|Ho 8) (mS (Hm (mK<|.bl false)<|Ho 9)<|mS (Ih (mT<|mB Ie (mV 6)<|mK<|.int 0) (Hm (JE (mB Ie (mB Hr (mV 8)<|mK<|.int 0)<|mK<|.str "enough")<|JE (mB Ie (Hi Hl<|Hc (mV 8)<|mZ)<|mK<|.int 2)<|Jm HV HV (mK<|.int 1) (Hi O7<|Hc (mB Hr (mV 8)<|mK<|.int 1)<|mZ)<|mK<|.int 4)<|Ho 9)<|Ih (JD (mT<|mB Ie (mB Hr (mV 8)<|mK<|.int 0)<|mK<|.str "stick")<|JD (mT<|mB Ie (mV 2)<|mK<|.int 0)<|mT<|mB Ku (mV 3)<|mK .non) (mS (Hm (Hi Wh<|Hc (mV 8)<|Hc (mV 1)<|mZ)<|Ho 9)<|Hm (mB Ht (mV 1)<|Ij (mV 8) (IW<|mK<|.int 1)<|IW<|mK<|.int 2)<|Ho 1)<|Ih (JD (mT<|mB Ie (mB Hr (mV 8)<|mK<|.int 0)<|mK<|.str "kind")<|mT<|mB Ku (mV 3)<|mK .non) (mS (Hm (Hi Wi<|Hc (mV 8)<|Hc (mV 1)<|mZ)<|Ho 9)<|Hm (mB Ht (mV 2)<|mK<|.int 1)<|Ho 2)<|Ih (JD (mT<|mB Ie (mB Hr (mV 8)<|mK<|.int 0)<|mK<|.str "floor")<|JD (mT<|mB IV (mV 2)<|mK<|.int 0)<|mT<|mB Ku (mV 3)<|mK .non) (mS (Hm (Jl (Ju<|Ij (mV 8) (IW<|mK<|.int 1)<|Jw) 1 [] (Ho 0) IC<|kD)<|Ho 3)<|Hm (JE (mB Ie (Hi Hl<|Hc (mV 3)<|mZ)<|mK<|.int 2)<|Hi Jy<|Hc (Jl (Ju<|mV 3) 1 [] (Ho 0) IC<|Za)<|mZ)<|Ho 9)<|Ih (JD (mT<|mB Ie (mB Hr (mV 8)<|mK<|.int 0)<|mK<|.str "tile")<|mT<|mB Qv (mV 3)<|mK .non) (mS (Hm (Hi Ui<|Hc (mV 8)<|Hc (mV 3)<|Hc (mV 2)<|Hc (mV 4)<|mZ)<|Ho 9)<|Hm (Hi LR<|Hc (Jl (Ju<|Ij (mV 8) (IW<|mK<|.int 1)<|IW<|mK<|.int 3) 1 [] (Ho 0) IC<|Zb)<|mZ)<|Ho 4)<|IH)<|Ih (J8<|mT<|mV 9) (mR<|mV 6)<|IH)
def jT:MS:=mS (Hm (mU<|Hc (mL<|mZ)<|Hc (mK<|.int 0)<|Hc (mK .non)<|Hc (mK .non)<|mZ)<|LP 4<|gC (Ho 1)<|gC (Ho 2)<|gC (Ho 3)<|gC (Ho 4)<|Lo) (mS (Hm (MX OW (mV 0)<|Hc (mK<|.str "\n")<|mZ)<|Ho 5)<|mS (mF (Sy<|mV 5) (LP 2<|gC (Ho 6)<|gC (Ho 7)<|Lo)<|Ud)<|mR<|MD (mT<|mB Ku (mV 3)<|mK .non) (Hi Hl<|Hc (mV 5)<|mZ)<|mK .non)
def Ug:GN:=Jc 10 jT
def jB:MS:=mS (Hm (mK .non)<|Ho 1) (mS (Sz "bed" R9 (Hc (mV 0)<|mZ) 1 2 "NoText" "line"<|mS (Hm (Hi (Qm<|J0 Og)<|Hc (mV 2)<|Hc (mU<|Hc (mK<|.fn "NoGrowing")<|Hc (mK<|.fn "NoPlace")<|Hc (mK<|.fn "Taken")<|Hc (mK<|.fn "NoKind")<|Hc (mK<|.fn "NotHeld")<|Hc (mK<|.fn "NothingBack")<|mZ)<|mZ)<|Ho 3)<|mS (Hm (L9 (mV 3)<|Hi (Qm<|J0 Og)<|Hc (mV 2)<|Hc (mU<|Hc (mK<|.fn "NotSure")<|Hc (mK<|.fn "TooMany")<|Hc (mK<|.fn "NotFramed")<|Hc (mK<|.fn "NoLine")<|mZ)<|mZ)<|Ho 3)<|Hm (MD (JD (mT<|Hi (Qm<|J0 Og)<|Hc (mV 2)<|Hc (mK<|.fn "NoText")<|mZ)<|J8<|mT<|mV 3) (mU<|Hc (mK<|.str "row")<|Hc (NA (Uw "NoText") "line"<|mV 2)<|mZ)<|mU<|Hc (mK<|.str "other")<|Hc (mK .non)<|mZ)<|Ho 1)<|mR<|mV 1)
def Nq:GN:=Jc 4 jB
def cR:MS:=Ih (mT<|mB IS (Hi Nq<|Hc (mV 6)<|mZ)<|mU<|Hc (mK<|.str "row")<|Hc (mK<|.int 0)<|mZ) (mR<|mK<|.bl false) IH
def Vu:MS:=mS (Hm (Hi Nq<|Hc (OQ (mK<|.str "\n")<|Hc (Lg (mV 4) Jw<|IW<|mV 8)<|mZ)<|mZ)<|Ho 9) (mS (Ih (JD (mT<|mB Ik (mV 8)<|mV 7)<|mT<|mB IS (mV 9)<|mU<|Hc (mK<|.str "row")<|Hc (mV 8)<|mZ) (mR<|mK<|.bl false)<|IH)<|mS (Hm (mU<|Hc (mB Hr (mV 3)<|mK<|.int 0)<|Hc (mB Hr (mV 3)<|mK<|.int 1)<|Hc (Lg (mB Hr (mV 3)<|mK<|.int 2) Jw<|IW<|Hi Pl<|Hc (mK<|.int 0)<|Hc (mB KC (mV 8)<|mV 7)<|mZ)<|mZ)<|Ho 10)<|mS (Ih (JD (mT<|mB Jp (mV 8)<|mV 7)<|J8<|mT<|Hi V7<|Hc (mV 9)<|Hc (mU<|Hc (mK<|.str "bed")<|Hc (mV 10)<|mZ)<|mZ) (mR<|mK<|.bl false)<|IH)<|Ih (mT<|mB IS (Hi Nq<|Hc (mB Ht (OQ (mK<|.str "\n")<|Hc (Lg (mV 4) Jw<|IW<|mV 8)<|mZ)<|mK<|.str "\n")<|mZ)<|mU<|Hc (mK<|.str "row")<|Hc (mV 8)<|mZ) (mR<|mK<|.bl false)<|IH)
def Xz:MS:=mS (Hm (Lg (mV 5) Jw<|IW<|Hi Kq<|Hc (mV 2)<|Hc (Hi Hl<|Hc (mV 5)<|mZ)<|mZ)<|Ho 12) (mS (Hm (Hi Ug<|Hc (mV 12)<|mZ)<|Ho 13)<|Ih (JD (mT<|mB Qv (mV 13)<|mK .non)<|mT<|mB IS (Hi Nq<|Hc (mV 12)<|mZ)<|mU<|Hc (mK<|.str "row")<|Hc (mV 13)<|mZ) (mR<|mK<|.bl false)<|IH)
def Vv:MS:=mS (Hm (Hi YU<|Hc (mV 0)<|Hc (mV 1)<|mZ)<|Ho 2) (mS (Hm (Hi YT<|Hc (mV 2)<|Hc (Hi Lz<|Hc (mV 2)<|Hc (mL<|Hc (mK<|.int 1)<|Hc (mK<|.int 3)<|Hc (mK<|.int 6)<|mZ)<|mZ)<|mZ)<|Ho 3)<|mS (Hm (Hi Zi<|Hc (mV 3)<|mZ)<|Ho 4)<|mS (Hm (OQ (mK<|.str "\n")<|Hc (mV 4)<|mZ)<|Ho 5)<|mS (mF (Ju<|mL<|Hc (mV 3)<|Hc (mV 4)<|Hc (Hi LR<|Hc (mV 4)<|mZ)<|Hc (mU<|Hc (mV 5)<|mZ)<|Hc (mL<|Hc (mV 5)<|mZ)<|Hc (Te (mV 5)<|mK<|.int 1)<|Hc (mK .non)<|Hc (mK<|.bl true)<|Hc (mK<|.int 0)<|Hc (mK<|.int 7)<|Hc (mU<|mZ)<|Hc (mB Hr (mV 3)<|mK<|.int 0)<|Hc (mL<|Hc (mL<|Hc (mV 5)<|mZ)<|mZ)<|mZ) (Ho 6)<|cR)<|mS (Hm (mB KC (Hi Hl<|Hc (mV 4)<|mZ)<|Hi Hl<|Hc (mB Hr (mV 3)<|mK<|.int 2)<|mZ)<|Ho 7)<|mS (mF (Wz (mK<|.int 1)<|mB Ht (Hi Hl<|Hc (mV 4)<|mZ)<|mK<|.int 1) (Ho 8)<|Vu)<|mF (Of<|mK<|.int 4) (Ho 11)<|Xz)
def aM:MS:=mS (mF (Of<|Hi Pl<|Hc (mK<|.int 1)<|Hc (Hi SD<|Hc (Hi Hl<|Hc (mV 0)<|mZ)<|Hc (mK<|.int 6)<|mZ)<|mZ) (Ho 1)<|Vv) (mR<|mB Ie (Hi Nq<|Hc (mK<|.str "")<|mZ)<|mU<|Hc (mK<|.str "row")<|Hc (mK<|.int 0)<|mZ)
def WN:GN:=Jc 14 aM
open L2 PySem.Spec PyProof.Rows
def iZ:MR "NoText" "line" "line" (Hx.inClass (top 16) 0):=⟨Pe<|by decide +kernel,⟨_,_,_,_,rfl,λ_=>rfl⟩,rfl,rfl,rfl,rfl,λ_ _ _ _ _ _=>NC λ_ _=>rfl⟩
section
variable {P:Os}{w:Re}{K:Ac}{mg:Str->Option GM}{base:KF} (Z:En K mg fns Sm cos) (Y:EE K mg Sk)
def Uy:(["sign"]:List Str).Nodup:=by decide +kernel
def ZW:(["part","names"]:List Str).Nodup:=by decide +kernel
def Ux:(["word"]:List Str).Nodup:=by decide +kernel
def lQ:(["row"]:List Str).Nodup:=by decide +kernel
def lR:(["_law_k","_law_letters","_law_pot_here"]:List Str).Nodup:=by decide +kernel
def lS:(["_law_name","_law_pot_here"]:List Str).Nodup:=by decide +kernel
def lU:(["_law_side","_law_pot_here","_law_sides"]:List Str).Nodup:=by decide +kernel
def G9:(["_law_place","_law_kind"]:List Str).Nodup:=by decide +kernel
def aA:(["_law_a","_law_b"]:List Str).Nodup:=by decide +kernel
def aB:(["_law_name","_law_strength"]:List Str).Nodup:=by decide +kernel
def lV:(["_law_part"]:List Str).Nodup:=by decide +kernel
def WT:(["_law_x","_law_y","_law_kind"]:List Str).Nodup:=by decide +kernel
def lW:(["_law_word","_law_names_here"]:List Str).Nodup:=by decide +kernel
def WU:(["_law_word"]:List Str).Nodup:=by decide +kernel
def lY:(["_law_one"]:List Str).Nodup:=by decide +kernel
def vH{X:Cx}{k:Nat}(h0:IT X.prog X.w X.K X.mg X.base k "read_enough" 3 V3)(a:IT X.prog X.w X.K X.mg X.base k "read_stick" 3 V9)(c:IT X.prog X.w X.K X.mg X.base k "read_kind" 3 VX)(f:IT X.prog X.w X.K X.mg X.base k "read_floor" 3 V8)(h:IT X.prog X.w X.K X.mg X.base k "read_seed_tile" 3 Wg):aN X k 3 Oy:=by
 intro x g e;unfold Oy at e;split at e
 ·rename_i q;subst q;cases e;exact h0
 split at e
 ·rename_i q;subst q;cases e;exact a
 split at e
 ·rename_i q;subst q;cases e;exact c
 split at e
 ·rename_i q;subst q;cases e;exact f
 split at e
 ·rename_i q;subst q;cases e;exact h
 cases e
include Z Y
theorem QR:IT P w K mg base 1 "is_whole" 3 Ou:=JV (k:=0) Z (top 3) 0 ["thing","least","most"] ["thing","least","most"] λo f l A outer s H E r=>I0.out (HQ<|JS.mk<|Ir<|Kx (JW Z (He 0) Pq)<|Kx (rF<|JW Z (He 0) XF)<|Mo<|TY LU LU (He 1) (He 0)<|He 2)
theorem T9:IT P w K mg base 1 "is_tuple" 2 LW:=JV (k:=0) Z (top 4) 1 ["thing","size"] ["thing","size"] λr f l A outer s H E o=>I0.out (HQ<|JS.mk<|Ir<|Kx (JW Z (He 0) Oc)<|Mo<|KP (JY<|Iu o) (IZ Z JG JI<|Hg (He 0)<|Hk) (He 1) rfl)
theorem zku:IT P w K mg base 1 "is_name" 1 Yx:=JV (k:=0) Z (top 5) 2 ["thing"] ["thing"] λu f o A outer s H E r=>I0.out (HQ<|JS.mk<|Ir<|Kx (JW Z (He 0) M5)<|Kx (TY LU LU Hj (IZ Z JG JI<|Hg (He 0)<|Hk)<|Hj)<|Mo<|IZ Z (RW rfl) RD<|Hg (LV rfl rfl (cS ["sign"] 1 [] []) (Mn<|He 0) (λC s0 l fp=>sgn 0 Uy) (λC s0 l fp=>Ly) λC s0 l fp=>Tn (Iu r) (He 0) (XX rfl (Z.cs 0).choose_spec))<|Hk)
theorem zi4:IT P w K mg base 2 "is_stick" 1 YJ:=JV (k:=1) Z (top 6) 3 ["thing"] ["thing"] λr f o A outer s H E l=>I0.out (HQ<|JS.mk<|Ir<|Kx (HW (T9 Z Y) l<|Hg (He 0)<|Hg Hj<|Hk)<|Kx (HW (zku Z Y) l<|Hg (Ig (HZ l) (He 0)<|Hj)<|Hk)<|Mo<|HW (QR Z Y) l<|Hg (Ig (HZ l) (He 0)<|Hj)<|Hg Hj<|Hg Hj<|Hk)
theorem zkw:IT P w K mg base 1 "is_face" 1 VJ:=JV (k:=0) Z (top 7) 4 ["thing"] ["thing"] λr f l A outer s H E o=>I0.out (HQ<|JS.mk<|Ir<|Kx (JW Z (He 0) M5)<|Kx (KP LU (IZ Z JG JI<|Hg (He 0)<|Hk) Hj rfl)<|Mo<|Tn (Iu o) (He 0)<|XX rfl (Z.cs 1).choose_spec)
theorem zkt:IT P w K mg base 1 "is_side" 2 Yy:=JV (k:=0) Z (top 8) 5 ["thing","names"] ["thing","names"] λr f o A outer s H E l=>I0.out (HQ<|JS.mk<|Ir<|Kx (JW Z (He 0) M5)<|Mo<|SK (KP (JY<|Iu l) (He 0) IA rfl)<|Tp<|Tn (Iu l) (He 0)<|He 1)
theorem zkv:IT P w K mg base 2 "is_kind" 2 Yw:=JV (k:=1) Z (top 9) 6 ["thing","names"] ["thing","names"] λu f r A outer s H E l=>I0.out (HQ<|JS.mk<|Ir<|Kx (HW (T9 Z Y) l<|Hg (He 0)<|Hg Hj<|Hk)<|Kx (HW (zkw Z Y) l<|Hg (Ig (HZ l) (He 0)<|Hj)<|Hk)<|Mo<|IZ Z (RW rfl) RD<|Hg (LV rfl rfl (RV (N':=["part","names"]) (nt:=1) (fr:=[1]) ["names"] rfl (by decide +kernel) (by decide +kernel) (by decide +kernel) rfl ⟨⟨rfl,by decide⟩,trivial⟩ ⟨by first|exact Bz rfl|exact Bx rfl,trivial⟩) (Mn<|Na (He 0) (La<|Hj)<|LO) (λC s0 o fp=>sgn 0 ZW) (λC s0 o fp=>Ly) λC s0 o fp=>HW (zkt Z Y) l (Hg (He 0)<|Hg (He 1)<|Hk))<|Hk)
theorem zi6:IT P w K mg base 2 "is_floor" 1 YH:=JV (k:=1) Z (top 10) 7 ["thing"] ["thing"] λr f o A outer s H E l=>I0.out (HQ<|JS.mk<|Ir<|Kx (HW (T9 Z Y) l<|Hg (He 0)<|Hg Hj<|Hk)<|Kx (HW (QR Z Y) l<|Hg (Ig (HZ l) (He 0)<|Hj)<|Hg Hj<|Hg Hj<|Hk)<|Mo<|HW (QR Z Y) l<|Hg (Ig (HZ l) (He 0)<|Hj)<|Hg Hj<|Hg Hj<|Hk)
theorem zi5:IT P w K mg base 2 "is_place" 2 YI:=JV (k:=1) Z (top 11) 8 ["bed","thing","floor"] ["bed","thing"] λo f r A outer s H E l=>I0.out (HM (JS.mk<|IB 2 o<|Ig (HZ l) (He 0)<|Hj)<|HQ<|JS.mk<|Ir<|Kx (HW (T9 Z Y) l<|Hg (He 1)<|Hg Hj<|Hk)<|Kx (HW (QR Z Y) l<|Hg (Ig (HZ l) (He 1)<|Hj)<|Hg Hj<|Hg (Io TC (Ig (HZ l) (He 2)<|Hj)<|Hj)<|Hk)<|Mo<|HW (QR Z Y) l<|Hg (Ig (HZ l) (He 1)<|Hj)<|Hg Hj<|Hg (Io TC (Ig (HZ l) (He 2)<|Hj)<|Hj)<|Hk)
theorem zks:IT P w K mg base 3 "is_tile" 2 Yz:=JV (k:=2) Z (top 12) 9 ["bed","thing","kinds"] ["bed","thing"] λo f r A outer s H E l=>I0.out (HM (JS.mk<|IB 2 o<|Ig (HZ l) (Ig (HZ l) (He 0)<|Hj)<|Hj)<|HQ<|JS.mk<|Ir<|Kx (HW (T9 Z Y) l<|Hg (He 1)<|Hg Hj<|Hk)<|Kx (HW (zi5 Z Y) l<|Hg (He 0)<|Hg (Na (He 1) LO<|La<|Hj)<|Hk)<|Mo<|HW (QR Z Y) l<|Hg (Ig (HZ l) (He 1)<|Hj)<|Hg Hj<|Hg (Io TC (IZ Z JG JI<|Hg (He 2)<|Hk)<|Hj)<|Hk)
theorem kG:IT P w K mg base 1 "read_number" 1 V4:=JV (k:=0) Z (top 29) 10 ["word"] ["word"] λu f r A outer s H E l=>I0.out (HM (JU (SW.sb<|Mk (Mq<|TX LU LU Hj (IZ Z JG JI<|Hg (He 0)<|Hk)<|wI rfl (Z.ci 2).choose_spec)<|Pu<|Mq<|LK<|IZ Z (RW rfl) RD<|Hg (LV rfl rfl (cS ["sign"] 1 [] []) (Mn<|He 0) (λC s0 o fp=>sgn 0 Uy) (λC s0 o fp=>Ly) λC s0 o fp=>Tn (Iu l) (He 0) (XX rfl (Z.cs 3).choose_spec))<|Hk) (HQ<|JS.mk<|Ir<|Km)<|Kb)<|HM (JU (SW.sb<|K8 (IK (JY<|Iu l) (Ig (HZ l) (He 0)<|Hj) IA rfl)<|Ls<|IK (Mm<|Iu l) (He 0) IA rfl) (HQ<|JS.mk<|Ir<|Km)<|Kb)<|HQ<|JS.mk<|Ir<|K0 Z gY Pq<|Hg (He 0)<|Hk)
theorem Zd:IT P w K mg base 2 "read_numbers" 1 Sa:=JV (k:=1) Z (top 30) 11 ["words"] ["words"] λu f o A outer s H E r=>I0.out (HQ<|JS.mk<|Ir<|K0 Z PD Oc<|Hg (LV rfl rfl (cS ["word"] 1 [] []) (Mn<|He 0) (λC s0 l fp=>sgn 0 Ux) (λC s0 l fp=>Ly) λC s0 l fp=>HW (kG Z Y) r (Hg (He 0)<|Hk))<|Hk)
theorem zgc:IT P w K mg base 3 "read_enough" 3 V3:=JV (k:=2) Z (top 31) 12 ["words","ahead","known","numbers"] ["words","ahead","known"] λo f r A outer s H E l=>I0.out (HM (JS.mk<|IB 3 o<|HW (Zd Z Y) l<|Hg (Na (He 0) (La<|Hj)<|LO)<|Hk)<|HM (JU (SW.sb<|Mk (IK (Mm<|Iu l) (IZ Z JG JI<|Hg (He 3)<|Hk) Hj rfl)<|Mk (IK RH (IZ Z JG JI<|Hg (He 1)<|Hk) Hj rfl)<|Pu<|Mq<|LK<|HW (QR Z Y) l<|Hg (Ig (HZ l) (He 3)<|Hj)<|Hg Hj<|Hg Hj<|Hk) (HQ<|JS.mk<|Ir<|Km)<|Kb)<|HQ<|JS.mk<|Ir<|Ig (HZ l) (He 3)<|Hj)
theorem zgS:IT P w K mg base 3 "read_stick" 3 V9:=JV (k:=2) Z (top 32) 13 ["words","ahead","known","stick"] ["words","ahead","known"] λo f r A outer s H E l=>I0.out (HM (JU (IK (Mm<|Iu l) (IZ Z JG JI<|Hg (He 0)<|Hk) Hj rfl) (HQ<|JS.mk<|Ir<|Km)<|Kb)<|HM (JS.mk<|IB 3 o<|Kn<|Hg (Ig (HZ l) (He 0)<|Hj)<|Hg (HW (kG Z Y) l<|Hg (Ig (HZ l) (He 0)<|Hj)<|Hk)<|Hk)<|HM (JU (SW.sb<|Mk (Mq<|LK<|HW (zi4 Z Y) l<|Hg (He 3)<|Hk)<|Pu<|SW.sb<|K8 (bT<|He 1)<|Ls<|IK (bC<|Iu l) (Ig (HZ l) (He 3)<|Hj) (Ig (HZ l) (Ig (HZ l) (He 1)<|To<|Hj)<|Hj) rfl) (HQ<|JS.mk<|Ir<|Km)<|Kb)<|HQ<|JS.mk<|Ir<|He 3)
theorem zhE:IT P w K mg base 3 "read_kind" 3 VX:=JV (k:=2) Z (top 33) 14 ["words","ahead","names","kind"] ["words","ahead","names"] λr f u A outer s H E l=>I0.out (HM (JU (sH (Iu l) IA<|He 0) (HQ<|JS.mk<|Ir<|Km)<|Kb)<|HM (JS.mk<|IB 3 r<|K0 Z PD Oc<|Hg (LV rfl rfl (cS ["word"] 1 [] []) (Mn<|Na (He 0) (La<|Hj)<|LO) (λC s0 o fp=>sgn 0 Ux) (λC s0 o fp=>Ly) λC s0 o fp=>Vb (IK (JY<|Iu l) (He 0) IA rfl) IA (He 0))<|Hk)<|HQ<|JS.mk<|Ir<|Vb (LK<|HW (zkv Z Y) l<|Hg (He 3)<|Hg (He 2)<|Hk) (He 3)<|Km)
theorem zgT:IT P w K mg base 3 "read_floor" 3 V8:=JV (k:=2) Z (top 34) 15 ["words","ahead","kinds","floor"] ["words","ahead","kinds"] λo f r A outer s H E l=>I0.out (HM (JS.mk<|IB 3 o<|HW (Zd Z Y) l<|Hg (Na (He 0) (La<|Hj)<|LO)<|Hk)<|HM (JU (SW.sb<|Mk (IK (JY<|Iu l) (IZ Z JG JI<|Hg (He 2)<|Hk) Hj rfl)<|Mk (IK RH (IZ Z JG JI<|Hg (He 1)<|Hk) Hj rfl)<|Pu<|Mq<|LK<|HW (zi6 Z Y) l<|Hg (He 3)<|Hk) (HQ<|JS.mk<|Ir<|Km)<|Kb)<|HQ<|JS.mk<|Ir<|He 3)
theorem zeA:IT P w K mg base 4 "read_seed_tile" 3 Wg:=JV (k:=3) Z (top 35) 16 ["words","ahead","bed","tile"] ["words","ahead","bed"] λo f r A outer s H E l=>I0.out (HM (JS.mk<|IB 3 o<|HW (Zd Z Y) l<|Hg (Na (He 0) (La<|Hj)<|LO)<|Hk)<|HM (JU (SW.sb<|Mk (Mq<|LK<|HW (zks Z Y) l<|Hg (He 2)<|Hg (He 3)<|Hk)<|Pu<|SW.sb<|K8 (bT<|He 1)<|Ls<|IK (bC<|Iu l) (Na (He 3) LO<|La<|Hj) (Na (Ig (HZ l) (He 1)<|To<|Hj) LO<|La<|Hj) rfl) (HQ<|JS.mk<|Ir<|Km)<|Kb)<|HQ<|JS.mk<|Ir<|He 3)
theorem Ua:NJ P w K mg base 5 "read_run" 5 "NoText" "line" QM:=dZ (k:=4) Z Y iZ 2 (top 36) 17 ["rows","line","word","read_one","known","found","part"] ["rows","line","word","read_one","known"] λo C R f r A outer s H E l=>Lf (Ni<|IB 5 o<|K7<|Hk) (Lf (zn5 PassesOwn.leaving (SW.sb<|K8 (IK NZ (He 1) (IZ Z JG JI<|Hg (He 0)<|Hk) rfl)<|Ls<|IK (JY<|Iu l) (Ig (HZ l) (Ig (HZ l) (He 0)<|He 1)<|Hj) (He 2) rfl)<|Lf (Ni<|IB 6 o<|yH (k:=4) (vH ((zgc Z Y).mono<|by decide) ((zgS Z Y).mono<|by decide) ((zhE Z Y).mono<|by decide) ((zgT Z Y).mono<|by decide)<|(zeA Z Y).mono<|by decide) (l.mono<|by decide) (He 3) (Hg (Ig (HZ l) (He 0)<|He 1)<|Hg (He 5)<|Hg (He 4)<|Hk)<|IQ.cons<|IQ.cons<|IQ.cons IQ.nil)<|Lf (SH (IK RO (He 6) Km rfl) (Qg<|UI R l<|He 1)<|Tr RU)<|Lf (Ni<|TJ<|T6 (He 5)<|Hg (He 6)<|Hk)<|Qg<|Ni<|Tq (i:=1) o rfl (by first|exact Bz rfl|exact Bx rfl)<|Hj)<|Qg<|Ni<|Ir<|K0 Z PD Oc<|Hg (He 5)<|Hk)
theorem zi3:NJ P w K mg base 6 "read_bed" 1 "NoText" "line" R9:=dZ (k:=5) Z Y iZ 2 (top 37) 18 ["text","rows","enough","line","sticks","kinds","floors","house","seed"] ["text"] λo C R f u A outer s H E l=>Lf (SH (Mq<|LK<|JW Z (He 0) M5) (Qg<|UI R l<|Hj)<|Tr RU) (Lf (Ni<|rN<|jS (i:=1) rfl rfl (cS ["row"] 1 [] []) (Mn<|RR Cn Co VN (He 0)<|Hg IA<|Hk) (λC s0 r fp=>sgn 0 lQ) (λC s0 r fp=>Ly) (λC s0 r fp=>RR Cn Co VN (He 0) (Hg IA<|Hk)) o rfl rfl)<|Lf (TK (i:=2) (Ua Z Y) R.fn (l.mono<|by decide) (JA.out<|HL (He 1)<|HL Hj<|HL IA<|HL (UH Z 12)<|HL Km<|Ml) (IQ.cons<|IQ.cons<|IQ.cons<|IQ.cons<|IQ.cons IQ.nil) o rfl<|by first|exact Bz rfl|exact Bx rfl)<|Lf (SH (IK (JY<|Iu l) (IZ Z JG JI<|Hg (He 2)<|Hk) Hj rfl) (Qg<|UI R l<|Hj)<|Tr RU)<|Lf (Ni<|IB 3 o<|Hj)<|Lf (TK (i:=4) (Ua Z Y) R.fn (l.mono<|by decide) (JA.out<|HL (He 1)<|HL (He 3)<|HL IA<|HL (UH Z 13)<|HL Km<|Ml) (IQ.cons<|IQ.cons<|IQ.cons<|IQ.cons<|IQ.cons IQ.nil) o rfl<|by first|exact Bz rfl|exact Bx rfl)<|Lf (Ni<|Tq (i:=3) o rfl (by first|exact Bz rfl|exact Bx rfl)<|IZ Z JG JI<|Hg (He 4)<|Hk)<|Lf (TK (i:=5) (Ua Z Y) R.fn (l.mono<|by decide) (JA.out<|HL (He 1)<|HL (He 3)<|HL IA<|HL (UH Z 14)<|HL (K0 Z (zjf rfl) qX<|Hg (He 4)<|Hk)<|Ml) (IQ.cons<|IQ.cons<|IQ.cons<|IQ.cons<|IQ.cons IQ.nil) o rfl<|by first|exact Bz rfl|exact Bx rfl)<|Lf (Ni<|Tq (i:=3) o rfl (by first|exact Bz rfl|exact Bx rfl)<|IZ Z JG JI<|Hg (He 5)<|Hk)<|Lf (TK (i:=6) (Ua Z Y) R.fn (l.mono<|by decide) (JA.out<|HL (He 1)<|HL (He 3)<|HL IA<|HL (UH Z 15)<|HL (He 5)<|Ml) (IQ.cons<|IQ.cons<|IQ.cons<|IQ.cons<|IQ.cons IQ.nil) o rfl<|by first|exact Bz rfl|exact Bx rfl)<|Lf (SH (IK (JY<|Iu l) (IZ Z JG JI<|Hg (He 6)<|Hk) Hj rfl) (Qg<|UI R l<|He 3)<|Tr RU)<|Lf (Ni<|Tq (i:=3) o rfl (by first|exact Bz rfl|exact Bx rfl)<|Hj)<|Lf (Ni<|IB 7 o<|Kn<|Hg (Ig (HZ l) (He 2)<|Hj)<|Hg (He 4)<|Hg (He 5)<|Hk)<|Lf (TK (i:=8) (Ua Z Y) R.fn (l.mono<|by decide) (JA.out<|HL (He 1)<|HL (He 3)<|HL IA<|HL (UH Z 16)<|HL (Kn<|Hg (He 7)<|Hg (Ig (HZ l) (He 6)<|Hj)<|Hg (Kn<|Hk)<|Hk)<|Ml) (IQ.cons<|IQ.cons<|IQ.cons<|IQ.cons<|IQ.cons IQ.nil) o rfl<|by first|exact Bz rfl|exact Bx rfl)<|Lf (Ni<|Tq (i:=3) o rfl (by first|exact Bz rfl|exact Bx rfl)<|IZ Z JG JI<|Hg (He 8)<|Hk)<|Lf (SH (IK NZ (He 3) (IZ Z JG JI<|Hg (He 1)<|Hk) rfl) (Qg<|UI R l<|He 3)<|Tr RU)<|Qg<|Ni<|Ir<|Kn<|Hg (He 7)<|Hg (Ig (HZ l) (He 6)<|Hj)<|Hg (He 8)<|Hk)
theorem zhF:IT P w K mg base 1 "_law_pot" 2 YU:=JV (k:=0) Z (top 39) 19 ["_law_script","_law_k","_law_cell","_law_number_here","_law_part","_law_mixed"] ["_law_script","_law_k"] λl f o A outer s H E r=>I0.out (HM (JS.mk<|IB 2 l<|Hj)<|HM (JU (IK NZ (He 1) (IZ Z JG JI<|Hg (He 0)<|Hk) rfl) (HQ<|JS.mk<|IB 2 l<|Ig (HZ r) (He 0)<|He 1)<|Kb)<|HM (JS.mk<|IB 3 l<|Io JK (Io O0 Hj<|Io TB (IZ Z zne qM<|Hg (He 2)<|Hk)<|Io XI (Io XI Hj<|Hj)<|Hj)<|K0 Z T3 Pq<|Hg (KP NZ (He 2) Hj rfl)<|Hk)<|HM (JS.mk<|IB 4 l<|Io TB (He 3)<|Hj)<|HM (JS.mk<|IB 5 l<|Io TB (Io JK (Io JK (Io O0 (He 4)<|Hj)<|Io O0 Hj<|He 1)<|Hj)<|Hj)<|HQ<|JS.mk<|Ir<|K7<|Hg (Io O0 (He 3)<|K0 Z T3 Pq<|Hg (KP bA (He 3) (Io O0 Hj<|Io XI Hj<|Hj) rfl)<|Hk)<|Hg (He 5)<|Hk)
theorem Mv:IT P w K mg base 1 "_law_next" 2 Kq:=JV (k:=0) Z (top 40) 20 ["_law_pot_here","_law_many","_law_digit"] ["_law_pot_here","_law_many"] λo f r A outer s H E l=>I0.out (HM (JU (IK RH (Ig (HZ l) (He 0)<|Hj) Hj rfl) (HM (JS.mk<|IB 2 o<|Io TB (Ig (HZ l) (He 0)<|Hj)<|He 1)<|HM (JS.mk<|Xk (HZ l) (He 0) Hj<|Io Yt (Ig (HZ l) (He 0)<|Hj)<|He 1)<|HQ<|JS.mk<|Ir<|He 2)<|Kb)<|HM (JS.mk<|Xk (HZ l) (He 0) Hj<|Io TB (Io JK (Io O0 (Ig (HZ l) (He 0)<|Hj)<|Hj)<|Hj)<|Hj)<|HQ<|JS.mk<|Ir<|Io Yt (Io O0 (Io Yt (Ig (HZ l) (He 0)<|Hj)<|Hj)<|He 1)<|Hj)
theorem Ow:IT P w K mg base 2 "_law_of" 2 Lz:=JV (k:=1) Z (top 41) 21 ["_law_pot_here","_law_some"] ["_law_pot_here","_law_some"] λr f o A outer s H E l=>I0.out (HQ<|JS.mk<|Ir<|Ig (HZ l) (He 1)<|HW (Mv Z Y) l<|Hg (He 0)<|Hg (IZ Z JG JI<|Hg (He 1)<|Hk)<|Hk)
theorem zgd:IT P w K mg base 3 "_law_names" 2 V2:=JV (k:=2) Z (top 42) 22 ["_law_pot_here","_law_many","_law_letters","_law_found","_law_turn","_law_way","_law_name"] ["_law_pot_here","_law_many"] λo f u A outer s H E l=>I0.out (HM (JS.mk<|IB 2 o<|IA)<|HM (JS.mk<|IB 3 o<|K7<|Hk)<|HM (Pr BB rfl (QP rfl Z.b1<|Io O0 Hj<|He 1) (sgn 4 o)<|HM (JS.mk<|IB 5 o<|HW (Mv Z Y) l<|Hg (He 0)<|Hg Hj<|Hk)<|HM (JS.mk<|IB 6 o<|TH IA<|Hg (LV rfl rfl (RV (N':=["_law_k","_law_letters","_law_pot_here"]) (nt:=1) (fr:=[2,0]) ["_law_letters","_law_pot_here"] rfl (by decide +kernel) (by decide +kernel) (by decide +kernel) rfl ⟨⟨rfl,by decide⟩,⟨⟨rfl,by decide⟩,trivial⟩⟩ ⟨by first|exact Bz rfl|exact Bx rfl,⟨by first|exact Bz rfl|exact Bx rfl,trivial⟩⟩) (QP rfl Z.b1<|HW (Ow Z Y) l<|Hg (He 0)<|Hg (K7<|JA.out<|HL Hj<|HL Hj<|HL Hj<|HL Hj<|HL Hj<|Ml)<|Hk) (λC s0 r fp=>sgn 0 lR) (λC s0 r fp=>Ly) λC s0 r fp=>Ig (HZ l) (He 1) (HW (Mv Z Y) l<|Hg (He 2)<|Hg Hj<|Hk))<|Hk)<|HM (JU (SW.sb<|K8 (IK (Mm<|Iu l) (He 3) (K7<|Hk) rfl)<|Ls<|IK (JY<|Iu l) (He 5) Hj rfl) (HQ<|JS.mk<|IB 6 o<|VQ (Io JK (HW (Ow Z Y) l<|Hg (He 0)<|Hg (He 3)<|Hk)<|He 6) LO<|La<|Hj)<|Kb)<|HM (JU (SW.sb<|K8 (IK (Mm<|Iu l) (He 3) (K7<|Hk) rfl)<|Ls<|IK (JY<|Iu l) (He 5) Hj rfl) (HQ<|JS.mk<|IB 6 o<|Io JK (VQ (HW (Ow Z Y) l<|Hg (He 0)<|Hg (He 3)<|Hk) LO<|La<|To<|Hj)<|VQ (He 6) LO<|La<|Hj)<|Kb)<|HQ<|JU (SW.sb<|K8 (IK NZ (IZ Z JG JI<|Hg (He 3)<|Hk) (He 1) rfl)<|Ls<|gN (Iu l) (He 6)<|He 3) (HQ<|JS.mk<|TJ<|T6 (He 3)<|Hg (He 6)<|Hk)<|Kb)<|HQ<|JS.mk<|Ir<|He 3)
theorem zgf:IT P w K mg base 4 "_law_house" 2 Zh:=JV (k:=3) Z (top 43) 23 ["_law_pot_here","_law_most","_law_names_here","_law_sticks","_law_signs","_law_sides","_law_kinds","_law_k","_law_face","_law_kind"] ["_law_pot_here","_law_most"] λo f u A outer s H E l=>I0.out (HM (JS.mk<|IB 2 o<|IZ Z jD gW<|Hg (HW (zgd Z Y) l<|Hg (He 0)<|Hg (HW (Ow Z Y) l<|Hg (He 0)<|Hg (K7<|JA.out<|HL Hj<|HL Hj<|HL Hj<|HL Hj<|HL Hj<|HL Hj<|Ml)<|Hk)<|Hk)<|Hk)<|HM (JS.mk<|IB 3 o<|K0 Z PD Oc<|Hg (LV rfl rfl (RV (N':=["_law_name","_law_pot_here"]) (nt:=1) (fr:=[0]) ["_law_pot_here"] rfl (by decide +kernel) (by decide +kernel) (by decide +kernel) rfl ⟨⟨rfl,by decide⟩,trivial⟩ ⟨by first|exact Bz rfl|exact Bx rfl,trivial⟩) (cL<|He 2) (λC s0 r fp=>sgn 0 lS) (λC s0 r fp=>Ly) λC s0 r fp=>Kn (Hg (He 0)<|Hg (Io JK Hj<|HW (Mv Z Y) l<|Hg (He 1)<|Hg (HW (Ow Z Y) l<|Hg (He 1)<|Hg (K7<|Hg Hj<|Hg Hj<|Hg Hj<|Hk)<|Hk)<|Hk)<|Hk))<|Hk)<|HM (JS.mk<|IB 4 o<|IA)<|HM (JS.mk<|IB 5 o<|Io JK (Io JK (Io JK (K7<|Hg IA<|Hk)<|He 2)<|He 2)<|He 2)<|HM (JS.mk<|IB 6 o<|K7<|Hk)<|HM (Pr BB rfl (QP rfl Z.b1<|Io JK Hj<|HW (Mv Z Y) l<|Hg (He 0)<|Hg (He 1)<|Hk) (sgn 7 o)<|HM (JS.mk<|IB 8 o<|Io O0 (Ig (HZ l) (He 4)<|HW (Mv Z Y) l<|Hg (He 0)<|Hg Hj<|Hk)<|K0 Z T3 Pq<|Hg (KP RH (HW (Mv Z Y) l<|Hg (He 0)<|Hg Hj<|Hk) Hj rfl)<|Hk)<|HM (JS.mk<|IB 9 o<|Io JK (Kn<|Hg (He 8)<|Hk)<|K0 Z PD Oc<|Hg (LV rfl rfl (RV (N':=["_law_side","_law_pot_here","_law_sides"]) (nt:=1) (fr:=[0,5]) ["_law_pot_here","_law_sides"] rfl (by decide +kernel) (by decide +kernel) (by decide +kernel) rfl ⟨⟨rfl,by decide⟩,⟨⟨rfl,by decide⟩,trivial⟩⟩ ⟨by first|exact Bz rfl|exact Bx rfl,⟨by first|exact Bz rfl|exact Bx rfl,trivial⟩⟩) (QP rfl Z.b1<|Hj) (λC s0 r fp=>sgn 0 lU) (λC s0 r fp=>Ly) λC s0 r fp=>HW (Ow Z Y) l (Hg (He 1)<|Hg (He 2)<|Hk))<|Hk)<|HM (JU (SW.sb<|K8 (IK (Mm<|Iu l) (He 6) (K7<|Hk) rfl)<|Ls<|IK (JY<|Iu l) (HW (Mv Z Y) l<|Hg (He 0)<|Hg Hj<|Hk) Hj rfl) (HQ<|JS.mk<|IB 9 o<|HW (Ow Z Y) l<|Hg (He 0)<|Hg (He 6)<|Hk)<|Kb)<|HQ<|JS.mk<|TJ<|T6 (He 6)<|Hg (He 9)<|Hk)<|HQ<|JS.mk<|Ir<|Kn<|Hg (HW (Ow Z Y) l<|Hg (He 0)<|Hg (K7<|JA.out<|HL Hj<|HL Hj<|HL Hj<|HL Hj<|HL Hj<|Ml)<|Hk)<|Hg (He 3)<|Hg (K0 Z PD Oc<|Hg (He 6)<|Hk)<|Hk)
theorem zgg:IT P w K mg base 3 "_law_floor" 1 Zg:=JV (k:=2) Z (top 44) 24 ["_law_pot_here","_law_most"] ["_law_pot_here"] λo f r A outer s H E l=>I0.out (HM (JS.mk<|IB 1 o<|HW (Ow Z Y) l<|Hg (He 0)<|Hg (K7<|JA.out<|HL Hj<|HL Hj<|HL Hj<|HL Hj<|HL Hj<|HL Hj<|HL Hj<|HL Hj<|Ml)<|Hk)<|HQ<|JS.mk<|Ir<|Kn<|Hg (Io JK Hj<|HW (Mv Z Y) l<|Hg (He 0)<|Hg (He 1)<|Hk)<|Hg (Io JK Hj<|HW (Mv Z Y) l<|Hg (He 0)<|Hg (He 1)<|Hk)<|Hk)
theorem zeB:IT P w K mg base 2 "_law_standing" 4 Wf:=JV (k:=1) Z (top 45) 25 ["_law_pot_here","_law_house_here","_law_floor_here","_law_most","_law_there","_law_k"] ["_law_pot_here","_law_house_here","_law_floor_here","_law_most"] λo f u A outer s H E l=>I0.out (HM (JS.mk<|IB 4 o<|yJ)<|HM (Pr BB rfl (QP rfl Z.b1<|HW (Mv Z Y) l<|Hg (He 0)<|Hg (Io JK (He 3)<|Hj)<|Hk) (sgn 5 o)<|HQ<|JS.mk<|Xk (HZ l) (He 4) (Kn<|Hg (HW (Mv Z Y) l<|Hg (He 0)<|Hg (Ig (HZ l) (He 2)<|Hj)<|Hk)<|Hg (HW (Mv Z Y) l<|Hg (He 0)<|Hg (Ig (HZ l) (He 2)<|Hj)<|Hk)<|Hk)<|HW (Mv Z Y) l<|Hg (He 0)<|Hg (IZ Z JG JI<|Hg (Ig (HZ l) (He 1)<|Hj)<|Hk)<|Hk)<|HQ<|JS.mk<|Ir<|K0 Z PD Oc<|Hg (IZ Z jD gW<|Hg (LV rfl rfl (cS ["_law_place","_law_kind"] 2 [] []) (yN<|He 4) (λC s0 r fp=>Qy rfl (Le (sgn 0 G9)<|Le (sgn 1 G9)<|Qe)) (λC s0 r fp=>Ly) λC s0 r fp=>Io JK (He 0) (Kn<|Hg (He 1)<|Hk))<|Hk)<|Hk)
theorem zhG:IT P w K mg base 5 "_law_bed" 2 YT:=JV (k:=4) Z (top 46) 26 ["_law_pot_here","_law_most","_law_house_here","_law_floor_here"] ["_law_pot_here","_law_most"] λo f r A outer s H E l=>I0.out (HM (JS.mk<|rO (i:=2) (j:=3) rfl o rfl rfl (by decide) rfl rfl<|Hg (HW (zgf Z Y) l<|Hg (He 0)<|Hg (He 1)<|Hk)<|Hg (HW (zgg Z Y) l<|Hg (He 0)<|Hk)<|Hk)<|HQ<|JS.mk<|Ir<|Kn<|Hg (He 2)<|Hg (He 3)<|Hg (HW (zeB Z Y) l<|JA.out<|HL (He 0)<|HL (He 2)<|HL (He 3)<|HL (HW (Ow Z Y) l<|Hg (He 0)<|Hg (K7<|JA.out<|HL Hj<|HL Hj<|HL Hj<|HL Hj<|Ml)<|Hk)<|Ml)<|Hk)
theorem zgU:IT P w K mg base 12 "_law_same" 2 V7:=xY (j:=0) Z (top 47) 27 ["_law_one","_law_two"] ["_law_one","_law_two"] 12 (λv i g l f u A outer s H E o=>I0.out (HM (JU (SW.sb<|K8 (LK<|JW Z (He 0) Oc)<|Ls<|LK<|JW Z (He 1) Oc) (HQ<|JS.mk<|Ir<|Kx (KP (JY<|Iu o) (IZ Z JG JI<|Hg (He 0)<|Hk) (IZ Z JG JI<|Hg (He 1)<|Hk) rfl)<|Mo<|IZ Z (RW rfl) RD<|Hg (LV rfl rfl (cS ["_law_a","_law_b"] 2 [] []) (rK rfl Z.b1 (He 0)<|He 1) (λC s0 r fp=>Qy rfl (Le (sgn 0 aA)<|Le (sgn 1 aA)<|Qe)) (λC s0 r fp=>Ly) λC s0 r fp=>fR l o rfl (Hg (He 0)<|Hg (He 1)<|Hk) (IQ.cons<|IQ.cons IQ.nil))<|Hk)<|Kb)<|HM (JU (SW.sb<|K8 (LK<|JW Z (He 0) M5)<|Ls<|LK<|JW Z (He 1) M5) (HQ<|JS.mk<|Ir<|KP (JY<|Iu o) (He 0) (He 1) rfl)<|Kb)<|HM (JU (SW.sb<|K8 (LK<|JW Z (He 0) Pq)<|Ls<|LK<|JW Z (He 1) Pq) (HQ<|JS.mk<|Ir<|Kx (KP (JY<|Iu o) (JW Z (He 0) XF) (JW Z (He 1) XF) rfl)<|Mo<|KP (JY<|Iu o) (He 0) (He 1) rfl)<|Kb)<|HQ<|JS.mk<|Ir<|Kx (KP XH (He 0) Km rfl)<|Mo<|KP XH (He 1) Km rfl))
theorem ze6:IT P w K mg base 1 "_law_is_name" 1 Wr:=JV (k:=0) Z (top 48) 28 ["_law_thing"] ["_law_thing"] λr f l A outer s H E o=>I0.out (HQ<|JS.mk<|Ir<|Kx (JW Z (He 0) M5)<|Kx (TY NZ NZ Hj (IZ Z JG JI<|Hg (He 0)<|Hk)<|Hj)<|Mo<|KP (JY<|Iu o) (RR EF EG gI (He 0)<|Hg IA<|Hk) IA rfl)
theorem zge:IT P w K mg base 1 "_law_lines" 1 Zi:=JV (k:=0) Z (top 49) 29 ["_law_bed_here","_law_enough","_law_sticks","_law_kinds","_law_lines_here","_law_kind"] ["_law_bed_here"] λr f u A outer s H E o=>I0.out (HM (JS.mk<|Vj (Ig (HZ o) (He 0)<|Hj)<|Qy rfl<|Le (sgn 1 r)<|Le (sgn 2 r)<|Le (sgn 3 r)<|Qe)<|HM (JS.mk<|IB 4 r<|Io JK (K7<|Hg (Io JK IA<|K0 Z QO M5<|Hg (He 1)<|Hk)<|Hk)<|LV rfl rfl (cS ["_law_name","_law_strength"] 2 [] []) (Mn<|He 2) (λC s0 l fp=>Qy rfl (Le (sgn 0 aB)<|Le (sgn 1 aB)<|Qe)) (λC s0 l fp=>Ly) λC s0 l fp=>Io JK (Io JK (Io JK IA<|He 0)<|IA) (K0 Z QO M5<|Hg (He 1)<|Hk))<|HM (Pr BB rfl (Mn<|He 3) (sgn 5 r)<|HQ<|JS.mk<|TJ<|T6 (He 4)<|Hg (Io JK IA<|TH IA<|Hg (LV rfl rfl (cS ["_law_part"] 1 [] []) (Mn<|He 5) (λC s0 l fp=>sgn 0 lV) (λC s0 l fp=>Ly) λC s0 l fp=>Io JK (He 0) (Io O0 IA<|K0 Z T3 Pq<|Hg (KP (JY<|Iu o) (He 0) IA rfl)<|Hk))<|Hk)<|Hk)<|HM (JS.mk<|TJ<|T6 (He 4)<|Hg (Io JK (Io JK (Io JK IA<|K0 Z QO M5<|Hg (Ig (HZ o) (Ig (HZ o) (He 0)<|Hj)<|Hj)<|Hk)<|IA)<|K0 Z QO M5<|Hg (Ig (HZ o) (Ig (HZ o) (He 0)<|Hj)<|Hj)<|Hk)<|Hk)<|HQ<|JS.mk<|Ir<|Io JK (He 4)<|LV rfl rfl (cS ["_law_x","_law_y","_law_kind"] 3 [] []) (Mn<|Ig (HZ o) (He 0)<|Hj) (λC s0 l fp=>Qy rfl (Le (sgn 0 WT)<|Le (sgn 1 WT)<|Le (sgn 2 WT)<|Qe)) (λC s0 l fp=>Ly) λC s0 l fp=>Io JK (Io JK (Io JK (Io JK (Io JK IA<|K0 Z QO M5<|Hg (He 0)<|Hk)<|IA)<|K0 Z QO M5<|Hg (He 1)<|Hk)<|IA) (K0 Z QO M5<|Hg (He 2)<|Hk))
theorem Ue:IT P w K mg base 1 "_law_number" 1 O7:=JV (k:=0) Z (top 50) 30 ["_law_word"] ["_law_word"] λr f o A outer s H E l=>I0.out (HM (JU (SW.sb<|Mk (IK (JY<|Iu l) (He 0) IA rfl)<|Mk (IK (Mm<|Iu l) (RR EF EG gI (He 0)<|Hg IA<|Hk) IA rfl)<|Mk (SW.sb<|K8 (IK (JY<|Iu l) (Ig (HZ l) (He 0)<|Hj) IA rfl)<|Ls<|IK (Mm<|Iu l) (He 0) IA rfl)<|Pu<|IK RH (IZ Z JG JI<|Hg (He 0)<|Hk) Hj rfl) (HQ<|JS.mk<|Ir<|To<|Hj)<|Kb)<|HQ<|JS.mk<|Ir<|K0 Z gY Pq<|Hg (He 0)<|Hk)
theorem zdI:IT P w K mg base 2 "_law_head_right" 2 Wh:=JV (k:=1) Z (top 51) 31 ["_law_words","_law_names_here"] ["_law_words","_law_names_here"] λr f o A outer s H E l=>I0.out (HM (JU (SW.sb<|Mk (IK (Mm<|Iu l) (IZ Z JG JI<|Hg (He 0)<|Hk) Hj rfl)<|Mk (Mq<|LK<|HW (ze6 Z Y) l<|Hg (Ig (HZ l) (He 0)<|Hj)<|Hk)<|Pu<|Mq<|TX LU LU Hj (HW (Ue Z Y) l<|Hg (Ig (HZ l) (He 0)<|Hj)<|Hk)<|Hj) (HQ<|JS.mk<|Ir<|Om)<|Kb)<|HQ<|JS.mk<|Ir<|SK (KP (JY<|Iu l) (He 1) (K7<|Hk) rfl)<|Tp<|KP (bD<|Iu l) (Ig (HZ l) (He 1)<|To<|Hj) (Ig (HZ l) (He 0)<|Hj) rfl)
theorem zdH:IT P w K mg base 1 "_law_kind_right" 2 Wi:=JV (k:=0) Z (top 52) 32 ["_law_words","_law_names_here"] ["_law_words","_law_names_here"] λu f r A outer s H E l=>I0.out (HM (JU (SW.sb<|Mk (IK (Mm<|Iu l) (IZ Z JG JI<|Hg (He 0)<|Hk) Hj rfl)<|Mk (IK (Mm<|Iu l) (IZ Z JG JI<|Hg (Ig (HZ l) (He 0)<|Hj)<|Hk) Hj rfl)<|Pu<|zmi (Iu l) (Ig (HZ l) (He 0)<|Hj)<|IA) (HQ<|JS.mk<|Ir<|Om)<|Kb)<|HQ<|JS.mk<|Ir<|IZ Z (RW rfl) RD<|Hg (LV rfl rfl (RV (N':=["_law_word","_law_names_here"]) (nt:=1) (fr:=[1]) ["_law_names_here"] rfl (by decide +kernel) (by decide +kernel) (by decide +kernel) rfl ⟨⟨rfl,by decide⟩,trivial⟩ ⟨by first|exact Bz rfl|exact Bx rfl,trivial⟩) (Mn<|Na (He 0) (La<|Hj)<|LO) (λC s0 o fp=>sgn 0 lW) (λC s0 o fp=>Ly) λC s0 o fp=>SK (KP (JY<|Iu l) (He 0) IA rfl) (Tp<|Tn (Iu l) (He 0)<|He 1))<|Hk)
theorem zdG:IT P w K mg base 2 "_law_tile_right" 4 Ui:=JV (k:=1) Z (top 53) 33 ["_law_words","_law_floor_here","_law_many","_law_last","_law_x","_law_y","_law_kind"] ["_law_words","_law_floor_here","_law_many","_law_last"] λo f u A outer s H E l=>I0.out (HM (JU (IK (Mm<|Iu l) (IZ Z JG JI<|Hg (He 0)<|Hk) Hj rfl) (HQ<|JS.mk<|Ir<|Om)<|Kb)<|HM (JS.mk<|Vj (LV rfl rfl (cS ["_law_word"] 1 [] []) (Mn<|Na (He 0) (La<|Hj)<|LO) (λC s0 r fp=>sgn 0 WU) (λC s0 r fp=>Ly) λC s0 r fp=>HW (Ue Z Y) l (Hg (He 0)<|Hk))<|uW rfl<|Le (sgn 4 o)<|Le (sgn 5 o)<|Le (sgn 6 o)<|Qe)<|HM (JU (SW.sb<|Mk (Mq<|TX LU NZ Hj (He 4)<|Ig (HZ l) (He 1)<|Hj)<|Mk (Mq<|TX LU NZ Hj (He 5)<|Ig (HZ l) (He 1)<|Hj)<|Pu<|Mq<|TX LU NZ Hj (He 6)<|He 2) (HQ<|JS.mk<|Ir<|Om)<|Kb)<|HQ<|JS.mk<|Ir<|SK (KP RO (He 3) Km rfl)<|Tp<|KP (bD<|Iu l) (He 3) (Kn<|Hg (He 4)<|Hg (He 5)<|Hk) rfl)
theorem zgh:IT P w K mg base 3 "_law_fault" 1 Ug:=JV (k:=2) Z (top 54) 34 ["_law_text","_law_names_here","_law_many","_law_floor_here","_law_last","_law_rows","_law_at","_law_row","_law_words","_law_right"] ["_law_text"] λo f u A outer s H E l=>I0.out (HM (JS.mk<|Vj (Kn<|JA.out<|HL (K7<|Hk)<|HL Hj<|HL Km<|HL Km<|Ml)<|Qy rfl<|Le (sgn 1 o)<|Le (sgn 2 o)<|Le (sgn 3 o)<|Le (sgn 4 o)<|Qe)<|HM (JS.mk<|IB 5 o<|RR Cn Co VN (He 0)<|Hg IA<|Hk)<|HM (Pr BB rfl (uX rfl Z.b1<|He 5) (Qy rfl<|Le (sgn 6 o)<|Le (sgn 7 o)<|Qe)<|HM (JS.mk<|IB 8 o<|RR Cn Co VN (He 7)<|Hg IA<|Hk)<|HM (JS.mk<|IB 9 o<|Om)<|HM (JU (IK (JY<|Iu l) (He 6) Hj rfl) (HQ<|JS.mk<|IB 9 o<|Kx (KP (JY<|Iu l) (Ig (HZ l) (He 8)<|Hj) IA rfl)<|Kx (KP (JY<|Iu l) (IZ Z JG JI<|Hg (He 8)<|Hk) Hj rfl)<|Mo<|TY LU LU Hj (HW (Ue Z Y) l<|Hg (Ig (HZ l) (He 8)<|Hj)<|Hk)<|Hj)<|HQ<|JU (SW.sb<|K8 (IK (JY<|Iu l) (Ig (HZ l) (He 8)<|Hj) IA rfl)<|K8 (IK (JY<|Iu l) (He 2) Hj rfl)<|Ls<|IK RO (He 3) Km rfl) (HM (JS.mk<|IB 9 o<|HW (zdI Z Y) l<|Hg (He 8)<|Hg (He 1)<|Hk)<|HQ<|JS.mk<|IB 1 o<|Io JK (He 1)<|Na (He 8) (La<|Hj)<|La<|Hj)<|HQ<|JU (SW.sb<|K8 (IK (JY<|Iu l) (Ig (HZ l) (He 8)<|Hj) IA rfl)<|Ls<|IK RO (He 3) Km rfl) (HM (JS.mk<|IB 9 o<|HW (zdH Z Y) l<|Hg (He 8)<|Hg (He 1)<|Hk)<|HQ<|JS.mk<|IB 2 o<|Io JK (He 2)<|Hj)<|HQ<|JU (SW.sb<|K8 (IK (JY<|Iu l) (Ig (HZ l) (He 8)<|Hj) IA rfl)<|K8 (IK RH (He 2) Hj rfl)<|Ls<|IK RO (He 3) Km rfl) (HM (JS.mk<|jS (i:=3) rfl rfl (cS ["_law_word"] 1 [] []) (Mn<|Na (He 8) (La<|Hj)<|LO) (λC s0 r fp=>sgn 0 WU) (λC s0 r fp=>Ly) (λC s0 r fp=>HW (Ue Z Y) l (Hg (He 0)<|Hk)) o rfl rfl)<|HQ<|JS.mk<|IB 9 o<|Kx (KP (JY<|Iu l) (IZ Z JG JI<|Hg (He 3)<|Hk) Hj rfl)<|Mo<|IZ Z (RW rfl) RD<|Hg (LV rfl rfl (cS ["_law_one"] 1 [] []) (Mn<|He 3) (λC s0 r fp=>sgn 0 lY) (λC s0 r fp=>Ly) λC s0 r fp=>TY LU LU Hj (He 0) Hj)<|Hk)<|HQ<|JU (SW.sb<|K8 (IK (JY<|Iu l) (Ig (HZ l) (He 8)<|Hj) IA rfl)<|Ls<|IK eW (He 3) Km rfl) (HM (JS.mk<|IB 9 o<|HW (zdG Z Y) l<|JA.out<|HL (He 8)<|HL (He 3)<|HL (He 2)<|HL (He 4)<|Ml)<|HQ<|JS.mk<|IB 4 o<|K0 Z PD Oc<|Hg (LV rfl rfl (cS ["_law_word"] 1 [] []) (Mn<|Na (He 8) (La<|Hj)<|La<|Hj) (λC s0 r fp=>sgn 0 WU) (λC s0 r fp=>Ly) λC s0 r fp=>HW (Ue Z Y) l (Hg (He 0)<|Hk))<|Hk)<|Kb)<|HQ<|JU (Mq<|LK<|He 9) (HQ<|JS.mk<|Ir<|He 6)<|Kb)<|HQ<|JS.mk<|Ir<|Vb (IK RO (He 3) Km rfl) (IZ Z JG JI<|Hg (He 5)<|Hk)<|Km)
theorem Uh:IT P w K mg base 7 "_law_read" 1 Nq:=JV (k:=6) Z (top 55) 35 ["_law_thing","_law_told","error","_law_others"] ["_law_thing"] λl f o A outer s H E r=>I0.out (HM (JS.mk<|IB 1 l<|Km)<|HM (JS.mk<|etA Y 2 1 2 (zi3 Z Y) (r.mono<|by decide) (Hg (He 0)<|Hk) (IQ.cons IQ.nil) l λx W=>I0.out (HM (JS.mk<|IB 3 l<|GQ Y Z.b1<|Hg (He 2)<|Hg (Kn<|JA.out<|HL (OG Y 1)<|HL (OG Y 3)<|HL (OG Y 4)<|HL (OG Y 5)<|HL (OG Y 6)<|HL (OG Y 7)<|Ml)<|Hk)<|HM (JS.mk<|IB 3 l<|SK (He 3)<|Tp<|GQ Y Z.b1<|Hg (He 2)<|Hg (Kn<|JA.out<|HL (OG Y 8)<|HL (OG Y 9)<|HL (OG Y 10)<|HL (OG Y 11)<|Ml)<|Hk)<|HQ<|JS.mk<|IB 1 l<|Vb (SW.sb<|K8 (LK<|GQ Y Z.b1<|Hg (He 2)<|Hg (OG Y 2)<|Hk)<|Ls<|Mq<|LK<|He 3) (Kn<|Hg IA<|Hg (eat Y 2<|He 2)<|Hk)<|Kn<|Hg IA<|Hg Km<|Hk))<|HQ<|JS.mk<|Ir<|He 1)
theorem qS{f:Addr}{fd:FuncData}(F:Nd K "law" "law" (top 56) f fd):Ja P w K mg base Lu 13 f fd ["_law_script"] (Qj K 1 WN):=lC (k:=12) F ["_law_script","_law_k","_law_pot_here","_law_bed_here","_law_rows","_law_text","_law_thing","_law_head","_law_many","_law_told","_law_less","_law_turn","_law_part","_law_fault_here"] ["_law_script"] λo r A outer s H E l=>I0.out (HM (Pr BB rfl (QP rfl Z.b1<|IZ Z (gZ rfl) aW<|Hg Hj<|Hg (IZ Z (zna rfl) qN<|Hg (IZ Z JG JI<|Hg (He 0)<|Hk)<|Hg Hj<|Hk)<|Hk) (sgn 1 o)<|HM (JS.mk<|IB 2 o<|HW (zhF Z Y) l<|Hg (He 0)<|Hg (He 1)<|Hk)<|HM (JS.mk<|IB 3 o<|HW (zhG Z Y) l<|Hg (He 2)<|Hg (HW (Ow Z Y) l<|Hg (He 2)<|Hg (K7<|Hg Hj<|Hg Hj<|Hg Hj<|Hk)<|Hk)<|Hk)<|HM (JS.mk<|IB 4 o<|HW (zge Z Y) l<|Hg (He 3)<|Hk)<|HM (JS.mk<|IB 5 o<|TH IA<|Hg (He 4)<|Hk)<|HM (Pr BB rfl (Mn<|K7<|JA.out<|HL (He 3)<|HL (He 4)<|HL (K0 Z PD Oc<|Hg (He 4)<|Hk)<|HL (Kn<|Hg (He 5)<|Hk)<|HL (K7<|Hg (He 5)<|Hk)<|HL (yI (He 5)<|Hj)<|HL Km<|HL Om<|HL Hj<|HL Hj<|HL (Kn<|Hk)<|HL (Ig (HZ l) (He 3)<|Hj)<|HL (K7<|Hg (K7<|Hg (He 5)<|Hk)<|Hk)<|Ml) (sgn 6 o)<|HQ<|JU (IK (Mm<|Iu l) (HW (Uh Z Y) l<|Hg (He 6)<|Hk) (Kn<|Hg IA<|Hg Hj<|Hk) rfl) (HQ<|JS.mk<|Ir<|Om)<|Kb)<|HM (JS.mk<|IB 7 o<|Io TC (IZ Z JG JI<|Hg (He 4)<|Hk)<|IZ Z JG JI<|Hg (Ig (HZ l) (He 3)<|Hj)<|Hk)<|HM (Pr BB rfl (zmc rfl Z.b1 Hj<|Io JK (IZ Z JG JI<|Hg (He 4)<|Hk)<|Hj) (sgn 8 o)<|HM (JS.mk<|IB 9 o<|HW (Uh Z Y) l<|Hg (TH IA<|Hg (VR (He 4) LO<|La<|He 8)<|Hk)<|Hk)<|HM (JU (SW.sb<|K8 (IK NZ (He 8) (He 7) rfl)<|Ls<|IK (Mm<|Iu l) (He 9) (Kn<|Hg IA<|Hg (He 8)<|Hk) rfl) (HQ<|JS.mk<|Ir<|Om)<|Kb)<|HM (JS.mk<|IB 10 o<|Kn<|Hg (Ig (HZ l) (He 3)<|Hj)<|Hg (Ig (HZ l) (He 3)<|Hj)<|Hg (VR (Ig (HZ l) (He 3)<|Hj) LO<|La<|IZ Z (gZ rfl) aW<|Hg Hj<|Hg (Io TC (He 8)<|He 7)<|Hk)<|Hk)<|HM (JU (SW.sb<|K8 (IK bA (He 8) (He 7) rfl)<|Ls<|Mq<|LK<|HW (zgU Z Y) l<|Hg (He 9)<|Hg (Kn<|Hg IA<|Hg (He 10)<|Hk)<|Hk) (HQ<|JS.mk<|Ir<|Om)<|Kb)<|HQ<|JU (IK (Mm<|Iu l) (HW (Uh Z Y) l<|Hg (Io JK (TH IA<|Hg (VR (He 4) LO<|La<|He 8)<|Hk)<|IA)<|Hk) (Kn<|Hg IA<|Hg (He 8)<|Hk) rfl) (HQ<|JS.mk<|Ir<|Om)<|Kb)<|HQ<|Pr BB rfl (QP rfl Z.b1<|Hj) (sgn 11 o)<|HM (JS.mk<|IB 12 o<|VR (He 5) LO<|La<|HW (Mv Z Y) l<|Hg (He 2)<|Hg (IZ Z JG JI<|Hg (He 5)<|Hk)<|Hk)<|HM (JS.mk<|IB 13 o<|HW (zgh Z Y) l<|Hg (He 12)<|Hk)<|HQ<|JU (SW.sb<|K8 (IK eW (He 13) Km rfl)<|Ls<|IK (Mm<|Iu l) (HW (Uh Z Y) l<|Hg (He 12)<|Hk) (Kn<|Hg IA<|Hg (He 13)<|Hk) rfl) (HQ<|JS.mk<|Ir<|Om)<|Kb)<|HQ<|JS.mk<|Ir<|KP (JY<|Iu l) (HW (Uh Z Y) l<|Hg IA<|Hk) (Kn<|Hg IA<|Hg Hj<|Hk) rfl)
end
end L2.MP.T0
namespace L2.MP.T0
open PySem L2.MP L2.MP.Hn
variable {a b:Str}{st:Hf}
def eq_str(c:Ap a=true)(e:Ap b=true):Ie (.str a) (.str b) st=some (.bl (a==b),st):=by unfold Ie;rw[Ot c,Ot e];simp[Bb]
def ne_str(c:Ap a=true)(e:Ap b=true):IS (.str a) (.str b) st=some (.bl (a != b),st):=by unfold IS;rw[Ot c,Ot e];simp[Bb,bne]
structure Ke(z:Str)(m:Nat):Prop where
 len:z.length<=m
 ok:∀c∈z.cps.toList,c<1114112
variable {z:Str}{m:Nat}
def Ke.str(h:Ke z m):Ap z=true:=VI h.ok
def Ke.up{c:Nat}(h:Ke z m)(hm:m<=c):Ke z c:=⟨Ar h.len hm,h.ok⟩
variable {y:Str}{c:Nat}
def zD{p:Str}(f:p∈Txt.split z y)(g:c∈p.cps.toList):c∈z.cps.toList:=by have e:=Fw z y;rw[<-e,Cz];exact .inl ⟨p,f,g⟩
def Ke.part{p:Str}(h:Ke z m)(e:p∈Txt.split z y):Ke p m:=⟨Ar (PyProof.Rows.part_short e) h.len,λc a=>h.ok c (zD e a)⟩
def VS(z y:Str):(Txt.split z y).length<=z.length+2:=by
 unfold Txt.split;split
 ·simp
 ·split
  ·simp
  rw[DB];have:=EM z y 0 z.length<|z.length+1;omega
variable {s:Hf}
def VH(e:(y.length==0)=false)(f:z.length<=9000):OW (.str z) [.str y] s=some (.ref s.length,s++[.lst ((Txt.split z y).map D.str)]):=by have:=VS z y;have f1:fits (z.length+2)=true:=Ko (by omega);have f2:fits (Txt.split z y).length=true:=Ko (by omega);unfold OW;simp only[e,f1,f2,C2,Gu,if_true]
def dig(c:Nat):Bool:=decide (48<=c)&&decide (c<=57)
def Mc(w:Str):Bool:=w.cps.toList.all dig
def lead(w:Str):Bool:=(w.cps.toList.head?==some 48)&&(w != "0")
def good(w:Str)(m:Nat):Bool:=decide (1<=w.length)&&decide (w.length<=m)&&Mc w&&!lead w
def val(w:Str):Int:=((FO w.cps.toList:Nat):Int)
def Hs(w:Str):D:=if good w 6=true then .int (val w)else .non
variable {w:Str}
def good_int(h:good w m=true)(hm:m<=600)(s:Hf):MJ [.str w] s=some (.int (val w),s):=by
 unfold good at h;rw[Ag,Ag,Ag]at h;obtain⟨⟨⟨a,l⟩,o⟩,_⟩:=h;have a:=of_decide_eq_true a;have l:=of_decide_eq_true l;have e:C1 w=some (val w):=by
  refine PySem.intText_digits (λc r=>?_) ?_<|by omega
  ·have:=List.all_eq_true.mp o c r;unfold dig at this;rw[Ag]at this;exact⟨of_decide_eq_true this.1,of_decide_eq_true this.2⟩
  intro z;have:w.cps.toList.length=w.length:=AA;rw[z]at this;simp at this;omega
 have u:Sv [.str w] s=if decide (w.length<=640)=true then(C1 w).map (λn=>(D.int n,s))else none:=rfl;unfold MJ Oe;rw[show HF [.str w] s=none from rfl,Kj,u,if_pos (decide_eq_true<|by omega),e];rfl
def pP(c:Nat)(e:c<1114112)(s:Hf):Lb (.str ⟨#[c]⟩) (.str "0123456789") s=some (.bl (dig c),s):=by
 have l:PU (.str ⟨#[c]⟩) (.str "0123456789")=none:=rfl;have m:inD false (.str ⟨#[c]⟩) (.str "0123456789") s=none:=by
  unfold inD;rw[Jj,Jj];by_cases h1:Ap ⟨#[c]⟩=true
  ·by_cases h2:Ap "0123456789"=true
   ·simp[h1,h2,l]
   simp[h1,h2]
  simp[h1]
 have a:=FP "0123456789" c;have o:decide (c∈(Bm "0123456789").cps.toList)=dig c:=by
  have:(Bm "0123456789").cps.toList=[48,49,50,51,52,53,54,55,56,57]:=by decide
  rw[this];unfold dig;rw[A8];simp;omega
 rw[o]at a;unfold Lb JM;rw[m,Kj];simp only[OC,a,JF]
theorem aV:∀bs:List Bool,Ol (bs.map D.bl)=some bs
 |[]=>rfl
 |b::bs=>by rw[Au,Ol,aV bs];rfl
def mQ{l:Nat}{bs:List Bool}(h:s[l]?=some (.lst<|bs.map D.bl)):Jy [.ref l] s=some (.bl (bs.all id),s):=by unfold Jy;simp only[Il,h,Aa,aV,Aj]
def qT(h:Ke z m)(hm:m<=9000)(s:Hf):Hi Jy (Hc (Jl (Ju<|mV 0) 1 [] (Ho 0) IC<|Wq)<|mZ) [some (.str z)] s=some (.bl (Mc z),s++[.lst ((z.cps.toList.map dig).map D.bl)]):=by
 have a:Kt ⟨signs z,[]⟩ (Ho 0) IC Wq (signs z) [none] s=some (z.cps.toList.map λc=>D.bl (dig c),s):=by unfold signs;refine QA (R:=λρ=>∃u,ρ=[u]) ⟨none,rfl⟩ rfl λc l ρ hρ=>?_;obtain⟨u,rfl⟩:=hρ;refine⟨[some (.str ⟨#[c]⟩)],rfl,rfl,?_,⟨_,rfl⟩⟩;unfold Wq;simp only[II,Im,Ii,Ai,Aa,pP c (h.ok c l)]
 have v:z.cps.toList.length<=9000:=by rw[AA];exact Ar h.len hm
 have o:fits (z.cps.toList.map λc=>D.bl (dig c)).length=true:=Ko (by rw[Af];omega);have em:(z.cps.toList.map λc=>D.bl (dig c))=(z.cps.toList.map dig).map D.bl:=by simp
 have r:Ju (mV 0) [some (.str z)] s=some (⟨signs z,[]⟩,s):=by rw[WO];rfl
 rw[Je,Iy,Ji,r];simp only[Aa];rw[show Hz [some (.str z)] 1 []=[none] from rfl,a];simp only[Aa,o,if_true,Iz];rw[em,mQ (IJ s _)];unfold Mc;rw[GA];rfl
def tY{r:List Nat}(e:w.cps.toList=c::r)(hw:w.length<=9000)(s:Hf):Hr (.str w) (.int 0) s=some (.str ⟨#[c]⟩,s):=by
 have a:w.cps[(0:Int).toNat]?=some c:=by rw[<-Cy,e];rfl
 exact Ti (by omega) (by decide) a
def cQ:Ap ("0":Str)=true:=by decide +kernel
def qI(c:Nat):((⟨#[c]⟩:Str)=="0")=decide (c=48):=by
 rw[A8];rw[beq_iff_eq,decide_eq_true_eq];have a:("0":Str)=⟨#[48]⟩:=by decide
 rw[a];constructor
 ·intro h;have h:=congrArg (λz:Str=>z.cps.toList) h;have h:[c]=[48]:=h;exact(AM h).1
 rintro rfl;rfl
def dO(h:Ke w m)(hm:m<=9000)(f:1<=w.length)(s:Hf):JD (mT<|mB Ie (mB Hr (mV 0)<|mK<|.int 0)<|mK<|.str "0") (mT<|mB IS (mV 0)<|mK<|.str "0") [some (.str w)] s=some (lead w,s):=by
 match e:w.cps.toList with
 |[]=>
  have:w.cps.toList.length=w.length:=AA;rw[e]at this;simp at this;omega
 |c::r=>
  have l:=tY e (Ar h.len hm) s;have o:Ap ⟨#[c]⟩=true:=VI λd hd=>by
   have:d=c:=by simpa using hd
   rw[this];exact h.ok c (by rw[e];exact Al)
  have a:=eq_str (st:=s) o cQ;have u:=ne_str (st:=s) h.str cQ;rw[qI]at a;have v:lead w=(decide (c=48)&&(w != "0")):=by
   unfold lead;rw[e];have:(some c==some 48)=decide (c=48):=by rw[A8];simp
   show(some c==some 48&&(w != "0"))=_;rw[this]
  rw[v];simp only[Mt,KL,II,Im,Ii,Ai,Aa,l,a];cases decide (c=48)
  ·rfl
  simp only[if_true,u,Aa,BE]
def xR(h:z.length<=9000):Jm HV HV (mK<|.int 1) (Hi Hl<|Hc (mV 0)<|mZ) (mK<|.int 6) [some (.str z)] s=some (.bl (decide (1<=z.length)&&decide (z.length<=6)),s):=by
 unfold Jm;have a:fits z.length=true:=Ko (by omega);have c:Hl [.str z] s=some (.int z.length,s):=by simp[Hl,a]
 have l:decide ((1:Int)<=(z.length:Int))=decide (1<=z.length):=by rw[decide_eq_decide];omega
 have m:decide ((z.length:Int)<=6)=decide (z.length<=6):=by rw[decide_eq_decide];omega
 simp only[Ii,Je,Iy,Im,Iz,Ai,Aa,c,HV,HG,l,m];cases decide (1<=z.length)<;>simp
def kH(h:Ke w m)(hm:m<=9000)(s:Hf):∃s',V4 [.str w] s=some (Hs w,s')/\Gr s s':=by
 have c:=xR (s:=s)<|Ar h.len hm;have er:Jf 1 [.str w]=[some (.str w)]:=rfl
 by_cases a:(decide (1<=w.length)&&decide (w.length<=6))=true
 ·rw[a]at c;have x:1<=w.length:=by rw[Ag]at a;exact of_decide_eq_true a.1
  have l:=qT h hm s;generalize u:s++[O.lst ((w.cps.toList.map dig).map D.bl)]=s1 at l;have g1:Gr s s1:=by rw[<-u];exact Gr.app _ _
  refine⟨s1,IG ?_,g1⟩;unfold jY;rw[er];cases hd:Mc w with
  |false=>
   rw[hd]at l;have:Hs w=.non:=by unfold Hs good;rw[a,hd];rfl
   rw[this];refine JL ?_;rw[K4,Lw,LN,KL,c];simp only[Aa,Aj,Da,AG,if_false,LN,KL,l,C2,if_true];rfl
  |true=>
   rw[hd]at l;refine HD (ρ1:=[some (.str w)]) (s1:=s1) ?_ ?_
   ·rw[K4,Lw,LN,KL,c];simp only[Aa,Aj,Da,AG,if_false,LN,KL,l];rfl
   have o:=dO h hm x s1;cases r:lead w with
   |true=>
    rw[r]at o;have:Hs w=.non:=by unfold Hs good;rw[a,hd,r];rfl
    rw[this];refine JL ?_;rw[K4,o];rfl
   |false=>
    rw[r]at o;have v:good w 6=true:=by unfold good;rw[a,hd,r];rfl
    have y:=good_int v (by decide) s1;refine HD (ρ1:=[some (.str w)]) (s1:=s1) (by rw[K4,o];rfl) ?_;rw[show Hs w=.int (val w) from if_pos v];simp only[Lx,Je,Iy,Im,Ai,Aa,Iz,y,Aj]
 ·have a:=Bool.eq_false_iff.mpr a;rw[a]at c;have:Hs w=.non:=by unfold Hs good;rw[a];rfl
  refine⟨s,IG<|JL ?_,Gr.refl _⟩;rw[er,this,K4,Lw,LN,KL,c];rfl
def HI(w:Str):Int:=if good w 9=true then val w else -1
variable {p:Nat->Bool}
theorem bO{p:Nat->Bool}:∀{l:List Nat},(∀c∈l,p c=true)->l.takeWhile p=l
 |[],_=>rfl
 |a::l,h=>by rw[Fh,if_pos (h a Al),bO λc e=>h c (Ak _ e)]
theorem W0{p:Nat->Bool}:∀{l:List Nat},(∃c∈l,p c=false)->(l.takeWhile p).length<l.length/\∃c∈l.drop (l.takeWhile p).length,p c=false
 |[],h=>by simp at h
 |a::l,h=>by
  rw[Fh];cases e:p a with
  |false=>
   rw[if_neg (by simp)];exact⟨by simp,a,by simp,e⟩
  |true=>
   rw[if_pos rfl];have:∃c∈l,p c=false:=by
    obtain⟨c,hc,q⟩:=h;rcases KM.mp hc with rfl|hc
    ·rw[e]at q;cases q
    exact⟨c,hc,q⟩
   obtain⟨o,m⟩:=W0 this;exact⟨by simp;omega,by simpa using m⟩
variable {Z:Str}
def iM(e:Z.cps.contains=p)(w:Str):(Txt.stripChars w Z != "")=!w.cps.toList.all p:=by
 have o:w.cps.toList.length=w.length:=AA;have m:("":Str).cps.toList=[]:=by decide
 unfold Txt.stripChars Txt.stripBy;rw[e];cases hd:w.cps.toList.all p with
 |true=>
  have r:w.cps.toList.takeWhile p=w.cps.toList:=bO λc l=>List.all_eq_true.mp hd c l;have lo:stripLo p true w=w.length:=by unfold stripLo;rw[if_pos rfl,r,o]
  have hi:stripHi p true w w.length=w.length:=by unfold stripHi;rw[if_pos rfl,List.drop_of_length_le (by omega)];simp
  unfold stripSame stripped;rw[lo,hi];by_cases h0:w.length=0
  ·have:w="":=by
    apply Py;have:w.cps.toList=[]:=Ba (by omega);rw[this]
    decide
   subst this
   decide
  ·rw[if_neg (by simp[h0])];have:Builtin.Str.strSub w w.length w.length="":=by
    apply Py;rw[m];show(w.cps.extract w.length w.length).toList=[];simp
   rw[this]
   decide
 |false=>
  have s:∃c∈w.cps.toList,p c=false:=by rw[List.all_eq_false]at hd;obtain⟨c,l,q⟩:=hd;exact⟨c,l,by simpa using q⟩
  obtain⟨y,u⟩:=W0 s;have v:∃c∈(w.cps.toList.drop (w.cps.toList.takeWhile p).length).reverse,p c=false:=by obtain⟨c,l,q⟩:=u;exact⟨c,List.mem_reverse.mpr l,q⟩
  obtain⟨x,_⟩:=W0 v;rw[List.length_reverse,BQ]at x;have lo:stripLo p true w=(w.cps.toList.takeWhile p).length:=by unfold stripLo;rw[if_pos rfl]
  rw[C2,bne_iff_ne];intro a;have a:=congrArg (λz:Str=>z.cps.toList.length) a;have a:(if stripSame p true true w=true then w else stripped p true true w).cps.toList.length=("":Str).cps.toList.length:=a;rw[m]at a;split at a
  ·rw[A1]at a;omega
  unfold stripped at a;rw[lo]at a;unfold stripHi at a;rw[if_pos rfl]at a;have a:(w.cps.extract (w.cps.toList.takeWhile p).length<|w.length-((w.cps.toList.drop (w.cps.toList.takeWhile p).length).reverse.takeWhile p).length).toList.length=0:=a;rw[AA,Array.size_extract]at a;have A:w.cps.size=w.length:=rfl;omega
def strip_nil(w:Str):(Txt.stripChars w "0123456789" != "")=!Mc w:=by
 have a:∀c:Nat,(Bm "0123456789").cps.contains c=dig c:=by
  intro c;rw[<-EN];have:(Bm "0123456789").cps.toList=[48,49,50,51,52,53,54,55,56,57]:=by decide
  rw[this];unfold dig;rw[A8];simp;omega
 have l:(Bm "0123456789").cps.contains=dig:=funext a;exact iM l w
def T4:Ap ("":Str)=true:=by decide +kernel
def Zj(h:Ke w m)(hm:m<=9000)(s:Hf):O7 [.str w] s=some (.int (HI w),s):=by
 have er:Jf 1 [.str w]=[some (.str w)]:=rfl;have lw:=Ar h.len hm;have o:fits w.length=true:=Ko (by omega);have r:=eq_str (st:=s) h.str T4;have v:Oq (.str w) [.str "0123456789"] s=some (.str (Txt.stripChars w "0123456789"),s):=by unfold Oq;simp only[o,if_true]
 have x:Ap (Txt.stripChars w "0123456789")=true:=VI λc a=>h.ok c (by
  unfold Txt.stripChars Txt.stripBy at a;split at a
  ·exact a
  unfold stripped at a;have a:c∈(w.cps.extract _ _).toList:=a;rw[EU]at a;exact Dx (Bc a))
 have u:=ne_str (st:=s) x T4;rw[strip_nil]at u;have y:Hl [.str w] s=some (.int w.length,s):=by simp[Hl,o]
 have A:decide ((w.length:Int) > 9)=!decide (w.length<=9):=by rw[A8];simp;omega
 have emp:(w=="")=!decide (1<=w.length):=by
  rw[A8];rw[beq_iff_eq];simp;constructor
  ·rintro rfl
   decide
  ·intro z;apply Py;have:w.cps.toList.length=w.length:=AA;have:w.cps.toList=[]:=Ba (by omega);rw[this]
   decide
 rw[emp]at r;have E:good w 9=(decide (1<=w.length)&&decide (w.length<=9)&&Mc w&&!lead w):=rfl;have test:IL (mT<|mB Ie (mV 0)<|mK<|.str "") (IL (mT<|mB IS (MX Oq (mV 0)<|Hc (mK<|.str "0123456789")<|mZ)<|mK<|.str "")<|IL (JD (mT<|mB Ie (mB Hr (mV 0)<|mK<|.int 0)<|mK<|.str "0")<|mT<|mB IS (mV 0)<|mK<|.str "0")<|mT<|mB IV (Hi Hl<|Hc (mV 0)<|mZ)<|mK<|.int 9) [some (.str w)] s=some (!good w 9,s):=by
  rw[E,Lw];simp only[KL,II,Im,Ii,Ai,Aa,r];cases Q:decide (1<=w.length) with
  |false=>rfl
  |true=>
   simp only[Da,AG,if_false,Lw,KL,II,RM,Im,Ii,Ai,Aa,Iy,Iz,v,u];cases e:Mc w with
   |false=>simp
   |true=>
    have W:=dO h hm (of_decide_eq_true Q) s;simp only[Da,AG,if_false];rw[W];cases f:lead w with
    |true=>simp
    |false=>
     simp only[Aa,AG,if_false,KL,II,Je,Iy,Im,Ii,Ai,Iz,y,IV,HG,A];simp
 refine IG ?_;unfold kE;rw[er];cases l:good w 9 with
 |false=>
  rw[l]at test;refine JL ?_;rw[K4,test];have:HI w=-1:=by unfold HI;rw[l];rfl
  rw[this];rfl
 |true=>
  rw[l]at test;have Z:=good_int l (by decide) s;refine HD (ρ1:=[some (.str w)]) (s1:=s) (by rw[K4,test];rfl) ?_;rw[show HI w=val w from if_pos l];simp only[Lx,Je,Iy,Im,Ai,Aa,Iz,Z,Aj]
variable {ds:List D}
def QL{m:ME}{ρ:HX}{s1:Hf}{l:Nat}(h:m ρ s=some (.ref l,s1))(e:s1[l]?=some (.lst ds)):Ju m ρ s=some (⟨ds,[(l,ds)]⟩,s1):=by
 have a:Il s1 l=some ds:=by unfold Il;rw[e]
 rw[WO,h];simp only[Aa,Ru,a,Aj,JF]
def zfu{ws:List Str}{l:Nat}(h:∀w∈ws,Ke w m)(hm:m<=9000)(i:ws.length<=9100)(e:s[l]?=some (.lst<|ws.map D.str)):∃s',Sa [.ref l] s=some (.tup (ws.map Hs),s')/\Gr s s':=by
 obtain⟨s1,a,g1⟩:=WV (W:=⟨ws.map D.str,[(l,ws.map D.str)]⟩) (g:=Ho 0) (c:=IC) (m:=Ze) (f:=D.str) (h:=Hs) (R:=λρ=>∃u,ρ=[u]) (as:=ws) (ρ:=[none]) (st:=s) ⟨none,rfl⟩
  (λs' g=>QT ((g.old _<|qax e).trans e)) (λw hw ρ s' hρ _=>by obtain⟨u,rfl⟩:=hρ;obtain⟨s2,o,g2⟩:=kH (h w hw) hm s';refine⟨[some (.str w)],s2,rfl,rfl,?_,g2,⟨_,rfl⟩⟩;unfold Ze;simp only[Je,Iy,Im,Ai,Aa,Iz,o])
 have r:fits (ws.map Hs).length=true:=Ko (by rw[Af];omega);have v:=O6<|IJ s1<|.lst<|ws.map Hs;refine⟨s1++[.lst (ws.map Hs)],IG ?_,g1.trans<|Gr.app _ _⟩;unfold kF;rw[Lx,Je,Iy,Ji,QL (m:=mV 0) (s1:=s) rfl e];simp only[Aa];rw[show Hz (Jf 1 [.ref l]) 1 []=[none] from rfl,a];simp only[Aa,r,if_true,Iz,v,Aj]
def uR(r:List Nat):∀a:Nat,a*10^r.length<=r.foldl (λacc c=>acc*10+(c-48)) a:=by
 induction r with
 |nil=>intro a;simp
 |cons c r l=>
  intro a;have h:=l<|a*10+(c-48);rw[List.foldl_cons,AB,Nat.pow_succ];refine Ar ?_ h;rw[Nat.mul_comm (10^r.length) 10,<-Nat.mul_assoc];exact CD _<|BU _ _
def rZ(h:good w m=true)(f:7<=w.length):1000000<=val w:=by
 unfold good at h;rw[Ag,Ag,Ag]at h;obtain⟨⟨_,s⟩,a⟩:=h;have l:w.cps.toList.length=w.length:=AA
 match e:w.cps.toList with
 |[]=>rw[e]at l;simp at l;omega
 |c::r=>
  rw[e]at l;have o:=List.all_eq_true.mp s c (by rw[e];exact Al);unfold dig at o;rw[Ag]at o;have v:=of_decide_eq_true o.1;have ne:c≠48:=λz=>by
   unfold lead at a;rw[e,z]at a;have:(w != "0")=true:=bne_iff_ne.mpr λq=>by rw[q]at f;exact absurd f<|by decide
   rw[this]at a;cases a
  have h:=uR r<|c-48;have u:FO (c::r)=r.foldl (λacc c=>acc*10+(c-48)) (0*10+(c-48)):=rfl;have p:10^6<=10^r.length:=Nat.pow_le_pow_right (by decide) (by simp at l;omega);have q:1*10^r.length<=(c-48)*10^r.length:=CD _ (by omega);unfold val;rw[e,u,Nat.zero_mul,Nat.zero_add];have:10^6<=r.foldl (λacc c=>acc*10+(c-48)) (c-48):=by omega
  have:(10:Nat)^6=1000000:=by decide
  omega
def IU(lo hi:Int)(w:Str):Bool:=good w 6&&(decide (lo<=val w)&&decide (val w<=hi))
def dC(h:good w 6=true):good w 9=true:=by unfold good at *;simp only[Ag,decide_eq_true_eq]at *;exact⟨⟨⟨h.1.1.1,by omega⟩,h.1.2⟩,h.2⟩
variable {lo hi:Int}
def Wb(h0:0<=lo)(e:hi<1000000):(decide (lo<=HI w)&&decide (HI w<=hi))=IU lo hi w:=by
 unfold HI IU;cases c:good w 6 with
 |true=>rw[dC c];rfl
 |false=>
  cases a:good w 9 with
  |false=>
   have:decide (lo<=(-1:Int))=false:=decide_eq_false (by omega);simp[this]
  |true=>
   have l:7<=w.length:=DY λq=>by
    have:good w 6=true:=by unfold good at *;simp only[Ag,decide_eq_true_eq]at *;exact⟨⟨⟨a.1.1.1,by omega⟩,a.1.2⟩,a.2⟩
    rw[c]at this;cases this
   have:=rZ a l;have d:decide (val w<=hi)=false:=decide_eq_false (by omega);simp[d]
def Nn(h:IU lo hi w=true):HI w=val w/\lo<=val w/\val w<=hi/\Hs w=.int (val w):=by unfold IU at h;rw[Ag,Ag]at h;exact⟨if_pos<|dC h.1,of_decide_eq_true h.2.1,of_decide_eq_true h.2.2,if_pos h.1⟩
open L2.MP.Ce (J5 Ky Hw Ic L8 JQ Kd Jx LM Qz XE MM)
noncomputable abbrev Wd (w:Str):Prop:=Ke w 9000
variable {x:Int}
theorem Xy:tyName st (.int x)=some "int":=rfl
theorem uC:tyName st .non=some "NoneType":=rfl
theorem RN:tyName st (.str z)=some "str":=rfl
theorem uD:tyName st (.tup ds)=some "tuple":=rfl
def Xq:IX "int" "int"=true:=by decide
def Xp:IX "int" "bool"=false:=by decide
def rQ:IX "NoneType" "int"=false:=by decide
def RG:IX "str" "str"=true:=by decide
def sub_tt:IX "tuple" "tuple"=true:=by decide
def zlU:Ou [.int x,.int lo,.int hi] st=some (.bl (decide (lo<=x)&&decide (x<=hi)),st):=by
 refine IG ?_;unfold YG;by_cases h1:lo<=x
 ·by_cases h2:x<=hi
  ·simp[Jm,Xy,Xq,Xp,h1,h2]
  simp[Jm,Xy,Xq,Xp,h1,h2]
 simp[Jm,Xy,Xq,Xp,h1]
def zlT:Ou [.non,.int lo,.int hi] st=some (.bl false,st):=by refine IG ?_;unfold YG;simp[uC,rQ]
def QQ:Ou [Hs w,.int lo,.int hi] st=some (.bl (IU lo hi w),st):=by
 unfold Hs IU;cases good w 6 with
 |true=>exact zlU
 |false=>exact zlT
def R8{N:Int}:LW [.tup ds,.int N] st=some (.bl ((ds.length:Int)==N),st):=by refine IG ?_;unfold iC;simp[uD,sub_tt,Px,eq_int]
variable {n:Nat}
def Yi(h:ds.length≠n):LW [.tup ds,.int n] st=some (.bl false,st):=by rw[R8,beq_eq_false_iff_ne.mpr (by omega)]
def Mh:Str:="abcdefghijklmnopqrstuvwxyz"
def Rm:Str:="abcdefghijklmnopqrstuvwxyz0123456789"
def W4:Lb (.str a) (.str b) st=some (.bl (!(Builtin.Str.occurrences b a 0 b.length 1).isEmpty),st):=by
 have e:inD false (.str a) (.str b) st=none:=by
  unfold inD;cases l:Jj 50 st (.str a) with
  |none=>rfl
  |some p=>
   cases c:Jj 50 st (.str b) with
   |none=>rfl
   |some q=>
    have:q=.str b:=by
     rw[Jj]at c;split at c
     ·cases c;rfl
     ·cases c
    subst this;rfl
 unfold Lb JM;rw[e,Kj];rfl
def dD:Lb (.str ⟨#[c]⟩) (.str z) st=some (.bl (decide (c∈z.cps.toList)),st):=by rw[W4,FP z c]
def bM{l:List Nat}(h:z.cps.toList=l):z=⟨l.toArray⟩:=Py<|by rw[h]
def K5(z:Str):Bool:=decide (1<=z.length)&&(decide (z.length<=8)&&z.cps.toList.all (λc=>decide (c∈Mh.cps.toList)))
def len_str(h:z.length<=10000):Hl [.str z] st=some (.int (z.length:Int),st):=by have:fits z.length=true:=Ko h;simp[Hl,this]
def uK(h:Wd z):∃st',Yx [.str z] st=some (.bl (K5 z),st')/\Gr st st':=by
 have l:=len_str (z:=z) (st:=st) (by have:=h.len;omega);have n:IY "str" (mV 0) [some (.str z)] st=some (.bl true,st):=by simp[RN,RG]
 have hw:Ju (mV 0) [some (.str z)] st=some (⟨z.cps.toList.map λc=>D.str ⟨#[c]⟩,[]⟩,st):=rfl;obtain⟨s1,e,g⟩:=Qz (b:=λc=>decide (c∈Mh.cps.toList)) (fr:=[]) (m:=YS) (ρ0:=[]) hw (λ_ _=>rfl) rfl (by rw[AA];exact Ar h.len (by decide)) (λc r s _=>⟨s,by
  have:=dD (c:=c) (z:=Mh) (st:=s);unfold YS;show mB Lb (mV 0) (mK<|.str Mh) [some (.str ⟨#[c]⟩)] s=_;simp[this],Gr.refl s⟩)
 unfold K5;generalize z.cps.toList.all (λc=>decide (c∈Mh.cps.toList))=B at *;by_cases h1:1<=z.length
 ·have a:(1:Int)<=(z.length:Int):=by omega
  rw[decide_eq_true h1,BE];by_cases h2:z.length<=8
  ·have o:(z.length:Int)<=8:=by omega
   rw[decide_eq_true h2,BE];exact⟨s1,IG<|LM<|Jx n<|Jx (s1:=st) (by show Jm _ _ _ _ _ [some (.str z)] st=_;simp[Jm,l,a,o]) e,g⟩
  ·have o:¬(z.length:Int)<=8:=by omega
   rw[decide_eq_false h2,Cs];exact⟨st,IG<|LM<|Jx n<|Kd (by show Jm _ _ _ _ _ [some (.str z)] st=_;simp[Jm,l,a,o]),Gr.refl _⟩
 ·have a:¬(1:Int)<=(z.length:Int):=by omega
  rw[decide_eq_false h1,Cs];exact⟨st,IG<|LM<|Jx n<|Kd (by show Jm _ _ _ _ _ [some (.str z)] st=_;simp[Jm,l,a]),Gr.refl _⟩
def yX{n:Str}(h:Wd n):∃st',YJ [.tup [.str n,Hs a]] st=some (.bl (K5 n&&IU 1 4 a),st')/\Gr st st':=by
 obtain⟨s1,e,g⟩:=uK (st:=st) h;have x0:∀s:Hf,Hr (.tup [.str n,Hs a]) (.int 0) s=some (.str n,s):=λs=>Kk (by decide) rfl;have m:∀s:Hf,Hr (.tup [.str n,Hs a]) (.int 1) s=some (Hs a,s):=λs=>Kk (by decide) rfl;have c:LW [.tup [.str n,Hs a],.int 2] st=some (.bl true,st):=R8;have o:=QQ (w:=a) (lo:=1) (hi:=4) (st:=s1);generalize D.tup [.str n,Hs a]=P at *;refine⟨s1,IG ?_,g⟩;unfold iA
 cases l:K5 n with
 |true=>
  rw[l]at e;simp[c,x0,e,m,o]
 |false=>
  rw[l]at e;simp[c,x0,e]
def Oj(z:Str):Bool:=decide (z.length<=1)&&z.cps.toList.all (λc=>decide (c∈Rm.cps.toList))
def wW:(Builtin.Str.occurrences Rm ("":Str) 0 Rm.length 1).isEmpty=false:=by decide +kernel
def bG(h:z.length<=1)(f:(Builtin.Str.occurrences Z ("":Str) 0 Z.length 1).isEmpty=false):Lb (.str z) (.str Z) st=some (.bl (z.cps.toList.all λc=>decide (c∈Z.cps.toList)),st):=by
 have m:z.cps.toList.length=z.length:=AA;rcases l:z.cps.toList with _|⟨c,r⟩
 ·have e:z="":=by
   rw[bM l]
   decide +kernel
  rw[e,W4,f];rfl
 ·have n:r=[]:=by
   rw[l]at m;cases r with
   |nil=>rfl
   |cons a b=>simp at m;omega
  subst n;rw[bM l];have:=dD (c:=c) (z:=Z) (st:=st);rw[this];simp
def uP(h:Wd z):VJ [.str z] st=some (.bl (Oj z),st):=by
 have c:=len_str (z:=z) (st:=st) (by have:=h.len;omega);have l:IY "str" (mV 0) [some (.str z)] st=some (.bl true,st):=by simp[RN,RG]
 refine IG ?_;show mR (JE (IY "str"<|mV 0)<|JE (mB HV (Hi Hl<|Hc (mV 0)<|mZ)<|mK<|.int 1)<|mB Lb (mV 0)<|mK<|.str Rm) [some (.str z)] st=_;unfold Oj
 by_cases h1:z.length<=1
 ·have a:(z.length:Int)<=1:=by omega
  have m:=bG (st:=st) h1 wW;rw[decide_eq_true h1,BE];generalize Rm=Z at *;exact LM<|Jx l<|Jx (s1:=st) (by simp[c,a])<|by simp[m]
 ·have a:¬(z.length:Int)<=1:=by omega
  rw[decide_eq_false h1,Cs];exact LM<|Jx l<|Kd<|by simp[c,a]
def Sj(p:Str×Int):Key×D:=(.inr p.1,.int p.2)
def O8(stk:List (Str×Int)):List (Key×D):=OV []<|stk.map Sj
def vO{κ:Type}[DecidableEq κ]:∀(kvs:List (κ×D)) (k q:κ) (d:D),Kr (putD kvs k d) q=if q=k then some d else Kr kvs q:=by
 intro kvs k q d;unfold putD;by_cases h:(kvs.any λc=>decide (c.1=k))=true
 ·rw[if_pos h]
  induction kvs with
  |nil=>simp at h
  |cons p r m=>
   unfold Kr at *;rw[Au,Bl,Bl];by_cases hp:p.1=k
   ·simp only[hp,if_true]
    by_cases hq:q=k
    ·simp[hq]
    ·have:¬k=q:=λe=>hq e.symm;simp only[this,decide_false,hq,if_false];clear h m
     induction r with
     |nil=>rfl
     |cons u r a=>
      rw[Au,Bl,Bl];by_cases hu:u.1=k
      ·simp only[hu,if_true,this,decide_false];exact a
      ·simp only[hu,if_false]
       by_cases huq:u.1=q
       ·simp[huq]
       simp only[huq,decide_false];exact a
   ·simp only[hp,if_false]
    by_cases hpq:p.1=q
    ·have:¬q=k:=λe=>hp<|hpq.trans e;simp[hpq,this]
    simp only[hpq,decide_false];refine m ?_;rw[Cb]at h;simpa[hp]using h
 ·rw[if_neg h];unfold Kr;rw[List.find?_append]
  by_cases hq:q=k
  ·subst hq;have:kvs.find? (λc=>decide (c.1=q))=none:=by
    rw[List.find?_eq_none];intro x n l;exact h<|List.any_eq_true.mpr ⟨x,n,l⟩
   simp[this]
  have:¬k=q:=λe=>hq e.symm;simp[hq,this]
theorem iR:∀(S:List (Str×Int)) (kvs:List (Key×D)) (x:Str),(Kr (OV kvs<|S.map Sj)<|.inr x).isSome=((Kr kvs<|.inr x).isSome || decide (x∈S.map (·.1)))
 |[],kvs,x=>by simp[OV]
 |p::S,kvs,x=>by
  have f:=iR S (putD kvs (.inr p.1)<|.int p.2) x;have e:OV kvs ((p::S).map Sj)=OV (putD kvs (.inr p.1)<|.int p.2) (S.map Sj):=rfl;rw[e,f,vO]
  by_cases h:x=p.1
  ·subst h;simp
  ·have a:¬(.inr x:Key)=.inr p.1:=λz=>h<|GF z;rw[if_neg a];have q:(x∈(p::S).map (·.1)) ↔ (x∈S.map (·.1)):=by rw[Au,Br];exact⟨λz=>z.resolve_left h,.inr⟩
   rw[decide_eq_decide.mpr q]
def vD(S:List (Str×Int))(x:Str):(Kr (O8 S)<|.inr x).isSome=decide (x∈S.map (·.1)):=by have:=iR S [] x;simpa[O8,Kr]using this
theorem cG:∀stk:List (Str×Int),Rq (stk.map Jb)=some (stk.map Sj)
 |[]=>rfl
 |p::r=>by have e:=cG r;rw[Au,Rq,e];rfl
def uL{stk:List (Str×Int)}(e:stk.length<=9000):U1 [.tup (stk.map Jb)] st=some (.ref st.length,st++[.dk (O8 stk)]):=by have a:fits (stk.map Sj).length=true:=Ko (by rw[Af];omega);have c:U2 [.tup (stk.map Jb)] st=none:=rfl;unfold U1 Oe;rw[c,Kj];unfold U3;simp only[cG,Aa,a,if_true];rfl
variable {S:List (Str×Int)}{k:Nat}
def in_dict(ok:Ap z=true)(hd:st[k]?=some (.dk<|O8 S)):Lb (.str z) (.ref k) st=some (.bl (decide (z∈S.map (·.1))),st):=by
 have a1:inD false (.str z) (.ref k) st=none:=by
  unfold inD;rw[Ot (n:=49) ok];have:Jj 50 st (.ref k)=none:=by rw[Jj];simp[Il,hd]
  rw[this];rfl
 have a2:OC (.str z) (.ref k) st=none:=rfl;have a:=vD S z;unfold Lb JM;rw[a1,Kj,a2,Kj];simp[Rb,look,hd,keyOf,a]
def Mp(ns:List Str)(z:Str):Bool:=(z=="") || decide (z∈ns)
def uZ(h:Wd z)(hd:st[k]?=some (.dk<|O8 S)):Yy [.str z,.ref k] st=some (.bl (Mp (S.map (·.1)) z),st):=by
 have c:=in_dict h.str hd;have a:=eq_str (st:=st) h.str T4;refine IG ?_;unfold gP Mp;generalize decide (z∈S.map (·.1))=B at *;generalize (z=="")=E at *;cases E with
 |true=>simp[RN,RG,Jn,a]
 |false=>simp[RN,RG,Jn,a,c]
def kindS(ns:List Str):List Str->Bool
 |[f,a,b,c,d]=>Oj f&&[a,b,c,d].all (Mp ns)
 |_=>false
def Q9{α:Type}{l:List α}(h:l.length=5):∃f a b c d,l=[f,a,b,c,d]:=by
 match l,h with
 |[f,a,b,c,d],_=>exact⟨f,a,b,c,d,rfl⟩
variable {l:List Str}
def fD{ns:List Str}(h:l.length≠5):kindS ns l=false:=by
 unfold kindS;split
 ·exact absurd rfl h
 rfl
def uH{l:List Str}(h:∀x∈l,Wd x)(hd:st[n]?=some (.dk<|O8 S)):∃st',Yw [.tup (l.map D.str),.ref n] st=some (.bl (kindS (S.map (·.1)) l),st')/\Gr st st':=by
 by_cases hl:l.length=5
 ·obtain⟨f,a,b,c,d,rfl⟩:=Q9 hl;have o:LW [.tup ([f,a,b,c,d].map D.str),.int 5] st=some (.bl true,st):=R8;have x0:Hr (.tup<|[f,a,b,c,d].map D.str) (.int 0) st=some (.str f,st):=Kk (by decide) rfl;have r:=uP (st:=st) (h f<|by simp);have hw:Ju (Ij (mV 0) (IW<|mK<|.int 1)<|Jw) [some (.tup<|[f,a,b,c,d].map D.str),some (.ref n)] st=some (⟨[a,b,c,d].map D.str,[]⟩,st):=rfl;obtain⟨s1,u,g1⟩:=Qz (b:=Mp (S.map (·.1))) (fr:=[1]) (m:=VW) (ρ0:=[some (.ref n)]) hw (λ_ _=>rfl) rfl (by simp) (λx v s w=>by
   have:=uZ (h x<|Ak _ v) ((w.old _<|qax hd).trans hd);refine⟨s,?_,Gr.refl s⟩;unfold VW;simp[this])
  rw[show kindS (S.map (·.1)) [f,a,b,c,d]=(Oj f&&[a,b,c,d].all (Mp (S.map (·.1)))) from rfl];generalize [a,b,c,d].all (Mp (S.map (·.1)))=B at *;generalize D.tup ([f,a,b,c,d].map D.str)=P at *;generalize y:Hi Jy (Hc (Jl (Ju<|Ij (mV 0) (IW<|mK<|.int 1)<|Jw) 1 [1] (Ho 0) IC<|VW)<|mZ)=AC at *;have eB:gO=mR (JE (Hi LW<|Hc (mV 0)<|Hc (mK<|.int 5)<|mZ)<|JE (Hi VJ<|Hc (mB Hr (mV 0)<|mK<|.int 0)<|mZ) AC):=by rw[<-y];rfl
  cases hf:Oj f with
  |true=>
   rw[hf]at r;refine⟨s1,IG ?_,g1⟩;rw[eB];show mR _ [some P,some (.ref n)] st=_;simp[o,x0,r,u]
  |false=>
   rw[hf]at r;refine⟨st,IG ?_,Gr.refl _⟩;rw[eB];show mR _ [some P,some (.ref n)] st=_;simp[o,x0,r]
 have o:LW [.tup (l.map D.str),.int 5] st=some (.bl false,st):=Yi (n:=5) (by rw[Af];exact hl);rw[fD hl];refine⟨st,IG<|LM<|Kd ?_,Gr.refl _⟩;show Hi _ _ [some (.tup<|l.map D.str),some (.ref n)] st=_;generalize D.tup (l.map D.str)=P at *;simp[o]
def KO:List Str->Bool
 |[a,b]=>IU 1 12 a&&IU 1 12 b
 |_=>false
def xA:YH [.tup (l.map Hs)] st=some (.bl (KO l),st):=by
 refine IG ?_;by_cases o:l.length=2
 ·obtain⟨a,b,rfl⟩:∃a b,l=[a,b]:=by
   match l,o with
   |[a,b],_=>exact⟨a,b,rfl⟩
  have c:LW [.tup ([a,b].map Hs),.int 2] st=some (.bl true,st):=R8;have x0:Hr (.tup<|[a,b].map Hs) (.int 0) st=some (Hs a,st):=Kk (by decide) rfl;have r:Hr (.tup<|[a,b].map Hs) (.int 1) st=some (Hs b,st):=Kk (by decide) rfl;have m:=QQ (w:=a) (lo:=1) (hi:=12) (st:=st);have s:=QQ (w:=b) (lo:=1) (hi:=12) (st:=st);show _=some (Fl.rt (.bl<|IU 1 12 a&&IU 1 12 b),st);generalize D.tup ([a,b].map Hs)=P at *;unfold YF
  cases h:IU 1 12 a with
  |true=>rw[h]at m;simp[c,x0,m,r,s]
  |false=>rw[h]at m;simp[c,x0,m]
 ·have c:LW [.tup (l.map Hs),.int 2] st=some (.bl false,st):=Yi (n:=2) (by rw[Af];exact o);have:KO l=false:=by
   unfold KO;split
   ·exact absurd rfl o
   rfl
  rw[this];generalize D.tup (l.map Hs)=P at *;unfold YF;simp[c]
section
variable {B:D}{w h:Int}{KN:Nat}
structure Qa(B:D)(w h:Int)(KN:Nat):Prop where
 fl:∀s:Hf,Hr B (.int 1) s=some (.tup [.int w,.int h],s)
 kd:∃(H:D) (ks:List D),(∀s:Hf,Hr B (.int 0) s=some (H,s))/\(∀s:Hf,Hr H (.int 2) s=some (.tup ks,s))/\ks.length=KN
def zJ(c:Qa B w h KN):YI [B,.tup [Hs a,Hs b]] st=some (.bl (IU 0 (w-1) a&&IU 0 (h-1) b),st):=by
 have m:LW [.tup [Hs a,Hs b],.int 2] st=some (.bl true,st):=R8;have x0:Hr (.tup [Hs a,Hs b]) (.int 0) st=some (Hs a,st):=Kk (by decide) rfl;have r:Hr (.tup [Hs a,Hs b]) (.int 1) st=some (Hs b,st):=Kk (by decide) rfl;have n:Hr (.tup [.int w,.int h]) (.int 0) st=some (.int w,st):=Kk (by decide) rfl;have s:Hr (.tup [.int w,.int h]) (.int 1) st=some (.int h,st):=Kk (by decide) rfl;have l:=QQ (w:=a) (lo:=0) (hi:=w-1) (st:=st);have u:=QQ (w:=b) (lo:=0) (hi:=h-1) (st:=st);have v:=c.fl;generalize D.tup [Hs a,Hs b]=P at *;generalize D.tup [.int w,.int h]=F at *;refine IG ?_;unfold hV;refine HD (ρ1:=[some B,some P,some F]) (s1:=st) (by simp[v]) ?_
 cases o:IU 0 (w-1) a with
 |true=>rw[o]at l;simp[m,x0,n,l,r,s,u]
 |false=>rw[o]at l;simp[m,x0,n,l]
def Pp(w h:Int)(KN:Nat):List Str->Bool
 |[a,b,c]=>IU 0 (w-1) a&&IU 0 (h-1) b&&IU 0 ((KN:Int)-1) c
 |_=>false
def vI(c:Qa B w h KN):Yz [B,.tup (l.map Hs)] st=some (.bl (Pp w h KN l),st):=by
 obtain⟨H,r,z,A,E⟩:=c.kd;refine IG ?_;unfold gQ;refine HD (ρ1:=[some B,some (.tup<|l.map Hs),some (.tup r)]) (s1:=st) (by
  show Hm _ _ [some B,some (.tup<|l.map Hs),none] st=_;generalize D.tup (l.map Hs)=P at *;simp[z,A]) ?_
 by_cases s:l.length=3
 ·obtain⟨x,y,k,rfl⟩:∃x y k,l=[x,y,k]:=by
   match l,s with
   |[a,b,c],_=>exact⟨a,b,c,rfl⟩
  have m:LW [.tup ([x,y,k].map Hs),.int 3] st=some (.bl true,st):=R8;have S:Hr (.tup<|[x,y,k].map Hs) (.int 2) st=some (Hs k,st):=Kk (by decide) rfl;have o:=zJ (a:=x) (b:=y) (st:=st) c;have W:Hl [.tup r] st=some (.int (KN:Int),st):=by rw[Px,E]
  have Z:=QQ (w:=k) (lo:=0) (hi:=(KN:Int)-1) (st:=st);have u:Ij (mV 1) Jw (IW<|mK<|.int 2) [some B,some (.tup<|[x,y,k].map Hs),some (.tup r)] st=some (.tup [Hs x,Hs y],st):=rfl;show _=some (Fl.rt (.bl<|IU 0 (w-1) x&&IU 0 (h-1) y&&IU 0 ((KN:Int)-1) k),st);generalize Ij (mV 1) Jw (IW<|mK<|.int 2)=e at *;generalize D.tup ([x,y,k].map Hs)=P at *;generalize D.tup [Hs x,Hs y]=Q at *
  cases v:IU 0 (w-1) x&&IU 0 (h-1) y with
  |true=>rw[v]at o;simp[m,u,o,S,W,Z]
  |false=>rw[v]at o;simp[m,u,o]
 ·have m:LW [.tup (l.map Hs),.int 3] st=some (.bl false,st):=Yi (n:=3) (by rw[Af];exact s);have:Pp w h KN l=false:=by
   unfold Pp;split
   ·exact absurd rfl s
   rfl
  rw[this];generalize D.tup (l.map Hs)=P at *;simp[m]
end
end L2.MP.T0
namespace L2.MP.T0
open PySem L2.MP L2.MP.Hn
open L2.MP.Ce (J5 Ky Hw Ic L8 JQ Kd Jx LM Qz)
def xW(ds:List D):cutD ds (some 1) none=ds.drop 1:=by
 unfold cutD;have l:HT.HN ds.length 0 (some 1)=min 1 ds.length:=by unfold HT.HN;simp
 have o:HT.HN ds.length ds.length none=ds.length:=rfl;rw[l,o];cases ds with
 |nil=>rfl
 |cons a r=>
  have:min 1 (a::r).length=1:=by simp
  rw[this];simp
variable {l:Nat}{d:D}{ds:List D}{s:Hf}
def Wx(h:s[l]?=some (.lst (d::ds))):Nt (.ref l) (some 1) none s=some (.ref s.length,s++[.lst ds]):=by
 have:Qk (.ref l) (some 1) none s=some (.ref s.length,s++[.lst ds]):=by show(Il s l).map _=_;simp only[Il,h,Aj,xW];rfl
 unfold Nt Pa;rw[this,JF,JF]
variable {n:Nat}
def W5{x:D}(h:s[n]?=some (.lst ds))(a:ds.getLast?=some x):Hr (.ref n) (.int<|-1) s=some (x,s):=by
 have l:ds≠[]:=λz=>by subst z;cases a
 have r:0<ds.length:=List.length_pos_iff.mpr l;rw[List.getLast?_eq_getElem?]at a;have u:(-1:Int)+(ds.length:Int)=((ds.length-1:Nat):Int):=by omega
 have v:¬(0:Int)<=-1:=by decide
 have o:Nc ds.length (-1)=some (ds.length-1):=by unfold Nc;simp;omega
 simp only[Hr,JM,Ln,Il,h,Aa,LH,o,a,Aj,JF]
variable {x:Str}{st:Hf}
def dE{f:Nat}{x:Str}{ss:List Str}(hf:st[f]?=some (.lst<|ss.map D.str))(h:∀x∈ss,Ap x=true)(a:Ap x=true):Lb (.str x) (.ref f) st=some (.bl (decide (x∈ss)),st):=by unfold Lb JM inD;rw[QK (n:=48) hf h,Ot (n:=49) a];simp only[Aa,PU,Aj,XB,JF];rfl
variable {ρ:HX}{s1:Hf}
def Qq{a b:MT}(c:a ρ st=some (false,s1)):JD a b ρ st=some (false,s1):=by simp only[Mt,c,Aa,AG,if_false]
def Qr{a b:MT}{r:Option (Bool×Hf)}(c:a ρ st=some (true,s1))(e:b ρ s1=r):JD a b ρ st=r:=by simp only[Mt,c,Aa,if_true,e]
def ne_int(a b:Int)(st:Hf):IS (.int a) (.int b) st=some (.bl (!(a==b)),st):=by unfold IS;rw[Jj,Jj];simp[Bb]
variable {a b c h:Int}{w0:Str}{α:Type}{KN:Nat}
section
variable {r:List Str}{q f:Nat}{A:List D}
def XG(h:∀x∈r,Wd x)(g:r.length<=9000)(e:s[q]?=some (.lst<|(w0::r).map D.str)):
  ∃s',Hi Sa (Hc (Ij (mV 0) (IW<|mK<|.int 1)<|Jw)<|mZ) (some (.ref q)::ρ) s=some (.tup (r.map Hs),s')/\Gr s s':=by
 have a:=Wx (s:=s) (l:=q) (d:=.str w0) (ds:=r.map D.str) e;obtain⟨s1,c,g1⟩:=zfu (l:=s.length) (s:=s++[.lst (r.map D.str)]) h (Ah _) (by omega)<|IJ _ _;refine⟨s1,?_,(Gr.app _ _).trans g1⟩;generalize s++[O.lst (r.map D.str)]=s0 at *;simp[a,c]
def eB:List Str->Bool
 |[a]=>IU 1 4 a
 |_=>false
def v0(r:List Str)(i:Nat):Int:=val (r.getD i "")
def one{l:List α}(h:l.length=1):∃a,l=[a]:=by
 match l,h with
 |[a],_=>exact⟨a,rfl⟩
def two{l:List α}(h:l.length=2):∃a b,l=[a,b]:=by
 match l,h with
 |[a,b],_=>exact⟨a,b,rfl⟩
def three{l:List α}(h:l.length=3):∃a b c,l=[a,b,c]:=by
 match l,h with
 |[a,b,c],_=>exact⟨a,b,c,rfl⟩
def aQ(h:r.length≠1):eB r=false:=by
 unfold eB;split
 ·exact absurd rfl h
 rfl
def vY(h:∀x∈r,Wd x)(e:r.length<=9000)(g:s[q]?=some (.lst<|(w0::r).map D.str))(hf:s[f]?=some (.lst A)):
  ∃s',V3 [.ref q,.ref f,.non] s=some (if(A.isEmpty&&eB r)=true then .int (v0 r 0)else .non,s')/\Gr s s':=by
 obtain⟨s1,Q,g1⟩:=XG (ρ:=[some (.ref f),some .non,none]) h e g;have u:=(g1.old _<|qax hf).trans hf;have E:=M9 u;have c:Hl [.tup (r.map Hs)] s1=some (.int r.length,s1):=by rw[Px,Af]
 refine⟨s1,IG ?_,g1⟩;unfold jX;refine HD (ρ1:=[some (.ref q),some (.ref f),some .non,some (.tup<|r.map Hs)]) (s1:=s1) (by
  show Hm _ _ [some (.ref q),some (.ref f),some .non,none] s=_;rw[J9,Q]
  rfl) ?_
 have l:=ne_int r.length 1 s1;by_cases h1:r.length=1
 ·obtain⟨a,rfl⟩:=one h1;have l:IS (.int 1) (.int 1) s1=some (.bl false,s1):=rfl;have c:Hl [.tup ([a].map Hs)] s1=some (.int 1,s1):=c;have o:Hr (.tup<|[a].map Hs) (.int 0) s1=some (Hs a,s1):=Kk (by decide) rfl;have n:=QQ (w:=a) (lo:=1) (hi:=4) (st:=s1);generalize D.tup ([a].map Hs)=P at *
  cases A with
  |nil=>
   have t1:mT (mB IV (Hi Hl<|Hc (mV 1)<|mZ)<|mK<|.int 0) [some (.ref q),some (.ref f),some .non,some P] s1=some (false,s1):=Hw (by simp[E]);show _=some (Fl.rt (if IU 1 4 a=true then .int (val a)else .non),s1)
   cases v:IU 1 4 a with
   |true=>
    rw[v]at n;rw[(Nn v).2.2.2]at o n;refine HD (Ky (s1:=s1)<|JQ (s1:=s1) (Hw<|by simp[c,l])<|JQ (s1:=s1) t1<|Ic (b:=true)<|by simp[o,n])<|by simp[o]
   |false=>
    rw[v]at n;exact JL<|J5 (s1:=s1) (JQ (s1:=s1) (Hw<|by simp[c,l])<|JQ (s1:=s1) t1<|Ic (b:=false)<|by simp[o,n]) rfl
  |cons x y=>
   exact JL<|J5 (s1:=s1) (JQ (s1:=s1) (Hw<|by simp[c,l])<|L8<|Hw (b:=true)<|by simp[E]) rfl
 rw[aQ h1,Gj,if_neg (by decide)];rw[show(((r.length:Int))==1)=false from beq_eq_false_iff_ne.mpr (by omega)]at l;generalize D.tup (r.map Hs)=P at *;exact JL<|J5 (s1:=s1) (L8<|Hw (b:=true)<|by simp[c,l]) rfl
def ZX(a b:Str):Bool:=decide (a.cps.toList<b.cps.toList)
def Pj(last:Option Str)(n:Str):Bool:=match last with
 |none=>true
 |some l=>ZX l n
def sB(last:Option Str):List Str->Bool
 |[n,a]=>K5 n&&IU 1 4 a&&Pj last n
 |_=>false
def sV(r:List Str):Str×Int:=(r.getD 0 "",v0 r 1)
def U0{last:Option Str}(h:r.length≠2):sB last r=false:=by
 unfold sB;split
 ·exact absurd rfl h
 rfl
theorem qF{a b:Str}:leB (.str a) (.str b) s=some (.bl (!ZX b a),s):=rfl
def sE{ps:List (Str×Int)}(h:∀x∈r,Wd x)(e:s[q]?=some (.lst<|(w0::r).map D.str))(hf:s[f]?=some (.lst<|ps.map Jb)):
  ∃s',V9 [.ref q,.ref f,.non] s=some (if sB (ps.getLast?.map (·.1)) r=true then Jb (sV r)else .non,s')/\Gr s s':=by
 have l:=M9 e;have l:Hl [.ref q] s=some (.int (r.length+1:Nat),s):=by rw[l];simp
 by_cases h2:r.length=2
 ·obtain⟨n,a,rfl⟩:=two h2;have l:Hl [.ref q] s=some (.int 3,s):=l;have w:IS (.int 3) (.int 3) s=some (.bl false,s):=rfl;have E:Hr (.ref q) (.int 1) s=some (.str n,s):=N6 e (by decide) rfl;have Q:Hr (.ref q) (.int 2) s=some (.str a,s):=N6 e (by decide) rfl;obtain⟨s1,W,g1⟩:=kH (h a<|by simp) (Ah _) s;obtain⟨s2,o,g2⟩:=yX (a:=a) (st:=s1) (h n<|by simp);have g:=g1.trans g2;have v:=(g.old _<|qax hf).trans hf;have x0:∀s:Hf,Hr (.tup [.str n,Hs a]) (.int 0) s=some (.str n,s):=λs=>Kk (by decide) rfl;have i:∀(c:IU 1 4 a=true),D.tup [.str n,Hs a]=Jb (sV [n,a]):=λc=>by rw[(Nn c).2.2.2];rfl
  generalize j:D.tup [.str n,Hs a]=P at *;refine⟨s2,IG ?_,g⟩;unfold Y3;refine HD (Ky (s1:=s)<|Hw ?_) ?_
  ·show mB IS (Hi Hl<|Hc (mV 0)<|mZ) (mK<|.int 3) [some (.ref q),some (.ref f),some .non,none] s=_;simp[l,w]
  refine HD (ρ1:=[some (.ref q),some (.ref f),some .non,some P]) (s1:=s1) ?_ ?_
  ·show Hm _ _ [some (.ref q),some (.ref f),some .non,none] s=_;rw[<-j];simp[E,Q,W]
  have last:JD (Nz<|mV 1) (mT<|mB leB (mB Hr (mV 3)<|mK<|.int 0)<|mB Hr (mB Hr (mV 1)<|Lh<|mK<|.int 1)<|mK<|.int 0) [some (.ref q),some (.ref f),some .non,some P] s2=some (!Pj (ps.getLast?.map (·.1)) n,s2):=by
   have y:Il s2 f=some (ps.map Jb):=by unfold Il;rw[v]
   rcases Dj ps with rfl|⟨r,u,rfl⟩
   ·refine Qq ?_;simp[U7,Mw,y]
   ·have m:=W5 (x:=Jb u) v (by simp);have z:Hr (Jb u) (.int 0) s2=some (.str u.1,s2):=Kk (by decide) rfl;have le:=qF (a:=n) (b:=u.1) (s:=s2);refine Qr (s1:=s2) ?_ (Hw ?_)
    ·simp[U7,Mw,y]
    rw[show(r.concat u).getLast?=some u by simp];simp[Ny,m,z,x0,le,Pj]
  show _=some (Fl.rt (if(K5 n&&IU 1 4 a&&Pj (ps.getLast?.map (·.1)) n)=true then Jb (sV [n,a])else .non),s2);cases c:K5 n&&IU 1 4 a with
  |false=>
   rw[c]at o;exact JL<|J5 (s1:=s2) (L8<|Ic (b:=false)<|by simp[o]) rfl
  |true=>
   rw[c]at o;cases A:Pj (ps.getLast?.map (·.1)) n with
   |false=>
    rw[A]at last;exact JL<|J5 (s1:=s2) (JQ (s1:=s2) (Ic (b:=true)<|by simp[o]) last) rfl
   |true=>
    rw[A]at last;rw[Ag]at c;refine HD (Ky (s1:=s2)<|JQ (s1:=s2) (Ic (b:=true)<|by simp[o]) last) ?_;rw[i c.2];simp
 rw[U0 h2,if_neg (by decide)];have w:=ne_int (r.length+1:Nat) 3 s;rw[show(((r.length+1:Nat):Int)==3)=false from beq_eq_false_iff_ne.mpr (by omega)]at w;refine⟨s,IG ?_,Gr.refl _⟩;unfold Y3;refine JL<|J5 (s1:=s) (Hw (b:=true) ?_) rfl;show mB IS (Hi Hl<|Hc (mV 0)<|mZ) (mK<|.int 3) [some (.ref q),some (.ref f),some .non,none] s=_;simp only[II,Je,Iy,Iz,Im,Ii,Ai,Aa,l,w];rfl
def Jo(x:Str):Str:=if x=="-" then "" else x
def kB(ns r:List Str):Bool:=!decide (("":Str)∈r)&&kindS ns (r.map Jo)
def rY(h:Wd x):Wd (Jo x):=by
 unfold Jo;split
 ·exact⟨by decide,λc a=>by
   have:("":Str).cps.toList=[]:=by decide
   rw[this]at a;cases a⟩
 exact h
def dA:Ap ("-":Str)=true:=by decide +kernel
def nG{S:List (Str×Int)}(e:w0="kind")(h:∀x∈r,Wd x)(H:r.length<=9000)(g:s[q]?=some (.lst<|(w0::r).map D.str))(hd:s[n]?=some (.dk<|O8 S)):
  ∃s',VX [.ref q,.ref f,.ref n] s=some (if kB (S.map (·.1)) r=true then .tup ((r.map Jo).map D.str)else .non,s')/\Gr s s':=by
 have o0:Ap w0=true:=by rw[e];decide +kernel
 have a:=dE (x:="") g (Js o0 λx c=>(h x c).str) T4;have A:decide (("":Str)∈w0::r)=decide (("":Str)∈r):=by rw[decide_eq_decide,Br,e];exact⟨λz=>z.resolve_left (by decide),.inr⟩
 rw[A]at a;unfold kB;cases hm:decide (("":Str)∈r) with
 |true=>
  rw[hm]at a;refine⟨s,IG ?_,Gr.refl _⟩;unfold YR;refine JL<|J5 (s1:=s) (Hw (b:=true) ?_) rfl;show mB Lb (mK<|.str "") (mV 0) [some (.ref q),some (.ref f),some (.ref n),none] s=_;simp only[II,Im,Ii,Ai,Aa,a]
 |false=>
  rw[hm]at a;have E:=Wx (s:=s) (l:=q) (d:=.str w0) (ds:=r.map D.str) g;have Q:=Gr.app s [.lst (r.map D.str)];have w:=IJ s<|.lst<|r.map D.str;generalize W:s++[O.lst (r.map D.str)]=s0 at *;have i:Kt ⟨r.map D.str,[(s.length,r.map D.str)]⟩ (Ho 0) IC V1 (r.map D.str) [none] s0=some (r.map λx=>D.str (Jo x),s0):=by
   refine QA (R:=λρ=>∃u,ρ=[u]) ⟨none,rfl⟩ (QT w) λx c ρ hρ=>?_;obtain⟨u,rfl⟩:=hρ;refine⟨[some (.str x)],rfl,rfl,?_,⟨_,rfl⟩⟩;have j:=eq_str (st:=s0) (h x c).str dA;unfold V1;rw[RB,KL];simp only[II,Im,Ii,Ai,Aa,j];unfold Jo;cases x=="-" <;> rfl
  have m:fits (r.map λx=>D.str (Jo x)).length=true:=Ko (by rw[Af];omega);have em:Jl (Ju<|Ij (mV 0) (IW<|mK<|.int 1)<|Jw) 1 [] (Ho 0) IC V1 [some (.ref q),some (.ref f),some (.ref n),none] s=some (.ref s0.length,s0++[.lst (r.map λx=>D.str (Jo x))]):=by rw[Ji,QL (l:=s.length) (s1:=s0) (by rw[RC];simp only[Im,Ai,Aa,Lc,Lr,Ii,E]) w];simp only[Aa];rw[show Hz [some (.ref q),some (.ref f),some (.ref n),none] 1 []=[none] from rfl,i];simp only[Aa,m,if_true]
  have B:(r.map λx=>D.str (Jo x))=(r.map Jo).map D.str:=by simp
  rw[B]at em;have g1:=Q.trans (Gr.app s0 [.lst ((r.map Jo).map D.str)]);have C:=O6 (IJ s0<|.lst<|(r.map Jo).map D.str);generalize F:s0++[O.lst ((r.map Jo).map D.str)]=s1 at *;have v:=(g1.old _<|qax hd).trans hd;obtain⟨s2,o,g2⟩:=uH (l:=r.map Jo) (λx c=>by obtain⟨y,G,rfl⟩:=P3.mp c;exact rY (h y G)) v
  refine⟨s2,IG ?_,g1.trans g2⟩;unfold YR;generalize D.tup ((r.map Jo).map D.str)=P at *;refine HD (Ky (s1:=s)<|Hw ?_) ?_
  ·show mB Lb (mK<|.str "") (mV 0) [some (.ref q),some (.ref f),some (.ref n),none] s=_;simp only[II,Im,Ii,Ai,Aa,a]
  refine HD (ρ1:=[some (.ref q),some (.ref f),some (.ref n),some P]) (s1:=s1) ?_ ?_
  ·show Hm _ _ [some (.ref q),some (.ref f),some (.ref n),none] s=_;simp only[J9,Je,Iy,em,Iz,Aa,C];rfl
  rw[C2,BE];cases hk:kindS (S.map (·.1)) (r.map Jo) with
  |true=>rw[hk]at o;simp[RB,o]
  |false=>rw[hk]at o;simp[RB,o]
def sC{ks:List D}(h:∀x∈r,Wd x)(e:r.length<=9000)(g:s[q]?=some (.lst<|(w0::r).map D.str))(hf:s[f]?=some (.lst A)):
  ∃s',V8 [.ref q,.ref f,.tup ks] s=some (if(!ks.isEmpty&&(A.isEmpty&&KO r))=true then .tup [.int (v0 r 0),.int (v0 r 1)]else .non,s')/\Gr s s':=by
 obtain⟨s1,E,g1⟩:=XG (ρ:=[some (.ref f),some (.tup ks),none]) h e g;have v:=(g1.old _<|qax hf).trans hf;have w:=M9 v;have o:Hl [.tup ks] s1=some (.int ks.length,s1):=Px;have u:=xA (l:=r) (st:=s1);have n:=eq_int ks.length 0 s1;have W:KO r=true->D.tup (r.map Hs)=.tup [.int (v0 r 0),.int (v0 r 1)]:=λc=>by
  unfold KO at c;split at c
  ·rename_i a b;rw[Ag]at c;show D.tup [Hs a,Hs b]=_;rw[(Nn c.1).2.2.2,(Nn c.2).2.2.2];rfl
  ·cases c
 generalize D.tup (r.map Hs)=P at *;refine⟨s1,IG ?_,g1⟩;unfold jC;refine HD (ρ1:=[some (.ref q),some (.ref f),some (.tup ks),some P]) (s1:=s1) (by
  show Hm _ _ [some (.ref q),some (.ref f),some (.tup ks),none] s=_;rw[J9,E]
  rfl) ?_
 cases ks with
 |nil=>
  have n:Ie (.int 0) (.int 0) s1=some (.bl true,s1):=rfl;have o:Hl [.tup []] s1=some (.int 0,s1):=rfl;exact JL<|J5 (s1:=s1) (L8<|Hw (b:=true)<|by simp[o,n]) rfl
 |cons k ks=>
  rw[show(((k::ks).length:Int)==0)=false from beq_eq_false_iff_ne.mpr (by simp;omega)]at n;generalize D.tup (k::ks)=Q at *;generalize ((k::ks).length:Int)=i at *
  cases A with
  |cons x y=>
   exact JL<|J5 (s1:=s1) (JQ (s1:=s1) (Hw<|by simp[o,n])<|L8<|Hw (b:=true)<|by simp[w]) rfl
  |nil=>
   have t1:mT (mB IV (Hi Hl<|Hc (mV 1)<|mZ)<|mK<|.int 0) [some (.ref q),some (.ref f),some Q,some P] s1=some (false,s1):=Hw (by simp[w]);show _=some (Fl.rt (if KO r=true then _ else .non),s1)
   cases c:KO r with
   |false=>
    rw[c]at u;exact JL<|J5 (s1:=s1) (JQ (s1:=s1) (Hw<|by simp[o,n])<|JQ (s1:=s1) t1<|Ic (b:=false)<|by simp[u]) rfl
   |true=>
    rw[c]at u;rw[if_pos rfl,<-W c];exact HD (Ky (s1:=s1)<|JQ (s1:=s1) (Hw<|by simp[o,n])<|JQ (s1:=s1) t1<|Ic (b:=true)<|by simp[u])<|by simp
def Sw(last:Option Tl)(r:List Str):Bool:=match last with
 |none=>true
 |some t=>!lexLe [v0 r 0,v0 r 1] [t.1,t.2.1]
def tB(w h:Int)(KN:Nat)(last:Option Tl)(r:List Str):Bool:=Pp w h KN r&&Sw last r
def tV(r:List Str):Tl:=(v0 r 0,v0 r 1,v0 r 2)
theorem qE{d:Int}:leB (.tup [.int a,.int b]) (.tup [.int c,.int d]) s=some (.bl (lexLe [a,b] [c,d]),s):=rfl
def zlZ{w:Int}(e:Pp w h KN r=true):D.tup (r.map Hs)=HE (HC<|tV r):=by
 unfold Pp at e;split at e
 ·rename_i a b c;rw[Ag,Ag]at e;show D.tup [Hs a,Hs b,Hs c]=_;rw[(Nn e.1.1).2.2.2,(Nn e.1.2).2.2.2,(Nn e.2).2.2.2];rfl
 ·cases e
def nH{B:D}{w:Int}{ts:List Tl}(c:Qa B w h KN)(e:∀x∈r,Wd x)(g:r.length<=9000)(i:s[q]?=some (.lst<|(w0::r).map D.str))(hf:s[f]?=some (.lst<|ts.map λt=>HE (HC t))):
  ∃s',Wg [.ref q,.ref f,B] s=some (if tB w h KN ts.getLast? r=true then HE (HC<|tV r)else .non,s')/\Gr s s':=by
 obtain⟨s1,Q,g1⟩:=XG (ρ:=[some (.ref f),some B,none]) e g i;have o:=(g1.old _<|qax hf).trans hf;have n:=vI (l:=r) (st:=s1) c;refine⟨s1,IG ?_,g1⟩;unfold kK tB;refine HD (ρ1:=[some (.ref q),some (.ref f),some B,some (.tup<|r.map Hs)]) (s1:=s1) (by
  show Hm _ _ [some (.ref q),some (.ref f),some B,none] s=_;rw[J9,Q]
  rfl) ?_
 cases v:Pp w h KN r with
 |false=>
  rw[v]at n;generalize D.tup (r.map Hs)=P at *;exact JL<|J5 (s1:=s1) (L8<|Ic (b:=false)<|by simp[n]) rfl
 |true=>
  rw[v]at n;rw[zlZ v]at n ⊢;have y:∀(u:Tl) (s:Hf),Nt (HE<|HC u) none (some 2) s=some (.tup [.int u.1,.int u.2.1],s):=λu s=>rfl;have s0:=y<|tV r;have last:JD (Nz<|mV 1) (mT<|mB leB (Ij (mV 3) Jw<|IW<|mK<|.int 2)<|Ij (mB Hr (mV 1)<|Lh<|mK<|.int 1) Jw<|IW<|mK<|.int 2) [some (.ref q),some (.ref f),some B,some (HE<|HC<|tV r)] s1=some (!Sw ts.getLast? r,s1):=by
   have A:Il s1 f=some (ts.map λt=>HE (HC t)):=by unfold Il;rw[o]
   rcases Dj ts with rfl|⟨W,u,rfl⟩
   ·refine Qq ?_;simp[U7,Mw,A]
   ·have j:=W5 (x:=HE (HC u)) o (by simp);have m:=y u;have le:=qE (a:=v0 r 0) (b:=v0 r 1) (c:=u.1) (d:=u.2.1) (s:=s1);have s0:∀s:Hf,Nt (HE<|HC<|tV r) none (some 2) s=some (.tup [.int (v0 r 0),.int (v0 r 1)],s):=s0;rw[show(W.concat u).getLast?=some u by simp];show _=some (!!lexLe [v0 r 0,v0 r 1] [u.1,u.2.1],s1);rw[Fx];generalize lexLe [v0 r 0,v0 r 1] [u.1,u.2.1]=z at *;generalize HE (HC<|tV r)=T at *;refine Qr (s1:=s1) ?_ (Hw ?_)
    ·simp[U7,Mw,A]
    generalize HE (HC u)=U at *;simp[Ny,j,m,s0,le]
  generalize HE (HC<|tV r)=T at *;rw[BE]
  cases E:Sw ts.getLast? r with
  |true=>
   rw[E]at last;exact HD (Ky (s1:=s1)<|JQ (s1:=s1) (Ic (b:=true)<|by simp[n]) last)<|by simp
  |false=>
   rw[E]at last;exact JL<|J5 (s1:=s1) (JQ (s1:=s1) (Ic (b:=true)<|by simp[n]) last) rfl
end
theorem WA:Ku d .non s=some (.bl (Pg d),s):=rfl
variable {r:Nat}
def W3{o:O}(e:Gr st s)(g:Gr s s1)(f:st.length<=r)(h:r<s.length):Gr st (s1.set r o)/\(s1.set r o)[r]?=some o:=⟨⟨by rw[Ci];have:=e.len;have:=g.len;omega,λk hk=>by rw[AE (by omega),g.old k (by have:=e.len;omega)];exact e.old k hk⟩,Ck (by have:=g.len;omega)⟩
structure Jz(s:Hf)(r:Nat)(rss:List (List Str)):Prop where
 ex:∃ads:List Nat,ads.length=rss.length/\s[r]?=some (O.lst (ads.map D.ref))/\∀(k:Nat) (ws:List Str),rss[k]?=some ws->∃a,ads[k]?=some a/\s[a]?=some (O.lst (ws.map D.str))
variable {rss:List (List Str)}
def Jz.gr{s':Hf}(h:Jz s r rss)(g:Gr s s'):Jz s' r rss:=by obtain⟨c,o,l,u⟩:=h.ex;refine⟨c,o,(g.old _<|qax l).trans l,λk ws hk=>?_⟩;obtain⟨a,v,n⟩:=u k ws hk;exact⟨a,v,(g.old _<|qax n).trans n⟩
def Jz.len(h:Jz s r rss):Hl [.ref r] s=some (.int rss.length,s):=by obtain⟨a,c,l,_⟩:=h.ex;rw[M9 l,Af,c]
def Jz.ix{k:Nat}{ws:List Str}(h:Jz s r rss)(hk:rss[k]?=some ws):∃a,Hr (.ref r) (.int k) s=some (.ref a,s)/\s[a]?=some (.lst<|ws.map D.str):=by obtain⟨c,v,l,n⟩:=h.ex;obtain⟨a,o,u⟩:=n k ws hk;exact⟨a,N6 l (by omega) (by rw[Cr,AJ,o];rfl),u⟩
def rowsOf(z:Str):List (List Str):=(Txt.split z "\n").map λx=>Txt.split x " "
structure OJ(rss:List (List Str)):Prop where
 few:rss.length<=8100
 row:∀ws∈rss,ws≠[]/\ws.length<=9000/\∀x∈ws,Wd x
variable {z:Str}
def Yc(h:Ke z 8000):(Txt.split z "\n").length<=8100:=by have:=VS z "\n";have:=h.len;omega
def wB(h:Ke z 8000):OJ (rowsOf z):=by refine⟨by unfold rowsOf;rw[Af];exact Yc h,λws hw=>?_⟩;obtain⟨x,c,rfl⟩:=P3.mp hw;have a:=h.part c;refine⟨Ye _ _,?_,λy l=>(a.part l).up (by decide)⟩;have:=VS x " ";have:=a.len;omega
def wC(h:Ke z 8000):
  ∃r s',Jl (Ju<|MX OW (mV 0)<|Hc (mK<|.str "\n")<|mZ) 1 [] (Ho 0) IC V6 (some (.str z)::ρ) s=some (.ref r,s')/\Jz s' r (rowsOf z)/\Gr s s':=by
 have B:=VH (z:=z) (y:="\n") (s:=s) (by decide) (by have:=h.len;omega);have C:∀x∈Txt.split z "\n",Ke x 8000:=λx o=>h.part o;have F:=Yc h;unfold rowsOf;generalize Txt.split z "\n"=ls at *;have A:=IJ s<|.lst<|ls.map D.str;have G:=Gr.app s [.lst (ls.map D.str)];generalize H:s++[O.lst (ls.map D.str)]=s0 at *;have I:Ju (MX OW (mV 0)<|Hc (mK<|.str "\n")<|mZ) (some (.str z)::ρ) s=some (⟨ls.map D.str,[(s.length,ls.map D.str)]⟩,s0):=QL (by rw[RM];simp only[Im,Ai,Aa,Iy,Ii,Iz,B]) A;obtain⟨xs,ρ',s',e,J,u,l,E,v,n⟩:=Qs (W:=⟨ls.map D.str,[(s.length,ls.map D.str)]⟩) (g:=Ho 0) (c:=IC) (m:=V6) (ds:=ls.map D.str) (acc:=[]) (ρ:=[none]) (st:=s0)
  (Inv:=λk a ρ s=>Gr s0 s/\(∃u,ρ=[u])/\∃l:List Nat,a=l.map D.ref/\l.length=k/\∀(j:Nat) (x:Str),j<k->ls[j]?=some x->∃a,l[j]?=some a/\s[a]?=some (O.lst<|(Txt.split x " ").map D.str))
  ⟨Gr.refl _,⟨none,rfl⟩,[],rfl,rfl,λj ws q=>absurd q (Gb _)⟩
  (λk a ρ s _ Q=>QT ((Q.1.old _<|qax A).trans A))
  (λk d a ρ s hd Q=>by
   obtain⟨g,⟨u,rfl⟩,l,rfl,hlen,n⟩:=Q;rw[AJ]at hd;cases hw:ls[k]? with
   |none=>rw[hw]at hd;cases hd
   |some x=>
    rw[hw]at hd;cases hd;have K:=VH (z:=x) (y:=" ") (s:=s) (by decide) (by have:=(C x<|AK hw).len;omega);refine⟨[some (.str x)],s,true,s,rfl,rfl,.inl ⟨rfl,.ref s.length,s++[.lst ((Txt.split x " ").map D.str)],?_,g.trans<|Gr.app _ _,⟨_,rfl⟩,l++[s.length],by simp,by simp[hlen],λj y q f=>?_⟩⟩
    ·unfold V6;rw[RM];simp only[Im,Ai,Aa,Iy,Ii,Iz,K]
    ·by_cases hjk:j<k
     ·obtain⟨a,i,w⟩:=n j y hjk f;refine⟨a,by rw[AL (by omega)];exact i,((Gr.app s [.lst ((Txt.split x " ").map D.str)]).old _<|qax w).trans w⟩
     ·have:j=k:=by omega
      subst this;rw[hw]at f;cases f;refine⟨s.length,?_,IJ _ _⟩;rw[<-hlen];simp)
 have E:xs=l.map D.ref:=by simpa using E
 subst E;rw[Af]at v;have L:fits (l.map D.ref).length=true:=Ko (by rw[Af];omega);refine⟨s'.length,s'++[.lst (l.map D.ref)],?_,⟨l,by rw[Af];exact v,IJ _ _,λk ws hk=>?_⟩,(G.trans J).trans<|Gr.app _ _⟩
 ·rw[Ji,I];simp only[Aa];rw[show Hz (some (.str z)::ρ) 1 []=[none] from rfl,e];simp only[Aa,L,if_true]
 ·rw[AJ]at hk
  cases o:ls[k]? with
  |none=>rw[o]at hk;cases hk
  |some x=>
   rw[o]at hk;cases hk;obtain⟨a,i,w⟩:=n k x (by have:=qax o;simpa using this) o;exact⟨a,i,((Gr.app s' [.lst (l.map D.ref)]).old _<|qax w).trans w⟩
def HU{α:Type}(word:Str)(b:List α->List Str->Bool)(v:List Str->α):List (List Str)->List α->Bool×List α×List (List Str)
 |(w0::e)::R,acc=>if w0=word then(if b acc e=true then HU word b v R (acc++[v e])else(true,acc,(w0::e)::R))else(false,acc,(w0::e)::R)
 |R,acc=>(false,acc,R)
def LA(f:α->D)(l:Nat)(p:Bool×List α×List (List Str)):D:=if p.1=true then LG ((l+p.2.1.length:Nat):Int)else .tup (p.2.1.map f)
section
variable {T:MT}{L k:MS}{ρ2:HX}{s2:Hf} {r:Option (Fl×Hf)}
def bY(h:T ρ s=some (false,s1))(e:k ρ s1=r):mS (J3 T L<|n+1) k ρ s=r:=by refine HD (s1:=s1) (ρ1:=ρ) ?_ e;show(T ρ s).bind _=_;rw[h];rfl
def nY(h:T ρ s=some (true,s1))(e:L ρ s1=some (.nx ρ2,s2))(f:mS (J3 T L n) k ρ2 s2=r):mS (J3 T L<|n+1) k ρ s=r:=by
 have:J3 T L (n+1) ρ s=J3 T L n ρ2 s2:=by show(T ρ s).bind _=_;rw[h];simp only[Aa,if_true];rw[e];rfl
 rw[<-f];unfold mS;rw[this]
def nZ(h:T ρ s=some (true,s1))(e:L ρ s1=some (.rt d,s2)):mS (J3 T L<|n+1) k ρ s=some (.rt d,s2):=by refine JL ?_;show(T ρ s).bind _=_;rw[h];simp only[Aa,if_true];rw[e];rfl
end
variable {word:Str}
section
variable {f:α->D}{b:List α->List Str->Bool}{v:List Str->α}{G:GN}{known:D}
def Tu(m:Jz st r rss)(ok:OJ rss)(K:Oy x=some G)(L:Ap word=true)(hl:l<=rss.length)(M:∀(acc:List α) (i:List Str) (s:Hf) (q:Nat),(word::i)∈rss->Gr st s->s[q]?=some (.lst<|(word::i).map D.str)->s[st.length]?=some (.lst<|acc.map f)->∃s',G [.ref q,.ref st.length,known] s=some (if b acc i=true then f (v i)else .non,s')/\Gr s s')(hf:∀a,Pg (f a)=false):∃st',QM [.ref r,.int l,.str word,.fn x,known] st=some (LA f l (HU word b v (rss.drop l) []),st')/\Gr st st':=by
 have key:∀(R X:List (List Str)) (acc:List α) (n:Nat) (s:Hf) (v6:Option D),rss=X++R->X.length=l+acc.length->R.length<n->Gr st s->s[st.length]?=some (.lst<|acc.map f) ->
   ∃s',mS (J3 Ub Wa n) (mR<|Hi LR<|Hc (mV 5)<|mZ) [some (.ref r),some (.int (X.length:Int)),some (.str word),some (.fn x),some known,some (.ref st.length),v6] s=some (.rt (LA f l<|HU word b v R acc),s')/\Gr st s':=by
  intro R
  induction R with
  |nil=>
   intro X acc n s v6 c y B g u;obtain⟨n,rfl⟩:∃j,n=j+1:=⟨n-1,by omega⟩
   have R1:=m.gr g;have z:=R1.len;have w:=O6 u;refine⟨s,bY (s1:=s) ?_ ?_,g⟩
   ·unfold Ub;refine Qq<|Hw ?_;have:rss.length=X.length:=by rw[c];simp
    simp[z];omega
   show _=some (Fl.rt (.tup<|acc.map f),s);simp[w]
  |cons ws R N=>
   intro X acc n s v6 c y B g u;obtain⟨n,rfl⟩:∃j,n=j+1:=⟨n-1,by omega⟩
   have R1:=m.gr g;have z:=R1.len;have h:ws∈rss:=by rw[c];simp
   obtain⟨E,_,S⟩:=ok.row ws h;obtain⟨w0,i,rfl⟩:∃w0 i,ws=w0::i:=by
    cases ws with
    |nil=>exact absurd rfl E
    |cons a b=>exact⟨a,b,rfl⟩
   have hk:rss[X.length]?=some (w0::i):=by rw[c];simp
   obtain⟨q,C,F⟩:=R1.ix hk;have T:Hr (.ref q) (.int 0) s=some (.str w0,s):=N6 F (by decide) rfl;have U:=eq_str (st:=s) (S w0<|by simp).str L;have Y:(X.length:Int)<(rss.length:Int):=by have:=qax hk;omega
   have w:Ub [some (.ref r),some (.int (X.length:Int)),some (.str word),some (.fn x),some known,some (.ref st.length),v6] s=some (w0==word,s):=by
    unfold Ub;refine Qr (s1:=s) (Hw ?_)<|Hw ?_
    ·simp[z,Y]
    simp only[II,Im,Ii,Ai,AD,Aa,C,T,U]
   by_cases hw:w0=word
   ·subst hw;rw[beq_self_eq_true]at w;obtain⟨s1,Z,g1⟩:=M acc i s q h g F u;have a1:Hm (Vf Oy (mV 3)<|Hc (mB Hr (mV 0)<|mV 1)<|Hc (mV 5)<|Hc (mV 4)<|mZ) (Ho 6) [some (.ref r),some (.int (X.length:Int)),some (.str w0),some (.fn x),some known,some (.ref st.length),v6] s=some (.nx [some (.ref r),some (.int (X.length:Int)),some (.str w0),some (.fn x),some known,some (.ref st.length),some (if b acc i=true then f (v i)else .non)],s1):=by
     rw[J9,xN];simp only[Im,Iy,Iz,II,Ai,AD,Aa,C,K,Z];rfl
    show ∃s',_=some (Fl.rt (LA f l<|if w0=w0 then _ else _),s')/\_;rw[if_pos rfl]
    cases H:b acc i with
    |false=>
     rw[H]at a1;refine⟨s1,nZ w ?_,g.trans g1⟩;unfold Wa;refine HD a1<|JL<|J5 (s1:=s1) (Hw (b:=true)<|by simp[WA,Pg]) ?_;show OU LG (mV 1) _ s1=some (Fl.rt (LG ((l+acc.length:Nat):Int)),s1);rw[<-y];rfl
    |true=>
     rw[H]at a1;have A:s1[st.length]?=some (.lst<|acc.map f):=(g1.old _<|qax u).trans u;have I:=append_at (x:=f (v i)) A (by
      rw[Af];have:=ok.few;have:rss.length=X.length+(R.length+1):=by rw[c];simp
      omega)
     obtain⟨g2,J⟩:=W3 (o:=O.lst (acc.map f++[f (v i)])) g g1 (Ah _)<|qax u;have em:acc.map f++[f (v i)]=(acc++[v i]).map f:=by simp
     rw[em]at I g2 J;obtain⟨s',e',Q⟩:=N (X++[w0::i]) (acc++[v i]) n (s1.set st.length<|.lst<|(acc++[v i]).map f) (some<|f<|v i) (by rw[c];simp) (by simp;omega) (by simp at B;omega) g2 J;refine⟨s',nY w ?_ e',Q⟩;unfold Wa;refine HD a1<|HD (Ky (s1:=s1)<|Hw (b:=false)<|by simp[WA,hf]) ?_;refine HD (ρ1:=[some (.ref r),some (.int (X.length:Int)),some (.str w0),some (.fn x),some known,some (.ref st.length),some (f<|v i)]) (s1:=s1.set st.length (.lst<|(acc++[v i]).map f)) ?_ ?_
     ·have z:Il s1 st.length=some (acc.map f):=by unfold Il;rw[A]
      rw[M0,MZ];simp only[Im,Iy,Iz,Ai,AD,Aa,z,if_true,I,Aj]
     rw[cW (a:=(X.length:Int)) (b:=1) (s1:=s1.set st.length (.lst<|(acc++[v i]).map f)) rfl rfl];have:(X.length:Int)+1=((X++[w0::i]).length:Int):=by simp
     rw[this];rfl
   rw[beq_eq_false_iff_ne.mpr hw]at w;have W:=O6 u;refine⟨s,bY (s1:=s) w ?_,g⟩;show _=some (Fl.rt (LA f l<|if w0=word then _ else _),s);rw[if_neg hw];show _=some (Fl.rt (.tup<|acc.map f),s);simp[W]
 have c:rss=rss.take l++rss.drop l:=(List.take_append_drop _ _).symm;have y:(rss.take l).length=l:=by rw[AN];omega
 obtain⟨s',e,Q⟩:=key (rss.drop l) (rss.take l) [] 9000 (st++[.lst []]) none c (by simpa using y) (by have:=ok.few;rw[BQ];omega) (Gr.app _ _)<|IJ _ _;rw[y]at e;refine⟨s',IG ?_,Q⟩;unfold iE;refine HD (ρ1:=[some (.ref r),some (.int (l:Int)),some (.str word),some (.fn x),some known,some (.ref st.length),none]) (s1:=st++[.lst []]) ?_ e;show Hm _ _ [some (.ref r),some (.int (l:Int)),some (.str word),some (.fn x),some known,none,none] st=_;simp
def VP(R:List (List Str)):∀(acc:List α),∃M,R=M++(HU word b v R acc).2.2/\(HU word b v R acc).2.1.length=acc.length+M.length:=by
 induction R with
 |nil=>intro acc;exact⟨[],rfl,rfl⟩
 |cons ws R c=>
  intro acc;cases ws with
  |nil=>exact⟨[],rfl,rfl⟩
  |cons w0 a=>
   unfold HU;split
   ·split
    ·obtain⟨M,f,h⟩:=c<|acc++[v a];exact⟨(w0::a)::M,by rw[Df,<-f],by rw[h];simp;omega⟩
    exact⟨[],rfl,rfl⟩
   exact⟨[],rfl,rfl⟩
end
noncomputable abbrev Rows:=List (List Str)
def pT(w h:Int)(n:Nat)(R:Rows):Bool×List Tl×Rows:=HU "tile" (λacc=>tB w h n acc.getLast?) tV R []
def pK(ns:List Str)(R:Rows):Bool×List (List Str)×Rows:=HU "kind" (λ_=>kB ns) (λr=>r.map Jo) R []
def pS(R:Rows):Bool×List (Str×Int)×Rows:=HU "stick" (λacc=>sB (acc.getLast?.map (·.1))) sV R []
def L7(e:Jt)(w h:Int)(l:Nat)(R:Rows):Nat⊕Iw:=if((pT w h e.kinds.length R).1 || !(pT w h e.kinds.length R).2.2.isEmpty)=true then .inl (l+(pT w h e.kinds.length R).2.1.length)else .inr ⟨e,w,h,(pT w h e.kinds.length R).2.1⟩
def LC(f:Jt)(l:Nat):Rows->Nat⊕Iw
 |(w0::e)::R=>if w0="floor"/\(!f.kinds.isEmpty&&KO e)=true then L7 f (v0 e 0) (v0 e 1) (l+1) R else .inl l
 |_=>.inl l
def Nw(e:Int)(S:List (Str×Int))(l:Nat)(R:Rows):Nat⊕Iw:=if(pK (S.map (·.1)) R).1=true then .inl (l+(pK (S.map (·.1)) R).2.1.length)else LC ⟨e,S,(pK (S.map (·.1)) R).2.1⟩ (l+(pK (S.map (·.1)) R).2.1.length) (pK (S.map (·.1)) R).2.2
def Nv(e:Int)(R:Rows):Nat⊕Iw:=if(pS R).1=true then .inl (1+(pS R).2.1.length)else Nw e (pS R).2.1 (1+(pS R).2.1.length) (pS R).2.2
def parse:Rows->Nat⊕Iw
 |(w0::e)::R=>if w0="enough"/\eB e=true then Nv (v0 e 0) R else .inl 0
 |_=>.inl 0
variable {rr:List Str}
section
variable {b:List α->List Str->Bool}{v:List Str->α}{R:Rows}{acc:List α}
def O1(h:w0≠word):HU word b v ((w0::rr)::R) acc=(false,acc,(w0::rr)::R):=by unfold HU;exact if_neg h
def RQ(h:b acc rr=false):HU word b v ((word::rr)::R) acc=(true,acc,(word::rr)::R):=by unfold HU;rw[if_pos rfl,if_neg (by rw[h];decide)]
def RP(h:b acc rr=true):HU word b v ((word::rr)::R) acc=HU word b v R (acc++[v rr]):=by
 conv=>lhs;unfold HU
 rw[if_pos rfl,if_pos h]
end
inductive One {α:Type} (word:Str) (v:List Str->α) (B:List Str->Bool) (R:Rows):Bool×List α×Rows->Prop
 |no (h:∀rr R',R=(word::rr)::R'->B rr=false) (x:Bool) (rest:Rows):One word v B R (x,[],rest)
 |more (rr r2:List Str) (R':Rows) (h:R=(word::rr)::(word::r2)::R') (hb:B rr=true) (rest:Rows):One word v B R (true,[v rr],rest)
 |one (rr:List Str) (R':Rows) (h:R=(word::rr)::R') (hb:B rr=true):One word v B R (false,[v rr],R')
def U8{v:List Str->α}{B:List Str->Bool}(R:Rows):One word v B R (HU word (λacc rr=>acc.isEmpty&&B rr) v R []):=by
 match R with
 |[]=>exact .no (λ_ _ h=>by cases h) _ _
 |[]::R=>exact .no (λ_ _ h=>by cases h) _ _
 |(w0::rr)::R=>
  by_cases hw:w0=word
  ·subst hw
   cases a:B rr with
   |false=>
    rw[RQ (by simp[a])];exact .no (λr c h=>by cases h;exact a) _ _
   |true=>
    rw[RP (by simp[a])]
    match R with
    |[]=>exact .one rr _ rfl a
    |[]::R=>exact .one rr _ rfl a
    |(l::n)::R=>
     by_cases h1:l=w0
     ·subst h1;rw[RQ (by simp)];exact .more rr n R rfl a _
     rw[O1 h1];exact .one rr _ rfl a
  rw[O1 hw];exact .no (λr c h=>by cases h;exact absurd rfl hw) _ _
def Yu{R:Rows}(h:∀rr e,R=(("enough":Str)::rr)::e->eB rr=false):parse R=.inl 0:=by
 unfold parse;split
 ·rename_i w0 rr e;refine if_neg λz=>?_;obtain⟨rfl,a⟩:=z;rw[h rr e rfl]at a;cases a
 rfl
variable {ho:Jt}
def Vr{R:Rows}(h:∀rr e,R=(("floor":Str)::rr)::e->(!ho.kinds.isEmpty&&KO rr)=false):LC ho l R=.inl l:=by
 unfold LC;split
 ·rename_i w0 rr e;refine if_neg λz=>?_;obtain⟨rfl,a⟩:=z;rw[h rr e rfl]at a;cases a
 rfl
def fA{R:Rows}(e:(!ho.kinds.isEmpty&&KO rr)=true):LC ho l ((("floor":Str)::rr)::R)=L7 ho (v0 rr 0) (v0 rr 1) (l+1) R:=if_pos ⟨rfl,e⟩
variable {w:Str}
def oC{r:List Str}{R:Rows}(h:w≠"stick"):pS ((w::r)::R)=(false,[],(w::r)::R):=O1 h
def oA{ns:List Str}{r:List Str}{R:Rows}(h:w≠"kind"):pK ns ((w::r)::R)=(false,[],(w::r)::R):=O1 h
def oG{r:List Str}{R:Rows}(h:w≠"tile"):pT a b n ((w::r)::R)=(false,[],(w::r)::R):=O1 h
variable {r2:List Str}
def zke{R:Rows}(e:eB rr=true):parse ((("enough":Str)::rr)::(("enough":Str)::r2)::R)=.inl 1:=by show(if _ then _ else _)=_;rw[if_pos ⟨rfl,e⟩];unfold Nv;rw[oC (by decide)];simp only[AG,if_false];unfold Nw;rw[oA (by decide)];simp only[AG,if_false];exact(Vr λa b h=>absurd (AM (AM h).1).1 (by decide)).trans rfl
def zmu{w:Int}{R:Rows}:L7 ho w h l ((("floor":Str)::r2)::R)=.inl l:=by unfold L7;rw[oG (by decide)];rfl
def LZ:Nat⊕Iw->D
 |.inl n=>LG ((n:Nat):Int)
 |.inr b=>b.d
def Ex(r:Option (Fl×Hf))(d:D)(s:Hf):Prop:=∃a,r=some (.rt d,a)/\Gr s a
section
variable {g:GN}{mm:MA}{m:ME}{t:MT}{A B:MS}{i:Nat}{r:D}{f:α->D}{p:Bool×List α×Rows}
def W2(h:m ρ s=some (d,s1))(j:Gr s s1)(k:Ex (B (ρ.set i<|some d) s1) r s1):Ex (mS (Hm m<|Ho i) B ρ s) r s:=by obtain⟨a,e,c⟩:=k;exact⟨a,HD (by rw[J9,h];rfl) e,j.trans c⟩
def Vi(h:ρ[i]?=some (some<|.int a))(e:m ρ s=some (.int b,s))(j:a+b=c)(k:Ex (B (ρ.set i<|some<|.int c) s) r s):Ex (mS (Lj i m) B ρ s) r s:=by obtain⟨f,g,l⟩:=k;exact⟨f,HD (by rw[cW h e,j]) g,l⟩
def U4(h:t ρ s=some (false,s))(k:Ex (B ρ s) r s):Ex (mS (Ih t A<|IH) B ρ s) r s:=by obtain⟨a,e,c⟩:=k;exact⟨a,HD (Ky h) e,c⟩
def Yp(h:t ρ s=some (true,s))(e:m ρ s=some (.int a,s))(k:r=LG a):Ex (mS (Ih t (OU LG m)<|IH) B ρ s) r s:=by subst k;refine⟨s,JL<|J5 h ?_,Gr.refl _⟩;unfold OU;rw[e];rfl
def SQ(em:mm ρ s=some (ds,s1))(j:Gr s s1)(h:∃s2,g ds s1=some (LA f l p,s2)/\Gr s1 s2)(q:p.1=true->r=LG ((l+p.2.1.length:Nat):Int))(C:p.1=false->∀s2,Gr s1 s2->Ex (B (ρ.set i<|some<|.tup<|p.2.1.map f) s2) r s2):Ex (mS (Pk g mm i) B ρ s) r s:=by
 obtain⟨s2,e,g2⟩:=h;unfold LA at e;cases a:p.1 with
 |true=>
  rw[if_pos a,<-q a]at e;refine⟨s2,JL ?_,j.trans g2⟩;unfold Pk;rw[em,q a]at *;simp only[Aa,e];rfl
 |false=>
  rw[if_neg (by rw[a];decide)]at e;obtain⟨s3,c,g3⟩:=C a s2 g2;refine⟨s3,HD ?_ c,(j.trans g2).trans g3⟩;unfold Pk;rw[em];simp only[Aa,e]
def UJ{a k:ME}{y:D}{n:Int}{R:Nat}(e:a ρ s=some (.int n,s))(hk:k ρ s=some (y,s1))(j:ρ[1]?=some (some<|.ref R)):Hc (mV 1) (Hc a<|Hc (mK<|.str w)<|Hc (mK<|.fn x)<|Hc k<|mZ) ρ s=some ([.ref R,.int n,.str w,.fn x,y],s1):=by simp[j,e,hk]
end
def Xn:∀x∈(["enough","stick","kind","floor","tile"]:List Str),Ap x=true:=by decide +kernel
def VM{rss M R X:List α}(h:rss.drop l=M++R)(e:n=M.length)(f:l<=rss.length):rss.drop (l+n)=R/\l+n<=rss.length:=by subst e;have:=congrArg DG h;rw[BQ,AF]at this;refine⟨?_,by omega⟩;rw[<-List.drop_drop,h,List.drop_left]
def XR{f:α->D}{as:List α}:Hl [.tup (as.map f)] s=some (.int as.length,s):=by rw[Px,Af]
def vW(h:Ke z 8000):∃st',R9 [.str z] st=some (LZ (parse (rowsOf z)),st')/\Gr st st':=by
 suffices q:Ex (VZ [some (.str z),none,none,none,none,none,none,none,none] st) (LZ (parse (rowsOf z))) st by
  obtain⟨Q,e,g⟩:=q;exact⟨Q,IG e,g⟩
 obtain⟨r,s1,c1,R1,g1⟩:=wC (ρ:=[none,none,none,none,none,none,none,none]) (s:=st) h;have ok:=wB h;generalize rowsOf z=rss at *;have W:∀{w:Str}{rr:List Str},(w::rr)∈rss->(∀x∈rr,Wd x)/\rr.length<=9000:=λ{w rr} hm=>by obtain⟨_,a,b⟩:=ok.row _ hm;exact⟨λx hx=>b x (Ak _ hx),by simp at a;omega⟩
 have lit:=Xn;have q1:∀s:Hf,Ie (.int 1) (.int 0) s=some (.bl false,s):=λs=>rfl;unfold VZ;refine U4 (Ic (b:=true) (by simp[RN,RG])) (W2 c1 g1 ?_);have e2:=Tu (f:=D.int) (b:=λacc rr=>acc.isEmpty&&eB rr) (v:=λrr=>v0 rr 0) (word:="enough") (x:="read_enough") (known:=.non) (l:=0) R1 ok rfl (lit _ (by simp)) (Bo _) (λacc rr s q hm g i G=>by have:=vY (W hm).1 (W hm).2 i G;rw[D9]at this;exact this) (λa=>rfl)
 rw[DF]at e2;have o2:=U8 (word:="enough") (v:=λrr=>v0 rr 0) (B:=eB) rss;generalize HU "enough" (λacc rr=>acc.isEmpty&&eB rr) (λrr=>v0 rr 0) rss []=p at e2 o2;refine SQ (UJ rfl rfl rfl) (Gr.refl _) e2 (λu=>?_) λu s2 g2=>?_
 ·cases o2 with
  |no y=>rw[Yu y];rfl
  |more rr r2 H A I=>rw[A,zke I];rfl
  |one=>cases u
 cases o2 with
 |more=>cases u
 |no y=>exact Yp (Hw (b:=true) rfl) rfl (by rw[Yu y];rfl)
 |one rr H A I=>
  rw[show parse rss=Nv (v0 rr 0) H by rw[A];exact if_pos ⟨rfl,I⟩];have d1:rss.drop 1=H:=by rw[A];rfl
  have l1:1<=rss.length:=by rw[A];simp
  have R2:=R1.gr g2;show Ex (mS _ _ [some (.str z),some (.ref r),some (.tup [.int (v0 rr 0)]),none,none,none,none,none,none] s2) _ _;generalize v0 rr 0=e;have i2:∀s:Hf,Hr (.tup [.int e]) (.int 0) s=some (.int e,s):=λs=>Kk (by decide) rfl;have le:∀s:Hf,Hl [.tup [.int e]] s=some (.int 1,s):=λs=>rfl;generalize D.tup [.int e]=E at *;refine U4 (Hw (by simp[le,q1])) (W2 rfl (Gr.refl _) ?_)
  have e3:=Tu (f:=Jb) (b:=λacc=>sB (acc.getLast?.map (·.1))) (v:=sV) (word:="stick") (x:="read_stick") (known:=.non) (l:=1) R2 ok rfl (lit _ (by simp)) l1 (λacc rr s q hm g i G=>sE (W hm).1 i G) (λa=>rfl);obtain⟨M,eM,lM⟩:=VP (word:="stick") (b:=λacc=>sB (acc.getLast?.map (·.1))) (v:=sV) H [];rw[d1]at e3;unfold Nv
  change _=M++(pS H).2.2 at eM;change (pS H).2.1.length=_ at lM;change ∃Q,_=some (LA Jb 1 (pS H),Q)/\_ at e3;generalize pS H=p at *;refine SQ (UJ rfl rfl rfl) (Gr.refl _) e3 (λu=>by rw[if_pos u];rfl) λu s3 g3=>?_;rw[if_neg (by rw[u];decide)];obtain⟨_,S,J⟩:=p;have lM:S.length=M.length:=by simpa using lM
  obtain⟨d2,l2⟩:=VM (X:=[]) (d1.trans eM) lM l1;have few:=ok.few;have l4:Hl [.tup (S.map Jb)] s3=some (.int S.length,s3):=XR;have ed:=uL (stk:=S) (st:=s3) (by omega);have ad:=IJ s3 (.dk (O8 S));have L:=Gr.app s3 [.dk (O8 S)];generalize hs3:s3++[O.dk (O8 S)]=s4 at *;have R4:=(R2.gr g3).gr L
  have e4:=Tu (f:=JB) (b:=λ_=>kB (S.map (·.1))) (v:=λr=>r.map Jo) (word:="kind") (x:="read_kind") (known:=.ref s3.length) (l:=1+S.length) R4 ok rfl (lit _ (by simp)) l2 (λacc rr s q hm g i G=>nG rfl (W hm).1 (W hm).2 i ((g.old _ (qax ad)).trans ad)) (λa=>rfl);obtain⟨M2,N,j⟩:=VP (word:="kind") (b:=λ_=>kB (S.map (·.1))) (v:=λr=>r.map Jo) J [];rw[d2]at e4;show Ex (mS _ _ [some (.str z),some (.ref r),some E,some (.int 1),some (.tup (S.map Jb)),none,none,none,none] s3) (LZ (Nw e S (1+S.length) J)) _;unfold Nw
  change _=M2++(pK (S.map (·.1)) J).2.2 at N;change (pK (S.map (·.1)) J).2.1.length=_ at j;change ∃Q,_=some (LA JB (1+S.length) (pK (S.map (·.1)) J),Q)/\_ at e4;generalize pK (S.map (·.1)) J=p at *;generalize hSS:D.tup (S.map Jb)=SS at *;generalize hL1:((1+S.length:Nat):Int)=L1 at *;refine Vi (c:=L1) rfl (b:=S.length) (by simp[l4]) (by omega) (SQ (UJ rfl (by simp[ed]) rfl) L e4 (λu=>by rw[if_pos u];rfl) λu s5 g5=>?_);rw[if_neg (by rw[u];decide)];obtain⟨_,K,RF⟩:=p;have j:K.length=M2.length:=by simpa using j
  obtain⟨d3,l3⟩:=VM (X:=[]) (d2.trans N) j l2;have l5:Hl [.tup (K.map JB)] s5=some (.int K.length,s5):=XR;have R5:=R4.gr g5;have e5:=Tu (f:=λp:Int×Int=>.tup [.int p.1,.int p.2]) (b:=λacc rr=>acc.isEmpty&&(!K.isEmpty&&KO rr)) (v:=λrr=>(v0 rr 0,v0 rr 1)) (word:="floor") (x:="read_floor") (known:=.tup (K.map JB)) (l:=1+S.length+K.length) R5 ok rfl (lit _ (by simp)) l3 (λacc rr s q hm g i G=>by obtain⟨Q,e',g'⟩:=sC (ks:=K.map JB) (W hm).1 (W hm).2 i G;rw[D9,D9]at e';rw[Bool.and_left_comm];exact⟨Q,e',g'⟩) (λa=>rfl)
  rw[d3]at e5;have o5:=U8 (word:="floor") (v:=λrr=>(v0 rr 0,v0 rr 1)) (B:=λrr=>!K.isEmpty&&KO rr) RF;generalize HU "floor" (λacc rr=>acc.isEmpty&&(!K.isEmpty&&KO rr)) (λrr=>(v0 rr 0,v0 rr 1)) RF []=p at e5 o5;show Ex (mS _ _ [some (.str z),some (.ref r),some E,some (.int L1),some SS,some (.tup (K.map JB)),none,none,none] s5) (LZ (LC ⟨e,S,K⟩ (1+S.length+K.length) RF)) _;generalize U:D.tup (K.map JB)=KK at *;generalize hL2:((1+S.length+K.length:Nat):Int)=L2 at *;refine Vi (c:=L2) rfl (b:=K.length) (by simp[l5]) (by omega) (SQ (UJ rfl rfl rfl) (Gr.refl _) e5 (λu=>?_) λu s6 g6=>?_)
  ·cases o5 with
   |no y=>rw[Vr y];rfl
   |more rr r2 R2' A I=>
    rw[A,fA I,zmu];rfl
   |one=>cases u
  cases o5 with
  |more=>cases u
  |no y=>exact Yp (Hw (b:=true) rfl) rfl (by rw[Vr y,<-hL2];rfl)
  |one rr m A I=>
   rw[A,fA I];obtain⟨d4,Y⟩:=VM (X:=[]) (M:=[("floor":Str)::rr]) (n:=1) (d3.trans A) rfl l3;show Ex (mS _ _ [some (.str z),some (.ref r),some E,some (.int L2),some SS,some KK,some (.tup [.tup [.int (v0 rr 0),.int (v0 rr 1)]]),none,none] s6) _ _;generalize v0 rr 0=w;generalize v0 rr 1=o;have R6:=R5.gr g6;have cB:Qa (.tup [.tup [.int e,SS,KK],.tup [.int w,.int o],.tup []]) w o K.length:=⟨λs=>Kk (by decide) rfl,.tup [.int e,SS,KK],K.map JB,λs=>Kk (by decide) rfl,λs=>by rw[U];exact Kk (by decide) rfl,by simp⟩
   have e6:=Tu (f:=λt=>HE (HC t)) (b:=λacc=>tB w o K.length acc.getLast?) (v:=tV) (word:="tile") (x:="read_seed_tile") (known:=.tup [.tup [.int e,SS,KK],.tup [.int w,.int o],.tup []]) (l:=1+S.length+K.length+1) R6 ok rfl (lit _ (by simp)) Y (λacc rr s q hm g i G=>nH cB (W hm).1 (W hm).2 i G) (λa=>rfl);obtain⟨M3,Z,C⟩:=VP (word:="tile") (b:=λacc=>tB w o K.length acc.getLast?) (v:=tV) m [];rw[d4]at e6;have hd:∀T,Iw.d ⟨⟨e,S,K⟩,w,o,T⟩=.tup [.tup [.int e,SS,KK],.tup [.int w,.int o],.tup (T.map λt=>HE (HC t))]:=λT=>by rw[<-hSS,<-U];rfl
   have i6:∀s:Hf,Hr (.tup [.tup [.int w,.int o]]) (.int 0) s=some (.tup [.int w,.int o],s):=λs=>Kk (by decide) rfl;have l6:∀s:Hf,Hl [.tup [.tup [.int w,.int o]]] s=some (.int 1,s):=λs=>rfl;unfold L7
   change _=M3++(pT w o K.length m).2.2 at Z;change (pT w o K.length m).2.1.length=_ at C;change ∃Q,_=some (LA (λt=>HE (HC t)) (1+S.length+K.length+1) (pT w o K.length m),Q)/\_ at e6;show Ex _ (LZ (if((pT w o K.length m).1 || !(pT w o K.length m).2.2.isEmpty)=true then .inl (1+S.length+K.length+1+(pT w o K.length m).2.1.length)else .inr ⟨⟨e,S,K⟩,w,o,(pT w o K.length m).2.1⟩)) _;generalize pT w o K.length m=p at *;generalize D.tup [.int w,.int o]=F0 at *;generalize D.tup [F0]=F at *;generalize hL3:((1+S.length+K.length+1:Nat):Int)=L3 at *;refine U4 (Hw (by simp[l6,q1])) (Vi (c:=L3) rfl (b:=1) rfl (by omega) (W2 (d:=.tup [.int e,SS,KK]) (by simp[i2]) (Gr.refl _) (SQ (UJ rfl (by simp[i6]) rfl) (Gr.refl _) e6 (λu=>by rw[u,D2,if_pos rfl];rfl) λu s7 g7=>?_)));obtain⟨_,T,RE⟩:=p;cases u;have C:T.length=M3.length:=by simpa using C
   obtain⟨d5,l5'⟩:=VM (X:=[]) (d4.trans Z) C Y;have lT:Hl [.tup (T.map λt=>HE (HC t))] s7=some (.int T.length,s7):=XR;have lr:=(R6.gr g7).len;have ll:=congrArg DG d5;rw[BQ]at ll;show Ex (mS _ _ [some (.str z),some (.ref r),some E,some (.int L3),some SS,some KK,some F,some (.tup [.int e,SS,KK]),some (.tup (T.map λt=>HE (HC t)))] s7) (LZ (if(false || !RE.isEmpty)=true then .inl (1+S.length+K.length+1+T.length)else .inr ⟨⟨e,S,K⟩,w,o,T⟩)) _;rw[Gn];have hd:=hd T;generalize D.tup (T.map λt=>HE (HC t))=TT at *;refine Vi (c:=((1+S.length+K.length+1+T.length:Nat):Int)) rfl (b:=T.length) (by simp[lT]) (by omega) ?_;generalize hL4:((1+S.length+K.length+1+T.length:Nat):Int)=L4 at *
   cases RE with
   |nil=>
    have d0:decide (L4<(rss.length:Int))=false:=decide_eq_false (by simp at ll;omega);refine U4 (Hw (by simp[lr,d0])) ⟨s7,?_,Gr.refl _⟩;show _=some (Fl.rt (Iw.d ⟨⟨e,S,K⟩,w,o,T⟩),s7);rw[hd];simp[i6]
   |cons a b=>
    have d0:decide (L4<(rss.length:Int))=true:=decide_eq_true (by simp at ll;omega);exact Yp (Hw (by simp[lr,d0])) rfl (by rw[<-hL4];rfl)
end L2.MP.T0
namespace L2.MP.T0
open PySem L2.MP L2.MP.Hn
open L2.MP.Ce (J5 Ky Hw Ic L8 JQ Kd Jx LM Qz TM)
variable {w:Str}
def yZ{Z:Str}(h:Ap w=true)(hw:Wd w):Ap (Txt.stripChars w Z)=true:=VI λc l=>hw.ok c (by
  unfold Txt.stripChars Txt.stripBy at l;split at l
  ·exact l
  unfold stripped at l;have l:c∈(w.cps.extract _ _).toList:=l;rw[EU]at l;exact Dx (Bc l))
variable {z:Str}{st:Hf}
def zW(h:Wd z):Wr [.str z] st=some (.bl (K5 z),st):=by
 have l:=len_str (z:=z) (st:=st) (by have:=h.len;omega);have o:IY "str" (mV 0) [some (.str z)] st=some (.bl true,st):=by simp[RN,RG]
 have u:fits z.length=true:=Ko (by have:=h.len;omega);have v:mB Ie (MX Oq (mV 0)<|Hc (mK<|.str "abcdefghijklmnopqrstuvwxyz")<|mZ) (mK<|.str "") [some (.str z)] st=some (.bl (z.cps.toList.all λc=>decide (c∈Mh.cps.toList)),st):=by
  have w:Oq (.str z) [.str Mh] st=some (.str (Txt.stripChars z Mh),st):=by unfold Oq;simp only[u,if_true]
  have s:=eq_str (st:=st) (yZ (Z:=Mh) h.str h) T4;have x:=iM (Z:=Mh) (p:=λc=>decide (c∈Mh.cps.toList)) (funext λc=>by rw[<-EN];exact List.contains_eq_mem c _) z;have y:(Txt.stripChars z Mh=="")=z.cps.toList.all (λc=>decide (c∈Mh.cps.toList)):=by rw[<-Fx (z.cps.toList.all _),<-x];show _=!!(_==_);rw[Fx]
  rw[y]at s;show mB Ie (MX Oq (mV 0)<|Hc (mK<|.str Mh)<|mZ) (mK<|.str "") [some (.str z)] st=_;generalize z.cps.toList.all (λc=>decide (c∈Mh.cps.toList))=B at *;simp only[II,RM,Im,Ii,Ai,Aa,Iy,Iz,w,s]
 refine IG ?_;unfold kC K5;generalize z.cps.toList.all (λc=>decide (c∈Mh.cps.toList))=B at *;by_cases h1:1<=z.length
 ·have A:(0:Int)<(z.length:Int):=by omega
  rw[decide_eq_true h1,BE];by_cases h2:z.length<=8
  ·have r:(z.length:Int)<9:=by omega
   rw[decide_eq_true h2,BE];exact LM<|Jx o<|Jx (s1:=st) (by show Jm _ _ _ _ _ [some (.str z)] st=_;simp[Jm,l,r];omega) v
  ·have r:¬(z.length:Int)<9:=by omega
   rw[decide_eq_false h2,Cs];exact LM<|Jx o<|Kd (by show Jm _ _ _ _ _ [some (.str z)] st=_;simp[Jm,l,r])
 ·have A:¬(0:Int)<(z.length:Int):=by omega
  rw[decide_eq_false h1,Cs];exact LM<|Jx o<|Kd (by show Jm _ _ _ _ _ [some (.str z)] st=_;simp[Jm,l];omega)
variable {m1 m2 m3:ME}{ρ:HX}{s s1 s2 s3:Hf}
def Ym{a b c:Int}{s3:Hf}(f:m1 ρ s=some (.int a,s1))(g:m2 ρ s1=some (.int b,s2))(e:m3 ρ s2=some (.int c,s2)):Jm HV HV m1 m2 m3 ρ s=some (.bl (decide (a<=b)&&decide (b<=c)),s2):=by
 unfold Jm;simp only[f,g,e,Aa,HV,HG];cases decide (a<=b)
 ·rfl
 simp[e,HV,HG]
def Yn{a b c:Int}{s3:Hf}(f:m1 ρ s=some (.int a,s1))(g:m2 ρ s1=some (.int b,s2))(e:m3 ρ s2=some (.int c,s2)):Jm HV Ik m1 m2 m3 ρ s=some (.bl (decide (a<=b)&&decide (b<c)),s2):=by
 unfold Jm;simp only[f,g,e,Aa,HV,Ik,HG];cases decide (a<=b)
 ·rfl
 simp[e,HV,Ik,HG]
variable {ss:List Str}
def eq_nil{f g:Nat}{ss:List Str}(hf:st[f]?=some (.lst<|ss.map D.str))(a:st[g]?=some (.lst []))(h:∀x∈ss,Ap x=true):Ie (.ref f) (.ref g) st=some (.bl ss.isEmpty,st):=by
 have:=ne_nil hf a h;unfold IS at this;unfold Ie;rw[QK (n:=98) hf h,QK (n:=98) (ss:=[]) a (λx l=>by cases l)]at this ⊢;simp only[Aa,Aj]at this ⊢;have e:(!PyData.eqv (.list<|ss.map CB) (.list<|([]:List Str).map CB))=!ss.isEmpty:=by simpa using this
 rw[Bool.not_inj e]
variable {a f w0 x:Str}{r ns:List Str}{n l:Nat}{α:Type}{m:ME}{ds:List D}
section
variable {q:Nat}
def lL(h:∀x∈r,Wd x)(j:∀x∈ns,Wd x)(c:s[q]?=some (.lst<|(w0::r).map D.str))(hf:s[n]?=some (.lst<|ns.map D.str)):
  ∃s',Wh [.ref q,.ref n] s=some (.bl (sB ns.getLast? r),s')/\Gr s s':=by
 have f:=M9 c;have f:Hl [.ref q] s=some (.int (r.length+1:Nat),s):=by rw[f];simp
 by_cases h2:r.length=2
 ·obtain⟨m,a,rfl⟩:=two h2;have f:Hl [.ref q] s=some (.int 3,s):=f;have A:IS (.int 3) (.int 3) s=some (.bl false,s):=rfl;have l:∀s':Hf,Gr s s'->Hr (.ref q) (.int 1) s'=some (.str m,s'):=λs' g=>N6 ((g.old _<|qax c).trans c) (by decide) rfl;have B:Hr (.ref q) (.int 2) s=some (.str a,s):=N6 c (by decide) rfl;have E:=zW (st:=s) (h m<|by simp);have C:=Zj (h a<|by simp) (Ah _) s;have Q:Jm HV HV (mK<|.int 1) (Hi O7<|Hc (mB Hr (mV 0)<|mK<|.int 2)<|mZ) (mK<|.int 4) [some (.ref q),some (.ref n)] s=some (.bl (IU 1 4 a),s):=by
   rw[<-Wb (w:=a) (lo:=1) (hi:=4) (by decide) (by decide)];exact Ym (s3:=s) (s1:=s) rfl (by simp[B,C]) rfl
  have g:=Gr.app s [.lst []];have o:=(g.old _<|qax hf).trans hf;have F:=eq_nil o (IJ s<|.lst []) λx G=>(j x G).str;have W:=l _ g;have l:=l _<|Gr.refl _;generalize e:s++[O.lst []]=s1 at *;rw[show sB ns.getLast? [m,a]=(K5 m&&IU 1 4 a&&Pj ns.getLast? m) from rfl];have t0:mT (mB IS (Hi Hl<|Hc (mV 0)<|mZ)<|mK<|.int 3) [some (.ref q),some (.ref n)] s=some (false,s):=Hw (by simp[f,A]);have i:mB Ie (mV 1) (mL<|mZ) [some (.ref q),some (.ref n)] s=some (.bl ns.isEmpty,s1):=by simp[e,F]
  cases v:K5 m with
  |false=>
   rw[v]at E;refine⟨s,IG<|JL<|J5 (s1:=s) (JQ t0<|L8<|Ic (b:=false) ?_) rfl,Gr.refl _⟩;show Hi _ _ [some (.ref q),some (.ref n)] s=_;simp[l,E]
  |true=>
   rw[v]at E;have t1:J8 (mT<|Hi Wr<|Hc (mB Hr (mV 0)<|mK<|.int 1)<|mZ) [some (.ref q),some (.ref n)] s=some (false,s):=Ic (b:=true)<|by simp[l,E]
   cases y:IU 1 4 a with
   |false=>
    rw[y]at Q;exact⟨s,IG<|JL<|J5 (s1:=s) (JQ t0<|JQ t1<|Ic Q) rfl,Gr.refl _⟩
   |true=>
    rw[y]at Q;refine⟨s1,IG<|HD (Ky (s1:=s)<|JQ t0<|JQ t1<|Ic Q) ?_,g⟩;show mR _ [some (.ref q),some (.ref n)] s=_
    rcases Dj ns with rfl|⟨z,u,rfl⟩
    ·refine LM ?_;rw[Jn,Hw i];rfl
    ·have H:=W5 (x:=.str u) o (by simp);have em:(z.concat u).isEmpty=false:=by simp
     rw[em]at i;have lt:ltB (.str u) (.str m) s1=some (.bl (ZX u m),s1):=rfl;rw[show(z.concat u).getLast?=some u by simp];refine LM ?_;rw[Jn,Hw i];simp[Ny,H,W,lt,Pj]
 rw[U0 h2];have A:=ne_int (r.length+1:Nat) 3 s;rw[show(((r.length+1:Nat):Int)==3)=false from beq_eq_false_iff_ne.mpr (by omega)]at A;refine⟨s,IG<|JL<|J5 (s1:=s) (L8<|Hw (b:=true) ?_) rfl,Gr.refl _⟩;show mB IS (Hi Hl<|Hc (mV 0)<|mZ) (mK<|.int 3) [some (.ref q),some (.ref n)] s=_;simp only[II,Je,Iy,Iz,Im,Ii,Ai,Aa,f,A];rfl
def MU:Str:="abcdefghijklmnopqrstuvwxyz0123456789-"
def wY:(Builtin.Str.occurrences MU ("":Str) 0 MU.length 1).isEmpty=false:=by decide +kernel
def uQ:MU.cps.toList=Rm.cps.toList++[45]:=by decide +kernel
def Ql(ns:List Str):List Str->Bool
 |[f,a,b,c,d]=>decide (f.length=1)&&f.cps.toList.all (λc=>decide (c∈MU.cps.toList))&&[a,b,c,d].all (λx=>(x=="-") || decide (x∈ns))
 |_=>false
def sS{b:Str}:QE (.str a) (.str b) st=some (.bl (!(!(Builtin.Str.occurrences b a 0 b.length 1).isEmpty)),st):=by
 have e:inD true (.str a) (.str b) st=none:=by
  unfold inD;cases l:Jj 50 st (.str a) with
  |none=>rfl
  |some p=>
   cases f:Jj 50 st (.str b) with
   |none=>rfl
   |some q=>
    have:q=.str b:=by
     rw[Jj]at f;split at f
     ·cases f;rfl
     ·cases f
    subst this;rfl
 unfold QE QD JM;rw[e,Kj];rfl
def zmD(h:f.length<=1):QE (.str f) (.str MU) st=some (.bl (!f.cps.toList.all (λc=>decide (c∈MU.cps.toList))),st):=by
 have:=bG (st:=st) h wY;rw[W4]at this;have e:(!(Builtin.Str.occurrences MU f 0 MU.length 1).isEmpty)=f.cps.toList.all (λc=>decide (c∈MU.cps.toList)):=by have:=congrArg Prod.fst<|As this;exact D.bl.inj this
 rw[sS,e]
section
variable {me:ME}{ρ0:HX}{s0:Hf}{as:List α}{f g:α->D}{b:α->Bool}{fr:List Nat}
def VC(hm:me ρ s=some (.ref l,s0))(c:s0[l]?=some (.lst<|as.map f))(hρ:Hz ρ 1 fr=none::ρ0)(i:as.length<=10000)(H:∀a∈as,∀s,Gr s0 s->∃s1,m (some (f a)::ρ0) s=some (g a,s1)/\Gr s s1):
  ∃s1,Jl (Ju me) 1 fr (Ho 0) IC m ρ s=some (.ref s1.length,s1++[.lst (as.map g)])/\Gr s0 s1:=by
 have e:Jl (Ju me) 1 fr (Ho 0) IC m ρ s=Jl (Ju<|mK<|.ref l) 1 fr (Ho 0) IC m ρ s0:=by rw[Ji,Ji,QL hm c,QL rfl c]
 rw[e];exact TM (QL rfl c) (λs n=>QT ((n.old _<|qax c).trans c)) hρ i H
def cU(hm:me ρ s=some (.ref l,s0))(c:s0[l]?=some (.lst<|as.map f))(hρ:Hz ρ 1 fr=none::ρ0)(i:as.length<=10000)(H:∀a∈as,∀s,Gr s0 s->∃s1,m (some (f a)::ρ0) s=some (.bl (b a),s1)/\Gr s s1):
  ∃s1,Hi Jy (Hc (Jl (Ju me) 1 fr (Ho 0) IC m) mZ) ρ s=some (.bl (as.all b),s1)/\Gr s0 s1:=by
 obtain⟨s1,e,g⟩:=VC (g:=λa=>D.bl (b a)) hm c hρ i H;refine⟨_,?_,g.trans<|Gr.app s1 [.lst (as.map λa=>D.bl (b a))]⟩;simp only[Je,Iy,Iz,e,Aa];exact L2.MP.Ce.MM<|IJ s1 _
end
def rB(ds:List D):cutD ds (some 2) none=ds.drop 2:=by
 unfold cutD;have f:HT.HN ds.length 0 (some 2)=min 2 ds.length:=by unfold HT.HN;simp
 have l:HT.HN ds.length ds.length none=ds.length:=rfl;rw[f,l]
 match ds with
 |[]=>rfl
 |[a]=>rfl
 |a::b::r=>
  have:min 2 (a::b::r).length=2:=by simp
  rw[this];simp
def My(h:s[l]?=some (.lst ds)):Nt (.ref l) (some 2) none s=some (.ref s.length,s++[.lst (ds.drop 2)]):=by
 have:Qk (.ref l) (some 2) none s=some (.ref s.length,s++[.lst (ds.drop 2)]):=by show(Il s l).map _=_;simp only[Il,h,Aj,rB]
 unfold Nt Pa;rw[this,JF,JF]
def Xg{a b:Option Int}(h:s[l]?=some (.lst ds)):Nt (.ref l) a b s=some (.ref s.length,s++[.lst (cutD ds a b)]):=by
 have:Qk (.ref l) a b s=some (.ref s.length,s++[.lst (cutD ds a b)]):=by show(Il s l).map _=_;simp only[Il,h,Aj]
 unfold Nt Pa;rw[this,JF,JF]
def lO(h:∀x∈r,Wd x)(i:∀x∈ns,Wd x)(e:s[q]?=some (.lst<|(w0::r).map D.str))(hf:s[n]?=some (.lst<|ns.map D.str)):
  ∃s',Wi [.ref q,.ref n] s=some (.bl (Ql ns r),s')/\Gr s s':=by
 have o:=M9 e;have o:Hl [.ref q] s=some (.int (r.length+1:Nat),s):=by rw[o];simp
 by_cases h5:r.length=5
 ·obtain⟨f,a,b,c,d,rfl⟩:=Q9 h5;have o:Hl [.ref q] s=some (.int 6,s):=o;have v:IS (.int 6) (.int 6) s=some (.bl false,s):=rfl;have A:Hr (.ref q) (.int 1) s=some (.str f,s):=N6 e (by decide) rfl;have lf:=len_str (z:=f) (st:=s) (by have:=(h f<|by simp).len;omega);have t0:mT (mB IS (Hi Hl<|Hc (mV 0)<|mZ)<|mK<|.int 6) [some (.ref q),some (.ref n)] s=some (false,s):=Hw (by simp[o,v]);have Q:=ne_int f.length 1 s;have t1:mT (mB IS (Hi Hl<|Hc (mB Hr (mV 0)<|mK<|.int 1)<|mZ)<|mK<|.int 1) [some (.ref q),some (.ref n)] s=some (!decide (f.length=1),s):=Hw (by
   have:((f.length:Int)==1)=decide (f.length=1):=by rw[A8,beq_iff_eq,decide_eq_true_eq];omega
   rw[this]at Q;simp[A,lf,Q])
  rw[show Ql ns [f,a,b,c,d]=(decide (f.length=1)&&f.cps.toList.all (λc=>decide (c∈MU.cps.toList))&&[a,b,c,d].all (λx=>(x=="-") || decide (x∈ns))) from rfl]
  by_cases hl:f.length=1
  ·rw[decide_eq_true hl]at t1 ⊢;have j:=zmD (st:=s) (Dq hl);have W:mT (mB QE (mB Hr (mV 0)<|mK<|.int 1)<|mK<|.str "abcdefghijklmnopqrstuvwxyz0123456789-") [some (.ref q),some (.ref n)] s=some (!f.cps.toList.all (λc=>decide (c∈MU.cps.toList)),s):=Hw (by
    show mB QE (mB Hr (mV 0)<|mK<|.int 1) (mK<|.str MU) [some (.ref q),some (.ref n)] s=_;simp only[II,Im,Ii,Ai,Aa,A,j])
   generalize f.cps.toList.all (λc=>decide (c∈MU.cps.toList))=B at *;cases B with
   |false=>exact⟨s,IG<|JL<|J5 (s1:=s) (JQ t0<|JQ t1 W) rfl,Gr.refl _⟩
   |true=>
    have C:=My e;obtain⟨s1,F,g1⟩:=cU (me:=Ij (mV 0) (IW<|mK<|.int 2) Jw) (m:=Zk) (ρ:=[some (.ref q),some (.ref n)]) (ρ0:=[some (.ref n)]) (s:=s) (s0:=s++[.lst ([a,b,c,d].map D.str)]) (l:=s.length) (as:=[a,b,c,d]) (f:=D.str) (b:=λx=>(x=="-") || decide (x∈ns)) (fr:=[1]) (by
      rw[RC];simp only[Im,Ai,Aa,Lc,Lr,Ii,C]
      rfl) (IJ _ _) rfl (by simp) (λx G s' H=>by
     have u:Wd x:=h x<|Ak _ G;have w:=(H.old _<|qax<|((Gr.app s [.lst ([a,b,c,d].map D.str)]).old _<|qax hf).trans hf).trans<|((Gr.app s [.lst ([a,b,c,d].map D.str)]).old _<|qax hf).trans hf;have g:=eq_str (st:=s') u.str dA;have I:=dE w (λy J=>(i y J).str) u.str;refine⟨s',?_,Gr.refl _⟩;unfold Zk;generalize decide (x∈ns)=B at *;generalize (x=="-")=E at *
     cases E with
     |true=>simp[Jn,g]
     |false=>simp[Jn,g,I])
    exact⟨s1,IG<|HD (Ky (s1:=s)<|JQ t0<|JQ t1 W)<|LM F,(Gr.app _ _).trans g1⟩
  rw[decide_eq_false hl]at t1 ⊢;exact⟨s,IG<|JL<|J5 (s1:=s) (JQ t0<|L8 t1) rfl,Gr.refl _⟩
 ·have:Ql ns r=false:=by
   unfold Ql;split
   ·exact absurd rfl h5
   rfl
  rw[this];have v:=ne_int (r.length+1:Nat) 6 s;rw[show(((r.length+1:Nat):Int)==6)=false from beq_eq_false_iff_ne.mpr (by omega)]at v;refine⟨s,IG<|JL<|J5 (s1:=s) (L8<|Hw (b:=true) ?_) rfl,Gr.refl _⟩;show mB IS (Hi Hl<|Hc (mV 0)<|mZ) (mK<|.int 6) [some (.ref q),some (.ref n)] s=_;simp only[II,Je,Iy,Iz,Im,Ii,Ai,Aa,o,v];rfl
def sO(h:K5 x=true):x≠"":=λe=>by rw[e]at h;exact absurd h<|by decide +kernel
def yO(hn:∀y∈ns,K5 y=true):(x≠""/\Mp ns (Jo x)=true) ↔ (x="-"\/x∈ns):=by
 unfold Mp Jo;by_cases hx:x="-"
 ·subst hx;simp
  decide
 rw[beq_eq_false_iff_ne.mpr hx];simp only[AG,if_false,Cj,beq_iff_eq,decide_eq_true_eq,hx,false_or];exact⟨λz=>z.2.resolve_left z.1,λz=>⟨sO<|hn x z,.inr z⟩⟩
def wX:(f≠""/\Oj (Jo f)=true) ↔ (f.length=1/\f.cps.toList.all (λc=>decide (c∈MU.cps.toList))=true):=by
 unfold Oj Jo;by_cases hx:f="-"
 ·subst hx;exact⟨λ_=>⟨by decide,by decide +kernel⟩,λ_=>⟨by decide,by decide +kernel⟩⟩
 ·rw[beq_eq_false_iff_ne.mpr hx];simp only[AG,if_false,Ag,decide_eq_true_eq,BS,uQ,Eo,Fy];have hl:f.cps.toList.length=f.length:=AA
  constructor
  ·rintro⟨a,m,n⟩;refine⟨?_,λc l=>.inl (n c l)⟩;have:f.length≠0:=λz=>a (by
    apply Py;have:f.cps.toList=[]:=Ba (by omega);rw[this]
    decide)
   omega
  ·rintro⟨a,m⟩;refine⟨λz=>by rw[z]at a;exact absurd a (by decide),by omega,λc l=>(m c l).resolve_right λz=>hx ?_⟩;subst z;obtain⟨d,hd⟩:=one<|hl.trans a;rw[hd]at l;have:d=45:=(On.mp l).symm;subst this;apply Py;rw[hd]
   decide
def lN(e:∀y∈ns,K5 y=true):Ql ns r=kB ns r:=by
 by_cases h5:r.length=5
 ·obtain⟨f,a,b,c,d,rfl⟩:=Q9 h5;have n:kB ns [f,a,b,c,d]=(!decide (("":Str)∈[f,a,b,c,d])&&(Oj (Jo f)&&[a,b,c,d].all λx=>Mp ns (Jo x))):=rfl;have o:Ql ns [f,a,b,c,d]=(decide (f.length=1)&&f.cps.toList.all (λc=>decide (c∈MU.cps.toList))&&[a,b,c,d].all (λx=>(x=="-") || decide (x∈ns))):=rfl;rw[n,o,A8];have v:=wX (f:=f);have q:=λx=>yO (x:=x) e;rw[Ag,Ag,Ag,Ag,decide_eq_true_eq,<-v,BS,BS,Bv,decide_eq_false_iff_not,Br,not_or]
  constructor
  ·rintro⟨⟨s,u⟩,l⟩;refine⟨⟨λz=>s z.symm,λz=>?_⟩,u,λx m=>?_⟩
   ·have:=l _ z;rw[Cj,beq_iff_eq,decide_eq_true_eq]at this;exact((q _).mpr this).1 rfl
   have:=l x m;rw[Cj,beq_iff_eq,decide_eq_true_eq]at this;exact((q x).mpr this).2
  rintro⟨⟨s,u⟩,l,w⟩;refine⟨⟨λz=>s z.symm,l⟩,λx m=>?_⟩;rw[Cj,beq_iff_eq,decide_eq_true_eq];exact(q x).mp ⟨λz=>u (by rw[<-z];exact m),w x m⟩
 ·have n:Ql ns r=false:=by
   unfold Ql;split
   ·exact absurd rfl h5
   rfl
  have o:kB ns r=false:=by unfold kB;rw[fD (by rw[Af];exact h5),Gj]
  rw[n,o]
end
def KA:Option Tl->D
 |none=>.non
 |some t=>.tup [.int t.1,.int t.2.1]
def ZY{a b c d:Int}:HT.lexLt [c,d] [a,b]=!lexLe [a,b] [c,d]:=by
 rw[HT.HS];unfold lexLe;by_cases h1:a=c
 ·subst h1;rw[if_pos rfl,if_pos rfl,HT.HS];unfold lexLe
  by_cases h2:b=d
  ·subst h2;simp[HT.Jk,lexLe]
  rw[if_neg (λz=>h2 z.symm),if_neg h2,A8];simp
 rw[if_neg (λz=>h1 z.symm),if_neg h1,A8];simp
def Xl(h:Wd w){C:ME}(c:C=Hi O7 (Hc (mV 0)<|mZ)):∃s1,C [some (.str w)] s=some (.int (HI w),s1)/\Gr s s1:=by subst c;have e:=Zj h (Ah _) s;exact⟨s,by simp[e],Gr.refl _⟩
def qD{b:Int}(c:b<=1000000):(decide (0<=HI w)&&decide (HI w<b))=IU 0 (b-1) w:=by
 rw[<-Wb (w:=w) (lo:=0) (hi:=b-1) (by decide) (by omega)]
 congr 1
 rw[decide_eq_decide];omega
variable {h:Int}{k:Nat}{L:Option Tl}
section
variable {q fl:Nat}{w:Int}
def lP(j:∀x∈r,Wd x)(hw:w<=1000)(M:h<=1000)(hk:k<=9000)(e:s[q]?=some (.lst<|(w0::r).map D.str))(hf:s[fl]?=some (.lst [.int w,.int h])):
  ∃s',Ui [.ref q,.ref fl,.int (k:Int),KA L] s=some (.bl (tB w h k L r),s')/\Gr s s':=by
 have u:=M9 e;have u:Hl [.ref q] s=some (.int (r.length+1:Nat),s):=by rw[u];simp
 by_cases h3:r.length=3
 ·obtain⟨a,b,c,rfl⟩:=three h3;have u:Hl [.ref q] s=some (.int 4,s):=u;have A:IS (.int 4) (.int 4) s=some (.bl false,s):=rfl;have B:=Wx (s:=s) (l:=q) (d:=.str w0) (ds:=[a,b,c].map D.str) e;obtain⟨s1,C,g1⟩:=VC (me:=Ij (mV 0) (IW<|mK<|.int 1) Jw) (m:=Zl) (ρ:=[some (.ref q),some (.ref fl),some (.int (k:Int)),some (KA L),none,none,none]) (ρ0:=[]) (s:=s) (s0:=s++[.lst ([a,b,c].map D.str)]) (l:=s.length) (as:=[a,b,c]) (f:=D.str) (g:=λx=>D.int (HI x)) (fr:=[]) (by
    rw[RC];simp only[Im,Ai,Aa,Lc,Lr,Ii,B]) (IJ _ _) rfl (by simp) (λx F s' _=>Xl (j x F) rfl)
  have E:=(Gr.app s [.lst ([a,b,c].map D.str)]).trans g1;have n:=E.trans<|Gr.app s1 [.lst ([a,b,c].map λx=>D.int (HI x))];have y:=(n.old _<|qax hf).trans hf;have a2:=IJ s1<|.lst<|[a,b,c].map λx=>D.int (HI x);generalize G:s1++[O.lst ([a,b,c].map λx=>D.int (HI x))]=s2 at *;have f0:Hr (.ref fl) (.int 0) s2=some (.int w,s2):=N6 y (by decide) rfl;have f1:Hr (.ref fl) (.int 1) s2=some (.int h,s2):=N6 y (by decide) rfl;have H:NF 3 (gC (Ho 4)<|gC (Ho 5)<|gC (Ho 6)<|Lo) (.ref s1.length) [some (.ref q),some (.ref fl),some (.int (k:Int)),some (KA L),none,none,none] s2=some ([some (.ref q),some (.ref fl),some (.int (k:Int)),some (KA L),some (.int<|HI a),some (.int<|HI b),some (.int<|HI c)],s2):=by unfold NF;simp only[a2];rfl
  have start:∀res s',(∃m,mS (Ih (IL (J8<|mT<|Jm HV Ik (mK<|.int 0) (mV 4)<|mB Hr (mV 1)<|mK<|.int 0)<|IL (J8<|mT<|Jm HV Ik (mK<|.int 0) (mV 5)<|mB Hr (mV 1)<|mK<|.int 1)<|J8<|mT<|Jm HV Ik (mK<|.int 0) (mV 6)<|mV 2) (mR<|mK<|.bl false)<|IH) m [some (.ref q),some (.ref fl),some (.int (k:Int)),some (KA L),some (.int<|HI a),some (.int<|HI b),some (.int<|HI c)] s2=some (.rt res,s')/\kI=mS (Ih (mT<|mB IS (Hi Hl<|Hc (mV 0)<|mZ)<|mK<|.int 4) (mR<|mK<|.bl false)<|IH) (mS (Hm (Jl (Ju<|Ij (mV 0) (IW<|mK<|.int 1)<|Jw) 1 [] (Ho 0) IC<|Zl)<|NF 3<|gC (Ho 4)<|gC (Ho 5)<|gC (Ho 6)<|Lo)<|mS (Ih (IL (J8<|mT<|Jm HV Ik (mK<|.int 0) (mV 4)<|mB Hr (mV 1)<|mK<|.int 0)<|IL (J8<|mT<|Jm HV Ik (mK<|.int 0) (mV 5)<|mB Hr (mV 1)<|mK<|.int 1)<|J8<|mT<|Jm HV Ik (mK<|.int 0) (mV 6)<|mV 2) (mR<|mK<|.bl false)<|IH) m))->Ui [.ref q,.ref fl,.int (k:Int),KA L] s=some (res,s'):=by rintro res s' ⟨m,hm,I⟩;refine IG ?_;rw[I];show mS _ _ [some (.ref q),some (.ref fl),some (.int (k:Int)),some (KA L),none,none,none] s=_;refine HD (Ky (s1:=s)<|Hw<|by simp[u,A])<|HD (s1:=s2) ?_ hm;rw[J9,C];simp only[Aa,H,Aj]
  have o:=Yn (c:=w) (s:=s2) (s1:=s2) (s3:=s2) (m1:=mK (.int 0)) (m2:=mV 4) (m3:=mB Hr (mV 1) (mK<|.int 0)) (ρ:=[some (.ref q),some (.ref fl),some (.int (k:Int)),some (KA L),some (.int<|HI a),some (.int<|HI b),some (.int<|HI c)]) rfl rfl (by simp[f0]);have v:=Yn (c:=h) (s:=s2) (s1:=s2) (s3:=s2) (m1:=mK (.int 0)) (m2:=mV 5) (m3:=mB Hr (mV 1) (mK<|.int 1)) (ρ:=[some (.ref q),some (.ref fl),some (.int (k:Int)),some (KA L),some (.int<|HI a),some (.int<|HI b),some (.int<|HI c)]) rfl rfl (by simp[f1]);have z:=Yn (c:=(k:Int)) (s:=s2) (s1:=s2) (s3:=s2) (m1:=mK (.int 0)) (m2:=mV 6) (m3:=mV 2) (ρ:=[some (.ref q),some (.ref fl),some (.int (k:Int)),some (KA L),some (.int<|HI a),some (.int<|HI b),some (.int<|HI c)]) rfl rfl rfl;rw[qD (by omega)]at o v z;rw[show tB w h k L [a,b,c]=(IU 0 (w-1) a&&IU 0 (h-1) b&&IU 0 ((k:Int)-1) c&&Sw L [a,b,c]) from rfl]
  cases Q:IU 0 (w-1) a with
  |false=>
   rw[Q]at o;exact⟨s2,start _ _ ⟨_,JL<|J5 (s1:=s2) (L8<|Ic o) rfl,rfl⟩,n⟩
  |true=>
   rw[Q]at o;cases W:IU 0 (h-1) b with
   |false=>
    rw[W]at v;exact⟨s2,start _ _ ⟨_,JL<|J5 (s1:=s2) (JQ (Ic o)<|L8<|Ic v) rfl,rfl⟩,n⟩
   |true=>
    rw[W]at v;cases i:IU 0 ((k:Int)-1) c with
    |false=>
     rw[i]at z;exact⟨s2,start _ _ ⟨_,JL<|J5 (s1:=s2) (JQ (Ic o)<|JQ (Ic v)<|Ic z) rfl,rfl⟩,n⟩
    |true=>
     rw[i]at z;refine⟨s2,start _ _ ⟨_,HD (Ky (s1:=s2)<|JQ (Ic o)<|JQ (Ic v)<|Ic z)<|LM ?_,rfl⟩,n⟩;rw[(Nn Q).1,(Nn W).1]
     cases L with
     |none=>rfl
     |some t=>
      have lt:ltB (.tup [.int t.1,.int t.2.1]) (.tup [.int (val a),.int (val b)]) s2=some (.bl (HT.lexLt [t.1,t.2.1] [val a,val b]),s2):=rfl;rw[ZY]at lt;have J:Ku (KA<|some t) .non s2=some (.bl false,s2):=rfl;show _=some (D.bl (!lexLe [val a,val b] [t.1,t.2.1]),s2);generalize (!lexLe [val a,val b] [t.1,t.2.1])=K at *;show L9 _ _ [some (.ref q),some (.ref fl),some (.int (k:Int)),some (KA<|some t),some (.int<|val a),some (.int<|val b),some (.int<|HI c)] s2=_;have lt:ltB (KA<|some t) (.tup [.int (val a),.int (val b)]) s2=some (.bl K,s2):=lt;generalize KA (some t)=T at *;simp[Jn,J,lt]
 ·have:tB w h k L r=false:=by
   unfold tB Pp;split
   ·exact absurd rfl h3
   rfl
  rw[this];have A:=ne_int (r.length+1:Nat) 4 s;rw[show(((r.length+1:Nat):Int)==4)=false from beq_eq_false_iff_ne.mpr (by omega)]at A;refine⟨s,IG<|JL<|J5 (s1:=s) (Hw (b:=true) ?_) rfl,Gr.refl _⟩;show mB IS (Hi Hl<|Hc (mV 0)<|mZ) (mK<|.int 4) [some (.ref q),some (.ref fl),some (.int (k:Int)),some (KA L),none,none,none] s=_;simp only[II,Je,Iy,Iz,Im,Ii,Ai,Aa,u,A];rfl
end
noncomputable abbrev LS:=List Str×Nat×Option (Int×Int)×Option Tl
def IF(at_:Nat)(ns:List Str)(k:Nat)(F:Option (Int×Int))(L:Option Tl)(w0:Str)(r:List Str):Option LS:=
  if at_=0 then(if((w0=="enough")&&eB r)=true then some (ns,k,F,L)else none)
  else if((w0=="stick")&&(decide (k=0)&&F.isNone))=true then(if sB ns.getLast? r=true then some (ns++[r.getD 0 ""],k,F,L)else none)
  else if((w0=="kind")&&F.isNone)=true then(if kB ns r=true then some (ns,k+1,F,L)else none)
  else if((w0=="floor")&&(decide (0<k)&&F.isNone))=true then(if KO r=true then some (ns,k,some (v0 r 0,v0 r 1),L)else none)
  else match F with
   |none=>none
   |some (w,h)=>if(w0=="tile")=true then(if tB w h k L r=true then some (ns,k,some (w,h),some (tV r))else none)else none
def Sx(at_:Nat)(ns:List Str)(k:Nat)(F:Option (Int×Int))(L:Option Tl):List Str->Option LS
 |[]=>none
 |w0::r=>IF at_ ns k F L w0 r
def IP:Rows->Nat->List Str->Nat->Option (Int×Int)->Option Tl->Nat⊕(Nat×Option (Int×Int))
 |[],at_,ns,k,F,L=>.inr (at_,F)
 |ws::R,at_,ns,k,F,L=>match Sx at_ ns k F L ws with
  |none=>.inl at_
  |some q=>IP R (at_+1) q.1 q.2.1 q.2.2.1 q.2.2.2
variable {word:Str}
section
variable {b:List α->List Str->Bool}{v:List Str->α}
def gM(R:Rows):∀acc:List α,(HU word b v R acc).1=false->∀r c,(HU word b v R acc).2.2≠(word::r)::c:=by
 induction R with
 |nil=>intro acc _ r c e;cases e
 |cons ws R f=>
  intro acc h r c e;cases ws with
  |nil=>cases e
  |cons w0 l=>
   by_cases hw:w0=word
   ·subst hw
    cases a:b acc l with
    |false=>rw[RQ a]at h;cases h
    |true=>
     rw[RP a]at h e;exact f _ h r c e
   rw[O1 hw]at e;exact hw (AM (AM e).1).1
end
theorem fG:∀{R:Rows}{at_:Nat}{ns:List Str}{k:Nat} {F c:Option (Int×Int)} {L:Option Tl}{a:Nat},IP R at_ ns k F L=.inr (a,c)->a=at_+R.length
 |[],at_,ns,k,F,c,L,a,e=>by unfold IP at e;cases e;rfl
 |ws::R,at_,ns,k,F,c,L,a,e=>by
  unfold IP at e;split at e
  ·cases e
  have:=fG e;rw[this,AB];omega
variable {q:LS}{ws:List Str}{at_:Nat}{F:Option (Int×Int)}
def RY{R:Rows}(h:Sx at_ ns k F L ws=some q):IP (ws::R) at_ ns k F L=IP R (at_+1) q.1 q.2.1 q.2.2.1 q.2.2.2:=by
 conv=>lhs;unfold IP
 rw[h]
def QH{R:Rows}(h:Sx at_ ns k F L ws=none):IP (ws::R) at_ ns k F L=.inl at_:=by
 conv=>lhs;unfold IP
 rw[h]
def jM(acc:List (Str×Int)):(acc.map (·.1)).getLast?=acc.getLast?.map (·.1):=List.getLast?_map
theorem UC:∀(R:Rows) (acc:List (Str×Int)),IP R (1+acc.length) (acc.map (·.1)) 0 none none=if(HU "stick" (λacc=>sB (acc.getLast?.map (·.1))) sV R acc).1=true then .inl (1+(HU "stick" (λacc=>sB (acc.getLast?.map (·.1))) sV R acc).2.1.length)else IP (HU "stick" (λacc=>sB (acc.getLast?.map (·.1))) sV R acc).2.2 (1+(HU "stick" (λacc=>sB (acc.getLast?.map (·.1))) sV R acc).2.1.length) ((HU "stick" (λacc=>sB (acc.getLast?.map (·.1))) sV R acc).2.1.map (·.1)) 0 none none
 |[],acc=>rfl
 |[]::R,acc=>rfl
 |(w0::r)::R,acc=>by
  by_cases hw:w0="stick"
  ·subst hw;have a0:¬1+acc.length=0:=by omega
   cases a:sB (acc.getLast?.map (·.1)) r with
   |false=>
    rw[RQ (b:=λacc:List (Str×Int)=>sB (acc.getLast?.map (·.1))) a,QH]
    ·rfl
    show IF _ _ _ _ _ _ _=_;unfold IF;rw[if_neg a0,if_pos (by decide),jM,a];rfl
   |true=>
    rw[RP (b:=λacc:List (Str×Int)=>sB (acc.getLast?.map (·.1))) a,RY (q:=(acc.map (·.1)++[r.getD 0 ""],0,none,none))]
    ·have:=UC R<|acc++[sV r];rw[<-this];rw[AF,Bt];rfl
    show IF _ _ _ _ _ _ _=_;unfold IF;rw[if_neg a0,if_pos (by decide),jM,a];rfl
  rw[O1 hw];rfl
theorem UD{ns:List Str}{l:Nat}(c:1<=l):∀(R:Rows) (acc:List (List Str)),IP R (l+acc.length) ns acc.length none none=if(HU "kind" (λ_=>kB ns) (λr=>r.map Jo) R acc).1=true then .inl (l+(HU "kind" (λ_=>kB ns) (λr=>r.map Jo) R acc).2.1.length)else IP (HU "kind" (λ_=>kB ns) (λr=>r.map Jo) R acc).2.2 (l+(HU "kind" (λ_=>kB ns) (λr=>r.map Jo) R acc).2.1.length) ns (HU "kind" (λ_=>kB ns) (λr=>r.map Jo) R acc).2.1.length none none
 |[],acc=>rfl
 |[]::R,acc=>rfl
 |(w0::r)::R,acc=>by
  by_cases hw:w0="kind"
  ·subst hw;have a0:¬l+acc.length=0:=by omega
   have f:¬((("kind":Str)=="stick")&&(decide (acc.length=0)&&(none:Option (Int×Int)).isNone))=true:=by rw[show(("kind":Str)=="stick")=false by decide];simp
   cases a:kB ns r with
   |false=>
    rw[RQ (b:=λ_=>kB ns) a,QH]
    ·rfl
    show IF _ _ _ _ _ _ _=_;unfold IF;rw[if_neg a0,if_neg f,if_pos (by decide),a];rfl
   |true=>
    rw[RP (b:=λ_=>kB ns) a,RY (q:=(ns,acc.length+1,none,none))]
    ·have:=UD (ns:=ns) c R<|acc++[r.map Jo];rw[<-this];rw[AF];rfl
    show IF _ _ _ _ _ _ _=_;unfold IF;rw[if_neg a0,if_neg f,if_pos (by decide),a];rfl
  rw[O1 hw];rfl
theorem UB{ns:List Str}{l k:Nat}{w h:Int}(c:1<=l):∀(R:Rows) (acc:List Tl),IP R (l+acc.length) ns k (some (w,h)) acc.getLast?=if((HU "tile" (λacc=>tB w h k acc.getLast?) tV R acc).1 || !(HU "tile" (λacc=>tB w h k acc.getLast?) tV R acc).2.2.isEmpty)=true then .inl (l+(HU "tile" (λacc=>tB w h k acc.getLast?) tV R acc).2.1.length)else .inr (l+(HU "tile" (λacc=>tB w h k acc.getLast?) tV R acc).2.1.length,some (w,h))
 |[],acc=>rfl
 |[]::R,acc=>rfl
 |(w0::r)::R,acc=>by
  have a0:¬l+acc.length=0:=by omega
  have a:∀x y:Bool,¬(x&&(y&&(some (w,h):Option (Int×Int)).isNone))=true:=λx y=>by simp
  have m:∀x:Bool,¬(x&&(some (w,h):Option (Int×Int)).isNone)=true:=λx=>by simp
  by_cases hw:w0="tile"
  ·subst hw
   cases f:tB w h k acc.getLast? r with
   |false=>
    rw[RQ (b:=λacc:List Tl=>tB w h k acc.getLast?) f,QH]
    ·rfl
    show IF _ _ _ _ _ _ _=_;unfold IF;rw[if_neg a0,if_neg (a _ _),if_neg (m _),if_neg (a _ _)];show(if _ then(if _ then _ else _)else _)=_;rw[if_pos (by decide),f];rfl
   |true=>
    rw[RP (b:=λacc:List Tl=>tB w h k acc.getLast?) f,RY (q:=(ns,k,some (w,h),some (tV r)))]
    ·have:=UB (ns:=ns) (k:=k) (w:=w) (h:=h) c R<|acc++[tV r];rw[<-this];rw[AF,show(acc++[tV r]).getLast?=some (tV r) by simp];rfl
    show IF _ _ _ _ _ _ _=_;unfold IF;rw[if_neg a0,if_neg (a _ _),if_neg (m _),if_neg (a _ _)];show(if _ then(if _ then _ else _)else _)=_;rw[if_pos (by decide),f];rfl
  ·rw[O1 hw,QH]
   ·rfl
   show IF _ _ _ _ _ _ _=_;unfold IF;rw[if_neg a0,if_neg (a _ _),if_neg (m _),if_neg (a _ _)];exact if_neg (by rw[beq_eq_false_iff_ne.mpr hw];decide)
def told(R:Rows):Option Nat:=match IP R 0 [] 0 none none with
 |.inl j=>some j
 |.inr p=>if p.2.isNone=true then some p.1 else none
def Si(x:Nat⊕Iw):Option Nat:=match x with
 |.inl n=>some n
 |.inr _=>none
def vK(R:Rows):told R=Si (parse R):=by
 unfold told
 match R with
 |[]=>rfl
 |[]::R=>rfl
 |(w0::r)::R=>
  cases f:(w0=="enough")&&eB r with
  |false=>
   rw[QH (by show IF _ _ _ _ _ _ _=_;unfold IF;rw[if_pos rfl,f];rfl)];show _=Si (if _ then _ else _);rw[if_neg λz=>by rw[z.1,z.2]at f;cases f];rfl
  |true=>
   rw[Ag,beq_iff_eq]at f;obtain⟨rfl,E⟩:=f;rw[RY (q:=([],0,none,none)) (by show IF _ _ _ _ _ _ _=_;unfold IF;rw[if_pos rfl,E];rfl)];show _=Si (if _ then _ else _);rw[if_pos ⟨rfl,E⟩];have F:=UC R [];unfold Nv
   change IP R (0+1) [] 0 none none=(if(pS R).1=true then .inl (1+(pS R).2.1.length)else IP (pS R).2.2 (1+(pS R).2.1.length) ((pS R).2.1.map (·.1)) 0 none none)at F;have y:=gM (word:="stick") (b:=λacc=>sB (acc.getLast?.map (·.1))) (v:=sV) R [];change (pS R).1=false->∀r m,(pS R).2.2≠_ at y;show(match IP R (0+1) [] 0 none none with|.inl j=>some j|.inr p=>if p.2.isNone=true then some p.1 else none)=_;rw[F]
   cases i:(pS R).1 with
   |true=>rfl
   |false=>
    have y:=y i;simp only[AG,if_false];generalize (pS R).2.1=S at *;generalize (pS R).2.2=n at *;have L:=UD (ns:=S.map (·.1)) (l:=1+S.length) (by omega) n [];unfold Nw
    change IP n (1+S.length) (S.map (·.1)) 0 none none=(if(pK (S.map (·.1)) n).1=true then .inl (1+S.length+(pK (S.map (·.1)) n).2.1.length)else IP (pK (S.map (·.1)) n).2.2 (1+S.length+(pK (S.map (·.1)) n).2.1.length) (S.map (·.1)) (pK (S.map (·.1)) n).2.1.length none none)at L;have s:=gM (word:="kind") (b:=λ_=>kB (S.map (·.1))) (v:=λr=>r.map Jo) n [];change (pK (S.map (·.1)) n).1=false->∀r m,(pK (S.map (·.1)) n).2.2≠_ at s;obtain⟨M,u,C⟩:=VP (word:="kind") (b:=λ_=>kB (S.map (·.1))) (v:=λr=>r.map Jo) n [];change n=M++(pK (S.map (·.1)) n).2.2 at u;change (pK (S.map (·.1)) n).2.1.length=0+M.length at C;rw[L];cases G:(pK (S.map (·.1)) n).1 with
    |true=>rfl
    |false=>
     have s:=s G;simp only[AG,if_false];generalize (pK (S.map (·.1)) n).2.1=K at *;generalize (pK (S.map (·.1)) n).2.2=H at *;generalize J:1+S.length+K.length=l;have Q:¬l=0:=by omega
     match H,u,s with
     |[],_,_=>rfl
     |[]::m,_,_=>rfl
     |(x::a)::m,u,s=>
      have A:x≠"kind":=λz=>s a m (by rw[z]);have W:¬((x=="stick")&&(decide (K.length=0)&&(none:Option (Int×Int)).isNone))=true:=λz=>by simp only[Ag,beq_iff_eq,decide_eq_true_eq]at z;have:M=[]:=Ba (by omega);rw[this]at u;exact y a m (by rw[<-z.1];exact u)
      have c:¬((x=="kind")&&(none:Option (Int×Int)).isNone)=true:=by
       rw[beq_eq_false_iff_ne.mpr A]
       decide
      have e:(decide (0<K.length)&&(none:Option (Int×Int)).isNone)=!K.isEmpty:=by cases K<;>simp
      cases f:(x=="floor")&&(!K.isEmpty&&KO a) with
      |false=>
       have:Sx l (S.map (·.1)) K.length none none (x::a)=none:=by
        show IF _ _ _ _ _ _ _=_;unfold IF;rw[if_neg Q,if_neg W,if_neg c,e];split
        ·rename_i z;rw[Ag]at z;rw[z.1,z.2]at f;have f:KO a=false:=f;rw[f];rfl
        rfl
       rw[QH this];show _=Si (if _ then _ else _);rw[if_neg λz=>by
        rw[z.1]at f;have f:(!K.isEmpty&&KO a)=false:=by simpa using f
        rw[z.2]at f;cases f]
       rfl
      |true=>
       rw[Ag,beq_iff_eq]at f;obtain⟨rfl,f⟩:=f;have o:=f;rw[Ag]at o;have:Sx l (S.map (·.1)) K.length none none (("floor":Str)::a)=some (S.map (·.1),K.length,some (v0 a 0,v0 a 1),none):=by show IF _ _ _ _ _ _ _=_;unfold IF;rw[if_neg Q,if_neg W,if_neg c,e,if_pos (by rw[o.1];decide),o.2];rfl
       rw[RY this];have g:=UB (ns:=S.map (·.1)) (l:=l+1) (k:=K.length) (w:=v0 a 0) (h:=v0 a 1) (by omega) m []
       change IP m (l+1) (S.map (·.1)) K.length (some (v0 a 0,v0 a 1)) none=(if((pT (v0 a 0) (v0 a 1) K.length m).1 || !(pT (v0 a 0) (v0 a 1) K.length m).2.2.isEmpty)=true then .inl (l+1+(pT (v0 a 0) (v0 a 1) K.length m).2.1.length)else .inr (l+1+(pT (v0 a 0) (v0 a 1) K.length m).2.1.length,some (v0 a 0,v0 a 1)))at g
       have I:LC ⟨v0 r 0,S,K⟩ l ((("floor":Str)::a)::m)=L7 ⟨v0 r 0,S,K⟩ (v0 a 0) (v0 a 1) (l+1) m:=if_pos ⟨rfl,f⟩;rw[I];show(match IP m (l+1) (S.map (·.1)) K.length (some (v0 a 0,v0 a 1)) none with|.inl j=>some j|.inr p=>if p.2.isNone=true then some p.1 else none)=_;rw[g];show _=Si (if((pT (v0 a 0) (v0 a 1) K.length m).1 || !(pT (v0 a 0) (v0 a 1) K.length m).2.2.isEmpty)=true then _ else _);generalize ((pT (v0 a 0) (v0 a 1) K.length m).1 || !(pT (v0 a 0) (v0 a 1) K.length m).2.2.isEmpty)=B
       cases B<;>rfl
def Lq(s:Hf)(F:Option (Int×Int))(fl:D):Prop:=match F with
 |none=>fl=.non
 |some (w,h)=>∃k,fl=.ref k/\s[k]?=some (.lst [.int w,.int h])/\w<=1000/\h<=1000
variable {fl:D}{s':Hf}
def Lq.gr(h:Lq s F fl)(g:Gr s s'):Lq s' F fl:=by
 cases F with
 |none=>exact h
 |some p=>
  obtain⟨k,e,a,b⟩:=h;exact⟨k,e,(g.old _<|qax a).trans a,b⟩
def Lq.non{s:Hf}{F:Option (Int×Int)}{fl:D}(h:Lq s F fl):Pg fl=F.isNone:=by
 cases F with
 |none=>rw[show fl=.non from h];rfl
 |some p=>
  obtain⟨k,e,_⟩:=h;rw[e];rfl
def TurnOk(res:Option (Fl×Hf))(s:Hf)(T RS:Option D)(at_:Nat)(x:Str):Option LS->Prop
 |none=>∃s',res=some (.rt (.int (at_:Int)),s')/\Gr s s'
 |some q=>∃s' nm fl a8 a9,res=some (.nx [T,some (.ref nm),some (.int (q.2.1:Int)),some fl,some (KA q.2.2.2),RS,some (.int (at_:Int)),some (.str x),a8,a9],s')/\Gr s s'/\s'[nm]?=some (.lst<|q.1.map D.str)/\Lq s' q.2.2.1 fl
variable {t:MT}
def Lm{a b:MS}{r:Option (Fl×Hf)}(h:t ρ st=some (true,s1))(k:a ρ s1=r):Ih t a b ρ st=r:=by rw[K4,h];simp only[Aa,if_true,k]
def Iq{a b:MS}{r:Option (Fl×Hf)}(h:t ρ st=some (false,s1))(k:b ρ s1=r):Ih t a b ρ st=r:=by rw[K4,h];simp only[Aa,AG,if_false,k]
def NG{a b:MT}{x y:Bool}(c:a ρ s=some (x,s))(e:b ρ s=some (y,s)):JD a b ρ s=some (x&&y,s):=by
 cases x
 ·exact Qq c
 exact Qr c e
variable {d:D}{T RS:Option D}{nm:Nat}
section
variable {i j:Nat}{A B:MS}{n:ME}{ρ1 ρ2:HX}{e:D}{o:Option LS}
def bN(h:m ρ s=some (d,s1))(g:Gr s s1)(C:ρ.set i (some d)=ρ1)(k:TurnOk (B ρ1 s1) s1 T RS at_ x o):TurnOk (mS (Hm m<|Ho i) B ρ s) s T RS at_ x o:=by
 subst C;have e:mS (Hm m<|Ho i) B ρ s=B (ρ.set i<|some d) s1:=HD (by rw[J9,h];rfl) rfl;rw[e]
 cases o with
 |none=>obtain⟨s',a,b⟩:=k;exact⟨s',a,g.trans b⟩
 |some q=>obtain⟨s',nm,fl,f,j,a,b,c⟩:=k;exact⟨s',nm,fl,f,j,a,g.trans b,c⟩
def Vp(h:m ρ s=some (d,s1)):Hm m (Ho i) ρ s=some (.nx (ρ.set i<|some d),s1):=by rw[J9,h];rfl
def Qh(h:m ρ s=some (d,s1))(k:n (ρ.set i<|some d) s1=some (e,s2)):mS (Hm m<|Ho i) (Hm n<|Ho j) ρ s=some (.nx ((ρ.set i<|some d).set j<|some e),s2):=HD (Vp h)<|Vp k
def Ox(h:A ρ s=some (.nx ρ2,s2))(g:Gr s s2)(c:ρ2[9]?=some (some<|.bl true))(C:∃a8 a9,ρ2=[T,some (.ref nm),some (.int (q.2.1:Int)),some fl,some (KA q.2.2.2),RS,some (.int (at_:Int)),some (.str x),a8,a9])(G:s2[nm]?=some (.lst<|q.1.map D.str))(H:Lq s2 q.2.2.1 fl):TurnOk (mS A (Ih (J8<|mT<|mV 9) (mR<|mV 6)<|IH) ρ s) s T RS at_ x (some q):=by obtain⟨a8,a9,rfl⟩:=C;refine⟨s2,nm,fl,a8,a9,HD h<|Ky (s1:=s2)<|Ic (b:=true) ?_,g,G,H⟩;rw[Im,c]
def Mx(h:A ρ s=some (.nx ρ2,s2))(g:Gr s s2)(c:ρ2[9]?=some (some<|.bl false))(C:ρ2[6]?=some (some<|.int (at_:Int))):TurnOk (mS A (Ih (J8<|mT<|mV 9) (mR<|mV 6)<|IH) ρ s) s T RS at_ x none:=by
 refine⟨s2,HD h<|J5 (s1:=s2) (Ic (b:=false) ?_) ?_,g⟩
 ·rw[Im,c]
 rw[Lx,Im,C];rfl
end
def qO:(cutD ds (some 1)<|some 2).length<=1:=by
 have a:HT.HN ds.length 0 (some 1)=min 1 ds.length:=by unfold HT.HN;simp
 have f:HT.HN ds.length ds.length (some 2)=min 2 ds.length:=by unfold HT.HN;simp
 unfold cutD;rw[AN,a,f];omega
section
variable {a8 a9:Option D}
def vL(J:Ke x 8000)(hs:Txt.split x " "=w0::r)(hn:s[nm]?=some (.lst (ns.map D.str)))(hN:∀y∈ns,K5 y=true/\Wd y)(hF:Lq s F fl)(hk:k<=9000)(hl:ns.length<=9000):
  TurnOk (Ud [T,some (.ref nm),some (.int (k:Int)),some fl,some (KA L),RS,some (.int (at_:Int)),some (.str x),a8,a9] s) s T RS at_ x (IF at_ ns k F L w0 r):=by
 have hW:∀y∈w0::r,Wd y:=λy e=>(J.part (y:=" ") (by rw[hs];exact e)).up (by decide);have hR:∀y∈r,Wd y:=λy e=>hW y (Ak _ e);have rl:r.length<=9000:=by have:=VS x " ";rw[hs]at this;have:=J.len;simp at *;omega
 have es:=VH (z:=x) (y:=" ") (s:=s) (by decide) (by have:=J.len;omega);rw[hs]at es;have g0:=Gr.app s [.lst ((w0::r).map D.str)];have i:=IJ s (.lst ((w0::r).map D.str));have A:=(g0.old _ (qax hn)).trans hn;have C:=hF.gr g0;generalize hs0:s++[O.lst ((w0::r).map D.str)]=s0 at *;generalize hQ:s.length=q at *;have lw:Hl [.ref q] s0=some (.int (r.length+1:Nat),s0):=by rw[M9 i];simp
 have i0:Hr (.ref q) (.int 0) s0=some (.str w0,s0):=N6 i (by decide) rfl;obtain⟨ρ,hρ⟩:∃ρ:HX,[T,some (.ref nm),some (.int (k:Int)),some fl,some (KA L),RS,some (.int (at_:Int)),some (.str x),some (.ref q),some (.bl false)]=ρ:=⟨_,rfl⟩
 unfold Ud;refine bN (by rw[RM];simp only[Im,Ai,AD,Aa,Iy,Ii,Iz,es]) g0 rfl (bN rfl (Gr.refl _) hρ ?_);have G:∀s:Hf,mV 8 ρ s=some (.ref q,s):=λs=>by rw[<-hρ];rfl
 have v1:∀s:Hf,mV 1 ρ s=some (.ref nm,s):=λs=>by rw[<-hρ];rfl
 have v2:∀s:Hf,mV 2 ρ s=some (.int (k:Int),s):=λs=>by rw[<-hρ];rfl
 have v3:∀s:Hf,mV 3 ρ s=some (fl,s):=λs=>by rw[<-hρ];rfl
 have v4:∀s:Hf,mV 4 ρ s=some (KA L,s):=λs=>by rw[<-hρ];rfl
 have v6:∀s:Hf,mV 6 ρ s=some (.int (at_:Int),s):=λs=>by rw[<-hρ];rfl
 have wq:∀lit∈(["enough","stick","kind","floor","tile"]:List Str),mT (mB Ie (mB Hr (mV 8) (mK (.int 0))) (mK (.str lit))) ρ s0=some (w0==lit,s0):=λlit hl=>Hw (by
  have:=eq_str (st:=s0) (hW w0 (by simp)).str (Xn lit hl);simp only[II,G,Ii,Aa,i0,this])
 have Q:mT (mB Ie (mV 6) (mK (.int 0))) ρ s0=some (decide (at_=0),s0):=Hw (by
  have:=eq_int (at_:Int) 0 s0;rw[show((at_:Int)==0)=decide (at_=0) by rw[A8];simp]at this;simp only[II,v6,Ii,Aa,this])
 have ck:mT (mB Ie (mV 2) (mK (.int 0))) ρ s0=some (decide (k=0),s0):=Hw (by
  have:=eq_int (k:Int) 0 s0;rw[show((k:Int)==0)=decide (k=0) by rw[A8];simp]at this;simp only[II,v2,Ii,Aa,this])
 have cg:mT (mB IV (mV 2) (mK (.int 0))) ρ s0=some (decide (0<k),s0):=Hw (by
  have:IV (.int (k:Int)) (.int 0) s0=some (.bl (decide (0<k)),s0):=by show some (D.bl (decide ((k:Int) > 0)),s0)=_;rw[show decide ((k:Int) > 0)=decide (0<k) by rw[decide_eq_decide];omega]
  simp only[II,v2,Ii,Aa,this])
 have cf:mT (mB Ku (mV 3) (mK .non)) ρ s0=some (F.isNone,s0):=Hw (by
  simp only[II,v3,Ii,Aa,WA,hF.non])
 have cn:mT (mB Qv (mV 3) (mK .non)) ρ s0=some (!F.isNone,s0):=Hw (by
  have:Qv fl .non s0=some (.bl (!Pg fl),s0):=rfl;simp only[II,v3,Ii,Aa,this,hF.non])
 have p9:ρ[9]?=some (some (.bl false)):=by rw[<-hρ];rfl
 have p6:ρ[6]?=some (some (.int (at_:Int))):=by rw[<-hρ];rfl
 unfold IF;by_cases ha:at_=0
 ·
  rw[decide_eq_true ha]at Q;rw[if_pos ha];have en:JE (mB Ie (mB Hr (mV 8) (mK (.int 0))) (mK (.str "enough"))) (JE (mB Ie (Hi Hl (Hc (mV 8) mZ)) (mK (.int 2))) (Jm HV HV (mK (.int 1)) (Hi O7 (Hc (mB Hr (mV 8) (mK (.int 1))) mZ)) (mK (.int 4)))) ρ s0=some (.bl ((w0=="enough")&&eB r),s0):=by
   have E:=eq_str (st:=s0) (hW w0 (by simp)).str (Xn "enough" (by simp));have E:mB Ie (mB Hr (mV 8) (mK (.int 0))) (mK (.str "enough")) ρ s0=some (.bl (w0=="enough"),s0):=by simp only[II,G,Ii,Aa,i0,E]
   cases n:w0=="enough" with
   |false=>rw[n]at E;exact Kd E
   |true=>
    rw[n]at E;refine Jx E ?_;rw[BE];by_cases h1:r.length=1
    ·obtain⟨a,rfl⟩:=one h1;have i1:Hr (.ref q) (.int 1) s0=some (.str a,s0):=N6 i (by decide) rfl;have e2:=Zj (hR a (by simp)) (Ah _) s0;have lw:Hl [.ref q] s0=some (.int 2,s0):=lw;have H:Ie (.int 2) (.int 2) s0=some (.bl true,s0):=rfl;refine Jx (s1:=s0) (by simp only[II,Je,Iy,Iz,G,Ii,Aa,lw,H]) ?_;show _=some (D.bl (IU 1 4 a),s0);rw[<-Wb (w:=a) (lo:=1) (hi:=4) (by decide) (by decide)];exact Ym (s3:=s0) (s1:=s0) rfl (by simp only[Je,Iy,Iz,II,G,Ii,Aa,i1,e2]) rfl
    rw[aQ h1];have H:=eq_int (r.length+1:Nat) 2 s0;rw[show(((r.length+1:Nat):Int)==2)=false from beq_eq_false_iff_ne.mpr (by omega)]at H;exact Kd (by simp only[II,Je,Iy,Iz,G,Ii,Aa,lw,H])
  cases n:(w0=="enough")&&eB r with
  |false=>
   rw[n]at en;exact Mx (Lm Q (Vp en)) (Gr.refl _) (by rw[<-hρ];rfl) (by rw[<-hρ];rfl)
  |true=>
   rw[n]at en;exact Ox (nm:=nm) (fl:=fl) (Lm Q (Vp en)) (Gr.refl _) (by rw[<-hρ];rfl) (by rw[<-hρ];exact⟨_,_,rfl⟩) A C
 ·rw[decide_eq_false ha]at Q;rw[if_neg ha];have W:=NG (wq "stick" (by simp)) (NG ck cf)
  cases h1:(w0=="stick")&&(decide (k=0)&&F.isNone) with
  |true=>
   rw[h1]at W;rw[if_pos rfl];obtain⟨s1,E,g1⟩:=lL hR (λy e=>(hN y e).2) i A;have N:=(g1.old _ (qax i)).trans i;have hn1:=(g1.old _ (qax A)).trans A;have Y:=Xg (a:=some 1) (b:=some 2) N;have g2:=Gr.app s1 [.lst (cutD ((w0::r).map D.str) (some 1) (some 2))];have hn2:=(g2.old _ (qax hn1)).trans hn1;have hc2:=IJ s1 (.lst (cutD ((w0::r).map D.str) (some 1) (some 2)));have cl:=qO (ds:=(w0::r).map D.str);generalize hs2:s1++[O.lst (cutD ((w0::r).map D.str) (some 1) (some 2))]=s2 at *;have ea:=RJ hn2 hc2 (by rw[Af];omega);have hn3:=IJ s2 (.lst (ns.map D.str++cutD ((w0::r).map D.str) (some 1) (some 2)));have g3:=Gr.app s2 [.lst (ns.map D.str++cutD ((w0::r).map D.str) (some 1) (some 2))];generalize hs3:s2++[O.lst (ns.map D.str++cutD ((w0::r).map D.str) (some 1) (some 2))]=s3 at *;have S:=g1.trans (g2.trans g3);have o:Hi Wh (Hc (mV 8) (Hc (mV 1) mZ)) ρ s0=some (.bl (sB ns.getLast? r),s1):=by simp only[Je,Iy,Iz,G,v1,Aa,E]
   have j:∀b:Bool,mB Ht (mV 1) (Ij (mV 8) (IW (mK (.int 1))) (IW (mK (.int 2)))) (ρ.set 9 (some (.bl b))) s1=some (.ref s2.length,s3):=λb=>by rw[<-hρ,II];show(some (D.ref nm,s1)).bind _=_;simp only[Aa,RC,Im,List.set_cons_succ,List.set_cons_zero,Ai,AD,Lc,Ii,Y,ea]
   cases n:sB ns.getLast? r with
   |false=>
    rw[n]at o;exact Mx (Iq Q (Lm W (Qh o (j _)))) S (by rw[<-hρ];rfl) (by rw[<-hρ];rfl)
   |true=>
    rw[n]at o;have cu:cutD ((w0::r).map D.str) (some 1) (some 2)=[D.str (r.getD 0 "")]:=by
     by_cases K:r.length=2
     ·obtain⟨m,a,rfl⟩:=two K;rfl
     rw[U0 K]at n;cases n
    rw[cu]at hn3;refine Ox (nm:=s2.length) (fl:=fl) (Iq Q (Lm W (Qh o (j _)))) S (by rw[<-hρ];rfl) (by rw[<-hρ];exact⟨_,_,rfl⟩) ?_ (C.gr S);show s3[s2.length]?=some (.lst ((ns++[r.getD 0 ""]).map D.str));rw[hn3,Bt];rfl
  |false=>
   rw[h1]at W;rw[if_neg (by decide)];have B:=NG (wq "kind" (by simp)) cf
   cases K:(w0=="kind")&&F.isNone with
   |true=>
    rw[K]at B;rw[if_pos rfl];obtain⟨s1,E,g1⟩:=lO hR (λy e=>(hN y e).2) i A;rw[lN λy e=>(hN y e).1]at E;have o:Hi Wi (Hc (mV 8) (Hc (mV 1) mZ)) ρ s0=some (.bl (kB ns r),s1):=by simp only[Je,Iy,Iz,G,v1,Aa,E]
    have j:∀b:Bool,mB Ht (mV 2) (mK (.int 1)) (ρ.set 9 (some (.bl b))) s1=some (.int ((k+1:Nat):Int),s1):=λb=>by rw[<-hρ];rfl
    cases n:kB ns r with
    |false=>
     rw[n]at o;exact Mx (Iq Q (Iq W (Lm B (Qh o (j _))))) g1 (by rw[<-hρ];rfl) (by rw[<-hρ];rfl)
    |true=>
     rw[n]at o;exact Ox (nm:=nm) (fl:=fl) (Iq Q (Iq W (Lm B (Qh o (j _))))) g1 (by rw[<-hρ];rfl) (by rw[<-hρ];exact⟨_,_,rfl⟩) ((g1.old _ (qax A)).trans A) (C.gr g1)
   |false=>
    rw[K]at B;rw[if_neg (by decide)];have M:=NG (wq "floor" (by simp)) (NG cg cf)
    cases h3:(w0=="floor")&&(decide (0<k)&&F.isNone) with
    |true=>
     rw[h3]at M;rw[if_pos rfl];have Y:=Wx (s:=s0) (l:=q) (d:=.str w0) (ds:=r.map D.str) i;obtain⟨s1,E,g1⟩:=VC (me:=Ij (mV 8) (IW (mK (.int 1))) Jw) (m:=kD) (ρ:=ρ) (ρ0:=[]) (s:=s0) (s0:=s0++[.lst (r.map D.str)]) (l:=s0.length) (as:=r) (f:=D.str) (g:=λx=>D.int (HI x)) (fr:=[]) (by
       rw[RC];simp only[G,Aa,Lc,Lr,Ii,Y]) (IJ _ _) (by rw[<-hρ];rfl) (by omega) (λx J s' _=>Xl (hR x J) rfl)
     have hc:=IJ s1 (.lst (r.map λx=>D.int (HI x)));have g2:=Gr.app s1 [.lst (r.map λx=>D.int (HI x))];generalize hs2:s1++[O.lst (r.map λx=>D.int (HI x))]=s2 at *;have Z:=M9 hc;have Z:Hl [.ref s1.length] s2=some (.int r.length,s2):=by rw[Z];simp
     obtain⟨s3,e3,g3⟩:=cU (me:=mV 3) (m:=Za) (ρ:=ρ.set 3 (some (.ref s1.length))) (ρ0:=[]) (s:=s2) (s0:=s2) (l:=s1.length) (as:=r) (f:=λx=>D.int (HI x)) (b:=λx=>IU 1 12 x) (fr:=[]) (by rw[<-hρ];rfl) hc (by rw[<-hρ];rfl) (by omega) (λx J s' _=>by refine⟨s',?_,Gr.refl _⟩;rw[<-Wb (w:=x) (lo:=1) (hi:=12) (by decide) (by decide)];exact Ym (s3:=s') (s1:=s') rfl rfl rfl)
     have ev:∃s4,JE (mB Ie (Hi Hl (Hc (mV 3) mZ)) (mK (.int 2))) (Hi Jy (Hc (Jl (Ju (mV 3)) 1 [] (Ho 0) IC Za) mZ)) (ρ.set 3 (some (.ref s1.length))) s2=some (.bl (KO r),s4)/\Gr s2 s4:=by
      have w3:mV 3 (ρ.set 3 (some (.ref s1.length))) s2=some (.ref s1.length,s2):=by rw[<-hρ];rfl
      have H:=eq_int r.length 2 s2;by_cases K:r.length=2
      ·obtain⟨a,b,rfl⟩:=two K;have Z:Hl [.ref s1.length] s2=some (.int 2,s2):=Z;have H:Ie (.int 2) (.int 2) s2=some (.bl true,s2):=rfl;refine⟨s3,Jx (s1:=s2) (by simp only[II,Je,Iy,Iz,w3,Ii,Aa,Z,H]) ?_,g3⟩;rw[e3];simp[KO]
      ·rw[show(((r.length:Int))==2)=false from beq_eq_false_iff_ne.mpr (by omega)]at H;have:KO r=false:=by
        unfold KO;split
        ·exact absurd rfl K
        rfl
       rw[this];exact⟨s2,Kd (by simp only[II,Je,Iy,Iz,w3,Ii,Aa,Z,H]),Gr.refl _⟩
     obtain⟨s4,e4,g4⟩:=ev;have U:=((Gr.app s0 [.lst (r.map D.str)]).trans g1).trans (g2.trans g4);cases n:KO r with
     |false=>
      rw[n]at e4;exact Mx (Iq Q (Iq W (Iq B (Lm M (Qh E e4))))) U (by rw[<-hρ];rfl) (by rw[<-hρ];rfl)
     |true=>
      rw[n]at e4;refine Ox (nm:=nm) (fl:=.ref s1.length) (Iq Q (Iq W (Iq B (Lm M (Qh E e4))))) U (by rw[<-hρ];rfl) (by rw[<-hρ];exact⟨_,_,rfl⟩) ((U.old _ (qax A)).trans A) ?_;unfold KO at n
      split at n
      ·rename_i a b _;rw[Ag]at n;obtain⟨a1,a2,a3,_⟩:=Nn n.1;obtain⟨b1,b2,b3,_⟩:=Nn n.2;have hc4:=(g4.old _ (qax hc)).trans hc;refine⟨s1.length,rfl,?_,?_,?_⟩
       ·rw[hc4];show some (O.lst [.int (HI a),.int (HI b)])=_;rw[a1,b1];rfl
       ·show val a<=1000;omega
       show val b<=1000;omega
      ·cases n
    |false=>
     rw[h3]at M;rw[if_neg (by decide)];have X:=NG (wq "tile" (by simp)) cn
     cases F with
     |none=>
      rw[show((w0=="tile")&&!(none:Option (Int×Int)).isNone)=false by simp]at X;exact Mx (Iq Q (Iq W (Iq B (Iq M (Iq X rfl))))) (Gr.refl _) p9 p6
     |some p=>
      obtain⟨w,h⟩:=p;obtain⟨kf,rfl,hkf,hw,hh⟩:=C;show TurnOk _ s0 T RS at_ x (if _ then _ else _);cases h4:w0=="tile" with
      |false=>
       rw[h4]at X;exact Mx (Iq Q (Iq W (Iq B (Iq M (Iq X rfl))))) (Gr.refl _) p9 p6
      |true=>
       rw[h4]at X;rw[if_pos rfl];obtain⟨s1,E,g1⟩:=lP (L:=L) hR hw hh (by omega) i hkf (k:=k);have N:=(g1.old _ (qax i)).trans i;have Y:=Xg (a:=some 1) (b:=some 3) N;obtain⟨cs,ecs⟩:∃cs:List Str,cutD ((w0::r).map D.str) (some 1) (some 3)=cs.map D.str/\(∀y∈cs,Wd y)/\cs.length<=9001:=by unfold cutD;refine⟨((w0::r).drop _).take _,by rw[BF,List.map_drop],λy e=>hW y (Dx (Bc e)),?_⟩;rw[AN,BQ];simp;omega
       obtain⟨ec,hcs,lcs⟩:=ecs;rw[ec]at Y;have o:Hi Ui (Hc (mV 8) (Hc (mV 3) (Hc (mV 2) (Hc (mV 4) mZ)))) ρ s0=some (.bl (tB w h k L r),s1):=by simp only[Je,Iy,Iz,G,v3,v2,v4,Aa,E]
       obtain⟨s2,e2,g2⟩:=VC (me:=Ij (mV 8) (IW (mK (.int 1))) (IW (mK (.int 3)))) (m:=Zb) (ρ:=ρ.set 9 (some (.bl (tB w h k L r)))) (ρ0:=[]) (s:=s1) (s0:=s1++[.lst (cs.map D.str)]) (l:=s1.length) (as:=cs) (f:=D.str) (g:=λx=>D.int (HI x)) (fr:=[]) (by
         have w8:mV 8 (ρ.set 9 (some (.bl (tB w h k L r)))) s1=some (.ref q,s1):=by rw[<-hρ];rfl
         rw[RC];simp only[w8,Aa,Lc,Lr,Ii,Y]) (IJ _ _) (by rw[<-hρ];rfl) (by omega) (λx J s' _=>Xl (hcs x J) rfl)
       have et:=O6 (IJ s2 (.lst (cs.map λx=>D.int (HI x))));have g3:=Gr.app s2 [.lst (cs.map λx=>D.int (HI x))];generalize hs3:s2++[O.lst (cs.map λx=>D.int (HI x))]=s3 at *;have I:=g1.trans (((Gr.app s1 [.lst (cs.map D.str)]).trans g2).trans g3);have j:Hi LR (Hc (Jl (Ju (Ij (mV 8) (IW (mK (.int 1))) (IW (mK (.int 3))))) 1 [] (Ho 0) IC Zb) mZ) (ρ.set 9 (some (.bl (tB w h k L r)))) s1=some (.tup (cs.map λx=>D.int (HI x)),s3):=by simp only[Je,Iy,e2,Iz,Aa,et]
       cases n:tB w h k L r with
       |false=>
        rw[n]at o j;exact Mx (Iq Q (Iq W (Iq B (Iq M (Lm X (Qh o j)))))) I (by rw[<-hρ];rfl) (by rw[<-hρ];rfl)
       |true=>
        rw[n]at o j;have eL:D.tup (cs.map λx=>D.int (HI x))=KA (some (tV r)):=by
         unfold tB at n;rw[Ag]at n;have n:=n.1;unfold Pp at n;split at n
         ·rename_i a b c _;rw[Ag,Ag]at n;have:cs=[a,b]:=by
           have:[D.str a,D.str b]=cs.map D.str:=ec
           match cs,this with
           |[u,v],this=>
            cases this;rfl
          rw[this];show D.tup [.int (HI a),.int (HI b)]=_;rw[(Nn n.1.1).1,(Nn n.1.2).1];rfl
         ·cases n
        rw[eL]at j;exact Ox (nm:=nm) (fl:=.ref kf) (Iq Q (Iq W (Iq B (Iq M (Lm X (Qh o j)))))) I (by rw[<-hρ];rfl) (by rw[<-hρ];exact⟨_,_,rfl⟩) ((I.old _ (qax A)).trans A) (hF.gr (g0.trans I))
end
def TQ{ss:List Str}{c:Nat}(g:∀x∈ss,x.length<=c)(i:ss.length<=n)(j:z.length<=1):(Txt.join z ss).length<=n*c+n:=by have e:(Txt.join z ss).length=_:=size_glued z ss;have a:=Xr (f:=λx:Str=>x.length) g;have b:ss.length*c<=n*c:=CD c i;have d:(ss.length-1)*z.length<=(ss.length-1)*1:=Fg _ j;rw[e];omega
def We(h:m ρ s=some (.tup ds,s1)):Ju m ρ s=some (⟨ds,[]⟩,s1):=by rw[WO,h];rfl
def dash(x:Str):Str:=if x=="" then "-" else x
def dY(h:x.length<=8):(dash x).length<=8:=by
 unfold dash;split
 ·decide
 exact h
def LQ(e:Int):Str:=Txt.join " " ["enough",Hq e]
def K6(p:Str×Int):Str:=Txt.join " " ["stick",p.1,Hq p.2]
def MW(q:List Str):Str:=Txt.join " " ("kind"::q.map dash)
def Pf(w h:Int):Str:=Txt.join " " ["floor",Hq w,Hq h]
def Nj(t:Tl):Str:=Txt.join " " ["tile",Hq t.1,Hq t.2.1,Hq t.2.2]
def JC(b:Iw):List Str:=[LQ b.ho.e]++b.ho.sticks.map K6++b.ho.kinds.map MW++[Pf b.w b.h]++b.ts.map Nj
structure WL(b:Iw):Prop where
 e:0<=b.ho.e/\b.ho.e<=1000
 s:∀p∈b.ho.sticks,p.1.length<=8/\0<=p.2/\p.2<=1000
 sl:b.ho.sticks.length<=100
 k:∀q∈b.ho.kinds,q.length=5/\(∀x∈q,x.length<=8)/\∀x∈q,Ap x=true
 kl:b.ho.kinds.length<=1000
 f:(0<=b.w/\b.w<=1000)/\0<=b.h/\b.h<=1000
 t:∀t∈b.ts,(0<=t.1/\t.1<=1000)/\(0<=t.2.1/\t.2.1<=1000)/\0<=t.2.2/\t.2.2<=1000
 tl:b.ts.length<=100
variable {c:Str}
def VT{b d:Str}{l:List Str}(h:l=[a,b]\/l=[a,b,c]\/l=[a,b,c,d])(e:a.length<=8)(g:b.length<=8)(i:c.length<=8)(hd:d.length<=8):(Txt.join " " l).length<=80:=by
 refine Ar (TQ (c:=8) (n:=4) ?_ ?_<|by decide)<|by decide
 ·intro x f
  rcases h with rfl|rfl|rfl<;>simp at f<;>rcases f with rfl|rfl|rfl|rfl<;>first|assumption|(rcases f with rfl|rfl<;>assumption)
 rcases h with rfl|rfl|rfl<;>simp
def gE{b:Iw}(h:WL b):∀x∈JC b,x.length<=80:=by
 have il:∀i:Int,0<=i->i<=1000->(Hq i).length<=8:=λi h0 u=>Ar (fO h0<|by omega) (by decide);intro x a;unfold JC at a;simp only[Eo,Fy,GB]at a
 rcases a with(((rfl|⟨p,l,rfl⟩)|⟨q,m,rfl⟩)|rfl)|⟨t,o,rfl⟩
 ·exact VT (c:="") (d:="") (.inl rfl) (by decide) (il _ h.e.1 h.e.2) (by decide) (by decide)
 ·have:=h.s p l;exact VT (d:="") (.inr<|.inl rfl) (by decide) this.1 (il _ this.2.1 this.2.2) (by decide)
 ·obtain⟨v,hl,_⟩:=h.k q m;refine Ar (TQ (c:=8) (n:=6) ?_ (by simp;omega)<|by decide) (by decide);intro y hy
  rcases KM.mp hy with rfl|hy
  ·decide
  obtain⟨z,r,rfl⟩:=P3.mp hy;exact dY<|hl z r
 ·exact VT (d:="") (.inr<|.inl rfl) (by decide) (il _ h.f.1.1 h.f.1.2) (il _ h.f.2.1 h.f.2.2) (by decide)
 obtain⟨x,y,z⟩:=h.t t o;exact VT (.inr<|.inr rfl) (by decide) (il _ x.1 x.2) (il _ y.1 y.2)<|il _ z.1 z.2
def gD{b:Iw}(h:WL b):(JC b).length<=1300:=by have:=h.sl;have:=h.kl;have:=h.tl;unfold JC;simp;omega
def aS{B:ME}{i r:Nat}{A:List D}(hi:ρ[i]?=some (some<|.ref r))(j:s[r]?=some (.lst A))(e:B ρ s=some (d,s1))(g:Gr s s1)(C:A.length<=10000):
  Li (Lk (mV i)<|Hc B mZ) ρ s=some (.nx ρ,s1.set r (O.lst<|A++[d])):=by
 have a:s1[r]?=some (.lst A):=(g.old _<|qax j).trans j;have c:Il s r=some A:=by unfold Il;rw[j]
 have f:=append_at (x:=d) a C;rw[M0,MZ,Im,hi];simp only[Aa,c,Iy,e,Iz,f,Aj]
def Tt{b:Str}(h:a.cps=b.cps++c.cps)(x:Str):a++x=b++c++x:=by show Gz (a.cps++x.cps)=Gz (b.cps++c.cps++x.cps);rw[h]
def eL(e:Int):("enough ":Str)++Hq e=LQ e:=Tt (b:="enough") (c:=" ") (by decide) _
def sL(p:Str×Int):(("stick ":Str)++p.1)++" "++Hq p.2=K6 p:=by rw[Tt (a:="stick ") (b:="stick") (c:=" ") (by decide) p.1];rfl
def fL(w h:Int):(("floor ":Str)++Hq w)++" "++Hq h=Pf w h:=by rw[Tt (a:="floor ") (b:="floor") (c:=" ") (by decide) (Hq w)];rfl
def tL(t:Tl):(((("tile ":Str)++Hq t.1)++" ")++Hq t.2.1)++" "++Hq t.2.2=Nj t:=by rw[Tt (a:="tile ") (b:="tile") (c:=" ") (by decide) (Hq t.1)];rfl
def kL{q:List Str}(h:q.length=5):("kind ":Str)++Txt.join " " (q.map dash)=MW q:=by
 match q,h with
 |a::l,_=>
  rw[Tt (a:="kind ") (b:="kind") (c:=" ") (by decide) _];show _=Builtin.Str.glued " " ("kind"::dash a::l.map dash);rw[A5];show _="kind"++" "++B5 " " (dash a::l.map dash);rw[<-A5];rfl
def rE(h:Ap x=true)(e:x.length<=8):Sd [some (.str x)] s=some (.str (dash x),s):=by
 have c:=eq_str (st:=s) h eA;have em:=eJ (z:="-") (b:=x=="") (st:=s) (by decide);have a:Ht (.str x) (.str<|if(x=="")=true then "-" else Ej) s=some (.str (dash x),s):=by
  unfold dash;split
  ·rename_i f;have:x="":=eq_of_beq f;subst this;rfl
  ·have h0:Str.empty.length=0:=by decide
   rw[add_str (by omega),gR]
 simp only[beq_iff_eq]at em a;unfold Sd;simp[c,em,a]
def zmN{q:List Str}{a0 a1 a2 a3:Option D}{r:Nat}{A:List D}(h:∀x∈q,Ap x=true)(e:q.length=5)(hs:∀x∈q,x.length<=8)(g:s[r]?=some (.lst A))(j:A.length<=9000):
  Zc [a0,a1,a2,a3,some (.ref r),some (JB q)] s=some (.nx [a0,a1,a2,a3,some (.ref r),some (JB q)],(s++[O.lst ((q.map dash).map D.str)]).set r (O.lst<|A++[D.str (MW q)])):=by
 have l:Kt ⟨q.map D.str,[]⟩ (Ho 0) IC Sd (q.map D.str) [none] s=some (q.map λx=>D.str (dash x),s):=by refine QA (R:=λρ=>∃u,ρ=[u]) ⟨none,rfl⟩ rfl λp a ρ hρ=>?_;obtain⟨u,rfl⟩:=hρ;exact⟨[some (.str p)],rfl,rfl,rE (h p a)<|hs p a,⟨_,rfl⟩⟩
 have fl:fits (q.map λx=>D.str (dash x)).length=true:=Ko (by rw[Af];omega);have em:(q.map λx=>D.str (dash x))=(q.map dash).map D.str:=by simp
 have f:Jl (Ju<|mV 5) 1 [] (Ho 0) IC Sd [a0,a1,a2,a3,some (.ref r),some (JB q)] s=some (.ref s.length,s++[.lst ((q.map dash).map D.str)]):=by rw[Ji,We (m:=mV 5) (ds:=q.map D.str) (s1:=s) rfl];simp only[Aa];rw[show Hz [a0,a1,a2,a3,some (.ref r),some (JB q)] 1 []=[none] from rfl,l];simp only[Aa,fl,if_true];rw[em]
 have dl:∀x∈q.map dash,x.length<=8:=λx o=>by obtain⟨p,a,rfl⟩:=P3.mp o;exact dY<|hs p a
 have v:=Yq (z:=" ") (c:=8) (n:=5) (IJ s<|.lst<|(q.map dash).map D.str) dl (by simp;omega) (by decide) (by decide);have w:Ht (.str "kind ") (.str<|Txt.join " "<|q.map dash) (s++[.lst ((q.map dash).map D.str)])=some (.str (MW q),s++[.lst ((q.map dash).map D.str)]):=by
  rw[<-kL e];refine add_str ?_;have:=TQ (z:=" ") (c:=8) (n:=5) dl (by simp;omega) (by decide);have:(("kind ":Str)).length=5:=by decide
  omega
 have y:mB Ht (mK<|.str "kind ") (OQ (mK<|.str " ")<|Hc (Jl (Ju<|mV 5) 1 [] (Ho 0) IC Sd) mZ) [a0,a1,a2,a3,some (.ref r),some (JB q)] s=some (.str (MW q),s++[.lst ((q.map dash).map D.str)]):=by rw[II,Ii,Aa,JH,Ii,Aa];simp only[Iy,f,Aa,Iz,v,w]
 exact aS (i:=4) rfl g y (Gr.app _ _)<|by omega
def xK{b:Iw}(h:WL b):∃l st',Zi [b.d] st=some (.ref l,st')/\st'[l]?=some (.lst ((JC b).map D.str))/\Gr st st':=by
 have E:∀i:Int,0<=i->i<=1000->(Hq i).length<=8:=λi h0 h1=>Ar (fO h0 (by omega)) (by decide);have is:∀i:Int,0<=i->i<=1000->∀s,J1 [.int i] s=some (.str (Hq i),s):=λi h0 h1 s=>zht h0 (by omega);have i0:=is _ h.e.1 h.e.2
 have e1:∀s:Hf,Ht (.str "enough ") (.str (Hq b.ho.e)) s=some (.str (LQ b.ho.e),s):=λs=>by
  rw[<-eL];refine add_str ?_;have:=E _ h.e.1 h.e.2;have:(("enough ":Str)).length=7:=by decide
  omega
 have a:∃s1,s1=st++[O.lst [D.str (LQ b.ho.e)]]:=⟨_,rfl⟩;obtain⟨s1,a⟩:=a;have a1:s1[st.length]?=some (.lst (([LQ b.ho.e]:List Str).map D.str)):=by rw[a];exact IJ _ _
 have g1:Gr st s1:=by rw[a];exact Gr.app _ _
 have ec:Kt ⟨b.ho.sticks.map Jb,[]⟩ (LP 2 (gC (Ho 0) (gC (Ho 1) Lo))) IC Wm (b.ho.sticks.map Jb) [none,none] s1=some (b.ho.sticks.map λp=>D.str (K6 p),s1):=by
  refine QA (R:=λρ=>∃u v,ρ=[u,v]) ⟨none,none,rfl⟩ rfl λp hp ρ hρ=>?_;obtain⟨u,v,rfl⟩:=hρ;obtain⟨F,c,r⟩:=h.s p hp;refine⟨[some (.str p.1),some (.int p.2)],rfl,rfl,?_,⟨_,_,rfl⟩⟩;have Y:(("stick ":Str)).length=6:=by decide
  have Z:((" ":Str)).length=1:=by decide
  have b1:Ht (.str "stick ") (.str p.1) s1=some (.str ("stick "++p.1),s1):=add_str (by omega);have Q:Ht (.str ("stick "++p.1)) (.str " ") s1=some (.str ("stick "++p.1++" "),s1):=add_str (by rw[AS];omega);have T:Ht (.str ("stick "++p.1++" ")) (.str (Hq p.2)) s1=some (.str (K6 p),s1):=by rw[<-sL];refine add_str ?_;have:=E _ c r;rw[AS,AS];omega
  have i1:=is _ c r s1;unfold Wm;generalize Hq p.2=n at *;simp[b1,Q,i1,T]
 have fl:fits (b.ho.sticks.map λp=>D.str (K6 p)).length=true:=Ko (by rw[Af];have:=h.sl;omega);have em:(b.ho.sticks.map λp=>D.str (K6 p))=(b.ho.sticks.map K6).map D.str:=by simp
 generalize hK:D.tup (b.ho.kinds.map JB)=KK;have j:Jl (Ju (mV 2)) 2 [] (LP 2 (gC (Ho 0) (gC (Ho 1) Lo))) IC Wm [some b.d,some (.int b.ho.e),some (.tup (b.ho.sticks.map Jb)),some KK,none,none] s1=some (.ref s1.length,s1++[.lst ((b.ho.sticks.map K6).map D.str)]):=by rw[Ji,We (m:=mV 2) (ds:=b.ho.sticks.map Jb) (s1:=s1) rfl];simp only[Aa];rw[show Hz [some b.d,some (.int b.ho.e),some (.tup (b.ho.sticks.map Jb)),some KK,none,none] 2 []=[none,none] from rfl,ec];simp only[Aa,fl,if_true];rw[em]
 generalize B:s1++[O.lst ((b.ho.sticks.map K6).map D.str)]=s2 at j;have a2:s2[s1.length]?=some (.lst ((b.ho.sticks.map K6).map D.str)):=by rw[<-B];exact IJ _ _
 have g2:Gr s1 s2:=by rw[<-B];exact Gr.app _ _
 have J:=(g2.old _ (qax a1)).trans a1;have H:=RJ J a2 (by have:=h.sl;simp;omega);rw[<-Bt]at H;have C:∃l,l=s2.length:=⟨_,rfl⟩
 obtain⟨l,C⟩:=C;have K:(s2++[O.lst (([LQ b.ho.e]++b.ho.sticks.map K6).map D.str)])[l]?=some (.lst (([LQ b.ho.e]++b.ho.sticks.map K6).map D.str)):=by rw[C];exact IJ _ _
 have g3:Gr st (s2++[O.lst (([LQ b.ho.e]++b.ho.sticks.map K6).map D.str)]):=(g1.trans g2).trans (Gr.app _ _);have A:st.length<=l:=by rw[C];exact(g1.trans g2).len
 rw[<-C]at H;generalize s2++[O.lst (([LQ b.ho.e]++b.ho.sticks.map K6).map D.str)]=s3 at H K g3;have key:=QG (W:=⟨b.ho.kinds.map JB,[]⟩) (g:=Ho 5) (m:=Zc) (ds:=b.ho.kinds.map JB) (ρ:=[some b.d,some (.int b.ho.e),some (.tup (b.ho.sticks.map Jb)),some KK,some (.ref l),none]) (st:=s3)
  (Inv:=λk ρ s=>(∃v,ρ=[some b.d,some (.int b.ho.e),some (.tup (b.ho.sticks.map Jb)),some KK,some (.ref l),v])/\s[l]?=some (.lst (([LQ b.ho.e]++b.ho.sticks.map K6++(b.ho.kinds.take k).map MW).map D.str))/\Gr st s)
  ⟨⟨none,rfl⟩,by simpa using K,g3⟩ (λ_ _ _ _ _=>rfl) (λk d ρ s hd hI=>by
   obtain⟨⟨v,rfl⟩,G,g⟩:=hI;rw[AJ]at hd;obtain⟨q,hq,rfl⟩:=ID hd;obtain⟨F,c,r⟩:=h.k q (AK hq);have hA:(([LQ b.ho.e]++b.ho.sticks.map K6++(b.ho.kinds.take k).map MW).map D.str).length<=9000:=by have:=h.sl;have:=h.kl;simp;omega
   have e:=zmN (a0:=some b.d) (a1:=some (.int b.ho.e)) (a2:=some (.tup (b.ho.sticks.map Jb))) (a3:=some KK) r F c G hA;obtain⟨gg,aa⟩:=W3 (o:=O.lst ((([LQ b.ho.e]++b.ho.sticks.map K6++(b.ho.kinds.take k).map MW).map D.str)++[D.str (MW q)])) g (Gr.app s [O.lst ((q.map dash).map D.str)]) A (qax G);refine⟨_,s,_,_,rfl,e,⟨_,rfl⟩,?_,gg⟩;rw[aa,FI,hq];simp)
 obtain⟨ρ',s4,e4,⟨v,rfl⟩,M,g4⟩:=key;rw[Af,B4]at M;have fw:=is _ h.f.1.1 h.f.1.2 s4;have fh:=is _ h.f.2.1 h.f.2.2 s4;have e5:mB Ht (mB Ht (mB Ht (mK (.str "floor ")) (Hi J1 (Hc (mB Hr (mB Hr (mV 0) (mK (.int 1))) (mK (.int 0))) mZ))) (mK (.str " "))) (Hi J1 (Hc (mB Hr (mB Hr (mV 0) (mK (.int 1))) (mK (.int 1))) mZ)) [some b.d,some (.int b.ho.e),some (.tup (b.ho.sticks.map Jb)),some KK,some (.ref l),v] s4=some (.str (Pf b.w b.h),s4):=by
  have Y:(("floor ":Str)).length=6:=by decide
  have Z:((" ":Str)).length=1:=by decide
  have lw:=E _ h.f.1.1 h.f.1.2;have lh:=E _ h.f.2.1 h.f.2.2;have b1:Ht (.str "floor ") (.str (Hq b.w)) s4=some (.str ("floor "++Hq b.w),s4):=add_str (by omega);have Q:Ht (.str ("floor "++Hq b.w)) (.str " ") s4=some (.str ("floor "++Hq b.w++" "),s4):=add_str (by rw[AS];omega);have T:Ht (.str ("floor "++Hq b.w++" ")) (.str (Hq b.h)) s4=some (.str (Pf b.w b.h),s4):=by rw[<-fL];refine add_str ?_;rw[AS,AS];omega
  have x0:=UK b s4;have x1:=GP b.w b.h s4;have x2:=GO b.w b.h s4;generalize Hq b.w=n at *;generalize Hq b.h=m at *;simp[x0,x1,x2,fw,fh,b1,Q,T]
 have x5:=aS (i:=4) rfl M e5 (Gr.refl _) (by have:=h.sl;have:=h.kl;simp;omega);obtain⟨g5,I⟩:=W3 (o:=O.lst ((([LQ b.ho.e]++b.ho.sticks.map K6++b.ho.kinds.map MW).map D.str)++[D.str (Pf b.w b.h)])) g4 (Gr.refl s4) A (qax M);generalize s4.set l (O.lst ((([LQ b.ho.e]++b.ho.sticks.map K6++b.ho.kinds.map MW).map D.str)++[D.str (Pf b.w b.h)]))=s5 at x5 g5 I;have N:((([LQ b.ho.e]++b.ho.sticks.map K6)++b.ho.kinds.map MW).map D.str)++[D.str (Pf b.w b.h)]=(([LQ b.ho.e]++b.ho.sticks.map K6)++b.ho.kinds.map MW++[Pf b.w b.h]).map D.str:=by simp
 rw[N]at I;have S:Kt ⟨b.ts.map λt=>HE (HC t),[]⟩ (LP 3 (gC (Ho 0) (gC (Ho 1) (gC (Ho 2) Lo)))) IC Wo (b.ts.map λt=>HE (HC t)) [none,none,none] s5=some (b.ts.map λt=>D.str (Nj t),s5):=by
  refine QA (R:=λρ=>∃u v w,ρ=[u,v,w]) ⟨none,none,none,rfl⟩ rfl λt ht ρ hρ=>?_;obtain⟨u,v,w,rfl⟩:=hρ;obtain⟨F,c,r⟩:=h.t t ht;refine⟨[some (.int t.1),some (.int t.2.1),some (.int t.2.2)],rfl,rfl,?_,⟨_,_,_,rfl⟩⟩;have Y:(("tile ":Str)).length=5:=by decide
  have Z:((" ":Str)).length=1:=by decide
  have l1:=E _ F.1 F.2;have l2:=E _ c.1 c.2;have l3:=E _ r.1 r.2;have j1:=is _ F.1 F.2 s5;have j2:=is _ c.1 c.2 s5;have j3:=is _ r.1 r.2 s5;have S:=tL t;generalize Hq t.1=x at *;generalize Hq t.2.1=y at *;generalize Hq t.2.2=z at *;have b1:Ht (.str "tile ") (.str x) s5=some (.str ("tile "++x),s5):=add_str (by omega);have Q:Ht (.str ("tile "++x)) (.str " ") s5=some (.str ("tile "++x++" "),s5):=add_str (by rw[AS];omega);have T:Ht (.str ("tile "++x++" ")) (.str y) s5=some (.str ("tile "++x++" "++y),s5):=add_str (by rw[AS,AS];omega);have b4:Ht (.str ("tile "++x++" "++y)) (.str " ") s5=some (.str ("tile "++x++" "++y++" "),s5):=add_str (by rw[AS,AS,AS];omega);have b5:Ht (.str ("tile "++x++" "++y++" ")) (.str z) s5=some (.str (Nj t),s5):=by rw[<-S];refine add_str ?_;rw[AS,AS,AS,AS];omega
  unfold Wo;simp[j1,j2,j3,b1,Q,T,b4,b5]
 have ft:fits (b.ts.map λt=>D.str (Nj t)).length=true:=Ko (by rw[Af];have:=h.tl;omega);have U:(b.ts.map λt=>D.str (Nj t))=(b.ts.map Nj).map D.str:=by simp
 have X:Jl (Ju (mB Hr (mV 0) (mK (.int 2)))) 3 [] (LP 3 (gC (Ho 0) (gC (Ho 1) (gC (Ho 2) Lo)))) IC Wo [some b.d,some (.int b.ho.e),some (.tup (b.ho.sticks.map Jb)),some KK,some (.ref l),v] s5=some (.ref s5.length,s5++[.lst ((b.ts.map Nj).map D.str)]):=by rw[Ji,We (ds:=b.ts.map λt=>HE (HC t)) (s1:=s5) (by simp[Rf];rfl)];simp only[Aa];rw[show Hz [some b.d,some (.int b.ho.e),some (.tup (b.ho.sticks.map Jb)),some KK,some (.ref l),v] 3 []=[none,none,none] from rfl,S];simp only[Aa,ft,if_true];rw[U]
 have a6:(s5++[O.lst ((b.ts.map Nj).map D.str)])[l]?=_:=((Gr.app s5 [O.lst ((b.ts.map Nj).map D.str)]).old _ (qax I)).trans I;have L:=RJ a6 (IJ s5 (.lst ((b.ts.map Nj).map D.str))) (by have:=h.sl;have:=h.kl;have:=h.tl;simp;omega);rw[<-Bt]at L;have eB:([LQ b.ho.e]++b.ho.sticks.map K6)++b.ho.kinds.map MW++[Pf b.w b.h]++b.ts.map Nj=JC b:=rfl;rw[eB]at L;refine⟨_,_,IG ?_,IJ _ _,g5.trans ((Gr.app s5 [O.lst ((b.ts.map Nj).map D.str)]).trans (Gr.app _ [O.lst ((JC b).map D.str)]))⟩;unfold jV;refine HD (ρ1:=[some b.d,some (.int b.ho.e),some (.tup (b.ho.sticks.map Jb)),some KK,none,none]) (s1:=st) ?_ ?_
 ·rw[J9,II,show(mV 0 (Jf 6 [b.d]) st:Option (D×Hf))=some (b.d,st) from rfl];simp only[Aa,Ii,Rg,<-hK];rfl
 refine HD (ρ1:=[some b.d,some (.int b.ho.e),some (.tup (b.ho.sticks.map Jb)),some KK,some (.ref l),none]) (s1:=s3) ?_ ?_
 ·have el:mL (Hc (mB Ht (mK (.str "enough ")) (Hi J1 (Hc (mV 1) mZ))) mZ) [some b.d,some (.int b.ho.e),some (.tup (b.ho.sticks.map Jb)),some KK,none,none] st=some (.ref st.length,s1):=by
   rw[a];simp[i0,e1]
  rw[J9,II,el];simp only[Aa,j,H,Ng,Aj];rfl
 refine HD (ρ1:=[some b.d,some (.int b.ho.e),some (.tup (b.ho.sticks.map Jb)),some KK,some (.ref l),v]) (s1:=s4) ?_ ?_
 ·rw[Lv,We (ds:=b.ho.kinds.map JB) (s1:=s3) (by rw[Im,<-hK];rfl)];exact e4
 refine HD x5 ?_;rw[Lx,II,show(mV 4 [some b.d,some (.int b.ho.e),some (.tup (b.ho.sticks.map Jb)),some KK,some (.ref l),v] s5:Option (D×Hf))=some (.ref l,s5) from rfl];simp only[Aa,X,L,Aj]
def blank:(" ":Str)=⟨#[32]⟩:=by decide
def dX:("-":Str).cps.toList=[45]:=by decide
def Mz(p:Str×Int):List Str:=[p.1,Hq p.2]
def Ll(q:List Str):List Str:=q.map dash
def Ks(t:Tl):List Str:=[Hq t.1,Hq t.2.1,Hq t.2.2]
def IM(b:Iw):List (List Str):=[("enough":Str),Hq b.ho.e]::(b.ho.sticks.map (λp=>("stick":Str)::Mz p)++(b.ho.kinds.map (λq=>("kind":Str)::Ll q)++([("floor":Str),Hq b.w,Hq b.h]::b.ts.map λt=>("tile":Str)::Ks t)))
def YA(b:Iw):JC b=(IM b).map (Txt.join " "):=by unfold JC IM;simp only[Au,Bt,BO,Ao,List.singleton_append,Df,CN];rfl
structure Rt(b:Iw):Prop where
 ho:b.ho.Ok 6
 w0:1<=b.w
 w1:b.w<=12
 h0:1<=b.h
 h1:b.h<=12
 ts:JR b.w b.h b.ho.kinds.length b.ts
 len:b.ts.length<=12
def Wc(x:Str):Prop:=x.length<=8/\∀c∈x.cps.toList,33<=c/\c<=122
variable {i:Int}
def Wc.int(h0:0<=i)(e:i<=1000):Wc (Hq i):=⟨Ar (dI h0<|by omega)<|by decide,λc a=>by have:=fN h0 c a;omega⟩
def Wc.name(h:HB x):Wc x:=⟨by have:=h.hi;rw[AA]at this;exact this,λc a=>by have:=h.ab c a;omega⟩
def Wc.dash0:Wc ("-":Str):=⟨by decide,λc a=>by rw[dX]at a;simp at a;omega⟩
def Wc.dsh(h:Wc x):Wc (dash x):=by
 unfold dash;split
 ·exact Wc.dash0
 exact h
def Wc.empty:Wc ("":Str):=⟨by decide,λc a=>by
 have:("":Str).cps.toList=[]:=by decide
 rw[this]at a;cases a⟩
def Wc.side{ns:List Str}(hn:∀y∈ns,HB y)(h:Oo ns x):Wc x:=by
 rcases h with rfl|h
 ·exact Wc.empty
 exact Wc.name<|hn x h
def Wc.face(h:K3 x):Wc x:=⟨by have:=h.len;rw[AA]at this;exact Ar this (by decide),λc a=>by rcases h.ab c a with h|h<;>omega⟩
def Tj:∀x∈(["enough","stick","kind","floor","tile"]:List Str),Wc x/\Ap x=true:=by
 have:∀x∈(["enough","stick","kind","floor","tile"]:List Str),(decide (x.length<=8)&&x.cps.toList.all (λc=>decide (33<=c/\c<=122))&&Ap x)=true:=by decide +kernel
 intro x a;have h:=this x a;rw[Ag,Ag]at h;refine⟨⟨of_decide_eq_true h.1.1,λc f=>of_decide_eq_true (List.all_eq_true.mp h.1.2 c f)⟩,h.2⟩
structure RowW(ws:List Str):Prop where
 ne:ws≠[]
 few:ws.length<=6
 wd:∀x∈ws,Wc x
variable {ho:Jt}
def fM{ho:Jt}{m:Int}(h:ho.Ok m):∀y∈ho.sticks.map (·.1),HB y:=λy a=>by obtain⟨p,c,rfl⟩:=P3.mp a;exact h.names p c
def Xc{b:Iw}(h:Rt b):∀ws∈IM b,RowW ws:=by
 have i:=fM h.ho;have w:=h.ho.k1;intro ws hw;unfold IM at hw;simp only[Br,Eo,GB]at hw;rcases hw with rfl|⟨p,l,rfl⟩|⟨q,m,rfl⟩|rfl|⟨t,n,rfl⟩
 ·have x:=h.ho.e0;have y:=h.ho.e1;exact⟨by simp,by simp,all2 (Tj _<|by simp).1<|Wc.int (by omega)<|by omega⟩
 ·have s:=h.ho.str p l;exact⟨by simp,by simp[Mz],OH (Tj _<|by simp).1 (Wc.name<|h.ho.names p l)<|Wc.int (by omega)<|by omega⟩
 ·obtain⟨f,a,c,d,e,rfl,hf,o,r,hd,he⟩:=h.ho.kind q m;exact⟨by simp,by simp[Ll],Js (Tj _<|by simp).1<|Js (Wc.face hf).dsh<|Js (Wc.side i o).dsh<|OH (Wc.side i r).dsh (Wc.side i hd).dsh (Wc.side i he).dsh⟩
 ·have a:=h.w0;have b:=h.w1;have c:=h.h0;have d:=h.h1;exact⟨by simp,by simp,OH (Tj _<|by simp).1 (Wc.int (by omega)<|by omega)<|Wc.int (by omega)<|by omega⟩
 obtain⟨x0,z,u,A,v,E⟩:=h.ts.ok t n;have b:=h.w1;have d:=h.h1;exact⟨by simp,by simp[Ks],Js (Tj _<|by simp).1<|OH (Wc.int x0<|by omega) (Wc.int u<|by omega)<|Wc.int v<|by omega⟩
def YB{b:Iw}(h:Rt b):(IM b).length<=30:=by have a:=h.ho.few;have f:=h.ho.k1;have c:=h.len;unfold IM;simp;omega
def wA(h:RowW ws):(Txt.join " " ws).length<=54:=TQ (z:=" ") (c:=8) (n:=6) (λx a=>(h.wd x a).1) h.few (by decide)
def vZ(h:RowW ws):10∉(Txt.join " " ws).cps.toList:=by
 intro a;have e:Txt.join " " ws=B5 ⟨#[32]⟩ ws:=by rw[<-blank];exact A5 _ _
 rw[e,Cz]at a;rcases a with⟨w,hw,a⟩|⟨_,a⟩
 ·have:=(h.wd w hw).2 _ a;omega
 simp at a
def zl5(h:RowW ws):Txt.split (Txt.join " " ws) " "=ws:=by rw[blank];refine iV h.ne λw hw a=>?_;have:=(h.wd w hw).2 _ a;omega
def feed:("\n":Str)=⟨#[10]⟩:=by decide
def zjN{rss:List (List Str)}(e:rss≠[])(h:∀ws∈rss,RowW ws):Txt.split (Txt.join "\n"<|rss.map<|Txt.join " ") "\n"=rss.map (Txt.join " "):=by rw[feed];refine iV (by simpa using e) λw hw=>?_;obtain⟨ws,a,rfl⟩:=P3.mp hw;exact vZ<|h ws a
def Rt.p{b:Iw}(h:Rt b):b.P:=by
 refine⟨λp i=>(h.ho.names p i).str,by have:=h.ho.few;omega,λk hk=>⟨?_,OY.str (λy l=>?_)<|h.ho.kind k hk⟩,by have:=h.ho.k1;omega,by have:=h.len;omega⟩
 ·obtain⟨f,a,b,c,d,rfl,_⟩:=h.ho.kind k hk;rfl
 obtain⟨p,i,rfl⟩:=P3.mp l;exact h.ho.names p i
def Rt.b{b:Iw}(ok:Rt b):WL b:=by
 have m:=ok.p;have x:=ok.ho.k1;have h:=fM ok.ho;refine⟨⟨by have:=ok.ho.e0;omega,by have:=ok.ho.e1;omega⟩,λp i=>?_,by have:=ok.ho.few;omega,λq l=>?_,by omega,⟨⟨by have:=ok.w0;omega,by have:=ok.w1;omega⟩,by have:=ok.h0;omega,by have:=ok.h1;omega⟩,λt n=>?_,by have:=ok.len;omega⟩
 ·have:=ok.ho.str p i;exact⟨(Wc.name<|ok.ho.names p i).1,by omega,by omega⟩
 ·obtain⟨o,r⟩:=m.kinds q l;refine⟨o,?_,r⟩;obtain⟨f,a,c,d,e,rfl,hf,s,u,hd,he⟩:=ok.ho.kind q l;exact Js (Wc.face hf).1<|Js (Wc.side h s).1<|OH (Wc.side h u).1 (Wc.side h hd).1 (Wc.side h he).1
 obtain⟨x0,y,v,z,w,A⟩:=ok.ts.ok t n;have:=ok.w1;have:=ok.h1;exact⟨⟨x0,by omega⟩,⟨v,by omega⟩,w,by omega⟩
def Rt.of{b:Iw}{m:Int}(h:b.Ok m)(hm:m<=6):Rt b:=by obtain⟨⟨a1,a2,a,c,f,i,l,n,o,q⟩,b1,r,s,u,v,w⟩:=h;exact⟨⟨a1,a2,a,c,f,i,l,n,o,by omega⟩,b1,r,s,u,v,by omega⟩
def sN{b:Str}(h:sle a b=true)(e:a≠b):a.cps.toList<b.cps.toList:=by
 by_cases hc:a.cps.toList<b.cps.toList
 ·exact hc
 refine absurd (fS h ?_) e;unfold sle;rw[decide_eq_false hc];rfl
def vJ{u t:Tl}(h:Kl (HC u) (HC t)=true)(e:KU u t=false):lexLe [t.1,t.2.1] [u.1,u.2.1]=false:=by
 unfold Kl at h;unfold KU at e;rw[Bv]at h;have h:HT.lexLt [t.1,t.2.1,t.2.2] [u.1,u.2.1,u.2.2]=false:=h;simp only[HT.HS]at h;unfold lexLe;by_cases h1:t.1=u.1
 ·rw[if_pos h1]at h ⊢;unfold lexLe
  by_cases h2:t.2.1=u.2.1
  ·simp[h1,h2]at e
  rw[if_neg h2]at h ⊢;have:=of_decide_eq_false h;exact decide_eq_false<|by omega
 rw[if_neg h1]at h ⊢;have:=of_decide_eq_false h;exact decide_eq_false<|by omega
def TL(h0:0<=i)(e:i<1000000):good (Hq i) 6=true/\val (Hq i)=i:=by
 have hd:=fN h0;have l:=uF h0;have m:=dI h0 e;have o:=TN h0;have f:good (Hq i) 6=true:=by
  unfold good;have a:Mc (Hq i)=true:=List.all_eq_true.mpr λc q=>by have:=hd c q;unfold dig;simp[this]
  have b:lead (Hq i)=false:=by
   by_cases hz:i=0
   ·subst hz
    decide +kernel
   ·obtain⟨c,r,er,u,v⟩:=xD i.toNat (by omega);unfold lead;rw[o,er];have:(some c==some 48)=false:=by
     rw[beq_eq_false_iff_ne];intro z;cases z;omega
    show(some c==some 48&&_)=false;rw[this];rfl
  rw[a,b,decide_eq_true l,decide_eq_true m];rfl
 refine⟨f,?_⟩;have s:=good_int f (by decide) [];have h:MJ [.str (Hq i)] []=some (.int i,[]):=by unfold MJ Oe;rw[show HF [.str (Hq i)] []=none from rfl,Kj];have:Sv [.str (Hq i)] []=if decide ((Hq i).length<=640)=true then(C1<|Hq i).map (λn=>(D.int n,[]))else none:=rfl;rw[this,if_pos (decide_eq_true<|by omega),zk3 h0 e];rfl
 rw[s]at h;exact D.int.inj<|congrArg Prod.fst<|As h
def Qu{lo hi:Int}(h0:0<=lo)(e:hi<1000000)(a:lo<=i)(b:i<=hi):IU lo hi (Hq i)=true/\val (Hq i)=i:=by obtain⟨g,v⟩:=TL (i:=i) (by omega) (by omega);refine⟨?_,v⟩;unfold IU;rw[g,v,decide_eq_true a,decide_eq_true b];rfl
variable {Z:Rows}
section
variable {b:List α->List Str->Bool}{v:List Str->α}{wo:α->List Str}
theorem Vt(g:∀r G,Z≠(word::r)::G):∀(as acc:List α),(∀a∈as,v (wo a)=a)->(∀A a B,acc++as=A++a::B->acc.length<=A.length->b A (wo a)=true)->HU word b v (as.map (λa=>word::wo a)++Z) acc=(false,acc++as,Z)
 |[],acc,_,_=>by
  rw[Am];show HU word b v Z acc=_
  match Z,g with
  |[],_=>rfl
  |[]::R,_=>rfl
  |(w0::r)::R,g=>exact O1 λz=>g r R<|by rw[z]
 |a::as,acc,j,C=>by show HU word b v ((word::wo a)::(as.map (λa=>word::wo a)++Z)) acc=_;rw[RP (C acc a as rfl<|Ah _),j a Al,Vt g as (acc++[a]) (λx H=>j x (Ak _ H)) (λA x B e I=>C A x B (by rw[<-e];simp) (by simp at I;omega)),Ao];rfl
end
def zo2(h:HB x):K5 x=true:=by
 have a:=h.lo;have b:=h.hi;rw[AA]at a b;unfold K5;rw[decide_eq_true (show 1<=x.length from a),decide_eq_true (show x.length<=8 from b)];refine List.all_eq_true.mpr λc f=>decide_eq_true ?_;have i:=h.ab c f;have e:Mh.cps.toList=(AZ 26).map (97+·):=by decide +kernel
 rw[e];exact P3.mpr ⟨c-97,List.mem_range.mpr<|by omega,by omega⟩
variable {S:List (Str×Int)}
def oE{S:List (Str×Int)}(G:∀p∈S,HB p.1)(j:∀p∈S,1<=p.2/\p.2<=4)(g:(S.map (·.1)).Pairwise λa b=>sle a b=true)(C:(S.map (·.1)).Nodup)(H:∀r I,Z≠(("stick":Str)::r)::I):pS (S.map (λp=>("stick":Str)::Mz p)++Z)=(false,S,Z):=by
 refine Vt (wo:=Mz) H S [] (λp c=>?_) λA p B e _=>?_
 ·have:=j p c;show(p.1,val (Hq p.2))=p;rw[(TL (by omega)<|by omega).2]
 ·have e:S=A++p::B:=e;have c:p∈S:=by rw[e];simp
  have f:=j p c;show(K5 p.1&&IU 1 4 (Hq p.2)&&Pj (A.getLast?.map (·.1)) p.1)=true;rw[zo2 (G p c),(Qu (by decide) (by decide) f.1 f.2).1]
  cases i:A.getLast? with
  |none=>rfl
  |some u=>
   have h:u∈A:=EV i;rw[e,Bt,Au]at g C;have l:=(List.pairwise_append.mp g).2.2 u.1 (CJ h) p.1 Al;have m:=(List.pairwise_append.mp C).2.2 u.1 (CJ h) p.1 Al;exact decide_eq_true<|sN l m
def TR(h:x≠"-"):Jo (dash x)=x:=by
 unfold Jo dash;cases a:x=="" with
 |true=>rw[eq_of_beq a];rfl
 |false=>
  simp only[AG,if_false];rw[beq_eq_false_iff_ne.mpr h];rfl
def rD(x:Str):("":Str)≠dash x:=by
 unfold dash;split
 ·decide
 rename_i h;intro e;exact h (by rw[<-e];exact beq_self_eq_true _)
def aC{x:Str}(h:∀c∈x.cps.toList,48<=c):x≠"-":=λe=>by have:=h 45 (by rw[e,dX];simp);omega
def zm2:("":Str).cps.toList=[]:=by decide
def Vy{ns:List Str}(e:∀y∈ns,HB y)(h:Oo ns x):x≠"-":=by
 rcases h with rfl|h
 ·decide
 exact aC λc a=>by have:=(e x h).ab c a;omega
def bJ{ns k:List Str}(g:∀y∈ns,HB y)(h:OY ns k):(Ll k).map Jo=k/\kB ns (Ll k)=true:=by
 have r:(Ll k).map Jo=k:=by obtain⟨f,a,b,c,d,rfl,hf,l,m,n,o⟩:=h;show [Jo (dash f),Jo (dash a),Jo (dash b),Jo (dash c),Jo (dash d)]=_;rw[TR (aC λc q=>by rcases hf.ab c q with z|z<;>omega),TR (Vy g l),TR (Vy g m),TR (Vy g n),TR (Vy g o)]
 refine⟨r,?_⟩;unfold kB;rw[r];have h0:decide (("":Str)∈Ll k)=false:=decide_eq_false λz=>by obtain⟨y,_,e⟩:=P3.mp z;exact rD y e.symm
 rw[h0];obtain⟨f,a,b,c,d,rfl,hf,l,m,n,o⟩:=h;have i:∀x,Oo ns x->Mp ns x=true:=λx hx=>by
  unfold Mp;rcases hx with rfl|hx
  ·rfl
  rw[decide_eq_true hx,GC]
 have s:Oj f=true:=by
  unfold Oj;have:=hf.len;rw[AA]at this;rw[decide_eq_true (show f.length<=1 from this)];refine List.all_eq_true.mpr λc q=>decide_eq_true ?_;have e:Rm.cps.toList=(AZ 26).map (97+·)++(AZ 10).map (48+·):=by decide +kernel
  rw[e];rcases hf.ab c q with z|z
  ·exact BL _<|P3.mpr ⟨c-97,List.mem_range.mpr<|by omega,by omega⟩
  exact AV _<|P3.mpr ⟨c-48,List.mem_range.mpr<|by omega,by omega⟩
 show(!false&&(Oj f&&(Mp ns a&&(Mp ns b&&(Mp ns c&&(Mp ns d&&true))))))=true;rw[s,i _ l,i _ m,i _ n,i _ o];rfl
variable {K:List (List Str)}
def oB{ns:List Str}{K:List (List Str)}(g:∀y∈ns,HB y)(hk:∀k∈K,OY ns k)(j:∀r C,Z≠(("kind":Str)::r)::C):pK ns (K.map (λk=>("kind":Str)::Ll k)++Z)=(false,K,Z):=
 Vt (wo:=Ll) j K [] (λk a=>(bJ g<|hk k a).1) (λA k B e _=>(bJ g (hk k (by
  have e:K=A++k::B:=e;rw[e];simp))).2)
def oH{w:Int}{T:List Tl}(hw:w<=1000)(G:h<=1000)(H:n<=1000)(g:JR w h n T)(j:∀r C,Z≠(("tile":Str)::r)::C):pT w h n (T.map (λt=>("tile":Str)::Ks t)++Z)=(false,T,Z):=by
 have q:∀t∈T,v0 (Ks t) 0=t.1/\v0 (Ks t) 1=t.2.1/\v0 (Ks t) 2=t.2.2:=λt f=>by obtain⟨x0,v,l,x,m,y⟩:=g.ok t f;exact⟨(TL x0<|by omega).2,(TL l<|by omega).2,(TL m<|by omega).2⟩
 refine Vt (wo:=Ks) j T [] (λt f=>?_) λA t B e _=>?_
 ·obtain⟨a,b,c⟩:=q t f;unfold tV;rw[a,b,c]
 ·have e:T=A++t::B:=e;have f:t∈T:=by rw[e];simp
  obtain⟨x0,v,l,x,m,y⟩:=g.ok t f;obtain⟨a,b,c⟩:=q t f;show((IU 0 (w-1) (Hq t.1)&&IU 0 (h-1) (Hq t.2.1)&&IU 0 ((n:Int)-1) (Hq t.2.2))&&Sw A.getLast? (Ks t))=true;rw[(Qu (by decide) (by omega) x0<|by omega).1,(Qu (by decide) (by omega) l<|by omega).1,(Qu (by decide) (by omega) m<|by omega).1]
  cases z:A.getLast? with
  |none=>rfl
  |some u=>
   have s:u∈A:=EV z;have i:=g.srt;have o:=g.nd;unfold Mg at o;rw[e]at o;rw[e,Bt,Au]at i;have E:=(List.pairwise_append.mp i).2.2 (HC u) (CJ s) (HC t) Al;have F:=(List.pairwise_append.mp o).2.2 u s t Al;show(!lexLe [v0 (Ks t) 0,v0 (Ks t) 1] [u.1,u.2.1])=true;rw[a,b,vJ E F];rfl
def Off(Z:Rows):Prop:=∀w∈(["enough","stick","kind","floor","tile"]:List Str),∀r a,Z≠(w::r)::a
def sW:Off []:=λ_ _ _ _ e=>by cases e
def sY:Off [[""]]:=λw hw r a e=>by have:(w::r)=[("":Str)]:=(AM e).1.symm;have:w="":=(AM this).1;subst this;exact absurd hw<|by decide
section
variable {e:Int}
def XO(he:1<=e/\e<=4)(G:∀p∈S,HB p.1)(H:∀p∈S,1<=p.2/\p.2<=4)(B:(S.map (·.1)).Pairwise λa b=>sle a b=true)(I:(S.map (·.1)).Nodup)(hk:∀k∈K,OY (S.map (·.1)) k)(J:∀r j,Z≠(("kind":Str)::r)::j)(C:K=[]->∀r j,Z≠(("stick":Str)::r)::j):
  parse ([("enough":Str),Hq e]::(S.map (λp=>("stick":Str)::Mz p)++(K.map (λk=>("kind":Str)::Ll k)++Z)))=LC ⟨e,S,K⟩ (1+S.length+K.length) Z:=by
 obtain⟨g,c⟩:=Qu (by decide) (by decide) he.1 he.2;have f:v0 [Hq e] 0=e:=c;show(if _ then _ else _)=_;rw[if_pos ⟨rfl,g⟩,f];unfold Nv;rw[oE G H B I (λr j z=>by
  cases K with
  |nil=>exact C rfl r j z
  |cons k K=>exact absurd (AM (AM z).1).1 (by decide))]
 simp only[AG,if_false];unfold Nw;rw[oB (λy h=>by obtain⟨p,i,rfl⟩:=P3.mp h;exact G p i) hk J]
 simp only[AG,if_false]
def eZ(h:Off Z):LC ho l Z=.inl l:=Vr λr a z=>absurd z<|h _ (by simp) r a
end
def iW{A B:List α}{m:Nat}(h:m<=A.length):(A++B).take m=A.take m:=by rw[F3,show m-A.length=0 by omega];simp
def iO{A B:List α}{m:Nat}(h:A.length<=m):(A++B).take m=A++B.take (m-A.length):=by rw[F3,List.take_of_length_le h]
def fB{b:Iw}(h:Rt b){m:Nat}(Y:1<=m)(h2:m<=(IM b).length)(g:Off Z):
  parse ((IM b).take m++Z)=if(decide (m<(IM b).length-b.ts.length) || !Z.isEmpty)=true then .inl m else .inr ⟨b.ho,b.w,b.h,b.ts.take<|m-((IM b).length-b.ts.length)⟩:=by
 obtain⟨⟨e,S,K⟩,w,c,T⟩:=b;obtain⟨⟨l,n,nm,f,o,str,E,A,F,k1⟩,w0,L,h0,s,u,tl⟩:=h;dsimp only at *;have Q:(IM ⟨⟨e,S,K⟩,w,c,T⟩).length-T.length=1+S.length+K.length+1:=by unfold IM;simp;omega
 rw[Q];have W:IM ⟨⟨e,S,K⟩,w,c,T⟩=[("enough":Str),Hq e]::(S.map (λp=>("stick":Str)::Mz p)++(K.map (λq=>("kind":Str)::Ll q)++([("floor":Str),Hq w,Hq c]::T.map λt=>("tile":Str)::Ks t))):=rfl;obtain⟨j,rfl⟩:∃j,m=j+1:=⟨m-1,by omega⟩
 have hm:j+1<=1+S.length+K.length+1+T.length:=by
  have:(IM ⟨⟨e,S,K⟩,w,c,T⟩).length=1+S.length+K.length+1+T.length:=by unfold IM;simp;omega
  omega
 rw[W,DE,Df];have tS:∀i,(∀p∈S.take i,HB p.1)/\(∀p∈S.take i,1<=p.2/\p.2<=4)/\((S.take i).map (·.1)).Pairwise (λa b=>sle a b=true)/\((S.take i).map (·.1)).Nodup:=λi=>by
  refine⟨λp v=>nm p (Bc v),λp v=>str p (Bc v),?_,?_⟩
  ·rw[BF];exact f.sublist<|Cp _ _
  rw[BF];exact o.sublist<|Cp _ _
 by_cases c1:j<=S.length
 ·obtain⟨a1,a2,B,C⟩:=tS j;rw[iW (by rw[Af];exact c1),<-BF];have:=XO (K:=[]) (Z:=Z) ⟨l,n⟩ a1 a2 B C (λk hk=>by cases hk) (g _<|by simp) λ_=>g _ (by simp);have G:parse ([("enough":Str),Hq e]::((S.take j).map (λp=>("stick":Str)::Mz p)++Z))=_:=this;rw[G,eZ g,AN,decide_eq_true (by omega),D2,if_pos rfl]
  congr 1
  simp;omega
 ·rw[iO (by rw[Af];omega),Af]
  by_cases c2:j-S.length<=K.length
  ·rw[iW (by rw[Af];exact c2),<-BF,Ao];rw[XO ⟨l,n⟩ nm str f o (λk hk=>A k (Bc hk)) (g _<|by simp) (λ_=>g _ (by simp)),eZ g,AN,decide_eq_true (by omega),D2,if_pos rfl]
   congr 1
   omega
  ·rw[iO (by rw[Af];omega),Af];obtain⟨i,hi⟩:∃i,j-S.length-K.length=i+1:=⟨j-S.length-K.length-1,by omega⟩
   rw[hi,DE,<-BF,Ao,Ao,Df];rw[XO ⟨l,n⟩ nm str f o A (λr H z=>absurd (AM (AM z).1).1 (by decide)) (λ_ r H z=>absurd (AM (AM z).1).1 (by decide))];obtain⟨I,vw⟩:=Qu (lo:=1) (hi:=12) (by decide) (by decide) w0 L;obtain⟨J,M⟩:=Qu (lo:=1) (hi:=12) (by decide) (by decide) h0 s;have x:v0 [Hq w,Hq c] 0=w:=vw;have y:v0 [Hq w,Hq c] 1=c:=M;have N:LC ⟨e,S,K⟩ (1+S.length+K.length) ([("floor":Str),Hq w,Hq c]::((T.take i).map (λt=>("tile":Str)::Ks t)++Z))=L7 ⟨e,S,K⟩ w c (1+S.length+K.length+1) ((T.take i).map (λt=>("tile":Str)::Ks t)++Z):=by
    show(if _ then _ else _)=_;rw[if_pos (show("floor":Str)="floor"/\_ from⟨rfl,?_⟩),x,y];show(!K.isEmpty&&(IU 1 12 (Hq w)&&IU 1 12 (Hq c)))=true;rw[I,J]
    cases K with
    |nil=>simp at F
    |cons=>rfl
   rw[N];unfold L7;have U:JR w c K.length (T.take i):=⟨λt X=>u.ok t (Bc X),u.nd.sublist<|Cp _ _,by rw[BF];exact u.srt.sublist (Cp _ _)⟩
   rw[oH (by omega) (by omega) (by omega) U (g _<|by simp)];show(if(false || !Z.isEmpty)=true then(CW (1+S.length+K.length+1+(T.take i).length):Nat⊕Iw)else .inr ⟨⟨e,S,K⟩,w,c,T.take i⟩)=_;rw[decide_eq_false (by omega),show j+1-(1+S.length+K.length+1)=i by omega,AN,show 1+S.length+K.length+1+min i T.length=j+1 by omega]
def uJ{ns:List Str}{r:List Str}{q:LS}(h:IF at_ ns k F L w0 r=some q)(e:∀y∈ns,K5 y=true/\Wd y)(g:∀y∈r,Wd y):(∀y∈q.1,K5 y=true/\Wd y)/\q.1.length<=ns.length+1/\q.2.1<=k+1:=by
 unfold IF at h;split at h
 ·split at h
  ·cases h;exact⟨e,Bj _,Bj _⟩
  ·cases h
 ·split at h
  ·split at h
   ·rename_i c;cases h;refine⟨λy hy=>?_,by simp,Bj _⟩
    rcases W1.mp hy with hy|hy
    ·exact e y hy
    ·cases On.mp hy
     by_cases h2:r.length=2
     ·obtain⟨m,a,rfl⟩:=two h2;have c:(K5 m&&IU 1 4 a&&Pj ns.getLast? m)=true:=c;rw[Ag,Ag]at c;exact⟨c.1.1,g m<|by simp⟩
     rw[U0 h2]at c;cases c
   ·cases h
  ·split at h
   ·split at h
    ·cases h;exact⟨e,Bj _,Ah _⟩
    ·cases h
   ·split at h
    ·split at h
     ·cases h;exact⟨e,Bj _,Bj _⟩
     ·cases h
    ·split at h
     ·cases h
     ·split at h
      ·split at h
       ·cases h;exact⟨e,Bj _,Bj _⟩
       ·cases h
      ·cases h
def pr(p:Str×Nat):D:=.tup [.int (p.2:Int),.str p.1]
def aR(res:Option (Fl×Hf))(s:Hf)(T RS:Option D):Nat⊕(Nat×Option (Int×Int))->Prop
 |.inl j=>∃s',res=some (.rt (.int (j:Int)),s')/\Gr s s'
 |.inr p=>∃s' nm k fl e a6 a7 a8 a9,res=some (.nx [T,nm,k,some fl,e,RS,a6,a7,a8,a9],s')/\Gr s s'/\Lq s' p.2 fl
section
variable {W:Wk}
theorem dP:∀(ls:List Str) (at_ k:Nat) (ns:List Str) (F:Option (Int×Int)) (L:Option Tl) (nm:Nat) (fl:D) (a6 a7 a8 a9:Option D) (s:Hf),(∀s',Gr s s'->walked W s'=true)->(∀x∈ls,Ke x 8000)->s[nm]?=some (.lst<|ns.map D.str)->(∀y∈ns,K5 y=true/\Wd y)->Lq s F fl->k<=at_->ns.length<=at_->at_+ls.length<=9000 ->
  aR (Ld W (LP 2<|gC (Ho 6)<|gC (Ho 7)<|Lo) Ud ((ls.zipIdx at_).map pr) [T,some (.ref nm),some (.int (k:Int)),some fl,some (KA L),RS,a6,a7,a8,a9] s) s T RS (IP (ls.map λx=>Txt.split x " ") at_ ns k F L)
 |[],at_,k,ns,F,L,nm,fl,a6,a7,a8,a9,s,e,_,H,C,G,_,_,_=>⟨s,some<|.ref nm,some<|.int (k:Int),fl,some<|KA L,a6,a7,a8,a9,by unfold Ld;rw[El,BM];simp only[e s (Gr.refl s),if_true],Gr.refl _,G⟩
 |x::ls,at_,k,ns,F,L,nm,fl,a6,a7,a8,a9,s,e,I,H,C,G,hk,hl,J=>by
  obtain⟨w0,r,B⟩:∃w0 r,Txt.split x " "=w0::r:=by
   cases h:Txt.split x " " with
   |nil=>exact absurd h<|Ye _ _
   |cons a b=>exact⟨a,b,rfl⟩
  have Q:at_+(ls.length+1)<=9000:=J;have A:=I x Al;have t:=vL (T:=T) (RS:=RS) (a8:=a8) (a9:=a9) (at_:=at_) (k:=k) (L:=L) A B H C G (by omega) (by omega);have E:LP 2 (gC (Ho 6)<|gC (Ho 7)<|Lo) (pr (x,at_)) [T,some (.ref nm),some (.int (k:Int)),some fl,some (KA L),RS,a6,a7,a8,a9] s=some ([T,some (.ref nm),some (.int (k:Int)),some fl,some (KA L),RS,some (.int (at_:Int)),some (.str x),a8,a9],s):=rfl;have w:=e s<|Gr.refl s;rw[Au];show aR (Ld W _ _ (pr (x,at_)::(ls.zipIdx<|at_+1).map pr) _ s) s T RS _
  cases c:IF at_ ns k F L w0 r with
  |none=>
   rw[c]at t;obtain⟨s',f,g⟩:=t;rw[QH (by rw[B];exact c)];exact⟨s',dR w E f,g⟩
  |some q=>
   rw[c]at t;obtain⟨s',i,l,S,Z,f,g,m,n⟩:=t;obtain⟨M,o2,o3⟩:=uJ c C (λy u=>(A.part (y:=" ") (by rw[B];exact Ak _ u)).up (by decide));rw[RY (by rw[B];exact c),dQ w E f];have K:=dP ls (at_+1) q.2.1 q.1 q.2.2.1 q.2.2.2 i l (some<|.int (at_:Int)) (some<|.str x) S Z s' (λv N=>e v (g.trans N)) (λy u=>I y (Ak _ u)) m M n (by omega) (by omega) (by omega);generalize IP (ls.map λx=>Txt.split x " ") (at_+1) q.1 q.2.1 q.2.2.1 q.2.2.2=o at *
   cases o with
   |inl j=>
    obtain⟨s2,z,g3⟩:=K;exact⟨s2,z,g.trans g3⟩
   |inr p=>
    obtain⟨s2,m1,m2,f1,U,X,Y,m8,m9,z,g3,h3⟩:=K;exact⟨s2,m1,m2,f1,U,X,Y,m8,m9,z,g.trans g3,h3⟩
end
def aK:Option Nat->D
 |none=>.non
 |some n=>.int (n:Int)
def wZ(h:Ke z 8000):∃st',Ug [.str z] st=some (aK (told<|rowsOf z),st')/\Gr st st':=by
 have Q:=VH (z:=z) (y:="\n") (s:=st++[.lst []]) (by decide) (by have:=h.len;omega);have S:∀x∈Txt.split z "\n",Ke x 8000:=λx Z=>h.part Z;have Y:=Yc h;unfold rowsOf told;generalize Txt.split z "\n"=ls at *;have e:=Gr.app st [.lst []];have E:=IJ st<|.lst [];generalize n:st++[O.lst []]=s0 at *;have g1:=Gr.app s0 [.lst (ls.map D.str)];have r:=(g1.old _<|qax E).trans E;have f:=IJ s0<|.lst<|ls.map D.str;generalize B:s0++[O.lst (ls.map D.str)]=s1 at *;have ll:=M9 f;have key:=dP (T:=some (.str z)) (RS:=some (.ref s0.length)) (W:=⟨(ls.zipIdx 0).map pr,[(s0.length,ls.map D.str)]⟩) ls 0 0 [] none none st.length .non none none none none s1 (λs' g=>QT ((g.old _<|qax f).trans f)) S r (λy C=>by cases C) rfl (Ah _) (Ah _) (by omega);have K:Sy (mV 5) [some (.str z),some (.ref st.length),some (.int 0),some .non,some .non,some (.ref s0.length),none,none,none,none] s1=some (⟨(ls.zipIdx 0).map pr,[(s0.length,ls.map D.str)]⟩,s1):=by
  have G:Il s1 s0.length=some (ls.map D.str):=by unfold Il;rw[f]
  rw[qU,Im];simp only[Ai,AD,Aa,WY,Nu,G,Aj,L2.MP.Ce.Nx];rfl
 have start:∀res s',mS (mF (Sy<|mV 5) (LP 2<|gC (Ho 6)<|gC (Ho 7)<|Lo)<|Ud) (mR<|MD (mT<|mB Ku (mV 3)<|mK .non) (Hi Hl<|Hc (mV 5)<|mZ)<|mK .non) [some (.str z),some (.ref st.length),some (.int 0),some .non,some .non,some (.ref s0.length),none,none,none,none] s1=some (.rt res,s')->Ug [.str z] st=some (res,s'):=by
  intro res s' H;refine IG ?_;unfold jT;refine HD (ρ1:=[some (.str z),some (.ref st.length),some (.int 0),some .non,some .non,none,none,none,none,none]) (s1:=s0) ?_<|HD (s1:=s1) ?_ H
  ·show Hm _ _ [some (.str z),none,none,none,none,none,none,none,none,none] st=_;rw[<-n];rfl
  rw[J9,RM];simp only[Im,Ai,Aa,Iy,Ii,Iz,Q];rfl
 have eL:∀(a:Nat) (L:Option (Int×Int)),IP (ls.map λx=>Txt.split x " ") 0 [] 0 none none=.inr (a,L)->a=0+(ls.map λx=>Txt.split x " ").length:=λa L=>fG;have i:=e.trans g1;generalize IP (ls.map λx=>Txt.split x " ") 0 [] 0 none none=o at *;cases o with
 |inl j=>
  obtain⟨s',u,m⟩:=key;refine⟨s',start _ _<|JL ?_,i.trans m⟩;rw[Lv,K];exact u
 |inr p=>
  obtain⟨a,F⟩:=p;obtain⟨s',nm,k,fl,I,J,M,N,U,u,m,X⟩:=key;have v:=(m.old _<|qax f).trans f;have l:=M9 v;have w:=eL _ _ rfl;have A:=X.non;have c:=WA (d:=fl) (s:=s');rw[A]at c;refine⟨s',start _ _<|HD (s1:=s') (ρ1:=[some (.str z),nm,k,some fl,I,some (.ref s0.length),J,M,N,U]) (by rw[Lv,K];exact u) ?_,i.trans m⟩;rw[Af]at l;have w:a=ls.length:=by simpa using w
  subst w;cases F with
  |none=>
   show _=some (Fl.rt (.int (ls.length:Int)),s');have c:Ku fl .non s'=some (.bl true,s'):=c;simp[RB,c,l]
  |some q=>
   show _=some (Fl.rt .non,s');have c:Ku fl .non s'=some (.bl false,s'):=c;simp[RB,c]
def GV:Mf (J0 Og) "NoText" [.fn "NoGrowing",.fn "NoPlace",.fn "Taken",.fn "NoKind",.fn "NotHeld",.fn "NothingBack"]=some false:=by decide +kernel
def GU:Mf (J0 Og) "NoText" [.fn "NotSure",.fn "TooMany",.fn "NotFramed",.fn "NoLine"]=some false:=by decide +kernel
def ZV:J0 Og "NoText" "NoText"=some true:=by decide +kernel
section
variable {y:Str} {o:Option (Str×Int)} {b:Bool}{ys:List D}{n:Int}
def uB(h:J0 Og c y=some b):Qm (J0 Og) [.er true c o,.fn y] s=some (.bl b,s):=by show(J0 Og c y).map _=_;rw[h];rfl
def dH(h:Mf (J0 Og) c (.fn y::ys)=some b):Qm (J0 Og) [.er true c o,.tup (.fn y::ys)] s=some (.bl b,s):=by show(Mf (J0 Og) c (.fn y::ys)).map _=_;rw[h];rfl
def mH(hm:m ρ s=some (.er true c (some (f,n)),s)):NA (Uw c) f m ρ s=some (.int n,s):=by unfold NA;rw[hm];simp[Uw]
end
def UZ:Nat⊕Iw->D
 |.inl n=>.tup [.str "row",.int (n:Int)]
 |.inr b=>.tup [.str "bed",b.d]
def fH{o:Nat⊕Iw}(h:R9 [d] st=some (LZ o,s1)):Nq [d] st=some (UZ o,s1):=by
 refine IG ?_;unfold jB;refine HD (ρ1:=[some d,some .non,none,none]) (s1:=st) rfl ?_;cases o with
 |inr b=>
  refine HD (ρ1:=[some d,some (.tup [.str "bed",b.d]),none,none]) (s1:=s1) ?_ rfl;unfold Sz;show(R9 [d] st).bind _=_;rw[h];rfl
 |inl n=>
  have a:=λs:Hf=>dH (o:=some ("line",(n:Int))) (s:=s) GV;have c:=λs:Hf=>dH (o:=some ("line",(n:Int))) (s:=s) GU;have f:=λs:Hf=>uB (o:=some ("line",(n:Int))) (s:=s) ZV;have i:NA (Uw "NoText") "line" (mV 2) [some d,some .non,some (.er true "NoText"<|some ("line",(n:Int))),some (.bl false)] s1=some (.int n,s1):=mH rfl;refine HD (ρ1:=[some d,some (.tup [.str "row",.int (n:Int)]),none,some (.bl false)]) (s1:=s1) ?_ rfl;unfold Sz;show(R9 [d] st).bind _=_;rw[h];simp only[Aa,LZ,LG];show(mS _ _ [some d,some .non,some (.er true "NoText"<|some ("line",(n:Int))),none] s1).map _=_;rw[HD (ρ1:=[some d,some .non,some (.er true "NoText"<|some ("line",(n:Int))),some (.bl false)]) (s1:=s1) (by simp[a]) (HD (ρ1:=[some d,some .non,some (.er true "NoText"<|some ("line",(n:Int))),some (.bl false)]) (s1:=s1) (r:=some (.nx [some d,some (.tup [.str "row",.int (n:Int)]),some (.er true "NoText"<|some ("line",(n:Int))),some (.bl false)],s1)) (by simp[Jn,c])<|by simp[RB,f,i])];rfl
def VO(h:Ke z 8000):∃st',Nq [.str z] st=some (UZ (parse<|rowsOf z),st')/\Gr st st':=by obtain⟨s1,e,g⟩:=vW (st:=st) h;exact⟨s1,fH e,g⟩
def ON(s:Hf)(d:D):Prop:=∃ty,tyName s d=some ty/\IX ty "str"=false
def ON.gr(h:ON s d)(g:Gr s s'):ON s' d:=by
 obtain⟨ty,a,c⟩:=h;refine⟨ty,?_,c⟩;cases d with
 |ref n=>
  have f:n<s.length:=DY λz=>by simp only[tyName,List.getElem?_eq_none (FU z)]at a;cases a
  have e:tyName s' (.ref n)=tyName s (.ref n):=by simp only[tyName,g.old n f]
  rw[e];exact a
 |_=>exact a
def vX(h:ON st d):Nq [d] st=some (.tup [.str "row",.int 0],st):=by obtain⟨ty,a,c⟩:=h;refine fH (o:=.inl 0)<|IG ?_;unfold VZ;refine JL<|J5 (s1:=st) (Ic (b:=false) ?_) rfl;show IY "str" (mV 0) [some d,none,none,none,none,none,none,none,none] st=_;simp[a,c]
end L2.MP.T0
namespace L2.MP.T0
open PySem L2.MP L2.MP.Hn
open L2.MP.Ce (J5 Ky Hw Ic L8 JQ Kd Jx LM Qz TM X0 Xf Tb)
variable {rss:Rows}
def Yd{rss:Rows}(a:rss≠[])(h:∀ws∈rss,RowW ws):rowsOf (Txt.join "\n"<|rss.map<|Txt.join " ")=rss:=by unfold rowsOf;rw[zjN a h,BO];refine(DA λws hw=>?_).trans<|FR _;exact zl5<|h ws hw
def wD:RowW [""]:=⟨by simp,by simp,all1 Wc.empty⟩
def Vz{rss:Rows}(h:∀ws∈rss,RowW ws)(a:rss.length<=31):Ke (Txt.join "\n"<|rss.map<|Txt.join " ") 8000:=by
 refine⟨Ar (TQ (z:="\n") (c:=54) (n:=31) (λx r=>?_) (by simpa using a)<|by decide)<|by decide,λc l=>?_⟩
 ·obtain⟨ws,o,rfl⟩:=P3.mp r;exact wA<|h ws o
 ·have e:Txt.join "\n" (rss.map<|Txt.join " ")=B5 ⟨#[10]⟩ (rss.map<|Txt.join " "):=by rw[<-feed];exact A5 _ _
  rw[e,Cz]at l;rcases l with⟨x,r,l⟩|⟨_,l⟩
  ·obtain⟨ws,o,rfl⟩:=P3.mp r;have s:Txt.join " " ws=B5 ⟨#[32]⟩ ws:=by rw[<-blank];exact A5 _ _
   rw[s,Cz]at l;rcases l with⟨w,hw,l⟩|⟨_,l⟩
   ·have:=((h ws o).wd w hw).2 _ l;omega
   ·have:c=32:=by simpa using l
    omega
  ·have:c=10:=by simpa using l
   omega
theorem gA(z:Str):∀ls:List Str,ls≠[]->Txt.join z ls++z=Txt.join z (ls++[("":Str)])
 |[],h=>absurd rfl h
 |[a],_=>by show Builtin.Str.glued z [a]++z=Builtin.Str.glued z [a,""];rw[A5,A5];show a++z=a++z++"";exact(gR _).symm
 |a::b::l,_=>by have c:=gA z (b::l) (by simp);show Builtin.Str.glued z (a::b::l)++z=Builtin.Str.glued z (a::b::(l++[("":Str)]));have c:Builtin.Str.glued z (b::l)++z=Builtin.Str.glued z (b::(l++[("":Str)])):=c;rw[A5,A5]at c ⊢;show a++z++B5 z (b::l)++z=a++z++B5 z (b::(l++[("":Str)]));rw[<-c];exact congrArg Gz Fi
variable {ds:List D}{m:Nat}
def aY(h:m<=ds.length):cutD ds none (some (m:Int))=ds.take m:=by
 unfold cutD;have l:HT.HN ds.length 0 none=0:=rfl;have o:HT.HN ds.length ds.length (some (m:Int))=m:=by
  unfold HT.HN;have:¬(m:Int)<0:=by omega
  simp[this];omega
 rw[l,o];simp
variable {s:Hf}
def nM{l:Nat}(c:s[l]?=some (.lst ds))(h:m<=ds.length):O9 (.ref l) none (some (m:Int)) s=some (.ref s.length,s++[.lst (ds.take m)]):=by have:=Xg (a:=none) (b:=some (m:Int)) c;rw[aY h]at this;unfold O9;rw[this,JF]
def Xi(h:m<=ds.length):O9 (.tup ds) none (some (m:Int)) s=some (.tup (ds.take m),s):=by rw[X0,Xf,aY h]
variable {n:Int}
def Xh{z:Str}(h:z.length<=9000):O9 (.str z) none (some n) s=some (.str (Txt.slice z none<|some n),s):=by have:fits z.length=true:=Ko (by omega);unfold O9 Nt Pa Qk Uo;simp only[this,if_true,Kj,JF]
def Va:IS (.tup [.str "row",.int n]) (.tup [.str "row",.int n]) s=some (.bl false,s):=sQ (n:=2) ⟨by show 2<=10000;decide,all2 (show Ap ("row":Str)=true by decide +kernel) trivial⟩ (by decide)
section
variable {b:Iw}
def YD(b:Iw)(m:Nat):(JC b).take m=((IM b).take m).map (Txt.join " "):=by rw[YA,BF]
def Vk(h:Rt b)(m:Nat):∀ws∈(IM b).take m,RowW ws:=λws hw=>Xc h ws<|Bc hw
def cO(a:1<=m):(IM b).take m≠[]:=by
 obtain⟨j,rfl⟩:∃j,m=j+1:=⟨m-1,by omega⟩
 unfold IM;rw[DE];simp
def W8(h:Rt b)(m:Nat):((IM b).take m).length<=30:=by rw[AN];have:=YB h;omega
def zV(h:Rt b)(a:1<=m)(c:m<=(IM b).length):∃s',Nq [.str (Txt.join "\n"<|(JC b).take m)] s=some (UZ (if decide (m<(IM b).length-b.ts.length)=true then .inl m else .inr ⟨b.ho,b.w,b.h,b.ts.take<|m-((IM b).length-b.ts.length)⟩),s')/\Gr s s':=by have ok:=Vz (Vk h m) (Ar (W8 h m)<|by decide);obtain⟨s',e,g⟩:=VO (st:=s) ok;rw[Yd (cO a) (Vk h m)]at e;have:=fB h a c sW;rw[Am,List.isEmpty_nil,Da,Gp]at this;rw[this]at e;rw[YD];exact⟨s',e,g⟩
def zmm(h:Rt b)(a:1<=m)(c:m<=(IM b).length):(∃s',Nq [.str (Txt.join "\n" ((JC b).take m)++"\n")] s=some (.tup [.str "row",.int (m:Int)],s')/\Gr s s'):=by
 have hw:∀ws∈(IM b).take m++[[("":Str)]],RowW ws:=λws hw=>by
  rcases W1.mp hw with hw|hw
  ·exact Vk h m ws hw
  rw[On.mp hw];exact wD
 have ok:=Vz hw (by
  rw[AF,Cw];have:=W8 h m;omega)
 obtain⟨s',e,g⟩:=VO (st:=s) ok;rw[Yd (by simp) hw]at e;have:=fB h a c sY;rw[show([[("":Str)]]:Rows).isEmpty=false from rfl,C2,GC,if_pos rfl]at this;rw[this]at e;have l:Txt.join "\n" (((IM b).take m++[[("":Str)]]).map<|Txt.join " ")=Txt.join "\n" ((JC b).take m)++"\n":=by rw[YD,gA _ _ (by simpa using cO (b:=b) a),Bt];rfl
 rw[l]at e;exact⟨s',e,g⟩
end
end L2.MP.T0
namespace L2.MP.T0
open PySem L2.MP L2.MP.Hn
open L2.MP.Ce (J5 Ky Hw Ic L8 JQ Kd Jx LM Qz TM X0 Xf Tb VD iK iJ)
variable {a0 a1 a2 a6 a7 a8 a9 a10 a11 a12 a13:Option D}{B:D}{l:Nat}{z:Str}{s:Hf}{ρ:HX}
section
variable {H0:D}{ls:List Str}
def uM(h:ρ[5]?=some (some<|.str z)):Te (mV 5) (mK<|.int 1) ρ s=some (.ref s.length,s++[.dk [(.inr z,.int 1)]]):=by unfold Te;rw[Im,h];simp[Ii,keyOf]
def Vo{k:Nat}{o:O}(h:s[k]?=some o)(a:(∃xs,o=.lst xs)\/∃xs,o=.dk xs):ON s (.ref k):=by
 rcases a with⟨xs,rfl⟩|⟨xs,rfl⟩
 ·exact⟨"list",by simp only[tyName,h],by decide⟩
 exact⟨"dict",by simp only[tyName,h],by decide⟩
def Tw{ds:List D}:ON s (.tup ds):=⟨"tuple",rfl,by decide⟩
def zl1(e:ON s B)(f:ON s H0)(h:∀s:Hf,Hr B (.int 0) s=some (H0,s))(c:s[l]?=some (.lst<|ls.map D.str)):
  ∃(ds:List D) (a:Nat) (s':Hf),Ju (mL<|Hc (mV 3)<|Hc (mV 4)<|Hc (Hi LR<|Hc (mV 4)<|mZ)<|Hc (mU<|Hc (mV 5)<|mZ)<|Hc (mL<|Hc (mV 5)<|mZ)<|Hc (Te (mV 5)<|mK<|.int 1)<|Hc (mK .non)<|Hc (mK<|.bl true)<|Hc (mK<|.int 0)<|Hc (mK<|.int 7)<|Hc (mU<|mZ)<|Hc (mB Hr (mV 3)<|mK<|.int 0)<|Hc (mL<|Hc (mL<|Hc (mV 5)<|mZ)<|mZ)<|mZ) [a0,a1,a2,some B,some (.ref l),some (.str z),a6,a7,a8,a9,a10,a11,a12,a13] s=some (⟨ds,[(a,ds)]⟩,s')/\s'[a]?=some (.lst ds)/\Gr s s'/\∀d∈ds,ON s' d:=by
 have v:=O6 c;have w:=λs':Hf=>uM (z:=z) (s:=s') (ρ:=[a0,a1,a2,some B,some (.ref l),some (.str z),a6,a7,a8,a9,a10,a11,a12,a13]) rfl;have g1:=Gr.app s [.lst [.str z]];have y:=IJ s<|.lst [.str z];have A:mL (Hc (mV 5)<|mZ) [a0,a1,a2,some B,some (.ref l),some (.str z),a6,a7,a8,a9,a10,a11,a12,a13] s=some (.ref s.length,s++[.lst [.str z]]):=rfl;generalize E:s++[O.lst [.str z]]=s1 at *;have Q:=w s1;have g2:=Gr.app s1 [.dk [(.inr z,.int 1)]];have W:=IJ s1<|.dk [(.inr z,.int 1)];generalize i:s1++[O.dk [(.inr z,.int 1)]]=s2 at *;have j:mL (Hc (mL<|Hc (mV 5)<|mZ)<|mZ) [a0,a1,a2,some B,some (.ref l),some (.str z),a6,a7,a8,a9,a10,a11,a12,a13] s2=some (.ref (s2++[O.lst [.str z]]).length,s2++[O.lst [.str z]]++[.lst [.ref s2.length]]):=rfl;have g3:=(Gr.app s2 [.lst [.str z]]).trans<|Gr.app (s2++[O.lst [.str z]]) [.lst [.ref s2.length]];have m:=IJ (s2++[O.lst [.str z]])<|.lst [.ref s2.length];generalize n:s2++[O.lst [.str z]]++[O.lst [.ref s2.length]]=s3 at *;generalize (s2++[O.lst [.str z]]).length=r at *;have g:=(g1.trans g2).trans g3;refine⟨[B,.ref l,.tup (ls.map D.str),.tup [.str z],.ref s.length,.ref s1.length,.non,.bl true,.int 0,.int 7,.tup [],H0,.ref r],s3.length,s3++[.lst [B,.ref l,.tup (ls.map D.str),.tup [.str z],.ref s.length,.ref s1.length,.non,.bl true,.int 0,.int 7,.tup [],H0,.ref r]],QL ?_<|IJ _ _,IJ _ _,g.trans<|Gr.app _ _,?_⟩
 ·rw[Nk];generalize D.tup (ls.map D.str)=LT at *;have q:∀s:Hf,mU (Hc (mV 5)<|mZ) [a0,a1,a2,some B,some (.ref l),some (.str z),a6,a7,a8,a9,a10,a11,a12,a13] s=some (.tup [.str z],s):=λs=>rfl;have C:∀s:Hf,mU mZ [a0,a1,a2,some B,some (.ref l),some (.str z),a6,a7,a8,a9,a10,a11,a12,a13] s=some (.tup [],s):=λs=>rfl;have u:∀x:List D,x.length=13->fits x.length=true:=λx F=>by rw[F];exact Ko (by decide)
  simp only[A,Q,j,q,C,Iy,Im,Ai,AD,Aa,Je,Iz,v,Ii,II,h];rw[if_pos (u _ rfl)]
 have o:=Gr.app s3 [.lst [B,.ref l,.tup (ls.map D.str),.tup [.str z],.ref s.length,.ref s1.length,.non,.bl true,.int 0,.int 7,.tup [],H0,.ref r]];generalize s3++[O.lst [B,.ref l,.tup (ls.map D.str),.tup [.str z],.ref s.length,.ref s1.length,.non,.bl true,.int 0,.int 7,.tup [],H0,.ref r]]=s4 at *;refine Js (e.gr<|g.trans o) (Js ((Vo c<|.inl ⟨_,rfl⟩).gr<|g.trans o)<|Js Tw<|Js Tw<|Js ((Vo y<|.inl ⟨_,rfl⟩).gr<|(g2.trans g3).trans o)<|Js ((Vo W<|.inr ⟨_,rfl⟩).gr<|g3.trans o)<|Js ⟨"NoneType",rfl,by decide⟩<|Js ⟨"bool",rfl,by decide⟩<|Js ⟨"int",rfl,by decide⟩<|Js ⟨"int",rfl,by decide⟩<|Js Tw<|all2 (f.gr<|g.trans o)<|(Vo m<|.inl ⟨_,rfl⟩).gr o)
end
def QU{x:Str}{i:Nat}{d:D}(h:ρ[i]?=some (some d)):mU (Hc (mK<|.str x)<|Hc (mV i)<|mZ) ρ s=some (.tup [.str x,d],s):=by rw[M4];simp[Im,h]
def zY(ds:List D):ds.map (λd=>d)=ds:=List.map_id' ds
variable {p:Nat}
section
variable {b:Iw}
def xX{m:Nat}(h:Rt b)(a:s[l]?=some (.lst ((JC b).map D.str)))(f:1<=m)(g:m<=(IM b).length):
  ∃C e s',Vu [a0,a1,some (.ref p),some b.d,some (.ref l),some (.str (Txt.join "\n" (JC b))),a6,some (.int (((IM b).length-b.ts.length:Nat):Int)),some (.int (m:Int)),a9,a10,a11,a12,a13] s=some (.nx [a0,a1,some (.ref p),some b.d,some (.ref l),some (.str (Txt.join "\n" (JC b))),a6,some (.int (((IM b).length-b.ts.length:Nat):Int)),some (.int (m:Int)),C,e,a11,a12,a13],s')/\Gr s s':=by
 have ll:(JC b).length=(IM b).length:=by rw[YA,Af]
 have cut:∀{s:Hf},s[l]?=some (.lst ((JC b).map D.str))->∃s',∀ρ:HX,ρ[4]?=some (some (.ref l))->ρ[8]?=some (some (.int (m:Int)))->OQ (mK (.str "\n")) (Hc (Lg (mV 4) Jw (IW (mV 8))) mZ) ρ s=some (.str (Txt.join "\n" ((JC b).take m)),s')/\Gr s s':=λ{s} a=>by have u:=nM (m:=m) a (by rw[Af];omega);rw[<-BF]at u;have F:=Yq (z:="\n") (c:=80) (n:=1300) (IJ s (.lst (((JC b).take m).map D.str))) (λx G=>gE h.b x (Bc G)) (by rw[AN];have:=gD h.b;omega) (by decide) (by decide);refine⟨s++[.lst (((JC b).take m).map D.str)],λρ H I=>⟨?_,Gr.app _ _⟩⟩;generalize s++[O.lst (((JC b).take m).map D.str)]=s' at *;rw[JH,Ii];simp only[Aa,Iy,Tb,Im,H,I,Lr,Lc,u,Iz,F]
 obtain⟨s1,j⟩:=cut a;have g1:Gr s s1:=(j [none,none,none,none,some (.ref l),none,none,none,some (.int (m:Int))] rfl rfl).2;have o:=(g1.old _ (qax a)).trans a;obtain⟨s2,J,g2⟩:=zV (s:=s1) h f g;have r:=(g2.old _ (qax o)).trans o;generalize hz:Txt.join "\n" (JC b)=z at *;generalize K:(IM b).length-b.ts.length=hd at *;have L:b.ts.length<=(IM b).length:=by unfold IM;simp;omega
 generalize v:UZ (if decide (m<hd)=true then .inl m else .inr ⟨b.ho,b.w,b.h,b.ts.take (m-hd)⟩)=TD at *;have M:=Rg b;have N:=UK b;have S:=Rf b;have T:∀s:Hf,Pl [.int 0,.int ((m:Int)-(hd:Int))] s=some (.int ((m-hd:Nat):Int),s):=λs=>by
  show some (D.int (if(m:Int)-(hd:Int) > 0 then(m:Int)-(hd:Int)else 0),s)=_
  congr 2
  congr 1
  split<;>omega
 have u:∀s:Hf,O9 (Ms b.ts) none (some ((m-hd:Nat):Int)) s=some (Ms (b.ts.take (m-hd)),s):=λs=>by have:=Xi (m:=m-hd) (ds:=b.ts.map λt=>HE (HC t)) (s:=s) (by rw[Af];omega);rw[<-BF]at this;exact this
 have less:Hm (mU (Hc (mB Hr (mV 3) (mK (.int 0))) (Hc (mB Hr (mV 3) (mK (.int 1))) (Hc (Lg (mB Hr (mV 3) (mK (.int 2))) Jw (IW (Hi Pl (Hc (mK (.int 0)) (Hc (mB KC (mV 8) (mV 7)) mZ))))) mZ)))) (Ho 10) [a0,a1,some (.ref p),some b.d,some (.ref l),some (.str z),a6,some (.int (hd:Int)),some (.int (m:Int)),some TD,a10,a11,a12,a13] s2=some (.nx [a0,a1,some (.ref p),some b.d,some (.ref l),some (.str z),a6,some (.int (hd:Int)),some (.int (m:Int)),some TD,some (Iw.d ⟨b.ho,b.w,b.h,b.ts.take (m-hd)⟩),a11,a12,a13],s2):=by
  have eB:Iw.d ⟨b.ho,b.w,b.h,b.ts.take (m-hd)⟩=.tup [b.ho.d,.tup [.int b.w,.int b.h],Ms (b.ts.take (m-hd))]:=rfl;rw[eB];generalize b.d=B at *;generalize b.ho.d=HO at *;generalize Ms b.ts=ST at *;generalize Ms (b.ts.take (m-hd))=A at *;generalize D.tup [.int b.w,.int b.h]=FL at *;have U:∀s:Hf,Lg (mB Hr (mV 3) (mK (.int 2))) Jw (IW (Hi Pl (Hc (mK (.int 0)) (Hc (mB KC (mV 8) (mV 7)) mZ)))) [a0,a1,some (.ref p),some B,some (.ref l),some (.str z),a6,some (.int (hd:Int)),some (.int (m:Int)),some TD,a10,a11,a12,a13] s=some (A,s):=λs=>by rw[Tb];simp only[II,Im,Ii,Ai,AD,Aa,S,Lr,Lc,Je,Iy,Iz,sub_int,T,u]
  simp only[J9,M4,Iy,II,Im,Ii,Ai,AD,Aa,M,N,U,Iz];rfl
 have y:∀s:Hf,Jp (.int (m:Int)) (.int (hd:Int)) s=some (.bl (!decide (m<hd)),s):=λs=>by
  show some (D.bl (decide ((m:Int) ≥ (hd:Int))),s)=_
  congr 3
  rw[A8];simp
 have lm:∀s:Hf,Ik (.int (m:Int)) (.int (hd:Int)) s=some (.bl (decide (m<hd)),s):=λs=>by
  show some (D.bl (decide ((m:Int)<(hd:Int))),s)=_
  congr 3
  rw[decide_eq_decide];omega
 have two:∃s3,Gr s2 s3/\Ih (JD (mT (mB Ik (mV 8) (mV 7))) (mT (mB IS (mV 9) (mU (Hc (mK (.str "row")) (Hc (mV 8) mZ)))))) (mR (mK (.bl false))) IH [a0,a1,some (.ref p),some b.d,some (.ref l),some (.str z),a6,some (.int (hd:Int)),some (.int (m:Int)),some TD,a10,a11,a12,a13] s2=some (.nx [a0,a1,some (.ref p),some b.d,some (.ref l),some (.str z),a6,some (.int (hd:Int)),some (.int (m:Int)),some TD,a10,a11,a12,a13],s2)/\Ih (JD (mT (mB Jp (mV 8) (mV 7))) (J8 (mT (Hi V7 (Hc (mV 9) (Hc (mU (Hc (mK (.str "bed")) (Hc (mV 10) mZ))) mZ)))))) (mR (mK (.bl false))) IH [a0,a1,some (.ref p),some b.d,some (.ref l),some (.str z),a6,some (.int (hd:Int)),some (.int (m:Int)),some TD,some (Iw.d ⟨b.ho,b.w,b.h,b.ts.take (m-hd)⟩),a11,a12,a13] s2=some (.nx [a0,a1,some (.ref p),some b.d,some (.ref l),some (.str z),a6,some (.int (hd:Int)),some (.int (m:Int)),some TD,some (Iw.d ⟨b.ho,b.w,b.h,b.ts.take (m-hd)⟩),a11,a12,a13],s3):=by
  cases hm:decide (m<hd) with
  |true=>
   rw[hm]at y lm v;subst v;generalize Iw.d ⟨b.ho,b.w,b.h,b.ts.take (m-hd)⟩=X;generalize b.d=B at *;refine⟨s2,Gr.refl _,Ky (Qr (s1:=s2) (Hw (by simp[lm])) (Hw ?_)),Ky (Qq (Hw (by simp[y])))⟩;have:=Va (n:=(m:Int)) (s:=s2);show mB IS (mV 9) _ [a0,a1,some (.ref p),some B,some (.ref l),some (.str z),a6,some (.int (hd:Int)),some (.int (m:Int)),some (.tup [.str "row",.int (m:Int)]),a10,a11,a12,a13] s2=_;have E:=QU (x:="row") (i:=8) (d:=.int (m:Int)) (ρ:=[a0,a1,some (.ref p),some B,some (.ref l),some (.str z),a6,some (.int (hd:Int)),some (.int (m:Int)),some (.tup [.str "row",.int (m:Int)]),a10,a11,a12,a13]) (s:=s2) rfl;simp only[II,E,Im,Ai,AD,Aa,this]
  |false=>
   rw[hm]at y lm v;subst v;have Y:Iw.P ⟨b.ho,b.w,b.h,b.ts.take (m-hd)⟩:=⟨h.p.names,h.p.few,h.p.kinds,h.p.many,by
    show(b.ts.take (m-hd)).length<64;rw[AN];have:=h.len;omega⟩
   have pl:plain 6 (.tup [.str "bed",Iw.d ⟨b.ho,b.w,b.h,b.ts.take (m-hd)⟩]):=⟨by show 2<=10000;decide,all2 (show Ap ("bed":Str)=true by decide +kernel) Y.plain⟩
   obtain⟨s3,Q,g3⟩:=cK (n:=12) (st:=s2) (TV pl (by decide));have Q:V7 [.tup [.str "bed",Iw.d ⟨b.ho,b.w,b.h,b.ts.take (m-hd)⟩],.tup [.str "bed",Iw.d ⟨b.ho,b.w,b.h,b.ts.take (m-hd)⟩]] s2=some (.bl true,s3):=Q;refine⟨s3,g3,?_⟩;show _/\Ih _ _ _ [a0,a1,some (.ref p),some b.d,some (.ref l),some (.str z),a6,some (.int (hd:Int)),some (.int (m:Int)),some (.tup [.str "bed",Iw.d ⟨b.ho,b.w,b.h,b.ts.take (m-hd)⟩]),some (Iw.d ⟨b.ho,b.w,b.h,b.ts.take (m-hd)⟩),a11,a12,a13] s2=some (.nx [a0,a1,some (.ref p),some b.d,some (.ref l),some (.str z),a6,some (.int (hd:Int)),some (.int (m:Int)),some (.tup [.str "bed",Iw.d ⟨b.ho,b.w,b.h,b.ts.take (m-hd)⟩]),some (Iw.d ⟨b.ho,b.w,b.h,b.ts.take (m-hd)⟩),a11,a12,a13],s3);generalize Iw.d ⟨b.ho,b.w,b.h,b.ts.take (m-hd)⟩=X at *;generalize b.d=B at *;refine⟨Ky (Qq (Hw (by simp[lm]))),Ky (Qr (s1:=s2) (Hw (by simp[y])) (Ic (b:=true) (by simp[Q])))⟩
 obtain⟨s3,g3,t1,Z⟩:=two;have W:=(g3.old _ (qax r)).trans r;obtain⟨s4,q⟩:=cut W;have g4:Gr s3 s4:=(q [none,none,none,none,some (.ref l),none,none,none,some (.int (m:Int))] rfl rfl).2;obtain⟨s5,e5,g5⟩:=zmm (s:=s4) h f g;have jl:(Txt.join "\n" ((JC b).take m)).length+("\n":Str).length<=10000:=by
  rw[YD];have:=(Vz (Vk h m) (Ar (W8 h m) (by decide))).len;have:("\n":Str).length=1:=by decide
  omega
 have ea:=add_str (st:=s4) jl;refine⟨some TD,some (Iw.d ⟨b.ho,b.w,b.h,b.ts.take (m-hd)⟩),s5,?_,(g1.trans g2).trans (g3.trans (g4.trans g5))⟩;unfold Vu;refine HD (ρ1:=[a0,a1,some (.ref p),some b.d,some (.ref l),some (.str z),a6,some (.int (hd:Int)),some (.int (m:Int)),some TD,a10,a11,a12,a13]) (s1:=s2) ?_ (HD t1 (HD less (HD Z ?_)))
 ·simp only[J9,Je,Iy,(j [a0,a1,some (.ref p),some b.d,some (.ref l),some (.str z),a6,some (.int (hd:Int)),some (.int (m:Int)),a9,a10,a11,a12,a13] rfl rfl).1,Iz,Aa,J];rfl
 have:=Va (n:=(m:Int)) (s:=s5);refine Ky (s1:=s5) (Hw (b:=false) ?_);have E:=QU (x:="row") (i:=8) (d:=.int (m:Int)) (ρ:=[a0,a1,some (.ref p),some b.d,some (.ref l),some (.str z),a6,some (.int (hd:Int)),some (.int (m:Int)),some TD,some (Iw.d ⟨b.ho,b.w,b.h,b.ts.take (m-hd)⟩),a11,a12,a13]) (s:=s5) rfl;simp only[E,II,Je,Iy,(q [a0,a1,some (.ref p),some b.d,some (.ref l),some (.str z),a6,some (.int (hd:Int)),some (.int (m:Int)),some TD,some (Iw.d ⟨b.ho,b.w,b.h,b.ts.take (m-hd)⟩),a11,a12,a13] rfl rfl).1,Ii,Iz,Aa,ea,e5,Im,Ai,AD,this]
end
def sD{n:Int}:Ie (.tup [.str "row",.int n]) (.tup [.str "row",.int n]) s=some (.bl true,s):=by obtain⟨p,l,o⟩:=YM (n:=100) (st:=s) (TV (n:=2) (d:=.tup [.str "row",.int n]) ⟨by show 2<=10000;decide,all2 (show Ap ("row":Str)=true by decide +kernel) trivial⟩<|by decide);unfold Ie;rw[l];simp[o]
def zmt(h:Ke z 8000)(G:0<z.length)(f:Jh p s):
  ∃a e s',Xz [a0,a1,some (.ref p),some B,some (.ref l),some (.str z),a6,a7,a8,a9,a10,a11,a12,a13] s=some (.nx [a0,a1,some (.ref p),some B,some (.ref l),some (.str z),a6,a7,a8,a9,a10,a11,a,e],s')/\Jh p s':=by
 have W:=len_str (z:=z) (st:=s) (by have:=h.len;omega);obtain⟨r,s1,g,H,I,j,f1,_⟩:=Mu (many:=(z.length:Int)) f (by omega) (by have:=h.len;omega);have m:=Xh (z:=z) (n:=r) (s:=s1) (by have:=h.len;omega);have w:Ke (Txt.slice z none<|some r) 8000:=⟨by
  have:=iJ (z:=z) (lo:=none) (hi:=some r);rw[AA,AA]at this;exact Ar this h.len,λc q=>h.ok c (iK q)⟩
 generalize Txt.slice z none (some r)=y at *;obtain⟨s2,A,g2⟩:=wZ (st:=s1) w;rw[vK]at A;obtain⟨s3,v,g3⟩:=VO (st:=s2) w;have E:Hm (Lg (mV 5) Jw<|IW<|Hi Kq<|Hc (mV 2)<|Hc (Hi Hl<|Hc (mV 5)<|mZ)<|mZ) (Ho 12) [a0,a1,some (.ref p),some B,some (.ref l),some (.str z),a6,a7,a8,a9,a10,a11,a12,a13] s=some (.nx [a0,a1,some (.ref p),some B,some (.ref l),some (.str z),a6,a7,a8,a9,a10,a11,some (.str y),a13],s1):=by simp only[J9,Tb,Im,Ai,AD,Aa,Lr,Lc,Je,Iy,Iz,W,g,m];rfl
 generalize parse (rowsOf y)=o at *;have Q:Hm (Hi Ug<|Hc (mV 12)<|mZ) (Ho 13) [a0,a1,some (.ref p),some B,some (.ref l),some (.str z),a6,a7,a8,a9,a10,a11,some (.str y),a13] s1=some (.nx [a0,a1,some (.ref p),some B,some (.ref l),some (.str z),a6,a7,a8,a9,a10,a11,some (.str y),some (aK<|Si o)],s2):=by simp only[J9,Im,Ai,AD,Aa,Je,Iy,Iz,A];rfl
 have u:=j.gr g2;cases o with
 |inr b=>
  refine⟨some<|.str y,some .non,s2,HD E<|HD Q<|Ky (s1:=s2)<|Qq<|Hw (b:=false) ?_,u⟩;rfl
 |inl n=>
  have v:Nq [.str y] s2=some (.tup [.str "row",.int (n:Int)],s3):=v;have C:Qv (.int (n:Int)) .non s2=some (.bl true,s2):=rfl;have F:=QU (x:="row") (i:=13) (d:=.int (n:Int)) (ρ:=[a0,a1,some (.ref p),some B,some (.ref l),some (.str z),a6,a7,a8,a9,a10,a11,some (.str y),some (.int (n:Int))]) (s:=s3) rfl;have ne:=Va (n:=(n:Int)) (s:=s3);refine⟨some<|.str y,some<|.int (n:Int),s3,HD E<|HD Q<|Ky (s1:=s3)<|Qr (s1:=s2) (Hw (b:=true) ?_)<|Hw (b:=false) ?_,u.gr g3⟩
  ·show mB Qv (mV 13) (mK .non) [a0,a1,some (.ref p),some B,some (.ref l),some (.str z),a6,a7,a8,a9,a10,a11,some (.str y),some (.int (n:Int))] s2=_;simp only[II,Im,Ai,AD,Aa,Ii,C]
  show mB IS _ _ [a0,a1,some (.ref p),some B,some (.ref l),some (.str z),a6,a7,a8,a9,a10,a11,some (.str y),some (.int (n:Int))] s2=_;simp only[F,II,Je,Iy,Iz,Im,Ai,AD,Aa,v,ne]
section
variable {a5:Option D}{ST:D}{n:Nat}{x y q:Int}
def lG(a:Hl [.ref l] s=some (.int x,s))(c:Hr B (.int 2) s=some (ST,s))(lt:Hl [ST] s=some (.int y,s))(e:x-y=q):Hm (mB KC (Hi Hl<|Hc (mV 4)<|mZ)<|Hi Hl<|Hc (mB Hr (mV 3)<|mK<|.int 2)<|mZ) (Ho 7) [a0,a1,a2,some B,some (.ref l),a5,a6,a7,a8,a9,a10,a11,a12,a13] s=some (.nx [a0,a1,a2,some B,some (.ref l),a5,a6,some (.int q),a8,a9,a10,a11,a12,a13],s):=by subst e;simp only[J9,II,Je,Iy,Iz,Im,Ii,Ai,AD,Aa,a,c,lt,sub_int];rfl
def zS(a:Hl [.ref l] s=some (.int x,s))(c:x=(n:Int))(f:n<=1000):Wz (mK<|.int 1) (mB Ht (Hi Hl<|Hc (mV 4)<|mZ)<|mK<|.int 1) [a0,a1,a2,some B,some (.ref l),a5,a6,a7,a8,a9,a10,a11,a12,a13] s=some (⟨run 1 n,[]⟩,s):=by
 have o:small 1=true:=Qi (by decide) (by decide);have q:small (x+1)=true:=Qi (by omega) (by omega);have e:(x+1-1).toNat=n:=by omega
 unfold Wz;simp only[Ii,Aa,II,Je,Iy,Iz,Im,Ai,AD,a,add_int,o,q,Gu,if_true,e]
end
def vM{ns:List Int}{k:Int}{st:Hf}{v2 v3 v4 v5 v6 v7 v8 v9 v10 v11 v12 v13:Option D}(h0:0<=k)(h1:k<1000):
  ∃(w2 w3 w4 w5 H w7 J I i G C F:Option D) (st':Hf),Vv [some (.kl<|ns.map D.int),some (.int k),v2,v3,v4,v5,v6,v7,v8,v9,v10,v11,v12,v13] st=some (.nx [some (.kl<|ns.map D.int),some (.int k),w2,w3,w4,w5,H,w7,J,I,i,G,C,F],st'):=by
 obtain⟨s1,e1,p1,g1⟩:=pF (ns:=ns) (st:=st) h0 h1;obtain⟨d,s2,e2,hd,p2,f2⟩:=QF [.int 1,.int 3,.int 6] p1 (by decide) (by decide);obtain⟨m,rfl,Q,K⟩:∃m:Int,d=.int m/\1<=m/\m<=6:=by
  simp at hd;rcases hd with rfl|rfl|rfl<;>exact⟨_,rfl,by decide,by decide⟩
 obtain⟨b,s3,e3,L,p3,f3⟩:=mY p2 Q (by omega);have r:=Rt.of L K;obtain⟨l,s4,e4,o,g4⟩:=xK (st:=s3) r.b;have p4:=p3.gr g4;have ej:=Yq (z:="\n") (c:=80) (n:=1300) o (gE r.b) (gD r.b) (by decide) (by decide);have M:JC b=(IM b).map (Txt.join " "):=YA b;have ok:Ke (Txt.join "\n"<|JC b) 8000:=by rw[M];exact Vz (Xc r)<|Ar (YB r)<|by decide
 have zl:0<(Txt.join "\n"<|JC b).length:=Nat.pos_of_ne_zero λz=>by
  have x:=Yd (rss:=IM b) (by unfold IM;simp)<|Xc r;rw[<-M]at x;have:Txt.join "\n" (JC b)="":=by
   apply Py;have q:(Txt.join "\n"<|JC b).cps.toList.length=(Txt.join "\n"<|JC b).length:=AA;rw[Ba (q.trans z)]
   decide
  rw[this]at x;have h2:rowsOf ""=[[("":Str)]]:=by decide +kernel
  rw[h2]at x;unfold IM at x;exact absurd (AM (AM x).1).1<|by decide
 have tB:ON s4 b.d:=Tw;have tH:ON s4 b.ho.d:=Tw;obtain⟨ds,a,s5,e5,y,X,N⟩:=zl1 (a0:=some (.kl<|ns.map D.int)) (a1:=some (.int k)) (a2:=some (.ref st.length)) (a6:=v6) (a7:=v7) (a8:=v8) (a9:=v9) (a10:=v10) (a11:=v11) (a12:=v12) (a13:=v13) (z:=Txt.join "\n" (JC b)) tB tH (Rg b) o;have u:=(X.old _<|qax o).trans o;have p5:=p4.gr X;obtain⟨ρ6,A,Y,⟨H,rfl⟩,Z⟩:=VD (W:=⟨ds,[(a,ds)]⟩) (g:=Ho 6) (m:=cR) (f:=λd=>d) (b:=λ_=>true) (R:=λρ=>∃w,ρ=[some (.kl<|ns.map D.int),some (.int k),some (.ref st.length),some b.d,some (.ref l),some (.str<|Txt.join "\n"<|JC b),w,v7,v8,v9,v10,v11,v12,v13]) (as:=ds) (st:=s5) ⟨v6,rfl⟩ (λs g=>QT ((g.old _<|qax y).trans y)) (λd hd ρ s hρ g=>by obtain⟨w,rfl⟩:=hρ;have er:=vX ((N d hd).gr g);have ne:=Va (n:=0) (s:=s);refine⟨[some (.kl<|ns.map D.int),some (.int k),some (.ref st.length),some b.d,some (.ref l),some (.str<|Txt.join "\n"<|JC b),some d,v7,v8,v9,v10,v11,v12,v13],_,s,rfl,Gr.refl _,?_,⟨some d,rfl⟩⟩;rw[if_pos rfl];refine Ky (s1:=s) (Hw (b:=false) ?_);generalize b.d=B at *;simp only[II,Je,Iy,Iz,Im,Ai,AD,Aa,er];exact ne)
 rw[zY,show(ds.all λ_=>true)=true by simp,if_pos rfl]at Z;have p6:=p5.gr Y;have v:=(Y.old _<|qax u).trans u;have S:=M9 v;have ll:(JC b).length=(IM b).length:=by rw[M,Af]
 rw[Af,ll]at S;have lt:∀s:Hf,Hl [Ms b.ts] s=some (.int (b.ts.length:Int),s):=λs=>by unfold Ms;rw[Px,Af]
 have hts:b.ts.length<=(IM b).length:=by unfold IM;simp;omega
 have few:=YB r;obtain⟨ρ7,E,g7,⟨J,I,i,rfl⟩,e7⟩:=VD (W:=⟨run 1 (IM b).length,[]⟩) (g:=Ho 8) (m:=Vu) (f:=λj:Nat=>D.int (1+(j:Int))) (b:=λ_=>true) (R:=λρ=>∃J I i,ρ=[some (.kl<|ns.map D.int),some (.int k),some (.ref st.length),some b.d,some (.ref l),some (.str<|Txt.join "\n"<|JC b),H,some (.int (((IM b).length-b.ts.length:Nat):Int)),J,I,i,v11,v12,v13]) (as:=AZ (IM b).length) (st:=A) ⟨v8,v9,v10,rfl⟩ (λs g=>rfl) (λj hj ρ s hρ g=>by
  obtain⟨J,I,i,rfl⟩:=hρ;have hj:=List.mem_range.mp hj;have ha:=(g.old _<|qax v).trans v;obtain⟨u9,u10,T,e,g'⟩:=xX (p:=st.length) (a0:=some (.kl<|ns.map D.int)) (a1:=some (.int k)) (a6:=H) (a9:=I) (a10:=i) (a11:=v11) (a12:=v12) (a13:=v13) (m:=1+j) r ha (by omega) (by omega);have ec:((1+j:Nat):Int)=1+(j:Int):=by omega
  rw[ec]at e;exact⟨_,_,T,rfl,g',by rw[if_pos rfl];exact e,⟨_,_,_,rfl⟩⟩)
 rw[show(AZ (IM b).length).map (λj:Nat=>D.int (1+(j:Int)))=run 1 (IM b).length from rfl,show((AZ (IM b).length).all λ_=>true)=true by simp,if_pos rfl]at e7;have p7:=p6.gr g7;have key:=QG (W:=⟨run 0 4,[]⟩) (g:=Ho 11) (m:=Xz) (ds:=run 0 4) (ρ:=[some (.kl<|ns.map D.int),some (.int k),some (.ref st.length),some b.d,some (.ref l),some (.str<|Txt.join "\n"<|JC b),H,some (.int (((IM b).length-b.ts.length:Nat):Int)),J,I,i,v11,v12,v13]) (st:=E)
  (Inv:=λ_ ρ s=>Jh st.length s/\∃G C F,ρ=[some (.kl<|ns.map D.int),some (.int k),some (.ref st.length),some b.d,some (.ref l),some (.str<|Txt.join "\n"<|JC b),H,some (.int (((IM b).length-b.ts.length:Nat):Int)),J,I,i,G,C,F]) ⟨p7,_,_,_,rfl⟩ (λ_ _ _ _ _=>rfl) (λj d ρ s hd hI=>by obtain⟨hp,G,C,F,rfl⟩:=hI;obtain⟨u12,u13,T,e,U⟩:=zmt (B:=b.d) (l:=l) (a0:=some (.kl<|ns.map D.int)) (a1:=some (.int k)) (a6:=H) (a7:=some (.int (((IM b).length-b.ts.length:Nat):Int))) (a8:=J) (a9:=I) (a10:=i) (a11:=some d) (a12:=C) (a13:=F) ok zl hp;exact⟨_,s,_,T,rfl,e,U,_,_,_,rfl⟩)
 obtain⟨ρ8,s8,e8,_,G,C,F,rfl⟩:=key;generalize hz:Txt.join "\n" (JC b)=z at *;have j2:=Rf b;have sb:((IM b).length:Int)-(b.ts.length:Int)=(((IM b).length-b.ts.length:Nat):Int):=by omega
 generalize b.d=B at *;generalize Ms b.ts=ST at *;refine⟨some<|.ref st.length,some B,some<|.ref l,some<|.str z,H,some<|.int (((IM b).length-b.ts.length:Nat):Int),J,I,i,G,C,F,s8,?_⟩;unfold Vv;refine HD (ρ1:=[some (.kl<|ns.map D.int),some (.int k),some (.ref st.length),v3,v4,v5,v6,v7,v8,v9,v10,v11,v12,v13]) (s1:=s1) (by simp[e1]) ?_;refine HD (ρ1:=[some (.kl<|ns.map D.int),some (.int k),some (.ref st.length),some B,v4,v5,v6,v7,v8,v9,v10,v11,v12,v13]) (s1:=s3) (by simp[e2,e3]) ?_;refine HD (ρ1:=[some (.kl<|ns.map D.int),some (.int k),some (.ref st.length),some B,some (.ref l),v5,v6,v7,v8,v9,v10,v11,v12,v13]) (s1:=s4) (by simp[e4]) ?_;refine HD (ρ1:=[some (.kl<|ns.map D.int),some (.int k),some (.ref st.length),some B,some (.ref l),some (.str z),v6,v7,v8,v9,v10,v11,v12,v13]) (s1:=s4) (by simp[JH,ej]) ?_;refine HD (ρ1:=[some (.kl<|ns.map D.int),some (.int k),some (.ref st.length),some B,some (.ref l),some (.str z),H,v7,v8,v9,v10,v11,v12,v13]) (s1:=A) (by rw[Lv,e5];exact Z) ?_;refine HD (ρ1:=[some (.kl<|ns.map D.int),some (.int k),some (.ref st.length),some B,some (.ref l),some (.str z),H,some (.int (((IM b).length-b.ts.length:Nat):Int)),v8,v9,v10,v11,v12,v13]) (s1:=A) (lG S (j2 A) (lt A) sb) ?_;refine HD (ρ1:=[some (.kl<|ns.map D.int),some (.int k),some (.ref st.length),some B,some (.ref l),some (.str z),H,some (.int (((IM b).length-b.ts.length:Nat):Int)),J,I,i,v11,v12,v13]) (s1:=E) ?_ ?_
 ·rw[Lv,zS S rfl (by omega)];exact e7
 have ew:∀ρ:HX,Of (mK<|.int 4) ρ E=some (⟨run 0 4,[]⟩,E):=λρ=>rfl;rw[Lv,ew];exact e8
def xJ(ns:List Int)(Y:ns.length<=63):∃st,WN [.kl (ns.map D.int)] []=some (.bl true,st):=by
 obtain⟨j,i,n,q⟩:∃j:Int,0<=j/\j<=6/\(Hi Pl<|Hc (mK<|.int 1)<|Hc (Hi SD<|Hc (Hi Hl<|Hc (mV 0)<|mZ)<|Hc (mK<|.int 6)<|mZ)<|mZ) [some (.kl<|ns.map D.int),none,none,none,none,none,none,none,none,none,none,none,none,none] []=some (.int j,[]):=by
  have em:∀(a b:Int) (s:Hf),SD [.int a,.int b] s=some (.int (if b<a then b else a),s):=λa b s=>rfl;have ex:∀(a b:Int) (s:Hf),Pl [.int a,.int b] s=some (.int (if b > a then b else a),s):=λa b s=>rfl;refine⟨_,?_,?_,by simp[W7,em,ex];rfl⟩
  ·split<;>(try split)<;>omega
  split<;>(try split)<;>omega
 have key:=QG (W:=⟨run 0 j.toNat,[]⟩) (g:=Ho 1) (m:=Vv) (ds:=run 0 j.toNat) (ρ:=[some (.kl<|ns.map D.int),none,none,none,none,none,none,none,none,none,none,none,none,none]) (st:=[])
  (Inv:=λk ρ s=>∃v1 v2 u v4 v v6 w x y v10 v11 l o,ρ=[some (.kl<|ns.map D.int),v1,v2,u,v4,v,v6,w,x,y,v10,v11,l,o]) ⟨_,_,_,_,_,_,_,_,_,_,_,_,_,rfl⟩ (λ_ _ _ _ _=>rfl) (λk d ρ s hd C=>by obtain⟨v1,v2,u,v4,v,v6,w,x,y,v10,v11,l,o,rfl⟩:=C;obtain⟨hk,rfl⟩:=run_get hd;obtain⟨F,G,H,I,J,K,L,M,B,E,Q,f,N,e⟩:=vM (ns:=ns) (k:=0+(k:Int)) (st:=s) (v2:=v2) (v3:=u) (v4:=v4) (v5:=v) (v6:=v6) (v7:=w) (v8:=x) (v9:=y) (v10:=v10) (v11:=v11) (v12:=l) (v13:=o) (by omega) (by omega);exact⟨_,s,_,N,rfl,e,_,F,G,H,I,J,K,L,M,B,E,Q,f,rfl⟩)
 obtain⟨ρ',s1,S,v1,v2,u,v4,v,v6,w,x,y,v10,v11,l,o,rfl⟩:=key;have h0:Ke ("":Str) 8000:=⟨by decide,λc h=>by rw[zm2]at h;cases h⟩
 obtain⟨s2,A,g2⟩:=VO (st:=s1) h0;have T:parse (rowsOf "")=.inl 0:=by
  have:rowsOf ""=[[("":Str)]]:=by decide +kernel
  rw[this];exact Yu λr Z z=>absurd (AM (AM z).1).1 (by decide)
 rw[T]at A;have A:Nq [.str ""] s1=some (.tup [.str "row",.int 0],s2):=A;have eq:Ie (.tup [.str "row",.int 0]) (.tup [.str "row",.int 0]) s2=some (.bl true,s2):=sD;refine⟨s2,IG ?_⟩;unfold aM;have U:small j=true:=Qi i (by omega);show mS _ _ [some (.kl<|ns.map D.int),none,none,none,none,none,none,none,none,none,none,none,none,none] []=_;refine HD (ρ1:=[some (.kl<|ns.map D.int),v1,v2,u,v4,v,v6,w,x,y,v10,v11,l,o]) (s1:=s1) ?_ ?_
 ·rw[Lv,Nh,q];simp only[Aa,U,if_true];exact S
 have X:∀s:Hf,mU (Hc (mK<|.str "row")<|Hc (mK<|.int 0)<|mZ) [some (.kl<|ns.map D.int),v1,v2,u,v4,v,v6,w,x,y,v10,v11,l,o] s=some (.tup [.str "row",.int 0],s):=λs=>rfl;simp only[Lx,II,Je,Iy,Iz,Ii,Aa,A,X,eq,Aj]
end L2.MP.T0
namespace L2.MP.T0
open PySem L2 L2.MP PySem.Spec PyProof.Rows PySem.W
noncomputable abbrev hk:=Hx.Qn fns Sm cos Sk
end L2.MP.T0
open PySem PySem.W PyProof.Rows L2 L2.MP L2.MP.T0 in
set_option maxRecDepth 100000 in
set_option maxHeartbeats 0 in
theorem PySem.Challenge.cw_stickytiles_k79_no_texts_and_cut_ones_holds : PySem.Challenge.rw_stickytiles_k79_no_texts_and_cut_ones.Holds := by
 refine holds_law (by decide +kernel) λo=>?_;refine holds_open (q:=vw) (loose:=[]) (XP:=XL vw []) (YP:=hk.says) uU hk.of hk.keeps (λs e=>xl_of s (Bool.and_eq_true_iff.mp e).1) XL.keeps (by rfl) (by rfl) (by rfl) (λs e=>recFacts_of (Bool.and_eq_true_iff.mp e).2) (by rfl) o (by decide +kernel) ⟨rfl,rfl,rfl,rfl,rfl,by decide +kernel⟩ ?hw ?hc
 case hw=>w_witness2
 case hc=>
  refine Hx.Nr (l:=PySem.Challenge.rw_stickytiles_k79_no_texts_and_cut_ones) (n:=63) (k:=13) (x:="_law_script") (CX:=Lu) (sp:=λK=>Qj K 1 WN) rfl (by decide) rfl ⟨rfl,by decide,by decide,rfl⟩ (λK w E Q h A B X G e=>?_) (λK H a ns r u y=>(xJ ns r).elim λ_ e=>yS u y e) λ_ _ _ _ z=>z;obtain⟨f,⟨W,g,kV,j,pm,an,cd,m,C,l,c⟩,n,k⟩:=A.fn ("law",top 56) (AK (i:=36) rfl)
  cases e.symm.trans (mg_of X G n);exact⟨_,λs v=>.of_eq rfl,λbase _ _=>qS (En.of A X G) (EE.of B Al X G) (Vd (st:=top 56) l c k)⟩