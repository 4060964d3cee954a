import PyProof.Rows.All
import Wide.All
import Wide.FinOn
import PyProof.EqAt
import PyProof.EqKinds
import PyProof.TupleCall
import PyProof.AttrMissHeap
import PyProof.StrWalks
import PyProof.EnumMake
import PyProof.FitsBits
import PyProof.CallStr
import PyProof.StrCalls
import PyProof.RulesTry
import PyProof.Rows.RuleIs
import PyProof.DictTruth
import PyProof.MinMaxWalk
import PyProof.FactsAll.tuple_2
import PyProof.WalkInts
import PyProof.WalksMore
import PyProof.SetScanFacts
import PyProof.Draws
import PyProof.TupleKey
import PyProof.IsRules
import PyProof.FString5
import PyProof.NeKinds
import PyProof.FactsAll.dict_2
import PyProof.ExcClass3
import PyProof.InstStoreFacts
import PyProof.RulesAs
import PyProof.AssignAttr
import PyProof.ExcArgs
import PyProof.NsDelKeeps
import PyProof.StrLawsIn
import PyProof.StrLawsChain
import PyProof.Rows.StrIntSpec
import PyProof.Rows.ReprOcc
import PyProof.ExcBaseAll.ValueError
import PyProof.Rows.StrSplitAre
import KE.IntText
import KE.IntTextLaws
import KE.IntTextText
import KE.KDictOf
import KE.KIntText
import KE.KIsAll
import KE.KItem
import KE.KPairComp
import KE.KSortAsk
import KE.KSortTup
import KE.KTryMore
import KE.KUnpack
import OpenK.KCall
import OpenK.KDescr
import OpenK.KDict
import OpenK.KFacts
import OpenK.KGet
import OpenK.KLine
import OpenK.KList
import OpenK.KMake
import OpenK.KNot
import OpenK.KOps
import OpenK.KRaise
import OpenK.KWalk
import OpenK.Peek
import PySem.Challenge.RW_stickytiles_k78_rows_at_fault
set_option maxHeartbeats 8000000
set_option maxRecDepth 100000
open Option renaming bind_some→Aa,map_some→Ak,isNone_none→DP,isSome_map→DZ,getD_some→Ec,isSome_some→Fw,getD_none→F3,map_none→Gp,bind→GQ
open PySem renaming wpAny_bind→Ab,wpAny_pure→Ae,wpAny_newObj_type→AR,mem_of_lookup→AS,wpAny_mono→AZ,wpAny_holding→A7,wpAny_field→Be,wpAny_truthy_bool→Bk,wpAny_loadPart_at→Bt,wpAny_call_entry→Bx,wpAny_standAt→Bz,wpAny_callSpecial?_slot→BB,wpAny_setField→BG,wpAny_typeNameOfWhole_itemiter→BJ,wpAny_Call_Name_kw→BS,wpAny_passesOwn→BX,wpAny_getItem_str_slice→Cf,wpAny_execs_nil→Cn,wpAny_setField_rec→Cq,wpAny_typeOf→Cy,sizeLine_eq→CL,post_val_or_str→CT,tupleKind_room_in1→CW,wpAny_bindName→C4,wpAny_pyNext_list_item→Dc,wpAny_isOneOf_itemiter→Dg,plainId_quiet→Dh,wpAny_pyNext_list_end→Dl,wpAny_notOrdered_dict→Do,builtinLookup_eq_fast→Dp,wpAny_rule→Dt,codeAny_mono→Du,wpAny_loadPart'→Dv,typeIs_str→Dw,call_meets→Dx,pushCells_keeps→DA,codeAny_builtin→DD,length_partsBetween→DG,wpAny_isSubtype_exc→DH,wpAny_pyIter_list→DY,wpAny_dictEntries→D3,wpAny_call→D5,wpAny_execs_cons→D7,wpAny_pyNext_tuple_item→Em,wpAny_dictEpoch→Ew,typeLookup_type→Ey,wpAny_pyNext_tuple_end→EA,richCompare_meets_room→EC,wpAny_isTrue_Compare1→ER,intText?→EY,wpAny_loadName_local→Fb,codeAny_call_builtin→Fe,wpAny_attempt→Fg,wpAny_loadName_cell→Fj,wpAny_Tuple_spliced→Fk,wpAny_dictSet_pairs→Fq,seqIndex_neg→FA,sub_AttributeError→FD,wpAny_entryPlaceOf→FG,wpAny_assign_Name→FJ,wpAny_Assign_Name→FL,wpAny_sequenceKey→FP,wpAny_pyIter_enum→FU,wpAny_frameOf_fun→FW,seqIndex_of→FZ,wpAny_Name→Gd,call→Gf,size_glued→Gq
open PySem.W renaming Frag→Ac,keepIn→BF,fnOf→BU,codeIn→C5,callWith_K→DN,KitAt→DU,methodObj→DW,kitx_dict→D2,cellsFrom_some→EB,nsIn→FB,kitx_list→FR,kas_ask→Gk,lookIn→Gs,kitOne→Gv
open Bool renaming and_eq_true→Ad,false_eq_true→AM,false_ne_true→A6,eq_iff_iff→A8,not_eq_true'→Bs,true_and→BN,or_eq_true→Cp,false_and→Cu,not_false→DK,not_true→DV,not_not→FH,and_false→Gx,false_or→GB,true_or→GJ
open List renaming getElem?_cons_zero→Af,length_map→Ah,mem_cons_of_mem→Aj,mem_cons_self→Al,append_nil→Am,getElem?_eq_getElem→Ap,append_assoc→Aq,map_cons→Ax,getElem?_cons_succ→Az,size_toArray→AA,length_cons→AB,mem_of_getElem?→AD,getElem?_set_ne→AG,length_append→AI,getElem?_map→AJ,getElem?_append_left→AL,getD_eq_getElem?_getD→AQ,getElem?_append_right→AX,mem_append_right→AY,length_nil→A2,lookup_cons→A4,length_take→Ba,range→Bg,find?_cons→Bi,eq_nil_of_length_eq_zero→Bj,replicate→Br,map_map→By,mem_of_mem_drop→BA,length_drop→BE,mem_of_mem_take→BK,map_append→BL,all_eq_true→BP,nil_append→BZ,mem_append_left→B4,map_nil→B8,filterMap_cons→Cb,getElem?_replicate→Cc,pairwise_mergeSort→Cd,any_cons→Cj,mem_cons→Ck,length_set→Co,getElem?_set_self→Cr,length_replicate→Cv,getElem_mem→CD,take_length→CF,getElem_of_mem→CM,mergeSort_perm→CN,map_congr_left→CP,drop_eq_getElem_cons→CS,zip_cons_cons→CY,toArray→C1,getElem?_set→Da,length→De,length_singleton→Dm,eq_nil_or_concat→Dq,map_id→DL,contains_cons→DQ,set_comm→DR,nodup_append→D0,length_range→D1,cons_append→Ej,isEmpty_map→Ek,of_mem_zip→Es,mem_append→Ez,drop_eq_nil_of_le→EI,lookup→EM,drop_zero→ES,forIn_nil→ET,getElem?_toArray→EU,countP_mono_left→EV,take_append_drop→E3,map_drop→Fi,getElem?_range→Fn,takeWhile_cons→Ft,zip_nil_right→Fy,mem_singleton→FI,zip_nil_left→FO,take_add_one→FT,getLast?_map→FY,not_mem_nil→F6,countP_cons→F8,ext_getElem→F9,getElem_map→Ga,nodup_cons→Gg,nodup_nil→Gu,sum_cons→GC,map_take→GD,all_map→GK,mem_map→GL
open PySem.Heap renaming get?_push_of_some→Ag,lt_size→An,get?_push_size→Av,get?_update_other→AO,get?_update_self→Bb,SameBut→Bw,size_push→B6,get?_none_of_le→Ds,ExtBut→EK,get?_update_ne→Fs,get?_push_at→FV,size_update→Gb,MadeExcOf→Gw
open Nat renaming le_refl→Ai,le_trans→Ar,ne_of_lt→Au,lt_of_lt_of_le→Ay,lt_irrefl→AW,ne_of_gt→A5,le_succ→Bf,zero_le→Bo,lt_of_le_of_lt→BV,le_of_succ_le→B3,le_of_lt→B7,lt_trans→Cw,mul_le_mul_right→CI,succ_le_succ→Di,le_of_eq→Dy,sub_self→Dz,add_le_add_left→DE,mul_le_mul_left→DJ,min_le_right→Eb,le_add_right→Ed,lt_succ_of_lt→FQ,lt_succ_self→F5,min_le_left→Gh,not_lt_zero→Gj,add_le_add→Gy
open PySem.PyData renaming strOk→Ao,eqv→Bl,canLay0→BO,canLayAll0→Cs,str→CG,depth→CZ,depthAll→Et,eqvAll→Fh
open Option.some renaming inj→As
open PySem.Value renaming ref→Aw,none→AH,builtin→Cm,bool→CC,int→Er,notImplemented→Fc,str→Gz,isStrOf→GA,isInt→GM
open Array renaming length_toList→AF,getD_eq_getD_getElem?→BW,getElem?_toList→BY,all_eq_true'→DO,contains_toList→EZ,toList_extract→Ff,mk→F1,toList→GH
open PySem.NameKind renaming free→AK,cell→AU
open PySem.Str renaming length_append→AN,ofString→Bp,join→Ee,empty→Eu
open PySem.Obj renaming mapFields→AV,isFreed_of_fields→Bm,data_mapFields→BH,mapSeq→BQ
open PySem.Builtin.Str renaming occurrences→A0,glued→FS
open Ne renaming symm→A3
open PySem.StrLaws renaming glued_eq_join→Bc,join_split→C3,occ_length_le→EX,found_one→FX
open Prod.mk renaming inj→Bd
open Or renaming inr→Bq,inl→Bu
open PySem.Builtin.SmallTypes renaming nextOf→Bv
open PySem.F renaming slot_str_split→BC,type_str_split→BD,args_tuple_add_2→Ea,entry_tuple_add→Eo,slot_dict_items→Ep,slot_tuple_add→EF,plainAttrs_str→EJ,slot_str_strip→EN,type_str_strip→EO
open PyProof.Rows renaming slot_tuple_getitem→BI,assignInOrder_cons→BR,mem_join→CA,callWith_type1→CB,slot_tupleiter_next→CO,assignInOrder_nil→DX,digits10_le→Ei,subscriptTail_builtinR→EG,entry_tupleiter_next→Fd,entry_tuple_getitem→Fm,args_tupleiter_next→Fp,args_tuple_getitem→Fz,unpackItems_tuple→FM,lt_int→Gc,Subscript_→Ge,le_int→GF
open PySem.Paired renaming length→BM,snoc→GP
open PySem.PassesOwn renaming never→B1
open PySem.Builtin.Slice renaming slicePlaces→B5,sliceAdjust→CQ,sliceApplied→DS
open PySem.Builtin.Tuple renaming tupleExact→B9,tupleCompareSizes→Dr,tupleItemsOf→DT
open PySem.AutoSeq1 renaming wpAny_loadPart'→Ca,sub_tuple_tuple→D9
open PySem.Builtin.Dict renaming updateFrom→Cg,addKeywords→Ef,selfAndRest→Eg,pairItems→EL
open Int renaming eq_ofNat_of_zero_le→Ci,toNat_natCast→Ct,emod_nonneg→CV,le_of_lt→C0,emod_lt_of_pos→C2,le_refl→Df,le_trans→DC,le_antisymm→Gi
open PySem.Builtin.Dict_items renaming ownsTuple→Cz,ownedTupleFields→C7,ownedTupleIsFree→C8,pairFromOwner→Dj,newIterator→Gm,dictOf→GG
open PySem.Around renaming under_plainId→CH,under→D8
open PySem.Calls renaming Name_function_global→CJ,spliced_cons→DM,loadGlobal_global→El,callWith_builtin→EH,spliced_nil→FN
open List.cons renaming inj→CK
open Array.Perm renaming refl→CU
open True renaming intro→C6
open List.Pairwise renaming nil→C9
open Sum renaming inl→Dk,inr→D6
open ForInStep renaming yield→DB
open PySem.Heap.SameBut renaming update→DF
open PySem.EntryCells renaming newEntry→DI
open PySem.NumText renaming digitsVal→D4
open Nat.succ renaming inj→Eh
open PySem.Heap.IsList renaming «at»→EW
open PySem.Builtin.Int renaming intBits→Fo
open PySem.Flow renaming next→Fu
open PySem.Code renaming isFrame→Fv,quiet_builtin→FE,isGuard→GI
open PySem.SeqAt.EqAt renaming int_int→Fx
open PySem.Heap.IsListIter renaming «at»→FC
open PySem.Heap.DictOf renaming new→Gn
open Sum.inr renaming inj→GO
open PySem.W.KatTups renaming cons→GR,nil→GU
open PySem.W.KasFin renaming intro→GS
open PySem.Heap.IsSliceOf renaming new→GV
set_option Elab.async false
open PySem renaming Value→IR,Addr→KB,model→KF,Heap→Pv,compareOp→PP,Program→P3,Expr→Re,World→UF,Stmt→W1
open List renaming getElem?_eq_some_iff→KM,mem_cons→On,mem_singleton→Os,mem_append→SZ,mem_map→UV
open Bool renaming and_eq_true_iff→SL
noncomputable section
abbrev Qqa:=PySem.Value->PySem.Shared->Prop
abbrev Qqb (v:PySem.Env) (e:PySem.Expr) (l:List PySem.Expr):Prop:=PySem.starEach (e::l) v=(false,PySem.eval e v)::PySem.starEach l v
abbrev Qqc (p:PySem.Pos) (l:List PySem.Expr) (v:PySem.Env):Prop:=(PySem.backTo p (PySem.starEach l v)).any (·.1)=false
abbrev Qqd:PySem.Obj:={cls:=.type "dict",data:=.dict #[]}
open PySem.Challenge renaming pw_stickytiles_k78_rows_at_fault→P0
namespace L2
open PySem PySem.Spec PyProof.Rows
def OV(s:W1):Arguments:=match s with
 |.FunctionDef _ a _ _ _ _ _ _ _ _=>a
 |_=>{posonlyargs:=[],args:=[],vararg:=none,kwonlyargs:=[],kw_defaults:=[],kwarg:=none,defaults:=[]}
def Ln(s:W1):List W1:=match s with
 |.FunctionDef _ _ b _ _ _ _ _ _ _=>b
 |_=>[]
def Jl(s:W1):Scope:=match s with
 |.FunctionDef _ _ _ _ _ _ sc _ _ _=>sc
 |_=>{kind:=.function,names:=[],isGenerator:=false,isCoroutine:=false}
end L2
namespace L2.MP.Hx
open PySem L2 PySem.W PyProof.Rows
def MK(h:Pv):Frag:=(Bg h.objs.size).filterMap λa=>(h.get? a).map λo=>(a,o)
def Sg(g:KB->Option Obj)(ns:KB)(x:Str):Option (Option IR):=match g ns with
 |some ⟨_,_,.dict a _,_⟩=>(match a.toList.find? (·.key.isStr x) with
   |some e=>some<|some e.val
   |none=>if a.toList.any (·.refKey)then none else some none)
 |_=>none
def kF(g:KB->Option Obj)(cd:IR)(q:Str):Bool:=match cd with
 |.ref c=>(match g c with
   |some ⟨_,_,.fields a,_⟩=>(match a.toList with|_::.str n _::_=>n==q|_=>false)
   |_=>false)
 |_=>false
def ZM(g:KB->Option Obj)(x:Str):Option (FuncData×Bool):=match Sg g mainGlobals x with
 |some (some<|.ref f)=>(match g f with
   |some ⟨_,_,.func fd,_⟩=>some ({fd with kwdefaults:=.none,doc:=.none,pyModule:=.none,annotations:=none,code:=.none,closureTuple:=.none},kF g fd.code x)
   |_=>none)
 |_=>none
def ZN(x:Str)(st:W1):Option (FuncData×Bool):=some (fnOf x x (OV st) (Ln st) (Jl st) .none .none .none .none none .none .none,true)
def ZS(v:Option (Option IR)):Option (Str⊕Int):=match v with
 |some (some<|.str s _)=>some<|.inl s
 |some (some<|.int i _)=>some<|.inr i
 |_=>none
def Nb(g:KB->Option Obj)(fns:List (Str×W1))(a:List Str)(co:List (Str×(Str⊕Int))):List (Option<|FuncData×Bool)×List (Option<|Option IR)×List (Option<|Str⊕Int):=(fns.map λp=>ZM g p.1,a.map λx=>Sg g mainGlobals x,co.map λc=>ZS (Sg g mainGlobals c.1))
def PV(fns:List (Str×W1))(a:List Str)(co:List (Str×(Str⊕Int))):List (Option<|FuncData×Bool)×List (Option<|Option IR)×List (Option<|Str⊕Int):=(fns.map λp=>ZN p.1 p.2,a.map λ_=>some none,co.map λc=>some c.2)
def inClass(s:W1)(i:Nat):W1:=match s with
 |.ClassDef _ _ _ b _ _ _ _ _ _ _=>b.getD i<|.Pass ⟨0,0,0,0⟩
 |_=>.Pass ⟨0,0,0,0⟩
def NC:List IR:=[.type "ValueError",.type "Exception",.type "BaseException",.type "object"]
def N8:List Str:=["__init__","__setattr__","number","line"]
def PX(K:Frag)(C:KB):Option (ClassData×KB×Array DictEntry):=match K.lookup C with
 |some ⟨.type t,_,.cls cd,⟨[_,_,_,_,some (.builtin n),_]⟩⟩=>if t="type"/\n="ValueError.__new__"/\cd.hasDel=false/\cd.hasDict=true then(match K.lookup cd.ns with
   |some ⟨_,_,.dict a _,_⟩=>if a.toList.all (λe=>match e.key with|.str _ _=>true|_=>false)=true then some (cd,C,a)else none
   |_=>none)else none
 |_=>none
def Ra(K:Frag)(C:KB):Bool:=findIn K (.ref C) "__getattribute__"==some (some<|.builtin "BaseException.__getattribute__")&&findIn K (.ref C) "__getattr__"==some none&&findIn K (.ref C) "__class__"==some (some<|.builtin "object.__class__")
&&mroIn K C (.type "object")==some true&&mroIn K C (.type "BaseException")==some true&&keepIn K (.ref C)&&kitOne K (.ref C) (.type "ValueError")==some true&&hasDictIn K C
def Wr(K:Frag):Bool:=specialIn K (.builtin "object.__class__") "__get__"==some (some<|.builtin "getset_descriptor.__get__")&&takesIn K (.builtin "object.__class__")==some true
structure ED where
 c:Str
 f:Option (Str×W1)
def WJ(K:Frag)(qual:Str)(v:Option IR):Option (FuncData×Bool):=match v with
 |some (.ref f)=>(match K.lookup f with
   |some ⟨.type t,_,.func fd,_⟩=>if t="function" then some ({fd with kwdefaults:=.none,doc:=.none,pyModule:=.none,annotations:=none,code:=.none,closureTuple:=.none},codeIn K fd.code qual)else none
   |_=>none)
 |_=>none
def WI(qual:Str)(st:W1):Option (FuncData×Bool):=some (fnOf "__init__" qual (OV st) (Ln st) (Jl st) .none .none .none .none none .none .none,true)
def Me(K:Frag)(c:Str):Option KB:=match nsIn K mainGlobals c with
 |some (some<|.ref C)=>some C
 |_=>none
noncomputable abbrev Oq:=Bool×Option (FuncData×Bool)
def Q0(K:Frag)(T:KB)(d:ED):Oq:=match Me K d.c with
 |some C=>(match PX K C with
   |some (cd,_,a)=>(Ra K C&&(cd.mro==.ref C::(if d.c="TileError" then NC else .ref T::NC))&&(if d.f.isSome then N8.tail else N8).all (λn=>(nsFind a n).isNone)&&(match d.f with
      |some (f,_)=>findIn K (.ref C) f==some none&&fastLookup "ValueError" f==some none
      |none=>true),match d.f with
      |some _=>WJ K (d.c++".__init__") (nsFind a "__init__")
      |none=>none)
   |none=>(false,none))
 |none=>(false,none)
def Q1(d:ED):Oq:=(true,match d.f with
 |some (_,st)=>WI (d.c++".__init__") st
 |none=>none)
def N6(c y:Str):Bool:=decide (c=y) || decide (y="TileError")
def G7(K:Frag)(c y:Str):Bool:=match Me K c,Me K y with
 |some C,some D=>kitOne K (.ref C) (.ref D)==some (N6 c y)
 |_,_=>false
def Of(K:Frag)(ds:List ED):Bool×List Oq:=match Me K "TileError" with
 |some T=>(Wr K&&(ds.all λd=>ds.all λe=>G7 K d.c e.c),ds.map λd=>Q0 K T d)
 |none=>(false,[])
def Og(ds:List ED):Bool×List Oq:=(true,ds.map Q1)
def Pz(a:String->Option Builtin)(p:P3)(w:UF)(n₀:Nat)(ann:Option IR):Nat->SharedT->Thread->Option SharedT
 |0,_,_=>none
 |n+1,s,t=>match through t with
  |true=>some s
  |false=>match stepOk n₀ ann t with
   |false=>none
   |true=>match stepT (denote a) p w s t with
    |some (s',t')=>Pz a p w n₀ ann n s' t'
    |none=>none
variable {p:P3}
def cV{e:String->Option Builtin}{p:P3}{w:UF}{n₀:Nat}{ann:Option IR}:∀(n:Nat) (s s':SharedT) (t:Thread),Pz e p w n₀ ann n s t=some s'->topRun e p w n₀ ann n s.abs t=some s'.abs
 |0,_,_,_,h=>by cases h
 |n+1,s,s',t,h=>by
  unfold Pz at h;unfold topRun;split at h
  ·rename_i a;rw[a];cases h;rfl
  ·rename_i a;rw[a]
   split at h
   ·cases h
   ·rename_i b;rw[b]
    split at h
    ·rename_i x y c;rw[stepT_spec c];exact cV n x s' y h
    ·cases h
def GZ:List Obj->Nat->BT->BT
 |[],_,t=>t
 |o::l,n,t=>GZ l (n+1)<|t.ins n o
def Z7(w:UF)(os:OsState):SharedT:=⟨GZ (boot_heap w.params).objs.toList 0 .nil,11,(boot_heap w.params).life,F1 [],boot_drawn,boot_toks,os⟩
def boot_abs(w:UF)(os:OsState):(Z7 w os).abs=⟨boot_heap w.params,F1 [],boot_drawn,boot_toks,os⟩:=by kernel_rfl
def sN(P:Params):((boot_heap P).isNs mainGlobals,(boot_heap P).objs.size)=(true,11):=by kernel_rfl
noncomputable abbrev Zn (p:P3) (N:Nat) (w:UF) (os:OsState):Option SharedT:=Pz treeTable p w 11 ((boot_heap w.params).nsMap mainGlobals "__annotations__") N (Z7 w os) (topStub p)
variable {β:Type}
noncomputable abbrev Qq  (p:P3) (N:Nat) (f:UF->Shared->β) (b:UF->β):Prop:=∀w os,(Zn p N w os).map (λs=>f w s.abs)=some (b w)
noncomputable abbrev PU (p:P3) (w:UF) (s:Shared):Bool:=staticsOk (importedModules p.main.body) (boot_heap w.params) s.heap&&namesBound p s.heap&&gensDone s&&laidKept (boot_heap w.params) s.heap
variable {N:Nat}
def aM{f:UF->Shared->β}{b:UF->β}(e:opening p=plainProg p.main.scope.names)(a:Nat.ble 600 N=true)(g:∀s,fenceModules? p s=some s)(h0:Qq p N (PU p) λ_=>true)(h:Qq p N f b)(w:UF):(openEnds treeTable p w N).map (f w)=some (b w):=by
 obtain⟨⟨i,j,d,k,os⟩,l,m⟩:=Option.map_eq_some_iff.mp<|boot_open e a g w;obtain⟨rfl,rfl,rfl,rfl⟩:i=boot_heap w.params/\j=F1 []/\d=boot_drawn/\k=boot_toks:=by simpa using m
 obtain⟨s,r,c⟩:=Option.map_eq_some_iff.mp<|h0 w os;have y:=h w os;rw[r]at y;have t:=cV _ _ _ _ r;rw[boot_abs]at t;obtain⟨n,o⟩:=Bd<|sN w.params;have u:topFrom treeTable p w N ⟨boot_heap w.params,F1 [],boot_drawn,boot_toks,os⟩=some s.abs:=by unfold topFrom;dsimp only;rw[n,o,t];show(match PU p w s.abs with|true=>some s.abs|false=>none)=_;rw[c]
 unfold openEnds;rw[l];show(topFrom treeTable p w N _).map _=_;rw[u];exact y
noncomputable abbrev Sn (p q:P3) (l:List Str) (X:Shared->Bool) (s:Shared):=openSeen q l (importedModules p.main.body) X true s
def PQ{q:P3}{l:List Str}{X:Shared->Bool}{α:Type}{Y:Shared->α}{Z:UF->α}(e:opening p=plainProg p.main.scope.names)(c:Nat.ble 600 N=true)(g:∀s,fenceModules? p s=some s)(h0:Qq p N (PU p) λ_=>true)(f:Qq p N (λ_ s=>Sn p q l X s) λ_=>openGood q l)(h:Qq p N (λ_ s=>Y s) Z):LeftO p q l X Y Z N:=λw=>by
 have a:=aM e c g h0 f w;have b:=aM e c g h0 h w;generalize openEnds treeTable p w N=o at *;cases o with
 |none=>cases a
 |some s=>exact congrArg some<|looks_pair (As a)<|As b
end L2.MP.Hx
namespace L2.MP.T0
open PySem L2 PySem.Spec PyProof.Rows PySem.W
def top(i:Nat):W1:=P0.main.body.getD i<|.Pass ⟨0,0,0,0⟩
def fns:List (Str×W1):=("is_whole",top 3)::("is_tuple",top 4)::("is_name",top 5)::("is_stick",top 6)::("is_face",top 7)::("is_side",top 8)::("is_kind",top 9)::("is_floor",top 10)::("is_place",top 11)::("is_tile",top 12)::("read_number",top 29)::("read_numbers",top 30)::("read_enough",top 31)::("read_stick",top 32)::("read_kind",top 33)::("read_floor",top 34)::("read_seed_tile",top 35)::("read_run",top 36)::("read_bed",top 37)::("_law_pot",top 39)::("_law_next",top 40)::("_law_of",top 41)::("_law_names",top 42)::("_law_house",top 43)::("_law_floor",top 44)::("_law_standing",top 45)::("_law_bed",top 46)::("_law_is_name",top 47)::("_law_lines",top 48)::("_law_number",top 49)::("_law_head_right",top 50)::("_law_kind_right",top 51)::("_law_tile_right",top 52)::("_law_fault",top 53)::("_law_read",top 54)::("_law_sign",top 55)::("_law_text_bent",top 56)::("_law_rows_bent",top 57)::("_law_bent",top 58)::("law",top 59)::[]
def Sm:List Str:=["isinstance","int","bool","tuple","len","str","all","dict","abs","range","sorted","enumerate","min","max"]
def cos:List (Str×(Str⊕Int)):=[("LETTERS",.inl "abcdefghijklmnopqrstuvwxyz"),("FACE_SIGNS",.inl "abcdefghijklmnopqrstuvwxyz0123456789"),("MOST_FIGURES",.inr 6),("TEN_FIGURES",.inl "0123456789")]
def Sk:List Hx.ED:=[⟨"TileError",none⟩,⟨"NoGrowing",some ("number",Hx.inClass (top 15) 0)⟩,⟨"NoText",some ("line",Hx.inClass (top 16) 0)⟩,⟨"NoPlace",none⟩,⟨"Taken",none⟩,⟨"NoKind",none⟩,⟨"NotHeld",none⟩,⟨"NothingBack",none⟩,⟨"NotSure",none⟩,⟨"TooMany",none⟩,⟨"NotFramed",none⟩,⟨"NoLine",none⟩]
def vw:P3:=view P0 [1,2,3,4,5,6,7,8,9,10,11,12,14,15,16,17,18,19,20,21,22,23,24,25,27,28,29,30,31,32,33,34,35,36,37,39,40,41,42,43,44,45,46,47,48,49,50,51,52,53,54,55,56,57,58,59]
noncomputable abbrev sX:Shared->Bool:=λs=>xlAt vw [] s&&recOk [] s
def sr0:Hx.Qq P0 20000 (Hx.PU P0) λ_=>true:=λw os=>by kernel_rfl
def sr1:Hx.Qq P0 20000 (λ_ s=>Hx.Sn P0 vw [] sX s) λ_=>openGood vw []:=λw os=>by kernel_rfl
def sr2:Hx.Qq P0 20000 (λ_ s=>(Hx.Nb s.heap.get? fns Sm cos,Hx.Of (Hx.MK s.heap) Sk)) λ_=>(Hx.PV fns Sm cos,Hx.Og Sk):=λw os=>by kernel_rfl
def uF:LeftO P0 vw [] sX (λs=>(Hx.Nb s.heap.get? fns Sm cos,Hx.Of (Hx.MK s.heap) Sk)) (λ_=>(Hx.PV fns Sm cos,Hx.Og Sk)) 20000:=Hx.PQ (by kernel_rfl) rfl (λs=>by kernel_rfl) sr0 sr1 sr2
end L2.MP.T0
set_option linter.all false
namespace L2
open PySem PySem.Spec PyProof.Rows
noncomputable abbrev Key:=Sum Int Str
def Rm:Key->IR->Bool
 |.inl k,v=>GM k v
 |.inr x,v=>GA x v
def ZD(w:UF):Key->Int
 |.inl k=>hashInt k
 |.inr x=>hashStr w x
def Pu:∀{k:Key}{v:IR},Rm k v=true->(∃i t,k=Dk i/\v=Er i t)\/(∃x t,k=D6 x/\v=Gz x t)
 |.inl i,v,h=>by obtain⟨t,e⟩:=Value.isInt_shape (k:=i) (v:=v) h;exact .inl ⟨i,t,rfl,e⟩
 |.inr x,v,h=>by obtain⟨t,e⟩:=Value.isStrOf_shape (x:=x) (v:=v) h;exact .inr ⟨x,t,rfl,e⟩
def zW(i:Int)(t:Tok):Rm (.inl i) (.int i t)=true:=by simp[Rm,GM]
def zX(x:Str)(t:Tok):Rm (.inr x) (.str x t)=true:=by simp[Rm,GA]
def nQ(a b:Int):decide ((Dk a:Key)=Dk b)=(a==b):=by
 by_cases e:a=b
 ·subst e;simp
 have h:¬(Dk a:Key)=Dk b:=λq=>e<|Sum.inl.inj q;rw[decide_eq_false h];exact(beq_eq_false_iff_ne.mpr e).symm
def nU(a b:Str):decide ((D6 a:Key)=D6 b)=decide (a=b):=by
 by_cases e:a=b
 ·subst e;simp
 have h:¬(D6 a:Key)=D6 b:=λq=>e<|GO q;rw[decide_eq_false h,decide_eq_false e]
def nR(a:Int)(b:Str):decide ((Dk a:Key)=D6 b)=false:=decide_eq_false λq=>nomatch q
def nS(a:Str)(b:Int):decide ((D6 a:Key)=Dk b)=false:=decide_eq_false λq=>nomatch q
def Kh(prog:P3)(w:UF):PySem.KeyKind prog w Key where
 is:=Rm
 hash:=ZD w
 inj:=λv a b g f=>by
  rcases Pu g with⟨i,t,rfl,rfl⟩|⟨x,t,rfl,rfl⟩
  ·rcases Pu f with⟨j,u,rfl,e⟩|⟨y,u,rfl,e⟩
   ·injection e with e1 _;rw[e1]
   exact nomatch e
  ·rcases Pu f with⟨j,u,rfl,e⟩|⟨y,u,rfl,e⟩
   ·exact nomatch e
   injection e with e1 _;rw[e1]
 byValue:=λk v h=>by rcases Pu h with⟨i,t,rfl,rfl⟩|⟨x,t,rfl,rfl⟩<;>rfl
 pyHash:=λc h=>by
  rcases Pu c with⟨i,t,rfl,rfl⟩|⟨x,t,rfl,rfl⟩
  ·exact wpAny_pyHash_int h
  exact wpAny_pyHash_str h
 eqBool:=λl c h=>by
  rcases Pu l with⟨i,t,rfl,rfl⟩|⟨x,t,rfl,rfl⟩
  ·rcases Pu c with⟨j,u,rfl,rfl⟩|⟨y,u,rfl,rfl⟩
   ·rw[nQ]at h;exact wpAny_eqBool_int h
   rw[nR]at h;exact SeqAt.EqAt.int_str i t y u _ _ _ _ h
  ·rcases Pu c with⟨j,u,rfl,rfl⟩|⟨y,u,rfl,rfl⟩
   ·rw[nS]at h;exact SeqAt.EqAt.str_int x t j u _ _ _ _ h
   rw[nU]at h;exact wpAny_eqBool_str h
 «strs»:=λk x t v h=>by
  rcases Pu h with⟨i,u,rfl,e⟩|⟨y,u,rfl,e⟩
  ·exact nomatch e
  ·injection e with e1 _
   subst e1;cases v<;>rfl
def zi1(prog:P3)(w:UF)(i:Int)(t:Tok):(Kh prog w).is (.inl i) (.int i t)=true:=zW i t
def zi0(prog:P3)(w:UF)(x:Str)(t:Tok):(Kh prog w).is (.inr x) (.str x t)=true:=zX x t
inductive V where
 |non|bl (b:Bool)|int (i:Int)|str (x:Str)|byt (b:Array UInt8)|flt (b:UInt64)|ref (a:KB)|ty (n:String)
 deriving DecidableEq
def RelV:V->IR->Prop
 |.non,u=>u=AH
 |.bl b,u=>u=CC b
 |.int i,u=>∃t,u=Er i t
 |.str x,u=>∃t,u=Gz x t
 |.byt b,u=>∃t,u=Value.bytes b t
 |.flt b,u=>∃t,u=Value.float b t
 |.ref a,u=>u=Aw a
 |.ty n,u=>u=Value.type n
noncomputable abbrev Vals:List V->List IR->Prop:=Paired RelV
variable {us:List IR}
def Vals.length{xs:List V}{us:List IR}(r:Vals xs us):xs.length=us.length:=BM r
def Vals.get:∀{xs:List V}{us:List IR}{i:Nat}{x:V},Vals xs us->xs[i]?=some x->∃u,us[i]?=some u/\RelV x u
 |_,_,_,_,.nil,e=>by simp at e
 |_,_,0,_,.cons r _,e=>by simp at e;subst e;exact⟨_,rfl,r⟩
 |_,_,i+1,x,.cons _ t,e=>by obtain⟨u,a,c⟩:=Vals.get (i:=i) (x:=x) t (by simpa using e);exact⟨u,by simpa using a,c⟩
variable {u:IR}
def Vals.set{x:V}{u:IR}(r:RelV x u):∀{xs:List V}{us:List IR} (i:Nat),Vals xs us->Vals (xs.set i x) (us.set i u)
 |_,_,_,.nil=>.nil
 |_,_,0,.cons _ t=>.cons r t
 |_,_,i+1,.cons q t=>.cons q<|Vals.set r i t
def Vals.append:∀{xs a:List V}{us ws:List IR},Vals xs us->Vals a ws->Vals (xs++a) (us++ws)
 |_,_,_,_,.nil,s=>s
 |_,_,_,_,.cons r t,s=>.cons r<|Vals.append t s
def Vals.take:∀{xs:List V}{us:List IR} (n:Nat),Vals xs us->Vals (xs.take n) (us.take n)
 |_,_,0,_=>.nil
 |_,_,_+1,.nil=>.nil
 |_,_,n+1,.cons r t=>.cons r<|Vals.take n t
def Vals.drop:∀{xs:List V}{us:List IR} (n:Nat),Vals xs us->Vals (xs.drop n) (us.drop n)
 |_,_,0,r=>r
 |_,_,_+1,.nil=>.nil
 |_,_,n+1,.cons _ t=>Vals.drop n t
def KI:Option V->Option IR->Prop
 |some v,some u=>RelV v u
 |none,none=>True
 |_,_=>False
variable {κ:Type}
def KV:List (κ×V)->List (κ×IR)->Prop:=Paired λ(p:κ×V) (q:κ×IR)=>p.1=q.1/\RelV p.2 q.2
def kV:Key->V
 |.inl i=>.int i
 |.inr x=>.str x
inductive HO where
  |lst (xs:List V)
  |tup (xs:List V)
  |dK (kvs:List (Key×V))|dT (kvs:List (List Key×V))
  |set (S:Int->Bool) (n:Nat)
  |ins (C dx:KB) (fs:List (Str×V))
  |own (x:KB)
  |xd (fs:List (Str×V))
  |met (f x:KB)
  |rng (lo hi:Int)
  |frz (o:Obj) (u:HO)
  |tbl (ps:Array IR)
  |ext (φ:Pv->Prop)
noncomputable abbrev Hp:=KB->Option HO
def upd(H:Hp)(a:KB)(o:HO):Hp:=λb=>if b=a then some o else H b
variable {H:Hp}{a:KB}{o:HO}
def KY:upd H a o a=some o:=by unfold upd;rw[if_pos rfl]
variable {b:KB}
def HW(h:b≠a):upd H a o b=H b:=by unfold upd;rw[if_neg h]
def wN{u:HO}:upd (upd H a o) a u=upd H a u:=by funext b;unfold upd;split<;>rfl
def OA{u:HO}(h:H a=some o)(h':H b=some u)(d:o≠u):a≠b:=by intro e;subst e;rw[h]at h';exact d<|As h'
def Ka(h:H a=some o)(h':H b=none):a≠b:=by intro e;subst e;rw[h]at h';cases h'
def MY(h:Pv)(a:KB)(items:Array IR):Prop:=∃o,h.get? a=some o/\o.cls=.type "tuple"/\o.dict=none/\∃n,o.data=.seq items n
variable {h:Pv}{items:Array IR}
def MY.t(x:MY h a items):IsTup h a items:=let ⟨o,ho,hc,_,r⟩:=x;⟨o,ho,hc,r⟩
variable {h':Pv}
def MY.keeps(x:MY h a items)(hk:∀b o,h.get? b=some o->h'.get? b=some o):MY h' a items:=let ⟨o,ho,r⟩:=x;⟨o,hk a o ho,r⟩
def MY.new(h:Pv)(items:Array IR):MY (h.push {cls:=.type "tuple",data:=.seq items}) h.objs.size items:=⟨_,Av _ rfl,rfl,rfl,0,rfl⟩
section
variable (P:P3) (w:UF)
def Kx(H:Hp)(h:Pv)(a:KB):HO->Prop
 |.lst xs=>xs.length<=sizeLine/\∃(its:List IR) (n:Nat),Vals xs its/\h.get? a=some {cls:=.type "list",data:=.seq its.toArray n}
 |.tup xs=>xs.length<=sizeLine/\∃its:List IR,Vals xs its/\MY h a its.toArray
 |.dK kvs=>kvs.length<=sizeLine/\(a==sysModules)=false/\∃g,KV kvs g/\h.DictOf (Kh P w) a g
 |.dT kvs=>kvs.length<=sizeLine/\(a==sysModules)=false/\∃xs:List (List Key×KB×IR),
   Paired (λ(p:List Key×V) (q:List Key×KB×IR)=>p.1=q.1/\H q.2.1=some (.tup<|p.1.map kV)/\RelV p.2 q.2.2) kvs xs /\
   ∃o es ep,h.get? a=some o/\o.ExactDict/\o.data=.dict es ep/\es.toList=xs.map (entryOfKey<|tupleKind<|Kh P w)/\(xs.map (·.1)).Nodup
 |.set S n=>h.SetOf (intKind P w) a S n
 |.ins C e fs=>H e=some (.own a)/\fs.length<=1000/\e≠a/\h.get? a=some (PySem.W.instObj C e) /\
   ∃c,h.Ns1 e c/\(∀f,KI (fs.lookup f) (c f))/\PySem.Within c (fs.map (·.1))
 |.own _=>∃o,h.get? a=some o
 |.xd fs=>∃c,h.Ns1 a c/\∀f,KI (fs.lookup f) (c f)
 |.rng lo hi=>∃t u v,h.get? a=some {cls:=.type "range",data:=.fields #[.int lo t,.int hi u,.int 1 v]}
 |.frz o u=>h.get? a=some o/\Kx H h a u
 |.tbl l=>h.get? a=some {cls:=.none,data:=.fields l}
 |.met f x=>h.get? a=some (DW (.ref f)<|.ref x)
 |.ext φ=>φ h/\(∃o,h.get? a=some o)/\∀i j:Pv,φ i->(∀o,i.get? a=some o->j.get? a=some o)->φ j
def JX(H:Hp)(h:Pv):Prop:=∀a o,H a=some o->Kx P w H h a o
end
variable {P:P3}{w:UF}{H':Hp}{α:Type}
def Kx.lt(x:Kx P w H h a o):a<h.objs.size:=by
 cases o with
 |lst xs=>obtain⟨_,_,_,_,e⟩:=x;exact An e
 |tup xs=>obtain⟨_,_,_,p⟩:=x;exact p.t.lt
 |dK c=>obtain⟨_,_,_,_,o,_,_,e,_⟩:=x;exact An e
 |dT c=>obtain⟨_,_,_,_,o,_,_,e,_⟩:=x;exact An e
 |set S n=>obtain⟨o,_,_,_,e,_⟩:=x;exact An e
 |ins C g fs=>obtain⟨_,_,_,e,_⟩:=x;exact An e
 |own y=>obtain⟨_,e⟩:=x;exact An e
 |xd fs=>obtain⟨_,⟨_,_,_,e,_⟩,_⟩:=x;exact An e
 |rng lo i=>obtain⟨_,_,_,e⟩:=x;exact An e
 |frz ob u=>obtain⟨e,_⟩:=x;exact An e
 |tbl j=>exact An (show h.get? a=some _ from x)
 |met f y=>exact An (show h.get? a=some _ from x)
 |ext φ=>obtain⟨_,⟨_,e⟩,_⟩:=x;exact An e
def Paired.mapP{α β:Type}{F G:α->β->Prop}:∀{l₁:List α}{l₂:List β},Paired F l₁ l₂->(∀a b,F a b->G a b)->Paired G l₁ l₂
 |_,_,.nil,_=>.nil
 |_,_,.cons r t,f=>.cons (f _ _ r)<|Paired.mapP t f
def Kx.stay(x:Kx P w H h a o)(k:∀b u,(b=a\/H b=some (.own a))->h.get? b=some u->h'.get? b=some u)(B:∀b,H b=some (.own a)->H' b=some (.own a)) (E:∀b xs,H b=some (.tup xs)->H' b=some (.tup xs)):Kx P w H' h' a o:=by
 induction o with
 |lst xs=>obtain⟨z,j,n,r,e⟩:=x;exact⟨z,j,n,r,k _ _ (.inl rfl) e⟩
 |tup xs=>obtain⟨z,j,r,ob,e,c⟩:=x;exact⟨z,j,r,ob,k _ _ (.inl rfl) e,c⟩
 |dK l=>obtain⟨z,y,F,r,ob,g,i,e,c⟩:=x;exact⟨z,y,F,r,ob,g,i,k _ _ (.inl rfl) e,c⟩
 |dT l=>
  obtain⟨z,y,xs,r,ob,g,i,e,c⟩:=x;exact⟨z,y,xs,Paired.mapP r λp q z=>⟨z.1,E _ _ z.2.1,z.2.2⟩,ob,g,i,k _ _ (.inl rfl) e,c⟩
 |set S n=>obtain⟨ob,g,i,t,e,c⟩:=x;exact⟨ob,g,i,t,k _ _ (.inl rfl) e,c⟩
 |ins C J fs=>
  obtain⟨d,z,ne,e,m,⟨s,g,i,G,c⟩,r⟩:=x;exact⟨B _ d,z,ne,k _ _ (.inl rfl) e,m,⟨s,g,i,k _ _ (.inr d) G,c⟩,r⟩
 |own y=>obtain⟨ob,e⟩:=x;exact⟨ob,k _ _ (.inl rfl) e⟩
 |xd fs=>obtain⟨m,⟨s,g,i,e,c⟩,r⟩:=x;exact⟨m,⟨s,g,i,k _ _ (.inl rfl) e,c⟩,r⟩
 |rng lo K=>obtain⟨t,u,v,e⟩:=x;exact⟨t,u,v,k _ _ (.inl rfl) e⟩
 |frz ob u I=>obtain⟨e,q⟩:=x;exact⟨k _ _ (.inl rfl) e,I q⟩
 |tbl A=>
  have e:h.get? a=some {cls:=.none,data:=.fields A}:=x;show h'.get? a=some {cls:=.none,data:=.fields A};exact k a _ (.inl rfl) e
 |met f y=>
  have e:h.get? a=some (DW (.ref f)<|.ref y):=x;show h'.get? a=some (DW (.ref f)<|.ref y);exact k a _ (.inl rfl) e
 |ext φ=>obtain⟨p,⟨o,e⟩,st⟩:=x;exact⟨st _ _ p λo q=>k _ _ (.inl rfl) q,⟨o,k _ _ (.inl rfl) e⟩,st⟩
def JX.lt(x:JX P w H h)(e:H a=some o):a<h.objs.size:=(x a o e).lt
def JX.fresh(x:JX P w H h)(e:h.objs.size<=a):H a=none:=by
 cases q:H a with
 |none=>rfl
 |some u=>exact absurd (Ay (x.lt q) e)<|AW _
def JX.kept(x:JX P w H h)(k:∀b u,h.get? b=some u->h'.get? b=some u):JX P w H h':=λa o e=>
 (x a o e).stay (λb u _ q=>k b u q) (λ_ q=>q) λ_ _ q=>q
def JX.laid(x:JX P w H h)(k:∀b u,h.get? b=some u->h'.get? b=some u)(g:h.objs.size<=a)(new:Kx P w (upd H a o) h' a o):JX P w (upd H a o) h':=λb u e=>by
 have f:=x.fresh g;by_cases hb:b=a
 ·subst hb;rw[KY]at e;cases e;exact new
 rw[HW hb]at e;exact(x b u e).stay (λc v _ q=>k c v q) (λc q=>by rw[HW (Ka q f)];exact q) λc xs q=>by rw[HW (Ka q f)];exact q
def Rd(H:Hp)(a:KB)(u:HO):Prop:=H a=some u\/∃o,H a=some (.frz o u)
def Rd.ok{u:HO}(r:Rd H a u)(x:JX P w H h):Kx P w H h a u:=by
 rcases r with r|⟨o,r⟩
 ·exact x a u r
 obtain⟨_,q⟩:=x a _ r;exact q
def Sq:Option HO->Prop
 |some (.lst _)=>True
 |some (.dK _)=>True
 |some (.dT _)=>True
 |some (.set _ _)=>True
 |some (.ins _ _ _)=>True
 |some (.ext _)=>True
 |_=>False
section
variable {x e:KB}{o':HO}
def JX.write(ok:JX P w H h)(f:Sq (H x))(he:e=x\/H e=some (.own x))(k:∀b u,b≠e->h.get? b=some u->h'.get? b=some u)(g:∃u,h'.get? e=some u)(new:Kx P w (upd H x o') h' x o'):JX P w (upd H x o') h':=λb u q=>by
 have a:∀c y,H c=some (.own y)->c≠x:=λc y r z=>by subst z;rw[r]at f;exact f
 have o:∀c xs,H c=some (.tup xs)->c≠x:=λc xs r z=>by subst z;rw[r]at f;exact f
 by_cases hb:b=x
 ·subst hb;rw[KY]at q;cases q;exact new
 ·rw[HW hb]at q
  by_cases hbe:b=e
  ·have i:H b=some (.own x):=by
    rcases he with z|z
    ·exact absurd (hbe.trans z) hb
    rw[hbe];exact z
   rw[q]at i;cases i;obtain⟨v,j⟩:=g;exact⟨v,by rw[hbe];exact j⟩
  ·refine(ok b u q).stay (λc v hc r=>k c v ?_ r) (λc r=>by rw[HW (a c b r)];exact r) λc xs r=>by rw[HW (o c xs r)];exact r
   rcases hc with rfl|hc
   ·exact hbe
   ·rintro rfl
    rcases he with z|z
    ·exact a c b hc z
    rw[hc]at z;cases z;exact hb rfl
end
structure Un(fs ex:List KB)(H H':Hp)(h h':Pv):Prop where
 keep:∀b o,h.get? b=some o->H b=none->b∉fs->b∉ex->h'.get? b=some o
 slot:∀b o,h.get? b=some o->H b=none->b∈fs->b∉ex->∃sl,h'.get? b=some {o with slots:=sl}
 free:∀b o,h.get? b=some o->H b=none->b∉ex->H' b=none
 there:∀b o,h.get? b=some o->b∉ex->∃o',h'.get? b=some o'
 tups:∀b xs,H b=some (.tup xs)->H' b=some (.tup xs)
 frzs:∀b o u,H b=some (.frz o u)->H' b=some (.frz o u)
 tbls:∀b ps,H b=some (.tbl ps)->∃more,H' b=some (.tbl (ps++more))
section
variable {fs fs' ex ex':List KB}{H1 H2:Hp}{h1 h2:Pv}{x e:KB}
def Un.any(u:Un fs ex H H1 h h1){ob:Obj}(q:h.get? b=some ob)(n:H b=none)(c:b∉ex):∃f,h1.get? b=some {ob with slots:=f}:=by
 by_cases hb:b∈fs
 ·exact u.slot b ob q n hb c
 exact⟨ob.slots,u.keep b ob q n hb c⟩
def Un.kept(k:∀b u,h.get? b=some u->h'.get? b=some u):Un fs ex H H h h':=⟨λb ob q _ _ _=>k b ob q,λb ob q _ _ _=>⟨ob.slots,k b ob q⟩,λ_ _ _ n _=>n,λb ob q _=>⟨ob,k b ob q⟩,λ_ _ q=>q,λ_ _ _ q=>q,λ_ a q=>⟨#[],by rw[q];simp⟩⟩
def Un.refl:Un fs ex H H h h:=Un.kept λ_ _ q=>q
def Un.laid(k:∀b u,h.get? b=some u->h'.get? b=some u)(f:h.objs.size<=a)(c:H a=none):Un fs ex H (upd H a o) h h' where
 keep:=λb u q _ _ _=>k b u q
 slot:=λb u q _ _ _=>⟨u.slots,k b u q⟩
 free:=λb u q n _=>by rw[HW (Au<|Ay (An q) f)];exact n
 there:=λb u q _=>⟨u,k b u q⟩
 tups:=λb xs q=>by rw[HW (Ka q c)];exact q
 frzs:=λb u xs q=>by rw[HW (Ka q c)];exact q
 tbls:=λb e q=>⟨#[],by rw[HW (Ka q c),q];simp⟩
def Un.write(c:Sq (H x))(he:e=x\/H e=some (.own x))(k:∀b u,b≠e->h.get? b=some u->h'.get? b=some u)(f:∃u,h'.get? e=some u):Un fs ex H (upd H x o) h h':=by
 have a:∀b,H b=none->b≠x:=λb n z=>by subst z;rw[n]at c;exact c
 have w:∀b,H b=none->b≠e:=λb n z=>by
  subst z;rcases he with r|r
  ·exact a b n r
  rw[n]at r;cases r
 have hm:∀b u,H b=some u->¬Sq (some u)->b≠x:=λb u q nm z=>by subst z;rw[q]at c;exact nm c
 refine⟨λb u q n _ _=>k b u (w b n) q,λb u q n _ _=>⟨u.slots,k b u (w b n) q⟩,λb u q n _=>by rw[HW (a b n)];exact n,λb u q _=>?_,
  λb xs q=>by rw[HW (hm b _ q λz=>z)];exact q,λb u xs q=>by rw[HW (hm b _ q λz=>z)];exact q,λb g q=>⟨#[],by rw[HW (hm b _ q λz=>z),q];simp⟩⟩
 by_cases hbe:b=e
 ·subst hbe;exact f
 exact⟨u,k b u hbe q⟩
end
def Wi(h:Pv)(H:Hp):List KB:=(Bg h.objs.size).filter λa=>(H a).isSome
def Ly(h:Pv)(H:Hp):Pv:=PySem.W.hideAll h<|Wi h H
def zmC(h:Pv)(H:Hp):(Ly h H).objs.size=h.objs.size:=PySem.W.hideAll_size _ _
def xX{o:Obj}(e:h.get? b=some o)(n:H b=none):(Ly h H).get? b=some o:=PySem.W.hideAll_get _ e λhm=>by have q:(H b).isSome=true:=(List.mem_filter.mp hm).2;rw[n]at q;simp at q
def vI{o:Obj}(e:(Ly h H).get? b=some o):h.get? b=some o/\H b=none:=by
 have a:h.get? b=some o:=PySem.W.of_hideAll (Wi h H) e;refine⟨a,?_⟩;cases q:H b with
 |none=>rfl
 |some x=>
  have hm:b∈Wi h H:=List.mem_filter.mpr ⟨List.mem_range.mpr<|An a,by simp[q]⟩;have z:(Ly h H).get? b=none:=PySem.W.hideAll_none (Wi h H) hm;rw[z]at e;cases e
def Vp(g h:Pv)(L:KB):List (KB×Obj):=(Bg h.objs.size).filterMap λa=>if a=L\/(g.get? a).isSome=true then none else(h.get? a).map λo=>(a,o)
variable {g:Pv}{L:KB}
def iM{o:Obj}(e:a≠L)(f:g.get? a=none)(c:h.get? a=some o):(a,o)∈Vp g h L:=List.mem_filterMap.mpr ⟨a,List.mem_range.mpr<|An c,by simp[e,f,c]⟩
def zgm{p:KB×Obj}(c:p∈Vp g h L):p.1≠L/\g.get? p.1=none/\h.get? p.1=some p.2:=by
 obtain⟨b,_,e⟩:=List.mem_filterMap.mp c;split at e
 ·cases e
 ·rename_i a
  cases q:h.get? b with
  |none=>rw[q]at e;simp at e
  |some u=>
   rw[q]at e;simp only[Ak,Option.some.injEq]at e;subst e;refine⟨λz=>a (.inl z),?_,q⟩;show g.get? b=none;cases r:g.get? b with
   |none=>rfl
   |some v=>exact(a<|.inr<|by simp[r]).elim
def yQ:News g L h (Vp g h L):=λp o=>let ⟨a,b,c⟩:=zgm o;⟨c,a,b⟩
structure Mod(K:Ac)(mg:Str->Option IR)(base:Pv):Prop where
 kin:K.In base
 glob:base.Ns mainGlobals mg
 blt:∃mb,base.Ns builtinsNs mb/\∀x:Str,x≠"__name__"->mb x=bootBuiltins x
 nolimit:base.NoLimit
structure Cx where
 prog:P3
 w:UF
 K:Ac
 mg:Str->Option IR
 base:Pv
 A:Around
 N:List Str
 s₀:Shared
 H₀:Hp
 env:Env
 outer:List Env
 stack:List Env
 ex:List KB
 fn:Str->Bool
 calm:Bool
 pn:List (KB×Obj)
 xe:Qqa
def MJ(l:List Env):List KB:=l.filterMap (·.frame)
noncomputable abbrev Cx.fs (X:Cx):List KB:=MJ X.outer
def UD(sc:Scope)(x:Str):Prop:=sc.names.lookup x=some .local\/sc.names.lookup x=some .cell\/sc.names.lookup x=some .free
def Loc(sc:Scope)(x:Str):Prop:=sc.names.lookup x=some .local\/sc.names.lookup x=some .cell
def Look(env:Env)(h:Pv)(m:Str->Option IR)(x:Str)(u:IR):Prop:=(env.kindOf x=some .local/\m x=some u)\/((env.kindOf x=some .cell\/env.kindOf x=some .free)/\∃c,env.cells.lookup x=some c/\h.IsCell c (some u))
structure Cx.Ok(X:Cx):Prop where
 mod:Mod X.K X.mg X.base
 kind:X.env.scope.kind=.function
 glob:X.env.globals=mainGlobals
 blt:X.env.builtins=builtinsNs
 above:X.s₀.heap.objs.size<=X.env.locals
 inj:∀x y c,X.env.cells.lookup x=some c->X.env.cells.lookup y=some c->x=y
 has:∀x,(X.env.kindOf x=some .cell\/X.env.kindOf x=some .free)->∃c,X.env.cells.lookup x=some c
 cab:∀x c,X.fn x=true->X.env.cells.lookup x=some c->X.s₀.heap.objs.size<=c
 hd:X.calm=true->X.A.handled=none
 frames:X.A.frames=some X.stack
 stk:X.stack=X.outer\/(X.stack=X.env::X.outer/\X.env.frame=some X.env.locals)
 exf:∀b∈X.ex,b≠X.env.locals/\∀x c,X.env.cells.lookup x=some c->c≠b
 bs:∀b o,X.base.get? b=some o->X.s₀.heap.get? b=some o/\X.H₀ b=none
 bsz:X.base.objs.size<=X.s₀.heap.objs.size
 noex:∀b o,X.base.get? b=some o->b∉X.ex
 exfs:∀b∈X.ex,b∉X.fs
 funs:X.s₀.heap.FunFrames X.base X.outer
 frf:∀b∈X.fs,X.H₀ b=none
structure Inv(X:Cx)(qp:List (KB×Obj))(σ:List (Option V))(H:Hp)(s:Shared):Prop where
 ok:X.Ok
 os:s.os=X.s₀.os
 bare:AllBare s.gens
 base:Un X.fs X.ex X.H₀ H X.s₀.heap s.heap
 loc:∃m,s.heap.Ns X.env.locals m/\∀(i:Nat) (x:Str) (v:V),X.N[i]?=some x->σ[i]?=some (some v)->UD X.env.scope x->∃u,RelV v u/\Look X.env s.heap m x u
 cell:∀x c,X.env.cells.lookup x=some c->∃v,s.heap.IsCell c v
 free:H X.env.locals=none
 freeC:∀x c,X.env.cells.lookup x=some c->H c=none
 pin:∀p∈X.pn++qp,s.heap.get? p.1=some p.2/\H p.1=none/\p.1≠X.env.locals/\p.1∉X.fs/\∀v,p.2.data≠.cell v
 hok:JX X.prog X.w H s.heap
 len:σ.length=X.N.length
variable {x:Str}{X:Cx}{qp:List (KB×Obj)}{s s':Shared}{g':Array GenState}{t' i j:Nat}{d':Drawn}{ch:List KB}{it:KB}{N:List Str}{M:Model}{A:Around}{E:Qqa}{v:V}
section
variable {σ:List (Option V)}
def Cx.Ok.nofr(ok:X.Ok){o:Obj}(e:X.base.get? b=some o):b∉X.fs:=λa=>by have:=(ok.funs.mem a).1;rw[e]at this;cases this
def Inv.bs(I:Inv X qp σ H s):∀b o,X.base.get? b=some o->s.heap.get? b=some o/\H b=none:=λb o e=>
 ⟨I.base.keep b o (I.ok.bs b o e).1 (I.ok.bs b o e).2 (I.ok.nofr e)<|I.ok.noex b o e,I.base.free b o (I.ok.bs b o e).1 (I.ok.bs b o e).2<|I.ok.noex b o e⟩
def Inv.bk(I:Inv X qp σ H s):∀b o,X.base.get? b=some o->s.heap.get? b=some o:=λb o e=>(I.bs b o e).1
def Inv.mod(I:Inv X qp σ H s):Mod X.K X.mg X.base:=I.ok.mod
def Inv.kIn(I:Inv X qp σ H s):X.K.In s.heap:=I.ok.mod.kin.keeps I.bk
def Inv.fr(I:Inv X qp σ H s):∃m,Fr X.base X.env.locals s.heap m:=
 let ⟨m,hn,_⟩:=I.loc
 ⟨m,hn,I.bk,Ar I.ok.bsz I.ok.above⟩
def Inv.lt(I:Inv X qp σ H s):X.env.locals<s.heap.objs.size:=let ⟨_,hn,_⟩:=I.loc;hn.lt
def Inv.sz(I:Inv X qp σ H s):X.s₀.heap.objs.size<=s.heap.objs.size:=Ar I.ok.above<|B7 I.lt
def Inv.nofs(I:Inv X qp σ H s)(h:s.heap.objs.size<=a):a∉X.fs:=λg=>by obtain⟨_,o,i,_⟩:=I.ok.funs.mem g;exact absurd (Ay (An i)<|Ar I.sz h)<|AW _
def Inv.cne(I:Inv X qp σ H s):∀x c,X.env.cells.lookup x=some c->c≠X.env.locals:=λx c e z=>by obtain⟨v,o,h,hd⟩:=I.cell x c e;obtain⟨m,⟨i,j,u,a,g,_⟩,_⟩:=I.loc;rw[z,a]at h;cases h;rw[g]at hd;cases hd
def Inv.funs(I:Inv X qp σ H s):s.heap.FunFrames X.base X.outer:=by
 have all:∀(l:List Env),(∀b∈MJ l,b∈X.fs)->X.s₀.heap.FunFrames X.base l->s.heap.FunFrames X.base l:=by
  intro l
  induction l with
  |nil=>intro _ _;trivial
  |cons env r i=>
   intro h j;obtain⟨hk,⟨L,o,hf,u,v,hd⟩,w⟩:=j;have a:L∈X.fs:=h L (by unfold MJ;rw[Cb,hf];exact Al);obtain⟨x,e⟩:=I.base.slot L o v (I.ok.frf L a) a λz=>I.ok.exfs L z a;exact⟨hk,⟨L,_,hf,u,e,hd⟩,i (λb g=>h b (by unfold MJ;rw[Cb,hf];exact Aj _ g)) w⟩
 exact all X.outer (λ_ g=>g) I.ok.funs
def Inv.stack(I:Inv X qp σ H s):s.heap.FunFrames X.base X.stack:=by
 rcases I.ok.stk with e|⟨e,hf⟩
 ·rw[e];exact I.funs
 rw[e];obtain⟨m,a,_⟩:=I.loc;refine .cons (by rw[I.ok.kind];decide) hf a ?_ I.funs;exact Ds<|Ar I.ok.bsz I.ok.above
def Inv.stkSub(I:Inv X qp σ H s):∀b∈MJ X.stack,b∈X.env.locals::X.fs:=λb a=>by
 rcases I.ok.stk with e|⟨e,hf⟩
 ·rw[e]at a;exact Aj _ a
 rw[e]at a;unfold MJ at a;rw[Cb,hf]at a;exact a
def Inv.stkFree(I:Inv X qp σ H s):∀b∈MJ X.stack,H b=none:=λb hb=>by
 rcases On.mp (I.stkSub b hb)with e|hb
 ·rw[e];exact I.free
 obtain⟨_,o,a,_⟩:=I.ok.funs.mem hb;exact I.base.free b o a (I.ok.frf b hb) λz=>I.ok.exfs b z hb
def Inv.step{ch:List KB}(I:Inv X qp σ H s)(f:∀b∈ch,(b∈X.ex\/X.s₀.heap.objs.size<=b)/\b≠X.env.locals/\(∀x c,X.env.cells.lookup x=some c->c≠b)/\∀p∈X.pn++qp,p.1≠b)(keep:∀b o,b≠X.env.locals->b∉X.fs->b∉ch->s.heap.get? b=some o->H b=none->h'.get? b=some o)(slot:∀b o,b≠X.env.locals->b∈X.fs->b∉ch->s.heap.get? b=some o->H b=none->∃G,h'.get? b=some {o with slots:=G}) (free:∀b o,b∉ch->s.heap.get? b=some o->H b=none->H' b=none)(there:∀b o,b∉ch->s.heap.get? b=some o->∃y,h'.get? b=some y)(B:∀b xs,H b=some (.tup xs)->H' b=some (.tup xs)) (C:∀b o u,H b=some (.frz o u)->H' b=some (.frz o u)) (F:∀b ps,H b=some (.tbl ps)->∃more,H' b=some (.tbl<|ps++more))(ns:∀m,s.heap.Ns X.env.locals m->h'.Ns X.env.locals m) (J:JX X.prog X.w H' h') (S:AllBare g'):
  Inv X qp σ H' {s with heap:=h',gens:=g',drawn:=d',toks:=t'}:=by
 have L:∀b o,X.s₀.heap.get? b=some o->b≠X.env.locals:=λb o e=>Au<|Ay (An e) I.ok.above;have h:∀b o,X.s₀.heap.get? b=some o->b∉X.ex->b∉ch:=λb o e a A=>by
  rcases(f b A).1 with z|z
  ·exact a z
  exact absurd (Ay (An e) z)<|AW _
 have cellK:∀x c,X.env.cells.lookup x=some c->∀v,s.heap.IsCell c v->h'.IsCell c v:=by
  rintro x c e v ⟨o,E,hd⟩;have g:c∉ch:=λz=>(f c z).2.2.1 x c e rfl;by_cases hc:c∈X.fs
  ·obtain⟨G,q⟩:=slot c o (I.cne x c e) hc g E<|I.freeC x c e;exact⟨_,q,hd⟩
  exact⟨o,keep c o (I.cne x c e) hc g E<|I.freeC x c e,hd⟩
 refine⟨I.ok,I.os,S,⟨λb o e n A a=>?_,λb o e n A a=>?_,λb o e n a=>?_,λb o e a=>?_,λb xs e=>B b xs (I.base.tups b xs e),λb o xs e=>C b o xs (I.base.frzs b o xs e),λb ps e=>?_⟩,?_,λx c e=>?_,?_,λx c e=>?_,λp K=>?_,J,I.len⟩
 ·exact keep b o (L b o e) A (h b o e a) (I.base.keep b o e n A a)<|I.base.free b o e n a
 ·obtain⟨G,j⟩:=I.base.slot b o e n A a;obtain⟨N,M⟩:=slot b _ (L b o e) A (h b o e a) j<|I.base.free b o e n a;exact⟨N,M⟩
 ·obtain⟨y,j⟩:=I.base.there b o e a;exact free b y (h b o e a) j<|I.base.free b o e n a
 ·obtain⟨y,j⟩:=I.base.there b o e a;exact there b y (h b o e a) j
 ·obtain⟨T,j⟩:=I.base.tbls b ps e;obtain⟨U,M⟩:=F b _ j;exact⟨T++U,by rw[M,Array.append_assoc]⟩
 ·obtain⟨m,W,Y⟩:=I.loc;refine⟨m,ns m W,λi x v j M Z=>?_⟩;obtain⟨u,r,l⟩:=Y i x v j M Z;refine⟨u,r,?_⟩
  rcases l with l|⟨k,c,e,z⟩
  ·exact .inl l
  exact .inr ⟨k,c,e,cellK x c e _ z⟩
 ·obtain⟨v,z⟩:=I.cell x c e;exact⟨v,cellK x c e v z⟩
 ·obtain⟨m,⟨o,_,_,E,_⟩,_⟩:=I.loc;exact free _ o (λz=>(f _ z).2.1 rfl) E I.free
 ·obtain⟨v,o,E,hd⟩:=I.cell x c e;exact free c o (λz=>(f c z).2.2.1 x c e rfl) E<|I.freeC x c e
 obtain⟨e,n,ne,Q,d⟩:=I.pin p K;have g:p.1∉ch:=λz=>(f p.1 z).2.2.2 p K rfl;exact⟨keep p.1 p.2 ne Q g e n,free p.1 p.2 g e n,ne,Q,d⟩
def Inv.un(I:Inv X qp σ H s)(u:Un X.fs [] H H' s.heap h')(c:JX X.prog X.w H' h'):Inv X qp σ H' {s with heap:=h',toks:=t'}:=by obtain⟨m,⟨o,A,E,j,r⟩,_⟩:=id I.loc;obtain⟨L,v⟩:=u.any j I.free (by simp);exact I.step (g':=s.gens) (d':=s.drawn) (ch:=[]) (λ_ z=>nomatch z) (λb o _ g _ e n=>u.keep b o e n g (by simp)) (λb o _ g _ e n=>u.slot b o e n g (by simp)) (λb o _ e n=>u.free b o e n (by simp)) (λb o _ e=>u.there b o e (by simp)) u.tups u.frzs u.tbls (λM hm=>by obtain⟨N,h,i,a,x⟩:=hm;rw[j]at a;cases a;exact⟨_,h,i,v,x⟩) c I.bare
def Inv.call{ch:List KB}(I:Inv X qp σ H s)(u:Un (MJ X.stack) ch H H' s.heap h')(l:JX X.prog X.w H' h')(q:AllBare g')(f:∀b∈ch,(b∈X.ex\/X.s₀.heap.objs.size<=b)/\b≠X.env.locals/\(∀x c,X.env.cells.lookup x=some c->c≠b)/\∀p∈X.pn++qp,p.1≠b):
  Inv X qp σ H' {s with heap:=h',gens:=g',drawn:=d',toks:=t'}:=by
 obtain⟨m,⟨o,L,M,v,r⟩,_⟩:=id I.loc;obtain⟨N,h⟩:=u.any v I.free λz=>(f _ z).2.1 rfl;exact I.step (ch:=ch) f (λb o h A a e n=>u.keep b o e n (λz=>(On.mp<|I.stkSub b z).elim h A) a) (λb o _ _ a e n=>u.any e n a) (λb o a e n=>u.free b o e n a) (λb o a e=>u.there b o e a) u.tups u.frzs u.tbls (λy hm=>by obtain⟨B,i,j,g,E⟩:=hm;rw[v]at g;cases g;exact⟨_,i,j,h,E⟩) l q
def Inv.turned(I:Inv X qp σ H s)(k:∀b o,b≠it->s.heap.get? b=some o->h'.get? b=some o)(l:H it=none)(f:it≠X.env.locals)(y:it∈X.ex\/X.s₀.heap.objs.size<=it) (B:∀x c,X.env.cells.lookup x=some c->c≠it) (C:∀p∈X.pn++qp,p.1≠it):Inv X qp σ H {s with heap:=h',toks:=t'}:=by
 have g:∀b u,H b=some u->b≠it:=λb u e z=>by rw[z,l]at e;cases e
 refine I.step (g':=s.gens) (d':=s.drawn) (ch:=[it]) (λb h=>?_) (λb o _ _ a e _=>k b o (λz=>a (by simp[z])) e) (λb o _ _ a e _=>⟨o.slots,k b o (λz=>a (by simp[z])) e⟩) (λ_ _ _ _ n=>n)
  (λb o a e=>⟨o,k b o (λz=>a (by simp[z])) e⟩) (λ_ _ e=>e) (λ_ _ _ e=>e) (λb A e=>⟨#[],by rw[e];simp⟩) (λm hm=>?_) (λb u e=>?_) I.bare
 ·have e:b=it:=by simpa using h
  subst e;exact⟨y,f,B,C⟩
 ·obtain⟨o,i,j,w,r⟩:=hm;exact⟨o,i,j,k _ o (A3 f) w,r⟩
 ·refine(I.hok b u e).stay (λc v a q=>k c v ?_ q) (λ_ q=>q) λ_ _ q=>q
  rcases a with z|z
  ·rw[z];exact g b u e
  exact g c _ z
def Inv.tok(I:Inv X qp σ H s)(t:Nat):Inv X qp σ H {s with toks:=t}:=I.un (h':=s.heap) (t':=t) Un.refl I.hok
def Inv.kept{t':Nat}(I:Inv X qp σ H s)(k:∀b u,s.heap.get? b=some u->h'.get? b=some u):Inv X qp σ H {s with heap:=h',toks:=t'}:=I.un (Un.kept k)<|I.hok.kept k
def Inv.laid{a:KB}{o:HO}{t':Nat}(I:Inv X qp σ H s)(k:∀b u,s.heap.get? b=some u->h'.get? b=some u)(c:s.heap.objs.size<=a)(new:Kx X.prog X.w (upd H a o) h' a o):
  Inv X qp σ (upd H a o) {s with heap:=h',toks:=t'}:=I.un (Un.laid k c<|I.hok.fresh c) (I.hok.laid k c new)
def Inv.write{x e:KB}{o:HO}{t':Nat}(I:Inv X qp σ H s)(f:Sq (H x))(he:e=x\/H e=some (.own x))(k:∀b u,b≠e->s.heap.get? b=some u->h'.get? b=some u)(c:∃u,h'.get? e=some u)(new:Kx X.prog X.w (upd H x o) h' x o):Inv X qp σ (upd H x o) {s with heap:=h',toks:=t'}:=I.un (Un.write f he k c) (I.hok.write f he k c new)
def Inv.pins_of{c:List (KB×Obj)}(I:Inv X qp σ H s)(h:∀p∈c,s.heap.get? p.1=some p.2/\H p.1=none/\p.1≠X.env.locals/\p.1∉X.fs/\∀v,p.2.data≠.cell v):Inv X c σ H s:=⟨I.ok,I.os,I.bare,I.base,I.loc,I.cell,I.free,I.freeC,λp a=>(SZ.mp a).elim (λz=>I.pin p (B4 _ z)) (h p),I.hok,I.len⟩
def Yb(c:N.Nodup)(a:N[i]?=some x)(b:N[j]?=some x):i=j:=by obtain⟨h,e1⟩:=KM.mp a;obtain⟨o,g⟩:=KM.mp b;exact(List.getElem_inj c).mp<|e1.trans g.symm
def gT{Q:Unit->Shared->Prop}(I:Inv X qp σ H s)(hN:X.N.Nodup)(hi:X.N[i]?=some x)(f:Loc X.env.scope x)(r:RelV v u)(h:∀s',Inv X qp (σ.set i<|some v) H s'->(∃a,Bw a s.heap s'.heap/\(a=X.env.locals\/X.env.cells.lookup x=some a))->Q () s') (hf:X.fn x=true\/X.env.scope.names.lookup x=some .local:=by first|exact .inl rfl|exact .inr rfl|assumption):wpAny M A (storeName X.env x u) Q E s:=by
 obtain⟨m,W,hl⟩:=id I.loc;have G:(X.env.scope.kind==.class || (X.env.scope.kind==.module&&X.env.locals != X.env.globals))=false:=by rw[I.ok.kind];rfl
 have hiσ:i<σ.length:=by rw[I.len];exact(KM.mp hi).1
 have cne:=I.cne;have tracked:∀{a:KB}{h':Pv},(∃o,s.heap.get? a=some o/\H a=none)->Bw a s.heap h'->JX X.prog X.w H h':=λ{a h'} ha g b ob e=>by
  obtain⟨_,_,l⟩:=ha;refine(I.hok b ob e).stay (λc T hc q=>(g.2 c ?_).trans q) (λ_ q=>q) λ_ _ q=>q;rintro rfl;rcases hc with rfl|hc
  ·rw[l]at e;cases e
  rw[l]at hc;cases hc
 rcases f with hk|hk
 ·refine wpAny_storeName_local hk W (λh' Y g=>?_) G;obtain⟨oL,_,_,Z,_⟩:=id W;refine h _ ⟨I.ok,I.os,I.bare,⟨λb o e n C f=>?_,λb o e n C f=>?_,I.base.free,λb o e f=>?_,I.base.tups,I.base.frzs,I.base.tbls⟩,⟨_,Y,λj y v' L B e3=>?_⟩,λy c e=>?_,I.free,I.freeC,λp hp=>?_,tracked ⟨oL,Z,I.free⟩ g,by simpa using I.len⟩ ⟨_,g,.inl rfl⟩
  ·exact(g.2 b<|Au<|Ay (An e) I.ok.above).trans<|I.base.keep b o e n C f
  ·obtain⟨sl,L⟩:=I.base.slot b o e n C f;exact⟨sl,(g.2 b<|Au<|Ay (An e) I.ok.above).trans L⟩
  ·obtain⟨o',L⟩:=I.base.there b o e f;exact⟨o',(g.2 b<|Au<|Ay (An e) I.ok.above).trans L⟩
  ·by_cases hj:j=i
   ·subst hj;rw[hi]at L;cases L;rw[Cr hiσ]at B;cases B;exact⟨u,r,.inl ⟨hk,by simp⟩⟩
   ·rw[AG (A3 hj)]at B;obtain⟨u',r',q⟩:=hl j y v' L B e3;refine⟨u',r',?_⟩
    rcases q with⟨k,e⟩|⟨k,c,e,z⟩
    ·refine .inl ⟨k,?_⟩;have:y≠x:=λe=>hj<|Yb hN L<|e ▸ hi;simp[this,e]
    exact .inr ⟨k,c,e,z.sameBut g<|cne y c e⟩
  ·obtain⟨T,z⟩:=I.cell y c e;exact⟨T,z.sameBut g<|cne y c e⟩
  obtain⟨e,n,ne,nf,d⟩:=I.pin p hp;exact⟨(g.2 p.1 ne).trans e,n,ne,nf,d⟩
 ·have F:X.fn x=true:=by
   rcases hf with z|z
   ·exact z
   rw[z]at hk;cases hk
  obtain⟨c,hc⟩:=I.ok.has x<|.inl hk;obtain⟨T,z⟩:=I.cell x c hc;refine wpAny_storeName_cell I.ok.kind hk hc z λh' J g=>?_;obtain⟨oc,K,S⟩:=id z;refine h {s with heap:=h'} ⟨I.ok,I.os,I.bare,⟨λb o e n C f=>?_,λb o e n C f=>?_,I.base.free,λb o e f=>?_,I.base.tups,I.base.frzs,I.base.tbls⟩,⟨m,W.sameBut g<|A3<|cne x c hc,λj y v' L B e3=>?_⟩,λy U e=>?_,I.free,I.freeC,λp hp=>?_,tracked ⟨oc,K,I.freeC x c hc⟩ g,by simpa using I.len⟩ ⟨c,g,.inr hc⟩
  ·exact(g.2 b<|Au<|Ay (An e)<|I.ok.cab x c F hc).trans<|I.base.keep b o e n C f
  ·obtain⟨sl,L⟩:=I.base.slot b o e n C f;exact⟨sl,(g.2 b<|Au<|Ay (An e)<|I.ok.cab x c F hc).trans L⟩
  ·obtain⟨o',L⟩:=I.base.there b o e f;exact⟨o',(g.2 b<|Au<|Ay (An e)<|I.ok.cab x c F hc).trans L⟩
  ·by_cases hj:j=i
   ·subst hj;rw[hi]at L;cases L;rw[Cr hiσ]at B;cases B;exact⟨u,r,.inr ⟨.inl hk,c,hc,J⟩⟩
   ·rw[AG (A3 hj)]at B;obtain⟨u',r',q⟩:=hl j y v' L B e3;refine⟨u',r',?_⟩
    rcases q with q|⟨k,U,e,z'⟩
    ·exact .inl q
    refine .inr ⟨k,U,e,z'.sameBut g ?_⟩;rintro rfl;exact hj<|Yb hN L<|I.ok.inj _ _ _ e hc ▸ hi
  ·by_cases hcc:U=c
   ·subst hcc;exact⟨_,J⟩
   obtain⟨w2,z2⟩:=I.cell y U e;exact⟨w2,z2.sameBut g hcc⟩
  obtain⟨e,n,ne,nf,d⟩:=I.pin p hp;refine⟨(g.2 p.1 ?_).trans e,n,ne,nf,d⟩;intro q;rw[q,K]at e;have q':oc=p.2:=As e;exact d T (by rw[<-q'];exact S)
def O3{Q:Unit->Shared->Prop}(I:Inv X qp σ H s)(c:X.N.Nodup)(hi:X.N[i]?=some x)(e:Loc X.env.scope x)(r:RelV v u)(h:∀s',Inv X qp (σ.set i<|some v) H s'->Q () s') (hf:X.fn x=true\/X.env.scope.names.lookup x=some .local:=by first|exact .inl rfl|exact .inr rfl|assumption):wpAny M A (storeName X.env x u) Q E s:=
 gT I c hi e r (λs' a _=>h s' a) hf
def Inv.call'{ch:List KB}(I:Inv X qp σ H s)(m:s'.os=s.os)(u:Un (MJ X.stack) ch H H' s.heap s'.heap)(f:JX X.prog X.w H' s'.heap)(n:AllBare s'.gens)(l:∀b∈ch,(b∈X.ex\/X.s₀.heap.objs.size<=b)/\b≠X.env.locals/\(∀x c,X.env.cells.lookup x=some c->c≠b)/\∀p∈X.pn++qp,p.1≠b):Inv X qp σ H' s':=by
 obtain⟨h',g',d',t',a⟩:=s';have e:a=s.os:=m;subst e;exact I.call (g':=g') (t':=t') (d':=d') u f n l
end
noncomputable abbrev XK:=IR->Option KB->Hp->Prop
noncomputable abbrev St:=List (Option V)
noncomputable abbrev VK:=V->Hp->Prop
noncomputable abbrev TE:=St->Hp->VK->Prop
noncomputable abbrev TT:=St->Hp->(Bool->Hp->Prop)->Prop
noncomputable abbrev TA:=St->Hp->(List V->Hp->Prop)->Prop
structure Ends where
 nx:St->Hp->Prop
 rt:VK
 bk:St->Hp->Prop:=λ_ _=>False
 ct:St->Hp->Prop:=λ_ _=>False
noncomputable abbrev TS:=Ends->St->Hp->Prop
def EP(X:Cx)(qp:List (KB×Obj))(σ:St)(Q:VK)(u:IR)(s':Shared):Prop:=∃v H',Inv X qp σ H' s'/\RelV v u/\Q v H'
def TP(X:Cx)(qp:List (KB×Obj))(σ:St)(Q:Bool->Hp->Prop)(b:Bool)(s':Shared):Prop:=∃H',Inv X qp σ H' s'/\Q b H'
def AP(X:Cx)(qp:List (KB×Obj))(σ:St)(Q:List V->Hp->Prop)(us:List IR)(s':Shared):Prop:=∃a H',Inv X qp σ H' s'/\Vals a us/\Q a H'
def SP(X:Cx)(qp:List (KB×Obj))(D:Ends)(f:Flow)(s':Shared):Prop:=
 match f with
 |.next=>∃σ' H',Inv X qp σ' H' s'/\D.nx σ' H'
 |.brk=>∃σ' H',Inv X qp σ' H' s'/\D.bk σ' H'
 |.cont=>∃σ' H',Inv X qp σ' H' s'/\D.ct σ' H'
 |.ret u=>∃v σ' H',Inv X qp σ' H' s'/\RelV v u/\D.rt v H'
def PE(X:Cx)(e:Re)(t:TE):Prop:=∀(qp:List (KB×Obj)) (s:Shared) (σ:St) (H:Hp) (Q:VK),Inv X qp σ H s->t σ H Q->wpAny (KF X.prog X.w) X.A (eval e X.env) (EP X qp σ Q) X.xe s
def PT(X:Cx)(e:Re)(t:TT):Prop:=∀(qp:List (KB×Obj)) (s:Shared) (σ:St) (H:Hp) (Q:Bool->Hp->Prop),Inv X qp σ H s->t σ H Q->wpAny (KF X.prog X.w) X.A (isTrue e X.env<|eval e X.env) (TP X qp σ Q) X.xe s
def PW(X:Cx)(e:Re)(t:TT):Prop:=∀(whole:Sem IR) (qp:List (KB×Obj)) (s:Shared) (σ:St) (H:Hp) (Q:Bool->Hp->Prop),Inv X qp σ H s->t σ H Q->wpAny (KF X.prog X.w) X.A (isTrue e X.env whole) (TP X qp σ Q) X.xe s
variable {e:Re}
def PW.pt{t:TT}(h:PW X e t):PT X e t:=h _
def PA(X:Cx)(es:List Re)(t:TA):Prop:=∀(pos:Pos) (qp:List (KB×Obj)) (s:Shared) (σ:St) (H:Hp) (Q:List V->Hp->Prop),Inv X qp σ H s->t σ H Q->wpAny (KF X.prog X.w) X.A (spliced<|backTo pos<|starEach es X.env) (AP X qp σ Q) X.xe s
def PS(X:Cx)(st:W1)(t:TS):Prop:=∀(qp:List (KB×Obj)) (s:Shared) (σ:St) (H:Hp) (D:Ends),Inv X qp σ H s->t D σ H->wpAny (KF X.prog X.w) X.A (exec st X.env) (SP X qp D) X.xe s
def K4(X:Cx)(st:List W1)(t:TS):Prop:=∀(qp:List (KB×Obj)) (s:Shared) (σ:St) (H:Hp) (D:Ends),Inv X qp σ H s->t D σ H->wpAny (KF X.prog X.w) X.A (execs st X.env) (SP X qp D) X.xe s
def HB{t:Sem α}{Q c:α->Shared->Prop}{s:Shared}(h:wpAny M A t Q E s)(f:∀a s,Q a s->c a s):wpAny M A t c E s:=AZ h f λ_ _ x=>x
variable {σ:St}{Q:Qqa}{pos:Pos}{ta tb:TE}{op:CmpOp}{c:Re}
section
def Ub(i:Nat):TE:=λσ H Q=>∃v,σ[i]?=some (some v)/\Q v H
def tC(v:V):TE:=λ_ H Q=>Q v H
def aV(n:X.N[i]?=some x)(q:UD X.env.scope x)(hd:(x==("__debug__":Str))=false:=by decide)(f:(x==("__classdict__":Str))=false:=by decide):PE X (.Name x pos) (Ub i):=by
 intro qp s σ H Q I h;obtain⟨v,e,h⟩:=h;obtain⟨m,j,o⟩:=I.loc;obtain⟨u,r,l⟩:=o i x v n e q;have fin:EP X qp σ Q u s:=⟨v,H,I,r,h⟩;rcases l with⟨hk,hm⟩|⟨hk,c,g,a⟩
 ·exact Gd (Fb I.ok.kind hk j hm fin) hd
 ·rcases hk with hk|hk
  ·exact Gd (Fj I.ok.kind hk g a fin) hd
  exact Gd (wpAny_loadName_free I.ok.kind hk g a fin f) hd
def rJ{i j pos}:PE X (.Constant (.int i) j pos) (tC<|.int i):=λ_ _ _ H _ I h=>wpAny_Constant_int ⟨.int i,H,I.tok _,⟨_,rfl⟩,h⟩
def mC{b j pos}:PE X (.Constant (.bool b) j pos) (tC<|.bl b):=λ_ _ _ H _ I h=>Constant_bool ⟨.bl b,H,I,rfl,h⟩
def qB{j pos}:PE X (.Constant .none j pos) (tC .non):=λ_ _ _ H _ I h=>Constant_none ⟨.non,H,I,rfl,h⟩
def aU{x j pos}:PE X (.Constant (.str x) j pos) (tC<|.str x):=λ_ _ _ H _ I h=>Calls.Constant_str ⟨.str x,H,I.tok _,⟨_,rfl⟩,h⟩
def Gl(X:Cx)(x:Str):Prop:=X.env.kindOf x=some .globalImplicit
def Vj(I:Inv X qp σ H s)(f:Gl X x)(hm:X.mg x=some u)(h:Q u s)(hd:(x==("__debug__":Str))=false:=by decide):wpAny (KF X.prog X.w) X.A (eval (.Name x pos) X.env) Q E s:=
 CJ I.ok.kind f (El (by rw[I.ok.glob];exact I.mod.glob.keeps I.bk) hm h) hd
def S0(I:Inv X qp σ H s)(f:Gl X x)(hm:X.mg x=none)(l:bootBuiltins x=some u)(h:Q u s)(m:x≠"__name__":=by decide) (hd:(x==("__debug__":Str))=false:=by decide):wpAny (KF X.prog X.w) X.A (eval (.Name x pos) X.env) Q E s:=by
 obtain⟨e,a,c⟩:=I.mod.blt;exact CJ I.ok.kind f (Calls.loadGlobal_builtin (by rw[I.ok.glob];exact I.mod.glob.keeps I.bk) hm (by rw[I.ok.blt];exact a.keeps I.bk) ((c x m).trans l) h) hd
def Xz(f:Gl X x)(hm:X.mg x=some u)(r:RelV v u)(hd:(x==("__debug__":Str))=false:=by decide):PE X (.Name x pos) (tC v):=λ_ _ _ H _ I h=>Vj I f hm ⟨v,H,I,r,h⟩ hd
def uS(f:Gl X x)(hm:X.mg x=none)(l:bootBuiltins x=some u)(r:RelV v u)(m:x≠"__name__":=by decide)(hd:(x==("__debug__":Str))=false:=by decide):PE X (.Name x pos) (tC v):=λ_ _ _ H _ I h=>S0 I f hm l ⟨v,H,I,r,h⟩ m hd
variable {a b:Re}
def PC(X:Cx)(op:CmpOp)(a b:Re)(t:TE):Prop:=
 ∀(qp:List (KB×Obj)) (s:Shared) (σ:St) (H:Hp) (Q:VK),Inv X qp σ H s->t σ H Q ->
  wpAny (KF X.prog X.w) X.A (eval a X.env) (λv s₁=>wpAny (KF X.prog X.w) X.A (eval b X.env) (λu s₂=>wpAny (KF X.prog X.w) X.A (PP op v u) (EP X qp σ Q) X.xe s₂) X.xe s₁) X.xe s
def tB(t:TE):TT:=λσ H Q=>t σ H λx H1=>∃c,x=.bl c/\Q c H1
def rG{t:TE}(h:PC X op a b t)(l:behindInMarks op b=false:=by first|exact f _ (by decide) (by decide)|rfl):PE X (.Compare a [op] [b] pos) t:=λqp s σ H Q I hw=>wpAny_Compare1 (h qp s σ H Q I hw) l
def aK{t:TE}(h:PC X op a b t)(l:behindInMarks op b=false:=by first|exact f _ (by decide) (by decide)|rfl):PT X (.Compare a [op] [b] pos) (tB t):=by intro qp s σ H Q I hw;refine ER (HB (h qp s σ H _ I hw) λv s1 l=>HB l λu s2 e=>HB e ?_) l;rintro c s3 ⟨x,H1,g,i,j⟩;obtain⟨d,rfl,q⟩:=j;cases i;exact Bk ⟨H1,g,q⟩
variable {tA tB':TT}{rest:List Re}
def Zj(t u:TT):TT:=λσ H Q=>t σ H λc H1=>if c=true then u σ H1 Q else Q false H1
def tOr(t u:TT):TT:=λσ H Q=>t σ H λc H1=>if c=true then Q true H1 else u σ H1 Q
def Za(t:TT):TT:=λσ H Q=>t σ H λc H1=>Q (!c) H1
def PL(f:PT X a tA):PW X (.BoolOp .And [a] pos) tA:=by
 intro g qp s σ H Q I h;refine isTrue_and<|HB (f qp s σ H Q I h) λc s1 e=>?_
 cases c with
 |true=>exact isTrue_and_nil e
 |false=>exact e
def QY(f:PT X a tA):PW X (.BoolOp .Or [a] pos) tA:=by
 intro g qp s σ H Q I h;refine isTrue_or<|HB (f qp s σ H Q I h) λc s1 e=>?_
 cases c with
 |false=>exact isTrue_or_nil e
 |true=>exact e
def QZ(f:PT X a tA)(l:PW X (.BoolOp .And (b::rest) pos) tB'):PW X (.BoolOp .And (a::b::rest) pos) (Zj tA tB'):=by
 intro i qp s σ H Q I h;refine isTrue_and<|HB (f qp s σ H _ I h) ?_;rintro c s1 ⟨H1,e,g⟩
 cases c with
 |true=>exact l i qp s1 σ H1 Q e g
 |false=>exact⟨H1,e,g⟩
def Uj(f:PT X a tA)(l:PW X (.BoolOp .Or (b::rest) pos) tB'):PW X (.BoolOp .Or (a::b::rest) pos) (tOr tA tB'):=by
 intro i qp s σ H Q I h;refine isTrue_or<|HB (f qp s σ H _ I h) ?_;rintro c s1 ⟨H1,e,g⟩
 cases c with
 |true=>exact⟨H1,e,g⟩
 |false=>exact l i qp s1 σ H1 Q e g
def qQ(ha:PT X a tA):PT X (.UnaryOp .Not a pos) (Za tA):=by intro qp s σ H Q I h;exact isTrue_not<|ha qp s σ H (λc H1=>Q (!c) H1) I h
def kQ(ta tb:TE):TE:=λσ H Q=>ta σ H λx H1=>∃c,x=.bl c/\if c=true then tb σ H1 Q else Q (.bl false) H1
def Y9(ta tb:TE):TE:=λσ H Q=>ta σ H λx H1=>∃c,x=.bl c/\if c=true then Q (.bl true) H1 else tb σ H1 Q
def kX(ta:TE):TE:=λσ H Q=>ta σ H λx H1=>∃c,x=.bl c/\Q (.bl<|!c) H1
def aS{op}{t:TE}(h:PE X a t):PE X (.BoolOp op [a] pos) t:=λqp s σ H Q I hw=>BoolOp_one<|h qp s σ H Q I hw
def rF(f:PE X a ta)(l:PE X (.BoolOp .And (b::rest) pos) tb):PE X (.BoolOp .And (a::b::rest) pos) (kQ ta tb):=by
 intro qp s σ H Q I h;refine BoolOp_and<|HB (f qp s σ H _ I h) ?_;rintro v s1 ⟨x,H1,g,i,e⟩;obtain⟨c,rfl,e⟩:=e;cases i;refine Bk ?_
 cases c with
 |true=>exact l qp s1 σ H1 Q g e
 |false=>exact⟨.bl false,H1,g,rfl,e⟩
def mG(f:PE X a ta)(l:PE X (.BoolOp .Or (b::rest) pos) tb):PE X (.BoolOp .Or (a::b::rest) pos) (Y9 ta tb):=by
 intro qp s σ H Q I h;refine BoolOp_or<|HB (f qp s σ H _ I h) ?_;rintro v s1 ⟨x,H1,g,i,e⟩;obtain⟨c,rfl,e⟩:=e;cases i;refine Bk ?_
 cases c with
 |false=>exact l qp s1 σ H1 Q g e
 |true=>exact⟨.bl true,H1,g,rfl,e⟩
def qC(f:PE X a ta):PE X (.UnaryOp .Not a pos) (kX ta):=by intro qp s σ H Q I h;refine UnaryOp_<|HB (f qp s σ H _ I h) ?_;rintro v s1 ⟨x,H1,g,i,e⟩;obtain⟨c,rfl,e⟩:=e;cases i;exact not_of<|Bk ⟨.bl<|!c,H1,g,rfl,e⟩
def tIf(t:TT)(ta tb:TE):TE:=λσ H Q=>t σ H λc H1=>if c=true then ta σ H1 Q else tb σ H1 Q
def xC(f:PT X c tA)(l:PE X a ta)(m:PE X b tb):PE X (.IfExp c a b pos) (tIf tA ta tb):=by
 intro qp s σ H Q I h;refine wpAny_IfExp<|HB (f qp s σ H _ I h) ?_;rintro d s1 ⟨H1,e,g⟩
 cases d with
 |true=>exact l qp s1 σ H1 Q e g
 |false=>exact m qp s1 σ H1 Q e g
end
def Kc(K:Ac)(H:Hp)(a:KB)(xs:List V):Prop:=
 Rd H a (.lst xs) \/
  ∃(o:Obj) (c:Array IR) (n:Nat),K.lookup a=some o/\o.cls=.type "list"/\o.dict=none/\o.data=.seq c n/\c.size<=sizeLine/\Vals xs c.toList
def Je(K:Ac)(H:Hp)(a:KB)(xs:List V):Prop:=
 Rd H a (.tup xs) \/
  ∃(o:Obj) (c:Array IR) (n:Nat),K.lookup a=some o/\o.cls=.type "tuple"/\o.data=.seq c n/\c.size<=sizeLine/\Vals xs c.toList
def ZY:IR->Option V
 |.none=>some .non
 |.bool b=>some<|.bl b
 |.int i _=>some<|.int i
 |.str x _=>some<|.str x
 |.bytes b _=>some<|.byt b
 |.float b _=>some<|.flt b
 |.ref a=>some<|.ref a
 |.type n=>some<|.ty n
 |_=>none
def RelV.abs{x:V}(r:RelV x u):ZY u=some x:=by
 cases x with
 |non=>cases r;rfl
 |bl _=>cases r;rfl
 |int _=>obtain⟨t,rfl⟩:=r;rfl
 |str _=>obtain⟨t,rfl⟩:=r;rfl
 |byt _=>obtain⟨t,rfl⟩:=r;rfl
 |flt _=>obtain⟨t,rfl⟩:=r;rfl
 |ref _=>cases r;rfl
 |ty _=>cases r;rfl
variable {y:V}
def RelV.inj{x:V}(r:RelV x u)(q:RelV y u):x=y:=As<|r.abs.symm.trans q.abs
def Vals.inj:∀{xs f:List V}{us:List IR},Vals xs us->Vals f us->xs=f
 |_,_,_,.nil,.nil=>rfl
 |_,_,_,.cons r t,.cons l t'=>by rw[r.inj l,Vals.inj t t']
variable {K:Ac}
section
variable {xs ys:List V}
def Kc.of(h:H a=some (.lst xs)):Kc K H a xs:=.inl<|.inl h
def Je.of(h:H a=some (.tup xs)):Je K H a xs:=.inl<|.inl h
def Inv.list(I:Inv X qp σ H s)(h:Kc X.K H a xs):∃its:List IR,Vals xs its/\PlainL s.heap a its.toArray/\xs.length<=sizeLine:=by
 rcases h with h|⟨o,its,n,hk,c,hd,g,i,r⟩
 ·obtain⟨z,its,n,r,e⟩:=h.ok I.hok;exact⟨its,r,⟨_,n,e,rfl,rfl,rfl⟩,z⟩
 refine⟨its.toList,r,⟨o,n,I.kIn a o hk,c,hd,by simpa using g⟩,?_⟩;have e:=r.length;simp only[AF]at e;omega
def Inv.tuple(I:Inv X qp σ H s)(h:Je X.K H a xs):∃its:List IR,Vals xs its/\IsTup s.heap a its.toArray/\xs.length<=sizeLine:=by
 rcases h with h|⟨o,its,n,hk,c,g,i,r⟩
 ·obtain⟨z,its,r,p⟩:=h.ok I.hok;exact⟨its,r,p.t,z⟩
 refine⟨its.toList,r,⟨o,I.kIn a o hk,c,n,by simpa using g⟩,?_⟩;have e:=r.length;simp only[AF]at e;omega
def Inv.list_inj(I:Inv X qp σ H s)(h:Kc X.K H a xs)(h':Kc X.K H a ys):xs=ys:=by
 obtain⟨g,r,⟨o,n,e,_,_,d⟩,_⟩:=I.list h;obtain⟨c,j,⟨u,v,i,_,_,d'⟩,_⟩:=I.list h';rw[e]at i;cases i;rw[d]at d';injection d' with d1 _
 have:g=c:=by simpa using congrArg GH d1
 subst this;exact r.inj j
def Inv.tuple_inj(I:Inv X qp σ H s)(h:Je X.K H a xs)(h':Je X.K H a ys):xs=ys:=by
 obtain⟨g,r,⟨o,e,_,n,d⟩,_⟩:=I.tuple h;obtain⟨c,j,⟨u,i,_,v,d'⟩,_⟩:=I.tuple h';rw[e]at i;cases i;rw[d]at d';injection d' with d1 _
 have:g=c:=by simpa using congrArg GH d1
 subst this;exact r.inj j
end
noncomputable abbrev Cx.wish (X:Cx) (E:Qqa):Cx:={X with xe:=E}
noncomputable abbrev Cx.nox (X:Cx):Cx:=X.wish λ_ _=>False
def Cx.Ok.wish{X:Cx}(ok:X.Ok)(E:Qqa):(X.wish E).Ok:=⟨ok.mod,ok.kind,ok.glob,ok.blt,ok.above,ok.inj,ok.has,ok.cab,ok.hd,ok.frames,ok.stk,ok.exf,ok.bs,ok.bsz,ok.noex,ok.exfs,ok.funs,ok.frf⟩
def Cx.Ok.unwish(ok:(X.wish E).Ok):X.Ok:=⟨ok.mod,ok.kind,ok.glob,ok.blt,ok.above,ok.inj,ok.has,ok.cab,ok.hd,ok.frames,ok.stk,ok.exf,ok.bs,ok.bsz,ok.noex,ok.exfs,ok.funs,ok.frf⟩
def Inv.wish(I:Inv X qp σ H s)(E:Qqa):Inv (X.wish E) qp σ H s:=⟨I.ok.wish E,I.os,I.bare,I.base,I.loc,I.cell,I.free,I.freeC,I.pin,I.hok,I.len⟩
def Inv.unwish(I:Inv (X.wish E) qp σ H s):Inv X qp σ H s:=⟨I.ok.unwish,I.os,I.bare,I.base,I.loc,I.cell,I.free,I.freeC,I.pin,I.hok,I.len⟩
def SP.unwish{D:Ends}{f:Flow}{s':Shared}(h:SP (X.wish E) qp D f s'):SP X qp D f s':=by
 cases f with
 |next=>obtain⟨σ',H',I,q⟩:=h;exact⟨σ',H',I.unwish,q⟩
 |brk=>obtain⟨σ',H',I,q⟩:=h;exact⟨σ',H',I.unwish,q⟩
 |cont=>obtain⟨σ',H',I,q⟩:=h;exact⟨σ',H',I.unwish,q⟩
 |ret u=>obtain⟨v,σ',H',I,r,q⟩:=h;exact⟨v,σ',H',I.unwish,r,q⟩
def K4.nox{st:List W1}{t:TS}(h:K4 X.nox st t):K4 X st t:=λqp s σ H D I hw=>
 AZ (h qp s σ H D (I.wish _) hw) (λ_ _ q=>q.unwish) λ_ _ z=>False.elim z
variable {te:TE}{tc:TT}
section
variable {st:W1}{rest:List W1}{t u:TS}
def kW:TS:=λD σ H=>D.nx σ H
def Y6(t u:TS):TS:=λD σ H=>t {D with nx:=u D} σ H
def vD:K4 X [] kW:=λ_ _ σ H _ I h=>Cn ⟨σ,H,I,h⟩
def eV(l:PS X st t)(m:K4 X rest u):K4 X (st::rest) (Y6 t u):=by
 intro qp s σ H D I h;refine D7<|HB (l qp s σ H {D with nx:=u D} I h) λf s1 q=>?_
 cases f with
 |next=>
  obtain⟨σ',H',a,q⟩:=q;exact m qp s1 σ' H' D a q
 |ret v=>exact q
 |brk=>exact q
 |cont=>exact q
def XA(l:PS X st t):K4 X [st] t:=by
 intro qp s σ H D I h;refine D7<|HB (l qp s σ H D I h) λf s1 q=>?_
 cases f with
 |next=>exact Cn q
 |ret v=>exact q
 |brk=>exact q
 |cont=>exact q
def Inv.quiet(I:Inv X qp σ H s):interactive X.env=false:=by simp[interactive,I.ok.kind]
def kU(te:TE):TS:=λD σ H=>te σ H λ_ H1=>D.nx σ H1
def vB(he:PE X e te)(f:swapsWith e none pos.line X.env=pure false:=by rfl):PS X (.Expr e pos) (kU te):=by intro qp s σ H D I h;exact wpAny_Expr_any (HB (he qp s σ H _ I h) λv s1 ⟨x,H1,a,g,c⟩=>⟨σ,H1,a,c⟩) I.quiet f
def Y7(te:TE):TS:=λD σ H=>te σ H D.rt
def qP(he:PE X e te):PS X (.Return (some e) pos) (Y7 te):=by intro qp s σ H D I h;exact wpAny_Return_some<|HB (he qp s σ H _ I h) λv s1 ⟨x,H1,a,c,g⟩=>⟨x,σ,H1,a,c,g⟩
def Zd(c:TT)(t u:TS):TS:=λD σ H=>c σ H λb H1=>if b=true then t D σ H1 else u D σ H1
def G9{a b:List W1}(f:PT X c tc)(l:K4 X a t)(m:K4 X b u):PS X (.If c a b pos) (Zd tc t u):=by
 intro qp s σ H D I h;refine wpAny_If<|HB (f qp s σ H _ I h) ?_;rintro d s1 ⟨H1,e,g⟩
 cases d with
 |true=>exact l qp s1 σ H1 D e g
 |false=>exact m qp s1 σ H1 D e g
end
noncomputable abbrev TG:=V->St->Hp->(St->Hp->Prop)->Prop
noncomputable abbrev O6:=List V->St->Hp->(St->Hp->Prop)->Prop
def PG(X:Cx)(target:Re)(t:TG):Prop:=
 ∀(qp:List (KB×Obj)) (s:Shared) (σ:St) (H:Hp) (v:V) (u:IR) (Q:St->Hp->Prop),Inv X qp σ H s->RelV v u->t v σ H Q ->
  wpAny (KF X.prog X.w) X.A (assign target X.env u) (λ_ s'=>∃σ' H',Inv X qp σ' H' s'/\Q σ' H') X.xe s
def Om(X:Cx)(ts:List Re)(t:O6):Prop:=
 ∀(qp:List (KB×Obj)) (s:Shared) (σ:St) (H:Hp) (a:List V) (us:List IR) (Q:St->Hp->Prop),Inv X qp σ H s->Vals a us->t a σ H Q ->
  wpAny (KF X.prog X.w) X.A (assignInOrder ((assignEach ts X.env).map (·.2)) us) (λ_ s'=>∃σ' H',Inv X qp σ' H' s'/\Q σ' H') X.xe s
noncomputable abbrev Rf:=V->V->V->Hp->(Hp->Prop)->Prop
def Rh(X:Cx)(t:Rf):Prop:=
 ∀(qp:List (KB×Obj)) (s:Shared) (σ:St) (H:Hp) (o i v:V) (a c u:IR) (Q:Hp->Prop),Inv X qp σ H s->RelV o a->RelV i c->RelV v u->t o i v H Q ->
  wpAny (KF X.prog X.w) X.A (setItem a c u) (λ_ s'=>∃H',Inv X qp σ H' s'/\Q H') X.xe s
noncomputable abbrev Wt:=V->V->Hp->VK->Prop
def jW(X:Cx)(op:Operator)(t:Wt):Prop:=
 ∀(qp:List (KB×Obj)) (s:Shared) (σ:St) (H:Hp) (x y:V) (v u:IR) (Q:VK),Inv X qp σ H s->RelV x v->RelV y u->t x y H Q ->
  wpAny (KF X.prog X.w) X.A (inplaceOp op v u) (EP X qp σ Q) X.xe s
variable {es:List Re}{n:Nat}{tg:Re}{pos':Pos}
def GW(i:Nat):TG:=λv σ H Q=>Q (σ.set i<|some v) H
def uV(f:X.N.Nodup)(hi:X.N[i]?=some x)(l:Loc X.env.scope x)(hf:X.fn x=true\/X.env.scope.names.lookup x=some .local:=by first|exact .inl rfl|exact .inr rfl|assumption):PG X (.Name x pos) (GW i):=by intro qp s σ H v u Q I r h;exact FJ<|O3 I f hi l r (λs' a=>⟨_,H,a,h⟩) hf
def ZJ:O6:=λa σ H Q=>a=[]/\Q σ H
def mY(t:TG)(u:O6):O6:=λa σ H Q=>∃v r,a=v::r/\t v σ H λσ' H'=>u r σ' H' Q
def uW:Om X [] ZJ:=by intro qp s σ H a us Q I r h;obtain⟨e,h⟩:=h;subst e;cases r;exact DX ⟨σ,H,I,h⟩
def xD{t:TG}{u:O6}(f:PG X e t)(l:Om X es u)(m:(assignEach (e::es) X.env).map (·.2)=assign e X.env::(assignEach es X.env).map (·.2):=by rfl):Om X (e::es) (mY t u):=by
 intro qp s σ H j us Q I r h;obtain⟨v,n,a,h⟩:=h;subst a;cases r with
 |cons r c=>
  rw[m];refine BR<|HB (f qp s σ H _ _ _ I r h) ?_;rintro _ s1 ⟨σ1,H1,g,i⟩;exact l qp s1 σ1 H1 _ _ Q g c i
def ZH(K:Ac)(n:Nat)(t:O6):TG:=λv σ H Q=>∃a xs,v=.ref a/\Je K H a xs/\xs.length=n/\t xs σ H Q
def qG{k:Nat}{t:O6}(l:X.calm=true)(h:Om X es t)(m:(assignEach es X.env).length=n:=by rfl) (f:(assignEach es X.env).findIdx? (·.1)=none:=by rfl):PG X (.Tuple es k pos) (ZH X.K n t):=by
 intro qp s σ H v u Q I r hw;obtain⟨a,xs,g,i,j,hw⟩:=hw;subst g;cases r;obtain⟨w,c,x,E⟩:=I.tuple i;refine assign_Tuple_tuple (I.ok.hd l) x (by simp[m,<-j,c.length]) f λh' y=>?_;have A:Inv X qp σ H {s with heap:=h'}:=I.kept (t':=s.toks) λb o e=>y b o (Au<|An e) e;exact h qp _ σ H xs _ Q A (by simpa using c) hw
def ZI(to f:TE)(t:Rf):TG:=λv σ H Q=>to σ H λo H1=>f σ H1 λi a=>t o i v a λc=>Q σ c
def qF{o i:Re}{to m:TE}{t:Rf}(q:PE X o to)(hi:PE X i m)(z:Rh X t)(B:∀v,assign (.Subscript o i pos) X.env v=(do
   let f <-holding [v] (eval o X.env)
   let l <-holding [v,f] (eval i X.env)
   standAt pos
   holding [v,f,l] (setItem f l v)
   release [v,f,l] []):=by intro _;rfl):PG X (.Subscript o i pos) (ZI to m t):=by
 intro qp s σ H v u Q I r h;rw[B];refine Ab<|A7<|HB (q qp s σ H _ I h) ?_;rintro f s1 ⟨x,H1,a,c,e⟩;refine Ab<|A7<|HB (hi qp s1 σ H1 _ a e) ?_;rintro l s2 ⟨y,g,j,n,w⟩;refine Ab<|Bz<|Ab<|A7<|HB (z qp s2 σ g x y v f l u _ j c n r w) ?_;rintro _ s3 ⟨A,E,K⟩;exact wpAny_release ⟨σ,A,E,K⟩
def QV(te:TE)(g:TG):TS:=λD σ H=>te σ H λx H1=>g x σ H1 D.nx
def qK{g:TG}(he:PE X e te)(f:PG X tg g)(l:swapsWithSole [tg] e pos.line X.env=pure false:=by rfl)(hw:swappedStores [tg] e X.env=pure none:=by rfl)(m:(assignEach [tg] X.env).map (·.2)=[assign tg X.env]:=by rfl):PS X (.Assign [tg] e pos) (QV te g):=by
 intro qp s σ H D I h;refine wpAny_Assign_stores (HB (he qp s σ H _ I h) ?_) l hw;rintro v s1 ⟨x,H1,a,c,i⟩;rw[m];exact HB (f qp s1 σ H1 x v _ a c i) λ_ s2 q=>q
def aW(f:X.N.Nodup)(hi:X.N[i]?=some x)(l:Loc X.env.scope x)(he:PE X e te)(m:swapsWith e (some<|.Name x pos') pos.line X.env=pure false:=by rfl)(hf:X.fn x=true\/X.env.scope.names.lookup x=some .local:=by first|exact .inl rfl|exact .inr rfl|assumption):
  PS X (.Assign [.Name x pos'] e pos) (QV te<|GW i):=by
 intro qp s σ H D I h;refine FL (HB (he qp s σ H _ I h) ?_) m;rintro v s1 ⟨y,H1,a,c,g⟩;exact O3 a f hi l c (λs2 j=>⟨_,H1,j,g⟩) hf
def Y8(i j:Nat)(ta:TA):TS:=λD σ H=>ta σ H λa H1=>∃v w,a=[v,w]/\D.nx ((σ.set i<|some v).set j<|some w) H1
def qO{y:Str}{a b:Re}{ta:TA}{f py pt:Pos}{kt k2 pt2}(B:X.calm=true)(m:X.N.Nodup)(hi:X.N[i]?=some x)(C:X.N[j]?=some y)(l:i≠j)(r:X.env.scope.names.lookup x=some .local) (z:X.env.scope.names.lookup y=some .local) (F:PA X [a,b] ta)(hw:swappedStores [.Tuple [.Name x f,.Name y py] kt pt] (.Tuple [a,b] k2 pt2) X.env=pure (some [x,y]))(G:swapsWithSole [.Tuple [.Name x f,.Name y py] kt pt] (.Tuple [a,b] k2 pt2) pos.line X.env=pure false:=by rfl):
  PS X (.Assign [.Tuple [.Name x f,.Name y py] kt pt] (.Tuple [a,b] k2 pt2) pos) (Y8 i j ta):=by
 intro qp s σ H D I h;rw[exec_Assign_arm];refine Ab<|Bz ?_;rw[G];refine Ab<|Ae ?_;rw[if_neg (by decide)];refine Ab<|Tuple_<|HB (F _ qp s σ H _ I h) ?_;rintro us s1 ⟨W,H1,I1,L,n⟩;obtain⟨v,w,M,n⟩:=n;subst M;obtain⟨c,g,rfl,Q,u⟩:∃c g,us=[c,g]/\RelV v c/\RelV w g:=by
  cases L with
  |cons p q=>
   cases q with
   |cons J S=>
    cases S;exact⟨_,_,rfl,p,J⟩
 refine AR ?_ (by show 2<=sizeLine;decide);have I2:Inv X qp σ H1 {s1 with heap:=s1.heap.push {cls:=.type "tuple",data:=.seq [c,g].toArray} }:=I1.kept (t':=s1.toks) λb o e=>Ag _ e;rw[hw];refine Ab<|Ae ?_;show wpAny (KF X.prog X.w) X.A (do rule "assign.swapped-stores";let items <-unpackItems (.ref s1.heap.objs.size) 2 none;assignInOrder [λv=>bindName X.env y v,λv=>bindName X.env x v] items.reverse;pure Fu) _ _ _;refine Ab<|Dt<|Ab<|FM (items:=#[c,g]) (I.ok.hd B) (IsTup.new s1.heap _) λh' E=>?_;have T:=I2.kept (h':=h') (t':=s1.toks) λb o e=>E b o (Au<|An e) e;show wpAny _ _ (assignInOrder [λv=>bindName X.env y v,λv=>bindName X.env x v] [g,c] >>= λ_=>pure Fu) _ _ _;refine Ab<|BR<|C4<|O3 T m C (.inl z) u (λs2 U=>?_)<|.inr z;refine BR<|C4<|O3 U m hi (.inl r) Q (λs3 K=>DX (Ae ?_))<|.inr r;rw[DR _ _ (A3 l)]at K;exact⟨_,H1,K,n⟩
def Zi(i:Nat)(te:TE)(f:Wt):TS:=λD σ H=>∃x,σ[i]?=some (some x)/\te σ H λy H1=>f x y H1 λz a=>D.nx (σ.set i<|some z) a
def qL{op:Operator}{q:Wt}(B:X.N.Nodup)(hi:X.N[i]?=some x)(f:Loc X.env.scope x)(he:PE X e te)(C:jW X op q)(hf:X.fn x=true\/X.env.scope.names.lookup x=some .local:=by first|exact .inl rfl|exact .inr rfl|assumption):
  PS X (.AugAssign (.Name x pos') op e pos) (Zi i te q):=by
 intro qp s σ H D I h;obtain⟨v,j,h⟩:=h;obtain⟨m,n,o⟩:=I.loc;have g:UD X.env.scope x:=by rcases f with k|k;exact .inl k;exact .inr<|.inl k
 obtain⟨u,r,l⟩:=o i x v hi j g;refine wpAny_AugAssign_Name ?_;have go:wpAny (KF X.prog X.w) X.A (eval e X.env) (λw s₂=>wpAny (KF X.prog X.w) X.A (inplaceOp op u w) (λr s₃=>wpAny (KF X.prog X.w) X.A (storeName X.env x r) (λ_=>SP X qp D .next) X.xe s₃) X.xe s₂) X.xe s:=by refine HB (he qp s σ H _ I h) ?_;rintro w s1 ⟨y,H1,E,K,L⟩;refine HB (C qp s1 σ H1 v y u w _ E r K L) ?_;rintro z s2 ⟨T,M,Q,F,G⟩;exact O3 Q B hi f F (λs3 J=>⟨_,M,J,G⟩) hf
 rcases l with⟨hk,hm⟩|⟨hk,c,S,a⟩
 ·exact Fb I.ok.kind hk n hm go
 ·rcases hk with hk|hk
  ·exact Fj I.ok.kind hk S a go
  ·rcases f with k|k
   ·have:X.env.scope.names.lookup x=some .free:=hk;rw[k]at this;cases this
   have:X.env.scope.names.lookup x=some .free:=hk;rw[k]at this;cases this
def ipI(f:Int->Int->Int):Wt:=λx y H Q=>∃i j,x=.int i/\y=.int j/\Q (.int<|f i j) H
def nJ:jW X .Add (ipI λi j=>i+j):=by intro qp s σ H x y v u Q I a c h;obtain⟨i,j,e,g,q⟩:=h;subst e;subst g;obtain⟨t,rfl⟩:=a;obtain⟨t',rfl⟩:=c;exact iadd_int ⟨.int _,H,I.tok _,⟨_,rfl⟩,q⟩
variable {body:List W1}
def pU(c:TT)(tb:TS):TS:=λD σ H=>∃W:Nat->St->Hp->Prop,(∃m,W m σ H)/\∀m σ H,W m σ H ->
 c σ H λb H1=>if b=true then ∃N:St->Hp->Prop,(∀σ' H',N σ' H'->∃a,a<m/\W a σ' H')/\tb {D with nx:=N,ct:=N,bk:=D.nx} σ H1 else D.nx σ H1
def xI{tb:TS}(l:PassesOwn (KF X.prog X.w) X.A X.env X.xe)(m:PT X c tc)(q:K4 X body tb):PS X (.While c body [] pos) (pU tc tb):=by
 intro qp s σ H D I h;obtain⟨W,⟨m0,K⟩,turn⟩:=h;refine wpAny_While<|codeAny_whileLoop (λn s'=>∃σ' H',Inv X qp σ' H' s'/\W n σ' H') ?_ m0 ⟨σ,H,I,K⟩;rintro n s1 ⟨σ1,H1,L,M⟩;refine BX l<|HB (m qp s1 σ1 H1 _ L<|turn n σ1 H1 M) ?_;rintro b s2 ⟨x,y,e⟩
 cases b with
 |true=>
  obtain⟨N,E,e⟩:=e;rw[if_pos rfl];refine BX l<|HB (q qp s2 σ1 x _ y e) λf s3 g=>?_
  cases f with
  |next=>
   obtain⟨σ3,a,i,j⟩:=g;obtain⟨o,hm,u⟩:=E σ3 a j;exact⟨o,hm,σ3,a,i,u⟩
  |cont=>
   obtain⟨σ3,a,i,j⟩:=g;obtain⟨o,hm,u⟩:=E σ3 a j;exact⟨o,hm,σ3,a,i,u⟩
  |brk=>exact g
  |ret v=>exact g
 |false=>
  rw[if_neg A6];exact Cn ⟨σ1,x,y,e⟩
structure It where
 go:Nat->Hp->Prop
 yld:Nat->Hp->V->Hp->Prop
 stop:Nat->Hp->Prop
def K5(X:Cx)(qp:List (KB×Obj))(H:Hp)(b:KB):Prop:=H b=none/\b≠X.env.locals/\b∉X.fs/\(b∈X.ex\/X.s₀.heap.objs.size<=b)/\(∀x c,X.env.cells.lookup x=some c->c≠b)/\∀p∈X.pn++qp,p.1≠b
def Inv.fpOk(I:Inv X qp σ H s)(f:s.heap.objs.size<=b)(l:H' b=none):K5 X qp H' b:=by
 refine⟨l,A5<|Ay I.lt f,I.nofs f,.inr<|Ar I.sz f,λx c e z=>?_,λp a z=>?_⟩
 ·obtain⟨v,q⟩:=I.cell x c e;exact absurd (Ay q.lt (by rw[z];exact f))<|AW _
 exact absurd (Ay (An (I.pin p a).1) (by rw[z];exact f))<|AW _
structure Turn(P:P3)(w:UF)(K:Ac)(tg:Re)(J:It)(fp:List KB)(it:KB)(tn:Nat->Pv->Prop):Prop where
 mem:it∈fp
 obj:∀i h,tn i h->∀b∈fp,∃o,h.get? b=some o/\∀v,o.data≠.cell v
 keep:∀i h h',tn i h->(∀b∈fp,∀o,h.get? b=some o->h'.get? b=some o)->tn i h'
 item:∀(X:Cx),X.prog=P->X.w=w->X.K=K->X.calm=true->∀(i:Nat) (qp:List (KB×Obj)) (s:Shared) (σ:St) (H:Hp) (E:Qqa),Inv X qp σ H s->(∀b∈fp,K5 X qp H b)->tn i s.heap->J.go i H ->
  wpAny (KF P w) X.A (pyNext (.ref it)) (λr s1=>∃u,r=some u /\
   wpAny (KF P w) X.A (letOwnedTupleGo tg (.ref it) u) (λ_ s2=>∃x H',Inv X qp σ H' s2/\RelV x u/\J.yld i H x H'/\tn (i+1) s2.heap/\∀b∈fp,H' b=none) E s1) E s
 done:∀(X:Cx),X.prog=P->X.w=w->X.K=K->X.calm=true->∀(i:Nat) (qp:List (KB×Obj)) (s:Shared) (σ:St) (H:Hp) (E:Qqa),Inv X qp σ H s->(∀b∈fp,K5 X qp H b)->tn i s.heap->J.stop i H ->
  wpAny (KF P w) X.A (pyNext (.ref it)) (λr s1=>r=none/\Inv X qp σ H s1) E s
 self:∀(A:Around) (i:Nat) (s:Shared) (Q:Qqa) (E:Qqa),tn i s.heap->Q (.ref it) s->wpAny (KF P w) A (pyIter (.ref it)) Q E s
noncomputable abbrev TI:=St->Hp->(It->Hp->Prop)->Prop
def jX(X:Cx)(qp:List (KB×Obj))(σ:St)(tg:Re)(R:It->Hp->Prop)(f:IR)(s2:Shared):Prop:=∃(it:KB) (a:List KB) (c:Nat->Pv->Prop) (J:It) (H':Hp),f=.ref it/\Inv X qp σ H' s2/\Turn X.prog X.w X.K tg J a it c/\c 0 s2.heap/\(∀b∈a,K5 X qp H' b)/\R J H'
def PI(X:Cx)(tg iter:Re)(f:TI):Prop:=
 ∀(qp:List (KB×Obj)) (s:Shared) (σ:St) (H:Hp) (R:It->Hp->Prop),Inv X qp σ H s->f σ H R ->
  wpAny (KF X.prog X.w) X.A (eval iter X.env) (λv s1=>wpAny (KF X.prog X.w) X.A (pyIter v) (jX X qp σ tg R) X.xe s1) X.xe s
def US{o:Obj}{n:String}{l:Array IR}{Q:Unit->Shared->Prop}(m:s.heap.get? it=some o)(q:o.cls=.type n)(hd:o.data=.fields l)(r:["enumerate","zip","dict_itemiterator","dict_reverseitemiterator","odict_iterator","itertools.zip_longest","itertools.pairwise"].contains n=false) (f:Q () s):wpAny M A (letOwnedTupleGo tg (.ref it) u) Q E s:=by
 unfold letOwnedTupleGo;cases tg<;>first
  |exact Ae f
  |(cases u<;>first
    |exact Ae f
    |(refine Ab (wpAny_load m ?_);rw[q,hd];show wpAny M A (if(["enumerate","zip","dict_itemiterator","dict_reverseitemiterator","odict_iterator","itertools.zip_longest","itertools.pairwise"].contains n&&l[0]?==some (rawInt _))=true then _ else _) Q E s;rw[if_neg (by intro h;rw[r,Cu]at h;cases h)];exact Ae f))
def Z3(K:Ac)(a:KB):It:=⟨λi H=>∃xs x,Kc K H a xs/\xs[i]?=some x,λi H x H'=>H'=H/\∀xs,Kc K H a xs->xs[i]?=some x,λi H=>∃xs,Kc K H a xs/\xs.length<=i⟩
def Z2(K:Ac)(a:KB):It:=⟨λi H=>∃xs x,Je K H a xs/\xs[i]?=some x,λi H x H'=>H'=H/\∀xs,Je K H a xs->xs[i]?=some x,λi H=>∃xs,Je K H a xs/\xs.length<=i⟩
def Wv(lo:Int)(n:Nat):It:=⟨λi _=>i<n,λi H x H'=>H'=H/\x=.int (lo+i),λi _=>n<=i⟩
def zlL(a it:KB):Turn P w K tg (Z3 K a) [it] it (λi h=>h.IsListIter it a i) where
 mem:=by simp
 obj:=λi h st b g=>by
  have e:b=it:=by simpa using g
  subst e;obtain⟨o,e,c,d⟩:=st;exact⟨o,e,λv z=>by rw[d]at z;cases z⟩
 keep:=λi h h' st k=>st.at λo e=>k it (by simp) o e
 item:=by intro X y hw A m i qp s σ H E I hf st L;subst y hw A;obtain⟨xs,x,n,M⟩:=L;obtain⟨N,Q,p,q⟩:=I.list n;obtain⟨u,r,B⟩:=Q.get M;obtain⟨f0,f1,f2,f,f4,l⟩:=hf it (by simp);refine Dc st p.isList (x:=u) (by simpa using r) λh' j sb=>?_;have C:Inv X qp σ H {s with heap:=h'}:=I.turned (t':=s.toks) (λb o g e=>(sb.2 b g).trans e) f0 f1 f f4 l;obtain⟨o,e,c,d⟩:=id j;exact⟨u,rfl,US (s:={s with heap:=h'}) e c d (by decide) ⟨x,H,C,B,⟨rfl,λJ F=>by rw[I.list_inj F n];exact M⟩,j,λb g=>(hf b g).1⟩⟩
 done:=by intro X y hw A m i qp s σ H E I hf st L;subst y hw A;obtain⟨xs,n,M⟩:=L;obtain⟨N,Q,p,q⟩:=I.list n;obtain⟨f0,f1,f2,f,f4,l⟩:=hf it (by simp);have S:=Q.length;exact Dl (I.ok.hd m) st p.isList (by simp;omega) λh' G=>⟨rfl,I.turned (t':=s.toks) (λb o g e=>G b o g e) f0 f1 f f4 l⟩
 self:=λ_ _ _ _ _ st h=>wpAny_pyIter_listiter st h
def zjh(a it:KB):Turn P w K tg (Z2 K a) [it] it (λi h=>h.IsTupleIter it a i) where
 mem:=by simp
 obj:=λi h st b g=>by
  have e:b=it:=by simpa using g
  subst e;obtain⟨o,e,c,d⟩:=st;exact⟨o,e,λv z=>by rw[d]at z;cases z⟩
 keep:=λi h h' st k=>st.at λo e=>k it (by simp) o e
 item:=by intro X A hw L m i qp s σ H E I hf st M;subst A hw L;obtain⟨xs,x,y,N⟩:=M;obtain⟨j,Q,p,q⟩:=I.tuple y;obtain⟨u,r,B⟩:=Q.get N;obtain⟨f0,f1,f2,f,f4,l⟩:=hf it (by simp);refine Em st (show s.heap.IsTuple a j.toArray from p) (x:=u) (by simpa using r) λh' n sb=>?_;have C:Inv X qp σ H {s with heap:=h'}:=I.turned (t':=s.toks) (λb o g e=>(sb.2 b g).trans e) f0 f1 f f4 l;obtain⟨o,e,c,d⟩:=id n;exact⟨u,rfl,US (s:={s with heap:=h'}) e c d (by decide) ⟨x,H,C,B,⟨rfl,λJ F=>by rw[I.tuple_inj F y];exact N⟩,n,λb g=>(hf b g).1⟩⟩
 done:=by intro X A hw L m i qp s σ H E I hf st M;subst A hw L;obtain⟨xs,y,N⟩:=M;obtain⟨j,Q,p,q⟩:=I.tuple y;obtain⟨f0,f1,f2,f,f4,l⟩:=hf it (by simp);have S:=Q.length;exact EA (I.ok.hd m) st (show s.heap.IsTuple a j.toArray from p) (by simp;omega) λh' G=>⟨rfl,I.turned (t':=s.toks) (λb o g e=>G b o g e) f0 f1 f f4 l⟩
 self:=λ_ _ _ _ _ st h=>wpAny_pyIter_tupleiter st h
def zji(it:KB)(lo:Int)(n:Nat):Turn P w K tg (Wv lo n) [it] it (λi h=>IsRangeIter h it (lo+(i:Nat)*1) ((n:Int)-(i:Nat)) 1) where
 mem:=by simp
 obj:=λi h st b a=>by
  have e:b=it:=by simpa using a
  subst e;exact⟨_,st,λv z=>by have M:Data.fields _=Data.cell v:=z;cases M⟩
 keep:=λi h h' st k=>k it (by simp) _ st
 item:=by intro X g hw j u i qp s σ H E I hf st x;subst g hw j;obtain⟨f0,f1,f2,y,f4,A⟩:=hf it (by simp);have W:=Walks.range (prog:=X.prog) (w:=X.w) (I.ok.hd u) it lo 1 n;refine W.item i s _ _ x st λv h' L N c Q=>?_;obtain⟨t,rfl⟩:=N;have f:Inv X qp σ H {s with heap:=h',toks:=L}:=I.turned (λb o a e=>Q b o (by simpa using a) e) f0 f1 y f4 A;refine⟨_,rfl,US (s:={s with heap:=h',toks:=L}) (n:="range_iterator") c rfl rfl (by decide) ⟨.int<|lo+i,H,f,⟨t,?_⟩,⟨rfl,rfl⟩,c,λb a=>(hf b a).1⟩⟩;rw[Int.mul_one]
 done:=by intro X g hw j u i qp s σ H E I hf st x;subst g hw j;obtain⟨f0,f1,f2,y,f4,A⟩:=hf it (by simp);exact wpAny_pyNext_range_end (I.ok.hd u) st (by have:n<=i:=x;omega) λh' l=>⟨rfl,I.turned (t':=s.toks) (λb o a e=>l b o a e) f0 f1 y f4 A⟩
 self:=λ_ _ _ _ _ st h=>wpAny_pyIter_rangeiter st h
variable {p:Pos}{l:Re}{tl:TE}{fp:List KB}
def nC(K:Ac)(tl:TE):TI:=λσ H R=>tl σ H λx H1=>∃a,x=.ref a/\(∃xs,Kc K H1 a xs)/\R (Z3 K a) H1
def ZF(K:Ac)(tl:TE):TI:=λσ H R=>tl σ H λx H1=>∃a,x=.ref a/\(∃xs,Je K H1 a xs)/\R (Z2 K a) H1
def uX(f:PE X l tl):PI X tg l (nC X.K tl):=by
 intro qp s σ H R I h;refine HB (f qp s σ H _ I h) ?_;rintro v s1 ⟨x,H1,I1,c,g⟩;obtain⟨a,e,⟨xs,i⟩,q⟩:=g;subst e;cases c;obtain⟨j,u,p,w⟩:=I1.list i;refine DY p.isList ?_;refine⟨s1.heap.objs.size,[s1.heap.objs.size],_,_,H1,rfl,I1.kept (t':=s1.toks) λb o e=>Ag _ e,zlL a _,⟨_,Av _ rfl,rfl,rfl⟩,λb n=>?_,q⟩;have e:b=s1.heap.objs.size:=by simpa using n
 subst e;exact I1.fpOk (Ai _)<|I1.hok.fresh<|Ai _
def qI(f:PE X l tl):PI X tg l (ZF X.K tl):=by
 intro qp s σ H R I h;refine HB (f qp s σ H _ I h) ?_;rintro v s1 ⟨x,H1,I1,g,i⟩;obtain⟨a,e,⟨xs,j⟩,q⟩:=i;subst e;cases g;obtain⟨c,u,p,w⟩:=I1.tuple j;refine wpAny_pyIter_tuple (show s1.heap.IsTuple a c.toArray from p) ?_;refine⟨s1.heap.objs.size,[s1.heap.objs.size],_,_,H1,rfl,I1.kept (t':=s1.toks) λb o e=>Ag _ e,zjh a _,⟨_,Av _ rfl,rfl,rfl⟩,λb n=>?_,q⟩;have e:b=s1.heap.objs.size:=by simpa using n
 subst e;exact I1.fpOk (Ai _)<|I1.hok.fresh<|Ai _
def xO{R:It->Hp->Prop}{lo hi:Int}{t u v:Tok}{f:Nat}(I:Inv X qp σ H s)(m:-(2^62)<=lo)(r:lo<2^62)(z:-(2^62)<=hi)(B:hi<2^62)(q:R (Wv lo (hi-lo).toNat) H):wpAny (KF X.prog X.w) X.A (pyIter<|.ref s.heap.objs.size) (jX X qp σ tg R) E {s with heap:=s.heap.push {cls:=.type "range",data:=.fields #[.int lo t,.int hi u,.int 1 v]},toks:=f}:=by
 refine wpAny_pyIter_range (IsRange.new ..) (small_one m r z B) ?_;have I1:Inv X qp σ H {s with heap:=s.heap.push {cls:=.type "range",data:=.fields #[.int lo t,.int hi u,.int 1 v]},toks:=f}:=I.kept λb o e=>Ag _ e;refine⟨(s.heap.push {cls:=.type "range",data:=.fields #[.int lo t,.int hi u,.int 1 v]}).objs.size,[(s.heap.push {cls:=.type "range",data:=.fields #[.int lo t,.int hi u,.int 1 v]}).objs.size],_,_,H,rfl,
  I1.kept (t':=f) λb o e=>Ag _ e,zji _ lo (hi-lo).toNat,?_,λb a=>?_,q⟩
 ·have c:lo+((0:Nat):Int)*1=lo:=by simp
  have g:(((hi-lo).toNat:Nat):Int)-((0:Nat):Int)=Builtin.Range.rangeSize lo hi 1:=by rw[rangeSize_one];split<;>omega
  show IsRangeIter _ _ (lo+((0:Nat):Int)*1) ((((hi-lo).toNat:Nat):Int)-((0:Nat):Int)) 1;rw[c,g];exact Av _ rfl
 ·have e:b=(s.heap.push {cls:=.type "range",data:=.fields #[.int lo t,.int hi u,.int 1 v]}).objs.size:=by simpa using a
  subst e;exact I1.fpOk (Ai _)<|I1.hok.fresh<|Ai _
def nE(ta:TA):TI:=λσ H R=>ta σ H λa H1=>∃j:Int,a=[.int j]/\-(2^62)<=j/\j<2^62/\R (Wv 0 j.toNat) H1
def zl9{a:Re}{ta:TA}(f:Gl X "range")(hm:X.mg "range"=none)(m:PA X [a] ta)(z:starEach [a] X.env=[(false,eval a X.env)]:=by rfl):PI X tg (.Call (.Name "range" p) [a] [] pos) (nE ta):=by
 intro qp s σ H R I h;refine Call_<|S0 I f hm boot_range<|CB (HB (m pos qp s σ H _ I h) ?_) z rfl;rintro us s1 ⟨o,H1,g,i,c⟩;obtain⟨j,e,c,l,q⟩:=c;subst e
 cases i with
 |cons r n=>
  cases n;obtain⟨t,rfl⟩:=r;exact call_range_1<|xO g (by omega) (by omega) c l<|by simpa using q
def Ze(f:TI)(g:TG)(tb:TS):TS:=λD σ H=>f σ H λJ H1=>∃W:Nat->Nat->St->Hp->Prop,(∃m,W 0 m σ H1)/\∀i m σ H,W i m σ H ->
 (J.stop i H/\D.nx σ H)\/(J.go i H/\∃N:St->Hp->Prop,(∀σ' H',N σ' H'->∃a,a<m/\W (i+1) a σ' H')/\∀x H',J.yld i H x H'->g x σ H' λσ2 c=>tb {D with nx:=N,ct:=N,bk:=D.nx} σ2 c)
def Tj(fp:List KB)(h:Pv):List (KB×Obj):=fp.filterMap λb=>(h.get? b).map λo=>(b,o)
def VR{o:Obj}(f:b∈fp)(e:h.get? b=some o):(b,o)∈Tj fp h:=List.mem_filterMap.mpr ⟨b,f,by rw[e];rfl⟩
def zmi{p:KB×Obj}(f:p∈Tj fp h):p.1∈fp/\h.get? p.1=some p.2:=by
 obtain⟨b,a,e⟩:=List.mem_filterMap.mp f;cases q:h.get? b with
 |none=>rw[q]at e;cases e
 |some o=>
  rw[q]at e;have c:(b,o)=p:=As e;subst c;exact⟨a,q⟩
def Inv.pinned{fp:List KB}(I:Inv X qp σ H s)(hf:∀b∈fp,K5 X qp H b)(f:∀b∈fp,∃o,s.heap.get? b=some o/\∀v,o.data≠.cell v):Inv X (qp++Tj fp s.heap) σ H s:=I.pins_of λp g=>(SZ.mp g).elim (λz=>I.pin p (AY _ z)) λz=>by obtain⟨a,e⟩:=zmi z;obtain⟨f0,f1,f2,_⟩:=hf p.1 a;obtain⟨o,c,d⟩:=f p.1 a;rw[e]at c;cases c;exact⟨e,f0,f1,f2,d⟩
def Inv.unpinned{pl:List (KB×Obj)}(I:Inv X (qp++pl) σ H s):Inv X qp σ H s:=I.pins_of λp a=>I.pin p<|AY _<|B4 _ a
def qN{iter:Re}{G:TI}{g:TG}{tb:TS}(z:PassesOwn (KF X.prog X.w) X.A X.env X.xe)(S:X.calm=true)(hi:PI X tg iter G)(hg:PG X tg g)(q:K4 X body tb)(hs:∀x,foldedSetIterable iter X.env x=pure x:=by intro _;rfl):PS X (.For tg iter body [] pos) (Ze G g tb):=by
 intro qp s σ H D I h;refine wpAny_For (HB (hi qp s σ H _ I h) λv s1 h1=>HB h1 λitv s2 h2=>?_) hs;obtain⟨it,fp,U,J,H2,e,I2,T,M,f2,W,⟨m0,w0⟩,turn⟩:=h2;subst e;have a:∀{H':Hp},(∀b∈fp,H' b=none)->∀b∈fp,K5 X qp H' b:=λhn b q=>⟨hn b q,(f2 b q).2⟩;refine codeAny_forLoop_any (λn s'=>∃i σ' H',Inv X qp σ' H' s'/\U i s'.heap/\(∀b∈fp,H' b=none)/\W i n σ' H') ?_ m0 ⟨0,σ,H2,I2,M,λb q=>(f2 b q).1,w0⟩;rintro n s3 ⟨i,σ3,L,Y,y,E,w3⟩;rcases turn i n σ3 L w3 with⟨stop,qn⟩|⟨go,N,hN,step⟩
 ·refine BX z (HB (T.done X rfl rfl rfl S i qp s3 σ3 L X.xe Y (a E) y stop) ?_);rintro r s4 ⟨Q,I4⟩;subst Q;exact Cn ⟨σ3,L,I4,qn⟩
 ·refine BX z (HB (T.item X rfl rfl rfl S i qp s3 σ3 L X.xe Y (a E) y go) ?_);rintro r s4 ⟨u,Q,h4⟩;subst Q;refine BX z (HB h4 ?_);rintro _ s5 ⟨x,Z,I5,r5,y5,l,B⟩;have C:=I5.pinned (a B) (T.obj _ _ l);refine BX z (HB (hg _ s5 σ3 Z x u _ C r5 (step x Z y5)) ?_);rintro _ s6 ⟨σ6,H6,I6,q6⟩;refine BX z (HB (q _ s6 σ6 H6 _ I6 q6) λf F j=>?_);have again:∀{σ7:St}{c:Hp},Inv X (qp++Tj fp s5.heap) σ7 c F->N σ7 c->∃m,m<n/\∃i σ' H',Inv X qp σ' H' F/\U i F.heap/\(∀b∈fp,H' b=none)/\W i m σ' H':=λ{σ7 c} I7 K=>by
   obtain⟨m',hm,w7⟩:=hN σ7 c K;refine⟨m',hm,i+1,σ7,c,I7.unpinned,T.keep _ _ _ l λb q o e=>(I7.pin (b,o) (AY _ (AY _ (VR q e)))).1,λb q=>?_,w7⟩;obtain⟨o,e,d⟩:=T.obj _ _ l b q;exact(I7.pin (b,o) (AY _ (AY _ (VR q e)))).2.1
  cases f with
  |next=>obtain⟨σ7,c,I7,K⟩:=j;exact again I7 K
  |cont=>obtain⟨σ7,c,I7,K⟩:=j;exact again I7 K
  |brk=>obtain⟨σ7,c,I7,j⟩:=j;exact⟨σ7,c,I7.unpinned,j⟩
  |ret v=>obtain⟨x7,σ7,c,I7,r7,j⟩:=j;exact⟨x7,σ7,c,I7.unpinned,r7,j⟩
noncomputable abbrev R2:=V->V->Hp->VK->Prop
def Kd(X:Cx)(f:IR->IR->Sem IR)(r:R2):Prop:=
 ∀(qp:List (KB×Obj)) (s:Shared) (σ:St) (H:Hp) (x y:V) (v u:IR) (Q:VK),Inv X qp σ H s->RelV x v->RelV y u->r x y H Q ->
  wpAny (KF X.prog X.w) X.A (f v u) (EP X qp σ Q) X.xe s
def ZZ(X:Cx)(f:IR->Sem IR)(r:V->Hp->VK->Prop):Prop:=
 ∀(qp:List (KB×Obj)) (s:Shared) (σ:St) (H:Hp) (x:V) (v:IR) (Q:VK),Inv X qp σ H s->RelV x v->r x H Q ->
  wpAny (KF X.prog X.w) X.A (f v) (EP X qp σ Q) X.xe s
def NB(X:Cx)(f:IR)(r:List V->Hp->VK->Prop):Prop:=
 ∀(qp:List (KB×Obj)) (s:Shared) (σ:St) (H:Hp) (xs:List V) (us:List IR) (Q:VK),Inv X qp σ H s->Vals xs us->r xs H Q ->
  wpAny (KF X.prog X.w) X.A (call f us) (EP X qp σ Q) X.xe s
def Z0(X:Cx)(r:V->Hp->(Bool->Hp->Prop)->Prop):Prop:=
 ∀(qp:List (KB×Obj)) (s:Shared) (σ:St) (H:Hp) (x:V) (v:IR) (Q:Bool->Hp->Prop),Inv X qp σ H s->RelV x v->r x H Q ->
  wpAny (KF X.prog X.w) X.A (truthy v) (TP X qp σ Q) X.xe s
def Ud(r:R2)(ta tb:TE):TE:=λσ H Q=>ta σ H λx H1=>tb σ H1 λy a=>r x y a Q
def tUn(r:V->Hp->VK->Prop)(ta:TE):TE:=λσ H Q=>ta σ H λx H1=>r x H1 Q
def rI(C:Int->Int->Prop)(g:Int->Int->V):R2:=λx y H Q=>∃i j,x=.int i/\y=.int j/\C i j/\Q (g i j) H
def PK(g:Int->Int->V):R2:=λx y H Q=>∃i j,x=.int i/\y=.int j/\Q (g i j) H
def rU(g:Int->V):V->Hp->VK->Prop:=λx H Q=>∃i,x=.int i/\Q (g i) H
variable {f:IR->IR->Sem IR}{r:R2}
section
variable {a b:Re}{tc:TE}
def Rc(q:PE X a ta)(z:PE X b tb){R:V->V->Hp->Prop}(I:Inv X qp σ H s)(h:ta σ H λx H1=>tb σ H1 λy m=>R x y m)  
  (hf:∀v u s2 x y m,Inv X qp σ m s2->RelV x v->RelV y u->R x y m->wpAny (KF X.prog X.w) X.A (f v u) Q X.xe s2):
  wpAny (KF X.prog X.w) X.A (eval a X.env) (λv s₁=>wpAny (KF X.prog X.w) X.A (eval b X.env) (λu s₂=>wpAny (KF X.prog X.w) X.A (f v u) Q X.xe s₂) X.xe s₁) X.xe s:=by
 refine HB (q qp s σ H _ I h) ?_;rintro v s1 ⟨x,H1,c,e,g⟩;refine HB (z qp s1 σ H1 _ c g) ?_;rintro u s2 ⟨y,m,i,j,l⟩;exact hf v u s2 x y m i e j l
def mE{op:Operator}(m:Kd X (binaryOp op) r)(z:PE X a ta)(B:PE X b tb):PE X (.BinOp a op b pos) (Ud r ta tb):=by intro qp s σ H Q I h;exact wpAny_BinOp<|Rc z B I h λv u s2 x y c e rx f q=>m qp s2 σ c x y v u Q e rx f q
def mH{op:UnaryOp}{r:V->Hp->VK->Prop}(m:ZZ X (unaryOp op) r)(q:PE X a ta):PE X (.UnaryOp op a pos) (tUn r ta):=by intro qp s σ H Q I h;exact UnaryOp_<|HB (q qp s σ H _ I h) λv s1 ⟨x,H1,c,e,f⟩=>m qp s1 σ H1 x v Q c e f
def Wm{C:Int->Int->Prop}{g:Int->Int->Int}(rule:∀(i j:Int) (t u:Tok) (s:Shared) (Q:Qqa) (E:Qqa),C i j->Q (.int (g i j) s.toks) {s with toks:=s.toks+1}->wpAny (KF X.prog X.w) X.A (f (.int i t)<|.int j u) Q E s):
  Kd X f (rI C λi j=>.int (g i j)):=by
 intro qp s σ H x y v u Q I rx a h;obtain⟨i,j,rfl,rfl,c,q⟩:=h;obtain⟨t,rfl⟩:=rx;obtain⟨t',rfl⟩:=a;exact rule i j t t' s _ _ c ⟨.int<|g i j,H,I.tok _,⟨_,rfl⟩,q⟩
def Ul{g:Int->Int->Int}(rule:∀(i j:Int) (t u:Tok) (s:Shared) (Q:Qqa) (E:Qqa),Q (.int (g i j) s.toks) {s with toks:=s.toks+1}->wpAny (KF X.prog X.w) X.A (f (.int i t)<|.int j u) Q E s):
  Kd X f (PK λi j=>.int (g i j)):=by
 intro qp s σ H x y v u Q I rx a h;obtain⟨i,j,rfl,rfl,q⟩:=h;obtain⟨t,rfl⟩:=rx;obtain⟨t',rfl⟩:=a;exact rule i j t t' s _ _ ⟨.int<|g i j,H,I.tok _,⟨_,rfl⟩,q⟩
def PM{g:Int->Int->Bool}(rule:∀(i j:Int) (t u:Tok) (s:Shared) (Q:Qqa) (E:Qqa),Q (.bool<|g i j) s->wpAny (KF X.prog X.w) X.A (f (.int i t)<|.int j u) Q E s):
  Kd X f (PK λi j=>.bl (g i j)):=by
 intro qp s σ H x y v u Q I rx a h;obtain⟨i,j,rfl,rfl,q⟩:=h;obtain⟨t,rfl⟩:=rx;obtain⟨t',rfl⟩:=a;exact rule i j t t' s _ _ ⟨.bl<|g i j,H,I,rfl,q⟩
def Rl(i j:Int):Prop:=(-(2^64)<i/\i<2^64)\/(-(2^64)<j/\j<2^64)
def Rl.ok{i j:Int}(h:Rl i j):IntMulOk i j:=by
 rcases h with⟨a,c⟩|⟨a,c⟩
 ·exact .of_left<|intBits_le_64 a c
 exact .of_right<|intBits_le_64 a c
def oE:Kd X (binaryOp .Add) (PK λi j=>.int (i+j)):=Ul λ_ _ _ _ _ _ _ q=>add_int q
def rE:Kd X (binaryOp .Sub) (PK λi j=>.int (i-j)):=Ul λ_ _ _ _ _ _ _ q=>sub_int q
def rC:Kd X (binaryOp .Mult) (rI Rl λi j=>.int (i*j)):=Wm λ_ _ _ _ _ _ _ a q=>mul_int q a.ok
def rB:Kd X (binaryOp .Mod) (rI (λ_ j=>0<j) λi j=>.int (i % j)):=Wm λi j _ _ _ _ _ a q=>by have c:(0:Int)<j:=a;exact mod_int' (by omega) (by rw[Int.fmod_eq_emod_of_nonneg i (by omega)];exact q)
def unI{f:IR->Sem IR}{g:Int->Int}(rule:∀(i:Int) (t:Tok) (s:Shared) (Q:Qqa) (E:Qqa),Q (.int (g i) s.toks) {s with toks:=s.toks+1}->wpAny (KF X.prog X.w) X.A (f<|.int i t) Q E s):
  ZZ X f (rU λi=>.int (g i)):=by
 intro qp s σ H x v Q I rx h;obtain⟨i,rfl,q⟩:=h;obtain⟨t,rfl⟩:=rx;exact rule i t s _ _ ⟨.int<|g i,H,I.tok _,⟨_,rfl⟩,q⟩
def pY:ZZ X (unaryOp .USub) (rU λi=>.int (-i)):=unI λ_ _ _ _ _ q=>neg_int q
end
variable {op':CmpOp}{r':R2}
section
variable {a b:Re}{tc:TE}
def U8{Q:VK}{k m:Bool}(I:Inv X qp σ H s)(q:Q (.bl k) H)(e:k=m):EP X qp σ Q (.bool m) s:=by subst e;exact⟨.bl k,H,I,rfl,q⟩
def lU:Kd X (PP .Lt) (PK λi j=>.bl (decide (i<j))):=PM λ_ _ _ _ _ _ _ q=>Gc q
def lS:Kd X (PP .LtE) (PK λi j=>.bl (decide (i<=j))):=PM λ_ _ _ _ _ _ _ q=>GF q
def lQ:Kd X (PP .Gt) (PK λi j=>.bl (decide (j<i))):=PM λ_ _ _ _ _ _ _ q=>gt_int q
def lP:Kd X (PP .GtE) (PK λi j=>.bl (decide (j<=i))):=PM λ_ _ _ _ _ _ _ q=>ge_int q
def zmf:Kd X (PP .In) (λx y H Q=>∃i j,x=.str i/\y=.str j/\Q (.bl<|!(A0 j i 0 j.length 1).isEmpty) H):=by intro qp s σ H x y v u Q I rx a h;obtain⟨i,j,rfl,rfl,q⟩:=h;obtain⟨t,rfl⟩:=rx;obtain⟨t',rfl⟩:=a;exact in_str<|U8 I q rfl
def oI:Kd X (PP .Is) (λx y H Q=>y=.non/\Q (.bl<|decide (x=.non)) H):=by
 intro qp s σ H x y v u Q I rx a h;obtain⟨rfl,q⟩:=h;cases a;refine is_none_gen<|U8 I q ?_
 cases x<;>first
  |(cases rx;rfl)
  |(obtain⟨t,rfl⟩:=rx;rfl)
def uQ:Kd X (PP .IsNot) (λx y H Q=>y=.non/\Q (.bl<|!decide (x=.non)) H):=by
 intro qp s σ H x y v u Q I rx a h;obtain⟨rfl,q⟩:=h;cases a;refine isnot_none_gen<|U8 I q ?_
 cases x<;>first
  |(cases rx;rfl)
  |(obtain⟨t,rfl⟩:=rx;rfl)
def zhy:Kd X (PP .NotIn) (λx y H Q=>∃i j,x=.str i/\y=.str j/\Q (.bl<|!(!(A0 j i 0 j.length 1).isEmpty)) H):=by intro qp s σ H x y v u Q I rx a h;obtain⟨i,j,rfl,rfl,q⟩:=h;obtain⟨t,rfl⟩:=rx;obtain⟨t',rfl⟩:=a;exact notIn_str<|U8 I q rfl
def uT(m:Kd X (PP op) r)(z:PE X a ta)(B:PE X b tb)(hm:behindInMarks op b=false):PE X (.Compare a [op] [b] pos) (Ud r ta tb):=by intro qp s σ H Q I h;exact wpAny_Compare1 (Rc z B I h λv u s2 x y c e rx f q=>m qp s2 σ c x y v u Q e rx f q) hm
def GY(t:TE):TT:=λσ H Q=>t σ H λx H'=>∃k,x=.bl k/\Q k H'
def tN(m:Kd X (PP op) r)(q:PE X a ta)(B:PE X b tb)(hm:behindInMarks op b=false):PT X (.Compare a [op] [b] pos) (GY<|Ud r ta tb):=by
 intro qp s σ H Q I h;refine ER (HB (q qp s σ H _ I h) λv s1 ⟨x,H1,f,g,i⟩=>HB (B qp s1 σ H1 _ f i) λu s2 ⟨y,j,l,n,o⟩=>
  HB (m qp s2 σ j x y v u _ l g n o) λc s3 ⟨z,w,A,E,k,e,K⟩=>?_) hm
 subst e;cases E;exact Bk ⟨w,A,K⟩
def W9(r r':R2)(ta tb tc:TE):TE:=λσ H Q=>ta σ H λx H1=>tb σ H1 λy c=>r x y c λz a=>∃k,z=.bl k /\
 (if k=true then tc σ a λe f=>r' y e f Q else Q (.bl false) a)
def yU(q:Kd X (PP op) r)(m:Kd X (PP op') r')(B:PE X a ta)(C:PE X b tb)(F:PE X c tc)(hm:lastMarks [op,op'] [b,c]=false:=by with_unfolding_all rfl):PE X (.Compare a [op,op'] [b,c] pos) (W9 r r' ta tb tc):=by
 intro qp s σ H Q I h;refine Compare_chain (HB (B qp s σ H _ I h) λv s1 ⟨x,H1,l,n,o⟩=>chain_link (HB (C qp s1 σ H1 _ l o) λu s2 ⟨y,w,A,f,E⟩=>
  HB (q qp s2 σ w x y v u _ A n f E) λd s3 ⟨z,g,i,K,k,e,j⟩=>?_)) hm
 subst e;cases K;refine Bk ?_;cases k with
 |false=>exact ite_ff ⟨.bl false,g,i,rfl,j⟩
 |true=>exact ite_tt<|chain_last<|HB (F qp s3 σ g _ i j) λL s4 ⟨M,N,G,J,S⟩=>m qp s4 σ N y M u L Q G f J S
def xJ(q:Kd X (PP op) r)(m:Kd X (PP op') r')(B:PE X a ta)(C:PE X b tb)(F:PE X c tc)(hm:lastMarks [op,op'] [b,c]=false:=by with_unfolding_all rfl):PT X (.Compare a [op,op'] [b,c] pos) (GY<|W9 r r' ta tb tc):=by
 intro qp s σ H Q I h;refine isTrue_chain (HB (B qp s σ H _ I h) λv s1 ⟨x,H1,l,n,o⟩=>test_link (HB (C qp s1 σ H1 _ l o) λu s2 ⟨y,w,A,f,E⟩=>
  HB (q qp s2 σ w x y v u _ A n f E) λd s3 ⟨z,g,i,K,k,e,j⟩=>?_)) hm
 subst e;cases K;refine Bk ?_;cases k with
 |false=>
  obtain⟨k',L,M⟩:=j;cases L;exact ite_ff ⟨g,i,M⟩
 |true=>
  refine ite_tt<|test_last<|HB (F qp s3 σ g _ i j) λN s4 ⟨G,J,S,T,U⟩=>HB (m qp s4 σ J y G u N _ S f T U) ?_;rintro d' s5 ⟨z2,W,Y,Z,k2,e2,q5⟩;subst e2;cases Z;exact Bk ⟨W,Y,q5⟩
def UE(K:Ac)(x:V)(H:Hp)(k:Bool):Prop:=
 match x with
 |.non=>k=false
 |.bl b=>k=b
 |.int i=>k=(i != 0)
 |.str y=>y.length<=sizeLine/\k=((y.length:Int) != 0)
 |.byt y=>y.size<=sizeLine/\k=((y.size:Int) != 0)
 |.ref p=>(∃xs,Kc K H p xs/\k=!xs.isEmpty)\/(∃xs,Je K H p xs/\k=!xs.isEmpty)\/∃a,H p=some (.dK a)/\k=!a.isEmpty
 |_=>False
def zkS{kvs:List (κ×V)}{m:List (κ×IR)}(r:KV kvs m):(!m.isEmpty)=!kvs.isEmpty:=by cases r<;>rfl
def hV{xs:List V}{its:List IR}(r:Vals xs its):(!its.toArray.isEmpty)=!xs.isEmpty:=by cases r<;>simp
def Qz:(sizeLine:Nat)<2^63:=by rw[CL];decide
def pV:Z0 X (λx H Q=>∃k,UE X.K x H k/\Q k H):=by
 intro qp s σ H x v Q I rx h;obtain⟨k,e,q⟩:=h;have u:=Qz;have A:sizeLine=16777216:=CL;cases x with
 |non=>
  cases rx;have a:k=false:=e;subst a;exact truthy_none ⟨H,I,q⟩
 |bl b=>
  cases rx;have a:k=b:=e;subst a;exact Bk ⟨H,I,q⟩
 |int i=>
  obtain⟨t,rfl⟩:=rx;have a:k=(i != 0):=e;subst a;exact PySem.P.truthy_int ⟨H,I,q⟩
 |str y=>
  obtain⟨t,rfl⟩:=rx;obtain⟨n,a⟩:y.length<=sizeLine/\k=((y.length:Int) != 0):=e;subst a;exact PySem.P.truthy_str (by omega) ⟨H,I.tok _,q⟩
 |byt y=>
  obtain⟨t,rfl⟩:=rx;obtain⟨n,a⟩:y.size<=sizeLine/\k=((y.size:Int) != 0):=e;subst a;exact PySem.W.truthy_bytes (by omega) ⟨H,I.tok _,q⟩
 |ref p=>
  cases rx;have a:(∃xs,Kc X.K H p xs/\k=!xs.isEmpty)\/(∃xs,Je X.K H p xs/\k=!xs.isEmpty)\/∃c,H p=some (.dK c)/\k=!c.isEmpty:=e;rcases a with⟨xs,f,a⟩|⟨xs,f,a⟩|⟨c,f,a⟩
  ·subst a;obtain⟨j,r,pl,l⟩:=I.list f;have hlen:=r.length;exact wpAny_truthy_list pl.isList (by simp only[AA];omega) ⟨H,I.tok _,by rw[hV r];exact q⟩
  ·subst a;obtain⟨j,r,pl,l⟩:=I.tuple f;have hlen:=r.length;exact truthy_tuple pl (by simp only[AA];omega) ⟨H,I.tok _,by rw[hV r];exact q⟩
  subst a;obtain⟨l,o,g,r,m⟩:c.length<=sizeLine/\(p==sysModules)=false/\∃g,KV c g/\s.heap.DictOf (Kh X.prog X.w) p g:=I.hok p _ f;have hlen:c.length=g.length:=BM r;exact wpAny_truthy_dict o m (by omega) ⟨H,I.tok _,by rw[zkS r];exact q⟩
 |_=>exact(show False from e).elim
def eW(m:PE X a ta)(he:∀whole,isTrue a X.env whole=(do let v <-whole;standAt a.pos;holding [v] (truthy v))):
  PT X a (λσ H Q=>ta σ H λx H'=>∃k,UE X.K x H' k/\Q k H'):=by
 intro qp s σ H Q I h;exact isTrue_plain (HB (m qp s σ H _ I h) λv s1 ⟨x,H1,c,e,f⟩=>pV qp s1 σ H1 x v Q c e f)<|he _
def zj6:Kd X (binaryOp .Add) (λx y H Q=>∃i j,x=.str i/\y=.str j/\i.length+j.length<=sizeLine/\Q (.str<|i++j) H):=by intro qp s σ H x y v u Q I rx a h;obtain⟨i,j,rfl,rfl,c,q⟩:=h;obtain⟨t,rfl⟩:=rx;obtain⟨t',rfl⟩:=a;exact add_str (λt' e=>⟨.str<|i++j,H,I.tok _,⟨_,rfl⟩,q⟩) c
def vals1{x:V}(r:Vals [x] us):∃u,us=[u]/\RelV x u:=by
 cases r with
 |cons a c=>cases c;exact⟨_,rfl,a⟩
def vals2{x:V}(r:Vals [x,y] us):∃u m,us=[u,m]/\RelV x u/\RelV y m:=by
 cases r with
 |cons a c=>
  cases c with
  |cons e f=>cases f;exact⟨_,_,rfl,a,e⟩
def vO:NB X (.builtin "abs") (λxs H Q=>∃i,xs=[.int i]/\Q (.int<|if i<0 then -i else i) H):=by intro qp s σ H xs us Q I r h;obtain⟨i,rfl,q⟩:=h;obtain⟨u,rfl,t,rfl⟩:=vals1 r;exact call_abs_int λu a=>⟨.int<|if i<0 then -i else i,H,I.tok _,⟨_,rfl⟩,q⟩
def zmU(m:X.calm=true):NB X (.builtin "max") (λxs H Q=>∃i j,xs=[.int i,.int j]/\Q (.int<|if j > i then j else i) H):=by
 intro qp s σ H xs us Q I r h;obtain⟨i,j,rfl,q⟩:=h;obtain⟨u,a,rfl,⟨t,rfl⟩,⟨t',rfl⟩⟩:=vals2 r;refine max_two_ints (I.ok.hd m) λh' c k=>⟨_,H,I.kept k,?_,q⟩;by_cases hj:j > i
 ·rw[if_pos hj,if_pos hj];exact⟨_,rfl⟩
 rw[if_neg hj,if_neg hj];exact⟨_,rfl⟩
def zmS(m:X.calm=true):NB X (.builtin "min") (λxs H Q=>∃i j,xs=[.int i,.int j]/\Q (.int<|if j<i then j else i) H):=by
 intro qp s σ H xs us Q I r h;obtain⟨i,j,rfl,q⟩:=h;obtain⟨u,a,rfl,⟨t,rfl⟩,⟨t',rfl⟩⟩:=vals2 r;refine min_two_ints (I.ok.hd m) λh' c k=>⟨_,H,I.kept k,?_,q⟩;by_cases hj:j<i
 ·rw[if_pos hj,if_pos hj];exact⟨_,rfl⟩
 rw[if_neg hj,if_neg hj];exact⟨_,rfl⟩
def fF:NB X (.type "int") (λxs H Q=>(∃i,xs=[.int i]/\Q (.int i) H)\/∃k,xs=[.bl k]/\Q (.int<|if k then 1 else 0) H):=by
 intro qp s σ H xs us Q I r h;rcases h with⟨i,rfl,q⟩|⟨k,rfl,q⟩
 ·obtain⟨u,rfl,t,rfl⟩:=vals1 r;exact call_int_int ⟨.int i,H,I,⟨_,rfl⟩,q⟩
 obtain⟨u,rfl,a⟩:=vals1 r;cases a;exact call_int_bool ⟨.int<|if k then 1 else 0,H,I.tok _,⟨_,rfl⟩,q⟩
def zhR:NB X (.type "str") (λxs H Q=>∃i,xs=[.int i]/\i.natAbs.log2<1920/\Q (.str<|toString i) H):=by intro qp s σ H xs us Q I r h;obtain⟨i,rfl,a,q⟩:=h;obtain⟨u,rfl,t,rfl⟩:=vals1 r;exact PySem.P.str_of_int a ⟨.str _,H,I.tok _,⟨_,rfl⟩,q⟩
end
variable {dx:KB}
def fO{m:Str->Option IR}(n:h.Ns1 dx m):∃B,h.get? dx=some B/\∀name,Gs name B=some (m name):=by
 obtain⟨o,es,j,f,hd,hk,_,hm⟩:=n;refine⟨o,f,λname=>?_⟩;have e:=hm name;unfold nsFind findBy at e;rw[<-Array.find?_toList]at e;unfold Gs;rw[hd];dsimp only;split
 ·rename_i y q;rw[q]at e;exact congrArg some e
 ·rename_i q;rw[q]at e;have a:es.toList.any (·.refKey)=false:=by
   rw[List.any_eq_false];intro y g;obtain⟨z,t,c⟩:=hk y<|Array.mem_toList_iff.mp g;simp[DictEntry.refKey,c]
  have i:¬es.toList.any (·.refKey)=true:=by rw[a];exact A6
  rw[if_neg i];exact congrArg some e
def KI.some_of{o:Option IR}(r:KI (some v) o):∃u,o=some u/\RelV v u:=by
 cases o with
 |none=>exact(show False from r).elim
 |some u=>exact⟨u,rfl,r⟩
variable {C:KB}{prog:P3}{env:Env}
section
variable {fs:List (Str×V)} {f:Str}
def sM{f:Str}(m:attributeBase e f env (eval e env)=eval e env)(h:wpAny (KF prog w) A (eval e env) (λo s₁=>wpAny (KF prog w) A (getAttr o f true) Q E s₁) E s):wpAny (KF prog w) A (eval (.Attribute e f pos) env) Q E s:=
 Attribute_any_ h (by rw[arm_eval_Attribute,m])
end
structure HP(k:Nat)(A:Around):Prop where
 hd:A.handled=none
 dp:A.depth+3*k+5<recursionLimit
 un:A.units+16*k+200<cLine
 gd:A.guards=some []
def HP.mono{k:Nat}(r:HP k A)(h:j<=k):HP j A:=⟨r.hd,by have:=r.dp;omega,by have:=r.un;omega,r.gd⟩
def HP.deeper{k:Nat}{A:Around}(r:HP (k+1) A)(env:Env):HP k (A.deeper env):=⟨r.hd,by have:=r.dp;show A.depth+1+3*k+5<_;omega,by have:=r.un;show A.units+3+16*k+200<_;omega,r.gd⟩
variable {kw:List (Str×IR)}
def zkq:(A.under<|.builtin "type.__call__" ⟨.ref C::us,kw⟩).depth=A.depth+1:=by first|rfl|simp[D8,Code.weight,Code.isCreation,GI,Code.isCaller,Code.frames,Fv,guardIds]
def zkp:(A.under<|.builtin "type.__call__" ⟨.ref C::us,kw⟩).units=A.units+1:=by first|rfl|simp[D8,Code.cUnits,Code.frames,Fv]
def zi2:(A.under<|.builtin "type.__call__" ⟨.ref C::us,kw⟩).guards=A.guards:=by
 have h:(Code.builtin "type.__call__" ⟨.ref C::us,kw⟩).guards=[]:=by first|rfl|simp[Code.guards,GI,guardIds]
 dsimp only[D8];rw[h];cases A.guards<;>rfl
def HP.make{k:Nat}(r:HP (k+1) A)(C:KB)(us:List IR)(kw:List (Str×IR)):HP k (A.under<|.builtin "type.__call__" ⟨.ref C::us,kw⟩):=⟨r.hd,by have:=r.dp;rw[zkq];omega,by have:=r.un;rw[zkp];omega,by rw[zi2];exact r.gd⟩
def HP.depth{k:Nat}{A:Around}(r:HP k A):A.depth<recursionLimit:=by have:=r.dp;omega
def HP.units{k:Nat}{A:Around}(r:HP k A):A.units+64<cLine:=by have:=r.un;omega
def Zb:TA:=λ_ H Q=>Q [] H
def kS(ta:TE)(m:TA):TA:=λσ H Q=>ta σ H λx H1=>m σ H1 λxs a=>Q (x::xs) a
section
variable {t:TA}
def aQ:PA X [] Zb:=λ_ _ _ _ H Q I h=>FN ⟨[],H,I,.nil,h⟩
def Xw(m:PE X e te)(q:PA X es t)(z:Qqb X.env e es:=by rfl):PA X (e::es) (kS te t):=by intro pos qp s σ H Q I h;rw[z];show wpAny _ _ (spliced ((false,eval e X.env)::backTo pos (starEach es X.env))) _ _ s;refine DM<|HB (m qp s σ H _ I h) ?_;rintro u s1 ⟨x,H1,a,c,f⟩;exact HB (q pos qp s1 σ H1 _ a f) λus s2 ⟨xs,g,i,j,l⟩=>⟨x::xs,g,i,.cons c j,l⟩
def Y5(t:TA):TE:=λσ H Q=>t σ H λxs H1=>xs.length<=sizeLine/\∀p,H1 p=none->Q (.ref p) (upd H1 p<|.tup xs)
def Zc(t:TA):TE:=λσ H Q=>t σ H λxs H1=>xs.length<=sizeLine/\∀p,H1 p=none->Q (.ref p) (upd H1 p<|.lst xs)
def qD{x1}(h:PA X es t):PE X (.Tuple es x1 pos) (Y5 t):=by intro qp s σ H Q I a;refine Fk<|HB (h pos qp s σ H _ I a) λus s1 ⟨xs,H1,I1,r,z,q⟩=>⟨by rw[<-r.length];exact z,?_⟩;have hf:H1 s1.heap.objs.size=none:=I1.hok.fresh<|Ai _;refine⟨.ref s1.heap.objs.size,upd H1 s1.heap.objs.size<|.tup xs,I1.laid (t':=s1.toks) (λb u e=>Ag _ e) (Ai _) ?_,rfl,q _ hf⟩;exact⟨z,us,r,⟨_,Av _ rfl,rfl,rfl,_,rfl⟩⟩
def rK(h:PA X es t):PE X (.List es pos) (Zc t):=by intro qp s σ H Q I a;refine wpAny_List_spliced<|HB (h pos qp s σ H _ I a) λus s1 ⟨xs,H1,I1,r,z,q⟩=>⟨by rw[<-r.length];exact z,?_⟩;have hf:H1 s1.heap.objs.size=none:=I1.hok.fresh<|Ai _;refine⟨.ref s1.heap.objs.size,upd H1 s1.heap.objs.size<|.lst xs,I1.laid (t':=s1.toks) (λb u e=>Ag _ e) (Ai _) ?_,rfl,q _ hf⟩;exact⟨z,us,0,r,Av _ rfl⟩
end
noncomputable abbrev Sp:=List V->Hp->VK->XK->Prop
noncomputable abbrev NR:=List Env->Hp->Shared->XK->Qqa
structure MW(P:P3)(w:UF)(K:Ac)(mg:Str->Option IR)(base:Pv)(A:Around)(outer:List Env)(s:Shared)(H:Hp):Prop where
 frames:A.frames=some outer
 mod:Mod K mg base
 bs:∀b o,base.get? b=some o->s.heap.get? b=some o/\H b=none
 bsz:base.objs.size<=s.heap.objs.size
 funs:s.heap.FunFrames base outer
 frf:∀b∈MJ outer,H b=none
 hok:JX P w H s.heap
 bare:AllBare s.gens
def CE(outer:List Env)(P:P3)(w:UF)(H:Hp)(s:Shared)(Q:VK)(u:IR)(s':Shared):Prop:=∃v H',s'.os=s.os/\AllBare s'.gens/\Un (MJ outer) [] H H' s.heap s'.heap/\JX P w H' s'.heap/\RelV v u/\Q v H'
def CR(CX:NR)(outer:List Env)(P:P3)(w:UF)(H:Hp)(s:Shared)(Q:VK)(E:XK)(r:Result)(s':Shared):Prop:=
 match r with
 |.ok (.ret u)=>CE outer P w H s Q u s'
 |.ok _=>False
 |.error e=>CX outer H s E e s'
structure Ja(P:P3)(w:UF)(K:Ac)(mg:Str->Option IR)(base:Pv)(CX:NR)(k:Nat)(f:KB)(fd:FuncData)(ps:List Str)(sp:Sp):Prop where
 len:∀vs H Q E,sp vs H Q E->vs.length=ps.length
 run:∀(A:Around) (outer:List Env) (s:Shared) (H:Hp) (args:Args) (us:List IR) (vs:List V) (Q:VK) (E:XK),HP k A->MW P w K mg base A outer s H->BindsTo s fd args (ps.zip us)->Vals vs us->sp vs H Q E ->
  codeAny (KF P w) A (.call (.ref f) args) (CR CX outer P w H s Q E) s
variable {mg:Str->Option IR}{base:Pv}{CX:NR}{fd:FuncData}{ps:List Str}{sp:Sp}
def Ja.mono{P:P3}{w:UF}{K:Ac}{mg:Str->Option IR}{base:Pv}{CX:NR}{j k:Nat}{f:KB}{fd:FuncData}{ps:List Str}{sp:Sp}(F:Ja P w K mg base CX j f fd ps sp)(h:j<=k):
  Ja P w K mg base CX k f fd ps sp:=⟨F.len,λA outer s H args us a Q E c=>F.run A outer s H args us a Q E (c.mono h)⟩
variable {outer:List Env}
def MW.make(e:MW P w K mg base A outer s H)(C:KB)(us:List IR)(kw:List (Str×IR)):
  MW P w K mg base (A.under<|.builtin "type.__call__" ⟨.ref C::us,kw⟩) outer s H:=⟨by first|exact e.frames|(simpa[D8,Code.envs,Fv,pushEnvs]using e.frames),e.mod,e.bs,e.bsz,e.funs,e.frf,e.hok,e.bare⟩
def Inv.env0(I:Inv X qp σ H s):MW X.prog X.w X.K X.mg X.base X.A X.stack s H:=⟨I.ok.frames,I.ok.mod,I.bs,Ar I.ok.bsz I.sz,I.stack,I.stkFree,I.hok,I.bare⟩
def Inv.after{Q:VK}(I:Inv X qp σ H s)(h:CE X.stack X.prog X.w H s Q u s'):EP X qp σ Q u s':=by obtain⟨v,H',os,bare,un,a,r,q⟩:=h;obtain⟨e,g,d,t,c⟩:=s';obtain rfl:c=s.os:=os;exact⟨v,H',I.call (h':=e) (g':=g) (d':=d) (t':=t) (ch:=[]) un a bare λb z=>absurd z (by simp),r,q⟩
def kR(sp:Sp)(m:List V)(E:XK)(t:TA):TE:=λσ H Q=>t σ H λa H1=>sp (a++m) H1 Q E
def Binds(K:Ac)(fd:FuncData)(ps:List Str)(ds:List IR):Prop:=∀(s:Shared) (us:List IR),K.In s.heap->(us++ds).length=ps.length->BindsTo s fd ⟨us,[]⟩ (ps.zip<|us++ds)
def Binds.all(h:∀us:List IR,us.length=ps.length->bindArgs fd ⟨us,[]⟩=pure (ps.zip us)):Binds K fd ps []:=λs us _ a=>by rw[Am]at a ⊢;exact .of_eq<|h us a
def Passes(CX:NR)(X:Cx)(E:XK):Prop:=∀(qp:List (KB×Obj)) (σ:St) (H:Hp) (s:Shared) (e:IR) (s':Shared),Inv X qp σ H s->CX X.stack H s E e s'->X.xe e s'
section
variable {k:Nat}{f:KB}{dvs:List V}{ds:List IR}{E:XK}{m:Str}{apos:Pos}{o:Re}{t:TA}
def aL{Q:VK}{q:List V}(F:Ja X.prog X.w X.K X.mg X.base CX k f fd ps sp)(z:HP k X.A)(B:Binds X.K fd ps ds)(hd:Vals dvs ds)(G:Passes CX X E)(I:Inv X qp σ H s) (r:Vals q us) (h:sp (q++dvs) H Q E):wpAny (KF X.prog X.w) X.A (call (.ref f) us) (EP X qp σ Q) X.xe s:=by
 have c:Vals (q++dvs) (us++ds):=r.append hd;have g:(us++ds).length=ps.length:=by rw[<-c.length];exact F.len _ _ _ _ h
 refine D5<|Du (F.run X.A X.stack s H ⟨us,[]⟩ (us++ds) (q++dvs) Q E z I.env0 (B s us I.kIn g) c h) λr s' a=>?_
 cases r with
 |error e=>exact G qp σ H s e s' I a
 |ok i=>
  cases i with
  |ret u=>exact I.after a
  |next=>exact False.elim a
  |brk=>exact False.elim a
  |cont=>exact False.elim a
def bX(F:Ja X.prog X.w X.K X.mg X.base CX k f fd ps sp)(G:HP k X.A)(J:Gl X x)(hm:X.mg x=some (.ref f))(hk:BF X.K (.ref f)=true)(S:Binds X.K fd ps ds)(hd:Vals dvs ds)(T:Passes CX X E)(U:PA X (e::es) t) (z:(x==("__debug__":Str))=false:=by decide) (he:Qqb X.env e es:=by rfl) (B:Qqc pos es X.env:=by rfl):
  PE X (.Call (.Name x p) (e::es) [] pos) (kR sp dvs E t):=by
 intro qp s σ H Q I h;refine BS<|Vj I J hm ?_ z;refine DN (h₀:=X.base) I.ok.mod.kin hk (HB (U pos qp s σ H _ I h) λus s1 ⟨a,H1,I1,r,q⟩=>⟨I1.kIn,?_⟩) he B;exact aL F G S hd T I1 r q
end
structure IQ(N P:List Str)(sc:Scope):Prop where
 kind:sc.kind=.function
 co:sc.isCoroutine=false
 gen:sc.isGenerator=false
 nd:N.Nodup
 pre:N.take P.length=P
 par:∀x∈P,sc.names.lookup x=some .local\/sc.names.lookup x=some .cell
 nofree:∀y∈sc.names,y.2≠.free
variable {kindOf:Str->Option NameKind}
def fD{kindOf:Str->Option NameKind}{x:Str}:∀{binds:List (Str×IR)} {m:Str->Option IR},(∀v,(x,v)∉binds)->bindL kindOf binds m x=m x
 |[],_,_=>rfl
 |(n,v)::r,m,h=>by
  unfold bindL;rw[fD λw hw=>h w (Aj _ hw)];split
  ·have:x≠n:=by rintro rfl;exact h v Al
   simp[this]
  rfl
def gA{kindOf:Str->Option NameKind}{x:Str}:∀{binds:List (Str×IR)} {m:Str->Option IR},(∀v,(x,v)∉binds)->bindC kindOf binds m x=m x
 |[],_,_=>rfl
 |(n,v)::r,m,h=>by
  unfold bindC;rw[gA λw hw=>h w (Aj _ hw)];split
  ·rfl
  ·have:x≠n:=by rintro rfl;exact h v Al
   simp[this]
def fC{kindOf:Str->Option NameKind}{x:Str}{v:IR}:∀{P:List Str}{q:List IR}{i:Nat}{m:Str->Option IR},P.Nodup->P[i]?=some x->q[i]?=some v->kindOf x=some .local ->
  bindL kindOf (P.zip q) m x=some v
 |[],_,_,_,_,h,_,_=>by simp at h
 |_::_,[],_,_,_,_,h,_=>by simp at h
 |p::P,w::q,0,m,F,z,B,hk=>by simp at z B;subst z;subst B;show bindL kindOf ((p,w)::P.zip q) m p=_;unfold bindL;rw[fD λv G=>(List.nodup_cons.mp F).1 (Es G).1,if_pos hk];simp
 |p::P,w::q,i+1,m,F,z,B,hk=>by show bindL kindOf ((p,w)::P.zip q) m x=_;unfold bindL;exact fC (i:=i) (List.nodup_cons.mp F).2 (by simpa using z) (by simpa using B) hk
def fZ{kindOf:Str->Option NameKind}{x:Str}{v:IR}:∀{P:List Str}{q:List IR}{i:Nat}{m:Str->Option IR},P.Nodup->P[i]?=some x->q[i]?=some v->kindOf x≠some .local ->
  bindC kindOf (P.zip q) m x=some v
 |[],_,_,_,_,h,_,_=>by simp at h
 |_::_,[],_,_,_,_,h,_=>by simp at h
 |p::P,w::q,0,m,F,z,B,hk=>by simp at z B;subst z;subst B;show bindC kindOf ((p,w)::P.zip q) m p=_;unfold bindC;rw[gA λv G=>(List.nodup_cons.mp F).1 (Es G).1,if_neg hk];simp
 |p::P,w::q,i+1,m,F,z,B,hk=>by show bindC kindOf ((p,w)::P.zip q) m x=_;unfold bindC;exact fZ (i:=i) (List.nodup_cons.mp F).2 (by simpa using z) (by simpa using B) hk
def start(N:List Str)(m:List V):St:=m.map some++Br (N.length-m.length) none
def HM(CX:NR)(P:P3)(w:UF)(K:Ac)(mg:Str->Option IR)(base:Pv)(N:List Str)(qual:Str)(scope:Scope)(f:KB)(cd:IR)(A:Around)(outer:List Env)(s:Shared)(H:Hp)(E:XK):Cx where
 prog:=P
 w:=w
 K:=K
 mg:=mg
 base:=base
 A:=A.deeper (envOfC qual scope s.heap.objs.size f cd)
 N:=N
 s₀:=s
 H₀:=H
 env:=envOfC qual scope s.heap.objs.size f cd
 outer:=outer
 stack:=envOfC qual scope s.heap.objs.size f cd::outer
 ex:=[]
 calm:=true
 fn:=λ_=>true
 pn:=[]
 xe:=λe s'=>wpAny (KF P w) (A.deeper<|envOfC qual scope s.heap.objs.size f cd) (leaving (envOfC qual scope s.heap.objs.size f cd) e) (λ_ a=>CX outer H s E e a) (λc a=>CX outer H s E c a) s'
def cX{sc:Scope}(h:sc.names.lookup x=some .cell):∃c,(cellsFrom n sc.names []).lookup x=some c:=by have q:=EB sc.names n []<|.inl h;exact Option.isSome_iff_exists.mp q
variable {qual:Str}{scope:Scope}
def zmA{f:KB}{cd:IR}{s1:Shared}{E:XK}{B:List V}(S:IQ N ps scope) (hd:A.handled=none) (m:MW P w K mg base A outer s H) (G:B.length=ps.length) (r:Vals B us)(x:InCallC s s.heap.objs.size (bindL (envOfC qual scope s.heap.objs.size f cd).kindOf (ps.zip us) λ_=>none) (cellsFrom (s.heap.objs.size+1) scope.names []) (bindC (envOfC qual scope s.heap.objs.size f cd).kindOf (ps.zip us) λ_=>none) s1):
  Inv (HM CX P w K mg base N qual scope f cd A outer s H E) [] (start N B) H s1:=by
 have Q:ps.length<=N.length:=by have:=congrArg De S.pre;rw[Ba]at this;omega
 obtain⟨C,I,rfl,hk⟩:=x.done;have j:∀b:KB,b∉(HM CX P w K mg base N qual scope f cd A outer s H E).ex:=λb z=>absurd (show b∈([]:List KB) from z) (by simp);refine⟨⟨m.mod,S.kind,rfl,rfl,Ai _,λy z c C g=>?_,λy hy=>?_,λy c _ h=>?_,λ_=>hd,Around.frames_deeper m.frames,.inr ⟨rfl,rfl⟩,λb z=>absurd z (j b),m.bs,m.bsz,λb _ _=>j b,λb z=>absurd z (j b),m.funs,m.frf⟩,
  rfl,m.bare,Un.kept hk,⟨_,x.toInCall.ns,λi y v C g J=>?_⟩,λy c h=>⟨_,x.cell y c h⟩,m.hok.fresh (Ai _),λy c h=>?_,λp l=>absurd (show p∈([]:List (KB×Obj)) from l) (by simp),m.hok.kept hk,?_⟩
 ·exact name_of_addr x.apart (AS C)<|AS g
 ·have hy:scope.names.lookup y=some .cell\/scope.names.lookup y=some .free:=hy
  rcases hy with hy|hy
  ·exact cX hy
  exact absurd rfl<|S.nofree _<|AS hy
 ·exact B7<|x.above y c<|AS h
 ·have L:i<B.length:=by
   unfold start at g;by_cases L:i<B.length
   ·exact L
   ·rw[AX (by simpa using L)]at g;rw[Cc]at g
    split at g<;>cases g
  have X:B[i]?=some v:=by
   unfold start at g;rw[AL (by simpa using L),AJ]at g
   cases e:B[i]? with
   |none=>rw[e]at g;cases g
   |some a=>rw[e]at g;cases g;rfl
  obtain⟨u,M,F⟩:=r.get X;have l:ps[i]?=some y:=by rw[<-S.pre,List.getElem?_take_of_lt (by omega)];exact C
  have o:ps.Nodup:=by rw[<-S.pre];exact S.nd.sublist<|List.take_sublist _ _
  refine⟨u,F,?_⟩;rcases S.par y (AD l)with k|k
  ·exact .inl ⟨k,fC o l M k⟩
  obtain⟨c,e⟩:=cX (n:=s.heap.objs.size+1) k;refine .inr ⟨.inl k,c,e,?_⟩;have q:=x.cell y c e;rw[fZ o l M (by show scope.names.lookup y≠_;rw[k];decide)]at q;exact q
 ·exact m.hok.fresh<|B7<|x.above y c<|AS h
 unfold start;show _=N.length;rw[AI,Ah,Cv];omega
def Z9{k:Nat}{f:KB}{name qual:Str}{params:Arguments}{body:List W1}{scope:Scope}{T kV doc pm m U Y:IR}{an Z:Option KB}{F:Array (Option IR)}   (lk:K.lookup f=some ⟨Y,Z,.func<|BU name qual params body scope T kV doc pm an m U,F⟩) (G:C5 K m qual=true) (S:IQ N ps scope)(len:∀z H Q E,sp z H Q E->z.length=ps.length)(B:∀(A:Around) (outer:List Env) (s:Shared) (H:Hp) (z:List V) (Q:VK) (E:XK),HP k (A.deeper<|envOfC qual scope s.heap.objs.size f m)->sp z H Q E ->
   ∃t,K4 (HM CX P w K mg base N qual scope f m A outer s H E) body t/\t {nx:=λ_ H'=>Q .non H',rt:=Q} (start N z) H):
  Ja P w K mg base CX (k+1) f (BU name qual params body scope T kV doc pm an m U) ps sp:=by
 refine⟨len,λA outer s H args us z Q E i g hb r h=>?_⟩;have C:=len _ _ _ _ h;have l:K.In s.heap:=g.mod.kin.keeps λb o e=>(g.bs b o e).1;have lim:s.heap.NoLimit:=g.mod.nolimit.keeps λb o e=>(g.bs b o e).1;have a:∀y∈ps.zip us,scope.names.lookup y.1=some .local\/(scope.names.lookup y.1=some .cell/\((cellsFrom (s.heap.objs.size+1) scope.names []).lookup y.1).isSome=true):=by
  rintro⟨n,v⟩ L;rcases S.par n (Es L).1 with q|q
  ·exact .inl q
  exact .inr ⟨q,EB _ _ _<|.inl q⟩
 refine codeAny_call_function i.depth (l _ _ lk) rfl S.co S.gen rfl (PySem.W.codeRec_of l G)<|hb _ _ _ _ ?_;refine wpAny_newFunctionEnv_cells S.kind a λenv he s1 x=>?_;subst he;refine⟨lim.keeps x.toInCall.keep,codeAny_func ?_⟩;obtain⟨t,M,X⟩:=B A outer s H z Q E (i.deeper _) h;have I:Inv (HM CX P w K mg base N qual scope f m A outer s H E) [] (start N z) H s1:=zmA S i.hd g C r x;refine AZ (M [] s1 (start N z) H _ I X) (λfl s' c=>?_) λe s' c=>c;have fin:∀{σ':St}{H':Hp}{v:V}{u:IR},Inv (HM CX P w K mg base N qual scope f m A outer s H E) [] σ' H' s'->RelV v u->Q v H'->CE outer P w H s Q u s':=
  λ{σ' H' v u} J j q=>⟨v,H',J.os,J.bare,J.base,J.hok,j,q⟩
 cases fl with
 |ret u=>
  obtain⟨v,σ',H',J,j,q⟩:=c;exact fin J j q
 |next=>
  obtain⟨σ',H',J,q⟩:=c;exact fin (v:=V.non) (u:=AH) J rfl q
 |brk=>
  obtain⟨_,_,_,q⟩:=c;exact False.elim q
 |cont=>
  obtain⟨_,_,_,q⟩:=c;exact False.elim q
variable {id T:String}
section
variable {t:TA}{r:List V->Hp->VK->Prop}
def Zh(r:List V->Hp->VK->Prop)(t:TA):TE:=λσ H Q=>t σ H λa H1=>r a H1 Q
def eU(z:NB X (.builtin id) r)(B:Gl X x)(hm:X.mg x=none)(F:bootBuiltins x=some (.builtin id))(G:PA X (e::es) t)(J:x≠"__name__":=by decide)(m:(x==("__debug__":Str))=false:=by decide)(he:Qqb X.env e es:=by rfl) (q:Qqc pos es X.env:=by rfl):PE X (.Call (.Name x p) (e::es) [] pos) (Zh r t):=by
 intro qp s σ H Q I h;refine BS<|S0 I B hm F ?_ J m;exact PyProof.Rows.callWith_builtin1 (HB (G pos qp s σ H _ I h) λus s1 ⟨a,H1,c,f,g⟩=>z qp s1 σ H1 a us Q c f g) he q
def zma(z:NB X (.type T) r)(B:Gl X x)(hm:X.mg x=none)(F:bootBuiltins x=some (.type T))(G:PA X (e::es) t)(J:x≠"__name__":=by decide)(m:(x==("__debug__":Str))=false:=by decide)(he:Qqb X.env e es:=by rfl) (q:Qqc pos es X.env:=by rfl):PE X (.Call (.Name x p) (e::es) [] pos) (Zh r t):=by
 intro qp s σ H Q I h;refine BS<|S0 I B hm F ?_ J m;exact CB (HB (G pos qp s σ H _ I h) λus s1 ⟨a,H1,c,f,g⟩=>z qp s1 σ H1 a us Q c f g) he q
end
section
variable [DecidableEq κ]
def JZ(kvs:List (κ×V))(k:κ):Option V:=(kvs.find? λa=>decide (a.1=k)).map (·.2)
def putK(kvs:List (κ×V))(k:κ)(v:V):List (κ×V):=if(kvs.any λa=>decide (a.1=k))=true then kvs.map (λa=>if a.1=k then(a.1,v)else a)else kvs++[(k,v)]
def XT{p:κ×V}{r:List (κ×V)}{k:κ}(e:p.1=k):JZ (p::r) k=some p.2:=by simp[JZ,Bi,e]
def XS{p:κ×V}{r:List (κ×V)}{k:κ}(e:¬p.1=k):JZ (p::r) k=JZ r k:=by simp[JZ,Bi,e]
def eJ(k:κ):∀kvs:List (κ×V),(kvs.any λm=>decide (m.1=k))=(JZ kvs k).isSome
 |[]=>rfl
 |p::r=>by
  rw[Cj];by_cases e:p.1=k
  ·simp only[XT e,decide_eq_true e,GJ,Fw]
  rw[XS e,decide_eq_false e,GB];exact eJ k r
def YB(kvs:List (κ×V))(k:κ)(v:V):(putK kvs k v).length<=kvs.length+1:=by
 unfold putK;split
 ·rw[Ah];omega
 rw[AI,AB,A2];omega
def KI.isSome_eq{o:Option V}{u:Option IR}(r:KI o u):o.isSome=u.isSome:=by
 cases o with
 |none=>cases u with
  |none=>rfl
  |some _=>exact(show False from r).elim
 |some _=>cases u with
  |none=>exact(show False from r).elim
  |some _=>rfl
def KV.val{kvs:List (κ×V)}{m:List (κ×IR)}(r:KV kvs m)(k:κ):KI (JZ kvs k) (valueAt m k):=by
 unfold KV at r
 induction r with
 |nil=>exact C6
 |@cons p q ps a h t f=>
  obtain⟨h1,g⟩:=h;by_cases e:p.1=k
  ·have c:q.1=k:=h1.symm.trans e;have b:valueAt (q::a) k=some q.2:=by simp[valueAt,Bi,c]
   rw[XT e,b];exact g
  ·have c:¬q.1=k:=λz=>e<|h1.trans z;have b:valueAt (q::a) k=valueAt a k:=by simp[valueAt,Bi,c]
   rw[XS e,b];exact f
def KV.any{kvs:List (κ×V)}{q:List (κ×IR)}(r:KV kvs q)(k:κ):(kvs.any λm=>decide (m.1=k))=q.any λm=>decide (m.1=k):=by
 unfold KV at r
 induction r with
 |nil=>rfl
 |cons h t a=>rw[Cj,Cj,a,h.1]
def KV.repl{kvs:List (κ×V)}{B:List (κ×IR)}(r:KV kvs B)(k:κ)(F:RelV y u):
  KV (kvs.map λm=>if m.1=k then(m.1,y)else m) (B.map λm=>if m.1=k then(m.1,u)else m):=by
 unfold KV at r ⊢
 induction r with
 |nil=>exact .nil
 |@cons p q ps g h t c=>
  rw[Ax,Ax];refine .cons ?_ c;obtain⟨a,f⟩:=h;by_cases e:p.1=k
  ·rw[if_pos e,if_pos (a.symm.trans e)];exact⟨a,F⟩
  rw[if_neg e,if_neg (λz=>e (a.trans z))];exact⟨a,f⟩
def KV.put{kvs:List (κ×V)}{m:List (κ×IR)}(r:KV kvs m)(k:κ)(q:RelV y u):KV (putK kvs k y) (stored m k u):=by
 unfold putK stored;rw[r.any k];by_cases e:(m.any λa=>decide (a.1=k))=true
 ·rw[if_pos e,if_pos e];exact r.repl k q
 rw[if_neg e,if_neg e];exact GP r ⟨rfl,q⟩
def KV.length{kvs:List (κ×V)}{m:List (κ×IR)}(r:KV kvs m):kvs.length=m.length:=BM r
end
def RC{k:Key}(r:RelV (kV k) u):(Kh P w).is k u=true:=by
 cases k with
 |inl i=>obtain⟨t,e⟩:=(show ∃t,u=Er i t from r);subst e;exact zi1 P w i t
 |inr x=>obtain⟨t,e⟩:=(show ∃t,u=Gz x t from r);subst e;exact zi0 P w x t
def fJ{P:P3}{w:UF}:∀{ks:List Key}{us:List IR},Vals (ks.map kV) us->ItemsAre (Kh P w) ks us
 |[],_,r=>by rw[B8]at r;cases r;exact .nil
 |k::ks,_,r=>by
  rw[Ax]at r;cases r with
  |cons h t=>exact .cons (RC h)<|fJ t
noncomputable abbrev KT (H:Hp):List (List Key×V)->List (List Key×KB×IR)->Prop:=Paired λp q=>p.1=q.1/\H q.2.1=some (.tup<|p.1.map kV)/\RelV p.2 q.2.2
variable {xs:List (List Key×KB×IR)}{kvs:List (List Key×V)}
def KT.val(r:KT H kvs xs)(k:List Key):KI (JZ kvs k) ((atKey xs k).map (·.2)):=by
 induction r with
 |nil=>exact C6
 |@cons p q ps a h t f=>
  obtain⟨h1,_,g⟩:=h;by_cases e:p.1=k
  ·have c:q.1=k:=h1.symm.trans e;have b:atKey (q::a) k=some q.2:=by simp[atKey,Bi,c]
   rw[XT e,b];exact g
  ·have c:¬q.1=k:=λz=>e<|h1.trans z;have b:atKey (q::a) k=atKey a k:=by simp[atKey,Bi,c]
   rw[XS e,b];exact f
def KT.repl(r:KT H kvs xs)(k:List Key)(B:RelV y u):
  KT H (kvs.map λm=>if m.1=k then(m.1,y)else m) (xs.map<|putAt k u):=by
 induction r with
 |nil=>exact .nil
 |@cons p q ps i h t f=>
  rw[Ax,Ax];refine .cons ?_ f;obtain⟨a,c,g⟩:=h;unfold putAt;by_cases e:p.1=k
  ·rw[if_pos e,if_pos (a.symm.trans e)];exact⟨a,c,B⟩
  rw[if_neg e,if_neg (λz=>e (a.trans z))];exact⟨a,c,g⟩
def KT.put(r:KT H kvs xs)(k:List Key)(z:H b=some (.tup<|k.map kV))(m:RelV y u):
  KT H (putK kvs k y) (storedH xs k b u):=by
 have e:(kvs.any λa=>decide (a.1=k))=(atKey xs k).isSome:=by rw[eJ,(r.val k).isSome_eq,DZ]
 unfold putK storedH;rw[e];by_cases q:(atKey xs k).isSome=true
 ·rw[if_pos q,if_pos q];exact r.repl k m
 rw[if_neg q,if_neg q];exact GP r ⟨rfl,z,m⟩
def KT.keeps(r:KT H kvs xs)(q:∀b m,H b=some (.tup m)->H' b=some (.tup m)):KT H' kvs xs:=Paired.mapP r λ_ _ z=>⟨z.1,q _ _ z.2.1,z.2.2⟩
def aA{u:HO}(ok:JX P w H h)(e:Rd H a u):Kx P w H h a u:=e.ok ok
def Rz{kvs:List (Key×V)}(ok:JX P w H h)(e:Rd H a (.dK kvs)):kvs.length<=sizeLine/\(a==sysModules)=false/\∃m,KV kvs m/\h.DictOf (Kh P w) a m:=show Kx P w H h a (.dK kvs) from aA ok e
def kG{kvs:List (Key×V)}(ok:JX P w H h)(e:H a=some (.dK kvs)):kvs.length<=sizeLine/\(a==sysModules)=false/\∃m,KV kvs m/\h.DictOf (Kh P w) a m:=Rz ok<|.inl e
def SY{ks:List Key}(ok:JX P w H h)(e:H a=some (.tup<|ks.map kV)):(tupleKind<|Kh P w).is h ks a:=by
 obtain⟨_,c,r,o,f,g,_,n,i⟩:=(show Kx P w H h a (.tup<|ks.map kV) from ok a _ e)
 exact⟨o,c.toArray,n,f,g,i,by simpa using fJ r⟩
def RA(ok:JX P w H h)(e:Rd H a (.dT kvs)):kvs.length<=sizeLine/\(a==sysModules)=false /\
  ∃xs,KT H kvs xs/\h.DictOfH (tupleKind<|Kh P w) a xs:=by
 obtain⟨z,y,xs,r,o,es,f,g,i,j,n,s⟩:=(show Kx P w H h a (.dT kvs) from aA ok e)
 refine⟨z,y,xs,r,o,es,f,g,i,j,n,λx hx=>?_,s⟩;have all:∀{l:List (List Key×V)} {m:List (List Key×KB×IR)},KT H l m->∀x∈m,(tupleKind<|Kh P w).is h x.1 x.2.1:=by
  intro l m q
  induction q with
  |nil=>intro x hx;exact nomatch hx
  |@cons p q ps v c t u=>
   intro x hx;rcases On.mp hx with e|hx
   ·subst e;exact SY ok (by rw[<-c.1];exact c.2.1)
   exact u x hx
 exact all r x hx
def kI(ok:JX P w H h)(e:H a=some (.dT kvs)):kvs.length<=sizeLine/\(a==sysModules)=false /\
  ∃xs,KT H kvs xs/\h.DictOfH (tupleKind<|Kh P w) a xs:=RA ok (.inl e)
def J6(H:Hp)(a:KB)(y:V)(r:Option V):Prop:=(∃kvs k,Rd H a (.dK kvs)/\y=kV k/\r=JZ kvs k)\/∃kvs k b,Rd H a (.dT kvs)/\y=.ref b/\H b=some (.tup<|k.map kV)/\r=JZ kvs k
def LD(H:Hp)(a:KB)(y v:V)(H':Hp):Prop:=
 (∃kvs k,H a=some (.dK kvs)/\y=kV k/\kvs.length<sizeLine/\H'=upd H a (.dK<|putK kvs k v)) \/
 ∃kvs k b,H a=some (.dT kvs)/\y=.ref b/\H b=some (.tup<|k.map kV)/\kvs.length<sizeLine/\H'=upd H a (.dT<|putK kvs k v)
def J6.k{H:Hp}{a:KB}{kvs:List (Key×V)}{k:Key}(e:H a=some (.dK kvs)):J6 H a (kV k) (JZ kvs k):=.inl ⟨kvs,k,.inl e,rfl,rfl⟩
def J6.t{k:List Key}(e:H a=some (.dT kvs))(m:H b=some (.tup<|k.map kV)):J6 H a (.ref b) (JZ kvs k):=.inr ⟨kvs,k,b,.inl e,rfl,m,rfl⟩
def LD.k{H:Hp}{a:KB}{kvs:List (Key×V)}{k:Key}{v:V}(e:H a=some (.dK kvs))(m:kvs.length<sizeLine):LD H a (kV k) v (upd H a<|.dK<|putK kvs k v):=.inl ⟨kvs,k,e,rfl,m,rfl⟩
def LD.t{k:List Key}(e:H a=some (.dT kvs))(m:H b=some (.tup<|k.map kV))(q:kvs.length<sizeLine):
  LD H a (.ref b) v (upd H a<|.dT<|putK kvs k v):=.inr ⟨kvs,k,b,e,rfl,m,q,rfl⟩
section
variable {r:IR}{o:Option V}
def Inv.big(I:Inv X qp σ H s):sysModules<s.heap.objs.size:=by have h:mainGlobals<s.heap.objs.size:=(I.mod.glob.keeps I.bk).lt;exact Cw (by decide) h
def zmN(B:A.units+1<cLine)(I:Inv X qp σ H s)(g:J6 H a y (some v))(q:RelV y u)(h:∀m s',Inv X qp σ H s'->RelV v m->Q m s'):
  wpAny (KF X.prog X.w) A (getItem (.ref a) u) Q E s:=by
 rcases g with⟨kvs,k,e,f,l⟩|⟨kvs,k,b,e,f,n,l⟩
 ·subst f;obtain⟨z,hd,r,rel,i⟩:=Rz I.hok e;obtain⟨m,hw,c⟩:=KI.some_of (v:=v) (o:=valueAt r k) (by rw[l];exact rel.val k);exact wpAny_getItem_of (RC q) i.mapOf hw<|h m _ (I.tok _) c
 ·subst f
  cases (show u=Aw b from q)
  obtain⟨z,hd,xs,rel,i⟩:=RA I.hok e;obtain⟨m,hw,c⟩:=KI.some_of (v:=v) (o:=(atKey xs k).map (·.2)) (by rw[l];exact rel.val k);obtain⟨p,x,j⟩:=Option.map_eq_some_iff.mp hw;refine wpAny_getItem_heap (CW B) (SY I.hok n) i x ?_;rw[j];exact h m _ (I.tok _) c
def ZR(B:A.units+1<cLine)(I:Inv X qp σ H s)(g:J6 H a y o)(m:RelV y u)(h:∀s',Inv X qp σ H s'->Q (.bool o.isSome) s'):
  wpAny (KF X.prog X.w) A (PP .In u<|.ref a) Q E s:=by
 rcases g with⟨kvs,k,e,c,l⟩|⟨kvs,k,b,e,c,i,l⟩
 ·subst c;obtain⟨z,hd,j,rel,f⟩:=Rz I.hok e;refine wpAny_in_of (RC m) hd f.mapOf ?_;rw[<-(rel.val k).isSome_eq,<-l];exact h _<|I.tok _
 ·subst c
  cases (show u=Aw b from m)
  obtain⟨z,hd,xs,rel,f⟩:=RA I.hok e;refine wpAny_in_heap (CW B) (SY I.hok i) hd f ?_;have q:=(rel.val k).isSome_eq;rw[DZ]at q;rw[<-q,<-l];exact h _<|I.tok _
def sW(B:A.units+1<cLine)(I:Inv X qp σ H s)(g:J6 H a y o)(m:RelV y u)(h:∀s',Inv X qp σ H s'->Q (.bool<|!o.isSome) s'):
  wpAny (KF X.prog X.w) A (PP .NotIn u<|.ref a) Q E s:=by
 rcases g with⟨kvs,k,e,c,l⟩|⟨kvs,k,b,e,c,i,l⟩
 ·subst c;obtain⟨z,hd,j,rel,f⟩:=Rz I.hok e;refine wpAny_notIn_of (RC m) hd f.mapOf ?_;rw[<-(rel.val k).isSome_eq,<-l];exact h _<|I.tok _
 ·subst c
  cases (show u=Aw b from m)
  obtain⟨z,hd,xs,rel,f⟩:=RA I.hok e;refine wpAny_notIn_heap (CW B) (SY I.hok i) hd f ?_;have q:=(rel.val k).isSome_eq;rw[DZ]at q;rw[<-q,<-l];exact h _<|I.tok _
def cN{ob:HO}(I:Inv X qp σ H s)(m:Sq (H a))(B:Bw a s.heap h')(he:∃q,h'.get? a=some q)(new:Kx X.prog X.w (upd H a ob) h' a ob):
  Inv X qp σ (upd H a ob) {s with heap:=h',toks:=t'}:=
 I.write (x:=a) (e:=a) m (.inl rfl) (λb q c z=>(B.2 b c).trans z) he new
def WR{kvs:List (Key×V)}{m:List (Key×IR)}(z:kvs.length<=sizeLine)(hd:(a==sysModules)=false)(rel:KV kvs m)(dd:h'.DictOf (Kh P w) a m):
  Kx P w H' h' a (.dK kvs):=⟨z,hd,m,rel,dd⟩
def zmM{Q:Unit->Shared->Prop}(F:A.units+1<cLine)(I:Inv X qp σ H s)(g:LD H a y v H')(m:RelV y u)(B:RelV v r)(h:∀s',Inv X qp σ H' s'->Q () s'):
  wpAny (KF X.prog X.w) A (setItem (.ref a) u r) Q E s:=by
 rcases g with⟨kvs,k,e,j,l,n⟩|⟨kvs,k,b,e,j,L,l,n⟩
 ·subst j n;obtain⟨z,hd,N,rel,o⟩:=kG I.hok e;have x:N.length<=sizeLine:=by rw[<-rel.length];exact z
  have C:(putK kvs k v).length<=sizeLine:=by have:=YB kvs k v;omega
  refine wpAny_setItem_pairs (hsz:=x) (RC m) o λh' f K=>h _ ?_;have he:∃q,h'.get? a=some q:=let ⟨q,_,_,i,_⟩:=f;⟨q,i⟩;exact cN I (by rw[e];exact C6) K he<|WR C hd (rel.put k B) f
 ·subst j n
  cases (show u=Aw b from m)
  obtain⟨z,hd,xs,rel,o⟩:=kI I.hok e;have x:xs.length<=sizeLine:=by rw[<-BM rel];exact z
  have C:(putK kvs k v).length<=sizeLine:=by have:=YB kvs k v;omega
  refine wpAny_setItem_heap (hsz:=x) (CW F) (SY I.hok L) o λh' f K=>h _ ?_;obtain⟨q,es,T,i,G,J,S,_,U⟩:=f;refine cN I (by rw[e];exact C6) K ⟨q,i⟩ ⟨C,hd,_,(rel.put k L B).keeps λc W M=>?_,q,es,T,i,G,J,S,U⟩;rw[HW (OA M e λz=>nomatch z)];exact M
end
def P1(i:Re):Prop:=∀a c,subscripted i false a c=operate [a,c] (getItem a c)
variable {value:Re}
def wF{slice:Re}(m:typeLookup (.type T) "__getitem__"=pure (some<|.builtin id)) (q:P1 slice)(h:wpAny (KF prog w) A (eval value env) (λo s₁=>wpAny (KF prog w) A (eval slice env) (λi s₂=>s₂.TypeIs o T/\wpAny (KF prog w) A (getItem o i) Q E s₂) E s₁) E s):
  wpAny (KF prog w) A (eval (.Subscript value slice pos) env) Q E s:=by
 refine Ge<|AZ h (λo s₁ h₁=>AZ h₁ (λi s₂ h₂=>?_) λ_ _ x=>x) λ_ _ x=>x;obtain⟨a,h₂⟩:=h₂;unfold subscriptTail;refine Ab ?_;rw[getitemInPython_of_ne a.not_modules];refine Ab<|wpAny_specialOf a m ?_;have fin:wpAny (KF prog w) A (subscripted slice false o i) (λr s₃=>wpAny (KF prog w) A (letTemporaryGo value o r >>= λ_=>pure r) Q E s₃) E s₂:=by rw[q o i];exact wpAny_operating<|AZ h₂ (λr s₃ h₃=>Ab (wpAny_letTemporaryGo<|Ae h₃)) λ_ _ x=>x
 first
  |exact Ae (Ab fin)
  |exact Ab (Ae<|Ab fin)
  |exact Ab fin
def zi6{o:Option V}(I:Inv X qp σ H s)(g:J6 H a y o):s.TypeIs (.ref a) "dict":=by
 rcases g with⟨kvs,k,e,_,_⟩|⟨kvs,k,b,e,_,_,_⟩
 ·obtain⟨_,_,f,_,c⟩:=Rz I.hok e;exact c.typeIs
 obtain⟨_,_,xs,_,c⟩:=RA I.hok e;exact c.typeIs
def kT(m ty:TE):TE:=λσ H Q=>m σ H λx H1=>ty σ H1 λy c=>∃a v,x=.ref a/\J6 c a y (some v)/\Q v c
def Zg(ty m:TE):TE:=λσ H Q=>ty σ H λy H1=>m σ H1 λx c=>∃a o,x=.ref a/\J6 c a y o/\Q (.bl o.isSome) c
def wG(ty m:TE):TE:=λσ H Q=>ty σ H λy H1=>m σ H1 λx c=>∃a o,x=.ref a/\J6 c a y o/\Q (.bl<|!o.isSome) c
def kK(m ty q:TE):TS:=λD σ H=>q σ H λv H1=>m σ H1 λx e=>ty σ e λy f=>∃a c,x=.ref a/\LD f a y v c/\D.nx σ c
section
variable {o i:Re}{tpos:Pos}{td ty tv:TE}
def uU(m:X.A.units+1<cLine)(q:PE X o td)(hi:PE X i ty)(z:P1 i):PE X (.Subscript o i pos) (kT td ty):=by intro qp s σ H Q I h;refine wF PySem.F.slot_dict_getitem.lookup z<|HB (q qp s σ H _ I h) λu s1 ⟨x,H1,f,rx,j⟩=>HB (hi qp s1 σ H1 _ f j) ?_;rintro C s2 ⟨y,l,e,n,a,v,ex,g,r⟩;subst ex;obtain rfl:u=Aw a:=rx;exact⟨zi6 e g,zmN m e g n λE s3 w c=>⟨v,l,w,c,r⟩⟩
def aR(m:X.A.units+1<cLine)(hi:PE X i ty)(q:PE X o td):PC X .In i o (Zg ty td):=by intro qp s σ H Q I h;refine HB (hi qp s σ H _ I h) λw s1 ⟨y,H1,c,e,f⟩=>HB (q qp s1 σ H1 _ c f) ?_;rintro u s2 ⟨x,j,l,rx,a,n,ex,g,r⟩;subst ex;obtain rfl:u=Aw a:=rx;exact ZR m l g e λs3 v=>⟨.bl n.isSome,j,v,rfl,r⟩
def zmb(m:X.A.units+1<cLine)(hi:PE X i ty)(q:PE X o td):PC X .NotIn i o (wG ty td):=by intro qp s σ H Q I h;refine HB (hi qp s σ H _ I h) λw s1 ⟨y,H1,c,e,f⟩=>HB (q qp s1 σ H1 _ c f) ?_;rintro u s2 ⟨x,j,l,rx,a,n,ex,g,r⟩;subst ex;obtain rfl:u=Aw a:=rx;exact sW m l g e λs3 v=>⟨.bl<|!n.isSome,j,v,rfl,r⟩
def vA(m:X.A.units+1<cLine)(q:PE X o td)(hi:PE X i ty)(z:PE X value tv)(B:swapsWith value (some<|.Subscript o i pos') pos.line X.env=pure false):
  PS X (.Assign [.Subscript o i pos'] value pos) (kK td ty tv):=by
 intro qp s σ H D I h;refine wpAny_Assign_Subscript (HB (z qp s σ H _ I h) λr s1 ⟨v,H1,c,e,f⟩=>HB (q qp s1 σ H1 _ c f) λu s2 ⟨x,j,l,rx,n⟩=>HB (hi qp s2 σ j _ l n) ?_) B;rintro M s3 ⟨y,N,w,C,a,E,ex,g,K⟩;subst ex;obtain rfl:u=Aw a:=rx;exact zmM m w g C e λs4 L=>⟨σ,E,L,K⟩
end
def wB(h:Pv)(m:sysModules<h.objs.size):Kx P w H (h.push Qqd) h.objs.size (.dT []):=⟨Bo _,beq_eq_false_iff_ne.mpr<|A3<|Au m,[],.nil,_,#[],0,Av _ rfl,⟨rfl,rfl,rfl⟩,rfl,rfl,Gu⟩
def pQ:TE:=λ_ H Q=>∀p,H p=none->Q (.ref p) (upd H p<|.dT [])
def yV:PE X (.Dict [] [] pos) pQ:=λqp s σ H Q I h=>
 wpAny_Dict_empty ⟨.ref s.heap.objs.size,_,I.laid (a:=s.heap.objs.size) (o:=.dT []) (t':=s.toks) (λ_ _ q=>Ag _ q) (Ai _)<|wB s.heap I.big,rfl,h _<|I.hok.fresh<|Ai _⟩
def ON(kvs more:List (Key×V)):List (Key×V):=more.foldl (λacc a=>putK acc a.1 a.2) kvs
def KV.merge:∀{more:List (Key×V)} {rs:List (Key×IR)} {kvs:List (Key×V)} {m:List (Key×IR)},KV more rs->KV kvs m->KV (ON kvs more) (merged m rs):=by
 intro more rs kvs m r;unfold KV at r
 induction r generalizing kvs m with
 |nil=>intro q;exact q
 |@cons p q ps f h t a=>
  intro c;have e:KV (putK kvs p.1 p.2) (stored m q.1 q.2):=by have:=c.put p.1 h.2;rw[<-h.1];exact this
  exact a e
def YT:∀(more kvs:List (Key×V)),(ON kvs more).length<=kvs.length+more.length
 |[],kvs=>by show kvs.length<=kvs.length+0;omega
 |p::r,kvs=>by have m:=YT r<|putK kvs p.1 p.2;have a:=YB kvs p.1 p.2;show(ON (putK kvs p.1 p.2) r).length<=_;rw[AB];omega
def IsD(H:Hp)(a:KB):Prop:=(∃kvs,Rd H a (.dK kvs))\/∃kvs,Rd H a (.dT kvs)
def nK(I:Inv X qp σ H s)(d:IsD H a):
  s.TypeIs (.ref a) "dict"/\(∀b,Aw a=.ref b->∃ob,s.heap.get? b=some ob/\ob.dict=none)/\(a==sysModules)=false:=by
 rcases d with⟨kvs,e⟩|⟨kvs,e⟩
 ·obtain⟨_,hd,h,_,c⟩:=Rz I.hok e;refine⟨c.typeIs,λb q=>?_,hd⟩;cases q;obtain⟨ob,_,_,f,g,_⟩:=c;exact⟨ob,f,g.2.1⟩
 obtain⟨_,hd,xs,_,c⟩:=RA I.hok e;refine⟨c.typeIs,λb q=>?_,hd⟩;cases q;obtain⟨ob,_,_,f,g,_⟩:=c;exact⟨ob,f,g.2.1⟩
end L2
namespace HT
open PySem PyProof.Rows
def lexLt:List Int->List Int->Bool
 |[],[]=>false
 |[],_::_=>true
 |_::_,[]=>false
 |x::xs,y::a=>if x=y then lexLt xs a else decide (x<y)
theorem Ie(x y:Int)(xs a:List Int):lexLt (x::xs) (y::a)=if x=y then lexLt xs a else decide (x<y):=rfl
theorem Jh:lexLt [] []=false:=rfl
theorem HQ(y:Int)(a:List Int):lexLt [] (y::a)=true:=rfl
theorem Ic(x:Int)(xs:List Int):lexLt (x::xs) []=false:=rfl
def L7(A:Around)(s:Shared)(a:Int)(t:Tok)(c:Int)(u:Tok):∃e,SeqAt.EqAt A s (.int a t) (.int c u) e/\(e=true ↔ a=c):=⟨(a==c),Fx a t c u,by simp⟩
def xQ(A:Around)(s:Shared)(a:Int)(t:Tok)(c:Int)(u:Tok)(prog:P3)(w:UF)(E:Qqa)(Q:Qqa)(h:Q (.bool<|decide (a<c)) s):
  wpAny (KF prog w) A (richCompare .Lt (.int a t)<|.int c u) Q E s:=
 (Gc h:wpAny (KF prog w) A (PP .Lt (.int a t)<|.int c u) Q E s)
section
open PySem.SeqAt
open PySem.MeetsSeq PySem.MeetsSeq2 PySem.MeetsSeq3
def zgE(l b:KB)(items f:Array IR)(n N:Nat)(dd I:Option KB)(Q Mx:Array (Option IR))(ns ms:List Int)(hi:IntsAre items.toList ns)(L:IntsAre f.toList ms):
  Meets (Builtin.«tuple.__lt__» ⟨[.ref l,.ref b],[]⟩)
   (λ_ R s=>s.heap.get? l=some {cls:=.type "tuple",dict:=dd,data:=.seq items n,slots:=Q}/\s.heap.get? b=some {cls:=.type "tuple",dict:=I,data:=.seq f N,slots:=Mx} /\
    R (.ok<|.ret<|.bool<|lexLt ns ms) s):=
 .of_wp λprog w A R s h=>by
  obtain⟨F,g,d,G,os⟩:=s;obtain⟨S,T,h⟩:=h;have f2:=D9;have U:items.size=ns.length:=by rw[<-hi.length];simp
  have W:f.size=ms.length:=by rw[<-L.length];simp
  wp_walk using Dv S,Dv T,wpAny_forIn_list _ (λrest b J=>b.1=none/\J=⟨F,g,d,G,os⟩/\∃(H ws:List IR) (i j:List Int),rest=H.zip ws /\
   IntsAre H i/\IntsAre ws j/\i.length+f.size=j.length+items.size/\R (.ok<|.ret<|.bool<|lexLt i j) ⟨F,g,d,G,os⟩) _
  case turn=>
   rintro⟨y,x⟩ rest b J ⟨z,rfl,H,ws,i,j,m,B,o,hlen,r⟩;cases B with
   |nil=>rw[FO]at m;cases m
   |cons a t C=>
    cases o with
    |nil=>rw[Fy]at m;cases m
    |cons c u E=>
     rw[CY]at m;injection m with hyx hrest
     injection hyx with hy hx
     subst hy hx;rw[Ie]at r;simp only[AB]at hlen;obtain⟨e,he,v⟩:=L7 A.in1 ⟨F,g,d,G,os⟩ a t c u;refine Ab<|he prog w _ _ ?_
     cases e with
     |true=>
      rw[if_pos (v.mp rfl)]at r
      wp_walk
      exact⟨rfl,rfl,_,_,_,_,hrest,C,E,by omega,r⟩
     |false=>
      rw[if_neg (λq=>absurd (v.mpr q) A6)]at r;have K:=xQ A.in1 ⟨F,g,d,G,os⟩ a t c u prog w
      wp_walk using K
      exact⟨_,rfl,by simpa using r⟩
  case fin=>
   rintro⟨b1,X⟩ J ⟨z,rfl,H,ws,i,j,m,B,o,hlen,r⟩;simp only at z;subst z;have M:lexLt i j=decide (items.size<f.size):=by
    cases B with
    |nil=>
     cases o with
     |nil=>
      simp only[A2]at hlen;rw[Jh];exact(decide_eq_false<|by omega).symm
     |cons c u hw=>
      simp only[A2,AB]at hlen;rw[HQ];exact(decide_eq_true<|by omega).symm
    |cons a t M=>
     cases o with
     |nil=>
      simp only[A2,AB]at hlen;rw[Ic];exact(decide_eq_false<|by omega).symm
     |cons c u hw=>
      rw[CY]at m;cases m
   rw[M]at r
   wp_walk
   exact⟨_,rfl,by simpa[Dr]using r⟩
  case h=>
   exact⟨rfl,rfl,items.toList,f.toList,ns,ms,rfl,hi,L,by omega,h⟩
end
variable {b t sl:KB}{items:Array IR}{Q:Qqa}{vl vu:IR}{lo hi:Option Int}
section
variable {prog:P3}{w:UF}{A:Around}{E:Qqa}{s:Shared}
def MH{l:KB}{a:Array IR}{ns ms:List Int}(m:IsTup s.heap l items)(o:IsTup s.heap b a)(hi:IntsAre items.toList ns)(q:IntsAre a.toList ms)(r:A.units<cLine) (h:Q (.bool<|lexLt ns ms) s):wpAny (KF prog w) A (PP .Lt (.ref l)<|.ref b) Q E s:=by
 obtain⟨⟨cls,u,data,sl⟩,g,i,n,hd⟩:=id m;obtain⟨⟨j,f,data2,Mx⟩,c,e,v,hd2⟩:=id o;simp only at i hd e hd2;subst i hd e hd2;exact EC (op:=.Lt) ⟨_,g,rfl⟩ ⟨_,c,rfl⟩ PySem.F.slot_tuple_lt PySem.F.entry_tuple_lt (PySem.F.args_tuple_lt_2 _ _) (zgE l b items a n v u f sl Mx ns ms hi q)
  ⟨g,c,show CC (lexLt ns ms)≠Fc/\Q (.bool<|lexLt ns ms) s from⟨(λx=>nomatch x),h⟩⟩ r
def PY{c ws:List IR}(q:IsTup s.heap t c.toArray)(r:IsTup s.heap b ws.toArray)(i:c≠[])(u:ws=[]->Q (.ref t) s) (v:ws≠[]->Q (.ref s.heap.objs.size) {s with heap:=s.heap.push {cls:=.type "tuple",data:=.seq (c++ws).toArray} })(hsz:c.length+ws.length<=sizeLine):wpAny (KF prog w) A (binaryOp .Add (.ref t)<|.ref b) Q E s:=by
 obtain⟨⟨cls,j,data,sl⟩,h,l,n,hd⟩:=id q;obtain⟨⟨m,f,data2,Mx⟩,a,g,o,hd2⟩:=id r;simp only at l hd g hd2;subst l hd g hd2;have e:c.toArray++ws.toArray=(c++ws).toArray:=by simp
 by_cases hw:ws=[]
 ·exact concat_meets ⟨_,h,rfl⟩ ⟨_,a,rfl⟩ noFill_tuple_add seq_tuple_add EF Eo (Ea _ _)
   (tuple_addW1 t b c.toArray ws.toArray n o j f sl Mx (by simpa using i)<|by simp[hw]) ⟨h,a,u hw⟩
 ·refine concat_meets ⟨_,h,rfl⟩ ⟨_,a,rfl⟩ noFill_tuple_add seq_tuple_add EF Eo (Ea _ _)
   (tuple_addW2 t b c.toArray ws.toArray n o j f sl Mx (by simpa using i) (by simpa using hw) (by rw[AA,AA];exact hsz)) ⟨h,a,?_⟩
  rw[e];exact v hw
def HR(n d:Nat):Option Int->Nat
 |none=>d
 |some v=>if v<0 then(v+(n:Int)).toNat else min v.toNat n
def qW(n d:Nat)(hd:d<=n)(o:Option Int):HR n d o<=n:=by
 cases o with
 |none=>exact hd
 |some v=>
  show(if v<0 then(v+(n:Int)).toNat else min v.toNat n)<=n;by_cases hv:v<0
  ·rw[if_pos hv];omega
  rw[if_neg hv];exact Eb _ _
def cM(v:Int)(n d:Nat):(if v<0 then max (v+(n:Int)) 0 else min v (n:Int))=((HR n d (some v):Nat):Int):=by
 show(if v<0 then max (v+(n:Int)) 0 else min v (n:Int))=(((if v<0 then(v+(n:Int)).toNat else min v.toNat n):Nat):Int);by_cases hv:v<0
 ·simp only[if_pos hv];omega
 simp only[if_neg hv];omega
def zlq(lo hi:Option Int)(n:Nat):CQ lo hi 1 (n:Int)=(((HR n 0 lo:Nat):Int),((HR n n hi:Nat):Int)):=by
 have s:¬((1:Int)<0):=by omega
 unfold CQ;simp only[s,if_false];refine Prod.ext ?_ ?_
 ·cases lo with
  |none=>rfl
  |some v=>exact cM v n 0
 ·cases hi with
  |none=>rfl
  |some v=>exact cM v n n
def zjQ(i j:Nat):B5 (i:Int) (j:Int) 1=j-i:=by
 unfold B5;have s:(1:Int) > 0:=by omega
 simp only[s,if_true,Int.ediv_one];split<;>omega
def gY{v:IR}{o:Option Int}{Q:Option Int->Shared->Prop}(p:IsPart v o)(h:Q o s):wpAny (KF prog w) A (Builtin.Slice.slicePartIndex v) Q E s:=by
 cases p with
 |none=>exact slicePart_none h
 |int i t=>exact slicePart_int h
def Jo{n:Nat}{Q:Int×Int×Nat->Shared->Prop}(e:s.heap.IsSliceOf sl vl vu .none)(pl:IsPart vl lo)(pu:IsPart vu hi)(h:Q (((HR n 0 lo:Nat):Int),1,HR n n hi-HR n 0 lo) s):wpAny (KF prog w) A (DS (.ref sl)<|pure (n:Int)) Q E s:=by
 obtain⟨os,a,f,c⟩:=id e;unfold DS Builtin.Slice.sliceFields;refine Ab<|Ab<|Be a c (x:=vl) rfl<|Ab<|Be a c (x:=vu) rfl<|Ab<|Be a c (x:=.none) rfl<|Ae ?_;refine Ab<|slicePart_none ?_;show wpAny _ _ (if((1:Int)==0)=true then _ else _) _ _ s;rw[if_neg (by decide)];refine Ab<|gY pl<|Ab<|gY pu<|Ab<|Ae ?_;show wpAny _ _ (match CQ lo hi 1 (n:Int) with|(lo,hi)=>pure (lo,(1:Int),B5 lo hi 1)) _ _ s;rw[zlq lo hi n];show wpAny _ _ (pure (((HR n 0 lo:Nat):Int),(1:Int),B5 ((HR n 0 lo:Nat):Int) ((HR n n hi:Nat):Int) 1)) _ _ s;rw[zjQ];exact Ae h
def xE(xs:Array IR)(i k:Nat):((Bg k).filterMap λ(m:Nat)=>xs[((i:Int)+(m:Int)*1).toNat]?).toArray=((xs.toList.drop i).take k).toArray:=by
 have e:(λ(m:Nat)=>xs[((i:Int)+(m:Int)*1).toNat]?)=λm=>xs[i+m]?:=by
  funext m
  have:((i:Int)+(m:Int)*1).toNat=i+m:=by omega
  rw[this]
 rw[e];have:=pick_run xs i k;rw[List.filterMap_map]at this;have s:((λx=>xs[x]?) ∘ λx=>i+x)=λm=>xs[i+m]?:=rfl;rw[s]at this;rw[this]
def Kb(c:IsTup s.heap t items)(j:s.heap.IsSliceOf sl vl vu .none)(pl:IsPart vl lo)(pu:IsPart vu hi)(hw:¬(HR items.size 0 lo=0/\HR items.size items.size hi=items.size))(h:Q (.ref s.heap.objs.size) {s with heap:=s.heap.push {cls:=.type "tuple",data:=.seq ((items.toList.drop<|HR items.size 0 lo).take<|HR items.size items.size hi-HR items.size 0 lo).toArray} })(hsz:items.size<=sizeLine):wpAny (KF prog w) A (getItem (.ref t)<|.ref sl) Q E s:=by
 have a:sizeOk (.seq ((items.toList.drop<|HR items.size 0 lo).take<|HR items.size items.size hi-HR items.size 0 lo).toArray):=by show((items.toList.drop<|HR items.size 0 lo).take<|HR items.size items.size hi-HR items.size 0 lo).toArray.size<=sizeLine;rw[AA,Ba,BE,AF];omega
 have n:HR items.size items.size hi<=items.size:=qW _ _ (Ai _) hi;obtain⟨os,e,f,l⟩:=id j;have g:s.TypeIs (.ref sl) "slice":=⟨os,e,f⟩;unfold getItem
 try with_reducible refine A7 ?_
 first|refine Ab (Ae ?_)|skip
 refine Ab (FP c.typeIs (by decide) ?_);refine Ab (BB (name:=Bp "__getitem__") c.typeIs BI
  (Bx BI c.typeIs Fm ?_<|Fz _ _))
 show wpAny _ _ (DT (.ref t) >>= _) _ _ s;refine Ab<|tupleItemsOf_ c ?_;refine Ab<|Cy g ?_;rw[if_pos (by decide)];refine Ab<|Jo j pl pu ?_;have i:¬((((HR items.size 0 lo:Nat):Int)==0&&(1:Int)==1&&(HR items.size items.size hi-HR items.size 0 lo)==items.size)=true):=by intro q;rw[Ad,Ad]at q;have o:((HR items.size 0 lo:Nat):Int)=0:=eq_of_beq q.1.1;have r:HR items.size items.size hi-HR items.size 0 lo=items.size:=eq_of_beq q.2;exact hw ⟨by omega,by omega⟩
 show wpAny _ _ (if(((HR items.size 0 lo:Nat):Int)==0&&(1:Int)==1&&(HR items.size items.size hi-HR items.size 0 lo)==items.size)=true then _ else _) _ _ s;rw[if_neg i,xE]
 first
  |exact Ab (m:=B9 _) (AR (Ae ⟨_,rfl,Ae h⟩) a)
  |exact Ab (m:=B9 _) (AR (Ab<|Ae<|Ae ⟨_,rfl,Ae h⟩) a)
  |exact Ab (Ab (m:=B9 _)<|AR (Ae<|Ae ⟨_,rfl,Ae h⟩) a)
  |exact Ab (Ab (m:=B9 _)<|AR (Ae ⟨_,rfl,Ae h⟩) a)
end
end HT
namespace L2
open PySem PySem.Spec PyProof.Rows
noncomputable abbrev TO:=St->Hp->(Option Int->Hp->Prop)->Prop
def PO(X:Cx)(e:Option Re)(t:TO):Prop:=
 ∀(a:List (KB×Obj)) (s:Shared) (σ:St) (H:Hp) (Q:Option Int->Hp->Prop),Inv X a σ H s->t σ H Q ->
  wpAny (KF X.prog X.w) X.A (evalPart e X.env) (λu f=>∃o c,Inv X a σ c f/\IsPart u o/\Q o c) X.xe s
def wH:TO:=λ_ H Q=>Q none H
def kZ(t:TE):TO:=λσ H Q=>t σ H λx H1=>∃i,x=.int i/\Q (some i) H1
def intsAre_of{ns:List Int}:∀{us:List IR},Vals (ns.map V.int) us->IntsAre us ns:=by
 induction ns with
 |nil=>intro us r;rw[B8]at r;cases r;exact .nil
 |cons n ns ih=>
  intro us r;rw[Ax]at r;cases r with
  |cons a c=>
   obtain⟨t,e⟩:=a;subst e;exact .cons n t<|ih c
variable {X:Cx}{e:Re}{pos:Pos}{xs:List V}{us:List IR}
section
variable {te:TE}{lo hi:Option Re}{tl th:TO}{p2:Pos}
def uY:PO X none wH:=by intro e s σ H Q I h;rw[evalPart_none];exact Ae ⟨none,H,I,.none,h⟩
def uZ(h:PE X e te):PO X (some e) (kZ te):=by intro a s σ H Q I hw;rw[evalPart_some];refine HB (h a s σ H _ I hw) ?_;rintro u s1 ⟨x,H1,c,f,g⟩;obtain⟨i,rfl,q⟩:=g;obtain⟨t,rfl⟩:=f;exact⟨some i,H1,c,.int i t,q⟩
def So(X:Cx)(r:V->Option Int->Option Int->Hp->VK->Prop):Prop:=
 ∀(e:List (KB×Obj)) (s:Shared) (σ:St) (H:Hp) (x:V) (v a c:IR) (lo hi:Option Int) (f:KB) (Q:VK),Inv X e σ H s->RelV x v->s.heap.IsSliceOf f a c .none->IsPart a lo->IsPart c hi->r x lo hi H Q ->
  ∃T id,typeLookup (.type T) "__getitem__"=pure (some<|.builtin id)/\s.TypeIs v T/\wpAny (KF X.prog X.w) X.A (getItem v<|.ref f) (EP X e σ Q) X.xe s
def tSl(r:V->Option Int->Option Int->Hp->VK->Prop)(te:TE)(tl th:TO):TE:=λσ H Q=>te σ H λx H1=>tl σ H1 λl e=>th σ e λu X=>r x l u X Q
def Vz{r:V->Option Int->Option Int->Hp->VK->Prop}(i:So X r)(he:PE X e te)(j:PO X lo tl)(m:PO X hi th):PE X (.Subscript e (.Slice lo hi none p2) pos) (tSl r te tl th):=by intro a s σ H Q I h;refine Ge<|HB (he a s σ H _ I h) ?_;rintro v s1 ⟨x,H1,n,o,y⟩;refine wpAny_Slice<|HB (j a s1 σ H1 _ n y) λc s2 ⟨l,z,B,pl,C⟩=>HB (m a s2 σ z _ B C) ?_;rintro f s3 ⟨u,g,I3,pu,E⟩;rw[evalPart_none];refine Ae ?_;have F:Inv X a σ g {s3 with heap:=s3.heap.push {cls:=.type "slice",data:=.fields #[c,f,.none]} }:=I3.kept (t':=s3.toks) λb ob q=>Ag _ q;obtain⟨T,id,G,J,K⟩:=i a {s3 with heap:=s3.heap.push {cls:=.type "slice",data:=.fields #[c,f,.none]} } σ g x v c f l u s3.heap.objs.size Q F o (GV ..) pl pu E;show wpAny (KF X.prog X.w) X.A (subscriptTail e (.Slice lo hi none p2) v<|.ref s3.heap.objs.size) (EP X a σ Q) X.xe {s3 with heap:=s3.heap.push {cls:=.type "slice",data:=.fields #[c,f,.none]} };exact tail_any (ops:=[.ref s3.heap.objs.size,v]) J G K<|by with_unfolding_all rfl
def L8(xs:List V)(lo hi:Option Int):List V:=(xs.drop<|HT.HR xs.length 0 lo).take<|HT.HR xs.length xs.length hi-HT.HR xs.length 0 lo
def iI(xs:List V)(lo hi:Option Int):(L8 xs lo hi).length<=xs.length:=by unfold L8;rw[Ba,BE];omega
def Ug(K:Ac):V->Option Int->Option Int->Hp->VK->Prop:=λx lo hi H Q=>∃a xs,x=.ref a/\Je K H a xs /\
 ¬(HT.HR xs.length 0 lo=0/\HT.HR xs.length xs.length hi=xs.length)/\∀p,H p=none->Q (.ref p) (upd H p<|.tup<|L8 xs lo hi)
def pL:So X (Ug X.K):=by
 intro j s σ H x v l m lo hi n Q I rx g pl pu h;obtain⟨a,xs,rfl,i,hw,q⟩:=h;cases rx;obtain⟨e,r,c,f⟩:=I.tuple i;have hlen:e.toArray.size=xs.length:=by rw[AA];exact r.length.symm
 refine⟨"tuple",_,PyProof.Rows.slot_tuple_getitem.lookup,c.typeIs,?_⟩;refine HT.Kb c g pl pu (by rw[hlen];exact hw) ?_ (by rw[hlen];exact f);rw[hlen];refine⟨.ref s.heap.objs.size,_,I.laid (t':=s.toks) (o:=.tup (L8 xs lo hi)) (λb ob q=>Ag _ q) (Ai _) ?_,rfl,q _<|I.hok.fresh<|Ai _⟩;exact⟨Ar (iI xs lo hi) f,_,(r.drop<|HT.HR xs.length 0 lo).take<|HT.HR xs.length xs.length hi-HT.HR xs.length 0 lo,MY.new _ _⟩
def Zr(K:Ac):R2:=λx y H Q=>∃a b ns ms,x=.ref a/\y=.ref b/\Je K H a (ns.map V.int)/\Je K H b (ms.map V.int)/\Q (.bl<|HT.lexLt ns ms) H
def oJ(f:X.A.units<cLine):Kd X (PP .Lt) (Zr X.K):=by intro w s σ H x y v u Q I rx g h;obtain⟨a,b,ns,ms,rfl,rfl,i,j,q⟩:=h;cases rx;cases g;obtain⟨c,l,m,_⟩:=I.tuple i;obtain⟨e,n,p2,_⟩:=I.tuple j;have o:IntsAre c.toArray.toList ns:=intsAre_of l;have r:IntsAre e.toArray.toList ms:=intsAre_of n;exact HT.MH m p2 o r f ⟨.bl<|HT.lexLt ns ms,H,I,rfl,q⟩
def mI(K:Ac):R2:=λx y H Q=>∃a b xs e,x=.ref a/\y=.ref b/\Je K H a xs/\Je K H b e/\xs≠[]/\xs.length+e.length<=sizeLine /\
 (e=[]->Q (.ref a) H)/\(e≠[]->∀p,H p=none->Q (.ref p) (upd H p<|.tup<|xs++e))
def Vals.nil_iff(r:Vals xs us):us=[] ↔ xs=[]:=by
 cases r with
 |nil=>simp
 |cons _ _=>simp
def vK:Kd X (binaryOp .Add) (mI X.K):=by intro C s σ H x y v u Q I rx g h;obtain⟨a,b,xs,i,rfl,rfl,j,l,m,c,n,r⟩:=h;cases rx;cases g;obtain⟨A,e,B,_⟩:=I.tuple j;obtain⟨f,r2,p2,_⟩:=I.tuple l;refine HT.PY B p2 (λz=>m (e.nil_iff.mp z)) (λz=>⟨.ref a,H,I,rfl,n<|r2.nil_iff.mp z⟩) (λz=>?_) (by rw[<-e.length,<-r2.length];exact c);refine⟨.ref s.heap.objs.size,_,I.laid (t':=s.toks) (o:=.tup (xs++i)) (λb ob q=>Ag _ q) (Ai _) ?_,rfl,r (λw=>z (r2.nil_iff.mpr w)) _<|I.hok.fresh<|Ai _⟩;exact⟨by rw[AI];exact c,_,e.append r2,MY.new _ _⟩
end
def Nc(n:Nat)(i:Int):Option Nat:=if 0<=i then(if i<n then some i.toNat else none)else if -(n:Int)<=i then some (i+n).toNat else none
variable {α:Type}
def LB(xs:List α)(i:Int):Option α:=(Nc xs.length i).bind λj=>xs[j]?
variable {n:Nat}{i:Int}
def bL{j:Nat}(h:Nc n i=some j):seqIndex? i n=some j/\j<n/\-(n:Int)<=i/\i<n:=by
 unfold Nc at h;by_cases h0:0<=i
 ·rw[if_pos h0]at h
  by_cases h1:i<n
  ·rw[if_pos h1]at h;have e:i.toNat=j:=As h;exact⟨by rw[FZ h0 h1,e],by omega,by omega,h1⟩
  rw[if_neg h1]at h;cases h
 ·rw[if_neg h0]at h
  by_cases h1:-(n:Int)<=i
  ·rw[if_pos h1]at h;have e:(i+n).toNat=j:=As h;exact⟨by rw[FA (by omega) h1,e],by omega,h1,by omega⟩
  rw[if_neg h1]at h;cases h
def Xh{xs:List α}{v:α}(h:LB xs i=some v):∃j,seqIndex? i xs.length=some j/\xs[j]?=some v/\j<xs.length/\-(xs.length:Int)<=i/\i<xs.length:=by
 unfold LB at h;cases e:Nc xs.length i with
 |none=>rw[e]at h;cases h
 |some j=>
  rw[e]at h;obtain⟨n,X,a,c⟩:=bL e;exact⟨j,n,h,X,a,c⟩
def Xf(b:Re):Prop:=∀o i,subscripted b false o i=operate [o,i] (getItem o i)
def UI(X:Cx)(r:R2):Prop:=
 ∀(value slice:Re) (e:List (KB×Obj)) (s:Shared) (σ:St) (H:Hp) (x y:V) (v u:IR) (Q:VK),Inv X e σ H s->RelV x v->RelV y u->r x y H Q ->
  subscripted slice false v u=operate [v,u] (getItem v u)->wpAny (KF X.prog X.w) X.A (subscriptTail value slice v u) (EP X e σ Q) X.xe s
def Ss(X:Cx)(id:String)(r:V->List V->Hp->VK->Prop):Prop:=
 ∀(e:List (KB×Obj)) (s:Shared) (σ:St) (H:Hp) (x:V) (xs:List V) (v:IR) (us:List IR) (Q:VK),Inv X e σ H s->RelV x v->Vals xs us->r x xs H Q ->
  wpAny (KF X.prog X.w) X.A (call (.builtin id) (v::us)) (EP X e σ Q) X.xe s
variable {qp:List (KB×Obj)}{σ:St}{H:Hp}{s:Shared}{p:KB}{ys:List V}{its its':List IR}{T:String}{x:V}
section
variable {a b:Re}{ta tb:TE}
def mD{r:R2}(c:UI X r)(f:PE X a ta)(g:PE X b tb)(j:Xf b):PE X (.Subscript a b pos) (Ud r ta tb):=by intro qp s σ H Q I h;exact Ge<|Rc f g I h λv u s2 x y e i rx n q=>c a b qp s2 σ e x y v u Q i rx n q (j _ _)
def Zu(K:Ac):R2:=λx y H Q=>∃p xs i v,x=.ref p/\y=.int i/\Kc K H p xs/\LB xs i=some v/\Q v H
def Zs(K:Ac):R2:=λx y H Q=>∃p xs i v,x=.ref p/\y=.int i/\Je K H p xs/\LB xs i=some v/\Q v H
def Zt:R2:=λx y H Q=>∃z i c,x=.str z/\y=.int i/\z.length<=sizeLine/\LB z.cps.toList i=some c/\Q (.str ⟨#[c]⟩) H
def bM:UI X (Zu X.K):=by
 intro value slice qp s σ H x y v u Q I rx f h T;obtain⟨p,xs,i,z,rfl,rfl,g,he,q⟩:=h;cases rx;obtain⟨t,rfl⟩:=f;obtain⟨its,r,pl,C⟩:=I.list g;obtain⟨j,a,l,E,m,o⟩:=Xh he;obtain⟨w,c,e⟩:=r.get l;have A:=r.length;have F:=Qz;have fin:EP X qp σ Q w s:=⟨z,H,I,e,q⟩;by_cases h0:0<=i
 ·have n:i.toNat=j:=by
   rw[FZ h0 o]at a;exact As a
  exact item_listR pl.isList h0 (by omega) (by rw[n];simpa using c) fin T
 ·have n:(i+(its.toArray.size:Int)).toNat=j:=by
   rw[FA (by omega) m]at a;rw[AA,<-A];exact As a
  exact EG (x:=w) pl.isList.typeIs slot_list_getitem.lookup
   (wpAny_getItem_list_neg (Q:=λr B=>r=w/\EP X qp σ Q r B) pl.isList (by omega) (by rw[AA]<;>omega) (by omega) (by rw[n];simpa using c) ⟨rfl,fin⟩) T
def J7:UI X (Zs X.K):=by
 intro value slice qp s σ H x y v u Q I rx e h n;obtain⟨p,xs,i,z,rfl,rfl,T,he,q⟩:=h;cases rx;obtain⟨t,rfl⟩:=e;obtain⟨its,r,pl,o⟩:=I.tuple T;obtain⟨j,c,f,A,B,C⟩:=Xh he;obtain⟨w,g,a⟩:=r.get f;have l:=r.length;have E:=Qz;have fin:EP X qp σ Q w s:=⟨z,H,I,a,q⟩;exact EG (x:=w) pl.typeIs slot_tuple_getitem.lookup
  (getItem_tuple (j:=j) (Q:=λr m=>r=w/\EP X qp σ Q r m) pl (by omega) (by omega) (by rw[AA,<-l];exact c) (by simpa using g) ⟨rfl,fin⟩) n
def RM:UI X Zt:=by
 intro value slice qp s σ H x y v u Q I rx e h n;obtain⟨z,i,c,rfl,rfl,r,he,q⟩:=h;obtain⟨t,rfl⟩:=rx;obtain⟨w,rfl⟩:=e;obtain⟨j,a,T,A,f,g⟩:=Xh he;have l:z.cps.toList.length=z.length:=by simp[Str.length]
 rw[l]at a f g;have B:=Qz;exact tail_any (Dw s z t) slot_str_getitem.lookup (getItem_str (c:=c) (by
  have m:decide (i < -(2^63:Int))=false:=decide_eq_false (by omega);have o:decide (i ≥ 2^63)=false:=decide_eq_false (by omega);rw[m,o,Bool.or_false]) (by rw[a];simpa using T) ⟨.str ⟨#[c]⟩,H,I.tok _,⟨_,rfl⟩,q⟩) n
def zko(its:List IR)(n j:Nat)(u:IR):BQ (·.setIfInBounds j u) {cls:=.type "list",data:=.seq its.toArray n}={cls:=.type "list",data:=.seq (its.set j u).toArray n}:=by simp[BQ]
def Inv.lst{qp:List (KB×Obj)}{σ:St}{H:Hp}{s:Shared}{p:KB}{xs:List V}(I:Inv X qp σ H s)(h:H p=some (.lst xs)):
  ∃(its:List IR) (n:Nat),Vals xs its/\s.heap.get? p=some {cls:=.type "list",data:=.seq its.toArray n}/\xs.length<=sizeLine:=by
 obtain⟨z,its,n,r,e⟩:=I.hok p _ h;exact⟨its,n,r,e,z⟩
def Inv.lstUpd{c:Nat}{f:Obj->Obj}(I:Inv X qp σ H s)(h:H p=some (.lst xs))(g:s.heap.get? p=some {cls:=.type "list",data:=.seq its.toArray n}) (hf:f {cls:=.type "list",data:=.seq its.toArray n}={cls:=.type "list",data:=.seq its'.toArray c}) (r:Vals ys its') (j:ys.length<=sizeLine) (t:Nat):
  Inv X qp σ (upd H p<|.lst ys) {s with heap:=s.heap.update p f,toks:=t}:=by
 have e:(s.heap.update p f).get? p=some {cls:=.type "list",data:=.seq its'.toArray c}:=by rw[Bb f g (by rw[hf]<;>rfl),hf]
 refine I.write (x:=p) (e:=p) (by rw[h];trivial) (.inl rfl) (λb u a q=>(AO _ _<|A3 a).trans q) ⟨_,e⟩ ?_;exact⟨j,its',c,r,e⟩
def mJ:V->V->V->Hp->(Hp->Prop)->Prop:=λo i v H Q=>∃p xs k j,o=.ref p/\i=.int k/\H p=some (.lst xs)/\Nc xs.length k=some j/\Q (upd H p<|.lst<|xs.set j v)
def set_list:Rh X mJ:=by
 intro qp s σ H o i v A B u Q I l m w h;obtain⟨p,xs,k,j,rfl,rfl,T,y,q⟩:=h;cases l;obtain⟨t,rfl⟩:=m;obtain⟨its,n,r,e,z⟩:=I.lst T;obtain⟨a,C,c,f⟩:=bL y;have x:=r.length;have E:=Qz;have g:Inv X qp σ (upd H p<|.lst<|xs.set j v) {s with heap:=s.heap.update p (BQ (·.setIfInBounds j u))}:=
  I.lstUpd T e (zko its n j u) (r.set w j) (by rw[Co];exact z) s.toks
 by_cases h0:0<=k
 ·have hk:k.toNat=j:=by
   rw[FZ h0 f]at a;exact As a
  exact PySem.W.ki_setAt e h0 (by omega) (by rw[AA,<-x];exact f) (by rw[hk];exact⟨_,g,q⟩)
 ·have hk:(k+(its.toArray.size:Int)).toNat=j:=by
   rw[FA (by omega) c]at a;rw[AA,<-x];exact As a
  exact PySem.W.ki_setBack e (by omega) (by rw[AA,<-x];exact c) (by omega) (by rw[hk];exact⟨_,g,q⟩)
def zhu(lo hi:Option Int)(n:Nat):(sliceBounds lo hi none n).1=((HT.HR n 0 lo:Nat):Int)/\(sliceBounds lo hi none n).2.1=((HT.HR n n hi:Nat):Int)/\(sliceBounds lo hi none n).2.2=1:=by
 refine⟨?_,?_,rfl⟩
 ·cases lo with
  |none=>simp[sliceBounds,HT.HR]
  |some i=>
   simp only[sliceBounds,HT.HR,F3,show(1:Int) > 0 by decide,if_true]
   by_cases h:i<0
   ·simp only[h,if_true]<;>omega
   simp only[h,if_false]<;>omega
 ·cases hi with
  |none=>simp[sliceBounds,HT.HR]
  |some i=>
   simp only[sliceBounds,HT.HR,F3,show(1:Int) > 0 by decide,if_true]
   by_cases h:i<0
   ·simp only[h,if_true]<;>omega
   simp only[h,if_false]<;>omega
def zgL(its:List IR)(lo hi:Option Int):slicePick its.toArray lo hi none=((its.drop<|HT.HR its.length 0 lo).take<|HT.HR its.length its.length hi-HT.HR its.length 0 lo).toArray:=by obtain⟨a,e,i⟩:=zhu lo hi its.toArray.size;unfold slicePick;rw[a,e,i];simp only[sliceRange_one,pick_run,AA]<;>rfl
def Uh(K:Ac):V->Option Int->Option Int->Hp->VK->Prop:=λx lo e H Q=>∃a xs,x=.ref a/\Kc K H a xs/\∀p,H p=none->Q (.ref p) (upd H p<|.lst<|L8 xs lo e)
def cQ:So X (Uh X.K):=by intro qp s σ H x v f g lo e j Q I rx n pl pu h;obtain⟨a,xs,rfl,T,q⟩:=h;cases rx;obtain⟨its,r,i,c⟩:=I.list T;have hlen:=r.length;refine⟨"list",_,slot_list_getitem.lookup,i.isList.typeIs,?_⟩;refine wpAny_getItem_list_slice i.isList n pl pu .none (by simp) ?_ (by rw[AA]<;>omega);rw[zgL,<-hlen];refine⟨.ref s.heap.objs.size,_,I.laid (t':=s.toks) (o:=.lst (L8 xs lo e)) (λb ob q=>Ag _ q) (Ai _) ?_,rfl,q _<|I.hok.fresh<|Ai _⟩;exact⟨Ar (iI xs lo e) c,_,0,(r.drop<|HT.HR xs.length 0 lo).take<|HT.HR xs.length xs.length e-HT.HR xs.length 0 lo,Av _ rfl⟩
def YJ:NB X (.builtin "len") (λxs H Q=>∃p ys,xs=[.ref p]/\(Kc X.K H p ys\/Je X.K H p ys)/\Q (.int ys.length) H):=by
 intro qp s σ H xs us Q I r h;obtain⟨p,ys,rfl,hq,q⟩:=h;obtain⟨u,rfl,rx⟩:=vals1 r;cases rx;have i:=Qz;rcases hq with hq|hq
 ·obtain⟨its,a,pl,e⟩:=I.list hq;have hlen:=a.length;exact Calls.call_len_list pl.isList (by simp only[AA]<;>omega) ⟨.int ys.length,H,I.tok _,⟨s.toks+1,by rw[AA,hlen]⟩,q⟩
 obtain⟨its,a,pl,e⟩:=I.tuple hq;have hlen:=a.length;exact len_tuple pl (by simp only[AA]<;>omega) ⟨.int ys.length,H,I.tok _,⟨s.toks+1,by rw[AA,hlen]⟩,q⟩
def zhS:NB X (.builtin "len") (λxs H Q=>∃z,xs=[.str z]/\z.length<=sizeLine/\Q (.int z.length) H):=by intro qp s σ H xs us Q I r h;obtain⟨z,rfl,a,q⟩:=h;obtain⟨u,rfl,t,rfl⟩:=vals1 r;have e:=Qz;exact len_str (by omega) ⟨.int z.length,H,I.tok _,⟨_,rfl⟩,q⟩
def iX:NB X (.type "tuple") (λxs H Q=>∃p ys,xs=[.ref p]/\((Kc X.K H p ys/\∀l,H l=none->Q (.ref l) (upd H l<|.tup ys))\/(Je X.K H p ys/\Q (.ref p) H))):=by
 intro qp s σ H xs us Q I r h;obtain⟨p,ys,rfl,h⟩:=h;obtain⟨u,rfl,rx⟩:=vals1 r;cases rx;rcases h with⟨i,q⟩|⟨i,q⟩
 ·obtain⟨its,n,pl,x⟩:=I.list i;have hlen:=n.length;refine call_tuple_list pl.isList (λa kp=>?_) (by simp only[AA]<;>omega);have I1:Inv X qp σ H {s with heap:=a}:=I.kept (t':=s.toks) kp;have T:Inv X qp σ (upd H a.objs.size<|.tup ys) {s with heap:=a.push {cls:=.type "tuple",data:=.seq its.toArray} }:=
   I1.laid (t':=s.toks) (λb o e=>Ag _ e) (Ai _) (show Kx X.prog X.w _ _ _ (.tup ys) from⟨x,its,n,MY.new _ _⟩)
  exact⟨.ref a.objs.size,_,T,rfl,q _<|I1.hok.fresh<|Ai _⟩
 obtain⟨its,n,pl,x⟩:=I.tuple i;exact call_tuple_same pl ⟨.ref p,H,I,rfl,q⟩
def Y2(K:Ac)(T:String)(x:V)(H:Hp):Prop:=match x with
 |.str _=>T="str"
 |.int _=>T="int"
 |.ref p=>(T="list"/\∃xs,Kc K H p xs)\/(T="tuple"/\∃o,K.lookup p=some o/\o.cls=.type "tuple"/\o.dict=none) \/
   (T="dict"/\((∃a,H p=some (.dK a))\/∃a,H p=some (.dT a)))\/(T="set"/\∃S n,H p=some (.set S n))
 |_=>False
def pX{v:IR}(I:Inv X qp σ H s)(r:RelV x v)(ty:Y2 X.K T x H):
  s.TypeIs v T/\∀a,v=.ref a->∃ob,s.heap.get? a=some ob/\ob.dict=none:=by
 cases x with
 |str z=>
  obtain⟨t,rfl⟩:=r;cases (show T="str" from ty)
  exact⟨Dw s z t,λ_ e=>nomatch e⟩
 |int i=>
  obtain⟨t,rfl⟩:=r;cases (show T="int" from ty)
  exact⟨typeIs_int s i t,λ_ e=>nomatch e⟩
 |ref p=>
  cases r;rcases ty with⟨rfl,xs,h⟩|⟨rfl,o,hk,j,hd⟩|⟨rfl,hk⟩|⟨rfl,S,n,hk⟩
  ·obtain⟨its,_,pl,_⟩:=I.list h;refine⟨pl.isList.typeIs,λa e=>?_⟩;cases e;obtain⟨o,n,e,c,hd,_⟩:=pl;exact⟨o,e,hd⟩
  ·refine⟨⟨o,I.kIn p o hk,j⟩,λa e=>?_⟩;cases e;exact⟨o,I.kIn _ o hk,hd⟩
  ·have z:∃o,s.heap.get? p=some o/\o.ExactDict:=by
    rcases hk with⟨f,hk⟩|⟨f,hk⟩
    ·obtain⟨_,_,_,_,o,_,_,e,ex,_⟩:=I.hok p _ hk;exact⟨o,e,ex⟩
    obtain⟨_,_,_,_,o,_,_,e,ex,_⟩:=I.hok p _ hk;exact⟨o,e,ex⟩
   obtain⟨o,e,ex⟩:=z;refine⟨⟨o,e,ex.1⟩,λa g=>?_⟩;cases g;exact⟨o,e,ex.2.1⟩
  obtain⟨o,_,_,_,e,ex,_⟩:=I.hok p _ hk;refine⟨⟨o,e,ex.1⟩,λa g=>?_⟩;cases g;exact⟨o,e,ex.2.1⟩
 |_=>exact False.elim ty
def jO(K:Ac)(T:String)(r:V->List V->Hp->VK->Prop)(to:TE)(t:TA):TE:=λσ H Q=>to σ H λx H1=>Y2 K T x H1/\t σ H1 λxs a=>r x xs a Q
variable {o:Re}{es:List Re}{to:TE}{t:TA}{name:Str}{apos cpos:Pos}{id:String}{r:V->List V->Hp->VK->Prop}
def WM(m:PlainAttrs T)(slot:Slot T name id)(l:typeOf (.builtin id)=pure (.type "method_descriptor"))(hm:Ss X id r)(q:PE X o to)(u:PA X (e::es) t)(f:attributeBase o name X.env (eval o X.env)=eval o X.env:=by rfl)(j:((backTo cpos<|starEach (e::es) X.env).all (λx=>!x.1)&&(backToKw cpos<|keywordEach [] X.env).all (λx=>x.1.isSome)
   &&decide ((e::es).length+([]:List Keyword).length+(if([]:List Keyword).isEmpty then 0 else 1)<30))=true:=by rfl)
  (g:(apos.endLine==cpos.line)=true:=by rfl) (w:Qqb X.env e es:=by rfl) (c:Qqc cpos es X.env:=by rfl):
  PE X (.Call (.Attribute o name apos) (e::es) [] cpos) (jO X.K T r to t):=by
 intro qp s σ H Q I h;refine wpAny_Call_method_late f j g rfl<|HB (q qp s σ H _ I h) ?_;rintro v s1 ⟨x,H1,a,i,ty,y⟩;obtain⟨z,A⟩:=pX a i ty;refine⟨T,id,m,slot,l,z,A,?_⟩;have n:=u cpos qp s1 σ H1 _ a y;rw[w]at n ⊢;refine EH (by show(false || (backTo cpos<|starEach es X.env).any (·.1))=false;rw[c]<;>rfl)<|Calls.evalArgs_plain ?_;exact HB n λus s2 ⟨B,C,E,F,G⟩=>hm qp s2 σ C x B v us Q E i F G
end
def MtM(X:Cx)(id:String)(r:V->List V->Hp->VK->Prop):Prop:=
 ∀(qp:List (KB×Obj)) (s:Shared) (σ:St) (H:Hp) (x:V) (xs:List V) (v:IR) (us:List IR) (Q:VK),Inv X qp σ H s->RelV x v->Vals xs us->r x xs H Q ->
  wpAny (KF X.prog X.w) X.A (call (.builtin id) (v::us)) (EP X qp σ Q) X.xe s
def Vals.one:∀{x:V}{us:List IR},Vals [x] us->∃u,us=[u]/\RelV x u
 |_,_,.cons r .nil=>⟨_,rfl,r⟩
def Vals.two{y:V}(h:Vals [x,y] us):∃u v,us=[u,v]/\RelV x u/\RelV y v:=by
 cases h with
 |cons r t=>
  cases t with
  |cons q t=>
   cases t;exact⟨_,_,rfl,r,q⟩
variable {t':Nat}
section
variable {l b:KB}{zs:List V}
def Inv.lset{f:Array IR->Array IR}(I:Inv X qp σ H s)(a:H l=some (.lst xs))(e:s.heap.get? l=some {cls:=.type "list",data:=.seq its.toArray n}) (hf:f its.toArray=its'.toArray) (c:Vals ys its') (g:ys.length<=sizeLine):
  Inv X qp σ (upd H l<|.lst ys) {s with heap:=s.heap.update l (BQ f),toks:=t'}:=by
 have q:=PySem.IsL.update e f;rw[hf]at q;refine I.write (x:=l) (e:=l) (by rw[a];exact trivial) (.inl rfl) (λh u i T=>(AO s.heap (BQ f)<|A3 i).trans T) ⟨_,q⟩ ?_;exact⟨g,its',_,c,q⟩
def Inv.lnew(I:Inv X qp σ H s)(a:Vals ys its)(c:ys.length<=sizeLine):
  Inv X qp σ (upd H s.heap.objs.size<|.lst ys) {s with heap:=s.heap.push {cls:=.type "list",data:=.seq its.toArray},toks:=t'}:=
 I.laid (λ_ _ q=>Ag _ q) (Ai _) ⟨c,its,0,a,Av _ rfl⟩
def Inv.fresh(I:Inv X qp σ H s):H s.heap.objs.size=none:=I.hok.fresh<|Ai _
def Inv.lstM(I:Inv X qp σ H s)(a:H l=some (.lst xs)):xs.length<=sizeLine/\∃(its:List IR) (n:Nat),Vals xs its/\xs.length=its.length/\s.heap.get? l=some {cls:=.type "list",data:=.seq its.toArray n}:=by obtain⟨z,its,n,r,e⟩:=I.hok l _ a;exact⟨z,its,n,r,r.length,e⟩
end
def tQ:V->List V->Hp->VK->Prop:=λx e H Q=>∃l xs y,x=.ref l/\e=[y]/\H l=some (.lst xs)/\xs.length<sizeLine/\Q .non (upd H l<|.lst<|xs++[y])
def fQ:MtM X "list.append" tQ:=by intro qp s σ H x c v us Q I rx T h;obtain⟨l,xs,y,rfl,rfl,i,f,q⟩:=h;cases rx;obtain⟨u,rfl,a⟩:=T.one;obtain⟨z,its,n,r,g,e⟩:=I.lstM i;refine Dx F.slot_list_append ⟨_,e,rfl⟩ F.entry_list_append (F.args_list_append_2 _ _) (PySem.list_append l its.toArray n u (by rw[AA];omega)) ⟨e,?_⟩;refine⟨.non,_,I.lset (its':=its++[u]) i e (by simp) (r.append<|.cons a .nil) ?_,rfl,q⟩;rw[AI,Dm];omega
def Zw:R2:=λx y H Q=>∃l b xs zs,x=.ref l/\y=.ref b/\H l=some (.lst xs)/\H b=some (.lst zs)/\xs.length+zs.length<=sizeLine/\∀p,H p=none->Q (.ref p) (upd H p<|.lst<|xs++zs)
def oG:Kd X (binaryOp .Add) Zw:=by
 intro qp s σ H x y v u Q I rx T h;obtain⟨l,b,xs,zs,rfl,rfl,a,c,o,q⟩:=h;cases rx;cases T;obtain⟨z,its,n,r,w,e⟩:=I.lstM a;obtain⟨A,i,B,f,g,j⟩:=I.lstM c;refine PySem.P.add_list e j ?_ (by rw[AA,AA];omega);have m:its.toArray++i.toArray=(its++i).toArray:=by simp
 rw[m];exact⟨.ref _,_,I.lnew (t':=s.toks) (r.append f) (by rw[AI];omega),rfl,q _ I.fresh⟩
section
variable {prog:P3}{w:UF}{A:Around}{E:Qqa}
set_option maxRecDepth 100000 in
end
end L2
namespace Att
open PySem PySem.W PySem.Calls PyProof.Rows
def zfK{P:Params}{h:Pv}:∀(ns:List Int) (c:List IR),WellAll P h c (ns.map WData.int)->IntsAre c ns:=by
 intro ns
 induction ns with
 |nil=>
  intro c w;rw[B8]at w;cases w;exact .nil
 |cons n ns ih=>
  intro c w;rw[Ax]at w;cases w with
  |cons a b=>
   cases a;exact .cons _ _<|ih _ b
def zl3{l:OpenLaw}{n:Nat}(s:l.most=some n){P:Params}{h:Pv}{args:List WData}{vals:List IR}(c:l.row.toRowW.claim.pre args=true) (i:WellAll P h vals args):
  ∃a m ns,vals=[Aw a]/\args=[WData.list (ns.map WData.int)]/\h.get? a=some {cls:=.type "list",data:=.seq m.toArray}/\IntsAre m ns/\ns.length<=n:=by
 have j:WShape.hasAll [] args [.list .int]=true:=(pre_splitW c).1;have o:l.pre.holds [] {args:=args}=true:=(pre_splitW c).2;obtain⟨d,r,rfl,u,v⟩:=hasAllW_cons j;obtain rfl:=hasAllW_nil v;obtain⟨xs,rfl,w⟩:=hasW_list u;obtain⟨ns,rfl⟩:=items_int w;have hlen:ns.length<=n:=by
  unfold OpenLaw.pre at o;have f:(WTm.not<|.lt (.lit<|.int (n:Int))<|.len<|.arg 0).holds [] {args:=[.list (ns.map .int)]}=true:=by have f:=(holds_andW o).1;rw[s]at f;exact f
  have g:=condW_of f<|w_not<|w_lt w_lit<|w_len_list<|w_arg rfl;rw[Ah]at g;refine Nat.le_of_not_lt λq=>?_;have x:(n:Int)<((ns.length:Nat):Int):=by omega
  first
   |(rw[decide_eq_true x]at g;exact absurd g (by decide))
   |(simp at g;omega)
 cases i with
 |cons y z=>
  cases z;cases y with
  |list A e=>exact⟨_,_,ns,rfl,rfl,A,zfK ns _ e,hlen⟩
def zl8(l:OpenLaw)(args:List WData):l.row.toRowW.claim.post args (.bool true) args=true:=
 postW_of (r:=l.row.toRowW) (X:=(true==true))
  (show WShape.has [] (.bool true) .bool=true by first|rfl|decide|simp[WShape.has,WShape.arms,WShape.armsAll])
  (show(WTm.eq .res<|.lit<|.bool true).value [] {args:=args,res:=some (.bool true),after:=args}=some (.bool<|true==true) from w_eq_bool (w_res rfl) w_lit) rfl
def Ma{l:OpenLaw}{n:Nat}{q:P3}{loose:List Str}{XP:(Str->Option IR)->Pv->Prop}{YP:UF->Pv->Prop}{d:DefRec}(A:l.most=some n) (j:d.params.defaults=[])(call:∀(w:UF) (s₀ s₁:Shared) (i m:Str->Option IR) (e:KB) (o:Obj) (pm cd doc:IR) (a:KB) (c:List IR) (ns:List Int),
   Ground q loose [] XP w s₀ i m s₁.heap->YP w s₁.heap ->
   s₁.heap.get? e=some o->o.data=.func (docDef d.name d.params d.body d.scope pm cd doc)->s₁.heap.CodeRec cd d.name->i d.name=some (.ref e) ->
   s₁.heap.get? a=some {cls:=.type "list",data:=.seq c.toArray}->IntsAre c ns->ns.length<=n->s₁.gens=#[] ->
   codeAny (KF l.prog w) callerA (.call (.ref e) ⟨[.ref a],[]⟩) (λr s'=>r=.ok (.ret<|.bool true)/\OldK s₁.heap s'.heap/\s'.os=s₁.os/\AllBare s'.gens) s₁):
  WalkO q loose XP YP l.row.toRowW d [] (λf c=>Gf f c):=by
 intro w s₀ s₁ i m G Y e o pm cd doc B kV C hd u y v E args vals as g z F x H;obtain rfl:B=.none:=Dflts.none y j;obtain rfl:kV=.none:=Dflts.noKw y;obtain⟨a,c,ns,rfl,rfl,h,hints,hlen⟩:=zl3 A g x;refine enter_call<|Du (call w s₀ s₁ i m e o pm cd doc a c ns G Y C (fd_plain hd) u v h hints hlen E) λr s' I=>?_;obtain⟨rfl,J,K,L⟩:=I;exact⟨.inl ⟨.bool true,.bool true,[],rfl,λ_=>rfl,.bool true,zl8 l _,λ_=>⟨C9,λ_ hm=>(nomatch hm)⟩⟩,J,K,L⟩
end Att
namespace L2
open PySem PySem.Spec PyProof.Rows
def gL:∀{a:List IR}{ns:List Int},IntsAre a ns->Vals (ns.map V.int) a
 |_,_,.nil=>.nil
 |_,_,.cons n t h=>.cons ⟨t,rfl⟩<|gL h
def Oo(H:Hp):Prop:=∀b,H b=none\/∃o xs,H b=some (.frz o<|.lst xs)
variable {P:P3}{w:UF}{K:Ac}{mg:Str->Option IR}{k:Nat}{fd:FuncData}{x:Str}{sp:Sp}
def yF{M:Str->Option IR}{CX:NR}{N a:KB}{x:Str}{s₁:Shared}{i:List IR}{ns:List Int}(X:K.In s₁.heap) (l:s₁.heap.Ns mainGlobals mg) (f:s₁.heap.Ns builtinsNs M) (Q:∀x:Str,x≠"__name__"->M x=bootBuiltins x) (y:s₁.heap.NoLimit) (hg:s₁.gens=#[])(L:s₁.heap.get? a=some {cls:=.type "list",data:=.seq i.toArray}) (hi:IntsAre i ns) (Y:ns.length<=sizeLine) (hr:HP k callerA)(F:∀base:Pv,K.In base->base.Ns mainGlobals mg->Ja P w K mg base CX k N fd [x] sp) (j:∀(s:Shared) (u:IR),BindsTo s fd ⟨[u],[]⟩ [(x,u)])(S:∀H:Hp,Oo H->Kc K H a (ns.map V.int)->sp [.ref a] H (λv _=>v=.bl true) λ_ _ _=>False)(T:∀H e s',CX [] H s₁ (λ_ _ _=>False) e s'->False):
  codeAny (KF P w) callerA (.call (.ref N) ⟨[.ref a],[]⟩) (λr s'=>r=.ok (.ret (.bool true))/\OldK s₁.heap s'.heap/\s'.os=s₁.os/\AllBare s'.gens) s₁:=by
 have Z:=gL hi;have A:=hi.length;have core:∀H:Hp,Oo H->Kc K H a (ns.map V.int)->JX P w H s₁.heap->(∀b,H b≠none->b=a)->(H a≠none->K.lookup a=none) ->
   codeAny (KF P w) callerA (.call (.ref N) ⟨[.ref a],[]⟩) (λr s'=>r=.ok (.ret (.bool true))/\OldK s₁.heap s'.heap/\s'.os=s₁.os/\AllBare s'.gens) s₁:=by
  intro H hO hS B hA hK;have c:∀{b:KB}{o:Obj},s₁.heap.get? b=some o->H b=none->(Ly s₁.heap H).get? b=some o:=λe n=>xX e n;have U:∀{b:KB}{o:Obj}{C:Array DictEntry}{E:Nat},s₁.heap.get? b=some o->o.data=.dict C E->H b=none:=λ{b o C E} e d=>by
   cases q:H b with
   |none=>rfl
   |some u=>
    have W:b=a:=hA b (by rw[q];simp);subst W;rw[L]at e;cases e;have d':Data.seq i.toArray _=Data.dict C E:=d;cases d'
  have g:∀{b:KB}{m:Str->Option IR},s₁.heap.Ns b m->(Ly s₁.heap H).Ns b m:=λ{b m} ⟨o,C,E,e,d,r⟩=>⟨o,C,E,c e (U e d),d,r⟩;have G:K.In (Ly s₁.heap H):=λb o e=>c (X b o e) (by
   cases q:H b with
   |none=>rfl
   |some u=>
    have W:b=a:=hA b (by rw[q];simp);subst W;rw[hK (by rw[q];simp)]at e;cases e)
  have hM:Mod K mg (Ly s₁.heap H):=⟨G,g l,⟨M,g f,Q⟩,let ⟨mc,h1,h2⟩:=y;⟨mc,g h1,h2⟩⟩;have e0:MW P w K mg (Ly s₁.heap H) callerA [] s₁ H:=⟨rfl,hM,λb o e=>vI e,Dy (zmC _ _),trivial,λb f=>absurd (show b∈([]:List KB) from f) (by simp),B,.of_eq hg⟩
  refine Du ((F _ G (g l)).run callerA [] s₁ H ⟨[.ref a],[]⟩ [.ref a] [.ref a] _ _ hr e0 (j s₁ (.ref a)) (.cons rfl .nil) (S H hO hS)) λr s' h=>?_;cases r with
  |error e=>exact(T H e s' h).elim
  |ok fl=>
   cases fl with
   |next=>exact False.elim h
   |brk=>exact False.elim h
   |cont=>exact False.elim h
   |ret u=>
    obtain⟨v,H',os,bare,un,I,r',q⟩:=h;have q':v=.bl true:=q;subst q';obtain rfl:u=CC true:=r';refine⟨rfl,OldK.of_keep λb o e=>?_,os,bare⟩;cases q:H b with
    |none=>exact un.keep b o e q (by intro z;exact absurd (show b∈([]:List KB) from z) (by simp)) (by simp)
    |some u=>
     rcases hO b with z|⟨ob,xs,z⟩
     ·rw[q]at z;cases z
     have z2:=un.frzs b ob _ z;obtain⟨e1,_⟩:=B b _ z;obtain⟨e2,_⟩:=I b _ z2;rw[e]at e1;cases e1;exact e2
 cases hk:K.lookup a with
 |some o=>
  have e:=X a o hk;rw[L]at e;cases e;refine core (λ_=>none) (λ_=>.inl rfl) (.inr ⟨_,i.toArray,_,hk,rfl,rfl,rfl,by rw[AA,A];exact Y,by simpa using Z⟩) (λb u z=>by have J:(none:Option HO)=some u:=z;cases J) (λb z=>absurd rfl z) λz=>absurd rfl z
 |none=>
  refine core (λb=>if b=a then some (.frz {cls:=.type "list",data:=.seq i.toArray} (.lst (ns.map V.int)))else none) (λb=>?_) (.inl (.inr ⟨{cls:=.type "list",data:=.seq i.toArray},if_pos rfl⟩)) (λb u z=>?_) (λb z=>?_) λ_=>hk
  ·by_cases f:b=a
   ·exact .inr ⟨_,_,if_pos f⟩
   exact .inl (if_neg f)
  ·by_cases f:b=a
   ·have J:=(if_pos f).symm.trans z;cases J;subst f;exact⟨L,by rw[Ah];exact Y,i,_,Z,L⟩
   have J:=(if_neg f).symm.trans z;cases J
  ·by_cases f:b=a
   ·exact f
   exact absurd (if_neg f) z
variable {n:Nat}
def Py{l:PySem.W.OpenLaw}{q:P3}{loose:List Str}{XP:(Str->Option IR)->Pv->Prop}{YP:UF->Pv->Prop}{d:DefRec}{K:Params->Ac}{CX:UF->NR}{sp:UF->Sp}(C:l.most=some n) (j:n<=sizeLine) (m:d.params.defaults=[]) (E:HP k callerA)(I:∀(w:UF) (h:Pv),YP w h->(K w.params).In h)(F:∀(w:UF) (mg:Str->Option IR) (i:KB) (h:Pv),(K w.params).In h->h.Ns mainGlobals mg->mg d.name=some (.ref i) ->
   ∃fd:FuncData,(∀(s:Shared) (u:IR),BindsTo s fd ⟨[u],[]⟩ [(x,u)]) /\
    ∀base:Pv,(K w.params).In base->base.Ns mainGlobals mg->Ja l.prog w (K w.params) mg base (CX w) k i fd [x] (sp w))
  (r:∀(w:UF) (H:Hp) (a:KB) (ns:List Int),ns.length<=n->Oo H->Kc (K w.params) H a (ns.map V.int)->sp w [.ref a] H (λv _=>v=.bl true) λ_ _ _=>False)
  (y:∀(w:UF) (H:Hp) (s:Shared) (e:IR) (s':Shared),CX w [] H s (λ_ _ _=>False) e s'->False):
  PySem.W.WalkO q loose XP YP l.row.toRowW d [] (λf A=>Gf f A):=by
 refine Att.Ma C m λw s₀ s₁ mg U i o pm cd doc a A ns G Y X hd J z c hints hlen L=>?_;have B:=I w _ Y;obtain⟨fd,M,N⟩:=F w mg i _ B G.T.g z;exact yF B G.T.g G.T.b G.T.builtins G.T.nolimit L c hints (Ar hlen j) E N M (λH Q S=>r w H a ns hlen Q S) λH e s'=>y w H s₁ e s'
def inClass(s:W1)(j:Nat):W1:=match s with
 |.ClassDef _ _ _ body _ _ _ _ _ _ _=>body.getD j<|.Pass ⟨0,0,0,0⟩
 |_=>.Pass ⟨0,0,0,0⟩
noncomputable abbrev LJ:NR:=λ_ _ _ _ _ _=>False
noncomputable abbrev E0:XK:=λ_ _ _=>False
variable {X:Cx}
def G8:Passes LJ X E0:=λ_ _ _ _ _ _ _ h=>h.elim
structure Nd(K:Ac)(x qual:Str)(st:W1)(f:KB)(fd:FuncData):Prop where
 ex:∃(oc:IR) (od:Option KB) (kV doc pm:IR) (an:Option KB) (cdv ct:IR) (osl:Array (Option IR)),
  fd=BU x qual (OV st) (Ln st) (Jl st) .none kV doc pm an cdv ct/\K.lookup f=some ⟨oc,od,.func fd,osl⟩/\C5 K cdv qual=true
 kp:BF K (.ref f)=true
variable {qual:Str}{st:W1}{f:KB}{ps:List Str}
section
variable {base:Pv}
def Nd.ok{N:List Str}(F:Nd K x qual st f fd)(S:IQ N ps (Jl st))(len:∀c H Q E,sp c H Q E->c.length=ps.length)(e:∀(a:IR) (A:Around) (outer:List Env) (s:Shared) (H:Hp) (c:List V) (Q:VK) (E:XK),HP k (A.deeper<|envOfC qual (Jl st) s.heap.objs.size f a)->sp c H Q E ->
   ∃t,K4 (HM LJ P w K mg base N qual (Jl st) f a A outer s H E).nox (Ln st) t/\t {nx:=λ_ g=>Q .non g,rt:=Q} (start N c) H):Ja P w K mg base LJ (k+1) f fd ps sp:=by
 obtain⟨m,o,kV,doc,pm,an,a,r,i,rfl,j,n⟩:=F.ex;refine Z9 j n S len λA outer s H c Q E l X=>?_;obtain⟨t,h,q⟩:=e a A outer s H c Q E l X;exact⟨t,h.nox,q⟩
def Nd.binds(F:Nd K x qual st f fd)(h:∀(kV doc pm:IR) (an:Option KB) (a c:IR) (us:List IR),us.length=ps.length->bindArgs (BU x qual (OV st) (Ln st) (Jl st) .none kV doc pm an a c) ⟨us,[]⟩=pure (ps.zip us)):Binds K fd ps []:=by
 obtain⟨X,e,kV,doc,pm,an,a,c,n,rfl,g,w⟩:=F.ex;exact .all<|h kV doc pm an a c
def U9{x qual:Str}{st:W1}{h:IR}{i an:Option KB}{e:Array (Option IR)}{kV doc pm a g:IR}(l:K.lookup f=some ⟨h,i,.func<|BU x qual (OV st) (Ln st) (Jl st) .none kV doc pm an a g,e⟩)(c:C5 K a qual=true) (k:BF K (.ref f)=true):Nd K x qual st f (BU x qual (OV st) (Ln st) (Jl st) .none kV doc pm an a g):=⟨⟨h,i,kV,doc,pm,an,a,g,e,rfl,l,c⟩,k⟩
end
def HY{A:Around}(a:HP k A):A.units+1<cLine:=BV (DE (by decide:1<=64) _) a.units
def zlW(h:n<=1000):n<sizeLine:=BV h<|by decide
def pv(i:Nat){pos:Pos}(c:X.N[i]?=some x:=by rfl)(e:UD X.env.scope x:=by first|exact Bu rfl|exact Bq (Bu rfl)|exact Bq (Bq rfl))(hd:(x==("__debug__":Str))=false:=by decide)(a:(x==("__classdict__":Str))=false:=by decide):PE X (.Name x pos) (Ub i):=aV c e hd a
end L2
namespace L2.MP
open PySem PySem.Spec PyProof.Rows
inductive D where
 |non|bl (b:Bool)|int (i:Int)|str (x:Str)|tup (xs:List D)|ref (n:Nat)|kl (xs:List D)|fn (x:Str)|er (b:Bool) (c:Str) (f:Option (Str×Int))
inductive O where
 |lst (xs:List D)|fz (xs:List D)|dk (kvs:List (Key×D))|dt (kvs:List (List Key×D))|fk (kvs:List (Key×D))|ft (kvs:List (List Key×D))|ob (C:KB) (fs:List (Str×D))|sz (n:Nat)|dz
noncomputable abbrev Hg:=List O
noncomputable abbrev HX:=List (Option D)
structure Kp(H H':Hp):Prop where
 tup:∀a xs,H a=some (.tup xs)->H' a=some (.tup xs)
 frz:∀a o u,H a=some (.frz o u)->H' a=some (.frz o u)
def Rg(K:Ac)(H:Hp)(a:KB)(xs:List V):Prop:=(∃o,H a=some (.frz o<|.lst xs))\/∃(o:Obj) (c:Array IR) (n:Nat),K.lookup a=some o/\o.cls=.type "list"/\o.dict=none/\o.data=.seq c n/\c.size<=sizeLine/\Vals xs c.toList
variable {K:Ac}{H:Hp}{a:KB}{xs:List V}
def Rg.sq(h:Rg K H a xs):Kc K H a xs:=by
 rcases h with h|h
 ·exact .inl<|.inr h
 exact .inr h
variable {H':Hp}
def Rg.kp(T:Kp H H')(h:Rg K H a xs):Rg K H' a xs:=by
 rcases h with⟨o,h⟩|h
 ·exact .inl ⟨o,T.frz _ _ _ h⟩
 exact .inr h
def KJ(K:Ac)(x:Str)(a:KB):Prop:=FB K mainGlobals x=some (some<|.ref a)
def Su(C a:KB)(c:Option KB)(h:Pv):Prop:=∃o fs,h.get? a=some o/\o.cls=.ref C/\o.dict=c/\o.data=.fields fs
def UJ(K:Ac)(H:Hp)(v:V)(c:Str):Option (Str×Int)->Prop
 |none=>∃a C o,v=.ref a/\KJ K c C/\H a=some (.frz o<|.ext<|Su C a none)
 |some (f,n)=>∃a C o e g,v=.ref a/\KJ K c C/\H a=some (.frz o<|.ext<|Su C a<|some e)/\H e=some (.frz g<|.xd [(f,.int n)])
variable {v:V}
def UJ.kp{c:Str}{f:Option (Str×Int)}(T:∀a o u,H a=some (.frz o u)->(∀g,u≠.dT g)->H' a=some (.frz o u))(h:UJ K H v c f):UJ K H' v c f:=by
 cases f with
 |none=>
  obtain⟨a,C,o,e,q,r⟩:=h;exact⟨a,C,o,e,q,T _ _ _ r<|by simp⟩
 |some p=>
  obtain⟨a,C,o,i,j,e,q,r,z⟩:=h;exact⟨a,C,o,i,j,e,q,T _ _ _ r<|by simp,T _ _ _ z<|by simp⟩
mutual
def Rep(K:Ac)(H:Hp)(io:List KB):V->D->Prop
 |v,.non=>v=.non
 |v,.bl b=>v=.bl b
 |v,.int i=>v=.int i
 |v,.str x=>v=.str x
 |v,.tup ds=>∃a xs,v=.ref a/\H a=some (.tup xs)/\Hl K H io xs ds
 |v,.ref n=>∃a,v=.ref a/\io[n]?=some a
 |v,.kl ds=>∃a xs,v=.ref a/\Rg K H a xs/\Hl K H io xs ds
 |v,.fn x=>∃a,v=.ref a/\KJ K x a
 |v,.er b c f=>b=true/\UJ K H v c f
def Hl(K:Ac)(H:Hp)(io:List KB):List V->List D->Prop
 |xs,[]=>xs=[]
 |xs,d::ds=>∃y c,xs=y::c/\Rep K H io y d/\Hl K H io c ds
end
variable {io ka:List KB}
mutual
theorem Rep.mono{K:Ac}{H c:Hp}{io ka:List KB}(T:Kp H c):∀{v:V}{d:D},Rep K H io v d->Rep K c (io++ka) v d
 |_,.non,h=>h
 |_,.bl _,h=>h
 |_,.int _,h=>h
 |_,.str _,h=>h
 |_,.tup ds,h=>by obtain⟨a,xs,e,q,r⟩:=h;exact⟨a,xs,e,T.tup a xs q,Hl.mono T r⟩
 |_,.ref n,h=>by obtain⟨a,e,q⟩:=h;exact⟨a,e,by rw[AL (KM.mp q).1];exact q⟩
 |_,.kl ds,h=>by obtain⟨a,xs,e,q,r⟩:=h;exact⟨a,xs,e,q.kp T,Hl.mono T r⟩
 |_,.fn _,h=>h
 |_,.er _ _ _,h=>⟨h.1,h.2.kp λa o u q _=>T.frz a o u q⟩
theorem Hl.mono{K:Ac}{H a:Hp}{io ka:List KB}(T:Kp H a):∀{xs:List V}{ds:List D},Hl K H io xs ds->Hl K a (io++ka) xs ds
 |_,[],h=>h
 |_,d::ds,h=>by obtain⟨y,c,e,r,rs⟩:=h;exact⟨y,c,e,Rep.mono T r,Hl.mono T rs⟩
end
variable {H1 H2:Hp}{kb:List KB}{st st':Hg}{d:D}{o:HO}{ρ:HX}{p:KB}{ob:O}
section
variable {ys:List V}{ds es:List D}
def Hl.length:∀{xs:List V}{ds:List D},Hl K H io xs ds->xs.length=ds.length
 |_,[],h=>by rw[show _=[] from h];rfl
 |_,d::ds,h=>by obtain⟨y,ys,e,_,rs⟩:=h;rw[e,AB,AB,Hl.length rs]
def Hl.get:∀{xs:List V}{ds:List D}{i:Nat}{d:D},Hl K H io xs ds->ds[i]?=some d->∃v,xs[i]?=some v/\Rep K H io v d
 |_,[],_,_,_,e=>by simp at e
 |_,a::ds,0,d,h,e=>by
  obtain⟨y,ys,rfl,r,_⟩:=h;have o:a=d:=by simpa using e
  subst o;exact⟨y,rfl,r⟩
 |_,a::ds,i+1,d,h,e=>by obtain⟨y,ys,rfl,_,rs⟩:=h;exact Hl.get (i:=i) rs<|by simpa using e
def Hl.append:∀{xs ys:List V}{ds es:List D},Hl K H io xs ds->Hl K H io ys es->Hl K H io (xs++ys) (ds++es)
 |_,_,[],_,h,q=>by rw[show _=[] from h];exact q
 |_,_,d::ds,_,h,q=>by obtain⟨y,ys,rfl,r,rs⟩:=h;exact⟨y,_,rfl,r,Hl.append rs q⟩
def Hl.set:∀{xs:List V}{ds:List D}{v:V}{d:D} (i:Nat),Hl K H io xs ds->Rep K H io v d->Hl K H io (xs.set i v) (ds.set i d)
 |_,[],_,_,_,h,_=>by rw[show _=[] from h];exact rfl
 |_,a::ds,v,d,0,h,q=>by obtain⟨y,ys,rfl,_,rs⟩:=h;exact⟨v,ys,rfl,q,rs⟩
 |_,a::ds,v,d,i+1,h,q=>by obtain⟨y,ys,rfl,r,rs⟩:=h;exact⟨y,_,rfl,r,Hl.set i rs q⟩
def Hl.take:∀{xs:List V}{ds:List D} (n:Nat),Hl K H io xs ds->Hl K H io (xs.take n) (ds.take n)
 |_,[],n,h=>by rw[show _=[] from h];simp[Hl]
 |_,_::_,0,_=>by simp[Hl]
 |_,d::ds,n+1,h=>by obtain⟨y,ys,rfl,r,rs⟩:=h;exact⟨y,_,rfl,r,Hl.take n rs⟩
def Hl.drop:∀{xs:List V}{ds:List D} (n:Nat),Hl K H io xs ds->Hl K H io (xs.drop n) (ds.drop n)
 |_,[],n,h=>by rw[show _=[] from h];simp[Hl]
 |_,_::_,0,h=>h
 |_,d::ds,n+1,h=>by obtain⟨y,ys,rfl,r,rs⟩:=h;exact Hl.drop n rs
theorem Hl.nil:Hl K H io [] []:=rfl
def Hl.cons(r:Rep K H io v d)(rs:Hl K H io xs ds):Hl K H io (v::xs) (d::ds):=⟨v,xs,rfl,r,rs⟩
def Hl.one(r:Hl K H io xs [d]):∃v,xs=[v]/\Rep K H io v d:=by
 obtain⟨y,ys,rfl,r,e⟩:=r;cases (show ys=[] from e)
 exact⟨y,rfl,r⟩
def Hl.two{e:D}(r:Hl K H io xs [d,e]):∃v u,xs=[v,u]/\Rep K H io v d/\Rep K H io u e:=by obtain⟨y,ys,rfl,r,q⟩:=r;obtain⟨v,rfl,o⟩:=q.one;exact⟨y,v,rfl,r,o⟩
noncomputable abbrev KR (κ:Type) (K:Ac) (H:Hp) (io:List KB):List (κ×V)->List (κ×D)->Prop:=Paired λ(p:κ×V) (q:κ×D)=>p.1=q.1/\Rep K H io p.2 q.2
def Z1(a:KB)(n:Nat)(h:Pv):Prop:=∃o es c t,h.get? a=some o/\o.ExactSet/\o.data=.set es c t/\es.size<scanBound/\t.fits es.size=true/\es.size=n
def jZ(a:KB)(h:Pv):Prop:=∃o es c,h.get? a=some o/\o.ExactDict/\o.data=.dict es c
def OR(K:Ac)(H:Hp)(io:List KB)(a:KB):O->Prop
 |.lst ds=>∃xs,H a=some (.lst xs)/\Hl K H io xs ds
 |.fz ds=>∃o xs,H a=some (.frz o<|.lst xs)/\Hl K H io xs ds
 |.dk kvs=>∃c,H a=some (.dK c)/\KR Key K H io c kvs
 |.dt kvs=>∃c,H a=some (.dT c)/\KR (List Key) K H io c kvs
 |.fk kvs=>∃o c,H a=some (.frz o<|.dK c)/\KR Key K H io c kvs
 |.ft kvs=>∃o c,H a=some (.frz o<|.dT c)/\KR (List Key) K H io c kvs
 |.ob C fs=>∃e c,H a=some (.ins C e c)/\KR Str K H io c fs
 |.sz n=>H a=some (.ext<|Z1 a n)
 |.dz=>H a=some (.ext<|jZ a)
structure Hw(K:Ac)(H:Hp)(io:List KB)(st:Hg):Prop where
 len:io.length=st.length
 nd:io.Nodup
 ob:∀(n:Nat) (a:KB) (o:O),io[n]?=some a->st[n]?=some o->OR K H io a o
structure Hz(K:Ac)(H:Hp)(io:List KB)(σ:St)(ρ:HX):Prop where
 len:σ.length=ρ.length
 at_:∀(i:Nat) (d:D),ρ[i]?=some (some d)->∃v,σ[i]?=some (some v)/\Rep K H io v d
structure Ext(io ka:List KB)(H H':Hp):Prop where
 keep:∀b o,H b=some o->b∉io->H' b=some o
 fresh:∀b,b∈ka->H b=none
 frz:∀b o u,H b=some (.frz o u)->H' b=some (.frz o u)
def OR.stands{o:O}(h:OR K H io a o):∃u,H a=some u/\∀xs,u≠.tup xs/\∀ob,u≠.frz ob (.tup xs):=by
 cases o with
 |lst ds=>obtain⟨xs,e,_⟩:=h;exact⟨_,e,λ_=>⟨by simp,by simp⟩⟩
 |fz ds=>obtain⟨ob,xs,e,_⟩:=h;exact⟨_,e,λ_=>⟨by simp,by simp⟩⟩
 |dk c=>obtain⟨xs,e,_⟩:=h;exact⟨_,e,λ_=>⟨by simp,by simp⟩⟩
 |dt c=>obtain⟨xs,e,_⟩:=h;exact⟨_,e,λ_=>⟨by simp,by simp⟩⟩
 |fk c=>obtain⟨ob,xs,e,_⟩:=h;exact⟨_,e,λ_=>⟨by simp,by simp⟩⟩
 |ft c=>obtain⟨ob,xs,e,_⟩:=h;exact⟨_,e,λ_=>⟨by simp,by simp⟩⟩
 |ob C fs=>obtain⟨f,xs,e,_⟩:=h;exact⟨_,e,λ_=>⟨by simp,by simp⟩⟩
 |sz n=>exact⟨_,h,λ_=>⟨by simp,by simp⟩⟩
 |dz=>exact⟨_,h,λ_=>⟨by simp,by simp⟩⟩
def Hw.mem(S:Hw K H io st)(h:a∈io):∃u,H a=some u/\∀xs,u≠.tup xs/\∀ob,u≠.frz ob (.tup xs):=by
 obtain⟨n,o,e⟩:=CM h;have c:io[n]?=some a:=by rw[Ap o,e]
 have f:n<st.length:=by rw[<-S.len];exact o
 exact(S.ob n a _ c<|Ap f).stands
def Ext.sqT(S:Hw K H io st)(E:Ext io ka H H'):∀a xs,H a=some (.tup xs)->H' a=some (.tup xs):=by intro a xs h;refine E.keep _ _ h λm=>?_;obtain⟨u,e,q⟩:=S.mem m;rw[h]at e;exact(q xs).1 (As e).symm
def Ext.kp(S:Hw K H io st)(E:Ext io ka H H'):Kp H H':=⟨E.sqT S,E.frz⟩
def Ext.refl:Ext io [] H H:=⟨λ_ _ h _=>h,λ_ h=>absurd h (by simp),λ_ _ _ h=>h⟩
def Ext.trans(S1:Hw K H1 (io++ka) st)(E1:Ext io ka H H1)(E2:Ext (io++ka) kb H1 H2):Ext io (ka++kb) H H2 where
 keep:=λb o h n=>E2.keep b o (E1.keep b o h n) λm=>by
  rcases SZ.mp m with m|m
  ·exact n m
  rw[E1.fresh b m]at h;cases h
 fresh:=λb m=>by
  rcases SZ.mp m with m|m
  ·exact E1.fresh b m
  ·have a:=E2.fresh b m
   cases e:H b with
   |none=>rfl
   |some o=>
    by_cases c:b∈io
    ·obtain⟨u,f,_⟩:=S1.mem<|B4 _ c;rw[f]at a;cases a
    rw[E1.keep b o e c]at a;cases a
 frz:=λb o u h=>E2.frz b o u (E1.frz b o u h)
def Ext.app(E:Ext io (ka++[]) H H'):Ext io ka H H':=by rw[Am]at E;exact E
def Rep.ext(S:Hw K H io st)(E:Ext io ka H H')(h:Rep K H io v d):Rep K H' (io++ka) v d:=Rep.mono (E.kp S) h
def Hl.ext(S:Hw K H io st)(E:Ext io ka H H')(h:Hl K H io xs ds):Hl K H' (io++ka) xs ds:=Hl.mono (E.kp S) h
def Hz.ext{σ:St}{ρ:HX}(h:Hz K H io σ ρ)(S:Hw K H io st)(E:Ext io ka H H'):Hz K H' (io++ka) σ ρ:=⟨h.len,λi d e=>let ⟨v,q,r⟩:=h.at_ i d e;⟨v,q,r.ext S E⟩⟩
def Hz.set{σ:St}{ρ:HX}{v:V}{d:D}(i:Nat)(h:Hz K H io σ ρ)(r:Rep K H io v d):Hz K H io (σ.set i<|some v) (ρ.set i<|some d):=by
 refine⟨by rw[Co,Co];exact h.len,λj e q=>?_⟩
 by_cases hij:i=j
 ·subst hij;rw[Da]at q;rw[if_pos rfl]at q
  split at q
  ·rename_i o
   cases (As<|As q)
   exact⟨v,by rw[Da,if_pos rfl,if_pos (by rw[h.len];exact o)],r⟩
  ·cases q
 rw[AG hij]at q;obtain⟨u,a,c⟩:=h.at_ j e q;exact⟨u,by rw[AG hij];exact a,c⟩
def Hw.nil(S:Hw K H io st):Hw K H (io++[]) st:=by rw[Am];exact S
def KR.mono{κ:Type}{a:List (κ×V)}{kvs:List (κ×D)}(T:Kp H H')(h:KR κ K H io a kvs):KR κ K H' (io++ka) a kvs:=Paired.mapP h λ_ _ z=>⟨z.1,Rep.mono T z.2⟩
def OR.mono{a:KB}{o:O}(T:Kp H H')(e:H' a=H a)(h:OR K H io a o):OR K H' (io++ka) a o:=by
 cases o with
 |lst ds=>obtain⟨xs,q,r⟩:=h;exact⟨xs,e.trans q,Hl.mono T r⟩
 |fz ds=>obtain⟨ob,xs,q,r⟩:=h;exact⟨ob,xs,e.trans q,Hl.mono T r⟩
 |dk c=>obtain⟨xs,q,r⟩:=h;exact⟨xs,e.trans q,KR.mono T r⟩
 |dt c=>obtain⟨xs,q,r⟩:=h;exact⟨xs,e.trans q,KR.mono T r⟩
 |fk c=>obtain⟨ob,xs,q,r⟩:=h;exact⟨ob,xs,e.trans q,KR.mono T r⟩
 |ft c=>obtain⟨ob,xs,q,r⟩:=h;exact⟨ob,xs,e.trans q,KR.mono T r⟩
 |ob C fs=>obtain⟨f,xs,q,r⟩:=h;exact⟨f,xs,e.trans q,KR.mono T r⟩
 |sz n=>exact e.trans h
 |dz=>exact e.trans h
def Vl(S:Hw K H io st)(c:H p=none):Ext io [] H (upd H p o)/\Hw K (upd H p o) (io++[]) st:=by
 have E:Ext io [] H (upd H p o):=⟨λb u h _=>by rw[HW (Ka h c)];exact h,λ_ h=>absurd h (by simp),λb u v h=>by rw[HW (Ka h c)];exact h⟩
 refine⟨E,?_⟩;refine⟨by rw[Am];exact S.len,by rw[Am];exact S.nd,λn a ob e f=>?_⟩;rw[Am]at e;obtain⟨u,g,_⟩:=(S.ob n a ob e f).stands;exact OR.mono (E.kp S) (HW<|Ka g c)<|S.ob n a ob e f
def U4(S:Hw K H io st)(f:H p=none)(new:∀l,Kp H l->l p=some o->OR K l (io++[p]) p ob):Ext io [p] H (upd H p o)/\Hw K (upd H p o) (io++[p]) (st++[ob]):=by
 have E:Ext io [p] H (upd H p o):=⟨λb u h _=>by rw[HW (Ka h f)];exact h,λb h=>by rw[Os.mp h];exact f,λb u v h=>by rw[HW (Ka h f)];exact h⟩
 have np:p∉io:=λm=>by obtain⟨u,j,_⟩:=S.mem m;rw[f]at j;cases j
 refine⟨E,by simp[S.len],?_,λn a g c i=>?_⟩
 ·rw[D0];refine⟨S.nd,by simp,λa q b r=>?_⟩;rw[Os.mp r];rintro rfl;exact np q
 ·by_cases hn:n<io.length
  ·rw[AL hn]at c;rw[AL (by rw[<-S.len];exact hn)]at i;obtain⟨u,j,_⟩:=(S.ob n a g c i).stands;exact OR.mono (E.kp S) (HW<|Ka j f)<|S.ob n a g c i
  ·have s:n<(io++[p]).length:=(KM.mp c).1;rw[AI,Dm]at s;have e:n=io.length:=by omega
   subst e;rw[AX (Ai _),Dz]at c;rw[S.len,AX (Ai _),Dz]at i;cases (As c);cases (As i);exact new _ (E.kp S) KY
def To{n:Nat}{o:HO}{old:O}(S:Hw K H io st)(f:io[n]?=some p)(q:st[n]?=some old)(nf:∀o u,H p≠some (.frz o u))(new:∀g,Kp H g->g p=some o->OR K g (io++[]) p ob):Ext io [] H (upd H p o)/\Hw K (upd H p o) (io++[]) (st.set n ob):=by
 have l:p∈io:=AD f;have E:Ext io [] H (upd H p o):=⟨λb u h nb=>by rw[HW (λe=>nb (by rw[e];exact l))];exact h,λb h=>absurd h (by simp),λb u v h=>by
  by_cases hb:b=p
  ·subst hb;exact absurd h<|nf u v
  rw[HW hb];exact h⟩
 refine⟨E,by simp[S.len],by rw[Am];exact S.nd,λm a i h1 c=>?_⟩;rw[Am]at h1
 by_cases hm:m=n
 ·subst hm;rw[f]at h1
  cases (As h1);rw[Da,if_pos rfl]at c;split at c
  ·cases (As c)
   exact new _ (E.kp S) KY
  ·cases c
 ·rw[AG (λe=>hm e.symm)]at c;have j:a≠p:=λe=>by
   subst e;exact hm<|(List.getElem?_inj (KM.mp h1).1 S.nd).mp<|h1.trans f.symm
  exact OR.mono (E.kp S) (HW j)<|S.ob m a i h1 c
end
noncomputable abbrev ME:=HX->Hg->Option (D×Hg)
noncomputable abbrev MT:=HX->Hg->Option (Bool×Hg)
noncomputable abbrev MA:=HX->Hg->Option (List D×Hg)
inductive Fl where
 |nx (ρ:HX)|rt (d:D)|bk (ρ:HX)|ct (ρ:HX)
noncomputable abbrev MS:=HX->Hg->Option (Fl×Hg)
noncomputable abbrev MG:=D->HX->Hg->Option (HX×Hg)
noncomputable abbrev Ot:=List D->HX->Hg->Option (HX×Hg)
def Bh(K:Ac)(io:List KB)(H:Hp)(st':Hg)(d:D)(Q:VK):Prop:=∀v o ka,Ext io ka H o->Hw K o (io++ka) st'->Rep K o (io++ka) v d->Q v o
inductive tE (K:Ac) (m:ME) (σ:L2.St) (H:Hp) (Q:VK):Prop
 |mk (ρ:HX) (st:Hg) (io:List KB) (d:D) (st':Hg) (h1:Hz K H io σ ρ) (h2:Hw K H io st) (h3:m ρ st=some (d,st')) (h4:Bh K io H st' d Q)
inductive tT (K:Ac) (m:MT) (σ:L2.St) (H:Hp) (Q:Bool->Hp->Prop):Prop
 |mk (ρ:HX) (st:Hg) (io:List KB) (b:Bool) (st':Hg) (h1:Hz K H io σ ρ) (h2:Hw K H io st) (h3:m ρ st=some (b,st')) (h4:∀H' ka,Ext io ka H H'->Hw K H' (io++ka) st'->Q b H')
inductive tA (K:Ac) (m:MA) (σ:L2.St) (H:Hp) (Q:List V->Hp->Prop):Prop
 |mk (ρ:HX) (st:Hg) (io:List KB) (ds:List D) (st':Hg) (h1:Hz K H io σ ρ) (h2:Hw K H io st) (h3:m ρ st=some (ds,st')) (h4:∀vs H' ka,Ext io ka H H'->Hw K H' (io++ka) st'->Hl K H' (io++ka) vs ds->Q vs H')
def tS(K:Ac)(m:MS):TS:=λN σ H=>∃ρ st io f st',Hz K H io σ ρ/\Hw K H io st/\m ρ st=some (f,st') /\
 match f with
 |.nx ρ'=>∀σ' o ka,Ext io ka H o->Hw K o (io++ka) st'->Hz K o (io++ka) σ' ρ'->N.nx σ' o
 |.bk ρ'=>∀σ' o ka,Ext io ka H o->Hw K o (io++ka) st'->Hz K o (io++ka) σ' ρ'->N.bk σ' o
 |.ct ρ'=>∀σ' o ka,Ext io ka H o->Hw K o (io++ka) st'->Hz K o (io++ka) σ' ρ'->N.ct σ' o
 |.rt d=>Bh K io H st' d N.rt
inductive tG (K:Ac) (m:MG) (v:V) (σ:L2.St) (H:Hp) (Q:L2.St->Hp->Prop):Prop
 |mk (d:D) (ρ:HX) (st:Hg) (io:List KB) (ρ':HX) (st':Hg) (h0:Rep K H io v d) (h1:Hz K H io σ ρ) (h2:Hw K H io st) (h3:m d ρ st=some (ρ',st')) (h4:∀σ' H' ka,Ext io ka H H'->Hw K H' (io++ka) st'->Hz K H' (io++ka) σ' ρ'->Q σ' H')
inductive tGs (K:Ac) (m:Ot) (vs:List V) (σ:L2.St) (H:Hp) (Q:L2.St->Hp->Prop):Prop
 |mk (ds:List D) (ρ:HX) (st:Hg) (io:List KB) (ρ':HX) (st':Hg) (h0:Hl K H io vs ds) (h1:Hz K H io σ ρ) (h2:Hw K H io st) (h3:m ds ρ st=some (ρ',st')) (h4:∀σ' H' ka,Ext io ka H H'->Hw K H' (io++ka) st'->Hz K H' (io++ka) σ' ρ'->Q σ' H')
def SE(X:Cx)(e:Re)(m:ME):Prop:=PE X e<|tE X.K m
def SB(X:Cx)(e:Re)(m:MT):Prop:=PT X e<|tT X.K m
def SA(X:Cx)(es:List Re)(m:MA):Prop:=PA X es<|tA X.K m
def SS(X:Cx)(s:W1)(m:MS):Prop:=PS X s<|tS X.K m
def Mc(X:Cx)(s:List W1)(m:MS):Prop:=K4 X s<|tS X.K m
def SG(X:Cx)(e:Re)(m:MG):Prop:=PG X e<|tG X.K m
def UH(X:Cx)(e:List Re)(m:Ot):Prop:=Om X e<|tGs X.K m
variable {σ:L2.St}{b:Bool}{pos:Pos}{t u:TT}{x:Str}{Q:VK}{op:CmpOp}{s1:Hg}{rs:List Re}
section
variable {X:Cx}{e a b c:Re}{es:List Re}{st1 st2:W1}{rest body orelse:List W1}{m ma mb mc:ME}{mt mu:MT}{mm:MA}{ms mq mr:MS}{mg:MG}{mgs:Ot}
def PE.imp{t u:TE}(h:PE X e t)(k:∀σ H Q,u σ H Q->t σ H Q):PE X e u:=λa s σ H Q I q=>h a s σ H Q I<|k σ H Q q
def PT.imp(h:PT X e t)(k:∀σ H Q,u σ H Q->t σ H Q):PT X e u:=λa s σ H Q I q=>h a s σ H Q I<|k σ H Q q
def PA.imp{t u:TA}(h:PA X es t)(k:∀σ H Q,u σ H Q->t σ H Q):PA X es u:=λp a s σ H Q I q=>h p a s σ H Q I<|k σ H Q q
def PS.imp{t u:TS}(h:PS X st1 t)(k:∀N σ H,u N σ H->t N σ H):PS X st1 u:=λa s σ H N I q=>h a s σ H N I<|k N σ H q
def K4.imp{t u:TS}(h:K4 X rest t)(k:∀N σ H,u N σ H->t N σ H):K4 X rest u:=λa s σ H N I q=>h a s σ H N I<|k N σ H q
def PG.imp{t u:TG}(h:PG X e t)(k:∀v σ H Q,u v σ H Q->t v σ H Q):PG X e u:=λa s σ H v w Q I r q=>h a s σ H v w Q I r<|k v σ H Q q
def Om.imp{t u:O6}(h:Om X es t)(k:∀v σ H Q,u v σ H Q->t v σ H Q):Om X es u:=λa s σ H v w Q I r q=>h a s σ H v w Q I r<|k v σ H Q q
def Ht{α β:Type}{x:Option α}{f:α->Option β}{y:β}(h:x.bind f=some y):∃z,x=some z/\f z=some y:=by
 cases x with
 |none=>cases h
 |some z=>exact⟨z,rfl,h⟩
def Bh.now(h:Bh K io H st d Q)(S:Hw K H io st)(r:Rep K H io v d):Q v H:=h v H [] Ext.refl S.nil (by rw[Am];exact r)
def Bh.on(h:Bh K io H st' d Q)(f:Hw K H1 (io++ka) st)(E:Ext io ka H H1):Bh K (io++ka) H1 st' d Q:=λv a kb c e r=>
 h v a (ka++kb) (E.trans f c) (by rw[<-Aq];exact e) (by rw[<-Aq];exact r)
def mV(i:Nat):ME:=λρ st=>match ρ[i]? with
 |some (some d)=>some (d,st)
 |_=>none
def He(i:Nat)(h:X.N[i]?=some x:=by rfl)(f:UD X.env.scope x:=by first|exact Bu rfl|exact Bq (Bu rfl)|exact Bq (Bq rfl))(hd:(x==("__debug__":Str))=false:=by decide)(g:(x==("__classdict__":Str))=false:=by decide):SE X (.Name x pos) (mV i):=PE.imp (aV h f hd g) <| by
 rintro σ H Q ⟨ρ,st,io,d,st',E,S,e,k⟩;unfold mV at e;split at e
 ·rename_i a he;cases e;obtain⟨v,f,r⟩:=E.at_ i _ he;exact⟨v,f,k.now S r⟩
 ·cases e
def mK(d:D):ME:=λ_ st=>some (d,st)
def Hj{i j pos}:SE X (.Constant (.int i) j pos) (mK<|.int i):=PE.imp rJ <| by
 rintro σ H Q ⟨ρ,st,io,d,st',E,S,e,k⟩;cases e;exact k.now S rfl
def Pk{b j pos}:SE X (.Constant (.bool b) j pos) (mK<|.bl b):=PE.imp mC <| by
 rintro σ H Q ⟨ρ,st,io,d,st',E,S,e,k⟩;cases e;exact k.now S rfl
def HF{x j pos}:SE X (.Constant (.str x) j pos) (mK<|.str x):=PE.imp aU <| by
 rintro σ H Q ⟨ρ,st,io,d,st',E,S,e,k⟩;cases e;exact k.now S rfl
def KA{j pos}:SE X (.Constant .none j pos) (mK .non):=PE.imp qB <| by
 rintro σ H Q ⟨ρ,st,io,d,st',E,S,e,k⟩;cases e;exact k.now S rfl
def XC{z:Str}{t:Tok}(f:Gl X x)(hm:X.mg x=some (.str z t))(hd:(x==("__debug__":Str))=false:=by decide):SE X (.Name x pos) (mK<|.str z):=
 PE.imp (Xz f hm (v:=.str z) ⟨t,rfl⟩ hd) <| by
  rintro σ H Q ⟨ρ,st,io,d,st',E,S,e,k⟩;cases e;exact k.now S rfl
noncomputable abbrev G2:=D->D->Hg->Option (D×Hg)
inductive Ui (K:Ac) (g:G2) (x y:V) (H:Hp) (Q:VK):Prop
 |mk (dx dy:D) (st:Hg) (io:List KB) (d:D) (st':Hg) (h0:Rep K H io x dx) (h1:Rep K H io y dy) (h2:Hw K H io st) (h3:g dx dy st=some (d,st')) (h4:Bh K io H st' d Q)
def Jq(X:Cx)(f:IR->IR->Sem IR)(g:G2):Prop:=Kd X f<|Ui X.K g
def mB(g:G2)(ma mb:ME):ME:=λρ st=>(ma ρ st).bind λ(x,s1)=>(mb ρ s1).bind λ(y,s2)=>g x y s2
def VE{g:G2}(h:tE K (mB g ma mb) σ H Q):Ud (Ui K g) (tE K ma) (tE K mb) σ H Q:=by obtain⟨ρ,st,io,d,st',E,S,e,k⟩:=h;obtain⟨⟨x,s1⟩,X,e⟩:=Ht e;obtain⟨⟨y,s2⟩,f,i⟩:=Ht e;refine⟨ρ,st,io,x,s1,E,S,X,λv1 H1 c m a R1=>?_⟩;refine⟨ρ,s1,io++c,y,s2,E.ext S m,a,f,λv2 H2 j o u R2=>?_⟩;exact⟨x,y,s2,(io++c)++j,d,st',R1.ext a o,R2,u,i,(k.on a m).on u o⟩
def HI{op:Operator}{g:G2}(f:Jq X (binaryOp op) g)(i:SE X a ma)(j:SE X b mb):SE X (.BinOp a op b pos) (mB g ma mb):=PE.imp (mE f i j) λ_ _ _ h=>VE h
def LO{g:G2}(f:Jq X (PP op) g)(i:SE X a ma)(j:SE X b mb)(hm:behindInMarks op b=false):SE X (.Compare a [op] [b] pos) (mB g ma mb):=PE.imp (uT f i j hm) λ_ _ _ h=>VE h
def mT(m:ME):MT:=λρ st=>(m ρ st).bind λ(x,s1)=>match x with
 |.bl b=>some (b,s1)
 |_=>none
def Tg{b:Bool}(e:mT m ρ st=some (b,st')):m ρ st=some (.bl b,st'):=by
 obtain⟨⟨x,s1⟩,a,e⟩:=Ht e;dsimp only at e;split at e
 ·cases e;exact a
 ·cases e
def TX{Q:Bool->Hp->Prop}(h:tT K (mT m) σ H Q):tE K m σ H λx f=>∃b,x=.bl b/\Q b f:=by obtain⟨ρ,st,io,b,st',E,S,e,k⟩:=h;exact⟨ρ,st,io,_,st',E,S,Tg e,λv f ka a c o=>⟨b,o,k f ka a c⟩⟩
def Io{g:G2}(f:Jq X (PP op) g)(i:SE X a ma)(j:SE X b mb)(hm:behindInMarks op b=false):SB X (.Compare a [op] [b] pos) (mT<|mB g ma mb):=PT.imp (tN f i j hm) λσ H Q h=>VE (TX h)
def NV(h:SE X a m)(he:∀whole,isTrue a X.env whole=(do let v <-whole;standAt a.pos;holding [v] (truthy v)):=by intro _;rfl):SB X a (mT m):=PT.imp (eW h he) λσ H Q h=>by obtain⟨ρ,st,io,b,st',E,S,e,k⟩:=TX h;refine⟨ρ,st,io,b,st',E,S,e,λv o ka u x f=>?_⟩;obtain⟨c,g,q⟩:=k v o ka u x f;subst g;exact⟨c,rfl,q⟩
def Kj(m:MT):MT:=λρ st=>(m ρ st).map λ(b,s)=>(!b,s)
def M4(h:SB X a mt):SB X (.UnaryOp .Not a pos) (Kj mt):=PT.imp (qQ h) <| by
 rintro σ H Q ⟨ρ,st,io,b,st',E,S,e,k⟩;unfold Kj at e;cases c:mt ρ st with
 |none=>rw[c]at e;cases e
 |some p=>rw[c]at e;cases e;exact⟨ρ,st,io,_,_,E,S,c,λm ka o u=>k m ka o u⟩
def JY(m n:MT):MT:=λρ st=>(m ρ st).bind λ(b,s)=>if b=true then n ρ s else some (false,s)
def IF(m n:MT):MT:=λρ st=>(m ρ st).bind λ(b,s)=>if b=true then some (true,s)else n ρ s
def SW(X:Cx)(e:Re)(m:MT):Prop:=PW X e<|tT X.K m
def PW.imp(h:PW X e t)(k:∀σ H Q,u σ H Q->t σ H Q):PW X e u:=λw a s σ H Q I q=>h w a s σ H Q I<|k σ H Q q
def SW.sb(h:SW X a mt):SB X a mt:=PW.pt h
def Mj(f:SB X a mt):SW X (.BoolOp .And [a] pos) mt:=PL f
def OO(f:SB X a mt):SW X (.BoolOp .Or [a] pos) mt:=QY f
def fA{n:MT}{Q:Bool->Hp->Prop}{b:Bool}(E:Hz K H io σ ρ)(S:Hw K H io st)(X1:Ext io ka H H1)(g:Hw K H1 (io++ka) s1)(e:n ρ s1=some (b,st'))(k:∀f ka,Ext io ka H f->Hw K f (io++ka) st'->Q b f):tT K n σ H1 Q:=⟨ρ,s1,io++ka,b,st',E.ext S X1,g,e,λf kb a c=>k f (ka++kb) (X1.trans g a) (by rw[<-Aq];exact c)⟩
def LH(f:SB X a mt)(g:SW X (.BoolOp .And (b::rs) pos) mu):SW X (.BoolOp .And (a::b::rs) pos) (JY mt mu):=PW.imp (QZ f g) <| by
 rintro σ H Q ⟨ρ,st,io,v,st',E,S,e,k⟩;obtain⟨⟨x,s1⟩,o,e⟩:=Ht e;refine⟨ρ,st,io,x,s1,E,S,o,λH1 u c m=>?_⟩;cases x with
 |true=>rw[if_pos rfl];exact fA E S c m e k
 |false=>
  rw[if_neg (by decide)];have h:some (false,s1)=some (v,st'):=e;cases h;exact k H1 u c m
def LK(f:SB X a mt)(g:SW X (.BoolOp .Or (b::rs) pos) mu):SW X (.BoolOp .Or (a::b::rs) pos) (IF mt mu):=PW.imp (Uj f g) <| by
 rintro σ H Q ⟨ρ,st,io,v,st',E,S,e,k⟩;obtain⟨⟨x,s1⟩,o,e⟩:=Ht e;refine⟨ρ,st,io,x,s1,E,S,o,λH1 u c m=>?_⟩;cases x with
 |false=>rw[if_neg (by decide)];exact fA E S c m e k
 |true=>
  rw[if_pos rfl];have h:some (true,s1)=some (v,st'):=e;cases h;exact k H1 u c m
def JM(m n:ME):ME:=λρ st=>(mT m ρ st).bind λ(b,s)=>if b=true then n ρ s else some (.bl false,s)
def LZ(m n:ME):ME:=λρ st=>(mT m ρ st).bind λ(b,s)=>if b=true then some (.bl true,s)else n ρ s
def UY(m:ME):ME:=λρ st=>(mT m ρ st).map λ(b,s)=>(.bl !b,s)
def U5{n:ME}(E:Hz K H io σ ρ)(S:Hw K H io st)(f:Ext io ka H H1)(g:Hw K H1 (io++ka) s1)(e:n ρ s1=some (d,st'))(k:Bh K io H st' d Q):tE K n σ H1 Q:=⟨ρ,s1,io++ka,d,st',E.ext S f,g,e,k.on g f⟩
def Nk(f:SE X a ma):SE X (.BoolOp .And [a] pos) ma:=aS f
def Tr(f:SE X a ma):SE X (.BoolOp .Or [a] pos) ma:=aS f
def KU(f:SE X a ma)(g:SE X (.BoolOp .And (b::rs) pos) mb):SE X (.BoolOp .And (a::b::rs) pos) (JM ma mb):=PE.imp (rF f g) <| by
 rintro σ H Q ⟨ρ,st,io,v,st',E,S,e,k⟩;obtain⟨⟨x,s1⟩,o,e⟩:=Ht e;refine⟨ρ,st,io,.bl x,s1,E,S,Tg o,λv1 H1 u c m h=>⟨x,h,?_⟩⟩;cases x with
 |true=>rw[if_pos rfl];exact U5 E S c m e k
 |false=>
  rw[if_neg (by decide)];have i:some (D.bl false,s1)=some (v,st'):=e;cases i;exact k _ H1 u c m rfl
def SD(f:SE X a ma)(g:SE X (.BoolOp .Or (b::rs) pos) mb):SE X (.BoolOp .Or (a::b::rs) pos) (LZ ma mb):=PE.imp (mG f g) <| by
 rintro σ H Q ⟨ρ,st,io,v,st',E,S,e,k⟩;obtain⟨⟨x,s1⟩,o,e⟩:=Ht e;refine⟨ρ,st,io,.bl x,s1,E,S,Tg o,λv1 H1 u c m h=>⟨x,h,?_⟩⟩;cases x with
 |false=>rw[if_neg (by decide)];exact U5 E S c m e k
 |true=>
  rw[if_pos rfl];have i:some (D.bl true,s1)=some (v,st'):=e;cases i;exact k _ H1 u c m rfl
def pD(f:SE X a ma):SE X (.UnaryOp .Not a pos) (UY ma):=PE.imp (qC f) <| by
 rintro σ H Q ⟨ρ,st,io,v,st',E,S,e,k⟩;unfold UY at e;cases c:mT ma ρ st with
 |none=>rw[c]at e;cases e
 |some p=>
  rw[c]at e;cases e;exact⟨ρ,st,io,_,_,E,S,Tg c,λv1 H1 m o u x=>⟨_,x,k _ H1 m o u rfl⟩⟩
def MD(c:MT)(m n:ME):ME:=λρ st=>(c ρ st).bind λ(b,s)=>if b=true then m ρ s else n ρ s
def Vg(f:SB X c mt)(g:SE X a ma)(h:SE X b mb):SE X (.IfExp c a b pos) (MD mt ma mb):=PE.imp (xC f g h) <| by
 rintro σ H Q ⟨ρ,st,io,v,st',E,S,e,k⟩;obtain⟨⟨x,s1⟩,u,e⟩:=Ht e;refine⟨ρ,st,io,x,s1,E,S,u,λH1 i m o=>?_⟩;cases x with
 |true=>rw[if_pos rfl];exact U5 E S m o e k
 |false=>rw[if_neg (by decide)];exact U5 E S m o e k
end
end L2.MP
set_option linter.unusedVariables false
namespace L2.MP
open PySem PySem.Spec PyProof.Rows
variable {X:Cx}{e a b c i o tg iter:Re}{es:List Re}{st1 st2:W1}{rest body orelse:List W1}{pos pos':Pos}{m ma mb mc:ME}{mt mu:MT}{mm:MA}{ms mq mr:MS}{mg:MG}{mgs:Ot}{K:Ac}{H H1 H2:Hp}{io ka kb:List KB}{st st' s1:Hg}{α:Type}{x:Str}{ds:List D}{vs:List V}{Q:VK}{p:KB}{σ:L2.St}{T:String}{k n:Nat}{f:Fl}{fd:FuncData}{ρ:HX}{N:Ends}
def mZ:MA:=λ_ st=>some ([],st)
def Hc(m:ME)(mm:MA):MA:=λρ st=>(m ρ st).bind λ(x,s1)=>(mm ρ s1).bind λ(xs,s2)=>some (x::xs,s2)
def Hk:SA X [] mZ:=PA.imp aQ <| by
 rintro σ H Q ⟨ρ,st,io,ds,st',E,S,e,k⟩;cases e;exact k [] H [] Ext.refl S.nil Hl.nil
def Hf(g:SE X e m)(h:SA X es mm)(j:Qqb X.env e es:=by rfl):SA X (e::es) (Hc m mm):=PA.imp (Xw g h j) <| by rintro σ H Q ⟨ρ,st,io,ds,st',E,S,e,k⟩;obtain⟨⟨x,s1⟩,i,e⟩:=Ht e;obtain⟨⟨xs,s2⟩,n,e⟩:=Ht e;cases e;refine⟨ρ,st,io,x,s1,E,S,i,λv1 H1 c X1 a R1=>⟨ρ,s1,io++c,xs,_,E.ext S X1,a,n,λvs H2 o f u R2=>?_⟩⟩;exact k _ H2 (c++o) (X1.trans a f) (by rw[<-Aq];exact u) (by rw[<-Aq];exact Hl.cons (R1.ext a f) R2)
def fits(n:Nat):Bool:=decide (n<=sizeLine)
def mU(mm:MA):ME:=λρ st=>(mm ρ st).bind λ(xs,s)=>if fits xs.length=true then some (.tup xs,s)else none
def mL(mm:MA):ME:=λρ st=>(mm ρ st).bind λ(xs,s)=>if fits xs.length=true then some (.ref s.length,s++[.lst xs])else none
def JJ{c:Prop}[Decidable c]{x:Option α}{y:α}(h:(if c then x else none)=some y):c/\x=some y:=by
 by_cases hc:c
 ·rw[if_pos hc]at h;exact⟨hc,h⟩
 rw[if_neg hc]at h;cases h
def Bh.tup{ds:List D}{vs:List V}{Q:VK}{p:KB}(k:Bh K io H st (.tup ds) Q)(S:Hw K H io st)(R:Hl K H io vs ds)(g:H p=none):Q (.ref p) (upd H p<|.tup vs):=by obtain⟨E,a⟩:=Vl (o:=.tup vs) S g;refine k _ _ [] E a ⟨p,vs,rfl,KY,R.ext S E⟩
def getElem?_len(l:List α)(x:α):(l++[x])[l.length]?=some x:=by rw[AX (Ai _),Dz];rfl
def Bh.lst{ds:List D}{vs:List V}{Q:VK}{p:KB}(k:Bh K io H (st++[.lst ds]) (.ref st.length) Q)(S:Hw K H io st)(R:Hl K H io vs ds)(g:H p=none):Q (.ref p) (upd H p<|.lst vs):=by obtain⟨E,a⟩:=U4 (o:=.lst vs) (ob:=.lst ds) S g λc T e=>⟨vs,e,Hl.mono T R⟩;exact k _ _ [p] E a ⟨p,rfl,by rw[<-S.len];exact getElem?_len io p⟩
def Ls{x1}(h:SA X es mm):SE X (.Tuple es x1 pos) (mU mm):=PE.imp (qD h) <| by rintro σ H Q ⟨ρ,st,io,d,st',E,S,e,k⟩;obtain⟨⟨xs,s1⟩,c,e⟩:=Ht e;obtain⟨hf,e⟩:=JJ e;cases e;refine⟨ρ,st,io,xs,_,E,S,c,λvs H1 m f a R1=>⟨by rw[R1.length];exact of_decide_eq_true hf,λp i=>(k.on a f).tup a R1 i⟩⟩
def J8(h:SA X es mm):SE X (.List es pos) (mL mm):=PE.imp (rK h) <| by rintro σ H Q ⟨ρ,st,io,d,st',E,S,e,k⟩;obtain⟨⟨xs,s1⟩,c,e⟩:=Ht e;obtain⟨hf,e⟩:=JJ e;cases e;refine⟨ρ,st,io,xs,_,E,S,c,λvs H1 m f a R1=>⟨by rw[R1.length];exact of_decide_eq_true hf,λp i=>(k.on a f).lst a R1 i⟩⟩
noncomputable abbrev GN:=List D->Hg->Option (D×Hg)
inductive jQ (K:Ac) (g:GN) (xs:List V) (H:Hp) (Q:VK):Prop
 |mk (ds:List D) (st:Hg) (io:List KB) (d:D) (st':Hg) (h1:Hl K H io xs ds) (h2:Hw K H io st) (h3:g ds st=some (d,st')) (h4:Bh K io H st' d Q)
def Kw(X:Cx)(f:IR)(g:GN):Prop:=NB X f<|jQ X.K g
def Hi(g:GN)(mm:MA):ME:=λρ st=>(mm ρ st).bind λ(xs,s)=>g xs s
def gZ{g:GN}(h:tE K (Hi g mm) σ H Q):Zh (jQ K g) (tA K mm) σ H Q:=by obtain⟨ρ,st,io,d,st',E,S,e,k⟩:=h;obtain⟨⟨xs,s1⟩,c,e⟩:=Ht e;exact⟨ρ,st,io,xs,s1,E,S,c,λvs H1 f i a m=>⟨xs,s1,io++f,d,st',m,a,e,k.on a i⟩⟩
def eZ{p:Pos}{id:String}{g:GN}(q:Kw X (.builtin id) g)(r:Gl X x)(hm:X.mg x=none)(s:bootBuiltins x=some (.builtin id))(v:SA X (e::es) mm)(w:x≠"__name__":=by decide)(j:(x==("__debug__":Str))=false:=by decide)(he:Qqb X.env e es:=by rfl) (l:Qqc pos es X.env:=by rfl):SE X (.Call (.Name x p) (e::es) [] pos) (Hi g mm):=
 PE.imp (eU q r hm s v w j he l) λ_ _ _ h=>gZ h
def zl1{p:Pos}{g:GN}(q:Kw X (.type T) g)(r:Gl X x)(hm:X.mg x=none)(s:bootBuiltins x=some (.type T))(v:SA X (e::es) mm)(w:x≠"__name__":=by decide)(j:(x==("__debug__":Str))=false:=by decide)(he:Qqb X.env e es:=by rfl) (l:Qqc pos es X.env:=by rfl):SE X (.Call (.Name x p) (e::es) [] pos) (Hi g mm):=
 PE.imp (zma q r hm s v w j he l) λ_ _ _ h=>gZ h
def Qk(K:Ac)(n:Nat)(g:GN):Sp:=λvs H Q _=>∃ds st io d st',vs.length=n/\Hl K H io vs ds/\Hw K H io st/\g ds st=some (d,st')/\Bh K io H st' d Q
def uC{p:Pos}{f:KB}{l:List Str}{g:GN}(F:Ja X.prog X.w X.K X.mg X.base LJ k f fd l (Qk X.K n g))(q:HP k X.A)(r:Gl X x)(hm:X.mg x=some (.ref f))(hk:BF X.K (.ref f)=true)(v:Binds X.K fd l [])(y:SA X (e::es) mm) (h:(x==("__debug__":Str))=false:=by decide) (he:Qqb X.env e es:=by rfl) (j:Qqc pos es X.env:=by rfl) (B:(e::es).length=n:=by rfl)(z:∀ρ st xs s,mm ρ st=some (xs,s)->xs.length=n):
  SE X (.Call (.Name x p) (e::es) [] pos) (Hi g mm):=PE.imp (bX F q r hm hk v .nil G8 y h he j) <| by
 rintro σ H Q ⟨ρ,st,io,d,st',E,S,e,k⟩;obtain⟨⟨xs,s1⟩,a,e⟩:=Ht e;refine⟨ρ,st,io,xs,s1,E,S,a,λvs H1 i m c R1=>⟨xs,s1,io++i,d,st',?_,?_,c,e,k.on c m⟩⟩
 ·rw[Am,R1.length];exact z _ _ _ _ a
 rw[Am];exact R1
def yJ{xs:List D}{s:Hg}(h:mZ ρ st=some (xs,s)):xs.length=0:=by cases h;rfl
def zmq{ρ:HX}{st:Hg}{xs:List D}{s:Hg}(g:∀ρ st xs s,mm ρ st=some (xs,s)->xs.length=n)(h:Hc m mm ρ st=some (xs,s)):xs.length=n+1:=by obtain⟨⟨x,s1⟩,c,e⟩:=Ht h;obtain⟨⟨f,s2⟩,a,e⟩:=Ht e;cases e;rw[AB,g _ _ _ _ a]
def Wn(K:Ac)(io:List KB)(H:Hp)(st':Hg)(N:Ends):Fl->Prop
 |.nx ρ'=>∀σ' g ka,Ext io ka H g->Hw K g (io++ka) st'->Hz K g (io++ka) σ' ρ'->N.nx σ' g
 |.bk ρ'=>∀σ' g ka,Ext io ka H g->Hw K g (io++ka) st'->Hz K g (io++ka) σ' ρ'->N.bk σ' g
 |.ct ρ'=>∀σ' g ka,Ext io ka H g->Hw K g (io++ka) st'->Hz K g (io++ka) σ' ρ'->N.ct σ' g
 |.rt d=>Bh K io H st' d N.rt
inductive tSi (K:Ac) (m:MS) (N:Ends) (σ:L2.St) (H:Hp):Prop
 |mk (ρ:HX) (st:Hg) (io:List KB) (f:Fl) (st':Hg) (h1:Hz K H io σ ρ) (h2:Hw K H io st) (h3:m ρ st=some (f,st')) (h4:Wn K io H st' N f)
def Mi:tS K ms N σ H ↔ tSi K ms N σ H:=by
 constructor
 ·rintro⟨ρ,st,io,f,st',E,S,e,k⟩;exact⟨ρ,st,io,f,st',E,S,e,by cases f<;>exact k⟩
 rintro⟨ρ,st,io,f,st',E,S,e,k⟩;exact⟨ρ,st,io,f,st',E,S,e,by cases f<;>exact k⟩
def P9{P:L2.St->Hp->Prop}{ρ':HX}(h:∀σ' g ka,Ext io ka H g->Hw K g (io++ka) st'->Hz K g (io++ka) σ' ρ'->P σ' g)(X1:Ext io ka H H1)(j:Hw K H1 (io++ka) st):
  ∀σ' g kb,Ext (io++ka) kb H1 g->Hw K g ((io++ka)++kb) st'->Hz K g ((io++ka)++kb) σ' ρ'->P σ' g:=λσ' g kb a c e=>
 h σ' g (ka++kb) (X1.trans j a) (by rw[<-Aq];exact c) (by rw[<-Aq];exact e)
def Wn.on{N:Ends}{f:Fl}(h:Wn K io H st' N f)(g:Ext io ka H H1)(j:Hw K H1 (io++ka) st):Wn K (io++ka) H1 st' N f:=by
 cases f with
 |nx ρ'=>exact P9 h g j
 |bk ρ'=>exact P9 h g j
 |ct ρ'=>exact P9 h g j
 |rt d=>exact Bh.on h j g
def Pj(E:Hz K H io σ ρ)(S:Hw K H io st)(e:ms ρ st=some (f,st'))(w:Wn K io H st' N f):tS K ms N σ H:=Mi.mpr ⟨ρ,st,io,f,st',E,S,e,w⟩
def WK(h:Ext io ka H H1)(g:Hw K H1 (io++ka) s1)(E:Hz K H1 (io++ka) σ ρ)(e:ms ρ s1=some (f,st'))(w:Wn K io H st' N f):tS K ms N σ H1:=Pj E g e (w.on h g)
def Ia:MS:=λρ st=>some (.nx ρ,st)
def RP:Mc X [] Ia:=K4.imp vD λN σ H h=>by obtain⟨ρ,st,io,f,st',E,S,e,w⟩:=Mi.mp h;cases e;exact w σ H [] Ext.refl S.nil (by rw[Am];exact E)
def mS(m n:MS):MS:=λρ st=>(m ρ st).bind λ(f,s)=>match f with
 |.nx ρ1=>n ρ1 s
 |f=>some (f,s)
def zF(g:SS X st1 ms)(j:Mc X rest mq):Mc X (st1::rest) (mS ms mq):=K4.imp (eV g j) λN σ H h=>by
 obtain⟨ρ,st,io,f,st',E,S,e,w⟩:=Mi.mp h;obtain⟨⟨f1,s1⟩,a,e⟩:=Ht e;refine Pj E S a ?_;cases f1 with
 |nx ρ1=>exact λσ' n ka c i m=>WK c i m e w
 |bk ρ1=>cases e;exact w
 |ct ρ1=>cases e;exact w
 |rt d=>cases e;exact w
def xA(g:SS X st1 ms):Mc X [st1] ms:=XA g
def Lf(m:ME):MS:=λρ st=>(m ρ st).map λ(_,s)=>(.nx ρ,s)
def mR(m:ME):MS:=λρ st=>(m ρ st).map λ(d,s)=>(.rt d,s)
def IL{β:Type}{x:Option α}{f:α->β}{y:β}(h:x.map f=some y):∃z,x=some z/\f z=y:=by
 cases x with
 |none=>cases h
 |some z=>exact⟨z,rfl,As h⟩
def Tz(he:SE X e m)(g:swapsWith e none pos.line X.env=pure false:=by rfl):SS X (.Expr e pos) (Lf m):=PS.imp (vB he g) λN σ H h=>by obtain⟨ρ,st,io,f,st',E,S,e,w⟩:=Mi.mp h;obtain⟨⟨d,s1⟩,c,e⟩:=IL e;cases e;exact⟨ρ,st,io,d,_,E,S,c,λv i ka a n o=>w σ i ka a n (E.ext S a)⟩
def Im(he:SE X e m):SS X (.Return (some e) pos) (mR m):=PS.imp (qP he) λN σ H h=>by obtain⟨ρ,st,io,f,st',E,S,e,w⟩:=Mi.mp h;obtain⟨⟨d,s1⟩,a,e⟩:=IL e;cases e;exact⟨ρ,st,io,d,_,E,S,a,w⟩
def HS(c:MT)(m n:MS):MS:=λρ st=>(c ρ st).bind λ(b,s)=>if b=true then m ρ s else n ρ s
def kP(g:SB X c mt)(j:Mc X body ms)(l:Mc X orelse mq):SS X (.If c body orelse pos) (HS mt ms mq):=PS.imp (G9 g j l) λN σ H h=>by
 obtain⟨ρ,st,io,f,st',E,S,e,w⟩:=Mi.mp h;obtain⟨⟨x,s1⟩,m,e⟩:=Ht e;refine⟨ρ,st,io,x,s1,E,S,m,λH1 n a i=>?_⟩;cases x with
 |true=>rw[if_pos rfl];exact WK a i (E.ext S a) e w
 |false=>rw[if_neg (by decide)];exact WK a i (E.ext S a) e w
def Hq(i:Nat):MG:=λd ρ st=>some (ρ.set i (some d),st)
def uH{i:Nat}(g:X.N.Nodup)(hi:X.N[i]?=some x)(h:Loc X.env.scope x)(hf:X.fn x=true\/X.env.scope.names.lookup x=some .local:=by first|exact .inl rfl|exact .inr rfl|assumption):SG X (.Name x pos) (Hq i):=PG.imp (uV g hi h hf) <| by rintro v σ H Q ⟨d,ρ,st,io,ρ',st',R,E,S,e,k⟩;cases e;exact k _ H [] Ext.refl S.nil (by rw[Am];exact E.set i R)
def Lz:Ot:=λds ρ st=>match ds with
 |[]=>some (ρ,st)
 |_=>none
def gC(g:MG)(h:Ot):Ot:=λds ρ st=>match ds with
 |d::r=>(g d ρ st).bind λ(ρ1,s1)=>h r ρ1 s1
 |[]=>none
def QI:UH X [] Lz:=Om.imp uW <| by
 rintro v σ H Q ⟨ds,ρ,st,io,ρ',st',R,E,S,e,k⟩;cases ds with
 |nil=>cases e;exact⟨R,k σ H [] Ext.refl S.nil (by rw[Am];exact E)⟩
 |cons d r=>cases e
def Lu(g:SG X e mg)(h:UH X es mgs)(j:(assignEach (e::es) X.env).map (·.2)=assign e X.env::(assignEach es X.env).map (·.2):=by rfl):UH X (e::es) (gC mg mgs):=
 Om.imp (xD g h j) <| by
  rintro v σ H Q ⟨ds,ρ,st,io,ρ',st',R,E,S,e,k⟩;cases ds with
  |nil=>cases e
  |cons d r=>
   obtain⟨y,f,rfl,i,rs⟩:=R;obtain⟨⟨ρ1,s1⟩,m,e⟩:=Ht e;refine⟨y,f,rfl,d,ρ,st,io,ρ1,s1,i,E,S,m,λσ1 H1 n a c o=>?_⟩;exact⟨r,ρ1,s1,io++n,ρ',st',rs.ext S a,o,c,e,P9 k a c⟩
def Mm(n:Nat)(h:Ot):MG:=λd ρ st=>match d with
 |.tup ds=>if ds.length=n then h ds ρ st else none
 |_=>none
def RJ(j:X.calm=true)(h:UH X es mgs)(l:(assignEach es X.env).length=n:=by rfl)(g:(assignEach es X.env).findIdx? (·.1)=none:=by rfl):SG X (.Tuple es k pos) (Mm n mgs):=
 PG.imp (qG j h l g) <| by
  rintro v σ H Q ⟨d,ρ,st,io,ρ',st',R,E,S,e,k⟩;cases d with
  |tup ds=>
   obtain⟨a,xs,rfl,c,rs⟩:=R;obtain⟨f,e⟩:=JJ e;exact⟨a,xs,rfl,Je.of c,by rw[rs.length];exact f,ds,ρ,st,io,ρ',st',rs,E,S,e,k⟩
  |_=>cases e
noncomputable abbrev G3:=D->D->D->Hg->Option Hg
inductive Uc (K:Ac) (g:G3) (o i v:V) (H:Hp) (Q:Hp->Prop):Prop
 |mk (d1 d2 d3:D) (st:Hg) (io:List KB) (st':Hg) (h0:Rep K H io o d1) (h1:Rep K H io i d2) (h2:Rep K H io v d3) (h3:Hw K H io st) (h4:g d1 d2 d3 st=some st') (h5:∀H' ka,Ext io ka H H'->Hw K H' (io++ka) st'->Q H')
def UG(X:Cx)(g:G3):Prop:=Rh X<|Uc X.K g
def Q8(g:G3)(mo h:ME):MG:=λd ρ st=>(mo ρ st).bind λ(o,s1)=>(h ρ s1).bind λ(i,s2)=>(g o i d s2).map λs3=>(ρ,s3)
def pE{mo l:ME}{g:G3}(q:SE X o mo)(hi:SE X i l)(r:UG X g)(s:∀v,assign (.Subscript o i pos) X.env v=(do
   let h <-holding [v] (eval o X.env)
   let j <-holding [v,h] (eval i X.env)
   standAt pos
   holding [v,h,j] (setItem h j v)
   release [v,h,j] []):=by intro _;rfl):SG X (.Subscript o i pos) (Q8 g mo l):=
 PG.imp (qF q hi r s) <| by rintro v σ H Q ⟨d,ρ,st,io,ρ',st',R,E,S,e,k⟩;obtain⟨⟨x,s1⟩,T,e⟩:=Ht e;obtain⟨⟨y,s2⟩,w,e⟩:=Ht e;obtain⟨s3,z,e⟩:=IL e;cases e;refine⟨ρ,st,io,x,s1,E,S,T,λv1 H1 a X1 c R1=>⟨ρ,s1,io++a,y,s2,E.ext S X1,c,w,λv2 H2 m n f R2=>?_⟩⟩;have X12:=X1.trans c n;refine⟨x,y,d,s2,(io++a)++m,_,R1.ext c n,R2,(R.ext S X1).ext c n,f,z,λA B u N=>?_⟩;rw[Aq]at u f;rw[Aq,Aq]at N;refine k σ A ((a++m)++B) (X12.trans f u) (by simpa using N) ?_;have E2:Hz X.K H2 (io++(a++m)) σ ρ:=E.ext S X12;have:=E2.ext f u;simpa using this
def Hm(m:ME)(g:MG):MS:=λρ st=>(m ρ st).bind λ(d,s1)=>(g d ρ s1).map λ(ρ',s2)=>(.nx ρ',s2)
def zmZ(h:tS K (Hm m mg) N σ H):QV (tE K m) (tG K mg) N σ H:=by obtain⟨ρ,st,io,f,st',E,S,e,w⟩:=Mi.mp h;obtain⟨⟨x,s1⟩,i,e⟩:=Ht e;obtain⟨⟨ρ',s2⟩,n,e⟩:=IL e;cases e;exact⟨ρ,st,io,x,s1,E,S,i,λv1 H1 o a c u=>⟨x,ρ,s1,io++o,ρ',_,u,E.ext S a,c,n,P9 w a c⟩⟩
def Ve(he:SE X e m)(g:SG X tg mg)(j:swapsWithSole [tg] e pos.line X.env=pure false:=by rfl)(hw:swappedStores [tg] e X.env=pure none:=by rfl)(l:(assignEach [tg] X.env).map (·.2)=[assign tg X.env]:=by rfl):SS X (.Assign [tg] e pos) (Hm m mg):=PS.imp (qK he g j hw l) λ_ _ _ h=>zmZ h
def bE{i:Nat}(g:X.N.Nodup)(hi:X.N[i]?=some x)(j:Loc X.env.scope x)(he:SE X e m)(l:swapsWith e (some<|.Name x pos') pos.line X.env=pure false:=by rfl)(hf:X.fn x=true\/X.env.scope.names.lookup x=some .local:=by first|exact .inl rfl|exact .inr rfl|assumption):
  SS X (.Assign [.Name x pos'] e pos) (Hm m<|Hq i):=PS.imp (aW g hi j he l hf) λN σ H h=>by
 obtain⟨ρ,st,io,f,st',E,S,e,w⟩:=Mi.mp h;obtain⟨⟨x,s1⟩,c,e⟩:=Ht e;obtain⟨⟨ρ',s2⟩,n,e⟩:=IL e;cases e;cases n;exact⟨ρ,st,io,x,_,E,S,c,λv1 H1 o a u K=>w _ H1 o a u ((E.ext S a).set i K)⟩
structure Wk where
 ds:List D
 g:List (Nat×List D)
def stays(W:Wk)(st:Hg):Prop:=∀p,p∈W.g->st[p.1]?=some (.lst p.2)\/st[p.1]?=some (.fz p.2)
structure MR(K:Ac)(H0:Hp)(io:List KB)(W:Wk)(J:It):Prop where
 go:∀i d H ka st,W.ds[i]?=some d->Ext io ka H0 H->Hw K H (io++ka) st->stays W st->J.go i H/\∀x H',J.yld i H x H'->Ext (io++ka) [] H H'/\Hw K H' (io++ka) st/\Rep K H' (io++ka) x d
 stop:∀H ka st,Ext io ka H0 H->Hw K H (io++ka) st->stays W st->J.stop W.ds.length H
 stop':∀H ka st i,W.ds.length<=i->Ext io ka H0 H->Hw K H (io++ka) st->stays W st->J.stop i H
noncomputable abbrev MI:=HX->Hg->Option (Wk×Hg)
inductive tI (K:Ac) (m:MI) (σ:L2.St) (H:Hp) (R:It->Hp->Prop):Prop
 |mk (ρ:HX) (st:Hg) (io:List KB) (W:Wk) (st':Hg) (h1:Hz K H io σ ρ) (h2:Hw K H io st) (h3:m ρ st=some (W,st')) (h4:∀J H' ka,Ext io ka H H'->Hw K H' (io++ka) st'->MR K H' (io++ka) W J->R J H')
def SI(X:Cx)(tg iter:Re)(m:MI):Prop:=PI X tg iter<|tI X.K m
def PI.imp{t u:TI}(h:PI X tg iter t)(k:∀σ H R,u σ H R->t σ H R):PI X tg iter u:=λa s σ H R I q=>h a s σ H R I<|k σ H R q
mutual
def D.eqb:D->D->Bool
 |.non,.non=>true
 |.bl a,.bl b=>a==b
 |.int a,.int b=>decide (a=b)
 |.str a,.str b=>decide (a=b)
 |.tup a,.tup b=>D.eqbs a b
 |.ref a,.ref b=>decide (a=b)
 |.kl a,.kl b=>D.eqbs a b
 |.fn a,.fn b=>decide (a=b)
 |.er a b c,.er a2 b2 g=>decide (a=a2/\b=b2/\c=g)
 |_,_=>false
def D.eqbs:List D->List D->Bool
 |[],[]=>true
 |a::as,b::bs=>D.eqb a b&&D.eqbs as bs
 |_,_=>false
end
mutual
theorem D.eqb_refl:∀a:D,D.eqb a a=true
 |.non=>rfl
 |.bl a=>by simp[D.eqb]
 |.int a=>by simp[D.eqb]
 |.str a=>by simp[D.eqb]
 |.tup a=>by rw[D.eqb];exact D.eqbs_refl a
 |.ref a=>by simp[D.eqb]
 |.kl a=>by rw[D.eqb];exact D.eqbs_refl a
 |.fn a=>by simp[D.eqb]
 |.er a b c=>by simp[D.eqb]
theorem D.eqbs_refl:∀a:List D,D.eqbs a a=true
 |[]=>rfl
 |a::as=>by rw[D.eqbs,D.eqb_refl a,D.eqbs_refl as];rfl
end
mutual
theorem D.eq_of:∀{a b:D},D.eqb a b=true->a=b
 |.non,b,h=>by cases b<;>simp[D.eqb]at h ⊢
 |.bl a,b,h=>by cases b<;>simp[D.eqb]at h ⊢;exact h
 |.int a,b,h=>by cases b<;>simp[D.eqb]at h ⊢;exact h
 |.str a,b,h=>by cases b<;>simp[D.eqb]at h ⊢;exact h
 |.tup a,.tup b,h=>by rw[D.eqb]at h;rw[D.eqs_of h]
 |.tup a,.non,h=>by simp[D.eqb]at h
 |.tup a,.bl _,h=>by simp[D.eqb]at h
 |.tup a,.int _,h=>by simp[D.eqb]at h
 |.tup a,.str _,h=>by simp[D.eqb]at h
 |.tup a,.ref _,h=>by simp[D.eqb]at h
 |.tup a,.kl _,h=>by simp[D.eqb]at h
 |.tup a,.fn _,h=>by simp[D.eqb]at h
 |.tup a,.er _ _ _,h=>by simp[D.eqb]at h
 |.kl a,.kl b,h=>by rw[D.eqb]at h;rw[D.eqs_of h]
 |.kl a,.non,h=>by simp[D.eqb]at h
 |.kl a,.bl _,h=>by simp[D.eqb]at h
 |.kl a,.int _,h=>by simp[D.eqb]at h
 |.kl a,.str _,h=>by simp[D.eqb]at h
 |.kl a,.ref _,h=>by simp[D.eqb]at h
 |.kl a,.tup _,h=>by simp[D.eqb]at h
 |.kl a,.fn _,h=>by simp[D.eqb]at h
 |.kl a,.er _ _ _,h=>by simp[D.eqb]at h
 |.fn a,b,h=>by cases b<;>simp[D.eqb]at h ⊢;exact h
 |.er a b c,d,h=>by cases d<;>simp[D.eqb]at h ⊢;exact h
 |.ref a,b,h=>by cases b<;>simp[D.eqb]at h ⊢;exact h
theorem D.eqs_of:∀{a b:List D},D.eqbs a b=true->a=b
 |[],[],_=>rfl
 |[],_::_,h=>by simp[D.eqbs]at h
 |_::_,[],h=>by simp[D.eqbs]at h
 |a::as,b::bs,h=>by rw[D.eqbs,Ad]at h;rw[D.eq_of h.1,D.eqs_of h.2]
end
noncomputable instance:DecidableEq D:=λa b=>if h:D.eqb a b=true then .isTrue (D.eq_of h)else .isFalse λe=>h (by rw[e];exact D.eqb_refl b)
def SV(st:Hg)(n:Nat)(ds:List D):Bool:=match st[n]? with
 |some (.lst xs)=>D.eqbs xs ds
 |some (.fz xs)=>D.eqbs xs ds
 |_=>false
def zmB(h:SV st n ds=true):st[n]?=some (.lst ds)\/st[n]?=some (.fz ds):=by
 unfold SV at h;split at h
 ·rename_i xs e;rw[D.eqs_of h]at e;exact .inl e
 ·rename_i xs e;rw[D.eqs_of h]at e;exact .inr e
 ·cases h
def zkU(h:st[n]?=some (.lst ds)):SV st n ds=true:=by unfold SV;rw[h];exact D.eqbs_refl ds
variable {mi:MI}{W:Wk}
def walked(W:Wk)(st:Hg):Bool:=W.g.all λp=>SV st p.1 p.2
def TY(h:walked W st=true):stays W st:=λp o=>zmB<|List.all_eq_true.mp h p o
def Lq(W:Wk)(g:MG)(m:MS):List D->HX->Hg->Option (Fl×Hg)
 |[],ρ,st=>if walked W st=true then some (.nx ρ,st)else none
 |d::ds,ρ,st=>if walked W st=true then(g d ρ st).bind λ(ρ1,s1)=>(m ρ1 s1).bind λ(f,s2)=>match f with
  |.nx ρ2=>Lq W g m ds ρ2 s2
  |.ct ρ2=>Lq W g m ds ρ2 s2
  |.bk ρ2=>some (.nx ρ2,s2)
  |.rt d=>some (.rt d,s2)else none
def mF(mi:MI)(g:MG)(m:MS):MS:=λρ st=>(mi ρ st).bind λ(W,s)=>Lq W g m W.ds ρ s
def pN(Y:PassesOwn (KF X.prog X.w) X.A X.env X.xe)(Z:X.calm=true)(hi:SI X tg iter mi)(hg:SG X tg g)(hb:Mc X body ms)(hs:∀x,foldedSetIterable iter X.env x=pure x:=by intro _;rfl):SS X (.For tg iter body [] pos) (mF mi g ms):=PS.imp (qN Y Z hi hg hb hs) λN σ H h=>by
 obtain⟨ρ,st,io,f,st',E,S,e,w⟩:=Mi.mp h;obtain⟨⟨W,s1⟩,e1,e⟩:=Ht e;refine⟨ρ,st,io,W,s1,E,S,e1,λJ H1 o m q IO=>?_⟩;refine⟨λi n σ2 H2=>n=W.ds.length-i/\∃ρ2 s2 u,Ext (io++o) u H1 H2/\Hw X.K H2 ((io++o)++u) s2/\Hz X.K H2 ((io++o)++u) σ2 ρ2/\Lq W g ms (W.ds.drop i) ρ2 s2=some (f,st'),
  ⟨_,rfl,ρ,s1,[],Ext.refl,by rw[Am];exact q,by rw[Am];exact E.ext S m,by rw[ES];exact e⟩,?_⟩
 rintro i n σ2 H2 ⟨rfl,ρ2,s2,u,X2,S2,E2,Q⟩;have w2:Wn X.K ((io++o)++u) H2 st' N f:=(w.on m q).on X2 S2;cases hd:W.ds[i]? with
 |none=>
  have r:W.ds.length<=i:=List.getElem?_eq_none_iff.mp hd;rw[EI r]at Q;obtain⟨hw,Q⟩:=JJ Q;cases Q;refine .inl ⟨?_,w2 σ2 H2 [] Ext.refl S2.nil (by rw[Am];exact E2)⟩
  by_cases hi:i=W.ds.length
  ·rw[hi];exact IO.stop H2 u _ X2 S2 (TY hw)
  exact IO.stop' H2 u _ i r X2 S2 (TY hw)
 |some d=>
  have r:i<W.ds.length:=(KM.mp hd).1;have B:W.ds.drop i=d::W.ds.drop (i+1):=by rw[CS r,(KM.mp hd).2]
  rw[B]at Q;obtain⟨hw,Q⟩:=JJ Q;obtain⟨⟨ρ3,s3⟩,e3,Q⟩:=Ht Q;obtain⟨⟨f4,s4⟩,e4,Q⟩:=Ht Q;obtain⟨go,yl⟩:=IO.go i d H2 u s2 hd X2 S2 (TY hw);refine .inr ⟨go,λσ5 s=>∃ρ5 s5 a,Ext (io++o) a H1 s/\Hw X.K s ((io++o)++a) s5/\Hz X.K s ((io++o)++a) σ5 ρ5/\Lq W g ms (W.ds.drop (i+1)) ρ5 s5=some (f,st'),
   λσ5 s h5=>⟨W.ds.length-(i+1),by omega,rfl,h5⟩,λx G y=>?_⟩
  obtain⟨I,v,R3⟩:=yl x G y;have X23:Ext (io++o) u H1 G:=(X2.trans S2 I).app;refine⟨d,ρ2,s2,(io++o)++u,ρ3,s3,R3,?_,v,e3,λσ6 L j C z E6=>?_⟩
  ·have:=E2.ext S2 I;rw[Am]at this;exact this
  ·refine Pj E6 z e4 ?_;have X26:=X23.trans v C;have F:Hw X.K L ((io++o)++(u++j)) s3:=by rw[<-Aq];exact z
   have fin:∀{ρ7:HX},Lq W g ms (W.ds.drop (i+1)) ρ7 s4=some (f,st')->∀σ7 c l,Ext ((io++o)++u++j) l L c->Hw X.K c ((io++o)++u++j++l) s4->Hz X.K c ((io++o)++u++j++l) σ7 ρ7 ->
     ∃ρ5 s5 a,Ext (io++o) a H1 c/\Hw X.K c ((io++o)++a) s5/\Hz X.K c ((io++o)++a) σ7 ρ5/\Lq W g ms (W.ds.drop (i+1)) ρ5 s5=some (f,st'):=by
    intro ρ7 e7 σ7 c l M T U;rw[Aq (io++o)]at M;rw[Aq (io++o),Aq (io++o)]at T U;exact⟨ρ7,s4,(u++j)++l,X26.trans F M,T,U,e7⟩
   cases f4 with
   |nx ρ7=>exact fin Q
   |ct ρ7=>exact fin Q
   |bk ρ7=>
    cases Q;exact((w.on m q).on X23 v).on C z
   |rt dd=>
    cases Q;exact((w.on m q).on X23 v).on C z
variable {xs:List V}{l:Re}{d:D}
def dB{x:D}{xs:List D}{s s2:Hg}(a:m ρ s=some (x,s1))(c:mm ρ s1=some (xs,s2)):Hc m mm ρ s=some (x::xs,s2):=by unfold Hc;rw[a];show GQ (mm ρ s1) _=_;rw[c];rfl
def Iw(st:Hg)(n:Nat):Option (List D):=match st[n]? with
 |some (.lst ds)=>some ds
 |some (.fz ds)=>some ds
 |_=>none
def LU(S:Hw K H io st)(a:io[n]?=some p)(h:Iw st n=some ds):∃xs,Kc K H p xs/\Hl K H io xs ds:=by
 unfold Iw at h;split at h
 ·rename_i o he;cases h;obtain⟨xs,e,r⟩:=S.ob n p _ a he;exact⟨xs,Kc.of e,r⟩
 ·rename_i o he;cases h;obtain⟨ob,xs,e,r⟩:=S.ob n p _ a he;exact⟨xs,.inl<|.inr ⟨ob,e⟩,r⟩
 ·cases h
def YK(hm:(n,ds)∈W.g)(h:stays W st):Iw st n=some ds:=by
 unfold Iw;rcases h _ hm with h|h
 ·have h:st[n]?=some (.lst ds):=h;rw[h]
 have h:st[n]?=some (.fz ds):=h;rw[h]
def jT(m:ME):MI:=λρ st=>(m ρ st).bind λ(d,s)=>match d with
 |.ref n=>(Iw s n).map λds=>(⟨ds,[(n,ds)]⟩,s)
 |_=>none
def jR(m:ME):MI:=λρ st=>(m ρ st).bind λ(d,s)=>match d with
 |.tup ds=>some (⟨ds,[]⟩,s)
 |_=>none
def QS(h:io[n]?=some p):(io++ka)[n]?=some p:=by rw[AL (KM.mp h).1];exact h
def nM(a:io[n]?=some p):MR K H io ⟨ds,[(n,ds)]⟩ (Z3 K p) where
 go:=λi d H1 Q s hd W l u=>by obtain⟨xs,o,r⟩:=LU l (QS a)<|YK Al u;obtain⟨v,c,f⟩:=r.get hd;refine⟨⟨xs,v,o,c⟩,λx h y=>?_⟩;obtain⟨rfl,y⟩:=y;have e:=y xs o;rw[c]at e;cases e;exact⟨Ext.refl,l,f⟩
 stop:=λH1 Q s W l u=>by obtain⟨xs,o,r⟩:=LU l (QS a)<|YK Al u;exact⟨xs,o,by rw[r.length];exact Ai _⟩
 stop':=λH1 Q s i g W l u=>by obtain⟨xs,o,r⟩:=LU l (QS a)<|YK Al u;exact⟨xs,o,by rw[r.length];exact g⟩
def uK(a:SE X l m):SI X tg l (jT m):=PI.imp (uX a) <| by
 rintro σ H R ⟨ρ,st,io,W,st',E,S,e,k⟩;obtain⟨⟨d,s1⟩,x,e⟩:=Ht e;dsimp only at e;split at e
 ·rename_i n;obtain⟨ds,Q,e⟩:=IL e;cases e;refine⟨ρ,st,io,_,_,E,S,x,λv H1 c f o g=>?_⟩;obtain⟨p,rfl,u⟩:=g;obtain⟨xs,h,r⟩:=LU o u Q;exact⟨p,rfl,⟨xs,h⟩,k _ H1 c f o<|nM u⟩
 ·cases e
def nO(S:Hw K H io st)(a:H p=some (.tup xs))(r:Hl K H io xs ds):MR K H io ⟨ds,[]⟩ (Z2 K p) where
 go:=λi d H1 o s hd X1 l u=>by obtain⟨v,Q,c⟩:=(r.ext S X1).get hd;have W:Je K H1 p xs:=Je.of<|X1.sqT S p xs a;refine⟨⟨xs,v,W,Q⟩,λx g y=>?_⟩;obtain⟨rfl,y⟩:=y;have e:=y xs W;rw[Q]at e;cases e;exact⟨Ext.refl,l,c⟩
 stop:=λH1 o s X1 l u=>⟨xs,Je.of<|X1.sqT S p xs a,by rw[r.length];exact Ai _⟩
 stop':=λH1 o s i f X1 l u=>⟨xs,Je.of<|X1.sqT S p xs a,by rw[r.length];exact f⟩
def pG(a:SE X l m):SI X tg l (jR m):=PI.imp (qI a) <| by
 rintro σ H R ⟨ρ,st,io,W,st',E,S,e,k⟩;obtain⟨⟨d,s1⟩,x,e⟩:=Ht e;dsimp only at e;split at e
 ·rename_i ds;cases e;refine⟨ρ,st,io,_,_,E,S,x,λv H1 Q c o f=>?_⟩;obtain⟨p,xs,rfl,u,r⟩:=f;exact⟨p,rfl,⟨xs,Je.of u⟩,k _ H1 Q c o<|nO o u r⟩
 ·cases e
def run(lo:Int)(n:Nat):List D:=(Bg n).map λ(k:Nat)=>D.int<|lo+(k:Int)
def OW(lo:Int)(n:Nat):(run lo n).length=n:=by unfold run;rw[Ah,D1]
def run_get{lo:Int}{i:Nat}(h:(run lo n)[i]?=some d):i<n/\d=.int (lo+(i:Int)):=by
 have l:i<n:=by
  have q:=(KM.mp h).1
  rwa [OW]at q
 unfold run at h;rw[AJ,Fn l]at h;exact⟨l,(As h).symm⟩
def nN(lo:Int)(n:Nat):MR K H io ⟨run lo n,[]⟩ (Wv lo n) where
 go:=λi d H1 u s hd Q o W=>by obtain⟨l,rfl⟩:=run_get hd;refine⟨l,λx a y=>?_⟩;obtain⟨rfl,rfl⟩:=y;exact⟨Ext.refl,o,rfl⟩
 stop:=λH1 u s Q o W=>by show n<=_;rw[OW];exact Ai _
 stop':=λH1 u s i l Q o W=>by
  show n<=i;have l:(run lo n).length<=i:=l
  rwa [OW]at l
def small(j:Int):Bool:=decide (-(2^62)<=j)&&decide (j<2^62)
def dZ{j:Int}(h:small j=true):-(2^62)<=j/\j<2^62:=by unfold small at h;rw[Ad]at h;exact⟨of_decide_eq_true h.1,of_decide_eq_true h.2⟩
def NO(m:ME):MI:=λρ st=>(m ρ st).bind λ(d,s)=>match d with
 |.int j=>if small j=true then some (⟨run 0 j.toNat,[]⟩,s)else none
 |_=>none
def QO{p:Pos}(f:Gl X "range")(hm:X.mg "range"=none)(g:SE X a m)(c:starEach [a] X.env=[(false,eval a X.env)]:=by rfl):SI X tg (.Call (.Name "range" p) [a] [] pos) (NO m):=
 PI.imp (zl9 f hm (Hf g Hk c) c) <| by
  rintro σ H R ⟨ρ,st,io,W,st',E,S,e,k⟩;obtain⟨⟨d,s1⟩,o,e⟩:=Ht e;dsimp only at e;split at e
  ·rename_i j;obtain⟨l,e⟩:=JJ e;cases e;refine⟨ρ,st,io,[.int j],_,E,S,(dB o rfl),λh H1 u x Q R1=>?_⟩;obtain⟨v,rfl,rfl⟩:=R1.one;exact⟨j,rfl,(dZ l).1,(dZ l).2,k _ H1 u x Q<|nN 0 _⟩
  ·cases e
def Jc(n:Nat)(ds:List D):HX:=ds.map some++Br (n-ds.length) none
def IX(n:Nat)(m:MS):GN:=λds st=>(m (Jc n ds) st).bind λ(f,s)=>match f with
 |.rt d=>some (d,s)
 |.nx _=>some (.non,s)
 |_=>none
def fH{N:List Str}(R:Hl K H io vs ds):Hz K H io (start N vs) (Jc N.length ds):=by
 have l:=R.length;refine⟨by unfold start Jc;simp[l],λi d h=>?_⟩;unfold Jc at h;unfold start
 by_cases hi:i<ds.length
 ·rw[AL (by simpa using hi),AJ]at h
  cases e:ds[i]? with
  |none=>rw[e]at h;cases h
  |some u=>
   rw[e]at h;cases (As<|As h)
   obtain⟨v,o,r⟩:=R.get e;exact⟨v,by rw[AL (by simpa[l]using hi),AJ,o];rfl,r⟩
 ·rw[AX (by simpa using hi),Cc]at h
  split at h<;>cases h
variable {w:UF}
section
variable {P:P3}{mg:Str->Option IR}{base:Pv}
def Uz{qual:Str}{st:W1}{f:KB}{N g:List Str}{m:MS}(F:Nd K x qual st f fd)(S:IQ N g (Jl st))(c:∀(a:IR) (A:Around) (outer:List Env) (s:Shared) (H:Hp) (E:XK),HP k (A.deeper<|envOfC qual (Jl st) s.heap.objs.size f a) ->
   Mc (HM LJ P w K mg base N qual (Jl st) f a A outer s H E).nox (Ln st) m):Ja P w K mg base LJ (k+1) f fd g (Qk K g.length<|IX N.length m):=by
 refine F.ok S (λo H Q E ⟨_,_,_,_,_,h,_⟩=>h) λa A outer s H o Q E u h=>?_;obtain⟨ds,W,io,d,st',y,R,i,e,l⟩:=h;refine⟨_,c a A outer s H E u,?_⟩;obtain⟨⟨j,s1⟩,n,e⟩:=Ht e;refine Pj (fH R) i n ?_;cases j with
 |rt z=>cases e;exact l
 |nx ρ=>cases e;exact λσ' q ka r v B=>l .non q ka r v rfl
 |bk ρ=>cases e
 |ct ρ=>cases e
end
def KH(cells:List (Str×KB)):List (Str×NameKind)->List (Str×KB)->List (Str×KB)
 |[],acc=>acc
 |(n,k)::r,acc=>if k==.free then KH cells r ((n,(cells.lookup n).getD 0)::acc)else KH cells r acc
variable {env:Env}
def Yo{env:Env}(f:Str×NameKind->List (Str×KB)->Sem (ForInStep<|List<|Str×KB))(hf:∀n k acc,f (n,k) acc=if k==.free then(do let c <-cellOf env n;pure (.yield ((n,c)::acc)))else pure (.yield acc)):
  ∀(names:List (Str×NameKind)) (acc:List (Str×KB)),(∀n,(n,AK)∈names->∃c,env.cells.lookup n=some c)->(forIn names acc f:Sem (List<|Str×KB))=pure (KH env.cells names acc)
 |[],acc,_=>by rw[ET];rfl
 |(n,k)::r,acc,h=>by
  rw[List.forIn_cons,hf];unfold KH;cases hk:k==AK with
  |false=>
   rw[if_neg (by simp),if_neg (by simp)];have:=Yo f hf r acc λm hm=>h m<|Aj _ hm;rw[<-this];rfl
  |true=>
   rw[if_pos rfl,if_pos rfl];have l:k=AK:=by simpa using hk
   obtain⟨c,o⟩:=h n (by rw[l];exact Al);have:=Yo f hf r ((n,c)::acc) λm hm=>h m<|Aj _ hm;rw[o,Ec,<-this];unfold cellOf;rw[o];rfl
variable {scope:Scope}
def zla(h:∀n,(n,AK)∈scope.names->∃c,env.cells.lookup n=some c):closureFor scope env=pure (KH env.cells scope.names []):=by unfold closureFor;have:=Yo (env:=env) (λx acc=>(match x with|(n,k)=>if k==.free then(do let c <-cellOf env n;pure (.yield ((n,c)::acc)))else pure (.yield acc))) (λ_ _ _=>rfl) scope.names [] h;refine Eq.trans ?_ this;simp only[bind_pure]
variable {cells:List (Str×KB)}
def XY{cells:List (Str×KB)}:∀{names:List (Str×NameKind)} {acc:List (Str×KB)} {p:Str×KB},p∈KH cells names acc->p∈acc\/((p.1,AK)∈names/\p.2=(cells.lookup p.1).getD 0)
 |[],acc,p,h=>.inl h
 |(n,k)::r,acc,p,h=>by
  unfold KH at h;cases hk:k==AK with
  |false=>
   rw[hk,if_neg (by simp)]at h
   rcases XY h with h|h
   ·exact .inl h
   exact .inr ⟨Aj _ h.1,h.2⟩
  |true=>
   rw[hk,if_pos rfl]at h;have a:k=AK:=by simpa using hk
   rcases XY h with h|h
   ·rcases On.mp h with h|h
    ·subst h;exact .inr ⟨by rw[a];exact Al,rfl⟩
    exact .inl h
   exact .inr ⟨Aj _ h.1,h.2⟩
def Vu{cells:List (Str×KB)}:∀{names:List (Str×NameKind)} {acc:List (Str×KB)} {x:Str},((x,AK)∈names\/(acc.lookup x).isSome=true)->((KH cells names acc).lookup x).isSome=true
 |[],acc,x,h=>by
  rcases h with h|h
  ·exact absurd h<|by simp
  exact h
 |(n,k)::r,acc,x,h=>by
  unfold KH;cases hk:k==AK with
  |false=>
   rw[if_neg (by simp)];refine Vu ?_
   rcases h with h|h
   ·rcases On.mp h with h|h
    ·have:k=AK:=(Bd h).2.symm;rw[this]at hk;exact absurd hk<|by decide
    exact .inl h
   exact .inr h
  |true=>
   rw[if_pos rfl];refine Vu ?_;by_cases hx:x=n
   ·subst hx;exact .inr<|by simp
   ·rcases h with h|h
    ·rcases On.mp h with h|h
     ·exact absurd (Bd h).1 hx
     exact .inl h
    ·refine .inr ?_;rw[A4];have:(x==n)=false:=by simpa using hx
     rw[this];exact h
def Ye:∀{names:List (Str×NameKind)} {n:Nat} {acc:List (Str×KB)} {p:Str×KB},p∈cellsFrom n names acc->p∈acc\/n<=p.2
 |[],_,_,_,h=>.inl h
 |(x,k)::r,n,acc,p,h=>by
  unfold cellsFrom at h;split at h
  ·rcases Ye h with h|h
   ·rcases On.mp h with h|h
    ·subst h;exact .inr<|Ai _
    exact .inl h
   exact .inr<|B3 h
  exact Ye h
def Yz:∀{names:List (Str×NameKind)} {n:Nat} {acc:List (Str×KB)},(acc.Pairwise λx y=>x.2≠y.2)->(∀p∈acc,p.2<n)->(cellsFrom n names acc).Pairwise λx y=>x.2≠y.2
 |[],_,_,h,_=>h
 |(x,k)::r,n,acc,h,hl=>by
  unfold cellsFrom;split
  ·refine Yz (List.pairwise_cons.mpr ⟨λy a e=>?_,h⟩) λp hp=>?_
   ·have q:=hl y a;have l:n=y.2:=e;rw[<-l]at q;exact AW _ q
   ·rcases On.mp hp with rfl|hp
    ·exact F5 _
    exact FQ<|hl p hp
  exact Yz h hl
def XG:∀{names:List (Str×NameKind)} {n:Nat} {acc:List (Str×KB)} {x:Str},((x,AU)∈names\/(acc.lookup x).isSome=true)->((cellsFrom n names acc).lookup x).isSome=true
 |[],n,acc,x,h=>by
  rcases h with h|h
  ·exact absurd h<|by simp
  exact h
 |(m,k)::r,n,acc,x,h=>by
  unfold cellsFrom;cases hk:k==AU with
  |false=>
   rw[if_neg (by simp)];refine XG ?_
   rcases h with h|h
   ·rcases On.mp h with h|h
    ·have:k=AU:=(Bd h).2.symm;rw[this]at hk;exact absurd hk<|by decide
    exact .inl h
   exact .inr h
  |true=>
   rw[if_pos rfl];refine XG ?_;by_cases hx:x=m
   ·subst hx;exact .inr<|by simp
   ·rcases h with h|h
    ·rcases On.mp h with h|h
     ·exact absurd (Bd h).1 hx
     exact .inl h
    ·refine .inr ?_;rw[A4];have:(x==m)=false:=by simpa using hx
     rw[this];exact h
def Vy:∀{names:List (Str×NameKind)} {n:Nat} {acc:List (Str×KB)} {x:Str},(x,AU)∉names->(cellsFrom n names acc).lookup x=acc.lookup x
 |[],_,_,_,_=>rfl
 |(m,k)::r,n,acc,x,h=>by
  unfold cellsFrom;cases hk:k==AU with
  |false=>rw[if_neg (by simp)];exact Vy λq=>h (Aj _ q)
  |true=>
   rw[if_pos rfl,Vy λq=>h (Aj _ q),A4];have a:k=AU:=by simpa using hk
   have:(x==m)=false:=by
    cases e:x==m with
    |false=>rfl
    |true=>exact absurd (by rw[a,show x=m by simpa using e];exact Al) h
   rw[this]
def XF:∀{names:List (Str×NameKind)} {n:Nat} {acc:List (Str×KB)} {x:Str}{c:KB},(x,AU)∈names->(cellsFrom n names acc).lookup x=some c->n<=c
 |[],_,_,_,_,h,_=>absurd h<|by simp
 |(m,k)::r,n,acc,x,c,h,e=>by
  unfold cellsFrom at e;cases hk:k==AU with
  |false=>
   rw[hk,if_neg (by simp)]at e
   rcases On.mp h with h|h
   ·have:k=AU:=(Bd h).2.symm;rw[this]at hk;exact absurd hk<|by decide
   exact XF h e
  |true=>
   rw[hk,if_pos rfl]at e;by_cases l:(x,AU)∈r
   ·exact B3<|XF l e
   ·rw[Vy l]at e
    rcases On.mp h with h|h
    ·have o:x=m:=(Bd h).1;subst o;rw[List.lookup_cons_self]at e;exact Dy<|As e
    exact absurd h l
def Yf:∀{names:List (Str×NameKind)} {h:Pv} {acc:List (Str×KB)} {p:Str×KB},p∈cellsFrom h.objs.size names acc->p∈acc\/(pushCells h names).IsCell p.2 none
 |[],_,_,_,h=>.inl h
 |(x,k)::r,h,acc,p,e=>by
  unfold cellsFrom at e;unfold pushCells;split at e
  ·rename_i hk;rw[if_pos hk];have sz:(h.push {cls:=.type "cell",data:=.cell none}).objs.size=h.objs.size+1:=B6 ..;rw[<-sz]at e
   rcases Yf e with q|q
   ·rcases On.mp q with q|q
    ·subst q;exact .inr ⟨_,DA _ _ _ _<|Av _ rfl,rfl⟩
    exact .inl q
   exact .inr q
  rename_i hk;rw[if_neg hk];exact Yf e
def M0(X:Cx)(scope:Scope)(N':List Str)(cells:List (Str×KB))(C:KB)(s0:Shared)(a:Hp)(ex:List KB):Cx:={X with N:=N',s₀:=s0,H₀:=a,env:=compEnvC scope cells C X.env,outer:=X.stack,ex:=ex,fn:=λx=>scope.names.any λp=>p.1==x&&p.2==.cell,pn:=[],xe:=λ_ _=>False}
structure Kf(X:Cx)(scope:Scope)(N':List Str)(nt:Nat)(fr:List Nat):Prop where
 kind:scope.kind=.function
 nd:(scope.names.map (·.1)).Nodup
 len:N'.length=nt+fr.length
 cap:∀(i j:Nat) (x:Str),fr[i]?=some j->N'[nt+i]?=some x->X.N[j]?=some x/\(x,AK)∈scope.names
 out:∀x,(x,AK)∈scope.names->X.env.kindOf x=some .cell\/X.env.kindOf x=some .free
def lookup_mem:∀{l:List (Str×NameKind)} {x:Str}{k:NameKind},(l.map (·.1)).Nodup->(x,k)∈l->l.lookup x=some k
 |[],_,_,_,h=>absurd h<|by simp
 |(n,j)::r,x,k,a,h=>by
  rw[Ax,Gg]at a;rw[A4];rcases On.mp h with h|h
  ·cases h;simp
  ·have:x≠n:=λe=>a.1 (by rw[<-e];exact UV.mpr ⟨_,h,rfl⟩);have:(x==n)=false:=by simpa using this
   rw[this];exact lookup_mem a.2 h
def Wh{env:Env}:∀{l:List (Str×NameKind)} {x:Str}{k:NameKind},(l.map λ(n,k)=>if(k==AK&&env.scope.kind==.function&&env.kindOf n==some .cell)then(n,AU)else(n,k)).lookup x=some k ->
  ∃c,l.lookup x=some c/\(c=k\/c=.free)
 |[],_,_,h=>by simp at h
 |(n,j)::r,x,k,h=>by
  rw[Ax]at h;dsimp only at h;by_cases hc:(j==AK&&env.scope.kind==.function&&env.kindOf n==some .cell)=true
  ·rw[if_pos hc,A4]at h;rw[A4]
   cases a:x==n with
   |true=>
    have:j=.free:=by rw[Ad,Ad]at hc;simpa using hc.1.1
    exact⟨j,rfl,.inr this⟩
   |false=>rw[a]at h;exact Wh h
  ·rw[if_neg hc,A4]at h;rw[A4]
   cases a:x==n with
   |true=>rw[a]at h;cases h;exact⟨j,rfl,.inl rfl⟩
   |false=>rw[a]at h;exact Wh h
def YF{env:Env}:∀{l:List (Str×NameKind)} {x:Str},l.lookup x=some .free ->
  (l.map λ(n,k)=>if(k==AK&&env.scope.kind==.function&&env.kindOf n==some .cell)then(n,AU)else(n,k)).lookup x=some .cell \/
  (l.map λ(n,k)=>if(k==AK&&env.scope.kind==.function&&env.kindOf n==some .cell)then(n,AU)else(n,k)).lookup x=some .free
 |[],_,h=>by simp at h
 |(n,j)::r,x,h=>by
  rw[Ax];dsimp only;rw[A4]at h;by_cases hc:(j==AK&&env.scope.kind==.function&&env.kindOf n==some .cell)=true
  ·rw[if_pos hc,A4]
   cases a:x==n with
   |true=>exact .inl rfl
   |false=>rw[a]at h;exact YF h
  ·rw[if_neg hc,A4]
   cases a:x==n with
   |true=>rw[a]at h;cases h;exact .inr rfl
   |false=>rw[a]at h;exact YF h
variable {s:Shared}{N':List Str}{nt:Nat}{fr:List Nat}{qp:List (KB×Obj)}{A:Around}{E:Qqa}{fp:List KB}
noncomputable abbrev Sl (X:Cx) (scope:Scope):List (Str×KB):=KH X.env.cells scope.names []
noncomputable abbrev MZ (X:Cx) (scope:Scope) (C:Nat):List (Str×KB):=cellsFrom (C+1) scope.names (Sl X scope)
def Xl(Z:Kf X scope N' nt fr)(ok:X.Ok){p:Str×KB}(h:p∈Sl X scope):(p.1,AK)∈scope.names/\X.env.cells.lookup p.1=some p.2:=by
 rcases XY h with h|⟨l,o⟩
 ·exact absurd h<|by simp
 obtain⟨c,s⟩:=ok.has p.1<|Z.out p.1 l;rw[s,Ec]at o;exact⟨l,by rw[s,o]⟩
def zmP(Z:Kf X scope N' nt fr)(ok:X.Ok)(h:(x,AK)∈scope.names):∃c,X.env.cells.lookup x=some c/\∀C,(MZ X scope C).lookup x=some c:=by
 obtain⟨c,l⟩:=ok.has x<|Z.out x h;refine⟨c,l,λC=>?_⟩;have no:(x,AU)∉scope.names:=λq=>by have a:=lookup_mem Z.nd h;have b:=lookup_mem Z.nd q;rw[a]at b;cases b
 rw[Vy no];have q:=Vu (cells:=X.env.cells) (acc:=[])<|.inl h;obtain⟨o,e⟩:=Option.isSome_iff_exists.mp q;have:=(Xl Z ok<|AS e).2;have this:X.env.cells.lookup x=some o:=this;rw[l]at this;rw[e,this]
def vT(Z:Kf X scope N' nt fr)(ok:X.Ok):(Sl X scope).Pairwise λx y=>x.2≠y.2:=by
 have gen:∀(names:List (Str×NameKind)) (acc:List (Str×KB)),(∀n,(n,AK)∈names->∃c,X.env.cells.lookup n=some c)->(names.map (·.1)).Nodup->(∀p∈acc,p.1∉names.map (·.1)/\X.env.cells.lookup p.1=some p.2)->(acc.Pairwise λx y=>x.2≠y.2) ->
   (KH X.env.cells names acc).Pairwise λx y=>x.2≠y.2:=by
  intro names
  induction names with
  |nil=>intro acc _ _ _ h;exact h
  |cons p r A=>
   intro acc hf o l s;obtain⟨n,k⟩:=p;rw[Ax,Gg]at o;unfold KH;cases hk:k==AK with
   |false=>
    rw[if_neg (by simp)];exact A acc (λm hm=>hf m (Aj _ hm)) o.2 (λq hq=>⟨λz=>(l q hq).1 (by rw[Ax];exact Aj _ z),(l q hq).2⟩) s
   |true=>
    rw[if_pos rfl];have u:k=AK:=by simpa using hk
    obtain⟨c,w⟩:=hf n (by rw[u];exact Al);refine A _ (λm hm=>hf m (Aj _ hm)) o.2 (λq hq=>?_)<|List.pairwise_cons.mpr ⟨λy E e=>?_,s⟩
    ·rcases On.mp hq with rfl|hq
     ·exact⟨o.1,by rw[w];rfl⟩
     exact⟨λz=>(l q hq).1 (by rw[Ax];exact Aj _ z),(l q hq).2⟩
    have Q:(X.env.cells.lookup n).getD 0=y.2:=e;rw[w,Ec]at Q;have W:=(l y E).2;rw[<-Q]at W;have:=ok.inj _ _ _ W w;exact(l y E).1 (by rw[this,Ax];exact Al)
 exact gen scope.names [] (λn a=>ok.has n (Z.out n a)) Z.nd (λp s=>absurd s (by simp)) C9
def vU{M:Model}{cl:List (Str×KB)}{Q:Env->Shared->Prop}(h:Q {scope:=scope,locals:=s.heap.objs.size,globals:=env.globals,cells:=cellsFrom (s.heap.objs.size+1) scope.names cl,qual:=env.qual,func:=none,code:=env.code,frame:=env.frame,builtins:=env.builtins}
   {s with heap:=pushCells (s.heap.push Qqd) scope.names}):
  wpAny M A (newFunctionEnv scope env.globals cl [] env.qual none .none<|some env) Q E s:=by
 simp only[newFunctionEnv,Fw,if_true];refine Ab<|wpAny_alloc ?_;refine Ab<|wpAny_layCells _ (λname kind cells=>by cases l:kind==AU<;>simp[l]) _ _ _ _ ?_;rw[show({s with heap:=s.heap.push Qqd}:Shared).heap.objs.size=s.heap.objs.size+1 from B6 ..];rw[ET];exact Ab<|Ae<|Ae h
def Pe(σ:L2.St)(nt:Nat)(fr:List Nat):L2.St:=Br nt none++fr.map λ(j:Nat)=>(σ[j]?).join
def yB{fp:List KB}(Z:Kf X scope N' nt fr)(I:Inv X qp σ H s)(hf:∀b∈fp,K5 X qp H b)(g:∀b∈fp,b<s.heap.objs.size):
  Inv (M0 X scope N' (MZ X scope s.heap.objs.size) s.heap.objs.size s H fp) [] (Pe σ nt fr) H {s with heap:=pushCells (s.heap.push Qqd) scope.names}:=by
 have ok:=I.ok;have kp:∀b o,s.heap.get? b=some o->(pushCells (s.heap.push Qqd) scope.names).get? b=some o:=λb o e=>DA _ _ b o (Ag _ e);have B:∀p∈Sl X scope,p.2<s.heap.objs.size:=λp W=>by obtain⟨_,e⟩:=Xl Z ok W;obtain⟨v,q⟩:=I.cell p.1 p.2 e;exact q.lt
 have sz:(s.heap.push Qqd).objs.size=s.heap.objs.size+1:=B6 ..;have cells:∀x c,(MZ X scope s.heap.objs.size).lookup x=some c->(X.env.cells.lookup x=some c)\/(s.heap.objs.size+1<=c/\(pushCells (s.heap.push Qqd) scope.names).IsCell c none):=λx c e=>by
  have m:=AS e;rcases Ye m with h|h
  ·exact .inl (Xl Z ok h).2
  ·refine .inr ⟨h,?_⟩;have M:(x,c)∈cellsFrom (s.heap.push Qqd).objs.size scope.names (Sl X scope):=by rw[sz];exact m
   rcases Yf M with q|q
   ·have l:=B _ q;exact absurd (Ay l (B3 h)) (AW _)
   exact q
 refine⟨⟨ok.mod,Z.kind,ok.glob,ok.blt,Ai _,λx y c f A=>?_,λx hx=>?_,λx c f A=>?_,ok.hd,ok.frames,.inl rfl,λb Q=>?_,I.bs,Ar ok.bsz I.sz,λb o e Q=>?_,λb Q=>?_,I.stack,I.stkFree⟩,
  rfl,I.bare,Un.kept kp,⟨λ_=>none,?_,λi x v f A h3=>?_⟩,λx c e=>?_,I.hok.fresh (Ai _),λx c e=>?_,λp W=>absurd W (by simp[M0]),I.hok.kept kp,?_⟩
 ·exact name_of_addr (Yz (vT Z ok) λp W=>FQ (B p W)) (AS f) (AS A)
 ·have hx:(relabel scope X.env).names.lookup x=some .cell\/(relabel scope X.env).names.lookup x=some .free:=hx;have q:(x,AU)∈scope.names\/(x,AK)∈scope.names:=by
   rcases hx with hx|hx
   ·obtain⟨N,e,z|z⟩:=Wh hx
    ·subst z;exact .inl (AS e)
    subst z;exact .inr (AS e)
   ·obtain⟨N,e,z|z⟩:=Wh hx
    ·subst z;exact .inr (AS e)
    subst z;exact .inr (AS e)
  refine Option.isSome_iff_exists.mp (XG (n:=s.heap.objs.size+1) (acc:=Sl X scope) ?_);rcases q with q|q
  ·exact .inl q
  exact .inr (Vu (.inl q))
 ·have f:(scope.names.any λp=>p.1==x&&p.2==AU)=true:=f;obtain⟨p,W,e⟩:=List.any_eq_true.mp f;rw[Ad]at e;have S:p.1=x:=by simpa using e.1
  have T:p.2=AU:=by simpa using e.2
  have hm:(x,AU)∈scope.names:=by rw[<-S,<-T];exact W
  exact B3 (XF hm A)
 ·refine⟨Au (g b Q),λx c e z=>?_⟩
  rcases cells x c e with q|⟨q,_⟩
  ·exact(hf b Q).2.2.2.2.1 x c q z
  have l:=g b Q;rw[<-z]at l;exact absurd (Ay l (B3 q)) (AW _)
 ·rcases(hf b Q).2.2.2.1 with z|z
  ·exact ok.noex b o e z
  exact absurd (Ay (An e) (Ar ok.bsz z)) (AW _)
 ·intro U
  rcases On.mp (I.stkSub b U)with e|e
  ·exact(hf b Q).2.1 e
  exact(hf b Q).2.2.1 e
 ·exact(Heap.Ns.new s.heap (.type "dict")).keeps (DA _ _)
 ·
  have F:nt<=i:=by
   by_cases F:i<nt
   ·unfold Pe at A;rw[AL (by simpa using F),Cc,if_pos F]at A;cases A
   omega
  obtain⟨C,rfl⟩:∃C,i=nt+C:=⟨i-nt,by omega⟩
  unfold Pe at A;rw[AX (by simp),Cv,Nat.add_sub_cancel_left,AJ]at A
  cases G:fr[C]? with
  |none=>rw[G]at A;cases A
  |some j=>
   rw[G]at A;have A:(σ[j]?).join=some v:=As A;have A:σ[j]?=some (some v):=by
    cases q:σ[j]? with
    |none=>rw[q]at A;cases A
    |some w=>rw[q]at A;cases w with
     |none=>cases A
     |some w=>cases A;rfl
   obtain⟨Y,E⟩:=Z.cap C j x G f;obtain⟨c,hc,J⟩:=zmP Z ok E;have K:=Z.out x E;obtain⟨m,hn,hl⟩:=I.loc;obtain⟨u,r,l⟩:=hl j x v Y A (K.elim (λz=>.inr (.inl z)) λz=>.inr (.inr z));refine⟨u,r,.inr ⟨?_,c,J _,?_⟩⟩
   ·exact YF (lookup_mem Z.nd E)
   ·rcases l with⟨k,_⟩|⟨_,c',L,z⟩
    ·rcases K with q|q
     ·rw[k]at q;cases q
     rw[k]at q;cases q
    rw[hc]at L;cases L;exact z.keeps kp
 ·rcases cells x c e with q|⟨_,q⟩
  ·obtain⟨v,z⟩:=I.cell x c q;exact⟨v,z.keeps kp⟩
  exact⟨none,q⟩
 ·rcases cells x c e with q|⟨q,_⟩
  ·exact I.freeC x c q
  exact I.hok.fresh (B3 q)
 show _=N'.length;unfold Pe;rw[Z.len,AI,Cv,Ah]
noncomputable abbrev FF:Qqa:=λ_ _=>False
variable {elt:Re}{ifs:List Re}
def zi7{prog:P3}{R:Result->Shared->Prop}{s:Shared}{target:Re}{it acc:IR}(I:Nat->Shared->Prop)(turn:∀n s,I n s->wpAny (KF prog w) A (pyNext it) (λr s1=>match r with
   |none=>R (.ok .next) s1
   |some v=>wpAny (KF prog w) A (letOwnedTupleGo target it v) (λ_ s1=>wpAny (KF prog w) A (assign target env v) (λ_ s2=>
     wpAny (KF prog w) A (forIn ifs true λc r=>if r=true then do let ok <-isTrue c env (eval c env);pure (DB ok)else pure (DB r)) (λok s3=>
      if ok=true then wpAny (KF prog w) A (eval elt env) (λx s4=>
       wpAny (KF prog w) A (call (.builtin "list.append") [acc,x]) (λ_ s5=>∃m,m<n/\I m s5) FF s4) FF s3
      else ∃m,m<n/\I m s3) FF s2) FF s1) FF s1) FF s)
  (n:Nat) (h:I n s):
  codeAny (KF prog w) A (.compLoop (.ListComp elt [⟨target,iter,ifs,0⟩] scope pos) 0 it acc env) R s:=by
 refine codeAny_loop rfl I (λn s o=>?_) n h;show wpAny _ A ((compTurn (.ListComp elt [⟨target,iter,ifs,0⟩] scope pos) 0 it acc env).onRaise (λx=>do noteFrame x env;theTreesLotGoes x)) _ _ s;refine wpAny_noted ?_;rw[compTurn_list];refine Ab<|Bz<|Ab<|AZ (turn n s o) (λr s₁ h₁=>?_) λ_ _ l=>False.elim l
 cases r with
 |none=>exact Ae h₁
 |some v=>
  refine Ab<|AZ h₁ (λ_ s₂ h₂=>?_) λ_ _ l=>False.elim l;refine Ab<|AZ h₂ (λ_ s₂ h₂=>Ab (AZ h₂ (λok s₃ h₃=>?_) λ_ _ l=>False.elim l)) λ_ _ l=>False.elim l
  cases ok with
  |false=>exact Ae ⟨rfl,h₃⟩
  |true=>
   exact Ab<|Ab<|AZ h₃ (λx s₄ h₄=>Ab (AZ h₄ (λ_ s₅ h₅=>Ae (Ae ⟨rfl,h₅⟩)) λ_ _ l=>False.elim l)) λ_ _ l=>False.elim l
def Kq(W:Wk)(g:MG)(c:MT)(m:ME):List D->HX->Hg->Option (List D×Hg)
 |[],ρ,st=>if walked W st=true then some ([],st)else none
 |d::ds,ρ,st=>if walked W st=true then(g d ρ st).bind λ(ρ1,s1)=>(c ρ1 s1).bind λ(b,s2)=>
   if b=true then(m ρ1 s2).bind λ(x,s3)=>(Kq W g c m ds ρ1 s3).map λ(xs,s4)=>(x::xs,s4)else Kq W g c m ds ρ1 s2 else none
def HG(ρ:HX)(nt:Nat)(fr:List Nat):HX:=Br nt none++fr.map λ(j:Nat)=>(ρ[j]?).join
def Jk(mi:MI)(nt:Nat)(fr:List Nat)(g:MG)(c:MT)(m:ME):ME:=λρ st=>(mi ρ st).bind λ(W,s1)=>(Kq W g c m W.ds (HG ρ nt fr) s1).bind λ(xs,s2)=>
 if fits xs.length=true then some (.ref s2.length,s2++[.lst xs])else none
def IJ:MT:=λ_ st=>some (true,st)
def SC(X:Cx)(ifs:List Re)(m:MT):Prop:=∀(qp:List (KB×Obj)) (s:Shared) (σ:L2.St) (H:Hp) (Q:Bool->Hp->Prop),Inv X qp σ H s->tT X.K m σ H Q ->
 wpAny (KF X.prog X.w) X.A (forIn ifs true λc r=>if r=true then do let ok <-isTrue c X.env (eval c X.env);pure (DB ok)else pure (DB r)) (TP X qp σ Q) X.xe s
def LG:SC X [] IJ:=by rintro qp s σ H Q I ⟨ρ,st,io,b,st',E,S,e,k⟩;cases e;rw[ET];exact Ae ⟨H,I,k H [] Ext.refl S.nil⟩
def wD(h:Hz K H io σ ρ):Hz K H io (Pe σ nt fr) (HG ρ nt fr):=by
 refine⟨by unfold Pe HG;simp,λi d e=>?_⟩;unfold HG at e;unfold Pe
 by_cases hi:i<nt
 ·rw[AL (by simpa using hi),Cc,if_pos hi]at e;cases e
 ·rw[AX (by simpa using hi),Cv,AJ]at e ⊢
  cases l:fr[i-nt]? with
  |none=>rw[l]at e;cases e
  |some j=>
   rw[l]at e;have e:(ρ[j]?).join=some d:=As e;have e:ρ[j]?=some (some d):=by
    cases q:ρ[j]? with
    |none=>rw[q]at e;cases e
    |some w=>rw[q]at e;cases w with
     |none=>cases e
     |some w=>cases e;rfl
   obtain⟨v,o,r⟩:=h.at_ j d e;exact⟨v,by simp[o],r⟩
def adopt(S:Hw K H io st)(c:H p=some (.lst xs))(np:p∉io)(R:Hl K H io xs ds):Hw K H (io++[p]) (st++[.lst ds]):=by
 refine⟨by simp[S.len],?_,λn a ob l o=>?_⟩
 ·rw[D0];refine⟨S.nd,by simp,λa s b u=>?_⟩;rw[Os.mp u];rintro rfl;exact np s
 ·by_cases hn:n<io.length
  ·rw[AL hn]at l;rw[AL (by rw[<-S.len];exact hn)]at o;exact OR.mono ⟨λ_ _ h=>h,λ_ _ _ h=>h⟩ rfl<|S.ob n a ob l o
  ·have w:n<(io++[p]).length:=(KM.mp l).1;rw[AI,Dm]at w;have e:n=io.length:=by omega
   subst e;rw[AX (Ai _),Dz]at l;rw[S.len,AX (Ai _),Dz]at o;cases (As l);cases (As o);exact⟨xs,c,Hl.mono ⟨λ_ _ h=>h,λ_ _ _ h=>h⟩ R⟩
section
variable {g:MG}{c:MT}
structure CompEnd(X:Cx)(qp:List (KB×Obj))(σ:L2.St)(H:Hp)(io:List KB)(d:D)(st':Hg)(Dd C:KB)(H5:Hp)(s6:Shared):Prop where
 inv:Inv X qp σ H5 s6
 ns:∃m,s6.heap.Ns C m
 free:H5 C=none
 ne:C≠X.env.locals
 young:X.s₀.heap.objs.size<=C
 cells:∀x c,X.env.cells.lookup x=some c->c≠C
 pin:∀p∈X.pn++qp,p.1≠C
 val:∃ka,Ext io ka H H5/\Hw X.K H5 (io++ka) st'/\Rep X.K H5 (io++ka) (.ref Dd) d
inductive CompI (X Y:Cx) (W:Wk) (tn:Nat->Pv->Prop) (fp io:List KB) (H1:Hp) (Dd:KB) (g:MG) (c:MT) (m:ME) (t2:Hg) (xs:List D) (n:Nat) (s5:Shared):Prop
 |mk (i:Nat) (σ5:L2.St) (H5:Hp) (ρ5:HX) (st5:Hg) (k5:List KB) (ac rs:List D) (h0:n=W.ds.length-i) (h1:Inv Y [] σ5 H5 s5) (h2:tn i s5.heap) (h3:∀b∈fp,H5 b=none) (h4:Ext io k5 H1 H5) (h5:Dd∉k5) (h6:Hw X.K H5 (io++k5) st5) (h7:Hz X.K H5 (io++k5) σ5 ρ5) (h8:∃vs,H5 Dd=some (.lst vs)/\Hl X.K H5 (io++k5) vs ac) (h9:Kq W g c m (W.ds.drop i) ρ5 st5=some (rs,t2)) (h10:xs=ac++rs)
def dQ(hx:X.xe=FF)(hc:X.calm=true)(Z:Kf X scope N' nt fr)(hi:SI X tg iter mi)(hg:∀C s0 H0 fp,SG (M0 X scope N' (MZ X scope C) C s0 H0 fp) tg g) (ht:∀C s0 H0 fp,SC (M0 X scope N' (MZ X scope C) C s0 H0 fp) ifs c) (he:∀C s0 H0 fp,SE (M0 X scope N' (MZ X scope C) C s0 H0 fp) elt m)(hs:∀x,foldedSetIterable iter X.env x=pure x)         {use:Option (IR->Sem Unit)} {Qf:Qqa}{ps:Pos}(I:Inv X qp σ H s) (E:Hz X.K H io σ ρ) (S:Hw X.K H io st) (e:Jk mi nt fr g c m ρ st=some (d,st'))(kf:∀f C H5 s6,CompEnd X qp σ H io d st' f C H5 s6->compPost (KF X.prog X.w) X.A X.xe use Qf (.ref f) C (.ok .next) s6):
  wpAny (KF X.prog X.w) X.A (comprehension (.ListComp elt [⟨tg,iter,ifs,0⟩] scope pos) scope X.env ps (newList []) false (eval iter X.env) use) Qf X.xe s:=by
 obtain⟨⟨W,t1⟩,e1,e⟩:=Ht e;obtain⟨⟨xs,t2⟩,e2,e⟩:=Ht e;obtain⟨hfit,e⟩:=JJ e;cases e;refine wpAny_comprehension_free (use:=use) rfl hs (zla λn hn=>I.ok.has n (Z.out n hn)) Z.kind (λx hx hl=>by
  obtain⟨n,k⟩:=x;cases (show k=.local from hl)
  exact lookup_mem Z.nd hx) ?_
 refine HB (hi qp s σ H (λJ H1=>∃ka,Ext io ka H H1/\Hw X.K H1 (io++ka) t1/\MR X.K H1 (io++ka) W J) I ⟨ρ,st,io,W,t1,E,S,e1,λJ H' ka X' S' O'=>⟨ka,X',S',O'⟩⟩) λv sa ha=>?_;refine HB ha ?_;rintro itv s2 ⟨it,fp,tn,J,H1,Ws,I1,T,tn0,fpok,y,X1,S1,IO⟩;subst Ws;refine AR ?_;have hD:H1 s2.heap.objs.size=none:=I1.hok.fresh (Ai _);have I3:Inv X qp σ (upd H1 s2.heap.objs.size (.lst [])) {s2 with heap:=s2.heap.push {cls:=.type "list",data:=.seq ([]:List IR).toArray},toks:=s2.toks}:=I1.lnew .nil (Bo _);obtain⟨X2,S2a⟩:=Vl (o:=.lst []) S1 hD;rw[Am]at S2a;have S2:Hw X.K (upd H1 s2.heap.objs.size (.lst [])) (io++y) t1:=S2a;clear S2a;generalize hH3:upd H1 s2.heap.objs.size (.lst [])=H3 at I3 X2 S2;have H3D:H3 s2.heap.objs.size=some (.lst []):=by rw[<-hH3];exact KY
 generalize hD':s2.heap.objs.size=f at hD I3 X2 S2 hH3 H3D ⊢;generalize hs3:({s2 with heap:=s2.heap.push {cls:=.type "list",data:=.seq ([]:List IR).toArray},toks:=s2.toks}:Shared)=s3 at I3;have fplt:∀b∈fp,b<s3.heap.objs.size:=λb hb=>by obtain⟨o,ho,_⟩:=T.obj 0 _ tn0 b hb;rw[<-hs3];exact Ay (An ho) (by show _<=(s2.heap.push _).objs.size;rw[B6];exact Bf _)
 have fpD:∀b∈fp,b≠f:=λb hb z=>by obtain⟨o,ho,_⟩:=T.obj 0 _ tn0 b hb;have:=An ho;rw[z,<-hD']at this;exact AW _ this
 have N:∀b∈fp,K5 X qp H3 b:=λb hb=>⟨by rw[<-hH3,HW (fpD b hb)];exact(fpok b hb).1,(fpok b hb).2⟩
 have tn3:tn 0 s3.heap:=T.keep 0 _ _ tn0 λb _ o ho=>by rw[<-hs3];exact Ag _ ho
 refine vU ?_;have I4:=yB (fp:=fp) Z I3 N fplt;have tn4:tn 0 (pushCells (s3.heap.push Qqd) scope.names):=T.keep 0 _ _ tn3 λb _ o ho=>DA _ _ _ _ (Ag _ ho);generalize hs4:({s3 with heap:=pushCells (s3.heap.push Qqd) scope.names}:Shared)=s4 at I4;have tn4:tn 0 s4.heap:=by rw[<-hs4];exact tn4
 show codeAny (KF X.prog X.w) X.A (.compStart (.ListComp elt [⟨tg,iter,ifs,0⟩] scope pos) 0 (.ref it) (.ref f) (M0 X scope N' (MZ X scope s3.heap.objs.size) s3.heap.objs.size s3 H3 fp).env) _ _;generalize U:M0 X scope N' (MZ X scope s3.heap.objs.size) s3.heap.objs.size s3 H3 fp=Y at I4;have yP:Y.prog=X.prog:=by rw[<-U];rfl
 have yW:Y.w=X.w:=by rw[<-U];rfl
 have yK:Y.K=X.K:=by rw[<-U];rfl
 have yC:Y.calm=true:=by rw[<-U];exact hc
 have yA:Y.A=X.A:=by rw[<-U];rfl
 have yx:Y.xe=FF:=by rw[<-U];rfl
 have hg:=hg s3.heap.objs.size s3 H3 fp;have ht:=ht s3.heap.objs.size s3 H3 fp;have he:=he s3.heap.objs.size s3 H3 fp;rw[U]at hg ht he;have yex:Y.ex=fp:=by rw[<-U];rfl
 have yfs:∀b∈fp,b∉Y.fs:=λb hb hs=>by
  rw[<-U]at hs;have hs:b∈MJ X.stack:=hs;rcases On.mp (I3.stkSub b hs)with z|z
  ·exact(N b hb).2.1 z
  exact(N b hb).2.2.1 z
 have yL:Y.env.locals=s3.heap.objs.size:=by rw[<-U];rfl
 have hio:f∉io++y:=λhm=>by obtain⟨u,hu,_⟩:=S1.mem hm;rw[hD]at hu;cases hu
 have start:∀{H':Hp}{sx:Shared}{σ':L2.St},Inv Y [] σ' H' sx->(∀b∈fp,H' b=none)->∀b∈fp,K5 Y [] H' b:=λ{H' sx σ'} I' hn b hb=>by
  refine⟨hn b hb,λz=>?_,yfs b hb,.inl (by rw[yex];exact hb),λx cc e z=>?_,λp hp=>absurd hp (by rw[<-U];simp[M0])⟩
  ·rw[yL]at z;exact absurd (fplt b hb) (by rw[z];exact AW _)
  exact(I'.ok.exf b (by rw[yex];exact hb)).2 x cc e z
 have loop:∀sx:Shared,Inv Y [] (Pe σ nt fr) H3 sx->tn 0 sx.heap->codeAny (KF X.prog X.w) X.A (.compLoop (.ListComp elt [⟨tg,iter,ifs,0⟩] scope pos) 0 (.ref it) (.ref f) Y.env) (compPost (KF X.prog X.w) X.A X.xe use Qf (.ref f) s3.heap.objs.size) sx:=by
  intro sx Ix tnx;refine zi7 (CompI X Y W tn fp (io++y) H1 f g c m t2 xs) ?_ (W.ds.length-0)
   ⟨0,Pe σ nt fr,H3,HG ρ nt fr,t1,[],[],xs,rfl,Ix,tnx,λb hb=>(N b hb).1,X2,by simp,S2.nil,by rw[Am];exact wD (by have:=(E.ext S X1).ext S1 X2;rw[Am]at this;exact this),⟨[],H3D,rfl⟩,by rw[ES];exact e2,rfl⟩
  rintro n s5 ⟨i,σ5,H5,ρ5,st5,Q,ac,rs,rfl,I5,tn5,fr5,X25,nk5,S5,E5,⟨M,hvs,Rvs⟩,L,exs⟩;have nD:∀{kk:List KB},f∉kk->f∉(io++y)++kk:=λ{kk} hk hm=>(SZ.mp hm).elim hio hk;have nF:∀{kk jj:List KB}{Ha Hb:Hp}{vv:List V},Ext jj kk Ha Hb->Ha f=some (.lst vv)->f∉kk:=λ{kk jj Ha Hb vv} Xx hv hm=>by have q:=Xx.fresh f hm;rw[hv]at q;cases q
  cases hd:W.ds[i]? with
  |none=>
   have hl:W.ds.length<=i:=List.getElem?_eq_none_iff.mp hd;rw[EI hl]at L;obtain⟨hw,L⟩:=JJ L;cases L;have:=T.done Y yP yW yK yC i [] s5 σ5 H5 FF I5 (start I5 fr5) tn5 (IO.stop' H5 Q _ i hl X25 S5 (TY hw));rw[yA]at this;refine HB this ?_;rintro r s6 ⟨hr,I6⟩;subst hr;obtain⟨mm,hn,_⟩:=id I6.loc;rw[yL]at hn;have base:Un (MJ X.stack) fp H3 H5 s3.heap s6.heap:=by have b:=I6.base;rw[<-U]at b;exact b
   have os:s6.os=s3.os:=by have b:=I6.os;rw[<-U]at b;exact b
   have free:H5 s3.heap.objs.size=none:=by have b:=I6.free;rw[yL]at b;exact b
   have hok:JX X.prog X.w H5 s6.heap:=by have b:=I6.hok;rw[yP,yW]at b;exact b
   have I7:Inv X qp σ H5 s6:=Inv.call' (s':=s6) (ch:=fp) I3 os base hok I6.bare λb hb=>⟨(N b hb).2.2.2.1,(N b hb).2.1,(N b hb).2.2.2.2.1,(N b hb).2.2.2.2.2⟩;have np:f∉(io++y)++Q:=nD nk5;rw[Am]at exs;subst exs;have SA:=adopt S5 hvs np Rvs;have X6:Ext io (y++Q) H H5:=X1.trans S1 X25;have lt3:X.env.locals<s3.heap.objs.size:=I3.lt;refine kf f s3.heap.objs.size H5 s6 ⟨I7,⟨mm,hn⟩,free,A5 lt3,I3.sz,λx cc e z=>?_,λp hp z=>?_,?_⟩
   ·obtain⟨vv,q⟩:=I3.cell x cc e;have:=q.lt;rw[z]at this;exact AW _ this
   ·have:=An (I3.pin p hp).1;rw[z]at this;exact AW _ this
   refine⟨(y++Q)++[f],⟨λb o hb nb=>X6.keep b o hb nb,λb hb=>?_,X6.frz⟩,(by simpa using SA),⟨f,rfl,?_⟩⟩
   ·rcases SZ.mp hb with hb|hb
    ·exact X6.fresh b hb
    ·rw[Os.mp hb]
     cases q:H f with
     |none=>rfl
     |some o=>
      by_cases hb:f∈io
      ·exact absurd (B4 _ hb) hio
      have:=X1.keep f o q hb;rw[hD]at this;cases this
   have:=getElem?_len ((io++y)++Q) f;rw[<-S5.len];simpa using this
  |some dd=>
   have hl:i<W.ds.length:=(KM.mp hd).1;have hdr:W.ds.drop i=dd::W.ds.drop (i+1):=by rw[CS hl,(KM.mp hd).2]
   rw[hdr]at L;obtain⟨hw,L⟩:=JJ L;obtain⟨⟨ρ6,t6⟩,e6,L⟩:=Ht L;obtain⟨⟨b7,t7⟩,e7,L⟩:=Ht L;obtain⟨go,yl⟩:=IO.go i dd H5 Q st5 hd X25 S5 (TY hw);have hit:=T.item Y yP yW yK yC i [] s5 σ5 H5 FF I5 (start I5 fr5) tn5 go;rw[yA]at hit;refine HB hit ?_;rintro r s6 ⟨u,hr,h6⟩;subst hr;refine HB h6 ?_;rintro _ s7 ⟨x,H7,I7,r7,y7,tn7,fr7⟩;obtain⟨X7,S7,R7⟩:=yl x H7 y7;have X57:Ext (io++y) Q H1 H7:=(X25.trans S5 X7).app;have hv7:H7 f=some (.lst M):=X7.keep _ _ hvs (nD nk5);have E7:Hz X.K H7 ((io++y)++Q) σ5 ρ5:=by have:=E5.ext S5 X7;rw[Am]at this;exact this
   have R7v:Hl X.K H7 ((io++y)++Q) M ac:=by have:=Rvs.ext S5 X7;rw[Am]at this;exact this
   have I7p:=I7.pinned (start I7 fr7) (T.obj _ _ tn7);rw[<-yA,<-yP,<-yW];rw[<-yx];refine HB (hg _ s7 σ5 H7 x u (λσ8 H8=>∃B,Ext ((io++y)++Q) B H7 H8/\Hw X.K H8 (((io++y)++Q)++B) t6/\Hz X.K H8 (((io++y)++Q)++B) σ8 ρ6) I7p r7 (by rw[yK];exact⟨dd,ρ5,st5,(io++y)++Q,ρ6,t6,R7,E7,S7,e6,λσ8 H8 B X8 S8 E8=>⟨B,X8,S8,E8⟩⟩)) ?_;rintro _ s8 ⟨σ8,H8,I8,B,X8,S8,E8⟩;have S8':Hw X.K H8 ((io++y)++(Q++B)) t6:=by rw[<-Aq];exact S8
   have E8':Hz X.K H8 ((io++y)++(Q++B)) σ8 ρ6:=by rw[<-Aq];exact E8
   have X38:Ext (io++y) (Q++B) H1 H8:=X57.trans S7 X8;have nk8:f∉Q++B:=λhm=>(SZ.mp hm).elim nk5 (nF X8 hv7);refine HB (ht _ s8 σ8 H8 (λb H9=>b=b7/\∃G,Ext ((io++y)++(Q++B)) G H8 H9/\Hw X.K H9 (((io++y)++(Q++B))++G) t7) I8 (by rw[yK];exact⟨ρ6,t6,(io++y)++(Q++B),b7,t7,E8',S8',e7,λH9 G X9 S9=>⟨rfl,G,X9,S9⟩⟩)) ?_;rintro ok s9 ⟨H9,I9,eb,G,X9,S9⟩;subst eb;have X39:Ext (io++y) ((Q++B)++G) H1 H9:=X38.trans S8' X9;have S9':Hw X.K H9 ((io++y)++((Q++B)++G)) t7:=by rw[<-Aq];exact S9
   have E9:Hz X.K H9 ((io++y)++((Q++B)++G)) σ8 ρ6:=by have:=E8'.ext S8' X9;rw[Aq]at this;exact this
   have hv8:H8 f=some (.lst M):=X8.keep _ _ hv7 (nD nk5);have hv9:H9 f=some (.lst M):=X9.keep _ _ hv8 (nD nk8);have nk9:f∉(Q++B)++G:=λhm=>(SZ.mp hm).elim nk8 (nF X9 hv8);have R8v:Hl X.K H8 ((io++y)++(Q++B)) M ac:=by have:=R7v.ext S7 X8;rw[Aq]at this;exact this
   have R9v:Hl X.K H9 ((io++y)++((Q++B)++G)) M ac:=by have:=R8v.ext S8' X9;rw[Aq]at this;exact this
   have back:∀{Hx:Hp}{sx:Shared}{σx:L2.St},Inv Y ([]++Tj fp s7.heap) σx Hx sx->Inv Y [] σx Hx sx/\tn (i+1) sx.heap/\∀b∈fp,Hx b=none:=λ{Hx sx σx} Ix=>by refine⟨Ix.unpinned,T.keep _ _ _ tn7 λb hb o e=>(Ix.pin (b,o) (AY _ (AY _ (VR hb e)))).1,λb hb=>?_⟩;obtain⟨o,e,dn⟩:=T.obj _ _ tn7 b hb;exact(Ix.pin (b,o) (AY _ (AY _ (VR hb e)))).2.1
   cases ok with
   |false=>
    rw[if_neg (by decide)];have L:Kq W g c m (W.ds.drop (i+1)) ρ6 t7=some (rs,t2):=L;obtain⟨Ib,tnb,frb⟩:=back I9;exact⟨W.ds.length-(i+1),by omega,i+1,σ8,H9,ρ6,t7,(Q++B)++G,ac,rs,rfl,Ib,tnb,frb,X39,nk9,S9',E9,⟨M,hv9,R9v⟩,L,exs⟩
   |true=>
    rw[if_pos rfl];have L:((m ρ6 t7).bind λ(x,s3)=>(Kq W g c m (W.ds.drop (i+1)) ρ6 s3).map λ(xs,s4)=>(x::xs,s4))=some (rs,t2):=L;obtain⟨⟨x10,t10⟩,e10,L⟩:=Ht L;obtain⟨⟨rs',t11⟩,e11,L⟩:=IL L;cases L;refine HB (he _ s9 σ8 H9 (λv l=>∃F,Ext ((io++y)++((Q++B)++G)) F H9 l/\Hw X.K l (((io++y)++((Q++B)++G))++F) t10/\Rep X.K l (((io++y)++((Q++B)++G))++F) v x10) I9
     (by rw[yK];exact⟨ρ6,t7,(io++y)++((Q++B)++G),x10,t10,E9,S9',e10,λv l F X10 S10 R10=>⟨F,X10,S10,R10⟩⟩)) λu10 s10 ⟨v10,l,I10,r10,F,X10,S10,R10⟩=>?_
    have X310:Ext (io++y) (((Q++B)++G)++F) H1 l:=X39.trans S9' X10;have nk10:f∉((Q++B)++G)++F:=λhm=>(SZ.mp hm).elim nk9 (nF X10 hv9);have S10':Hw X.K l ((io++y)++(((Q++B)++G)++F)) t10:=by rw[<-Aq];exact S10
    have hv10:l f=some (.lst M):=X10.keep _ _ hv9 (nD nk9);have E10:Hz X.K l ((io++y)++(((Q++B)++G)++F)) σ8 ρ6:=by have:=E9.ext S9' X10;rw[Aq]at this;exact this
    have R10v:Hl X.K l ((io++y)++(((Q++B)++G)++F)) (M++[v10]) (ac++[x10]):=by have a:=R9v.ext S9' X10;rw[Aq]at a;rw[Aq]at R10;exact a.append (Hl.cons R10 Hl.nil)
    have hlen:M.length<sizeLine:=by rw[R9v.length];have:=of_decide_eq_true hfit;rw[exs]at this;simp at this;omega
    refine HB (fQ _ s10 σ8 l (.ref f) [v10] (.ref f) [u10] (λ_ H11=>H11=upd l f (.lst (M++[v10]))) I10 rfl (.cons r10 .nil) ⟨f,M,v10,rfl,rfl,hv10,hlen,rfl⟩) ?_;rintro _ s11 ⟨_,H11,I11,_,e11'⟩;subst e11';have nD10:=nD nk10;have XU:∀b o,l b=some o->b≠f->upd l f (.lst (M++[v10])) b=some o:=λb o hb hn=>by rw[HW hn];exact hb
    have TU:Kp l (upd l f (.lst (M++[v10]))):=⟨λa ys hb=>XU a _ hb (OA hb hv10 (by simp)),λa o u hb=>XU a _ hb (OA hb hv10 (by simp))⟩
    have S11:Hw X.K (upd l f (.lst (M++[v10]))) ((io++y)++(((Q++B)++G)++F)) t10:=by refine⟨S10'.len,S10'.nd,λn a ob h1 h2=>?_⟩;have hne:a≠f:=λz=>nD10 (by rw[<-z];exact AD h1);have:=OR.mono (ka:=[]) TU (HW hne) (S10'.ob n a ob h1 h2);rw[Am]at this;exact this
    have mono0:∀{v:V}{d:D},Rep X.K l ((io++y)++(((Q++B)++G)++F)) v d->Rep X.K (upd l f (.lst (M++[v10]))) ((io++y)++(((Q++B)++G)++F)) v d:=λ{v d} h=>by have:=Rep.mono (ka:=[]) TU h;rw[Am]at this;exact this
    have mono1:∀{v:List V}{d:List D},Hl X.K l ((io++y)++(((Q++B)++G)++F)) v d->Hl X.K (upd l f (.lst (M++[v10]))) ((io++y)++(((Q++B)++G)++F)) v d:=λ{v d} h=>by have:=Hl.mono (ka:=[]) TU h;rw[Am]at this;exact this
    obtain⟨Ib,tnb,frb⟩:=back I11;refine⟨W.ds.length-(i+1),by omega,i+1,σ8,upd l f (.lst (M++[v10])),ρ6,t10,((Q++B)++G)++F,ac++[x10],rs',rfl,Ib,tnb,frb,⟨λb o hb nb=>XU b o (X310.keep b o hb nb) (λz=>by rw[z,hD]at hb;cases hb),X310.fresh,λb o u hb=>XU b _ (X310.frz b o u hb) (λz=>by rw[z,hD]at hb;cases hb)⟩,nk10,S11,⟨E10.len,λj dj hj=>?_⟩,⟨_,KY,mono1 R10v⟩,e11,by rw[exs,Aq];rfl⟩;obtain⟨v,q,r⟩:=E10.at_ j dj hj;exact⟨v,q,mono0 r⟩
 have l4:=loop s4 I4 tn4;exact codeAny_compStart_list l4 (T.self _ 0 _ _ _ tn4 l4)
def Ml(f:X.xe=FF)(h:X.calm=true)(Z:Kf X scope N' nt fr)(hi:SI X tg iter mi)(i:∀C s0 a fp,SG (M0 X scope N' (MZ X scope C) C s0 a fp) tg g) (j:∀C s0 a fp,SC (M0 X scope N' (MZ X scope C) C s0 a fp) ifs c) (he:∀C s0 a fp,SE (M0 X scope N' (MZ X scope C) C s0 a fp) elt m)(n:∀x,foldedSetIterable iter X.env x=pure x:=by intro _;rfl):SE X (.ListComp elt [⟨tg,iter,ifs,0⟩] scope pos) (Jk mi nt fr g c m):=by
 rintro qp s σ H Q I ⟨ρ,st,io,d,st',E,S,e,k⟩;rw[eval_ListComp];refine dQ (use:=none) f h Z hi i j he n I E S e λu C w A R=>?_;obtain⟨W,r⟩:=R.ns;refine⟨W,r,λF l=>?_⟩;obtain⟨ka,v,y,z⟩:=R.val;exact⟨.ref u,w,R.inv.turned (t':=A.toks) (it:=C) (λb o B q=>(l.2 b B).trans q) R.free R.ne (.inr R.young) R.cells R.pin,rfl,k _ _ ka v y z⟩
def iP{i:Nat}{x:Str}{j:Pos}(J:X.xe=FF)(K:X.calm=true)(Z:Kf X scope N' nt fr)(hi:SI X r iter mi)(L:∀C s0 n fp,SG (M0 X scope N' (MZ X scope C) C s0 n fp) r g) (M:∀C s0 n fp,SC (M0 X scope N' (MZ X scope C) C s0 n fp) ifs c) (he:∀C s0 n fp,SE (M0 X scope N' (MZ X scope C) C s0 n fp) elt m)(T:X.N.Nodup) (y:X.N[i]?=some x) (F:X.env.scope.names.lookup x=some .local)(B:swapsWith (.ListComp elt [⟨r,iter,ifs,0⟩] scope pos) (some<|.Name x pos') j.line X.env=pure true:=by rfl)(U:∀x,foldedSetIterable iter X.env x=pure x:=by intro _;rfl):SS X (.Assign [.Name x pos'] (.ListComp elt [⟨r,iter,ifs,0⟩] scope pos) j) (Hm (Jk mi nt fr g c m)<|Hq i):=by
 intro qp s σ H N I h;obtain⟨ρ,st,io,f,st',E,S,e,w⟩:=Mi.mp h;obtain⟨⟨d,s1⟩,Y,e⟩:=Ht e;obtain⟨⟨ρ',s2⟩,e2,e⟩:=IL e;cases e;cases e2;rw[exec_Assign_Name_used _ _ _ _ B];refine Ab<|Bz<|Ab ?_;show wpAny _ X.A (do let _ <-comprehension (.ListComp elt [⟨r,iter,ifs,0⟩] scope pos) scope X.env _ (newList []) false (eval iter X.env) (some<|assign (.Name x pos') X.env)) _ _ s;refine Ab<|HB (dQ (use:=some (assign (.Name x pos') X.env)) (Qf:=λ_ Q=>SP X qp N .next Q) J K Z hi L M he U I E S Y λW C H5 s6 R=>?_) λ_ Q hq=>Ae (Ae hq);obtain⟨m5,hn⟩:=R.ns;obtain⟨ka,G,S5,R5⟩:=R.val;show wpAny _ _ (assign (.Name x pos') X.env<|.ref W) _ _ _;refine FJ<|gT (v:=.ref W) R.inv T y (.inl F) rfl (?_)<|.inr F;rintro s7 I7 ⟨a,sb,ha⟩;have l:C≠a:=λz=>by
  rcases ha with q|q
  ·exact R.ne<|z.trans q
  exact R.cells _ _ q z.symm
 refine⟨m5,hn.sameBut sb l,λh' u=>?_⟩;refine⟨_,H5,I7.turned (t':=s7.toks) (it:=C) (λb o hb q=>(u.2 b hb).trans q) R.free R.ne (.inr R.young) R.cells R.pin,?_⟩;exact w _ _ ka G S5<|(E.ext S G).set i R5
end
variable {v:V}
def Hh:G2
 |.int i,.int j,st=>some (.int (i+j),st)
 |.str a,.str b,st=>if fits (a.length+b.length)=true then some (.str (a++b),st)else none
 |.tup a,.tup b,st=>if(!a.isEmpty&&fits (a.length+b.length))=true then some (.tup (a++b),st)else none
 |.ref a,.ref b,st=>match st[a]?,st[b]? with
  |some (.lst x),some (.lst y)=>if fits (x.length+y.length)=true then some (.ref st.length,st++[.lst (x++y)])else none
  |_,_=>none
 |_,_,_=>none
def Ir:Jq X (binaryOp .Add) Hh:=by
 rintro qp s σ H x y v u Q I rx A ⟨h,E,st,io,d,st',W,a,S,e,k⟩;cases h with
 |int i=>
  cases E with
  |int j=>cases e;exact oE qp s σ H x y v u Q I rx A ⟨i,j,W,a,k.now S rfl⟩
  |_=>cases e
 |str i=>
  cases E with
  |str j=>
   obtain⟨hf,e⟩:=JJ e;cases e;exact zj6 qp s σ H x y v u Q I rx A ⟨i,j,W,a,of_decide_eq_true hf,k.now S rfl⟩
  |_=>cases e
 |tup i=>
  cases E with
  |tup j=>
   obtain⟨hf,e⟩:=JJ e;cases e;rw[Ad]at hf;obtain⟨p,xs,ex,l,o⟩:=W;obtain⟨q,c,f,g,w⟩:=a;refine vK qp s σ H x y v u Q I rx A ⟨p,q,xs,c,ex,f,Je.of l,Je.of g,λz=>?_,by rw[o.length,w.length];exact of_decide_eq_true hf.2,λz=>?_,λz p l=>k.tup S (o.append w) l⟩
   ·have:=o.length;rw[z]at this;have:i=[]:=Bj this.symm;rw[this]at hf;exact absurd hf.1<|by decide
   have:=w.length;rw[z]at this;have:j=[]:=Bj this.symm;subst this;rw[Am]at k;exact k.now S ⟨p,xs,rfl,l,o⟩
  |_=>cases e
 |ref i=>
  cases E with
  |ref j=>
   unfold Hh at e;dsimp only at e;split at e
   ·rename_i C F m n;obtain⟨hf,e⟩:=JJ e;cases e;obtain⟨p,ex,l⟩:=W;obtain⟨q,f,g⟩:=a;obtain⟨xs,r,o⟩:=S.ob i p _ l m;obtain⟨c,B,w⟩:=S.ob j q _ g n;exact oG qp s σ H x y v u Q I rx A ⟨p,q,xs,c,ex,f,r,B,by rw[o.length,w.length];exact of_decide_eq_true hf,λp l=>k.lst S (o.append w) l⟩
   ·cases e
  |_=>cases e
 |_=>cases e
def intD(c:Int->Int->Bool)(g:Int->Int->D):G2
 |.int i,.int j,st=>if c i j=true then some (g i j,st)else none
 |_,_,_=>none
def Ts{f:IR->IR->Sem IR}{C:Int->Int->Prop}{c:Int->Int->Bool}{g:Int->Int->Int}(h:Kd X f (rI C λi j=>.int (g i j)))(a:∀i j,c i j=true->C i j):Jq X f (intD c λi j=>.int (g i j)):=by
 rintro qp s σ H x y v u Q I rx l ⟨o,w,st,io,d,st',A,E,S,e,k⟩;cases o with
 |int i=>
  cases w with
  |int j=>
   obtain⟨hf,e⟩:=JJ e;cases e;exact h qp s σ H x y v u Q I rx l ⟨i,j,A,E,a i j hf,k.now S rfl⟩
  |_=>cases e
 |_=>cases e
def Y4:Int->Int->Bool:=λ_ _=>true
def Mw:G2:=intD Y4 λi j=>.int<|i-j
def XE:Jq X (binaryOp .Sub) Mw:=Ts (C:=λ_ _=>True) (λqp s σ H x y v u Q I rx l ⟨i,j,o,w,_,q⟩=>rE qp s σ H x y v u Q I rx l ⟨i,j,o,w,q⟩) λ_ _ _=>trivial
def J5(i:Int):Bool:=decide (-(2^64)<i)&&decide (i<2^64)
def KD:G2:=intD (λi j=>J5 i || J5 j) λi j=>.int<|i*j
def uP:Jq X (binaryOp .Mult) KD:=Ts rC λi j h=>by
 rw[Cp]at h;unfold J5 at h;rw[Ad,Ad]at h;rcases h with h|h
 ·exact .inl ⟨of_decide_eq_true h.1,of_decide_eq_true h.2⟩
 exact .inr ⟨of_decide_eq_true h.1,of_decide_eq_true h.2⟩
def KG:G2:=intD (λ_ j=>decide (0<j)) λi j=>.int<|i % j
def Tt:Jq X (binaryOp .Mod) KG:=Ts rB λi j h=>of_decide_eq_true h
def HN(g:Int->Int->Bool):G2
 |.int i,.int j,st=>some (.bl (g i j),st)
 |_,_,_=>none
def Vn{f:IR->IR->Sem IR}{g:Int->Int->Bool}(h:Kd X f (PK λi j=>.bl (g i j))):Jq X f (HN g):=by
 rintro qp s σ H x y v u Q I rx l ⟨o,w,st,io,d,st',A,E,S,e,k⟩;cases o with
 |int i=>
  cases w with
  |int j=>cases e;exact h qp s σ H x y v u Q I rx l ⟨i,j,A,E,k.now S rfl⟩
  |_=>cases e
 |_=>cases e
def Iv:G2:=HN λi j=>decide (i<j)
def Ik:G2:=HN λi j=>decide (i<=j)
def Jg:G2:=HN λi j=>decide (j<i)
def JW:G2:=HN λi j=>decide (j<=i)
def Mp:Jq X (PP .Lt) Iv:=Vn lU
def LN:Jq X (PP .LtE) Ik:=Vn lS
def RH:Jq X (PP .Gt) Jg:=Vn lQ
def oH:Jq X (PP .GtE) JW:=Vn lP
def P6:D->Bool
 |.non=>true
 |_=>false
def Uy:G2:=λx y st=>match y with
 |.non=>some (.bl (P6 x),st)
 |_=>none
def G6:G2:=λx y st=>match y with
 |.non=>some (.bl !P6 x,st)
 |_=>none
def cA(h:Rep K H io v d):decide (v=.non)=P6 d:=by
 cases d with
 |non=>cases (show v=.non from h);rfl
 |bl b=>cases (show v=.bl b from h);rfl
 |int b=>cases (show v=.int b from h);rfl
 |str b=>cases (show v=.str b from h);rfl
 |tup b=>obtain⟨a,xs,rfl,_⟩:=h;rfl
 |ref b=>obtain⟨a,rfl,_⟩:=h;rfl
 |kl b=>obtain⟨a,xs,rfl,_⟩:=h;rfl
 |fn b=>obtain⟨a,rfl,_⟩:=h;rfl
 |er b c f=>cases f<;>(obtain⟨_,_,_,_,h⟩:=h;first|(obtain⟨rfl,_⟩:=h;rfl)|(obtain⟨_,rfl,_⟩:=h;rfl)|(obtain⟨_,_,rfl,_⟩:=h;rfl))
def vL:Jq X (PP .Is) Uy:=by
 rintro qp s σ H x y v u Q I rx l ⟨E,o,st,io,d,st',w,A,S,e,k⟩;cases o with
 |non=>
  cases e;refine oI qp s σ H x y v u Q I rx l ⟨A,?_⟩;rw[cA w];exact k.now S rfl
 |_=>cases e
def yS:Jq X (PP .IsNot) G6:=by
 rintro qp s σ H x y v u Q I rx l ⟨E,o,st,io,d,st',w,A,S,e,k⟩;cases o with
 |non=>
  cases e;refine uQ qp s σ H x y v u Q I rx l ⟨A,?_⟩;rw[cA w];exact k.now S rfl
 |_=>cases e
def Nq:D->Hg->Option (D×Hg)
 |.int i,st=>some (.int (-i),st)
 |_,_=>none
def Ko(m:ME):ME:=λρ st=>(m ρ st).bind λ(x,s)=>Nq x s
def RI(c:SE X a ma):SE X (.UnaryOp .USub a pos) (Ko ma):=PE.imp (mH pY c) <| by
 rintro σ H Q ⟨ρ,st,io,d,st',E,S,e,k⟩;obtain⟨⟨x,s1⟩,l,e⟩:=Ht e;cases x with
 |int i=>
  cases e;exact⟨ρ,st,io,.int i,_,E,S,l,λv H1 o s u w=>⟨i,w,k _ H1 o s u rfl⟩⟩
 |_=>cases e
def Lj:G2
 |.tup ds,.int i,st=>(LB ds i).map λd=>(d,st)
 |.ref n,.int i,st=>(Iw st n).bind λds=>(LB ds i).map λd=>(d,st)
 |.kl ds,.int i,st=>(LB ds i).map λd=>(d,st)
 |.str z,.int i,st=>if fits z.length=true then(LB z.cps.toList i).map λc=>(.str ⟨#[c]⟩,st)else none
 |_,_,_=>none
def Xi{i:Int}(r:Hl K H io xs ds)(h:LB ds i=some d):∃v,LB xs i=some v/\Rep K H io v d:=by unfold LB at h ⊢;rw[r.length];obtain⟨j,l,h⟩:=Ht h;obtain⟨v,o,s⟩:=r.get h;exact⟨v,by rw[l];exact o,s⟩
def ZE:UI X (Ui X.K Lj):=by
 rintro value slice qp s σ H x y v u Q I rx A ⟨h,j,st,io,d,st',E,W,S,e,k⟩ a;cases j with
 |int i=>
  cases h with
  |tup ds=>
   obtain⟨c,o,e⟩:=IL e;cases e;obtain⟨p,xs,ex,f,r⟩:=E;obtain⟨w,hw,l⟩:=Xi r o;exact J7 value slice qp s σ H x y v u Q I rx A ⟨p,xs,i,w,ex,W,Je.of f,hw,k.now S l⟩ a
  |ref n=>
   obtain⟨ds,m,e⟩:=Ht e;obtain⟨c,o,e⟩:=IL e;cases e;obtain⟨p,ex,f⟩:=E;obtain⟨xs,g,r⟩:=LU S f m;obtain⟨w,hw,l⟩:=Xi r o;exact bM value slice qp s σ H x y v u Q I rx A ⟨p,xs,i,w,ex,W,g,hw,k.now S l⟩ a
  |kl ds=>
   obtain⟨c,o,e⟩:=IL e;cases e;obtain⟨p,xs,ex,g,r⟩:=E;obtain⟨w,hw,l⟩:=Xi r o;exact bM value slice qp s σ H x y v u Q I rx A ⟨p,xs,i,w,ex,W,g.sq,hw,k.now S l⟩ a
  |str z=>
   obtain⟨hf,e⟩:=JJ e;obtain⟨c,o,e⟩:=IL e;cases e;exact RM value slice qp s σ H x y v u Q I rx A ⟨z,i,c,E,W,of_decide_eq_true hf,o,k.now S rfl⟩ a
  |_=>cases e
 |_=>cases h<;>cases e
def kM(c:SE X a ma)(e:SE X b mb)(f:Xf b:=by intro _ _;rfl):SE X (.Subscript a b pos) (mB Lj ma mb):=PE.imp (mD ZE c e f) λ_ _ _ h=>VE h
def Ho:GN
 |[.tup ds],st=>some (.int ds.length,st)
 |[.ref n],st=>(Iw st n).map λds=>(.int ds.length,st)
 |[.kl ds],st=>some (.int ds.length,st)
 |[.str z],st=>if fits z.length=true then some (.int z.length,st)else none
 |_,_=>none
def JE:Kw X (.builtin "len") Ho:=by
 rintro qp s σ H xs us Q I r ⟨ds,st,io,d,st',R,S,e,k⟩;cases ds with
 |nil=>cases e
 |cons x E=>
 cases E with
 |cons a l=>cases x<;>cases e
 |nil=>
 cases x with
 |tup A=>
  cases e;obtain⟨v,rfl,p,o,rfl,u,l⟩:=R.one;refine YJ qp s σ H _ us Q I r ⟨p,o,rfl,.inr<|Je.of u,?_⟩;rw[l.length];exact k.now S rfl
 |ref n=>
  obtain⟨A,W,e⟩:=IL e;cases e;obtain⟨v,rfl,p,rfl,u⟩:=R.one;obtain⟨o,w,l⟩:=LU S u W;refine YJ qp s σ H _ us Q I r ⟨p,o,rfl,.inl w,?_⟩;rw[l.length];exact k.now S rfl
 |kl A=>
  cases e;obtain⟨v,rfl,p,o,rfl,w,l⟩:=R.one;refine YJ qp s σ H _ us Q I r ⟨p,o,rfl,.inl w.sq,?_⟩;rw[l.length];exact k.now S rfl
 |str z=>
  obtain⟨hf,e⟩:=JJ e;cases e;obtain⟨v,rfl,rfl⟩:=R.one;exact zhS qp s σ H _ us Q I r ⟨z,rfl,of_decide_eq_true hf,k.now S rfl⟩
 |_=>cases e
def HV:GN
 |[.int i],st=>some (.int i,st)
 |[.bl b],st=>some (.int (if b then 1 else 0),st)
 |_,_=>none
def TQ:Kw X (.type "int") HV:=by
 rintro qp s σ H xs us Q I r ⟨ds,st,io,d,st',R,S,e,k⟩;cases ds with
 |nil=>cases e
 |cons l o=>
 cases o with
 |cons u w=>cases l<;>cases e
 |nil=>
 cases l with
 |int i=>
  cases e;obtain⟨v,rfl,rfl⟩:=R.one;exact fF qp s σ H _ us Q I r<|.inl ⟨i,rfl,k.now S rfl⟩
 |bl b=>
  cases e;obtain⟨v,rfl,rfl⟩:=R.one;exact fF qp s σ H _ us Q I r<|.inr ⟨b,rfl,k.now S rfl⟩
 |_=>cases e
def Oj:GN
 |[.int i],st=>some (.int (if i<0 then -i else i),st)
 |_,_=>none
def zmW:Kw X (.builtin "abs") Oj:=by
 rintro qp s σ H xs us Q I r ⟨ds,st,io,d,st',R,S,e,k⟩;cases ds with
 |nil=>cases e
 |cons l o=>
 cases o with
 |cons u w=>cases l<;>cases e
 |nil=>
 cases l with
 |int i=>
  cases e;obtain⟨v,rfl,rfl⟩:=R.one;exact vO qp s σ H _ us Q I r ⟨i,rfl,k.now S rfl⟩
 |_=>cases e
def Sy:GN
 |[.int i,.int j],st=>some (.int (if j > i then j else i),st)
 |_,_=>none
def Sz:GN
 |[.int i,.int j],st=>some (.int (if j<i then j else i),st)
 |_,_=>none
def zmT(a:X.calm=true):Kw X (.builtin "max") Sy:=by
 rintro qp s σ H xs us Q I r ⟨ds,st,io,d,st',R,S,e,k⟩;unfold Sy at e;split at e
 ·rename_i i j;cases e;obtain⟨v,u,rfl,rfl,rfl⟩:=R.two;exact zmU a qp s σ H _ us Q I r ⟨i,j,rfl,k.now S rfl⟩
 ·cases e
def zmR(a:X.calm=true):Kw X (.builtin "min") Sz:=by
 rintro qp s σ H xs us Q I r ⟨ds,st,io,d,st',R,S,e,k⟩;unfold Sz at e;split at e
 ·rename_i i j;cases e;obtain⟨v,u,rfl,rfl,rfl⟩:=R.two;exact zmS a qp s σ H _ us Q I r ⟨i,j,rfl,k.now S rfl⟩
 ·cases e
def Mr:GN
 |[.tup ds],st=>some (.tup ds,st)
 |[.ref n],st=>(Iw st n).map λds=>(.tup ds,st)
 |_,_=>none
def Qj:Kw X (.type "tuple") Mr:=by
 rintro qp s σ H xs us Q I r ⟨ds,st,io,d,st',R,S,e,k⟩;cases ds with
 |nil=>cases e
 |cons x A=>
 cases A with
 |cons f o=>cases x<;>cases e
 |nil=>
 cases x with
 |tup E=>
  cases e;obtain⟨v,rfl,p,u,rfl,w,o⟩:=R.one;exact iX qp s σ H _ us Q I r ⟨p,u,rfl,.inr ⟨Je.of w,k.now S ⟨p,u,rfl,w,o⟩⟩⟩
 |ref n=>
  obtain⟨E,W,e⟩:=IL e;cases e;obtain⟨v,rfl,p,rfl,w⟩:=R.one;obtain⟨u,a,o⟩:=LU S w W;exact iX qp s σ H _ us Q I r ⟨p,u,rfl,.inl ⟨a,λl c=>k.tup S o c⟩⟩
 |_=>cases e
def K0(f:D->Option PyData):List D->Option (List PyData)
 |[]=>some []
 |d::ds=>(f d).bind λp=>(K0 f ds).map λa=>p::a
def Jn:Nat->Hg->D->Option PyData
 |0,_,_=>none
 |n+1,st,d=>match d with
  |.non=>some .none
  |.bl b=>some<|.bool b
  |.int i=>some<|.int i
  |.str x=>if Ao x=true then some (.str x)else none
  |.tup ds=>(K0 (Jn n st) ds).map .tuple
  |.ref k=>(Iw st k).bind λds=>(K0 (Jn n st) ds).map .list
  |.kl _=>none
  |.fn _=>none
  |.er _ _ _=>none
def YA{n:Nat}:∀{a:List PyData},(∀p∈a,p.depth<=n)->Et a<=n
 |[],_=>by rw[Et];exact Bo _
 |p::a,h=>by rw[Et];exact Nat.max_le.mpr ⟨h p Al,YA λq c=>h q (Aj _ c)⟩
def iF{a:List PyData}:(∀p∈a,p.canLay0=true)->Cs a=true:=by
 induction a with
 |nil=>intro _;simp only[Cs]
 |cons p a l=>
  intro h;simp only[Cs];rw[h p Al,l λq o=>h q (Aj _ o)];rfl
def XO{f:D->Option PyData}:∀{ds:List D}{a:List PyData},K0 f ds=some a->∀p∈a,∃d,f d=some p
 |[],a,h,p,hp=>by cases h;exact absurd hp<|by simp
 |d::ds,a,h,p,hp=>by
  obtain⟨q,c,h⟩:=Ht h;obtain⟨o,l,h⟩:=IL h;subst h;rcases On.mp hp with rfl|hp
  ·exact⟨d,c⟩
  exact XO l p hp
def OP:∀{n:Nat}{st:Hg}{d:D}{p:PyData},Jn n st d=some p->p.canLay0=true/\p.depth<=n
 |0,_,_,_,h=>by cases h
 |n+1,st,d,p,h=>by
  cases d with
  |non=>cases h;exact⟨by simp only[BO],by simp only[CZ];exact Bo _⟩
  |bl b=>cases h;exact⟨by simp only[BO],by simp only[CZ];exact Bo _⟩
  |int b=>cases h;exact⟨by simp only[BO],by simp only[CZ];exact Bo _⟩
  |str b=>
   obtain⟨a,h⟩:=JJ h;cases h;exact⟨by simp only[BO];exact a,by simp only[CZ];exact Bo _⟩
  |tup ds=>
   obtain⟨o,e,h⟩:=IL h;subst h;have q:∀p∈o,p.canLay0=true/\p.depth<=n:=λp l=>let ⟨d,hd⟩:=XO e p l;OP hd;exact⟨by simp only[BO];exact iF λp l=>(q p l).1,by simp only[CZ];exact Di (YA λp l=>(q p l).2)⟩
  |kl ds=>cases h
  |fn ds=>cases h
  |er _ _ _=>cases h
  |ref k=>
   obtain⟨ds,s,h⟩:=Ht h;obtain⟨o,e,h⟩:=IL h;subst h;have q:∀p∈o,p.canLay0=true/\p.depth<=n:=λp l=>let ⟨d,hd⟩:=XO e p l;OP hd;exact⟨by simp only[BO];exact iF λp l=>(q p l).1,by simp only[CZ];exact Di (YA λp l=>(q p l).2)⟩
def YL{f:D->Option PyData}(hf:∀{v:V}{u:IR}{d:D}{p:PyData},Rep X.K H io v d->RelV v u->f d=some p->∃as,Reads s.heap u p as):
  ∀{xs:List V}{us:List IR}{ds:List D}{a:List PyData},Hl X.K H io xs ds->Vals xs us->K0 f ds=some a->∃as,ReadsAll s.heap us a as
 |_,_,[],a,h,r,e=>by
  cases (show _=[] from h)
  cases r;cases e;exact⟨_,.nil⟩
 |_,_,d::ds,a,h,r,e=>by
  obtain⟨y,i,rfl,c,g⟩:=h;cases r with
  |cons l o=>
   obtain⟨q,w,e⟩:=Ht e;obtain⟨Q,x,e⟩:=IL e;subst e;obtain⟨as,A⟩:=hf c l w;obtain⟨bs,E⟩:=YL hf g o x;exact⟨_,.cons A E⟩
def O2(I:Inv X qp σ H s)(S:Hw X.K H io st):∀{n:Nat}{v:V}{u:IR}{d:D}{p:PyData},Rep X.K H io v d->RelV v u->Jn n st d=some p->∃as,Reads s.heap u p as
 |0,_,_,_,_,_,_,h=>by cases h
 |n+1,v,u,d,p,h,r,e=>by
  cases d with
  |non=>cases e;cases (show v=.non from h);cases r;exact⟨_,.none⟩
  |bl b=>cases e;cases (show v=.bl b from h);cases r;exact⟨_,.bool _⟩
  |int b=>cases e;cases (show v=.int b from h);obtain⟨t,rfl⟩:=r;exact⟨_,.int _ _⟩
  |str b=>
   obtain⟨m,e⟩:=JJ e;cases e;cases (show v=.str b from h);obtain⟨t,rfl⟩:=r;exact⟨_,.str _ _⟩
  |tup ds=>
   obtain⟨c,l,q⟩:=IL e;subst q;obtain⟨a,xs,rfl,w,rs⟩:=h;cases r;obtain⟨x,A,⟨o,E,Q,k,hd⟩,g⟩:=I.tuple<|Je.of w;obtain⟨as,W⟩:=YL (f:=Jn n st) (λh r e=>O2 I S h r e) rs A l;exact⟨_,.tuple E Q hd<|by simpa using W⟩
  |kl ds=>cases e
  |fn ds=>cases e
  |er _ _ _=>cases e
  |ref k=>
   obtain⟨ds,i,e⟩:=Ht e;obtain⟨c,l,q⟩:=IL e;subst q;obtain⟨a,rfl,w⟩:=h;cases r;obtain⟨xs,j,rs⟩:=LU S w i;obtain⟨x,A,⟨o,k,E,Q,_,hd⟩,g⟩:=I.list j;obtain⟨as,W⟩:=YL (f:=Jn n st) (λh r e=>O2 I S h r e) rs A l;exact⟨_,.list E Q hd<|by simpa using W⟩
def Il:G2:=λx y st=>(Jn 100 st x).bind λp=>(Jn 100 st y).map λq=>(.bl (Bl p q),st)
def IP:G2:=λx y st=>(Jn 100 st x).bind λp=>(Jn 100 st y).map λq=>(.bl !PyData.eqv p q,st)
def JP(a:X.A.units+100<cLine):Jq X (PP .Eq) Il:=by rintro qp s σ H x y v u Q I rx E ⟨i,j,st,io,d,st',W,c,S,e,k⟩;obtain⟨p,l,e⟩:=Ht e;obtain⟨q,o,e⟩:=IL e;cases e;obtain⟨as,f⟩:=O2 I S W rx l;obtain⟨bs,g⟩:=O2 I S c E o;have w:=OP l;have h:=OP o;exact PySem.SeqAt.compareEq_reads f g w.1 h.1 (BV (DE (Ar (Gh _ _) w.2) _) a) ⟨.bl _,H,I,rfl,k.now S rfl⟩
def Mq(a:X.A.units+100<cLine):Jq X (PP .NotEq) IP:=by rintro qp s σ H x y v u Q I rx E ⟨i,j,st,io,d,st',W,c,S,e,k⟩;obtain⟨p,l,e⟩:=Ht e;obtain⟨q,o,e⟩:=IL e;cases e;obtain⟨as,f⟩:=O2 I S W rx l;obtain⟨bs,g⟩:=O2 I S c E o;have w:=OP l;have h:=OP o;exact PySem.SeqAt.compareNe_reads f g w.1 h.1 (BV (DE (Ar (Gh _ _) w.2) _) a) ⟨.bl _,H,I,rfl,k.now S rfl⟩
def IA(a:HP k A):A.units+100<cLine:=by have:=a.un;omega
variable {t':Nat}
section
variable {h':Pv}
def Inv.turnNew{fp:List KB}{o:HO}(I:Inv X qp σ H s)(hf:∀b∈fp,K5 X qp H b)(k:∀b ob,b∉fp->s.heap.get? b=some ob->h'.get? b=some ob)(f:s.heap.objs.size<=p)(g:∀b∈fp,∀ob,s.heap.get? b=some ob->∃a,h'.get? b=some a) (new:Kx X.prog X.w (upd H p o) h' p o):Inv X qp σ (upd H p o) {s with heap:=h',toks:=t'}:=by
 have l:=I.hok.fresh f;have A:∀b ob,s.heap.get? b=some ob->b≠p:=λb ob e=>Au<|Ay (An e) f;refine Inv.step (ch:=fp) (g':=s.gens) (d':=s.drawn) I (λb x=>⟨(hf b x).2.2.2.1,(hf b x).2.1,(hf b x).2.2.2.2.1,(hf b x).2.2.2.2.2⟩) (λb ob _ _ hc e _=>k b ob hc e) (λb ob _ _ hc e _=>⟨ob.slots,k b ob hc e⟩)
  (λb ob hc e n=>by rw[HW (A b ob e)];exact n) (λb ob hc e=>⟨ob,k b ob hc e⟩) (λb xs e=>by rw[HW (Ka e l)];exact e) (λb ob u e=>by rw[HW (Ka e l)];exact e)
  (λb i e=>⟨#[],by rw[HW (Ka e l),e];simp⟩) (λm hm=>?_) (λb u e=>?_) I.bare
 ·obtain⟨ob,Q,W,h,r⟩:=hm;exact⟨ob,Q,W,k _ ob (λz=>(hf _ z).2.1 rfl) h,r⟩
 ·by_cases x:b=p
  ·subst x;rw[KY]at e;cases e;exact new
  ·rw[HW x]at e;refine(I.hok b u e).stay (λc v hc q=>k c v (λz=>?_) q) (λc q=>by rw[HW (Ka q l)];exact q) λc xs q=>by rw[HW (Ka q l)];exact q
   have E:=(hf c z).1;rcases hc with rfl|hc
   ·rw[E]at e;cases e
   rw[E]at hc;cases hc
def Inv.turnAll{fp:List KB}(I:Inv X qp σ H s)(hf:∀b∈fp,K5 X qp H b)(k:∀b ob,b∉fp->s.heap.get? b=some ob->h'.get? b=some ob):Inv X qp σ H {s with heap:=h',toks:=t'}:=by
 refine Inv.step (ch:=fp) (g':=s.gens) (d':=s.drawn) I (λb l=>⟨(hf b l).2.2.2.1,(hf b l).2.1,(hf b l).2.2.2.2.1,(hf b l).2.2.2.2.2⟩) (λb ob _ _ hc e _=>k b ob hc e) (λb ob _ _ hc e _=>⟨ob.slots,k b ob hc e⟩)
  (λb ob hc e n=>n) (λb ob hc e=>⟨ob,k b ob hc e⟩) (λb xs e=>e) (λb ob u e=>e)
  (λb E e=>⟨#[],by rw[e];simp⟩) (λm hm=>?_) (λb u e=>?_) I.bare
 ·obtain⟨ob,w,x,A,r⟩:=hm;exact⟨ob,w,x,k _ ob (λz=>(hf _ z).2.1 rfl) A,r⟩
 ·refine(I.hok b u e).stay (λc v hc q=>k c v (λz=>?_) q) (λc q=>q) λc xs q=>q;have o:=(hf c z).1
  rcases hc with rfl|hc
  ·rw[o]at e;cases e
  rw[o]at hc;cases hc
end
def boot_enumerate:bootBuiltins "enumerate"=some (.type "enumerate"):=by decide +kernel
def pairs(ds:List D):List D:=(ds.zipIdx).map λ(d,k)=>.tup [.int (k:Nat),d]
def zmd{i:Nat}(h:(pairs ds)[i]?=some d):∃e,ds[i]?=some e/\d=.tup [.int (i:Nat),e]:=by
 unfold pairs at h;rw[AJ,List.getElem?_zipIdx]at h;cases e:ds[i]? with
 |none=>rw[e]at h;cases h
 |some x=>
  rw[e]at h;simp at h;exact⟨x,rfl,h.symm⟩
def pairs_len(ds:List D):(pairs ds).length=ds.length:=by unfold pairs;simp
section
variable {κ:Type} [DecidableEq κ]
def Kn(kvs:List (κ×D))(k:κ):Option D:=(kvs.find? λl=>decide (l.1=k)).map (·.2)
def putD(kvs:List (κ×D))(k:κ)(d:D):List (κ×D):=if(kvs.any λl=>decide (l.1=k))=true then kvs.map (λl=>if l.1=k then(l.1,d)else l)else kvs++[(k,d)]
def KR.any{c:List (κ×V)}{kvs:List (κ×D)}(r:KR κ K H io c kvs)(k:κ):(c.any λa=>decide (a.1=k))=(kvs.any λa=>decide (a.1=k)):=by
 induction r with
 |nil=>rfl
 |cons z t l=>rw[Cj,Cj,l,z.1]
def KR.length{a:List (κ×V)}{kvs:List (κ×D)}(r:KR κ K H io a kvs):a.length=kvs.length:=BM r
def KR.val{a:List (κ×V)}{kvs:List (κ×D)}(r:KR κ K H io a kvs)(k:κ):(Kn kvs k=none/\JZ a k=none)\/∃d v,Kn kvs k=some d/\JZ a k=some v/\Rep K H io v d:=by
 induction r with
 |nil=>exact .inl ⟨rfl,rfl⟩
 |@cons p q o s z t l=>
  unfold Kn JZ at *;rw[Bi,Bi,z.1];by_cases e:q.1=k
  ·rw[decide_eq_true e];exact .inr ⟨q.2,p.2,rfl,rfl,z.2⟩
  rw[decide_eq_false e];exact l
def KR.append{c e:List (κ×V)}{kvs a:List (κ×D)}(r:KR κ K H io c kvs)(f:KR κ K H io e a):KR κ K H io (c++e) (kvs++a):=by
 induction r with
 |nil=>exact f
 |cons z t l=>exact .cons z l
def KR.put{c:List (κ×V)}{kvs:List (κ×D)}(r:KR κ K H io c kvs)(k:κ)(a:Rep K H io v d):KR κ K H io (putK c k v) (putD kvs k d):=by
 unfold putK putD;rw[KR.any r k];by_cases e:(kvs.any λl=>decide (l.1=k))=true
 ·rw[if_pos e,if_pos e]
  induction r with
  |nil=>exact .nil
  |@cons p q u w z t s=>
   rw[Ax,Ax];have o:KR κ K H io (u.map λl=>if l.1=k then(l.1,v)else l) (w.map λl=>if l.1=k then(l.1,d)else l):=by
    clear s e
    induction t with
    |nil=>exact .nil
    |@cons p q u w z t s=>
     rw[Ax,Ax];refine .cons ?_ s;rw[z.1];by_cases e:q.1=k
     ·rw[if_pos e,if_pos e];exact⟨rfl,a⟩
     rw[if_neg e,if_neg e];exact z
   refine .cons ?_ o;rw[z.1];by_cases e:q.1=k
   ·rw[if_pos e,if_pos e];exact⟨rfl,a⟩
   rw[if_neg e,if_neg e];exact z
 rw[if_neg e,if_neg e];exact KR.append r<|.cons ⟨rfl,a⟩ .nil
end
def keyOf:D->Option Key
 |.int i=>some<|.inl i
 |.str x=>some<|.inr x
 |_=>none
def keysOf:List D->Option (List Key)
 |[]=>some []
 |d::ds=>(keyOf d).bind λk=>(keysOf ds).map λks=>k::ks
variable {y:V}{md mk:ME}
def VG{k:Key}(h:Rep K H io v d)(e:keyOf d=some k):v=kV k:=by
 cases d with
 |int i=>cases e;exact h
 |str i=>cases e;exact h
 |_=>cases e
def Yp:∀{xs:List V}{ds:List D}{ks:List Key},Hl K H io xs ds->keysOf ds=some ks->xs=ks.map kV
 |_,[],ks,h,e=>by cases e;exact h
 |_,d::ds,ks,h,e=>by obtain⟨y,f,rfl,a,c⟩:=h;obtain⟨k,l,e⟩:=Ht e;obtain⟨o,s,e⟩:=IL e;subst e;rw[VG a l,Yp c s];rfl
def look(st:Hg)(n:Nat)(k:D):Option (Option D):=match st[n]? with
 |some (.dk l)=>(keyOf k).map λq=>Kn l q
 |some (.dt l)=>match k with
  |.tup ds=>(keysOf ds).map λq=>Kn l q
  |_=>none
 |_=>none
def cZ{k:D}{r:Option D}(S:Hw K H io st)(a:io[n]?=some p)(c:Rep K H io y k)(h:look st n k=some r):∃o,J6 H p y o/\((r=none/\o=none)\/∃d v,r=some d/\o=some v/\Rep K H io v d):=by
 unfold look at h;split at h
 ·rename_i u e;obtain⟨q,w,h⟩:=IL h;subst h;obtain⟨E,x,r⟩:=S.ob n p _ a e;have Q:=VG c w;subst Q;refine⟨_,J6.k x,?_⟩
  rcases KR.val r q with⟨l,s⟩|⟨d,v,l,s,A⟩
  ·exact .inl ⟨l,s⟩
  exact .inr ⟨d,v,l,s,A⟩
 ·rename_i u e
  split at h
  ·rename_i ds;obtain⟨q,w,h⟩:=IL h;subst h;obtain⟨E,x,r⟩:=S.ob n p _ a e;obtain⟨b,xs,rfl,W,rs⟩:=c;have ex:=Yp rs w;subst ex;refine⟨_,J6.t x W,?_⟩
   rcases KR.val r q with⟨l,s⟩|⟨d,v,l,s,A⟩
   ·exact .inl ⟨l,s⟩
   exact .inr ⟨d,v,l,s,A⟩
  ·cases h
 ·cases h
def G1(md mk:ME):ME:=λρ st=>(md ρ st).bind λ(d,s1)=>(mk ρ s1).bind λ(k,s2)=>match d with
 |.ref n=>(look s2 n k).bind λr=>r.map λv=>(v,s2)
 |_=>none
def uD(a:X.A.units+1<cLine)(c:SE X o md)(hi:SE X i mk)(f:P1 i:=by intro _ _;rfl):SE X (.Subscript o i pos) (G1 md mk):=PE.imp (uU a c hi f) <| by
 rintro σ H Q ⟨ρ,st,io,d,st',E,S,e,k⟩;obtain⟨⟨x,s1⟩,W,e⟩:=Ht e;obtain⟨⟨y,s2⟩,h,e⟩:=Ht e;cases x with
 |ref n=>
  obtain⟨r,j,e⟩:=Ht e;obtain⟨w,m,e⟩:=IL e;cases e;subst m;refine⟨ρ,st,io,_,s1,E,S,W,λv1 H1 q s u B=>⟨ρ,s1,io++q,y,_,E.ext S s,u,h,λv2 H2 J C l R2=>?_⟩⟩;obtain⟨p,rfl,F⟩:=B;obtain⟨o,g,⟨z,_⟩|⟨K,v,hd,G,I⟩⟩:=cZ l (QS F) R2 j
  ·cases z
  ·cases hd;subst G;exact⟨p,v,rfl,g,((k.on u s).on l C).now l I⟩
 |_=>cases e
def MF(neg:Bool)(mk md:ME):ME:=λρ st=>(mk ρ st).bind λ(k,s1)=>(md ρ s1).bind λ(d,s2)=>match d with
 |.ref n=>(look s2 n k).map λr=>(.bl (if neg then !r.isSome else r.isSome),s2)
 |_=>none
def Yd{neg:Bool}(h:tE K (MF neg mk md) σ H Q):tE K mk σ H λy H1=>tE K md σ H1 λx H2=>∃a o,x=.ref a/\J6 H2 a y o/\Q (.bl<|if neg then !o.isSome else o.isSome) H2:=by
 obtain⟨ρ,st,io,d,st',E,S,e,k⟩:=h;obtain⟨⟨y,s1⟩,A,e⟩:=Ht e;obtain⟨⟨x,s2⟩,W,e⟩:=Ht e;cases x with
 |ref n=>
  obtain⟨r,c,e⟩:=IL e;cases e;refine⟨ρ,st,io,y,s1,E,S,A,λv1 H1 f u l R1=>⟨ρ,s1,io++f,_,_,E.ext S u,l,W,λv2 H2 j w s R2=>?_⟩⟩;obtain⟨p,rfl,i⟩:=R2;obtain⟨o,g,z⟩:=cZ s i (R1.ext l w) c;have:o.isSome=r.isSome:=by
   rcases z with⟨a,b⟩|⟨m,v,a,b,_⟩
   ·rw[a,b];rfl
   rw[a,b];rfl
  exact⟨p,o,rfl,g,by rw[this];exact((k.on l u).on s w).now s rfl⟩
 |_=>cases e
def rA(a:X.A.units+1<cLine)(hi:SE X i mk)(c:SE X o md)(hm:behindInMarks .In o=false:=by rfl):SE X (.Compare i [.In] [o] pos) (MF false mk md):=PE.imp (rG (aR a hi c) hm) λσ H Q h=>Yd h
variable {lo hi:Option Re}{apos cpos p2:Pos}
def qX(a:X.A.units+1<cLine)(hi:SE X i mk)(c:SE X o md)(hm:behindInMarks .In o=false:=by rfl):SB X (.Compare i [.In] [o] pos) (mT<|MF false mk md):=PT.imp (aK (aR a hi c) hm) λσ H Q h=>Yd (TX h)
def zl5(a:X.A.units+1<cLine)(hi:SE X i mk)(c:SE X o md)(hm:behindInMarks .NotIn o=false:=by rfl):SB X (.Compare i [.NotIn] [o] pos) (mT<|MF true mk md):=PT.imp (aK (zmb a hi c) hm) λσ H Q h=>Yd (TX h)
def dput(st:Hg)(n:Nat)(k d:D):Option Hg:=match st[n]? with
 |some (.dk l)=>(keyOf k).bind λq=>if decide (l.length<sizeLine)=true then some (st.set n<|.dk<|putD l q d)else none
 |some (.dt l)=>match k with
  |.tup ds=>(keysOf ds).bind λq=>if decide (l.length<sizeLine)=true then some (st.set n<|.dt<|putD l q d)else none
  |_=>none
 |_=>none
def wA{k:D}(S:Hw K H io st)(c:io[n]?=some p)(f:Rep K H io y k)(g:Rep K H io v d)(h:dput st n k d=some st'):∃a,LD H p y v a/\Ext io [] H a/\Hw K a (io++[]) st':=by
 unfold dput at h;split at h
 ·rename_i s e;obtain⟨q,w,h⟩:=Ht h;obtain⟨x,h⟩:=JJ h;cases h;obtain⟨E,l,r⟩:=S.ob n p _ c e;have Q:=VG f w;subst Q;have:=KR.length r;refine⟨_,LD.k l (by rw[this];exact of_decide_eq_true x),?_⟩;exact To S c e (λo u z=>by rw[l]at z;cases z) λa T A=>⟨_,A,KR.put (KR.mono T r) q<|Rep.mono T g⟩
 ·rename_i s e
  split at h
  ·rename_i ds;obtain⟨q,w,h⟩:=Ht h;obtain⟨x,h⟩:=JJ h;cases h;obtain⟨E,l,r⟩:=S.ob n p _ c e;obtain⟨b,xs,rfl,W,rs⟩:=f;have ex:=Yp rs w;subst ex;have:=KR.length r;refine⟨_,LD.t l W (by rw[this];exact of_decide_eq_true x),?_⟩;exact To S c e (λo u z=>by rw[l]at z;cases z) λa T A=>⟨_,A,KR.put (KR.mono T r) q<|Rep.mono T g⟩
  ·cases h
 ·cases h
def UX(md mk a:ME):MS:=λρ st=>(a ρ st).bind λ(v,s1)=>(md ρ s1).bind λ(d,s2)=>(mk ρ s2).bind λ(k,s3)=>match d with
 |.ref n=>(dput s3 n k v).map λs4=>(.nx ρ,s4)
 |_=>none
def wX{value:Re}{a:ME}(q:X.A.units+1<cLine)(r:SE X o md)(hi:SE X i mk)(z:SE X value a)(B:swapsWith value (some<|.Subscript o i pos') pos.line X.env=pure false:=by rfl):
  SS X (.Assign [.Subscript o i pos'] value pos) (UX md mk a):=PS.imp (vA q r hi z B) λN σ H h=>by
 obtain⟨ρ,st,io,f,st',E,S,e,w⟩:=Mi.mp h;obtain⟨⟨v,s1⟩,C,e⟩:=Ht e;obtain⟨⟨d,s2⟩,F,e⟩:=Ht e;obtain⟨⟨k,s3⟩,G,e⟩:=Ht e;cases d with
 |ref n=>
  obtain⟨s4,I,e⟩:=IL e;cases e;refine⟨ρ,st,io,v,s1,E,S,C,λv1 H1 y s l R1=>⟨ρ,s1,io++y,_,s2,E.ext S s,l,F,λv2 H2 c u x R2=>⟨ρ,s2,(io++y)++c,k,s3,(E.ext S s).ext l u,x,G,λZ J K Q W L=>?_⟩⟩⟩;obtain⟨p,rfl,M⟩:=R2;obtain⟨j,g,m,T⟩:=wA W (QS M) L ((R1.ext l u).ext x Q) I;refine⟨p,j,rfl,g,?_⟩;have U:∀σ' Y kb,Ext (((io++y)++c)++K) kb J Y->_:=P9 (P9 (P9 w s l) u x) Q W;exact U σ j [] m T<|(((E.ext S s).ext l u).ext x Q).ext W m
 |_=>cases e
def UW(t:Bool):ME:=λ_ st=>some (.ref st.length,st++[if t then .dt []else .dk []])
def xU:SE X (.Dict [] [] pos) (UW true):=PE.imp yV <| by
 rintro σ H Q ⟨ρ,st,io,d,st',E,S,e,k⟩;cases e;intro p l;obtain⟨s,u⟩:=U4 (o:=.dT []) (ob:=.dt []) S l λv T e=>⟨[],e,.nil⟩;exact k _ _ [p] s u ⟨p,rfl,by rw[<-S.len];exact getElem?_len io p⟩
inductive Si (K:Ac) (g:D->List D->Hg->Option (D×Hg)) (x:V) (xs:List V) (H:Hp) (Q:VK):Prop
 |mk (dx:D) (ds:List D) (st:Hg) (io:List KB) (d:D) (st':Hg) (h0:Rep K H io x dx) (h1:Hl K H io xs ds) (h2:Hw K H io st) (h3:g dx ds st=some (d,st')) (h4:Bh K io H st' d Q)
def Qc:D->List D->Hg->Option (D×Hg):=λx xs st=>match x,xs with
 |.ref n,[d]=>match st[n]? with
  |some (.lst ds)=>if decide (ds.length<sizeLine)=true then some (.non,st.set n (.lst<|ds++[d]))else none
  |_=>none
 |_,_=>none
def append_in{ds:List D}{xs:List D}(h:Qc (.ref n) xs st=some (d,st')):∃ds x,st[n]?=some (.lst ds)/\xs=[x]/\ds.length<sizeLine/\d=.non/\st'=st.set n (.lst<|ds++[x]):=by
 unfold Qc at h
 match xs,h with
 |[x],h=>
  dsimp only at h;split at h
  ·rename_i ds e;obtain⟨l,h⟩:=JJ h;cases h;exact⟨ds,x,e,rfl,of_decide_eq_true l,rfl,rfl⟩
  ·cases h
 |[],h=>cases h
 |_::_::_,h=>cases h
def zkl:Ss X "list.append" (Si X.K Qc):=by
 rintro qp s σ H x xs v us Q I rx rs ⟨c,ds,st,io,d,st',f,Rs,S,e,k⟩;cases c with
 |ref n=>
  obtain⟨l,y,A,rfl,g,rfl,rfl⟩:=append_in (ds:=[]) e;obtain⟨p,rfl,E⟩:=f;obtain⟨w,rfl,h⟩:=Rs.one;obtain⟨W,a,r⟩:=S.ob n p _ E A;refine fQ qp s σ H _ _ v us Q I rx rs ⟨p,W,w,rfl,rfl,a,by rw[r.length];exact g,?_⟩;obtain⟨i,j⟩:=To (o:=.lst (W++[w])) (ob:=.lst (l++[y])) S E A (λo u z=>by rw[a]at z;cases z) λq T m=>⟨_,m,(Hl.mono T r).append<|Hl.cons (Rep.mono T h) Hl.nil⟩
  exact k _ _ [] i j rfl
 |_=>unfold Qc at e;cases ds<;>cases e
def zP{l:List D}(R:Rep K H io v (.ref n))(S:Hw K H io st)(h:Iw st n=some l):Y2 K "list" v H:=by obtain⟨p,rfl,o⟩:=R;obtain⟨xs,s,_⟩:=LU S o h;exact .inl ⟨rfl,xs,s⟩
def Lh(m:ME)(a:MA):ME:=λρ st=>(m ρ st).bind λ(x,s1)=>match x with
 |.ref n=>(Iw s1 n).bind λ_=>(a ρ s1).bind λ(xs,s2)=>Qc x xs s2
 |_=>none
def TV(h:SE X o m)(i:SA X (e::es) mm)(c:attributeBase o "append" X.env (eval o X.env)=eval o X.env:=by rfl)(g:((backTo cpos<|starEach (e::es) X.env).all (λx=>!x.1)&&(backToKw cpos<|keywordEach [] X.env).all (λx=>x.1.isSome)
   &&decide ((e::es).length+([]:List Keyword).length+(if([]:List Keyword).isEmpty then 0 else 1)<30))=true:=by rfl)
  (f:(apos.endLine==cpos.line)=true:=by rfl) (j:Qqb X.env e es:=by rfl) (a:Qqc cpos es X.env:=by rfl):
  SE X (.Call (.Attribute o "append" apos) (e::es) [] cpos) (Lh m mm):=
 PE.imp (WM PySem.F.plainAttrs_list PySem.F.slot_list_append PySem.F.type_list_append zkl h i c g f j a) <| by
  rintro σ H Q ⟨ρ,st,io,d,st',E,S,e,k⟩;obtain⟨⟨x,s1⟩,A,e⟩:=Ht e;cases x with
  |ref n=>
   obtain⟨l,W,e⟩:=Ht e;obtain⟨⟨xs,s2⟩,q,e⟩:=Ht e;refine⟨ρ,st,io,_,s1,E,S,A,λv1 H1 u v s R1=>⟨zP R1 s W,ρ,s1,io++u,xs,s2,E.ext S v,s,q,λz H2 r w y R2=>?_⟩⟩;exact⟨_,xs,s2,(io++u)++r,d,st',R1.ext s w,R2,y,e,(k.on s v).on y w⟩
  |_=>cases e
noncomputable abbrev MO:=HX->Hg->Option (Option Int×Hg)
inductive tOm (K:Ac) (m:MO) (σ:L2.St) (H:Hp) (Q:Option Int->Hp->Prop):Prop
 |mk (ρ:HX) (st:Hg) (io:List KB) (d:Option Int) (st':Hg) (h1:Hz K H io σ ρ) (h2:Hw K H io st) (h3:m ρ st=some (d,st')) (h4:∀H' ka,Ext io ka H H'->Hw K H' (io++ka) st'->Q d H')
def SO(X:Cx)(e:Option Re)(m:MO):Prop:=PO X e<|tOm X.K m
def IS:MO:=λ_ st=>some (none,st)
def Iq(m:ME):MO:=λρ st=>(m ρ st).bind λ(d,s)=>match d with
 |.int i=>some (some i,s)
 |_=>none
def Ki:SO X none IS:=λqp s σ H Q I ⟨ρ,st,io,d,st',E,S,e,k⟩=>uY qp s σ H Q I (by cases e;exact k H [] Ext.refl S.nil)
def JV(h:SE X e m):SO X (some e) (Iq m):=λqp s σ H Q I ⟨ρ,st,io,d,st',E,S,e,k⟩=>uZ h qp s σ H Q I (by
 obtain⟨⟨x,s1⟩,l,e⟩:=Ht e;cases x with
 |int i=>
  cases e;exact⟨ρ,st,io,_,_,E,S,l,λv1 H1 o u v w=>⟨i,w,k H1 o u v⟩⟩
 |_=>cases e)
def cutD(xs:List D)(lo hi:Option Int):List D:=(xs.drop<|HT.HR xs.length 0 lo).take<|HT.HR xs.length xs.length hi-HT.HR xs.length 0 lo
def Xu(r:Hl K H io xs ds)(lo hi:Option Int):Hl K H io (L8 xs lo hi) (cutD ds lo hi):=by unfold L8 cutD;rw[r.length];exact(r.drop _).take _
def QW:D->Option Int->Option Int->Hg->Option (D×Hg):=λx lo hi st=>match x with
 |.tup ds=>if(decide (HT.HR ds.length 0 lo=0)&&decide (HT.HR ds.length ds.length hi=ds.length))=true then none else some (.tup (cutD ds lo hi),st)
 |.ref n=>(Iw st n).map λds=>(.ref st.length,st++[.lst (cutD ds lo hi)])
 |_=>none
def jU(m:ME)(l h:MO):ME:=λρ st=>(m ρ st).bind λ(x,s1)=>(l ρ s1).bind λ(lo,s2)=>(h ρ s2).bind λ(hi,s3)=>QW x lo hi s3
def Zq(K:Ac):V->Option Int->Option Int->Hp->VK->Prop:=λx lo hi H Q=>Ug K x lo hi H Q\/Uh K x lo hi H Q
def Zl:So X (Zq X.K):=by
 intro qp s σ H x v l o lo hi u Q I rx w pl pu h;rcases h with h|h
 ·exact pL qp s σ H x v l o lo hi u Q I rx w pl pu h
 exact cQ qp s σ H x v l o lo hi u Q I rx w pl pu h
def xV{a c:MO}(he:SE X e m)(j:SO X lo a)(B:SO X hi c):SE X (.Subscript e (.Slice lo hi none p2) pos) (jU m a c):=PE.imp (Vz Zl he j B) <| by
 rintro σ H Q ⟨ρ,st,io,d,st',E,S,e,k⟩;obtain⟨⟨x,s1⟩,C,e⟩:=Ht e;obtain⟨⟨l,s2⟩,F,e⟩:=Ht e;obtain⟨⟨o,s3⟩,G,e⟩:=Ht e;refine⟨ρ,st,io,x,s1,E,S,C,λv1 H1 f v s R1=>⟨ρ,s1,io++f,l,s2,E.ext S v,s,F,λH2 I w y=>⟨ρ,s2,(io++f)++I,o,s3,(E.ext S v).ext s w,y,G,λL M g u=>?_⟩⟩⟩;have h:=(R1.ext s w).ext y g;have i:=((k.on s v).on y w).on u g;cases x with
 |tup ds=>
  have e:(if(decide (HT.HR ds.length 0 l=0)&&decide (HT.HR ds.length ds.length o=ds.length))=true then none else some (D.tup (cutD ds l o),s3))=some (d,st'):=e;by_cases hw:(decide (HT.HR ds.length 0 l=0)&&decide (HT.HR ds.length ds.length o=ds.length))=true
  ·rw[if_pos hw]at e;cases e
  rw[if_neg hw]at e;cases e;obtain⟨p,xs,rfl,A,r⟩:=h;refine .inl ⟨p,xs,rfl,Je.of A,λz=>hw ?_,λq W=>i.tup u (Xu r _ _) W⟩;rw[r.length]at z;rw[Ad];exact⟨decide_eq_true z.1,decide_eq_true z.2⟩
 |ref n=>
  obtain⟨ds,J,e⟩:=IL e;cases e;obtain⟨p,rfl,A⟩:=h;obtain⟨xs,K,r⟩:=LU u A J;exact .inr ⟨p,xs,rfl,K,λq W=>i.lst u (Xu r _ _) W⟩
 |_=>cases e
def RB:G2:=intD (λ_ j=>decide (0<j)&&decide (j<2^128)) λi j=>.int<|i / j
def XH:Jq X (binaryOp .FloorDiv) RB:=Ts (C:=λi j=>0<j/\j<2^128) (Wm λi j _ _ _ _ _ o q=>by
 refine floordiv_int (by omega) (by rw[Int.fdiv_eq_ediv_of_nonneg i (by omega)];exact q)<|.inl<|PyProof.noPylong_of_log2 ?_;have h0:j.natAbs≠0:=by omega
 have l:j.natAbs<2^128:=by omega
 exact Cw ((Nat.log2_lt h0).mpr l) (by decide)) λi j h=>by rw[Ad]at h;exact⟨of_decide_eq_true h.1,of_decide_eq_true h.2⟩
def Lw:G2:=intD (λi j=>decide (0<=j)&&decide ((Fo i:Int)*j<=2^27)) λi j=>.int<|i^j.toNat
def XD:Jq X (binaryOp .Pow) Lw:=Ts (C:=λi j=>0<=j/\(Fo i:Int)*j<=2^27) (Wm λi j _ _ _ _ _ l q=>pow_int l.1 l.2 q) λi j h=>by rw[Ad]at h;exact⟨of_decide_eq_true h.1,of_decide_eq_true h.2⟩
def K1(t T:String):Bool:=t==T || (t=="bool"&&T=="int")
def sorts:List String:=["NoneType","bool","int","str","tuple","list","dict"]
def kinds:List String:=["bool","int","str","tuple","list","dict"]
variable {t:String}
def rZ(a:t∈sorts)(c:T∈kinds):Gv K (.type t) (.type T)=some (K1 t T):=by
 have all:∀t∈sorts,∀T∈kinds,Gv K (.type t) (.type T)=some (K1 t T):=by
  intro t a T c;simp only[sorts,kinds,Ck,F6,or_false]at a c;rcases a with rfl|rfl|rfl|rfl|rfl|rfl|rfl<;>rcases c with rfl|rfl|rfl|rfl|rfl|rfl<;>rfl
 exact all t a T c
def tyName(st:Hg):D->Option String
 |.non=>some "NoneType"
 |.bl _=>some "bool"
 |.int _=>some "int"
 |.str _=>some "str"
 |.tup _=>some "tuple"
 |.ref n=>match st[n]? with
  |some (.lst _)=>some "list"
  |some (.fz _)=>some "list"
  |some (.dk _)=>some "dict"
  |some (.dt _)=>some "dict"
  |some .dz=>some "dict"
  |_=>none
 |.kl _=>none
 |.fn _=>none
 |.er _ _ _=>none
def dN(I:Inv X qp σ H s)(h:Kc X.K H p xs):DU p "list" s.heap:=by obtain⟨l,_,⟨o,n,e,c,_,_⟩,_⟩:=I.list h;exact⟨o,e,c⟩
def zZ{a:List (Key×V)}(I:Inv X qp σ H s)(h:H p=some (.dK a)):DU p "dict" s.heap:=by obtain⟨_,_,_,_,o,_,_,e,ex,_⟩:=I.hok p _ h;exact⟨o,e,ex.1⟩
def zmt{a:List (List Key×V)}(I:Inv X qp σ H s)(h:H p=some (.dT a)):DU p "dict" s.heap:=by obtain⟨_,_,_,_,o,_,_,e,ex,_⟩:=I.hok p _ h;exact⟨o,e,ex.1⟩
def nV(I:Inv X qp σ H s)(h:H p=some (.ext<|jZ p)):DU p "dict" s.heap:=by obtain⟨⟨o,_,_,e,ex,_⟩,_⟩:=I.hok p _ h;exact⟨o,e,ex.1⟩
def rV{u:IR}{Q:Qqa}(I:Inv X qp σ H s)(S:Hw X.K H io st)(R:Rep X.K H io v d)(r:RelV v u)(a:tyName st d=some t)(g:T∈kinds)(q:∀h,Q (.bool<|K1 t T) {s with toks:=h}):wpAny (KF X.prog X.w) X.A (call (.builtin "isinstance") [u,.type T]) Q E s:=by
 have k:=λ{x:IR}{f:Pv->Prop} (i:t∈sorts) (Z:PySem.W.KitX X.K x (.type t) f) (p:f s.heap) (j:x≠.builtin "__main__.__loader__#opaque")=>PySem.W.kia_one (prog:=X.prog) (w:=X.w) (A:=X.A) (E:=E) Z I.kIn p (rZ i g) j q;cases d with
 |non=>cases a;cases (show v=.non from R);cases r;exact k (by decide) PySem.W.kitx_none trivial (by intro e;cases e)
 |bl b=>cases a;cases (show v=.bl b from R);cases r;exact k (by decide) PySem.W.kitx_bool trivial (by intro e;cases e)
 |int b=>cases a;cases (show v=.int b from R);obtain⟨t,rfl⟩:=r;exact k (by decide) PySem.W.kitx_int trivial (by intro e;cases e)
 |str b=>cases a;cases (show v=.str b from R);obtain⟨t,rfl⟩:=r;exact k (by decide) PySem.W.kitx_str trivial (by intro e;cases e)
 |tup ds=>
  cases a;obtain⟨p,xs,rfl,l,_⟩:=R;cases r;obtain⟨m,_,⟨o,e,c,_⟩,_⟩:=I.tuple<|Je.of l;exact k (by decide) PySem.W.kitx_tuple ⟨o,e,c⟩ (by intro e;cases e)
 |ref n=>
  obtain⟨p,rfl,l⟩:=R;cases r;unfold tyName at a;dsimp only at a;split at a
  ·rename_i o e;cases a;obtain⟨xs,y,_⟩:=S.ob n p _ l e;exact k (by decide) FR (dN I<|Kc.of y) (by intro e;cases e)
  ·rename_i o e;cases a;obtain⟨ob,xs,y,_⟩:=S.ob n p _ l e;exact k (by decide) FR (dN I<|.inl<|.inr ⟨ob,y⟩) (by intro e;cases e)
  ·rename_i o e;cases a;obtain⟨xs,y,_⟩:=S.ob n p _ l e;exact k (by decide) D2 (zZ I y) (by intro e;cases e)
  ·rename_i o e;cases a;obtain⟨xs,y,_⟩:=S.ob n p _ l e;exact k (by decide) D2 (zmt I y) (by intro e;cases e)
  ·rename_i e;cases a;exact k (by decide) D2 (nV I<|S.ob n p _ l e) (by intro e;cases e)
  ·cases a
 |kl ds=>cases a
 |fn ds=>cases a
 |er _ _ _=>cases a
def Zv(K:Ac)(T:String):List V->Hp->VK->Prop:=λxs H Q=>∃x d st io t,xs=[x,.ty T]/\Rep K H io x d/\Hw K H io st/\tyName st d=some t/\Q (.bl<|K1 t T) H
def vQ(a:T∈kinds):NB X (.builtin "isinstance") (Zv X.K T):=by rintro qp s σ H xs us Q I r ⟨x,d,st,io,t,e,R,S,o,q⟩;subst e;obtain⟨u,w,rfl,v,l⟩:=r.two;cases l;exact rV I S R v o a λy=>⟨.bl _,H,I.tok y,rfl,q⟩
def J4(T:String)(m:ME):ME:=λρ st=>(m ρ st).bind λ(x,s)=>(tyName s x).map λt=>(.bl (K1 t T),s)
def pC{x y:Str}{p:Pos}(r:T∈kinds)(z:Gl X "isinstance")(hm:X.mg "isinstance"=none)(B:SE X a m)(c:Gl X y)(f:X.mg y=none)(g:bootBuiltins y=some (.type T))(h:y≠"__name__":=by decide)(i:(y==("__debug__":Str))=false:=by decide)(q:starEach [a,.Name y p2] X.env=(false,eval a X.env)::starEach [.Name y p2] X.env:=by rfl) (j:starEach [.Name y p2] X.env=[(false,eval (.Name y p2) X.env)]:=by rfl) (n:(backTo pos<|starEach [.Name y p2] X.env).any (·.1)=false:=by rfl):
  SE X (.Call (.Name "isinstance" p) [a,.Name y p2] [] pos) (J4 T m):=
 PE.imp (eU (vQ r) z hm (by decide +kernel) (Xw B (Xw (uS (v:=.ty T) c f g rfl h i) aQ j) q) (by decide) (by decide) q n) <| by rintro σ H Q ⟨ρ,st,io,d,st',E,S,e,k⟩;obtain⟨⟨x,s1⟩,s,e⟩:=Ht e;obtain⟨t,u,e⟩:=IL e;cases e;exact⟨ρ,st,io,x,_,E,S,s,λv1 H1 l w o A=>⟨v1,x,_,io++l,t,rfl,A,o,u,k _ H1 l w o rfl⟩⟩
def YD{α:Type}{le:α->α->Prop}:∀{c f:List α},c.Perm f->c.Pairwise le->f.Pairwise le->(∀a∈c,∀b∈c,le a b->le b a->a=b)->c=f
 |[],f,p,_,_,_=>(List.Perm.nil_eq p)
 |a::c,[],p,_,_,_=>absurd p.symm (by intro h;have:=h.length_eq;simp at this)
 |a::c,b::f,p,i,j,an=>by
  obtain⟨m,g⟩:=List.pairwise_cons.mp i;obtain⟨hb,l⟩:=List.pairwise_cons.mp j;have e:a=b:=by
   have o:a∈b::f:=p.mem_iff.mp Al;have s:b∈a::c:=p.mem_iff.mpr Al;rcases On.mp o with q|q
   ·exact q
   ·rcases On.mp s with r|r
    ·exact r.symm
    exact an a Al b (Aj _ r) (m b r)<|hb a q
  subst e;rw[YD ((List.perm_cons a).mp p) g l λx u y v=>an x (Aj _ u) y (Aj _ v)]
def sle(a b:Str):Bool:=!decide (b.cps.toList<a.cps.toList)
def OX(ss:List Str):List Str:=ss.mergeSort sle
def Qg{a b:Str}(h:a.cps.toList=b.cps.toList):a=b:=by
 obtain⟨x⟩:=a;obtain⟨y⟩:=b;have:x=y:=by have l:x.toList=y.toList:=h;exact Array.toList_inj.mp l
 rw[this]
def gS(a b:Str):(sle a b || sle b a)=true:=by
 unfold sle;rw[Cp,Bs,Bs,decide_eq_false_iff_not,decide_eq_false_iff_not];by_cases h:b.cps.toList<a.cps.toList
 ·exact .inr<|List.lt_asymm h
 exact .inl h
def Ys(a b c:Str)(e:sle a b=true)(f:sle b c=true):sle a c=true:=by unfold sle at *;rw[Bs,decide_eq_false_iff_not]at *;have e:a.cps.toList<=b.cps.toList:=e;have f:b.cps.toList<=c.cps.toList:=f;exact List.le_trans e f
def zT{a b:Str}(c:sle a b=true)(e:sle b a=true):a=b:=by unfold sle at *;rw[Bs,decide_eq_false_iff_not]at *;exact Qg<|List.le_antisymm c e
def iN:∀{ss:List Str}{p:Str},risingS p ss=true->(p::ss).Pairwise λa b=>sle a b=true
 |[],p,_=>by simp
 |s::ss,p,h=>by
  have h':(!ltCps s.cps.toList p.cps.toList&&risingS s ss)=true:=h;rw[Ad]at h';have o:=iN h'.2;have l:sle p s=true:=by have:=h'.1;rw[ltCps_eq]at this;exact this
  refine List.pairwise_cons.mpr ⟨λx hx=>?_,o⟩;rcases On.mp hx with rfl|hx
  ·exact l
  exact Ys _ _ _ l<|(List.pairwise_cons.mp o).1 x hx
variable {ss:List Str}
def zgK{e:List Str}(p:e.Perm ss)(h:sortedS e=true):e=OX ss:=by
 have l:e.Pairwise λa b=>sle a b=true:=by
  cases e with
  |nil=>exact C9
  |cons x r=>exact iN h
 refine YD (p.trans (CN ss sle).symm) l (Cd (λa b c=>Ys a b c) gS ss) λa _ b _=>zT
variable {r:List D}
def strsOf:List D->Option (List Str)
 |[]=>some []
 |.str x::r=>(strsOf r).map λxs=>x::xs
 |_=>none
def ziN(h:strsOf (d::r)=some ss):∃x xs,d=.str x/\strsOf r=some xs/\ss=x::xs:=by
 cases d with
 |str x=>
  obtain⟨xs,e,h⟩:=IL h;exact⟨x,xs,rfl,e,h.symm⟩
 |_=>cases h
def YE(ss:List Str):strsOf (ss.map D.str)=some ss:=by
 induction ss with
 |nil=>rfl
 |cons x r l=>show(strsOf<|r.map D.str).map _=_;rw[l];rfl
def XM:∀{xs:List V}{us:List IR}{ds:List D}{ss:List Str},Hl K H io xs ds->Vals xs us->strsOf ds=some ss->StrsAre us ss
 |_,_,[],ss,h,r,e=>by cases (show _=[] from h);cases r;cases e;exact .nil
 |_,_,d::ds,ss,h,r,e=>by
  obtain⟨y,f,rfl,a,c⟩:=h;obtain⟨x,rest,rfl,l,rfl⟩:=ziN e;cases r with
  |cons o s=>
   cases (show y=.str x from a)
   obtain⟨t,rfl⟩:=o;exact .cons x t<|XM c s l
def Yt:∀{us:List IR}{ss:List Str},StrsAre us ss->Vals (ss.map V.str) us
 |_,_,.nil=>.nil
 |_,_,.cons y t r=>.cons ⟨t,rfl⟩<|Yt r
def gI(ss:List Str):Hl K H io (ss.map V.str) (ss.map D.str):=by
 induction ss with
 |nil=>exact rfl
 |cons x r l=>exact Hl.cons rfl l
def Us(h:n<64):n<=sizeLine:=Ar (B7 h)<|by decide
def QK:GN
 |[.ref n],st=>(Iw st n).bind λds=>(strsOf ds).bind λss=>if decide (ss.length<64)=true then some (.ref st.length,st++[.lst ((OX ss).map D.str)])else none
 |_,_=>none
def zg7:Kw X (.builtin "sorted") QK:=by
 rintro qp s σ H xs us Q I r ⟨ds,st,io,d,st',R,S,e,k⟩;unfold QK at e;split at e
 ·rename_i n;obtain⟨G,c,e⟩:=Ht e;obtain⟨ss,f,e⟩:=Ht e;obtain⟨y,e⟩:=JJ e;cases e;have y:=of_decide_eq_true y;obtain⟨v,rfl,p,rfl,g⟩:=R.one;obtain⟨u,rfl,h⟩:=r.one;cases h;obtain⟨J,i,j⟩:=LU S g c;obtain⟨x,E,pl,K⟩:=I.list i;have W:=XM j E f;have hlen:x.length=ss.length:=by
   have L:=E.length;have m:=(Yt W).length;rw[Ah]at m;omega
  refine sorted_strs pl.isList W (by omega) λout ss' a1 a2 z=>?_;have B:=zgK a2 z;obtain⟨C,A⟩:=sortedAll_at s.heap x out;have F:=Yt a1;have l:H (s.heap.objs.size+1)=none:=I.hok.fresh<|Bf _;have w:(ss'.map V.str).length<=sizeLine:=by rw[Ah,a2.length_eq];exact Us y
  refine⟨.ref<|s.heap.objs.size+1,upd H (s.heap.objs.size+1)<|.lst<|ss'.map V.str,I.laid (t':=s.toks) (a:=s.heap.objs.size+1) (λb o q=>sortedAll_old q) (Bf _) ⟨w,out.toList,C,F,by simpa using A⟩,rfl,?_⟩;rw[B]at *;exact k.lst S (gI _) l
 ·cases e
def O9:D->List D->Hg->Option (D×Hg):=λx xs st=>match x,xs with
 |.str z,[.ref n]=>(Iw st n).bind λds=>(strsOf ds).bind λss=>if decide ((ss.map (·.length)).sum+ss.length*z.length<=16777216)=true then some (.str (Txt.join z ss),st)else none
 |_,_=>none
def yM:Ss X "str.join" (Si X.K O9):=by
 rintro qp s σ H x xs v us Q I rx rs ⟨h,ds,st,io,d,st',l,Rs,S,e,k⟩;unfold O9 at e;split at e
 ·rename_i z n;obtain⟨i,o,e⟩:=Ht e;obtain⟨ss,r,e⟩:=Ht e;obtain⟨y,e⟩:=JJ e;cases e
  cases (show x=.str z from l)
  obtain⟨t,rfl⟩:=rx;obtain⟨w,rfl,p,rfl,A⟩:=Rs.one;obtain⟨u,rfl,E⟩:=rs.one;cases E;obtain⟨j,W,a⟩:=LU S A o;obtain⟨c,f,pl,m⟩:=I.list W;exact join_list pl.isList (XM a f r) (of_decide_eq_true y) λt' g=>⟨.str _,H,I.tok g,⟨t',rfl⟩,k.now S rfl⟩
 ·cases e
def Mf(m:ME)(a:MA):ME:=λρ st=>(m ρ st).bind λ(x,s1)=>match x with
 |.str _=>(a ρ s1).bind λ(xs,s2)=>O9 x xs s2
 |_=>none
def Qd(h:SE X o m)(i:SA X (e::es) mm)(c:attributeBase o "join" X.env (eval o X.env)=eval o X.env:=by rfl)(g:((backTo cpos<|starEach (e::es) X.env).all (λx=>!x.1)&&(backToKw cpos<|keywordEach [] X.env).all (λx=>x.1.isSome)
   &&decide ((e::es).length+([]:List Keyword).length+(if([]:List Keyword).isEmpty then 0 else 1)<30))=true:=by rfl)
  (f:(apos.endLine==cpos.line)=true:=by rfl) (j:Qqb X.env e es:=by rfl) (a:Qqc cpos es X.env:=by rfl):
  SE X (.Call (.Attribute o "join" apos) (e::es) [] cpos) (Mf m mm):=
 PE.imp (WM EJ PySem.F.slot_str_join PySem.F.type_str_join yM h i c g f j a) <| by
  rintro σ H Q ⟨ρ,st,io,d,st',E,S,e,k⟩;obtain⟨⟨x,s1⟩,w,e⟩:=Ht e;cases x with
  |str z=>
   obtain⟨⟨xs,s2⟩,y,e⟩:=Ht e;refine⟨ρ,st,io,_,s1,E,S,w,λv1 H1 r s l R1=>⟨by cases (show v1=.str z from R1);rfl,ρ,s1,io++r,xs,s2,E.ext S s,l,y,λW H2 A u v R2=>?_⟩⟩;exact⟨_,xs,s2,(io++r)++A,d,st',R1.ext l u,R2,v,e,(k.on l s).on v u⟩
  |_=>cases e
def Zp:V->Option Int->Option Int->Hp->VK->Prop:=λx lo hi H Q=>∃z,x=.str z/\z.length<=sizeLine/\Q (.str<|Txt.slice z lo hi) H
def pJ:So X Zp:=by
 rintro qp s σ H x v A E lo hi W Q I rx o pl pu ⟨z,e,r,q⟩;subst e;obtain⟨t,rfl⟩:=rx;refine⟨"str",_,F.slot_str_getitem.lookup,Dw _ _ _,?_⟩;have fin:∀t' k,EP X qp σ Q (.str (Txt.slice z lo hi) t') {s with toks:=k}:=λt' k=>⟨.str _,H,I.tok k,⟨t',rfl⟩,q⟩
 cases pl with
 |none=>
  cases pu with
  |none=>exact Cf (l:=none) (u:=none) (st:=none) o rfl<|CT ⟨Ar (Txt.slice_le z _ _) r,fin⟩
  |int j w=>exact Cf (l:=none) (u:=some (j,w)) (st:=none) o rfl<|CT ⟨Ar (Txt.slice_le z _ _) r,fin⟩
 |int i y=>
  cases pu with
  |none=>exact Cf (l:=some (i,y)) (u:=none) (st:=none) o rfl<|CT ⟨Ar (Txt.slice_le z _ _) r,fin⟩
  |int j w=>exact Cf (l:=some (i,y)) (u:=some (j,w)) (st:=none) o rfl<|CT ⟨Ar (Txt.slice_le z _ _) r,fin⟩
def Wj:D->Option Int->Option Int->Hg->Option (D×Hg):=λx lo hi st=>match x with
 |.str z=>if fits z.length=true then some (.str (Txt.slice z lo hi),st)else none
 |_=>none
def Ur(m:ME)(l h:MO):ME:=λρ st=>(m ρ st).bind λ(x,s1)=>(l ρ s1).bind λ(lo,s2)=>(h ρ s2).bind λ(hi,s3)=>Wj x lo hi s3
def zlZ{a c:MO}(he:SE X e m)(f:SO X lo a)(g:SO X hi c):SE X (.Subscript e (.Slice lo hi none p2) pos) (Ur m a c):=PE.imp (Vz pJ he f g) <| by
 rintro σ H Q ⟨ρ,st,io,d,st',E,S,e,k⟩;obtain⟨⟨x,s1⟩,A,e⟩:=Ht e;obtain⟨⟨l,s2⟩,W,e⟩:=Ht e;obtain⟨⟨o,s3⟩,h,e⟩:=Ht e;refine⟨ρ,st,io,x,s1,E,S,A,λv1 H1 u r s i=>⟨ρ,s1,io++u,l,s2,E.ext S r,s,W,λH2 j v w=>⟨ρ,s2,(io++u)++j,o,s3,(E.ext S r).ext s v,w,h,λB C n y=>?_⟩⟩⟩;have q:=((k.on s r).on w v).on y n;cases x with
 |str z=>
  obtain⟨hf,e⟩:=JJ e;cases e;exact⟨z,i,of_decide_eq_true hf,q.now y rfl⟩
 |_=>cases e
def IW(x:Str)(n:Int):Str:=if n<1 then Eu else if(n==1 || x.length==0)=true then x else⟨(Br n.toNat x.cps).foldl (·++·) #[]⟩
def Pb:G2
 |.str x,.int n,st=>if(decide (-(2^62)<=n)&&decide (n<2^20)&&decide (x.length*n.toNat<=sizeLine)&&decide ((IW x n).length<=sizeLine))=true then some (.str (IW x n),st)else none
 |_,_,_=>none
def yR:Jq X (binaryOp .Mult) Pb:=by
 rintro qp s σ H x y v u Q I rx c ⟨h,i,st,io,d,st',f,g,S,e,k⟩;unfold Pb at e;split at e
 ·rename_i z n;obtain⟨A,e⟩:=JJ e;cases e;rw[Ad,Ad,Ad]at A;obtain⟨⟨⟨E,W⟩,a⟩,l⟩:=A;have E:=of_decide_eq_true E;have W:=of_decide_eq_true W;have a:=of_decide_eq_true a;have l:=of_decide_eq_true l
  cases (show x=.str z from f)
  cases (show y=.int n from g)
  obtain⟨t,rfl⟩:=rx;obtain⟨j,rfl⟩:=c;have fin:∀t' r,EP X qp σ Q (.str (IW z n) t') {s with toks:=r}:=λt' r=>⟨.str _,H,I.tok r,⟨t',rfl⟩,k.now S rfl⟩
  refine PySem.P.mul_str (by rw[decide_eq_false (by omega),decide_eq_false (by omega)];rfl) (λo _=>?_) (λo _=>?_) ?_
  ·have m:sizeLine=16777216:=CL;have w:((n.toNat:Nat):Int)=n:=Int.toNat_of_nonneg (by omega);have hm:(z.length:Int)*n<=2^63-1:=by
    rw[<-w,<-Int.natCast_mul];omega
   have:=Int.le_ediv_of_mul_le (by omega:0<n) hm;omega
  ·unfold Builtin.Str.tooLong;exact decide_eq_false<|by omega
  ·unfold IW at fin l
   by_cases o:n<1
   ·rw[if_pos o]at fin l ⊢;exact⟨l,fin s.toks<|s.toks+1⟩
   rw[if_neg o]at fin l ⊢;exact CT ⟨l,fin⟩
 ·cases e
def PN(p:PyData):PyData->Option Bool
 |.list xs=>some<|xs.any λy=>Bl y p
 |.tuple xs=>some<|xs.any λy=>Bl y p
 |_=>none
def inD(neg:Bool):G2:=λx y st=>(Jn 50 st x).bind λp=>(Jn 50 st y).bind λq=>(PN p q).map λb=>(.bl (if neg then !b else b),st)
def iS{xs:List PyData}(h:(PyData.list xs).canLay0=true):Cs xs=true:=by simpa only [BO]using h
def iG{xs:List PyData}(h:(PyData.tuple xs).canLay0=true):Cs xs=true:=by simpa only [BO]using h
def aX(j:X.A.units+100<cLine):Jq X (PP .In) (inD false):=by
 rintro qp s σ H x y v u Q I rx g ⟨m,z,st,io,d,st',h,i,S,e,k⟩;obtain⟨p,o,e⟩:=Ht e;obtain⟨q,w,e⟩:=Ht e;obtain⟨r,l,e⟩:=IL e;cases e;obtain⟨as,E⟩:=O2 I S h rx o;obtain⟨bs,W⟩:=O2 I S i g w;have a:=OP o;have c:=OP w;have f:∀n,X.A.units+1+min n p.depth<cLine:=λn=>by have:=Eb n p.depth;omega
 cases q with
 |list xs=>cases l;exact PySem.SeqAt.in_list_reads W E (iS c.1) a.1 (f _) ⟨.bl _,H,I,rfl,k.now S rfl⟩
 |tuple xs=>cases l;exact PySem.SeqAt.in_tuple_reads W E (iG c.1) a.1 (f _) ⟨.bl _,H,I,rfl,k.now S rfl⟩
 |_=>cases l
def zme(j:X.A.units+100<cLine):Jq X (PP .NotIn) (inD true):=by
 rintro qp s σ H x y v u Q I rx g ⟨m,z,st,io,d,st',h,i,S,e,k⟩;obtain⟨p,o,e⟩:=Ht e;obtain⟨q,w,e⟩:=Ht e;obtain⟨r,l,e⟩:=IL e;cases e;obtain⟨as,E⟩:=O2 I S h rx o;obtain⟨bs,W⟩:=O2 I S i g w;have a:=OP o;have c:=OP w;have f:∀n,X.A.units+1+min n p.depth<cLine:=λn=>by have:=Eb n p.depth;omega
 cases q with
 |list xs=>cases l;exact PySem.SeqAt.notIn_list_reads W E (iS c.1) a.1 (f _) ⟨.bl _,H,I,rfl,k.now S rfl⟩
 |tuple xs=>cases l;exact PySem.SeqAt.notIn_tuple_reads W E (iG c.1) a.1 (f _) ⟨.bl _,H,I,rfl,k.now S rfl⟩
 |_=>cases l
def Od:G2
 |.str i,.str j,st=>some (.bl (!(A0 j i 0 j.length 1).isEmpty),st)
 |_,_,_=>none
def bW:Jq X (PP .In) Od:=by
 rintro qp s σ H x y v u Q I rx l ⟨w,A,st,io,d,st',o,r,S,e,k⟩;unfold Od at e;split at e
 ·rename_i i j
  cases e;exact zmf qp s σ H x y v u Q I rx l ⟨i,j,o,r,k.now S rfl⟩
 ·cases e
def Pd:List D->Option (List Bool)
 |[]=>some []
 |.bl x::r=>(Pd r).map λxs=>x::xs
 |_=>none
def zli{ss:List Bool}(h:Pd (d::r)=some ss):∃x xs,d=.bl x/\Pd r=some xs/\ss=x::xs:=by
 cases d with
 |bl x=>
  obtain⟨xs,e,h⟩:=IL h;exact⟨x,xs,rfl,e,h.symm⟩
 |_=>cases h
def cK:∀{xs:List V}{us:List IR}{ds:List D}{ss:List Bool},Hl K H io xs ds->Vals xs us->Pd ds=some ss->us=ss.map CC
 |_,_,[],ss,h,r,e=>by cases (show _=[] from h);cases r;cases e;rfl
 |_,_,d::ds,ss,h,r,e=>by
  obtain⟨y,f,rfl,a,c⟩:=h;obtain⟨x,rest,rfl,l,rfl⟩:=zli e;cases r with
  |cons o s=>
   cases (show y=.bl x from a)
   cases o;rw[cK c s l];rfl
def JR:GN
 |[.ref n],st=>(Iw st n).bind λds=>(Pd ds).map λbs=>(.bl (bs.all id),st)
 |_,_=>none
def range_all(bs:List Bool):((Bg bs.length).all λi=>bs.getD i false)=bs.all id:=by
 rw[A8,BP,BP];constructor
 ·intro h b l;obtain⟨i,hi,e⟩:=CM l;have:=h i<|List.mem_range.mpr hi;rw[AQ,Ap hi,e]at this;exact this
 intro h i hi;have hi:=List.mem_range.mp hi;rw[AQ,Ap hi];exact h _<|CD hi
def TN(a:X.calm=true):Kw X (.builtin "all") JR:=by
 rintro qp s σ H xs us Q I r ⟨ds,st,io,d,st',R,S,e,k⟩;unfold JR at e;split at e
 ·rename_i n;obtain⟨L,E,e⟩:=Ht e;obtain⟨bs,W,e⟩:=IL e;cases e;obtain⟨v,rfl,p,rfl,f⟩:=R.one;obtain⟨u,rfl,g⟩:=r.one;cases g;obtain⟨M,h,j⟩:=LU S f E;obtain⟨m,z,pl,N⟩:=I.list h;have B:=cK j z W;subst B;refine call_all_walk<|DY pl.isList ?_;have x:p<s.heap.objs.size:=by
   obtain⟨o,_,e,_⟩:=pl;exact An e
  refine⟨_,_,_,_,_,_,λi=>bs.getD i false,rfl,Walks.list (A:=X.A.in1) (I.ok.hd a) s.heap.objs.size p (Au x) (bs.map CC).toArray,⟨⟨_,Av _ rfl,rfl,rfl⟩,?_⟩,?_,λT C hk=>?_⟩
  ·obtain⟨o,nn,e,c,U,sq⟩:=pl;exact⟨o,Ag _ e,c,nn,sq⟩
  ·intro i v F G Y l w;have l:((bs.map CC).toArray)[i]?=some v:=l;rw[EU,AJ]at l
   cases y:bs[i]? with
   |none=>rw[y]at l;cases l
   |some J=>
    rw[y]at l;cases l;refine Bk ?_;have K:bs.getD i false=J:=by rw[AQ,y];rfl
    have w:G (bs.getD i false) F:=w;rw[K]at w;exact w
  ·refine⟨.bl _,H,I.kept (t':=C) λb o q=>hk b o ?_ (Ag _ q),rfl,?_⟩
   ·simp;exact Au<|An q
   ·have:((Bg (bs.map CC).toArray.size).all λi=>bs.getD i false)=bs.all id:=by simpa using range_all bs
    rw[this];exact k.now S rfl
 ·cases e
end L2.MP
namespace Srt
open PySem PySem.W PyProof.Rows
variable {α:Type}
def Hd(n:Nat)(r:Nat->Int){α:Type}:KasT α->(α->Prop)->Prop
 |.ret a,Q=>Q a
 |.ask i j k,Q=>(i<n/\j<n)/\Hd n r (k<|decide (r i<r j)) Q
variable {n i j src d m N:Nat}{c:Prop}{p:Array Nat}
section
variable {r:Nat->Int}{β:Type}
def Hd.bind{f:α->KasT β}{Q:β->Prop}:∀{t:KasT α},Hd n r t (λa=>Hd n r (f a) Q)->Hd n r (t.bind f) Q
 |.ret _,h=>h
 |.ask i j k,h=>⟨h.1,Hd.bind (t:=k _) h.2⟩
def Hd.mono{P Q:α->Prop}(k:∀a,P a->Q a):∀{t:KasT α},Hd n r t P->Hd n r t Q
 |.ret a,h=>k a h
 |.ask i j f,h=>⟨h.1,Hd.mono k (t:=f _) h.2⟩
def SU[Decidable c]{A B:KasT α}{Q:α->Prop}(a:c)(h:Hd n r A Q):Hd n r (if decide c=true then A else B) Q:=by rw[decide_eq_true a,if_pos rfl];exact h
def SQ[Decidable c]{A B:KasT α}{Q:α->Prop}(a:¬c)(h:Hd n r B Q):Hd n r (if decide c=true then A else B) Q:=by rw[decide_eq_false a,if_neg A6];exact h
def Nf(n:Nat)(p:Array Nat):Prop:=∀k,p.getD k 0<n
def R(r:Nat->Int)(p:Array Nat)(k:Nat):Int:=r<|p.getD k 0
def Up(r:Nat->Int)(p:Array Nat)(m:Nat):Prop:=∀i j,i<=j->j<m->R r p i<=R r p j
def Dn(r:Nat->Int)(p:Array Nat)(m:Nat):Prop:=∀i j,i<=j->j<m->R r p j<=R r p i
def getD_eq{q:Array Nat}(h:p[i]?=q[j]?):p.getD i 0=q.getD j 0:=by rw[BW,BW,h]
def Vq(a:j<=p.size)(k:Nat):(kas_rev p i j).getD k 0=if i<=k/\k<j then p.getD (i+j-1-k) 0 else p.getD k 0:=by
 have e:=getElem?_mirror_all (i:=i) a k;unfold kas_rev;by_cases h:i<=k/\k<j
 ·rw[if_pos h]at e ⊢;exact getD_eq e
 rw[if_neg h]at e ⊢;exact getD_eq e
def cL(a:src<p.size)(hd:d<=src)(k:Nat):(bubble p src d).getD k 0=if k=src-d then p.getD src 0 else if src-d<k/\k<=src then p.getD (k-1) 0 else p.getD k 0:=by
 have e:=getElem?_bubble a d hd k;by_cases h1:k=src-d
 ·rw[if_pos h1]at e ⊢;exact getD_eq e
 ·rw[if_neg h1]at e ⊢
  by_cases h2:src-d<k/\k<=src
  ·rw[if_pos h2]at e ⊢;exact getD_eq e
  rw[if_neg h2]at e ⊢;exact getD_eq e
def Tu(a:j<=p.size)(h:Nf n p):Nf n (kas_rev p i j):=λk=>by
 rw[Vq a];split
 ·exact h _
 exact h _
def sQ(a:src<p.size)(hd:d<=src)(h:Nf n p):Nf n (bubble p src d):=λk=>by
 rw[cL a hd];by_cases h1:k=src-d
 ·rw[if_pos h1];exact h _
 ·rw[if_neg h1]
  by_cases h2:src-d<k/\k<=src
  ·rw[if_pos h2];exact h _
  rw[if_neg h2];exact h _
def WU(p:Array Nat)(i j:Nat):(kas_rev p i j).size=p.size:=mirror_size _ _ _ _
def Vf(p:Array Nat)(i j:Nat):(kas_rev p i j).Perm p:=mirror_perm _ _ _ _
def Up.more(h:Up r p m)(hl:m=0\/R r p (m-1)<=R r p m):Up r p (m+1):=λi j c l=>by
 by_cases hm:j<m
 ·exact h i j c hm
 ·have e:j=m:=by omega
  subst e;by_cases hi:i=j
  ·rw[hi];exact Df _
  ·rcases hl with hl|hl
   ·omega
   exact DC (h i (j-1) (by omega)<|by omega) hl
def Dn.more(h:Dn r p m)(hl:m=0\/R r p m<=R r p (m-1)):Dn r p (m+1):=λi j c l=>by
 by_cases hm:j<m
 ·exact h i j c hm
 ·have e:j=m:=by omega
  subst e;by_cases hi:i=j
  ·rw[hi];exact Df _
  ·rcases hl with hl|hl
   ·omega
   exact DC hl<|h i (j-1) (by omega)<|by omega
def WO{p:Array Nat}(e:Nf n p):∀(f m:Nat),1<=m->Up r p m->Hd n r (kas_asc p f m) λa=>m<=a/\a<=m+f/\Up r p a/\(a<m+f->R r p a<R r p (a-1))
 |0,m,g,h=>⟨Ai _,Ai _,h,λz=>absurd z (AW _)⟩
 |f+1,m,g,h=>by
  refine⟨⟨e _,e _⟩,?_⟩;by_cases c:r (p.getD m 0)<r (p.getD (m-1) 0)
  ·refine SU c ?_;exact⟨Ai _,Ed _ _,h,λ_=>c⟩
  refine SQ c ?_;refine Hd.mono (λa h'=>?_)<|WO e f (m+1) (by omega)<|h.more<|.inr<|Int.not_lt.mp c;exact⟨by omega,by omega,h'.2.2.1,λz=>h'.2.2.2 (by omega)⟩
def Wx(r:Nat->Int)(p:Array Nat)(i j:Nat):Prop:=∀k,i<=k->k<j->R r p k=R r p (j-1)
def XB(a:j<=p.size)(h:Wx r p i j)(k:Nat):R r (kas_rev p i j) k=R r p k:=by
 unfold R;rw[Vq a];split
 ·rename_i hk;have c:=h (i+j-1-k) (by omega) (by omega);have l:=h k hk.1 hk.2;exact c.trans l.symm
 rfl
def Dn.same{f:Array Nat}(h:Dn r p m)(e:∀k,R r f k=R r p k):Dn r f m:=λi j a b=>by rw[e,e];exact h i j a b
def qR(hm:m<=p.size)(h:Dn r p m):Up r (kas_rev p 0 m) m:=λi j c l=>by unfold R;rw[Vq hm,Vq hm,if_pos (by omega),if_pos (by omega)];exact h (0+m-1-j) (0+m-1-i) (by omega)<|by omega
def Vh{N:Nat}:∀(f:Nat) (p:Array Nat) (m q:Nat),Nf n p->p.size=N->1<=m->m+f<=N->q+1<=m->Dn r p m->Wx r p (m-(q+1)) m ->
  Hd n r (kas_desc f p m q) λt=>Nf n t.1/\t.1.Perm p/\m<=t.2.1/\t.2.1<=m+f/\t.2.2+1<=t.2.1/\Dn r t.1 t.2.1/\Wx r t.1 (t.2.1-(t.2.2+1)) t.2.1
 |0,p,m,q,a,g,z,B,h,hd,he=>⟨a,CU _,Ai _,Ai _,h,hd,he⟩
 |f+1,p,m,q,a,g,z,B,h,hd,he=>by
  refine⟨⟨a _,a _⟩,?_⟩;by_cases c:r (p.getD m 0)<r (p.getD (m-1) 0)
  ·refine SU c ?_;have one:∀C:Array Nat,Wx r C (m+1-(0+1)) (m+1):=λC k z B=>by
    have e:k=m+1-1:=by omega
    subst e;rfl
   by_cases hq:q > 0
   ·rw[if_pos hq];have j:m<=p.size:=by omega
    have e:=XB j he;refine Hd.mono (λt i=>?_)<|Vh f (kas_rev p (m-(q+1)) m) (m+1) 0 (Tu j a) ((WU _ _ _).trans g) (by omega) (by omega) (by omega) ((hd.more<|.inr<|C0 c).same e)<|one _;exact⟨i.1,i.2.1.trans<|Vf _ _ _,by omega,by omega,i.2.2.2.2⟩
   rw[if_neg hq];refine Hd.mono (λt i=>?_)<|Vh f p (m+1) 0 a g (by omega) (by omega) (by omega) (hd.more<|.inr<|C0 c)<|one _;exact⟨i.1,i.2.1,by omega,by omega,i.2.2.2.2⟩
  ·refine SQ c ?_;refine⟨⟨a _,a _⟩,?_⟩
   by_cases d:r (p.getD (m-1) 0)<r (p.getD m 0)
   ·refine SU d ?_;exact⟨a,CU _,Ai _,Ed _ _,h,hd,he⟩
   ·refine SQ d ?_;have eq:R r p m=R r p (m-1):=Gi (Int.not_lt.mp d)<|Int.not_lt.mp c;refine Hd.mono (λt i=>?_) (Vh f p (m+1) (q+1) a g (by omega) (by omega) (by omega) (hd.more<|.inr<|Int.not_lt.mp d) λk l o=>?_)
    ·exact⟨i.1,i.2.1,by omega,by omega,i.2.2.2.2⟩
    ·show R r p k=R r p (m+1-1)
     by_cases hk:k=m
     ·rw[hk];rfl
     rw[Nat.add_sub_cancel,eq];exact he k (by omega)<|by omega
def WB(n N:Nat)(r:Nat->Int)(p:Array Nat)(t:Nat×Array Nat):Prop:=Nf n t.2/\t.2.Perm p/\1<=t.1/\t.1<=N/\Up r t.2 t.1
def eI(a:Nf n p)(f:p.size=N)(e:1<=m)(g:m<=N)(hd:Dn r p m):Hd n r (kas_tail3 m N p) (WB n N r p):=by
 unfold kas_tail3;have c:m<=p.size:=by omega
 refine Hd.bind<|Hd.mono (λj i=>?_)<|WO (Tu c a) (N-m) m e<|qR c hd;exact⟨Tu c a,Vf _ _ _,by omega,by omega,i.2.2.1⟩
def iJ(e:Nf n p)(a:p.size=N)(f:1<=m)(g:m+1<=N)(hd:Dn r p (m+1)):Hd n r (kas_descPart m N p) (WB n N r p):=by
 unfold kas_descPart;refine Hd.bind (Hd.mono (λt o=>?_) (Vh (N:=N) (N-(m+1)) p (m+1) 0 e a (by omega) (by omega) (by omega) hd λk v w=>by
  have:k=m+1-1:=by omega
  rw[this]))
 obtain⟨t1,j,t3,x,y,t6,s⟩:=o;have i:t.1.size=N:=j.size_eq.trans a;by_cases hq:t.2.2 > 0
 ·rw[if_pos hq];have l:t.2.1<=t.1.size:=by omega
  refine Hd.mono (λu c=>?_)<|eI (Tu l t1) ((WU _ _ _).trans i) (by omega) (by omega)<|t6.same<|XB l s;exact⟨c.1,(c.2.1.trans<|Vf _ _ _).trans j,c.2.2⟩
 rw[if_neg hq];refine Hd.mono (λu c=>?_)<|eI t1 i (by omega) (by omega) t6;exact⟨c.1,c.2.1.trans j,c.2.2⟩
def vV(f:Nf n p)(h:p.size=N)(q:1<=N):Hd n r (kas_count N p) (WB n N r p):=by
 unfold kas_count;have up1:Up r p 1:=λi j a b=>by
  have:i=j:=by omega
  rw[this];exact Df _
 refine Hd.bind<|Hd.mono (λm hm=>?_)<|WO f (N-1) 1 (Ai _) up1;obtain⟨l,x,m3,w⟩:=hm
 by_cases e:(m==N)=true
 ·rw[if_pos e];exact⟨f,CU _,l,by omega,m3⟩
 ·rw[if_neg e];have ne:m≠N:=λz=>e (by simp[z]);have lt:=w (by omega)
  by_cases g:m > 1
  ·rw[if_pos g];refine⟨⟨f _,f _⟩,?_⟩
   by_cases c:r (p.getD 0 0)<r (p.getD (m-1) 0)
   ·refine SU c ?_;exact⟨f,CU _,l,by omega,m3⟩
   ·refine SQ c ?_;have v:m<=p.size:=by omega
    have all:∀k,k<m->R r p k=R r p (m-1):=λk hk=>Gi (m3 k (m-1) (by omega)<|by omega)<|DC (Int.not_lt.mp c)<|m3 0 k (by omega) hk;have e:=XB (i:=0) v λk _ hk=>all k hk;have dn:Dn r p m:=λi j a b=>by rw[all i (by omega),all j b];exact Df _
    refine Hd.mono (λu o=>?_)<|iJ (Tu (i:=0) v f) ((WU _ _ _).trans h) l (by omega)<|(dn.more<|.inr<|C0 lt).same e;exact⟨o.1,o.2.1.trans<|Vf _ _ _,o.2.2⟩
  ·rw[if_neg g];have s:m=1:=by omega
   subst s;have dn:Dn r p 1:=λi j a b=>by
    have:i=j:=by omega
    rw[this];exact Df _
   exact iJ f h (Ai _) (by omega)<|dn.more<|.inr<|C0 lt
def XI{p:Array Nat}{k:Nat}(e:Nf n p)(hu:Up r p k):∀(f a b:Nat),a<=b->b<=k->b<=a+f->(∀x,x<a->R r p x<=R r p k)->(∀x,b<=x->x<k->R r p k<=R r p x) ->
  Hd n r (kas_place p k f a b) λl=>l<=k/\(∀x,x<l->R r p x<=R r p k)/\∀x,l<=x->x<k->R r p k<=R r p x
 |0,a,b,B,h,C,q,z=>by
  have:a=b:=by omega
  subst this;exact⟨h,q,z⟩
 |f+1,a,b,B,h,C,q,z=>by
  unfold kas_place;by_cases g:a ≥ b
  ·rw[if_pos g];have:a=b:=by omega
   subst this;exact⟨h,q,z⟩
  ·rw[if_neg g];refine⟨⟨e _,e _⟩,?_⟩
   by_cases c:r (p.getD k 0)<r (p.getD ((a+b) / 2) 0)
   ·refine SU c ?_;refine XI e hu f a ((a+b) / 2) (by omega) (by omega) (by omega) q λx i j=>?_;exact DC (C0 c)<|hu ((a+b) / 2) x i j
   refine SQ c ?_;refine XI e hu f ((a+b) / 2+1) b (by omega) h (by omega) (λx m=>?_) z;exact DC (hu x ((a+b) / 2) (by omega)<|by omega)<|Int.not_lt.mp c
def aH{N:Nat}:∀(f:Nat) (p:Array Nat) (k:Nat),Nf n p->p.size=N->k+f=N->Up r p k->Hd n r (kas_bin f p k) λq=>q.Perm p/\Up r q N
 |0,p,k,z,B,hk,h=>⟨CU _,by rw[<-hk];exact h⟩
 |f+1,p,k,z,B,hk,h=>by
  unfold kas_bin;refine Hd.bind<|Hd.mono (λl C=>?_)<|XI z h k 0 k (Bo _) (Ai _) (by omega) (λx F=>absurd F (Gj _)) λx a b=>absurd (Ay b a) (AW _);obtain⟨I,G,H⟩:=C;have c:k<p.size:=by omega
  refine Hd.mono (λq o=>⟨o.1.trans<|bubble_perm _ _ _,o.2⟩)<|aH f (bubble p k<|k-l) (k+1) (sQ c (by omega) z) ((bubble_size _ _ _).trans B) (by omega) λi j m s=>?_;have g:∀x,R r (bubble p k<|k-l) x=if x=l then R r p k else if l<x/\x<=k then R r p (x-1)else R r p x:=λx=>by
   unfold R;rw[cL c (by omega)];have e:k-(k-l)=l:=by omega
   rw[e];by_cases a1:x=l
   ·rw[if_pos a1,if_pos a1]
   ·rw[if_neg a1,if_neg a1]
    by_cases a2:l<x/\x<=k
    ·rw[if_pos a2,if_pos a2]
    rw[if_neg a2,if_neg a2]
  rw[g i,g j];by_cases h1:i=l
  ·rw[if_pos h1]
   by_cases h2:j=l
   ·rw[if_pos h2];exact Df _
   rw[if_neg h2,if_pos (by omega)];exact H (j-1) (by omega)<|by omega
  ·rw[if_neg h1]
   by_cases h2:j=l
   ·rw[if_pos h2,if_neg (by omega)];exact G i<|by omega
   ·rw[if_neg h2]
    by_cases h3:l<i/\i<=k
    ·rw[if_pos h3,if_pos (by omega)];exact h (i-1) (j-1) (by omega)<|by omega
    ·rw[if_neg h3]
     by_cases h4:l<j/\j<=k
     ·rw[if_pos h4];exact h i (j-1) (by omega)<|by omega
     rw[if_neg h4];exact h i j m<|by omega
def zl7(a:1<=n):Nf n (C1<|Bg n):=λk=>by
 rw[BW,EU];by_cases h:k<n
 ·rw[Fn h];exact h
 rw[List.getElem?_eq_none_iff.mpr (by rw[D1];omega)];exact a
def PD(a:1<=n):Hd n r (kas_sort n) λq=>q.Perm (C1<|Bg n)/\Up r q n:=by
 unfold kas_sort;have i:(C1<|Bg n).size=n:=by simp
 refine Hd.bind<|Hd.mono (λt m=>?_)<|vV (zl7 a) i a;obtain⟨t1,c,t3,o,j⟩:=m
 by_cases h:t.1<n
 ·rw[if_pos h];have e:max t.1 1=t.1:=Nat.max_eq_left t3;rw[e];refine Hd.mono (λq l=>⟨l.1.trans c,l.2⟩)<|aH (N:=n) (n-t.1) t.2 t.1 t1 (c.size_eq.trans i) (by omega) j
 ·rw[if_neg h];have e:t.1=n:=by omega
  exact⟨c,by rw[<-e];exact j⟩
end
end Srt
namespace L2.MP
open PySem PySem.Spec PyProof.Rows
def aD:∀a:List Int,HT.lexLt a a=false
 |[]=>rfl
 |x::r=>by rw[HT.Ie,if_pos rfl];exact aD r
def bR:∀{a b:List Int},HT.lexLt a b=false->HT.lexLt b a=false->a=b
 |[],[],_,_=>rfl
 |[],_::_,h,_=>by rw[HT.HQ]at h;cases h
 |_::_,[],_,h=>by rw[HT.HQ]at h;cases h
 |x::a,y::b,c,f=>by
  rw[HT.Ie]at c f;by_cases e:x=y
  ·subst e;rw[if_pos rfl]at c f;rw[bR c f]
  rw[if_neg e]at c;rw[if_neg (A3 e)]at f;have a1:=of_decide_eq_false c;have a2:=of_decide_eq_false f;omega
def dA:∀{a b c:List Int},HT.lexLt b a=false->HT.lexLt c b=false->HT.lexLt c a=false
 |a,[],c,_,f=>by
  cases c with
  |nil=>
   cases a with
   |nil=>rfl
   |cons x a=>rename_i e;rw[HT.HQ]at e;cases e
  |cons z c=>
   cases a with
   |nil=>exact HT.Ic _ _
   |cons x a=>rename_i e;rw[HT.HQ]at e;cases e
 |a,y::b,[],_,f=>by rw[HT.HQ]at f;cases f
 |[],y::b,z::c,_,_=>HT.Ic _ _
 |x::a,y::b,z::c,e,f=>by
  rw[HT.Ie]at e f ⊢;by_cases e1:y=x
  ·subst e1;rw[if_pos rfl]at e
   by_cases e2:z=y
   ·subst e2;rw[if_pos rfl]at f ⊢;exact dA e f
   rw[if_neg e2]at f ⊢;exact f
  ·rw[if_neg e1]at e;have a1:=of_decide_eq_false e
   by_cases e2:z=y
   ·subst e2;rw[if_neg e1];exact e
   rw[if_neg e2]at f;have a2:=of_decide_eq_false f;rw[if_neg (by omega)];exact decide_eq_false<|by omega
variable {b:List Int}
def bS{a:List Int}(h:HT.lexLt a b=true):HT.lexLt b a=false:=by
 cases e:HT.lexLt b a with
 |false=>rfl
 |true=>
  exfalso;have:∀{a b:List Int},HT.lexLt a b=true->HT.lexLt b a=true->False:=by
   intro a
   induction a with
   |nil=>intro b l o;cases b with
    |nil=>rw[HT.Jh]at l;cases l
    |cons y b=>rw[HT.Ic]at o;cases o
   |cons x a r=>intro b l o;cases b with
    |nil=>rw[HT.Ic]at l;cases l
    |cons y b=>
     rw[HT.Ie]at l o;by_cases q:x=y
     ·subst q;rw[if_pos rfl]at l o;exact r l o
     rw[if_neg q]at l;rw[if_neg (A3 q)]at o;have a1:=of_decide_eq_true l;have a2:=of_decide_eq_true o;omega
  exact this h e
def Kv(a b:List Int):Bool:=!HT.lexLt b a
def Ph(ts:List (List Int)):List (List Int):=ts.mergeSort Kv
def VM(a b c:List Int)(e:Kv a b=true)(f:Kv b c=true):Kv a c=true:=by unfold Kv at *;rw[Bs]at *;exact dA e f
def gJ(a b:List Int):(Kv a b || Kv b a)=true:=by
 unfold Kv;cases e:HT.lexLt b a with
 |false=>rfl
 |true=>rw[bS e];rfl
def zN{a:List Int}(c:Kv a b=true)(e:Kv b a=true):a=b:=by unfold Kv at *;rw[Bs]at *;exact bR e c
def rank(ts:List (List Int))(i:Nat):Int:=((ts.countP λt=>HT.lexLt t (ts.getD i [])):Nat)
variable {ts:List (List Int)}{i j:Nat}
def bZ(hi:i<ts.length):(decide (rank ts i<rank ts j))=HT.lexLt (ts.getD i []) (ts.getD j []):=by
 unfold rank;cases e:HT.lexLt (ts.getD i []) (ts.getD j []) with
 |true=>
  refine decide_eq_true ?_;have le:ts.countP (λt=>HT.lexLt t (ts.getD i []))<ts.countP (λt=>HT.lexLt t (ts.getD j [])):=by
   have hm:ts.getD i []∈ts:=by rw[AQ,Ap hi];exact CD hi
   generalize v:ts.getD i []=a at *;generalize w:ts.getD j []=b at *;clear v w hi;have sub:∀t,HT.lexLt t a=true->HT.lexLt t b=true:=λt l=>by
    cases q:HT.lexLt t b with
    |true=>rfl
    |false=>
     exfalso;have x:HT.lexLt a t=false:=bS l;have:HT.lexLt a b=false:=by
      have o:Kv b t=true:=by unfold Kv;rw[q];rfl
      have s:Kv t a=true:=by unfold Kv;rw[x];rfl
      have:=VM b t a o s;unfold Kv at this;rw[Bs]at this;exact this
     rw[e]at this;cases this
   induction ts with
   |nil=>exact absurd hm (by simp)
   |cons t r y=>
    rw[F8,F8];rcases On.mp hm with q|q
    ·subst q;rw[aD,e];have:r.countP (λt=>HT.lexLt t a)<=r.countP (λt=>HT.lexLt t b):=EV λt _ l=>sub t l;simp only[AM,if_false,if_true];omega
    ·have:=y q
     by_cases c:HT.lexLt t a=true
     ·rw[if_pos c,if_pos (sub t c)];omega
     rw[if_neg c];split<;>omega
  omega
 |false=>
  refine decide_eq_false ?_;have le:ts.countP (λt=>HT.lexLt t (ts.getD j []))<=ts.countP (λt=>HT.lexLt t (ts.getD i [])):=EV λt _ l=>by
   cases q:HT.lexLt t (ts.getD i []) with
   |true=>rfl
   |false=>
    exfalso;have o:Kv (ts.getD j []) (ts.getD i [])=true:=by unfold Kv;rw[e];rfl
    have s:Kv (ts.getD i []) t=true:=by unfold Kv;rw[q];rfl
    have u:=VM _ _ _ o s;unfold Kv at u;rw[l]at u;cases u
  omega
variable {n:Nat}{α:Type}{s:Shared}
def G0{n:Nat}{r:Nat->Int}{α:Type}{P:α->Prop}{Q:α->Shared->Prop}{s:Shared}{cmp:Nat->Nat->(Bool->Shared->Prop)->Shared->Prop}(c:∀i j,i<n->j<n->∀C:Bool->Shared->Prop,C (decide (r i<r j)) s->cmp i j C s)(e:∀a,P a->Q a s):
  ∀{t:PySem.W.KasT α},Srt.Hd n r t P->t.kasWp cmp Q s
 |.ret a,h=>e a h
 |.ask i j k,h=>c i j h.1.1 h.1.2 _<|G0 c e (t:=k _) h.2
variable {prog:P3}{w:UF}{A:Around}{E:Qqa}
def iL{Q:Bool->Shared->Prop}:∀{xs c:List Int}{us ws:List IR} (i:Nat),Vals (xs.map V.int) us->Vals (c.map V.int) ws->Q (HT.lexLt xs c) s->PySem.W.KatLex prog w A true (decide (us.length<ws.length)) Q (us.zip ws) i s
 |[],[],_,_,i,.nil,.nil,h=>h
 |[],y::c,_,_,i,.nil,.cons r t,h=>by show Q (decide (_<_)) s;rw[decide_eq_true (by simp)];exact h
 |x::xs,[],_,_,i,.cons r t,.nil,h=>by show Q (decide (_<_)) s;rw[decide_eq_false (by simp)];exact h
 |x::xs,y::c,_,_,i,.cons f t1,.cons g m,h=>by
  obtain⟨a1,rfl⟩:=f;obtain⟨a2,rfl⟩:=g;rw[HT.Ie]at h;refine Fx x a1 y a2 prog w _ _ ?_;by_cases e:x=y
  ·subst e;rw[if_pos rfl]at h;rw[beq_self_eq_true,if_pos rfl];have:=iL (Q:=Q) (i+1) t1 m h;rw[AB,AB];have j:∀a b:Nat,decide (a+1<b+1)=decide (a<b):=λa b=>by
    by_cases q:a<b
    ·rw[decide_eq_true q,decide_eq_true (by omega)]
    rw[decide_eq_false q,decide_eq_false (by omega)]
   rw[j];exact this
  ·rw[if_neg e]at h;have l:(x==y)=false:=by simpa using e
   rw[l,if_neg A6];by_cases hi:i=0
   ·subst hi;exact oneLt_int h
   ·have:(true&&i==0)=false:=by simpa using hi
    rw[this];exact PySem.W.kat_one _ _<|Gc h
variable {X:Cx}{qp:List (KB×Obj)}{σ:L2.St}{H:Hp}{xs:List V}
def SK(H:Hp):List V->List (List Int)->Prop:=Paired λv t=>∃a,v=.ref a/\H a=some (.tup<|t.map V.int)/\t≠[]
def XR:∀{xs:List V} {ts:List (List Int)} {i:Nat},SK H xs ts->i<ts.length->∃a,xs[i]?=some (.ref a)/\H a=some (.tup<|(ts.getD i []).map V.int)/\ts.getD i []≠[]
 |_,[],i,_,hi=>absurd hi<|by simp
 |_,t::ts,0,.cons r q,_=>by obtain⟨a,rfl,c,e⟩:=r;exact⟨a,rfl,c,e⟩
 |_,t::ts,i+1,.cons r q,hi=>by have:=XR (i:=i) q (by simpa using hi);simpa using this
def oM{us:List IR}{s':Shared}(I:Inv X qp σ H s)(hk:∀b o,H b≠none->s.heap.get? b=some o->s'.heap.get? b=some o)(T:SK H xs ts)(r:Vals xs us)(hi:i<ts.length)(c:j<ts.length)(C:Bool->Shared->Prop)(h:C (decide (rank ts i<rank ts j)) s'):Gk X.prog X.w A (PyProof.Rows.tuples' true) us i j C s':=by
 rw[bZ hi]at h;obtain⟨a,y,v,_⟩:=XR T hi;obtain⟨b,E,x,_⟩:=XR T c;obtain⟨u,e,f⟩:=r.get y;obtain⟨B,l,n⟩:=r.get E;cases f;cases n;obtain⟨F,g,⟨G,ga,ca,na,m⟩,_⟩:=I.tuple<|Je.of (K:=X.K) v;obtain⟨J,q,⟨ob,z,L,nb,db⟩,_⟩:=I.tuple<|Je.of (K:=X.K) x;unfold Gk;rw[AQ,AQ,e,l];refine PySem.W.kat_lt (hk _ _ (by rw[v];simp) ga) m (hk _ _ (by rw[x];simp) z) db ?_;have:=iL (prog:=X.prog) (w:=X.w) (A:=A) (Q:=C) (s:=s') 0 g q h;simpa using this
variable {h':Pv}
def dJ{h':Pv}(I:Inv X qp σ H s)(hk:∀b o,H b≠none->s.heap.get? b=some o->h'.get? b=some o):∀{xs:List V}{us:List IR} {ts:List (List Int)},SK H xs ts->Vals xs us ->
  ∃fs:List IR,PySem.W.KatTups h' us fs/\fs.length=us.length/\∀v∈fs,∃i t,v=Er i t
 |_,_,[],.nil,.nil=>⟨[],GU,rfl,λv hv=>absurd hv (by simp)⟩
 |_,_,t::ts,.cons r q,.cons h e=>by
  obtain⟨a,rfl,f,m⟩:=r;cases h;obtain⟨fs,l,w,y⟩:=dJ I hk q e;obtain⟨A,E,⟨o,g,c,n,d⟩,_⟩:=I.tuple<|Je.of (K:=X.K) f
  cases t with
  |nil=>exact absurd rfl m
  |cons x t=>
   cases E with
   |@cons _ u _ Q z B=>
    obtain⟨j,rfl⟩:=z;refine⟨.int x j::fs,GR (hk _ _ (by rw[f];simp) g) c d (by simp) l,by rw[AB,AB,w],λv hv=>?_⟩
    rcases On.mp hv with rfl|hv
    ·exact⟨x,j,rfl⟩
    exact y v hv
variable {a:KB}{P:P3}{h:Pv}
def zmj{o:HO}(x:Kx P w H h a o):∃u,h.get? a=some u:=by
 cases o with
 |lst xs=>obtain⟨_,_,_,_,e⟩:=x;exact⟨_,e⟩
 |tup xs=>obtain⟨_,_,_,o,e,_⟩:=x;exact⟨_,e⟩
 |dK i=>obtain⟨_,_,_,_,o,_,_,e,_⟩:=x;exact⟨_,e⟩
 |dT i=>obtain⟨_,_,_,_,o,_,_,e,_⟩:=x;exact⟨_,e⟩
 |set S n=>obtain⟨o,_,_,_,e,_⟩:=x;exact⟨_,e⟩
 |ins C j fs=>obtain⟨_,_,_,e,_⟩:=x;exact⟨_,e⟩
 |own y=>exact x
 |xd fs=>obtain⟨_,⟨_,_,_,e,_⟩,_⟩:=x;exact⟨_,e⟩
 |rng lo hi=>obtain⟨_,_,_,e⟩:=x;exact⟨_,e⟩
 |frz ob u=>obtain⟨e,_⟩:=x;exact⟨_,e⟩
 |tbl l=>exact⟨_,x⟩
 |met f y=>exact⟨_,x⟩
 |ext φ=>obtain⟨_,e,_⟩:=x;exact e
variable {m:Str->Option IR}
def oB{c:Str->Option IR}(x:h.Ns a m)(y:h.Ns a c):m=c:=by
 obtain⟨o,v,w,r,hd,_,hm⟩:=x;obtain⟨A,s,u,i,j,_,l⟩:=y;rw[r]at i;cases i;rw[hd]at j;cases j
 funext n
 rw[<-hm n,l n]
variable {l:KB}
def Inv.laidAt{m:Str->Option IR}{o:HO}(I:Inv X qp σ H s)(k:∀b u,b≠X.env.locals->s.heap.get? b=some u->h'.get? b=some u)(ns:∀m,s.heap.Ns X.env.locals m->h'.Ns X.env.locals m)(g:∃u,h'.get? X.env.locals=some u)(B:s.heap.get? a=none) (f:H a=none) (C:a≠X.env.locals) (new:Kx X.prog X.w (upd H a o) h' a o):Inv X qp σ (upd H a o) {s with heap:=h'}:=by
 have na:∀b u,s.heap.get? b=some u->b≠a:=λb u e z=>by rw[z,B]at e;cases e
 refine Inv.step (t':=s.toks) (ch:=[]) (g':=s.gens) (d':=s.drawn) I (λb h=>absurd h (by simp)) (λb u i _ _ e _=>k b u i e) (λb u i _ _ e _=>⟨u.slots,k b u i e⟩) (λb u _ e n=>by rw[HW (na b u e)];exact n) (λb u _ e=>?_)
  (λb xs e=>by rw[HW (Ka e f)];exact e) (λb u v e=>by rw[HW (Ka e f)];exact e) (λb j e=>⟨#[],by rw[HW (Ka e f),e];simp⟩) ns (λb u e=>?_) I.bare
 ·by_cases h:b=X.env.locals
  ·rw[h];exact g
  exact⟨u,k b u h e⟩
 ·by_cases h:b=a
  ·subst h;rw[KY]at e;cases e;exact new
  ·rw[HW h]at e;refine(I.hok b u e).stay (λc v hc q=>k c v (λz=>?_) q) (λc q=>by rw[HW (Ka q f)];exact q) λc xs q=>by rw[HW (Ka q f)];exact q
   subst z;rcases hc with rfl|hc
   ·rw[I.free]at e;cases e
   rw[I.free]at hc;cases hc
def ziQ{Q:VK}(I:Inv X qp σ H s)(hl:Kc X.K H l xs)(T:SK H xs ts)(f:2<=ts.length)(h64:ts.length<64)(h:∀(q:Array Nat) (p:KB),q.Perm (C1<|Bg ts.length)->Srt.Up (rank ts) q ts.length->H p=none->Q (.ref p) (upd H p<|.lst<|q.toList.map λi=>xs.getD i .non)):
  wpAny (KF X.prog X.w) X.A (call (.builtin "sorted") [.ref l]) (EP X qp σ Q) X.xe s:=by
 obtain⟨x,G,pl,hz⟩:=I.list hl;have hlen:x.length=ts.length:=by have a:=G.length;have b:=BM T;omega
 obtain⟨m,F⟩:=I.fr;have M:∀b,H b≠none->b≠X.env.locals:=λb E z=>E (by rw[z];exact I.free);have trkB:∀b,H b≠none->X.base.get? b=none:=λb E=>by
  cases e:X.base.get? b with
  |none=>rfl
  |some o=>exact absurd (I.bs b o e).2 E
 refine PySem.W.kat_sorted F (yQ (g:=X.base) (h:=s.heap) (L:=X.env.locals)) pl.isList (by omega) (by omega) λD e1 h' F' N' N=>?_;have keep:∀{f:Pv}{o:Obj},Fr X.base X.env.locals f m->News X.base X.env.locals f ((D,o)::Vp X.base s.heap X.env.locals)->∀b u,b≠X.env.locals->s.heap.get? b=some u->f.get? b=some u:=λ{f o} F2 Z b u E e=>by
  cases q:X.base.get? b with
  |some v=>
   have z:=(I.bs b v q).1;rw[e]at z;cases z;exact F2.keep b _ q
  |none=>exact(Z (b,u)<|Aj _<|iM E q e).1
 have hk:∀b o,H b≠none->s.heap.get? b=some o->h'.get? b=some o:=λb o E e=>keep F' N' b o (M b E) e;have B:=N' _ Al;have S:s.heap.get? D=none:=by
  cases e:s.heap.get? D with
  |none=>rfl
  |some u=>exact absurd (N _<|iM B.2.1 B.2.2 e)<|AW _
 have U:H D=none:=by
  cases e:H D with
  |none=>rfl
  |some o=>
   obtain⟨u,hu⟩:=zmj<|I.hok D o e;rw[S]at hu;cases hu
 obtain⟨fs,k1,k2,k3⟩:=dJ (h':=h') I hk T G;refine PySem.W.kat_kind (s:={s with heap:=h'}) (T:=.type "int") k1 (by omega) (λv hv=>?_) rfl ?_
 ·obtain⟨i,t,rfl⟩:=k3 v hv;exact PySem.W.Looks.of_pure rfl
 have ok:=Srt.PD (n:=x.length) (r:=rank ts) (by omega);refine G0 (n:=x.length) (r:=rank ts) (s:={s with heap:=h'}) (λi j hi hj C hC=>oM (s':={s with heap:=h'}) I hk T G (by omega) (by omega) C hC) (λq Y=>?_) ok;refine GS F' N' (PySem.W.UpdF.head λp hp=>Au (N p hp)) λf c F2 Z=>?_;have hD2:=(Z _ Al).1;rw[hlen]at Y;have vals:Vals (q.toList.map λi=>xs.getD i .non) (q.toList.map λi=>x.getD i AH):=by
  have y:∀i∈q.toList,i<xs.length:=λi hi=>by have:i∈(C1<|Bg ts.length).toList:=(Array.perm_iff_toList_perm.mp Y.1).mem_iff.mp hi;have hr:=G.length;simp at this;omega
  generalize q.toList=ql at y
  induction ql with
  |nil=>exact .nil
  |cons i r ih=>
   refine .cons ?_<|ih λj hj=>y j (Aj _ hj);have hi:=y i Al;obtain⟨u,eu,ru⟩:=G.get<|Ap hi;show RelV (xs.getD i V.non) (x.getD i AH);rw[AQ,AQ,Ap hi,eu];exact ru
 have hql:q.toList.length=ts.length:=by have:=(Array.perm_iff_toList_perm.mp Y.1).length_eq;simpa using this
 have J:Inv X qp σ (upd H D<|.lst<|q.toList.map λi=>xs.getD i .non) {s with heap:=f}:=
  Inv.laidAt (m:=m) I (keep F2 Z) (λm' hm'=>by rw[oB hm' F.ns];exact F2.ns) (let ⟨o,_,_,e,_⟩:=F2.ns;⟨o,e⟩) S U B.2.1 ⟨by rw[Ah,hql];exact Us h64,_,c,vals,hD2⟩
 exact⟨.ref D,_,J,rfl,h q D Y.1 Y.2 U⟩
def zgp(ts:List α)(d:α):(Bg ts.length).map (λi=>ts.getD i d)=ts:=by
 apply F9
 ·simp
 intro i h a;simp[AQ,Ap a]
def ziU{q:Array Nat}(g:q.Perm (C1<|Bg ts.length))(f:Srt.Up (rank ts) q ts.length):q.toList.map (λi=>ts.getD i [])=Ph ts:=by
 have hl:=Array.perm_iff_toList_perm.mp g;have hl:q.toList.Perm (Bg ts.length):=by simpa using hl
 have n:q.toList.length=ts.length:=by rw[hl.length_eq,D1]
 have o:(q.toList.map λi=>ts.getD i []).Perm ts:=by have:=hl.map λi=>ts.getD i [];rw[zgp]at this;exact this
 refine YD (le:=λa b=>Kv a b=true) (o.trans (CN ts Kv).symm) ?_ (Cd (λa b c=>VM a b c) gJ ts) λa _ b _=>zN;rw[List.pairwise_iff_getElem];intro i j hi h l;rw[Ga,Ga];rw[Ah]at hi h;have f:=f i j (B7 l) (by omega);have m:∀(k:Nat) (hk:k<q.toList.length),q.getD k 0=q.toList[k]:=λk hk=>by rw[BW,<-BY,Ap hk];rfl
 unfold Srt.R at f;rw[m i hi,m j h]at f;have lt:∀k∈q.toList,k<ts.length:=λk hk=>List.mem_range.mp<|hl.mem_iff.mp hk;have e:=bZ (ts:=ts) (i:=q.toList[j]) (j:=q.toList[i])<|lt _<|CD h;rw[decide_eq_false (by omega)]at e;unfold Kv;rw[<-e];rfl
def intsOf:List D->Option (List Int)
 |[]=>some []
 |.int i::r=>(intsOf r).map λis=>i::is
 |_=>none
def zi5{d:D}{r:List D}{ss:List Int}(h:intsOf (d::r)=some ss):∃x xs,d=.int x/\intsOf r=some xs/\ss=x::xs:=by
 cases d with
 |int x=>
  obtain⟨xs,e,h⟩:=IL h;exact⟨x,xs,rfl,e,h.symm⟩
 |_=>cases h
def rowOf:D->Option (List Int)
 |.tup ds=>(intsOf ds).bind λt=>if(!t.isEmpty)=true then some t else none
 |_=>none
def rowsOf:List D->Option (List<|List Int)
 |[]=>some []
 |d::r=>(rowOf d).bind λt=>(rowsOf r).map λts=>t::ts
def HD(t:List Int):D:=.tup<|t.map D.int
variable {K:Ac}{io:List KB}{st st':Hg}
def ints_rep:∀{xs:List V}{ds:List D}{t:List Int},Hl K H io xs ds->intsOf ds=some t->xs=t.map V.int/\ds=t.map D.int
 |_,[],t,h,e=>by cases e;exact⟨h,rfl⟩
 |_,d::ds,t,h,e=>by
  obtain⟨y,g,rfl,c,f⟩:=h;obtain⟨x,rest,rfl,i,rfl⟩:=zi5 e;obtain⟨a,b⟩:=ints_rep f i;cases (show y=.int x from c)
  rw[a,b];exact⟨rfl,rfl⟩
def cC:∀{xs:List V}{ds:List D} {ts:List (List Int)},Hl K H io xs ds->rowsOf ds=some ts->SK H xs ts/\ds=ts.map HD
 |_,[],ts,h,e=>by cases e;cases (show _=[] from h);exact⟨.nil,rfl⟩
 |_,d::ds,ts,h,e=>by
  obtain⟨y,g,rfl,c,f⟩:=h;obtain⟨t,i,e⟩:=Ht e;obtain⟨us,l,e⟩:=IL e;subst e;obtain⟨a,b⟩:=cC f l;cases d with
  |tup zs=>
   obtain⟨t',f1,f2⟩:=Ht i;obtain⟨j,f2⟩:=JJ f2;cases f2;obtain⟨p,r,rfl,m,rs⟩:=c;obtain⟨n,o⟩:=ints_rep rs f1;subst n;refine⟨.cons ⟨p,rfl,m,λz=>?_⟩ a,?_⟩
   ·rw[z]at j;exact absurd j<|by decide
   rw[b,o];rfl
  |_=>cases i
def VC:GN
 |[.ref n],st=>(Iw st n).bind λds=>(rowsOf ds).bind λts=>if(decide (2<=ts.length)&&decide (ts.length<64))=true then some (.ref st.length,st++[.lst ((Ph ts).map HD)])else none
 |_,_=>none
def fT{xs:List V}{ts:List (List Int)}(r:Hl K H io xs (ts.map HD)):∀{q:List Nat},(∀i∈q,i<ts.length)->Hl K H io (q.map λi=>xs.getD i .non) ((q.map λi=>ts.getD i []).map HD)
 |[],_=>rfl
 |i::q,h=>by
  have hi:=h i Al;have a:(ts.map HD)[i]?=some (HD<|ts.getD i []):=by rw[AJ,Ap hi,AQ,Ap hi];rfl
  obtain⟨v,l,m⟩:=r.get a;refine⟨_,_,rfl,?_,fT r λj n=>h j (Aj _ n)⟩;show Rep K H io (xs.getD i .non) _;rw[AQ,l];exact m
def zg6:Kw X (.builtin "sorted") VC:=by
 rintro qp s σ H xs us Q I r ⟨ds,st,io,d,st',R,S,e,k⟩;unfold VC at e;split at e
 ·rename_i n;obtain⟨zs,m,e⟩:=Ht e;obtain⟨ts,o,e⟩:=Ht e;obtain⟨a,e⟩:=JJ e;cases e;rw[Ad]at a;obtain⟨v,rfl,p,rfl,w⟩:=R.one;obtain⟨u,rfl,x⟩:=r.one;cases x;obtain⟨E,y,h⟩:=LU S w m;obtain⟨T,hd⟩:=cC h o;subst hd;refine ziQ I y T (of_decide_eq_true a.1) (of_decide_eq_true a.2) λq K j A hf=>?_;have hm:∀i∈q.toList,i<ts.length:=λi hi=>by
   have:=(Array.perm_iff_toList_perm.mp j).mem_iff.mp hi;simpa using this
  have l:=fT h hm;rw[ziU j A]at l;exact k.lst S l hf
 ·cases e
variable {ma mb:ME}{pos:Pos}{g:GN}{mg:Str->Option IR}{base:Pv}{k:Nat}
section
variable {a b c e:Re}{es:List Re}{mc m:ME}{mm:MA}
def NN:Option α->Option α->Option α
 |some x,_=>some x
 |none,y=>y
def Pt{x y:Option α}{z:α}(h:NN x y=some z):x=some z\/y=some z:=by
 cases x with
 |none=>exact .inr h
 |some w=>exact .inl h
def JG(g h:G2):G2:=λx y st=>NN (g x y st)<|h x y st
def N7(g h:GN):GN:=λxs st=>NN (g xs st)<|h xs st
def Pn{f:IR->IR->Sem IR}{g h:G2}(p:Jq X f g)(q:Jq X f h):Jq X f (JG g h):=by
 rintro qp s σ H x y v u Q I rx a ⟨c,i,st,io,d,st',j,l,S,e,k⟩;rcases Pt e with e|e
 ·exact p qp s σ H x y v u Q I rx a ⟨c,i,st,io,d,st',j,l,S,e,k⟩
 exact q qp s σ H x y v u Q I rx a ⟨c,i,st,io,d,st',j,l,S,e,k⟩
def Vt{f:IR}{h:GN}(p:Kw X f g)(q:Kw X f h):Kw X f (N7 g h):=by
 rintro qp s σ H xs us Q I r ⟨ds,st,io,d,st',R,S,e,k⟩;rcases Pt e with e|e
 ·exact p qp s σ H xs us Q I r ⟨ds,st,io,d,st',R,S,e,k⟩
 exact q qp s σ H xs us Q I r ⟨ds,st,io,d,st',R,S,e,k⟩
def Vk{g:G2}{ρ:HX}{x y:D}{s0 s1 s2:Hg}{r:D×Hg}(f:ma ρ s0=some (x,s1))(q:mb ρ s1=some (y,s2))(z:g x y s2=some r):mB g ma mb ρ s0=some r:=by unfold mB;rw[f];show GQ (mb ρ s1) _=_;rw[q];exact z
def aO{g h:G2}(p:SE X e (mB g ma mb))(q:SE X e (mB h ma mb)):SE X e (mB (JG g h) ma mb):=by
 rintro qp s σ H Q I ⟨ρ,st,io,d,st',E,S,e,k⟩;obtain⟨⟨x,s1⟩,a,e⟩:=Ht e;obtain⟨⟨y,s2⟩,c,e⟩:=Ht e;rcases Pt e with e|e
 ·exact p qp s σ H Q I ⟨ρ,st,io,d,st',E,S,Vk a c e,k⟩
 exact q qp s σ H Q I ⟨ρ,st,io,d,st',E,S,Vk a c e,k⟩
def WV{g h:G2}(p:SB X e (mT<|mB g ma mb))(q:SB X e (mT<|mB h ma mb)):SB X e (mT<|mB (JG g h) ma mb):=by
 rintro qp s σ H Q I ⟨ρ,st,io,d,st',E,S,e,k⟩;have e:=Tg e;obtain⟨⟨x,s1⟩,a,e⟩:=Ht e;obtain⟨⟨y,s2⟩,c,e⟩:=Ht e;rcases Pt e with e|e
 ·exact p qp s σ H Q I ⟨ρ,st,io,d,st',E,S,by unfold mT;rw[Vk a c e];rfl,k⟩
 exact q qp s σ H Q I ⟨ρ,st,io,d,st',E,S,by unfold mT;rw[Vk a c e];rfl,k⟩
def WG:G2:=λd k st=>match d with
 |.ref n=>(look st n k).bind λr=>r.map λv=>(v,st)
 |_=>none
def Hr:G2:=JG Lj WG
def Ii(B:X.A.units+1<cLine)(q:SE X a ma)(z:SE X b mb)(C:Xf b:=by intro _ _;rfl)(f:P1 b:=by intro _ _;rfl):SE X (.Subscript a b pos) (mB Hr ma mb):=aO (kM q z C) (show SE X (.Subscript a b pos) (G1 ma mb) from uD B q z f)
def Rb(neg:Bool):G2:=λk d st=>match d with
 |.ref n=>(look st n k).map λr=>(.bl (if neg then !r.isSome else r.isSome),st)
 |_=>none
def Lb:G2:=JG (JG (inD false) Od)<|Rb false
def QA:G2:=JG (inD true)<|Rb true
def Tq(z:X.A.units+100<cLine)(f:SE X a ma)(q:SE X b mb)(hm:behindInMarks .In b=false:=by rfl):SE X (.Compare a [.In] [b] pos) (mB Lb ma mb):=aO (LO (Pn (aX z) bW) f q hm) (show SE X _ (MF false ma mb) from rA (by omega) f q hm)
def qY(z:X.A.units+100<cLine)(f:SE X a ma)(q:SE X b mb)(hm:behindInMarks .In b=false:=by rfl):SB X (.Compare a [.In] [b] pos) (mT<|mB Lb ma mb):=WV (Io (Pn (aX z) bW) f q hm) (show SB X _ (mT<|MF false ma mb) from qX (by omega) f q hm)
def gR(z:X.A.units+100<cLine)(f:SE X a ma)(q:SE X b mb)(hm:behindInMarks .NotIn b=false:=by rfl):SB X (.Compare a [.NotIn] [b] pos) (mT<|mB QA ma mb):=WV (Io (zme z) f q hm) (show SB X _ (mT<|MF true ma mb) from zl5 (by omega) f q hm)
def PF:D->Option Int->Option Int->Hg->Option (D×Hg):=λx lo hi st=>NN (QW x lo hi st)<|Wj x lo hi st
def Lx(m:ME)(l h:MO):ME:=λρ st=>(m ρ st).bind λ(x,s1)=>(l ρ s1).bind λ(lo,s2)=>(h ρ s2).bind λ(hi,s3)=>PF x lo hi s3
def VI{lo hi:Option Re}{f q:MO}{p2:Pos}(he:SE X e m)(z:SO X lo f)(B:SO X hi q):SE X (.Subscript e (.Slice lo hi none p2) pos) (Lx m f q):=by
 rintro qp s σ H Q I ⟨ρ,st,io,d,st',E,S,e0,k⟩;obtain⟨⟨x,s1⟩,a,e0⟩:=Ht e0;obtain⟨⟨h,s2⟩,c,e0⟩:=Ht e0;obtain⟨⟨i,s3⟩,g,e0⟩:=Ht e0;rcases Pt e0 with e0|e0
 ·exact xV he z B qp s σ H Q I ⟨ρ,st,io,d,st',E,S,by simp only[jU,a,c,g,Aa];exact e0,k⟩
 exact zlZ he z B qp s σ H Q I ⟨ρ,st,io,d,st',E,S,by simp only[Ur,a,c,g,Aa];exact e0,k⟩
def Rp:D->Hg->Option (Wk×Hg)
 |.ref n,s=>(Iw s n).map λds=>(⟨ds,[(n,ds)]⟩,s)
 |.tup ds,s=>some (⟨ds,[]⟩,s)
 |_,_=>none
def mW(m:ME):MI:=λρ st=>(m ρ st).bind λ(d,s)=>Rp d s
def cD{q l:Re}(f:SE X l m):SI X q l (mW m):=by
 rintro qp s σ H R I ⟨ρ,st,io,W,st',E,S,a,k⟩;obtain⟨⟨d,s1⟩,c,a⟩:=Ht a;cases d with
 |ref n=>exact uK f qp s σ H R I ⟨ρ,st,io,W,st',E,S,by unfold jT;rw[c];exact a,k⟩
 |tup ds=>exact pG f qp s σ H R I ⟨ρ,st,io,W,st',E,S,by unfold jR;rw[c];exact a,k⟩
 |_=>cases a
def LV:G3:=λo i v st=>match o,i with
 |.ref n,.int k=>match st[n]? with
  |some (.lst ds)=>(Nc ds.length k).map λj=>st.set n<|.lst<|ds.set j v
  |_=>none
 |_,_=>none
def kN:UG X LV:=by
 rintro qp s σ H o i v m w u Q I x y A ⟨E,a,K,st,io,st',W,R2,f,S,e,k⟩;cases E with
 |ref n=>
  cases a with
  |int j=>
   unfold LV at e;dsimp only at e;split at e
   ·rename_i ds c;obtain⟨q,B,e⟩:=IL e;cases e;obtain⟨p,rfl,g⟩:=W;obtain⟨h,l,r⟩:=S.ob n p _ g c;refine set_list qp s σ H _ _ v m w u Q I x y A ⟨p,h,j,q,rfl,R2,l,by rw[r.length];exact B,?_⟩;obtain⟨C,F⟩:=To (o:=.lst (h.set q v)) (ob:=.lst (ds.set q K)) S g c (λo u z=>by rw[l]at z;cases z) λJ T G=>⟨_,G,(Hl.mono T r).set q<|Rep.mono T f⟩
    exact k _ [] C F
   ·cases e
  |_=>cases e
 |_=>cases a<;>cases e
def My(mo mi f:ME):MS:=λρ st=>NN (Hm f (Q8 LV mo mi) ρ st)<|UX mo mi f ρ st
def Xd{o i value:Re}{mo mi C:ME}{pos':Pos}(J:X.A.units+1<cLine)(F:SE X o mo)(hi:SE X i mi)(G:SE X value C)(L:swapsWith value (some<|.Subscript o i pos') pos.line X.env=pure false:=by rfl)(M:∀v,assign (.Subscript o i pos') X.env v=(do
   let q <-holding [v] (eval o X.env)
   let z <-holding [v,q] (eval i X.env)
   standAt pos'
   holding [v,q,z] (setItem q z v)
   release [v,q,z] []):=by intro _;rfl)
  (B:swapsWithSole [.Subscript o i pos'] value pos.line X.env=pure false:=by rfl) (hw:swappedStores [.Subscript o i pos'] value X.env=pure none:=by rfl)
  (T:(assignEach [.Subscript o i pos'] X.env).map (·.2)=[assign (.Subscript o i pos') X.env]:=by rfl):SS X (.Assign [.Subscript o i pos'] value pos) (My mo mi C):=by
 intro qp s σ H N I h;obtain⟨ρ,st,io,f,st',E,S,e,w⟩:=Mi.mp h;rcases Pt e with e|e
 ·exact Ve G (pE F hi kN M) B hw T qp s σ H N I<|Pj E S e w
 exact wX J F hi G L qp s σ H N I<|Pj E S e w
def K3(i j:Nat)(mm:MA):MS:=λρ st=>(mm ρ st).bind λ(xs,s)=>match xs with
 |[x,y]=>some (.nx ((ρ.set i<|some x).set j<|some y),s)
 |_=>none
def Tc{x y:Str}{z py pt:Pos}{kt k2 pt2}(C:X.calm=true)(F:X.N.Nodup)(hi:X.N[i]?=some x)(G:X.N[j]?=some y)(B:i≠j)(I:X.env.scope.names.lookup x=some .local) (J:X.env.scope.names.lookup y=some .local) (L:SA X [a,b] mm)(hw:swappedStores [.Tuple [.Name x z,.Name y py] kt pt] (.Tuple [a,b] k2 pt2) X.env=pure (some [x,y]):=by rfl)(M:swapsWithSole [.Tuple [.Name x z,.Name y py] kt pt] (.Tuple [a,b] k2 pt2) pos.line X.env=pure false:=by rfl):
  SS X (.Assign [.Tuple [.Name x z,.Name y py] kt pt] (.Tuple [a,b] k2 pt2) pos) (K3 i j mm):=PS.imp (qO C F hi G B I J L hw M) λN σ H h=>by
 obtain⟨ρ,st,io,f,st',E,S,e,w⟩:=Mi.mp h;obtain⟨⟨xs,s1⟩,c,e⟩:=Ht e
 match xs,e,c with
 |[u,v],e,c=>
  cases e;refine⟨ρ,st,io,_,_,E,S,c,λr H1 l g m R1=>?_⟩;obtain⟨p,q,rfl,n,o⟩:=R1.two;exact⟨p,q,rfl,w _ H1 l g m<|((E.ext S g).set i n).set j o⟩
def IY(P:P3)(w:UF)(K:Ac)(mg:Str->Option IR)(base:Pv)(k:Nat)(x:Str)(n:Nat)(g:GN):Prop:=∃f fd a,Ja P w K mg base LJ k f fd a (Qk K n g)/\mg x=some (.ref f)/\BF K (.ref f)=true/\Binds K fd a []
def IY.mono{P:P3}{w:UF}{mg:Str->Option IR}{base:Pv}{j k:Nat}{x:Str}{n:Nat}{g:GN}(h:IY P w K mg base j x n g)(q:j<=k):IY P w K mg base k x n g:=by obtain⟨f,fd,a,F,r⟩:=h;exact⟨f,fd,a,F.mono q,r⟩
def IZ(n:Nat)(mm:MA):Prop:=∀ρ st xs s,mm ρ st=some (xs,s)->xs.length=n
def IZ.nil:IZ 0 mZ:=λ_ _ _ _ h=>yJ h
def IZ.cons(h:IZ n mm):IZ (n+1) (Hc m mm):=λ_ _ _ _ q=>zmq h q
def xS{x:Str}{p:Pos}(F:IY X.prog X.w X.K X.mg X.base k x n g)(B:HP k X.A)(C:Gl X x)(G:SA X (e::es) mm)(I:IZ n mm)(q:(x==("__debug__":Str))=false:=by decide)(he:Qqb X.env e es:=by rfl) (z:Qqc pos es X.env:=by rfl) (J:(e::es).length=n:=by rfl):
  SE X (.Call (.Name x p) (e::es) [] pos) (Hi g mm):=by
 obtain⟨f,fd,c,F,hm,hk,a⟩:=F;exact uC F B C hm hk a G q he z J I
def Laid(K:Ac)(mg:Str->Option IR)(x:Str)(st:W1)(q:List Str):Prop:=∃f fd,Nd K x x st f fd/\mg x=some (.ref f)/\Binds K fd q []
def oV{x:Str}{st:W1}{N z:List Str}{m:MS}(L:Laid K mg x st z)(S:IQ N z (Jl st))(hbody:∀(f:KB) (q:IR) (A:Around) (outer:List Env) (s:Shared) (H:Hp) (E:XK),HP k (A.deeper<|envOfC x (Jl st) s.heap.objs.size f q) ->
   Mc (HM LJ P w K mg base N x (Jl st) f q A outer s H E).nox (Ln st) m):IY P w K mg base (k+1) x z.length (IX N.length m):=by
 obtain⟨f,fd,F,hm,a⟩:=L;exact⟨f,fd,z,Uz F S<|hbody f,hm,F.kp,a⟩
end
variable {v:IR}
def zlS{at_:KB}{R:PySem.Fin->Shared->Prop}(c:s.heap.get? at_=some (seqObj "list" #[v] k))(fin:R (.done<|.ret .none) {s with heap:=sortedHeap s.heap at_ [v] #[v]}):
  wpAny (KF prog w) A (Builtin.«list.sort» ⟨[.ref at_],[]⟩) R E s:=by
 have g:=An c;obtain⟨a,g1⟩:∃a,(s.heap.update at_<|BQ λ_=>(#[]:Array IR)).get? at_=some (seqObj "list" #[] a):=⟨_,get?_update_seq c λ_=>#[]⟩
 have g2:(((s.heap.update at_<|BQ λ_=>(#[]:Array IR)).push<|seqObj "tuple" #[v] 0).push<|seqObj "list" #[] 0).get? at_=some (seqObj "list" #[] a):=Ag _<|Ag _ g1;rw[list_sort_plain];refine Ab<|listItems_at c rfl<|Ab<|listUpdate_at c rfl<|Ab<|seqEpoch_at g1 rfl<|Ab<|wpAny_newTuple<|Ab<|wpAny_newList<|A7 ?_;show wpAny (KF prog w) A _ R E {s with heap:=((s.heap.update at_<|BQ λ_=>(#[]:Array IR)).push<|seqObj "tuple" #[v] 0).push (seqObj "list" #[] 0)};have two:(#[v]:Array IR).size<2:=by show 1<2;decide
 have same:(arrOf<|SortSt.mk' general' ((#[v]:Array IR).zip #[v]) #[] 7 none).map (·.2)=#[v]:=by show(((#[v]:Array IR).zip #[v]).map (·.2))=#[v];simp
 dsimp only;rw[if_pos two,if_pos two];refine Ab<|Ae ?_;rw[StateT.run_pure];refine Ab<|Ae ?_;dsimp only;rw[same];refine Ab<|seqEpoch_at g2 rfl<|Ab<|listUpdate_at g2 rfl ?_;simp only[bne_self_eq_false,AM,if_false];exact Ae fin
def ziR{R:Qqa}(c:s.heap.IsList l [v].toArray)(fin:R (.ref<|s.heap.objs.size+1) {s with heap:=sortedAll s.heap [v] #[v]}):
  wpAny (KF prog w) A (call (.builtin "sorted") [.ref l]) R E s:=by
 have sz:((s.heap.push<|seqObj "list" #[] 0).update s.heap.objs.size (BQ (·++[v].toArray))).objs.size=s.heap.objs.size+1:=(Gb ..).trans<|size_push' ..;have a:(((s.heap.push<|seqObj "list" #[] 0).update s.heap.objs.size (BQ (·++[v].toArray))).push<|seqObj "list" [v].toArray 0).get? (s.heap.objs.size+1)=some (seqObj "list" [v].toArray 0):=by rw[<-sz];exact Av _ rfl
 refine Calls.call_function_entry kind_sorted plain_sorted entry_sorted (args_sorted1 _) ?_;unfold Builtin.«sorted»;refine Ab (m:=checkCount "sorted" 1 1 _) (Ae<|Ab<|collect_list c<|Ab<|wpAny_newList ?_);show wpAny _ _ _ _ _ {s with heap:=((s.heap.push<|seqObj "list" #[] 0).update s.heap.objs.size (BQ (·++[v].toArray))).push (seqObj "list" [v].toArray 0)};rw[sz];exact Ab<|A7<|Bx slot_list_sort ⟨_,a,rfl⟩ entry_list_sort (zlS a ⟨_,rfl,Ae ⟨_,rfl,fin⟩⟩)<|args_list_sort _
def TK:GN
 |[.ref n],st=>(Iw st n).bind λds=>if decide (ds.length=1)=true then some (.ref st.length,st++[.lst ds])else none
 |_,_=>none
def zg8:Kw X (.builtin "sorted") TK:=by
 rintro qp s σ H xs us Q I r ⟨ds,st,io,d,st',R,S,e,k⟩;unfold TK at e;split at e
 ·rename_i n;obtain⟨zs,m,e⟩:=Ht e;obtain⟨w,e⟩:=JJ e;cases e;obtain⟨y,rfl⟩:=List.length_eq_one_iff.mp<|of_decide_eq_true w;obtain⟨v,rfl,p,rfl,x⟩:=R.one;obtain⟨u,rfl,A⟩:=r.one;cases A;obtain⟨f,E,j⟩:=LU S x m;obtain⟨K,l,pl,z⟩:=I.list E;obtain⟨W,rfl,B⟩:=j.one;obtain⟨i,rfl,C⟩:=l.one;refine ziR pl.isList ?_;obtain⟨c,h⟩:=sortedAll_at s.heap [i] #[i];have g:H (s.heap.objs.size+1)=none:=I.hok.fresh<|Bf _;refine⟨.ref<|s.heap.objs.size+1,upd H (s.heap.objs.size+1)<|.lst [W],I.laid (t':=s.toks) (a:=s.heap.objs.size+1) (λb o q=>sortedAll_old q) (Bf _) ⟨by show 1<=sizeLine;decide,[i],c,l,by simpa using h⟩,rfl,?_⟩;exact k.lst S j g
 ·cases e
def OY:GN:=N7 QK<|N7 TK VC
def iE:Kw X (.builtin "sorted") OY:=Vt zg7<|Vt zg8 zg6
variable {o:Obj}{d it:KB}{es:Array DictEntry}{ep:Nat}{ok ov:IR}
def zkN{o:Obj}{R:Qqa}(ty:s.TypeIs (.ref d) "dict")(hd:(d==sysModules)=false)(k:R (.ref s.heap.objs.size) {s with heap:=s.heap.push {cls:=.type "dict_items",data:=.fields #[.ref d]} }):wpAny (KF prog w) A (call (.builtin "dict.items") [.ref d]) R E s:=by
 refine Bx Ep ty PySem.F.entry_dict_items ?_<|PySem.F.args_dict_items_1 _;unfold Builtin.«dict.items» Builtin.Dict.noArgs;refine Ab<|Ab<|Do ty ?_;show wpAny _ _ (pure d) _ _ s;refine Ae ?_;unfold Builtin.Dict.showsAll;show wpAny _ _ ((if(d==sysModules)=true then _ else _) >>= _) _ _ s;rw[if_neg (show ¬(d==sysModules)=true by rw[hd];decide)];exact Ab<|Ae<|Ab<|AR<|Ae ⟨_,rfl,k⟩
def zkQ{v:KB}{R:Qqa}(c:s.heap.IsItemsView v d)(g:s.heap.get? d=some o)(dd:o.data=.dict es ep)(k:R (.ref s.heap.objs.size) {s with heap:=s.heap.push {cls:=.type "dict_itemiterator",data:=.fields #[.none,.bool false,.ref d,.int 0 0,.int es.size 0,.int ep 0,.none,.none]} }):
  wpAny (KF prog w) A (pyIter<|.ref v) R E s:=by
 obtain⟨i,a,j,h⟩:=id c;refine wpAny_pyIter_slot c.typeIs F.slot_dict_items_iter<|Bx F.slot_dict_items_iter c.typeIs F.entry_dict_items_iter ?go<|F.args_dict_items_iter_1 _;unfold Builtin.«dict_items.__iter__» GG Gm;refine Ab<|Ae<|Ab<|Ab<|Be a h (x:=.ref d) rfl<|Ae<|Ab<|Ab<|D3 g dd<|Ab<|Ew g dd ?_;have own:Cz "dict_itemiterator"=true:=by decide
 simp only[own,if_true];refine AR (Ae ⟨_,rfl,"dict_itemiterator",_,⟨_,Av _ rfl,rfl⟩,F.slot_dict_itemiterator_next.lookup,?_⟩) (by
  simp only[sizeOk,C7,AA,AI,AB,A2,CL];omega)
 simpa[rawInt,C7]using k
def zkP{c:DictEntry}{R:Option IR->Shared->Prop}(hit:IsItemIter s.heap it d i es.size ep ok ov)(g:s.heap.get? d=some o)(dd:o.data=.dict es ep)(C:es[i]?=some c)(k:∀h',IsItemIterOut h' it d (i+1) es.size ep c.key c.val s.heap.objs.size->h'.get? s.heap.objs.size=some {cls:=.type "tuple",data:=.seq #[c.key,c.val]}->h'.objs.size=s.heap.objs.size+1 ->
   (∀b u,b≠it->s.heap.get? b=some u->h'.get? b=some u)->R (some<|.ref s.heap.objs.size) {s with heap:=h'}):wpAny (KF prog w) A (pyNext<|.ref it) R E s:=by
 obtain⟨a,j,l,m,os⟩:=s;have ty:Shared.TypeIs ⟨a,j,l,m,os⟩ (.ref it) "dict_itemiterator":=⟨_,hit,rfl⟩;have own:Cz "dict_itemiterator"=true:=by decide
 have lt:it<a.objs.size:=An hit;unfold pyNext;refine Ab (Fg<|BB (name:=Bp "__next__") ty F.slot_dict_itemiterator_next<|Bx F.slot_dict_itemiterator_next ty F.entry_dict_itemiterator_next ?_<|F.args_dict_itemiterator_next_1 _);refine Ab<|Ae<|Ab<|Ab ?_;refine Ab<|BJ ty<|Ae<|Ab<|wpAny_fieldsOf hit rfl ?_;simp only[own,if_true];show wpAny _ _ (if(Aw d==AH)=true then _ else _) _ _ _;rw[if_neg (show ¬(Aw d==AH)=true from λz=>A6 z)];refine Ab<|Ae<|Ab<|D3 g dd ?_;rw[if_neg (by simp)];refine Ab<|Ae<|Ab<|Ew g dd ?_;rw[if_neg (by simp)];refine Ae ?_;have G:¬((i:Int)<0):=by omega
 simp only[G,if_false,Ct,C];refine Ab<|Ab<|BJ ty<|Ae<|Ab<|Dg ty ?_;show wpAny _ _ (setField (.ref it) 3 (rawInt<|(i:Int)+1) >>= _) _ _ ⟨a,j,l,m,os⟩;refine Ab<|Cq hit (by simp) λg1 n s1=>?_
 replace s1:Bw it a g1:=s1
 replace n:IsItemIter g1 it d (i+1) es.size ep ok ov:=by
  have cast:((i+1:Nat):Int)=(i:Int)+1:=by omega
  unfold IsItemIter;rw[cast];simpa[rawInt]using n
 have h:Shared.TypeIs ⟨g1,j,l,m,os⟩ (.ref it) "dict_itemiterator":=⟨_,n,rfl⟩;refine Ab<|A7<|Ab<|Dg h<|Ab<|Dg h ?_;show wpAny _ _ (Dj (.ref it) 6 c.key c.val) _ _ ⟨g1,j,l,m,os⟩;unfold Dj;refine Ab<|wpAny_newTuple ?_;have r:IsItemIter (g1.push {cls:=.type "tuple",data:=.seq #[c.key,c.val]}) it d (i+1) es.size ep ok ov:=Ag _ n;have y:g1.objs.size=a.objs.size:=s1.1;generalize H:g1.push {cls:=.type "tuple",data:=.seq #[c.key,c.val]}=g2 at r;have I:g2.get? a.objs.size=some {cls:=.type "tuple",data:=.seq #[c.key,c.val]}:=by rw[<-H,<-y];exact Av _ rfl
 have J:g2.objs.size=a.objs.size+1:=by rw[<-H,B6,y]
 have L:∀b u,b≠it->a.get? b=some u->g2.get? b=some u:=λb u nb q=>by rw[<-H];exact Ag _<|s1.extBut b u nb q
 show wpAny _ _ (C8 (.ref it) >>= _) _ _ ⟨g2,j,l,m,os⟩;rw[y];clear H n s1 h y g1;unfold C8;refine Ab<|Ab<|Be r rfl (x:=.none) rfl<|Ae ?_;simp only[if_true];refine Ab<|Be r rfl (x:=ok) rfl<|Ab<|Be r rfl (x:=ov) rfl<|Ab<|Cq r (by simp) λg3 Q s3=>?_
 replace s3:Bw it g2 g3:=s3
 replace Q:IsItemIter g3 it d (i+1) es.size ep c.key ov:=Q
 refine Ab<|Cq Q (by simp) λW X s4=>?_
 replace s4:Bw it g3 W:=s4
 replace X:IsItemIter W it d (i+1) es.size ep c.key c.val:=X
 refine Ab<|Cq X (by simp) λe f s5=>?_
 replace s5:Bw it W e:=s5
 replace f:IsItemIterOut e it d (i+1) es.size ep c.key c.val a.objs.size:=f
 refine Ab<|Cq f (by simp) λv B K=>?_
 replace K:Bw it e v:=K
 replace B:IsItemIterOut v it d (i+1) es.size ep c.key c.val a.objs.size:=B
 have up:∀b u,b≠it->g2.get? b=some u->v.get? b=some u:=λb u nb q=>K.extBut b u nb<|s5.extBut b u nb<|s4.extBut b u nb<|s3.extBut b u nb q;refine Ab<|wpAny_letGo<|Ae<|Ae ⟨_,rfl,Ae<|k v B (up _ _ (A5 lt) I) ?_ λb u nb q=>up b u nb (L b u nb q)⟩;show v.objs.size=a.objs.size+1;rw[K.1,s5.1,s4.1,s3.1,J]
def zkO{R:Option IR->Shared->Prop}(c:A.handled=none)(hit:IsItemIter s.heap it d i es.size ep ok ov)(g:s.heap.get? d=some o)(dd:o.data=.dict es ep)(e:es[i]?=none)(k:∀h',EK it s.heap h'->R none {s with heap:=h'}):wpAny (KF prog w) A (pyNext<|.ref it) R E s:=by
 have ty:s.TypeIs (.ref it) "dict_itemiterator":=⟨_,hit,rfl⟩;have own:Cz "dict_itemiterator"=true:=by decide
 unfold pyNext;refine Ab (Fg<|BB (name:=Bp "__next__") ty F.slot_dict_itemiterator_next<|Bx F.slot_dict_itemiterator_next ty F.entry_dict_itemiterator_next ?_<|F.args_dict_itemiterator_next_1 _);refine Ab<|Ae<|Ab<|Ab ?_;refine Ab<|BJ ty<|Ae<|Ab<|wpAny_fieldsOf hit rfl ?_;simp only[own,if_true];show wpAny _ _ (if(Aw d==AH)=true then _ else _) _ _ s;rw[if_neg (show ¬(Aw d==AH)=true from λz=>A6 z)];refine Ab<|Ae<|Ab<|D3 g dd ?_;rw[if_neg (by simp)];refine Ab<|Ae<|Ab<|Ew g dd ?_;rw[if_neg (by simp)];refine Ae ?_;have h:¬((i:Int)<0):=by omega
 simp only[h,if_false,Ct,e];refine Ab<|Ab<|BJ ty<|Ae ?_;show wpAny _ _ (setField (.ref it) 2 .none >>= _) _ _ s;refine Ab<|BG hit rfl (by simp) ?_;show wpAny _ _ (newExc (.type "StopIteration") [] >>= _) _ _ _;simp only[newExc,newTuple];refine Ab (Ab<|AR (Ab (m:=firstArgMember _ _)<|wpAny_of_eq (a:=AH) (by first|rfl|(simp only[firstArgMember];rfl))<|AR ?_<|by size_fits)<|by size_fits);simp only[raiseNew];refine Ab<|wpAny_handled ?_;rw[show A.in1.handled=none from c];refine Ab<|Ae<|wpAny_throw ?_;refine Ab (wpAny_isInstance (T:="StopIteration") (b:=true) ⟨_,Av _ rfl,rfl⟩ isSubtype_stop<|Ae ?_);exact k _<|((DF ..).extBut.push _).push _
def Inv.freeze{o:Obj}{u:HO}(I:Inv X qp σ H s)(hd:H d=some u)(g:s.heap.get? d=some o)(e:∀xs,u≠.tup xs)(B:∀x,u≠.own x)(C:∀o w,u≠.frz o w)(F:∀f,u≠.tbl f):Inv X qp σ (upd H d<|.frz o u) s:=by
 have ne:∀{b:KB}{v:HO},H b=some v->v≠u->b≠d:=λ{b v} q a z=>by subst z;rw[hd]at q;exact a (As q).symm
 refine Inv.step (h':=s.heap) (t':=s.toks) (g':=s.gens) (d':=s.drawn) (ch:=[]) I (λ_ z=>nomatch z) (λb v _ _ _ q _=>q) (λb v _ _ _ q _=>⟨v.slots,q⟩) (λb v _ q n=>?_) (λb v _ q=>⟨v,q⟩) (λb xs q=>?_) (λb v w q=>?_) (λb f q=>⟨#[],?_⟩) (λm hm=>hm) (λb v q=>?_) I.bare
 ·have:b≠d:=λz=>by
   rw[z,hd]at n;cases n
  rw[HW this];exact n
 ·rw[HW (ne q λz=>e xs z.symm)];exact q
 ·rw[HW (ne q λz=>C v w z.symm)];exact q
 ·rw[HW (ne q λz=>F f z.symm),q];simp
 ·by_cases hb:b=d
  ·subst hb;rw[KY]at q;cases q;refine⟨g,?_⟩;exact(I.hok b u hd).stay (λc x _ y=>y) (λc y=>by rw[HW (ne y λz=>B b z.symm)];exact y) λc xs y=>by rw[HW (ne y λz=>e xs z.symm)];exact y
  rw[HW hb]at q;exact(I.hok b v q).stay (λc x _ y=>y) (λc y=>by rw[HW (ne y λz=>B b z.symm)];exact y) λc xs y=>by rw[HW (ne y λz=>e xs z.symm)];exact y
def jY(o:Obj)(d:KB):It:=
 ⟨λi H=>∃a p,H d=some (.frz o<|.dT a)/\a[i]?=some p,λi H x g=>∃q b a k v,H q=none/\g=upd H q (.tup [.ref b,v])/\x=.ref q/\H d=some (.frz o<|.dT a)/\a[i]?=some (k,v)/\H b=some (.tup<|k.map kV),
  λi H=>∃a,H d=some (.frz o<|.dT a)/\a.length<=i⟩
variable {ps:List (List Key×V)}
def dR(x:Kx P w H h d (.frz o<|.dT ps))(dd:o.data=.dict es ep):
  h.get? d=some o/\es.size=ps.length/\∀(i:Nat) (k:List Key) (v:V),ps[i]?=some (k,v)->∃(c:DictEntry) (b:KB),es[i]?=some c/\c.key=.ref b/\H b=some (.tup<|k.map kV)/\RelV v c.val:=by
 obtain⟨g,z,y,xs,r,f,E,K,s,ex,a,u,B⟩:=x;rw[g]at s;cases s;rw[dd]at a;cases a;have Q:es.size=ps.length:=by have n:=congrArg De u;have A:=BM r;simp at n;omega
 refine⟨g,Q,λi k v hi=>?_⟩;have get:∀{l:List (List Key×V)} {m:List (List Key×KB×IR)} {i:Nat},Paired (λ(p:List Key×V) (q:List Key×KB×IR)=>p.1=q.1/\H q.2.1=some (.tup<|p.1.map kV)/\RelV p.2 q.2.2) l m->l[i]?=some (k,v)->∃q,m[i]?=some q/\H q.2.1=some (.tup<|k.map kV)/\RelV v q.2.2:=by
  intro l m i q
  induction q generalizing i with
  |nil=>intro e;simp at e
  |cons h t W=>
   cases i with
   |zero=>
    intro e;simp at e;subst e;exact⟨_,rfl,h.2.1,h.2.2⟩
   |succ j=>intro e;exact W<|by simpa using e
 obtain⟨q,X,n,A⟩:=get r hi;have he:es[i]?=some (entryOfKey (tupleKind<|Kh P w) q):=by
  have:es.toList[i]?=some (entryOfKey (tupleKind<|Kh P w) q):=by rw[u,AJ,X];rfl
  simpa using this
 exact⟨_,q.2.1,he,rfl,n,A⟩
variable {elts:List Re}
def zjj{x1}(d it:KB)(dd:o.data=.dict es ep):
  Turn P w K (.Tuple elts x1 pos) (jY o d) [it] it (λi h=>∃ok ov,IsItemIter h it d i es.size ep ok ov) where
 mem:=by simp
 obj:=λi h st b j=>by obtain⟨ok,ov,he⟩:=st;rw[Os.mp j];exact⟨_,he,λv z=>by cases z⟩
 keep:=λi h h' st k=>by obtain⟨ok,ov,he⟩:=st;exact⟨ok,ov,k it (by simp) _ he⟩
 item:=by
  intro X r hw x a i qp s σ H E I hf st y;subst r hw x;obtain⟨ps,⟨k,v⟩,n,A⟩:=y;obtain⟨g,F,ent⟩:=dR (I.hok d _ n) dd;obtain⟨e,b,he,l,j,G⟩:=ent i k v A;obtain⟨ok,ov,hi⟩:=st;refine zkP hi g dd he λJ L t1 T k1=>?_;refine⟨_,rfl,wpAny_letOwnedTupleGo_items (s:={s with heap:=J}) L λQ f B=>?_⟩;have m:it≠s.heap.objs.size:=Au<|An hi;have M:∀c u,c ∉ [it]->s.heap.get? c=some u->Q.get? c=some u:=λc u a q=>by have C:c≠it:=λz=>a (by simp[z]);exact(B.2 c C).trans<|k1 c u C q
  have N:Q.get? s.heap.objs.size=some {cls:=.type "tuple",data:=.seq #[.ref b,e.val]}:=by rw[l]at t1;exact(B.2 _ m.symm).trans t1
  refine⟨.ref s.heap.objs.size,upd H s.heap.objs.size<|.tup [.ref b,v],?_,rfl,⟨_,b,ps,k,v,I.hok.fresh<|Ai _,rfl,rfl,n,A,j⟩,⟨_,_,f⟩,λc a=>?_⟩
  ·exact Inv.turnNew (s:=s) (h':=Q) (t':=s.toks) I hf M (Ai _) (λc a ob q=>by rw[Os.mp a];exact⟨_,f⟩) ⟨by show 2<=sizeLine;decide,[.ref b,e.val],.cons rfl<|.cons G .nil,⟨_,N,rfl,rfl,_,rfl⟩⟩
  rw[Os.mp a,HW m];exact(hf it<|by simp).1
 done:=by intro X r hw x a i qp s σ H E I hf st y;subst r hw x;obtain⟨ps,n,A⟩:=y;obtain⟨g,F,_⟩:=dR (I.hok d _ n) dd;obtain⟨ok,ov,hi⟩:=st;exact zkO (I.ok.hd a) hi g dd (by simp;omega) λh' S=>⟨rfl,Inv.turnAll (t':=s.toks) I hf λb o j q=>S b o (λz=>j (by simp[z])) q⟩
 self:=λ_ _ _ _ _ st h=>by obtain⟨ok,ov,hi⟩:=st;exact PySem.W.kcp_self hi h
section
variable {m:ME}
def Ux:Key->D
 |.inl i=>.int i
 |.inr x=>.str x
def Ni(kvs:List (List Key×D)):List D:=kvs.map λp=>.tup [.tup (p.1.map Ux),p.2]
def Ya:∀(ks:List Key),Hl K H io (ks.map kV) (ks.map Ux)
 |[]=>rfl
 |.inl i::r=>⟨_,_,rfl,rfl,Ya r⟩
 |.inr x::r=>⟨_,_,rfl,rfl,Ya r⟩
def SJ:D->Hg->Option (Wk×Hg)
 |.ref n,s=>match s[n]? with
  |some (.dt kvs)=>some (⟨Ni kvs,[]⟩,s.set n (.ft kvs))
  |_=>none
 |_,_=>none
def W2(m:ME):MI:=λρ st=>(m ρ st).bind λ(d,s)=>SJ d s
def nL{p:KB}{kvs:List (List Key×D)}(S:Hw K H io st)(N:io[n]?=some p)(c:H p=some (.frz o<|.dT ps))(r:KR (List Key) K H io ps kvs):MR K H io ⟨Ni kvs,[]⟩ (jY o p) where
 go:= λi d H1 g s hd X1 A Q=>by
  have W:=X1.frz _ _ _ c;have G:=KR.mono (ka:=g) (X1.kp S) r;have hd:(Ni kvs)[i]?=some d:=hd;unfold Ni at hd;rw[AJ]at hd;obtain⟨⟨k,y⟩,hk,rfl⟩:=IL hd;have get:∀{l:List (List Key×V)} {m:List (List Key×D)} {i:Nat},KR (List Key) K H1 (io++g) l m->m[i]?=some (k,y)->∃v,l[i]?=some (k,v)/\Rep K H1 (io++g) v y:=by
   intro l m i q
   induction q generalizing i with
   |nil=>intro e;simp at e
   |@cons a b _ _ h t I=>
    cases i with
    |zero=>
     intro e;simp at e;subst e;obtain⟨a1,a2⟩:=a;have z:a1=k:=h.1;subst z;exact⟨a2,rfl,h.2⟩
    |succ j=>intro e;exact I<|by simpa using e
  obtain⟨v,X,J⟩:=get G hk;refine⟨⟨ps,_,W,X⟩,λx T L=>?_⟩;obtain⟨q,b,M,U,Y,f,rfl,rfl,u,w,B⟩:=L;rw[W]at u;cases u;rw[X]at w;cases w;obtain⟨E,C⟩:=Vl (o:=.tup [.ref b,v]) A f;rw[Am]at C;refine⟨E,C,⟨q,_,rfl,KY,?_⟩⟩;have F:=J.ext A E;rw[Am]at F;refine Hl.cons ⟨b,_,rfl,?_,Ya k⟩<|Hl.cons F Hl.nil;rw[HW (Ka B f)];exact B
 stop:=λH1 g s X1 A Q=>⟨ps,X1.frz _ _ _ c,by show ps.length<=(Ni kvs).length;unfold Ni;rw[Ah,KR.length r];exact Ai _⟩
 stop':=λH1 g s i hi X1 A Q=>⟨ps,X1.frz _ _ _ c,by have hi:(Ni kvs).length<=i:=hi;unfold Ni at hi;rw[Ah,<-KR.length r]at hi;exact hi⟩
def xW{x1}{C:Pos}{o:Re}{apos cpos:Pos}(G:SE X o m)(c:attributeBase o "items" X.env (eval o X.env)=eval o X.env:=by rfl)(f:(apos.endLine==cpos.line)=true:=by rfl):
  SI X (.Tuple elts x1 C) (.Call (.Attribute o "items" apos) [] [] cpos) (W2 m):=by
 rintro qp s σ H R I ⟨ρ,st,io,W,st',E,S,e,k⟩;obtain⟨⟨d,s1⟩,L,e⟩:=Ht e;cases d with
 |ref n=>
  unfold SJ at e;dsimp only at e;split at e
  ·rename_i j A;cases e;refine wpAny_Call_method0_late c f<|HB (G qp s σ H (λv a=>∃ka,Ext io ka H a/\Hw X.K a (io++ka) s1/\Rep X.K a (io++ka) v (.ref n)) I ⟨ρ,st,io,_,s1,E,S,L,λv1 H1 h X1 S1 l=>⟨h,X1,S1,l⟩⟩) ?_;rintro v s2 ⟨x,H1,I1,M,h,X1,S1,l⟩;obtain⟨p,rfl,w⟩:=l;cases M;obtain⟨ps,i,r⟩:=S1.ob n p _ w A;obtain⟨t1,N,U⟩:=nK I1<|.inr ⟨ps,.inl i⟩;refine⟨"dict","dict.items",PySem.F.plainAttrs_dict,Ep,PySem.F.type_dict_items,t1,N,EH rfl<|PySem.evalArgs_none<|zkN (o:=default) t1 U ?_⟩;obtain⟨_,_,xs,_,o,es,ep,g,_,Q,_,_⟩:=I1.hok p _ i;refine zkQ (o:=o) (es:=es) (ep:=ep) ⟨_,Av _ rfl,rfl,rfl⟩ (Ag _ g) Q ?_;have J:=I1.kept (t':=s2.toks) (h':=(s2.heap.push {cls:=.type "dict_items",data:=.fields #[.ref p]}).push {cls:=.type "dict_itemiterator",data:=.fields #[.none,.bool false,.ref p,.int 0 0,.int es.size 0,.int ep 0,.none,.none]}) λb u q=>Ag _<|Ag _ q;have Y:=Inv.freeze J i (Ag _<|Ag _ g) (by simp) (by simp) (by simp) (by simp);obtain⟨X2,B⟩:=To (o:=.frz o (.dT ps)) (ob:=.ft j) S1 w A (λo u z=>by rw[i]at z;cases z) λa T Z=>⟨o,ps,Z,KR.mono T r⟩
   have big:s2.heap.objs.size<=(s2.heap.push {cls:=.type "dict_items",data:=.fields #[.ref p]}).objs.size:=by rw[B6];exact Bf _
   refine⟨_,[_],_,_,_,rfl,Y,zjj p _ Q,⟨_,_,Av _ rfl⟩,λb hb=>?_,?_⟩
   ·rw[Os.mp hb];refine I1.fpOk big ?_;rw[HW (A3<|Au<|Ay (An g) big)];exact I1.hok.fresh big
   ·have y:((io++h)++[])[n]?=some p:=by rw[Am];exact w
    have r2:=KR.mono (ka:=[]) (X2.kp S1) r;have ok:=nL B y KY r2;refine k _ _ (h++[]) (X1.trans S1 X2) (by rw[<-Aq];exact B) (by rw[<-Aq];exact ok)
  ·cases e
 |_=>cases e
end
inductive Sr where
 |l (a:KB)|t (a:KB)
def Sr.ad:Sr->KB
 |.l a=>a
 |.t a=>a
def Sr.ob:Sr->Obj
 |.l a=>{cls:=.type "list_iterator",data:=.fields #[.ref a,.int 0 0]}
 |.t a=>{cls:=.type "tuple_iterator",data:=.fields #[.ref a,.int 0 0]}
def Sr.is(h:Pv)(xs:Array IR):Sr->Prop
 |.l a=>h.IsList a xs
 |.t a=>IsTup h a xs
def Sr.at_(h:Pv)(i:KB)(k:Nat):Sr->Prop
 |.l a=>h.IsListIter i a k
 |.t a=>IsTupIter h i a k
variable {x:Sr}
def Sr.is_keep{xs:Array IR}(q:x.is h xs)(k:∀u,h.get? x.ad=some u->h'.get? x.ad=some u):x.is h' xs:=by
 cases x with
 |l a=>exact EW q k
 |t a=>obtain⟨o,g,c⟩:=q;exact⟨o,k o g,c⟩
def Sr.at_keep{i:KB}(q:x.at_ h i n)(k:∀u,h.get? i=some u->h'.get? i=some u):x.at_ h' i n:=by
 cases x with
 |l a=>exact FC q k
 |t a=>obtain⟨o,g,c⟩:=q;exact⟨o,k o g,c⟩
def Sr.at_get{i:KB}(q:x.at_ h i n):∃o e,h.get? i=some o/\o.data=.fields e:=by
 cases x with
 |l a=>obtain⟨o,g,c,d⟩:=q;exact⟨o,_,g,d⟩
 |t a=>obtain⟨o,g,c,d⟩:=q;exact⟨o,_,g,d⟩
def Sr.iter{xs:Array IR}{R:Qqa}(h:x.is s.heap xs)(k:R (.ref s.heap.objs.size) {s with heap:=s.heap.push x.ob}):wpAny (KF prog w) A (pyIter<|.ref x.ad) R E s:=by
 cases x with
 |l a=>exact DY h k
 |t a=>exact iter_tuple h k
def zkg{xs:Array IR}{R:Qqa}(hit:IsTupIter s.heap it a i)(c:IsTup s.heap a xs)(e:xs[i]?=some v)(k:∀h',IsTupIter h' it a (i+1)->Bw it s.heap h'->R v {s with heap:=h'}):wpAny (KF prog w) A (Bv<|.ref it) R E s:=by
 obtain⟨m,h,rc,g⟩:=id hit;obtain⟨to,j,_,n,l⟩:=c;unfold Bv;refine Ab (BB (name:=Bp "__next__") hit.typeIs CO<|Bx CO hit.typeIs Fd ?_<|Fp _);show wpAny _ _ (field (.ref it) 0 >>= _) _ _ s;refine Ab<|Be h g (x:=.ref a) rfl ?_;show wpAny _ _ (if(Aw a==AH)=true then _ else _) _ _ s;rw[if_neg (show ¬(Aw a==AH)=true from λz=>A6 z)];show wpAny _ _ (field (.ref it) 1 >>= _) _ _ s;refine Ab<|Be h g (x:=.int i 0) rfl ?_;show wpAny _ _ (seqItems? (.ref a) >>= _) _ _ s;refine Ab<|wpAny_seqItems j l ?_;simp only[Ct,e];refine Ab<|BG h g (by simp)<|Ae ⟨v,rfl,Ae<|k _ ⟨_,Bb _ h<|Bm<|BH g _,(Obj.cls_mapFields ..).trans rc,?_⟩<|DF ..⟩;rw[BH g];simp[rawInt]
def zgo{xs:Array IR}{R:Qqa}(c:A.handled=none)(hit:IsTupIter s.heap it a i)(f:IsTup s.heap a xs)(q:xs[i]?=none)(k:∀h' e,EK it s.heap h'->(∃o,h'.get? e=some o/\o.cls=.type "StopIteration")->E (.ref e) {s with heap:=h'}):wpAny (KF prog w) A (Bv<|.ref it) R E s:=by
 obtain⟨n,g,rc,h⟩:=id hit;obtain⟨to,j,_,r,l⟩:=f;unfold Bv;refine Ab (BB (name:=Bp "__next__") hit.typeIs CO<|Bx CO hit.typeIs Fd ?_<|Fp _);show wpAny _ _ (field (.ref it) 0 >>= _) _ _ s;refine Ab<|Be g h (x:=.ref a) rfl ?_;show wpAny _ _ (if(Aw a==AH)=true then _ else _) _ _ s;rw[if_neg (show ¬(Aw a==AH)=true from λz=>A6 z)];show wpAny _ _ (field (.ref it) 1 >>= _) _ _ s;refine Ab<|Be g h (x:=.int i 0) rfl ?_;show wpAny _ _ (seqItems? (.ref a) >>= _) _ _ s;refine Ab<|wpAny_seqItems j l ?_;simp only[Ct,q];refine Ab<|Dt<|Ab<|BG g h (by simp) ?_;show wpAny _ _ (newExc (.type "StopIteration") [] >>= _) _ _ _;simp only[newExc,newTuple];refine Ab (Ab<|AR (Ab (m:=firstArgMember _ _)<|wpAny_of_eq (a:=AH) (by first|rfl|(simp only[firstArgMember];rfl))<|AR ?_<|by size_fits)<|by size_fits);simp only[raiseNew];refine Ab<|wpAny_handled ?_
 first|rw[show A.in1.handled=none from c]|rw[c]
 refine Ab<|Ae<|wpAny_throw ?_;exact k _ _ (((DF ..).extBut.push _).push _) ⟨_,Av _ rfl,rfl⟩
def Sr.next{xs:Array IR}{R:Qqa}(hit:x.at_ s.heap it i)(h:x.is s.heap xs)(c:xs[i]?=some v)(k:∀h',x.at_ h' it (i+1)->Bw it s.heap h'->R v {s with heap:=h'}):
  wpAny (KF prog w) A (Bv<|.ref it) R E s:=by
 cases x with
 |l a=>exact wpAny_nextOf_list_item hit h c k
 |t a=>exact zkg hit h c k
def Sr.stop{xs:Array IR}{R:Qqa}(c:A.handled=none)(hit:x.at_ s.heap it i)(h:x.is s.heap xs)(f:xs[i]?=none)(k:∀h' e,EK it s.heap h'->(∃o,h'.get? e=some o/\o.cls=.type "StopIteration")->E (.ref e) {s with heap:=h'}):wpAny (KF prog w) A (Bv<|.ref it) R E s:=by
 cases x with
 |l a=>exact wpAny_nextOf_list_end c hit h f k
 |t a=>exact zgo c hit h f k
def Sr.at_new{i:KB}(g:h.get? i=some x.ob):x.at_ h i 0:=by
 cases x with
 |l a=>exact⟨_,g,rfl,rfl⟩
 |t a=>exact⟨_,g,rfl,rfl⟩
def Sr.sq(H:Hp)(xs:List V):Sr->Prop
 |.l a=>H a=some (.lst xs)\/∃o,H a=some (.frz o<|.lst xs)
 |.t a=>H a=some (.tup xs)
def Sr.sq_ne{b:KB}(h:x.sq H xs)(c:H b=none):x.ad≠b:=by
 cases x with
 |l a=>rcases h with h|⟨o,h⟩<;>exact Ka h c
 |t a=>exact Ka (show H a=some (.tup xs) from h) c
def Sr.sq_inj{c:List V}(h:x.sq H xs)(h':x.sq H c):xs=c:=by
 cases x with
 |l a=>rcases h with h|⟨o,h⟩<;>rcases h' with h'|⟨g,h'⟩<;>rw[h]at h'<;>cases h'<;>rfl
 |t a=>
  have h:H a=some (.tup xs):=h;have h':H a=some (.tup c):=h';rw[h]at h';cases h';rfl
def Sr.sq_is(I:Inv X qp σ H s)(h:x.sq H xs):∃its:List IR,Vals xs its/\x.is s.heap its.toArray:=by
 cases x with
 |l a=>
  obtain⟨its,g,p,_⟩:=I.list (show Kc X.K H a xs from .inl h);exact⟨its,g,p.isList⟩
 |t a=>
  obtain⟨its,g,p,_⟩:=I.tuple<|Je.of (K:=X.K) h;exact⟨its,g,p⟩
def QX(s:Hg):D->Option (List D×List (Nat×List D))
 |.ref n=>(Iw s n).map λds=>(ds,[(n,ds)])
 |.tup ds=>some (ds,[])
 |_=>none
def uG{d:D}{v:V}{ds:List D}{g:List (Nat×List D)}(S:Hw K H io st)(R:Rep K H io v d)(h:QX st d=some (ds,g)):∃x:Sr,v=.ref x.ad/\(∃xs,x.sq H xs) /\
  ∀H1 ka s1,Ext io ka H H1->Hw K H1 (io++ka) s1->(∀p,p∈g->s1[p.1]?=some (.lst p.2)\/s1[p.1]?=some (.fz p.2))->∃xs,x.sq H1 xs/\Hl K H1 (io++ka) xs ds:=by
 cases d with
 |ref n=>
  obtain⟨l,e,q⟩:=IL h;cases q;obtain⟨p,rfl,a⟩:=R;refine⟨.l p,rfl,?_,λH1 ka s1 X1 S1 j=>?_⟩
  ·unfold Iw at e
   split at e
   ·rename_i o he;cases e;obtain⟨xs,q,_⟩:=S.ob n p _ a he;exact⟨xs,.inl q⟩
   ·rename_i o he;cases e;obtain⟨ob,xs,q,_⟩:=S.ob n p _ a he;exact⟨xs,.inr ⟨ob,q⟩⟩
   ·cases e
  ·rcases j (n,ds) Al with q|q
   ·obtain⟨xs,i,r⟩:=S1.ob n p _ (QS a) q;exact⟨xs,.inl i,r⟩
   obtain⟨ob,xs,i,r⟩:=S1.ob n p _ (QS a) q;exact⟨xs,.inr ⟨ob,i⟩,r⟩
 |tup ts=>
  cases h;obtain⟨p,xs,rfl,a,r⟩:=R;exact⟨.t p,rfl,⟨xs,a⟩,λH1 ka s1 X1 S1 _=>⟨xs,X1.sqT S p xs a,r.ext S X1⟩⟩
 |_=>cases h
def NA(X:Cx)(fs:List Str):List Nat->List Str->Prop
 |[],[]=>True
 |j::c,x::xs=>(X.N[j]?=some x/\x∈fs)/\NA X fs c xs
 |_,_=>False
def Ny(X:Cx):List Str->Prop
 |[]=>True
 |x::xs=>(X.env.kindOf x=some .cell\/X.env.kindOf x=some .free)/\Ny X xs
def Ny.get{X:Cx}:∀{fs:List Str}{x:Str},Ny X fs->x∈fs->X.env.kindOf x=some .cell\/X.env.kindOf x=some .free
 |[],_,_,m=>nomatch m
 |y::c,x,h,m=>by
  rcases On.mp m with rfl|m
  ·exact h.1
  exact Ny.get h.2 m
def NA.get{X:Cx}{fs:List Str}:∀{fr:List Nat}{xs:List Str}{i j:Nat}{x:Str},NA X fs fr xs->fr[i]?=some j->xs[i]?=some x->X.N[j]?=some x/\x∈fs
 |[],[],i,j,x,_,h,_=>by simp at h
 |[],_::_,i,j,x,h,_,_=>h.elim
 |_::_,[],i,j,x,h,_,_=>h.elim
 |k::ks,y::f,0,j,x,h,c,e=>by simp at c e;subst c e;exact h.1
 |k::ks,y::f,i+1,j,x,h,c,e=>NA.get (i:=i) h.2 (by simpa using c)<|by simpa using e
def RR{scope:Scope}{N':List Str}{nt:Nat}{fr:List Nat}(fs:List Str)(kind:scope.kind=.function)(e:(scope.names.map (·.1)).Nodup)(hf:scope.names.all (λp=>!(p.2==AK) || fs.contains p.1)=true)(f:fs.all (λx=>scope.names.contains (x,AK))=true) (len:N'.length=nt+fr.length) (c:NA X fs fr (N'.drop nt)) (out:Ny X fs):Kf X scope N' nt fr:=by
 refine⟨kind,e,len,λi j x h l=>?_,λx m=>?_⟩
 ·have g:(N'.drop nt)[i]?=some x:=by rw[List.getElem?_drop];exact l
  obtain⟨a,b⟩:=c.get h g;refine⟨a,?_⟩;have:=List.all_eq_true.mp f x b;simpa using this
 ·have:=List.all_eq_true.mp hf _ m;have hm:x∈fs:=by simpa using this
  exact out.get hm
def JF:bootBuiltins "len"=some (.builtin "len"):=by decide +kernel
def oP:bootBuiltins "abs"=some (.builtin "abs"):=by decide +kernel
def oQ:bootBuiltins "max"=some (.builtin "max"):=by decide +kernel
def oR:bootBuiltins "min"=some (.builtin "min"):=by decide +kernel
def fE:bootBuiltins "sorted"=some (.builtin "sorted"):=by decide +kernel
def SN:bootBuiltins "all"=some (.builtin "all"):=by decide +kernel
def Qv:bootBuiltins "int"=some (.type "int"):=by decide +kernel
def sO:bootBuiltins "bool"=some (.type "bool"):=by decide +kernel
def NH:bootBuiltins "str"=some (.type "str"):=by decide +kernel
def Pq:bootBuiltins "tuple"=some (.type "tuple"):=by decide +kernel
def sP:bootBuiltins "dict"=some (.type "dict"):=by decide +kernel
def HZ:G2:=JG KD Pb
def NL:Jq X (binaryOp .Mult) HZ:=Pn uP yR
def bJ{K:Ac}{H:Hp}{io:List KB}:∀(ns:List Int),Hl K H io (ns.map V.int) (ns.map D.int)
 |[]=>rfl
 |n::ns=>⟨_,_,rfl,rfl,bJ ns⟩
def zU{ns:List Int}{E:XK}(c:Oo H)(f:Kc K H a (ns.map V.int))(e:g [.kl (ns.map D.int)] []=some (.bl true,st)):Qk K 1 g [.ref a] H (λv _=>v=.bl true) E:=by
 have i:Rg K H a (ns.map V.int):=by
  rcases f with(h|h)|h
  ·rcases c a with z|⟨o,xs,z⟩
   ·rw[z]at h;cases h
   rw[z]at h;cases h
  ·exact .inl h
  exact .inr h
 refine⟨_,[],[],_,_,rfl,Hl.cons (show Rep K H [] (.ref a) (.kl<|ns.map D.int) from⟨a,_,rfl,i,bJ ns⟩) Hl.nil,⟨rfl,Gu,λn b o h=>by simp at h⟩,e,λv l ka m r j=>j⟩
end L2.MP
namespace L2.MP
open PySem
structure Gr(st st':Hg):Prop where
 len:st.length<=st'.length
 old:∀k,k<st.length->st'[k]?=st[k]?
structure Fr(n:Nat)(st st':Hg):Prop where
 len:st.length<=st'.length
 old:∀k,k<st.length->k≠n->st'[k]?=st[k]?
def Gr.refl(st:Hg):Gr st st:=⟨Ai _,λ_ _=>rfl⟩
def Fr.refl(n:Nat)(st:Hg):Fr n st st:=⟨Ai _,λ_ _ _=>rfl⟩
def Gr.fr{st st':Hg}(h:Gr st st')(n:Nat):Fr n st st':=⟨h.len,λk hk _=>h.old k hk⟩
variable {a b c:Hg}
def Gr.trans{a b c:Hg}(h:Gr a b)(h':Gr b c):Gr a c:=⟨Ar h.len h'.len,λk hk=>(h'.old k<|Ay hk h.len).trans (h.old k hk)⟩
variable {n:Nat}
def Fr.trans{n:Nat}{a b c:Hg}(h:Fr n a b)(h':Fr n b c):Fr n a c:=⟨Ar h.len h'.len,λk hk l=>(h'.old k (Ay hk h.len) l).trans (h.old k hk l)⟩
def Gr.app(st:Hg)(l:List O):Gr st (st++l):=⟨by simp,λk hk=>AL hk⟩
def Fr.app(n:Nat)(st:Hg)(l:List O):Fr n st (st++l):=(Gr.app st l).fr n
def Fr.set(n:Nat)(st:Hg)(o:O):Fr n st (st.set n o):=⟨by simp,λk _ hk=>by rw[AG (λh=>hk h.symm)]⟩
variable {α:Type}
def qax{l:List α}{x:α}(h:l[n]?=some x):n<l.length:=(KM.mp h).1
def II(st:Hg)(o:O):(st++[o])[st.length]?=some o:=getElem?_len st o
variable {W:Wk}{g:MG}
def QE{W:Wk}{g:MG}{m:MS}:∀{ds:List D}{Inv:Nat->HX->Hg->Prop}{ρ:HX}{st:Hg},Inv 0 ρ st->(∀k ρ s,k<=ds.length->Inv k ρ s->walked W s=true) ->
  (∀k d ρ s,ds[k]?=some d->Inv k ρ s->∃ρ1 s1 ρ2 s2,g d ρ s=some (ρ1,s1)/\m ρ1 s1=some (.nx ρ2,s2)/\Inv (k+1) ρ2 s2)->∃ρ' s',Lq W g m ds ρ st=some (.nx ρ',s')/\Inv ds.length ρ' s'
 |[],Inv,ρ,st,h0,f,step=>⟨ρ,st,by unfold Lq;rw[if_pos (f 0 ρ st (Ai _) h0)],h0⟩
 |d::ds,Inv,ρ,st,h0,f,step=>by obtain⟨ρ1,s1,ρ2,s2,i,j,q⟩:=step 0 d ρ st rfl h0;obtain⟨ρ',s',e,h⟩:=QE (W:=W) (g:=g) (m:=m) (ds:=ds) (Inv:=λk=>Inv (k+1)) q (λk ρ s hk h=>f (k+1) ρ s (Di hk) h) λk d ρ s hd h=>step (k+1) d ρ s (by simpa using hd) h;refine⟨ρ',s',?_,h⟩;unfold Lq;rw[if_pos (f 0 ρ st (Bo _) h0),i];simp only[Aa,j];exact e
variable {m:ME}
def Rv{W:Wk}{g:MG}{c:MT}{m:ME}:∀{ds:List D}{Inv:Nat->List D->HX->Hg->Prop}{acc:List D}{ρ:HX}{st:Hg},Inv 0 acc ρ st->(∀k a ρ s,k<=ds.length->Inv k a ρ s->walked W s=true) ->
  (∀k d a ρ s,ds[k]?=some d->Inv k a ρ s->∃ρ1 s1 b s2,g d ρ s=some (ρ1,s1)/\c ρ1 s1=some (b,s2)/\((b=true/\∃x s3,m ρ1 s2=some (x,s3)/\Inv (k+1) (a++[x]) ρ1 s3)\/(b=false/\Inv (k+1) a ρ1 s2))) ->
  ∃xs ρ' s',Kq W g c m ds ρ st=some (xs,s')/\Inv ds.length (acc++xs) ρ' s'
 |[],Inv,acc,ρ,st,h0,f,step=>⟨[],ρ,st,by unfold Kq;rw[if_pos (f 0 acc ρ st (Ai _) h0)],by rw[Am];exact h0⟩
 |d::ds,Inv,acc,ρ,st,h0,f,step=>by
  obtain⟨ρ1,s1,b,s2,j,q,i⟩:=step 0 d acc ρ st rfl h0;have l:∀k a ρ s,k<=ds.length->Inv (k+1) a ρ s->walked W s=true:=λk a ρ s hk h=>f (k+1) a ρ s (Di hk) h;have st':∀k d a ρ s,ds[k]?=some d->Inv (k+1) a ρ s->∃ρ1 s1 b s2,g d ρ s=some (ρ1,s1)/\c ρ1 s1=some (b,s2)/\((b=true/\∃x s3,m ρ1 s2=some (x,s3)/\Inv (k+1+1) (a++[x]) ρ1 s3)\/(b=false/\Inv (k+1+1) a ρ1 s2)):=λk d a ρ s hd h=>step (k+1) d a ρ s (by simpa using hd) h
  rcases i with⟨rfl,x,s3,n,i⟩|⟨rfl,i⟩
  ·obtain⟨xs,ρ',s',e,h⟩:=Rv (W:=W) (g:=g) (c:=c) (m:=m) (ds:=ds) (Inv:=λk=>Inv (k+1)) i l st';refine⟨x::xs,ρ',s',?_,by simpa using h⟩;unfold Kq;rw[if_pos (f 0 acc ρ st (Bo _) h0),j];simp only[Aa,q,if_true,n,e,Ak]
  obtain⟨xs,ρ',s',e,h⟩:=Rv (W:=W) (g:=g) (c:=c) (m:=m) (ds:=ds) (Inv:=λk=>Inv (k+1)) i l st';refine⟨xs,ρ',s',?_,h⟩;unfold Kq;rw[if_pos (f 0 acc ρ st (Bo _) h0),j];simp only[Aa,q,AM,if_false,e]
def Qw{W:Wk}{g:MG}{c:MT}{m:ME}{α:Type}{f h:α->D}{R:HX->Prop}:∀{as:List α}{ρ:HX}{st:Hg},R ρ->walked W st=true->(∀a∈as,∀ρ,R ρ->∃ρ1,g (f a) ρ st=some (ρ1,st)/\c ρ1 st=some (true,st)/\m ρ1 st=some (h a,st)/\R ρ1) ->
  Kq W g c m (as.map f) ρ st=some (as.map h,st)
 |[],ρ,st,r,i,_=>by unfold Kq;rw[B8];simp only[i,if_true,B8]
 |a::as,ρ,st,r,i,j=>by obtain⟨ρ1,q,z,B,C⟩:=j a Al ρ r;have e:=Qw (W:=W) (g:=g) (c:=c) (m:=m) (f:=f) (h:=h) (R:=R) (as:=as) C i λb l=>j b<|Aj _ l;rw[Ax];unfold Kq;rw[if_pos i,q];simp only[Aa,z,if_true,B,e,Ak,Ax]
def R8{ds xs:List D}{s:Hg}(h:s[n]?=some (.lst xs)):walked ⟨ds,[(n,xs)]⟩ s=true:=by unfold walked;simp only[List.all_cons,List.all_nil,Bool.and_true];exact zkU h
def Ku(h:n<=10000):fits n=true:=by unfold fits;exact decide_eq_true<|Ar h<|by decide
end L2.MP
namespace L2.MP
@[simp] theorem JH{α:Type}(x:α)(y:Option α):NN (some x) y=some x:=rfl
@[simp] theorem Kz{α:Type}(y:Option α):NN none y=y:=rfl
end L2.MP
namespace L2.MP.Hn
open PySem L2.MP
def iR:MS:=mS (Hm (mK<|.int 0)<|Hq 2)<|mS (HS (mT<|mB Iv (mV 1)<|Hi Ho<|Hc (mV 0)<|mZ) (Hm (mB Hr (mV 0)<|mV 1)<|Hq 2)<|Ia)<|mS (Hm (mB Hh (mB HZ (mK<|.int 2)<|mB KG (Hi Oj<|Hc (mV 2)<|mZ)<|mB Lw (mB Lw (mK<|.int 10)<|mK<|.int 60)<|mK<|.int 15)<|Hi HV<|Hc (mB Iv (mV 2)<|mK<|.int 0)<|mZ)<|Hq 3)<|mS (Hm (mB KG (mV 3)<|mK<|.int 18446744073709551557)<|Hq 4)<|mS (Hm (mB KG (mB Hh (mB Hh (mB HZ (mV 4)<|mK<|.int 6364136223846793005)<|mB HZ (mK<|.int 97)<|mV 1)<|mK<|.int 3)<|mK<|.int 18446744073709551616)<|Hq 5)<|mR<|mL<|Hc (mB HZ (mV 3)<|Hi HV<|Hc (mB JW (mV 3)<|mB HZ (mK<|.int 2)<|mB Lw (mK<|.int 10)<|mK<|.int 18)<|mZ)<|Hc (mV 5)<|mZ
def Yy:GN:=IX 6 iR
def YH:MS:=mS (HS (mT<|mB Jg (mB Hr (mV 0)<|mK<|.int 0)<|mK<|.int 0) (mS (Hm (mB KG (mB Hr (mV 0)<|mK<|.int 0)<|mV 1)<|Hq 2)<|mS (My (mV 0) (mK<|.int 0)<|mB RB (mB Hr (mV 0)<|mK<|.int 0)<|mV 1)<|mR<|mV 2)<|Ia)<|mS (My (mV 0) (mK<|.int 1)<|mB KG (mB Hh (mB HZ (mB Hr (mV 0)<|mK<|.int 1)<|mK<|.int 6364136223846793005)<|mK<|.int 1442695040888963407)<|mK<|.int 18446744073709551616)<|mR<|mB RB (mB HZ (mB RB (mB Hr (mV 0)<|mK<|.int 1)<|mK<|.int 4294967296)<|mV 1)<|mK<|.int 4294967296
def Js:GN:=IX 3 YH
def gF:MS:=mR<|mB Hr (mV 1)<|Hi Js<|Hc (mV 0)<|Hc (Hi Ho<|Hc (mV 1)<|mZ)<|mZ
def KO:GN:=IX 2 gF
def T4:ME:=mB Hr (mV 1)<|Hi Js<|Hc (mV 2)<|Hc (mK<|.int 26)<|mZ
def We:MS:=mS (Hm (Hi Js<|Hc (mV 0)<|Hc (mK<|.int 4)<|mZ)<|Hq 5) (mS (Hm (Mf (mK<|.str "")<|Hc (Jk (NO<|Hi KO<|Hc (mV 0)<|Hc (mL<|Hc (mK<|.int 1)<|Hc (mK<|.int 1)<|Hc (mK<|.int 2)<|Hc (mK<|.int 3)<|Hc (mK<|.int 8)<|mZ)<|mZ) 1 [2,0] (Hq 0) IJ<|T4)<|mZ)<|Hq 6)<|mS (HS (JY (mT<|mB IP (mV 3)<|mL<|mZ)<|mT<|mB Il (mV 5)<|mK<|.int 1) (Hm (Lx (mB Hh (Hi KO<|Hc (mV 0)<|Hc (mV 3)<|mZ)<|mV 6) IS<|Iq<|mK<|.int 8)<|Hq 6)<|Ia)<|mS (HS (JY (mT<|mB IP (mV 3)<|mL<|mZ)<|mT<|mB Il (mV 5)<|mK<|.int 2) (Hm (mB Hh (Lx (Hi KO<|Hc (mV 0)<|Hc (mV 3)<|mZ) IS<|Iq<|Ko<|mK<|.int 1)<|Lx (mV 6) IS<|Iq<|mK<|.int 1)<|Hq 6)<|Ia)<|HS (JY (mT<|mB Iv (Hi Ho<|Hc (mV 3)<|mZ)<|mV 1)<|mT<|mB QA (mV 6)<|mV 3) (Lf<|Lh (mV 3)<|Hc (mV 6)<|mZ)<|Ia)
def iU:MS:=mS (Hm (mK<|.str "abcdefghijklmnopqrstuvwxyz")<|Hq 2) (mS (Hm (mL<|mZ)<|Hq 3)<|mS (mF (NO<|mB HZ (mK<|.int 2)<|mV 1) (Hq 4)<|We)<|mR<|mV 3)
def VU:GN:=IX 7 iU
def V6:ME:=mU<|Hc (mV 0)<|Hc (mB Hh (mK<|.int 1)<|Hi Js<|Hc (mV 1)<|Hc (Hi KO<|Hc (mV 1)<|Hc (mL<|Hc (mK<|.int 1)<|Hc (mK<|.int 2)<|Hc (mK<|.int 4)<|mZ)<|mZ)<|mZ)<|mZ
def Sd:ME:=Hi KO<|Hc (mV 1)<|Hc (mV 2)<|mZ
def Wb:MS:=mS (Hm (mB HZ (mB Hr (mV 4)<|Hi Js<|Hc (mV 0)<|Hc (mK<|.int 36)<|mZ)<|Hi HV<|Hc (mB Jg (Hi Js<|Hc (mV 0)<|Hc (mK<|.int 4)<|mZ)<|mK<|.int 0)<|mZ)<|Hq 8)<|mS (Hm (mB Hh (mU<|Hc (mV 8)<|mZ)<|Hi Mr<|Hc (Jk (NO<|mK<|.int 4) 1 [0,5] (Hq 0) IJ<|Sd)<|mZ)<|Hq 9)<|mS (HS (JY (mT<|mB IP (mV 6)<|mL<|mZ)<|mT<|mB Il (Hi Js<|Hc (mV 0)<|Hc (mK<|.int 8)<|mZ)<|mK<|.int 0) (Hm (Hi KO<|Hc (mV 0)<|Hc (mV 6)<|mZ)<|Hq 9)<|Ia)<|Lf<|Lh (mV 6)<|Hc (mV 9)<|mZ
def jB:MS:=mS (Hm (Hi OY<|Hc (Hi VU<|Hc (mV 0)<|Hc (Hi KO<|Hc (mV 0)<|Hc (mL<|Hc (mK<|.int 1)<|Hc (mK<|.int 2)<|Hc (mK<|.int 2)<|Hc (mK<|.int 3)<|Hc (mK<|.int 5)<|Hc (mK<|.int 0)<|mZ)<|mZ)<|mZ)<|mZ)<|Hq 2) (mS (Hm (Hi Mr<|Hc (Jk (mW<|mV 2) 1 [0] (Hq 0) IJ<|V6)<|mZ)<|Hq 3)<|mS (Hm (mK<|.str "abcdefghijklmnopqrstuvwxyz0123456789")<|Hq 4)<|mS (Hm (mB Hh (mB Hh (mB Hh (mL<|Hc (mK<|.str "")<|mZ)<|mV 2)<|mV 2)<|mV 2)<|Hq 5)<|mS (Hm (mL<|mZ)<|Hq 6)<|mS (mF (NO<|mB Hh (mK<|.int 1)<|Hi Js<|Hc (mV 0)<|Hc (mV 1)<|mZ) (Hq 7)<|Wb)<|mR<|mU<|Hc (Hi KO<|Hc (mV 0)<|Hc (mL<|Hc (mK<|.int 1)<|Hc (mK<|.int 2)<|Hc (mK<|.int 2)<|Hc (mK<|.int 3)<|Hc (mK<|.int 4)<|mZ)<|mZ)<|Hc (mV 3)<|Hc (Hi Mr<|Hc (mV 6)<|mZ)<|mZ)
def YV:GN:=IX 10 jB
def zhe:MS:=mS (Hm (Hi KO<|Hc (mV 0)<|Hc (mL<|Hc (mK<|.int 4)<|Hc (mK<|.int 4)<|Hc (mK<|.int 4)<|Hc (mK<|.int 6)<|Hc (mK<|.int 6)<|Hc (mK<|.int 6)<|Hc (mK<|.int 6)<|Hc (mK<|.int 12)<|mZ)<|mZ)<|Hq 1)<|mR<|mU<|Hc (mB Hh (mK<|.int 1)<|Hi Js<|Hc (mV 0)<|Hc (mV 1)<|mZ)<|Hc (mB Hh (mK<|.int 1)<|Hi Js<|Hc (mV 0)<|Hc (mV 1)<|mZ)<|mZ
def YU:GN:=IX 2 zhe
def V5:MS:=My (mV 4) (mU<|Hc (Hi Js<|Hc (mV 0)<|Hc (mB Hr (mV 2)<|mK<|.int 0)<|mZ)<|Hc (Hi Js<|Hc (mV 0)<|Hc (mB Hr (mV 2)<|mK<|.int 1)<|mZ)<|mZ)<|Hi Js<|Hc (mV 0)<|Hc (Hi Ho<|Hc (mB Hr (mV 1)<|mK<|.int 2)<|mZ)<|mZ
def Y1:ME:=mB Hh (mV 0)<|mU<|Hc (mV 1)<|mZ
def jM:MS:=mS (Hm (UW true)<|Hq 4)<|mS (mF (NO<|Hi Js<|Hc (mV 0)<|Hc (mB Hh (mV 3)<|mK<|.int 1)<|mZ) (Hq 5)<|V5)<|mR<|Hi Mr<|Hc (Hi OY<|Hc (Jk (W2<|mV 4) 2 [] (Mm 2<|gC (Hq 0)<|gC (Hq 1)<|Lz) IJ<|Y1)<|mZ)<|mZ
def Wf:GN:=IX 6 jM
def iQ:MS:=mS (K3 2 3<|Hc (Hi YV<|Hc (mV 0)<|Hc (mV 1)<|mZ)<|Hc (Hi YU<|Hc (mV 0)<|mZ)<|mZ)<|mR<|mU<|Hc (mV 2)<|Hc (mV 3)<|Hc (Hi Wf<|Hc (mV 0)<|Hc (mV 2)<|Hc (mV 3)<|Hc (Hi KO<|Hc (mV 0)<|Hc (mL<|Hc (mK<|.int 1)<|Hc (mK<|.int 1)<|Hc (mK<|.int 3)<|Hc (mK<|.int 6)<|mZ)<|mZ)<|mZ)<|mZ
def Yx:GN:=IX 4 iQ
end L2.MP.Hn
namespace L2.MP
open PySem
variable {n:Nat}{ds:List D}{mi:MI}{k:Int}{s:Hg}{x:D}
section
variable {ρ ρ1:HX}{st s1:Hg}{m n ma mb:ME}{mm:MA}{ms mq:MS}{mt mu:MT}{g:G2}{gn:GN}{d:D}{i j:Nat}{mg:MG}{mgs:Ot}{ml mh:MO}
@[simp] theorem Ih:mV i ρ st=match ρ[i]? with
 |some (some d)=>some (d,st)
 |_=>none:=rfl
@[simp] theorem Ip:mK d ρ st=some (d,st):=rfl
@[simp] theorem IE:mB g ma mb ρ st=(ma ρ st).bind λp=>(mb ρ p.2).bind λq=>g p.1 q.1 q.2:=rfl
@[simp] theorem La:mT m ρ st=(m ρ st).bind λp=>match p.1 with
 |.bl b=>some (b,p.2)
 |_=>none:=rfl
@[simp] theorem Mk:Kj mt ρ st=(mt ρ st).map λp=>(!p.1,p.2):=rfl
@[simp] theorem Nj:JY mt mu ρ st=(mt ρ st).bind λp=>if p.1=true then mu ρ p.2 else some (false,p.2):=rfl
@[simp] theorem LP:IF mt mu ρ st=(mt ρ st).bind λp=>if p.1=true then some (true,p.2)else mu ρ p.2:=rfl
@[simp] theorem NJ:JM m n ρ st=(mT m ρ st).bind λp=>if p.1=true then n ρ p.2 else some (.bl false,p.2):=rfl
theorem JI:LZ m n ρ st=(mT m ρ st).bind λp=>if p.1=true then some (.bl true,p.2)else n ρ p.2:=rfl
@[simp] theorem OS:UY m ρ st=(mT m ρ st).map λp=>(.bl !p.1,p.2):=rfl
@[simp] theorem Jm:Hi gn mm ρ st=(mm ρ st).bind λp=>gn p.1 p.2:=rfl
@[simp] theorem IH:Hc m mm ρ st=(m ρ st).bind λp=>(mm ρ p.2).bind λq=>some (p.1::q.1,q.2):=rfl
@[simp] theorem IM:mZ ρ st=some ([],st):=rfl
@[simp] theorem NZ:mU mm ρ st=(mm ρ st).bind λp=>if fits p.1.length=true then some (.tup p.1,p.2)else none:=rfl
@[simp] theorem NX:mL mm ρ st=(mm ρ st).bind λp=>if fits p.1.length=true then some (.ref p.2.length,p.2++[.lst p.1])else none:=rfl
@[simp] theorem LQ:mR m ρ st=(m ρ st).map λp=>(.rt p.1,p.2):=rfl
@[simp] theorem NF:Lf m ρ st=(m ρ st).map λp=>(.nx ρ,p.2):=rfl
@[simp] theorem Kg:Hm m mg ρ st=(m ρ st).bind λp=>(mg p.1 ρ p.2).map λq=>(.nx q.1,q.2):=rfl
@[simp] theorem NS:Hq i d ρ st=some (ρ.set i (some d),st):=rfl
@[simp] theorem N1:Ia ρ st=some (.nx ρ,st):=rfl
@[simp] theorem OK:Ko m ρ st=(m ρ st).bind λp=>Nq p.1 p.2:=rfl
@[simp] theorem K7:HS mt ms mq ρ st=(mt ρ st).bind λp=>if p.1=true then ms ρ p.2 else mq ρ p.2:=rfl
@[simp] theorem NY:My ma mb m ρ st=NN (Hm m (Q8 LV ma mb) ρ st) (UX ma mb m ρ st):=rfl
@[simp] theorem OC{g3:G3}:Q8 g3 ma mb d ρ st=(ma ρ st).bind λp=>(mb ρ p.2).bind λq=>(g3 p.1 q.1 d q.2).map λs=>(ρ,s):=rfl
@[simp] theorem OD:Mm i mgs d ρ st=match d with
 |.tup ds=>if ds.length=i then mgs ds ρ st else none
 |_=>none:=rfl
@[simp] theorem OI:Lz [] ρ st=some (ρ,st):=rfl
@[simp] theorem OB:gC mg mgs (d::ds) ρ st=(mg d ρ st).bind λp=>mgs ds p.1 p.2:=rfl
theorem IK:mW m ρ st=(m ρ st).bind λp=>Rp p.1 p.2:=rfl
@[simp] theorem NT:NO m ρ st=(m ρ st).bind λp=>match p.1 with
 |.int j=>if small j=true then some (⟨run 0 j.toNat,[]⟩,p.2)else none
 |_=>none:=rfl
@[simp] theorem OU:IJ ρ st=some (true,st):=rfl
theorem Jz{k:Nat}{fr:List Nat}:Jk mi k fr mg mt m ρ st=(mi ρ st).bind λp=>(Kq p.1 mg mt m p.1.ds (HG ρ k fr) p.2).bind λq=>if fits q.1.length=true then some (.ref q.2.length,q.2++[.lst q.1])else none:=rfl
@[simp] theorem Ms:mF mi mg ms ρ st=(mi ρ st).bind λp=>Lq p.1 mg ms p.1.ds ρ p.2:=rfl
theorem Kk:Lx m ml mh ρ st=(m ρ st).bind λp=>(ml ρ p.2).bind λq=>(mh ρ q.2).bind λr=>PF p.1 q.1 r.1 r.2:=rfl
@[simp] theorem K8:IS ρ st=some (none,st):=rfl
@[simp] theorem KQ:Iq m ρ st=(m ρ st).bind λp=>match p.1 with
 |.int i=>some (some i,p.2)
 |_=>none:=rfl
@[simp] theorem OJ{T:String}:J4 T m ρ st=(m ρ st).bind λp=>(tyName p.2 p.1).map λt=>(.bl (K1 t T),p.2):=rfl
theorem JU:Mf m mm ρ st=(m ρ st).bind λp=>match p.1 with
 |.str _=>(mm ρ p.2).bind λq=>O9 p.1 q.1 q.2
 |_=>none:=rfl
@[simp] theorem ND:Lh m mm ρ st=(m ρ st).bind λp=>match p.1 with
 |.ref n=>(Iw p.2 n).bind λ_=>(mm ρ p.2).bind λq=>Qc p.1 q.1 q.2
 |_=>none:=rfl
@[simp] theorem NG:K3 i j mm ρ st=(mm ρ st).bind λp=>match p.1 with
 |[x,y]=>some (.nx ((ρ.set i<|some x).set j<|some y),p.2)
 |_=>none:=rfl
theorem Km:W2 m ρ st=(m ρ st).bind λp=>SJ p.1 p.2:=rfl
@[simp] theorem O1:UW true ρ st=some (.ref st.length,st++[.dt []]):=rfl
@[simp] theorem O0:UW false ρ st=some (.ref st.length,st++[.dk []]):=rfl
def HA{r:Option (Fl×Hg)}(h:ms ρ st=some (.nx ρ1,s1))(k:mq ρ1 s1=r):mS ms mq ρ st=r:=by unfold mS;rw[h];exact k
def JT(h:ms ρ st=some (.rt d,s)):mS ms mq ρ st=some (.rt d,s):=by unfold mS;rw[h];rfl
def ID{N:Nat}(h:ms (Jc N ds) st=some (.rt d,s)):IX N ms ds st=some (d,s):=by unfold IX;rw[h];rfl
def Pr{k:Nat}(h:k<=10000:=by decide):fits k=true:=Ku h
@[simp] theorem OE:fits 0=true:=Pr
@[simp] theorem OF:fits 1=true:=Pr
@[simp] theorem OG:fits 2=true:=Pr
@[simp] theorem OH:fits 3=true:=Pr
@[simp] theorem Ov:fits 4=true:=Pr
@[simp] theorem Ow:fits 5=true:=Pr
@[simp] theorem Ox:fits 6=true:=Pr
@[simp] theorem Oy:fits 7=true:=Pr
@[simp] theorem Oz:fits 8=true:=Pr
def R9(h0:0<=k)(a:k<=1000000):small k=true:=by unfold small;simp;omega
def Mo{n:Nat}(h:st[n]?=some (.lst ds))(h0:0<=k)(a:ds[k.toNat]?=some x):Hr (.ref n) (.int k) st=some (x,st):=by
 have i:=qax a;have g:k<ds.length:=by omega
 simp[Hr,JG,Lj,Iw,h,LB,Nc,h0,g,JH];exact(KM.mp a).2
def J7(h0:0<=k)(a:ds[k.toNat]?=some x):Hr (.tup ds) (.int k) st=some (x,st):=by
 have i:=qax a;have g:k<ds.length:=by omega
 simp[Hr,JG,Lj,LB,Nc,h0,g,JH];exact(KM.mp a).2
def nG(h0:0<=k)(a:ds[k.toNat]?=some x):Hr (.kl ds) (.int k) st=some (x,st):=by
 have i:=qax a;have g:k<ds.length:=by omega
 simp[Hr,JG,Lj,LB,Nc,h0,g,JH];exact(KM.mp a).2
def RM{z:Str}{c:Nat}(e:z.length<=10000)(h0:0<=k)(a:z.cps[k.toNat]?=some c):Hr (.str z) (.int k) st=some (.str ⟨#[c]⟩,st):=by
 have i:k.toNat<z.cps.size:=(Array.getElem?_eq_some_iff.mp a).1;have g:k<z.cps.size:=by omega
 have hf:fits z.length=true:=Ku e;simp[Hr,JG,Lj,LB,Nc,h0,g,JH,hf];exact(Array.getElem?_eq_some_iff.mp a).2
def M6{n:Nat}(h:st[n]?=some (.lst ds)):Ho [.ref n] st=some (.int ds.length,st):=by simp[Ho,Iw,h]
theorem QD:Ho [.tup ds] st=some (.int ds.length,st):=rfl
theorem WZ:Ho [.kl ds] st=some (.int ds.length,st):=rfl
def Px{n:Nat}(h:st[n]?=some (.lst ds)):Mr [.ref n] st=some (.tup ds,st):=by simp[Mr,Iw,h]
@[simp] theorem add_int(a b:Int):Hh (.int a) (.int b) st=some (.int (a+b),st):=rfl
@[simp] theorem sub_int(a b:Int):Mw (.int a) (.int b) st=some (.int (a-b),st):=rfl
def mul_int{a b:Int}(h:-1000000<=a/\a<=1000000):HZ (.int a) (.int b) st=some (.int (a*b),st):=by
 have:J5 a=true:=by unfold J5;simp;omega
 simp[HZ,JG,KD,intD,this,JH]
def cF{a b:List D}(c:a≠[])(h:a.length+b.length<=10000):Hh (.tup a) (.tup b) st=some (.tup (a++b),st):=by
 have:fits (a.length+b.length)=true:=Ku h;cases a with
 |nil=>exact absurd rfl c
 |cons x a=>simp[Hh,this]at *
def QC{a b:Nat}{x y:List D}(c:st[a]?=some (.lst x))(e:st[b]?=some (.lst y))(h:x.length+y.length<=10000):Hh (.ref a) (.ref b) st=some (.ref st.length,st++[.lst (x++y)]):=by have:fits (x.length+y.length)=true:=Ku h;simp[Hh,c,e,this]
def add_str{a b:Str}(h:a.length+b.length<=10000):Hh (.str a) (.str b) st=some (.str (a++b),st):=by have:fits (a.length+b.length)=true:=Ku h;simp[Hh,this]
def append_at{n:Nat}(h:st[n]?=some (.lst ds))(a:ds.length<=10000):Qc (.ref n) [x] st=some (.non,st.set n (.lst<|ds++[x])):=by have:ds.length<sizeLine:=BV a (by decide);simp[Qc,h,this]
end
end L2.MP
set_option linter.unusedSimpArgs false
namespace L2.MP.Hn
open PySem L2.MP
def IC(n:Nat)(st:Hg):Prop:=∃a b:Int,st[n]?=some (.lst [.int a,.int b])/\0<=a/\0<=b/\b<18446744073709551616
variable {n:Nat}{st:Hg}
def IC.lt(h:IC n st):n<st.length:=by obtain⟨a,b,e,_⟩:=h;exact qax e
def IC.gr{st':Hg}(h:IC n st)(g:Gr st st'):IC n st':=by obtain⟨a,b,e,r⟩:=h;exact⟨a,b,by rw[g.old n (qax e)];exact e,r⟩
def oW{x m:Int}(h0:0<=x)(a:x<4294967296)(hm:0<m):0<=x*m / 4294967296/\x*m / 4294967296<m:=by have l:x*m<4294967296*m:=Int.mul_lt_mul_of_pos_right a hm;have n:0<=x*m:=Int.mul_nonneg h0<|C0 hm;omega
def KZ{many:Int}(h:IC n st)(c:0<many)(z:many<18446744073709551616):∃(r:Int) (st':Hg),Js [.ref n,.int many] st=some (.int r,st')/\0<=r/\r<many/\IC n st'/\Fr n st st'/\st'.length=st.length:=by
 obtain⟨a,b,e,x,y,l⟩:=h;have s:=qax e;have u:many<340282366920938463463374607431768211456:=by omega
 by_cases hp:0<a
 ·refine⟨a % many,st.set n<|.lst [.int (a / many),.int b],?_,CV _<|by omega,C2 _ c,⟨a / many,b,by simp[s],Int.ediv_nonneg x<|by omega,y,l⟩,Fr.set _ _ _,by simp⟩;simp[Js,YH,IX,mS,HS,mT,mB,mV,mK,Hi,Hc,mZ,mR,Hm,Hq,Ia,Hr,JG,Lj,WG,Iw,LB,Nc,Iv,Ik,Jg,JW,HN,Hh,Mw,KG,RB,HZ,KD,Pb,Lw,intD,Y4,HV,Oj,Ho,My,Q8,LV,Jc,e,hp,c,u]
 ·have A:a=0:=by omega
  subst A;have v:0<=(b*6364136223846793005+1442695040888963407) % 18446744073709551616:=CV _ (by decide);have w:(b*6364136223846793005+1442695040888963407) % 18446744073709551616<18446744073709551616:=C2 _ (by decide);generalize E:(b*6364136223846793005+1442695040888963407) % 18446744073709551616=q at v w;have Q:0<=q / 4294967296:=by omega
  have W:q / 4294967296<4294967296:=by omega
  obtain⟨f,g⟩:=oW Q W c;refine⟨q / 4294967296*many / 4294967296,st.set n<|.lst [.int 0,.int q],?_,f,g,⟨0,q,by simp[s],by omega,v,w⟩,Fr.set _ _ _,by simp⟩;have i:J5 b=true:=by unfold J5;simp;omega
  have j:J5 (q / 4294967296)=true:=by unfold J5;simp;omega
  have m:∀o,(List.set st n o)[n]?=some o:=λo=>by simp[s]
  simp[Js,YH,IX,mS,HS,mT,mB,mV,mK,Hi,Hc,mZ,mR,Hm,Hq,Ia,Hr,JG,Lj,WG,Iw,LB,Nc,Iv,Ik,Jg,JW,HN,Hh,Mw,KG,RB,HZ,KD,Pb,Lw,intD,Y4,HV,Oj,Ho,My,Q8,LV,Jc,e,m,i,j,E]
def of_ok{l:Nat}{ds:List D}(h:IC n st)(a:st[l]?=some (.lst ds))(e:0<ds.length)(hlen:ds.length<1000000)(c:l≠n):
  ∃d st',KO [.ref n,.ref l] st=some (d,st')/\d∈ds/\IC n st'/\Fr n st st':=by
 obtain⟨r,s1,u,v,x,w,f1,_⟩:=KZ (many:=ds.length) h (by omega) (by omega);have s:r.toNat<ds.length:=by omega
 have o:s1[l]?=some (.lst ds):=(f1.old l (qax a) c).trans a;refine⟨ds[r.toNat],s1,ID ?_,CD s,w,f1⟩;unfold gF;simp[Jc,JI,IK,Jz,Kk,JU,Km,Aa,Ak,Iv,Ik,Jg,JW,HN,HV,HG,M6 a,u];exact Mo o v<|Ap s
def Pm(ds:List D)(h:IC n st)(a:0<ds.length)(hlen:ds.length<1000000):∃d st',KO [.ref n,.ref st.length] (st++[.lst ds])=some (d,st')/\d∈ds/\IC n st'/\Fr n st st':=by obtain⟨d,s,e,hd,p,f⟩:=of_ok (l:=st.length) (h.gr<|Gr.app st [.lst ds]) (II st _) a hlen<|A5 h.lt;exact⟨d,s,e,hd,p,(Fr.app n st _).trans f⟩
def zD(h:IC n st):∃(w h':Int) (st':Hg),YU [.ref n] st=some (.tup [.int w,.int h'],st')/\1<=w/\w<=12/\1<=h'/\h'<=12/\IC n st'/\Fr n st st':=by
 obtain⟨d,s1,l,hd,o,f1⟩:=Pm [.int 4,.int 4,.int 4,.int 6,.int 6,.int 6,.int 6,.int 12] h (by decide) (by decide);obtain⟨m,rfl,hm⟩:∃m:Int,d=.int m/\0<m/\m<=12:=by
  simp at hd;rcases hd with rfl|rfl|rfl<;>exact⟨_,rfl,by decide,by decide⟩
 obtain⟨a,s2,r,x,a1,p2,f2,_⟩:=KZ (many:=m) o hm.1 (by omega);obtain⟨b,s3,s,y,b1,u,v,_⟩:=KZ (many:=m) p2 hm.1 (by omega);refine⟨1+a,1+b,s3,ID ?_,by omega,by omega,by omega,by omega,u,(f1.trans f2).trans v⟩;refine HA (ρ1:=[some (.ref n),some (.int m)]) (s1:=s1) (by simp[Jc,JI,IK,Jz,Kk,JU,Km,Aa,Ak,Iv,Ik,Jg,JW,HN,HV,HG,l]) ?_;simp[r,s]
def Zx:∃P M Q:Int,0<M/\(∀st:Hg,Lw (.int 10) (.int 60) st=some (.int P,st))/\(∀st:Hg,Lw (.int P) (.int 15) st=some (.int M,st))/\∀st:Hg,Lw (.int 10) (.int 18) st=some (.int Q,st):=⟨10^60,(10^60)^15,10^18,by decide,λst=>rfl,λst=>rfl,λst=>rfl⟩
def qJ{ns:List Int}{k:Int}(h0:0<=k)(H:k<1000):∃st',Yy [.kl (ns.map D.int),.int k] st=some (.ref st.length,st')/\IC st.length st'/\Gr st st':=by
 obtain⟨P,M,Q,x,y,p2,A⟩:=Zx;have cell:∃c:Int,HS (mT<|mB Iv (mV 1)<|Hi Ho<|Hc (mV 0)<|mZ) (Hm (mB Hr (mV 0)<|mV 1)<|Hq 2) Ia [some (.kl<|ns.map D.int),some (.int k),some (.int 0),none,none,none] st =
   some (.nx [some (.kl<|ns.map D.int),some (.int k),some (.int c),none,none,none],st):=by
  by_cases hk:k<ns.length
  ·have E:k.toNat<ns.length:=by omega
   refine⟨ns[k.toNat],?_⟩;have e:Hr (.kl<|ns.map D.int) (.int k) st=some (.int ns[k.toNat],st):=nG h0 (by rw[AJ,Ap E];rfl);simp[Jc,Ih,Ip,IE,La,Mk,Nj,LP,NJ,JI,OS,Jm,IH,IM,NZ,NX,LQ,NF,Kg,NS,N1,OK,K7,NY,OC,OD,OI,OB,IK,NT,OU,Jz,Ms,Kk,K8,KQ,OJ,JU,ND,NG,Km,O1,O0,JH,Kz,OE,OF,OG,OH,Ov,Ow,Ox,Oy,Oz,Aa,Ak,add_int,sub_int,Iv,Ik,Jg,JW,HN,HV,HG,WZ,hk,e]
  refine⟨0,?_⟩;simp[Jc,Ih,Ip,IE,La,Mk,Nj,LP,NJ,JI,OS,Jm,IH,IM,NZ,NX,LQ,NF,Kg,NS,N1,OK,K7,NY,OC,OD,OI,OB,IK,NT,OU,Jz,Ms,Kk,K8,KQ,OJ,JU,ND,NG,Km,O1,O0,JH,Kz,OE,OF,OG,OH,Ov,Ow,Ox,Oy,Oz,Aa,Ak,add_int,sub_int,Iv,Ik,Jg,JW,HN,HV,HG,WZ,hk]
 obtain⟨c,W⟩:=cell;have a:∃R:Int,0<=R/\KG (.int<|if c<0 then -c else c) (.int M) st=some (.int R,st):=⟨(if c<0 then -c else c) % M,CV _<|by omega,by simp[KG,intD,x]⟩
 obtain⟨R,f,g⟩:=a;have h:∃N:Int,0<=N/\2*R+(if c<0 then 1 else 0)=N:=⟨_,by split<;>omega,rfl⟩
 obtain⟨N,i,j⟩:=h;have o:0<=N % 18446744073709551557:=CV _ (by decide);have r:N % 18446744073709551557<18446744073709551557:=C2 _ (by decide);generalize m:N % 18446744073709551557=B at o r;have l:0<=(B*6364136223846793005+97*k+3) % 18446744073709551616:=CV _ (by decide);have n:(B*6364136223846793005+97*k+3) % 18446744073709551616<18446744073709551616:=C2 _ (by decide);generalize q:(B*6364136223846793005+97*k+3) % 18446744073709551616=X at l n;have z:J5 B=true:=by unfold J5;simp;omega
 have s:J5 97=true:=by decide
 have C:J5 2=true:=by decide
 have F:∃Y:Int,0<=Y/\HZ (.int N) (.int<|if 2*Q<=N then 1 else 0) st=some (.int Y,st):=by
  by_cases hq:2*Q<=N
  ·refine⟨N*1,by omega,?_⟩;have:J5 1=true:=by decide
   simp[hq,HZ,JG,KD,intD,this,JH]
  ·refine⟨N*0,by omega,?_⟩;have:J5 0=true:=by decide
   simp[hq,HZ,JG,KD,intD,this,JH]
 obtain⟨Y,u,w⟩:=F;refine⟨st++[.lst [.int Y,.int X]],ID ?_,⟨Y,X,II _ _,u,l,n⟩,Gr.app _ _⟩;unfold iR;refine HA (ρ1:=[some (.kl<|ns.map D.int),some (.int k),some (.int 0),none,none,none]) (s1:=st) (by simp[Jc,Ih,Ip,IE,La,Mk,Nj,LP,NJ,JI,OS,Jm,IH,IM,NZ,NX,LQ,NF,Kg,NS,N1,OK,K7,NY,OC,OD,OI,OB,IK,NT,OU,Jz,Ms,Kk,K8,KQ,OJ,JU,ND,NG,Km,O1,O0,JH,Kz,OE,OF,OG,OH,Ov,Ow,Ox,Oy,Oz,Aa,Ak,add_int,sub_int,Iv,Ik,Jg,JW,HN,HV,HG]) ?_;refine HA W ?_;refine HA (ρ1:=[some (.kl<|ns.map D.int),some (.int k),some (.int c),some (.int N),none,none]) (s1:=st) (by
  simp[Jc,Ih,Ip,IE,La,Mk,Nj,LP,NJ,JI,OS,Jm,IH,IM,NZ,NX,LQ,NF,Kg,NS,N1,OK,K7,NY,OC,OD,OI,OB,IK,NT,OU,Jz,Ms,Kk,K8,KQ,OJ,JU,ND,NG,Km,O1,O0,JH,Kz,OE,OF,OG,OH,Ov,Ow,Ox,Oy,Oz,Aa,Ak,add_int,sub_int,Iv,Ik,Jg,JW,HN,HV,HG,y,p2,Oj,g,HZ,JG,KD,intD,C,j]) ?_
 refine HA (ρ1:=[some (.kl<|ns.map D.int),some (.int k),some (.int c),some (.int N),some (.int B),none]) (s1:=st) (by simp[Jc,Ih,Ip,IE,La,Mk,Nj,LP,NJ,JI,OS,Jm,IH,IM,NZ,NX,LQ,NF,Kg,NS,N1,OK,K7,NY,OC,OD,OI,OB,IK,NT,OU,Jz,Ms,Kk,K8,KQ,OJ,JU,ND,NG,Km,O1,O0,JH,Kz,OE,OF,OG,OH,Ov,Ow,Ox,Oy,Oz,Aa,Ak,add_int,sub_int,Iv,Ik,Jg,JW,HN,HV,HG,KG,intD,m]) ?_;refine HA (ρ1:=[some (.kl<|ns.map D.int),some (.int k),some (.int c),some (.int N),some (.int B),some (.int X)]) (s1:=st) (by simp[Jc,Ih,Ip,IE,La,Mk,Nj,LP,NJ,JI,OS,Jm,IH,IM,NZ,NX,LQ,NF,Kg,NS,N1,OK,K7,NY,OC,OD,OI,OB,IK,NT,OU,Jz,Ms,Kk,K8,KQ,OJ,JU,ND,NG,Km,O1,O0,JH,Kz,OE,OF,OG,OH,Ov,Ow,Ox,Oy,Oz,Aa,Ak,add_int,sub_int,Iv,Ik,Jg,JW,HN,HV,HG,KG,HZ,JG,KD,intD,z,s,q]) ?_;have G:HZ (.int N) (.int<|if decide (2*Q<=N)=true then 1 else 0) st=some (.int Y,st):=by simpa using w
 have v:HZ (.int 2) (.int Q) st=some (.int (2*Q),st):=mul_int (by omega);simp[Jc,JI,IK,Jz,Kk,JU,Km,Aa,Ak,Iv,Ik,Jg,JW,HN,HV,HG,A,v,w]
end L2.MP.Hn
namespace L2.MP
open PySem PySem.Builtin PySem.Builtin.Str
def pI(j:Int)(n:Nat):strSliceIndices none (some j) 1 n=Bg (max 0<|min (if j<0 then j+n else j) n).toNat:=by
 unfold strSliceIndices sliceRange;have l:(1:Int) > 0:=by decide
 simp only[l,if_true];generalize max 0 (min (if j<0 then j+(n:Int)else j) (n:Int))=c;by_cases hc:0<c
 ·simp only[hc,if_true,Int.ediv_one];have e:(c-0+1-1).toNat=c.toNat:=by omega
  rw[e];apply F9
  ·simp
  intro i l o;simp
 ·simp only[hc,if_false];have e:c.toNat=0:=by omega
  simp[e]
def gM{z:Array Nat}:∀{k:Nat},k<=z.size->(Bg k).filterMap (λi=>z[i]?)=z.toList.take k
 |0,_=>by simp
 |k+1,h=>by
  rw[List.range_succ,List.filterMap_append,gM (k:=k) (by omega),List.take_succ]
  congr 1
  have hk:k<z.size:=by omega
  simp[Array.getElem?_eq_getElem hk,Cb]
def QT(z:Str)(j:Int):(Txt.slice z none<|some j).cps.toList=z.cps.toList.take (max 0<|min (if j<0 then j+z.length else j) z.length).toNat:=by
 unfold Txt.slice;rw[pI];have hk:(max 0<|min (if j<0 then j+(z.length:Int)else j) (z.length:Int)).toNat<=z.cps.size:=by show _<=z.length;omega
 generalize (max 0<|min (if j<0 then j+(z.length:Int)else j) (z.length:Int)).toNat=k at hk
 split
 ·rename_i l;simp at l;rw[l];have:z.length=z.cps.toList.length:=rfl;rw[this,CF]
 show(((Bg k).filterMap λi=>z.cps[i]?).toArray).toList=_;rw[gM hk]
def join_nil:∀cs:List Nat,(Ee ("":Str)<|cs.map λc=>⟨#[c]⟩).cps.toList=cs
 |[]=>rfl
 |[c]=>rfl
 |c::d::cs=>by
  have f:=join_nil (d::cs);show((⟨#[c]⟩++("":Str)++Ee ("":Str) ((d::cs).map λc=>⟨#[c]⟩):Str)).cps.toList=_;have e:∀a b:Str,(a++b).cps.toList=a.cps.toList++b.cps.toList:=λa b=>by show(a.cps++b.cps).toList=_;simp
  rw[e,e,f];rfl
def app_list(a b:Str):(a++b).cps.toList=a.cps.toList++b.cps.toList:=by show(a.cps++b.cps).toList=_;simp
theorem len_list(a:Str):a.length=a.cps.toList.length:=rfl
end L2.MP
namespace L2.MP
open PySem
def Yu{f:D->Option PyData}(hf:∀x:Str,Ao x=true->f (.str x)=some (.str x)):∀{ss:List Str},(∀x∈ss,Ao x=true)->K0 f (ss.map D.str)=some (ss.map CG)
 |[],_=>rfl
 |x::ss,h=>by rw[Ax,K0,hf x (h x Al),Aa,Yu hf λy a=>h y (Aj _ a)];rfl
variable {n:Nat}{st:Hg}{x:Str}
def OZ(h:Ao x=true):Jn (n+1) st (.str x)=some (.str x):=by rw[Jn];simp[h]
variable {ss:List Str}
def QL{k:Nat}{ss:List Str}(hk:st[k]?=some (.lst<|ss.map D.str))(h:∀x∈ss,Ao x=true):Jn (n+2) st (.ref k)=some (.list<|ss.map CG):=by rw[Jn];simp only[Iw,hk,Aa];rw[Yu (λx l=>OZ l) h];rfl
variable {f:Nat}
def ne_nil{g:Nat}{ss:List Str}(hf:st[f]?=some (.lst<|ss.map D.str))(a:st[g]?=some (.lst []))(h:∀x∈ss,Ao x=true):IP (.ref f) (.ref g) st=some (.bl (!ss.isEmpty),st):=by
 unfold IP;rw[QL (n:=98) hf h,QL (n:=98) (ss:=[]) a (by simp)]
 cases ss<;>rfl
def Xg(x:Str):∀ss:List Str,(ss.map CG).any (λy=>Bl y (.str x))=decide (x∈ss)
 |[]=>rfl
 |y::ss=>by
  rw[Ax,Cj,Xg x ss];have:Bl (.str y) (.str x)=(y==x):=by simp[Bl]
  rw[this];by_cases hyx:y=x
  ·simp[hyx]
  simp[hyx,A3 hyx]
def zkf{x:Str}{ss:List Str}(hf:st[f]?=some (.lst<|ss.map D.str))(h:∀x∈ss,Ao x=true)(a:Ao x=true):QA (.str x) (.ref f) st=some (.bl (!decide (x∈ss)),st):=by unfold QA JG inD;rw[QL (n:=48) hf h,OZ (n:=49) a];simp only[Aa,PN,Ak,Xg,JH];rfl
def eq_int(a b:Int)(st:Hg):Il (.int a) (.int b) st=some (.bl (a==b),st):=by unfold Il;rw[Jn,Jn];simp[Bl]
end L2.MP
namespace L2.MP.Hn
open PySem L2.MP
structure Ig(x:Str):Prop where
 lo:1<=x.cps.toList.length
 hi:x.cps.toList.length<=8
 ab:∀c∈x.cps.toList,97<=c/\c<=122
def Ig.str{x:Str}(h:Ig x):Ao x=true:=by unfold Ao;rw[DO];intro c l;have:=h.ab c (by simpa using l);simp;omega
noncomputable abbrev KS:Str:="abcdefghijklmnopqrstuvwxyz"
def zky:∀k:Nat,k<26->KS.cps[k]?=some (97+k):=by decide +kernel
variable {n:Nat}{st:Hg}
def sS{v:Option D}(h:IC n st)(j:Nat)(i:j<=1000):∃(cs:List Nat) (st':Hg),Kq ⟨run 0 j,[]⟩ (Hq 0) IJ T4 (run 0 j) [v,some (.str KS),some (.ref n)] st=some (cs.map λc=>.str ⟨#[c]⟩,st')/\cs.length=j/\(∀c∈cs,97<=c/\c<=122)/\IC n st'/\Fr n st st':=by
 have key:=Rv (W:=⟨run 0 j,[]⟩) (g:=Hq 0) (c:=IJ) (m:=T4) (ds:=run 0 j) (acc:=[]) (st:=st) (ρ:=[v,some (.str KS),some (.ref n)])
  (Inv:=λk a ρ s=>(∃x,ρ=[x,some (.str KS),some (.ref n)])/\(∃cs:List Nat,a=cs.map (λc=>D.str ⟨#[c]⟩)/\cs.length=k/\∀c∈cs,97<=c/\c<=122)/\IC n s/\Fr n st s)
  ⟨⟨v,rfl⟩,⟨[],rfl,rfl,by simp⟩,h,Fr.refl _ _⟩ (λ_ _ _ _ _ _=>rfl) (λk d a ρ s hd y=>by
   obtain⟨⟨x,rfl⟩,⟨cs,rfl,l,o⟩,u,hf⟩:=y;obtain⟨r,s1,A,E,q,Q,f1,_⟩:=KZ (many:=26) u (by decide) (by decide);have hk:r.toNat<26:=by omega
   have ex:Hr (.str KS) (.int r) s1=some (.str ⟨#[97+r.toNat]⟩,s1):=RM (by decide) E<|zky _ hk;refine⟨[some d,some (.str KS),some (.ref n)],s,true,s,by simp,rfl,.inl ⟨rfl,.str ⟨#[97+r.toNat]⟩,s1,?_,⟨_,rfl⟩,⟨cs++[97+r.toNat],by simp,by simp[l],?_⟩,Q,hf.trans f1⟩⟩
   ·unfold T4;simp[A,ex]
   ·intro c hm
    rcases SZ.mp hm with hm|hm
    ·exact o c hm
    ·rw[Os.mp hm]
     omega)
 obtain⟨xs,ρ',f,e,_,⟨cs,w,l,o⟩,u,hf⟩:=key;rw[BZ]at w;subst w;exact⟨cs,f,e,by rw[l,OW],o,u,hf⟩
def Xa{z:Str}{j:Int}(a:z.length<=10000):PF (.str z) none (some j) st=some (.str (Txt.slice z none<|some j),st):=by have:fits z.length=true:=Ku a;simp[PF,QW,Wj,this,Kz]
def XN{l:List Nat}{k c:Nat}(h:c∈l.take k):c∈l:=BK h
def iO:∀cs:List Nat,((cs.map λc=>(⟨#[c]⟩:Str)).map (·.length)).sum=cs.length
 |[]=>rfl
 |c::cs=>by have a:=iO cs;simp only[Ax,GC,AB];rw[a];show 1+_=_;omega
def joined{cs:List Nat}{l:Nat}(a:st[l]?=some (.lst<|cs.map λc=>.str ⟨#[c]⟩))(f:cs.length<=1000):∃z:Str,O9 (.str "") [.ref l] st=some (.str z,st)/\z.cps.toList=cs:=by
 refine⟨Txt.join ""<|cs.map λc=>⟨#[c]⟩,?_,?_⟩
 ·have e:cs.map (λc=>D.str ⟨#[c]⟩)=(cs.map λc=>(⟨#[c]⟩:Str)).map D.str:=by simp
  unfold O9;simp only[Iw,a,Aa];rw[e,YE];simp only[Aa];rw[if_pos];apply decide_eq_true;have h0:(("":Str)).length=0:=by decide
  rw[h0,Nat.mul_zero,Nat.add_zero];rw[iO];omega
 show(FS "" _).cps.toList=cs;rw[Bc];exact join_nil cs
structure Ke(n f:Nat)(many:Int)(st0:Hg)(ss:List Str)(s:Hg):Prop where
 at_:s[f]?=some (.lst (ss.map D.str))
 ok:∀x∈ss,Ig x
 nd:ss.Nodup
 len:(ss.length:Int)<=many
 pot:IC n s
 fr:Fr n st0 s
variable {f:Nat}{many:Int}{st0 s:Hg}{ss:List Str}
def Ke.fr'{s':Hg}(h:Ke n f many st0 ss s)(hf:f≠n)(p:IC n s')(g:Fr n s s'):Ke n f many st0 ss s':=⟨(g.old f (qax h.at_) hf).trans h.at_,h.ok,h.nd,h.len,p,h.fr.trans g⟩
def Ke.app{n f:Nat}{many:Int}{st0:Hg}{ss:List Str}{s:Hg}(h:Ke n f many st0 ss s)(hf:f≠n)(l:List O):Ke n f many st0 ss (s++l):=h.fr' hf (h.pot.gr<|Gr.app _ _)<|Fr.app _ _ _
def dF(h:Ke n f many st0 ss s)(hf:f≠n)(a:ss≠[])(hm:many<=1000):∃(y:Str) (s':Hg),KO [.ref n,.ref f] s=some (.str y,s')/\Ig y/\Ke n f many st0 ss s':=by have u:=h.len;obtain⟨d,s1,l,hd,o,f1⟩:=of_ok h.pot h.at_ (by rw[Ah];exact List.length_pos_iff.mpr a) (by rw[Ah];omega) hf;obtain⟨y,r,rfl⟩:=UV.mp hd;exact⟨y,s1,l,h.ok y r,h.fr' hf o f1⟩
def zki{v4 v5 v6:Option D}(h:Ke n f many st0 ss s)(hf:f≠n)(hf0:st0.length<=f)(hm:many<=1000):
  ∃(g:List Str) (w5 w6:Option D) (s':Hg),We [some (.ref n),some (.int many),some (.str KS),some (.ref f),v4,v5,v6] s=some (.nx [some (.ref n),some (.int many),some (.str KS),some (.ref f),v4,w5,w6],s')/\Ke n f many st0 g s'/\(0<many->g≠[]):=by
 obtain⟨w,s1,e1,w0,w1,Z,f1,_⟩:=KZ (many:=4) h.pot (by decide) (by decide);have h1:=h.fr' hf Z f1;obtain⟨d,s2,e2,hd,p2,f2⟩:=Pm [.int 1,.int 1,.int 2,.int 3,.int 8] Z (by decide) (by decide);obtain⟨j,rfl,hj1,hj8⟩:∃j:Int,d=.int j/\1<=j/\j<=8:=by
  simp at hd;rcases hd with rfl|rfl|rfl|rfl<;>exact⟨_,rfl,by decide,by decide⟩
 have h2:=h1.fr' hf p2 f2;obtain⟨cs,s3,e3,hl3,M,p3,f3⟩:=sS (v:=none) p2 j.toNat (by omega);have h3:=h2.fr' hf p3 f3;have h4:=h3.app hf [.lst (cs.map λc=>D.str ⟨#[c]⟩)];obtain⟨z,ez,N⟩:=joined (II s3 (.lst (cs.map λc=>D.str ⟨#[c]⟩))) (by omega);have L:Ig z:=⟨by rw[N];omega,by rw[N];omega,by rw[N];exact M⟩
 have sj:small j=true:=R9 (by omega) (by omega);have fc:fits cs.length=true:=Ku (by omega);unfold We;generalize S:s3++[O.lst (cs.map λc=>D.str ⟨#[c]⟩)]=s4 at h4 ez
 have if1:∃(G:Str) (s5:Hg),HS (JY (mT (mB IP (mV 3) (mL mZ))) (mT (mB Il (mV 5) (mK (.int 1))))) (Hm (Lx (mB Hh (Hi KO (Hc (mV 0) (Hc (mV 3) mZ))) (mV 6)) IS (Iq (mK (.int 8)))) (Hq 6)) Ia
   [some (.ref n),some (.int many),some (.str KS),some (.ref f),v4,some (.int w),some (.str z)] s4=some (.nx [some (.ref n),some (.int many),some (.str KS),some (.ref f),v4,some (.int w),some (.str G)],s5)/\Ig G/\Ke n f many st0 ss s5:=by
  have F:=h4.app hf [.lst []];have W:=ne_nil F.at_ (II s4 (.lst [])) λx hx=>(F.ok x hx).str;by_cases hc:ss≠[]/\w=1
  ·obtain⟨u,rfl⟩:=hc;obtain⟨y,o,e6,Q,l⟩:=dF F hf u hm;have hlen:(y++z).length<=10000:=by rw[len_list,app_list,AI];have:=Q.hi;have:=L.hi;omega
   have H:Hh (.str y) (.str z) o=some (.str (y++z),o):=add_str (by rw[len_list,len_list];have:=Q.hi;have:=L.hi;omega);have es:=Xa (z:=y++z) (j:=8) (st:=o) hlen;refine⟨Txt.slice (y++z) none (some 8),o,?_,⟨?_,?_,?_⟩,l⟩
   ·have he:ss.isEmpty=false:=by cases ss with
     |nil=>exact absurd rfl u
     |cons a b=>rfl
    simp[Jc,JI,IK,Jz,Kk,JU,Km,Aa,Ak,Iv,Ik,Jg,JW,HN,HV,HG,W,he,eq_int,e6,H,es]
   ·rw[QT,Ba,app_list,AI,len_list,app_list,AI];have q:=Q.lo;simp at q ⊢;omega
   ·rw[QT,Ba];simp;omega
   ·intro c hc;rw[QT,app_list]at hc
    rcases SZ.mp (XN hc)with hc|hc
    ·exact Q.ab c hc
    exact L.ab c hc
  ·refine⟨z,s4++[.lst []],?_,L,F⟩
   by_cases he:ss=[]
   ·subst he;simp[W]
   ·have i:ss.isEmpty=false:=by cases ss with
     |nil=>exact absurd rfl he
     |cons a b=>rfl
    have hw:¬w=1:=λq=>hc ⟨he,q⟩;have m:(w==1)=false:=by simp[hw]
    simp[W,i,eq_int,m]
 obtain⟨B,s5,i5,E,F⟩:=if1;have if2:∃(G:Str) (o:Hg),HS (JY (mT (mB IP (mV 3) (mL mZ))) (mT (mB Il (mV 5) (mK (.int 2))))) (Hm (mB Hh (Lx (Hi KO (Hc (mV 0) (Hc (mV 3) mZ))) IS (Iq (Ko (mK (.int 1))))) (Lx (mV 6) IS (Iq (mK (.int 1))))) (Hq 6)) Ia
   [some (.ref n),some (.int many),some (.str KS),some (.ref f),v4,some (.int w),some (.str B)] s5=some (.nx [some (.ref n),some (.int many),some (.str KS),some (.ref f),v4,some (.int w),some (.str G)],o)/\Ig G/\Ke n f many st0 ss o:=by
  have l:=F.app hf [.lst []];have W:=ne_nil l.at_ (II s5 (.lst [])) λx hx=>(l.ok x hx).str;by_cases hc:ss≠[]/\w=2
  ·obtain⟨u,rfl⟩:=hc;obtain⟨y,A,T,Q,U⟩:=dF l hf u hm;have e8:=Xa (z:=y) (j:=-1) (st:=A) (by rw[len_list];have:=Q.hi;omega);have e9:=Xa (z:=B) (j:=1) (st:=A) (by rw[len_list];have:=E.hi;omega);have l8:(Txt.slice y none (some (-1))).cps.toList.length<=7:=by
    rw[QT,Ba,len_list];have q:=Q.hi;simp at q ⊢;omega
   have l9:(Txt.slice B none (some 1)).cps.toList.length=1:=by rw[QT,Ba,len_list];have q:=E.lo;simp at q ⊢;omega
   have H:Hh (.str (Txt.slice y none (some (-1)))) (.str (Txt.slice B none (some 1))) A=some (.str (Txt.slice y none (some (-1))++Txt.slice B none (some 1)),A):=add_str (by rw[len_list,len_list];omega);refine⟨Txt.slice y none (some (-1))++Txt.slice B none (some 1),A,?_,⟨?_,?_,?_⟩,U⟩
   ·have he:ss.isEmpty=false:=by cases ss with
     |nil=>exact absurd rfl u
     |cons a b=>rfl
    simp[Jc,JI,IK,Jz,Kk,JU,Km,Aa,Ak,Iv,Ik,Jg,JW,HN,HV,HG,W,he,eq_int,T,H,e8,e9,Nq]
   ·rw[app_list,AI];omega
   ·rw[app_list,AI];omega
   ·intro c hc;rw[app_list]at hc
    rcases SZ.mp hc with hc|hc
    ·rw[QT]at hc;exact Q.ab c (XN hc)
    rw[QT]at hc;exact E.ab c (XN hc)
  ·refine⟨B,s5++[.lst []],?_,E,l⟩
   by_cases he:ss=[]
   ·subst he;simp[W]
   ·have i:ss.isEmpty=false:=by cases ss with
     |nil=>exact absurd rfl he
     |cons a b=>rfl
    have hw:¬w=2:=λq=>hc ⟨he,q⟩;have m:(w==2)=false:=by simp[hw]
    simp[W,i,eq_int,m]
 obtain⟨C,o,i6,I,l⟩:=if2;have J:Hm (Hi Js (Hc (mV 0) (Hc (mK (.int 4)) mZ))) (Hq 5) [some (.ref n),some (.int many),some (.str KS),some (.ref f),v4,v5,v6] s=some (.nx [some (.ref n),some (.int many),some (.str KS),some (.ref f),v4,some (.int w),v6],s1):=by simp[e1]
 have K:Hm (Mf (mK (.str "")) (Hc (Jk (NO (Hi KO (Hc (mV 0) (Hc (mL (Hc (mK (.int 1)) (Hc (mK (.int 1)) (Hc (mK (.int 2)) (Hc (mK (.int 3)) (Hc (mK (.int 8)) mZ)))))) mZ)))) 1 [2,0] (Hq 0) IJ T4) mZ)) (Hq 6)
   [some (.ref n),some (.int many),some (.str KS),some (.ref f),v4,some (.int w),v6] s1=some (.nx [some (.ref n),some (.int many),some (.str KS),some (.ref f),v4,some (.int w),some (.str z)],s4):=by
  simp[Jc,JI,IK,Jz,Kk,JU,Km,Aa,Ak,Iv,Ik,Jg,JW,HN,HV,HG,e2,sj,e3,fc,S,ez]
 have last:∃(g:List Str) (A:Hg),HS (JY (mT (mB Iv (Hi Ho (Hc (mV 3) mZ)) (mV 1))) (mT (mB QA (mV 6) (mV 3)))) (Lf (Lh (mV 3) (Hc (mV 6) mZ))) Ia
   [some (.ref n),some (.int many),some (.str KS),some (.ref f),v4,some (.int w),some (.str C)] o=some (.nx [some (.ref n),some (.int many),some (.str KS),some (.ref f),v4,some (.int w),some (.str C)],A)/\Ke n f many st0 g A/\(0<many->g≠[]):=by
  have X:=M6 l.at_;have ei:=zkf l.at_ (λx hx=>(l.ok x hx).str) I.str;by_cases hlt:(ss.length:Int)<many
  ·by_cases hin:C∈ss
   ·exact⟨ss,o,by simp[Jc,JI,IK,Jz,Kk,JU,Km,Aa,Ak,Iv,Ik,Jg,JW,HN,HV,HG,X,ei,hlt,hin],l,λ_ z=>by subst z;cases hin⟩
   ·have Y:=qax l.at_;have H:=append_at (x:=.str C) l.at_ (by rw[Ah];omega);refine⟨ss++[C],o.set f (.lst (ss.map D.str++[.str C])),by simp[Jc,JI,IK,Jz,Kk,JU,Km,Aa,Ak,Iv,Ik,Jg,JW,HN,HV,HG,X,ei,hlt,hin,H,Iw,l.at_],?_,λ_ z=>by simp at z⟩;refine⟨by simp[Y],λx hx=>?_,?_,by simp;omega,?_,?_⟩
    ·rcases SZ.mp hx with hx|hx
     ·exact l.ok x hx
     rw[Os.mp hx];exact I
    ·rw[D0];refine⟨l.nd,by simp,λa ha b hb=>?_⟩;rw[Os.mp hb];rintro rfl;exact hin ha
    ·obtain⟨a,b,e,r⟩:=l.pot;exact⟨a,b,by rw[AG hf];exact e,r⟩
    exact⟨by have:=l.fr.len;simpa using this,λk hk nk=>by rw[AG (by omega)];exact l.fr.old k hk nk⟩
  exact⟨ss,o,by simp[Jc,JI,IK,Jz,Kk,JU,Km,Aa,Ak,Iv,Ik,Jg,JW,HN,HV,HG,X,hlt],l,λhp z=>by subst z;exact hlt (by simpa using hp)⟩
 obtain⟨g,A,T,U,h8⟩:=last;refine⟨g,some (.int w),some (.str C),A,?_,U,h8⟩;exact HA J (HA K (HA i5 (HA i6 T)))
def yN(h:IC n st)(h0:0<=many)(i:many<=100):∃(ss:List Str) (st':Hg),VU [.ref n,.int many] st=some (.ref st.length,st')/\st'[st.length]?=some (.lst<|ss.map D.str)/\(∀x∈ss,Ig x)/\ss.Nodup/\(ss.length:Int)<=many/\IC n st'/\Fr n st st'/\(0<many->ss≠[]):=by
 have hf:st.length≠n:=A5 h.lt;have key:=QE (W:=⟨run 0 (2*many).toNat,[]⟩) (g:=Hq 4) (m:=We) (ds:=run 0 (2*many).toNat) (ρ:=[some (.ref n),some (.int many),some (.str KS),some (.ref st.length),none,none,none]) (st:=st++[.lst []])
  (Inv:=λk ρ s=>∃(ss:List Str) (a b c:Option D),ρ=[some (.ref n),some (.int many),some (.str KS),some (.ref st.length),a,b,c]/\Ke n st.length many st ss s/\(0<k->0<many->ss≠[]))
  ⟨[],none,none,none,rfl,⟨II st _,by simp,by simp,by simpa using h0,h.gr<|Gr.app _ _,Fr.app _ _ _⟩,λz=>absurd z (AW _)⟩ (λ_ _ _ _ _=>rfl) (λk d ρ s hd v=>by obtain⟨ss,a,b,c,rfl,f,_⟩:=v;obtain⟨o,w,y,l,e,r,u⟩:=zki (v4:=some d) (v5:=b) (v6:=c) f hf (Ai _) (by omega);exact⟨_,s,_,l,rfl,e,o,some d,w,y,rfl,r,λ_=>u⟩)
 obtain⟨ρ',l,e,ss,a,b,c,rfl,f,u⟩:=key;refine⟨ss,l,ID ?_,f.at_,f.ok,f.nd,f.len,f.pot,f.fr,λA=>u (by rw[OW];omega) A⟩;unfold iU;refine HA (ρ1:=[some (.ref n),some (.int many),some (.str KS),none,none,none,none]) (s1:=st) (by simp[Jc,JI,IK,Jz,Kk,JU,Km,Aa,Ak,Iv,Ik,Jg,JW,HN,HV,HG]) ?_;refine HA (ρ1:=[some (.ref n),some (.int many),some (.str KS),some (.ref st.length),none,none,none]) (s1:=st++[.lst []]) (by simp) ?_;have E:small (2*many)=true:=R9 (by omega) (by omega);have em:HZ (.int 2) (.int many) (st++[.lst []])=some (.int (2*many),st++[.lst []]):=mul_int (by omega);refine HA (ρ1:=[some (.ref n),some (.int many),some (.str KS),some (.ref st.length),a,b,c]) (s1:=l) (by simp[em,E,e]) ?_;simp
def yO(h:IC n st)(h0:0<=many)(i:many<=100):∃(ss:List Str) (st':Hg),VU [.ref n,.int many] st=some (.ref st.length,st')/\st'[st.length]?=some (.lst<|ss.map D.str)/\(∀x∈ss,Ig x)/\ss.Nodup/\(ss.length:Int)<=many/\IC n st'/\Fr n st st':=by obtain⟨ss,s,a,b,c,d,e,f,g,_⟩:=yN h h0 i;exact⟨ss,s,a,b,c,d,e,f,g⟩
end L2.MP.Hn
namespace L2.MP
open PySem
def Jb(p:Str×Int):D:=.tup [.str p.1,.int p.2]
def Ju(k:List Str):D:=.tup<|k.map D.str
def zlN{n:Nat}{st:Hg}{k:Nat}:∀{ks:List (List Str)},st[k]?=some (.lst<|ks.map Ju)->(∀q∈ks,∀x∈q,Ao x=true)->Jn (n+3) st (.ref k)=some (.list<|ks.map λq=>.tuple (q.map CG)):=by
 intro ks hk h;rw[Jn];simp only[Iw,hk,Aa];have:∀l:List (List Str),(∀q∈l,∀x∈q,Ao x=true)->K0 (Jn (n+2) st) (l.map Ju)=some (l.map λq=>.tuple (q.map CG)):=by
  intro l
  induction l with
  |nil=>intro _;rfl
  |cons q l s=>
   intro o;rw[Ax,K0];have e:Jn (n+2) st (Ju q)=some (.tuple<|q.map CG):=by unfold Ju;rw[Jn,Yu (λx u=>OZ u) (o q Al)];rfl
   rw[e,Aa,s λr v=>o r (Aj _ v)];rfl
 rw[this ks h];rfl
def vF{st:Hg}{f g:Nat}{ks:List (List Str)}(hf:st[f]?=some (.lst<|ks.map Ju))(a:st[g]?=some (.lst []))(h:∀q∈ks,∀x∈q,Ao x=true):IP (.ref f) (.ref g) st=some (.bl (!ks.isEmpty),st):=by
 unfold IP;rw[zlN (n:=97) hf h,QL (n:=98) (ss:=[]) a (by simp)]
 cases ks<;>rfl
end L2.MP
namespace L2.MP.Hn
open PySem L2.MP
structure K6(x:Str):Prop where
 len:x.cps.toList.length<=1
 ab:∀c∈x.cps.toList,(97<=c/\c<=122)\/(48<=c/\c<=57)
variable {x:Str}
def K6.str(h:K6 x):Ao x=true:=by unfold Ao;rw[DO];intro c l;have:=h.ab c (by simpa using l);simp;omega
def Pl(ns:List Str)(x:Str):Prop:=x=""\/x∈ns
def Qu(ns:List Str)(k:List Str):Prop:=∃f a b c d,k=[f,a,b,c,d]/\K6 f/\Pl ns a/\Pl ns b/\Pl ns c/\Pl ns d
def dW:Ao ("":Str)=true:=by decide +kernel
variable {ns:List Str}
def Pl.str{ns:List Str}{x:Str}(a:∀y∈ns,Ig y)(h:Pl ns x):Ao x=true:=by
 rcases h with rfl|h
 ·exact dW
 exact(a x h).str
def Qu.str{ns:List Str}{k:List Str}(e:∀y∈ns,Ig y)(h:Qu ns k):∀x∈k,Ao x=true:=by
 obtain⟨f,a,b,c,d,rfl,hf,o,r,s,hd⟩:=h;intro x l;simp at l;rcases l with rfl|rfl|rfl|rfl|rfl
 ·exact hf.str
 ·exact o.str e
 ·exact r.str e
 ·exact s.str e
 exact hd.str e
variable {n l:Nat}{st:Hg}{ss:List Str}{v:Option D}
def zlP(h:IC n st)(j:st[l]?=some (.lst<|ss.map D.str))(i:l≠n):∃(f:List (Str×Int)) (st':Hg),
  Kq ⟨ss.map D.str,[(l,ss.map D.str)]⟩ (Hq 0) IJ V6 (ss.map D.str) [v,some (.ref n)] st=some (f.map Jb,st')/\f.map (·.1)=ss/\(∀p∈f,1<=p.2/\p.2<=4)/\IC n st'/\Fr n st st':=by
 have key:=Rv (W:=⟨ss.map D.str,[(l,ss.map D.str)]⟩) (g:=Hq 0) (c:=IJ) (m:=V6) (ds:=ss.map D.str) (acc:=[]) (st:=st) (ρ:=[v,some (.ref n)])
  (Inv:=λk a ρ s=>(∃x,ρ=[x,some (.ref n)])/\(∃f:List (Str×Int),a=f.map Jb/\f.map (·.1)=ss.take k/\∀p∈f,1<=p.2/\p.2<=4)/\IC n s/\Fr n st s)
  ⟨⟨v,rfl⟩,⟨[],rfl,by simp,by simp⟩,h,Fr.refl _ _⟩ (λk a ρ s _ o=>R8 ((o.2.2.2.old l (qax j) i).trans j)) (λk d a ρ s hd o=>by
   obtain⟨⟨x,rfl⟩,⟨f,rfl,hm,u⟩,hp,hf⟩:=o;rw[AJ]at hd;obtain⟨y,A,rfl⟩:=IL hd;obtain⟨d,s1,E,hd,Q,f1⟩:=Pm [.int 1,.int 2,.int 4] hp (by decide) (by decide);obtain⟨m,rfl,q,z⟩:∃m:Int,d=.int m/\1<=m/\m<=4:=by
    simp at hd;rcases hd with rfl|rfl|rfl<;>exact⟨_,rfl,by decide,by decide⟩
   obtain⟨r,s2,B,F,G,p2,f2,_⟩:=KZ (many:=m) Q (by omega) (by omega);refine⟨[some (.str y),some (.ref n)],s,true,s,rfl,rfl,.inl ⟨rfl,Jb (y,1+r),s2,?_,⟨_,rfl⟩,⟨f++[(y,1+r)],by simp,?_,?_⟩,p2,hf.trans<|f1.trans f2⟩⟩
   ·unfold V6 Jb;simp[E,B]
   ·rw[BL,hm,FT,A];rfl
   ·intro p hp
    rcases SZ.mp hp with hp|hp
    ·exact u p hp
    rw[Os.mp hp];exact⟨by show 1<=1+r;omega,by show 1+r<=4;omega⟩)
 obtain⟨xs,ρ',C,e,_,⟨f,w,hm,u⟩,hp,hf⟩:=key;rw[BZ]at w;subst w;refine⟨f,C,e,?_,u,hp,hf⟩;rw[hm,Ah,CF]
variable {sd:List Str}
def zR(h:IC n st)(i:st[l]?=some (.lst<|sd.map D.str))(f:l≠n)(h0:0<sd.length)(B:sd.length<1000):∃(xs:List Str) (st':Hg),
  Kq ⟨run 0 4,[]⟩ (Hq 0) IJ Sd (run 0 4) [v,some (.ref n),some (.ref l)] st=some (xs.map D.str,st')/\xs.length=4/\(∀x∈xs,x∈sd)/\IC n st'/\Fr n st st':=by
 have key:=Rv (W:=⟨run 0 4,[]⟩) (g:=Hq 0) (c:=IJ) (m:=Sd) (ds:=run 0 4) (acc:=[]) (st:=st) (ρ:=[v,some (.ref n),some (.ref l)])
  (Inv:=λk a ρ s=>(∃x,ρ=[x,some (.ref n),some (.ref l)])/\(∃xs:List Str,a=xs.map D.str/\xs.length=k/\∀x∈xs,x∈sd)/\IC n s/\Fr n st s)
  ⟨⟨v,rfl⟩,⟨[],rfl,rfl,by simp⟩,h,Fr.refl _ _⟩ (λ_ _ _ _ _ _=>rfl) (λk d a ρ s hd w=>by
   obtain⟨⟨x,rfl⟩,⟨xs,rfl,hlen,o⟩,r,hf⟩:=w;obtain⟨C,s1,A,u,E,f1⟩:=of_ok r ((hf.old l (qax i) f).trans i) (by simpa using h0) (by rw[Ah];omega) f;obtain⟨y,Q,rfl⟩:=UV.mp u;refine⟨[some d,some (.ref n),some (.ref l)],s,true,s,rfl,rfl,.inl ⟨rfl,.str y,s1,?_,⟨_,rfl⟩,⟨xs++[y],by simp,by simp[hlen],?_⟩,E,hf.trans f1⟩⟩
   ·unfold Sd;simp[A]
   ·intro z hz
    rcases SZ.mp hz with hz|hz
    ·exact o z hz
    rw[Os.mp hz];exact Q)
 obtain⟨F,ρ',j,e,_,⟨xs,o,hm,q⟩,r,hf⟩:=key;rw[BZ]at o;subst o;exact⟨xs,j,e,by rw[hm,OW],q,r,hf⟩
noncomputable abbrev signs:Str:="abcdefghijklmnopqrstuvwxyz0123456789"
def signs_at:∀k:Nat,k<36->∃c,signs.cps[k]?=some c/\((97<=c/\c<=122)\/(48<=c/\c<=57)):=by
 have:∀k:Nat,k<36->(match signs.cps[k]? with|some c=>decide ((97<=c/\c<=122)\/(48<=c/\c<=57))|none=>false)=true:=by decide +kernel
 intro k hk;have h:=this k hk;cases e:signs.cps[k]? with
 |none=>rw[e]at h;cases h
 |some c=>rw[e]at h;exact⟨c,rfl,of_decide_eq_true h⟩
def dY{z:Str}{b:Bool}(a:z.length<=100):HZ (.str z) (.int<|if b=true then 1 else 0) st=some (.str (if b=true then z else Eu),st):=by
 have l:sizeLine=16777216:=by decide
 cases b with
 |true=>
  have e:IW z 1=z:=by simp[IW]
  simp[HZ,JG,KD,Pb,intD,Kz,e,l];omega
 |false=>
  have e:IW z 0=Eu:=by simp[IW]
  have n:Str.empty.length=0:=by decide
  simp[HZ,JG,KD,Pb,intD,Kz,e,l,n]
structure Lk(n f l:Nat)(ns sd:List Str)(st0:Hg)(ks:List (List Str))(s:Hg):Prop where
 at_:s[f]?=some (.lst (ks.map Ju))
 sd_:s[l]?=some (.lst (sd.map D.str))
 ok:∀k∈ks,Qu ns k
 pot:IC n s
 fr:Fr n st0 s
variable {f:Nat}{st0 s:Hg}{ks:List (List Str)}
def Lk.fr'{s':Hg}(h:Lk n f l ns sd st0 ks s)(hf:f≠n)(a:l≠n)(p:IC n s')(g:Fr n s s'):Lk n f l ns sd st0 ks s':=⟨(g.old f (qax h.at_) hf).trans h.at_,(g.old l (qax h.sd_) a).trans h.sd_,h.ok,p,h.fr.trans g⟩
def Lk.app{n f l:Nat}{ns sd:List Str}{st0:Hg}{ks:List (List Str)}{s:Hg}(h:Lk n f l ns sd st0 ks s)(hf:f≠n)(a:l≠n)(o:List O):Lk n f l ns sd st0 ks (s++o):=h.fr' hf a (h.pot.gr<|Gr.app _ _)<|Fr.app _ _ _
noncomputable abbrev Jp (n:Nat) (most:Int) (v2 v3:Option D) (l f:Nat) (v7 v8 v9:Option D):HX:=[some (.ref n),some (.int most),v2,v3,some (.str signs),some (.ref l),some (.ref f),v7,v8,v9]
def N9{xs:List Str}(h:xs.length=4):∃a b c d,xs=[a,b,c,d]:=by
 match xs,h with
 |[a,b,c,d],_=>exact⟨a,b,c,d,rfl⟩
variable {most:Int}
def zkT{ns sd:List Str}{v2 v3 v7 v8 v9:Option D}(h:Lk n f l ns sd st0 ks s)(hf:f≠n)(i:l≠n)(J:f≠l)(hf0:st0.length<=f)(g:∀x∈sd,Pl ns x)(K:∀x∈ns,Ig x)(h0:0<sd.length) (h1:sd.length<1000) (hk:ks.length<=1000):∃(k:List Str) (w8 w9:Option D) (s':Hg),Wb (Jp n most v2 v3 l f v7 v8 v9) s=some (.nx (Jp n most v2 v3 l f v7 w8 w9),s')/\Lk n f l ns sd st0 (ks++[k]) s':=by
 obtain⟨r,s1,e1,r0,r1,p1,f1,_⟩:=KZ (many:=36) h.pot (by decide) (by decide);obtain⟨c,hc,L⟩:=signs_at r.toNat (by omega);have ei:Hr (.str signs) (.int r) s1=some (.str ⟨#[c]⟩,s1):=RM (by decide) r0 hc;obtain⟨q,s2,e2,q0,q1,p2,f2,_⟩:=KZ (many:=4) p1 (by decide) (by decide);have Z:=h.fr' hf i p2<|f1.trans f2;obtain⟨face,ef,E⟩:∃face:Str,HZ (.str ⟨#[c]⟩) (.int<|if 0<q then 1 else 0) s2=some (.str face,s2)/\K6 face:=by
  have e:=dY (z:=⟨#[c]⟩) (b:=decide (0<q)) (st:=s2) (by show 1<=100;decide);refine⟨_,by simpa using e,?_⟩
  by_cases H:0<q
  ·rw[if_pos (by simpa using H)];exact⟨by simp,λx hx=>by simp at hx;rw[hx];exact L⟩
  rw[if_neg (by simpa using H)];exact⟨by decide,λx hx=>by rw[show Str.empty.cps.toList=[] from by decide]at hx;cases hx⟩
 obtain⟨xs,s3,e3,M,hxs,p3,f3⟩:=zR (v:=none) p2 Z.sd_ i h0 h1;have h3:=Z.fr' hf i p3 f3;have h4:=h3.app hf i [.lst (xs.map D.str)];obtain⟨a,b,o,d,rfl⟩:=N9 M;have ka:Qu ns [face,a,b,o,d]:=⟨face,a,b,o,d,rfl,E,g a<|hxs a<|by simp,g b<|hxs b<|by simp,g o<|hxs o<|by simp,g d<|hxs d<|by simp⟩
 have et:=Px<|II s3<|.lst<|[a,b,o,d].map D.str;have Q:Hm (mB HZ (mB Hr (mV 4)<|Hi Js<|Hc (mV 0)<|Hc (mK<|.int 36)<|mZ)<|Hi HV<|Hc (mB Jg (Hi Js<|Hc (mV 0)<|Hc (mK<|.int 4)<|mZ)<|mK<|.int 0)<|mZ) (Hq 8) (Jp n most v2 v3 l f v7 v8 v9) s=some (.nx (Jp n most v2 v3 l f v7 (some<|.str face) v9),s2):=by simp[Jp,Jc,JI,IK,Jz,Kk,JU,Km,Aa,Ak,Iv,Ik,Jg,JW,HN,HV,HG,e1,ei,e2,ef]
 have sm:small 4=true:=R9 (by decide) (by decide);have W:Hh (.tup [.str face]) (.tup [.str a,.str b,.str o,.str d]) (s3++[.lst [.str a,.str b,.str o,.str d]])=some (.tup [.str face,.str a,.str b,.str o,.str d],s3++[.lst [.str a,.str b,.str o,.str d]]):=cF (by simp) (by simp);have m:Kq ⟨run 0<|Int.toNat 4,[]⟩ (Hq 0) IJ Sd (run 0<|Int.toNat 4) [none,some (.ref n),some (.ref l)] s2=some ([.str a,.str b,.str o,.str d],s3):=e3;have B:Mr [.ref s3.length] (s3++[.lst [.str a,.str b,.str o,.str d]])=some (.tup [.str a,.str b,.str o,.str d],s3++[.lst [.str a,.str b,.str o,.str d]]):=et;have y:Hm (mB Hh (mU<|Hc (mV 8)<|mZ)<|Hi Mr<|Hc (Jk (NO<|mK<|.int 4) 1 [0,5] (Hq 0) IJ<|Sd)<|mZ) (Hq 9) (Jp n most v2 v3 l f v7 (some<|.str face) v9) s2=some (.nx (Jp n most v2 v3 l f v7 (some<|.str face)<|some<|Ju [face,a,b,o,d]),s3++[.lst ([a,b,o,d].map D.str)]):=by simp[Jp,Jc,JI,IK,Jz,Kk,JU,Km,Aa,Ak,Iv,Ik,Jg,JW,HN,HV,HG,sm,Ju]at m B W ⊢;simp[m,Jc,JI,IK,Jz,Kk,JU,Km,Aa,Ak,Iv,Ik,Jg,JW,HN,HV,HG,B,W]
 generalize hs4:s3++[O.lst ([a,b,o,d].map D.str)]=s4 at h4 y;have N:∃(k:List Str) (A:Hg),HS (JY (mT<|mB IP (mV 6)<|mL<|mZ)<|mT<|mB Il (Hi Js<|Hc (mV 0)<|Hc (mK<|.int 8)<|mZ)<|mK<|.int 0) (Hm (Hi KO<|Hc (mV 0)<|Hc (mV 6)<|mZ)<|Hq 9) Ia
   (Jp n most v2 v3 l f v7 (some<|.str face)<|some<|Ju [face,a,b,o,d]) s4=some (.nx (Jp n most v2 v3 l f v7 (some<|.str face)<|some<|Ju k),A)/\Qu ns k/\Lk n f l ns sd st0 ks A:=by
  have C:=h4.app hf i [.lst []];have S:=vF C.at_ (II s4<|.lst []) λq H=>(C.ok q H).str K
  by_cases he:ks=[]
  ·subst he;exact⟨[face,a,b,o,d],s4++[.lst []],by simp[Jp,S],ka,C⟩
  ·have F:ks.isEmpty=false:=by cases ks with
    |nil=>exact absurd rfl he
    |cons a b=>rfl
   obtain⟨u,A,I,u0,u1,p6,f6,_⟩:=KZ (many:=8) C.pot (by decide) (by decide);have w:=C.fr' hf i p6 f6
   by_cases hu:u=0
   ·subst hu;obtain⟨d7,s7,e7,T,p7,f7⟩:=of_ok w.pot w.at_ (by rw[Ah];exact List.length_pos_iff.mpr he) (by rw[Ah];omega) hf;obtain⟨k,U,rfl⟩:=UV.mp T;exact⟨k,s7,by simp[Jp,S,F,I,eq_int,e7],w.ok k U,w.fr' hf i p7 f7⟩
   ·have X:(u==0)=false:=by simp[hu]
    exact⟨[face,a,b,o,d],A,by simp[Jp,S,F,I,eq_int,X],ka,w⟩
 obtain⟨k,A,I,kk,w⟩:=N;have ea:=append_at (x:=Ju k) w.at_ (by rw[Ah];omega);have Y:=qax w.at_;have G:Lf (Lh (mV 6)<|Hc (mV 9)<|mZ) (Jp n most v2 v3 l f v7 (some<|.str face)<|some<|Ju k) A=some (.nx (Jp n most v2 v3 l f v7 (some<|.str face)<|some<|Ju k),A.set f (.lst<|ks.map Ju++[Ju k])):=by simp[Jp,Iw,w.at_,ea]
 refine⟨k,some<|.str face,some<|Ju k,A.set f<|.lst<|ks.map Ju++[Ju k],?_,?_⟩
 ·unfold Wb;exact HA Q<|HA y<|HA I G
 ·refine⟨by simp[Y],by rw[AG J];exact w.sd_,λx hx=>?_,?_,⟨by have:=w.fr.len;simpa using this,λj hj nj=>by rw[AG (by omega)];exact w.fr.old j hj nj⟩⟩
  ·rcases SZ.mp hx with hx|hx
   ·exact w.ok x hx
   rw[Os.mp hx];exact kk
  obtain⟨a,b,e,r⟩:=w.pot;exact⟨a,b,by rw[AG hf];exact e,r⟩
structure Jx where
 e:Int
 sticks:List (Str×Int)
 kinds:List (List Str)
def Jx.d(h:Jx):D:=.tup [.int h.e,.tup (h.sticks.map Jb),.tup (h.kinds.map Ju)]
structure Jx.Ok(h:Jx)(most:Int):Prop where
 e0:1<=h.e
 e1:h.e<=4
 names:∀p∈h.sticks,Ig p.1
 srt:(h.sticks.map (·.1)).Pairwise λa b=>sle a b=true
 nd:(h.sticks.map (·.1)).Nodup
 str:∀p∈h.sticks,1<=p.2/\p.2<=4
 few:h.sticks.length<=5
 kind:∀k∈h.kinds,Qu (h.sticks.map (·.1)) k
 k0:0<h.kinds.length
 k1:(h.kinds.length:Int)<=most
def zf7(a:st[l]?=some (.lst<|ss.map D.str))(h:ss.length<64):OY [.ref l] st=some (.ref st.length,st++[.lst ((OX ss).map D.str)]):=by simp[OY,N7,QK,Iw,a,YE,h,JH]
def xZ(h:IC n st)(h0:1<=most)(h1:most<=500):∃(ho:Jx) (st':Hg),YV [.ref n,.int most] st=some (ho.d,st')/\ho.Ok most/\IC n st'/\Fr n st st':=by
 obtain⟨d,s1,e1,hd,p1,f1⟩:=Pm [.int 1,.int 2,.int 2,.int 3,.int 5,.int 0] h (by decide) (by decide);obtain⟨m,rfl,hm0,hm5⟩:∃m:Int,d=.int m/\0<=m/\m<=5:=by
  simp at hd;rcases hd with rfl|rfl|rfl|rfl|rfl<;>exact⟨_,rfl,by decide,by decide⟩
 obtain⟨ss,s2,e2,at2,ok2,nd2,Oa,p2,f2⟩:=yO p1 hm0 (by omega);have es:=zf7 at2 (by omega);have l:(OX ss).Perm ss:=CN _ _;have Q:(OX ss).Pairwise λa b=>sle a b=true:=Cd (λa b c h1 h2=>Ys a b c h1 h2) (λa b=>gS a b) ss;have j:∀x∈OX ss,Ig x:=λx hx=>ok2 x (l.mem_iff.mp hx);have I:(OX ss).Nodup:=l.nodup_iff.mpr nd2;have J:(OX ss).length<=5:=by rw[l.length_eq];omega
 generalize OX ss=ns at es Q j I J;generalize K:s2++[O.lst (ns.map D.str)]=s3 at es;have g3:Gr s2 s3:=by rw[<-K];exact Gr.app _ _
 have p3:=p2.gr g3;have y:s3[s2.length]?=some (.lst (ns.map D.str)):=by rw[<-K];exact II _ _
 have n2:s2.length≠n:=A5 p2.lt;obtain⟨o,s4,e4,w,hv2,p4,f4⟩:=zlP (v:=none) p3 y n2;have L:s4[s2.length]?=some (.lst (ns.map D.str)):=(f4.old _ (qax y) n2).trans y;have hvl:o.length=ns.length:=by rw[<-w,Ah]
 have fv:fits (o.map Jb).length=true:=Ku (by rw[Ah];omega);have et:=Px (II s4 (.lst (o.map Jb)));generalize M:s4++[O.lst (o.map Jb)]=s5 at et;have g5:Gr s4 s5:=by rw[<-M];exact Gr.app _ _
 have p5:=p4.gr g5;have A:s5[s2.length]?=some (.lst (ns.map D.str)):=(g5.old _ (qax L)).trans L;have a1:=QC (st:=s5++[.lst [.str ""]]) (II s5 _) (((Gr.app s5 [.lst [.str ""]]).old _ (qax A)).trans A) (by simp;omega);generalize N:s5++[O.lst [.str ""]]=q at a1;have g6:Gr s5 q:=by rw[<-N];exact Gr.app _ _
 have E:q[s2.length]?=some (.lst (ns.map D.str)):=(g6.old _ (qax A)).trans A;have a2:=QC (st:=q++[.lst ([.str ""]++ns.map D.str)]) (II q _) (((Gr.app q [.lst ([.str ""]++ns.map D.str)]).old _ (qax E)).trans E) (by simp;omega);generalize hs7:q++[O.lst ([.str ""]++ns.map D.str)]=z at a1 a2;have g7:Gr q z:=by rw[<-hs7];exact Gr.app _ _
 have S:z[s2.length]?=some (.lst (ns.map D.str)):=(g7.old _ (qax E)).trans E;have a3:=QC (st:=z++[.lst ([.str ""]++ns.map D.str++ns.map D.str)]) (II z _) (((Gr.app z [.lst ([.str ""]++ns.map D.str++ns.map D.str)]).old _ (qax S)).trans S) (by simp;omega);generalize hs8:z++[O.lst ([.str ""]++ns.map D.str++ns.map D.str)]=u at a2 a3;have g8:Gr z u:=by rw[<-hs8];exact Gr.app _ _
 obtain⟨sd,B⟩:∃sd:List Str,sd=(("":Str)::ns)++ns++ns:=⟨_,rfl⟩;have T:[D.str ""]++ns.map D.str++ns.map D.str++ns.map D.str=sd.map D.str:=by rw[B];simp
 rw[T]at a3;generalize U:u++[O.lst (sd.map D.str)]=f at a3;have X:f[u.length]?=some (.lst (sd.map D.str)):=by rw[<-U];exact II _ _
 have g9:Gr u f:=by rw[<-U];exact Gr.app _ _
 have p9:IC n f:=((((p5.gr g6).gr g7).gr g8)).gr g9;have n8:u.length≠n:=A5 (((p5.gr g6).gr g7).gr g8).lt;have g59:Gr s5 f:=((g6.trans g7).trans g8).trans g9;have p10:=p9.gr (Gr.app f [.lst []]);obtain⟨r,C,e11,r0,r1,p11,F,_⟩:=KZ (many:=most) p10 (by omega) (by omega);have n9:f.length≠n:=A5 p9.lt;have l9:u.length<f.length:=qax X;have Y:C[f.length]?=some (.lst []):=(F.old _ (by simp) n9).trans (II f _);have Z:C[u.length]?=some (.lst (sd.map D.str)):=(F.old _ (by simp;omega) n8).trans (((Gr.app f [.lst []]).old _ l9).trans X);have hsdk:∀x∈sd,Pl ns x:=λx hx=>by
  rw[B]at hx;simp at hx;rcases hx with rfl|hx
  ·exact .inl rfl
  exact .inr hx
 have sdl:sd.length=1+3*ns.length:=by rw[B];simp;omega
 have key:=QE (W:=⟨run 0 (1+r).toNat,[]⟩) (g:=Hq 7) (m:=Wb) (ds:=run 0 (1+r).toNat) (ρ:=Jp n most (some (.ref s2.length)) (some (.tup (o.map Jb))) u.length f.length none none none) (st:=C)
  (Inv:=λk ρ s=>∃(ks:List (List Str)) (a b c:Option D),ρ=Jp n most (some (.ref s2.length)) (some (.tup (o.map Jb))) u.length f.length a b c/\ks.length=k/\Lk n f.length u.length ns sd f ks s)
  ⟨[],none,none,none,rfl,rfl,⟨Y,Z,by simp,p11,(Fr.app n f _).trans F⟩⟩ (λ_ _ _ _ _=>rfl) (λk d ρ s hd hI=>by obtain⟨ks,a,b,c,rfl,hk,G⟩:=hI;have H:k<(run 0 (1+r).toNat).length:=qax hd;rw[OW]at H;obtain⟨kd,w8,w9,s',e,hN'⟩:=zkT (most:=most) (v2:=some (.ref s2.length)) (v3:=some (.tup (o.map Jb))) (v7:=some d) (v8:=b) (v9:=c) G n9 n8 (A5 l9) (Ai _) hsdk j (by omega) (by omega) (by omega);exact⟨_,s,_,s',rfl,e,ks++[kd],some d,w8,w9,rfl,by simp[hk],hN'⟩)
 obtain⟨ρ',s12,e12,ks,a,b,c,rfl,H,G⟩:=key;rw[OW]at H;obtain⟨d13,s13,e13,i,p13,f13⟩:=Pm [.int 1,.int 2,.int 2,.int 3,.int 4] G.pot (by decide) (by decide);obtain⟨en,rfl,en1,en4⟩:∃m:Int,d13=.int m/\1<=m/\m<=4:=by
  simp at i;rcases i with rfl|rfl|rfl|rfl<;>exact⟨_,rfl,by decide,by decide⟩
 have at13:s13[f.length]?=some (.lst (ks.map Ju)):=(f13.old _ (qax G.at_) n9).trans G.at_;have et13:=Px at13;refine⟨⟨en,o,ks⟩,s13,ID ?_,?_,p13,?_⟩
 ·unfold jB Jx.d;refine HA (ρ1:=[some (.ref n),some (.int most),some (.ref s2.length),none,none,none,none,none,none,none]) (s1:=s3) (by simp[Jc,JI,IK,Jz,Kk,JU,Km,Aa,Ak,Iv,Ik,Jg,JW,HN,HV,HG,e1,e2,es]) ?_;refine HA (ρ1:=[some (.ref n),some (.int most),some (.ref s2.length),some (.tup (o.map Jb)),none,none,none,none,none,none]) (s1:=s5) (by
   have fv':=fv;simp only[Ah]at fv';simp[Jc,JI,IK,Jz,Kk,JU,Km,Aa,Ak,Iv,Ik,Jg,JW,HN,HV,HG,Rp,Iw,y,e4,fv',M,et]) ?_
  refine HA (ρ1:=[some (.ref n),some (.int most),some (.ref s2.length),some (.tup (o.map Jb)),some (.str signs),none,none,none,none,none]) (s1:=s5) (by simp) ?_;refine HA (ρ1:=[some (.ref n),some (.int most),some (.ref s2.length),some (.tup (o.map Jb)),some (.str signs),some (.ref u.length),none,none,none,none]) (s1:=f) (by
   simp[N,a1,a2,a3]) ?_
  refine HA (ρ1:=[some (.ref n),some (.int most),some (.ref s2.length),some (.tup (o.map Jb)),some (.str signs),some (.ref u.length),some (.ref f.length),none,none,none]) (s1:=f++[.lst []]) (by simp) ?_;have sm:small (1+r)=true:=R9 (by omega) (by omega);refine HA (ρ1:=Jp n most (some (.ref s2.length)) (some (.tup (o.map Jb))) u.length f.length a b c) (s1:=s12) (by simp[e11,sm];exact e12) ?_;simp[Jp,e13,et13]
 ·refine⟨en1,en4,λp hp=>j p.1 (by rw[<-w];exact List.mem_map_of_mem hp),by rw[w];exact Q,by rw[w];exact I,hv2,by show o.length<=5;omega,λk hk=>by rw[w];exact G.ok k hk,by show 0<ks.length;omega,by show(ks.length:Int)<=most;omega⟩
 have fr1:Fr n st s3:=(f1.trans f2).trans (g3.fr n);have fr2:Fr n st f:=(fr1.trans f4).trans ((g5.trans g59).fr n);exact(fr2.trans G.fr).trans f13
end L2.MP.Hn
namespace L2.MP
open PySem
def hU:∀t:List Int,intsOf (t.map D.int)=some t
 |[]=>rfl
 |x::t=>by rw[Ax,intsOf,hU t];rfl
def gX:∀{rows:List (List Int)},(∀r∈rows,r≠[])->rowsOf (rows.map HD)=some rows
 |[],_=>rfl
 |r::rows,h=>by
  have c:rowOf (HD r)=some r:=by
   unfold rowOf HD;simp only[hU,Aa];have:r.isEmpty=false:=by
    cases r with
    |nil=>exact absurd rfl<|h [] Al
    |cons a b=>rfl
   simp[this]
  rw[Ax,rowsOf,c,Aa,gX λq l=>h q (Aj _ l)];rfl
variable {st:Hg}
def zjw{l:Nat}{rows:List (List Int)}(c:st[l]?=some (.lst<|rows.map HD))(h:∀r∈rows,r≠[])(a:rows.length<64):OY [.ref l] st=some (.ref st.length,st++[.lst ((Ph rows).map HD)]):=by
 match rows,c,h,a with
 |[],c,h,a=>simp[OY,N7,QK,Iw,c,strsOf,OX,Ph,JH]
 |[r],c,h,a=>
  have e:strsOf [HD r]=none:=rfl;simp[OY,N7,QK,TK,Iw,c,e,Ph,JH,Kz]
 |r::q::rows,c,h,a=>
  have e:strsOf (HD r::HD q::rows.map HD)=none:=rfl;have o:=gX h;simp only[Ax]at o;simp at a;have s:rows.length+1+1<64:=by omega
  simp[OY,N7,QK,TK,VC,Iw,c,e,o,JH,Kz,s]
def zjx(rows:List (List Int)):(Ph rows).Perm rows:=CN _ _
def zlU(rows:List (List Int)):(Ph rows).Pairwise λa b=>Kv a b=true:=Cd (λa b c=>VM a b c) gJ rows
noncomputable abbrev Tl:=Int×Int×Int
def Iy(t:Tl):List Key×D:=([Dk t.1,Dk t.2.1],.int t.2.2)
def HL(t:Tl):List Int:=[t.1,t.2.1,t.2.2]
def Ld(a b:Tl):Bool:=decide (a.1=b.1)&&decide (a.2.1=b.2.1)
def K2(l:List Tl)(t:Tl):List Tl:=if l.any (λu=>Ld u t)=true then l.map (λu=>if Ld u t=true then t else u)else l++[t]
def WY(u t:Tl):decide ((Iy u).1=(Iy t).1)=Ld u t:=by unfold Iy Ld;by_cases h1:u.1=t.1<;>by_cases h2:u.2.1=t.2.1<;>simp[h1,h2]
def tO(l:List Tl)(t:Tl):putD (l.map Iy) (Iy t).1 (Iy t).2=(K2 l t).map Iy:=by
 unfold putD K2;have e:((l.map Iy).any λr=>decide (r.1=(Iy t).1))=l.any λu=>Ld u t:=by
  rw[List.any_map]
  congr 1
  funext u
  exact WY u t
 rw[e];split
 ·rw[By,By];apply CP;intro u _;show(if(Iy u).1=(Iy t).1 then _ else _)=Iy (if Ld u t=true then t else u)
  by_cases h:Ld u t=true
  ·have o:(Iy u).1=(Iy t).1:=of_decide_eq_true<|(WY u t).trans h;rw[if_pos o,if_pos h,o]
  have o:¬(Iy u).1=(Iy t).1:=λz=>h<|(WY u t).symm.trans<|decide_eq_true z;rw[if_neg o,if_neg h]
 rw[BL];rfl
def MQ(l:List Tl):Prop:=l.Pairwise λa b=>Ld a b=false
def YM(a b:Tl):Ld a b=Ld b a:=by unfold Ld;by_cases h1:a.1=b.1<;>by_cases h2:a.2.1=b.2.1<;>simp[h1,h2,eq_comm]
variable {l:List Tl}{t:Tl}
def tP(h:MQ l):MQ (K2 l t):=by
 unfold K2;split
 ·unfold MQ at *;rw[List.pairwise_map];refine h.imp λ{a b} r=>?_;have u:∀{a b c:Tl},Ld a b=true->Ld a c=Ld b c:=λ{a b c} q=>by
   unfold Ld at *;simp at q;rw[q.1,q.2]
  by_cases s:Ld a t=true
  ·by_cases o:Ld b t=true
   ·have v:Ld a b=Ld t b:=u s;rw[YM]at o;rw[v,o]at r;cases r
   rw[if_pos s,if_neg o,YM];simpa using o
  ·by_cases o:Ld b t=true
   ·rw[if_neg s,if_pos o];simpa using s
   rw[if_neg s,if_neg o];exact r
 ·rename_i w;unfold MQ at *;rw[List.pairwise_append];refine⟨h,List.pairwise_singleton _ _,λa s b o=>?_⟩;rw[Os.mp o]
  cases e:Ld a t with
  |false=>rfl
  |true=>exact absurd (List.any_eq_true.mpr ⟨a,s,e⟩) w
def xK{P:Tl->Prop}{l:List Tl}{t:Tl}(h:∀u∈l,P u)(a:P t):∀u∈K2 l t,P u:=by
 unfold K2;split
 ·intro u hu;obtain⟨v,o,rfl⟩:=UV.mp hu
  split
  ·exact a
  exact h v o
 ·intro u hu
  rcases SZ.mp hu with hu|hu
  ·exact h u hu
  rw[Os.mp hu];exact a
def xM(l:List Tl)(t:Tl):(K2 l t).length<=l.length+1:=by
 unfold K2;split
 ·rw[Ah];omega
 simp
def tD{t:Nat}{x y k:Int}(h:st[t]?=some (.dt<|l.map Iy))(a:l.length<=1000):dput st t (.tup [.int x,.int y]) (.int k)=some (st.set t<|.dt<|(K2 l (x,y,k)).map Iy):=by have o:(l.map Iy).length<sizeLine:=BV (by rw[Ah];exact a) (by decide);have e:=tO l (x,y,k);have r:keysOf [.int x,.int y]=some (Iy (x,y,k)).1:=rfl;have s:D.int k=(Iy (x,y,k)).2:=rfl;unfold dput;simp only[h,r,Aa];rw[s,e,if_pos (decide_eq_true o)]
end L2.MP
namespace L2.MP.Hn
open PySem L2.MP
def WN(w h a:Int)(t:Tl):Prop:=0<=t.1/\t.1<w/\0<=t.2.1/\t.2.1<h/\0<=t.2.2/\t.2.2<a
structure KP(w h kn:Int)(ts:List Tl):Prop where
 ok:∀t∈ts,WN w h kn t
 nd:MQ ts
 srt:(ts.map HL).Pairwise λa b=>Kv a b=true
def QH(ts:List Tl):D:=.tup<|ts.map λt=>HD (HL t)
def zlT(l:List Tl):∃a:List Tl,a.Perm l/\a.map HL=Ph (l.map HL):=by
 have o:=zjx<|l.map HL;have:∀(rs:List (List Int)) (l:List Tl),rs.Perm (l.map HL)->∃a:List Tl,a.Perm l/\a.map HL=rs:=by
  intro rs l h;refine⟨rs.map λr=>(r.getD 0 0,r.getD 1 0,r.getD 2 0),?_,?_⟩
  ·have:=h.map λr:List Int=>((r.getD 0 0,r.getD 1 0,r.getD 2 0):Tl)
   rw[By]at this;have e:(λr:List Int=>((r.getD 0 0,r.getD 1 0,r.getD 2 0):Tl)) ∘ HL=id:=by funext t;rfl
   rw[e,DL]at this;exact this
  ·rw[By]
   conv=>rhs;rw[<-DL rs]
   apply CP;intro r s;obtain⟨t,_,rfl⟩:=UV.mp<|h.mem_iff.mp s;rfl
 exact this _ l o
variable {w h kn:Int}{l:List Tl}
def zG{l:List Tl}(c:∀t∈l,WN w h kn t)(f:MQ l):∃ts:List Tl,ts.Perm l/\ts.map HL=Ph (l.map HL)/\KP w h kn ts:=by obtain⟨ts,o,e⟩:=zlT l;refine⟨ts,o,e,λt r=>c t (o.mem_iff.mp r),?_,by rw[e];exact zlU _⟩;exact(o.pairwise_iff (λ{a b} q=>by rw[YM];exact q)).mpr f
structure Nx(n t:Nat)(w h kn:Int)(st0:Hg)(l:List Tl)(s:Hg):Prop where
 at_:s[t]?=some (.dt (l.map Iy))
 ok:∀u∈l,WN w h kn u
 nd:MQ l
 pot:IC n s
 fr:Fr n st0 s
variable {n t:Nat}{st0 s:Hg}
def Nx.fr'{s':Hg}(q:Nx n t w h kn st0 l s)(a:t≠n)(p:IC n s')(g:Fr n s s'):Nx n t w h kn st0 l s':=⟨(g.old t (qax q.at_) a).trans q.at_,q.ok,q.nd,p,q.fr.trans g⟩
noncomputable abbrev KC (n:Nat) (hd:D) (w h most:Int) (t:Nat) (v:Option D):HX:=[some (.ref n),some hd,some (.tup [.int w,.int h]),some (.int most),some (.ref t),v]
variable {most:Int}{a b:D}{ks:List D}
def zjt{v:Option D}(q:Nx n t w h ks.length st0 l s)(f:t≠n)(z:st0.length<=t)(hw:0<w)(B:w<=1000)(C:0<h)(F:h<=1000)(hk:0<ks.length)(G:ks.length<100000)(H:l.length<=1000):
  ∃(g:List Tl) (s':Hg),V5 (KC n (.tup [a,b,.tup ks]) w h most t v) s=some (.nx (KC n (.tup [a,b,.tup ks]) w h most t v),s')/\Nx n t w h ks.length st0 g s'/\g.length<=l.length+1:=by
 obtain⟨k,s1,E,I,J,K,f1,_⟩:=KZ (many:=ks.length) q.pot (by omega) (by omega);obtain⟨x,s2,Q,x0,L,p2,f2,_⟩:=KZ (many:=w) K hw (by omega);obtain⟨y,s3,W,M,N,S,T,_⟩:=KZ (many:=h) p2 C (by omega);have o:=q.fr' f S<|(f1.trans f2).trans T;have U:=tD (x:=x) (y:=y) (k:=k) o.at_ H;have A:=qax o.at_;have u:∀s:Hg,Hr (.tup [a,b,.tup ks]) (.int 2) s=some (.tup ks,s):=λs=>J7 (by decide) rfl;have i:∀s:Hg,Hr (.tup [.int w,.int h]) (.int 0) s=some (.int w,s):=λs=>J7 (by decide) rfl;have m:∀s:Hg,Hr (.tup [.int w,.int h]) (.int 1) s=some (.int h,s):=λs=>J7 (by decide) rfl;refine⟨K2 l (x,y,k),s3.set t<|.dt<|(K2 l (x,y,k)).map Iy,?_,⟨by simp[A],xK o.ok ⟨x0,L,M,N,I,J⟩,tP o.nd,?_,⟨by have:=o.fr.len;simpa using this,λj X Y=>by rw[AG (by omega)];exact o.fr.old j X Y⟩⟩,xM _ _⟩
 ·unfold V5;rw[NY];have Z:Hm (Hi Js<|Hc (mV 0)<|Hc (Hi Ho<|Hc (mB Hr (mV 1)<|mK<|.int 2)<|mZ)<|mZ) (Q8 LV (mV 4)<|mU<|Hc (Hi Js<|Hc (mV 0)<|Hc (mB Hr (mV 2)<|mK<|.int 0)<|mZ)<|Hc (Hi Js<|Hc (mV 0)<|Hc (mB Hr (mV 2)<|mK<|.int 1)<|mZ)<|mZ) (KC n (.tup [a,b,.tup ks]) w h most t v) s=none:=by
   simp[KC,u,i,m,QD,E,Q,W,LV]
  rw[Z,Kz];unfold UX;simp[KC,u,i,m,QD,E,Q,W,U]
 obtain⟨c,d,e,r⟩:=o.pot;exact⟨c,d,by rw[AG f];exact e,r⟩
variable {st:Hg}
def ziO(J:IC n st)(hw:0<w)(i:w<=1000)(L:0<h)(z:h<=1000)(hk:0<ks.length)(B:ks.length<100000)(hm:0<=most)(M:most<60):
  ∃(ts:List Tl) (st':Hg),Wf [.ref n,.tup [a,b,.tup ks],.tup [.int w,.int h],.int most] st=some (QH ts,st')/\KP w h ks.length ts/\(ts.length:Int)<=most/\IC n st'/\Fr n st st':=by
 have f:st.length≠n:=A5 J.lt;have N:=J.gr<|Gr.app st [.dt []];obtain⟨r,s1,S,r0,r1,T,f1,_⟩:=KZ (many:=most+1) N (by omega) (by omega);have C:s1[st.length]?=some (.dt<|([]:List Tl).map Iy):=(f1.old _ (by simp) f).trans<|II st _;have key:=QE (W:=⟨run 0 r.toNat,[]⟩) (g:=Hq 5) (m:=V5) (ds:=run 0 r.toNat) (ρ:=KC n (.tup [a,b,.tup ks]) w h most st.length none) (st:=s1)
  (Inv:=λk ρ s=>∃(l:List Tl) (v:Option D),ρ=KC n (.tup [a,b,.tup ks]) w h most st.length v/\l.length<=k/\Nx n st.length w h ks.length st l s)
  ⟨[],none,rfl,Ai _,⟨C,by simp,C9,T,(Fr.app _ _ _).trans f1⟩⟩ (λ_ _ _ _ _=>rfl) (λk d ρ s hd U=>by obtain⟨l,v,rfl,K,q⟩:=U;have F:k<(run 0 r.toNat).length:=qax hd;rw[OW]at F;obtain⟨X,Y,e,Z,hl'⟩:=zjt (most:=most) (a:=a) (b:=b) (v:=some d) q f (Ai _) hw i L z hk B (by omega);exact⟨_,s,_,Y,rfl,e,X,some d,rfl,by omega,Z⟩)
 obtain⟨ρ',s2,e2,l,v,rfl,K,q⟩:=key;rw[OW]at K;have hlt:=qax q.at_;have u:SJ (.ref st.length) s2=some (⟨Ni<|l.map Iy,[]⟩,s2.set st.length (.ft<|l.map Iy)):=by unfold SJ;simp only[q.at_]
 generalize A:s2.set st.length (.ft<|l.map Iy)=s3 at u;have G:Fr n st s3:=by rw[<-A];exact⟨by have:=q.fr.len;simpa using this,λj hj nj=>by rw[AG (by omega)];exact q.fr.old j hj nj⟩
 have p3:IC n s3:=by obtain⟨c,d,e,r⟩:=q.pot;exact⟨c,d,by rw[<-A,AG f];exact e,r⟩
 have Ws:Ni (l.map Iy)=l.map λt=>D.tup [.tup [.int t.1,.int t.2.1],.int t.2.2]:=by unfold Ni;rw[By];rfl
 have ec:Kq ⟨Ni<|l.map Iy,[]⟩ (Mm 2<|gC (Hq 0)<|gC (Hq 1)<|Lz) IJ Y1 (Ni<|l.map Iy) [none,none] s3=some (l.map λt=>HD (HL t),s3):=by rw[Ws];refine Qw (R:=λρ=>∃x y,ρ=[x,y]) ⟨none,none,rfl⟩ rfl λt f ρ hρ=>?_;obtain⟨x,y,rfl⟩:=hρ;refine⟨[some (.tup [.int t.1,.int t.2.1]),some (.int t.2.2)],by simp[Jc,Ih,Ip,IE,La,Mk,Nj,LP,NJ,JI,OS,Jm,IH,IM,NZ,NX,LQ,NF,Kg,NS,N1,OK,K7,NY,OC,OD,OI,OB,IK,NT,OU,Jz,Ms,Kk,K8,KQ,OJ,JU,ND,NG,Km,O1,O0,JH,Kz,OE,OF,OG,OH,Ov,Ow,Ox,Oy,Oz,Aa,Ak,add_int,sub_int,Iv,Ik,Jg,JW,HN,HV,HG],rfl,?_,⟨_,_,rfl⟩⟩;unfold Y1;have ea:Hh (.tup [.int t.1,.int t.2.1]) (.tup [.int t.2.2]) s3=some (.tup [.int t.1,.int t.2.1,.int t.2.2],s3):=cF (by simp) (by simp);simp[Jc,Ih,Ip,IE,La,Mk,Nj,LP,NJ,JI,OS,Jm,IH,IM,NZ,NX,LQ,NF,Kg,NS,N1,OK,K7,NY,OC,OD,OI,OB,IK,NT,OU,Jz,Ms,Kk,K8,KQ,OJ,JU,ND,NG,Km,O1,O0,JH,Kz,OE,OF,OG,OH,Ov,Ow,Ox,Oy,Oz,Aa,Ak,add_int,sub_int,Iv,Ik,Jg,JW,HN,HV,HG,ea,HD,HL]
 have fl:fits l.length=true:=Ku (by omega);have es:=zjw (st:=s3++[.lst ((l.map HL).map HD)]) (rows:=l.map HL) (II s3 _) (λr hr=>by obtain⟨t,_,rfl⟩:=UV.mp hr;simp[HL]) (by rw[Ah];omega);obtain⟨ts,o,H,I⟩:=zG q.ok q.nd;have E:OY [.ref s3.length] (s3++[.lst (l.map λt=>HD (HL t))])=some (.ref (s3++[O.lst (l.map λt=>HD (HL t))]).length,(s3++[.lst (l.map λt=>HD (HL t))])++[.lst (ts.map λt=>HD (HL t))]):=by have q:=es;rw[<-H]at q;simp only[By]at q;exact q
 generalize Q:s3++[O.lst (l.map λt=>HD (HL t))]=s4 at E;have g4:Gr s3 s4:=by rw[<-Q];exact Gr.app _ _
 have et:=Px<|II s4<|.lst<|ts.map λt=>HD (HL t);refine⟨ts,s4++[.lst (ts.map λt=>HD (HL t))],ID ?_,I,by rw[o.length_eq];omega,(p3.gr g4).gr<|Gr.app _ _,(G.trans<|g4.fr n).trans<|Fr.app _ _ _⟩;unfold jM QH;refine HA (ρ1:=KC n (.tup [a,b,.tup ks]) w h most st.length none) (s1:=st++[.dt []]) (by simp[KC,Jc,Ih,Ip,IE,La,Mk,Nj,LP,NJ,JI,OS,Jm,IH,IM,NZ,NX,LQ,NF,Kg,NS,N1,OK,K7,NY,OC,OD,OI,OB,IK,NT,OU,Jz,Ms,Kk,K8,KQ,OJ,JU,ND,NG,Km,O1,O0,JH,Kz,OE,OF,OG,OH,Ov,Ow,Ox,Oy,Oz,Aa,Ak,add_int,sub_int,Iv,Ik,Jg,JW,HN,HV,HG]) ?_;have sr:small r=true:=R9 (by omega) (by omega);refine HA (ρ1:=KC n (.tup [a,b,.tup ks]) w h most st.length v) (s1:=s2) (by simp[KC,Jc,Ih,Ip,IE,La,Mk,Nj,LP,NJ,JI,OS,Jm,IH,IM,NZ,NX,LQ,NF,Kg,NS,N1,OK,K7,NY,OC,OD,OI,OB,IK,NT,OU,Jz,Ms,Kk,K8,KQ,OJ,JU,ND,NG,Km,O1,O0,JH,Kz,OE,OF,OG,OH,Ov,Ow,Ox,Oy,Oz,Aa,Ak,add_int,sub_int,Iv,Ik,Jg,JW,HN,HV,HG,S,sr];exact e2) ?_;simp[KC,Jc,JI,IK,Jz,Kk,JU,Km,Aa,Ak,Iv,Ik,Jg,JW,HN,HV,HG,u,ec,fl,Q,E,et]
structure Jy where
 ho:Jx
 w:Int
 h:Int
 ts:List Tl
def Jy.d(b:Jy):D:=.tup [b.ho.d,.tup [.int b.w,.int b.h],QH b.ts]
structure Jy.Ok(b:Jy)(most:Int):Prop where
 ho:b.ho.Ok most
 w0:1<=b.w
 w1:b.w<=12
 h0:1<=b.h
 h1:b.h<=12
 ts:KP b.w b.h b.ho.kinds.length b.ts
 len:b.ts.length<=6
def oN(c:IC n st)(h0:1<=most)(f:most<=500):∃(b:Jy) (st':Hg),Yx [.ref n,.int most] st=some (b.d,st')/\b.Ok most/\IC n st'/\Fr n st st':=by
 obtain⟨o,s1,y,l,A,f1⟩:=xZ c h0 f;obtain⟨w,h,s2,E,Q,W,r,s,p2,f2⟩:=zD A;obtain⟨d,s3,g,hd,i,j⟩:=Pm [.int 1,.int 1,.int 3,.int 6] p2 (by decide) (by decide);obtain⟨m,rfl,q,z⟩:∃m:Int,d=.int m/\1<=m/\m<=6:=by
  simp at hd;rcases hd with rfl|rfl|rfl<;>exact⟨_,rfl,by decide,by decide⟩
 have B:=l.k0;have G:=l.k1;obtain⟨u,s4,C,x,H,F,f4⟩:=ziO (w:=w) (h:=h) (most:=m) (a:=.int o.e) (b:=.tup (o.sticks.map Jb)) (ks:=o.kinds.map Ju) i (by omega) (by omega) (by omega) (by omega) (by simpa using B) (by rw[Ah];omega) (by omega) (by omega);rw[Ah]at x;refine⟨⟨o,w,h,u⟩,s4,ID ?_,⟨l,Q,W,r,s,x,by show u.length<=6;omega⟩,F,((f1.trans f2).trans j).trans f4⟩;unfold iQ Jy.d;refine HA (ρ1:=[some (.ref n),some (.int most),some o.d,some (.tup [.int w,.int h])]) (s1:=s2) (by simp[Jc,JI,IK,Jz,Kk,JU,Km,Aa,Ak,Iv,Ik,Jg,JW,HN,HV,HG,y,E]) ?_;have v:Wf [.ref n,o.d,.tup [.int w,.int h],.int m] s3=some (QH u,s4):=C;simp[g,v]
def plain:Nat->D->Prop
 |0,_=>False
 |_+1,.non=>True
 |_+1,.bl _=>True
 |_+1,.int _=>True
 |_+1,.str x=>Ao x=true
 |n+1,.tup ds=>ds.length<=10000/\∀d∈ds,plain n d
 |_+1,.ref _=>False
 |_+1,.kl _=>False
 |_+1,.fn _=>False
 |_+1,.er _ _ _=>False
def XJ:∀{n m:Nat}{d:D},plain n d->n<=m->plain m d
 |0,_,_,h,_=>h.elim
 |n+1,0,_,_,hm=>absurd hm<|by omega
 |n+1,m+1,.non,_,_=>trivial
 |n+1,m+1,.bl _,_,_=>trivial
 |n+1,m+1,.int _,_,_=>trivial
 |n+1,m+1,.str _,h,_=>h
 |n+1,m+1,.tup ds,h,hm=>⟨h.1,λd hd=>XJ (h.2 d hd) (by omega)⟩
 |n+1,m+1,.ref _,h,_=>h
 |n+1,m+1,.kl _,h,_=>h
 |n+1,m+1,.fn _,h,_=>h
 |n+1,m+1,.er _ _ _,h,_=>h
def gK{f:D->Option PyData}:∀{ds:List D},(∀d∈ds,∃p,f d=some p/\Bl p p=true)->∃c,K0 f ds=some c/\Fh c c=true
 |[],_=>⟨[],rfl,by simp[Fh]⟩
 |d::ds,h=>by
  obtain⟨p,e,q⟩:=h d Al;obtain⟨c,a,l⟩:=gK λx n=>h x<|Aj _ n;refine⟨p::c,?_,?_⟩
  ·rw[K0,e,Aa,a];rfl
  rw[Fh,q,l];rfl
def gN:∀{n:Nat}{d:D}{st:Hg},plain n d->∃p,Jn n st d=some p/\Bl p p=true
 |0,_,_,h=>h.elim
 |n+1,.non,st,_=>⟨.none,by rw[Jn],by simp[Bl]⟩
 |n+1,.bl b,st,_=>⟨.bool b,by rw[Jn],by simp[Bl]⟩
 |n+1,.int i,st,_=>⟨.int i,by rw[Jn],by simp[Bl]⟩
 |n+1,.str x,st,h=>⟨.str x,OZ h,by simp[Bl]⟩
 |n+1,.tup ds,st,h=>by
  obtain⟨c,e,q⟩:=gK (f:=Jn n st) λd hd=>gN (st:=st)<|h.2 d hd;refine⟨.tuple c,?_,?_⟩
  ·rw[Jn,e];rfl
  rw[Bl];exact q
 |n+1,.ref _,_,h=>h.elim
 |n+1,.kl _,_,h=>h.elim
 |n+1,.fn _,_,h=>h.elim
 |n+1,.er _ _ _,_,h=>h.elim
def Xp{d:D}(h:plain n d)(c:n<=100):IP d d st=some (.bl false,st):=by obtain⟨p,e,q⟩:=gN (st:=st)<|XJ h c;unfold IP;rw[e];simp[q]
def ziP{ts:List Tl}(h:ts.length<=10000):plain 3 (QH ts):=by
 refine⟨by rw[Ah];exact h,λd hd=>?_⟩;obtain⟨t,_,rfl⟩:=UV.mp hd;refine⟨by show 3<=10000;decide,λd hd=>?_⟩;simp[HL]at hd
 rcases hd with rfl|rfl|rfl<;>trivial
structure Jy.P(b:Jy):Prop where
 names:∀p∈b.ho.sticks,Ao p.1=true
 few:b.ho.sticks.length<=10000
 kinds:∀k∈b.ho.kinds,k.length=5/\∀x∈k,Ao x=true
 many:b.ho.kinds.length<=10000
 len:b.ts.length<64
def xY{c:Jx}(f:∀p∈c.sticks,Ao p.1=true)(g:c.sticks.length<=10000)(e:∀k∈c.kinds,k.length=5/\∀x∈k,Ao x=true)(i:c.kinds.length<=10000):plain 4 c.d:=by
 refine⟨by show 3<=10000;decide,λd hd=>?_⟩;simp at hd
 rcases hd with rfl|rfl|rfl
 ·trivial
 ·refine⟨by rw[Ah];exact g,λd hd=>?_⟩;obtain⟨p,a,rfl⟩:=UV.mp hd;refine⟨by show 2<=10000;decide,λd hd=>?_⟩;simp at hd
  rcases hd with rfl|rfl
  ·exact f p a
  trivial
 refine⟨by rw[Ah];exact i,λd hd=>?_⟩;obtain⟨k,hk,rfl⟩:=UV.mp hd;refine⟨by rw[Ah,(e k hk).1];decide,λd hd=>?_⟩;obtain⟨x,h,rfl⟩:=UV.mp hd;exact(e k hk).2 x h
def ZV(b:Jy)(s:Hg):Hr b.d (.int 0) s=some (b.ho.d,s):=J7 (by decide) rfl
def ZU(b:Jy)(s:Hg):Hr b.d (.int 1) s=some (.tup [.int b.w,.int b.h],s):=J7 (by decide) rfl
def ZT(b:Jy)(s:Hg):Hr b.d (.int 2) s=some (QH b.ts,s):=J7 (by decide) rfl
def ZP(w h:Int)(s:Hg):Hr (.tup [.int w,.int h]) (.int 0) s=some (.int w,s):=J7 (by decide) rfl
def ZO(w h:Int)(s:Hg):Hr (.tup [.int w,.int h]) (.int 1) s=some (.int h,s):=J7 (by decide) rfl
end L2.MP.Hn
namespace L2.MP
open PySem PySem.Spec PyProof.Rows
end L2.MP
namespace L2.MP
open PySem
end L2.MP
namespace L2.MP.Hn
open PySem L2.MP
end L2.MP.Hn
namespace L2.MP
open PySem PySem.Spec PyProof.Rows
def zk3(x:Sr)(o:Obj)(xs:Array IR):Meets (Builtin.«enumerate.__new__» ⟨[.type "enumerate",.ref x.ad],[]⟩) (λ_ R s=>s.heap.get? x.ad=some o/\x.is s.heap xs /\
   R (.ok<|.ret<|.ref (s.heap.push x.ob).objs.size) {s with heap:=(s.heap.push x.ob).push {cls:=.type "enumerate",data:=.fields #[.none,.bool false,.ref s.heap.objs.size,rawInt 0,.none,.none]} }):=
 .of_wp λprog w A R s h=>by
  obtain⟨v,g,d,y,os⟩:=s;obtain⟨l,E,h⟩:=h;have u:=sub_enumerate;have r:x.is (Shared.heap ⟨v,g,d,y,os⟩) xs:=E
  wp_walk using Ca l
  refine wpAny_stack_any λQ=>Ae ?_;split
  ·rename_i c _ _ _ _ _
   cases (c==Value.type "enumerate")
   ·wp_walk using Ca l,Sr.iter r
    exact⟨_,rfl,h⟩
   ·wp_walk using Ca l,Sr.iter r
    exact⟨_,rfl,h⟩
  ·wp_walk using Ca l,Sr.iter r
   exact⟨_,rfl,h⟩
variable {prog:P3}{w:UF}{A:Around}{E:Qqa}{s:Shared}{h:Pv}{xs:Array IR}{x:Sr}
def Sr.is_get(q:x.is h xs):∃o,h.get? x.ad=some o:=by
 cases x with
 |l a=>obtain⟨o,g,_⟩:=q;exact⟨o,g⟩
 |t a=>obtain⟨o,g,_⟩:=q;exact⟨o,g⟩
def zle{R:Qqa}(a:x.is s.heap xs)(k:∀h',IsEnum h' (s.heap.objs.size+1) s.heap.objs.size 0 .none->x.at_ h' s.heap.objs.size 0->(∀c u,s.heap.get? c=some u->h'.get? c=some u)->R (.ref<|s.heap.objs.size+1) {s with heap:=h'}):
  wpAny (KF prog w) A (call (.type "enumerate") [.ref x.ad]) R E s:=by
 obtain⟨o,g⟩:=Sr.is_get a;refine callType_new F.called_enumerate (by decide) (F.typeCall_enumerate_1 _) (F.newCall_enumerate_1 _) (λobj=>F.args_object_init_2 obj _) F.entry_enumerate_new (zk3 x o xs) ⟨g,a,?_⟩;have h:(s.heap.push x.ob).objs.size=s.heap.objs.size+1:=B6 ..;have f2:((s.heap.push x.ob).push {cls:=.type "enumerate",data:=.fields #[.none,.bool false,.ref s.heap.objs.size,rawInt 0,.none,.none]}).get? (s.heap.push x.ob).objs.size=some {cls:=.type "enumerate",data:=.fields #[.none,.bool false,.ref s.heap.objs.size,rawInt 0,.none,.none]}:=Av _ rfl;have f1:((s.heap.push x.ob).push {cls:=.type "enumerate",data:=.fields #[.none,.bool false,.ref s.heap.objs.size,rawInt 0,.none,.none]}).get? s.heap.objs.size=some x.ob:=Ag _<|Av _ (by cases x<;>rfl);show _/\_;rw[h]at f2 ⊢;exact⟨⟨_,f2,rfl⟩,k _ f2 (Sr.at_new f1) λc u q=>Ag _ (Ag _ q)⟩
def Sr.draws(f:A.handled=none)(it:KB)(x:Sr)(c:x.ad≠it)(items:Array IR):Draws prog w A it [it,x.ad] items.size (λi v=>items[i]?=some v) (λi h=>x.at_ h it i/\x.is h items) where
 live:=λ_ _ q=>let ⟨o,_,g,_⟩:=Sr.at_get q.1;⟨o,g⟩
 frame:=λ_ _ _ q k=>⟨Sr.at_keep q.1 λo e=>k it (by simp) o e,Sr.is_keep q.2 λo e=>k x.ad (by simp) o e⟩
 item:=λi s Q E hi q k=>by refine Sr.next q.1 q.2 (v:=items[i]) (by simp[hi]) λl a b=>?_;exact k _ l s.toks (by simp[hi]) ⟨a,Sr.is_keep q.2 λo e=>b.extBut _ _ c e⟩ b
 done:=λs Q E q k=>Sr.stop f q.1 q.2 (by simp) k
def Sr.drawsEnd(a:A.handled=none)(it:KB)(x:Sr)(items:Array IR)(n:Nat)(c:items[n]?=none):Draws prog w A it [it,x.ad] n (λ_ _=>True) (λj h=>j=n/\x.at_ h it n/\x.is h items) where
 live:=λ_ _ q=>let ⟨o,_,g,_⟩:=Sr.at_get q.2.1;⟨o,g⟩
 frame:=λ_ _ _ q k=>⟨q.1,Sr.at_keep q.2.1 λo e=>k it (by simp) o e,Sr.is_keep q.2.2 λo e=>k x.ad (by simp) o e⟩
 item:=λi s Q E hi q k=>absurd q.1 (Au hi)
 done:=λs Q E q k=>Sr.stop a q.2.1 q.2.2 c k
def Itn(x:Sr):It:=⟨λi H=>∃xs v,x.sq H xs/\xs[i]?=some v,λi H r h=>∃p v,H p=none/\h=upd H p (.tup [.int (i:Nat),v])/\r=.ref p/\∀xs,x.sq H xs->xs[i]?=some v,λi H=>∃xs,x.sq H xs/\xs.length<=i⟩
variable {P:P3}{K:Ac}{elts:List Re}{pos:Pos}
def zjk{x1}(x:Sr)(it e:KB)(a:e≠it):
  Turn P w K (.Tuple elts x1 pos) (Itn x) [e,it] e (λi h=>(∃old,IsEnum h e it (i:Nat) old)/\x.at_ h it i) where
 mem:=by simp
 obj:=λi h st b hb=>by
  obtain⟨⟨old,he⟩,hi⟩:=st;rcases On.mp hb with rfl|hb
  ·exact⟨_,he,λv z=>by cases z⟩
  rw[Os.mp hb];obtain⟨o,M,g,d⟩:=Sr.at_get hi;exact⟨o,g,λv z=>by rw[d]at z;cases z⟩
 keep:=λi h N st k=>by obtain⟨⟨old,he⟩,hi⟩:=st;exact⟨⟨old,k e (by simp) _ he⟩,Sr.at_keep hi λo q=>k it (by simp) o q⟩
 item:= by
  intro X m hw n B i qp s σ H E I hf st C;subst m hw n;obtain⟨xs,v,u,S⟩:=C;obtain⟨⟨old,he⟩,hi⟩:=st;obtain⟨l,rx,ix⟩:=Sr.sq_is I u;obtain⟨Y,T,Z⟩:=rx.get S;have fit:=(hf it<|by simp).1;have fe:=(hf e<|by simp).1;have F:i<l.toArray.size:=by have:=(KM.mp T).1;simpa using this
  refine wpAny_pyNext_enum_itemD (Sr.draws (A:=X.A.in1) (I.ok.hd B) it x (Sr.sq_ne u fit) l.toArray) he ⟨hi,ix⟩ F a (by
   simp only[Ck,F6,or_false,not_or];exact⟨a,λz=>Sr.sq_ne u fe z.symm⟩) λy h1 f G J L t1 z1 k1=>?_
  have ey:y=Y:=by
   have:l[i]?=some y:=by simpa using G
   rw[T]at this;exact(As this).symm
  subst ey;refine⟨_,rfl,wpAny_letOwnedTupleGo_enum (s:={s with heap:=h1,toks:=f+1}) J λj Q r=>?_⟩;have k2:∀b o,b ∉ [e,it]->s.heap.get? b=some o->j.get? b=some o:=λb o hb q=>by have U:b≠e:=λz=>hb (by simp[z]);have n2:b≠it:=λz=>hb (by simp[z]);exact(r.2 b U).trans<|k1 b o U n2 q
  have W:e≠s.heap.objs.size:=Au<|An he;have t2:j.get? s.heap.objs.size=some {cls:=.type "tuple",data:=.seq #[.int i f,y]}:=(r.2 _ W.symm).trans t1;have c:x.at_ j it (i+1):=Sr.at_keep L.1 λo q=>(r.2 it a.symm).trans q;refine⟨.ref s.heap.objs.size,upd H s.heap.objs.size<|.tup [.int (i:Nat),v],?_,rfl,⟨_,v,I.hok.fresh<|Ai _,rfl,rfl,λys G=>by rw[Sr.sq_inj G u];exact S⟩,⟨⟨_,by exact_mod_cast Q⟩,c⟩,λb hb=>?_⟩
  ·exact Inv.turnNew (s:=s) (h':=j) (t':=f+1) I hf k2 (Ai _) (λb hb ob q=>by
    rcases On.mp hb with rfl|hb
    ·exact⟨_,Q⟩
    rw[Os.mp hb];obtain⟨o,M,g,d⟩:=Sr.at_get c;exact⟨o,g⟩) ⟨by show 2<=sizeLine;decide,[.int i f,y],.cons ⟨_,rfl⟩<|.cons Z .nil,⟨_,t2,rfl,rfl,_,rfl⟩⟩
  ·rw[HW (λz=>?_)]
   ·exact(hf b hb).1
   ·rcases On.mp hb with q|hb
    ·exact W<|q.symm.trans z
    have q:=Os.mp hb;obtain⟨o,M,g,d⟩:=Sr.at_get hi;exact(Au<|An g)<|q.symm.trans z
 done:=by intro X m hw n B i qp s σ H E I hf st C;subst m hw n;obtain⟨xs,u,hl⟩:=C;obtain⟨⟨old,he⟩,hi⟩:=st;obtain⟨l,rx,ix⟩:=Sr.sq_is I u;have l1:=rx.length;exact wpAny_pyNext_enum_endD (Sr.drawsEnd (A:=X.A.in1) (I.ok.hd B) it x l.toArray i (by simp;omega)) he ⟨rfl,hi,ix⟩ λN eb=>⟨rfl,Inv.turnAll (t':=s.toks) I hf λb o hb q=>eb b o (λz=>hb (by simp[z])) q⟩
 self:=λ_ _ _ _ _ st h=>by obtain⟨⟨old,he⟩,_⟩:=st;exact FU he h
variable {X:Cx}{H:Hp}{io:List KB}{m:ME}{st st':Hg}{a:Re}
def WH(x:D)(s:Hg):Option (Wk×Hg):=(QX s x).map λ(a,f)=>(⟨pairs a,f⟩,s)
def Sw(m:ME):MI:=λρ st=>(m ρ st).bind λ(x,s1)=>WH x s1
def uJ{x1}{M:Pos}{p:Pos}(N:Gl X "enumerate")(hm:X.mg "enumerate"=none)(T:SE X a m)(c:starEach [a] X.env=[(false,eval a X.env)]:=by rfl):
  SI X (.Tuple elts x1 M) (.Call (.Name "enumerate" p) [a] [] pos) (Sw m):=by
 rintro qp s σ H R I ⟨ρ,st,io,W,st',E,S,e,k⟩;obtain⟨⟨x,s1⟩,U,e⟩:=Ht e;obtain⟨⟨as,f⟩,Y,e⟩:=IL e;cases e;refine Call_<|S0 I N hm boot_enumerate<|CB (HB (Hf T Hk c pos qp s σ H (λg A=>∃ka,Ext io ka H A/\Hw X.K A (io++ka) st'/\Hl X.K A (io++ka) g [x]) I ⟨ρ,st,io,[x],st',E,S,dB U rfl,λg H1 j n Q R1=>⟨j,n,Q,R1⟩⟩) ?_) c rfl;rintro us t1 ⟨g,H1,I1,Z,j,n,Q,R1⟩;obtain⟨v,rfl,Rx⟩:=R1.one;obtain⟨v',rfl,rv⟩:=Z.one;obtain⟨xx,rfl,⟨xs,hx⟩,z⟩:=uG Q Rx Y;cases rv;obtain⟨its,vx,ix⟩:=Sr.sq_is I1 hx;refine zle ix λh' he hi kk=>FU he ?_;refine⟨_,_,_,_,H1,rfl,I1.kept (t':=t1.toks) kk,zjk xx t1.heap.objs.size (t1.heap.objs.size+1)<|Nat.succ_ne_self _,⟨⟨_,he⟩,hi⟩,λb hb=>?_,?_⟩
 ·have hle:t1.heap.objs.size<=b:=by
   rcases On.mp hb with q|hb
   ·rw[q];exact Bf _
   rw[Os.mp hb];exact Ai _
  exact I1.fpOk hle<|I1.hok.fresh hle
 ·refine k _ H1 j n Q ?_;refine⟨λi d H2 w s3 hd y l c=>?_,λH2 w s3 y l c=>?_,λH2 w s3 i hi y l c=>?_⟩
  ·obtain⟨h,u,rx⟩:=z H2 w s3 y l c;obtain⟨dx,g1,rfl⟩:=zmd hd;obtain⟨B,C,ru⟩:=rx.get g1;refine⟨⟨h,B,u,C⟩,λr A yl=>?_⟩;obtain⟨q,u2,hq,rfl,rfl,yu⟩:=yl;have F:=yu h u;rw[C]at F;cases F;obtain⟨G,J⟩:=Vl (o:=.tup [.int (i:Nat),B]) l hq;rw[Am]at J;refine⟨G,J,⟨q,_,rfl,KY,?_⟩⟩;have L:=ru.ext l G;rw[Am]at L;exact Hl.cons rfl<|Hl.cons L Hl.nil
  ·obtain⟨h,u,rx⟩:=z H2 w s3 y l c;exact⟨h,u,by show h.length<=(pairs as).length;rw[pairs_len,rx.length];exact Ai _⟩
  obtain⟨h,u,rx⟩:=z H2 w s3 y l c;have hi:(pairs as).length<=i:=hi;rw[pairs_len]at hi;exact⟨h,u,by rw[rx.length];exact hi⟩
@[simp] theorem sI{ρ:HX}:Sw m ρ st=(m ρ st).bind λp=>WH p.1 p.2:=rfl
variable {ma mb mc:ME}{b c:Re}{g g':G2}{σ:L2.St}{Q:VK}{op op':CmpOp}
def Jj(g g':G2)(ma mb mc:ME):ME:=λρ st=>(ma ρ st).bind λ(x,s1)=>(mb ρ s1).bind λ(y,s2)=>(g x y s2).bind λ(z,s3)=>match z with
 |.bl q=>if q=true then(mc ρ s3).bind λ(w,s4)=>g' y w s4 else some (.bl false,s3)
 |_=>none
def iT(h:tE K (Jj g g' ma mb mc) σ H Q):W9 (Ui K g) (Ui K g') (tE K ma) (tE K mb) (tE K mc) σ H Q:=by
 obtain⟨ρ,st,io,d,st',E,S,e,k⟩:=h;obtain⟨⟨x,s1⟩,f,e⟩:=Ht e;obtain⟨⟨y,s2⟩,i,e⟩:=Ht e;obtain⟨⟨z,s3⟩,j,e⟩:=Ht e;refine⟨ρ,st,io,x,s1,E,S,f,λv1 H1 a o c R1=>?_⟩;refine⟨ρ,s1,io++a,y,s2,E.ext S o,c,i,λv2 H2 r s l R2=>?_⟩;refine⟨x,y,s2,(io++a)++r,z,s3,R1.ext c s,R2,l,j,λI J v u m n=>?_⟩;have A:=((k.on c o).on l s).on m u;dsimp only at e;split at e
 ·rename_i q;refine⟨q,n,?_⟩
  cases q with
  |true=>
   rw[if_pos rfl]at e ⊢;obtain⟨⟨w,s4⟩,B,C⟩:=Ht e;refine⟨ρ,s3,((io++a)++r)++v,w,s4,((E.ext S o).ext c s).ext l u,m,B,λv4 L F W X G=>?_⟩;exact⟨y,w,s4,(((io++a)++r)++v)++F,d,st',(R2.ext l u).ext m W,G,X,C,A.on X W⟩
  |false=>
   rw[if_neg A6]at e ⊢;cases e;exact Bh.now A m rfl
 ·cases e
def TJ(f:Jq X (PP op) g)(e:Jq X (PP op') g')(i:SE X a ma)(j:SE X b mb)(n:SE X c mc)(hm:lastMarks [op,op'] [b,c]=false:=by with_unfolding_all rfl):
  SE X (.Compare a [op,op'] [b,c] pos) (Jj g g' ma mb mc):=PE.imp (yU f e i j n hm) λ_ _ _ h=>iT h
def TH(f:Jq X (PP op) g)(e:Jq X (PP op') g')(i:SE X a ma)(j:SE X b mb)(n:SE X c mc)(hm:lastMarks [op,op'] [b,c]=false:=by with_unfolding_all rfl):
  SB X (.Compare a [op,op'] [b,c] pos) (mT<|Jj g g' ma mb mc):=PT.imp (xJ f e i j n hm) λ_ _ _ h=>iT (TX h)
def zhG:typeLookup (.type "list") "keys"=pure none:=by rw[Ey,Dp];kernel_rfl
def VP:entryFor table "dict.update.loop"=some Builtin.«dict.update.loop»:=entryFor_of_fast<|by kernel_rfl
def Pw:plainId "dict.update.loop"=true:=by decide +kernel
section
variable {a:KB}
def fK{Q:Option IR->Shared->Prop}{k:Nat}{f:Array (Option IR)}(i:s.heap.get? a=some {cls:=.type "list",dict:=none,data:=.seq xs k,slots:=f})(n:A.handled=none)(h:∀h' j,(∀b u,s.heap.get? b=some u->h'.get? b=some u)->Q none {s with heap:=h',toks:=j}):wpAny (KF prog w) A (getAttr? (.ref a) "keys") Q E s:=by
 obtain⟨o,g,d,j,os⟩:=s;have m:∀c,(⟨o,g,d,c,os⟩:Shared).TypeIs (.ref a) "list":=λ_=>⟨_,i,rfl⟩;have f1:=FD;have r:=F.slot_list_getattribute.lookup;have f4:=F.slot_list_getattribute.bind<|.ref a;have v:=am_list_getattr_none;unfold getAttr? getAttrBy? getAttrBy
 repeat (any_goals (first|assumption|exact m _|((with_reducible show wpAny _ _ (call (Cm "list.__getattribute__") _ _) _ _ _);refine Dx F.slot_list_getattribute (m _) am_entry_list_getattribute (F.args_list_getattribute_2 _ _) (meets_getattribute_miss_list a xs k f _ _ zhG<|by decide +kernel) ⟨i,n,λh' c e l=>?_⟩)|wp_step))
 obtain⟨t',x,he⟩:=l.there;show wpAny _ _ (getattributeRaised _ _ _ _ _ _ _) _ _ _;unfold getattributeRaised
 repeat (any_goals (first|assumption|wp_step))
 exact h _ _ l.keeps
def P8(prog:P3)(w:UF)(h:Pv)(v:IR)(e:Key×IR):Prop:=∃p a,v=.ref p/\IsTup h p #[a,e.2]/\(Kh prog w).is e.1 a=true
def P8.keep{h':Pv}{v:IR}{e:Key×IR}(q:P8 prog w h v e)(k:∀b o,v=.ref b->h.get? b=some o->h'.get? b=some o):P8 prog w h' v e:=by obtain⟨p,a,rfl,⟨o,g,c⟩,i⟩:=q;exact⟨p,a,rfl,⟨o,k p o rfl g,c⟩,i⟩
def iH{p:KB}{Q:List IR->Shared->Prop}(e:IsTup s.heap p xs)(h:Q xs.toList s):wpAny (KF prog w) A (EL<|.ref p) Q E s:=by
 obtain⟨a,g,d,l,os⟩:=s;obtain⟨o,m,c,n,r⟩:=e;have u:(⟨a,g,d,l,os⟩:Shared).TypeIs (.ref p) "tuple":=⟨_,m,c⟩;unfold EL seqItems?
 repeat (any_goals (first|assumption|wp_step))
 rw[r];exact Ae<|Ae h
end
variable {its:List IR}{kvs:List (Key×IR)}
section
variable {a:KB}
def zjs{K:Type}[DecidableEq K](kvs:List (K×IR))(k:K)(v:IR):(stored kvs k v).length<=kvs.length+1:=by unfold stored;split<;>simp
def Yq{K:Type}[DecidableEq K]:∀(more kvs:List (K×IR)),(merged kvs more).length<=kvs.length+more.length
 |[],kvs=>by show kvs.length<=kvs.length+0;omega
 |p::r,kvs=>by have e:=Yq r<|stored kvs p.1 p.2;have a:=zjs kvs p.1 p.2;show(merged (stored kvs p.1 p.2) r).length<=_;rw[AB];omega
def kH{R:Result->Shared->Prop}{D I l:KB}{h0:Pv}(hh:A.in1.handled=none)(hl:its.length=kvs.length)(hz:kvs.length<=sizeLine)(f:D≠I)(B:l≠D)(C:l≠I):
  ∀(k i:Nat) (s:Shared),kvs.length-i=k->i<=kvs.length->s.heap.IsListIter I l i->s.heap.IsList l its.toArray->s.heap.DictOf (Kh prog w) D (merged []<|kvs.take i) ->
  (∀(j:Nat) (v:IR) (n:Key×IR),its[j]?=some v->kvs[j]?=some n->P8 prog w s.heap v n/\v≠.ref D/\v≠.ref I)->(∀b o,b≠D->b≠I->h0.get? b=some o->s.heap.get? b=some o) ->
  (∀h' tk,h'.DictOf (Kh prog w) D (merged [] kvs)->(∀b o,b≠D->b≠I->h0.get? b=some o->h'.get? b=some o)->R (.ok<|.ret .none) {s with heap:=h',toks:=tk}) ->
  codeAny (KF prog w) A (.builtin "dict.update.loop" ⟨[.ref D,.ref I,rawInt i,.none],[]⟩) R s:=by
 intro k
 induction k with
 |zero=>
  intro i s hk hi hit a hd Q h0k W;have X:i=kvs.length:=by omega
  subst X;refine DD VP ?_;rw[CH Pw _];show wpAny _ A.in1 (pyNext (.ref I) >>= _) _ _ s;refine Ab<|Dl hh hit a (by simp[hl]) λh' h=>?_;show wpAny _ A.in1 (Ef D [] >>= λ_=>ret .none) _ _ _;refine Ab<|Ae<|Ae ?_;rw[CF]at hd;refine W h' s.toks ?_ λb o F y e=>h b o y (h0k b o F y e);obtain⟨o,G,E,J,r⟩:=hd;exact⟨o,G,E,h D o f J,r⟩
 |succ k ih=>
  intro i s hk hi hit a hd Q h0k W;have L:i<kvs.length:=by omega
  have m:i<its.length:=by omega
  refine DD VP ?_;rw[CH Pw _];show wpAny _ A.in1 (pyNext (.ref I) >>= _) _ _ s;have hv:its[i]?=some its[i]:=Ap m;have H:kvs[i]?=some kvs[i]:=Ap L;refine Ab<|Dc (x:=its[i]) hit a (by simp[m]) λh' K h=>?_;obtain⟨pa,nD,nI⟩:=Q i _ _ hv H;have M:P8 prog w h' its[i] kvs[i]:=pa.keep λb o e g=>h.extBut b o (λz=>nI (by rw[e,z])) g;obtain⟨p,kx,E,tp,ik⟩:=M;have N:h'.DictOf (Kh prog w) D (merged []<|kvs.take i):=by obtain⟨o,G,E,J,r⟩:=hd;exact⟨o,G,E,h.extBut D o f J,r⟩
  have hlen:(merged []<|kvs.take i).length<=sizeLine:=by have:=Yq (kvs.take i) [];rw[Ba,A2]at this;omega
  rw[E];refine Ab<|A7<|Ab<|wpAny_tryCatch<|iH (s:={s with heap:=h'}) tp ?_;refine A7<|Fq (s:={s with heap:=h'}) ik N (λy hd2 S=>?_) hlen;have c:∀b o,b≠D->h'.get? b=some o->y.get? b=some o:=λb o hb e=>S.extBut b o hb e;have e1:stored (merged []<|kvs.take i) kvs[i].1 kvs[i].2=merged [] (kvs.take<|i+1):=(merged_take_succ [] kvs i _ H).symm;refine Ae ⟨Dh Pw _,?_⟩;refine ih (i+1) {s with heap:=y,toks:=s.toks+1} (by omega) (by omega) ?_ ?_ (by rw[<-e1];exact hd2) (λj v n F T=>?_) (λb o b1 Y e=>c b o b1 (h.extBut b o Y<|h0k b o b1 Y e)) λh3 U d3 k3=>W h3 U d3 k3
  ·exact FC K λu e=>c I u (A3 f) e
  ·exact EW (EW a λu e=>h.extBut l u C e) λu e=>c l u B e
  obtain⟨q,Z,q2⟩:=Q j v n F T;exact⟨(q.keep λb o e g=>h.extBut b o (λz=>q2 (by rw[e,z])) g).keep λb o e g=>c b o (λz=>Z (by rw[e,z])) g,Z,q2⟩
def zg9{l:KB}{Q:Qqa}(J:A.handled=none)(f:PlainL s.heap l its.toArray)(S:its.length=kvs.length)(T:kvs.length<=sizeLine)(U:∀(j:Nat) (v:IR) (i:Key×IR),its[j]?=some v->kvs[j]?=some i->P8 prog w s.heap v i)(h:∀h' G,h'.DictOf (Kh prog w) s.heap.objs.size (merged [] kvs)->(∀b o,s.heap.get? b=some o->h'.get? b=some o)->Q (.ref s.heap.objs.size) {s with heap:=h',toks:=G}):
  wpAny (KF prog w) A (call (.type "dict") [.ref l]) Q E s:=by
 refine callType_codes (Q₁:=λobj s₁=>obj=.ref s.heap.objs.size/\s₁={s with heap:=s.heap.push Qqd}) F.kt_called_dict (F.kt_typeCall_dict_1 _) F.entry_dict_init (kt_code_dict_new _ ⟨rfl,rfl⟩) ?_;rintro obj s₁ ⟨rfl,rfl⟩;have a:(s.heap.push Qqd).DictOf (Kh prog w) s.heap.objs.size []:=Gn s.heap;have k1:∀b o,s.heap.get? b=some o->(s.heap.push Qqd).get? b=some o:=λb o e=>Ag _ e;have u:=f.keeps k1;obtain⟨⟨cl,di,da,sl⟩,n,g1,L,M,N⟩:=id u;simp only at L M N;subst L M N;have hlt:∀b o,s.heap.get? b=some o->b<s.heap.objs.size:=λb o e=>An e;have K:l<s.heap.objs.size:=by obtain⟨o,_,g,_⟩:=f;exact hlt l o g
 refine⟨a.typeIs,F.args_dict_init_2 _ _,?_⟩;unfold Builtin.«dict.__init__»;refine Ab ?_;unfold Eg;refine Ab<|Do a.typeIs ?_;show wpAny _ _ (pure (s.heap.objs.size,[Aw l])) _ _ _;refine Ae ?_;show wpAny _ _ (Cg "dict.__init__" s.heap.objs.size (.ref l) [] .none) _ _ _;unfold Cg;refine Ab (Cy (show Shared.TypeIs {s with heap:=s.heap.push Qqd} (.ref l) "list" from⟨_,g1,rfl⟩) ?_);rw[if_pos (by decide)];refine Ab<|fK g1 J λc H X=>?_;have y:=u.keeps X;have hd2:c.DictOf (Kh prog w) s.heap.objs.size []:=by obtain⟨o,z,B,W,r⟩:=a;exact⟨o,z,B,X _ o W,r⟩
 have m:s.heap.objs.size<c.objs.size:=by obtain⟨o,z,B,W,r⟩:=hd2;exact An W
 simp only[DP,if_true];refine Ab<|Dt ?_;refine Ab<|Sr.iter (x:=.l l) (s:={s with heap:=c,toks:=H}) (xs:=its.toArray) y.isList ?_;have C:∀b o,c.get? b=some o->(c.push<|Sr.ob<|.l l).get? b=some o:=λb o e=>Ag _ e;refine Ae ⟨Dh Pw _,?_⟩;have Y:s.heap.objs.size≠c.objs.size:=Au m;have Z:l≠s.heap.objs.size:=Au K;have n3:l≠c.objs.size:=Au<|Cw K m;show codeAny (KF prog w) A.in1 (.builtin "dict.update.loop" ⟨[.ref s.heap.objs.size,.ref c.objs.size,rawInt (0:Nat),.none],[]⟩) _ {s with heap:=c.push (Sr.ob<|.l l),toks:=H};refine kH (A:=A.in1) (h0:=s.heap) (l:=l) (its:=its) (kvs:=kvs) (D:=s.heap.objs.size) (I:=c.objs.size) J S T Y Z n3 kvs.length 0 {s with heap:=c.push (Sr.ob<|.l l),toks:=H} rfl (Bo _) ?_ (y.keeps C).isList ?_ (λj v i e1 e2=>?_) (λb o _ _ e=>C b o (X b o<|k1 b o e)) λh' G d' k'=>?_
 ·exact Sr.at_new (x:=.l l)<|Av _ rfl
 ·obtain⟨o,z,B,W,r⟩:=hd2;exact⟨o,z,B,C _ o W,r⟩
 ·have q:=U j v i e1 e2;have nn:∀b,v=.ref b->b<s.heap.objs.size:=λb e=>by
   obtain⟨p,kx,rfl,⟨o,g,_⟩,_⟩:=q;cases e;exact hlt _ o g
  refine⟨q.keep λb o _ g=>C b o (X b o<|k1 b o g),λe=>?_,λe=>?_⟩
  ·exact absurd (nn _ e)<|AW _
  exact absurd (nn _ e)<|Nat.not_lt_of_lt m
 exact⟨rfl,h h' G d' λb o e=>k' b o (Au<|hlt b o e) (Au<|Cw (hlt b o e) m) e⟩
end
def Uk:D->Option (Key×D)
 |.tup [k,v]=>(keyOf k).map λq=>(q,v)
 |_=>none
def Rn:List D->Option (List<|Key×D)
 |[]=>some []
 |d::r=>(Uk d).bind λt=>(Rn r).map λts=>t::ts
def OM(kvs more:List (Key×D)):List (Key×D):=more.foldl (λacc a=>putD acc a.1 a.2) kvs
section
variable {qp:List (KB×Obj)}
def dC:∀{more:List (Key×V)} {i:List (Key×D)} {kvs:List (Key×V)} {f:List (Key×D)},KR Key K H io more i->KR Key K H io kvs f->KR Key K H io (ON kvs more) (OM f i):=by
 intro more i kvs f r;unfold KR at r
 induction r generalizing kvs f with
 |nil=>intro q;exact q
 |@cons p q g l h t a=>
  intro c;have e:KR Key K H io (putK kvs p.1 p.2) (putD f q.1 q.2):=by rw[<-h.1];exact KR.put c p.1 h.2
  exact a e
def WT(I:Inv X qp σ H s):∀{z:List V}{ds:List D} {f:List (Key×D)} {its:List IR},Hl X.K H io z ds->Rn ds=some f->Vals z its ->
  ∃(i:List (Key×V)) (kvs:List (Key×IR)),KR Key X.K H io i f/\KV i kvs/\its.length=kvs.length/\kvs.length=f.length/\∀(j:Nat) (v:IR) (n:Key×IR),its[j]?=some v->kvs[j]?=some n->P8 X.prog X.w s.heap v n
 |_,[],f,_,h,e,r=>by
  cases e;cases (show _=[] from h)
  cases r;exact⟨[],[],.nil,.nil,rfl,rfl,λj v n h=>by simp at h⟩
 |_,d::ds,f,_,h,e,r=>by
  obtain⟨y,z,rfl,B,C⟩:=h;obtain⟨t,a,e⟩:=Ht e;obtain⟨U,c,e⟩:=IL e;subst e;cases r with
  |@cons _ u _ us l g=>
   obtain⟨i,kvs,a1,a2,m,o,x⟩:=WT I C c g;unfold Uk at a;split at a
   ·rename_i k v;obtain⟨q,eq1,a⟩:=IL a;subst a;obtain⟨p,Y,rfl,A,rs⟩:=B;obtain⟨v1,Z,rfl,E,rs⟩:=rs;obtain⟨v2,Q,rfl,W,rs⟩:=rs
    cases (show Q=[] from rs)
    have F:=VG E eq1;subst F;cases l;obtain⟨ia,G,J,_⟩:=I.tuple<|Je.of (K:=X.K) A
    cases G with
    |cons L t1=>
     cases t1 with
     |cons M N=>
      cases N;rename_i S T;refine⟨(q,v2)::i,(q,T)::kvs,.cons ⟨rfl,W⟩ a1,.cons ⟨rfl,M⟩ a2,by rw[AB,AB,m],by rw[AB,AB,o],λj v n a c=>?_⟩
      cases j with
      |zero=>
       cases a;cases c;exact⟨p,S,rfl,J,RC L⟩
      |succ j=>exact x j v n a c
   ·cases a
def UO:GN
 |[.ref n],st=>(Iw st n).bind λds=>(Rn ds).bind λe=>if fits e.length=true then some (.ref st.length,st++[.dk (OM [] e)])else none
 |_,_=>none
def zlf(f:X.calm=true):Kw X (.type "dict") UO:=by
 rintro qp s σ H xs us Q I r ⟨ds,st,io,d,st',R,S,e,k⟩;unfold UO at e;split at e
 ·rename_i n;obtain⟨zs,l,e⟩:=Ht e;obtain⟨g,m,e⟩:=Ht e;obtain⟨hf,e⟩:=JJ e;cases e;obtain⟨v,rfl,p,rfl,w⟩:=R.one;obtain⟨u,rfl,x⟩:=r.one;cases x;obtain⟨G,y,A⟩:=LU S w l;obtain⟨its,E,pl,J⟩:=I.list y;obtain⟨c,kvs,a1,a2,K,W,i⟩:=WT I A m E;have h:kvs.length<=sizeLine:=by
   rw[W];exact of_decide_eq_true hf
  refine zg9 (I.ok.hd f) pl K h i λL j q z=>?_;have B:c.length=kvs.length:=BM a2;have hm:(ON [] c).length<=sizeLine:=by have:=YT c [];rw[A2]at this;omega
  have hd:(s.heap.objs.size==sysModules)=false:=beq_eq_false_iff_ne.mpr<|A3<|Au I.big;refine⟨.ref s.heap.objs.size,_,I.laid (a:=s.heap.objs.size) (o:=.dK (ON [] c)) (t':=j) z (Ai _)<|WR hm hd (a2.merge .nil) q,rfl,?_⟩;obtain⟨C,F⟩:=U4 (o:=.dK (ON [] c)) (ob:=.dk (OM [] g)) S (I.hok.fresh<|Ai _) λM T e=>⟨_,e,dC (KR.mono T a1) .nil⟩
  exact k _ _ [s.heap.objs.size] C F ⟨s.heap.objs.size,rfl,by rw[<-S.len];exact getElem?_len io _⟩
 ·cases e
end
def Wu(n:Nat)(f:Nat->Option V):It:=⟨λi _=>i<n,λi H v a=>a=H/\f i=some v,λi _=>n<=i⟩
def zkJ:List String:=["enumerate","zip","dict_itemiterator","dict_reverseitemiterator","odict_iterator","itertools.zip_longest","itertools.pairwise"]
variable {tg:Re}
def zjg(it:KB)(n:Nat)(f:Nat->Option V){R:Nat->IR->Prop}{T:Nat->Pv->Prop}(W:∀A:Around,A.handled=none->Walks P w A it [it] [it] n R T)(J:∀i v,R i v->∃x,f i=some x/\RelV x v) (q:∀i h,T i h->∃o nm B,h.get? it=some o/\o.cls=.type nm/\o.data=.fields B/\zkJ.contains nm=false)(j:∀(A:Around) (i:Nat) (s:Shared) (Q:Qqa) (E:Qqa),T i s.heap->Q (.ref it) s->wpAny (KF P w) A (pyIter<|.ref it) Q E s):
  Turn P w K tg (Wu n f) [it] it (λi h=>i<=n/\T i h) where
 mem:=by simp
 obj:=λi h st b a=>by
  have e:b=it:=by simpa using a
  subst e;obtain⟨o,nm,B,e,c,d,_⟩:=q i h st.2;exact⟨o,e,λv z=>by rw[d]at z;cases z⟩
 keep:=λi h g st k=>⟨st.1,(W {} rfl).frame i h g st.2 k⟩
 item:=by intro X m hw r u i qp s σ H E I hf st l;subst m hw r;obtain⟨f0,f1,f2,y,f4,C⟩:=hf it (by simp);refine(W X.A<|I.ok.hd u).item i s _ _ l st.2 λv g F L st' G=>?_;obtain⟨x,M,rx⟩:=J i v L;have N:Inv X qp σ H {s with heap:=g,toks:=F}:=I.turned (λb o a e=>G b o (by simpa using a) e) f0 f1 y f4 C;obtain⟨o,nm,B,e,c,d,S⟩:=q (i+1) g st';exact⟨_,rfl,US (s:={s with heap:=g,toks:=F}) e c d S ⟨x,H,N,rx,⟨rfl,M⟩,⟨l,st'⟩,λb a=>(hf b a).1⟩⟩
 done:=by intro X m hw r u i qp s σ H E I hf st l;subst m hw r;obtain⟨f0,f1,f2,y,f4,C⟩:=hf it (by simp);have e:i=n:=Nat.le_antisymm st.1 l;subst e;exact(W X.A<|I.ok.hd u).done s _ _ st.2 λg F G=>⟨rfl,I.turned (λb o a e=>G b o (by simpa using a) e) f0 f1 y f4 C⟩
 self:=λA i s Q E st h=>j A i s Q E st.2 h
def nP{H:Hp}{io:List KB}{ds:List D}{n:Nat}{f:Nat->Option V}(e:n=ds.length)(hf:∀i d,ds[i]?=some d->∃v,f i=some v/\∀H io,Rep K H io v d):MR K H io ⟨ds,[]⟩ (Wu n f) where
 go:=λi d H1 c s hd g a h=>by have hi:i<ds.length:=(KM.mp hd).1;refine⟨by show i<n;omega,λx o y=>?_⟩;obtain⟨rfl,y⟩:=y;obtain⟨v,l,m⟩:=hf i d hd;rw[l]at y;cases y;exact⟨Ext.refl,a,m _ _⟩
 stop:=λH1 c s g a h=>by show n<=ds.length;omega
 stop':=λH1 c s i hi g a h=>by show n<=i;have hi:ds.length<=i:=hi;omega
variable {l e:Re}{es:List Re}{mm:MA}{mt:MT}{ms:MS}{body:List W1}
def signs(z:Str):List D:=z.cps.toList.map λc=>D.str ⟨#[c]⟩
def Ro(z:Str)(i:Nat):Option V:=z.cps[i]?.map λc=>V.str ⟨#[c]⟩
def zlK(f:A.handled=none)(I:KB)(x:Str)(t:Tok):Walks P w A I [I] [I] x.cps.size (SignAt x) (λi h=>h.IsStrIter I (strIterType x) x t i):=by
 unfold strIterType;cases x.cps.all (· < 128)
 ·exact Walks.strWide f I x t
 exact Walks.strAscii f I x t
def zO(it:KB)(x:Str)(t:Tok):Turn P w K tg (Wu x.cps.size<|Ro x) [it] it (λi h=>i<=x.cps.size/\h.IsStrIter it (strIterType x) x t i):=
 zjg it x.cps.size (Ro x) (λA a=>zlK a it x t) (λi v ⟨c,u,g,l⟩=>⟨.str ⟨#[c]⟩,by unfold Ro;rw[g];rfl,u,l⟩)
  (λi h ⟨o,e,c,d⟩=>⟨o,_,_,e,c,d,by unfold strIterType;split<;>decide⟩) λA i s Q E st h=>by
   unfold strIterType at st;split at st
   ·exact wpAny_pyIter_striter_ascii st h
   exact wpAny_pyIter_striter_wide st h
def ZG(f:TE):TI:=λσ H R=>f σ H λx H1=>∃z,x=.str z/\R (Wu z.cps.size<|Ro z) H1
def qH{f:TE}(i:PE X l f):PI X tg l (ZG f):=by
 intro qp s σ H R I h;refine HB (i qp s σ H _ I h) ?_;rintro v s1 ⟨x,H1,I1,a,c⟩;obtain⟨z,e,q⟩:=c;subst e;obtain⟨t,rfl⟩:=a;refine wpAny_pyIter_strU ?_;refine⟨s1.heap.objs.size,[s1.heap.objs.size],_,_,H1,rfl,I1.kept (t':=s1.toks) λb o e=>Ag _ e,zO _ z t,⟨Bo _,_,Av _ rfl,rfl,rfl⟩,λb g=>?_,q⟩;have e:b=s1.heap.objs.size:=by simpa using g
 subst e;exact I1.fpOk (Ai _)<|I1.hok.fresh<|Ai _
def signs_get{z:Str}{i:Nat}{d:D}(h:(signs z)[i]?=some d):∃v,Ro z i=some v/\∀H io,Rep K H io v d:=by unfold signs at h;rw[AJ]at h;obtain⟨c,a,e⟩:=IL h;subst e;refine⟨.str ⟨#[c]⟩,?_,λH io=>rfl⟩;unfold Ro;rw[BY]at a;rw[a];rfl
def zlY(z:Str):z.cps.size=(signs z).length:=by unfold signs;rw[Ah,AF]
def jS(m:ME):MI:=λρ st=>(m ρ st).bind λ(d,s)=>match d with
 |.str z=>some (⟨signs z,[]⟩,s)
 |_=>none
def pF(f:SE X l m):SI X tg l (jS m):=PI.imp (qH f) <| by
 rintro σ H R ⟨ρ,st,io,W,st',E,S,e,k⟩;obtain⟨⟨d,s1⟩,a,e⟩:=Ht e;dsimp only at e;split at e
 ·rename_i z;cases e;refine⟨ρ,st,io,_,_,E,S,a,λv H1 c g o r=>?_⟩;exact⟨z,r,k _ H1 c g o<|nP (zlY z) λi d h=>signs_get h⟩
 ·cases e
def Jw(m:ME):MI:=λρ st=>(m ρ st).bind λ(d,s)=>NN (Rp d s)<|match d with|.str z=>some (⟨signs z,[]⟩,s)|_=>none
def Mt(f:SE X l m):SI X tg l (Jw m):=by
 rintro qp s σ H R I ⟨ρ,st,io,W,st',E,S,e0,k⟩;obtain⟨⟨d,s1⟩,a,e0⟩:=Ht e0;rcases Pt e0 with e0|e0
 ·exact cD f qp s σ H R I ⟨ρ,st,io,W,st',E,S,by unfold mW;rw[a];exact e0,k⟩
 exact pF f qp s σ H R I ⟨ρ,st,io,W,st',E,S,by unfold jS;rw[a];exact e0,k⟩
def J3(c:MT)(m:MS):Nat->MS
 |0=>λ_ _=>none
 |n+1=>λρ st=>(c ρ st).bind λ(b,s)=>if b=true then(m ρ s).bind λ(f,s2)=>match f with
   |.nx ρ2=>J3 c m n ρ2 s2
   |.ct ρ2=>J3 c m n ρ2 s2
   |.bk ρ2=>some (.nx ρ2,s2)
   |.rt d=>some (.rt d,s2)
  else some (.nx ρ,s)
def Mg(g:D->List D->Hg->Option (D×Hg))(m:ME)(mm:MA):ME:=λρ st=>(m ρ st).bind λ(x,s1)=>match x with
 |.str _=>(mm ρ s1).bind λ(xs,s2)=>g x xs s2
 |_=>none
def zkm{g:D->List D->Hg->Option (D×Hg)}(h:tE K (Mg g m mm) σ H Q):jO K "str" (Si K g) (tE K m) (tA K mm) σ H Q:=by
 obtain⟨ρ,st,io,d,st',E,S,e,k⟩:=h;obtain⟨⟨x,s1⟩,s,e⟩:=Ht e;cases x with
 |str z=>
  obtain⟨⟨xs,s2⟩,u,e⟩:=Ht e;refine⟨ρ,st,io,_,s1,E,S,s,λv1 H1 c l a R1=>⟨by cases (show v1=.str z from R1);rfl,ρ,s1,io++c,xs,s2,E.ext S l,a,u,λw H2 v o r R2=>?_⟩⟩;exact⟨_,xs,s2,(io++c)++v,d,st',R1.ext a o,R2,r,e,(k.on a l).on r o⟩
 |_=>cases e
def Qe{name:Str}{id:String}{g:D->List D->Hg->Option (D×Hg)}{o:Re}{apos cpos:Pos}(slot:Slot "str" name id)(q:typeOf (.builtin id)=pure (.type "method_descriptor"))(hm:Ss X id (Si X.K g))(z:SE X o m)(B:SA X (e::es) mm)(i:attributeBase o name X.env (eval o X.env)=eval o X.env:=by rfl)(n:((backTo cpos<|starEach (e::es) X.env).all (λx=>!x.1)&&(backToKw cpos<|keywordEach [] X.env).all (λx=>x.1.isSome)
   &&decide ((e::es).length+([]:List Keyword).length+(if([]:List Keyword).isEmpty then 0 else 1)<30))=true:=by rfl)
  (j:(apos.endLine==cpos.line)=true:=by rfl) (C:Qqb X.env e es:=by rfl) (f:Qqc cpos es X.env:=by rfl):
  SE X (.Call (.Attribute o name apos) (e::es) [] cpos) (Mg g m mm):=
 PE.imp (WM EJ slot q hm z B i n j C f) λσ H Q h=>zkm h
def slK:D->Option Int->Option Int->Hg->Option (D×Hg):=λx lo hi st=>match x with
 |.kl ds=>some (.ref st.length,st++[.lst (cutD ds lo hi)])
 |_=>none
def NM:D->Option Int->Option Int->Hg->Option (D×Hg):=λx lo hi st=>NN (PF x lo hi st)<|slK x lo hi st
def Iu(m:ME)(l h:MO):ME:=λρ st=>(m ρ st).bind λ(x,s1)=>(l ρ s1).bind λ(lo,s2)=>(h ρ s2).bind λ(hi,s3)=>NM x lo hi s3
def M9{lo hi:Option Re}{f i:MO}{p2:Pos}(he:SE X e m)(j:SO X lo f)(n:SO X hi i):SE X (.Subscript e (.Slice lo hi none p2) pos) (Iu m f i):=by
 rintro qp s σ H Q I ⟨ρ,st,io,d,st',E,S,e0,k⟩;obtain⟨⟨x,s1⟩,u,e0⟩:=Ht e0;obtain⟨⟨c,s2⟩,v,e0⟩:=Ht e0;obtain⟨⟨g,s3⟩,w,e0⟩:=Ht e0;rcases Pt e0 with e0|e0
 ·exact VI he j n qp s σ H Q I ⟨ρ,st,io,d,st',E,S,by simp only[Lx,u,v,w,Aa];exact e0,k⟩
 ·refine Vz cQ he j n qp s σ H Q I ?_;refine⟨ρ,st,io,x,s1,E,S,u,λv1 H1 y h a R1=>⟨ρ,s1,io++y,c,s2,E.ext S h,a,v,λH2 W l o=>⟨ρ,s2,(io++y)++W,g,s3,(E.ext S h).ext a l,o,w,λG J A K=>?_⟩⟩⟩;have z:=(R1.ext a l).ext o A;have B:=((k.on a h).on o l).on K A
  cases x with
  |kl ds=>
   cases e0;obtain⟨p,xs,rfl,C,r⟩:=z;exact⟨p,xs,rfl,C.sq,λq F=>B.lst K (Xu r _ _) F⟩
  |_=>cases e0
def bV:G2
 |.str i,.str j,st=>some (.bl (!(!(A0 j i 0 j.length 1).isEmpty)),st)
 |_,_,_=>none
def zj4:Jq X (PP .NotIn) bV:=by
 rintro qp s σ H x y v u Q I rx a ⟨c,g,st,io,d,st',h,l,S,e,k⟩;cases c with
 |str i=>
  cases g with
  |str j=>cases e;exact zhy qp s σ H x y v u Q I rx a ⟨i,j,h,l,k.now S rfl⟩
  |_=>cases e
 |_=>cases e
def QB:G2:=JG QA bV
def zl4(j:X.A.units+100<cLine)(f:SE X a ma)(i:SE X b mb)(hm:behindInMarks .NotIn b=false:=by rfl):SB X (.Compare a [.NotIn] [b] pos) (mT<|mB QB ma mb):=WV (gR j f i hm) (Io zj4 f i hm)
end L2.MP
namespace PySem.F
end PySem.F
namespace PySem
open Builtin
end PySem
namespace L2.MP
open PySem PySem.Spec PyProof.Rows
variable {st:Hg}{m ma mb:ME}{mm:MA}
section
variable {ρ ρ1:HX}{s1:Hg}{n o:ME}{ms mq:MS}{mt mu:MT}{d:D}{ml mh:MO}
@[simp] theorem WD:Jw m ρ st=(m ρ st).bind λp=>NN (Rp p.1 p.2) (match p.1 with|.str z=>some (⟨signs z,[]⟩,p.2)|_=>none):=rfl
theorem Qb{g:D->List D->Hg->Option (D×Hg)}:Mg g m mm ρ st=(m ρ st).bind λp=>match p.1 with
 |.str _=>(mm ρ p.2).bind λq=>g p.1 q.1 q.2
 |_=>none:=rfl
@[simp] theorem RG:Iu m ml mh ρ st=(m ρ st).bind λp=>(ml ρ p.2).bind λq=>(mh ρ q.2).bind λr=>NM p.1 q.1 r.1 r.2:=rfl
end
def zgZ:typeLookup (.type "tuple") "keys"=pure none:=by rw[Ey,Dp];kernel_rfl
structure Rj(prog:P3)(w:UF)(A:Around)(D I:KB)(n:Nat)(key val:Nat->IR)(T:Nat->Pv->Prop):Prop where
 keep:∀i h h',T i h->(∀b o,b≠I->h.get? b=some o->h'.get? b=some o)->T i h'
 step:∀i (s:Shared) (Q:Unit->Shared->Prop) (E:Qqa),i<n->T i s.heap->(∀h' tk,T (i+1) h'->Bw D s.heap h'->Q () {s with heap:=h',toks:=tk})->wpAny (KF prog w) A (dictSet D (key i) (val i)) Q E s
variable {n i:Nat}{prog:P3}{w:UF}{A:Around}{E:Qqa}{s:Shared}{a it I:KB}{xs:Array IR}{x:Sr}{its:List IR}{key:Nat->IR}{T:Nat->Pv->Prop}{h:Pv}
def zkH{Q:Option IR->Shared->Prop}{k:Nat}{c:Array (Option IR)}(f:s.heap.get? a=some {cls:=.type "tuple",dict:=none,data:=.seq xs k,slots:=c})(q:A.handled=none)(h:∀h' j,(∀b u,s.heap.get? b=some u->h'.get? b=some u)->Q none {s with heap:=h',toks:=j}):wpAny (KF prog w) A (getAttr? (.ref a) "keys") Q E s:=by
 obtain⟨n,g,d,j,os⟩:=s;have m:∀i,(⟨n,g,d,i,os⟩:Shared).TypeIs (.ref a) "tuple":=λ_=>⟨_,f,rfl⟩;have f1:=FD;have o:=F.slot_tuple_getattribute.lookup;have f4:=F.slot_tuple_getattribute.bind<|.ref a;have r:=am_tuple_getattr_none;unfold getAttr? getAttrBy? getAttrBy
 repeat (any_goals (first|assumption|exact m _|((with_reducible show wpAny _ _ (call (Cm "tuple.__getattribute__") _ _) _ _ _);refine Dx F.slot_tuple_getattribute (m _) am_entry_tuple_getattribute (F.args_tuple_getattribute_2 _ _) (meets_getattribute_miss_tuple a xs k c _ _ zgZ<|by decide +kernel) ⟨f,q,λh' i e l=>?_⟩)|wp_step))
 obtain⟨t',v,he⟩:=l.there;show wpAny _ _ (getattributeRaised _ _ _ _ _ _ _) _ _ _;unfold getattributeRaised
 repeat (any_goals (first|assumption|wp_step))
 exact h _ _ l.keeps
def Sr.nextN{v:IR}{R:Option IR->Shared->Prop}(hit:x.at_ s.heap it i)(h:x.is s.heap xs)(c:xs[i]?=some v)(k:∀h',x.at_ h' it (i+1)->Bw it s.heap h'->R (some v) {s with heap:=h'}):
  wpAny (KF prog w) A (pyNext<|.ref it) R E s:=by
 cases x with
 |l a=>exact Dc hit h c k
 |t a=>exact Em (show s.heap.IsTupleIter it a i from hit) (show s.heap.IsTuple a xs from h) c k
def Sr.stopN{R:Option IR->Shared->Prop}(c:A.handled=none)(hit:x.at_ s.heap it i)(h:x.is s.heap xs)(e:xs[i]?=none)(k:∀h',EK it s.heap h'->R none {s with heap:=h'}):
  wpAny (KF prog w) A (pyNext<|.ref it) R E s:=by
 cases x with
 |l a=>exact Dl c hit h e k
 |t a=>exact EA c (show s.heap.IsTupleIter it a i from hit) (show s.heap.IsTuple a xs from h) e k
def nA{R:Result->Shared->Prop}{D:KB}{val:Nat->IR}{h0:Pv}(F:Rj prog w A.in1 D I n key val T)(U:A.in1.handled=none)(X:its.length=n)(f:D≠I)(z:x.ad≠D)(B:x.ad≠I):
  ∀(k i:Nat) (s:Shared),n-i=k->i<=n->x.at_ s.heap I i->x.is s.heap its.toArray->T i s.heap ->
  (∀(j:Nat) (v:IR),its[j]?=some v->∃p,v=.ref p/\IsTup s.heap p #[key j,val j]/\p≠D/\p≠I)->(∀b o,b≠D->b≠I->h0.get? b=some o->s.heap.get? b=some o) ->
  (∀h' Y,T n h'->(∀b o,b≠D->b≠I->h0.get? b=some o->h'.get? b=some o)->R (.ok<|.ret .none) {s with heap:=h',toks:=Y}) ->
  codeAny (KF prog w) A (.builtin "dict.update.loop" ⟨[.ref D,.ref I,rawInt i,.none],[]⟩) R s:=by
 intro k
 induction k with
 |zero=>
  intro i s hk hi hit a hd E h0k hR;have Q:i=n:=by omega
  subst Q;refine DD VP ?_;rw[CH Pw _];show wpAny _ A.in1 (pyNext (.ref I) >>= _) _ _ s;refine Ab<|Sr.stopN U hit a (by simp[X]) λh' hx=>?_;show wpAny _ A.in1 (Ef D [] >>= λ_=>ret .none) _ _ _;exact Ab<|Ae<|Ae<|hR h' s.toks (F.keep _ _ _ hd λb o m e=>hx b o m e) λb o W r e=>hx b o r (h0k b o W r e)
 |succ k Z=>
  intro i s hk hi hit a hd E h0k hR;have C:i<n:=by omega
  have l:i<its.length:=by omega
  refine DD VP ?_;rw[CH Pw _];show wpAny _ A.in1 (pyNext (.ref I) >>= _) _ _ s;have hv:its[i]?=some its[i]:=Ap l;refine Ab<|Sr.nextN (v:=its[i]) hit a (by simp[l]) λh' y hx=>?_;obtain⟨p,ep,tp,nD,nI⟩:=E i _ hv;have G:IsTup h' p #[key i,val i]:=by obtain⟨o,g,c⟩:=tp;exact⟨o,hx.extBut p o nI g,c⟩
  have H:T i h':=F.keep _ _ _ hd λb o m e=>hx.extBut b o m e;rw[ep];refine Ab<|A7<|Ab<|wpAny_tryCatch<|iH (s:={s with heap:=h'}) G ?_;refine A7<|F.step i {s with heap:=h'} _ _ C H λr J hd2 K=>?_;have h:∀b o,b≠D->h'.get? b=some o->r.get? b=some o:=λb o m e=>K.extBut b o m e;refine Ae ⟨Dh Pw _,?_⟩;refine Z (i+1) {s with heap:=r,toks:=J} (by omega) (by omega) ?_ ?_ hd2 (λj v W=>?_) (λb o b1 M e=>h b o b1 (hx.extBut b o M<|h0k b o b1 M e)) λh3 L d3 k3=>hR h3 L d3 k3
  ·exact Sr.at_keep y λu e=>h I u (A3 f) e
  ·exact Sr.is_keep (Sr.is_keep a λu e=>hx.extBut _ u B e) λu e=>h _ u z e
  obtain⟨q,e,⟨o,g,c⟩,N,S⟩:=E j v W;exact⟨q,e,⟨o,h q o N<|hx.extBut q o S g,c⟩,N,S⟩
def Sr.pl(h:Pv)(xs:Array IR):Sr->Prop
 |.l a=>PlainL h a xs
 |.t a=>MY h a xs
def Sr.pl_is(q:x.pl h xs):x.is h xs:=by
 cases x with
 |l a=>exact PlainL.isList q
 |t a=>exact MY.t q
def Sr.pl_keep{h':Pv}(q:x.pl h xs)(k:∀b u,h.get? b=some u->h'.get? b=some u):x.pl h' xs:=by
 cases x with
 |l a=>exact PlainL.keeps q k
 |t a=>exact MY.keeps q k
def zha{val:Nat->IR}{Q:Qqa}(K:A.handled=none)(q:x.pl s.heap its.toArray)(M:its.length=n)(N:∀I:KB,s.heap.objs.size<I->Rj prog w A.in1.in1 s.heap.objs.size I n key val T) (h0:T 0 (s.heap.push Qqd))(S:∀(j:Nat) (v:IR),its[j]?=some v->∃p,v=.ref p/\IsTup s.heap p #[key j,val j])(h:∀h' L,T n h'->(∀b o,s.heap.get? b=some o->h'.get? b=some o)->Q (.ref s.heap.objs.size) {s with heap:=h',toks:=L}):
  wpAny (KF prog w) A (call (.type "dict") [.ref x.ad]) Q E s:=by
 refine callType_codes (Q₁:=λobj s₁=>obj=.ref s.heap.objs.size/\s₁={s with heap:=s.heap.push Qqd}) F.kt_called_dict (F.kt_typeCall_dict_1 _) F.entry_dict_init (kt_code_dict_new _ ⟨rfl,rfl⟩) ?_;rintro obj s₁ ⟨rfl,rfl⟩;have f:Shared.TypeIs {s with heap:=s.heap.push Qqd} (.ref s.heap.objs.size) "dict":=⟨_,Av _ rfl,rfl⟩
 have k1:∀b o,s.heap.get? b=some o->(s.heap.push Qqd).get? b=some o:=λb o e=>Ag _ e;have m:=Sr.pl_keep q k1;have hlt:∀b o,s.heap.get? b=some o->b<s.heap.objs.size:=λb o e=>An e;have z:x.ad<s.heap.objs.size:=by obtain⟨o,g⟩:=Sr.is_get<|Sr.pl_is q;exact hlt _ o g
 refine⟨f,F.args_dict_init_2 _ _,?_⟩;unfold Builtin.«dict.__init__»;refine Ab ?_;unfold Eg;refine Ab<|Do f ?_;show wpAny _ _ (pure (s.heap.objs.size,[Aw x.ad])) _ _ _;refine Ae ?_;show wpAny _ _ (Cg "dict.__init__" s.heap.objs.size (.ref x.ad) [] .none) _ _ _;unfold Cg;have rest:∀(y:Pv) (i:Nat),(∀b u,(s.heap.push Qqd).get? b=some u->y.get? b=some u) ->
   codeAny (KF prog w) A.in1 (.builtin "dict.update.loop" ⟨[.ref s.heap.objs.size,.ref y.objs.size,rawInt (0:Nat),.none],[]⟩) (wants (λr s₂=>r=.none/\Q (.ref s.heap.objs.size) s₂) E) {s with heap:=y.push x.ob,toks:=i}:=by
  intro y i k2;have B:=Sr.pl_keep m k2;have W:s.heap.objs.size<y.objs.size:=by obtain⟨o,U,_⟩:=f;exact An<|k2 _ o U
  have J:∀b o,y.get? b=some o->(y.push x.ob).get? b=some o:=λb o e=>Ag _ e;have X:s.heap.objs.size≠y.objs.size:=Au W;have Y:x.ad≠s.heap.objs.size:=Au z;have Z:x.ad≠y.objs.size:=Au<|Cw z W;have FF:=N y.objs.size W;refine nA (A:=A.in1) (h0:=s.heap) (x:=x) (its:=its) FF K M X Y Z n 0 {s with heap:=y.push x.ob,toks:=i} rfl (Bo _) ?_ (Sr.pl_is<|Sr.pl_keep B J) ?_ (λj v e1=>?_) (λb o _ _ e=>J b o (k2 b o<|k1 b o e)) λh' L d' k'=>?_
  ·exact Sr.at_new<|Av _ (by cases x<;>rfl)
  ·exact FF.keep _ _ _ h0 λb o _ e=>J b o (k2 b o e)
  ·obtain⟨p,e,⟨o,g,c⟩⟩:=S j v e1;exact⟨p,e,⟨o,J p o<|k2 p o<|k1 p o g,c⟩,Au<|hlt p o g,Au<|Cw (hlt p o g) W⟩
  exact⟨rfl,h h' L d' λb o e=>k' b o (Au<|hlt b o e) (Au<|Cw (hlt b o e) W) e⟩
 cases x with
 |l a=>
  obtain⟨⟨cl,di,da,sl⟩,nn,g1,C,G,H⟩:=id m;simp only at C G H;subst C G H;refine Ab (Cy (show Shared.TypeIs {s with heap:=s.heap.push Qqd} (.ref a) "list" from⟨_,g1,rfl⟩) ?_);rw[if_pos (by decide)];refine Ab<|fK g1 K λy i k2=>?_;simp only[DP,if_true];refine Ab<|Dt ?_;refine Ab<|Sr.iter (x:=.l a) (s:={s with heap:=y,toks:=i}) (xs:=its.toArray) (Sr.pl_is (x:=.l a)<|Sr.pl_keep (x:=.l a) m k2) ?_;exact Ae ⟨Dh Pw _,rest y i k2⟩
 |t a=>
  obtain⟨⟨cl,di,da,sl⟩,g1,C,G,nn,H⟩:=id m;simp only at C G H;subst C G H;refine Ab (Cy (show Shared.TypeIs {s with heap:=s.heap.push Qqd} (.ref a) "tuple" from⟨_,g1,rfl⟩) ?_);rw[if_pos (by decide)];refine Ab<|zkH g1 K λy i k2=>?_;simp only[DP,if_true];refine Ab<|Dt ?_;refine Ab<|Sr.iter (x:=.t a) (s:={s with heap:=y,toks:=i}) (xs:=its.toArray) (Sr.pl_is (x:=.t a)<|Sr.pl_keep (x:=.t a) m k2) ?_;exact Ae ⟨Dh Pw _,rest y i k2⟩
variable {X:Cx}
def Sh:G2
 |.str x,.str y,st=>some (.bl (x != y),st)
 |_,_,_=>none
def rD:Jq X (PP .NotEq) Sh:=by
 rintro qp s σ H x y v u Q I rx a ⟨l,m,st,io,d,st',h,i,S,e,k⟩;unfold Sh at e;split at e
 ·cases e
  cases (show x=_ from h)
  cases (show y=_ from i)
  obtain⟨t,rfl⟩:=rx;obtain⟨t',rfl⟩:=a;exact PyProof.Rows.ne_str ⟨.bl _,H,I,rfl,k.now S rfl⟩
 ·cases e
def FK(prog:P3)(w:UF)(D:KB)(kvs:List (Key×IR))(i:Nat)(h:Pv):Prop:=h.DictOf (Kh prog w) D<|merged []<|kvs.take i
def Sf(xs:List IR)(i:Nat):IR:=match xs[i]? with|some x=>x|none=>.none
def Ua(xs:List (Key×IR))(i:Nat):IR:=match xs[i]? with|some x=>x.2|none=>.none
def mQ{D:KB}{kvs:List (Key×IR)}{c:List IR}(f:D≠I)(q:kvs.length<=sizeLine)(hk:∀(j:Nat) (g:Key×IR),kvs[j]?=some g->(Kh prog w).is g.1 (Sf c j)=true):Rj prog w A D I kvs.length (Sf c) (Ua kvs) (FK prog w D kvs) where
 keep:=λi h l ⟨o,m,n,u,r⟩ k=>⟨o,m,n,k D o f u,r⟩
 step:=λi s Q E hi hd h=>by
  have e:kvs[i]?=some kvs[i]:=Ap hi;have ev:Ua kvs i=kvs[i].2:=by unfold Ua;rw[e]
  rw[ev];have v:(merged []<|kvs.take i).length<=sizeLine:=by have:=Yq (kvs.take i) [];rw[Ba,A2]at this;omega
  refine Fq (hk i _ e) hd (λl a x=>h l _ ?_ x) v;have y:stored (merged []<|kvs.take i) kvs[i].1 kvs[i].2=merged [] (kvs.take<|i+1):=(merged_take_succ [] kvs i _ e).symm;unfold FK;rw[<-y];exact a
def fS{h:Pv}:∀{its:List IR} {kvs:List (Key×IR)},its.length=kvs.length->(∀(j:Nat) (v:IR) (c:Key×IR),its[j]?=some v->kvs[j]?=some c->P8 prog w h v c) ->
  ∃f:List IR,∀(j:Nat) (v:IR) (c:Key×IR),its[j]?=some v->kvs[j]?=some c->∃p,v=.ref p/\IsTup h p #[Sf f j,c.2]/\(Kh prog w).is c.1 (Sf f j)=true
 |[],kvs,_,_=>⟨[],λj v c e=>by simp at e⟩
 |v::its,[],e,_=>by cases e
 |v::its,c::kvs,e,g=>by
  obtain⟨f,hk⟩:=fS (its:=its) (kvs:=kvs) (by simpa using e) λj u q a i=>g (j+1) u q a i;obtain⟨p,l,a,i,m⟩:=g 0 v c rfl rfl;refine⟨l::f,λj u q f1 f2=>?_⟩
  cases j with
  |zero=>
   cases f1;cases f2;exact⟨p,a,i,m⟩
  |succ j=>exact hk j u q f1 f2
variable {K:Ac}{H:Hp}{io:List KB}{st':Hg}
section
variable {qp:List (KB×Obj)} {σ:L2.St}
def UP:GN
 |[.tup ds],st=>(Rn ds).bind λc=>if fits c.length=true then some (.ref st.length,st++[.dk (OM [] c)])else none
 |_,_=>none
def zi8(g:X.calm=true):Kw X (.type "dict") UP:=by
 rintro qp s σ H xs us Q I r ⟨ds,st,io,d,st',R,S,e,k⟩;unfold UP at e;split at e
 ·rename_i zs;obtain⟨A,z,e⟩:=Ht e;obtain⟨hf,e⟩:=JJ e;cases e;obtain⟨v,rfl,p,B,rfl,C,F⟩:=R.one;obtain⟨u,rfl,G⟩:=r.one;cases G;obtain⟨hz,its,J,pl⟩:=(show Kx X.prog X.w H s.heap p (.tup B) from I.hok p _ C)
  obtain⟨l,h,a1,a2,n,L,M⟩:=WT I F z J;have E:h.length<=sizeLine:=by rw[L];exact of_decide_eq_true hf
  obtain⟨m,hk⟩:=fS n M;have K:∀(j:Nat) (y:Key×IR),h[j]?=some y->(Kh X.prog X.w).is y.1 (Sf m j)=true:=λj y e=>by
   have W:j<its.length:=by rw[n];exact(KM.mp e).1
   obtain⟨_,_,_,q⟩:=hk j _ y (Ap W) e;exact q
  refine zha (x:=.t p) (T:=FK X.prog X.w s.heap.objs.size h) (key:=Sf m) (val:=Ua h) (I.ok.hd g) pl n (λi hi=>mQ (Au hi) E K) (Gn s.heap) (λj v e=>?_) λf N c U=>?_
  ·have W:j<h.length:=by
    rw[<-n];exact(KM.mp e).1
   have ex:h[j]?=some h[j]:=Ap W;obtain⟨Y,Z,tp,_⟩:=hk j v _ e ex;refine⟨Y,Z,?_⟩;unfold Ua;rw[ex];exact tp
  ·have c:f.DictOf (Kh X.prog X.w) s.heap.objs.size (merged [] h):=by
    have:FK X.prog X.w s.heap.objs.size h h.length f:=c;unfold FK at this
    rwa [CF]at this
   have hlV:l.length=h.length:=BM a2;have hm:(ON [] l).length<=sizeLine:=by have:=YT l [];rw[A2]at this;omega
   have hd:(s.heap.objs.size==sysModules)=false:=beq_eq_false_iff_ne.mpr<|A3<|Au I.big;refine⟨.ref s.heap.objs.size,_,I.laid (a:=s.heap.objs.size) (o:=.dK (ON [] l)) (t':=N) U (Ai _)<|WR hm hd (a2.merge .nil) c,rfl,?_⟩;obtain⟨E',S'⟩:=U4 (o:=.dK (ON [] l)) (ob:=.dk (OM [] A)) S (I.hok.fresh<|Ai _) λH' T e=>⟨_,e,dC (KR.mono T a1) .nil⟩
   exact k _ _ [s.heap.objs.size] E' S' ⟨s.heap.objs.size,rfl,by rw[<-S.len];exact getElem?_len io _⟩
 ·cases e
def UN:GN:=N7 UO UP
def zi9(c:X.calm=true):Kw X (.type "dict") UN:=Vt (zlf c)<|zi8 c
end
variable {pos:Pos}
section
variable {a b c e:Re}{es:List Re}{mc:ME}
def uE{x:Str}{z:Int}{t:Tok}(f:Gl X x)(hm:X.mg x=some (.int z t))(hd:(x==("__debug__":Str))=false:=by decide):SE X (.Name x pos) (mK<|.int z):=
 PE.imp (Xz f hm (v:=.int z) ⟨t,rfl⟩ hd) <| by
  rintro σ H Q ⟨ρ,st,io,d,st',E,S,e,k⟩;cases e;exact k.now S rfl
def Xo(i:Int):Bool:=decide (i.natAbs.log2<1920)
def J1:GN
 |[.str x],st=>some (.str x,st)
 |[.int i],st=>if Xo i=true then some (.str (toString i),st)else none
 |_,_=>none
def QN:Kw X (.type "str") J1:=by
 rintro qp s σ H xs us Q I r ⟨ds,st,io,d,st',R,S,e,k⟩;unfold J1 at e;split at e
 ·rename_i x;cases e;obtain⟨v,rfl,a⟩:=R.one
  cases (show v=.str x from a)
  obtain⟨u,rfl,t,rfl⟩:=r.one;exact PySem.P.str_of_str ⟨.str x,H,I,⟨t,rfl⟩,k.now S rfl⟩
 ·rename_i i;obtain⟨hf,e⟩:=JJ e;cases e;obtain⟨v,rfl,a⟩:=R.one
  cases (show v=.int i from a)
  exact zhR qp s σ H _ us Q I r ⟨i,rfl,of_decide_eq_true hf,k.now S rfl⟩
 ·cases e
end
end L2.MP
namespace L2.MP
variable {prog:P3}{w:UF}{A:Around}{E Q:Qqa}{s:Shared}
section
open PySem PySem.Spec PyProof.Rows PySem.Builtin PySem.Builtin.Str
variable {z y:Str}{t u:Tok}
def zV(a:(y.length==0)=false)(e:z.length+2<=sizeLine)(k:∀(c:List (Str×Tok)) (n:Nat),c.map (·.1)=Txt.split z y->Q (.ref s.heap.objs.size) {s with heap:=s.heap.push {cls:=.type "list",data:=.seq (strValues c).toArray},toks:=n}):
  wpAny (KF prog w) A (call (.builtin "str.split") [.str z t,.str y u]) Q E s:=by
 have v:(partsBetween z (occurrences z y 0 z.length<|z.length+1) y.length).length<=sizeLine:=by have:=EX z y 0 z.length<|z.length+1;rw[DG];omega
 by_cases l:(decide (z.length<y.length) || decide (strKind z<strKind y))=true
 ·refine Dx F.slot_str_split (Dw _ _ _) F.entry_str_split (F.args_str_split_2 _ _) (meets_str_split_cannot_occur z y t u l) ?_;exact k [(z,t)] s.toks (if_pos l).symm
 ·have o:=Bool.eq_false_iff.mpr l
  by_cases r:(occurrences z y 0 z.length<|z.length+1).isEmpty=true
  ·refine Dx F.slot_str_split (Dw _ _ _) F.entry_str_split (F.args_str_split_2 _ _) (meets_str_split_not_found z y t u o a r) ?_;exact k [(z,t)] s.toks ((if_neg l).trans<|if_pos r).symm
  refine Dx F.slot_str_split (Dw _ _ _) F.entry_str_split (F.args_str_split_2 _ _) (meets_str_split_sep z y t u o a (Bool.eq_false_iff.mpr r) (by omega) v) ?_;have q:=k (numbered s.toks<|partsBetween z (occurrences z y 0 z.length<|z.length+1) y.length) (s.toks+(partsBetween z (occurrences z y 0 z.length<|z.length+1) y.length).length)<|(numbered_texts _ _).trans ((if_neg l).trans<|if_neg r).symm;rw[<-strsFrom_eq]at q;exact q
def cT:∀a:List (Str×Tok),Vals (a.map λp=>V.str p.1) (strValues a)
 |[]=>.nil
 |p::a=>.cons ⟨p.2,rfl⟩<|cT a
end
variable {X:Cx}{K:Ac}{H:Hp}{io:List KB}{st st':Hg}{a b c e:Re}{es:List Re}{ma mb mc m:ME}{mm:MA}{pos:Pos}
section
open PySem PySem.Spec PyProof.Rows
def NI:D->List D->Hg->Option (D×Hg):=λx xs st=>match x,xs with
 |.str z,[.str y]=>if(!(y.length==0)&&fits (z.length+2)&&fits (Txt.split z y).length)=true then some (.ref st.length,st++[.lst ((Txt.split z y).map D.str)])else none
 |_,_=>none
def RV:Ss X "str.split" (Si X.K NI):=by
 rintro qp s σ H x xs v us Q I rx rs ⟨g,ds,st,io,d,st',l,Rs,S,e,k⟩;unfold NI at e;split at e
 ·rename_i z y;obtain⟨hf,e⟩:=JJ e;cases e;rw[Ad,Ad]at hf;have m:(y.length==0)=false:=by simpa using hf.1.1
  have o:z.length+2<=sizeLine:=of_decide_eq_true hf.1.2;have r:(Txt.split z y).length<=sizeLine:=of_decide_eq_true hf.2;cases (show x=.str z from l)
  obtain⟨w,rfl,A⟩:=Rs.one;cases (show w=.str y from A)
  obtain⟨t,rfl⟩:=rx;obtain⟨u,rfl,E⟩:=Vals.one rs;obtain⟨t',rfl⟩:=E;refine zV m o λa n W=>?_;have f:(a.map λp=>V.str p.1)=(Txt.split z y).map V.str:=by rw[<-W,By];rfl
  have c:=cT a;rw[f]at c;refine⟨.ref s.heap.objs.size,upd H s.heap.objs.size<|.lst<|(Txt.split z y).map V.str,I.lnew (t':=n) c (by rw[Ah];exact r),rfl,?_⟩;exact k.lst S (gI _)<|I.hok.fresh<|Ai _
 ·cases e
end
open PySem
variable {ρ:HX}
theorem RD{c:MT}{n:ME}:MD c m n ρ st=(c ρ st).bind λp=>if p.1=true then m ρ p.2 else n ρ p.2:=rfl
variable {W:Wk}{g:MG}{d:D}{ds:List D}{ρ1:HX}{s1 s2:Hg}
def sE{m:MS}{r:D}(f:walked W st=true)(h:g d ρ st=some (ρ1,s1))(i:m ρ1 s1=some (.rt r,s2)):Lq W g m (d::ds) ρ st=some (.rt r,s2):=by unfold Lq;rw[if_pos f,h];simp only[Aa,i]
def sD{m:MS}{ρ2:HX}(f:walked W st=true)(h:g d ρ st=some (ρ1,s1))(i:m ρ1 s1=some (.nx ρ2,s2)):Lq W g m (d::ds) ρ st=Lq W g m ds ρ2 s2:=by
 conv=>lhs;unfold Lq
 rw[if_pos f,h];simp only[Aa,i]
def zm0(f:Str):f++Eu=f:=by cases f;show Str.mk (_++#[])=_;simp
open PySem.Spec PyProof.Rows
def UT:GN
 |[.str x],st=>if decide (x.length<=640)=true then(EY x).map λn=>(.int n,st)else none
 |_,_=>none
def zld:Kw X (.type "int") UT:=by
 rintro qp s σ H xs us Q I r ⟨ds,st,io,d,st',R,S,e,k⟩;unfold UT at e;split at e
 ·rename_i x;obtain⟨hf,e⟩:=JJ e;obtain⟨n,a,e⟩:=IL e;cases e;obtain⟨v,rfl,c⟩:=R.one
  cases (show v=.str x from c)
  obtain⟨u,rfl,t,rfl⟩:=r.one;exact PySem.W.KIN.call_text a (of_decide_eq_true hf) ⟨.int n,H,I.tok _,⟨_,rfl⟩,k.now S rfl⟩
 ·cases e
def Oc:GN:=N7 HV UT
def fG:Kw X (.type "int") Oc:=Vt TQ zld
def N0:D->List D->Hg->Option (D×Hg):=λx xs st=>match x,xs with
 |.str z,[.str y]=>if fits z.length=true then some (.str (Txt.stripChars z y),st)else none
 |_,_=>none
def fR:Ss X "str.strip" (Si X.K N0):=by
 rintro qp s σ H x xs v us Q I rx rs ⟨l,ds,st,io,d,st',a,Rs,S,e,k⟩;unfold N0 at e;split at e
 ·rename_i z y;obtain⟨hf,e⟩:=JJ e;cases e
  cases (show x=.str z from a)
  obtain⟨w,rfl,c⟩:=Rs.one;cases (show w=.str y from c)
  obtain⟨t,rfl⟩:=rx;obtain⟨u,rfl,g⟩:=Vals.one rs;obtain⟨t',rfl⟩:=g;exact PySem.SC.stripChars (λt' n=>⟨.str _,H,I.tok _,⟨t',rfl⟩,k.now S rfl⟩)<|of_decide_eq_true hf
 ·cases e
@[irreducible] def IV (X:Cx) (s:List W1) (m:MS):Prop:=Mc X s m
@[irreducible] def JS (X:Cx) (s:W1) (m:MS):Prop:=SS X s m
@[irreducible] def JA (X:Cx) (es:List Re) (m:MA):Prop:=SA X es m
variable {body:List W1}{ms:MS}{p2:Pos}
section
variable {st1 st2:W1}{rest orelse:List W1}{mt mu:MT}{mq mr:MS}{mg:MG}{mi:MI}
def IV.out(h:IV X body ms):Mc X body ms:=by unfold IV at h;exact h
def IV.mk(h:Mc X body ms):IV X body ms:=by unfold IV;exact h
def JS.out(h:JS X st1 ms):SS X st1 ms:=by unfold JS at h;exact h
def JS.mk(h:SS X st1 ms):JS X st1 ms:=by unfold JS;exact h
def JA.out(h:JA X es mm):SA X es mm:=by unfold JA at h;exact h
def JA.mk(h:SA X es mm):JA X es mm:=by unfold JA;exact h
def JK:IV X [] Ia:=.mk RP
def HJ(h:JS X st1 ms):IV X [st1] ms:=.mk<|xA h.out
def HC(h:JS X st1 ms)(f:IV X rest mq):IV X (st1::rest) (mS ms mq):=.mk<|zF h.out f.out
def Jr(f:SB X c mt)(h:IV X body ms)(i:IV X orelse mq):JS X (.If c body orelse pos) (HS mt ms mq):=.mk<|kP f h.out i.out
def Qy{f iter:Re}(h:PassesOwn (KF X.prog X.w) X.A X.env X.xe)(i:X.calm=true)(hi:SI X f iter mi)(j:SG X f mg)(n:IV X body ms)(q:∀x,foldedSetIterable iter X.env x=pure x:=by intro _;rfl):JS X (.For f iter body [] pos) (mF mi mg ms):=.mk<|pN h i hi j n.out q
def LF:JA X [] mZ:=.mk Hk
def Hy(f:SE X e m)(h:JA X es mm)(hs:∀q,Qqb X.env e q:=by intro _;rfl):JA X (e::es) (Hc m mm):=.mk<|Hf f h.out<|hs _
def rX{i:Nat}{x:Str}{pos':Pos}(f:X.N.Nodup)(hi:X.N[i]?=some x)(j:Loc X.env.scope x)(h:JA X es mm)(hf:X.fn x=true\/X.env.scope.names.lookup x=some .local:=by first|exact .inl rfl|exact .inr rfl|assumption):JS X (.Assign [.Name x pos'] (.List es p2) pos) (Hm (mL mm)<|Hq i):=.mk<|bE f hi j (J8 h.out) rfl hf
end
section
variable {o:Re}{apos cpos:Pos}
def Mu:D->Hg->Option Bool
 |.bl b,_=>some b
 |.non,_=>some false
 |.int i,_=>some<|i != 0
 |.tup ds,_=>some<|!ds.isEmpty
 |.ref n,st=>(Iw st n).map λds=>!ds.isEmpty
 |_,_=>none
def Nr(m:ME):MT:=λρ st=>(m ρ st).bind λ(x,s1)=>(Mu x s1).map λb=>(b,s1)
def gW{xs:List V}(r:Hl K H io xs ds):(!xs.isEmpty)=!ds.isEmpty:=by have:=r.length;cases xs<;>cases ds<;>simp_all
def aN(h:SE X a m)(he:∀whole,isTrue a X.env whole=(do let v <-whole;standAt a.pos;holding [v] (truthy v)):=by intro _;rfl):SB X a (Nr m):=
 PT.imp (eW h he) <| by
  rintro σ H Q ⟨ρ,st,io,b,st',E,S,e,k⟩;obtain⟨⟨x,s1⟩,o,e⟩:=Ht e;obtain⟨i,c,e⟩:=IL e;cases e;refine⟨ρ,st,io,x,st',E,S,o,λv s ka u l g=>⟨b,?_,k s ka u l⟩⟩;unfold Mu at c;split at c
  ·cases c
   cases (show v=_ from g)
   exact rfl
  ·cases c
   cases (show v=_ from g)
   exact rfl
  ·cases c
   cases (show v=_ from g)
   exact rfl
  ·cases c;obtain⟨p,xs,rfl,w,r⟩:=g;exact .inr<|.inl ⟨xs,.inl<|.inl w,(gW r).symm⟩
  ·obtain⟨ds,y,c⟩:=IL c;cases c;obtain⟨p,rfl,A⟩:=g;obtain⟨K,W,f⟩:=LU l A y;exact .inl ⟨K,W,(gW f).symm⟩
  ·cases c
theorem Vc:Nr m ρ st=(m ρ st).bind λp=>(Mu p.1 p.2).map λb=>(b,p.2):=rfl
end
def JD:G2:=JG Uy λx y st=>match x,y with
 |.bl a,.bl b=>some (.bl (a==b),st)
 |_,_=>none
def Pc:G2:=JG G6 λx y st=>match x,y with
 |.bl a,.bl b=>some (.bl (a != b),st)
 |_,_=>none
def QG:Jq X (PP .Is) JD:=Pn vL (by
 rintro qp s σ H x y v u Q I rx a ⟨l,m,st,io,d,st',c,g,S,e,k⟩
 (try dsimp only at e)
 split at e
 ·cases e
  cases (show x=_ from c)
  cases (show y=_ from g)
  cases rx;cases a;exact PyProof.Rows.is_bool ⟨.bl _,H,I,rfl,k.now S rfl⟩
 ·cases e)
def fB:Jq X (PP .IsNot) Pc:=Pn yS (by
 rintro qp s σ H x y v u Q I rx a ⟨l,m,st,io,d,st',c,g,S,e,k⟩
 (try dsimp only at e)
 split at e
 ·cases e
  cases (show x=_ from c)
  cases (show y=_ from g)
  cases rx;cases a;exact PyProof.Rows.isnot_bool ⟨.bl _,H,I,rfl,k.now S rfl⟩
 ·cases e)
open PySem.SeqAt PySem.MeetsSeq PySem.MeetsSeq2 PySem.MeetsSeq3
def zg3{t i:KB}{items:Array IR}{j n:IR}{lo hi:Option Int}(f:IsTup s.heap t items)(q:s.heap.IsSliceOf i j n .none)(pl:IsPart j lo)(pu:IsPart n hi)(h0:HT.HR items.size 0 lo=0) (z:HT.HR items.size items.size hi=items.size) (h:Q (.ref t) s):wpAny (KF prog w) A (getItem (.ref t)<|.ref i) Q E s:=by
 obtain⟨os,a,c,g⟩:=id q;have e:s.TypeIs (.ref i) "slice":=⟨os,a,c⟩;unfold getItem
 try with_reducible refine A7 ?_
 first|refine Ab (Ae ?_)|skip
 refine Ab (FP f.typeIs (by decide)<|Ab<|BB (name:=Bp "__getitem__") f.typeIs BI<|Bx BI f.typeIs Fm ?_<|Fz _ _);show wpAny _ _ (DT (.ref t) >>= _) _ _ s;refine Ab<|tupleItemsOf_ f<|Ab<|Cy e ?_;rw[if_pos (by decide)];refine Ab<|HT.Jo q pl pu ?_;rw[h0,z];have yes:((((0:Nat):Int)==0&&(1:Int)==1&&(items.size-0)==items.size)=true):=by simp
 show wpAny _ _ (if(((0:Nat):Int)==0&&(1:Int)==1&&(items.size-0)==items.size)=true then _ else _) _ _ s;rw[if_pos yes];refine Ab (m:=Builtin.Tuple.tupleIsExact _)<|Ab<|Cy f.typeIs<|Ae ?_;rw[if_pos (by decide)];exact Ab (m:=(pure (Fin.done<|Flow.ret<|Aw t):Sem Fin))<|Ae<|Ae ⟨_,rfl,Ae h⟩
def Zo(K:Ac):V->Option Int->Option Int->Hp->VK->Prop:=λx lo hi H Q=>∃a xs,x=.ref a/\Je K H a xs/\HT.HR xs.length 0 lo=0/\HT.HR xs.length xs.length hi=xs.length/\Q (.ref a) H
def zS:So X (Zo X.K):=by
 intro qp s σ H x v o u lo hi w Q I rx g pl pu h;obtain⟨a,xs,rfl,l,h0,m,q⟩:=h;cases rx;obtain⟨c,r,e,y⟩:=I.tuple l;have hlen:c.toArray.size=xs.length:=by rw[AA];exact r.length.symm
 exact⟨"tuple",_,PyProof.Rows.slot_tuple_getitem.lookup,e.typeIs,zg3 e g pl pu (by rw[hlen];exact h0) (by rw[hlen];exact m) ⟨.ref a,H,I,rfl,q⟩⟩
def jP:D->Option Int->Option Int->Hg->Option (D×Hg):=λx lo hi st=>match x with
 |.tup ds=>if(decide (HT.HR ds.length 0 lo=0)&&decide (HT.HR ds.length ds.length hi=ds.length))=true then some (.tup ds,st)else none
 |_=>none
def Ql:D->Option Int->Option Int->Hg->Option (D×Hg):=λx lo hi st=>NN (NM x lo hi st)<|jP x lo hi st
def I0(m:ME)(l h:MO):ME:=λρ st=>(m ρ st).bind λ(x,s1)=>(l ρ s1).bind λ(lo,s2)=>(h ρ s2).bind λ(hi,s3)=>Ql x lo hi s3
def Na{lo hi:Option Re}{f h:MO}(he:SE X e m)(i:SO X lo f)(j:SO X hi h):SE X (.Subscript e (.Slice lo hi none p2) pos) (I0 m f h):=by
 rintro qp s σ H Q I ⟨ρ,st,io,d,st',E,S,e0,k⟩;obtain⟨⟨x,s1⟩,v,e0⟩:=Ht e0;obtain⟨⟨c,s2⟩,w,e0⟩:=Ht e0;obtain⟨⟨g,s3⟩,y,e0⟩:=Ht e0;rcases Pt e0 with e0|e0
 ·exact M9 he i j qp s σ H Q I ⟨ρ,st,io,d,st',E,S,by simp only[Iu,v,w,y,Aa];exact e0,k⟩
 ·refine Vz zS he i j qp s σ H Q I ?_;refine⟨ρ,st,io,x,s1,E,S,v,λv1 H1 A l a R1=>⟨ρ,s1,io++A,c,s2,E.ext S l,a,w,λH2 q o u=>⟨ρ,s2,(io++A)++q,g,s3,(E.ext S l).ext a o,u,y,λC F K W=>?_⟩⟩⟩;have n:=(R1.ext a o).ext u K;have z:=((k.on a l).on u o).on W K;unfold jP at e0
  split at e0
  ·rename_i ds;obtain⟨hw,e0⟩:=JJ e0;cases e0;rw[Ad]at hw;obtain⟨p,xs,rfl,B,r⟩:=id n;exact⟨p,xs,rfl,Je.of B,by rw[r.length];exact of_decide_eq_true hw.1,by rw[r.length];exact of_decide_eq_true hw.2,z.now W n⟩
  ·cases e0
end L2.MP
namespace L2.MP
open PySem L2 PySem.Spec PyProof.Rows
section
variable {K:Ac}{x:Str}{st:W1}{f:KB}
structure P4(K:Ac)(x:Str)(st:W1)(f:KB):Prop where
 ex:∃(oc:IR) (od:Option KB) (kV dc pm:IR) (an:Option KB) (cd ct:IR) (sl:Array (Option IR)),K.lookup f=some ⟨oc,od,.func (BU x x (OV st) (Ln st) (Jl st) .none kV dc pm an cd ct),sl⟩/\C5 K cd x=true
 ns:FB K mainGlobals x=some (some (.ref f))
 kp:BF K (.ref f)=true
def kJ{e kV g pm cd h:IR}{i an:Option KB}{j:Array (Option IR)}(a:FB K mainGlobals x=some (some<|.ref f))(l:K.lookup f=some ⟨e,i,.func<|BU x x (OV st) (Ln st) (Jl st) .none kV g pm an cd h,j⟩)(c:C5 K cd x=true)(k:BF K (.ref f)=true):P4 K x st f:=⟨⟨e,i,kV,g,pm,an,cd,h,j,l,c⟩,a,k⟩
end
variable {α:Type}
def Q5{P:List α->Prop}(h:∀a,P [a])(l:List α)(e:l.length=1):P l:=by
 rcases l with _|⟨a,_|⟨b,l⟩⟩
 ·cases e
 ·exact h a
 ·cases e
def Oa{P:List α->Prop}(h:∀a b,P [a,b])(l:List α)(e:l.length=2):P l:=by
 rcases l with _|⟨a,l⟩
 ·cases e
 exact Q5 (P:=λl=>P (a::l)) (h a) l<|Eh e
def Q4{P:List α->Prop}(h:∀a b c,P [a,b,c])(l:List α)(e:l.length=3):P l:=by
 rcases l with _|⟨a,l⟩
 ·cases e
 exact Oa (P:=λl=>P (a::l)) (h a) l<|Eh e
def N9{P:List α->Prop}(h:∀a b c d,P [a,b,c,d])(l:List α)(e:l.length=4):P l:=by
 rcases l with _|⟨a,l⟩
 ·cases e
 exact Q4 (P:=λl=>P (a::l)) (h a) l<|Eh e
def Ut{P:List α->Prop}(h:∀a b c d f,P [a,b,c,d,f])(l:List α)(e:l.length=5):P l:=by
 rcases l with _|⟨a,l⟩
 ·cases e
 exact N9 (P:=λl=>P (a::l)) (h a) l<|Eh e
end L2.MP
namespace L2.MP
open PySem PySem.Spec PyProof.Rows
section
variable {X:Cx}{K:Ac}{H:Hp}{io:List KB}{st st':Hg}{o e value:Re}{es:List Re}{m mo mv:ME}{mm:MA}{pos pos' apos:Pos}{C:KB}{f:Str}
def inClass(st:W1)(j:Nat):W1:=match st with
 |.ClassDef _ _ _ body _ _ _ _ _ _ _=>body.getD j<|.Pass ⟨0,0,0,0⟩
 |_=>.Pass ⟨0,0,0,0⟩
end
open L2
end L2.MP
namespace L2.MP
open PySem PySem.Spec PyProof.Rows
section
variable {X:Cx}{K:Ac}{H:Hp}{io:List KB}
def Q3:G2:=λx y st=>match x,y with
 |.str a,.str b=>some (.bl (decide (a.cps.toList<b.cps.toList)),st)
 |_,_=>none
def uN:Jq X (PP .Lt) Q3:=by
 rintro qp s σ H x y v u Q I rx l ⟨w,A,st,io,d,st',o,r,S,e,k⟩;unfold Q3 at e;split at e
 ·cases e
  cases (show x=_ from o)
  cases (show y=_ from r)
  obtain⟨t,rfl⟩:=rx;obtain⟨t,rfl⟩:=l;exact lt_str ⟨.bl _,H,I,rfl,k.now S rfl⟩
 ·cases e
def Q2:G2:=λx y st=>match x,y with
 |.tup a,.tup b=>(intsOf a).bind λns=>(intsOf b).map λms=>(.bl (HT.lexLt ns ms),st)
 |_,_=>none
def uO(g:X.A.units+100<cLine):Jq X (PP .Lt) Q2:=by
 rintro qp s σ H x y v u Q I rx l ⟨h,i,st,io,d,st',o,r,S,e,k⟩;unfold Q2 at e;split at e
 ·obtain⟨ns,w,e⟩:=Ht e;obtain⟨ms,E,e⟩:=IL e;cases e;obtain⟨p,xs,ex,K,W⟩:=o;obtain⟨q,j,a,c,f⟩:=r
  cases (ints_rep W w).1;cases (ints_rep f E).1;exact oJ (by omega) qp s σ H x y v u Q I rx l ⟨p,q,ns,ms,ex,a,Je.of K,Je.of c,k.now S rfl⟩
 ·cases e
def ltB:G2:=JG Iv<|JG Q3 Q2
def aP(a:X.A.units+100<cLine):Jq X (PP .Lt) ltB:=Pn Mp<|Pn uN<|uO a
end
end L2.MP
namespace L2.MP
open PySem PySem.Spec
open PyProof.Rows
end L2.MP
namespace L2.MP
open PySem PySem.Spec
open PyProof.Rows
section
variable {X:Cx}{K:Ac}{H:Hp}{io:List KB}{m:ME}{st st':Hg}{tg:Re}
end
end L2.MP
namespace L2.MP
open PySem PySem.Spec
open PyProof.Rows
end L2.MP
namespace L2.MP.ST
open PySem PySem.SetTable
end L2.MP.ST
namespace L2.MP
open PySem PySem.Spec PyProof.Rows
end L2.MP
namespace L2.MP
open PySem PySem.Spec
open PyProof.Rows
variable {X:Cx}{pos:Pos}
end L2.MP
namespace L2.MP.ST
open PySem PySem.SetTable
end L2.MP.ST
namespace L2.MP
open PySem PySem.Spec PyProof.Rows
end L2.MP
namespace L2.MP
open PySem PySem.Spec
open PyProof.Rows
variable {X:Cx}{K:Ac}{H:Hp}{io:List KB}{st st':Hg}{mm:MA}{pos px py pz pt:Pos}{i j l:Nat}{x y z:Str}{ρ:HX}
section
variable {a b c:Re}
def kY(i j l:Nat)(e:TA):TS:=λD σ H=>e σ H λa H1=>∃u v w,a=[u,v,w]/\D.nx (((σ.set i<|some u).set j<|some v).set l<|some w) H1
def vC{F:TA}{kt k2 pt2}(T:X.calm=true)(f:X.N.Nodup)(hi:X.N[i]?=some x)(U:X.N[j]?=some y)(Y:X.N[l]?=some z)(g:i≠j)(m:i≠l)(n:j≠l)(G:X.env.scope.names.lookup x=some .local) (J:X.env.scope.names.lookup y=some .local) (L:X.env.scope.names.lookup z=some .local) (Z:PA X [a,b,c] F)(hw:swappedStores [.Tuple [.Name x px,.Name y py,.Name z pz] kt pt] (.Tuple [a,b,c] k2 pt2) X.env=pure (some [x,y,z]))(hs:swapsWithSole [.Tuple [.Name x px,.Name y py,.Name z pz] kt pt] (.Tuple [a,b,c] k2 pt2) pos.line X.env=pure false:=by rfl):
  PS X (.Assign [.Tuple [.Name x px,.Name y py,.Name z pz] kt pt] (.Tuple [a,b,c] k2 pt2) pos) (kY i j l F):=by
 intro qp s σ H D I h;rw[exec_Assign_arm];refine Ab<|Bz ?_;rw[hs];refine Ab<|Ae ?_;rw[if_neg (by decide)];refine Ab<|Tuple_<|HB (Z _ qp s σ H _ I h) ?_;rintro us s1 ⟨vs,H1,I1,r1,u,v,w,rfl,q1⟩;obtain⟨r,E,K,rfl,ru,rv,Q⟩:∃r E K,us=[r,E,K]/\RelV u r/\RelV v E/\RelV w K:=by
  cases r1 with
  |cons p q=>
   cases q with
   |cons p' q'=>
    cases q' with
    |cons W B=>
     cases B;exact⟨_,_,_,rfl,p,p',W⟩
 refine AR ?_ (by show 3<=sizeLine;decide);have I2:Inv X qp σ H1 {s1 with heap:=s1.heap.push {cls:=.type "tuple",data:=.seq [r,E,K].toArray} }:=I1.kept (t':=s1.toks) λb o e=>Ag _ e;rw[hw];refine Ab<|Ae ?_;show wpAny (KF X.prog X.w) X.A (do rule "assign.swapped-stores";let items <-unpackItems (.ref s1.heap.objs.size) 3 none;assignInOrder [λv=>bindName X.env z v,λv=>bindName X.env y v,λv=>bindName X.env x v] items.reverse;pure Fu) _ _ _;refine Ab<|Dt<|Ab<|FM (items:=#[r,E,K]) (I.ok.hd T) (IsTup.new s1.heap _) λM C=>?_;have I3:=I2.kept (h':=M) (t':=s1.toks) λb o e=>C b o (Au<|An e) e;show wpAny _ _ (assignInOrder [λv=>bindName X.env z v,λv=>bindName X.env y v,λv=>bindName X.env x v] [K,E,r] >>= λ_=>pure Fu) _ _ _;refine Ab<|BR<|C4<|O3 I3 f Y (.inl L) Q (λs2 I4=>?_)<|.inr L;refine BR<|C4<|O3 I4 f U (.inl J) rv (λs3 I5=>?_)<|.inr J;refine BR<|C4<|O3 I5 f hi (.inl G) ru (λs4 S=>DX (Ae ?_))<|.inr G;rw[DR _ _ (A3 g),DR _ _ (A3 m),DR _ _ (A3 n)]at S;exact⟨_,H1,S,q1⟩
def Wy(i j l:Nat)(mm:MA):MS:=λρ st=>(mm ρ st).bind λ(xs,s)=>match xs with
 |[x,y,z]=>some (.nx (((ρ.set i<|some x).set j<|some y).set l<|some z),s)
 |_=>none
theorem sJ:Wy i j l mm ρ st=(mm ρ st).bind λp=>match p.1 with
 |[x,y,z]=>some (.nx (((ρ.set i<|some x).set j<|some y).set l<|some z),p.2)
 |_=>none:=rfl
def wY{kt k2 pt2}(B:X.calm=true)(C:X.N.Nodup)(hi:X.N[i]?=some x)(F:X.N[j]?=some y)(G:X.N[l]?=some z)(g:i≠j)(m:i≠l)(n:j≠l)(I:X.env.scope.names.lookup x=some .local) (J:X.env.scope.names.lookup y=some .local) (L:X.env.scope.names.lookup z=some .local) (M:SA X [a,b,c] mm)(hw:swappedStores [.Tuple [.Name x px,.Name y py,.Name z pz] kt pt] (.Tuple [a,b,c] k2 pt2) X.env=pure (some [x,y,z]):=by rfl)(T:swapsWithSole [.Tuple [.Name x px,.Name y py,.Name z pz] kt pt] (.Tuple [a,b,c] k2 pt2) pos.line X.env=pure false:=by rfl):
  SS X (.Assign [.Tuple [.Name x px,.Name y py,.Name z pz] kt pt] (.Tuple [a,b,c] k2 pt2) pos) (Wy i j l mm):=PS.imp (vC B C hi F G g m n I J L M hw T) λN σ H h=>by
 obtain⟨ρ,st,io,f,st',E,S,e,w⟩:=Mi.mp h;obtain⟨⟨xs,s1⟩,s,e⟩:=Ht e
 match xs,e,s with
 |[u,v,t],e,s=>
  cases e;refine⟨ρ,st,io,_,_,E,S,s,λvs H1 K A Q W=>?_⟩;obtain⟨p,r,rfl,U,R2⟩:=W;obtain⟨q,o,rfl,Y,Z⟩:=R2.two;exact⟨p,q,o,rfl,w _ H1 K A Q<|(((E.ext S A).set i U).set j Y).set l Z⟩
end
variable {p:Pos}{tbl:Str->Option GN}
section
variable {e:Re}{es:List Re}{m:ME}
def aB{f:KB}(a:Gl X x)(hm:X.mg x=some (.ref f))(c:KJ X.K x f)(hd:(x==("__debug__":Str))=false:=by decide):SE X (.Name x p) (mK<|.fn x):=
 PE.imp (Xz a hm (v:=.ref f) rfl hd) <| by
  rintro σ H Q ⟨ρ,st,io,d,st',E,S,e,k⟩;cases e;exact k.now S ⟨f,rfl,c⟩
def U3(tbl:Str->Option GN)(m:ME)(mm:MA):ME:=λρ st=>(m ρ st).bind λ(d,s1)=>match d with
 |.fn x=>(tbl x).bind λg=>(mm ρ s1).bind λ(ds,s2)=>g ds s2
 |_=>none
def Z6(X:Cx)(k n:Nat)(tbl:Str->Option GN):Prop:=∀x g,tbl x=some g->IY X.prog X.w X.K X.mg X.base k x n g
def xT{k n:Nat}(T:Z6 X k n tbl)(G:HP k X.A)(hf:SE X (.Name y p) m)(J:SA X (e::es) mm)(L:IZ n mm)(he:Qqb X.env e es:=by rfl) (c:Qqc pos es X.env:=by rfl):
  SE X (.Call (.Name y p) (e::es) [] pos) (U3 tbl m mm):=by
 rintro qp s σ H Q I ⟨ρ,st,io,d,st',E,S,i,M⟩;obtain⟨⟨N,s1⟩,U,i⟩:=Ht i;cases N with
 |fn x=>
  dsimp only at i;obtain⟨g,Y,i⟩:=Ht i;obtain⟨⟨ds,s2⟩,z,Z⟩:=Ht i;obtain⟨f,fd,ps,F,hm,hk,hb⟩:=T x g Y;refine BS<|HB (hf qp s σ H (λv H1=>∃ka,v=.ref f/\Ext io ka H H1/\Hw X.K H1 (io++ka) s1) I ⟨ρ,st,io,.fn x,s1,E,S,U,λv H1 j l o R1=>?_⟩) ?_
  ·obtain⟨a,rfl,hn⟩:=R1;have B:X.mg x=some (.ref a):=PySem.W.mg_of I.ok.mod.kin I.ok.mod.glob hn;rw[hm]at B;cases B;exact⟨j,rfl,l,o⟩
  ·rintro u t1 ⟨v,H1,I1,r1,j,rfl,l,o⟩;cases r1;have hh:=J pos qp t1 σ H1 (λw H2=>Qk X.K n g w H2 Q E0) I1 ⟨ρ,s1,io++j,ds,s2,E.ext S l,o,z,λw H2 k2 X2 C R2=>by
    refine⟨ds,s2,(io++j)++k2,d,st',?_,R2,C,Z,(M.on o l).on C X2⟩;rw[R2.length];exact L _ _ _ _ z⟩
   refine DN (h₀:=X.base) I1.ok.mod.kin hk (HB hh λus t2 ⟨w,H2,I2,r,q⟩=>⟨I2.kIn,?_⟩) he c;exact aL F G hb .nil G8 I2 r (by rw[Am];exact q)
 |_=>cases i
def Lg(i:Nat)(m:ME):MS:=λρ st=>match ρ[i]? with
 |some (some<|.int a)=>(m ρ st).bind λ(d,s1)=>match d with
  |.int b=>some (.nx (ρ.set i<|some<|.int<|a+b),s1)
  |_=>none
 |_=>none
def Tb{pos':Pos}(c:X.N.Nodup)(hi:X.N[i]?=some x)(g:Loc X.env.scope x)(he:SE X e m)(hf:X.fn x=true\/X.env.scope.names.lookup x=some .local:=by first|exact .inl rfl|exact .inr rfl|assumption):
  SS X (.AugAssign (.Name x pos') .Add e pos) (Lg i m):=PS.imp (qL c hi g he nJ hf) λN σ H h=>by
 obtain⟨ρ,st,io,f,st',E,S,e,w⟩:=Mi.mp h;unfold Lg at e;split at e
 ·rename_i a l;obtain⟨⟨d,s1⟩,o,e⟩:=Ht e
  cases d with
  |int b=>
   cases e;obtain⟨v,s,r⟩:=E.at_ i _ l;cases (show v=.int a from r)
   refine⟨_,s,ρ,st,io,.int b,_,E,S,o,λv1 H1 u j y z=>⟨a,b,rfl,z,?_⟩⟩;exact w _ H1 u j y<|(E.ext S j).set i (show Rep _ _ _ (.int<|a+b) (.int<|a+b) from rfl)
  |_=>cases e
 ·cases e
theorem vN:U3 tbl m mm ρ st=(m ρ st).bind λp=>match p.1 with
 |.fn x=>(tbl x).bind λg=>(mm ρ p.2).bind λq=>g q.1 q.2
 |_=>none:=rfl
def cI{a b:Int}{s1:Hg}(h:ρ[i]?=some (some<|.int a))(e:m ρ st=some (.int b,s1)):Lg i m ρ st=some (.nx (ρ.set i<|some<|.int<|a+b),s1):=by unfold Lg;rw[h];simp only[e,Aa]
end
end L2.MP
namespace L2.MP
open PySem PyProof.Rows
def lexLe:List Int->List Int->Bool
 |[],_=>true
 |_::_,[]=>false
 |x::xs,y::a=>if x=y then lexLe xs a else decide (x<=y)
def xP(A:Around)(s:Shared)(a:Int)(t:Tok)(c:Int)(u:Tok)(prog:P3)(w:UF)(E:Qqa)(Q:Qqa)(h:Q (.bool<|decide (a<=c)) s):
  wpAny (KF prog w) A (richCompare .LtE (.int a t)<|.int c u) Q E s:=
 (GF h:wpAny (KF prog w) A (PP .LtE (.int a t)<|.int c u) Q E s)
section
open PySem.SeqAt
open PySem.MeetsSeq PySem.MeetsSeq2 PySem.MeetsSeq3
def zgF(l b:KB)(items f:Array IR)(n L:Nat)(dd G:Option KB)(M Mx:Array (Option IR))(ns ms:List Int)(hi:IntsAre items.toList ns)(J:IntsAre f.toList ms):
  Meets (Builtin.«tuple.__le__» ⟨[.ref l,.ref b],[]⟩)
   (λ_ R s=>s.heap.get? l=some {cls:=.type "tuple",dict:=dd,data:=.seq items n,slots:=M}/\s.heap.get? b=some {cls:=.type "tuple",dict:=G,data:=.seq f L,slots:=Mx} /\
    R (.ok<|.ret<|.bool<|lexLe ns ms) s):=
 .of_wp λprog w A R s h=>by
  obtain⟨B,g,d,C,os⟩:=s;obtain⟨N,S,h⟩:=h;have f2:=D9;have T:items.size=ns.length:=by rw[<-hi.length];simp
  have U:f.size=ms.length:=by rw[<-J.length];simp
  wp_walk using Dv N,Dv S,wpAny_forIn_list _ (λrest b H=>b.1=none/\H=⟨B,g,d,C,os⟩/\∃(F ws:List IR) (o r:List Int),rest=F.zip ws /\
   IntsAre F o/\IntsAre ws r/\o.length+f.size=r.length+items.size/\R (.ok<|.ret<|.bool<|lexLe o r) ⟨B,g,d,C,os⟩) _
  case turn=>
   rintro⟨y,x⟩ rest b H ⟨W,rfl,F,ws,o,r,v,i,j,hlen,E⟩;cases i with
   |nil=>rw[FO]at v;cases v
   |cons a t m=>
    cases j with
    |nil=>rw[Fy]at v;cases v
    |cons c u z=>
     rw[CY]at v;injection v with hyx hrest
     injection hyx with hy hx
     subst hy hx;rw[lexLe]at E;simp only[AB]at hlen;obtain⟨e,he,Q⟩:=HT.L7 A.in1 ⟨B,g,d,C,os⟩ a t c u;refine Ab<|he prog w _ _ ?_
     cases e with
     |true=>
      rw[if_pos (Q.mp rfl)]at E
      wp_walk
      exact⟨rfl,rfl,_,_,_,_,hrest,m,z,by omega,E⟩
     |false=>
      rw[if_neg (λq=>absurd (Q.mpr q) A6)]at E;have I:=xP A.in1 ⟨B,g,d,C,os⟩ a t c u prog w
      wp_walk using I
      exact⟨_,rfl,by simpa using E⟩
  case fin=>
   rintro⟨b1,X⟩ H ⟨W,rfl,F,ws,o,r,v,i,j,hlen,E⟩;simp only at W;subst W;have K:lexLe o r=decide (items.size<=f.size):=by
    cases i with
    |nil=>
     simp only[A2]at hlen;rw[lexLe];exact(decide_eq_true<|by omega).symm
    |cons a t K=>
     cases j with
     |nil=>
      simp only[A2,AB]at hlen;rw[lexLe];exact(decide_eq_false<|by omega).symm
     |cons c u hw=>
      rw[CY]at v;cases v
   rw[K]at E
   wp_walk
   exact⟨_,rfl,by simpa[Dr]using E⟩
  case h=>
   exact⟨rfl,rfl,items.toList,f.toList,ns,ms,rfl,hi,J,by omega,h⟩
end
section
variable {prog:P3}{w:UF}{A:Around}{E:Qqa}{s:Shared}
def zkA{l b:KB}{items a:Array IR}{ns ms:List Int}{Q:Qqa}(c:IsTup s.heap l items)(e:IsTup s.heap b a)(hi:IntsAre items.toList ns)(f:IntsAre a.toList ms)(g:A.units<cLine) (h:Q (.bool<|lexLe ns ms) s):wpAny (KF prog w) A (PP .LtE (.ref l)<|.ref b) Q E s:=by
 obtain⟨⟨cls,i,data,j⟩,v,y,n,hd⟩:=id c;obtain⟨⟨W,u,data2,Mx⟩,o,r,m,hd2⟩:=id e;simp only at y hd r hd2;subst y hd r hd2;exact EC (op:=.LtE) ⟨_,v,rfl⟩ ⟨_,o,rfl⟩ PySem.F.slot_tuple_le PySem.F.entry_tuple_le (PySem.F.args_tuple_le_2 _ _) (zgF l b items a n m i u j Mx ns ms hi f)
  ⟨v,o,show CC (lexLe ns ms)≠Fc/\Q (.bool<|lexLe ns ms) s from⟨(λx=>nomatch x),h⟩⟩ g
end
section
variable {X:Cx}{K:Ac}{H:Hp}{io:List KB}
def Q7:G2:=λx y st=>match x,y with
 |.str a,.str b=>some (.bl (!decide (b.cps.toList<a.cps.toList)),st)
 |_,_=>none
def uL:Jq X (PP .LtE) Q7:=by
 rintro qp s σ H x y v u Q I rx l ⟨w,A,st,io,d,st',o,r,S,e,k⟩;unfold Q7 at e;split at e
 ·cases e
  cases (show x=_ from o)
  cases (show y=_ from r)
  obtain⟨t,rfl⟩:=rx;obtain⟨t,rfl⟩:=l;exact PySem.P.le_str ⟨.bl _,H,I,rfl,k.now S rfl⟩
 ·cases e
def Q6:G2:=λx y st=>match x,y with
 |.tup a,.tup b=>(intsOf a).bind λns=>(intsOf b).map λms=>(.bl (lexLe ns ms),st)
 |_,_=>none
def uM(i:X.A.units+100<cLine):Jq X (PP .LtE) Q6:=by
 rintro qp s σ H x y v u Q I rx o ⟨j,m,st,io,d,st',r,w,S,e,k⟩;unfold Q6 at e;split at e
 ·obtain⟨ns,E,e⟩:=Ht e;obtain⟨ms,K,e⟩:=IL e;cases e;obtain⟨p,xs,rfl,W,a⟩:=r;obtain⟨q,n,rfl,c,f⟩:=w
  cases (ints_rep a E).1;cases (ints_rep f K).1;cases rx;cases o;obtain⟨g,v1,h,_⟩:=I.tuple<|Je.of W;obtain⟨l,v2,p2,_⟩:=I.tuple<|Je.of c;exact zkA h p2 (L2.intsAre_of v1) (L2.intsAre_of v2) (by omega) ⟨.bl _,H,I,rfl,k.now S rfl⟩
 ·cases e
def leB:G2:=JG Ik<|JG Q7 Q6
def aY(a:X.A.units+100<cLine):Jq X (PP .LtE) leB:=Pn LN<|Pn uL<|uM a
end
open PySem.Spec
open PySem.SeqAt
end L2.MP
namespace L2.MP
open PySem PySem.Spec PyProof.Rows
end L2.MP
namespace L2.MP
open PySem
variable {prog:P3}{w:UF}{A:Around}{E:Qqa}{hp:Pv}{gs:Array GenState}{dr:Drawn}{tk:Nat}{os:OsState}{nm ql:Str}{C N f:KB}{bs bm sub xs:List IR}{b1 b2:Bool}{sn:List Str}{b3:Option Bool}{dd:Option KB}{k0 k1 k2 k3 k5:Option IR}{B newId:String}{mN:Str->Option IR}{oF:Obj}
section
variable {bmB bmN:List IR}{Bn nid initId inN:String}
noncomputable abbrev PJ (xs:List IR):Obj:={cls:=.type "tuple",data:=.seq xs.toArray}
noncomputable abbrev Oe (C n:KB):Obj:={cls:=.ref C,data:=.fields #[.ref n,.none,.none,.none,.bool false,.none]}
def zgD(X1:ExcBaseFacts Bn newId inN bmN)(h:bmB.contains (.type Bn)=true)(X3:ExcBaseFacts B nid initId bmB)(T:OwnTail hp bmB bm){Q:Fin->Shared->Prop}(at_:hp.get? C=some (excClassObj nm ql C N bs bm b1 sn sub b2 b3 dd k0 k1 k2 k3 k5 newId)) (ns:hp.Ns N mN) (own:mN "__init__"=some (.ref f)) (a:hp.get? f=some oF) (c:oF.cls=.type "function")(k:∀h' e,hp.objs.size<=e->Gw hp h' e (.ref C) xs->wpAny (KF prog w) A (call (.ref f) (.ref e::xs)) (λr s'=>r=.none/\Q (.done<|.ret<|.ref e) s') E ⟨h',gs,dr,tk,os⟩) (g:xs.length<=sizeLine):
  wpAny (KF prog w) A (Builtin.«type.__call__» ⟨.ref C::xs,[]⟩) Q E ⟨hp,gs,dr,tk,os⟩:=by
 repeat (first|with_reducible refine Bt at_ ?_|with_reducible refine wpAny_madeBy_exc at_ ?_|wp_step)
 refine codeAny_call_builtin_code (FE _ X1.quiet)<|wpAny_check_new_subU X1 h T at_<|codeAny_exc_new_subU X1 h X3 T at_ ?_ g;show wpAny _ _ _ _ _ _;have up:∀{b:KB}{o:Obj},hp.get? b=some o->((hp.push<|PJ xs).push<|Oe C hp.objs.size).get? b=some o:=λe=>Ag _<|Ag _ e;have l:=up at_;have f1:=up a;have s:((hp.push<|PJ xs).push<|Oe C hp.objs.size).Ns N mN:=by obtain⟨o,u,v,e,r⟩:=ns;exact⟨o,u,v,up e,r⟩
 have new:((hp.push<|PJ xs).push<|Oe C hp.objs.size).get? (hp.objs.size+1)=some (Oe C hp.objs.size):=by heap_get
 have self:(Aw C::bm).contains (.ref C)=true:=by simp
 have x:=T.keeps (h':=(hp.push<|PJ xs).push (Oe C hp.objs.size)) λb o e=>up e;unfold isInstance
 repeat (first|with_reducible refine Bt new ?_|(with_reducible refine DH l ?_;rw[self])|wp_step)
 show wpAny _ _ (typeLookup (.ref C) _) _ _ _;refine wpAny_typeLookup_tail l s x X3.mroIs X3.init.lookup ?_;rw[own];refine A7<|Ab ?_;unfold bindSpecial;refine Ab (Cy (T:="function") ⟨_,f1,c⟩ ?_);rw[if_pos (by decide)];refine Ae<|Ab<|AZ (k _ (hp.objs.size+1) (Bf _) ⟨λb o e=>up e,Ds<|Bf _,hp.objs.size,new,Ds<|Ai _,Ag _<|FV rfl rfl⟩) (λr s' z=>?_) λ_ _ z=>z;obtain⟨rfl,z⟩:=z
 wp_walk
 exact z
def zmV(h:ExcBaseFacts Bn newId inN bmN)(i:bmB.contains (.type Bn)=true)(j:ExcBaseFacts B nid initId bmB)(T:OwnTail hp bmB bm){Q:Qqa}(at_:hp.get? C=some (excClassObj nm ql C N bs bm b1 sn sub b2 b3 dd k0 k1 k2 k3 k5 newId)) (ns:hp.Ns N mN) (own:mN "__init__"=some (.ref f)) (a:hp.get? f=some oF) (c:oF.cls=.type "function")(k:∀h' e,hp.objs.size<=e->Gw hp h' e (.ref C) xs->wpAny (KF prog w) (A.under<|.builtin "type.__call__" ⟨.ref C::xs,[]⟩) (call (.ref f) (.ref e::xs)) (λr s'=>r=.none/\Q (.ref e) s') E ⟨h',gs,dr,tk,os⟩) (g:xs.length<=sizeLine):
  wpAny (KF prog w) A (call (.ref C) xs) Q E ⟨hp,gs,dr,tk,os⟩:=by
 have l:=tc_lookup;have o:=tc_bind<|.ref C;have ty:(⟨hp,gs,dr,tk,os⟩:Shared).TypeIs (.ref C) "type":=⟨_,at_,rfl⟩
 refine D5<|codeAny_of_tree ?_;show wpAny _ _ (callAny (.ref C) _) _ _ _
 repeat (any_goals (first|assumption|with_reducible refine Bt at_ ?_|wp_step))
 exact⟨rfl,codeAny_call_builtin_at (FE _<|by decide +kernel) entry_typeCall<|wpAny_check_type_call_sub at_<|zgD h i j T at_ ns own a c k g⟩
end
inductive OT (hp:Pv) (nn:List Str) (top:List IR):List IR->Prop
 |base:OT hp nn top top
 |own {a:KB}{c0:IR}{dd:Option KB}{cd:ClassData} {sl:Array (Option IR)} {mA:Str->Option IR}{tl:List IR}
   (at_:hp.get? a=some {cls:=c0,dict:=dd,data:=.cls cd,slots:=sl}) (ns:hp.Ns cd.ns mA) (no:∀n∈nn,mA n=none) (more:OT hp nn top tl):OT hp nn top (.ref a::tl)
variable {nn:List Str}{tl:List IR}
section
variable {hp':Pv}{top:List IR}
def OT.tail(T:OT hp nn top tl)(h:("__init__":Str)∈nn):OwnTail hp top tl:=by
 induction T with
 |base=>exact .base
 |own at_ ns no _ f=>exact .own at_ ns (no _ h) f
def OT.has(T:OT hp nn top tl){z:String}{b:Bool}(h:top.contains (.type z)=b):tl.contains (.type z)=b:=by
 induction T with
 |base=>exact h
 |own _ _ _ _ f=>rw[DQ,f];rfl
def OT.pass(T:OT hp nn top tl)(self:IR)(a:Str):refuseLoop self a tl=refuseLoop self a top:=by
 induction T with
 |base=>rfl
 |own _ _ _ _ f=>rw[refuseLoop_ref,f]
end
variable {Q:Unit->Shared->Prop}{M:Model}{x:KB}{sa owner:String}{name:Str}{v:IR}{y:Option IR}{o:Obj}
section
variable {top:List IR}
def vM{Q:Option IR->Shared->Prop}(T:OT hp nn top tl)(hm:name∈nn)(e:lookupAlong top name=pure y)(k:Q y ⟨hp,gs,dr,tk,os⟩):wpAny M A (lookupAlong tl name) Q E ⟨hp,gs,dr,tk,os⟩:=by
 induction T with
 |base=>rw[e];exact Ae k
 |own at_ ns no _ f=>
  rw[lookupAlong_cons];refine Ab<|wpAny_classOwn_cls at_ ns ?_;rw[no _ hm];exact f
def fP{Q:Option IR->Shared->Prop}(at_:hp.get? C=some (excClassObj nm ql C N bs bm b1 sn sub b2 b3 dd k0 k1 k2 k3 k5 newId))(ns:hp.Ns N mN)(T:OT hp nn top bm)(hm:name∈nn)(mro:mroOf (.type B)=pure top)(e:typeLookup (.type B) name=pure y) (no:mN name=none) (k:Q y ⟨hp,gs,dr,tk,os⟩):wpAny M A (typeLookup (.ref C) name) Q E ⟨hp,gs,dr,tk,os⟩:=by
 rw[typeLookup_eq,mro]at e;rw[typeLookup_eq];refine Ab<|wpAny_mroOf_exc at_ ?_;rw[lookupAlong_cons];refine Ab<|wpAny_classOwn_exc at_ ns ?_;rw[no];exact vM T hm e k
def vS{u:IR}(SF:StoreFacts B top sa owner)(T:OT hp nn top bm)(at_:hp.get? C=some (excClassObj nm ql C N bs bm true sn sub b2 b3 dd k0 k1 k2 k3 k5 newId))(a:hp.get? x=some o)(c:o.cls=.ref C)(k:Q () ⟨hp,gs,dr,tk,os⟩):
  wpAny M A (checkBuiltinCall sa ⟨[.ref x,u,v],[]⟩) Q E ⟨hp,gs,dr,tk,os⟩:=by
 have own:(Aw C::bm).contains (.type owner)=true:=by rw[DQ,T.has SF.hasOwner];simp
 have ok:=SF.args (.ref x) u v;simp only[checkBuiltinCall,SF.kind,SF.split];refine Ab ?_;unfold isInstance
 repeat (first|(with_reducible refine Bt a ?_;rw[c])|(with_reducible refine DH at_ ?_;rw[own])|wp_step)
 cases f:Manifest.signature? sa with
 |none=>exact Ae k
 |some g=>
  simp only[argsOk,f]at ok;show wpAny M A (Bind.checkArgs sa g ⟨[.ref x,u,v],[]⟩) Q E _;rw[show Bind.checkArgs sa g ⟨[.ref x,u,v],[]⟩=pure () from ok];exact Ae k
end
section
variable {top:List IR}
open Builtin Builtin.ObjectAttr in
def wC{tok:Tok}{Q:Fin->Shared->Prop}(SF:StoreFacts B top sa owner)(T:OT hp nn top bm)(hm:name∈nn)(at_:hp.get? C=some (excClassObj nm ql C N bs bm true sn sub b2 b3 dd k0 k1 k2 k3 k5 newId))(ns:hp.Ns N mN)(no:mN name=none)(e:typeLookup (.type B) name=pure none) (a:hp.get? x=some o) (h:o.cls=.ref C) (hnc:∀c,o.data≠.cls c) (hd:o.dict=none)(k:∀h' g,h'.get? x=some {o with dict:=some hp.objs.size}->h'.Ns1 hp.objs.size (λy=>if y=name then some v else none)->(∀b ob,b≠x->hp.get? b=some ob->h'.get? b=some ob)->Q (.done<|.ret .none) ⟨h',gs,dr,g,os⟩):
  wpAny (KF prog w) A (Builtin.«object.__setattr__» ⟨[.ref x,.str name tok,v],[]⟩) Q E ⟨hp,gs,dr,tk,os⟩:=by
 have pass:=(T.pass (.ref x) "__setattr__").trans (SF.passes<|.ref x);have f:x≠hp.objs.size:=Au<|An a;unfold Builtin.«object.__setattr__»
 repeat (first|rw[refuse_eq]|(rw[refuseLoop_ref,pass])|(with_reducible refine Bt a ?_;rw[h])|with_reducible refine wpAny_mroOf_exc at_ ?_|with_reducible refine fP at_ ns T hm SF.mro e no ?_|wp_step)
 rw[hd,if_neg (by simp[typeHasDict])]
 split
 ·rename_i z;cases z
 split
 ·rename_i c z;exact absurd z<|hnc c
 ·have l:(hp.push Qqd).get? x=some o:=Ag _ a;refine Ab<|wpAny_alloc'<|Ab<|wpAny_update' l<|Ae ?_;have M:((hp.push Qqd).update x λo=>{cls:=o.cls,dict:=some hp.objs.size,data:=o.data,slots:=o.slots}).get? hp.objs.size=some Qqd:=by
   rw[Fs _ _ _ _ f.symm];exact FV rfl rfl
  have W:((hp.push Qqd).update x λo=>{cls:=o.cls,dict:=some hp.objs.size,data:=o.data,slots:=o.slots}).get? x=some {o with dict:=some hp.objs.size}:=by
   refine Bb _ l ?_;have fr:=(Heap.get?_some_iff.mp a).2;obtain⟨L,S,r,i⟩:=o;cases r<;>first|rfl|exact fr
  have j:∀b ob,b≠x->hp.get? b=some ob->((hp.push Qqd).update x λo=>{cls:=o.cls,dict:=some hp.objs.size,data:=o.data,slots:=o.slots}).get? b=some ob:=λb ob s z=>by rw[Fs _ _ _ _ s];exact Ag _ z
  generalize ((hp.push Qqd).update x λo=>{cls:=o.cls,dict:=some hp.objs.size,data:=o.data,slots:=o.slots})=m at *;have n:m.Ns hp.objs.size (λ_=>none):=⟨_,#[],_,M,rfl,λz q=>absurd q (by simp),λ_=>rfl⟩
  show wpAny _ _ (storeInDict hp.objs.size (.str name tok) name v) _ _ _;unfold storeInDict newKeyGuard;refine Ab<|Ae<|Ab<|wpAny_nsSet1 (Heap.Ns1.of_empty n) λF u sb=>?_;obtain⟨U,G,H,I,J,K⟩:=u.count<|Within.cons name v Within.nil;refine Ab<|wpAny_lookBehind I (by rw[J];exact pastItsLine_dict (Ar K (by rw[AB,A2,CL];omega))) ?_
  wp_walk
  exact k F _ ((sb.2 x f).trans W) u λb ob s z=>(sb.2 b<|Au<|An z).trans (j b ob s z)
def zI(SF:StoreFacts B top sa owner)(T:OT hp nn top bm)(hm:name∈nn)(g:("__setattr__":Str)∈nn)(at_:hp.get? C=some (excClassObj nm ql C N bs bm true sn sub b2 b3 dd k0 k1 k2 k3 k5 newId))(ns:hp.Ns N mN)(no:mN name=none)(h:mN "__setattr__"=none)(e:typeLookup (.type B) name=pure none) (i:hp.get? x=some o) (j:o.cls=.ref C) (m:∀c,o.data≠.cls c) (hd:o.dict=none)(k:∀h' a,h'.get? x=some {o with dict:=some hp.objs.size}->h'.Ns1 hp.objs.size (λy=>if y=name then some v else none)->(∀b ob,b≠x->hp.get? b=some ob->h'.get? b=some ob)->Q () ⟨h',gs,dr,a,os⟩):
  wpAny (KF prog w) A (setAttr (.ref x) name v) Q E ⟨hp,gs,dr,tk,os⟩:=by
 have bd:=SF.slot.bind<|.ref x;unfold setAttr callSpecial? specialOf
 repeat (any_goals (first|assumption|(with_reducible refine Bt i ?_;rw[j])|with_reducible refine fP at_ ns T g SF.mro SF.slot.lookup h ?_|wp_step))
 refine Fe SF.slot.plain SF.entry<|vS SF T at_ i j<|wC SF T hm at_ ns no e i j m hd λh' a f l r=>?_
 repeat (any_goals (first|assumption|wp_step))
 exact k h' a f l r
end
variable {pos:Pos}
section
variable {s:Shared}{env:Env}
def YC{x:Sem IR}{Q:Flow->Shared->Prop}(a:bm.contains (.type "BaseException")=true)(c:A.handled=none)(h:wpAny M A x (λv s1=>∃e t D,v=.ref e/\s1.heap.get? C=some (excClassObj nm ql C N bs bm b1 sn sub b2 b3 dd k0 k1 k2 k3 k5 newId) /\
   s1.heap.get? e=some {cls:=.ref C,dict:=D,data:=.fields #[.ref t,.none,.none,.none,.bool false,.none]}/\E (.ref e) s1) E s):wpAny M A (raiseStmt env (some x) none) Q E s:=by
 have top:(Aw C::bm).contains (.type "BaseException")=true:=by rw[DQ,a];simp
 unfold raiseStmt;refine Ab<|AZ h (λv s1 z=>?_) λ_ _ z=>z;obtain⟨e,t,D,rfl,at_,he,k⟩:=z;obtain⟨hp,gs,dr,tk,os⟩:=s1
 repeat (first|with_reducible refine Bt he ?_|with_reducible refine Bt at_ ?_|(with_reducible refine DH at_ ?_;rw[top])|wp_step)
 exact wpAny_raiseNew_none c k
def zjK{ex:Re}{Q:Flow->Shared->Prop}(a:bm.contains (.type "BaseException")=true)(c:A.handled=none)(h:wpAny M A (eval ex env) (λv s1=>∃e t D,v=.ref e/\s1.heap.get? C=some (excClassObj nm ql C N bs bm b1 sn sub b2 b3 dd k0 k1 k2 k3 k5 newId) /\
   s1.heap.get? e=some {cls:=.ref C,dict:=D,data:=.fields #[.ref t,.none,.none,.none,.bool false,.none]}/\E (.ref e) s1) E s):wpAny M A (exec (.Raise (some ex) none pos) env) Q E s:=by
 rw[arm_exec_Raise]
 first
  |exact Ab (Bz<|YC a c h)
  |(simp only[evalOpt,Option.map];exact Ab (Bz<|YC a c<|Ab<|AZ h (λv s3 z=>Ab (Bz<|Ae z)) λ_ _ z=>z))
  |exact Ab (Bz<|YC a c<|Ab<|AZ h (λv s3 z=>Ab (Bz<|Ae z)) λ_ _ z=>z)
end
open PySem.Spec PyProof.Rows
structure WX(K:Ac)(er:Int->D)(z:Int->Hp->Prop)(io:List KB)(H:Hp)(st':Hg)(N:Ends)(f:Fl):Prop where
 x:∀n,f=.rt (er n)->∀H' ka,Ext io ka H H'->Hw K H' (io++ka) st'->z n H'
 w:Wn K io H st' N f
inductive tX (K:Ac) (er:Int->D) (z:Int->Hp->Prop) (m:MS) (N:Ends) (σ:L2.St) (H:Hp):Prop
 |mk (ρ:HX) (st:Hg) (io:List KB) (f:Fl) (st':Hg) (h1:Hz K H io σ ρ) (h2:Hw K H io st) (h3:m ρ st=some (f,st')) (h4:WX K er z io H st' N f)
def SX(X:Cx)(er:Int->D)(z:Int->Hp->Prop)(s:W1)(m:MS):Prop:=PS X s<|tX X.K er z m
def PZ(X:Cx)(er:Int->D)(z:Int->Hp->Prop)(s:List W1)(m:MS):Prop:=K4 X s<|tX X.K er z m
variable {X:Cx}{K:Ac}{H:Hp}{er:Int->D}
section
variable {e a b c:Re}{st1 st2:W1}{rest body orelse:List W1}{m:ME}{mt:MT}{ms mq:MS}{mg:MG}{mi:MI}
variable {H1 H2:Hp}{io ka kb:List KB}{st st':Hg}{z:Int->Hp->Prop}{N:Ends}{f:Fl}
def WX.on(h:WX K er z io H st' N f)(X1:Ext io ka H H1)(g:Hw K H1 (io++ka) st):WX K er z (io++ka) H1 st' N f:=⟨λn e a kb c l=>h.x n e a (ka++kb) (X1.trans g c) (by rw[<-Aq];exact l),h.w.on X1 g⟩
def Ng(h:SS X st1 ms):SX X er z st1 ms:=PS.imp h λN σ H ⟨ρ,st,io,f,st',E,S,e,w⟩=>Pj E S e w.w
def Td(h:Mc X rest ms):PZ X er z rest ms:=K4.imp h λN σ H ⟨ρ,st,io,f,st',E,S,e,w⟩=>Pj E S e w.w
def Qh(g:SX X er z st1 ms):PZ X er z [st1] ms:=XA g
def Le(g:SX X er z st1 ms)(i:PZ X er z rest mq):PZ X er z (st1::rest) (mS ms mq):=K4.imp (eV g i) λN σ H h=>by
 obtain⟨ρ,st,io,f,st',E,S,e,w⟩:=h;obtain⟨⟨f1,s1⟩,a,e⟩:=Ht e;cases f1 with
 |nx ρ1=>exact⟨ρ,st,io,_,s1,E,S,a,λn q=>(by cases q),λσ' o ka l c m=>⟨ρ1,s1,io++ka,f,st',m,c,e,w.on l c⟩⟩
 |bk ρ1=>cases e;exact⟨ρ,st,io,_,_,E,S,a,λn q=>(by cases q),w.w⟩
 |ct ρ1=>cases e;exact⟨ρ,st,io,_,_,E,S,a,λn q=>(by cases q),w.w⟩
 |rt d=>cases e;exact⟨ρ,st,io,_,_,E,S,a,w.x,w.w⟩
def SH(g:SB X c mt)(i:PZ X er z body ms)(j:PZ X er z orelse mq):SX X er z (.If c body orelse pos) (HS mt ms mq):=PS.imp (G9 g i j) λN σ H h=>by
 obtain⟨ρ,st,io,f,st',E,S,e,w⟩:=h;obtain⟨⟨x,s1⟩,m,e⟩:=Ht e;refine⟨ρ,st,io,x,s1,E,S,m,λH1 k1 a l=>?_⟩;cases x with
 |true=>rw[if_pos rfl];exact⟨ρ,s1,io++k1,f,st',E.ext S a,l,e,w.on a l⟩
 |false=>rw[if_neg (by decide)];exact⟨ρ,s1,io++k1,f,st',E.ext S a,l,e,w.on a l⟩
end
def Zk(K:Ac)(er:Int->D)(n:Nat)(g:GN):Sp:=λl H Q E=>∃ds st io d st',l.length=n/\Hl K H io l ds/\Hw K H io st/\g ds st=some (d,st')/\Bh K io H st' d Q/\∀i,d=er i->∀f ka,Ext io ka H f->Hw K f (io++ka) st'->E (.int i 0) none f
section
variable {P:P3}{mg:Str->Option IR}{base:Pv}
def oO{X:Cx}{n:Nat}{m:MS}{c:List V}{Q:VK}{E:XK}{N:List Str}(g:∀i,er i≠.non)(h:Zk K er n (IX N.length m) c H Q E):
  tX K er (λi a=>E (.int i 0) none a) m {nx:=λ_ a=>Q .non a,rt:=Q} (start N c) H:=by
 obtain⟨ds,f,io,d,st',w,R,o,e,k,r⟩:=h;obtain⟨⟨l,s1⟩,s,e⟩:=Ht e;refine⟨_,f,io,l,s1,fH R,o,s,?_⟩;cases l with
 |rt dd=>cases e;exact⟨λi q=>r i (by cases q;rfl),k⟩
 |nx ρ=>cases e;exact⟨λi q=>(by cases q),λσ' a ka u v x=>k .non a ka u v rfl⟩
 |bk ρ=>cases e
 |ct ρ=>cases e
end
end L2.MP
namespace L2.MP
open PySem
variable {M:Model}{A:Around}{E:Qqa}{s:Shared}{base:Pv}{env:Env}{outer:List Env}{L x:KB}{o:Obj}{vs:Array IR}{Q:Unit->Shared->Prop}
structure Ou(base:Pv)(l:List Env)(x:KB)(o:Obj)(h h':Pv):Prop where
 stays:base.StaysIn h'
 frames:h'.FunFrames base l
 err:∃ws T oT ts,h'.get? x=some {o with data:=.fields ws}/\ws[1]?=some (.ref T)/\(base.get? T=none/\(h.get? T=none->h.objs.size<=T))/\T≠x/\h'.get? T=some oT/\oT.data=.fields ts/\ts[3]?=some .none
 rest:∀b ob,h.get? b=some ob->(∀ws,ob.data≠.fields ws)->∃sl,h'.get? b=some {ob with slots:=sl}
def bT(hd:o.data=.fields vs)(g:Array IR->Array IR):AV g o={o with data:=.fields (g vs)}:=by obtain⟨s,u,l,r⟩:=o;cases hd;rfl
def zi3(fr:A.frames=some (env::outer))(fl:s.heap.FunFrames base (env::outer))(hf:env.frame=some L)(a:s.heap.get? x=some o)(st:base.StaysIn s.heap)(no:base.get? x=none)(hd:o.data=.fields vs)(e:vs[1]?=some .none)(k:∀h',Ou base (env::outer) x o s.heap h'->Q () {s with heap:=h'}):wpAny M A (leaving env<|.ref x) Q E s:=by
 have big:1<vs.size:=(Array.getElem?_eq_some_iff.mp e).1;have C:x∉(env::outer).filterMap (·.frame):=λz=>by obtain⟨_,ob,l,u⟩:=fl.mem z;rw[a]at l;cases l;exact u vs hd
 unfold leaving noteFrame;simp only[hf];refine Ab<|Ab<|Be a hd e ?_;rw[if_neg (by decide)];refine Ab<|FW fr fl hf λg1 v=>Ab (FG λpl hpl=>?_);unfold DI newFields;refine Ab<|AR ?_<|hpl.sizeOk5 _ _ _ _ _;have g:g1.get? x=some o:=(v.2.1 x C).trans a;have w:base.StaysIn g1:=λb ob l=>(v.2.1 b λz=>by rw[(fl.mem z).1]at l;cases l).trans<|st b ob l;have y:g1.objs.size≠x:=A5<|An g;generalize F:({cls:=.type "traceback",dict:=none,data:=.fields ([AH,.ref L,.none,rawInt L,.none]++(if pl.isEmpty then Br 6 AH else pl)).toArray}:Obj)=nw;have W:nw.data=.fields ([AH,.ref L,.none,rawInt L,.none]++(if pl.isEmpty then Br 6 AH else pl)).toArray:=by rw[<-F]
 have c:nw.isFreed=false:=Bm W;have h:(g1.push nw).get? x=some o:=Ag nw g;refine BG h hd big ?_;have i:=BH hd (·.setIfInBounds 1 (Aw g1.objs.size));have j:=Bb (AV (·.setIfInBounds 1 (Aw g1.objs.size))) h<|Bm i;have t3:((g1.push nw).update x (AV (·.setIfInBounds 1 (Aw g1.objs.size)))).get? g1.objs.size=some nw:=(AO _ _<|A3 y).trans<|Av g1 c;unfold setFlight;refine Ab<|Be j i (x:=.ref g1.objs.size) (by simp[big]) ?_;rw[if_pos (show(Aw g1.objs.size != AH)=true from by simp)];refine BG t3 W (by simp only[AA,AI,AB,A2]<;>omega)<|k _ ?_;have m:=BH W (·.setIfInBounds 3 ((none:Option KB).elim AH λf=>rawInt f));have G:=Bb (AV (·.setIfInBounds 3 ((none:Option KB).elim AH λf=>rawInt f))) t3<|Bm m;have n:(((g1.push nw).update x (AV (·.setIfInBounds 1 (Aw g1.objs.size)))).update g1.objs.size (AV (·.setIfInBounds 3 ((none:Option KB).elim AH λf=>rawInt f)))).get? x=some (AV (·.setIfInBounds 1 (Aw g1.objs.size)) o):=by rw[AO _ _ y];exact j
 have old:∀b ob,b≠x->g1.get? b=some ob->(((g1.push nw).update x (AV (·.setIfInBounds 1 (Aw g1.objs.size)))).update g1.objs.size (AV (·.setIfInBounds 3 ((none:Option KB).elim AH λf=>rawInt f)))).get? b=some ob:=λb ob l z=>by rw[AO _ _ (A5<|An z),AO _ _ (A3 l)];exact Ag _ z
 have r:∀b ob,s.heap.get? b=some ob->(∀ws,ob.data≠.fields ws)->b≠x:=λb ob z u q=>by rw[q,a]at z;cases z;exact u vs hd
 rw[bT hd]at n;refine⟨λb ob l=>old b ob (λq=>by rw[q,no]at l;cases l) (w b ob l),fl.of_keeps λb ob z u=>?_,⟨_,g1.objs.size,_,_,n,by simp[big],⟨w.fresh,λ_=>Dy v.1.symm⟩,y,G,m,?_⟩,λb ob z u=>?_⟩
 ·obtain⟨B,q⟩:=v.2.2 b ob z;exact⟨_,old b _ (r b ob z u) q,rfl⟩
 ·first|(simp;done)|(rcases hpl with rfl|⟨_,_,_,_,_,_,_,rfl⟩<;>simp)
 obtain⟨B,q⟩:=v.2.2 b ob z;exact⟨B,old b _ (r b ob z u) q⟩
variable {T:KB}{oT:Obj}{ts:Array IR}
def entry_any{c:IR}{C:Bool}(fr:A.frames=some (env::outer))(fl:s.heap.FunFrames base (env::outer))(hf:env.frame=some L)(e:s.heap.get? x=some o)(st:base.StaysIn s.heap)(no:base.get? x=none)(hd:o.data=.fields vs)(big:1<vs.size)(k:∀h',Ou base (env::outer) x o s.heap h'->Q () {s with heap:=h'}):
  wpAny M A (do let a <-frameOf env;let pl <-entryPlaceOf L C;let b <-DI c a .none (rawInt L) .none pl;setField (.ref x) 1 b) (λ_ s'=>wpAny M A (setFlight (.ref x) none) Q E s') E s:=by
 have F:x∉(env::outer).filterMap (·.frame):=λz=>by obtain⟨_,ob,l,u⟩:=fl.mem z;rw[e]at l;cases l;exact u vs hd
 refine Ab<|FW fr fl hf λg1 v=>Ab (FG λpl hpl=>?_);unfold DI newFields;refine Ab<|AR ?_<|hpl.sizeOk5 _ _ _ _ _;have g:g1.get? x=some o:=(v.2.1 x F).trans e;have w:base.StaysIn g1:=λb ob l=>(v.2.1 b λz=>by rw[(fl.mem z).1]at l;cases l).trans<|st b ob l;have y:g1.objs.size≠x:=A5<|An g;generalize G:({cls:=.type "traceback",dict:=none,data:=.fields ([c,.ref L,.none,rawInt L,.none]++(if pl.isEmpty then Br 6 AH else pl)).toArray}:Obj)=nw;have T:nw.data=.fields ([c,.ref L,.none,rawInt L,.none]++(if pl.isEmpty then Br 6 AH else pl)).toArray:=by rw[<-G]
 have W:nw.isFreed=false:=Bm T;have h:(g1.push nw).get? x=some o:=Ag nw g;refine BG h hd big ?_;have i:=BH hd (·.setIfInBounds 1 (Aw g1.objs.size));have j:=Bb (AV (·.setIfInBounds 1 (Aw g1.objs.size))) h<|Bm i;have t3:((g1.push nw).update x (AV (·.setIfInBounds 1 (Aw g1.objs.size)))).get? g1.objs.size=some nw:=(AO _ _<|A3 y).trans<|Av g1 W;unfold setFlight;refine Ab<|Be j i (x:=.ref g1.objs.size) (by simp[big]) ?_;rw[if_pos (show(Aw g1.objs.size != AH)=true from by simp)];refine BG t3 T (by simp only[AA,AI,AB,A2]<;>omega)<|k _ ?_;have m:=BH T (·.setIfInBounds 3 ((none:Option KB).elim AH λf=>rawInt f));have H:=Bb (AV (·.setIfInBounds 3 ((none:Option KB).elim AH λf=>rawInt f))) t3<|Bm m;have n:(((g1.push nw).update x (AV (·.setIfInBounds 1 (Aw g1.objs.size)))).update g1.objs.size (AV (·.setIfInBounds 3 ((none:Option KB).elim AH λf=>rawInt f)))).get? x=some (AV (·.setIfInBounds 1 (Aw g1.objs.size)) o):=by rw[AO _ _ y];exact j
 have old:∀b ob,b≠x->g1.get? b=some ob->(((g1.push nw).update x (AV (·.setIfInBounds 1 (Aw g1.objs.size)))).update g1.objs.size (AV (·.setIfInBounds 3 ((none:Option KB).elim AH λf=>rawInt f)))).get? b=some ob:=λb ob l z=>by rw[AO _ _ (A5<|An z),AO _ _ (A3 l)];exact Ag _ z
 have r:∀b ob,s.heap.get? b=some ob->(∀ws,ob.data≠.fields ws)->b≠x:=λb ob z u q=>by rw[q,e]at z;cases z;exact u vs hd
 rw[bT hd]at n;refine⟨λb ob l=>old b ob (λq=>by rw[q,no]at l;cases l) (w b ob l),fl.of_keeps λb ob z u=>?_,⟨_,g1.objs.size,_,_,n,by simp[big],⟨w.fresh,λ_=>Dy v.1.symm⟩,y,H,m,?_⟩,λb ob z u=>?_⟩
 ·obtain⟨B,q⟩:=v.2.2 b ob z;exact⟨_,old b _ (r b ob z u) q,rfl⟩
 ·first|(simp;done)|(rcases hpl with rfl|⟨_,_,_,_,_,_,_,rfl⟩<;>simp)
 obtain⟨B,q⟩:=v.2.2 b ob z;exact⟨B,old b _ (r b ob z u) q⟩
def zml(fr:A.frames=some (env::outer))(fl:s.heap.FunFrames base (env::outer))(hf:env.frame=some L)(e:s.heap.get? x=some o)(st:base.StaysIn s.heap)(no:base.get? x=none)(hd:o.data=.fields vs)(f:vs[1]?=some (.ref T)) (i:base.get? T=none) (j:T≠x) (a:s.heap.get? T=some oT) (c:oT.data=.fields ts) (h:ts[3]?=some .none) 
  (k:∀h',Ou base (env::outer) x o s.heap h'->Q () {s with heap:=h'}):wpAny M A (noteFrame (.ref x) env) (λ_ s'=>wpAny M A (setFlight (.ref x) none) Q E s') E s:=by
 unfold noteFrame;simp only[hf];refine Ab<|Be e hd f ?_;rw[if_pos (show(Aw T != AH)=true from by simp)];refine Ab<|Be a c h ?_;rw[if_neg (show ¬((AH==rawInt L)=true) from by simp[rawInt])];refine Ab<|BG a c (Array.getElem?_eq_some_iff.mp h).1 ?_;have l:∀b,b≠T->(s.heap.update T (AV (·.setIfInBounds 3 AH))).get? b=s.heap.get? b:=λb W=>AO _ _<|A3 W;have nrec:∀b ob,s.heap.get? b=some ob->(∀ws,ob.data≠.fields ws)->b≠T:=λb ob z r q=>by rw[q,a]at z;cases z;exact r ts c
 refine entry_any fr (fl.of_keeps λb ob z r=>⟨ob,(l b<|nrec b ob z r).trans z,rfl⟩) hf ((l x<|A3 j).trans e) (λb ob z=>(l b λq=>by rw[q,i]at z;cases z).trans (st b ob z)) no hd (Array.getElem?_eq_some_iff.mp f).1 λh' g=>?_;obtain⟨ws,u,v,w,m,n,y,B⟩:=g.err;exact k h' ⟨g.stays,g.frames,⟨ws,u,v,w,m,n,⟨y.1,λz=>by
  have:=y.2 (by
   by_cases q:u=T
   ·rw[q,a]at z;cases z
   rw[l u q];exact z)
  rwa [Gb]at this⟩,B⟩,λb ob z r=>g.rest b ob ((l b<|nrec b ob z r).trans z) r⟩
variable {w:UF}{C:KB}
section
variable {prog:P3}
variable {nm ql:Str}{N:KB}{bs bm:List IR}{b1:Bool}{sn:List Str}{sub:List IR}{b2:Bool}{b3:Option Bool}{dd:Option KB}{k0 k1 k2 k3 k5:Option IR}{newId:String}
noncomputable abbrev PR (prog:P3) (w:UF) (A:Around) (env:Env) (x:KB) (E:Qqa):Qqa:=notedBy (KF prog w) (A.mark<|some<|.ref x) env (cameBackBy (KF prog w) A env E)
end
section
variable {l:List Env}
def zjI(st:base.StaysIn s.heap)(fl:s.heap.FunFrames base l)(e:s.heap.get? x=some o)(hd:o.data=.fields vs)(g:vs[1]?=some (.ref T))(h:base.get? T=none)(i:T≠x)(a:s.heap.get? T=some oT)(c:oT.data=.fields ts)(j:ts[3]?=some .none)(k:∀h',Ou base l x o s.heap h'->Q () {s with heap:=h'}):wpAny M A (setFlight (.ref x) none) Q E s:=by
 have big:3<ts.size:=(Array.getElem?_eq_some_iff.mp j).1;unfold setFlight;refine Ab<|Be e hd g ?_;rw[if_pos (show(Aw T != AH)=true from by simp)];refine BG a c big<|k _ ?_;have r:∀b,b≠T->(s.heap.update T (AV (·.setIfInBounds 3 ((none:Option KB).elim AH λf=>rawInt f)))).get? b=s.heap.get? b:=λb w=>AO _ _<|A3 w;have nrec:∀b ob,s.heap.get? b=some ob->(∀ws,ob.data≠.fields ws)->b≠T:=λb ob z u q=>by rw[q,a]at z;cases z;exact u ts c
 have v:=BH c (·.setIfInBounds 3 ((none:Option KB).elim AH λf=>rawInt f));have y:({o with data:=.fields vs}:Obj)=o:=by obtain⟨W,m,C,L⟩:=o;cases hd;rfl
 refine⟨λb ob z=>(r b λq=>by rw[q,h]at z;cases z).trans (st b ob z),fl.of_keeps λb ob z u=>⟨ob,(r b<|nrec b ob z u).trans z,rfl⟩,⟨vs,T,_,_,?_,g,⟨h,λz=>by rw[a]at z;cases z⟩,i,Bb _ a<|Bm v,v,?_⟩,λb ob z u=>⟨ob.slots,(r b<|nrec b ob z u).trans z⟩⟩
 ·rw[r x (A3 i),y];exact e
 simp[big]
end
open PySem.Spec PyProof.Rows
structure Md(hp:Pv)(C:KB)(f:Str):Prop where
 ex:∃(nm ql:Str) (N:KB) (bs bm top:List IR) (sn:List Str) (sub:List IR) (b2:Bool) (b3:Option Bool) (dd:Option KB) (k0 k1 k2 k3 k5:Option IR) (newId B sa owner:String) (mN:Str->Option IR) (nn:List Str),
  hp.get? C=some (excClassObj nm ql C N bs bm true sn sub b2 b3 dd k0 k1 k2 k3 k5 newId)/\hp.Ns N mN/\mN f=none/\mN "__setattr__"=none/\OT hp nn top bm/\f∈nn/\("__setattr__":Str)∈nn/\StoreFacts B top sa owner/\typeLookup (.type B) f=pure none
def MC(C x:KB)(h:Pv):Prop:=∃t,h.get? x=some {cls:=.ref C,data:=.fields #[.ref t,.none,.none,.none,.bool false,.none]}
def Nu(C x a:KB)(h:Pv):Prop:=∃t,h.get? x=some {cls:=.ref C,dict:=some a,data:=.fields #[.ref t,.none,.none,.none,.bool false,.none]}
def Zm(C:KB)(a c:TE)(f:Str):TS:=λD σ H=>c σ H λy H1=>a σ H1 λv H2=>∃x,v=.ref x/\H2 x=some (.ext<|MC C x) /\
 ∀l,H2 l=none->x<l->D.nx σ (upd (upd H2 l<|.xd [(f,y)]) x<|.ext<|Nu C x l)
variable {X:Cx}{f:Str}{pos pos':Pos}{qp:List (KB×Obj)}{σ:L2.St}{H:Hp}
section
variable {o value:Re}{ta tv:TE}
def tF{y:V}{u:IR}(I:Inv X qp σ H s)(m:H x=some (.ext (MC C x)))(K:Md s.heap C f)(G:RelV y u)(k:∀a s',H a=none->x<a->Inv X qp σ (upd (upd H a (.xd [(f,y)])) x (.ext (Nu C x a))) s'->Q () s'):wpAny (KF X.prog X.w) A (setAttr (.ref x) f u) Q E s:=by
 obtain⟨nm,ql,N,bs,bm,top,sn,sub,b2,b3,dd,k0,k1,k2,k3,k5,newId,B,sa,owner,mN,nn,at_,ns,no,M,T,hm,W,J,e⟩:=K.ex;obtain⟨⟨t,h⟩,_,_⟩:=I.hok x _ m;have n:=An h;have xs:s.heap.objs.size≠x:=A5 n;have i:H s.heap.objs.size=none:=I.hok.fresh (Ai _);obtain⟨r,S,U,tk,os⟩:=s;refine zI J T hm W at_ ns no M e h rfl (by intro c z;cases z) rfl λv l L Y Z=>?_;refine k r.objs.size _ i n ?_
 have nf:({cls:=.ref C,data:=.fields #[.ref t,.none,.none,.none,.bool false,.none]}:Obj).isFreed=false:=rfl;have u1:(v.update x λ_=>{cls:=.ref C,data:=.fields #[.ref t,.none,.none,.none,.bool false,.none]}).get? x=some {cls:=.ref C,data:=.fields #[.ref t,.none,.none,.none,.bool false,.none]}:=Bb _ L nf;have j:∀b,b≠x->(v.update x λ_=>{cls:=.ref C,data:=.fields #[.ref t,.none,.none,.none,.bool false,.none]}).get? b=v.get? b:=λb o=>AO _ _ (A3 o);generalize (v.update x λ_=>{cls:=.ref C,data:=.fields #[.ref t,.none,.none,.none,.bool false,.none]})=F at *;have kp:∀b q,r.get? b=some q->F.get? b=some q:=λb q z=>by
  by_cases o:b=x
  ·rw[o]at z ⊢;rw[u1];exact h.symm.trans z
  rw[j b o];exact Z b q o z
 have I1:Inv X qp σ (upd H r.objs.size (.xd [(f,y)])) ⟨F,S,U,l,os⟩:=I.laid (t':=l) kp (Ai _) ⟨_,Y.at λq z=>(j _ xs).trans z,λg=>by
  show KI (EM g [(f,y)]) _;by_cases q:g=f
  ·rw[if_pos q,q];simp[EM];exact G
  ·rw[if_neg q];have:(g==f)=false:=by simpa using q
   simp[EM,this]
   trivial⟩
 have mu:Sq (upd H r.objs.size (.xd [(f,y)]) x):=by rw[HW (A3 xs),m];exact C6
 exact I1.write (x:=x) (e:=x) (t':=l) mu (.inl rfl) (λb q o z=>(j b o).symm.trans z) ⟨_,L⟩ ⟨⟨t,L⟩,⟨_,L⟩,λg1 g2 z kk=>by obtain⟨t',z⟩:=z;exact⟨t',kk _ z⟩⟩
def qM(a:∀h:Pv,X.K.In h->Md h C f)(c:PE X o ta)(e:PE X value tv)(g:swapsWith value (some<|.Attribute o f pos') pos.line X.env=pure false):PS X (.Assign [.Attribute o f pos'] value pos) (Zm C ta tv f):=by intro qp s σ H D I h;refine plainObj_wpAny_Assign_Attribute (HB (e qp s σ H _ I h) λu s1 ⟨y,H1,l,r,q⟩=>HB (c qp s1 σ H1 _ l q) ?_) g;rintro w s2 ⟨v,H2,I2,rx,x,ex,A,E⟩;subst ex;obtain rfl:w=Aw x:=rx;exact tF I2 A (a _ I2.kIn) r λL s3 M Q T=>⟨σ,_,T,E L M Q⟩
end
structure Ks(hp:Pv)(C f:KB):Prop where
 ex:∃(nm ql:Str) (N:KB) (bs bm bmB bmN:List IR) (b1:Bool) (sn:List Str) (sub:List IR) (b2:Bool) (b3:Option Bool) (dd:Option KB) (k0 k1 k2 k3 k5:Option IR) (newId B Bn nid initId inN:String) (mN:Str->Option IR) (oF:Obj),
  ExcBaseFacts Bn newId inN bmN/\bmB.contains (.type Bn)=true/\ExcBaseFacts B nid initId bmB/\OwnTail hp bmB bm/\hp.get? C=some (excClassObj nm ql C N bs bm b1 sn sub b2 b3 dd k0 k1 k2 k3 k5 newId)/\hp.Ns N mN/\mN "__init__"=some (.ref f)/\hp.get? f=some oF/\oF.cls=.type "function"
def Zf(b:Nat)(C:KB)(sp:Sp)(t:TA):TE:=λσ H Q=>t σ H λvs H1=>vs.length<=1000/\∀x,H1 x=none->b<=x->sp (.ref x::vs) (upd H1 x<|.ext<|MC C x) (λv H2=>v=.non/\Q (.ref x) H2) E0
variable {y:Str}{fd:FuncData}{ps:List Str}{sp:Sp}{k:Nat}{us:List IR}{p:Pos}{e:Re}
section
variable {f:KB}{Q:VK}{vs:List V}{es:List Re}{t:TA}
def uB(c:∀h:Pv,X.K.In h->Ks h C f)(F:Ja X.prog X.w X.K X.mg X.base LJ k f fd ps sp)(g:HP (k+1) X.A)(i:Binds X.K fd ps [])(I:Inv X qp σ H s)(r:Vals vs us)(a:vs.length<=1000)(h:∀x,H x=none->X.s₀.heap.objs.size<=x->sp (.ref x::vs) (upd H x<|.ext<|MC C x) (λv H2=>v=.non/\Q (.ref x) H2) E0):wpAny (KF X.prog X.w) X.A (call (.ref C) us) (EP X qp σ Q) X.xe s:=by
 obtain⟨nm,ql,N,bs,bm,j,n,b1,sn,sub,b2,b3,dd,k0,k1,k2,k3,k5,newId,B,Bn,G,l,J,mN,oF,S,U,Y,T,at_,ns,own,o,y⟩:=(c _ I.kIn).ex;obtain⟨hp,Z,dr,E,os⟩:=s;have lu:us.length=vs.length:=r.length.symm;refine zmV S U Y T at_ ns own o y (λh' x hle m=>?_) (by rw[lu];exact B7 (zlW a));have hx:H x=none:=I.hok.fresh hle;obtain⟨t',L,_,_⟩:=m.there;have I2:Inv X qp σ (upd H x<|.ext<|MC C x) ⟨h',Z,dr,E,os⟩:=I.laid (t':=E) m.keeps hle ⟨⟨t',L⟩,⟨_,L⟩,λg1 g2 z kk=>by obtain⟨t2,z⟩:=z;exact⟨t2,kk _ z⟩⟩
 have M:=h x hx<|Ar I.sz hle;have W:Vals (V.ref x::vs) (Aw x::us):=.cons rfl r;have hl:(Aw x::us).length=ps.length:=by have q:=W.length;rw[F.len _ _ _ _ M]at q;exact q.symm
 have r3:Vals (V.ref x::vs) (Aw x::us++[]):=by rw[Am];exact W
 refine D5<|Du (F.run _ X.stack _ _ ⟨Aw x::us,[]⟩ (Aw x::us++[]) _ _ E0 (g.make C us []) (I2.env0.make C us []) (i _ (Aw x::us) I2.kIn (by rw[Am];exact hl)) r3 M) λrr s' z=>?_
 cases rr with
 |error e=>exact False.elim z
 |ok fl=>
  cases fl with
  |ret u=>
   obtain⟨v,H',I3,rv,ev,q3⟩:=I2.after z;subst ev;exact⟨rv,⟨V.ref x,H',I3,rfl,q3⟩⟩
  |next=>exact False.elim z
  |brk=>exact False.elim z
  |cont=>exact False.elim z
def rH(i:∀h:Pv,X.K.In h->Ks h C f)(a:BF X.K (.ref C)=true)(F:Ja X.prog X.w X.K X.mg X.base LJ k f fd ps sp)(j:HP (k+1) X.A)(m:Gl X y)(hm:X.mg y=some (.ref C))(n:Binds X.K fd ps [])(z:PA X (e::es) t) (c:(y==("__debug__":Str))=false:=by decide) (he:Qqb X.env e es:=by rfl) (g:Qqc pos es X.env:=by rfl):
  PE X (.Call (.Name y p) (e::es) [] pos) (Zf X.s₀.heap.objs.size C sp t):=by
 intro qp s σ H Q I h;refine BS<|Vj I m hm ?_ c;refine DN (h₀:=X.base) I.ok.mod.kin a (HB (z pos qp s σ H _ I h) λus s1 ⟨vs,H1,I1,r,l,q⟩=>⟨I1.kIn,?_⟩) he g;exact uB i F j n I1 r l q
end
structure JO(hp:Pv)(C:KB):Prop where
 ex:∃(nm ql:Str) (N:KB) (bs bm:List IR) (b1:Bool) (sn:List Str) (sub:List IR) (b2:Bool) (b3:Option Bool) (dd:Option KB) (k0 k1 k2 k3 k5:Option IR) (newId:String),
  hp.get? C=some (excClassObj nm ql C N bs bm b1 sn sub b2 b3 dd k0 k1 k2 k3 k5 newId)/\bm.contains (.type "BaseException")=true
def pR(C:KB)(X:Cx)(a:TE):TS:=λ_ σ H=>a σ H λv H1=>∃x f,v=.ref x/\H1 x=some (.ext<|Nu C x f)/\∀qp e,Inv X qp σ H1 e->X.xe (.ref x) e
def Xc(C:KB)(f:Str):Sp:=λvs H Q _=>∃x y,vs=[.ref x,y]/\H x=some (.ext<|MC C x)/\∀e,H e=none->x<e->Q .non (upd (upd H e<|.xd [(f,y)]) x<|.ext<|Nu C x e)
section
variable {ex:Re}{te:TE}
def xH(a:∀h:Pv,X.K.In h->JO h C)(c:X.calm=true)(he:PE X ex te):PS X (.Raise (some ex) none pos) (pR C X te):=by intro qp s σ H D I h;obtain⟨nm,e,N,bs,bm,b1,sn,sub,f,l,o,r,w,y,A,E,newId,at_,L⟩:=(a _ I.ok.mod.kin).ex;refine zjK (nm:=nm) (ql:=e) (C:=C) (N:=N) (bs:=bs) (bm:=bm) (b1:=b1) (sn:=sn) (sub:=sub) (b2:=f) (b3:=l) (dd:=o) (k0:=r) (k1:=w) (k2:=y) (k3:=A) (k5:=E) (newId:=newId) L (I.ok.hd c)<|HB (he qp s σ H _ I h) ?_;rintro u s1 ⟨v,H1,I1,M,x,Q,rfl,T,q⟩;obtain rfl:u=Aw x:=M;obtain⟨⟨t,W⟩,_,_⟩:=I1.hok x _ T;exact⟨x,t,some Q,rfl,I1.bk _ _ at_,W,q qp s1 I1⟩
end
variable {P:P3}{K:Ac}{mg:Str->Option IR}{qual:Str}{st:W1}{fa:KB}
def rQ{x c g:Str}{i j:Pos}(F:Nd K x qual st fa fd)(S:IQ [c,g] [c,g] (Jl st))(m:Ln st=[.Assign [.Attribute (.Name c i) f pos'] (.Name g j) pos])(n:∀h:Pv,K.In h->Md h C f) (v0:(Jl st).names.lookup c=some .local) (v1:(Jl st).names.lookup g=some .local) (z:(c==("__debug__":Str))=false) (B:(g==("__debug__":Str))=false) (G:(c==("__classdict__":Str))=false) (I:(g==("__classdict__":Str))=false)(hs:∀env,swapsWith (.Name g j) (some<|.Attribute (.Name c i) f pos') pos.line env=pure false):Ja P w K mg base LJ (k+1) fa fd [c,g] (Xc C f):=by
 refine F.ok S (λvs H Q E ⟨x,y,e,_⟩=>by rw[e];rfl) λl A outer s H vs Q E L h=>?_;rw[m];refine⟨_,XA<|qM (C:=C) n (pv 0 rfl (.inl v0) z G) (pv 1 rfl (.inl v1) B I)<|hs _,?_⟩;obtain⟨a,y,rfl,o,q⟩:=h;exact⟨y,rfl,.ref a,rfl,a,rfl,o,λr u v=>q r u v⟩
open PySem.W
def L6(C x a:KB)(h:Pv):Prop:=∃ws,h.get? x=some {cls:=.ref C,dict:=some a,data:=.fields ws}
structure MN(P:P3)(w:UF)(C:KB)(f:Str)(outer:List Env)(H:Hp)(s:Shared)(E:XK)(x dx T:KB)(n:Int)(H':Hp)(s':Shared):Prop where
 at_:H' x=some (.ext (L6 C x dx))
 dict:H' dx=some (.xd [(f,.int n)])
 tr:∃ws oT ts,s'.heap.get? x=some {cls:=.ref C,dict:=some dx,data:=.fields ws}/\ws[1]?=some (.ref T)/\T≠x/\s'.heap.get? T=some oT/\oT.data=.fields ts/\ts[3]?=some .none
 free:H' T=none
 new:s.heap.objs.size<=x/\s.heap.objs.size<=T/\s.heap.objs.size<=dx
 os:s'.os=s.os
 bare:AllBare s'.gens
 un:Un (MJ outer) [] H H' s.heap s'.heap
 hok:JX P w H' s'.heap
 wish:E (.int n 0) none H'
def JL(P:P3)(w:UF)(C:KB)(f:Str):NR:=λouter H s E e l=>∃x o T n r,e=.ref x/\MN P w C f outer H s E x o T n r l
variable {N:List Str}{scope:Scope}{cd:IR}{s0:Shared}{H0:Hp}{dx:KB}{n:Int}
section
variable {s1:Shared}{H1:Hp}{E:XK}
def zlH(I:Inv (HM (JL P w C f) P w K mg base N qual scope fa cd A outer s0 H0 E) qp σ H1 s1)(h:H1 x=some (.ext<|Nu C x dx))(i:H1 dx=some (.xd [(f,.int n)]))(old:s0.heap.objs.size<=x)(j:s0.heap.objs.size<=dx)(k:E (.int n 0) none (upd H1 x<|.ext<|L6 C x dx)):(HM (JL P w C f) P w K mg base N qual scope fa cd A outer s0 H0 E).xe (.ref x) s1:=by
 obtain⟨⟨t,ox⟩,_,_⟩:=I.hok x _ h;have W:dx≠x:=OA i h (by intro z;cases z);have fr:=I.ok.frames;have v:s1.heap.FunFrames base (envOfC qual scope s0.heap.objs.size fa cd::outer):=I.env0.funs;have X:∀b∈(envOfC qual scope s0.heap.objs.size fa cd::outer).filterMap (·.frame),H1 b=none:=I.env0.frf;have fun1:s1.heap.FunFrames (hideAll s1.heap (x::(envOfC qual scope s0.heap.objs.size fa cd::outer).filterMap (·.frame))) (envOfC qual scope s0.heap.objs.size fa cd::outer):=
  funFrames_hide v λenv he a hf=>Aj _ (List.mem_filterMap.mpr ⟨env,he,hf⟩)
 refine zi3 (L:=s0.heap.objs.size) fr fun1 rfl ox (λb o e=>of_hideAll _ e) (hideAll_none _ Al) rfl rfl λh' g=>?_;obtain⟨ws,T,oT,ts,g1,g2,⟨g3,B⟩,F,Z,g6,g7⟩:=g.err;have Tf:T∉(envOfC qual scope s0.heap.objs.size fa cd::outer).filterMap (·.frame):=λz=>by obtain⟨_,o,ho,M⟩:=g.frames.mem z;rw[Z]at ho;cases ho;exact M _ g6
 have T1:s1.heap.get? T=none:=by
  cases q:s1.heap.get? T with
  |none=>rfl
  |some o=>
   have:=hideAll_get (x::(envOfC qual scope s0.heap.objs.size fa cd::outer).filterMap (·.frame)) q (λz=>by
    rcases On.mp z with z|z
    ·exact F z
    exact Tf z)
   rw[g3]at this;cases this
 have Q:s1.heap.objs.size<=T:=B T1;have stay:∀b o,b≠x->b∉(envOfC qual scope s0.heap.objs.size fa cd::outer).filterMap (·.frame)->s1.heap.get? b=some o->h'.get? b=some o:=λb o y hf z=>
  g.stays b o (hideAll_get _ z λq=>by
   rcases On.mp q with q|q
   ·exact y q
   exact hf q)
 have U:=I.base;have sz:s0.heap.objs.size<=s1.heap.objs.size:=I.sz;have own:∀b o,s0.heap.get? b=some o->b≠x/\b≠s0.heap.objs.size:=λb o z=>⟨λq=>by have l:=An z;rw[q]at l;exact absurd l (Nat.not_lt.mpr old),Au (An z)⟩
 have mem:∀b,b≠s0.heap.objs.size->b∉MJ outer->b∉(envOfC qual scope s0.heap.objs.size fa cd::outer).filterMap (·.frame):=λb r s z=>by
  obtain⟨env,he,hf⟩:=List.mem_filterMap.mp z;rcases On.mp he with rfl|he
  ·exact r (As hf).symm
  exact s<|List.mem_filterMap.mpr ⟨env,he,hf⟩
 have nx:∀b,H1 b=none->b≠x:=λb r q=>by rw[q,h]at r;cases r
 have nofr:∀b o,H1 b=some o->b∉(envOfC qual scope s0.heap.objs.size fa cd::outer).filterMap (·.frame):=λb o r z=>by rw[X b z]at r;cases r
 refine⟨x,dx,T,n,upd H1 x<|.ext<|L6 C x dx,rfl,KY,by rw[HW W];exact i,⟨ws,oT,ts,g1,g2,F,Z,g6,g7⟩,by rw[HW F];exact I.hok.fresh Q,⟨old,Ar sz Q,j⟩,I.os,I.bare,?_,?_,k⟩
 ·refine⟨λb o z r s H=>?_,λb o z r s H=>?_,λb o z r H=>?_,λb o z H=>?_,λb xs r=>?_,λb o u r=>?_,λb ps r=>?_⟩
  ·exact stay b o (own b o z).1 (mem b (own b o z).2 s)<|U.keep b o z r s H
  ·obtain⟨sl,q⟩:=U.slot b o z r s H;obtain⟨_,G,q2,M⟩:=v.mem (b:=b) (by
    obtain⟨env,he,hf⟩:=List.mem_filterMap.mp s;exact List.mem_filterMap.mpr ⟨env,Aj _ he,hf⟩)
   rw[q]at q2;cases q2;obtain⟨Mx,J⟩:=g.rest b _ q M;exact⟨Mx,J⟩
  ·rw[HW (own b o z).1];exact U.free b o z r H
  ·obtain⟨G,q⟩:=U.there b o z H
   by_cases y:b∈(envOfC qual scope s0.heap.objs.size fa cd::outer).filterMap (·.frame)
   ·obtain⟨_,o3,J,M⟩:=v.mem y;obtain⟨sl,q4⟩:=g.rest b o3 J M;exact⟨_,q4⟩
   exact⟨G,stay b G (own b o z).1 y q⟩
  ·have s:=U.tups b xs r;rw[HW (OA s h (by intro z;cases z))];exact s
  ·have s:=U.frzs b o u r;rw[HW (OA s h (by intro z;cases z))];exact s
  obtain⟨m,s⟩:=U.tbls b ps r;exact⟨m,by rw[HW (OA s h (by intro z;cases z))];exact s⟩
 ·intro b o z
  by_cases y:b=x
  ·subst y;rw[KY]at z;cases z;exact⟨⟨ws,g1⟩,⟨_,g1⟩,λa1 a2 q kk=>by obtain⟨S,q⟩:=q;exact⟨S,kk _ q⟩⟩
  ·rw[HW y]at z;refine(I.hok b o z).stay (λc u hc q=>?_) (λc hc=>?_) (λc xs hc=>?_)
   ·have r:∃Y,H1 c=some Y:=by
     rcases hc with rfl|hc
     ·exact⟨_,z⟩
     exact⟨_,hc⟩
    obtain⟨Y,r⟩:=r;refine stay c u (λe=>?_) (nofr c Y r) q;rcases hc with rfl|hc
    ·exact y e
    rw[e,h]at hc;cases hc
   ·rw[HW (OA hc h (by intro z;cases z))];exact hc
   rw[HW (OA hc h (by intro z;cases z))];exact hc
end
variable {CX:NR}{er:Int->D}{fld:Str}
def rL{x:Str}{f:KB}(F:Nd K x qual st f fd)(S:IQ N ps (Jl st))(len:∀vs H Q E,sp vs H Q E->vs.length=ps.length)(c:∀(a:IR) (A:Around) (outer:List Env) (s:Shared) (H:Hp) (vs:List V) (Q:VK) (E:XK),HP k (A.deeper<|envOfC qual (Jl st) s.heap.objs.size f a)->sp vs H Q E ->
   ∃t,K4 (HM CX P w K mg base N qual (Jl st) f a A outer s H E) (Ln st) t/\t {nx:=λ_ g=>Q .non g,rt:=Q} (start N vs) H):Ja P w K mg base CX (k+1) f fd ps sp:=by
 obtain⟨u,v,kV,doc,pm,an,a,y,n,rfl,o,e⟩:=F.ex;exact Z9 o e S len λA outer s H vs Q E r l=>c a A outer s H vs Q E r l
def ZL{x:Str}{f:KB}{m:MS}(g:∀i,er i≠.non)(F:Nd K x qual st f fd)(S:IQ N ps (Jl st))(c:∀(a:IR) (A:Around) (outer:List Env) (s:Shared) (H:Hp) (E:XK),HP k (A.deeper<|envOfC qual (Jl st) s.heap.objs.size f a) ->
   PZ (HM (JL P w C fld) P w K mg base N qual (Jl st) f a A outer s H E) er (λi j=>E (.int i 0) none j) (Ln st) m):Ja P w K mg base (JL P w C fld) (k+1) f fd ps (Zk K er ps.length<|IX N.length m):=by
 refine rL F S (λvs H Q E ⟨_,_,_,_,_,h,_⟩=>h) λa A outer s H vs Q E e h=>⟨_,c a A outer s H E e,?_⟩;exact oO (X:=HM (JL P w C fld) P w K mg base N qual (Jl st) f a A outer s H E) g h
def Xv{io:List KB}{st:Hg}{p:KB}{o:HO}(S:Hw K H io st)(c:H p=none):Ext io [] H (upd H p o)/\Hw K (upd H p o) (io++[]) st:=by
 have E:Ext io [] H (upd H p o):=⟨λb u h _=>by rw[HW (Ka h c)];exact h,λb h=>absurd h (by simp),λb u v h=>by rw[HW (Ka h c)];exact h⟩
 refine⟨E,by rw[Am];exact S.len,by rw[Am];exact S.nd,λn a ob e f=>?_⟩;rw[Am]at e;obtain⟨u,l,_⟩:=(S.ob n a ob e f).stands;exact OR.mono (E.kp S) (by rw[HW (Ka l c)])<|S.ob n a ob e f
def OL(er:Int->D)(m:ME):MS:=λρ st=>(m ρ st).bind λ(d,s)=>match d with
 |.int n=>some (.rt (er n),s)
 |_=>none
section
variable {E:XK}{f:KB}{m:ME}{cpos:Pos}
def zK(B:∀i j,er i=er j->i=j)(G:∀h:Pv,K.In h->Ks h C f)(J:∀h:Pv,K.In h->JO h C)(c:BF K (.ref C)=true)(F:Ja P w K mg base LJ k f fd ps (Xc C fld)) (U:HP (k+1) (HM (JL P w C fld) P w K mg base N qual scope fa cd A outer s0 H0 E).A) (Y:Gl (HM (JL P w C fld) P w K mg base N qual scope fa cd A outer s0 H0 E) y) (hm:mg y=some (.ref C)) (a:Binds K fd ps [])(he:SE (HM (JL P w C fld) P w K mg base N qual scope fa cd A outer s0 H0 E) e m) (Z:SA (HM (JL P w C fld) P w K mg base N qual scope fa cd A outer s0 H0 E) [e] (Hc m mZ)) (g:(y==("__debug__":Str))=false)(z:starEach [e] (HM (JL P w C fld) P w K mg base N qual scope fa cd A outer s0 H0 E).env=(false,eval e (HM (JL P w C fld) P w K mg base N qual scope fa cd A outer s0 H0 E).env)::starEach [] (HM (JL P w C fld) P w K mg base N qual scope fa cd A outer s0 H0 E).env):
  SX (HM (JL P w C fld) P w K mg base N qual scope fa cd A outer s0 H0 E) er (λi H'=>E (.int i 0) none H') (.Raise (some<|.Call (.Name y p) [e] [] cpos) none pos) (OL er m):=by
 refine PS.imp (xH (C:=C) J rfl<|rH (pos:=cpos) G c F U Y hm a Z g z rfl) λD σ H h=>?_;obtain⟨ρ,st,io,fl,st',En,S,l,W⟩:=h;obtain⟨⟨d,s1⟩,X,l⟩:=Ht l
 cases d with
 |int n=>
  cases l;have e2:Hc m mZ ρ st=some ([.int n],st'):=by show(m ρ st).bind _=_;rw[X];rfl
  refine⟨ρ,st,io,_,st',En,S,e2,λvs H1 ka X1 M R1=>?_⟩;obtain⟨v,s,rfl,hv,r⟩:=R1;cases (show s=[] from r)
  cases (show v=.int n from hv)
  refine⟨by simp,λx hx hle=>⟨x,.int n,rfl,KY,λdx Q r=>⟨rfl,x,dx,rfl,KY,λqp s' I=>?_⟩⟩⟩;have u:dx≠x:=A5 r;have L:H1 dx=none:=by rw[HW u]at Q;exact Q
  refine zlH I KY (by rw[HW u,KY]) hle (Ar hle<|B7 r) ?_;have q:upd (upd (upd (upd H1 x<|.ext<|MC C x) dx<|.xd [(fld,.int n)]) x<|.ext<|Nu C x dx) x (.ext<|L6 C x dx)=upd (upd H1 dx<|.xd [(fld,.int n)]) x (.ext<|L6 C x dx):=by
   funext b
   unfold upd;by_cases a:b=x
   ·simp[a]
   simp[a]
  rw[q];obtain⟨X2,T⟩:=Xv (o:=.xd [(fld,.int n)]) M L;obtain⟨X3,S3⟩:=Xv (p:=x) (o:=.ext (L6 C x dx)) T (by rw[HW (A3 u)];exact hx);have X4:=(X1.trans M X2).trans (by rw[<-Aq];exact T) (by rw[<-Aq];exact X3);refine W.x n rfl _ _ X4 ?_;rw[<-Aq,<-Aq];exact S3
 |_=>cases l
end
section
variable {h':Pv}
def dG(I:Inv X qp σ H s)(a:H x=some (.ext<|L6 C x dx))(h:H T=none)(new:X.s₀.heap.objs.size<=T)(nl:T≠X.env.locals)(i:∀y c,X.env.cells.lookup y=some c->c≠T)(np:∀p∈X.pn++qp,p.1≠T)(g:Ou (hideAll s.heap (x::T::X.stack.filterMap (·.frame))) X.stack x o s.heap h') (ox:s.heap.get? x=some o):Inv X qp σ H {s with heap:=h'}:=by
 obtain⟨v,M⟩:=(I.hok x _ a).1;have N:o={cls:=.ref C,dict:=some dx,data:=.fields v}:=As<|ox.symm.trans M;obtain⟨ws,G,oT,ts,g1,_⟩:=g.err;have stay:∀b q,b≠x->b≠T->b∉X.stack.filterMap (·.frame)->s.heap.get? b=some q->h'.get? b=some q:=λb q f r l z=>
  g.stays b q (hideAll_get _ z λm=>by
   rcases On.mp m with m|m
   ·exact f m
   ·rcases On.mp m with m|m
    ·exact r m
    exact l m)
 have w:∀b∈X.stack.filterMap (·.frame),H b=none:=I.env0.frf;have Q:∀b,H b=none->b≠x:=λb f q=>by rw[q,a]at f;cases f
 have W:∀b q,H b=some q->b≠T:=λb q f z=>by rw[z,h]at f;cases f
 refine I.call (h':=h') (g':=s.gens) (d':=s.drawn) (t':=s.toks) (ch:=[T]) ⟨λb q z f r l=>?_,λb q z f r l=>?_,λb q z f l=>f,λb q z l=>?_,λb xs f=>f,λb q u f=>f,λb ps f=>⟨#[],by rw[f];simp⟩⟩ ?_ I.bare λb z=>?_
 ·exact stay b q (Q b f) (λe=>l (by rw[e];exact Os.mpr rfl)) r z
 ·obtain⟨_,j,n,A⟩:=I.env0.funs.mem r;rw[z]at n;cases n;exact g.rest b _ z A
 ·by_cases hb:b∈X.stack.filterMap (·.frame)
  ·obtain⟨_,j,n,A⟩:=I.env0.funs.mem hb;obtain⟨J,B⟩:=g.rest b _ n A;exact⟨_,B⟩
  ·by_cases e:b=x
   ·rw[e];exact⟨_,g1⟩
   exact⟨q,stay b q e (λe=>l (by rw[e];exact Os.mpr rfl)) hb z⟩
 ·intro b q z
  by_cases e:b=x
  ·subst e;rw[a]at z;cases z;rw[N]at g1;exact⟨⟨ws,g1⟩,⟨_,g1⟩,λa1 a2 q F=>by obtain⟨E,q⟩:=q;exact⟨E,F _ q⟩⟩
  ·refine(I.hok b q z).stay (λc u hc n=>?_) (λc hc=>hc) λc xs hc=>hc;have f:∃K,H c=some K:=by
    rcases hc with rfl|hc
    ·exact⟨_,z⟩
    exact⟨_,hc⟩
   obtain⟨K,f⟩:=f;refine stay c u (λL=>?_) (W c K f) (λm=>by rw[w c m]at f;cases f) n
   rcases hc with rfl|hc
   ·exact e L
   rw[L,a]at hc;cases hc
 rw[Os.mp z];exact⟨.inr new,nl,i,np⟩
end
variable {W:Qqa}
section
variable {H':Hp}{s':Shared}{E:XK}{np hpos:Pos}{st0:W1}{more:List W1}{rest:List ExceptHandler}{Q:Flow->Shared->Prop}
def landed{R:Shared->Prop}(i:X.stack=X.env::X.outer)(hf:X.env.frame=some X.env.locals)(I:Inv X qp σ H s)(Th:MN X.prog X.w C f X.stack H s E x dx T n H' s')(k:∀s2,Inv X qp σ H' s2->(∀(M:Model) (A:Around) (E:Qqa) (Q:Unit->Shared->Prop),(∀s3,Inv X qp σ H' s3->Q () s3)->wpAny M A (setFlight (.ref x) none) Q E s2) ->
   (∃T2 ws oT ts,(s2.heap.get? x=some {cls:=.ref C,dict:=some dx,data:=.fields ws}/\ws[1]?=some (.ref T2)/\T2≠x/\s2.heap.get? T2=some oT/\oT.data=.fields ts/\ts[3]?=some .none)/\H' T2=none/\s.heap.objs.size<=T2)->R s2):
  wpAny (KF X.prog X.w) X.A (noteFrame (.ref x) X.env) (λ_ s2=>wpAny (KF X.prog X.w) X.A (setFlight (.ref x) none) (λ_ s3=>R s3) W s2) W s':=by
 have I1:Inv X qp σ H' s':=I.call' Th.os Th.un Th.hok Th.bare λb z=>absurd z (by simp);obtain⟨ws,oT,ts,U,w1,Tx,Y,dT,t3⟩:=Th.tr;have fr:=I.ok.frames;rw[i]at fr;have L:X.s₀.heap.objs.size<=s.heap.objs.size:=I.sz;obtain⟨m0,N,_⟩:=I.loc;have ll:X.env.locals<s.heap.objs.size:=N.lt;have lc:∀z c,X.env.cells.lookup z=some c->c<s.heap.objs.size:=λz c h=>by obtain⟨v,q⟩:=I.cell z c h;exact q.lt
 have lp:∀p∈X.pn++qp,p.1<s.heap.objs.size:=λp u=>An (I.pin p u).1;have y:∀T2:KB,s.heap.objs.size<=T2->X.s₀.heap.objs.size<=T2/\T2≠X.env.locals/\(∀z c,X.env.cells.lookup z=some c->c≠T2)/\∀p∈X.pn++qp,p.1≠T2:=λT2 h=>
  ⟨Ar L h,A5<|Ay ll h,λz c q=>Au (Ay (lc z c q) h),λp u=>Au (Ay (lp p u) h)⟩
 have hide:∀{u:Pv}{T2:KB},u.FunFrames X.base X.stack->u.FunFrames (hideAll u (x::T2::X.stack.filterMap (·.frame))) X.stack:=λh=>funFrames_hide h λenv he a hf=>Aj _<|Aj _<|List.mem_filterMap.mpr ⟨env,he,hf⟩;have K:=hide (T2:=T) I1.env0.funs;obtain⟨c1,c2,c3,c4⟩:=y T Th.new.2.1;refine zml (base:=hideAll s'.heap (x::T::X.stack.filterMap (·.frame))) (outer:=X.outer) fr (by rw[i]at K ⊢;exact K) hf U (λb o e=>of_hideAll _ e) (hideAll_none _ Al) rfl w1 (hideAll_none _<|Aj _ Al) Tx Y dT t3 λh2 g=>?_;rw[<-i]at g;have I2:=dG I1 Th.at_ Th.free c1 c2 c3 c4 g U;obtain⟨j,T2,m,B,g1,g2,⟨g3,g3'⟩,F,G,J,Z⟩:=g.err;have Tf:T2∉X.stack.filterMap (·.frame):=λz=>by obtain⟨_,o,ho,nf⟩:=g.frames.mem z;rw[G]at ho;cases ho;exact nf _ J
 have r:s.heap.objs.size<=T2/\H' T2=none:=by
  by_cases e:T2=T
  ·rw[e];exact⟨Th.new.2.1,Th.free⟩
  ·have z:s'.heap.get? T2=none:=by
    cases q:s'.heap.get? T2 with
    |none=>rfl
    |some o=>
     have:=hideAll_get (x::T::X.stack.filterMap (·.frame)) q (λz=>by
      rcases On.mp z with z|z
      ·exact F z
      ·rcases On.mp z with z|z
       ·exact e z
       exact Tf z)
     rw[g3]at this;cases this
   have sz:s.heap.objs.size<=s'.heap.objs.size:=by have:=An Y;exact Ar Th.new.2.1<|B7 this
   exact⟨Ar sz<|g3' z,I1.hok.fresh<|g3' z⟩
 obtain⟨e1,e2,e3,e4⟩:=y T2 r.1;have S:=hide (T2:=T2) I2.env0.funs;refine k _ I2 (λM A E Q q=>?_) ⟨T2,j,m,B,⟨g1,g2,F,G,J,Z⟩,r.2,r.1⟩;refine zjI (base:=hideAll h2 (x::T2::X.stack.filterMap (·.frame))) (l:=X.stack) (λb o e=>of_hideAll _ e) S g1 rfl g2 (hideAll_none _<|Aj _ Al) F G J Z λh3 g'=>?_;exact q _<|dG I2 Th.at_ r.2 e1 e2 e3 e4 g' g1
end
section
variable {E:XK}{Q:VK}{vs:List V}
def xR(F:Ja X.prog X.w X.K X.mg X.base CX k fa fd ps sp)(a:HP k X.A)(c:Binds X.K fd ps [])(I:Inv X qp σ H s)(r:Vals vs us)(h:sp vs H Q E)(g:∀e s',CX X.stack H s E e s'->W e s'):
  wpAny (KF X.prog X.w) X.A (call (.ref fa) us) (EP X qp σ Q) W s:=by
 have f:(us++[]).length=ps.length:=by rw[Am,<-r.length];exact F.len _ _ _ _ h
 have l:Vals vs (us++[]):=by rw[Am];exact r
 refine D5<|Du (F.run X.A X.stack s H ⟨us,[]⟩ (us++[]) vs Q E a I.env0 (c s us I.kIn f) l h) λn s' z=>?_
 cases n with
 |error e=>exact g e s' z
 |ok o=>
  cases o with
  |ret u=>exact I.after z
  |next=>exact False.elim z
  |brk=>exact False.elim z
  |cont=>exact False.elim z
end
end L2.MP
namespace L2.MP
open PySem PySem.W PyProof.Rows Builtin.ObjectAttr
structure O8(K:Frag)(C:KB):Prop where
 ga:findIn K (.ref C) "__getattribute__"=some (some (.builtin "BaseException.__getattribute__"))
 hk:findIn K (.ref C) "__getattr__"=some none
 cl:findIn K (.ref C) "__class__"=some (some (.builtin "object.__class__"))
 gs:specialIn K (.builtin "object.__class__") "__get__"=some (some (.builtin "getset_descriptor.__get__"))
 tk:takesIn K (.builtin "object.__class__")=some true
 mo:mroIn K C (.type "object")=some true
 mb:mroIn K C (.type "BaseException")=some true
variable {expr:Bool}{Q:Qqa}{v:IR}
section
variable {prog:P3}{w:UF}{A:Around}{E:Qqa}{s:Shared}{K:Frag}{x C:KB}{ox:Obj}{od:Option Obj}{name:Str}{tk:Tok}
def aJ{fill:Bool}(Z:O8 K C)(X:K.In s.heap)(I:InstAt s.heap x ox C od)(h:wpAny (KF prog w) A.in1 (Builtin.«object.__getattribute__» ⟨[.ref x,.str name tk],[]⟩) (λfin s'=>match fin with|.done (.ret v)=>handedIn v=true/\Q v s'|_=>False) (λ_ _=>False) s):
  wpAny (KF prog w) A (getAttrBy (.ref x) (.str name tk) fill expr) Q E s:=by
 obtain⟨l,g,d,t,os⟩:=s;have L0:=I.type (M:=KF prog w);have L1:=looks_findIn (M:=KF prog w) X Z.ga;have L2:=looks_findIn (M:=KF prog w) X Z.hk;have o:Looks (KF prog w) l (isInstance (.ref x)<|.type "BaseException") true:=L0.andThen<|looks_mroIn X Z.mb;have bd:=F.excAttr_ValueError.ga.bind<|.ref x;have c:(expr&&onTheHeap (Cm "BaseException.__getattribute__"))=false:=by cases expr<;>rfl
 have r:(Cm "BaseException.__getattribute__"==Cm "object.__getattribute__")=false:=by decide +kernel
 have e:(onTheHeap (Aw C)&&Cm "BaseException.__getattribute__"==Cm "object.__getattribute__")=false:=by rw[r];rfl
 repeat (any_goals (first|assumption|(with_reducible refine Bt I.at_ ?_;rw[I.cls])|with_reducible refine L1.here ?_|with_reducible refine L2.here ?_|wp_step))
 have u:builtinKind "BaseException.__getattribute__"=some .slot:=by decide +kernel
 have sp:splitId "BaseException.__getattribute__"=some ("BaseException","__getattribute__"):=by decide +kernel
 refine Fe F.excAttr_ValueError.ga.plain F.entry_bexc_ga ?_;have y:=F.args_bexc_ga (.ref x)<|.str name tk;show wpAny _ _ (checkBuiltinCall "BaseException.__getattribute__" ⟨.ref x::[.str name tk],[]⟩) _ _ _;refine check_slot (s:=⟨l,g,d,t,os⟩) (i:="BaseException.__getattribute__") (owner:="BaseException") (n:="__getattribute__") (self:=.ref x) (rest:=[.str name tk]) (kw:=[]) u sp o y ?_;refine AZ h (λfin s' z=>?_) λ_ _ z=>z.elim
 rcases fin with(_|_|_|v)|_<;>first|exact z.elim|skip
 obtain⟨W,a⟩:=z;show wpAny _ _ (handedOut _) _ _ _;rw[handedOut_of W];exact Ae a
def zE{Q:Fin->Shared->Prop}(X:K.In s.heap)(I:InstAt s.heap x ox C od)(hf:findObj K C od name=some (.value v))(h:Q (.done<|.ret v) s):
  wpAny (KF prog w) A (Builtin.«object.__getattribute__» ⟨[.ref x,.str name tk],[]⟩) Q E s:=by
 obtain⟨l,g,d,t,os⟩:=s;have L0:=I.type (M:=KF prog w);have L1:=looks_find (M:=KF prog w) X I hf;refine Ab<|Ae<|Ab<|Ae<|Ab<|L0.at<|Ab<|L1.at ?_;exact Ae h
def rM{ge a:IR}{Q:Fin->Shared->Prop}(X:K.In s.heap)(I:InstAt s.heap x ox C od)(hf:findObj K C od name=some (.bind ge a))(h:wpAny (KF prog w) A (call ge [a,.ref x,.ref C]) (λv s'=>Q (.done<|.ret v) s') E s):
  wpAny (KF prog w) A (Builtin.«object.__getattribute__» ⟨[.ref x,.str name tk],[]⟩) Q E s:=by
 obtain⟨l,g,d,t,os⟩:=s;have L0:=I.type (M:=KF prog w);have L1:=looks_find (M:=KF prog w) X I hf;refine Ab<|Ae<|Ab<|Ae<|Ab<|L0.at<|Ab<|L1.at ?_;show wpAny _ _ (holding [a] (call ge [a,.ref x,.ref C]) >>= ret) _ _ _;exact Ab<|A7<|AZ h (λv s' z=>Ae z) λ_ _ z=>z
def zmK{Q:Option IR->Shared->Prop}(Z:O8 K C)(X:K.In s.heap)(I:InstAt s.heap x ox C od)(h:Q (some<|.ref C) {s with toks:=s.toks+1}):wpAny (KF prog w) A (getAttr? (.ref x) "__class__") Q E s:=by
 have l:(clsIn K C).isSome=true:=by
  have:=Z.mo;unfold mroIn at this;cases o:clsIn K C with
  |none=>rw[o]at this;cases this
  |some _=>rfl
 have hf:findObj K C od "__class__"=some (.bind (.builtin "getset_descriptor.__get__")<|.builtin "object.__class__"):=by obtain⟨cd,l⟩:=Option.isSome_iff_exists.mp l;unfold findObj;rw[l,Aa,Z.cl,Aa];simp[Z.gs,Z.tk]
 unfold getAttr? getAttrBy?;refine Ab<|wpAny_mkText<|Ab<|Fg<|aJ (s:={s with toks:=s.toks+1}) Z X I<|rM (s:={s with toks:=s.toks+1}) X I hf<|D5<|class_get (s:={s with toks:=s.toks+1}) X I Z.mo ?_;exact⟨rfl,Ae h⟩
def yX(Z:O8 K C)(X:K.In s.heap)(I:InstAt s.heap x ox C od)(hf:findObj K C od name=some (.value v))(a:handedIn v=true)(h:Q v {s with toks:=s.toks+1}):wpAny (KF prog w) A (getAttr (.ref x) name expr) Q E s:=by unfold getAttr;exact Ab<|wpAny_mkText<|aJ (s:={s with toks:=s.toks+1}) Z X I<|zE (s:={s with toks:=s.toks+1}) X I hf ⟨a,h⟩
def dO(Z:O8 K C):KitX K (.ref x) (.ref C) (λh=>∃ox od,InstAt h x ox C od) where
 ty:=λ_ _ _ ⟨_,_,I⟩=>I.type
 it:=λ_ _ X _=>by
  have:=Z.mo;unfold mroIn clsIn at this;split at this
  ·rename_i l;intro u v w y k q;unfold isType loadHead;exact Ab<|wpAny_loadPart (k _ _<|X _ _ l)<|Ae q
  ·cases this
 ne:=λh r A s n E X o=>by
  have:=Z.mo;refine Bool.eq_false_iff.mpr λq=>?_;have e:C=r:=Value.ref.inj<|beq_iff_eq.mp q;subst e;unfold mroIn clsIn at this
  split at this
  ·rename_i l;have z:=(X _ _ l).symm.trans o;cases z
  ·cases this
 ca:=λX ⟨_,_,I⟩ k=>zmK Z X I k
end
end L2.MP
namespace L2.MP
open PySem PySem.W
open PySem.Spec PyProof.Rows
structure PlainAt(hp:Pv)(C:KB):Prop where
 ex:∃(nm ql:Str) (N:KB) (bs bm bmB bmN:List IR) (b1:Bool) (sn:List Str) (sub:List IR) (b2:Bool) (b3:Option Bool) (dd:Option KB) (k0 k1 k2 k3 k5:Option IR) (newId B Bn nid initId inN:String) (mN:Str->Option IR),
  ExcBaseFacts Bn newId inN bmN/\bmB.contains (.type Bn)=true/\ExcBaseFacts B nid initId bmB/\OwnTail hp bmB bm/\hp.get? C=some (excClassObj nm ql C N bs bm b1 sn sub b2 b3 dd k0 k1 k2 k3 k5 newId)/\hp.Ns N mN/\mN "__init__"=none
def Mb(t:Str->Str->Option Bool)(c:Str):List D->Option Bool
 |[]=>some false
 |d::ds=>match d with
  |.fn y=>(t c y).bind λb=>if b=true then some true else Mb t c ds
  |_=>none
def Qo(t:Str->Str->Option Bool):GN:=λds st=>match ds with
 |[.er true c _,.fn y]=>(t c y).map λb=>(.bl b,st)
 |[.er true c _,.tup (.fn y::l)]=>(Mb t c (.fn y::l)).map λb=>(.bl b,st)
 |_=>none
def Nt(ok:Str->Bool)(f:Str)(m:ME):ME:=λρ st=>(m ρ st).bind λ(d,s)=>match d with
 |.er true c (some (g,n))=>if g=f/\ok c=true then some (.int n,s)else none
 |_=>none
def Ri(K:Frag)(t:Str->Str->Option Bool):Prop:=∀c y b C D,t c y=some b->KJ K c C->KJ K y D->O8 K C/\kitOne K (.ref C) (.ref D)=some b
def kC(K:Frag)(T:String)(t:Str->Option Bool):Prop:=∀c b C,t c=some b->KJ K c C->O8 K C/\kitOne K (.ref C) (.type T)=some b
def UM(K:Frag)(f:Str)(ok:Str->Bool):Prop:=∀c C,ok c=true->KJ K c C->O8 K C/\findIn K (.ref C) f=some none/\hasDictIn K C=true
variable {X:Cx}{qp:List (KB×Obj)}{σ:L2.St}{H:Hp}{s:Shared}{io:List KB}{st:Hg}{x C:KB}{c:Str}{K:Frag}{t:Str->Str->Option Bool}
def Inv.er{a:Option KB}{φ:Pv->Prop}{o:Obj}{fs:Array IR}(I:Inv X qp σ H s)(f:H x=some (.ext φ))(g:s.heap.get? x=some o)(c:o.cls=.ref C)(d:o.dict=a)(e:o.data=.fields fs):Inv X qp σ (upd H x<|.frz o<|.ext<|Su C x a) s:=by
 have v:Inv X qp σ (upd H x<|.ext<|Su C x a) s:=I.write (x:=x) (e:=x) (h':=s.heap) (t':=s.toks) (by rw[f];exact C6) (.inl rfl) (λb u _ q=>q) ⟨_,g⟩ ⟨⟨o,fs,g,c,d,e⟩,⟨_,g⟩,λE K ⟨w,l,y,r⟩ A=>⟨w,l,A _ y,r⟩⟩;have:=Inv.freeze v (d:=x) (o:=o) KY g (by simp) (by simp) (by simp)<|by simp
 rwa [wN]at this
def bI{v:V}{f:Option (Str×Int)}(I:Inv X qp σ H s)(h:UJ X.K H v c f):∃a C e i,v=.ref a/\KJ X.K c C/\InstAt s.heap a e C i:=by
 cases f with
 |none=>
  obtain⟨a,C,o,rfl,q,r⟩:=h;obtain⟨g,⟨l,fs,g1,u,w,x⟩,_⟩:=I.hok _ _ r;refine⟨a,C,l,none,rfl,q,g1,u,by unfold notCls;rw[x],?_⟩;rw[w];exact C6
 |some p=>
  obtain⟨a,C,o,A,y,rfl,q,r,z⟩:=h;obtain⟨g,⟨l,fs,g1,u,w,x⟩,_⟩:=I.hok _ _ r;obtain⟨g2,_⟩:=I.hok _ _ z;refine⟨a,C,l,some y,rfl,q,g1,u,by unfold notCls;rw[x],?_⟩;rw[w];exact g2
def cH{K:Frag}{c:Str}{C:KB}{t:Str->Str->Option Bool}(T:Ri K t)(a:KJ K c C){io:List KB}:∀{ds:List D}{xs:List V}{us:List IR}{b:Bool},Mb t c ds=some b->Hl K H io xs ds->Vals xs us->kitAny K (.ref C) us=some b
 |[],xs,us,b,e,R,r=>by
  cases e;cases (show xs=[] from R)
  cases r;rfl
 |d::ds,xs,us,b,e,R,r=>by
  obtain⟨x,xs,rfl,f,R⟩:=R;cases r with
  |cons q r=>
   unfold Mb at e;split at e
   ·rename_i y;obtain⟨b1,l,e⟩:=Ht e;obtain⟨D,rfl,o⟩:=f;obtain rfl:=(show _=Aw D from q)
    have hk:=(T c y b1 C D l a o).2;unfold kitAny;rw[hk];cases b1 with
    |true=>cases e;rfl
    |false=>exact cH T a e R r
   ·cases e
def vP(T:Ri X.K t):Kw X (.builtin "isinstance") (Qo t):=by
 rintro qp s σ H xs us Q I r ⟨ds,st,io,d,st',R,S,e,k⟩;unfold Qo at e;split at e
 ·rename_i c f y;obtain⟨b,l,e⟩:=IL e;cases e;obtain⟨v1,v2,rfl,v,w⟩:=R.two;obtain⟨x,A,rfl,E,W⟩:=r.two;obtain⟨a,C,h,i,rfl,u,J⟩:=bI I v.2;obtain⟨D,rfl,j⟩:=w;obtain rfl:=(show x=Aw a from E)
  obtain rfl:=(show A=Aw D from W)
  obtain⟨Z,hk⟩:=T c y b C D l u j;exact kia_one (dO Z) I.kIn ⟨h,i,J⟩ hk (by intro z;cases z) λm=>⟨.bl b,H,I.tok m,rfl,k.now S rfl⟩
 ·rename_i c f y ys;obtain⟨b,l,e⟩:=IL e;cases e;obtain⟨v1,v2,rfl,v,w⟩:=R.two;obtain⟨x,A,rfl,E,W⟩:=r.two;obtain⟨a,C,h,i,rfl,u,J⟩:=bI I v.2;obtain⟨p,zs,rfl,F,q⟩:=w;obtain rfl:=(show x=Aw a from E)
  obtain rfl:=(show A=Aw p from W)
  obtain⟨G,L,⟨o,g,B,n,hd⟩,_⟩:=I.tuple<|Je.of F;obtain⟨oc,M,da,sl⟩:=o;dsimp only at B hd;subst B hd;have Z:O8 X.K C:=by obtain⟨b1,N,_⟩:=Ht (show(t c y).bind _=_ from l);obtain⟨z,U,rfl,Y,_⟩:=q;obtain⟨D,_,j⟩:=Y;exact(T c y b1 C D N u j).1
  exact kia_tup (dO Z) I.kIn ⟨h,i,J⟩ g (cH T u l q L) (by intro z;cases z) λm=>⟨.bl b,H,I.tok m,rfl,k.now S rfl⟩
 ·cases e
variable {fld y:Str}{k:Nat}{e:Re}{p pos:Pos}
section
variable {f:KB}{fd:FuncData}{ps:List Str}{m:ME}
def qZ{ok:Str->Bool}(A:UM X.K fld ok)(he:SE X e m)(z:attributeBase e fld X.env (eval e X.env)=eval e X.env:=by rfl):SE X (.Attribute e fld pos) (Nt ok fld m):=by
 rintro qp s σ H Q I ⟨ρ,st,io,d,st',En,S,i,B⟩;obtain⟨⟨d0,s1⟩,l,f⟩:=Ht i;clear i;dsimp only at f;split at f
 ·rename_i c g n
  split at f
  ·rename_i q;obtain⟨rfl,q⟩:=q;cases f;refine sM z<|HB (he qp s σ H (λv H1=>∃ka,Ext io ka H H1/\Hw X.K H1 (io++ka) st'/\Rep X.K H1 (io++ka) v (.er true c<|some (g,n))) I ⟨ρ,st,io,_,st',En,S,l,λv H1 ka r x F=>⟨ka,r,x,F⟩⟩) ?_;rintro u s2 ⟨v,H1,I1,G,ka,r,x,_,a,C,o,dx,o',rfl,L,M,hd⟩;obtain rfl:=(show u=Aw a from G)
   obtain⟨Z,N,T⟩:=A c C q L;obtain⟨g0,⟨U,fs,g1,Y,d1,l⟩,_⟩:=I1.hok _ _ M;obtain⟨g2,mA,ns,rl⟩:=I1.hok _ _ hd;obtain⟨j,y,lk⟩:=fO ns;have J:InstAt s2.heap a U C (some j):=⟨g1,Y,by unfold notCls;rw[l],by rw[d1];exact y⟩
   obtain⟨w,hw,E⟩:=KI.some_of (v:=.int n) (o:=mA g) (by have:=rl g;simpa[EM]using this);obtain⟨t,rfl⟩:=(show ∃t,w=Er n t from E)
   obtain⟨cd,hc,h⟩:=any_some T;have hf:findObj X.K C (some j) g=some (.value<|.int n t):=by unfold findObj;rw[hc,Aa,N];simp only[Aa,PySem.W.ownOf];rw[if_pos h,lk,hw];rfl
   exact yX Z I1.kIn J hf rfl ⟨.int n,H1,I1.tok _,⟨t,rfl⟩,B _ _ _ r x rfl⟩
  ·cases f
 ·cases f
end
variable {A:Around}{i:Nat}{W:Qqa}
def Vi{M:Model}{E:Qqa}{x:Str}{Q:Unit->Shared->Prop}(I:Inv X qp σ H s)(g:X.N.Nodup)(hi:X.N[i]?=some x)(hk:X.env.scope.names.lookup x=some .local)(h:∀s',Inv X qp (σ.set i none) H s'->Q () s'):
  wpAny M A (do bindName X.env x .none;unbindBehindTheSuite X.env x pos) Q E s:=by
 obtain⟨m,a,B⟩:=id I.loc;have u:(X.env.scope.kind==.class || (X.env.scope.kind==.module&&X.env.locals != X.env.globals))=false:=by rw[I.ok.kind];rfl
 have hiσ:i<σ.length:=by rw[I.len];exact(KM.mp hi).1
 have cne:=I.cne;obtain⟨oL,_,_,F,_⟩:=id a;refine wpAny_nameGoes_keeps hk a u λG v K l=>?_;have far:∀{b:KB}{o:Obj},X.s₀.heap.get? b=some o->b≠X.env.locals:=λe=>Au<|Ay (An e) I.ok.above;have J:Inv X qp (σ.set i none) H {s with heap:=G}:=by
  refine⟨I.ok,I.os,I.bare,⟨λb o e n W w=>(l.2 b<|far e).trans (I.base.keep b o e n W w),λb o e n W w=>?_,I.base.free,λb o e w=>?_,I.base.tups,I.base.frzs,I.base.tbls⟩,⟨_,K,λj y L r C S=>?_⟩,λy c e=>?_,I.free,I.freeC,λp T=>?_,λb ob e=>?_,by simpa using I.len⟩
  ·obtain⟨U,r⟩:=I.base.slot b o e n W w;exact⟨U,(l.2 b<|far e).trans r⟩
  ·obtain⟨Y,r⟩:=I.base.there b o e w;exact⟨Y,(l.2 b<|far e).trans r⟩
  ·by_cases hj:j=i
   ·subst hj;rw[Cr hiσ]at C;cases C
   ·rw[AG (A3 hj)]at C;obtain⟨Z,r',q⟩:=B j y L r C S;refine⟨Z,r',?_⟩
    rcases q with⟨k,e⟩|⟨k,c,e,z⟩
    ·refine .inl ⟨k,?_⟩;have ny:y≠x:=λe=>hj<|Yb g r<|e ▸ hi;simp[ny,e]
    exact .inr ⟨k,c,e,z.sameBut l<|cne y c e⟩
  ·obtain⟨f,z⟩:=I.cell y c e;exact⟨f,z.sameBut l<|cne y c e⟩
  ·obtain⟨e,n,ne,nf,d⟩:=I.pin p T;exact⟨(l.2 p.1 ne).trans e,n,ne,nf,d⟩
  ·refine(I.hok b ob e).stay (λc f hc q=>(l.2 c ?_).trans q) (λ_ q=>q) λ_ _ q=>q;rintro rfl
   rcases hc with rfl|hc
   ·rw[I.free]at e;cases e
   rw[I.free]at hc;cases hc
 exact h _<|J.tok _
def Wq(X:Cx)(x:KB)(W:Qqa):Cx:={X with A:=X.A.mark (some<|.ref x),calm:=false,xe:=W}
def nB(I:Inv X qp σ H s):Inv (Wq X x W) qp σ H s:=⟨⟨I.ok.mod,I.ok.kind,I.ok.glob,I.ok.blt,I.ok.above,I.ok.inj,I.ok.has,I.ok.cab,λz=>(by cases z),I.ok.frames,I.ok.stk,I.ok.exf,I.ok.bs,I.ok.bsz,I.ok.noex,I.ok.exfs,I.ok.funs,I.ok.frf⟩,I.os,I.bare,I.base,I.loc,I.cell,I.free,I.freeC,I.pin,I.hok,I.len⟩
def Va(ok:X.Ok)(I:Inv (Wq X x W) qp σ H s):Inv X qp σ H s:=⟨ok,I.os,I.bare,I.base,I.loc,I.cell,I.free,I.freeC,I.pin,I.hok,I.len⟩
variable {w:UF}{st0:W1}{more:List W1}
section
variable {prog:P3}{E:Qqa}{env:Env}
def zmJ{t:Re}{n:Str}{rest:List ExceptHandler}{Q:Flow->Shared->Prop}(h:wpAny (KF prog w) (A.mark<|some<|.ref x) (eval t env) (λc s1=>c=.ref C/\Looks (KF prog w) s1.heap (excMatches (.ref x)<|.ref C) true/\wpAny (KF prog w) (A.mark<|some<|.ref x) (setFlight (.ref x) none) (λ_ s2=>
     wpAny (KF prog w) (A.mark<|some<|.ref x) (storeName env n<|.ref x) (λ_ s3=>
      wpAny (KF prog w) (A.mark<|some<|.ref x) (execs (st0::more) env) (λf s4=>wpAny (KF prog w) A (do bindName env n .none;unbindBehindTheSuite env n pos) (λ_ s5=>Q f s5) E s4)
       (AsSuiteRaised (KF prog w) (A.mark<|some<|.ref x) env n pos<|PR prog w A env x E) s3) (PR prog w A env x E) s2) (PR prog w A env x E) s1) (PR prog w A env x E) s):
  wpAny (KF prog w) A (handleBy (.ref x) env (.ExceptHandler (some t) (some n) (st0::more) pos::rest)) Q E s:=by
 refine wpAny_handleBy_cons (codeAny_handlers_test<|AZ h (λc s1 z=>?_) λ_ _ z=>z) (by intro q;cases q);obtain⟨rfl,L,k⟩:=z;exact L.here<|codeAny_handlers_suite_as k
end
def LA(n:Int):D:=.er false "" (some ("",n))
def Nz(P:P3)(w:UF)(K:Frag)(a:Str->Option IR)(base:Pv)(k:Nat)(x:Str)(n:Nat)(c fld:Str)(g:GN):Prop:=∃C e fd i,KJ K c C/\a c=some (.ref C)/\(∀h:Pv,K.In h->JO h C)/\Ja P w K a base (JL P w C fld) k e fd i (Zk K LA n g)/\a x=some (.ref e)/\keepIn K (.ref e)=true/\Binds K fd i []
def GX(j:Nat):Fl->Fl
 |.nx ρ=>.nx<|ρ.set j none
 |.bk ρ=>.bk<|ρ.set j none
 |.ct ρ=>.ct<|ρ.set j none
 |.rt d=>.rt d
def Sx(a:Str)(g:GN)(h:MA)(i j:Nat)(c fld:Str)(m:MS):MS:=λρ st=>(h ρ st).bind λ(ds,s1)=>(g ds s1).bind λ(d,s2)=>match d with
 |.er false _ (some (_,n))=>(m (ρ.set j<|some<|.er true c<|some (fld,n)) s2).map λ(f,s3)=>(GX j f,s3)
 |.er false _ none=>none
 |_=>some (.nx (ρ.set i<|some<|.tup [.str a,d]),s2)
variable {o:HO}{kb:List KB}{st':Hg}{P:P3}{dx:KB}
section
variable {H' H1:Hp}{ka:List KB}
def Hz.unset{ρ:HX}(i:Nat)(h:Hz K H io σ ρ):Hz K H io (σ.set i none) (ρ.set i none):=by
 refine⟨by rw[Co,Co];exact h.len,λj e q=>?_⟩
 by_cases hij:i=j
 ·subst hij;rw[Da]at q
  split at q
  ·split at q
   ·cases q
   ·cases q
  exact absurd rfl ‹_›
 rw[AG hij]at q;obtain⟨v,c,r⟩:=h.at_ j e q;exact⟨v,by rw[AG hij];exact c,r⟩
def dX{p:KB}(E:Ext io ka H H')(a:H p=none):Ext io ka H (upd H' p o):=⟨λb u h n=>by rw[HW (Ka h a)];exact E.keep b u h n,E.fresh,λb u v h=>by rw[HW (Ka h a)];exact E.frz b u v h⟩
def eA{p:KB}{o u:HO}(S:Hw K H io st)(f:p∉io)(g:H p=some u)(h:∀xs,u≠.tup xs)(j:∀o w,u≠.frz o w):Hw K (upd H p o) io st:=by
 have ne:∀{b:KB}{v:HO},H b=some v->v≠u->b≠p:=λ{b v} q e z=>by subst z;rw[g]at q;exact e (As q).symm
 have T:Kp H (upd H p o):=⟨λa xs q=>by rw[HW (ne q λz=>h xs z.symm)];exact q,λa v w q=>by rw[HW (ne q λz=>j v w z.symm)];exact q⟩
 refine⟨S.len,S.nd,λn a ob c i=>?_⟩;have:=OR.mono (ka:=[]) T (HW λz=>f (by rw[<-z];exact AD c))<|S.ob n a ob c i
 rwa [Am]at this
def oA{p:KB}{fs:List (Str×V)}(S:Hw K H io st)(a:H p=some (.xd fs)):p∉io:=λhm=>by
 obtain⟨n,c,e⟩:=CM hm;have i:io[n]?=some p:=by rw[Ap c,e]
 have l:n<st.length:=by rw[<-S.len];exact c
 have:=S.ob n p _ i<|Ap l;generalize st[n]=o at this
 cases o with
 |lst ds=>obtain⟨xs,q,_⟩:=this;rw[a]at q;cases q
 |fz ds=>obtain⟨ob,xs,q,_⟩:=this;rw[a]at q;cases q
 |dk ds=>obtain⟨xs,q,_⟩:=this;rw[a]at q;cases q
 |dt ds=>obtain⟨xs,q,_⟩:=this;rw[a]at q;cases q
 |fk ds=>obtain⟨ob,xs,q,_⟩:=this;rw[a]at q;cases q
 |ft ds=>obtain⟨ob,xs,q,_⟩:=this;rw[a]at q;cases q
 |ob C fs=>obtain⟨dx,xs,q,_⟩:=this;rw[a]at q;cases q
 |sz n=>have q:H p=_:=this;rw[a]at q;cases q
 |dz=>have q:H p=_:=this;rw[a]at q;cases q
def vG{h:Pv}{p:KB}(S:Hw K H io st)(A:JX P w H h)(a:H p=some (.ext<|L6 C p dx)):p∉io:=λhm=>by
 obtain⟨n,c,e⟩:=CM hm;have i:io[n]?=some p:=by rw[Ap c,e]
 have l:n<st.length:=by rw[<-S.len];exact c
 have:=S.ob n p _ i<|Ap l;obtain⟨⟨ws,g⟩,_,_⟩:=A p _ a;generalize st[n]=o at this
 cases o with
 |lst ds=>obtain⟨xs,q,_⟩:=this;rw[a]at q;cases q
 |fz ds=>obtain⟨ob,xs,q,_⟩:=this;rw[a]at q;cases q
 |dk ds=>obtain⟨xs,q,_⟩:=this;rw[a]at q;cases q
 |dt ds=>obtain⟨xs,q,_⟩:=this;rw[a]at q;cases q
 |fk ds=>obtain⟨ob,xs,q,_⟩:=this;rw[a]at q;cases q
 |ft ds=>obtain⟨ob,xs,q,_⟩:=this;rw[a]at q;cases q
 |ob C fs=>obtain⟨dx,xs,q,_⟩:=this;rw[a]at q;cases q
 |sz n=>
  obtain⟨⟨o,r,s,t,g2,x,_⟩,_,_⟩:=A p _ this;rw[g]at g2;cases g2;cases x.1
 |dz=>
  obtain⟨⟨o,r,s,g2,x,_⟩,_,_⟩:=A p _ this;rw[g]at g2;cases g2;cases x.1
end
variable {j:Nat}
def wR{H:Hp}{N:Ends}{f:Fl}(w:Wn K io H st' N (GX j f)):Wn K io H st' {nx:=λσ H=>N.nx (σ.set j none) H,rt:=N.rt,bk:=λσ H=>N.bk (σ.set j none) H,ct:=λσ H=>N.ct (σ.set j none) H} f:=by
 cases f with
 |nx ρ=>exact λσ' c ka e i E'=>w (σ'.set j none) c ka e i<|E'.unset j
 |bk ρ=>exact λσ' c ka e i E'=>w (σ'.set j none) c ka e i<|E'.unset j
 |ct ρ=>exact λσ' c ka e i E'=>w (σ'.set j none) c ka e i<|E'.unset j
 |rt d=>exact w
variable {E:XK}{n:Nat}{g:Str}{gg:GN}{es:List Re}{mm:MA}{cpos px:Pos}
section
variable {xn nm c0:Str}{mh:MS}{epos np hpos cp tp apos:Pos}{kk:Nat}{T:KB}
def zmQ{B:KB}{s' h:Shared}{H2 a:Hp}{s2:Hg}{m:Int}(Th:MN X.prog X.w C fld X.stack H2 s E x dx B m a s')(I2:Inv X qp σ H2 s)(I7:Inv X qp σ a h)(F:Ext io kb H2 a)(q:Hw X.K a (io++kb) s2)(G:KJ X.K c C):
  ∃f,Inv X qp σ f h/\Ext io kb H2 f/\Hw X.K f (io++kb) s2/\Rep X.K f (io++kb) (.ref x) (.er true c<|some (fld,m)):=by
 have e:=Th.at_;have hd:=Th.dict;have i:dx≠x:=OA hd e (by intro z;cases z);obtain⟨⟨ws,r⟩,_,_⟩:=I7.hok x _ e;obtain⟨Q,ns,_⟩:=I7.hok dx _ hd;obtain⟨j,l,_⟩:=fO ns;have u:H2 x=none:=I2.hok.fresh Th.new.1;have v:H2 dx=none:=I2.hok.fresh Th.new.2.2;have y:=Inv.er I7 e r rfl rfl rfl;have A:=Inv.freeze y (d:=dx) (o:=j) (by rw[HW i];exact hd) l (by simp) (by simp) (by simp) (by simp);have n:=eA (p:=x) (o:=.frz {cls:=.ref C,dict:=some dx,data:=.fields ws} (.ext<|Su C x<|some dx)) q (vG q I7.hok e) e (by simp) (by simp);have g:upd a x (.frz {cls:=.ref C,dict:=some dx,data:=.fields ws}<|.ext<|Su C x<|some dx) dx=some (.xd [(fld,.int m)]):=by rw[HW i];exact hd
 have H:=eA (p:=dx) (o:=.frz j (.xd [(fld,.int m)])) n (oA n g) g (by simp) (by simp);refine⟨_,A,dX (dX F u) v,H,rfl,x,C,{cls:=.ref C,dict:=some dx,data:=.fields ws},dx,j,rfl,G,?_,KY⟩;rw[HW (A3 i),KY]
def wZ(D:Nz X.prog X.w X.K X.mg X.base k g n c fld gg)(hs:X.stack=X.env::X.outer)(hf:X.env.frame=some X.env.locals)(hr:HP k X.A)(hg:Gl X g)(ha:SA X.nox (e::es) mm)(hl:IZ n mm)(hgy:Gl X y) (hmy:X.mg y=some (.ref T)) (hx:∀C,KJ X.K c C->exmOne X.K (.ref C) (.ref T)=some true) (Z:X.N.Nodup) (hi:X.N[i]?=some xn) (hj:X.N[j]?=some nm) (hil:X.env.scope.names.lookup xn=some .local) (B:X.env.scope.names.lookup nm=some .local) (hh:∀x W,Mc (Wq X x W) (st0::more) mh)(hdy:(y==("__debug__":Str))=false:=by decide) (hdb:(g==("__debug__":Str))=false:=by decide) (he:Qqb X.env e es:=by rfl) (hpl:Qqc cpos es X.env:=by rfl)(hst:starEach [.Constant (.str c0) kk cp,.Call (.Name g p) (e::es) [] cpos] X.env=[(false,eval (.Constant (.str c0) kk cp) X.env),(false,eval (.Call (.Name g p) (e::es) [] cpos) X.env)]:=by rfl){x1:Nat} (hsw:swapsWith (.Tuple [.Constant (.str c0) kk cp,.Call (.Name g p) (e::es) [] cpos] x1 tp) (some<|.Name xn px) apos.line X.env=pure false:=by rfl):
  SS X (.Try [.Assign [.Name xn px] (.Tuple [.Constant (.str c0) kk cp,.Call (.Name g p) (e::es) [] cpos] x1 tp) apos] [.ExceptHandler (some<|.Name y np) (some nm) (st0::more) hpos] [] [] pos) (Sx c0 gg mm i j c fld mh):=by
 obtain⟨C,fa,fd,ps,hC,hmC,hR,F,hm,hk,hb⟩:=D;intro qp s σ H N I h;obtain⟨ρ,st,io,f,st',En,S,e0,w⟩:=Mi.mp h;obtain⟨⟨ds,s1⟩,e1,e3⟩:=Ht e0;obtain⟨⟨d,s2⟩,e2,e4⟩:=Ht e3;clear e0 e3;dsimp only at e4;refine wpAny_Try_except (D7<|FL (Fk ?_) hsw);rw[hst];show wpAny _ _ (spliced ((false,eval (.Constant (.str c0) kk cp) X.env)::[(false,eval (.Call (.Name g p) (e::es) [] cpos) X.env)])) _ _ s;refine DM (AZ (aU (X:=X.nox) qp s σ H (λv H1=>v=.str c0/\H1=H) (I.wish _) ⟨rfl,rfl⟩) (λu s3 z=>?_) λ_ _ z=>z.elim);obtain⟨v0,H1,I1,rv,rfl,rfl⟩:=z;refine DM (BS<|Vj I1.unwish hg hm ?_ hdb);refine callWith_K (h₀:=X.base) I.ok.mod.kin hk (AZ (ha cpos qp s3 σ H1 (λvs H2=>∃ka,Ext io ka H1 H2/\Hw X.K H2 (io++ka) s1/\Hl X.K H2 (io++ka) vs ds) I1 ⟨ρ,st,io,ds,s1,En,S,e1,λvs H2 ka X2 L R2=>⟨ka,X2,L,R2⟩⟩) (λus s4 z=>?_) λ_ _ z=>z.elim) he hpl;obtain⟨vs,H2,I2,r,ka,X2,L,R2⟩:=z;refine⟨I2.unwish.kIn,AZ (xR (W:=λe s₁=>wpAny (KF X.prog X.w) X.A (noteFrame e X.env) (λ_ s₂=>wpAny (KF X.prog X.w) X.A (setFlight e none) (λ_ s₃=>wpAny (KF X.prog X.w) X.A (handleBy e X.env [.ExceptHandler (some<|.Name y np) (some nm) (st0::more) hpos]) (SP X qp N) X.xe s₃) X.xe s₂) X.xe s₁) (Q:=λv l=>∃kb,Ext (io++ka) kb H2 l/\Hw X.K l (io++ka++kb) s2/\Rep X.K l (io++ka++kb) v d) (E:=λv _ l=>∃n,v=.int n 0/\d=LA n/\∃kb,Ext (io++ka) kb H2 l/\Hw X.K l (io++ka++kb) s2) F hr hb I2.unwish r
  ⟨ds,s1,io++ka,d,s2,by rw[R2.length];exact hl _ _ _ _ e1,R2,L,e2,λv l kb X3 G R3=>⟨kb,X3,G,R3⟩,λi ed l kb X3 G=>⟨i,rfl,ed,kb,X3,G⟩⟩ λe s' z=>?_) (λu2 s5 z=>?_) λ_ _ z=>z⟩
 ·obtain⟨x,dx,T',m,l,rfl,Th⟩:=z;obtain⟨m',em,ed,kb,X3,G⟩:=Th.wish;cases em;subst ed;obtain⟨⟨f1,s8⟩,e5,e6⟩:=IL e4;cases e6;refine landed hs hf I2.unwish Th λs6 I6 ra _=>zmJ (C:=T) ?_;refine CJ I6.ok.kind hgy (El (by rw[I6.ok.glob];exact I6.mod.glob.keeps I6.bk) hmy ?_) hdy;obtain⟨⟨ws,g1⟩,_,_⟩:=I6.hok x _ Th.at_;refine⟨rfl,exm_one I6.kIn ((Looks.ld g1).andThen .now)<|hx C hC,ra _ _ _ _ λs7 I7=>?_⟩;obtain⟨H4,I8,X4,S4,R4⟩:=zmQ Th I2.unwish I7 X3 G hC;refine O3 I8 Z hj (.inl B) (v:=.ref x) rfl (λs9 I9=>?_)<|.inr B;have E4:Hz X.K H4 (io++ka++kb) (σ.set j<|some<|.ref x) (ρ.set j<|some<|.er true c<|some (fld,m)):=((En.ext S X2).ext L X4).set j R4;refine HB (hh x _ qp s9 _ H4 {nx:=λσ H=>N.nx (σ.set j none) H,rt:=N.rt,bk:=λσ H=>N.bk (σ.set j none) H,ct:=λσ H=>N.ct (σ.set j none) H} (nB I9)<|Pj E4 S4 e5<|wR<|(w.on X2 L).on X4 S4) λf s' z=>?_
  cases f with
  |next=>obtain⟨σ',M,U,q⟩:=z;exact Vi (Va I.ok U) Z hj B λY J=>⟨_,M,J,q⟩
  |brk=>obtain⟨σ',M,U,q⟩:=z;exact Vi (Va I.ok U) Z hj B λY J=>⟨_,M,J,q⟩
  |cont=>obtain⟨σ',M,U,q⟩:=z;exact Vi (Va I.ok U) Z hj B λY J=>⟨_,M,J,q⟩
  |ret u=>obtain⟨v,σ',M,U,r,q⟩:=z;exact Vi (Va I.ok U) Z hj B λY J=>⟨v,_,M,J,r,q⟩
 ·obtain⟨v,l,I3,rv2,kb,X3,G,R3⟩:=z;refine FN ⟨by show(2:Nat)<=sizeLine;rw[CL];omega,?_⟩;have hf3:l s5.heap.objs.size=none:=I3.hok.fresh<|Ai _;have I4:=I3.laid (a:=s5.heap.objs.size) (o:=.tup [.str c0,v]) (h':=s5.heap.push {cls:=.type "tuple",data:=.seq #[u,u2]}) (t':=s5.toks) (λb q z=>Ag _ z) (Ai _) ⟨by show(2:Nat)<=sizeLine;rw[CL];omega,[u,u2],.cons rv<|.cons rv2 .nil,⟨_,Av _ rfl,rfl,rfl,_,rfl⟩⟩;obtain⟨X5,S5⟩:=Xv (p:=s5.heap.objs.size) (o:=.tup [.str c0,v]) G hf3;have X35:=X3.trans G X5;have S5':Hw X.K (upd l s5.heap.objs.size<|.tup [.str c0,v]) (io++ka++(kb++[])) s2:=by rw[<-Aq];exact S5
  refine O3 I4 Z hi (.inl hil) (v:=.ref s5.heap.objs.size) rfl (λs6 I6=>?_)<|.inr hil;refine Cn<|Cn ⟨_,_,I6,?_⟩;have R5:Rep X.K (upd l s5.heap.objs.size<|.tup [.str c0,v]) (io++ka++(kb++[])) (.ref s5.heap.objs.size) (.tup [.str c0,d]):=by have q:=R3.ext G X5;rw[Aq (io++ka)]at q;exact⟨_,_,rfl,KY,.cons rfl<|.cons q .nil⟩
  have e7:f=.nx (ρ.set i<|some<|.tup [.str c0,d])/\st'=s2:=by
   split at e4
   ·exact absurd R3.1<|by decide
   ·cases e4
   ·cases e4;exact⟨rfl,rfl⟩
  obtain⟨rfl,rfl⟩:=e7;have w2:=(w.on X2 L).on X35 S5';exact w2 _ _ [] Ext.refl S5'.nil (by rw[Am];exact((En.ext S X2).ext L X35).set i R5)
end
variable {f qual:Str}{N:List Str}{mg:Str->Option IR}{base:Pv}{scope:Scope}{fa:KB}{cd:IR}{outer:List Env}{s0:Shared}{H0:Hp}
def uR:Passes (JL P w C f) (HM (JL P w C f) P w K mg base N qual scope fa cd A outer s0 H0 E) E:=by intro qp σ H s e g I z;obtain⟨x,dx,T,n,i,rfl,Th⟩:=z;show wpAny (KF P w) _ (leaving _<|.ref x) _ _ g;unfold leaving;refine Ab<|landed (X:=HM (JL P w C f) P w K mg base N qual scope fa cd A outer s0 H0 E) rfl rfl I Th λs2 I2 v c=>?_;obtain⟨j,ws,l,o,c,r,u⟩:=c;have sz:s0.heap.objs.size<=s.heap.objs.size:=I.sz;exact⟨x,dx,j,n,i,rfl,⟨Th.at_,Th.dict,⟨ws,l,o,c⟩,r,⟨Ar sz Th.new.1,Ar sz u,Ar sz Th.new.2.2⟩,I2.os,I2.bare,I2.base,I2.hok,Th.wish⟩⟩
section
variable {c:Re}{body:List W1}{mt:MT}{ms:MS}{er:Int->D}{z:Int->Hp->Prop}
def zL(F:PassesOwn (KF X.prog X.w) X.A X.env X.xe)(G:SB X c mt)(I:PZ X er z body ms):SX X er z (.While c body [] pos) (J3 mt ms n):=PS.imp (xI F G I) λN σ H h=>by
 obtain⟨ρ,st,io,f,st',E,S,e,w⟩:=h;refine⟨λk σ2 H2=>∃ρ2 s2 i,Ext io i H H2/\Hw X.K H2 (io++i) s2/\Hz X.K H2 (io++i) σ2 ρ2/\J3 mt ms k ρ2 s2=some (f,st'),⟨n,ρ,st,[],Ext.refl,S.nil,by rw[Am];exact E,e⟩,?_⟩;rintro k σ2 H2 ⟨ρ2,s2,i,X2,u,E2,g⟩;have y:=w.on X2 u
 cases k with
 |zero=>cases g
 |succ k=>
  obtain⟨⟨b,s3⟩,J,g⟩:=Ht g;refine⟨ρ2,s2,io++i,b,s3,E2,u,J,λQ r j s=>?_⟩;have X23:=X2.trans u j;have W:Hw X.K Q (io++(i++r)) s3:=by rw[<-Aq];exact s
  dsimp only;cases b with
  |false=>
   rw[if_neg (by decide)];have g:some (Fl.nx ρ2,s3)=some (f,st'):=g;cases g;exact y.w σ2 Q r j s<|E2.ext u j
  |true=>
   rw[if_pos rfl];obtain⟨⟨f4,s4⟩,L,g⟩:=Ht (show(ms ρ2 s3).bind _=some (f,st') from g);refine⟨λσ5 C=>∃ρ5 s5 l,Ext io l H C/\Hw X.K C (io++l) s5/\Hz X.K C (io++l) σ5 ρ5/\J3 mt ms k ρ5 s5=some (f,st'),λσ5 C M=>⟨k,F5 k,M⟩,?_⟩;refine⟨_,_,_,f4,s4,E2.ext u j,s,L,?_⟩;have fin:∀{ρ7:HX},J3 mt ms k ρ7 s4=some (f,st')->∀σ7 o v,Ext (io++i++r) v Q o->Hw X.K o (io++i++r++v) s4->Hz X.K o (io++i++r++v) σ7 ρ7 ->
     ∃ρ5 s5 l,Ext io l H o/\Hw X.K o (io++l) s5/\Hz X.K o (io++l) σ7 ρ5/\J3 mt ms k ρ5 s5=some (f,st'):=by
    intro ρ7 T σ7 o v a m B;rw[Aq io]at a;rw[Aq io,Aq io]at m B;exact⟨ρ7,s4,(i++r)++v,X23.trans W a,m,B,T⟩
   cases f4 with
   |nx ρ7=>exact⟨λn q=>(by cases q),fin g⟩
   |ct ρ7=>exact⟨λn q=>(by cases q),fin g⟩
   |bk ρ7=>
    cases g;exact⟨λn q=>(by cases q),(y.on j s).w⟩
   |rt U=>
    cases g;exact⟨(y.on j s).x,(y.on j s).w⟩
end
def Pa(g:GN)(mm:MA)(i:Nat):MS:=λρ st=>(mm ρ st).bind λ(ds,s1)=>(g ds s1).bind λ(d,s2)=>match d with
 |.er false _ _=>some (.rt d,s2)
 |_=>some (.nx (ρ.set i<|some d),s2)
section
variable {x:Str}
def TB(D:Nz P w K mg base k g n c f gg)(z:KJ K c C)(B:HP k (HM (JL P w C f) P w K mg base N qual scope fa cd A outer s0 H0 E).A)(G:SA (HM (JL P w C f) P w K mg base N qual scope fa cd A outer s0 H0 E) (e::es) mm)(I:IZ n mm)(J:N.Nodup) (hi:N[i]?=some x) (L:Loc scope x)(T:Gl (HM (JL P w C f) P w K mg base N qual scope fa cd A outer s0 H0 E) g:=by rfl) (m:(g==("__debug__":Str))=false:=by decide)(he:starEach (e::es) (HM (JL P w C f) P w K mg base N qual scope fa cd A outer s0 H0 E).env=(false,eval e (HM (JL P w C f) P w K mg base N qual scope fa cd A outer s0 H0 E).env)::starEach es (HM (JL P w C f) P w K mg base N qual scope fa cd A outer s0 H0 E).env:=by rfl) (q:(backTo cpos<|starEach es (HM (JL P w C f) P w K mg base N qual scope fa cd A outer s0 H0 E).env).any (·.1)=false:=by rfl)(U:swapsWith (.Call (.Name g p) (e::es) [] cpos) (some<|.Name x px) pos.line (HM (JL P w C f) P w K mg base N qual scope fa cd A outer s0 H0 E).env=pure false:=by rfl) (hf:(HM (JL P w C f) P w K mg base N qual scope fa cd A outer s0 H0 E).fn x=true\/scope.names.lookup x=some .local:=by first|exact .inl rfl|exact .inr rfl|assumption):
  SX (HM (JL P w C f) P w K mg base N qual scope fa cd A outer s0 H0 E) LA (λi a=>E (.int i 0) none a) (.Assign [.Name x px] (.Call (.Name g p) (e::es) [] cpos) pos) (Pa gg mm i):=by
 obtain⟨Y,ga,fd,ps,o,_,_,F,hm,hk,Z⟩:=D;have eC:Y=C:=by unfold KJ at z o;rw[z]at o;cases o;rfl
 subst eC;refine PS.imp (aW J hi L (bX F B T hm hk Z .nil uR G m he q) U hf) λM σ H h=>?_;obtain⟨ρ,st,io,fl,st',En,S,l,Q⟩:=h;obtain⟨⟨ds,s1⟩,W,l⟩:=Ht l;obtain⟨⟨d,s2⟩,e3,l⟩:=Ht l;refine⟨ρ,st,io,ds,s1,En,S,W,λvs H1 ka u r R1=>⟨ds,s1,io++ka,d,s2,by rw[Am,R1.length];exact I _ _ _ _ W,by rw[Am];exact R1,r,e3,λv a kb s y X=>?_,λj ed a kb s y=>?_⟩⟩
 ·dsimp only at l
  split at l
  ·exact absurd X.1<|by decide
  ·cases l;exact(Q.on u r).w _ a kb s y<|((En.ext S u).ext r s).set i X
 subst ed;cases l;exact(Q.on u r).x j rfl a kb s y
end
def pO{st:W1}{m:MS}(h:SS X.nox st m):SS X st m:=λqp s σ H N I q=>AZ (h qp s σ H N (I.wish _) q) (λ_ _ z=>SP.unwish z) λ_ _ z=>z.elim
def ZK(K:Frag)(n:Nat)(t:O6):TG:=λv σ H Q=>∃a xs,v=.ref a/\Kc K H a xs/\xs.length=n/\t xs σ H Q
def Nv(n:Nat)(h:Ot):MG:=λd ρ st=>match d with
 |.ref k=>match st[k]? with
  |some (.lst ds)=>if ds.length=n then h ds ρ st else none
  |_=>none
 |_=>none
section
variable {mgs:Ot}
def qE{t:O6}(z:X.calm=true)(h:Om X es t)(B:(assignEach es X.env).length=n:=by rfl)(q:(assignEach es X.env).findIdx? (·.1)=none:=by rfl):PG X (.Tuple es k pos) (ZK X.K n t):=by
 intro qp s σ H v u Q I r hw;obtain⟨a,xs,i,j,l,hw⟩:=hw;subst i;cases r;obtain⟨f,g,⟨o,m,e,c,E,w⟩,_⟩:=I.list j;have x:(assignEach es X.env).length=f.toArray.size:=by simp[B,<-l,g.length]
 rw[assign_Tuple];refine Ab<|Bz ?_;unfold unpack;rw[x,q];refine Ab<|A7<|kun_itemsOf (I.ok.hd z) ⟨o,e,c,m,w⟩ λy A=>?_;have C:Inv X qp σ H {s with heap:=y}:=I.kept (t':=s.toks) λb o e=>A b o (Au<|An e) e;exact h qp _ σ H xs _ Q C (by simpa using g) hw
def uI(m:X.calm=true)(h:UH X es mgs)(q:(assignEach es X.env).length=n:=by rfl)(a:(assignEach es X.env).findIdx? (·.1)=none:=by rfl):SG X (.Tuple es k pos) (Nv n mgs):=
 PG.imp (qE m h q a) <| by
  rintro v σ H Q ⟨d,ρ,st,io,ρ',st',R,E,S,e,k⟩;unfold Nv at e;split at e
  ·rename_i j
   split at e
   ·rename_i ds c;obtain⟨f,e⟩:=JJ e;obtain⟨p,rfl,g⟩:=R;obtain⟨i,l,rs⟩:=S.ob j p _ g c;exact⟨p,i,rfl,.inl<|.inl l,by rw[rs.length];exact f,ds,ρ,st,io,ρ',st',rs,E,S,e,k⟩
   ·cases e
  ·cases e
end
end L2.MP
namespace L2.MP.Hb
open PySem L2.MP
end L2.MP.Hb
namespace L2.MP
open PySem
end L2.MP
namespace L2.MP.Hb
open PySem L2.MP
end L2.MP.Hb
namespace L2.MP.Hd
open PySem L2.MP
end L2.MP.Hd
namespace L2.MP
open PySem
@[simp] theorem zvb(n:Nat)(ds:List D):Jc n ds=ds.map some++Br (n-ds.length) none:=rfl
@[simp] theorem zud(ρ:HX)(n:Nat)(l:List Nat):HG ρ n l=Br n none++l.map λ(j:Nat)=>(ρ[j]?).join:=rfl
variable {a b:Int}{st:Hg}
@[simp] theorem zvj:Iv (.int a) (.int b) st=some (.bl (decide (a<b)),st):=rfl
@[simp] theorem zvk:Ik (.int a) (.int b) st=some (.bl (decide (a<=b)),st):=rfl
@[simp] theorem zvn:Jg (.int a) (.int b) st=some (.bl (decide (b<a)),st):=rfl
@[simp] theorem zvo:JW (.int a) (.int b) st=some (.bl (decide (b<=a)),st):=rfl
@[simp] theorem zvm:HV [.int a] st=some (.int a,st):=rfl
@[simp] theorem zvl{b:Bool}:HV [.bl b] st=some (.int (if b then 1 else 0),st):=rfl
end L2.MP
namespace L2.MP.Hd
open PySem L2.MP
open L2.MP.Hn (QH)
end L2.MP.Hd
namespace L2.MP
open PySem
variable {α:Type}
def WE{W:Wk}{g:MG}{c:MT}{m:ME}{α:Type}{f h:α->D}{R:HX->Prop}:∀{as:List α}{ρ:HX}{st:Hg},R ρ->(∀s,Gr st s->walked W s=true)->(∀a∈as,∀ρ s,R ρ->Gr st s->∃ρ1 s1,g (f a) ρ s=some (ρ1,s)/\c ρ1 s=some (true,s)/\m ρ1 s=some (h a,s1)/\Gr s s1/\R ρ1) ->
  ∃s',Kq W g c m (as.map f) ρ st=some (as.map h,s')/\Gr st s'
 |[],ρ,st,r,i,_=>⟨st,by unfold Kq;rw[B8];simp only[i st (Gr.refl st),if_true,B8],Gr.refl st⟩
 |a::as,ρ,st,r,i,j=>by obtain⟨ρ1,s1,n,B,C,g1,F⟩:=j a Al ρ st r<|Gr.refl st;obtain⟨s',e,l⟩:=WE (W:=W) (g:=g) (c:=c) (m:=m) (f:=f) (h:=h) (R:=R) (as:=as) (st:=s1) F (λs q=>i s (g1.trans q)) λb o ρ s q z=>j b (Aj _ o) ρ s q<|g1.trans z;refine⟨s',?_,g1.trans l⟩;rw[Ax];unfold Kq;rw[if_pos (i st<|Gr.refl st),n];simp only[Aa,B,if_true,C,e,Ak,Ax]
variable {st:Hg}{l:Nat}{z:Str}{ss:List Str}
def Xs(a:st[l]?=some (.lst<|ss.map D.str))(c:(ss.map (·.length)).sum+ss.length*z.length<=16777216):O9 (.str z) [.ref l] st=some (.str (Txt.join z ss),st):=by unfold O9;simp only[Iw,a,Aa];rw[YE];simp only[Aa];rw[if_pos (decide_eq_true c)]
variable {c:Nat}
def W8{α:Type}{f:α->Nat}{c:Nat}:∀{l:List α},(∀x∈l,f x<=c)->(l.map f).sum<=l.length*c
 |[],_=>by simp
 |x::l,h=>by have a:=h x Al;have r:=W8 (l:=l) λy o=>h y<|Aj _ o;rw[Ax,GC,AB,Nat.succ_mul];omega
def X0{n:Nat}{ss:List Str}(e:st[l]?=some (.lst<|ss.map D.str))(g:∀x∈ss,x.length<=c)(h:ss.length<=n)(i:z.length<=1)(j:n*c+n<=16777216):O9 (.str z) [.ref l] st=some (.str (Txt.join z ss),st):=by refine Xs e ?_;have a:=W8 (f:=λx:Str=>x.length) g;have b:ss.length*c<=n*c:=CI c h;have d:ss.length*z.length<=ss.length*1:=DJ _ i;omega
variable {i:Int}
def zms(h0:0<=i)(a:i<=1000000):Xo i=true:=by
 unfold Xo;apply decide_eq_true;by_cases h:i.natAbs=0
 ·rw[h];decide
 have:i.natAbs.log2<20:=(Nat.log2_lt h).mpr (by omega);omega
def Hv(i:Int):Str:=Bp<|toString i
def zht{s:Hg}(h0:0<=i)(a:i<=1000000):J1 [.int i] s=some (.str (Hv i),s):=by unfold J1;simp only[zms h0 a,if_true];rfl
def Vw(h0:0<=i):(Hv i).cps.toList=(Nat.toDigits 10 i.toNat).map Char.toNat:=by obtain⟨m,rfl⟩:=Ci h0;have:=PyProof.Rows.text_ofNat m;show(Bp<|toString<|Int.ofNat m).cps.toList=_;rw[this];simp
def dI(h0:0<=i)(a:i<=1000000):(Hv i).length<=7:=by show(Hv i).cps.size<=7;rw[<-AF,Vw h0,Ah];exact Ei (by decide)<|by omega
def all1{P:α->Prop}{a:α}(e:P a):∀x∈[a],P x:=λx c=>by rw[Os.mp c];exact e
def LC{P:α->Prop}{a:α}{l:List α}(e:P a)(f:∀x∈l,P x):∀x∈a::l,P x:=λx hx=>by
 rcases On.mp hx with rfl|hx
 ·exact e
 exact f x hx
def all2{P:α->Prop}{a b:α}(e:P a)(f:P b):∀x∈[a,b],P x:=LC e<|all1 f
def Oi{P:α->Prop}{a b c:α}(e:P a)(f:P b)(g:P c):∀x∈[a,b,c],P x:=LC e<|all2 f g
def TL(z y:Str):Txt.split z y≠[]:=by
 unfold Txt.split;split
 ·simp
 ·split
  ·simp
  intro h;have:=congrArg De h;rw[DG]at this;simp at this
def yD{i:Int}(h0:0<=i):∀c∈(Hv i).cps.toList,48<=c/\c<=57:=by intro c o;rw[Vw h0]at o;obtain⟨ch,l,e⟩:=UV.mp o;have r:=PyProof.Rows.digit_range<|Nat.isDigit_of_mem_toDigits (by decide) (by decide) l;rw[<-e];exact r
def rW(h0:0<=i)(a:i<1000000):(Hv i).length<=6:=by show(Hv i).cps.size<=6;rw[<-AF,Vw h0,Ah];exact Ei (by decide)<|by omega
def TM{z:Str}(h:∀c∈z.cps.toList,c<1114112):Ao z=true:=by unfold Ao;rw[DO];intro c i;exact decide_eq_true<|h c<|by simpa using i
end L2.MP
namespace L2.MP.Ce
open PySem L2.MP
variable {α:Type}
def Xk{α:Type}(f:α->Bool):∀as:List α,Pd (as.map λa=>D.bl (f a))=some (as.map f)
 |[]=>rfl
 |a::as=>by show(Pd<|as.map λa=>D.bl (f a)).map _=_;rw[Xk f as];rfl
variable {st:Hg}
def MM{f:α->Bool}{as:List α}{n:Nat}(h:st[n]?=some (.lst<|as.map λa=>D.bl (f a))):JR [.ref n] st=some (.bl (as.all f),st):=by unfold JR;simp only[Iw,h,Aa,Xk,Ak,GK];rfl
variable {t:MT}{a:MS}{ρ:HX}{s1:Hg}{b:Bool}
def jV(h:t ρ st=some (b,s1)):HS t a Ia ρ st=if b=true then a ρ s1 else some (.nx ρ,s1):=by simp only[K7,h,Aa,N1]
def JN{r:Option (Fl×Hg)}(h:t ρ st=some (true,s1))(k:a ρ s1=r):HS t a Ia ρ st=r:=by rw[jV h,if_pos rfl];exact k
def Kr(h:t ρ st=some (false,s1)):HS t a Ia ρ st=some (.nx ρ,s1):=by rw[jV h,if_neg (by decide)]
variable {m:ME}
def Hu(h:m ρ st=some (.bl b,s1)):mT m ρ st=some (b,s1):=by simp only[La,h,Aa]
def Ij(h:m ρ st=some (.bl b,s1)):Kj (mT m) ρ st=some (!b,s1):=by simp only[Mk,La,h,Aa,Ak]
def Lo{a b:MT}(c:a ρ st=some (true,s1)):IF a b ρ st=some (true,s1):=by simp only[LP,c,Aa,if_true]
def Jv{a b:MT}{r:Option (Bool×Hg)}(c:a ρ st=some (false,s1))(e:b ρ s1=r):IF a b ρ st=r:=by simp only[LP,c,Aa,AM,if_false,e]
def JQ{a b:ME}(c:a ρ st=some (.bl false,s1)):JM a b ρ st=some (.bl false,s1):=by simp[NJ,c]
def Ji{a b:ME}{r:Option (D×Hg)}(c:a ρ st=some (.bl true,s1))(e:b ρ s1=r):JM a b ρ st=r:=by simp[NJ,c,e]
def KL{s:Hg}{d:D}(h:m ρ st=some (d,s)):mR m ρ st=some (.rt d,s):=by rw[LQ,h];rfl
variable {z:Str}{lo hi:Option Int}
def Nm{c:Nat}(h:c∈(Txt.slice z lo hi).cps.toList):c∈z.cps.toList:=by
 unfold Txt.slice at h;split at h
 ·exact h
 ·have a:c∈(Builtin.Str.strSliceIndices lo hi 1 z.length).filterMap (z.cps[·]?):=by simpa using h
  obtain⟨i,_,e⟩:=List.mem_filterMap.mp a;rw[<-BY]at e;exact AD e
def Nn:(Txt.slice z lo hi).cps.toList.length<=z.cps.toList.length:=by have:=Txt.slice_le z lo hi;rw[len_list,len_list]at this;exact this
theorem OQ{c e:MO}:I0 m c e ρ st=(m ρ st).bind λp=>(c ρ p.2).bind λq=>(e ρ q.2).bind λr=>Ql p.1 q.1 r.1 r.2:=rfl
section
variable {mi:MI}{f h:α->D}{b:α->Bool}{as:List α}{fr:List Nat}{ρ0:HX} {gd:List (Nat×List D)}
def TF(hw:mi ρ st=some (⟨as.map f,gd⟩,st))(i:∀s,Gr st s->walked ⟨as.map f,gd⟩ s=true)(hρ:HG ρ 1 fr=none::ρ0)(j:as.length<=10000)(H:∀a∈as,∀s,Gr st s->∃s1,m (some (f a)::ρ0) s=some (h a,s1)/\Gr s s1):
  ∃s1,Jk mi 1 fr (Hq 0) IJ m ρ st=some (.ref s1.length,s1++[.lst (as.map h)])/\Gr st s1:=by
 obtain⟨s1,e,g⟩:=WE (W:=⟨as.map f,gd⟩) (g:=Hq 0) (c:=IJ) (m:=m) (f:=f) (h:=h) (R:=λr=>∃x,r=x::ρ0) (as:=as) (ρ:=none::ρ0) (st:=st) ⟨none,rfl⟩ i (λa l r s o u=>by obtain⟨x,rfl⟩:=o;obtain⟨s1,e,g⟩:=H a l s u;exact⟨some (f a)::ρ0,s1,rfl,rfl,e,g,_,rfl⟩)
 have v:fits (as.map h).length=true:=Ku (by rw[Ah];exact j);refine⟨s1,?_,g⟩;rw[Jz,hw];simp only[Aa];rw[hρ,e];simp only[Aa,v,if_true]
def Qt(hw:mi ρ st=some (⟨as.map f,gd⟩,st))(c:∀s,Gr st s->walked ⟨as.map f,gd⟩ s=true)(hρ:HG ρ 1 fr=none::ρ0)(e:as.length<=10000)(H:∀a∈as,∀s,Gr st s->∃s1,m (some (f a)::ρ0) s=some (.bl (b a),s1)/\Gr s s1):
  ∃st',Hi JR (Hc (Jk mi 1 fr (Hq 0) IJ m) mZ) ρ st=some (.bl (as.all b),st')/\Gr st st':=by
 obtain⟨s1,l,g⟩:=TF (h:=λa=>D.bl (b a)) hw c hρ e H;refine⟨_,?_,g.trans<|Gr.app s1 [.lst (as.map λa=>D.bl (b a))]⟩;simp only[Jm,IH,IM,l,Aa];exact MM<|II s1 _
end
def Np(f:α->D)(as:List α):pairs (as.map f)=as.zipIdx.map λp=>D.tup [.int (p.2:Nat),f p.1]:=by unfold pairs;rw[List.zipIdx_map,By];rfl
end L2.MP.Ce
namespace L2.MP.Hx
open PySem L2 L2.MP PySem.W PyProof.Rows
def Xn{g:KB->Option Obj}(a:KB):∀l:List KB,(l.filterMap λb=>(g b).map λo=>(b,o)).lookup a=if a∈l then g a else none
 |[]=>rfl
 |b::l=>by
  rw[Cb];by_cases h:a=b
  ·subst h;rw[if_pos Al]
   cases c:g a with
   |none=>
    simp only[Gp];rw[Xn a l,c];split<;>rfl
   |some o=>simp only[Ak,A4,beq_self_eq_true]
  ·have e:(a==b)=false:=beq_false_of_ne h;have r:(if a∈b::l then g a else none)=if a∈l then g a else none:=by simp only[Ck,h,false_or]
   rw[r,<-Xn a l];cases c:g b with
   |none=>simp only[Gp]
   |some o=>simp only[Ak,A4,e]
def fI(h:Pv)(a:KB):(MK h).lookup a=h.get? a:=by
 unfold MK;rw[Xn];split
 ·rfl
 ·rename_i l
  cases r:h.get? a with
  |none=>rfl
  |some o=>exact absurd (List.mem_range.mpr<|An r) l
def tM(h:Pv):(MK h).In h:=λa o e=>(fI h a).symm.trans e
def UK(K:Frag)(x:Str):Str⊕Int->Prop
 |.inl s=>∃t,nsIn K mainGlobals x=some (some<|.str s t)
 |.inr i=>∃t,nsIn K mainGlobals x=some (some<|.int i t)
variable {K:Frag}
def bO{f:KB}{a:IR}{c:Option KB}{fd:FuncData}{e:Array (Option IR)}(h:K.lookup f=some ⟨a,c,.func fd,e⟩):keepIn K (.ref f)=true:=by unfold keepIn;dsimp only;rw[h]
variable {x:Str}
def mP{st:W1}(e:ZM (K.lookup ·) x=ZN x st):∃f,P4 K x st f:=by
 unfold ZM ZN at e;cases l:Sg (K.lookup ·) mainGlobals x with
 |none=>rw[l]at e;cases e
 |some v=>
  cases v with
  |none=>rw[l]at e;cases e
  |some v=>
   cases v with
   |ref f=>
    rw[l]at e;dsimp only at e;cases r:K.lookup f with
    |none=>rw[r]at e;cases e
    |some o=>
     rw[r]at e;obtain⟨u,w,s,y⟩:=o;cases s with
     |func fd=>
      dsimp only at e;obtain⟨a1,a2⟩:=Bd<|As e;obtain⟨n,q,p,b,sc,gl,cl,A,E,Q,pm,an,cd,W,a⟩:=fd;cases a1;exact⟨f,kJ l r a2<|bO r⟩
     |_=>cases e
   |_=>rw[l]at e;cases e
def kE{c:Str⊕Int}(e:ZS (Sg (K.lookup ·) mainGlobals x)=some c):UK K x c:=by
 unfold ZS at e;cases l:Sg (K.lookup ·) mainGlobals x with
 |none=>rw[l]at e;cases e
 |some v=>
  cases v with
  |none=>rw[l]at e;cases e
  |some v=>
   rw[l]at e;cases v with
   |str s t=>cases e;exact⟨t,l⟩
   |int i t=>cases e;exact⟨t,l⟩
   |_=>cases e
structure Ww(K:Frag)(fns:List (Str×W1))(bl:List Str)(co:List (Str×(Str⊕Int))):Prop where
 fn:∀p∈fns,∃f,P4 K p.1 p.2 f
 bl:∀x∈bl,nsIn K mainGlobals x=some none
 co:∀c∈co,UK K c.1 c.2
def SM{α β:Type}{f g:α->β}:∀{l:List α},l.map f=l.map g->∀a∈l,f a=g a
 |[],_,a,h=>by cases h
 |b::l,e,a,h=>by
  obtain⟨c,i⟩:=CK e;rcases On.mp h with rfl|h
  ·exact c
  exact SM i a h
def pA{fns:List (Str×W1)}{a:List Str}{co:List (Str×(Str⊕Int))}(e:Nb (K.lookup ·) fns a co=PV fns a co):Ww K fns a co:=by obtain⟨o,l⟩:=Bd e;obtain⟨l,r⟩:=Bd l;exact⟨λp s=>mP (SM o p s),λx u=>SM l x u,λc v=>kE (SM r c v)⟩
end L2.MP.Hx
namespace L2.MP
open PySem L2 PySem.W PyProof.Rows
variable {bl ps:List Str}{co:List (Str×(Str⊕Int))}{x:Str}{st:W1}{P:P3}{w:UF}{base:Pv}{k:Nat}{m:MS}
section
variable {K:Frag}{mg:Str->Option IR} {fns:List (Str×W1)}
structure En(K:Frag)(mg:Str->Option IR)(fns:List (Str×W1))(bl:List Str)(co:List (Str×(Str⊕Int))):Prop where
 b:∀x∈bl,mg x=none
 c:∀c∈co,match c.2 with
  |.inl s=>∃t,mg c.1=some (.str s t)
  |.inr i=>∃t,mg c.1=some (.int i t)
 l:∀p∈fns,∃f,P4 K p.1 p.2 f/\mg p.1=some (.ref f)
def En.of{h:Pv}(A:Hx.Ww K fns bl co)(X:K.In h)(G:h.Ns mainGlobals mg):En K mg fns bl co:=by
 refine⟨λx l=>mg_none_of X G (A.bl x l),λc m=>?_,λp o=>?_⟩
 ·have q:=A.co c m;obtain⟨x,c⟩:=c
  cases c with
  |inl s=>obtain⟨t,q⟩:=q;exact⟨t,mg_of X G q⟩
  |inr i=>obtain⟨t,q⟩:=q;exact⟨t,mg_of X G q⟩
 obtain⟨f,q⟩:=A.fn p o;exact⟨f,q,mg_of X G q.ns⟩
def En.b1(Z:En K mg fns bl co)(h:x∈bl:=by decide +kernel):mg x=none:=Z.b x h
def En.cs(Z:En K mg fns bl co){s:Str}(i:Nat)(h:co[i]?=some (x,.inl s):=by rfl):∃t,mg x=some (.str s t):=Z.c _<|AD h
def En.ci(Z:En K mg fns bl co){s:Int}(i:Nat)(h:co[i]?=some (x,.inr s):=by rfl):∃t,mg x=some (.int s t):=Z.c _<|AD h
def Ue(N ps:List Str)(sc:Scope):Bool:=decide (sc.kind=.function)&&decide (sc.isCoroutine=false)&&decide (sc.isGenerator=false)&&decide N.Nodup&&decide (N.take ps.length=ps)&&ps.all (λx=>decide (sc.names.lookup x=some .local\/sc.names.lookup x=some .cell))&&sc.names.all λy=>decide (y.2≠.free)
def Qs{N:List Str}{sc:Scope}(h:Ue N ps sc=true):IQ N ps sc:=by unfold Ue at h;simp only[Ad,decide_eq_true_eq,BP]at h;obtain⟨⟨⟨⟨⟨⟨a,b⟩,c⟩,d⟩,e⟩,f⟩,g⟩:=h;exact⟨a,b,c,d,e,f,g⟩
noncomputable abbrev Z4 (x:Str) (st:W1) (ps:List Str):Prop:=∀(kV doc pm:IR) (an:Option KB) (l m:IR) (us:List IR),us.length=ps.length->bindArgs (BU x x (OV st) (Ln st) (Jl st) .none kV doc pm an l m) ⟨us,[]⟩=pure (ps.zip us)
def En.laid{i:Nat}(Z:En K mg fns bl co)(hi:fns[i]?=some (x,st))(b:Z4 x st ps):Laid K mg x st ps:=by obtain⟨f,F,hm⟩:=Z.l _<|AD hi;obtain⟨⟨m,o,kV,r,pm,an,cd,s,u,l,c⟩,a,k⟩:=F;exact⟨_,_,U9 l c k,hm,(U9 l c k).binds b⟩
def JB(Z:En K mg fns bl co)(st:W1)(i:Nat)(N ps:List Str)(a:N.Nodup->∀(f:KB) (c:IR) (A:Around) (outer:List Env) (s:Shared) (H:Hp) (E:XK),HP k (A.deeper<|envOfC x (Jl st) s.heap.objs.size f c) ->
   Mc (HM LJ P w K mg base N x (Jl st) f c A outer s H E).nox (Ln st) m) (hi:fns[i]?=some (x,st):=by rfl)
  (S:Ue N ps (Jl st)=true:=by decide +kernel) (b:Z4 x st ps:=by intro _ _ _ _ _ _;first|exact Q5 λ_=>rfl|exact Oa λ_ _=>rfl|exact Q4 λ_ _ _=>rfl|exact N9 λ_ _ _ _=>rfl|exact Ut λ_ _ _ _ _=>rfl):IY P w K mg base (k+1) x ps.length (IX N.length m):=
 oV (Z.laid hi b) (Qs S) (a (Qs S).nd)
def mX{qual:Str}{f:KB}{fd:FuncData}(F:Nd K x qual st f fd)(N ps:List Str)(a:N.Nodup->∀(c:IR) (A:Around) (outer:List Env) (s:Shared) (H:Hp) (E:XK),HP k (A.deeper<|envOfC qual (Jl st) s.heap.objs.size f c) ->
   Mc (HM LJ P w K mg base N qual (Jl st) f c A outer s H E).nox (Ln st) m) (S:Ue N ps (Jl st)=true:=by decide +kernel):Ja P w K mg base LJ (k+1) f fd ps (Qk K ps.length<|IX N.length m):=Uz F (Qs S) (a (Qs S).nd)
end
variable {g:GN}{T:String}
section
variable {X:Cx}{e:Re}{es:List Re}{m:ME}{mm:MA}{pos pos' p p2:Pos}{y:Str}
def sgn(i:Nat)(a:X.N.Nodup)(hi:X.N[i]?=some x:=by rfl)(c:Loc X.env.scope x:=by first|exact Bu rfl|exact Bq rfl)(hf:X.fn x=true\/X.env.scope.names.lookup x=some .local:=by first|exact .inl rfl|exact .inr rfl|assumption):SG X (.Name x pos) (Hq i):=uH a hi c hf
def IB(i:Nat)(a:X.N.Nodup)(he:SE X e m)(hi:X.N[i]?=some x:=by rfl)(c:Loc X.env.scope x:=by first|exact Bu rfl|exact Bq rfl)(f:swapsWith e (some<|.Name x pos') pos.line X.env=pure false:=by rfl)(hf:X.fn x=true\/X.env.scope.names.lookup x=some .local:=by first|exact .inl rfl|exact .inr rfl|assumption):SS X (.Assign [.Name x pos'] e pos) (Hm m<|Hq i):=bE a hi c he f hf
def HK{j n:Nat}(F:IY X.prog X.w X.K X.mg X.base k x n g)(f:HP j X.A)(h:SA X (e::es) mm)(i:k<=j:=by decide)(q:Gl X x:=by rfl)(z:IZ n mm:=by repeat (first|exact IZ.nil|refine IZ.cons ?_))(a:(x==("__debug__":Str))=false:=by decide)(he:Qqb X.env e es:=by rfl) (c:Qqc pos es X.env:=by rfl) (B:(e::es).length=n:=by rfl):SE X (.Call (.Name x p) (e::es) [] pos) (Hi g mm):=xS F (f.mono i) q h z a he c B
variable {fns:List (Str×W1)}
def L5(Z:En X.K X.mg fns bl co)(n:SE X e m)(q:bootBuiltins y=some (.type T))(z:T∈kinds:=by decide)(B:Gl X "isinstance":=by rfl)(hm:("isinstance":Str)∈bl:=by decide +kernel)(a:Gl X y:=by rfl)(c:y∈bl:=by decide +kernel)(f:y≠"__name__":=by decide)(h:(y==("__debug__":Str))=false:=by decide)(C:starEach [e,.Name y p2] X.env=(false,eval e X.env)::starEach [.Name y p2] X.env:=by rfl) (i:starEach [.Name y p2] X.env=[(false,eval (.Name y p2) X.env)]:=by rfl) (j:(backTo pos<|starEach [.Name y p2] X.env).any (·.1)=false:=by rfl):SE X (.Call (.Name "isinstance" p) [e,.Name y p2] [] pos) (J4 T m):=
 pC (x:="isinstance") z B (Z.b _ hm) n a (Z.b _ c) q f h C i j
def Jd{id:String}(Z:En X.K X.mg fns bl co)(f:Kw X (.builtin id) g)(h:bootBuiltins x=some (.builtin id))(i:SA X (e::es) mm)(j:Gl X x:=by rfl)(hm:x∈bl:=by decide +kernel)(n:x≠"__name__":=by decide)(a:(x==("__debug__":Str))=false:=by decide)(he:Qqb X.env e es:=by rfl) (c:Qqc pos es X.env:=by rfl):SE X (.Call (.Name x p) (e::es) [] pos) (Hi g mm):=eZ f j (Z.b _ hm) h i n a he c
def Lc(Z:En X.K X.mg fns bl co)(f:Kw X (.type T) g)(h:bootBuiltins x=some (.type T))(i:SA X (e::es) mm)(j:Gl X x:=by rfl)(hm:x∈bl:=by decide +kernel)(n:x≠"__name__":=by decide)(a:(x==("__debug__":Str))=false:=by decide)(he:Qqb X.env e es:=by rfl) (c:Qqc pos es X.env:=by rfl):SE X (.Call (.Name x p) (e::es) [] pos) (Hi g mm):=zl1 f j (Z.b _ hm) h i n a he c
def cS{scope:Scope}(N':List Str)(nt:Nat)(fr:List Nat)(fs:List Str)(kind:scope.kind=.function:=by rfl)(c:(scope.names.map (·.1)).Nodup:=by decide +kernel)(hf:scope.names.all (λp=>!(p.2==AK) || fs.contains p.1)=true:=by decide +kernel)(f:fs.all (λx=>scope.names.contains (x,AK))=true:=by decide +kernel) (len:N'.length=nt+fr.length:=by rfl) (a:NA X fs fr (N'.drop nt):=by trivial) (out:Ny X fs:=by trivial):Kf X scope N' nt fr:=RR fs kind c hf f len a out
end
end L2.MP
namespace L2.MP.Hx
open PySem L2 L2.MP PySem.W PyProof.Rows
structure kA(K:Frag)(C:KB)(cd:ClassData)(es:Array DictEntry):Prop where
 at_:∀bm,cd.mro=.ref C::bm->∃nm ql bs sn sub b2 b3 dd k0 k1 k2 k3 k5,K.lookup C=some (excClassObj nm ql C cd.ns bs bm true sn sub b2 b3 dd k0 k1 k2 k3 k5 "ValueError.__new__")
 ns:∀h:Pv,K.In h->h.Ns cd.ns (nsFind es)
variable {K:Frag}{C:KB}{cd:ClassData}{es:Array DictEntry}
def sR{a:KB}(h:PX K C=some (cd,a,es)):kA K C cd es:=by
 unfold PX at h;split at h
 ·rename_i t r s u v w y n A E
  split at h
  ·rename_i q;obtain⟨rfl,rfl,l,o⟩:=q
   split at h
   ·rename_i j m Q W Mx c
    split at h
    ·rename_i f;cases h;refine⟨λbm e=>?_,λh X=>⟨_,_,_,X _ _ c,rfl,λe he=>?_,λ_=>rfl⟩⟩
     ·obtain⟨nm,bs,mro,ns,g,hd,sn,sub,i,col,del⟩:=cd;dsimp only at e l o;subst e l o;exact⟨nm,g,bs,sn,sub,i,col,r,u,v,w,y,A,E⟩
     ·have:=List.all_eq_true.mp f e (Array.mem_toList_iff.mpr he)
      split at this
      ·rename_i x t' hk;exact⟨x,t',hk⟩
      ·cases this
    ·cases h
   ·cases h
  ·cases h
 ·cases h
def oY(a:Ra K C=true)(b:Wr K=true):O8 K C/\keepIn K (.ref C)=true/\kitOne K (.ref C) (.type "ValueError")=some true/\hasDictIn K C=true:=by unfold Ra at a;unfold Wr at b;simp only[Ad,beq_iff_eq]at a b;obtain⟨⟨⟨⟨⟨⟨⟨a1,a2⟩,l⟩,o⟩,r⟩,s⟩,u⟩,v⟩:=a;exact⟨⟨a1,a2,l,b.1,b.2,o,r⟩,s,u,v⟩
variable {c:Str}
def Po(h:Me K c=some C):KJ K c C:=by
 unfold Me at h;split at h
 ·rename_i D e;cases h;exact e
 ·cases h
def RQ{D:KB}(h:Me K c=some C)(g:KJ K c D):D=C:=by have:=Po h;unfold KJ at this g;rw[g]at this;cases this;rfl
structure NQ(K:Frag)(T:KB)(d:ED)(C:KB)(bm:List IR)(cd:ClassData)(es:Array DictEntry):Prop where
 a:Me K d.c=some C
 k:O8 K C
 kp:keepIn K (.ref C)=true
 v:kitOne K (.ref C) (.type "ValueError")=some true
 hd:hasDictIn K C=true
 cl:kA K C cd es
 m:cd.mro=.ref C::bm
 b:bm=if d.c="TileError" then NC else .ref T::NC
 no:∀n∈(if d.f.isSome then N8.tail else N8),nsFind es n=none
 ini:∀f st,d.f=some (f,st)->findIn K (.ref C) f=some none/\fastLookup "ValueError" f=some none/\WJ K (d.c++".__init__") (nsFind es "__init__")=WI (d.c++".__init__") st
variable {T:KB}{d:ED}
def U6(g:Wr K=true)(h:Q0 K T d=Q1 d):∃C bm cd es,NQ K T d C bm cd es:=by
 unfold Q0 Q1 at h;cases o:Me K d.c with
 |none=>rw[o]at h;cases (Bd h).1
 |some C=>
  rw[o]at h;dsimp only at h;cases r:PX K C with
  |none=>rw[r]at h;cases (Bd h).1
  |some p=>
   obtain⟨cd,Q,es⟩:=p;rw[r]at h;dsimp only at h;obtain⟨u,s⟩:=Bd h;simp only[Ad,beq_iff_eq,BP,Option.isNone_iff_eq_none]at u;obtain⟨⟨⟨b1,v⟩,w⟩,l⟩:=u;obtain⟨x,y,A,E⟩:=oY b1 g;refine⟨C,_,cd,es,o,x,y,A,E,sR r,v,rfl,w,λf st e=>?_⟩;rw[e]at s l;dsimp only at s l;simp only[Ad,beq_iff_eq]at l;exact⟨l.1,l.2,s⟩
structure P2(K:Frag)(ds:List ED):Prop where
 ex:∃T,Me K "TileError"=some T/\∀d∈ds,∃C bm cd es,NQ K T d C bm cd es
 pr:∀d∈ds,∀e∈ds,∀C D,KJ K d.c C->KJ K e.c D->kitOne K (.ref C) (.ref D)=some (N6 d.c e.c)
def rN{ds:List ED}(h:Of K ds=Og ds):P2 K ds:=by
 unfold Of Og at h;cases l:Me K "TileError" with
 |none=>rw[l]at h;cases (Bd h).1
 |some T=>
  rw[l]at h;dsimp only at h;obtain⟨c,o⟩:=Bd h;rw[Ad]at c;obtain⟨g,c⟩:=c;refine⟨⟨T,l,λd hd=>U6 g (SM o d hd)⟩,λd hd e he C D r s=>?_⟩;have:=List.all_eq_true.mp (List.all_eq_true.mp c d hd) e he;unfold G7 at this;split at this
  ·rename_i u v a1 a2
   cases RQ a1 r;cases RQ a2 s;exact beq_iff_eq.mp this
  ·cases this
variable {bm b2:List IR}{cd2:ClassData}{es2:Array DictEntry}{h:Pv}
def UZ{D:KB}(X:K.In h)(U:NQ K T ⟨"TileError",none⟩ D b2 cd2 es2)(f:Me K "TileError"=some T)(E:NQ K T d C bm cd es):OT h N8 NC bm:=by
 rw[E.b];split
 ·exact .base
 have e:D=T:=As<|U.a.symm.trans f;subst e;obtain⟨nm,o,bs,sn,sub,c,r,s,u,v,w,x,y,at_⟩:=U.cl.at_ b2 U.m;exact .own (X _ _ at_) (U.cl.ns h X) (λn l=>U.no n l) .base
def dH:NC.contains (.type "ValueError")=true:=by decide +kernel
def xG{D:KB}(X:K.In h)(U:NQ K T ⟨"TileError",none⟩ D b2 cd2 es2)(a:Me K "TileError"=some T)(E:NQ K T d C bm cd es)(hf:d.f=none):PlainAt h C:=by obtain⟨nm,l,bs,sn,sub,c,o,r,s,u,v,w,x,at_⟩:=E.cl.at_ bm E.m;exact⟨nm,l,cd.ns,bs,bm,NC,NC,true,sn,sub,c,o,r,s,u,v,w,x,"ValueError.__new__","ValueError","ValueError","ValueError.__new__","ValueError.__init__","ValueError.__init__",nsFind es,F.excBase_ValueError,dH,F.excBase_ValueError,(UZ X U a E).tail<|by decide,X _ _ at_,E.cl.ns h X,E.no _ (by rw[hf];exact Al)⟩
def xN{D:KB}(X:K.In h)(U:NQ K T ⟨"TileError",none⟩ D b2 cd2 es2)(a:Me K "TileError"=some T)(E:NQ K T d C bm cd es):JO h C:=by obtain⟨nm,l,bs,sn,sub,c,o,r,s,u,v,w,x,at_⟩:=E.cl.at_ bm E.m;exact⟨nm,l,cd.ns,bs,bm,true,sn,sub,c,o,r,s,u,v,w,x,"ValueError.__new__",X _ _ at_,(UZ X U a E).has<|by decide +kernel⟩
variable {f:Str}{st:W1}
def oX{D:KB}(X:K.In h)(U:NQ K T ⟨"TileError",none⟩ D b2 cd2 es2)(e:Me K "TileError"=some T)(E:NQ K T d C bm cd es)(hf:d.f=some (f,st))(a:f∈N8.tail):Md h C f:=by
 obtain⟨nm,l,bs,sn,sub,c,o,r,s,u,v,w,x,at_⟩:=E.cl.at_ bm E.m;have no:=E.no;rw[hf]at no;have y:typeLookup (.type "ValueError") f=pure none:=by rw[Ey,Dp,(E.ini f st hf).2.1]
 exact⟨nm,l,cd.ns,bs,bm,NC,sn,sub,c,o,r,s,u,v,w,x,"ValueError.__new__","ValueError","object.__setattr__","object",nsFind es,N8,X _ _ at_,E.cl.ns h X,no f a,no _ (show("__setattr__":Str)∈N8.tail by decide),UZ X U e E,List.mem_of_mem_tail a,by decide,F.store_ValueError,y⟩
def rP{D:KB}(U:NQ K T ⟨"TileError",none⟩ D b2 cd2 es2)(g:Me K "TileError"=some T)(E:NQ K T d C bm cd es)(hf:d.f=some (f,st)):
  ∃a fd,Nd K "__init__" (d.c++".__init__") st a fd/\∀h:Pv,K.In h->Ks h C a:=by
 have e:=(E.ini f st hf).2.2;unfold WJ WI at e;split at e
 ·rename_i a r
  split at e
  ·rename_i t j fd z l
   split at e
   ·rename_i s;subst s;obtain⟨a1,a2⟩:=Bd<|As e;obtain⟨n,q,p,b,sc,gl,cl,B,G,H,pm,an,u,I,J⟩:=fd;cases a1;refine⟨a,_,U9 l a2<|bO l,λh X=>?_⟩;obtain⟨nm,v,bs,sn,sub,o,w,x,y,A,Q,W,i,at_⟩:=E.cl.at_ bm E.m;exact⟨nm,v,cd.ns,bs,bm,NC,NC,true,sn,sub,o,w,x,y,A,Q,W,i,"ValueError.__new__","ValueError","ValueError","ValueError.__new__","ValueError.__init__","ValueError.__init__",nsFind es,_,F.excBase_ValueError,dH,F.excBase_ValueError,(UZ X U g E).tail<|by decide,X _ _ at_,E.cl.ns h X,r,X _ _ l,rfl⟩
   ·cases e
  ·cases e
 ·cases e
end L2.MP.Hx
namespace L2.MP
open PySem L2 PySem.W PyProof.Rows Hx
def J0(ns:List Str)(c y:Str):Option Bool:=if c∈ns/\y∈ns then some (N6 c y)else none
def QU(ns:List Str)(c:Str):Option Bool:=if c∈ns then some true else none
structure EE(K:Frag)(mg:Str->Option IR)(ds:List ED):Prop where
 e0:∀d∈ds,d.f=none->∃C,KJ K d.c C/\mg d.c=some (.ref C)/\keepIn K (.ref C)=true/\∀h:Pv,K.In h->PlainAt h C
 e1:∀d∈ds,∀f st,d.f=some (f,st)->f∈N8.tail->∃C fa fd,KJ K d.c C/\mg d.c=some (.ref C)/\keepIn K (.ref C)=true/\Nd K "__init__" (d.c++".__init__") st fa fd/\(∀h:Pv,K.In h->Ks h C fa)/\(∀h:Pv,K.In h->Md h C f)/\∀h:Pv,K.In h->JO h C
 is:Ri K (J0 (ds.map (·.c)))
 it:kC K "ValueError" (QU (ds.map (·.c)))
 at_:∀d∈ds,∀f st,d.f=some (f,st)->UM K f λc=>decide (c=d.c)
 fn:∀d∈ds,∃C,KJ K d.c C/\mg d.c=some (.ref C)
 ex:∀d∈ds,d.c≠"TileError"->∃T,mg "TileError"=some (.ref T)/\∀C,KJ K d.c C->exmOne K (.ref C) (.ref T)=some true
variable {K:Frag}{mg:Str->Option IR}{ds:List ED}
def EE.of{h:Pv}(A:P2 K ds)(g:⟨"TileError",none⟩∈ds)(X:K.In h)(G:h.Ns mainGlobals mg):EE K mg ds:=by
 obtain⟨T,o,all⟩:=A.ex;obtain⟨D,B,H,I,U⟩:=all _ g;refine⟨λd hd hf=>?_,λd hd f st hf J=>?_,λc y b C D e l L=>?_,λc b C e l=>?_,λd hd f st hf c C N l=>?_,λd hd=>?_,λd hd u=>⟨T,mg_of X G<|Po o,λC l=>?_⟩⟩
 ·obtain⟨C,bm,cd,r,E⟩:=all d hd;exact⟨C,Po E.a,mg_of X G<|Po E.a,E.kp,λW s=>xG s U o E hf⟩
 ·obtain⟨C,bm,cd,r,E⟩:=all d hd;obtain⟨S,fd,F,M⟩:=rP U o E hf;exact⟨C,S,fd,Po E.a,mg_of X G<|Po E.a,E.kp,F,M,λW s=>oX s U o E hf J,λW s=>xN s U o E⟩
 ·unfold J0 at e
  split at e
  ·rename_i q;cases e;obtain⟨d,hd,rfl⟩:=UV.mp q.1;obtain⟨Y,w,rfl⟩:=UV.mp q.2;obtain⟨x,bm,cd,r,E⟩:=all d hd
   cases RQ E.a l;exact⟨E.k,A.pr d hd Y w _ _ l L⟩
  ·cases e
 ·unfold QU at e
  split at e
  ·rename_i q;cases e;obtain⟨d,hd,rfl⟩:=UV.mp q;obtain⟨x,bm,cd,r,E⟩:=all d hd
   cases RQ E.a l;exact⟨E.k,E.v⟩
  ·cases e
 ·have Q:=of_decide_eq_true N;subst Q;obtain⟨x,bm,cd,r,E⟩:=all d hd
  cases RQ E.a l;exact⟨E.k,(E.ini f st hf).1,E.hd⟩
 ·obtain⟨C,bm,cd,r,E⟩:=all d hd;exact⟨C,Po E.a,mg_of X G<|Po E.a⟩
 ·obtain⟨x,bm,cd,r,E⟩:=all d hd
  cases RQ E.a l;have Z:D=T:=As<|U.a.symm.trans o;subst Z;have ne:C≠D:=λz=>by subst z;obtain⟨_,_,_,_,_,_,_,_,_,_,_,_,_,h1⟩:=E.cl.at_ bm E.m;obtain⟨_,_,_,_,_,_,_,_,_,_,_,_,_,i⟩:=U.cl.at_ B U.m;rw[h1]at i;have j:=E.b;rw[if_neg u]at j;have n:=U.b;rw[if_pos rfl]at n;subst j n;simp[excClassObj,NC]at i
  have hk:=A.pr d hd _ g C D l<|Po o;have hs:N6 d.c "TileError"=true:=by simp[N6]
  rw[show(ED.mk "TileError" none).c="TileError" from rfl,hs]at hk;unfold kitOne at hk;rw[if_neg (by simp[ne])]at hk;unfold exmOne;have mb:subIn K (.ref D) (.type "BaseException")=some true:=U.k.mb;rw[if_pos (by rw[mb];rfl)];exact hk
def Um(c:Str):Str->Bool:=λx=>decide (x=c)
structure MU(c f n1:Str)(st:W1):Prop where
 S:IQ ["self",n1] ["self",n1] (Jl st)
 hb:∃p0 p1 pos' pos,Ln st=[.Assign [.Attribute (.Name "self" p0) f pos'] (.Name n1 p1) pos]/\∀env,swapsWith (.Name n1 p1) (some (.Attribute (.Name "self" p0) f pos')) pos.line env=pure false
 v0:(Jl st).names.lookup ("self":Str)=some .local
 v1:(Jl st).names.lookup n1=some .local
 d1:(n1==("__debug__":Str))=false
 c1:(n1==("__classdict__":Str))=false
 bd:∀(kV doc pm:IR) (an:Option KB) (cdv ct:IR) (us:List IR),us.length=2->bindArgs (fnOf "__init__" (c++".__init__") (OV st) (Ln st) (Jl st) .none kV doc pm an cdv ct) ⟨us,[]⟩=pure ((["self",n1]:List Str).zip us)
variable {X:Cx}{c f n1:Str}{st:W1}{m:ME}{mm:MA}{e:Re}{es:List Re}{p pos:Pos}{ns:List Str}
section
variable {p2:Pos}{d:ED}
def Oh(Y:EE X.K X.mg ds)(i:Nat)(hi:ds[i]?.map (·.c)=some c:=by rfl)(g:Gl X c:=by rfl)(a:(c==("__debug__":Str))=false:=by decide):SE X (.Name c p) (mK<|.fn c):=by obtain⟨d,hd,rfl⟩:=Option.map_eq_some_iff.mp hi;obtain⟨C,e,hm⟩:=Y.fn _<|AD hd;exact aB g hm e a
def ZQ(Y:EE X.K X.mg ds)(g:X.mg "isinstance"=none)(h:SA X (e::es) mm)(i:ds.map (·.c)=ns:=by rfl)(j:Gl X "isinstance":=by rfl)(he:Qqb X.env e es:=by rfl)(a:Qqc pos es X.env:=by rfl):
  SE X (.Call (.Name "isinstance" p) (e::es) [] pos) (Hi (Qo<|J0 ns) mm):=by
 subst i;exact eZ (vP Y.is) j g (by decide +kernel) h (by decide) (by decide) he a
def eat(Y:EE X.K X.mg ds)(i:Nat)(he:SE X e m)(hi:ds[i]?=some ⟨c,some (f,st)⟩:=by rfl)(a:attributeBase e f X.env (eval e X.env)=eval e X.env:=by rfl):SE X (.Attribute e f pos) (Nt (Um c) f m):=qZ (Y.at_ _ (AD hi) f st rfl) he a
end
structure RX(P:P3)(w:UF)(K:Frag)(mg:Str->Option IR)(base:Pv)(c fld:Str)(C:KB):Prop where
 fn:KJ K c C
 at_:mg c=some (.ref C)
 kp:keepIn K (.ref C)=true
 ex:∃fa fd ps,(∀h:Pv,K.In h->Ks h C fa)/\Ja P w K mg base LJ 1 fa fd ps (Xc C fld)/\Binds K fd ps []
 ra:∀h:Pv,K.In h->JO h C
variable {k j:Nat}{cpos:Pos}
section
variable {P:P3}{w:UF}{base:Pv}
def EE.rx(Y:EE K mg ds)(J:MU c f n1 st)(i:Nat)(hi:ds[i]?=some ⟨c,some (f,st)⟩)(hf:f∈N8.tail):∃C,RX P w K mg base c f C:=by obtain⟨C,j,fd,l,hm,hk,F,m,o,r⟩:=Y.e1 _ (AD hi) f st rfl hf;obtain⟨v,x,pos',e,s,u⟩:=J.hb;exact⟨C,l,hm,hk,⟨j,fd,_,m,rQ (k:=0) F J.S s o J.v0 J.v1 (by decide) J.d1 (by decide) J.c1 u,F.binds J.bd⟩,r⟩
def dU{fns:List (Str×W1)}{B:List Str}{co:List (Str×(Str⊕Int))}{x:Str}{m:MS}(Z:En K mg fns B co)(Y:EE K mg ds)(J:MU c f n1 st)(q:Nat)(s0:W1)(i:Nat)(N n:List Str)(g:N.Nodup->∀(C:KB),RX P w K mg base c f C->∀(h:KB) (a:IR) (A:Around) (outer:List Env) (s:Shared) (H:Hp) (E:XK),HP k (A.deeper<|envOfC x (Jl s0) s.heap.objs.size h a) ->
   PZ (HM (JL P w C f) P w K mg base N x (Jl s0) h a A outer s H E) LA (λi G=>E (.int i 0) none G) (Ln s0) m) (I:ds[q]?=some ⟨c,some (f,st)⟩:=by rfl) (hf:f∈N8.tail:=by decide) (hi:fns[i]?=some (x,s0):=by rfl)
  (S:Ue N n (Jl s0)=true:=by decide +kernel) (b:Z4 x s0 n:=by intro _ _ _ _ _ _;first|exact Q5 λ_=>rfl|exact Oa λ_ _=>rfl|exact Q4 λ_ _ _=>rfl|exact N9 λ_ _ _ _=>rfl|exact Ut λ_ _ _ _ _=>rfl):Nz P w K mg base (k+1) x n.length c f (IX N.length m):=by
 obtain⟨C,R⟩:=Y.rx (P:=P) (w:=w) (base:=base) J q I hf;obtain⟨h,fd,F,hm,e⟩:=Z.laid hi b;exact⟨C,h,fd,n,R.fn,R.at_,R.ra,ZL (by intro i z;cases z) F (Qs S) λa A outer s H E j=>g (Qs S).nd C R h a A outer s H E j,hm,F.kp,e⟩
variable {N:List Str}{qual:Str}{scope:Scope}{fa:KB}{cd:IR}{A:Around}{outer:List Env}{s0:Shared}{H0:Hp}{E:XK}{C:KB}
def UB(R:RX P w K mg base c f C)(h:HP j (HM (JL P w C f) P w K mg base N qual scope fa cd A outer s0 H0 E).A)(he:SE (HM (JL P w C f) P w K mg base N qual scope fa cd A outer s0 H0 E) e m)(n:2<=j:=by decide)(q:Gl (HM (JL P w C f) P w K mg base N qual scope fa cd A outer s0 H0 E) c:=by rfl)(g:(c==("__debug__":Str))=false:=by decide)(a:starEach [e] (HM (JL P w C f) P w K mg base N qual scope fa cd A outer s0 H0 E).env=(false,eval e (HM (JL P w C f) P w K mg base N qual scope fa cd A outer s0 H0 E).env)::starEach [] (HM (JL P w C f) P w K mg base N qual scope fa cd A outer s0 H0 E).env:=by rfl):
  SX (HM (JL P w C f) P w K mg base N qual scope fa cd A outer s0 H0 E) LA (λi B=>E (.int i 0) none B) (.Raise (some<|.Call (.Name c p) [e] [] cpos) none pos) (OL LA m):=by
 obtain⟨ga,fd,r,l,F,o⟩:=R.ex;exact zK (λi j z=>by cases z;rfl) l R.ra R.kp F (h.mono n) q R.at_ o he (Hf he Hk a) g a
end
section
variable {n i:Nat}{g fld xn nm c0:Str}{gg:GN}{mh:MS}{epos np hpos px cp tp apos:Pos}{st0:W1}{more:List W1}{kk x1:Nat} {fs:Option (Str×W1)}
def etA(Y:EE X.K X.mg ds)(q i j:Nat)(D:Nz X.prog X.w X.K X.mg X.base k g n c fld gg)(I:HP k X.A)(J:SA X.nox (e::es) mm)(L:IZ n mm)(M:X.N.Nodup)(S:∀x W,Mc (Wq X x W) (st0::more) mh)(U:ds[q]?=some ⟨c,fs⟩:=by rfl) (a:c≠"TileError":=by decide) (Z:X.stack=X.env::X.outer:=by rfl) (hf:X.env.frame=some X.env.locals:=by rfl) (hg:Gl X g:=by rfl) (h:Gl X "TileError":=by rfl) (hi:X.N[i]?=some xn:=by rfl) (hj:X.N[j]?=some nm:=by rfl)(z:X.env.scope.names.lookup xn=some .local:=by rfl) (B:X.env.scope.names.lookup nm=some .local:=by rfl) (C:(g==("__debug__":Str))=false:=by decide) (he:Qqb X.env e es:=by rfl) (F:Qqc cpos es X.env:=by rfl)(G:starEach [.Constant (.str c0) kk cp,.Call (.Name g p) (e::es) [] cpos] X.env=[(false,eval (.Constant (.str c0) kk cp) X.env),(false,eval (.Call (.Name g p) (e::es) [] cpos) X.env)]:=by rfl)(H:swapsWith (.Tuple [.Constant (.str c0) kk cp,.Call (.Name g p) (e::es) [] cpos] x1 tp) (some<|.Name xn px) apos.line X.env=pure false:=by rfl):
  SS X (.Try [.Assign [.Name xn px] (.Tuple [.Constant (.str c0) kk cp,.Call (.Name g p) (e::es) [] cpos] x1 tp) apos] [.ExceptHandler (some<|.Name "TileError" np) (some nm) (st0::more) hpos] [] [] pos) (Sx c0 gg mm i j c fld mh):=by
 obtain⟨T,hm,f⟩:=Y.ex _ (AD U) a;exact wZ D Z hf I hg J L h hm f M hi hj z B S (by decide) C he F G H
end
end L2.MP
namespace L2.MP.Hx
open PySem L2 L2.MP PySem.W PyProof.Rows
def Qp(fns:List (Str×W1))(c:List Str)(co:List (Str×(Str⊕Int)))(ds:List ED):Hook where
 α:=(List (Option<|FuncData×Bool)×List (Option<|Option IR)×List (Option<|Str⊕Int))×Bool×List Oq
 obs s:=(Nb s.heap.get? fns c co,Of (MK s.heap) ds)
 val _:=(PV fns c co,Og ds)
 says _ h:=∃K:Frag,K.In h/\Ww K fns c co/\P2 K ds
 of w s e:=by obtain⟨l,o⟩:=Bd e;exact⟨MK s.heap,tM _,pA (by rw[funext (fI s.heap)];exact l),rN o⟩
 keeps w h h':=λ⟨K,a,b⟩ k=>⟨K,a.keeps k,b⟩
def Nl{l:OpenLaw}{n k:Nat}{q:P3}{loose:List Str}{XP:(Str->Option IR)->Pv->Prop}{fns:List (Str×W1)}{C:List Str}{co:List (Str×(Str⊕Int))}{ds:List ED}{d:DefRec}{CX:NR}{sp:Frag->Sp}{x:Str}(I:l.most=some n) (j:n<=sizeLine) (m:d.params.defaults=[]) (J:HP k callerA)(F:∀(K:Frag) (w:UF) (g:Str->Option IR) (i:KB) (h:Pv),Ww K fns C co->P2 K ds->K.In h->h.Ns mainGlobals g->g d.name=some (.ref i) ->
   ∃fd:FuncData,(∀(s:Shared) (u:IR),BindsTo s fd ⟨[u],[]⟩ [(x,u)])/\∀base:Pv,K.In base->base.Ns mainGlobals g->Ja l.prog w K g base CX k i fd [x] (sp K))
  (z:∀(K:Frag) (H:Hp) (a:KB) (ns:List Int),ns.length<=n->Oo H->Kc K H a (ns.map V.int)->sp K [.ref a] H (λv _=>v=.bl true) λ_ _ _=>False)
  (B:∀(H:Hp) (s:Shared) (e:IR) (s':Shared),CX [] H s (λ_ _ _=>False) e s'->False):
  WalkO q loose XP (Qp fns C co ds).says l.row.toRowW d [] (λf L=>Gf f L):=by
 intro w s₀ s₁ g o G Y;obtain⟨K,r,A,E⟩:=Y;exact L2.Py (K:=λ_=>K) (CX:=λ_=>CX) (sp:=λ_=>sp K) (YP:=λ_ h=>K.In h) I j m J (λ_ _ y=>y) (λw g i h a b c=>F K w g i h A E a b c) (λ_ H a ns Q W M=>z K H a ns Q W M) (λ_ H s e s'=>B H s e s') w s₀ s₁ g o G r
end L2.MP.Hx
namespace L2.MP
open PySem L2 PySem.W PyProof.Rows
def UA{X:Cx}{x:Str}{st:W1}{p:Pos}{fns:List (Str×W1)}{c:List Str}{co:List (Str×(Str⊕Int))}(Z:En X.K X.mg fns c co)(i:Nat)(hi:fns[i]?=some (x,st):=by rfl)(e:Gl X x:=by rfl)(a:(x==("__debug__":Str))=false:=by decide):SE X (.Name x p) (mK<|.fn x):=by obtain⟨f,F,hm⟩:=Z.l _<|AD hi;exact aB e hm F.ns a
end L2.MP
namespace L2.MP.T0
open PySem L2.MP L2.MP.Hn
def NP:List Str:=["TileError","NoGrowing","NoText","NoPlace","Taken","NoKind","NotHeld","NothingBack","NotSure","TooMany","NotFramed","NoLine"]
def Yj:MS:=mR (JM (J4 "int"<|mV 0)<|JM (UY<|J4 "bool"<|mV 0)<|Jj Ik Ik (mV 1) (mV 0)<|mV 2)
def N3:GN:=IX 3 Yj
def gE:MS:=mR (JM (J4 "tuple"<|mV 0)<|mB Il (Hi Ho<|Hc (mV 0)<|mZ)<|mV 1)
def LR:GN:=IX 2 gE
def Yw:ME:=mB Lb (mV 0) (mK<|.str "abcdefghijklmnopqrstuvwxyz")
def zm3:MS:=mR (JM (J4 "str"<|mV 0)<|JM (Jj Ik Ik (mK<|.int 1) (Hi Ho<|Hc (mV 0)<|mZ)<|mK<|.int 8)<|Hi JR<|Hc (Jk (Jw<|mV 0) 1 [] (Hq 0) IJ<|Yw)<|mZ)
def Yh:GN:=IX 1 zm3
def gD:MS:=mR<|JM (Hi LR<|Hc (mV 0)<|Hc (mK<|.int 2)<|mZ)<|JM (Hi Yh<|Hc (mB Hr (mV 0)<|mK<|.int 0)<|mZ)<|Hi N3<|Hc (mB Hr (mV 0)<|mK<|.int 1)<|Hc (mK<|.int 1)<|Hc (mK<|.int 4)<|mZ
def Yn:GN:=IX 1 gD
def zm4:MS:=mR (JM (J4 "str"<|mV 0)<|JM (mB Ik (Hi Ho<|Hc (mV 0)<|mZ)<|mK<|.int 1)<|mB Lb (mV 0)<|mK<|.str "abcdefghijklmnopqrstuvwxyz0123456789")
def VD:GN:=IX 1 zm4
def fV:MS:=mR (JM (J4 "str"<|mV 0)<|LZ (mB Il (mV 0)<|mK<|.str "")<|mB Lb (mV 0)<|mV 1)
def Yi:GN:=IX 2 fV
def VN:ME:=Hi Yi<|Hc (mV 0)<|Hc (mV 1)<|mZ
def fU:MS:=mR<|JM (Hi LR<|Hc (mV 0)<|Hc (mK<|.int 5)<|mZ)<|JM (Hi VD<|Hc (mB Hr (mV 0)<|mK<|.int 0)<|mZ)<|Hi JR<|Hc (Jk (Jw<|Iu (mV 0) (Iq<|mK<|.int 1)<|IS) 1 [1] (Hq 0) IJ<|VN)<|mZ
def Yg:GN:=IX 2 fU
def Yr:MS:=mR<|JM (Hi LR<|Hc (mV 0)<|Hc (mK<|.int 2)<|mZ)<|JM (Hi N3<|Hc (mB Hr (mV 0)<|mK<|.int 0)<|Hc (mK<|.int 1)<|Hc (mK<|.int 12)<|mZ)<|Hi N3<|Hc (mB Hr (mV 0)<|mK<|.int 1)<|Hc (mK<|.int 1)<|Hc (mK<|.int 12)<|mZ
def Yl:GN:=IX 1 Yr
def gB:MS:=mS (Hm (mB Hr (mV 0)<|mK<|.int 1)<|Hq 2)<|mR<|JM (Hi LR<|Hc (mV 1)<|Hc (mK<|.int 2)<|mZ)<|JM (Hi N3<|Hc (mB Hr (mV 1)<|mK<|.int 0)<|Hc (mK<|.int 0)<|Hc (mB Mw (mB Hr (mV 2)<|mK<|.int 0)<|mK<|.int 1)<|mZ)<|Hi N3<|Hc (mB Hr (mV 1)<|mK<|.int 1)<|Hc (mK<|.int 0)<|Hc (mB Mw (mB Hr (mV 2)<|mK<|.int 1)<|mK<|.int 1)<|mZ
def Ym:GN:=IX 3 gB
def fW:MS:=mS (Hm (mB Hr (mB Hr (mV 0)<|mK<|.int 0)<|mK<|.int 2)<|Hq 2)<|mR<|JM (Hi LR<|Hc (mV 1)<|Hc (mK<|.int 3)<|mZ)<|JM (Hi Ym<|Hc (mV 0)<|Hc (Iu (mV 1) IS<|Iq<|mK<|.int 2)<|mZ)<|Hi N3<|Hc (mB Hr (mV 1)<|mK<|.int 2)<|Hc (mK<|.int 0)<|Hc (mB Mw (Hi Ho<|Hc (mV 2)<|mZ)<|mK<|.int 1)<|mZ
def Yc:GN:=IX 3 fW
def V9:ME:=mB Lb (mV 0) (mK<|.str "0123456789")
def iW:MS:=mS (HS (IF (Kj<|mT<|Jj Ik Ik (mK<|.int 1) (Hi Ho<|Hc (mV 0)<|mZ)<|mK<|.int 6)<|Kj<|mT<|Hi JR<|Hc (Jk (Jw<|mV 0) 1 [] (Hq 0) IJ<|V9)<|mZ) (mR<|mK .non)<|Ia) (mS (HS (JY (mT<|mB Il (mB Hr (mV 0)<|mK<|.int 0)<|mK<|.str "0")<|mT<|mB IP (mV 0)<|mK<|.str "0") (mR<|mK .non)<|Ia)<|mR<|Hi Oc<|Hc (mV 0)<|mZ)
def VW:GN:=IX 1 iW
def YS:ME:=Hi VW<|Hc (mV 0)<|mZ
def jF:MS:=mR<|Hi Mr<|Hc (Jk (Jw<|mV 0) 1 [] (Hq 0) IJ<|YS)<|mZ
def Sa:GN:=IX 1 jF
def iV:MS:=mS (Hm (Hi Sa<|Hc (Iu (mV 0) (Iq<|mK<|.int 1)<|IS)<|mZ)<|Hq 3)<|mS (HS (IF (mT<|mB IP (Hi Ho<|Hc (mV 3)<|mZ)<|mK<|.int 1)<|IF (mT<|mB Jg (Hi Ho<|Hc (mV 1)<|mZ)<|mK<|.int 0)<|Kj<|mT<|Hi N3<|Hc (mB Hr (mV 3)<|mK<|.int 0)<|Hc (mK<|.int 1)<|Hc (mK<|.int 4)<|mZ) (mR<|mK .non)<|Ia)<|mR<|mB Hr (mV 3)<|mK<|.int 0
def VV:GN:=IX 4 iV
def YI:MS:=mS (HS (mT<|mB IP (Hi Ho<|Hc (mV 0)<|mZ)<|mK<|.int 3) (mR<|mK .non)<|Ia)<|mS (Hm (mU<|Hc (mB Hr (mV 0)<|mK<|.int 1)<|Hc (Hi VW<|Hc (mB Hr (mV 0)<|mK<|.int 2)<|mZ)<|mZ)<|Hq 3)<|mS (HS (IF (Kj<|mT<|Hi Yn<|Hc (mV 3)<|mZ)<|JY (Nr<|mV 1)<|mT<|mB leB (mB Hr (mV 3)<|mK<|.int 0)<|mB Hr (mB Hr (mV 1)<|Ko<|mK<|.int 1)<|mK<|.int 0) (mR<|mK .non)<|Ia)<|mR<|mV 3
def V0:GN:=IX 4 YI
def VS:ME:=MD (mT<|mB Il (mV 0)<|mK<|.str "-") (mK<|.str "") (mV 0)
def Yv:MS:=mS (HS (mT<|mB Lb (mK<|.str "")<|mV 0) (mR<|mK .non)<|Ia) (mS (Hm (Hi Mr<|Hc (Jk (Jw<|Iu (mV 0) (Iq<|mK<|.int 1)<|IS) 1 [] (Hq 0) IJ<|VS)<|mZ)<|Hq 3)<|mR<|MD (mT<|Hi Yg<|Hc (mV 3)<|Hc (mV 2)<|mZ) (mV 3)<|mK .non)
def VO:GN:=IX 4 Yv
def iD:MS:=mS (Hm (Hi Sa<|Hc (Iu (mV 0) (Iq<|mK<|.int 1)<|IS)<|mZ)<|Hq 3)<|mS (HS (IF (mT<|mB Il (Hi Ho<|Hc (mV 2)<|mZ)<|mK<|.int 0)<|IF (mT<|mB Jg (Hi Ho<|Hc (mV 1)<|mZ)<|mK<|.int 0)<|Kj<|mT<|Hi Yl<|Hc (mV 3)<|mZ) (mR<|mK .non)<|Ia)<|mR<|mV 3
def VZ:GN:=IX 4 iD
def jN:MS:=mS (Hm (Hi Sa<|Hc (Iu (mV 0) (Iq<|mK<|.int 1)<|IS)<|mZ)<|Hq 3)<|mS (HS (IF (Kj<|mT<|Hi Yc<|Hc (mV 2)<|Hc (mV 3)<|mZ)<|JY (Nr<|mV 1)<|mT<|mB leB (Iu (mV 3) IS<|Iq<|mK<|.int 2)<|Iu (mB Hr (mV 1)<|Ko<|mK<|.int 1) IS<|Iq<|mK<|.int 2) (mR<|mK .non)<|Ia)<|mR<|mV 3
def Wg:GN:=IX 4 jN
def N5:Str->Option GN:=λx=>if x="read_enough" then some VV else if x="read_stick" then some V0 else if x="read_kind" then some VO else if x="read_floor" then some VZ else if x="read_seed_tile" then some Wg else none
def T8:MT:=JY (mT<|mB Iv (mV 1)<|Hi Ho<|Hc (mV 0)<|mZ)<|mT<|mB Il (mB Hr (mB Hr (mV 0)<|mV 1)<|mK<|.int 0)<|mV 2
def V1:MS:=mS (Hm (U3 N5 (mV 3)<|Hc (mB Hr (mV 0)<|mV 1)<|Hc (mV 5)<|Hc (mV 4)<|mZ)<|Hq 6)<|mS (HS (mT<|mB JD (mV 6)<|mK .non) (OL LA<|mV 1)<|Ia)<|mS (Lf<|Lh (mV 5)<|Hc (mV 6)<|mZ)<|Lg 1<|mK<|.int 1
def gG:MS:=mS (Hm (mL<|mZ)<|Hq 5)<|mS (J3 T8 V1 9000)<|mR<|Hi Mr<|Hc (mV 5)<|mZ
def QM:GN:=IX 7 gG
def VX:ME:=Mg NI (mV 0) (Hc (mK<|.str " ")<|mZ)
def Yk:MS:=mS (HS (Kj<|mT<|J4 "str"<|mV 0) (OL LA<|mK<|.int 0)<|Ia) (mS (Hm (Jk (Jw<|Mg NI (mV 0)<|Hc (mK<|.str "\n")<|mZ) 1 [] (Hq 0) IJ<|VX)<|Hq 1)<|mS (Pa QM (Hc (mV 1)<|Hc (mK<|.int 0)<|Hc (mK<|.str "enough")<|Hc (mK<|.fn "read_enough")<|Hc (mK .non)<|mZ) 2)<|mS (HS (mT<|mB Il (Hi Ho<|Hc (mV 2)<|mZ)<|mK<|.int 0) (OL LA<|mK<|.int 0)<|Ia)<|mS (Hm (mK<|.int 1)<|Hq 3)<|mS (Pa QM (Hc (mV 1)<|Hc (mV 3)<|Hc (mK<|.str "stick")<|Hc (mK<|.fn "read_stick")<|Hc (mK .non)<|mZ) 4)<|mS (Lg 3<|Hi Ho<|Hc (mV 4)<|mZ)<|mS (Pa QM (Hc (mV 1)<|Hc (mV 3)<|Hc (mK<|.str "kind")<|Hc (mK<|.fn "read_kind")<|Hc (Hi UN<|Hc (mV 4)<|mZ)<|mZ) 5)<|mS (Lg 3<|Hi Ho<|Hc (mV 5)<|mZ)<|mS (Pa QM (Hc (mV 1)<|Hc (mV 3)<|Hc (mK<|.str "floor")<|Hc (mK<|.fn "read_floor")<|Hc (mV 5)<|mZ) 6)<|mS (HS (mT<|mB Il (Hi Ho<|Hc (mV 6)<|mZ)<|mK<|.int 0) (OL LA<|mV 3)<|Ia)<|mS (Lg 3<|mK<|.int 1)<|mS (Hm (mU<|Hc (mB Hr (mV 2)<|mK<|.int 0)<|Hc (mV 4)<|Hc (mV 5)<|mZ)<|Hq 7)<|mS (Pa QM (Hc (mV 1)<|Hc (mV 3)<|Hc (mK<|.str "tile")<|Hc (mK<|.fn "read_seed_tile")<|Hc (mU<|Hc (mV 7)<|Hc (mB Hr (mV 6)<|mK<|.int 0)<|Hc (mU<|mZ)<|mZ)<|mZ) 8)<|mS (Lg 3<|Hi Ho<|Hc (mV 8)<|mZ)<|mS (HS (mT<|mB Iv (mV 3)<|Hi Ho<|Hc (mV 1)<|mZ) (OL LA<|mV 3)<|Ia)<|mR<|mU<|Hc (mV 7)<|Hc (mB Hr (mV 6)<|mK<|.int 0)<|Hc (mV 8)<|mZ)
def R0:GN:=IX 9 Yk
def jD:MS:=mR (JM (J4 "str"<|mV 0)<|JM (Jj Iv Iv (mK<|.int 0) (Hi Ho<|Hc (mV 0)<|mZ)<|mK<|.int 9)<|mB Il (Mg N0 (mV 0)<|Hc (mK<|.str "abcdefghijklmnopqrstuvwxyz")<|mZ)<|mK<|.str "")
def Wa:GN:=IX 1 jD
def V7:ME:=mB Hh (mB Hh (mB Hh (mK<|.str "stick ")<|mV 0)<|mK<|.str " ") (Hi J1<|Hc (mV 1)<|mZ)
def Se:ME:=mB Hh (mV 0) (mB HZ (mK<|.str "-")<|Hi HV<|Hc (mB Il (mV 0)<|mK<|.str "")<|mZ)
def YQ:MS:=Lf (Lh (mV 4)<|Hc (mB Hh (mK<|.str "kind ")<|Mf (mK<|.str " ")<|Hc (Jk (Jw<|mV 5) 1 [] (Hq 0) IJ<|Se)<|mZ)<|mZ)
def V8:ME:=mB Hh (mB Hh (mB Hh (mB Hh (mB Hh (mK<|.str "tile ")<|Hi J1<|Hc (mV 0)<|mZ)<|mK<|.str " ")<|Hi J1<|Hc (mV 1)<|mZ)<|mK<|.str " ") (Hi J1<|Hc (mV 2)<|mZ)
def jC:MS:=mS (Hm (mB Hr (mV 0)<|mK<|.int 0)<|Mm 3<|gC (Hq 1)<|gC (Hq 2)<|gC (Hq 3)<|Lz) (mS (Hm (mB Hh (mL<|Hc (mB Hh (mK<|.str "enough ")<|Hi J1<|Hc (mV 1)<|mZ)<|mZ)<|Jk (Jw<|mV 2) 2 [] (Mm 2<|gC (Hq 0)<|gC (Hq 1)<|Lz) IJ<|V7)<|Hq 4)<|mS (mF (Jw<|mV 3) (Hq 5)<|YQ)<|mS (Lf<|Lh (mV 4)<|Hc (mB Hh (mB Hh (mB Hh (mK<|.str "floor ")<|Hi J1<|Hc (mB Hr (mB Hr (mV 0)<|mK<|.int 1)<|mK<|.int 0)<|mZ)<|mK<|.str " ")<|Hi J1<|Hc (mB Hr (mB Hr (mV 0)<|mK<|.int 1)<|mK<|.int 1)<|mZ)<|mZ)<|mR<|mB Hh (mV 4)<|Jk (Jw<|mB Hr (mV 0)<|mK<|.int 2) 3 [] (Mm 3<|gC (Hq 0)<|gC (Hq 1)<|gC (Hq 2)<|Lz) IJ<|V8)
def VT:GN:=IX 6 jC
def jJ:MS:=mS (HS (IF (mT<|mB Il (mV 0)<|mK<|.str "")<|IF (mT<|mB IP (Mg N0 (mV 0)<|Hc (mK<|.str "0123456789")<|mZ)<|mK<|.str "")<|IF (JY (mT<|mB Il (mB Hr (mV 0)<|mK<|.int 0)<|mK<|.str "0")<|mT<|mB IP (mV 0)<|mK<|.str "0")<|mT<|mB Jg (Hi Ho<|Hc (mV 0)<|mZ)<|mK<|.int 9) (mR<|Ko<|mK<|.int 1)<|Ia) (mR<|Hi Oc<|Hc (mV 0)<|mZ)
def O4:GN:=IX 1 jJ
def zel:MS:=mS (HS (IF (mT<|mB IP (Hi Ho<|Hc (mV 0)<|mZ)<|mK<|.int 3)<|IF (Kj<|mT<|Hi Wa<|Hc (mB Hr (mV 0)<|mK<|.int 1)<|mZ)<|Kj<|mT<|Jj Ik Ik (mK<|.int 1) (Hi O4<|Hc (mB Hr (mV 0)<|mK<|.int 2)<|mZ)<|mK<|.int 4) (mR<|mK<|.bl false)<|Ia)<|mR<|LZ (mB Il (mV 1)<|mL<|mZ)<|mB ltB (mB Hr (mV 1)<|Ko<|mK<|.int 1)<|mB Hr (mV 0)<|mK<|.int 1
def V3:GN:=IX 2 zel
def YX:ME:=LZ (mB Il (mV 0)<|mK<|.str "-") (mB Lb (mV 0)<|mV 1)
def zek:MS:=mS (HS (IF (mT<|mB IP (Hi Ho<|Hc (mV 0)<|mZ)<|mK<|.int 6)<|IF (mT<|mB IP (Hi Ho<|Hc (mB Hr (mV 0)<|mK<|.int 1)<|mZ)<|mK<|.int 1)<|mT<|mB QB (mB Hr (mV 0)<|mK<|.int 1)<|mK<|.str "abcdefghijklmnopqrstuvwxyz0123456789-") (mR<|mK<|.bl false)<|Ia) (mR<|Hi JR<|Hc (Jk (Jw<|Iu (mV 0) (Iq<|mK<|.int 2)<|IS) 1 [1] (Hq 0) IJ<|YX)<|mZ)
def V4:GN:=IX 2 zek
def YY:ME:=Hi O4<|Hc (mV 0)<|mZ
def jL:MS:=mS (HS (mT<|mB IP (Hi Ho<|Hc (mV 0)<|mZ)<|mK<|.int 4) (mR<|mK<|.bl false)<|Ia)<|mS (Hm (Jk (Jw<|Iu (mV 0) (Iq<|mK<|.int 1)<|IS) 1 [] (Hq 0) IJ<|YY)<|Nv 3<|gC (Hq 4)<|gC (Hq 5)<|gC (Hq 6)<|Lz)<|mS (HS (IF (Kj<|mT<|Jj Ik Iv (mK<|.int 0) (mV 4)<|mB Hr (mV 1)<|mK<|.int 0)<|IF (Kj<|mT<|Jj Ik Iv (mK<|.int 0) (mV 5)<|mB Hr (mV 1)<|mK<|.int 1)<|Kj<|mT<|Jj Ik Iv (mK<|.int 0) (mV 6)<|mV 2) (mR<|mK<|.bl false)<|Ia)<|mR<|LZ (mB JD (mV 3)<|mK .non)<|mB ltB (mV 3)<|mU<|Hc (mV 4)<|Hc (mV 5)<|mZ
def T9:GN:=IX 7 jL
def jE:ME:=Hi O4<|Hc (mV 0)<|mZ
def YN:ME:=Jj Ik Ik (mK<|.int 1) (mV 0)<|mK<|.int 12
def YO:ME:=Hi O4<|Hc (mV 0)<|mZ
def T5:MS:=mS (Hm (Mg NI (mV 7)<|Hc (mK<|.str " ")<|mZ)<|Hq 8) (mS (Hm (mK<|.bl false)<|Hq 9)<|mS (HS (mT<|mB Il (mV 6)<|mK<|.int 0) (Hm (JM (mB Il (mB Hr (mV 8)<|mK<|.int 0)<|mK<|.str "enough")<|JM (mB Il (Hi Ho<|Hc (mV 8)<|mZ)<|mK<|.int 2)<|Jj Ik Ik (mK<|.int 1) (Hi O4<|Hc (mB Hr (mV 8)<|mK<|.int 1)<|mZ)<|mK<|.int 4)<|Hq 9)<|HS (JY (mT<|mB Il (mB Hr (mV 8)<|mK<|.int 0)<|mK<|.str "stick")<|JY (mT<|mB Il (mV 2)<|mK<|.int 0)<|mT<|mB JD (mV 3)<|mK .non) (mS (Hm (Hi V3<|Hc (mV 8)<|Hc (mV 1)<|mZ)<|Hq 9)<|Hm (mB Hh (mV 1)<|Iu (mV 8) (Iq<|mK<|.int 1)<|Iq<|mK<|.int 2)<|Hq 1)<|HS (JY (mT<|mB Il (mB Hr (mV 8)<|mK<|.int 0)<|mK<|.str "kind")<|mT<|mB JD (mV 3)<|mK .non) (mS (Hm (Hi V4<|Hc (mV 8)<|Hc (mV 1)<|mZ)<|Hq 9)<|Hm (mB Hh (mV 2)<|mK<|.int 1)<|Hq 2)<|HS (JY (mT<|mB Il (mB Hr (mV 8)<|mK<|.int 0)<|mK<|.str "floor")<|JY (mT<|mB Jg (mV 2)<|mK<|.int 0)<|mT<|mB JD (mV 3)<|mK .non) (mS (Hm (Jk (Jw<|Iu (mV 8) (Iq<|mK<|.int 1)<|IS) 1 [] (Hq 0) IJ<|jE)<|Hq 3)<|Hm (JM (mB Il (Hi Ho<|Hc (mV 3)<|mZ)<|mK<|.int 2)<|Hi JR<|Hc (Jk (Jw<|mV 3) 1 [] (Hq 0) IJ<|YN)<|mZ)<|Hq 9)<|HS (JY (mT<|mB Il (mB Hr (mV 8)<|mK<|.int 0)<|mK<|.str "tile")<|mT<|mB Pc (mV 3)<|mK .non) (mS (Hm (Hi T9<|Hc (mV 8)<|Hc (mV 3)<|Hc (mV 2)<|Hc (mV 4)<|mZ)<|Hq 9)<|Hm (Hi Mr<|Hc (Jk (Jw<|Iu (mV 8) (Iq<|mK<|.int 1)<|Iq<|mK<|.int 3) 1 [] (Hq 0) IJ<|YO)<|mZ)<|Hq 4)<|Ia)<|HS (Kj<|mT<|mV 9) (mR<|mV 6)<|Ia)
def jA:MS:=mS (Hm (mU<|Hc (mL<|mZ)<|Hc (mK<|.int 0)<|Hc (mK .non)<|Hc (mK .non)<|mZ)<|Mm 4<|gC (Hq 1)<|gC (Hq 2)<|gC (Hq 3)<|gC (Hq 4)<|Lz) (mS (Hm (Mg NI (mV 0)<|Hc (mK<|.str "\n")<|mZ)<|Hq 5)<|mS (mF (Sw<|mV 5) (Mm 2<|gC (Hq 6)<|gC (Hq 7)<|Lz)<|T5)<|mR<|MD (mT<|mB JD (mV 3)<|mK .non) (Hi Ho<|Hc (mV 5)<|mZ)<|mK .non)
def T7:GN:=IX 10 jA
def iA:MS:=mS (Hm (mK .non)<|Hq 1) (mS (Sx "bed" R0 (Hc (mV 0)<|mZ) 1 2 "NoText" "line"<|mS (Hm (Hi (Qo<|J0 NP)<|Hc (mV 2)<|Hc (mU<|Hc (mK<|.fn "NoGrowing")<|Hc (mK<|.fn "NoPlace")<|Hc (mK<|.fn "Taken")<|Hc (mK<|.fn "NoKind")<|Hc (mK<|.fn "NotHeld")<|Hc (mK<|.fn "NothingBack")<|mZ)<|mZ)<|Hq 3)<|mS (Hm (LZ (mV 3)<|Hi (Qo<|J0 NP)<|Hc (mV 2)<|Hc (mU<|Hc (mK<|.fn "NotSure")<|Hc (mK<|.fn "TooMany")<|Hc (mK<|.fn "NotFramed")<|Hc (mK<|.fn "NoLine")<|mZ)<|mZ)<|Hq 3)<|Hm (MD (JY (mT<|Hi (Qo<|J0 NP)<|Hc (mV 2)<|Hc (mK<|.fn "NoText")<|mZ)<|Kj<|mT<|mV 3) (mU<|Hc (mK<|.str "row")<|Hc (Nt (Um "NoText") "line"<|mV 2)<|mZ)<|mU<|Hc (mK<|.str "other")<|Hc (mK .non)<|mZ)<|Hq 1)<|mR<|mV 1)
def QQ:GN:=IX 4 iA
def iC:MS:=mS (Hm (mK<|.str " !\"#$&'()*+,-./0123456789:;<=>?@ABCDEFGHIJKLMNOPQRSTUVWXYZ[\\]^_`abcdefghijklmnopqrstuvwxyz{|}~")<|Hq 1) (mR<|mB Hr (mV 1)<|Hi Js<|Hc (mV 0)<|Hc (Hi Ho<|Hc (mV 1)<|mZ)<|mZ)
def VY:GN:=IX 2 iC
def zeQ:MS:=mS (K3 2 3<|Hc (Hi Js<|Hc (mV 0)<|Hc (mB Hh (Hi Ho<|Hc (mV 1)<|mZ)<|mK<|.int 1)<|mZ)<|Hc (Hi Js<|Hc (mV 0)<|Hc (mK<|.int 7)<|mZ)<|mZ) (mS (Hm (Hi KO<|Hc (mV 0)<|Hc (mL<|Hc (Hi VY<|Hc (mV 0)<|mZ)<|Hc (Hi KO<|Hc (mV 0)<|Hc (mL<|Hc (mK<|.str " ")<|Hc (mK<|.str "\n")<|Hc (mK<|.str "0")<|Hc (mK<|.str "-")<|Hc (mK<|.str ",")<|Hc (mK<|.str "1")<|Hc (mK<|.str "a")<|mZ)<|mZ)<|mZ)<|mZ)<|Hq 4)<|mS (HS (mT<|mB Iv (mV 3)<|mK<|.int 2) (mR<|mB Hh (mB Hh (I0 (mV 1) IS<|Iq<|mV 2)<|mV 4)<|I0 (mV 1) (Iq<|mV 2)<|IS)<|Ia)<|mS (HS (mT<|mB Iv (mV 3)<|mK<|.int 4) (mR<|mB Hh (I0 (mV 1) IS<|Iq<|mV 2)<|I0 (mV 1) (Iq<|mB Hh (mV 2)<|mK<|.int 1)<|IS)<|Ia)<|mS (HS (mT<|mB Iv (mV 3)<|mK<|.int 6) (mR<|mB Hh (mB Hh (I0 (mV 1) IS<|Iq<|mV 2)<|mV 4)<|I0 (mV 1) (Iq<|mB Hh (mV 2)<|mK<|.int 1)<|IS)<|Ia)<|mR<|I0 (mV 1) IS<|Iq<|mV 2)
def Y0:GN:=IX 5 zeQ
def jK:MS:=mS (Wy 2 3 4<|Hc (Hi Js<|Hc (mV 0)<|Hc (Hi Ho<|Hc (mV 1)<|mZ)<|mZ)<|Hc (Hi Js<|Hc (mV 0)<|Hc (Hi Ho<|Hc (mV 1)<|mZ)<|mZ)<|Hc (Hi Js<|Hc (mV 0)<|Hc (mK<|.int 9)<|mZ)<|mZ) (mS (Hm (Mg NI (mB Hr (mV 1)<|mV 2)<|Hc (mK<|.str " ")<|mZ)<|Hq 5)<|mS (Hm (Hi Js<|Hc (mV 0)<|Hc (Hi Ho<|Hc (mV 5)<|mZ)<|mZ)<|Hq 6)<|mS (Hm (mL<|Hc (mK<|.str "")<|Hc (mK<|.str "-")<|Hc (mK<|.str "0")<|Hc (mK<|.str "1")<|Hc (mK<|.str "4")<|Hc (mK<|.str "5")<|Hc (mK<|.str "12")<|Hc (mK<|.str "13")<|Hc (mK<|.str "00")<|Hc (mK<|.str "01")<|Hc (mK<|.str "a")<|Hc (mK<|.str "A")<|Hc (mK<|.str "enough")<|Hc (mK<|.str "stick")<|Hc (mK<|.str "kind")<|Hc (mK<|.str "floor")<|Hc (mK<|.str "tile")<|mZ)<|Hq 7)<|mS (Hm (mB Hh (mV 7)<|mL<|Hc (mK<|.str "abcdefghi")<|Hc (mK<|.str "aa")<|Hc (mK<|.str "+1")<|Hc (mK<|.str "1.0")<|Hc (mK<|.str "-1")<|Hc (mK<|.str "_")<|Hc (mB HZ (mK<|.str "9")<|mK<|.int 7)<|Hc (mB HZ (mK<|.str "9")<|mK<|.int 50)<|Hc (mB Hr (mV 5)<|Ko<|mK<|.int 1)<|Hc (mB Hr (mV 5)<|mK<|.int 0)<|Hc (mB Hr (mV 1)<|mV 3)<|mZ)<|Hq 7)<|mS (Hm (Hi KO<|Hc (mV 0)<|Hc (mV 7)<|mZ)<|Hq 8)<|mS (K3 9 10<|Hc (I0 (mV 1) IS<|Iq<|mV 2)<|Hc (I0 (mV 1) (Iq<|mB Hh (mV 2)<|mK<|.int 1)<|IS)<|mZ)<|mS (K3 11 12<|Hc (I0 (mV 5) IS<|Iq<|mV 6)<|Hc (I0 (mV 5) (Iq<|mB Hh (mV 6)<|mK<|.int 1)<|IS)<|mZ)<|mS (HS (mT<|mB Iv (mV 4)<|mK<|.int 3) (mR<|mB Hh (mB Hh (mV 9)<|mL<|Hc (Mf (mK<|.str " ")<|Hc (mB Hh (mB Hh (mV 11)<|mL<|Hc (mV 8)<|mZ)<|mV 12)<|mZ)<|mZ)<|mV 10)<|Ia)<|mS (HS (mT<|mB Il (mV 4)<|mK<|.int 3) (mR<|mB Hh (mB Hh (mV 9)<|mL<|Hc (Mf (mK<|.str " ")<|Hc (mB Hh (mV 11)<|mV 12)<|mZ)<|mZ)<|mV 10)<|Ia)<|mS (HS (mT<|mB Il (mV 4)<|mK<|.int 4) (mR<|mB Hh (mB Hh (mV 9)<|mL<|Hc (Mf (mK<|.str " ")<|Hc (mB Hh (mB Hh (mV 11)<|mL<|Hc (mV 8)<|mZ)<|I0 (mV 5) (Iq<|mV 6)<|IS)<|mZ)<|mZ)<|mV 10)<|Ia)<|mS (HS (mT<|mB Il (mV 4)<|mK<|.int 5) (mR<|mB Hh (mV 9)<|mV 10)<|Ia)<|mS (HS (mT<|mB Il (mV 4)<|mK<|.int 6) (mR<|mB Hh (mB Hh (mV 9)<|mL<|Hc (mB Hr (mV 1)<|mV 3)<|mZ)<|I0 (mV 1) (Iq<|mV 2)<|IS)<|Ia)<|mS (HS (mT<|mB Il (mV 4)<|mK<|.int 7) (mR<|mB Hh (mB Hh (mV 9)<|mL<|Hc (mK<|.str "")<|mZ)<|I0 (mV 1) (Iq<|mV 2)<|IS)<|Ia)<|mR<|mB Hh (mB Hh (mV 9)<|mL<|Hc (mB Hr (mV 1)<|mV 3)<|mZ)<|mV 10)
def YZ:GN:=IX 13 jK
def YG:MS:=mS (HS (mT<|mB Il (Hi Js<|Hc (mV 0)<|Hc (mK<|.int 3)<|mZ)<|mK<|.int 0) (mR<|Hi Y0<|Hc (mV 0)<|Hc (mV 1)<|mZ)<|Ia) (mR<|Mf (mK<|.str "\n")<|Hc (Hi YZ<|Hc (mV 0)<|Hc (Mg NI (mV 1)<|Hc (mK<|.str "\n")<|mZ)<|mZ)<|mZ)
def Sb:GN:=IX 2 YG
def Xe:MS:=mS (Hm (Hi Sb<|Hc (mV 2)<|Hc (mV 3)<|mZ)<|Hq 5) (mS (HS (mT<|mB Il (Hi Js<|Hc (mV 2)<|Hc (mK<|.int 2)<|mZ)<|mK<|.int 0) (Hm (Hi Sb<|Hc (mV 2)<|Hc (mV 5)<|mZ)<|Hq 5)<|Ia)<|mS (K3 6 7<|Hc (Hi T7<|Hc (mV 5)<|mZ)<|Hc (Hi QQ<|Hc (mV 5)<|mZ)<|mZ)<|mS (HS (mT<|mB IP (mV 7)<|Hi QQ<|Hc (mV 5)<|mZ) (mR<|mK<|.bl false)<|Ia)<|mS (HS (JY (mT<|mB Pc (mV 6)<|mK .non)<|mT<|mB IP (mV 7)<|mU<|Hc (mK<|.str "row")<|Hc (mV 6)<|mZ) (mR<|mK<|.bl false)<|Ia)<|HS (JY (mT<|mB JD (mV 6)<|mK .non)<|IF (mT<|mB IP (mB Hr (mV 7)<|mK<|.int 0)<|mK<|.str "bed")<|mT<|mB Sh (Mf (mK<|.str "\n")<|Hc (Hi VT<|Hc (mB Hr (mV 7)<|mK<|.int 1)<|mZ)<|mZ)<|mV 5) (mR<|mK<|.bl false)<|Ia)
def Vo:MS:=mS (Hm (Hi Yy<|Hc (mV 0)<|Hc (mV 1)<|mZ)<|Hq 2) (mS (Hm (Mf (mK<|.str "\n")<|Hc (Hi VT<|Hc (Hi Yx<|Hc (mV 2)<|Hc (Hi KO<|Hc (mV 2)<|Hc (mL<|Hc (mK<|.int 1)<|Hc (mK<|.int 3)<|Hc (mK<|.int 6)<|mZ)<|mZ)<|mZ)<|mZ)<|mZ)<|Hq 3)<|mF (NO<|mK<|.int 12) (Hq 4)<|Xe)
def Z5:MS:=mS (mF (NO<|Hi Sy<|Hc (mK<|.int 1)<|Hc (Hi Sz<|Hc (Hi Ho<|Hc (mV 0)<|mZ)<|Hc (mK<|.int 8)<|mZ)<|mZ) (Hq 1)<|Vo)<|mR<|mK<|.bl true
def WC:GN:=IX 8 Z5
open L2 PySem.Spec PyProof.Rows
def hJ:MU "NoText" "line" "line" (Hx.inClass (top 16) 0):=⟨Qs<|by decide +kernel,⟨_,_,_,_,rfl,λ_=>rfl⟩,rfl,rfl,rfl,rfl,λ_ _ _ _ _ _=>Oa λ_ _=>rfl⟩
section
variable {P:P3}{w:UF}{K:Ac}{mg:Str->Option IR}{base:Pv} (Z:En K mg fns Sm cos) (Y:EE K mg Sk)
def Uq:(["sign"]:List Str).Nodup:=by decide +kernel
def Zz:(["part","names"]:List Str).Nodup:=by decide +kernel
def Uo:(["word"]:List Str).Nodup:=by decide +kernel
def lH:(["row"]:List Str).Nodup:=by decide +kernel
def lI:(["_law_k","_law_letters","_law_pot_here"]:List Str).Nodup:=by decide +kernel
def lJ:(["_law_name","_law_pot_here"]:List Str).Nodup:=by decide +kernel
def lK:(["_law_side","_law_pot_here","_law_sides"]:List Str).Nodup:=by decide +kernel
def G4:(["_law_place","_law_kind"]:List Str).Nodup:=by decide +kernel
def G5:(["_law_name","_law_strength"]:List Str).Nodup:=by decide +kernel
def lL:(["_law_part"]:List Str).Nodup:=by decide +kernel
def Wz:(["_law_x","_law_y","_law_kind"]:List Str).Nodup:=by decide +kernel
def lN:(["_law_word","_law_names_here"]:List Str).Nodup:=by decide +kernel
def WA:(["_law_word"]:List Str).Nodup:=by decide +kernel
def lO:(["_law_one"]:List Str).Nodup:=by decide +kernel
def wI{X:Cx}{k:Nat}(h0:IY X.prog X.w X.K X.mg X.base k "read_enough" 3 VV)(a:IY X.prog X.w X.K X.mg X.base k "read_stick" 3 V0)(c:IY X.prog X.w X.K X.mg X.base k "read_kind" 3 VO)(f:IY X.prog X.w X.K X.mg X.base k "read_floor" 3 VZ)(h:IY X.prog X.w X.K X.mg X.base k "read_seed_tile" 3 Wg):Z6 X k 3 N5:=by
 intro x g e;unfold N5 at e;split at e
 ·rename_i q;subst q;cases e;exact h0
 split at e
 ·rename_i q;subst q;cases e;exact a
 split at e
 ·rename_i q;subst q;cases e;exact c
 split at e
 ·rename_i q;subst q;cases e;exact f
 split at e
 ·rename_i q;subst q;cases e;exact h
 cases e
include Z Y
theorem QR:IY P w K mg base 1 "is_whole" 3 N3:=JB (k:=0) Z (top 3) 0 ["thing","least","most"] ["thing","least","most"] λo f l A outer s H E r=>IV.out (HJ<|JS.mk<|Im<|KU (L5 Z (He 0) Qv)<|KU (pD<|L5 Z (He 0) sO)<|Nk<|TJ LN LN (He 1) (He 0)<|He 2)
theorem TZ:IY P w K mg base 1 "is_tuple" 2 LR:=JB (k:=0) Z (top 4) 1 ["thing","size"] ["thing","size"] λr f l A outer s H E o=>IV.out (HJ<|JS.mk<|Im<|KU (L5 Z (He 0) Pq)<|Nk<|LO (JP<|IA o) (Jd Z JE JF<|Hf (He 0)<|Hk) (He 1) rfl)
theorem zka:IY P w K mg base 1 "is_name" 1 Yh:=JB (k:=0) Z (top 5) 2 ["thing"] ["thing"] λu f o A outer s H E r=>IV.out (HJ<|JS.mk<|Im<|KU (L5 Z (He 0) NH)<|KU (TJ LN LN Hj (Jd Z JE JF<|Hf (He 0)<|Hk)<|Hj)<|Nk<|Jd Z (TN rfl) SN<|Hf (Ml rfl rfl (cS ["sign"] 1 [] []) (Mt<|He 0) (λC s0 l fp=>sgn 0 Uq) (λC s0 l fp=>LG) λC s0 l fp=>Tq (IA r) (He 0) (XC rfl (Z.cs 0).choose_spec))<|Hk)
theorem ziX:IY P w K mg base 2 "is_stick" 1 Yn:=JB (k:=1) Z (top 6) 3 ["thing"] ["thing"] λr f o A outer s H E l=>IV.out (HJ<|JS.mk<|Im<|KU (HK (TZ Z Y) l<|Hf (He 0)<|Hf Hj<|Hk)<|KU (HK (zka Z Y) l<|Hf (Ii (HY l) (He 0)<|Hj)<|Hk)<|Nk<|HK (QR Z Y) l<|Hf (Ii (HY l) (He 0)<|Hj)<|Hf Hj<|Hf Hj<|Hk)
theorem zkc:IY P w K mg base 1 "is_face" 1 VD:=JB (k:=0) Z (top 7) 4 ["thing"] ["thing"] λr f l A outer s H E o=>IV.out (HJ<|JS.mk<|Im<|KU (L5 Z (He 0) NH)<|KU (LO LN (Jd Z JE JF<|Hf (He 0)<|Hk) Hj rfl)<|Nk<|Tq (IA o) (He 0)<|XC rfl (Z.cs 1).choose_spec)
theorem zj9:IY P w K mg base 1 "is_side" 2 Yi:=JB (k:=0) Z (top 8) 5 ["thing","names"] ["thing","names"] λr f o A outer s H E l=>IV.out (HJ<|JS.mk<|Im<|KU (L5 Z (He 0) NH)<|Nk<|SD (LO (JP<|IA l) (He 0) HF rfl)<|Tr<|Tq (IA l) (He 0)<|He 1)
theorem zkb:IY P w K mg base 2 "is_kind" 2 Yg:=JB (k:=1) Z (top 9) 6 ["thing","names"] ["thing","names"] λu f r A outer s H E l=>IV.out (HJ<|JS.mk<|Im<|KU (HK (TZ Z Y) l<|Hf (He 0)<|Hf Hj<|Hk)<|KU (HK (zkc Z Y) l<|Hf (Ii (HY l) (He 0)<|Hj)<|Hk)<|Nk<|Jd Z (TN rfl) SN<|Hf (Ml rfl rfl (RR (N':=["part","names"]) (nt:=1) (fr:=[1]) ["names"] rfl (by decide +kernel) (by decide +kernel) (by decide +kernel) rfl ⟨⟨rfl,by decide⟩,trivial⟩ ⟨by first|exact Bu rfl|exact Bq rfl,trivial⟩) (Mt<|M9 (He 0) (JV<|Hj)<|Ki) (λC s0 o fp=>sgn 0 Zz) (λC s0 o fp=>LG) λC s0 o fp=>HK (zj9 Z Y) l (Hf (He 0)<|Hf (He 1)<|Hk))<|Hk)
theorem ziZ:IY P w K mg base 2 "is_floor" 1 Yl:=JB (k:=1) Z (top 10) 7 ["thing"] ["thing"] λr f o A outer s H E l=>IV.out (HJ<|JS.mk<|Im<|KU (HK (TZ Z Y) l<|Hf (He 0)<|Hf Hj<|Hk)<|KU (HK (QR Z Y) l<|Hf (Ii (HY l) (He 0)<|Hj)<|Hf Hj<|Hf Hj<|Hk)<|Nk<|HK (QR Z Y) l<|Hf (Ii (HY l) (He 0)<|Hj)<|Hf Hj<|Hf Hj<|Hk)
theorem ziY:IY P w K mg base 2 "is_place" 2 Ym:=JB (k:=1) Z (top 11) 8 ["bed","thing","floor"] ["bed","thing"] λo f r A outer s H E l=>IV.out (HC (JS.mk<|IB 2 o<|Ii (HY l) (He 0)<|Hj)<|HJ<|JS.mk<|Im<|KU (HK (TZ Z Y) l<|Hf (He 1)<|Hf Hj<|Hk)<|KU (HK (QR Z Y) l<|Hf (Ii (HY l) (He 1)<|Hj)<|Hf Hj<|Hf (HI XE (Ii (HY l) (He 2)<|Hj)<|Hj)<|Hk)<|Nk<|HK (QR Z Y) l<|Hf (Ii (HY l) (He 1)<|Hj)<|Hf Hj<|Hf (HI XE (Ii (HY l) (He 2)<|Hj)<|Hj)<|Hk)
theorem zj8:IY P w K mg base 3 "is_tile" 2 Yc:=JB (k:=2) Z (top 12) 9 ["bed","thing","kinds"] ["bed","thing"] λo f r A outer s H E l=>IV.out (HC (JS.mk<|IB 2 o<|Ii (HY l) (Ii (HY l) (He 0)<|Hj)<|Hj)<|HJ<|JS.mk<|Im<|KU (HK (TZ Z Y) l<|Hf (He 1)<|Hf Hj<|Hk)<|KU (HK (ziY Z Y) l<|Hf (He 0)<|Hf (M9 (He 1) Ki<|JV<|Hj)<|Hk)<|Nk<|HK (QR Z Y) l<|Hf (Ii (HY l) (He 1)<|Hj)<|Hf Hj<|Hf (HI XE (Jd Z JE JF<|Hf (He 2)<|Hk)<|Hj)<|Hk)
theorem jH:IY P w K mg base 1 "read_number" 1 VW:=JB (k:=0) Z (top 29) 10 ["word"] ["word"] λu f r A outer s H E l=>IV.out (HC (Jr (SW.sb<|LK (M4<|TH LN LN Hj (Jd Z JE JF<|Hf (He 0)<|Hk)<|uE rfl (Z.ci 2).choose_spec)<|OO<|M4<|NV<|Jd Z (TN rfl) SN<|Hf (Ml rfl rfl (cS ["sign"] 1 [] []) (Mt<|He 0) (λC s0 o fp=>sgn 0 Uq) (λC s0 o fp=>LG) λC s0 o fp=>Tq (IA l) (He 0) (XC rfl (Z.cs 3).choose_spec))<|Hk) (HJ<|JS.mk<|Im<|KA)<|JK)<|HC (Jr (SW.sb<|LH (Io (JP<|IA l) (Ii (HY l) (He 0)<|Hj) HF rfl)<|Mj<|Io (Mq<|IA l) (He 0) HF rfl) (HJ<|JS.mk<|Im<|KA)<|JK)<|HJ<|JS.mk<|Im<|Lc Z fG Qv<|Hf (He 0)<|Hk)
theorem YR:IY P w K mg base 2 "read_numbers" 1 Sa:=JB (k:=1) Z (top 30) 11 ["words"] ["words"] λu f o A outer s H E r=>IV.out (HJ<|JS.mk<|Im<|Lc Z Qj Pq<|Hf (Ml rfl rfl (cS ["word"] 1 [] []) (Mt<|He 0) (λC s0 l fp=>sgn 0 Uo) (λC s0 l fp=>LG) λC s0 l fp=>HK (jH Z Y) r (Hf (He 0)<|Hk))<|Hk)
theorem zgh:IY P w K mg base 3 "read_enough" 3 VV:=JB (k:=2) Z (top 31) 12 ["words","ahead","known","numbers"] ["words","ahead","known"] λo f r A outer s H E l=>IV.out (HC (JS.mk<|IB 3 o<|HK (YR Z Y) l<|Hf (M9 (He 0) (JV<|Hj)<|Ki)<|Hk)<|HC (Jr (SW.sb<|LK (Io (Mq<|IA l) (Jd Z JE JF<|Hf (He 3)<|Hk) Hj rfl)<|LK (Io RH (Jd Z JE JF<|Hf (He 1)<|Hk) Hj rfl)<|OO<|M4<|NV<|HK (QR Z Y) l<|Hf (Ii (HY l) (He 3)<|Hj)<|Hf Hj<|Hf Hj<|Hk) (HJ<|JS.mk<|Im<|KA)<|JK)<|HJ<|JS.mk<|Im<|Ii (HY l) (He 3)<|Hj)
theorem zgV:IY P w K mg base 3 "read_stick" 3 V0:=JB (k:=2) Z (top 32) 13 ["words","ahead","known","stick"] ["words","ahead","known"] λo f r A outer s H E l=>IV.out (HC (Jr (Io (Mq<|IA l) (Jd Z JE JF<|Hf (He 0)<|Hk) Hj rfl) (HJ<|JS.mk<|Im<|KA)<|JK)<|HC (JS.mk<|IB 3 o<|Ls<|Hf (Ii (HY l) (He 0)<|Hj)<|Hf (HK (jH Z Y) l<|Hf (Ii (HY l) (He 0)<|Hj)<|Hk)<|Hk)<|HC (Jr (SW.sb<|LK (M4<|NV<|HK (ziX Z Y) l<|Hf (He 3)<|Hk)<|OO<|SW.sb<|LH (aN<|He 1)<|Mj<|Io (aY<|IA l) (Ii (HY l) (He 3)<|Hj) (Ii (HY l) (Ii (HY l) (He 1)<|RI<|Hj)<|Hj) rfl) (HJ<|JS.mk<|Im<|KA)<|JK)<|HJ<|JS.mk<|Im<|He 3)
theorem zhA:IY P w K mg base 3 "read_kind" 3 VO:=JB (k:=2) Z (top 33) 14 ["words","ahead","names","kind"] ["words","ahead","names"] λr f u A outer s H E l=>IV.out (HC (Jr (qY (IA l) HF<|He 0) (HJ<|JS.mk<|Im<|KA)<|JK)<|HC (JS.mk<|IB 3 r<|Lc Z Qj Pq<|Hf (Ml rfl rfl (cS ["word"] 1 [] []) (Mt<|M9 (He 0) (JV<|Hj)<|Ki) (λC s0 o fp=>sgn 0 Uo) (λC s0 o fp=>LG) λC s0 o fp=>Vg (Io (JP<|IA l) (He 0) HF rfl) HF (He 0))<|Hk)<|HJ<|JS.mk<|Im<|Vg (NV<|HK (zkb Z Y) l<|Hf (He 3)<|Hf (He 2)<|Hk) (He 3)<|KA)
theorem zgW:IY P w K mg base 3 "read_floor" 3 VZ:=JB (k:=2) Z (top 34) 15 ["words","ahead","kinds","floor"] ["words","ahead","kinds"] λo f r A outer s H E l=>IV.out (HC (JS.mk<|IB 3 o<|HK (YR Z Y) l<|Hf (M9 (He 0) (JV<|Hj)<|Ki)<|Hk)<|HC (Jr (SW.sb<|LK (Io (JP<|IA l) (Jd Z JE JF<|Hf (He 2)<|Hk) Hj rfl)<|LK (Io RH (Jd Z JE JF<|Hf (He 1)<|Hk) Hj rfl)<|OO<|M4<|NV<|HK (ziZ Z Y) l<|Hf (He 3)<|Hk) (HJ<|JS.mk<|Im<|KA)<|JK)<|HJ<|JS.mk<|Im<|He 3)
theorem zeG:IY P w K mg base 4 "read_seed_tile" 3 Wg:=JB (k:=3) Z (top 35) 16 ["words","ahead","bed","tile"] ["words","ahead","bed"] λo f r A outer s H E l=>IV.out (HC (JS.mk<|IB 3 o<|HK (YR Z Y) l<|Hf (M9 (He 0) (JV<|Hj)<|Ki)<|Hk)<|HC (Jr (SW.sb<|LK (M4<|NV<|HK (zj8 Z Y) l<|Hf (He 2)<|Hf (He 3)<|Hk)<|OO<|SW.sb<|LH (aN<|He 1)<|Mj<|Io (aY<|IA l) (M9 (He 3) Ki<|JV<|Hj) (M9 (Ii (HY l) (He 1)<|RI<|Hj) Ki<|JV<|Hj) rfl) (HJ<|JS.mk<|Im<|KA)<|JK)<|HJ<|JS.mk<|Im<|He 3)
theorem T3:Nz P w K mg base 5 "read_run" 5 "NoText" "line" QM:=dU (k:=4) Z Y hJ 2 (top 36) 17 ["rows","line","word","read_one","known","found","part"] ["rows","line","word","read_one","known"] λo C R f r A outer s H E l=>Le (Ng<|IB 5 o<|J8<|Hk) (Le (zL PassesOwn.leaving (SW.sb<|LH (Io Mp (He 1) (Jd Z JE JF<|Hf (He 0)<|Hk) rfl)<|Mj<|Io (JP<|IA l) (Ii (HY l) (Ii (HY l) (He 0)<|He 1)<|Hj) (He 2) rfl)<|Le (Ng<|IB 6 o<|xT (k:=4) (wI ((zgh Z Y).mono<|by decide) ((zgV Z Y).mono<|by decide) ((zhA Z Y).mono<|by decide) ((zgW Z Y).mono<|by decide)<|(zeG Z Y).mono<|by decide) (l.mono<|by decide) (He 3) (Hf (Ii (HY l) (He 0)<|He 1)<|Hf (He 5)<|Hf (He 4)<|Hk)<|IZ.cons<|IZ.cons<|IZ.cons IZ.nil)<|Le (SH (Io QG (He 6) KA rfl) (Qh<|UB R l<|He 1)<|Td RP)<|Le (Ng<|Tz<|TV (He 5)<|Hf (He 6)<|Hk)<|Qh<|Ng<|Tb (i:=1) o rfl (by first|exact Bu rfl|exact Bq rfl)<|Hj)<|Qh<|Ng<|Im<|Lc Z Qj Pq<|Hf (He 5)<|Hk)
theorem ziW:Nz P w K mg base 6 "read_bed" 1 "NoText" "line" R0:=dU (k:=5) Z Y hJ 2 (top 37) 18 ["text","rows","enough","line","sticks","kinds","floors","house","seed"] ["text"] λo C R f u A outer s H E l=>Le (SH (M4<|NV<|L5 Z (He 0) NH) (Qh<|UB R l<|Hj)<|Td RP) (Le (Ng<|pO<|iP (i:=1) rfl rfl (cS ["row"] 1 [] []) (Mt<|Qe BC BD RV (He 0)<|Hf HF<|Hk) (λC s0 r fp=>sgn 0 lH) (λC s0 r fp=>LG) (λC s0 r fp=>Qe BC BD RV (He 0) (Hf HF<|Hk)) o rfl rfl)<|Le (TB (i:=2) (T3 Z Y) R.fn (l.mono<|by decide) (JA.out<|Hy (He 1)<|Hy Hj<|Hy HF<|Hy (UA Z 12)<|Hy KA<|LF) (IZ.cons<|IZ.cons<|IZ.cons<|IZ.cons<|IZ.cons IZ.nil) o rfl<|by first|exact Bu rfl|exact Bq rfl)<|Le (SH (Io (JP<|IA l) (Jd Z JE JF<|Hf (He 2)<|Hk) Hj rfl) (Qh<|UB R l<|Hj)<|Td RP)<|Le (Ng<|IB 3 o<|Hj)<|Le (TB (i:=4) (T3 Z Y) R.fn (l.mono<|by decide) (JA.out<|Hy (He 1)<|Hy (He 3)<|Hy HF<|Hy (UA Z 13)<|Hy KA<|LF) (IZ.cons<|IZ.cons<|IZ.cons<|IZ.cons<|IZ.cons IZ.nil) o rfl<|by first|exact Bu rfl|exact Bq rfl)<|Le (Ng<|Tb (i:=3) o rfl (by first|exact Bu rfl|exact Bq rfl)<|Jd Z JE JF<|Hf (He 4)<|Hk)<|Le (TB (i:=5) (T3 Z Y) R.fn (l.mono<|by decide) (JA.out<|Hy (He 1)<|Hy (He 3)<|Hy HF<|Hy (UA Z 14)<|Hy (Lc Z (zi9 rfl) sP<|Hf (He 4)<|Hk)<|LF) (IZ.cons<|IZ.cons<|IZ.cons<|IZ.cons<|IZ.cons IZ.nil) o rfl<|by first|exact Bu rfl|exact Bq rfl)<|Le (Ng<|Tb (i:=3) o rfl (by first|exact Bu rfl|exact Bq rfl)<|Jd Z JE JF<|Hf (He 5)<|Hk)<|Le (TB (i:=6) (T3 Z Y) R.fn (l.mono<|by decide) (JA.out<|Hy (He 1)<|Hy (He 3)<|Hy HF<|Hy (UA Z 15)<|Hy (He 5)<|LF) (IZ.cons<|IZ.cons<|IZ.cons<|IZ.cons<|IZ.cons IZ.nil) o rfl<|by first|exact Bu rfl|exact Bq rfl)<|Le (SH (Io (JP<|IA l) (Jd Z JE JF<|Hf (He 6)<|Hk) Hj rfl) (Qh<|UB R l<|He 3)<|Td RP)<|Le (Ng<|Tb (i:=3) o rfl (by first|exact Bu rfl|exact Bq rfl)<|Hj)<|Le (Ng<|IB 7 o<|Ls<|Hf (Ii (HY l) (He 2)<|Hj)<|Hf (He 4)<|Hf (He 5)<|Hk)<|Le (TB (i:=8) (T3 Z Y) R.fn (l.mono<|by decide) (JA.out<|Hy (He 1)<|Hy (He 3)<|Hy HF<|Hy (UA Z 16)<|Hy (Ls<|Hf (He 7)<|Hf (Ii (HY l) (He 6)<|Hj)<|Hf (Ls<|Hk)<|Hk)<|LF) (IZ.cons<|IZ.cons<|IZ.cons<|IZ.cons<|IZ.cons IZ.nil) o rfl<|by first|exact Bu rfl|exact Bq rfl)<|Le (Ng<|Tb (i:=3) o rfl (by first|exact Bu rfl|exact Bq rfl)<|Jd Z JE JF<|Hf (He 8)<|Hk)<|Le (SH (Io Mp (He 3) (Jd Z JE JF<|Hf (He 1)<|Hk) rfl) (Qh<|UB R l<|He 3)<|Td RP)<|Qh<|Ng<|Im<|Ls<|Hf (He 7)<|Hf (Ii (HY l) (He 6)<|Hj)<|Hf (He 8)<|Hk)
theorem zhB:IY P w K mg base 1 "_law_pot" 2 Yy:=JB (k:=0) Z (top 39) 19 ["_law_script","_law_k","_law_cell","_law_number_here","_law_part","_law_mixed"] ["_law_script","_law_k"] λl f o A outer s H E r=>IV.out (HC (JS.mk<|IB 2 l<|Hj)<|HC (Jr (Io Mp (He 1) (Jd Z JE JF<|Hf (He 0)<|Hk) rfl) (HJ<|JS.mk<|IB 2 l<|Ii (HY r) (He 0)<|He 1)<|JK)<|HC (JS.mk<|IB 3 l<|HI Ir (HI NL Hj<|HI Tt (Jd Z zmW oP<|Hf (He 2)<|Hk)<|HI XD (HI XD Hj<|Hj)<|Hj)<|Lc Z TQ Qv<|Hf (LO Mp (He 2) Hj rfl)<|Hk)<|HC (JS.mk<|IB 4 l<|HI Tt (He 3)<|Hj)<|HC (JS.mk<|IB 5 l<|HI Tt (HI Ir (HI Ir (HI NL (He 4)<|Hj)<|HI NL Hj<|He 1)<|Hj)<|Hj)<|HJ<|JS.mk<|Im<|J8<|Hf (HI NL (He 3)<|Lc Z TQ Qv<|Hf (LO oH (He 3) (HI NL Hj<|HI XD Hj<|Hj) rfl)<|Hk)<|Hf (He 5)<|Hk)
theorem KW:IY P w K mg base 1 "_law_next" 2 Js:=JB (k:=0) Z (top 40) 20 ["_law_pot_here","_law_many","_law_digit"] ["_law_pot_here","_law_many"] λo f r A outer s H E l=>IV.out (HC (Jr (Io RH (Ii (HY l) (He 0)<|Hj) Hj rfl) (HC (JS.mk<|IB 2 o<|HI Tt (Ii (HY l) (He 0)<|Hj)<|He 1)<|HC (JS.mk<|Xd (HY l) (He 0) Hj<|HI XH (Ii (HY l) (He 0)<|Hj)<|He 1)<|HJ<|JS.mk<|Im<|He 2)<|JK)<|HC (JS.mk<|Xd (HY l) (He 0) Hj<|HI Tt (HI Ir (HI NL (Ii (HY l) (He 0)<|Hj)<|Hj)<|Hj)<|Hj)<|HJ<|JS.mk<|Im<|HI XH (HI NL (HI XH (Ii (HY l) (He 0)<|Hj)<|Hj)<|He 1)<|Hj)
theorem M8:IY P w K mg base 2 "_law_of" 2 KO:=JB (k:=1) Z (top 41) 21 ["_law_pot_here","_law_some"] ["_law_pot_here","_law_some"] λr f o A outer s H E l=>IV.out (HJ<|JS.mk<|Im<|Ii (HY l) (He 1)<|HK (KW Z Y) l<|Hf (He 0)<|Hf (Jd Z JE JF<|Hf (He 1)<|Hk)<|Hk)
theorem zgi:IY P w K mg base 3 "_law_names" 2 VU:=JB (k:=2) Z (top 42) 22 ["_law_pot_here","_law_many","_law_letters","_law_found","_law_turn","_law_way","_law_name"] ["_law_pot_here","_law_many"] λo f u A outer s H E l=>IV.out (HC (JS.mk<|IB 2 o<|HF)<|HC (JS.mk<|IB 3 o<|J8<|Hk)<|HC (Qy B1 rfl (QO rfl Z.b1<|HI NL Hj<|He 1) (sgn 4 o)<|HC (JS.mk<|IB 5 o<|HK (KW Z Y) l<|Hf (He 0)<|Hf Hj<|Hk)<|HC (JS.mk<|IB 6 o<|Qd HF<|Hf (Ml rfl rfl (RR (N':=["_law_k","_law_letters","_law_pot_here"]) (nt:=1) (fr:=[2,0]) ["_law_letters","_law_pot_here"] rfl (by decide +kernel) (by decide +kernel) (by decide +kernel) rfl ⟨⟨rfl,by decide⟩,⟨⟨rfl,by decide⟩,trivial⟩⟩ ⟨by first|exact Bu rfl|exact Bq rfl,⟨by first|exact Bu rfl|exact Bq rfl,trivial⟩⟩) (QO rfl Z.b1<|HK (M8 Z Y) l<|Hf (He 0)<|Hf (J8<|JA.out<|Hy Hj<|Hy Hj<|Hy Hj<|Hy Hj<|Hy Hj<|LF)<|Hk) (λC s0 r fp=>sgn 0 lI) (λC s0 r fp=>LG) λC s0 r fp=>Ii (HY l) (He 1) (HK (KW Z Y) l<|Hf (He 2)<|Hf Hj<|Hk))<|Hk)<|HC (Jr (SW.sb<|LH (Io (Mq<|IA l) (He 3) (J8<|Hk) rfl)<|Mj<|Io (JP<|IA l) (He 5) Hj rfl) (HJ<|JS.mk<|IB 6 o<|VI (HI Ir (HK (M8 Z Y) l<|Hf (He 0)<|Hf (He 3)<|Hk)<|He 6) Ki<|JV<|Hj)<|JK)<|HC (Jr (SW.sb<|LH (Io (Mq<|IA l) (He 3) (J8<|Hk) rfl)<|Mj<|Io (JP<|IA l) (He 5) Hj rfl) (HJ<|JS.mk<|IB 6 o<|HI Ir (VI (HK (M8 Z Y) l<|Hf (He 0)<|Hf (He 3)<|Hk) Ki<|JV<|RI<|Hj)<|VI (He 6) Ki<|JV<|Hj)<|JK)<|HJ<|Jr (SW.sb<|LH (Io Mp (Jd Z JE JF<|Hf (He 3)<|Hk) (He 1) rfl)<|Mj<|gR (IA l) (He 6)<|He 3) (HJ<|JS.mk<|Tz<|TV (He 3)<|Hf (He 6)<|Hk)<|JK)<|HJ<|JS.mk<|Im<|He 3)
theorem zgj:IY P w K mg base 4 "_law_house" 2 YV:=JB (k:=3) Z (top 43) 23 ["_law_pot_here","_law_most","_law_names_here","_law_sticks","_law_signs","_law_sides","_law_kinds","_law_k","_law_face","_law_kind"] ["_law_pot_here","_law_most"] λo f u A outer s H E l=>IV.out (HC (JS.mk<|IB 2 o<|Jd Z iE fE<|Hf (HK (zgi Z Y) l<|Hf (He 0)<|Hf (HK (M8 Z Y) l<|Hf (He 0)<|Hf (J8<|JA.out<|Hy Hj<|Hy Hj<|Hy Hj<|Hy Hj<|Hy Hj<|Hy Hj<|LF)<|Hk)<|Hk)<|Hk)<|HC (JS.mk<|IB 3 o<|Lc Z Qj Pq<|Hf (Ml rfl rfl (RR (N':=["_law_name","_law_pot_here"]) (nt:=1) (fr:=[0]) ["_law_pot_here"] rfl (by decide +kernel) (by decide +kernel) (by decide +kernel) rfl ⟨⟨rfl,by decide⟩,trivial⟩ ⟨by first|exact Bu rfl|exact Bq rfl,trivial⟩) (cD<|He 2) (λC s0 r fp=>sgn 0 lJ) (λC s0 r fp=>LG) λC s0 r fp=>Ls (Hf (He 0)<|Hf (HI Ir Hj<|HK (KW Z Y) l<|Hf (He 1)<|Hf (HK (M8 Z Y) l<|Hf (He 1)<|Hf (J8<|Hf Hj<|Hf Hj<|Hf Hj<|Hk)<|Hk)<|Hk)<|Hk))<|Hk)<|HC (JS.mk<|IB 4 o<|HF)<|HC (JS.mk<|IB 5 o<|HI Ir (HI Ir (HI Ir (J8<|Hf HF<|Hk)<|He 2)<|He 2)<|He 2)<|HC (JS.mk<|IB 6 o<|J8<|Hk)<|HC (Qy B1 rfl (QO rfl Z.b1<|HI Ir Hj<|HK (KW Z Y) l<|Hf (He 0)<|Hf (He 1)<|Hk) (sgn 7 o)<|HC (JS.mk<|IB 8 o<|HI NL (Ii (HY l) (He 4)<|HK (KW Z Y) l<|Hf (He 0)<|Hf Hj<|Hk)<|Lc Z TQ Qv<|Hf (LO RH (HK (KW Z Y) l<|Hf (He 0)<|Hf Hj<|Hk) Hj rfl)<|Hk)<|HC (JS.mk<|IB 9 o<|HI Ir (Ls<|Hf (He 8)<|Hk)<|Lc Z Qj Pq<|Hf (Ml rfl rfl (RR (N':=["_law_side","_law_pot_here","_law_sides"]) (nt:=1) (fr:=[0,5]) ["_law_pot_here","_law_sides"] rfl (by decide +kernel) (by decide +kernel) (by decide +kernel) rfl ⟨⟨rfl,by decide⟩,⟨⟨rfl,by decide⟩,trivial⟩⟩ ⟨by first|exact Bu rfl|exact Bq rfl,⟨by first|exact Bu rfl|exact Bq rfl,trivial⟩⟩) (QO rfl Z.b1<|Hj) (λC s0 r fp=>sgn 0 lK) (λC s0 r fp=>LG) λC s0 r fp=>HK (M8 Z Y) l (Hf (He 1)<|Hf (He 2)<|Hk))<|Hk)<|HC (Jr (SW.sb<|LH (Io (Mq<|IA l) (He 6) (J8<|Hk) rfl)<|Mj<|Io (JP<|IA l) (HK (KW Z Y) l<|Hf (He 0)<|Hf Hj<|Hk) Hj rfl) (HJ<|JS.mk<|IB 9 o<|HK (M8 Z Y) l<|Hf (He 0)<|Hf (He 6)<|Hk)<|JK)<|HJ<|JS.mk<|Tz<|TV (He 6)<|Hf (He 9)<|Hk)<|HJ<|JS.mk<|Im<|Ls<|Hf (HK (M8 Z Y) l<|Hf (He 0)<|Hf (J8<|JA.out<|Hy Hj<|Hy Hj<|Hy Hj<|Hy Hj<|Hy Hj<|LF)<|Hk)<|Hf (He 3)<|Hf (Lc Z Qj Pq<|Hf (He 6)<|Hk)<|Hk)
theorem zgk:IY P w K mg base 3 "_law_floor" 1 YU:=JB (k:=2) Z (top 44) 24 ["_law_pot_here","_law_most"] ["_law_pot_here"] λo f r A outer s H E l=>IV.out (HC (JS.mk<|IB 1 o<|HK (M8 Z Y) l<|Hf (He 0)<|Hf (J8<|JA.out<|Hy Hj<|Hy Hj<|Hy Hj<|Hy Hj<|Hy Hj<|Hy Hj<|Hy Hj<|Hy Hj<|LF)<|Hk)<|HJ<|JS.mk<|Im<|Ls<|Hf (HI Ir Hj<|HK (KW Z Y) l<|Hf (He 0)<|Hf (He 1)<|Hk)<|Hf (HI Ir Hj<|HK (KW Z Y) l<|Hf (He 0)<|Hf (He 1)<|Hk)<|Hk)
theorem zeH:IY P w K mg base 2 "_law_standing" 4 Wf:=JB (k:=1) Z (top 45) 25 ["_law_pot_here","_law_house_here","_law_floor_here","_law_most","_law_there","_law_k"] ["_law_pot_here","_law_house_here","_law_floor_here","_law_most"] λo f u A outer s H E l=>IV.out (HC (JS.mk<|IB 4 o<|xU)<|HC (Qy B1 rfl (QO rfl Z.b1<|HK (KW Z Y) l<|Hf (He 0)<|Hf (HI Ir (He 3)<|Hj)<|Hk) (sgn 5 o)<|HJ<|JS.mk<|Xd (HY l) (He 4) (Ls<|Hf (HK (KW Z Y) l<|Hf (He 0)<|Hf (Ii (HY l) (He 2)<|Hj)<|Hk)<|Hf (HK (KW Z Y) l<|Hf (He 0)<|Hf (Ii (HY l) (He 2)<|Hj)<|Hk)<|Hk)<|HK (KW Z Y) l<|Hf (He 0)<|Hf (Jd Z JE JF<|Hf (Ii (HY l) (He 1)<|Hj)<|Hk)<|Hk)<|HJ<|JS.mk<|Im<|Lc Z Qj Pq<|Hf (Jd Z iE fE<|Hf (Ml rfl rfl (cS ["_law_place","_law_kind"] 2 [] []) (xW<|He 4) (λC s0 r fp=>RJ rfl (Lu (sgn 0 G4)<|Lu (sgn 1 G4)<|QI)) (λC s0 r fp=>LG) λC s0 r fp=>HI Ir (He 0) (Ls<|Hf (He 1)<|Hk))<|Hk)<|Hk)
theorem zhC:IY P w K mg base 5 "_law_bed" 2 Yx:=JB (k:=4) Z (top 46) 26 ["_law_pot_here","_law_most","_law_house_here","_law_floor_here"] ["_law_pot_here","_law_most"] λo f r A outer s H E l=>IV.out (HC (JS.mk<|Tc (i:=2) (j:=3) rfl o rfl rfl (by decide) rfl rfl<|Hf (HK (zgj Z Y) l<|Hf (He 0)<|Hf (He 1)<|Hk)<|Hf (HK (zgk Z Y) l<|Hf (He 0)<|Hk)<|Hk)<|HJ<|JS.mk<|Im<|Ls<|Hf (He 2)<|Hf (He 3)<|Hf (HK (zeH Z Y) l<|JA.out<|Hy (He 0)<|Hy (He 2)<|Hy (He 3)<|Hy (HK (M8 Z Y) l<|Hf (He 0)<|Hf (J8<|JA.out<|Hy Hj<|Hy Hj<|Hy Hj<|Hy Hj<|LF)<|Hk)<|LF)<|Hk)
theorem zfc:IY P w K mg base 1 "_law_is_name" 1 Wa:=JB (k:=0) Z (top 47) 27 ["_law_thing"] ["_law_thing"] λr f l A outer s H E o=>IV.out (HJ<|JS.mk<|Im<|KU (L5 Z (He 0) NH)<|KU (TJ Mp Mp Hj (Jd Z JE JF<|Hf (He 0)<|Hk)<|Hj)<|Nk<|LO (JP<|IA o) (Qe EN EO fR (He 0)<|Hf HF<|Hk) HF rfl)
theorem jG:IY P w K mg base 1 "_law_lines" 1 VT:=JB (k:=0) Z (top 48) 28 ["_law_bed_here","_law_enough","_law_sticks","_law_kinds","_law_lines_here","_law_kind"] ["_law_bed_here"] λr f u A outer s H E o=>IV.out (HC (JS.mk<|Ve (Ii (HY o) (He 0)<|Hj)<|RJ rfl<|Lu (sgn 1 r)<|Lu (sgn 2 r)<|Lu (sgn 3 r)<|QI)<|HC (JS.mk<|IB 4 r<|HI Ir (J8<|Hf (HI Ir HF<|Lc Z QN NH<|Hf (He 1)<|Hk)<|Hk)<|Ml rfl rfl (cS ["_law_name","_law_strength"] 2 [] []) (Mt<|He 2) (λC s0 l fp=>RJ rfl (Lu (sgn 0 G5)<|Lu (sgn 1 G5)<|QI)) (λC s0 l fp=>LG) λC s0 l fp=>HI Ir (HI Ir (HI Ir HF<|He 0)<|HF) (Lc Z QN NH<|Hf (He 1)<|Hk))<|HC (Qy B1 rfl (Mt<|He 3) (sgn 5 r)<|HJ<|JS.mk<|Tz<|TV (He 4)<|Hf (HI Ir HF<|Qd HF<|Hf (Ml rfl rfl (cS ["_law_part"] 1 [] []) (Mt<|He 5) (λC s0 l fp=>sgn 0 lL) (λC s0 l fp=>LG) λC s0 l fp=>HI Ir (He 0) (HI NL HF<|Lc Z TQ Qv<|Hf (LO (JP<|IA o) (He 0) HF rfl)<|Hk))<|Hk)<|Hk)<|HC (JS.mk<|Tz<|TV (He 4)<|Hf (HI Ir (HI Ir (HI Ir HF<|Lc Z QN NH<|Hf (Ii (HY o) (Ii (HY o) (He 0)<|Hj)<|Hj)<|Hk)<|HF)<|Lc Z QN NH<|Hf (Ii (HY o) (Ii (HY o) (He 0)<|Hj)<|Hj)<|Hk)<|Hk)<|HJ<|JS.mk<|Im<|HI Ir (He 4)<|Ml rfl rfl (cS ["_law_x","_law_y","_law_kind"] 3 [] []) (Mt<|Ii (HY o) (He 0)<|Hj) (λC s0 l fp=>RJ rfl (Lu (sgn 0 Wz)<|Lu (sgn 1 Wz)<|Lu (sgn 2 Wz)<|QI)) (λC s0 l fp=>LG) λC s0 l fp=>HI Ir (HI Ir (HI Ir (HI Ir (HI Ir HF<|Lc Z QN NH<|Hf (He 0)<|Hk)<|HF)<|Lc Z QN NH<|Hf (He 1)<|Hk)<|HF) (Lc Z QN NH<|Hf (He 2)<|Hk))
theorem T6:IY P w K mg base 1 "_law_number" 1 O4:=JB (k:=0) Z (top 49) 29 ["_law_word"] ["_law_word"] λr f o A outer s H E l=>IV.out (HC (Jr (SW.sb<|LK (Io (JP<|IA l) (He 0) HF rfl)<|LK (Io (Mq<|IA l) (Qe EN EO fR (He 0)<|Hf HF<|Hk) HF rfl)<|LK (SW.sb<|LH (Io (JP<|IA l) (Ii (HY l) (He 0)<|Hj) HF rfl)<|Mj<|Io (Mq<|IA l) (He 0) HF rfl)<|OO<|Io RH (Jd Z JE JF<|Hf (He 0)<|Hk) Hj rfl) (HJ<|JS.mk<|Im<|RI<|Hj)<|JK)<|HJ<|JS.mk<|Im<|Lc Z fG Qv<|Hf (He 0)<|Hk)
theorem zdP:IY P w K mg base 2 "_law_head_right" 2 V3:=JB (k:=1) Z (top 50) 30 ["_law_words","_law_names_here"] ["_law_words","_law_names_here"] λr f o A outer s H E l=>IV.out (HC (Jr (SW.sb<|LK (Io (Mq<|IA l) (Jd Z JE JF<|Hf (He 0)<|Hk) Hj rfl)<|LK (M4<|NV<|HK (zfc Z Y) l<|Hf (Ii (HY l) (He 0)<|Hj)<|Hk)<|OO<|M4<|TH LN LN Hj (HK (T6 Z Y) l<|Hf (Ii (HY l) (He 0)<|Hj)<|Hk)<|Hj) (HJ<|JS.mk<|Im<|Pk)<|JK)<|HJ<|JS.mk<|Im<|SD (LO (JP<|IA l) (He 1) (J8<|Hk) rfl)<|Tr<|LO (aP<|IA l) (Ii (HY l) (He 1)<|RI<|Hj) (Ii (HY l) (He 0)<|Hj) rfl)
theorem zdO:IY P w K mg base 1 "_law_kind_right" 2 V4:=JB (k:=0) Z (top 51) 31 ["_law_words","_law_names_here"] ["_law_words","_law_names_here"] λu f r A outer s H E l=>IV.out (HC (Jr (SW.sb<|LK (Io (Mq<|IA l) (Jd Z JE JF<|Hf (He 0)<|Hk) Hj rfl)<|LK (Io (Mq<|IA l) (Jd Z JE JF<|Hf (Ii (HY l) (He 0)<|Hj)<|Hk) Hj rfl)<|OO<|zl4 (IA l) (Ii (HY l) (He 0)<|Hj)<|HF) (HJ<|JS.mk<|Im<|Pk)<|JK)<|HJ<|JS.mk<|Im<|Jd Z (TN rfl) SN<|Hf (Ml rfl rfl (RR (N':=["_law_word","_law_names_here"]) (nt:=1) (fr:=[1]) ["_law_names_here"] rfl (by decide +kernel) (by decide +kernel) (by decide +kernel) rfl ⟨⟨rfl,by decide⟩,trivial⟩ ⟨by first|exact Bu rfl|exact Bq rfl,trivial⟩) (Mt<|M9 (He 0) (JV<|Hj)<|Ki) (λC s0 o fp=>sgn 0 lN) (λC s0 o fp=>LG) λC s0 o fp=>SD (LO (JP<|IA l) (He 0) HF rfl) (Tr<|Tq (IA l) (He 0)<|He 1))<|Hk)
theorem zdM:IY P w K mg base 2 "_law_tile_right" 4 T9:=JB (k:=1) Z (top 52) 32 ["_law_words","_law_floor_here","_law_many","_law_last","_law_x","_law_y","_law_kind"] ["_law_words","_law_floor_here","_law_many","_law_last"] λo f u A outer s H E l=>IV.out (HC (Jr (Io (Mq<|IA l) (Jd Z JE JF<|Hf (He 0)<|Hk) Hj rfl) (HJ<|JS.mk<|Im<|Pk)<|JK)<|HC (JS.mk<|Ve (Ml rfl rfl (cS ["_law_word"] 1 [] []) (Mt<|M9 (He 0) (JV<|Hj)<|Ki) (λC s0 r fp=>sgn 0 WA) (λC s0 r fp=>LG) λC s0 r fp=>HK (T6 Z Y) l (Hf (He 0)<|Hk))<|uI rfl<|Lu (sgn 4 o)<|Lu (sgn 5 o)<|Lu (sgn 6 o)<|QI)<|HC (Jr (SW.sb<|LK (M4<|TH LN Mp Hj (He 4)<|Ii (HY l) (He 1)<|Hj)<|LK (M4<|TH LN Mp Hj (He 5)<|Ii (HY l) (He 1)<|Hj)<|OO<|M4<|TH LN Mp Hj (He 6)<|He 2) (HJ<|JS.mk<|Im<|Pk)<|JK)<|HJ<|JS.mk<|Im<|SD (LO QG (He 3) KA rfl)<|Tr<|LO (aP<|IA l) (He 3) (Ls<|Hf (He 4)<|Hf (He 5)<|Hk) rfl)
theorem zgl:IY P w K mg base 3 "_law_fault" 1 T7:=JB (k:=2) Z (top 53) 33 ["_law_text","_law_names_here","_law_many","_law_floor_here","_law_last","_law_rows","_law_at","_law_row","_law_words","_law_right"] ["_law_text"] λo f u A outer s H E l=>IV.out (HC (JS.mk<|Ve (Ls<|JA.out<|Hy (J8<|Hk)<|Hy Hj<|Hy KA<|Hy KA<|LF)<|RJ rfl<|Lu (sgn 1 o)<|Lu (sgn 2 o)<|Lu (sgn 3 o)<|Lu (sgn 4 o)<|QI)<|HC (JS.mk<|IB 5 o<|Qe BC BD RV (He 0)<|Hf HF<|Hk)<|HC (Qy B1 rfl (uJ rfl Z.b1<|He 5) (RJ rfl<|Lu (sgn 6 o)<|Lu (sgn 7 o)<|QI)<|HC (JS.mk<|IB 8 o<|Qe BC BD RV (He 7)<|Hf HF<|Hk)<|HC (JS.mk<|IB 9 o<|Pk)<|HC (Jr (Io (JP<|IA l) (He 6) Hj rfl) (HJ<|JS.mk<|IB 9 o<|KU (LO (JP<|IA l) (Ii (HY l) (He 8)<|Hj) HF rfl)<|KU (LO (JP<|IA l) (Jd Z JE JF<|Hf (He 8)<|Hk) Hj rfl)<|Nk<|TJ LN LN Hj (HK (T6 Z Y) l<|Hf (Ii (HY l) (He 8)<|Hj)<|Hk)<|Hj)<|HJ<|Jr (SW.sb<|LH (Io (JP<|IA l) (Ii (HY l) (He 8)<|Hj) HF rfl)<|LH (Io (JP<|IA l) (He 2) Hj rfl)<|Mj<|Io QG (He 3) KA rfl) (HC (JS.mk<|IB 9 o<|HK (zdP Z Y) l<|Hf (He 8)<|Hf (He 1)<|Hk)<|HJ<|JS.mk<|IB 1 o<|HI Ir (He 1)<|M9 (He 8) (JV<|Hj)<|JV<|Hj)<|HJ<|Jr (SW.sb<|LH (Io (JP<|IA l) (Ii (HY l) (He 8)<|Hj) HF rfl)<|Mj<|Io QG (He 3) KA rfl) (HC (JS.mk<|IB 9 o<|HK (zdO Z Y) l<|Hf (He 8)<|Hf (He 1)<|Hk)<|HJ<|JS.mk<|IB 2 o<|HI Ir (He 2)<|Hj)<|HJ<|Jr (SW.sb<|LH (Io (JP<|IA l) (Ii (HY l) (He 8)<|Hj) HF rfl)<|LH (Io RH (He 2) Hj rfl)<|Mj<|Io QG (He 3) KA rfl) (HC (JS.mk<|iP (i:=3) rfl rfl (cS ["_law_word"] 1 [] []) (Mt<|M9 (He 8) (JV<|Hj)<|Ki) (λC s0 r fp=>sgn 0 WA) (λC s0 r fp=>LG) (λC s0 r fp=>HK (T6 Z Y) l (Hf (He 0)<|Hk)) o rfl rfl)<|HJ<|JS.mk<|IB 9 o<|KU (LO (JP<|IA l) (Jd Z JE JF<|Hf (He 3)<|Hk) Hj rfl)<|Nk<|Jd Z (TN rfl) SN<|Hf (Ml rfl rfl (cS ["_law_one"] 1 [] []) (Mt<|He 3) (λC s0 r fp=>sgn 0 lO) (λC s0 r fp=>LG) λC s0 r fp=>TJ LN LN Hj (He 0) Hj)<|Hk)<|HJ<|Jr (SW.sb<|LH (Io (JP<|IA l) (Ii (HY l) (He 8)<|Hj) HF rfl)<|Mj<|Io fB (He 3) KA rfl) (HC (JS.mk<|IB 9 o<|HK (zdM Z Y) l<|JA.out<|Hy (He 8)<|Hy (He 3)<|Hy (He 2)<|Hy (He 4)<|LF)<|HJ<|JS.mk<|IB 4 o<|Lc Z Qj Pq<|Hf (Ml rfl rfl (cS ["_law_word"] 1 [] []) (Mt<|M9 (He 8) (JV<|Hj)<|JV<|Hj) (λC s0 r fp=>sgn 0 WA) (λC s0 r fp=>LG) λC s0 r fp=>HK (T6 Z Y) l (Hf (He 0)<|Hk))<|Hk)<|JK)<|HJ<|Jr (M4<|NV<|He 9) (HJ<|JS.mk<|Im<|He 6)<|JK)<|HJ<|JS.mk<|Im<|Vg (Io QG (He 3) KA rfl) (Jd Z JE JF<|Hf (He 5)<|Hk)<|KA)
theorem iZ:IY P w K mg base 7 "_law_read" 1 QQ:=JB (k:=6) Z (top 54) 34 ["_law_thing","_law_told","error","_law_others"] ["_law_thing"] λl f o A outer s H E r=>IV.out (HC (JS.mk<|IB 1 l<|KA)<|HC (JS.mk<|etA Y 2 1 2 (ziW Z Y) (r.mono<|by decide) (Hf (He 0)<|Hk) (IZ.cons IZ.nil) l λx W=>IV.out (HC (JS.mk<|IB 3 l<|ZQ Y Z.b1<|Hf (He 2)<|Hf (Ls<|JA.out<|Hy (Oh Y 1)<|Hy (Oh Y 3)<|Hy (Oh Y 4)<|Hy (Oh Y 5)<|Hy (Oh Y 6)<|Hy (Oh Y 7)<|LF)<|Hk)<|HC (JS.mk<|IB 3 l<|SD (He 3)<|Tr<|ZQ Y Z.b1<|Hf (He 2)<|Hf (Ls<|JA.out<|Hy (Oh Y 8)<|Hy (Oh Y 9)<|Hy (Oh Y 10)<|Hy (Oh Y 11)<|LF)<|Hk)<|HJ<|JS.mk<|IB 1 l<|Vg (SW.sb<|LH (NV<|ZQ Y Z.b1<|Hf (He 2)<|Hf (Oh Y 2)<|Hk)<|Mj<|M4<|NV<|He 3) (Ls<|Hf HF<|Hf (eat Y 2<|He 2)<|Hk)<|Ls<|Hf HF<|Hf KA<|Hk))<|HJ<|JS.mk<|Im<|He 1)
theorem zgX:IY P w K mg base 2 "_law_sign" 1 VY:=JB (k:=1) Z (top 55) 35 ["_law_pot_here","_law_signs"] ["_law_pot_here"] λo f r A outer s H E l=>IV.out (HC (JS.mk<|IB 1 o<|HF)<|HJ<|JS.mk<|Im<|Ii (HY l) (He 1)<|HK (KW Z Y) l<|Hf (He 0)<|Hf (Jd Z JE JF<|Hf (He 1)<|Hk)<|Hk)
theorem zd6:IY P w K mg base 3 "_law_text_bent" 2 Y0:=JB (k:=2) Z (top 56) 36 ["_law_pot_here","_law_text","_law_at","_law_way","_law_sign_here"] ["_law_pot_here","_law_text"] λo f r A outer s H E l=>IV.out (HC (JS.mk<|Tc (i:=2) (j:=3) rfl o rfl rfl (by decide) rfl rfl<|Hf (HK (KW Z Y) l<|Hf (He 0)<|Hf (HI Ir (Jd Z JE JF<|Hf (He 1)<|Hk)<|Hj)<|Hk)<|Hf (HK (KW Z Y) l<|Hf (He 0)<|Hf Hj<|Hk)<|Hk)<|HC (JS.mk<|IB 4 o<|HK (M8 Z Y) l<|Hf (He 0)<|Hf (J8<|Hf (HK (zgX Z Y) l<|Hf (He 0)<|Hk)<|Hf (HK (M8 Z Y) l<|Hf (He 0)<|Hf (J8<|JA.out<|Hy HF<|Hy HF<|Hy HF<|Hy HF<|Hy HF<|Hy HF<|Hy HF<|LF)<|Hk)<|Hk)<|Hk)<|HC (Jr (Io Mp (He 3) Hj rfl) (HJ<|JS.mk<|Im<|HI Ir (HI Ir (Na (He 1) Ki<|JV<|He 2)<|He 4)<|Na (He 1) (JV<|He 2)<|Ki)<|JK)<|HC (Jr (Io Mp (He 3) Hj rfl) (HJ<|JS.mk<|Im<|HI Ir (Na (He 1) Ki<|JV<|He 2)<|Na (He 1) (JV<|HI Ir (He 2)<|Hj)<|Ki)<|JK)<|HC (Jr (Io Mp (He 3) Hj rfl) (HJ<|JS.mk<|Im<|HI Ir (HI Ir (Na (He 1) Ki<|JV<|He 2)<|He 4)<|Na (He 1) (JV<|HI Ir (He 2)<|Hj)<|Ki)<|JK)<|HJ<|JS.mk<|Im<|Na (He 1) Ki<|JV<|He 2)
theorem zd7:IY P w K mg base 3 "_law_rows_bent" 2 YZ:=JB (k:=2) Z (top 57) 37 ["_law_pot_here","_law_rows","_law_at","_law_other","_law_way","_law_words","_law_place","_law_some","_law_word","_law_ahead","_law_behind","_law_first","_law_last"] ["_law_pot_here","_law_rows"] λr f u A outer s H E o=>IV.out (HC (JS.mk<|wY (i:=2) (j:=3) (l:=4) rfl r rfl rfl rfl (by decide) (by decide) (by decide) rfl rfl rfl<|Hf (HK (KW Z Y) o<|Hf (He 0)<|Hf (Jd Z JE JF<|Hf (He 1)<|Hk)<|Hk)<|Hf (HK (KW Z Y) o<|Hf (He 0)<|Hf (Jd Z JE JF<|Hf (He 1)<|Hk)<|Hk)<|Hf (HK (KW Z Y) o<|Hf (He 0)<|Hf Hj<|Hk)<|Hk)<|HC (JS.mk<|IB 5 r<|Qe BC BD RV (Ii (HY o) (He 1)<|He 2)<|Hf HF<|Hk)<|HC (JS.mk<|IB 6 r<|HK (KW Z Y) o<|Hf (He 0)<|Hf (Jd Z JE JF<|Hf (He 5)<|Hk)<|Hk)<|HC (rX (i:=7) r rfl (by first|exact Bu rfl|exact Bq rfl)<|Hy HF<|Hy HF<|Hy HF<|Hy HF<|Hy HF<|Hy HF<|Hy HF<|Hy HF<|Hy HF<|Hy HF<|Hy HF<|Hy HF<|Hy HF<|Hy HF<|Hy HF<|Hy HF<|Hy HF<|LF)<|HC (JS.mk<|IB 7 r<|HI Ir (He 7)<|J8<|JA.out<|Hy HF<|Hy HF<|Hy HF<|Hy HF<|Hy HF<|Hy HF<|Hy (HI NL HF<|Hj)<|Hy (HI NL HF<|Hj)<|Hy (Ii (HY o) (He 5)<|RI<|Hj)<|Hy (Ii (HY o) (He 5)<|Hj)<|Hy (Ii (HY o) (He 1)<|He 3)<|LF)<|HC (JS.mk<|IB 8 r<|HK (M8 Z Y) o<|Hf (He 0)<|Hf (He 7)<|Hk)<|HC (JS.mk<|Tc (i:=9) (j:=10) rfl r rfl rfl (by decide) rfl rfl<|Hf (Na (He 1) Ki<|JV<|He 2)<|Hf (Na (He 1) (JV<|HI Ir (He 2)<|Hj)<|Ki)<|Hk)<|HC (JS.mk<|Tc (i:=11) (j:=12) rfl r rfl rfl (by decide) rfl rfl<|Hf (Na (He 5) Ki<|JV<|He 6)<|Hf (Na (He 5) (JV<|HI Ir (He 6)<|Hj)<|Ki)<|Hk)<|HC (Jr (Io Mp (He 4) Hj rfl) (HJ<|JS.mk<|Im<|HI Ir (HI Ir (He 9)<|J8<|Hf (Qd HF<|Hf (HI Ir (HI Ir (He 11)<|J8<|Hf (He 8)<|Hk)<|He 12)<|Hk)<|Hk)<|He 10)<|JK)<|HC (Jr (Io (JP<|IA o) (He 4) Hj rfl) (HJ<|JS.mk<|Im<|HI Ir (HI Ir (He 9)<|J8<|Hf (Qd HF<|Hf (HI Ir (He 11)<|He 12)<|Hk)<|Hk)<|He 10)<|JK)<|HC (Jr (Io (JP<|IA o) (He 4) Hj rfl) (HJ<|JS.mk<|Im<|HI Ir (HI Ir (He 9)<|J8<|Hf (Qd HF<|Hf (HI Ir (HI Ir (He 11)<|J8<|Hf (He 8)<|Hk)<|Na (He 5) (JV<|He 6)<|Ki)<|Hk)<|Hk)<|He 10)<|JK)<|HC (Jr (Io (JP<|IA o) (He 4) Hj rfl) (HJ<|JS.mk<|Im<|HI Ir (He 9)<|He 10)<|JK)<|HC (Jr (Io (JP<|IA o) (He 4) Hj rfl) (HJ<|JS.mk<|Im<|HI Ir (HI Ir (He 9)<|J8<|Hf (Ii (HY o) (He 1)<|He 3)<|Hk)<|Na (He 1) (JV<|He 2)<|Ki)<|JK)<|HC (Jr (Io (JP<|IA o) (He 4) Hj rfl) (HJ<|JS.mk<|Im<|HI Ir (HI Ir (He 9)<|J8<|Hf HF<|Hk)<|Na (He 1) (JV<|He 2)<|Ki)<|JK)<|HJ<|JS.mk<|Im<|HI Ir (HI Ir (He 9)<|J8<|Hf (Ii (HY o) (He 1)<|He 3)<|Hk)<|He 10)
theorem iY:IY P w K mg base 4 "_law_bent" 2 Sb:=JB (k:=3) Z (top 58) 38 ["_law_pot_here","_law_text"] ["_law_pot_here","_law_text"] λr f o A outer s H E l=>IV.out (HC (Jr (Io (JP<|IA l) (HK (KW Z Y) l<|Hf (He 0)<|Hf Hj<|Hk) Hj rfl) (HJ<|JS.mk<|Im<|HK (zd6 Z Y) l<|Hf (He 0)<|Hf (He 1)<|Hk)<|JK)<|HJ<|JS.mk<|Im<|Qd HF<|Hf (HK (zd7 Z Y) l<|Hf (He 0)<|Hf (Qe BC BD RV (He 1)<|Hf HF<|Hk)<|Hk)<|Hk)
theorem oZ{f:KB}{fd:FuncData}(F:Nd K "law" "law" (top 59) f fd):Ja P w K mg base LJ 8 f fd ["_law_script"] (Qk K 1 WC):=mX (k:=7) F ["_law_script","_law_k","_law_pot_here","_law_text","_law_turn","_law_bent_here","_law_fault_here","_law_told"] ["_law_script"] λo r A outer s H E l=>IV.out (HC (Qy B1 rfl (QO rfl Z.b1<|Jd Z (zmT rfl) oQ<|Hf Hj<|Hf (Jd Z (zmR rfl) oR<|Hf (Jd Z JE JF<|Hf (He 0)<|Hk)<|Hf Hj<|Hk)<|Hk) (sgn 1 o)<|HC (JS.mk<|IB 2 o<|HK (zhB Z Y) l<|Hf (He 0)<|Hf (He 1)<|Hk)<|HC (JS.mk<|IB 3 o<|Qd HF<|Hf (HK (jG Z Y) l<|Hf (HK (zhC Z Y) l<|Hf (He 2)<|Hf (HK (M8 Z Y) l<|Hf (He 2)<|Hf (J8<|Hf Hj<|Hf Hj<|Hf Hj<|Hk)<|Hk)<|Hk)<|Hk)<|Hk)<|HJ<|Qy B1 rfl (QO rfl Z.b1<|Hj) (sgn 4 o)<|HC (JS.mk<|IB 5 o<|HK (iY Z Y) l<|Hf (He 2)<|Hf (He 3)<|Hk)<|HC (Jr (Io (JP<|IA l) (HK (KW Z Y) l<|Hf (He 2)<|Hf Hj<|Hk) Hj rfl) (HJ<|JS.mk<|IB 5 o<|HK (iY Z Y) l<|Hf (He 2)<|Hf (He 5)<|Hk)<|JK)<|HC (JS.mk<|Tc (i:=6) (j:=7) rfl o rfl rfl (by decide) rfl rfl<|Hf (HK (zgl Z Y) l<|Hf (He 5)<|Hk)<|Hf (HK (iZ Z Y) l<|Hf (He 5)<|Hk)<|Hk)<|HC (Jr (Io (Mq<|IA l) (He 7) (HK (iZ Z Y) l<|Hf (He 5)<|Hk) rfl) (HJ<|JS.mk<|Im<|Pk)<|JK)<|HC (Jr (SW.sb<|LH (Io fB (He 6) KA rfl)<|Mj<|Io (Mq<|IA l) (He 7) (Ls<|Hf HF<|Hf (He 6)<|Hk) rfl) (HJ<|JS.mk<|Im<|Pk)<|JK)<|HJ<|Jr (SW.sb<|LH (Io QG (He 6) KA rfl)<|Mj<|SW.sb<|LK (Io (Mq<|IA l) (Ii (HY l) (He 7)<|Hj) HF rfl)<|OO<|Io rD (Qd HF<|Hf (HK (jG Z Y) l<|Hf (Ii (HY l) (He 7)<|Hj)<|Hk)<|Hk) (He 5) rfl) (HJ<|JS.mk<|Im<|Pk)<|JK)<|HJ<|JS.mk<|Im<|Pk)
end
end L2.MP.T0
namespace L2.MP.T0
open PySem L2.MP L2.MP.Hn
variable {a b:Str}{st:Hg}
def eq_str(c:Ao a=true)(e:Ao b=true):Il (.str a) (.str b) st=some (.bl (a==b),st):=by unfold Il;rw[OZ c,OZ e];simp[Bl]
def ne_str(c:Ao a=true)(e:Ao b=true):IP (.str a) (.str b) st=some (.bl (a != b),st):=by unfold IP;rw[OZ c,OZ e];simp[Bl,bne]
structure IU(z:Str)(m:Nat):Prop where
 len:z.length<=m
 ok:∀c∈z.cps.toList,c<1114112
variable {z:Str}{m:Nat}
def IU.str(h:IU z m):Ao z=true:=TM h.ok
def IU.up{c:Nat}(h:IU z m)(hm:m<=c):IU z c:=⟨Ar h.len hm,h.ok⟩
variable {y:Str}{c:Nat}
def yT{p:Str}(f:p∈Txt.split z y)(g:c∈p.cps.toList):c∈z.cps.toList:=by have e:=C3 z y;rw[<-e,CA];exact .inl ⟨p,f,g⟩
def IU.part{p:Str}(h:IU z m)(e:p∈Txt.split z y):IU p m:=⟨Ar (PyProof.Rows.part_short e) h.len,λc a=>h.ok c (yT e a)⟩
def VJ(z y:Str):(Txt.split z y).length<=z.length+2:=by
 unfold Txt.split;split
 ·simp
 ·split
  ·simp
  rw[DG];have:=EX z y 0 z.length<|z.length+1;omega
variable {s:Hg}
def RW(e:(y.length==0)=false)(f:z.length<=9000):NI (.str z) [.str y] s=some (.ref s.length,s++[.lst ((Txt.split z y).map D.str)]):=by have:=VJ z y;have f1:fits (z.length+2)=true:=Ku (by omega);have f2:fits (Txt.split z y).length=true:=Ku (by omega);unfold NI;simp only[e,f1,f2,DK,Bool.and_self,if_true]
def dig(c:Nat):Bool:=decide (48<=c)&&decide (c<=57)
def ML(w:Str):Bool:=w.cps.toList.all dig
def lead(w:Str):Bool:=(w.cps.toList.head?==some 48)&&(w != "0")
def good(w:Str)(m:Nat):Bool:=decide (1<=w.length)&&decide (w.length<=m)&&ML w&&!lead w
def val(w:Str):Int:=((D4 w.cps.toList:Nat):Int)
def Hs(w:Str):D:=if good w 6=true then .int (val w)else .non
variable {w:Str}
def good_int(h:good w m=true)(hm:m<=600)(s:Hg):Oc [.str w] s=some (.int (val w),s):=by
 unfold good at h;rw[Ad,Ad,Ad]at h;obtain⟨⟨⟨a,l⟩,o⟩,_⟩:=h;have a:=of_decide_eq_true a;have l:=of_decide_eq_true l;have e:EY w=some (val w):=by
  refine PySem.intText_digits (λc r=>?_) ?_<|by omega
  ·have:=List.all_eq_true.mp o c r;unfold dig at this;rw[Ad]at this;exact⟨of_decide_eq_true this.1,of_decide_eq_true this.2⟩
  intro z;have:w.cps.toList.length=w.length:=AF;rw[z]at this;simp at this;omega
 have u:UT [.str w] s=if decide (w.length<=640)=true then(EY w).map (λn=>(D.int n,s))else none:=rfl;unfold Oc N7;rw[show HV [.str w] s=none from rfl,Kz,u,if_pos (decide_eq_true<|by omega),e];rfl
def pB(c:Nat)(e:c<1114112)(s:Hg):Lb (.str ⟨#[c]⟩) (.str "0123456789") s=some (.bl (dig c),s):=by
 have l:PN (.str ⟨#[c]⟩) (.str "0123456789")=none:=rfl;have m:inD false (.str ⟨#[c]⟩) (.str "0123456789") s=none:=by
  unfold inD;rw[Jn,Jn];by_cases h1:Ao ⟨#[c]⟩=true
  ·by_cases h2:Ao "0123456789"=true
   ·simp[h1,h2,l]
   simp[h1,h2]
  simp[h1]
 have a:=FX "0123456789" c;have o:decide (c∈(Bp "0123456789").cps.toList)=dig c:=by
  have:(Bp "0123456789").cps.toList=[48,49,50,51,52,53,54,55,56,57]:=by decide
  rw[this];unfold dig;rw[A8];simp;omega
 rw[o]at a;unfold Lb JG;rw[m,Kz];simp only[Od,a,JH]
def aI:∀bs:List Bool,Pd (bs.map D.bl)=some bs
 |[]=>rfl
 |b::bs=>by rw[Ax,Pd,aI bs];rfl
def oK{l:Nat}{bs:List Bool}(h:s[l]?=some (.lst<|bs.map D.bl)):JR [.ref l] s=some (.bl (bs.all id),s):=by unfold JR;simp only[Iw,h,Aa,aI,Ak]
def sH(h:IU z m)(hm:m<=9000)(s:Hg):Hi JR (Hc (Jk (Jw<|mV 0) 1 [] (Hq 0) IJ<|V9)<|mZ) [some (.str z)] s=some (.bl (ML z),s++[.lst ((z.cps.toList.map dig).map D.bl)]):=by
 have a:Kq ⟨signs z,[]⟩ (Hq 0) IJ V9 (signs z) [none] s=some (z.cps.toList.map λc=>D.bl (dig c),s):=by unfold signs;refine Qw (R:=λρ=>∃u,ρ=[u]) ⟨none,rfl⟩ rfl λc l ρ hρ=>?_;obtain⟨u,rfl⟩:=hρ;refine⟨[some (.str ⟨#[c]⟩)],rfl,rfl,?_,⟨_,rfl⟩⟩;unfold V9;simp only[IE,Ih,Ip,Af,Aa,pB c (h.ok c l)]
 have v:z.cps.toList.length<=9000:=by rw[AF];exact Ar h.len hm
 have o:fits (z.cps.toList.map λc=>D.bl (dig c)).length=true:=Ku (by rw[Ah];omega);have em:(z.cps.toList.map λc=>D.bl (dig c))=(z.cps.toList.map dig).map D.bl:=by simp
 have r:Jw (mV 0) [some (.str z)] s=some (⟨signs z,[]⟩,s):=by rw[WD];rfl
 rw[Jm,IH,Jz,r];simp only[Aa];rw[show HG [some (.str z)] 1 []=[none] from rfl,a];simp only[Aa,o,if_true,IM];rw[em,oK (II s _)];unfold ML;rw[GK];rfl
def rO{r:List Nat}(e:w.cps.toList=c::r)(hw:w.length<=9000)(s:Hg):Hr (.str w) (.int 0) s=some (.str ⟨#[c]⟩,s):=by
 have a:w.cps[(0:Int).toNat]?=some c:=by rw[<-BY,e];rfl
 exact RM (by omega) (by decide) a
def cW:Ao ("0":Str)=true:=by decide +kernel
def oC(c:Nat):((⟨#[c]⟩:Str)=="0")=decide (c=48):=by
 rw[A8];rw[beq_iff_eq,decide_eq_true_eq];have a:("0":Str)=⟨#[48]⟩:=by decide
 rw[a];constructor
 ·intro h;have h:=congrArg (λz:Str=>z.cps.toList) h;have h:[c]=[48]:=h;exact(CK h).1
 rintro rfl;rfl
def bP(h:IU w m)(hm:m<=9000)(f:1<=w.length)(s:Hg):JY (mT<|mB Il (mB Hr (mV 0)<|mK<|.int 0)<|mK<|.str "0") (mT<|mB IP (mV 0)<|mK<|.str "0") [some (.str w)] s=some (lead w,s):=by
 match e:w.cps.toList with
 |[]=>
  have:w.cps.toList.length=w.length:=AF;rw[e]at this;simp at this;omega
 |c::r=>
  have l:=rO e (Ar h.len hm) s;have o:Ao ⟨#[c]⟩=true:=TM λd hd=>by
   have:d=c:=by simpa using hd
   rw[this];exact h.ok c (by rw[e];exact Al)
  have a:=eq_str (st:=s) o cW;have u:=ne_str (st:=s) h.str cW;rw[oC]at a;have v:lead w=(decide (c=48)&&(w != "0")):=by
   unfold lead;rw[e];have:(some c==some 48)=decide (c=48):=by rw[A8];simp
   show(some c==some 48&&(w != "0"))=_;rw[this]
  rw[v];simp only[Nj,La,IE,Ih,Ip,Af,Aa,l,a];cases decide (c=48)
  ·rfl
  simp only[if_true,u,Aa,BN]
def vR(h:z.length<=9000):Jj Ik Ik (mK<|.int 1) (Hi Ho<|Hc (mV 0)<|mZ) (mK<|.int 6) [some (.str z)] s=some (.bl (decide (1<=z.length)&&decide (z.length<=6)),s):=by
 unfold Jj;have a:fits z.length=true:=Ku (by omega);have c:Ho [.str z] s=some (.int z.length,s):=by simp[Ho,a]
 have l:decide ((1:Int)<=(z.length:Int))=decide (1<=z.length):=by rw[decide_eq_decide];omega
 have m:decide ((z.length:Int)<=6)=decide (z.length<=6):=by rw[decide_eq_decide];omega
 simp only[Ip,Jm,IH,Ih,IM,Af,Aa,c,Ik,HN,l,m];cases decide (1<=z.length)<;>simp
def jI(h:IU w m)(hm:m<=9000)(s:Hg):∃s',VW [.str w] s=some (Hs w,s')/\Gr s s':=by
 have c:=vR (s:=s)<|Ar h.len hm;have er:Jc 1 [.str w]=[some (.str w)]:=rfl
 by_cases a:(decide (1<=w.length)&&decide (w.length<=6))=true
 ·rw[a]at c;have x:1<=w.length:=by rw[Ad]at a;exact of_decide_eq_true a.1
  have l:=sH h hm s;generalize u:s++[O.lst ((w.cps.toList.map dig).map D.bl)]=s1 at l;have g1:Gr s s1:=by rw[<-u];exact Gr.app _ _
  refine⟨s1,ID ?_,g1⟩;unfold iW;rw[er];cases hd:ML w with
  |false=>
   rw[hd]at l;have:Hs w=.non:=by unfold Hs good;rw[a,hd];rfl
   rw[this];refine JT ?_;rw[K7,LP,Mk,La,c];simp only[Aa,Ak,DV,AM,if_false,Mk,La,l,DK,if_true];rfl
  |true=>
   rw[hd]at l;refine HA (ρ1:=[some (.str w)]) (s1:=s1) ?_ ?_
   ·rw[K7,LP,Mk,La,c];simp only[Aa,Ak,DV,AM,if_false,Mk,La,l];rfl
   have o:=bP h hm x s1;cases r:lead w with
   |true=>
    rw[r]at o;have:Hs w=.non:=by unfold Hs good;rw[a,hd,r];rfl
    rw[this];refine JT ?_;rw[K7,o];rfl
   |false=>
    rw[r]at o;have v:good w 6=true:=by unfold good;rw[a,hd,r];rfl
    have y:=good_int v (by decide) s1;refine HA (ρ1:=[some (.str w)]) (s1:=s1) (by rw[K7,o];rfl) ?_;rw[show Hs w=.int (val w) from if_pos v];simp only[LQ,Jm,IH,Ih,Af,Aa,IM,y,Ak]
 ·have a:=Bool.eq_false_iff.mpr a;rw[a]at c;have:Hs w=.non:=by unfold Hs good;rw[a];rfl
  refine⟨s,ID<|JT ?_,Gr.refl _⟩;rw[er,this,K7,LP,Mk,La,c];rfl
def HE(w:Str):Int:=if good w 9=true then val w else -1
variable {p:Nat->Bool}
def bC{p:Nat->Bool}:∀{l:List Nat},(∀c∈l,p c=true)->l.takeWhile p=l
 |[],_=>rfl
 |a::l,h=>by rw[Ft,if_pos (h a Al),bC λc e=>h c (Aj _ e)]
def WL{p:Nat->Bool}:∀{l:List Nat},(∃c∈l,p c=false)->(l.takeWhile p).length<l.length/\∃c∈l.drop (l.takeWhile p).length,p c=false
 |[],h=>by simp at h
 |a::l,h=>by
  rw[Ft];cases e:p a with
  |false=>
   rw[if_neg (by simp)];exact⟨by simp,a,by simp,e⟩
  |true=>
   rw[if_pos rfl];have:∃c∈l,p c=false:=by
    obtain⟨c,hc,q⟩:=h;rcases On.mp hc with rfl|hc
    ·rw[e]at q;cases q
    exact⟨c,hc,q⟩
   obtain⟨o,m⟩:=WL this;exact⟨by simp;omega,by simpa using m⟩
variable {Z:Str}
def gH(e:Z.cps.contains=p)(w:Str):(Txt.stripChars w Z != "")=!w.cps.toList.all p:=by
 have o:w.cps.toList.length=w.length:=AF;have m:("":Str).cps.toList=[]:=by decide
 unfold Txt.stripChars Txt.stripBy;rw[e];cases hd:w.cps.toList.all p with
 |true=>
  have r:w.cps.toList.takeWhile p=w.cps.toList:=bC λc l=>List.all_eq_true.mp hd c l;have lo:stripLo p true w=w.length:=by unfold stripLo;rw[if_pos rfl,r,o]
  have hi:stripHi p true w w.length=w.length:=by unfold stripHi;rw[if_pos rfl,List.drop_of_length_le (by omega)];simp
  unfold stripSame stripped;rw[lo,hi];by_cases h0:w.length=0
  ·have:w="":=by
    apply Qg;have:w.cps.toList=[]:=Bj (by omega);rw[this]
    decide
   subst this
   decide
  ·rw[if_neg (by simp[h0])];have:Builtin.Str.strSub w w.length w.length="":=by
    apply Qg;rw[m];show(w.cps.extract w.length w.length).toList=[];simp
   rw[this]
   decide
 |false=>
  have s:∃c∈w.cps.toList,p c=false:=by rw[List.all_eq_false]at hd;obtain⟨c,l,q⟩:=hd;exact⟨c,l,by simpa using q⟩
  obtain⟨y,u⟩:=WL s;have v:∃c∈(w.cps.toList.drop (w.cps.toList.takeWhile p).length).reverse,p c=false:=by obtain⟨c,l,q⟩:=u;exact⟨c,List.mem_reverse.mpr l,q⟩
  obtain⟨x,_⟩:=WL v;rw[List.length_reverse,BE]at x;have lo:stripLo p true w=(w.cps.toList.takeWhile p).length:=by unfold stripLo;rw[if_pos rfl]
  rw[DK,bne_iff_ne];intro a;have a:=congrArg (λz:Str=>z.cps.toList.length) a;have a:(if stripSame p true true w=true then w else stripped p true true w).cps.toList.length=("":Str).cps.toList.length:=a;rw[m]at a;split at a
  ·rw[A2]at a;omega
  unfold stripped at a;rw[lo]at a;unfold stripHi at a;rw[if_pos rfl]at a;have a:(w.cps.extract (w.cps.toList.takeWhile p).length<|w.length-((w.cps.toList.drop (w.cps.toList.takeWhile p).length).reverse.takeWhile p).length).toList.length=0:=a;rw[AF,Array.size_extract]at a;have A:w.cps.size=w.length:=rfl;omega
def strip_nil(w:Str):(Txt.stripChars w "0123456789" != "")=!ML w:=by
 have a:∀c:Nat,(Bp "0123456789").cps.contains c=dig c:=by
  intro c;rw[<-EZ];have:(Bp "0123456789").cps.toList=[48,49,50,51,52,53,54,55,56,57]:=by decide
  rw[this];unfold dig;rw[A8];simp;omega
 have l:(Bp "0123456789").cps.contains=dig:=funext a;exact gH l w
def TR:Ao ("":Str)=true:=by decide +kernel
def YW(h:IU w m)(hm:m<=9000)(s:Hg):O4 [.str w] s=some (.int (HE w),s):=by
 have er:Jc 1 [.str w]=[some (.str w)]:=rfl;have lw:=Ar h.len hm;have o:fits w.length=true:=Ku (by omega);have r:=eq_str (st:=s) h.str TR;have v:N0 (.str w) [.str "0123456789"] s=some (.str (Txt.stripChars w "0123456789"),s):=by unfold N0;simp only[o,if_true]
 have x:Ao (Txt.stripChars w "0123456789")=true:=TM λc a=>h.ok c (by
  unfold Txt.stripChars Txt.stripBy at a;split at a
  ·exact a
  unfold stripped at a;have a:c∈(w.cps.extract _ _).toList:=a;rw[Ff]at a;exact BA (BK a))
 have u:=ne_str (st:=s) x TR;rw[strip_nil]at u;have y:Ho [.str w] s=some (.int w.length,s):=by simp[Ho,o]
 have A:decide ((w.length:Int) > 9)=!decide (w.length<=9):=by rw[A8];simp;omega
 have emp:(w=="")=!decide (1<=w.length):=by
  rw[A8];rw[beq_iff_eq];simp;constructor
  ·rintro rfl
   decide
  ·intro z;apply Qg;have:w.cps.toList.length=w.length:=AF;have:w.cps.toList=[]:=Bj (by omega);rw[this]
   decide
 rw[emp]at r;have E:good w 9=(decide (1<=w.length)&&decide (w.length<=9)&&ML w&&!lead w):=rfl;have test:IF (mT<|mB Il (mV 0)<|mK<|.str "") (IF (mT<|mB IP (Mg N0 (mV 0)<|Hc (mK<|.str "0123456789")<|mZ)<|mK<|.str "")<|IF (JY (mT<|mB Il (mB Hr (mV 0)<|mK<|.int 0)<|mK<|.str "0")<|mT<|mB IP (mV 0)<|mK<|.str "0")<|mT<|mB Jg (Hi Ho<|Hc (mV 0)<|mZ)<|mK<|.int 9) [some (.str w)] s=some (!good w 9,s):=by
  rw[E,LP];simp only[La,IE,Ih,Ip,Af,Aa,r];cases Q:decide (1<=w.length) with
  |false=>rfl
  |true=>
   simp only[DV,AM,if_false,LP,La,IE,Qb,Ih,Ip,Af,Aa,IH,IM,v,u];cases e:ML w with
   |false=>simp
   |true=>
    have W:=bP h hm (of_decide_eq_true Q) s;simp only[DV,AM,if_false];rw[W];cases f:lead w with
    |true=>simp
    |false=>
     simp only[Aa,AM,if_false,La,IE,Jm,IH,Ih,Ip,Af,IM,y,Jg,HN,A];simp
 refine ID ?_;unfold jJ;rw[er];cases l:good w 9 with
 |false=>
  rw[l]at test;refine JT ?_;rw[K7,test];have:HE w=-1:=by unfold HE;rw[l];rfl
  rw[this];rfl
 |true=>
  rw[l]at test;have Z:=good_int l (by decide) s;refine HA (ρ1:=[some (.str w)]) (s1:=s) (by rw[K7,test];rfl) ?_;rw[show HE w=val w from if_pos l];simp only[LQ,Jm,IH,Ih,Af,Aa,IM,Z,Ak]
variable {ds:List D}
def RZ{m:ME}{ρ:HX}{s1:Hg}{l:Nat}(h:m ρ s=some (.ref l,s1))(e:s1[l]?=some (.lst ds)):Jw m ρ s=some (⟨ds,[(l,ds)]⟩,s1):=by
 have a:Iw s1 l=some ds:=by unfold Iw;rw[e]
 rw[WD,h];simp only[Aa,Rp,a,Ak,JH]
def zfG{ws:List Str}{l:Nat}(h:∀w∈ws,IU w m)(hm:m<=9000)(i:ws.length<=9100)(e:s[l]?=some (.lst<|ws.map D.str)):∃s',Sa [.ref l] s=some (.tup (ws.map Hs),s')/\Gr s s':=by
 obtain⟨s1,a,g1⟩:=WE (W:=⟨ws.map D.str,[(l,ws.map D.str)]⟩) (g:=Hq 0) (c:=IJ) (m:=YS) (f:=D.str) (h:=Hs) (R:=λρ=>∃u,ρ=[u]) (as:=ws) (ρ:=[none]) (st:=s) ⟨none,rfl⟩
  (λs' g=>R8 ((g.old _<|qax e).trans e)) (λw hw ρ s' hρ _=>by obtain⟨u,rfl⟩:=hρ;obtain⟨s2,o,g2⟩:=jI (h w hw) hm s';refine⟨[some (.str w)],s2,rfl,rfl,?_,g2,⟨_,rfl⟩⟩;unfold YS;simp only[Jm,IH,Ih,Af,Aa,IM,o])
 have r:fits (ws.map Hs).length=true:=Ku (by rw[Ah];omega);have v:=Px<|II s1<|.lst<|ws.map Hs;refine⟨s1++[.lst (ws.map Hs)],ID ?_,g1.trans<|Gr.app _ _⟩;unfold jF;rw[LQ,Jm,IH,Jz,RZ (m:=mV 0) (s1:=s) rfl e];simp only[Aa];rw[show HG (Jc 1 [.ref l]) 1 []=[none] from rfl,a];simp only[Aa,r,if_true,IM,v,Ak]
def tK(r:List Nat):∀a:Nat,a*10^r.length<=r.foldl (λacc c=>acc*10+(c-48)) a:=by
 induction r with
 |nil=>intro a;simp
 |cons c r l=>
  intro a;have h:=l<|a*10+(c-48);rw[List.foldl_cons,AB,Nat.pow_succ];refine Ar ?_ h;rw[Nat.mul_comm (10^r.length) 10,<-Nat.mul_assoc];exact CI _<|Ed _ _
def qA(h:good w m=true)(f:7<=w.length):1000000<=val w:=by
 unfold good at h;rw[Ad,Ad,Ad]at h;obtain⟨⟨_,s⟩,a⟩:=h;have l:w.cps.toList.length=w.length:=AF
 match e:w.cps.toList with
 |[]=>rw[e]at l;simp at l;omega
 |c::r=>
  rw[e]at l;have o:=List.all_eq_true.mp s c (by rw[e];exact Al);unfold dig at o;rw[Ad]at o;have v:=of_decide_eq_true o.1;have ne:c≠48:=λz=>by
   unfold lead at a;rw[e,z]at a;have:(w != "0")=true:=bne_iff_ne.mpr λq=>by rw[q]at f;exact absurd f<|by decide
   rw[this]at a;cases a
  have h:=tK r<|c-48;have u:D4 (c::r)=r.foldl (λacc c=>acc*10+(c-48)) (0*10+(c-48)):=rfl;have p:10^6<=10^r.length:=Nat.pow_le_pow_right (by decide) (by simp at l;omega);have q:1*10^r.length<=(c-48)*10^r.length:=CI _ (by omega);unfold val;rw[e,u,Nat.zero_mul,Nat.zero_add];have:10^6<=r.foldl (λacc c=>acc*10+(c-48)) (c-48):=by omega
  have:(10:Nat)^6=1000000:=by decide
  omega
def Jf(lo hi:Int)(w:Str):Bool:=good w 6&&(decide (lo<=val w)&&decide (val w<=hi))
def cP(h:good w 6=true):good w 9=true:=by unfold good at *;simp only[Ad,decide_eq_true_eq]at *;exact⟨⟨⟨h.1.1.1,by omega⟩,h.1.2⟩,h.2⟩
variable {lo hi:Int}
def VQ(h0:0<=lo)(e:hi<1000000):(decide (lo<=HE w)&&decide (HE w<=hi))=Jf lo hi w:=by
 unfold HE Jf;cases c:good w 6 with
 |true=>rw[cP c];rfl
 |false=>
  cases a:good w 9 with
  |false=>
   have:decide (lo<=(-1:Int))=false:=decide_eq_false (by omega);simp[this]
  |true=>
   have l:7<=w.length:=Decidable.byContradiction λq=>by
    have:good w 6=true:=by unfold good at *;simp only[Ad,decide_eq_true_eq]at *;exact⟨⟨⟨a.1.1.1,by omega⟩,a.1.2⟩,a.2⟩
    rw[c]at this;cases this
   have:=qA a l;have d:decide (val w<=hi)=false:=decide_eq_false (by omega);simp[d]
def Kl(h:Jf lo hi w=true):HE w=val w/\lo<=val w/\val w<=hi/\Hs w=.int (val w):=by unfold Jf at h;rw[Ad,Ad]at h;exact⟨if_pos<|cP h.1,of_decide_eq_true h.2.1,of_decide_eq_true h.2.2,if_pos h.1⟩
def zmE(h:good w m=true):w=Hv (val w):=by
 unfold good at h;rw[Ad,Ad,Ad]at h;obtain⟨⟨⟨s,_⟩,x⟩,a⟩:=h;have s:=of_decide_eq_true s;have l:w.cps.toList.length=w.length:=AF;have hd:∀c∈w.cps.toList,48<=c/\c<=57:=λc o=>by have:=List.all_eq_true.mp x c o;unfold dig at this;rw[Ad]at this;exact⟨of_decide_eq_true this.1,of_decide_eq_true this.2⟩
 have y:(0:Int)<=val w:=by unfold val;omega
 apply Qg;rw[Vw y];have ev:(val w).toNat=D4 w.cps.toList:=by unfold val;omega
 rw[ev,NumText.toDigits_digitsVal (w.length-1) _ (by omega) hd ?_,By]
 ·symm
  refine(CP λc o=>?_).trans<|DL _;have:=hd c o;show(Char.ofNat c).toNat=c;have v:c.isValidChar:=Bu (by omega);unfold Char.ofNat;rw[dif_pos v];rfl
 ·match e:w.cps.toList with
  |[]=>rw[e]at l;simp at l;omega
  |[c]=>left;rw[e]at l;simp at l;omega
  |c::d::r=>
   right;refine⟨c,d::r,rfl,?_⟩;have E:=(hd c (by rw[e];exact Al)).1;have ne:c≠48:=λz=>by
    unfold lead at a;rw[e,z]at a;have:(w != "0")=true:=bne_iff_ne.mpr λq=>by
     rw[q]at e;have u:=congrArg De e;have A:("0":Str).cps.toList.length=1:=by decide
     rw[A]at u;simp at u
    rw[this]at a;cases a
   omega
open L2.MP.Ce (JN Kr Hu Ij Lo Jv JQ Ji KL Qt Xk MM)
noncomputable abbrev Wd (w:Str):Prop:=IU w 9000
variable {x:Int}
theorem Xr:tyName st (.int x)=some "int":=rfl
theorem rS:tyName st .non=some "NoneType":=rfl
theorem RN:tyName st (.str z)=some "str":=rfl
theorem rT:tyName st (.tup ds)=some "tuple":=rfl
def W7:K1 "int" "int"=true:=by decide
def W6:K1 "int" "bool"=false:=by decide
def pP:K1 "NoneType" "int"=false:=by decide
def RL:K1 "str" "str"=true:=by decide
def sub_tt:K1 "tuple" "tuple"=true:=by decide
def zlJ:N3 [.int x,.int lo,.int hi] st=some (.bl (decide (lo<=x)&&decide (x<=hi)),st):=by
 refine ID ?_;unfold Yj;by_cases h1:lo<=x
 ·by_cases h2:x<=hi
  ·simp[Jj,Xr,W7,W6,h1,h2]
  simp[Jj,Xr,W7,W6,h1,h2]
 simp[Jj,Xr,W7,W6,h1]
def zlI:N3 [.non,.int lo,.int hi] st=some (.bl false,st):=by refine ID ?_;unfold Yj;simp[rS,pP]
def QP:N3 [Hs w,.int lo,.int hi] st=some (.bl (Jf lo hi w),st):=by
 unfold Hs Jf;cases good w 6 with
 |true=>exact zlJ
 |false=>exact zlI
def RY{N:Int}:LR [.tup ds,.int N] st=some (.bl ((ds.length:Int)==N),st):=by refine ID ?_;unfold gE;simp[rT,sub_tt,QD,eq_int]
variable {n:Nat}
def XQ(h:ds.length≠n):LR [.tup ds,.int n] st=some (.bl false,st):=by rw[RY,beq_eq_false_iff_ne.mpr (by omega)]
def Mn:Str:="abcdefghijklmnopqrstuvwxyz"
def Rk:Str:="abcdefghijklmnopqrstuvwxyz0123456789"
def WW:Lb (.str a) (.str b) st=some (.bl (!(A0 b a 0 b.length 1).isEmpty),st):=by
 have e:inD false (.str a) (.str b) st=none:=by
  unfold inD;cases l:Jn 50 st (.str a) with
  |none=>rfl
  |some p=>
   cases c:Jn 50 st (.str b) with
   |none=>rfl
   |some q=>
    have:q=.str b:=by
     rw[Jn]at c;split at c
     ·cases c;rfl
     ·cases c
    subst this;rfl
 unfold Lb JG;rw[e,Kz];rfl
def bG:Lb (.str ⟨#[c]⟩) (.str z) st=some (.bl (decide (c∈z.cps.toList)),st):=by rw[WW,FX z c]
def bF{l:List Nat}(h:z.cps.toList=l):z=⟨l.toArray⟩:=Qg<|by rw[h]
def J9(z:Str):Bool:=decide (1<=z.length)&&(decide (z.length<=8)&&z.cps.toList.all (λc=>decide (c∈Mn.cps.toList)))
def len_str(h:z.length<=10000):Ho [.str z] st=some (.int (z.length:Int),st):=by have:fits z.length=true:=Ku h;simp[Ho,this]
def sG(h:Wd z):∃st',Yh [.str z] st=some (.bl (J9 z),st')/\Gr st st':=by
 have l:=len_str (z:=z) (st:=st) (by have:=h.len;omega);have n:J4 "str" (mV 0) [some (.str z)] st=some (.bl true,st):=by simp[RN,RL]
 have hw:Jw (mV 0) [some (.str z)] st=some (⟨z.cps.toList.map λc=>D.str ⟨#[c]⟩,[]⟩,st):=rfl;obtain⟨s1,e,g⟩:=Qt (b:=λc=>decide (c∈Mn.cps.toList)) (fr:=[]) (m:=Yw) (ρ0:=[]) hw (λ_ _=>rfl) rfl (by rw[AF];exact Ar h.len (by decide)) (λc r s _=>⟨s,by
  have:=bG (c:=c) (z:=Mn) (st:=s);unfold Yw;show mB Lb (mV 0) (mK<|.str Mn) [some (.str ⟨#[c]⟩)] s=_;simp[this],Gr.refl s⟩)
 unfold J9;generalize z.cps.toList.all (λc=>decide (c∈Mn.cps.toList))=B at *;by_cases h1:1<=z.length
 ·have a:(1:Int)<=(z.length:Int):=by omega
  rw[decide_eq_true h1,BN];by_cases h2:z.length<=8
  ·have o:(z.length:Int)<=8:=by omega
   rw[decide_eq_true h2,BN];exact⟨s1,ID<|KL<|Ji n<|Ji (s1:=st) (by show Jj _ _ _ _ _ [some (.str z)] st=_;simp[Jj,l,a,o]) e,g⟩
  ·have o:¬(z.length:Int)<=8:=by omega
   rw[decide_eq_false h2,Cu];exact⟨st,ID<|KL<|Ji n<|JQ (by show Jj _ _ _ _ _ [some (.str z)] st=_;simp[Jj,l,a,o]),Gr.refl _⟩
 ·have a:¬(1:Int)<=(z.length:Int):=by omega
  rw[decide_eq_false h1,Cu];exact⟨st,ID<|KL<|Ji n<|JQ (by show Jj _ _ _ _ _ [some (.str z)] st=_;simp[Jj,l,a]),Gr.refl _⟩
def zH{n:Str}(h:Wd n):∃st',Yn [.tup [.str n,Hs a]] st=some (.bl (J9 n&&Jf 1 4 a),st')/\Gr st st':=by
 obtain⟨s1,e,g⟩:=sG (st:=st) h;have x0:∀s:Hg,Hr (.tup [.str n,Hs a]) (.int 0) s=some (.str n,s):=λs=>J7 (by decide) rfl;have m:∀s:Hg,Hr (.tup [.str n,Hs a]) (.int 1) s=some (Hs a,s):=λs=>J7 (by decide) rfl;have c:LR [.tup [.str n,Hs a],.int 2] st=some (.bl true,st):=RY;have o:=QP (w:=a) (lo:=1) (hi:=4) (st:=s1);generalize D.tup [.str n,Hs a]=P at *;refine⟨s1,ID ?_,g⟩;unfold gD
 cases l:J9 n with
 |true=>
  rw[l]at e;simp[c,x0,e,m,o]
 |false=>
  rw[l]at e;simp[c,x0,e]
def Pg(z:Str):Bool:=decide (z.length<=1)&&z.cps.toList.all (λc=>decide (c∈Rk.cps.toList))
def yY:(A0 Rk ("":Str) 0 Rk.length 1).isEmpty=false:=by decide +kernel
def aC(h:z.length<=1)(f:(A0 Z ("":Str) 0 Z.length 1).isEmpty=false):Lb (.str z) (.str Z) st=some (.bl (z.cps.toList.all λc=>decide (c∈Z.cps.toList)),st):=by
 have m:z.cps.toList.length=z.length:=AF;rcases l:z.cps.toList with _|⟨c,r⟩
 ·have e:z="":=by
   rw[bF l]
   decide +kernel
  rw[e,WW,f];rfl
 ·have n:r=[]:=by
   rw[l]at m;cases r with
   |nil=>rfl
   |cons a b=>simp at m;omega
  subst n;rw[bF l];have:=bG (c:=c) (z:=Z) (st:=st);rw[this];simp
def tH(h:Wd z):VD [.str z] st=some (.bl (Pg z),st):=by
 have c:=len_str (z:=z) (st:=st) (by have:=h.len;omega);have l:J4 "str" (mV 0) [some (.str z)] st=some (.bl true,st):=by simp[RN,RL]
 refine ID ?_;show mR (JM (J4 "str"<|mV 0)<|JM (mB Ik (Hi Ho<|Hc (mV 0)<|mZ)<|mK<|.int 1)<|mB Lb (mV 0)<|mK<|.str Rk) [some (.str z)] st=_;unfold Pg
 by_cases h1:z.length<=1
 ·have a:(z.length:Int)<=1:=by omega
  have m:=aC (st:=st) h1 yY;rw[decide_eq_true h1,BN];generalize Rk=Z at *;exact KL<|Ji l<|Ji (s1:=st) (by simp[c,a])<|by simp[m]
 ·have a:¬(z.length:Int)<=1:=by omega
  rw[decide_eq_false h1,Cu];exact KL<|Ji l<|JQ<|by simp[c,a]
def Sj(p:Str×Int):Key×D:=(.inr p.1,.int p.2)
def O5(stk:List (Str×Int)):List (Key×D):=OM []<|stk.map Sj
def wO{κ:Type}[DecidableEq κ]:∀(kvs:List (κ×D)) (k q:κ) (d:D),Kn (putD kvs k d) q=if q=k then some d else Kn kvs q:=by
 intro kvs k q d;unfold putD;by_cases h:(kvs.any λc=>decide (c.1=k))=true
 ·rw[if_pos h]
  induction kvs with
  |nil=>simp at h
  |cons p r m=>
   unfold Kn at *;rw[Ax,Bi,Bi];by_cases hp:p.1=k
   ·simp only[hp,if_true]
    by_cases hq:q=k
    ·simp[hq]
    ·have:¬k=q:=λe=>hq e.symm;simp only[this,decide_false,hq,if_false];clear h m
     induction r with
     |nil=>rfl
     |cons u r a=>
      rw[Ax,Bi,Bi];by_cases hu:u.1=k
      ·simp only[hu,if_true,this,decide_false];exact a
      ·simp only[hu,if_false]
       by_cases huq:u.1=q
       ·simp[huq]
       simp only[huq,decide_false];exact a
   ·simp only[hp,if_false]
    by_cases hpq:p.1=q
    ·have:¬q=k:=λe=>hp<|hpq.trans e;simp[hpq,this]
    simp only[hpq,decide_false];refine m ?_;rw[Cj]at h;simpa[hp]using h
 ·rw[if_neg h];unfold Kn;rw[List.find?_append]
  by_cases hq:q=k
  ·subst hq;have:kvs.find? (λc=>decide (c.1=q))=none:=by
    rw[List.find?_eq_none];intro x n l;exact h<|List.any_eq_true.mpr ⟨x,n,l⟩
   simp[this]
  have:¬k=q:=λe=>hq e.symm;simp[hq,this]
def gU:∀(S:List (Str×Int)) (kvs:List (Key×D)) (x:Str),(Kn (OM kvs<|S.map Sj)<|.inr x).isSome=((Kn kvs<|.inr x).isSome || decide (x∈S.map (·.1)))
 |[],kvs,x=>by simp[OM]
 |p::S,kvs,x=>by
  have f:=gU S (putD kvs (.inr p.1)<|.int p.2) x;have e:OM kvs ((p::S).map Sj)=OM (putD kvs (.inr p.1)<|.int p.2) (S.map Sj):=rfl;rw[e,f,wO]
  by_cases h:x=p.1
  ·subst h;simp
  ·have a:¬(.inr x:Key)=.inr p.1:=λz=>h<|GO z;rw[if_neg a];have q:(x∈(p::S).map (·.1)) ↔ (x∈S.map (·.1)):=by rw[Ax,Ck];exact⟨λz=>z.resolve_left h,.inr⟩
   rw[decide_eq_decide.mpr q]
def xB(S:List (Str×Int))(x:Str):(Kn (O5 S)<|.inr x).isSome=decide (x∈S.map (·.1)):=by have:=gU S [] x;simpa[O5,Kn]using this
def bY:∀stk:List (Str×Int),Rn (stk.map Jb)=some (stk.map Sj)
 |[]=>rfl
 |p::r=>by have e:=bY r;rw[Ax,Rn,e];rfl
def sZ{stk:List (Str×Int)}(e:stk.length<=9000):UN [.tup (stk.map Jb)] st=some (.ref st.length,st++[.dk (O5 stk)]):=by have a:fits (stk.map Sj).length=true:=Ku (by rw[Ah];omega);have c:UO [.tup (stk.map Jb)] st=none:=rfl;unfold UN N7;rw[c,Kz];unfold UP;simp only[bY,Aa,a,if_true];rfl
variable {S:List (Str×Int)}{k:Nat}
def in_dict(ok:Ao z=true)(hd:st[k]?=some (.dk<|O5 S)):Lb (.str z) (.ref k) st=some (.bl (decide (z∈S.map (·.1))),st):=by
 have a1:inD false (.str z) (.ref k) st=none:=by
  unfold inD;rw[OZ (n:=49) ok];have:Jn 50 st (.ref k)=none:=by rw[Jn];simp[Iw,hd]
  rw[this];rfl
 have a2:Od (.str z) (.ref k) st=none:=rfl;have a:=xB S z;unfold Lb JG;rw[a1,Kz,a2,Kz];simp[Rb,look,hd,keyOf,a]
def NW(ns:List Str)(z:Str):Bool:=(z=="") || decide (z∈ns)
def wU(h:Wd z)(hd:st[k]?=some (.dk<|O5 S)):Yi [.str z,.ref k] st=some (.bl (NW (S.map (·.1)) z),st):=by
 have c:=in_dict h.str hd;have a:=eq_str (st:=st) h.str TR;refine ID ?_;unfold fV NW;generalize decide (z∈S.map (·.1))=B at *;generalize (z=="")=E at *;cases E with
 |true=>simp[RN,RL,JI,a]
 |false=>simp[RN,RL,JI,a,c]
def kindS(ns:List Str):List Str->Bool
 |[f,a,b,c,d]=>Pg f&&[a,b,c,d].all (NW ns)
 |_=>false
def Q9{α:Type}{l:List α}(h:l.length=5):∃f a b c d,l=[f,a,b,c,d]:=by
 match l,h with
 |[f,a,b,c,d],_=>exact⟨f,a,b,c,d,rfl⟩
variable {l:List Str}
def dM{ns:List Str}(h:l.length≠5):kindS ns l=false:=by
 unfold kindS;split
 ·exact absurd rfl h
 rfl
def rY{l:List Str}(h:∀x∈l,Wd x)(hd:st[n]?=some (.dk<|O5 S)):∃st',Yg [.tup (l.map D.str),.ref n] st=some (.bl (kindS (S.map (·.1)) l),st')/\Gr st st':=by
 by_cases hl:l.length=5
 ·obtain⟨f,a,b,c,d,rfl⟩:=Q9 hl;have o:LR [.tup ([f,a,b,c,d].map D.str),.int 5] st=some (.bl true,st):=RY;have x0:Hr (.tup<|[f,a,b,c,d].map D.str) (.int 0) st=some (.str f,st):=J7 (by decide) rfl;have r:=tH (st:=st) (h f<|by simp);have hw:Jw (Iu (mV 0) (Iq<|mK<|.int 1)<|IS) [some (.tup<|[f,a,b,c,d].map D.str),some (.ref n)] st=some (⟨[a,b,c,d].map D.str,[]⟩,st):=rfl;obtain⟨s1,u,g1⟩:=Qt (b:=NW (S.map (·.1))) (fr:=[1]) (m:=VN) (ρ0:=[some (.ref n)]) hw (λ_ _=>rfl) rfl (by simp) (λx v s w=>by
   have:=wU (h x<|Aj _ v) ((w.old _<|qax hd).trans hd);refine⟨s,?_,Gr.refl s⟩;unfold VN;simp[this])
  rw[show kindS (S.map (·.1)) [f,a,b,c,d]=(Pg f&&[a,b,c,d].all (NW (S.map (·.1)))) from rfl];generalize [a,b,c,d].all (NW (S.map (·.1)))=B at *;generalize D.tup ([f,a,b,c,d].map D.str)=P at *;generalize y:Hi JR (Hc (Jk (Jw<|Iu (mV 0) (Iq<|mK<|.int 1)<|IS) 1 [1] (Hq 0) IJ<|VN)<|mZ)=AC at *;have eB:fU=mR (JM (Hi LR<|Hc (mV 0)<|Hc (mK<|.int 5)<|mZ)<|JM (Hi VD<|Hc (mB Hr (mV 0)<|mK<|.int 0)<|mZ) AC):=by rw[<-y];rfl
  cases hf:Pg f with
  |true=>
   rw[hf]at r;refine⟨s1,ID ?_,g1⟩;rw[eB];show mR _ [some P,some (.ref n)] st=_;simp[o,x0,r,u]
  |false=>
   rw[hf]at r;refine⟨st,ID ?_,Gr.refl _⟩;rw[eB];show mR _ [some P,some (.ref n)] st=_;simp[o,x0,r]
 have o:LR [.tup (l.map D.str),.int 5] st=some (.bl false,st):=XQ (n:=5) (by rw[Ah];exact hl);rw[dM hl];refine⟨st,ID<|KL<|JQ ?_,Gr.refl _⟩;show Hi _ _ [some (.tup<|l.map D.str),some (.ref n)] st=_;generalize D.tup (l.map D.str)=P at *;simp[o]
def Kt:List Str->Bool
 |[a,b]=>Jf 1 12 a&&Jf 1 12 b
 |_=>false
def zC:Yl [.tup (l.map Hs)] st=some (.bl (Kt l),st):=by
 refine ID ?_;by_cases o:l.length=2
 ·obtain⟨a,b,rfl⟩:∃a b,l=[a,b]:=by
   match l,o with
   |[a,b],_=>exact⟨a,b,rfl⟩
  have c:LR [.tup ([a,b].map Hs),.int 2] st=some (.bl true,st):=RY;have x0:Hr (.tup<|[a,b].map Hs) (.int 0) st=some (Hs a,st):=J7 (by decide) rfl;have r:Hr (.tup<|[a,b].map Hs) (.int 1) st=some (Hs b,st):=J7 (by decide) rfl;have m:=QP (w:=a) (lo:=1) (hi:=12) (st:=st);have s:=QP (w:=b) (lo:=1) (hi:=12) (st:=st);show _=some (Fl.rt (.bl<|Jf 1 12 a&&Jf 1 12 b),st);generalize D.tup ([a,b].map Hs)=P at *;unfold Yr
  cases h:Jf 1 12 a with
  |true=>rw[h]at m;simp[c,x0,m,r,s]
  |false=>rw[h]at m;simp[c,x0,m]
 ·have c:LR [.tup (l.map Hs),.int 2] st=some (.bl false,st):=XQ (n:=2) (by rw[Ah];exact o);have:Kt l=false:=by
   unfold Kt;split
   ·exact absurd rfl o
   rfl
  rw[this];generalize D.tup (l.map Hs)=P at *;unfold Yr;simp[c]
section
variable {B:D}{w h:Int}{KN:Nat}
structure P5(B:D)(w h:Int)(KN:Nat):Prop where
 fl:∀s:Hg,Hr B (.int 1) s=some (.tup [.int w,.int h],s)
 kd:∃(H:D) (ks:List D),(∀s:Hg,Hr B (.int 0) s=some (H,s))/\(∀s:Hg,Hr H (.int 2) s=some (.tup ks,s))/\ks.length=KN
def xF(c:P5 B w h KN):Ym [B,.tup [Hs a,Hs b]] st=some (.bl (Jf 0 (w-1) a&&Jf 0 (h-1) b),st):=by
 have m:LR [.tup [Hs a,Hs b],.int 2] st=some (.bl true,st):=RY;have x0:Hr (.tup [Hs a,Hs b]) (.int 0) st=some (Hs a,st):=J7 (by decide) rfl;have r:Hr (.tup [Hs a,Hs b]) (.int 1) st=some (Hs b,st):=J7 (by decide) rfl;have n:Hr (.tup [.int w,.int h]) (.int 0) st=some (.int w,st):=J7 (by decide) rfl;have s:Hr (.tup [.int w,.int h]) (.int 1) st=some (.int h,st):=J7 (by decide) rfl;have l:=QP (w:=a) (lo:=0) (hi:=w-1) (st:=st);have u:=QP (w:=b) (lo:=0) (hi:=h-1) (st:=st);have v:=c.fl;generalize D.tup [Hs a,Hs b]=P at *;generalize D.tup [.int w,.int h]=F at *;refine ID ?_;unfold gB;refine HA (ρ1:=[some B,some P,some F]) (s1:=st) (by simp[v]) ?_
 cases o:Jf 0 (w-1) a with
 |true=>rw[o]at l;simp[m,x0,n,l,r,s,u]
 |false=>rw[o]at l;simp[m,x0,n,l]
def NU(w h:Int)(KN:Nat):List Str->Bool
 |[a,b,c]=>Jf 0 (w-1) a&&Jf 0 (h-1) b&&Jf 0 ((KN:Int)-1) c
 |_=>false
def wK(c:P5 B w h KN):Yc [B,.tup (l.map Hs)] st=some (.bl (NU w h KN l),st):=by
 obtain⟨H,r,z,A,E⟩:=c.kd;refine ID ?_;unfold fW;refine HA (ρ1:=[some B,some (.tup<|l.map Hs),some (.tup r)]) (s1:=st) (by
  show Hm _ _ [some B,some (.tup<|l.map Hs),none] st=_;generalize D.tup (l.map Hs)=P at *;simp[z,A]) ?_
 by_cases s:l.length=3
 ·obtain⟨x,y,k,rfl⟩:∃x y k,l=[x,y,k]:=by
   match l,s with
   |[a,b,c],_=>exact⟨a,b,c,rfl⟩
  have m:LR [.tup ([x,y,k].map Hs),.int 3] st=some (.bl true,st):=RY;have S:Hr (.tup<|[x,y,k].map Hs) (.int 2) st=some (Hs k,st):=J7 (by decide) rfl;have o:=xF (a:=x) (b:=y) (st:=st) c;have W:Ho [.tup r] st=some (.int (KN:Int),st):=by rw[QD,E]
  have Z:=QP (w:=k) (lo:=0) (hi:=(KN:Int)-1) (st:=st);have u:Iu (mV 1) IS (Iq<|mK<|.int 2) [some B,some (.tup<|[x,y,k].map Hs),some (.tup r)] st=some (.tup [Hs x,Hs y],st):=rfl;show _=some (Fl.rt (.bl<|Jf 0 (w-1) x&&Jf 0 (h-1) y&&Jf 0 ((KN:Int)-1) k),st);generalize Iu (mV 1) IS (Iq<|mK<|.int 2)=e at *;generalize D.tup ([x,y,k].map Hs)=P at *;generalize D.tup [Hs x,Hs y]=Q at *
  cases v:Jf 0 (w-1) x&&Jf 0 (h-1) y with
  |true=>rw[v]at o;simp[m,u,o,S,W,Z]
  |false=>rw[v]at o;simp[m,u,o]
 ·have m:LR [.tup (l.map Hs),.int 3] st=some (.bl false,st):=XQ (n:=3) (by rw[Ah];exact s);have:NU w h KN l=false:=by
   unfold NU;split
   ·exact absurd rfl s
   rfl
  rw[this];generalize D.tup (l.map Hs)=P at *;simp[m]
end
end L2.MP.T0
namespace L2.MP.T0
open PySem L2.MP L2.MP.Hn
open L2.MP.Ce (JN Kr Hu Ij Lo Jv JQ Ji KL Qt)
def vX(ds:List D):cutD ds (some 1) none=ds.drop 1:=by
 unfold cutD;have l:HT.HR ds.length 0 (some 1)=min 1 ds.length:=by unfold HT.HR;simp
 have o:HT.HR ds.length ds.length none=ds.length:=rfl;rw[l,o];cases ds with
 |nil=>rfl
 |cons a r=>
  have:min 1 (a::r).length=1:=by simp
  rw[this];simp
variable {l:Nat}{d:D}{ds:List D}{s:Hg}
def Wl(h:s[l]?=some (.lst (d::ds))):NM (.ref l) (some 1) none s=some (.ref s.length,s++[.lst ds]):=by
 have:QW (.ref l) (some 1) none s=some (.ref s.length,s++[.lst ds]):=by show(Iw s l).map _=_;simp only[Iw,h,Ak,vX];rfl
 unfold NM PF;rw[this,JH,JH]
variable {n:Nat}
def U2{x:D}(h:s[n]?=some (.lst ds))(a:ds.getLast?=some x):Hr (.ref n) (.int<|-1) s=some (x,s):=by
 have l:ds≠[]:=λz=>by subst z;cases a
 have r:0<ds.length:=List.length_pos_iff.mpr l;rw[List.getLast?_eq_getElem?]at a;have u:(-1:Int)+(ds.length:Int)=((ds.length-1:Nat):Int):=by omega
 have v:¬(0:Int)<=-1:=by decide
 have o:Nc ds.length (-1)=some (ds.length-1):=by unfold Nc;simp;omega
 simp only[Hr,JG,Lj,Iw,h,Aa,LB,o,a,Ak,JH]
variable {x:Str}{st:Hg}
def bH{f:Nat}{x:Str}{ss:List Str}(hf:st[f]?=some (.lst<|ss.map D.str))(h:∀x∈ss,Ao x=true)(a:Ao x=true):Lb (.str x) (.ref f) st=some (.bl (decide (x∈ss)),st):=by unfold Lb JG inD;rw[QL (n:=48) hf h,OZ (n:=49) a];simp only[Aa,PN,Ak,Xg,JH];rfl
variable {ρ:HX}{s1:Hg}
def Rq{a b:MT}(c:a ρ st=some (false,s1)):JY a b ρ st=some (false,s1):=by simp only[Nj,c,Aa,AM,if_false]
def Ru{a b:MT}{r:Option (Bool×Hg)}(c:a ρ st=some (true,s1))(e:b ρ s1=r):JY a b ρ st=r:=by simp only[Nj,c,Aa,if_true,e]
def ne_int(a b:Int)(st:Hg):IP (.int a) (.int b) st=some (.bl (!(a==b)),st):=by unfold IP;rw[Jn,Jn];simp[Bl]
variable {a b c h:Int}{w0:Str}{α:Type}{KN:Nat}
section
variable {r:List Str}{q f:Nat}{A:List D}
def Xq(h:∀x∈r,Wd x)(g:r.length<=9000)(e:s[q]?=some (.lst<|(w0::r).map D.str)):
  ∃s',Hi Sa (Hc (Iu (mV 0) (Iq<|mK<|.int 1)<|IS)<|mZ) (some (.ref q)::ρ) s=some (.tup (r.map Hs),s')/\Gr s s':=by
 have a:=Wl (s:=s) (l:=q) (d:=.str w0) (ds:=r.map D.str) e;obtain⟨s1,c,g1⟩:=zfG (l:=s.length) (s:=s++[.lst (r.map D.str)]) h (Ai _) (by omega)<|II _ _;refine⟨s1,?_,(Gr.app _ _).trans g1⟩;generalize s++[O.lst (r.map D.str)]=s0 at *;simp[a,c]
def eB:List Str->Bool
 |[a]=>Jf 1 4 a
 |_=>false
def v0(r:List Str)(i:Nat):Int:=val (r.getD i "")
def one{l:List α}(h:l.length=1):∃a,l=[a]:=by
 match l,h with
 |[a],_=>exact⟨a,rfl⟩
def two{l:List α}(h:l.length=2):∃a b,l=[a,b]:=by
 match l,h with
 |[a,b],_=>exact⟨a,b,rfl⟩
def three{l:List α}(h:l.length=3):∃a b c,l=[a,b,c]:=by
 match l,h with
 |[a,b,c],_=>exact⟨a,b,c,rfl⟩
def Z8(h:r.length≠1):eB r=false:=by
 unfold eB;split
 ·exact absurd rfl h
 rfl
def tW(h:∀x∈r,Wd x)(e:r.length<=9000)(g:s[q]?=some (.lst<|(w0::r).map D.str))(hf:s[f]?=some (.lst A)):
  ∃s',VV [.ref q,.ref f,.non] s=some (if(A.isEmpty&&eB r)=true then .int (v0 r 0)else .non,s')/\Gr s s':=by
 obtain⟨s1,Q,g1⟩:=Xq (ρ:=[some (.ref f),some .non,none]) h e g;have u:=(g1.old _<|qax hf).trans hf;have E:=M6 u;have c:Ho [.tup (r.map Hs)] s1=some (.int r.length,s1):=by rw[QD,Ah]
 refine⟨s1,ID ?_,g1⟩;unfold iV;refine HA (ρ1:=[some (.ref q),some (.ref f),some .non,some (.tup<|r.map Hs)]) (s1:=s1) (by
  show Hm _ _ [some (.ref q),some (.ref f),some .non,none] s=_;rw[Kg,Q]
  rfl) ?_
 have l:=ne_int r.length 1 s1;by_cases h1:r.length=1
 ·obtain⟨a,rfl⟩:=one h1;have l:IP (.int 1) (.int 1) s1=some (.bl false,s1):=rfl;have c:Ho [.tup ([a].map Hs)] s1=some (.int 1,s1):=c;have o:Hr (.tup<|[a].map Hs) (.int 0) s1=some (Hs a,s1):=J7 (by decide) rfl;have n:=QP (w:=a) (lo:=1) (hi:=4) (st:=s1);generalize D.tup ([a].map Hs)=P at *
  cases A with
  |nil=>
   have t1:mT (mB Jg (Hi Ho<|Hc (mV 1)<|mZ)<|mK<|.int 0) [some (.ref q),some (.ref f),some .non,some P] s1=some (false,s1):=Hu (by simp[E]);show _=some (Fl.rt (if Jf 1 4 a=true then .int (val a)else .non),s1)
   cases v:Jf 1 4 a with
   |true=>
    rw[v]at n;rw[(Kl v).2.2.2]at o n;refine HA (Kr (s1:=s1)<|Jv (s1:=s1) (Hu<|by simp[c,l])<|Jv (s1:=s1) t1<|Ij (b:=true)<|by simp[o,n])<|by simp[o]
   |false=>
    rw[v]at n;exact JT<|JN (s1:=s1) (Jv (s1:=s1) (Hu<|by simp[c,l])<|Jv (s1:=s1) t1<|Ij (b:=false)<|by simp[o,n]) rfl
  |cons x y=>
   exact JT<|JN (s1:=s1) (Jv (s1:=s1) (Hu<|by simp[c,l])<|Lo<|Hu (b:=true)<|by simp[E]) rfl
 rw[Z8 h1,Gx,if_neg (by decide)];rw[show(((r.length:Int))==1)=false from beq_eq_false_iff_ne.mpr (by omega)]at l;generalize D.tup (r.map Hs)=P at *;exact JT<|JN (s1:=s1) (Lo<|Hu (b:=true)<|by simp[c,l]) rfl
def ZA(a b:Str):Bool:=decide (a.cps.toList<b.cps.toList)
def P7(last:Option Str)(n:Str):Bool:=match last with
 |none=>true
 |some l=>ZA l n
def sB(last:Option Str):List Str->Bool
 |[n,a]=>J9 n&&Jf 1 4 a&&P7 last n
 |_=>false
def sV(r:List Str):Str×Int:=(r.getD 0 "",v0 r 1)
def U1{last:Option Str}(h:r.length≠2):sB last r=false:=by
 unfold sB;split
 ·exact absurd rfl h
 rfl
theorem nZ{a b:Str}:leB (.str a) (.str b) s=some (.bl (!ZA b a),s):=rfl
def qV{ps:List (Str×Int)}(h:∀x∈r,Wd x)(e:s[q]?=some (.lst<|(w0::r).map D.str))(hf:s[f]?=some (.lst<|ps.map Jb)):
  ∃s',V0 [.ref q,.ref f,.non] s=some (if sB (ps.getLast?.map (·.1)) r=true then Jb (sV r)else .non,s')/\Gr s s':=by
 have l:=M6 e;have l:Ho [.ref q] s=some (.int (r.length+1:Nat),s):=by rw[l];simp
 by_cases h2:r.length=2
 ·obtain⟨n,a,rfl⟩:=two h2;have l:Ho [.ref q] s=some (.int 3,s):=l;have w:IP (.int 3) (.int 3) s=some (.bl false,s):=rfl;have E:Hr (.ref q) (.int 1) s=some (.str n,s):=Mo e (by decide) rfl;have Q:Hr (.ref q) (.int 2) s=some (.str a,s):=Mo e (by decide) rfl;obtain⟨s1,W,g1⟩:=jI (h a<|by simp) (Ai _) s;obtain⟨s2,o,g2⟩:=zH (a:=a) (st:=s1) (h n<|by simp);have g:=g1.trans g2;have v:=(g.old _<|qax hf).trans hf;have x0:∀s:Hg,Hr (.tup [.str n,Hs a]) (.int 0) s=some (.str n,s):=λs=>J7 (by decide) rfl;have i:∀(c:Jf 1 4 a=true),D.tup [.str n,Hs a]=Jb (sV [n,a]):=λc=>by rw[(Kl c).2.2.2];rfl
  generalize j:D.tup [.str n,Hs a]=P at *;refine⟨s2,ID ?_,g⟩;unfold YI;refine HA (Kr (s1:=s)<|Hu ?_) ?_
  ·show mB IP (Hi Ho<|Hc (mV 0)<|mZ) (mK<|.int 3) [some (.ref q),some (.ref f),some .non,none] s=_;simp[l,w]
  refine HA (ρ1:=[some (.ref q),some (.ref f),some .non,some P]) (s1:=s1) ?_ ?_
  ·show Hm _ _ [some (.ref q),some (.ref f),some .non,none] s=_;rw[<-j];simp[E,Q,W]
  have last:JY (Nr<|mV 1) (mT<|mB leB (mB Hr (mV 3)<|mK<|.int 0)<|mB Hr (mB Hr (mV 1)<|Ko<|mK<|.int 1)<|mK<|.int 0) [some (.ref q),some (.ref f),some .non,some P] s2=some (!P7 (ps.getLast?.map (·.1)) n,s2):=by
   have y:Iw s2 f=some (ps.map Jb):=by unfold Iw;rw[v]
   rcases Dq ps with rfl|⟨r,u,rfl⟩
   ·refine Rq ?_;simp[Vc,Mu,y]
   ·have m:=U2 (x:=Jb u) v (by simp);have z:Hr (Jb u) (.int 0) s2=some (.str u.1,s2):=J7 (by decide) rfl;have le:=nZ (a:=n) (b:=u.1) (s:=s2);refine Ru (s1:=s2) ?_ (Hu ?_)
    ·simp[Vc,Mu,y]
    rw[show(r.concat u).getLast?=some u by simp];simp[Nq,m,z,x0,le,P7]
  show _=some (Fl.rt (if(J9 n&&Jf 1 4 a&&P7 (ps.getLast?.map (·.1)) n)=true then Jb (sV [n,a])else .non),s2);cases c:J9 n&&Jf 1 4 a with
  |false=>
   rw[c]at o;exact JT<|JN (s1:=s2) (Lo<|Ij (b:=false)<|by simp[o]) rfl
  |true=>
   rw[c]at o;cases A:P7 (ps.getLast?.map (·.1)) n with
   |false=>
    rw[A]at last;exact JT<|JN (s1:=s2) (Jv (s1:=s2) (Ij (b:=true)<|by simp[o]) last) rfl
   |true=>
    rw[A]at last;rw[Ad]at c;refine HA (Kr (s1:=s2)<|Jv (s1:=s2) (Ij (b:=true)<|by simp[o]) last) ?_;rw[i c.2];simp
 rw[U1 h2,if_neg (by decide)];have w:=ne_int (r.length+1:Nat) 3 s;rw[show(((r.length+1:Nat):Int)==3)=false from beq_eq_false_iff_ne.mpr (by omega)]at w;refine⟨s,ID ?_,Gr.refl _⟩;unfold YI;refine JT<|JN (s1:=s) (Hu (b:=true) ?_) rfl;show mB IP (Hi Ho<|Hc (mV 0)<|mZ) (mK<|.int 3) [some (.ref q),some (.ref f),some .non,none] s=_;simp only[IE,Jm,IH,IM,Ih,Ip,Af,Aa,l,w];rfl
def JC(x:Str):Str:=if x=="-" then "" else x
def kB(ns r:List Str):Bool:=!decide (("":Str)∈r)&&kindS ns (r.map JC)
def pZ(h:Wd x):Wd (JC x):=by
 unfold JC;split
 ·exact⟨by decide,λc a=>by
   have:("":Str).cps.toList=[]:=by decide
   rw[this]at a;cases a⟩
 exact h
def cO:Ao ("-":Str)=true:=by decide +kernel
def mM{S:List (Str×Int)}(e:w0="kind")(h:∀x∈r,Wd x)(H:r.length<=9000)(g:s[q]?=some (.lst<|(w0::r).map D.str))(hd:s[n]?=some (.dk<|O5 S)):
  ∃s',VO [.ref q,.ref f,.ref n] s=some (if kB (S.map (·.1)) r=true then .tup ((r.map JC).map D.str)else .non,s')/\Gr s s':=by
 have o0:Ao w0=true:=by rw[e];decide +kernel
 have a:=bH (x:="") g (LC o0 λx c=>(h x c).str) TR;have A:decide (("":Str)∈w0::r)=decide (("":Str)∈r):=by rw[decide_eq_decide,Ck,e];exact⟨λz=>z.resolve_left (by decide),.inr⟩
 rw[A]at a;unfold kB;cases hm:decide (("":Str)∈r) with
 |true=>
  rw[hm]at a;refine⟨s,ID ?_,Gr.refl _⟩;unfold Yv;refine JT<|JN (s1:=s) (Hu (b:=true) ?_) rfl;show mB Lb (mK<|.str "") (mV 0) [some (.ref q),some (.ref f),some (.ref n),none] s=_;simp only[IE,Ih,Ip,Af,Aa,a]
 |false=>
  rw[hm]at a;have E:=Wl (s:=s) (l:=q) (d:=.str w0) (ds:=r.map D.str) g;have Q:=Gr.app s [.lst (r.map D.str)];have w:=II s<|.lst<|r.map D.str;generalize W:s++[O.lst (r.map D.str)]=s0 at *;have i:Kq ⟨r.map D.str,[(s.length,r.map D.str)]⟩ (Hq 0) IJ VS (r.map D.str) [none] s0=some (r.map λx=>D.str (JC x),s0):=by
   refine Qw (R:=λρ=>∃u,ρ=[u]) ⟨none,rfl⟩ (R8 w) λx c ρ hρ=>?_;obtain⟨u,rfl⟩:=hρ;refine⟨[some (.str x)],rfl,rfl,?_,⟨_,rfl⟩⟩;have j:=eq_str (st:=s0) (h x c).str cO;unfold VS;rw[RD,La];simp only[IE,Ih,Ip,Af,Aa,j];unfold JC;cases x=="-" <;> rfl
  have m:fits (r.map λx=>D.str (JC x)).length=true:=Ku (by rw[Ah];omega);have em:Jk (Jw<|Iu (mV 0) (Iq<|mK<|.int 1)<|IS) 1 [] (Hq 0) IJ VS [some (.ref q),some (.ref f),some (.ref n),none] s=some (.ref s0.length,s0++[.lst (r.map λx=>D.str (JC x))]):=by rw[Jz,RZ (l:=s.length) (s1:=s0) (by rw[RG];simp only[Ih,Af,Aa,KQ,K8,Ip,E]) w];simp only[Aa];rw[show HG [some (.ref q),some (.ref f),some (.ref n),none] 1 []=[none] from rfl,i];simp only[Aa,m,if_true]
  have B:(r.map λx=>D.str (JC x))=(r.map JC).map D.str:=by simp
  rw[B]at em;have g1:=Q.trans (Gr.app s0 [.lst ((r.map JC).map D.str)]);have C:=Px (II s0<|.lst<|(r.map JC).map D.str);generalize F:s0++[O.lst ((r.map JC).map D.str)]=s1 at *;have v:=(g1.old _<|qax hd).trans hd;obtain⟨s2,o,g2⟩:=rY (l:=r.map JC) (λx c=>by obtain⟨y,G,rfl⟩:=UV.mp c;exact pZ (h y G)) v
  refine⟨s2,ID ?_,g1.trans g2⟩;unfold Yv;generalize D.tup ((r.map JC).map D.str)=P at *;refine HA (Kr (s1:=s)<|Hu ?_) ?_
  ·show mB Lb (mK<|.str "") (mV 0) [some (.ref q),some (.ref f),some (.ref n),none] s=_;simp only[IE,Ih,Ip,Af,Aa,a]
  refine HA (ρ1:=[some (.ref q),some (.ref f),some (.ref n),some P]) (s1:=s1) ?_ ?_
  ·show Hm _ _ [some (.ref q),some (.ref f),some (.ref n),none] s=_;simp only[Kg,Jm,IH,em,IM,Aa,C];rfl
  rw[DK,BN];cases hk:kindS (S.map (·.1)) (r.map JC) with
  |true=>rw[hk]at o;simp[RD,o]
  |false=>rw[hk]at o;simp[RD,o]
def qS{ks:List D}(h:∀x∈r,Wd x)(e:r.length<=9000)(g:s[q]?=some (.lst<|(w0::r).map D.str))(hf:s[f]?=some (.lst A)):
  ∃s',VZ [.ref q,.ref f,.tup ks] s=some (if(!ks.isEmpty&&(A.isEmpty&&Kt r))=true then .tup [.int (v0 r 0),.int (v0 r 1)]else .non,s')/\Gr s s':=by
 obtain⟨s1,E,g1⟩:=Xq (ρ:=[some (.ref f),some (.tup ks),none]) h e g;have v:=(g1.old _<|qax hf).trans hf;have w:=M6 v;have o:Ho [.tup ks] s1=some (.int ks.length,s1):=QD;have u:=zC (l:=r) (st:=s1);have n:=eq_int ks.length 0 s1;have W:Kt r=true->D.tup (r.map Hs)=.tup [.int (v0 r 0),.int (v0 r 1)]:=λc=>by
  unfold Kt at c;split at c
  ·rename_i a b;rw[Ad]at c;show D.tup [Hs a,Hs b]=_;rw[(Kl c.1).2.2.2,(Kl c.2).2.2.2];rfl
  ·cases c
 generalize D.tup (r.map Hs)=P at *;refine⟨s1,ID ?_,g1⟩;unfold iD;refine HA (ρ1:=[some (.ref q),some (.ref f),some (.tup ks),some P]) (s1:=s1) (by
  show Hm _ _ [some (.ref q),some (.ref f),some (.tup ks),none] s=_;rw[Kg,E]
  rfl) ?_
 cases ks with
 |nil=>
  have n:Il (.int 0) (.int 0) s1=some (.bl true,s1):=rfl;have o:Ho [.tup []] s1=some (.int 0,s1):=rfl;exact JT<|JN (s1:=s1) (Lo<|Hu (b:=true)<|by simp[o,n]) rfl
 |cons k ks=>
  rw[show(((k::ks).length:Int)==0)=false from beq_eq_false_iff_ne.mpr (by simp;omega)]at n;generalize D.tup (k::ks)=Q at *;generalize ((k::ks).length:Int)=i at *
  cases A with
  |cons x y=>
   exact JT<|JN (s1:=s1) (Jv (s1:=s1) (Hu<|by simp[o,n])<|Lo<|Hu (b:=true)<|by simp[w]) rfl
  |nil=>
   have t1:mT (mB Jg (Hi Ho<|Hc (mV 1)<|mZ)<|mK<|.int 0) [some (.ref q),some (.ref f),some Q,some P] s1=some (false,s1):=Hu (by simp[w]);show _=some (Fl.rt (if Kt r=true then _ else .non),s1)
   cases c:Kt r with
   |false=>
    rw[c]at u;exact JT<|JN (s1:=s1) (Jv (s1:=s1) (Hu<|by simp[o,n])<|Jv (s1:=s1) t1<|Ij (b:=false)<|by simp[u]) rfl
   |true=>
    rw[c]at u;rw[if_pos rfl,<-W c];exact HA (Kr (s1:=s1)<|Jv (s1:=s1) (Hu<|by simp[o,n])<|Jv (s1:=s1) t1<|Ij (b:=true)<|by simp[u])<|by simp
def UU(last:Option Tl)(r:List Str):Bool:=match last with
 |none=>true
 |some t=>!lexLe [v0 r 0,v0 r 1] [t.1,t.2.1]
def tB(w h:Int)(KN:Nat)(last:Option Tl)(r:List Str):Bool:=NU w h KN r&&UU last r
def tV(r:List Str):Tl:=(v0 r 0,v0 r 1,v0 r 2)
theorem nY{d:Int}:leB (.tup [.int a,.int b]) (.tup [.int c,.int d]) s=some (.bl (lexLe [a,b] [c,d]),s):=rfl
def zlO{w:Int}(e:NU w h KN r=true):D.tup (r.map Hs)=HD (HL<|tV r):=by
 unfold NU at e;split at e
 ·rename_i a b c;rw[Ad,Ad]at e;show D.tup [Hs a,Hs b,Hs c]=_;rw[(Kl e.1.1).2.2.2,(Kl e.1.2).2.2.2,(Kl e.2).2.2.2];rfl
 ·cases e
def mO{B:D}{w:Int}{ts:List Tl}(c:P5 B w h KN)(e:∀x∈r,Wd x)(g:r.length<=9000)(i:s[q]?=some (.lst<|(w0::r).map D.str))(hf:s[f]?=some (.lst<|ts.map λt=>HD (HL t))):
  ∃s',Wg [.ref q,.ref f,B] s=some (if tB w h KN ts.getLast? r=true then HD (HL<|tV r)else .non,s')/\Gr s s':=by
 obtain⟨s1,Q,g1⟩:=Xq (ρ:=[some (.ref f),some B,none]) e g i;have o:=(g1.old _<|qax hf).trans hf;have n:=wK (l:=r) (st:=s1) c;refine⟨s1,ID ?_,g1⟩;unfold jN tB;refine HA (ρ1:=[some (.ref q),some (.ref f),some B,some (.tup<|r.map Hs)]) (s1:=s1) (by
  show Hm _ _ [some (.ref q),some (.ref f),some B,none] s=_;rw[Kg,Q]
  rfl) ?_
 cases v:NU w h KN r with
 |false=>
  rw[v]at n;generalize D.tup (r.map Hs)=P at *;exact JT<|JN (s1:=s1) (Lo<|Ij (b:=false)<|by simp[n]) rfl
 |true=>
  rw[v]at n;rw[zlO v]at n ⊢;have y:∀(u:Tl) (s:Hg),NM (HD<|HL u) none (some 2) s=some (.tup [.int u.1,.int u.2.1],s):=λu s=>rfl;have s0:=y<|tV r;have last:JY (Nr<|mV 1) (mT<|mB leB (Iu (mV 3) IS<|Iq<|mK<|.int 2)<|Iu (mB Hr (mV 1)<|Ko<|mK<|.int 1) IS<|Iq<|mK<|.int 2) [some (.ref q),some (.ref f),some B,some (HD<|HL<|tV r)] s1=some (!UU ts.getLast? r,s1):=by
   have A:Iw s1 f=some (ts.map λt=>HD (HL t)):=by unfold Iw;rw[o]
   rcases Dq ts with rfl|⟨W,u,rfl⟩
   ·refine Rq ?_;simp[Vc,Mu,A]
   ·have j:=U2 (x:=HD (HL u)) o (by simp);have m:=y u;have le:=nY (a:=v0 r 0) (b:=v0 r 1) (c:=u.1) (d:=u.2.1) (s:=s1);have s0:∀s:Hg,NM (HD<|HL<|tV r) none (some 2) s=some (.tup [.int (v0 r 0),.int (v0 r 1)],s):=s0;rw[show(W.concat u).getLast?=some u by simp];show _=some (!!lexLe [v0 r 0,v0 r 1] [u.1,u.2.1],s1);rw[FH];generalize lexLe [v0 r 0,v0 r 1] [u.1,u.2.1]=z at *;generalize HD (HL<|tV r)=T at *;refine Ru (s1:=s1) ?_ (Hu ?_)
    ·simp[Vc,Mu,A]
    generalize HD (HL u)=U at *;simp[Nq,j,m,s0,le]
  generalize HD (HL<|tV r)=T at *;rw[BN]
  cases E:UU ts.getLast? r with
  |true=>
   rw[E]at last;exact HA (Kr (s1:=s1)<|Jv (s1:=s1) (Ij (b:=true)<|by simp[n]) last)<|by simp
  |false=>
   rw[E]at last;exact JT<|JN (s1:=s1) (Jv (s1:=s1) (Ij (b:=true)<|by simp[n]) last) rfl
end
theorem Wo:JD d .non s=some (.bl (P6 d),s):=rfl
variable {r:Nat}
def W5{o:O}(e:Gr st s)(g:Gr s s1)(f:st.length<=r)(h:r<s.length):Gr st (s1.set r o)/\(s1.set r o)[r]?=some o:=⟨⟨by rw[Co];have:=e.len;have:=g.len;omega,λk hk=>by rw[AG (by omega),g.old k (by have:=e.len;omega)];exact e.old k hk⟩,Cr (by have:=g.len;omega)⟩
structure Jt(s:Hg)(r:Nat)(rss:List (List Str)):Prop where
 ex:∃ads:List Nat,ads.length=rss.length/\s[r]?=some (O.lst (ads.map D.ref))/\∀(k:Nat) (ws:List Str),rss[k]?=some ws->∃a,ads[k]?=some a/\s[a]?=some (O.lst (ws.map D.str))
variable {rss:List (List Str)}
def Jt.gr{s':Hg}(h:Jt s r rss)(g:Gr s s'):Jt s' r rss:=by obtain⟨c,o,l,u⟩:=h.ex;refine⟨c,o,(g.old _<|qax l).trans l,λk ws hk=>?_⟩;obtain⟨a,v,n⟩:=u k ws hk;exact⟨a,v,(g.old _<|qax n).trans n⟩
def Jt.len(h:Jt s r rss):Ho [.ref r] s=some (.int rss.length,s):=by obtain⟨a,c,l,_⟩:=h.ex;rw[M6 l,Ah,c]
def Jt.ix{k:Nat}{ws:List Str}(h:Jt s r rss)(hk:rss[k]?=some ws):∃a,Hr (.ref r) (.int k) s=some (.ref a,s)/\s[a]?=some (.lst<|ws.map D.str):=by obtain⟨c,v,l,n⟩:=h.ex;obtain⟨a,o,u⟩:=n k ws hk;exact⟨a,Mo l (by omega) (by rw[Ct,AJ,o];rfl),u⟩
def rowsOf(z:Str):List (List Str):=(Txt.split z "\n").map λx=>Txt.split x " "
structure Ol(rss:List (List Str)):Prop where
 few:rss.length<=8100
 row:∀ws∈rss,ws≠[]/\ws.length<=9000/\∀x∈ws,Wd x
variable {z:Str}
def VA(h:IU z 8000):(Txt.split z "\n").length<=8100:=by have:=VJ z "\n";have:=h.len;omega
def tZ(h:IU z 8000):Ol (rowsOf z):=by refine⟨by unfold rowsOf;rw[Ah];exact VA h,λws hw=>?_⟩;obtain⟨x,c,rfl⟩:=UV.mp hw;have a:=h.part c;refine⟨TL _ _,?_,λy l=>(a.part l).up (by decide)⟩;have:=VJ x " ";have:=a.len;omega
def uA(h:IU z 8000):
  ∃r s',Jk (Jw<|Mg NI (mV 0)<|Hc (mK<|.str "\n")<|mZ) 1 [] (Hq 0) IJ VX (some (.str z)::ρ) s=some (.ref r,s')/\Jt s' r (rowsOf z)/\Gr s s':=by
 have B:=RW (z:=z) (y:="\n") (s:=s) (by decide) (by have:=h.len;omega);have C:∀x∈Txt.split z "\n",IU x 8000:=λx o=>h.part o;have F:=VA h;unfold rowsOf;generalize Txt.split z "\n"=ls at *;have A:=II s<|.lst<|ls.map D.str;have G:=Gr.app s [.lst (ls.map D.str)];generalize H:s++[O.lst (ls.map D.str)]=s0 at *;have I:Jw (Mg NI (mV 0)<|Hc (mK<|.str "\n")<|mZ) (some (.str z)::ρ) s=some (⟨ls.map D.str,[(s.length,ls.map D.str)]⟩,s0):=RZ (by rw[Qb];simp only[Ih,Af,Aa,IH,Ip,IM,B]) A;obtain⟨xs,ρ',s',e,J,u,l,E,v,n⟩:=Rv (W:=⟨ls.map D.str,[(s.length,ls.map D.str)]⟩) (g:=Hq 0) (c:=IJ) (m:=VX) (ds:=ls.map D.str) (acc:=[]) (ρ:=[none]) (st:=s0)
  (Inv:=λk a ρ s=>Gr s0 s/\(∃u,ρ=[u])/\∃l:List Nat,a=l.map D.ref/\l.length=k/\∀(j:Nat) (x:Str),j<k->ls[j]?=some x->∃a,l[j]?=some a/\s[a]?=some (O.lst<|(Txt.split x " ").map D.str))
  ⟨Gr.refl _,⟨none,rfl⟩,[],rfl,rfl,λj ws q=>absurd q (Gj _)⟩
  (λk a ρ s _ Q=>R8 ((Q.1.old _<|qax A).trans A))
  (λk d a ρ s hd Q=>by
   obtain⟨g,⟨u,rfl⟩,l,rfl,hlen,n⟩:=Q;rw[AJ]at hd;cases hw:ls[k]? with
   |none=>rw[hw]at hd;cases hd
   |some x=>
    rw[hw]at hd;cases hd;have K:=RW (z:=x) (y:=" ") (s:=s) (by decide) (by have:=(C x<|AD hw).len;omega);refine⟨[some (.str x)],s,true,s,rfl,rfl,.inl ⟨rfl,.ref s.length,s++[.lst ((Txt.split x " ").map D.str)],?_,g.trans<|Gr.app _ _,⟨_,rfl⟩,l++[s.length],by simp,by simp[hlen],λj y q f=>?_⟩⟩
    ·unfold VX;rw[Qb];simp only[Ih,Af,Aa,IH,Ip,IM,K]
    ·by_cases hjk:j<k
     ·obtain⟨a,i,w⟩:=n j y hjk f;refine⟨a,by rw[AL (by omega)];exact i,((Gr.app s [.lst ((Txt.split x " ").map D.str)]).old _<|qax w).trans w⟩
     ·have:j=k:=by omega
      subst this;rw[hw]at f;cases f;refine⟨s.length,?_,II _ _⟩;rw[<-hlen];simp)
 have E:xs=l.map D.ref:=by simpa using E
 subst E;rw[Ah]at v;have L:fits (l.map D.ref).length=true:=Ku (by rw[Ah];omega);refine⟨s'.length,s'++[.lst (l.map D.ref)],?_,⟨l,by rw[Ah];exact v,II _ _,λk ws hk=>?_⟩,(G.trans J).trans<|Gr.app _ _⟩
 ·rw[Jz,I];simp only[Aa];rw[show HG (some (.str z)::ρ) 1 []=[none] from rfl,e];simp only[Aa,L,if_true]
 ·rw[AJ]at hk
  cases o:ls[k]? with
  |none=>rw[o]at hk;cases hk
  |some x=>
   rw[o]at hk;cases hk;obtain⟨a,i,w⟩:=n k x (by have:=qax o;simpa using this) o;exact⟨a,i,((Gr.app s' [.lst (l.map D.ref)]).old _<|qax w).trans w⟩
def HU{α:Type}(word:Str)(b:List α->List Str->Bool)(v:List Str->α):List (List Str)->List α->Bool×List α×List (List Str)
 |(w0::e)::R,acc=>if w0=word then(if b acc e=true then HU word b v R (acc++[v e])else(true,acc,(w0::e)::R))else(false,acc,(w0::e)::R)
 |R,acc=>(false,acc,R)
def Lv(f:α->D)(l:Nat)(p:Bool×List α×List (List Str)):D:=if p.1=true then LA ((l+p.2.1.length:Nat):Int)else .tup (p.2.1.map f)
section
variable {T:MT}{L k:MS}{ρ2:HX}{s2:Hg} {r:Option (Fl×Hg)}
def bD(h:T ρ s=some (false,s1))(e:k ρ s1=r):mS (J3 T L<|n+1) k ρ s=r:=by refine HA (s1:=s1) (ρ1:=ρ) ?_ e;show(T ρ s).bind _=_;rw[h];rfl
def lC(h:T ρ s=some (true,s1))(e:L ρ s1=some (.nx ρ2,s2))(f:mS (J3 T L n) k ρ2 s2=r):mS (J3 T L<|n+1) k ρ s=r:=by
 have:J3 T L (n+1) ρ s=J3 T L n ρ2 s2:=by show(T ρ s).bind _=_;rw[h];simp only[Aa,if_true];rw[e];rfl
 rw[<-f];unfold mS;rw[this]
def lD(h:T ρ s=some (true,s1))(e:L ρ s1=some (.rt d,s2)):mS (J3 T L<|n+1) k ρ s=some (.rt d,s2):=by refine JT ?_;show(T ρ s).bind _=_;rw[h];simp only[Aa,if_true];rw[e];rfl
end
variable {word:Str}
section
variable {f:α->D}{b:List α->List Str->Bool}{v:List Str->α}{G:GN}{known:D}
def Tp(m:Jt st r rss)(ok:Ol rss)(K:N5 x=some G)(L:Ao word=true)(hl:l<=rss.length)(M:∀(acc:List α) (i:List Str) (s:Hg) (q:Nat),(word::i)∈rss->Gr st s->s[q]?=some (.lst<|(word::i).map D.str)->s[st.length]?=some (.lst<|acc.map f)->∃s',G [.ref q,.ref st.length,known] s=some (if b acc i=true then f (v i)else .non,s')/\Gr s s')(hf:∀a,P6 (f a)=false):∃st',QM [.ref r,.int l,.str word,.fn x,known] st=some (Lv f l (HU word b v (rss.drop l) []),st')/\Gr st st':=by
 have key:∀(R X:List (List Str)) (acc:List α) (n:Nat) (s:Hg) (v6:Option D),rss=X++R->X.length=l+acc.length->R.length<n->Gr st s->s[st.length]?=some (.lst<|acc.map f) ->
   ∃s',mS (J3 T8 V1 n) (mR<|Hi Mr<|Hc (mV 5)<|mZ) [some (.ref r),some (.int (X.length:Int)),some (.str word),some (.fn x),some known,some (.ref st.length),v6] s=some (.rt (Lv f l<|HU word b v R acc),s')/\Gr st s':=by
  intro R
  induction R with
  |nil=>
   intro X acc n s v6 c y B g u;obtain⟨n,rfl⟩:∃j,n=j+1:=⟨n-1,by omega⟩
   have R1:=m.gr g;have z:=R1.len;have w:=Px u;refine⟨s,bD (s1:=s) ?_ ?_,g⟩
   ·unfold T8;refine Rq<|Hu ?_;have:rss.length=X.length:=by rw[c];simp
    simp[z];omega
   show _=some (Fl.rt (.tup<|acc.map f),s);simp[w]
  |cons ws R N=>
   intro X acc n s v6 c y B g u;obtain⟨n,rfl⟩:∃j,n=j+1:=⟨n-1,by omega⟩
   have R1:=m.gr g;have z:=R1.len;have h:ws∈rss:=by rw[c];simp
   obtain⟨E,_,S⟩:=ok.row ws h;obtain⟨w0,i,rfl⟩:∃w0 i,ws=w0::i:=by
    cases ws with
    |nil=>exact absurd rfl E
    |cons a b=>exact⟨a,b,rfl⟩
   have hk:rss[X.length]?=some (w0::i):=by rw[c];simp
   obtain⟨q,C,F⟩:=R1.ix hk;have T:Hr (.ref q) (.int 0) s=some (.str w0,s):=Mo F (by decide) rfl;have U:=eq_str (st:=s) (S w0<|by simp).str L;have Y:(X.length:Int)<(rss.length:Int):=by have:=qax hk;omega
   have w:T8 [some (.ref r),some (.int (X.length:Int)),some (.str word),some (.fn x),some known,some (.ref st.length),v6] s=some (w0==word,s):=by
    unfold T8;refine Ru (s1:=s) (Hu ?_)<|Hu ?_
    ·simp[z,Y]
    simp only[IE,Ih,Ip,Af,Az,Aa,C,T,U]
   by_cases hw:w0=word
   ·subst hw;rw[beq_self_eq_true]at w;obtain⟨s1,Z,g1⟩:=M acc i s q h g F u;have a1:Hm (U3 N5 (mV 3)<|Hc (mB Hr (mV 0)<|mV 1)<|Hc (mV 5)<|Hc (mV 4)<|mZ) (Hq 6) [some (.ref r),some (.int (X.length:Int)),some (.str w0),some (.fn x),some known,some (.ref st.length),v6] s=some (.nx [some (.ref r),some (.int (X.length:Int)),some (.str w0),some (.fn x),some known,some (.ref st.length),some (if b acc i=true then f (v i)else .non)],s1):=by
     rw[Kg,vN];simp only[Ih,IH,IM,IE,Af,Az,Aa,C,K,Z];rfl
    show ∃s',_=some (Fl.rt (Lv f l<|if w0=w0 then _ else _),s')/\_;rw[if_pos rfl]
    cases H:b acc i with
    |false=>
     rw[H]at a1;refine⟨s1,lD w ?_,g.trans g1⟩;unfold V1;refine HA a1<|JT<|JN (s1:=s1) (Hu (b:=true)<|by simp[Wo,P6]) ?_;show OL LA (mV 1) _ s1=some (Fl.rt (LA ((l+acc.length:Nat):Int)),s1);rw[<-y];rfl
    |true=>
     rw[H]at a1;have A:s1[st.length]?=some (.lst<|acc.map f):=(g1.old _<|qax u).trans u;have I:=append_at (x:=f (v i)) A (by
      rw[Ah];have:=ok.few;have:rss.length=X.length+(R.length+1):=by rw[c];simp
      omega)
     obtain⟨g2,J⟩:=W5 (o:=O.lst (acc.map f++[f (v i)])) g g1 (Ai _)<|qax u;have em:acc.map f++[f (v i)]=(acc++[v i]).map f:=by simp
     rw[em]at I g2 J;obtain⟨s',e',Q⟩:=N (X++[w0::i]) (acc++[v i]) n (s1.set st.length<|.lst<|(acc++[v i]).map f) (some<|f<|v i) (by rw[c];simp) (by simp;omega) (by simp at B;omega) g2 J;refine⟨s',lC w ?_ e',Q⟩;unfold V1;refine HA a1<|HA (Kr (s1:=s1)<|Hu (b:=false)<|by simp[Wo,hf]) ?_;refine HA (ρ1:=[some (.ref r),some (.int (X.length:Int)),some (.str w0),some (.fn x),some known,some (.ref st.length),some (f<|v i)]) (s1:=s1.set st.length (.lst<|(acc++[v i]).map f)) ?_ ?_
     ·have z:Iw s1 st.length=some (acc.map f):=by unfold Iw;rw[A]
      rw[NF,ND];simp only[Ih,IH,IM,Af,Az,Aa,z,if_true,I,Ak]
     rw[cI (a:=(X.length:Int)) (b:=1) (s1:=s1.set st.length (.lst<|(acc++[v i]).map f)) rfl rfl];have:(X.length:Int)+1=((X++[w0::i]).length:Int):=by simp
     rw[this];rfl
   rw[beq_eq_false_iff_ne.mpr hw]at w;have W:=Px u;refine⟨s,bD (s1:=s) w ?_,g⟩;show _=some (Fl.rt (Lv f l<|if w0=word then _ else _),s);rw[if_neg hw];show _=some (Fl.rt (.tup<|acc.map f),s);simp[W]
 have c:rss=rss.take l++rss.drop l:=(E3 _ _).symm;have y:(rss.take l).length=l:=by rw[Ba];omega
 obtain⟨s',e,Q⟩:=key (rss.drop l) (rss.take l) [] 9000 (st++[.lst []]) none c (by simpa using y) (by have:=ok.few;rw[BE];omega) (Gr.app _ _)<|II _ _;rw[y]at e;refine⟨s',ID ?_,Q⟩;unfold gG;refine HA (ρ1:=[some (.ref r),some (.int (l:Int)),some (.str word),some (.fn x),some known,some (.ref st.length),none]) (s1:=st++[.lst []]) ?_ e;show Hm _ _ [some (.ref r),some (.int (l:Int)),some (.str word),some (.fn x),some known,none,none] st=_;simp
def VH(R:List (List Str)):∀(acc:List α),∃M,R=M++(HU word b v R acc).2.2/\(HU word b v R acc).2.1.length=acc.length+M.length:=by
 induction R with
 |nil=>intro acc;exact⟨[],rfl,rfl⟩
 |cons ws R c=>
  intro acc;cases ws with
  |nil=>exact⟨[],rfl,rfl⟩
  |cons w0 a=>
   unfold HU;split
   ·split
    ·obtain⟨M,f,h⟩:=c<|acc++[v a];exact⟨(w0::a)::M,by rw[Ej,<-f],by rw[h];simp;omega⟩
    exact⟨[],rfl,rfl⟩
   exact⟨[],rfl,rfl⟩
end
noncomputable abbrev Rows:=List (List Str)
def pT(w h:Int)(n:Nat)(R:Rows):Bool×List Tl×Rows:=HU "tile" (λacc=>tB w h n acc.getLast?) tV R []
def pK(ns:List Str)(R:Rows):Bool×List (List Str)×Rows:=HU "kind" (λ_=>kB ns) (λr=>r.map JC) R []
def pS(R:Rows):Bool×List (Str×Int)×Rows:=HU "stick" (λacc=>sB (acc.getLast?.map (·.1))) sV R []
def LX(e:Jx)(w h:Int)(l:Nat)(R:Rows):Nat⊕Jy:=if((pT w h e.kinds.length R).1 || !(pT w h e.kinds.length R).2.2.isEmpty)=true then .inl (l+(pT w h e.kinds.length R).2.1.length)else .inr ⟨e,w,h,(pT w h e.kinds.length R).2.1⟩
def LY(f:Jx)(l:Nat):Rows->Nat⊕Jy
 |(w0::e)::R=>if w0="floor"/\(!f.kinds.isEmpty&&Kt e)=true then LX f (v0 e 0) (v0 e 1) (l+1) R else .inl l
 |_=>.inl l
def MB(e:Int)(S:List (Str×Int))(l:Nat)(R:Rows):Nat⊕Jy:=if(pK (S.map (·.1)) R).1=true then .inl (l+(pK (S.map (·.1)) R).2.1.length)else LY ⟨e,S,(pK (S.map (·.1)) R).2.1⟩ (l+(pK (S.map (·.1)) R).2.1.length) (pK (S.map (·.1)) R).2.2
def Mz(e:Int)(R:Rows):Nat⊕Jy:=if(pS R).1=true then .inl (1+(pS R).2.1.length)else MB e (pS R).2.1 (1+(pS R).2.1.length) (pS R).2.2
def parse:Rows->Nat⊕Jy
 |(w0::e)::R=>if w0="enough"/\eB e=true then Mz (v0 e 0) R else .inl 0
 |_=>.inl 0
variable {rr:List Str}
section
variable {b:List α->List Str->Bool}{v:List Str->α}{R:Rows}{acc:List α}
def Pp(h:w0≠word):HU word b v ((w0::rr)::R) acc=(false,acc,(w0::rr)::R):=by unfold HU;exact if_neg h
def RO(h:b acc rr=false):HU word b v ((word::rr)::R) acc=(true,acc,(word::rr)::R):=by unfold HU;rw[if_pos rfl,if_neg (by rw[h];decide)]
def Tw(h:b acc rr=true):HU word b v ((word::rr)::R) acc=HU word b v R (acc++[v rr]):=by
 conv=>lhs;unfold HU
 rw[if_pos rfl,if_pos h]
end
inductive One {α:Type} (word:Str) (v:List Str->α) (B:List Str->Bool) (R:Rows):Bool×List α×Rows->Prop
 |no (h:∀rr R',R=(word::rr)::R'->B rr=false) (x:Bool) (rest:Rows):One word v B R (x,[],rest)
 |more (rr r2:List Str) (R':Rows) (h:R=(word::rr)::(word::r2)::R') (hb:B rr=true) (rest:Rows):One word v B R (true,[v rr],rest)
 |one (rr:List Str) (R':Rows) (h:R=(word::rr)::R') (hb:B rr=true):One word v B R (false,[v rr],R')
def U6{v:List Str->α}{B:List Str->Bool}(R:Rows):One word v B R (HU word (λacc rr=>acc.isEmpty&&B rr) v R []):=by
 match R with
 |[]=>exact .no (λ_ _ h=>by cases h) _ _
 |[]::R=>exact .no (λ_ _ h=>by cases h) _ _
 |(w0::rr)::R=>
  by_cases hw:w0=word
  ·subst hw
   cases a:B rr with
   |false=>
    rw[RO (by simp[a])];exact .no (λr c h=>by cases h;exact a) _ _
   |true=>
    rw[Tw (by simp[a])]
    match R with
    |[]=>exact .one rr _ rfl a
    |[]::R=>exact .one rr _ rfl a
    |(l::n)::R=>
     by_cases h1:l=w0
     ·subst h1;rw[RO (by simp)];exact .more rr n R rfl a _
     rw[Pp h1];exact .one rr _ rfl a
  rw[Pp hw];exact .no (λr c h=>by cases h;exact absurd rfl hw) _ _
def eQ{R:Rows}(h:∀rr e,R=(("enough":Str)::rr)::e->eB rr=false):parse R=.inl 0:=by
 unfold parse;split
 ·rename_i w0 rr e;refine if_neg λz=>?_;obtain⟨rfl,a⟩:=z;rw[h rr e rfl]at a;cases a
 rfl
variable {ho:Jx}
def Xy{R:Rows}(h:∀rr e,R=(("floor":Str)::rr)::e->(!ho.kinds.isEmpty&&Kt rr)=false):LY ho l R=.inl l:=by
 unfold LY;split
 ·rename_i w0 rr e;refine if_neg λz=>?_;obtain⟨rfl,a⟩:=z;rw[h rr e rfl]at a;cases a
 rfl
def eO{R:Rows}(e:(!ho.kinds.isEmpty&&Kt rr)=true):LY ho l ((("floor":Str)::rr)::R)=LX ho (v0 rr 0) (v0 rr 1) (l+1) R:=if_pos ⟨rfl,e⟩
variable {w:Str}
def lY{r:List Str}{R:Rows}(h:w≠"stick"):pS ((w::r)::R)=(false,[],(w::r)::R):=Pp h
def lV{ns:List Str}{r:List Str}{R:Rows}(h:w≠"kind"):pK ns ((w::r)::R)=(false,[],(w::r)::R):=Pp h
def lZ{r:List Str}{R:Rows}(h:w≠"tile"):pT a b n ((w::r)::R)=(false,[],(w::r)::R):=Pp h
variable {r2:List Str}
def zjW{R:Rows}(e:eB rr=true):parse ((("enough":Str)::rr)::(("enough":Str)::r2)::R)=.inl 1:=by show(if _ then _ else _)=_;rw[if_pos ⟨rfl,e⟩];unfold Mz;rw[lY (by decide)];simp only[AM,if_false];unfold MB;rw[lV (by decide)];simp only[AM,if_false];exact(Xy λa b h=>absurd (CK (CK h).1).1 (by decide)).trans rfl
def zmc{w:Int}{R:Rows}:LX ho w h l ((("floor":Str)::r2)::R)=.inl l:=by unfold LX;rw[lZ (by decide)];rfl
def LW:Nat⊕Jy->D
 |.inl n=>LA ((n:Nat):Int)
 |.inr b=>b.d
def Ex(r:Option (Fl×Hg))(d:D)(s:Hg):Prop:=∃a,r=some (.rt d,a)/\Gr s a
section
variable {g:GN}{mm:MA}{m:ME}{t:MT}{A B:MS}{i:Nat}{r:D}{f:α->D}{p:Bool×List α×Rows}
def W4(h:m ρ s=some (d,s1))(j:Gr s s1)(k:Ex (B (ρ.set i<|some d) s1) r s1):Ex (mS (Hm m<|Hq i) B ρ s) r s:=by obtain⟨a,e,c⟩:=k;exact⟨a,HA (by rw[Kg,h];rfl) e,j.trans c⟩
def U7(h:ρ[i]?=some (some<|.int a))(e:m ρ s=some (.int b,s))(j:a+b=c)(k:Ex (B (ρ.set i<|some<|.int c) s) r s):Ex (mS (Lg i m) B ρ s) r s:=by obtain⟨f,g,l⟩:=k;exact⟨f,HA (by rw[cI h e,j]) g,l⟩
def UR(h:t ρ s=some (false,s))(k:Ex (B ρ s) r s):Ex (mS (HS t A<|Ia) B ρ s) r s:=by obtain⟨a,e,c⟩:=k;exact⟨a,HA (Kr h) e,c⟩
def XZ(h:t ρ s=some (true,s))(e:m ρ s=some (.int a,s))(k:r=LA a):Ex (mS (HS t (OL LA m)<|Ia) B ρ s) r s:=by subst k;refine⟨s,JT<|JN h ?_,Gr.refl _⟩;unfold OL;rw[e];rfl
def Ta(em:mm ρ s=some (ds,s1))(j:Gr s s1)(h:∃s2,g ds s1=some (Lv f l p,s2)/\Gr s1 s2)(q:p.1=true->r=LA ((l+p.2.1.length:Nat):Int))(C:p.1=false->∀s2,Gr s1 s2->Ex (B (ρ.set i<|some<|.tup<|p.2.1.map f) s2) r s2):Ex (mS (Pa g mm i) B ρ s) r s:=by
 obtain⟨s2,e,g2⟩:=h;unfold Lv at e;cases a:p.1 with
 |true=>
  rw[if_pos a,<-q a]at e;refine⟨s2,JT ?_,j.trans g2⟩;unfold Pa;rw[em,q a]at *;simp only[Aa,e];rfl
 |false=>
  rw[if_neg (by rw[a];decide)]at e;obtain⟨s3,c,g3⟩:=C a s2 g2;refine⟨s3,HA ?_ c,(j.trans g2).trans g3⟩;unfold Pa;rw[em];simp only[Aa,e]
def UC{a k:ME}{y:D}{n:Int}{R:Nat}(e:a ρ s=some (.int n,s))(hk:k ρ s=some (y,s1))(j:ρ[1]?=some (some<|.ref R)):Hc (mV 1) (Hc a<|Hc (mK<|.str w)<|Hc (mK<|.fn x)<|Hc k<|mZ) ρ s=some ([.ref R,.int n,.str w,.fn x,y],s1):=by simp[j,e,hk]
end
def W0:∀x∈(["enough","stick","kind","floor","tile"]:List Str),Ao x=true:=by decide +kernel
def VF{rss M R X:List α}(h:rss.drop l=M++R)(e:n=M.length)(f:l<=rss.length):rss.drop (l+n)=R/\l+n<=rss.length:=by subst e;have:=congrArg De h;rw[BE,AI]at this;refine⟨?_,by omega⟩;rw[<-List.drop_drop,h,List.drop_left]
def Xm{f:α->D}{as:List α}:Ho [.tup (as.map f)] s=some (.int as.length,s):=by rw[QD,Ah]
def tR(h:IU z 8000):∃st',R0 [.str z] st=some (LW (parse (rowsOf z)),st')/\Gr st st':=by
 suffices q:Ex (Yk [some (.str z),none,none,none,none,none,none,none,none] st) (LW (parse (rowsOf z))) st by
  obtain⟨Q,e,g⟩:=q;exact⟨Q,ID e,g⟩
 obtain⟨r,s1,c1,R1,g1⟩:=uA (ρ:=[none,none,none,none,none,none,none,none]) (s:=st) h;have ok:=tZ h;generalize rowsOf z=rss at *;have W:∀{w:Str}{rr:List Str},(w::rr)∈rss->(∀x∈rr,Wd x)/\rr.length<=9000:=λ{w rr} hm=>by obtain⟨_,a,b⟩:=ok.row _ hm;exact⟨λx hx=>b x (Aj _ hx),by simp at a;omega⟩
 have lit:=W0;have q1:∀s:Hg,Il (.int 1) (.int 0) s=some (.bl false,s):=λs=>rfl;unfold Yk;refine UR (Ij (b:=true) (by simp[RN,RL])) (W4 c1 g1 ?_);have e2:=Tp (f:=D.int) (b:=λacc rr=>acc.isEmpty&&eB rr) (v:=λrr=>v0 rr 0) (word:="enough") (x:="read_enough") (known:=.non) (l:=0) R1 ok rfl (lit _ (by simp)) (Bo _) (λacc rr s q hm g i G=>by have:=tW (W hm).1 (W hm).2 i G;rw[Ek]at this;exact this) (λa=>rfl)
 rw[ES]at e2;have o2:=U6 (word:="enough") (v:=λrr=>v0 rr 0) (B:=eB) rss;generalize HU "enough" (λacc rr=>acc.isEmpty&&eB rr) (λrr=>v0 rr 0) rss []=p at e2 o2;refine Ta (UC rfl rfl rfl) (Gr.refl _) e2 (λu=>?_) λu s2 g2=>?_
 ·cases o2 with
  |no y=>rw[eQ y];rfl
  |more rr r2 H A I=>rw[A,zjW I];rfl
  |one=>cases u
 cases o2 with
 |more=>cases u
 |no y=>exact XZ (Hu (b:=true) rfl) rfl (by rw[eQ y];rfl)
 |one rr H A I=>
  rw[show parse rss=Mz (v0 rr 0) H by rw[A];exact if_pos ⟨rfl,I⟩];have d1:rss.drop 1=H:=by rw[A];rfl
  have l1:1<=rss.length:=by rw[A];simp
  have R2:=R1.gr g2;show Ex (mS _ _ [some (.str z),some (.ref r),some (.tup [.int (v0 rr 0)]),none,none,none,none,none,none] s2) _ _;generalize v0 rr 0=e;have i2:∀s:Hg,Hr (.tup [.int e]) (.int 0) s=some (.int e,s):=λs=>J7 (by decide) rfl;have le:∀s:Hg,Ho [.tup [.int e]] s=some (.int 1,s):=λs=>rfl;generalize D.tup [.int e]=E at *;refine UR (Hu (by simp[le,q1])) (W4 rfl (Gr.refl _) ?_)
  have e3:=Tp (f:=Jb) (b:=λacc=>sB (acc.getLast?.map (·.1))) (v:=sV) (word:="stick") (x:="read_stick") (known:=.non) (l:=1) R2 ok rfl (lit _ (by simp)) l1 (λacc rr s q hm g i G=>qV (W hm).1 i G) (λa=>rfl);obtain⟨M,eM,lM⟩:=VH (word:="stick") (b:=λacc=>sB (acc.getLast?.map (·.1))) (v:=sV) H [];rw[d1]at e3;unfold Mz
  change _=M++(pS H).2.2 at eM;change (pS H).2.1.length=_ at lM;change ∃Q,_=some (Lv Jb 1 (pS H),Q)/\_ at e3;generalize pS H=p at *;refine Ta (UC rfl rfl rfl) (Gr.refl _) e3 (λu=>by rw[if_pos u];rfl) λu s3 g3=>?_;rw[if_neg (by rw[u];decide)];obtain⟨_,S,J⟩:=p;have lM:S.length=M.length:=by simpa using lM
  obtain⟨d2,l2⟩:=VF (X:=[]) (d1.trans eM) lM l1;have few:=ok.few;have l4:Ho [.tup (S.map Jb)] s3=some (.int S.length,s3):=Xm;have ed:=sZ (stk:=S) (st:=s3) (by omega);have ad:=II s3 (.dk (O5 S));have L:=Gr.app s3 [.dk (O5 S)];generalize hs3:s3++[O.dk (O5 S)]=s4 at *;have R4:=(R2.gr g3).gr L
  have e4:=Tp (f:=Ju) (b:=λ_=>kB (S.map (·.1))) (v:=λr=>r.map JC) (word:="kind") (x:="read_kind") (known:=.ref s3.length) (l:=1+S.length) R4 ok rfl (lit _ (by simp)) l2 (λacc rr s q hm g i G=>mM rfl (W hm).1 (W hm).2 i ((g.old _ (qax ad)).trans ad)) (λa=>rfl);obtain⟨M2,N,j⟩:=VH (word:="kind") (b:=λ_=>kB (S.map (·.1))) (v:=λr=>r.map JC) J [];rw[d2]at e4;show Ex (mS _ _ [some (.str z),some (.ref r),some E,some (.int 1),some (.tup (S.map Jb)),none,none,none,none] s3) (LW (MB e S (1+S.length) J)) _;unfold MB
  change _=M2++(pK (S.map (·.1)) J).2.2 at N;change (pK (S.map (·.1)) J).2.1.length=_ at j;change ∃Q,_=some (Lv Ju (1+S.length) (pK (S.map (·.1)) J),Q)/\_ at e4;generalize pK (S.map (·.1)) J=p at *;generalize hSS:D.tup (S.map Jb)=SS at *;generalize hL1:((1+S.length:Nat):Int)=L1 at *;refine U7 (c:=L1) rfl (b:=S.length) (by simp[l4]) (by omega) (Ta (UC rfl (by simp[ed]) rfl) L e4 (λu=>by rw[if_pos u];rfl) λu s5 g5=>?_);rw[if_neg (by rw[u];decide)];obtain⟨_,K,RF⟩:=p;have j:K.length=M2.length:=by simpa using j
  obtain⟨d3,l3⟩:=VF (X:=[]) (d2.trans N) j l2;have l5:Ho [.tup (K.map Ju)] s5=some (.int K.length,s5):=Xm;have R5:=R4.gr g5;have e5:=Tp (f:=λp:Int×Int=>.tup [.int p.1,.int p.2]) (b:=λacc rr=>acc.isEmpty&&(!K.isEmpty&&Kt rr)) (v:=λrr=>(v0 rr 0,v0 rr 1)) (word:="floor") (x:="read_floor") (known:=.tup (K.map Ju)) (l:=1+S.length+K.length) R5 ok rfl (lit _ (by simp)) l3 (λacc rr s q hm g i G=>by obtain⟨Q,e',g'⟩:=qS (ks:=K.map Ju) (W hm).1 (W hm).2 i G;rw[Ek,Ek]at e';rw[Bool.and_left_comm];exact⟨Q,e',g'⟩) (λa=>rfl)
  rw[d3]at e5;have o5:=U6 (word:="floor") (v:=λrr=>(v0 rr 0,v0 rr 1)) (B:=λrr=>!K.isEmpty&&Kt rr) RF;generalize HU "floor" (λacc rr=>acc.isEmpty&&(!K.isEmpty&&Kt rr)) (λrr=>(v0 rr 0,v0 rr 1)) RF []=p at e5 o5;show Ex (mS _ _ [some (.str z),some (.ref r),some E,some (.int L1),some SS,some (.tup (K.map Ju)),none,none,none] s5) (LW (LY ⟨e,S,K⟩ (1+S.length+K.length) RF)) _;generalize U:D.tup (K.map Ju)=KK at *;generalize hL2:((1+S.length+K.length:Nat):Int)=L2 at *;refine U7 (c:=L2) rfl (b:=K.length) (by simp[l5]) (by omega) (Ta (UC rfl rfl rfl) (Gr.refl _) e5 (λu=>?_) λu s6 g6=>?_)
  ·cases o5 with
   |no y=>rw[Xy y];rfl
   |more rr r2 R2' A I=>
    rw[A,eO I,zmc];rfl
   |one=>cases u
  cases o5 with
  |more=>cases u
  |no y=>exact XZ (Hu (b:=true) rfl) rfl (by rw[Xy y,<-hL2];rfl)
  |one rr m A I=>
   rw[A,eO I];obtain⟨d4,Y⟩:=VF (X:=[]) (M:=[("floor":Str)::rr]) (n:=1) (d3.trans A) rfl l3;show Ex (mS _ _ [some (.str z),some (.ref r),some E,some (.int L2),some SS,some KK,some (.tup [.tup [.int (v0 rr 0),.int (v0 rr 1)]]),none,none] s6) _ _;generalize v0 rr 0=w;generalize v0 rr 1=o;have R6:=R5.gr g6;have cB:P5 (.tup [.tup [.int e,SS,KK],.tup [.int w,.int o],.tup []]) w o K.length:=⟨λs=>J7 (by decide) rfl,.tup [.int e,SS,KK],K.map Ju,λs=>J7 (by decide) rfl,λs=>by rw[U];exact J7 (by decide) rfl,by simp⟩
   have e6:=Tp (f:=λt=>HD (HL t)) (b:=λacc=>tB w o K.length acc.getLast?) (v:=tV) (word:="tile") (x:="read_seed_tile") (known:=.tup [.tup [.int e,SS,KK],.tup [.int w,.int o],.tup []]) (l:=1+S.length+K.length+1) R6 ok rfl (lit _ (by simp)) Y (λacc rr s q hm g i G=>mO cB (W hm).1 (W hm).2 i G) (λa=>rfl);obtain⟨M3,Z,C⟩:=VH (word:="tile") (b:=λacc=>tB w o K.length acc.getLast?) (v:=tV) m [];rw[d4]at e6;have hd:∀T,Jy.d ⟨⟨e,S,K⟩,w,o,T⟩=.tup [.tup [.int e,SS,KK],.tup [.int w,.int o],.tup (T.map λt=>HD (HL t))]:=λT=>by rw[<-hSS,<-U];rfl
   have i6:∀s:Hg,Hr (.tup [.tup [.int w,.int o]]) (.int 0) s=some (.tup [.int w,.int o],s):=λs=>J7 (by decide) rfl;have l6:∀s:Hg,Ho [.tup [.tup [.int w,.int o]]] s=some (.int 1,s):=λs=>rfl;unfold LX
   change _=M3++(pT w o K.length m).2.2 at Z;change (pT w o K.length m).2.1.length=_ at C;change ∃Q,_=some (Lv (λt=>HD (HL t)) (1+S.length+K.length+1) (pT w o K.length m),Q)/\_ at e6;show Ex _ (LW (if((pT w o K.length m).1 || !(pT w o K.length m).2.2.isEmpty)=true then .inl (1+S.length+K.length+1+(pT w o K.length m).2.1.length)else .inr ⟨⟨e,S,K⟩,w,o,(pT w o K.length m).2.1⟩)) _;generalize pT w o K.length m=p at *;generalize D.tup [.int w,.int o]=F0 at *;generalize D.tup [F0]=F at *;generalize hL3:((1+S.length+K.length+1:Nat):Int)=L3 at *;refine UR (Hu (by simp[l6,q1])) (U7 (c:=L3) rfl (b:=1) rfl (by omega) (W4 (d:=.tup [.int e,SS,KK]) (by simp[i2]) (Gr.refl _) (Ta (UC rfl (by simp[i6]) rfl) (Gr.refl _) e6 (λu=>by rw[u,GJ,if_pos rfl];rfl) λu s7 g7=>?_)));obtain⟨_,T,RE⟩:=p;cases u;have C:T.length=M3.length:=by simpa using C
   obtain⟨d5,l5'⟩:=VF (X:=[]) (d4.trans Z) C Y;have lT:Ho [.tup (T.map λt=>HD (HL t))] s7=some (.int T.length,s7):=Xm;have lr:=(R6.gr g7).len;have ll:=congrArg De d5;rw[BE]at ll;show Ex (mS _ _ [some (.str z),some (.ref r),some E,some (.int L3),some SS,some KK,some F,some (.tup [.int e,SS,KK]),some (.tup (T.map λt=>HD (HL t)))] s7) (LW (if(false || !RE.isEmpty)=true then .inl (1+S.length+K.length+1+T.length)else .inr ⟨⟨e,S,K⟩,w,o,T⟩)) _;rw[GB];have hd:=hd T;generalize D.tup (T.map λt=>HD (HL t))=TT at *;refine U7 (c:=((1+S.length+K.length+1+T.length:Nat):Int)) rfl (b:=T.length) (by simp[lT]) (by omega) ?_;generalize hL4:((1+S.length+K.length+1+T.length:Nat):Int)=L4 at *
   cases RE with
   |nil=>
    have d0:decide (L4<(rss.length:Int))=false:=decide_eq_false (by simp at ll;omega);refine UR (Hu (by simp[lr,d0])) ⟨s7,?_,Gr.refl _⟩;show _=some (Fl.rt (Jy.d ⟨⟨e,S,K⟩,w,o,T⟩),s7);rw[hd];simp[i6]
   |cons a b=>
    have d0:decide (L4<(rss.length:Int))=true:=decide_eq_true (by simp at ll;omega);exact XZ (Hu (by simp[lr,d0])) rfl (by rw[<-hL4];rfl)
end L2.MP.T0
namespace L2.MP.T0
open PySem L2.MP L2.MP.Hn
open L2.MP.Ce (JN Kr Hu Ij Lo Jv JQ Ji KL Qt TF)
variable {w:Str}
def zJ{Z:Str}(h:Ao w=true)(hw:Wd w):Ao (Txt.stripChars w Z)=true:=TM λc l=>hw.ok c (by
  unfold Txt.stripChars Txt.stripBy at l;split at l
  ·exact l
  unfold stripped at l;have l:c∈(w.cps.extract _ _).toList:=l;rw[Ff]at l;exact BA (BK l))
variable {z:Str}{st:Hg}
def yI(h:Wd z):Wa [.str z] st=some (.bl (J9 z),st):=by
 have l:=len_str (z:=z) (st:=st) (by have:=h.len;omega);have o:J4 "str" (mV 0) [some (.str z)] st=some (.bl true,st):=by simp[RN,RL]
 have u:fits z.length=true:=Ku (by have:=h.len;omega);have v:mB Il (Mg N0 (mV 0)<|Hc (mK<|.str "abcdefghijklmnopqrstuvwxyz")<|mZ) (mK<|.str "") [some (.str z)] st=some (.bl (z.cps.toList.all λc=>decide (c∈Mn.cps.toList)),st):=by
  have w:N0 (.str z) [.str Mn] st=some (.str (Txt.stripChars z Mn),st):=by unfold N0;simp only[u,if_true]
  have s:=eq_str (st:=st) (zJ (Z:=Mn) h.str h) TR;have x:=gH (Z:=Mn) (p:=λc=>decide (c∈Mn.cps.toList)) (funext λc=>by rw[<-EZ];exact List.contains_eq_mem c _) z;have y:(Txt.stripChars z Mn=="")=z.cps.toList.all (λc=>decide (c∈Mn.cps.toList)):=by rw[<-FH (z.cps.toList.all _),<-x];show _=!!(_==_);rw[FH]
  rw[y]at s;show mB Il (Mg N0 (mV 0)<|Hc (mK<|.str Mn)<|mZ) (mK<|.str "") [some (.str z)] st=_;generalize z.cps.toList.all (λc=>decide (c∈Mn.cps.toList))=B at *;simp only[IE,Qb,Ih,Ip,Af,Aa,IH,IM,w,s]
 refine ID ?_;unfold jD J9;generalize z.cps.toList.all (λc=>decide (c∈Mn.cps.toList))=B at *;by_cases h1:1<=z.length
 ·have A:(0:Int)<(z.length:Int):=by omega
  rw[decide_eq_true h1,BN];by_cases h2:z.length<=8
  ·have r:(z.length:Int)<9:=by omega
   rw[decide_eq_true h2,BN];exact KL<|Ji o<|Ji (s1:=st) (by show Jj _ _ _ _ _ [some (.str z)] st=_;simp[Jj,l,r];omega) v
  ·have r:¬(z.length:Int)<9:=by omega
   rw[decide_eq_false h2,Cu];exact KL<|Ji o<|JQ (by show Jj _ _ _ _ _ [some (.str z)] st=_;simp[Jj,l,r])
 ·have A:¬(0:Int)<(z.length:Int):=by omega
  rw[decide_eq_false h1,Cu];exact KL<|Ji o<|JQ (by show Jj _ _ _ _ _ [some (.str z)] st=_;simp[Jj,l];omega)
variable {c:Int}{m1 m2 m3:ME}{ρ:HX}{s s1 s2 s3:Hg}
def XW{a b:Int}{s3:Hg}(f:m1 ρ s=some (.int a,s1))(g:m2 ρ s1=some (.int b,s2))(e:m3 ρ s2=some (.int c,s2)):Jj Ik Ik m1 m2 m3 ρ s=some (.bl (decide (a<=b)&&decide (b<=c)),s2):=by
 unfold Jj;simp only[f,g,e,Aa,Ik,HN];cases decide (a<=b)
 ·rfl
 simp[e,Ik,HN]
def XX{a b:Int}{s3:Hg}(f:m1 ρ s=some (.int a,s1))(g:m2 ρ s1=some (.int b,s2))(e:m3 ρ s2=some (.int c,s2)):Jj Ik Iv m1 m2 m3 ρ s=some (.bl (decide (a<=b)&&decide (b<c)),s2):=by
 unfold Jj;simp only[f,g,e,Aa,Ik,Iv,HN];cases decide (a<=b)
 ·rfl
 simp[e,Ik,Iv,HN]
variable {ss:List Str}
def eq_nil{f g:Nat}{ss:List Str}(hf:st[f]?=some (.lst<|ss.map D.str))(a:st[g]?=some (.lst []))(h:∀x∈ss,Ao x=true):Il (.ref f) (.ref g) st=some (.bl ss.isEmpty,st):=by
 have:=ne_nil hf a h;unfold IP at this;unfold Il;rw[QL (n:=98) hf h,QL (n:=98) (ss:=[]) a (λx c=>by cases c)]at this ⊢;simp only[Aa,Ak]at this ⊢;have e:(!PyData.eqv (.list<|ss.map CG) (.list<|([]:List Str).map CG))=!ss.isEmpty:=by simpa using this
 rw[Bool.not_inj e]
variable {a f w0 x:Str}{r ns:List Str}{q n l:Nat}{α:Type}{m:ME}{ds:List D}
section
def nH(h:∀x∈r,Wd x)(j:∀x∈ns,Wd x)(e:s[q]?=some (.lst<|(w0::r).map D.str))(hf:s[n]?=some (.lst<|ns.map D.str)):
  ∃s',V3 [.ref q,.ref n] s=some (.bl (sB ns.getLast? r),s')/\Gr s s':=by
 have c:=M6 e;have c:Ho [.ref q] s=some (.int (r.length+1:Nat),s):=by rw[c];simp
 by_cases h2:r.length=2
 ·obtain⟨m,a,rfl⟩:=two h2;have c:Ho [.ref q] s=some (.int 3,s):=c;have z:IP (.int 3) (.int 3) s=some (.bl false,s):=rfl;have f:∀s':Hg,Gr s s'->Hr (.ref q) (.int 1) s'=some (.str m,s'):=λs' g=>Mo ((g.old _<|qax e).trans e) (by decide) rfl;have B:Hr (.ref q) (.int 2) s=some (.str a,s):=Mo e (by decide) rfl;have A:=yI (st:=s) (h m<|by simp);have C:=YW (h a<|by simp) (Ai _) s;have E:Jj Ik Ik (mK<|.int 1) (Hi O4<|Hc (mB Hr (mV 0)<|mK<|.int 2)<|mZ) (mK<|.int 4) [some (.ref q),some (.ref n)] s=some (.bl (Jf 1 4 a),s):=by
   rw[<-VQ (w:=a) (lo:=1) (hi:=4) (by decide) (by decide)];exact XW (s3:=s) (s1:=s) rfl (by simp[B,C]) rfl
  have g:=Gr.app s [.lst []];have l:=(g.old _<|qax hf).trans hf;have F:=eq_nil l (II s<|.lst []) λx G=>(j x G).str;have Q:=f _ g;have f:=f _<|Gr.refl _;generalize W:s++[O.lst []]=s1 at *;rw[show sB ns.getLast? [m,a]=(J9 m&&Jf 1 4 a&&P7 ns.getLast? m) from rfl];have t0:mT (mB IP (Hi Ho<|Hc (mV 0)<|mZ)<|mK<|.int 3) [some (.ref q),some (.ref n)] s=some (false,s):=Hu (by simp[c,z]);have i:mB Il (mV 1) (mL<|mZ) [some (.ref q),some (.ref n)] s=some (.bl ns.isEmpty,s1):=by simp[W,F]
  cases o:J9 m with
  |false=>
   rw[o]at A;refine⟨s,ID<|JT<|JN (s1:=s) (Jv t0<|Lo<|Ij (b:=false) ?_) rfl,Gr.refl _⟩;show Hi _ _ [some (.ref q),some (.ref n)] s=_;simp[f,A]
  |true=>
   rw[o]at A;have t1:Kj (mT<|Hi Wa<|Hc (mB Hr (mV 0)<|mK<|.int 1)<|mZ) [some (.ref q),some (.ref n)] s=some (false,s):=Ij (b:=true)<|by simp[f,A]
   cases v:Jf 1 4 a with
   |false=>
    rw[v]at E;exact⟨s,ID<|JT<|JN (s1:=s) (Jv t0<|Jv t1<|Ij E) rfl,Gr.refl _⟩
   |true=>
    rw[v]at E;refine⟨s1,ID<|HA (Kr (s1:=s)<|Jv t0<|Jv t1<|Ij E) ?_,g⟩;show mR _ [some (.ref q),some (.ref n)] s=_
    rcases Dq ns with rfl|⟨y,u,rfl⟩
    ·refine KL ?_;rw[JI,Hu i];rfl
    ·have H:=U2 (x:=.str u) l (by simp);have em:(y.concat u).isEmpty=false:=by simp
     rw[em]at i;have lt:ltB (.str u) (.str m) s1=some (.bl (ZA u m),s1):=rfl;rw[show(y.concat u).getLast?=some u by simp];refine KL ?_;rw[JI,Hu i];simp[Nq,H,Q,lt,P7]
 rw[U1 h2];have z:=ne_int (r.length+1:Nat) 3 s;rw[show(((r.length+1:Nat):Int)==3)=false from beq_eq_false_iff_ne.mpr (by omega)]at z;refine⟨s,ID<|JT<|JN (s1:=s) (Lo<|Hu (b:=true) ?_) rfl,Gr.refl _⟩;show mB IP (Hi Ho<|Hc (mV 0)<|mZ) (mK<|.int 3) [some (.ref q),some (.ref n)] s=_;simp only[IE,Jm,IH,IM,Ih,Ip,Af,Aa,c,z];rfl
def MV:Str:="abcdefghijklmnopqrstuvwxyz0123456789-"
def zA:(A0 MV ("":Str) 0 MV.length 1).isEmpty=false:=by decide +kernel
def tJ:MV.cps.toList=Rk.cps.toList++[45]:=by decide +kernel
def Qm(ns:List Str):List Str->Bool
 |[f,a,b,c,d]=>decide (f.length=1)&&f.cps.toList.all (λc=>decide (c∈MV.cps.toList))&&[a,b,c,d].all (λx=>(x=="-") || decide (x∈ns))
 |_=>false
def vH{b:Str}:QB (.str a) (.str b) st=some (.bl (!(!(A0 b a 0 b.length 1).isEmpty)),st):=by
 have e:inD true (.str a) (.str b) st=none:=by
  unfold inD;cases f:Jn 50 st (.str a) with
  |none=>rfl
  |some p=>
   cases c:Jn 50 st (.str b) with
   |none=>rfl
   |some q=>
    have:q=.str b:=by
     rw[Jn]at c;split at c
     ·cases c;rfl
     ·cases c
    subst this;rfl
 unfold QB QA JG;rw[e,Kz];rfl
def zmk(h:f.length<=1):QB (.str f) (.str MV) st=some (.bl (!f.cps.toList.all (λc=>decide (c∈MV.cps.toList))),st):=by
 have:=aC (st:=st) h zA;rw[WW]at this;have e:(!(A0 MV f 0 MV.length 1).isEmpty)=f.cps.toList.all (λc=>decide (c∈MV.cps.toList)):=by have:=congrArg Prod.fst<|As this;exact D.bl.inj this
 rw[vH,e]
section
variable {me:ME}{ρ0:HX}{s0:Hg}{as:List α}{f g:α->D}{b:α->Bool}{fr:List Nat}
def Vv(hm:me ρ s=some (.ref l,s0))(i:s0[l]?=some (.lst<|as.map f))(hρ:HG ρ 1 fr=none::ρ0)(j:as.length<=10000)(H:∀a∈as,∀s,Gr s0 s->∃s1,m (some (f a)::ρ0) s=some (g a,s1)/\Gr s s1):
  ∃s1,Jk (Jw me) 1 fr (Hq 0) IJ m ρ s=some (.ref s1.length,s1++[.lst (as.map g)])/\Gr s0 s1:=by
 have e:Jk (Jw me) 1 fr (Hq 0) IJ m ρ s=Jk (Jw<|mK<|.ref l) 1 fr (Hq 0) IJ m ρ s0:=by rw[Jz,Jz,RZ hm i,RZ rfl i]
 rw[e];exact TF (RZ rfl i) (λs c=>R8 ((c.old _<|qax i).trans i)) hρ j H
def cG(hm:me ρ s=some (.ref l,s0))(i:s0[l]?=some (.lst<|as.map f))(hρ:HG ρ 1 fr=none::ρ0)(j:as.length<=10000)(H:∀a∈as,∀s,Gr s0 s->∃s1,m (some (f a)::ρ0) s=some (.bl (b a),s1)/\Gr s s1):
  ∃s1,Hi JR (Hc (Jk (Jw me) 1 fr (Hq 0) IJ m) mZ) ρ s=some (.bl (as.all b),s1)/\Gr s0 s1:=by
 obtain⟨s1,e,g⟩:=Vv (g:=λa=>D.bl (b a)) hm i hρ j H;refine⟨_,?_,g.trans<|Gr.app s1 [.lst (as.map λa=>D.bl (b a))]⟩;simp only[Jm,IH,IM,e,Aa];exact L2.MP.Ce.MM<|II s1 _
end
def sU(ds:List D):cutD ds (some 2) none=ds.drop 2:=by
 unfold cutD;have c:HT.HR ds.length 0 (some 2)=min 2 ds.length:=by unfold HT.HR;simp
 have f:HT.HR ds.length ds.length none=ds.length:=rfl;rw[c,f]
 match ds with
 |[]=>rfl
 |[a]=>rfl
 |a::b::r=>
  have:min 2 (a::b::r).length=2:=by simp
  rw[this];simp
def Mx(h:s[l]?=some (.lst ds)):NM (.ref l) (some 2) none s=some (.ref s.length,s++[.lst (ds.drop 2)]):=by
 have:QW (.ref l) (some 2) none s=some (.ref s.length,s++[.lst (ds.drop 2)]):=by show(Iw s l).map _=_;simp only[Iw,h,Ak,sU]
 unfold NM PF;rw[this,JH,JH]
def Vd{a b:Option Int}(h:s[l]?=some (.lst ds)):NM (.ref l) a b s=some (.ref s.length,s++[.lst (cutD ds a b)]):=by
 have:QW (.ref l) a b s=some (.ref s.length,s++[.lst (cutD ds a b)]):=by show(Iw s l).map _=_;simp only[Iw,h,Ak]
 unfold NM PF;rw[this,JH,JH]
def lF(h:∀x∈r,Wd x)(i:∀x∈ns,Wd x)(e:s[q]?=some (.lst<|(w0::r).map D.str))(hf:s[n]?=some (.lst<|ns.map D.str)):
  ∃s',V4 [.ref q,.ref n] s=some (.bl (Qm ns r),s')/\Gr s s':=by
 have o:=M6 e;have o:Ho [.ref q] s=some (.int (r.length+1:Nat),s):=by rw[o];simp
 by_cases h5:r.length=5
 ·obtain⟨f,a,b,c,d,rfl⟩:=Q9 h5;have o:Ho [.ref q] s=some (.int 6,s):=o;have v:IP (.int 6) (.int 6) s=some (.bl false,s):=rfl;have A:Hr (.ref q) (.int 1) s=some (.str f,s):=Mo e (by decide) rfl;have lf:=len_str (z:=f) (st:=s) (by have:=(h f<|by simp).len;omega);have t0:mT (mB IP (Hi Ho<|Hc (mV 0)<|mZ)<|mK<|.int 6) [some (.ref q),some (.ref n)] s=some (false,s):=Hu (by simp[o,v]);have Q:=ne_int f.length 1 s;have t1:mT (mB IP (Hi Ho<|Hc (mB Hr (mV 0)<|mK<|.int 1)<|mZ)<|mK<|.int 1) [some (.ref q),some (.ref n)] s=some (!decide (f.length=1),s):=Hu (by
   have:((f.length:Int)==1)=decide (f.length=1):=by rw[A8,beq_iff_eq,decide_eq_true_eq];omega
   rw[this]at Q;simp[A,lf,Q])
  rw[show Qm ns [f,a,b,c,d]=(decide (f.length=1)&&f.cps.toList.all (λc=>decide (c∈MV.cps.toList))&&[a,b,c,d].all (λx=>(x=="-") || decide (x∈ns))) from rfl]
  by_cases hl:f.length=1
  ·rw[decide_eq_true hl]at t1 ⊢;have j:=zmk (st:=s) (Dy hl);have W:mT (mB QB (mB Hr (mV 0)<|mK<|.int 1)<|mK<|.str "abcdefghijklmnopqrstuvwxyz0123456789-") [some (.ref q),some (.ref n)] s=some (!f.cps.toList.all (λc=>decide (c∈MV.cps.toList)),s):=Hu (by
    show mB QB (mB Hr (mV 0)<|mK<|.int 1) (mK<|.str MV) [some (.ref q),some (.ref n)] s=_;simp only[IE,Ih,Ip,Af,Aa,A,j])
   generalize f.cps.toList.all (λc=>decide (c∈MV.cps.toList))=B at *;cases B with
   |false=>exact⟨s,ID<|JT<|JN (s1:=s) (Jv t0<|Jv t1 W) rfl,Gr.refl _⟩
   |true=>
    have C:=Mx e;obtain⟨s1,F,g1⟩:=cG (me:=Iu (mV 0) (Iq<|mK<|.int 2) IS) (m:=YX) (ρ:=[some (.ref q),some (.ref n)]) (ρ0:=[some (.ref n)]) (s:=s) (s0:=s++[.lst ([a,b,c,d].map D.str)]) (l:=s.length) (as:=[a,b,c,d]) (f:=D.str) (b:=λx=>(x=="-") || decide (x∈ns)) (fr:=[1]) (by
      rw[RG];simp only[Ih,Af,Aa,KQ,K8,Ip,C]
      rfl) (II _ _) rfl (by simp) (λx G s' H=>by
     have u:Wd x:=h x<|Aj _ G;have w:=(H.old _<|qax<|((Gr.app s [.lst ([a,b,c,d].map D.str)]).old _<|qax hf).trans hf).trans<|((Gr.app s [.lst ([a,b,c,d].map D.str)]).old _<|qax hf).trans hf;have g:=eq_str (st:=s') u.str cO;have I:=bH w (λy J=>(i y J).str) u.str;refine⟨s',?_,Gr.refl _⟩;unfold YX;generalize decide (x∈ns)=B at *;generalize (x=="-")=E at *
     cases E with
     |true=>simp[JI,g]
     |false=>simp[JI,g,I])
    exact⟨s1,ID<|HA (Kr (s1:=s)<|Jv t0<|Jv t1 W)<|KL F,(Gr.app _ _).trans g1⟩
  rw[decide_eq_false hl]at t1 ⊢;exact⟨s,ID<|JT<|JN (s1:=s) (Jv t0<|Lo t1) rfl,Gr.refl _⟩
 ·have:Qm ns r=false:=by
   unfold Qm;split
   ·exact absurd rfl h5
   rfl
  rw[this];have v:=ne_int (r.length+1:Nat) 6 s;rw[show(((r.length+1:Nat):Int)==6)=false from beq_eq_false_iff_ne.mpr (by omega)]at v;refine⟨s,ID<|JT<|JN (s1:=s) (Lo<|Hu (b:=true) ?_) rfl,Gr.refl _⟩;show mB IP (Hi Ho<|Hc (mV 0)<|mZ) (mK<|.int 6) [some (.ref q),some (.ref n)] s=_;simp only[IE,Jm,IH,IM,Ih,Ip,Af,Aa,o,v];rfl
def vE(h:J9 x=true):x≠"":=λe=>by rw[e]at h;exact absurd h<|by decide +kernel
def zQ(hn:∀y∈ns,J9 y=true):(x≠""/\NW ns (JC x)=true) ↔ (x="-"\/x∈ns):=by
 unfold NW JC;by_cases hx:x="-"
 ·subst hx;simp
  decide
 rw[beq_eq_false_iff_ne.mpr hx];simp only[AM,if_false,Cp,beq_iff_eq,decide_eq_true_eq,hx,false_or];exact⟨λz=>z.2.resolve_left z.1,λz=>⟨vE<|hn x z,.inr z⟩⟩
def yZ:(f≠""/\Pg (JC f)=true) ↔ (f.length=1/\f.cps.toList.all (λc=>decide (c∈MV.cps.toList))=true):=by
 unfold Pg JC;by_cases hx:f="-"
 ·subst hx;exact⟨λ_=>⟨by decide,by decide +kernel⟩,λ_=>⟨by decide,by decide +kernel⟩⟩
 ·rw[beq_eq_false_iff_ne.mpr hx];simp only[AM,if_false,Ad,decide_eq_true_eq,BP,tJ,Ez,FI];have hl:f.cps.toList.length=f.length:=AF
  constructor
  ·rintro⟨a,m,n⟩;refine⟨?_,λc l=>.inl (n c l)⟩;have:f.length≠0:=λz=>a (by
    apply Qg;have:f.cps.toList=[]:=Bj (by omega);rw[this]
    decide)
   omega
  ·rintro⟨a,m⟩;refine⟨λz=>by rw[z]at a;exact absurd a (by decide),by omega,λc l=>(m c l).resolve_right λz=>hx ?_⟩;subst z;obtain⟨d,hd⟩:=one<|hl.trans a;rw[hd]at l;have:d=45:=(Os.mp l).symm;subst this;apply Qg;rw[hd]
   decide
def lE(e:∀y∈ns,J9 y=true):Qm ns r=kB ns r:=by
 by_cases h5:r.length=5
 ·obtain⟨f,a,b,c,d,rfl⟩:=Q9 h5;have n:kB ns [f,a,b,c,d]=(!decide (("":Str)∈[f,a,b,c,d])&&(Pg (JC f)&&[a,b,c,d].all λx=>NW ns (JC x))):=rfl;have o:Qm ns [f,a,b,c,d]=(decide (f.length=1)&&f.cps.toList.all (λc=>decide (c∈MV.cps.toList))&&[a,b,c,d].all (λx=>(x=="-") || decide (x∈ns))):=rfl;rw[n,o,A8];have v:=yZ (f:=f);have q:=λx=>zQ (x:=x) e;rw[Ad,Ad,Ad,Ad,decide_eq_true_eq,<-v,BP,BP,Bs,decide_eq_false_iff_not,Ck,not_or]
  constructor
  ·rintro⟨⟨s,u⟩,l⟩;refine⟨⟨λz=>s z.symm,λz=>?_⟩,u,λx m=>?_⟩
   ·have:=l _ z;rw[Cp,beq_iff_eq,decide_eq_true_eq]at this;exact((q _).mpr this).1 rfl
   have:=l x m;rw[Cp,beq_iff_eq,decide_eq_true_eq]at this;exact((q x).mpr this).2
  rintro⟨⟨s,u⟩,l,w⟩;refine⟨⟨λz=>s z.symm,l⟩,λx m=>?_⟩;rw[Cp,beq_iff_eq,decide_eq_true_eq];exact(q x).mp ⟨λz=>u (by rw[<-z];exact m),w x m⟩
 ·have n:Qm ns r=false:=by
   unfold Qm;split
   ·exact absurd rfl h5
   rfl
  have o:kB ns r=false:=by unfold kB;rw[dM (by rw[Ah];exact h5),Gx]
  rw[n,o]
end
def Ky:Option Tl->D
 |none=>.non
 |some t=>.tup [.int t.1,.int t.2.1]
def ZC{a b d:Int}:HT.lexLt [c,d] [a,b]=!lexLe [a,b] [c,d]:=by
 rw[HT.Ie];unfold lexLe;by_cases h1:a=c
 ·subst h1;rw[if_pos rfl,if_pos rfl,HT.Ie];unfold lexLe
  by_cases h2:b=d
  ·subst h2;simp[HT.Jh,lexLe]
  rw[if_neg (λz=>h2 z.symm),if_neg h2,A8];simp
 rw[if_neg (λz=>h1 z.symm),if_neg h1,A8];simp
def W3(h:Wd w){C:ME}(g:C=Hi O4 (Hc (mV 0)<|mZ)):∃s1,C [some (.str w)] s=some (.int (HE w),s1)/\Gr s s1:=by subst g;have e:=YW h (Ai _) s;exact⟨s,by simp[e],Gr.refl _⟩
def nX{b:Int}(e:b<=1000000):(decide (0<=HE w)&&decide (HE w<b))=Jf 0 (b-1) w:=by
 rw[<-VQ (w:=w) (lo:=0) (hi:=b-1) (by decide) (by omega)]
 congr 1
 rw[decide_eq_decide];omega
variable {h:Int}{k:Nat}{L:Option Tl}
section
variable {fl:Nat}{w:Int}
def lG(j:∀x∈r,Wd x)(hw:w<=1000)(M:h<=1000)(hk:k<=9000)(e:s[q]?=some (.lst<|(w0::r).map D.str))(hf:s[fl]?=some (.lst [.int w,.int h])):
  ∃s',T9 [.ref q,.ref fl,.int (k:Int),Ky L] s=some (.bl (tB w h k L r),s')/\Gr s s':=by
 have u:=M6 e;have u:Ho [.ref q] s=some (.int (r.length+1:Nat),s):=by rw[u];simp
 by_cases h3:r.length=3
 ·obtain⟨a,b,c,rfl⟩:=three h3;have u:Ho [.ref q] s=some (.int 4,s):=u;have A:IP (.int 4) (.int 4) s=some (.bl false,s):=rfl;have B:=Wl (s:=s) (l:=q) (d:=.str w0) (ds:=[a,b,c].map D.str) e;obtain⟨s1,C,g1⟩:=Vv (me:=Iu (mV 0) (Iq<|mK<|.int 1) IS) (m:=YY) (ρ:=[some (.ref q),some (.ref fl),some (.int (k:Int)),some (Ky L),none,none,none]) (ρ0:=[]) (s:=s) (s0:=s++[.lst ([a,b,c].map D.str)]) (l:=s.length) (as:=[a,b,c]) (f:=D.str) (g:=λx=>D.int (HE x)) (fr:=[]) (by
    rw[RG];simp only[Ih,Af,Aa,KQ,K8,Ip,B]) (II _ _) rfl (by simp) (λx F s' _=>W3 (j x F) rfl)
  have E:=(Gr.app s [.lst ([a,b,c].map D.str)]).trans g1;have n:=E.trans<|Gr.app s1 [.lst ([a,b,c].map λx=>D.int (HE x))];have y:=(n.old _<|qax hf).trans hf;have a2:=II s1<|.lst<|[a,b,c].map λx=>D.int (HE x);generalize G:s1++[O.lst ([a,b,c].map λx=>D.int (HE x))]=s2 at *;have f0:Hr (.ref fl) (.int 0) s2=some (.int w,s2):=Mo y (by decide) rfl;have f1:Hr (.ref fl) (.int 1) s2=some (.int h,s2):=Mo y (by decide) rfl;have H:Nv 3 (gC (Hq 4)<|gC (Hq 5)<|gC (Hq 6)<|Lz) (.ref s1.length) [some (.ref q),some (.ref fl),some (.int (k:Int)),some (Ky L),none,none,none] s2=some ([some (.ref q),some (.ref fl),some (.int (k:Int)),some (Ky L),some (.int<|HE a),some (.int<|HE b),some (.int<|HE c)],s2):=by unfold Nv;simp only[a2];rfl
  have start:∀res s',(∃m,mS (HS (IF (Kj<|mT<|Jj Ik Iv (mK<|.int 0) (mV 4)<|mB Hr (mV 1)<|mK<|.int 0)<|IF (Kj<|mT<|Jj Ik Iv (mK<|.int 0) (mV 5)<|mB Hr (mV 1)<|mK<|.int 1)<|Kj<|mT<|Jj Ik Iv (mK<|.int 0) (mV 6)<|mV 2) (mR<|mK<|.bl false)<|Ia) m [some (.ref q),some (.ref fl),some (.int (k:Int)),some (Ky L),some (.int<|HE a),some (.int<|HE b),some (.int<|HE c)] s2=some (.rt res,s')/\jL=mS (HS (mT<|mB IP (Hi Ho<|Hc (mV 0)<|mZ)<|mK<|.int 4) (mR<|mK<|.bl false)<|Ia) (mS (Hm (Jk (Jw<|Iu (mV 0) (Iq<|mK<|.int 1)<|IS) 1 [] (Hq 0) IJ<|YY)<|Nv 3<|gC (Hq 4)<|gC (Hq 5)<|gC (Hq 6)<|Lz)<|mS (HS (IF (Kj<|mT<|Jj Ik Iv (mK<|.int 0) (mV 4)<|mB Hr (mV 1)<|mK<|.int 0)<|IF (Kj<|mT<|Jj Ik Iv (mK<|.int 0) (mV 5)<|mB Hr (mV 1)<|mK<|.int 1)<|Kj<|mT<|Jj Ik Iv (mK<|.int 0) (mV 6)<|mV 2) (mR<|mK<|.bl false)<|Ia) m))->T9 [.ref q,.ref fl,.int (k:Int),Ky L] s=some (res,s'):=by rintro res s' ⟨m,hm,I⟩;refine ID ?_;rw[I];show mS _ _ [some (.ref q),some (.ref fl),some (.int (k:Int)),some (Ky L),none,none,none] s=_;refine HA (Kr (s1:=s)<|Hu<|by simp[u,A])<|HA (s1:=s2) ?_ hm;rw[Kg,C];simp only[Aa,H,Ak]
  have o:=XX (c:=w) (s:=s2) (s1:=s2) (s3:=s2) (m1:=mK (.int 0)) (m2:=mV 4) (m3:=mB Hr (mV 1) (mK<|.int 0)) (ρ:=[some (.ref q),some (.ref fl),some (.int (k:Int)),some (Ky L),some (.int<|HE a),some (.int<|HE b),some (.int<|HE c)]) rfl rfl (by simp[f0]);have v:=XX (c:=h) (s:=s2) (s1:=s2) (s3:=s2) (m1:=mK (.int 0)) (m2:=mV 5) (m3:=mB Hr (mV 1) (mK<|.int 1)) (ρ:=[some (.ref q),some (.ref fl),some (.int (k:Int)),some (Ky L),some (.int<|HE a),some (.int<|HE b),some (.int<|HE c)]) rfl rfl (by simp[f1]);have z:=XX (c:=(k:Int)) (s:=s2) (s1:=s2) (s3:=s2) (m1:=mK (.int 0)) (m2:=mV 6) (m3:=mV 2) (ρ:=[some (.ref q),some (.ref fl),some (.int (k:Int)),some (Ky L),some (.int<|HE a),some (.int<|HE b),some (.int<|HE c)]) rfl rfl rfl;rw[nX (by omega)]at o v z;rw[show tB w h k L [a,b,c]=(Jf 0 (w-1) a&&Jf 0 (h-1) b&&Jf 0 ((k:Int)-1) c&&UU L [a,b,c]) from rfl]
  cases Q:Jf 0 (w-1) a with
  |false=>
   rw[Q]at o;exact⟨s2,start _ _ ⟨_,JT<|JN (s1:=s2) (Lo<|Ij o) rfl,rfl⟩,n⟩
  |true=>
   rw[Q]at o;cases W:Jf 0 (h-1) b with
   |false=>
    rw[W]at v;exact⟨s2,start _ _ ⟨_,JT<|JN (s1:=s2) (Jv (Ij o)<|Lo<|Ij v) rfl,rfl⟩,n⟩
   |true=>
    rw[W]at v;cases i:Jf 0 ((k:Int)-1) c with
    |false=>
     rw[i]at z;exact⟨s2,start _ _ ⟨_,JT<|JN (s1:=s2) (Jv (Ij o)<|Jv (Ij v)<|Ij z) rfl,rfl⟩,n⟩
    |true=>
     rw[i]at z;refine⟨s2,start _ _ ⟨_,HA (Kr (s1:=s2)<|Jv (Ij o)<|Jv (Ij v)<|Ij z)<|KL ?_,rfl⟩,n⟩;rw[(Kl Q).1,(Kl W).1]
     cases L with
     |none=>rfl
     |some t=>
      have lt:ltB (.tup [.int t.1,.int t.2.1]) (.tup [.int (val a),.int (val b)]) s2=some (.bl (HT.lexLt [t.1,t.2.1] [val a,val b]),s2):=rfl;rw[ZC]at lt;have J:JD (Ky<|some t) .non s2=some (.bl false,s2):=rfl;show _=some (D.bl (!lexLe [val a,val b] [t.1,t.2.1]),s2);generalize (!lexLe [val a,val b] [t.1,t.2.1])=K at *;show LZ _ _ [some (.ref q),some (.ref fl),some (.int (k:Int)),some (Ky<|some t),some (.int<|val a),some (.int<|val b),some (.int<|HE c)] s2=_;have lt:ltB (Ky<|some t) (.tup [.int (val a),.int (val b)]) s2=some (.bl K,s2):=lt;generalize Ky (some t)=T at *;simp[JI,J,lt]
 ·have:tB w h k L r=false:=by
   unfold tB NU;split
   ·exact absurd rfl h3
   rfl
  rw[this];have A:=ne_int (r.length+1:Nat) 4 s;rw[show(((r.length+1:Nat):Int)==4)=false from beq_eq_false_iff_ne.mpr (by omega)]at A;refine⟨s,ID<|JT<|JN (s1:=s) (Hu (b:=true) ?_) rfl,Gr.refl _⟩;show mB IP (Hi Ho<|Hc (mV 0)<|mZ) (mK<|.int 4) [some (.ref q),some (.ref fl),some (.int (k:Int)),some (Ky L),none,none,none] s=_;simp only[IE,Jm,IH,IM,Ih,Ip,Af,Aa,u,A];rfl
end
noncomputable abbrev LS:=List Str×Nat×Option (Int×Int)×Option Tl
def IG(at_:Nat)(ns:List Str)(k:Nat)(F:Option (Int×Int))(L:Option Tl)(w0:Str)(r:List Str):Option LS:=
  if at_=0 then(if((w0=="enough")&&eB r)=true then some (ns,k,F,L)else none)
  else if((w0=="stick")&&(decide (k=0)&&F.isNone))=true then(if sB ns.getLast? r=true then some (ns++[r.getD 0 ""],k,F,L)else none)
  else if((w0=="kind")&&F.isNone)=true then(if kB ns r=true then some (ns,k+1,F,L)else none)
  else if((w0=="floor")&&(decide (0<k)&&F.isNone))=true then(if Kt r=true then some (ns,k,some (v0 r 0,v0 r 1),L)else none)
  else match F with
   |none=>none
   |some (w,h)=>if(w0=="tile")=true then(if tB w h k L r=true then some (ns,k,some (w,h),some (tV r))else none)else none
def Sv(at_:Nat)(ns:List Str)(k:Nat)(F:Option (Int×Int))(L:Option Tl):List Str->Option LS
 |[]=>none
 |w0::r=>IG at_ ns k F L w0 r
def IT:Rows->Nat->List Str->Nat->Option (Int×Int)->Option Tl->Nat⊕(Nat×Option (Int×Int))
 |[],at_,ns,k,F,L=>.inr (at_,F)
 |ws::R,at_,ns,k,F,L=>match Sv at_ ns k F L ws with
  |none=>.inl at_
  |some q=>IT R (at_+1) q.1 q.2.1 q.2.2.1 q.2.2.2
section
variable {word:Str}{b:List α->List Str->Bool}{v:List Str->α}
def gQ(R:Rows):∀acc:List α,(HU word b v R acc).1=false->∀r g,(HU word b v R acc).2.2≠(word::r)::g:=by
 induction R with
 |nil=>intro acc _ r g e;cases e
 |cons ws R c=>
  intro acc h r g e;cases ws with
  |nil=>cases e
  |cons w0 f=>
   by_cases hw:w0=word
   ·subst hw
    cases a:b acc f with
    |false=>rw[RO a]at h;cases h
    |true=>
     rw[Tw a]at h e;exact c _ h r g e
   rw[Pp hw]at e;exact hw (CK (CK e).1).1
end
def dP:∀{R:Rows}{at_:Nat}{ns:List Str}{k:Nat} {F g:Option (Int×Int)} {L:Option Tl}{a:Nat},IT R at_ ns k F L=.inr (a,g)->a=at_+R.length
 |[],at_,ns,k,F,g,L,a,e=>by unfold IT at e;cases e;rfl
 |ws::R,at_,ns,k,F,g,L,a,e=>by
  unfold IT at e;split at e
  ·cases e
  have:=dP e;rw[this,AB];omega
variable {ws:List Str}{at_:Nat}{F:Option (Int×Int)}
def RU{R:Rows}{q:LS}(h:Sv at_ ns k F L ws=some q):IT (ws::R) at_ ns k F L=IT R (at_+1) q.1 q.2.1 q.2.2.1 q.2.2.2:=by
 conv=>lhs;unfold IT
 rw[h]
def QJ{R:Rows}(h:Sv at_ ns k F L ws=none):IT (ws::R) at_ ns k F L=.inl at_:=by
 conv=>lhs;unfold IT
 rw[h]
def iK(acc:List (Str×Int)):(acc.map (·.1)).getLast?=acc.getLast?.map (·.1):=FY
def Uv:∀(R:Rows) (acc:List (Str×Int)),IT R (1+acc.length) (acc.map (·.1)) 0 none none=if(HU "stick" (λacc=>sB (acc.getLast?.map (·.1))) sV R acc).1=true then .inl (1+(HU "stick" (λacc=>sB (acc.getLast?.map (·.1))) sV R acc).2.1.length)else IT (HU "stick" (λacc=>sB (acc.getLast?.map (·.1))) sV R acc).2.2 (1+(HU "stick" (λacc=>sB (acc.getLast?.map (·.1))) sV R acc).2.1.length) ((HU "stick" (λacc=>sB (acc.getLast?.map (·.1))) sV R acc).2.1.map (·.1)) 0 none none
 |[],acc=>rfl
 |[]::R,acc=>rfl
 |(w0::r)::R,acc=>by
  by_cases hw:w0="stick"
  ·subst hw;have a0:¬1+acc.length=0:=by omega
   cases a:sB (acc.getLast?.map (·.1)) r with
   |false=>
    rw[RO (b:=λacc:List (Str×Int)=>sB (acc.getLast?.map (·.1))) a,QJ]
    ·rfl
    show IG _ _ _ _ _ _ _=_;unfold IG;rw[if_neg a0,if_pos (by decide),iK,a];rfl
   |true=>
    rw[Tw (b:=λacc:List (Str×Int)=>sB (acc.getLast?.map (·.1))) a,RU (q:=(acc.map (·.1)++[r.getD 0 ""],0,none,none))]
    ·have:=Uv R<|acc++[sV r];rw[<-this];rw[AI,BL];rfl
    show IG _ _ _ _ _ _ _=_;unfold IG;rw[if_neg a0,if_pos (by decide),iK,a];rfl
  rw[Pp hw];rfl
def Uw{ns:List Str}{l:Nat}(e:1<=l):∀(R:Rows) (acc:List (List Str)),IT R (l+acc.length) ns acc.length none none=if(HU "kind" (λ_=>kB ns) (λr=>r.map JC) R acc).1=true then .inl (l+(HU "kind" (λ_=>kB ns) (λr=>r.map JC) R acc).2.1.length)else IT (HU "kind" (λ_=>kB ns) (λr=>r.map JC) R acc).2.2 (l+(HU "kind" (λ_=>kB ns) (λr=>r.map JC) R acc).2.1.length) ns (HU "kind" (λ_=>kB ns) (λr=>r.map JC) R acc).2.1.length none none
 |[],acc=>rfl
 |[]::R,acc=>rfl
 |(w0::r)::R,acc=>by
  by_cases hw:w0="kind"
  ·subst hw;have a0:¬l+acc.length=0:=by omega
   have c:¬((("kind":Str)=="stick")&&(decide (acc.length=0)&&(none:Option (Int×Int)).isNone))=true:=by rw[show(("kind":Str)=="stick")=false by decide];simp
   cases a:kB ns r with
   |false=>
    rw[RO (b:=λ_=>kB ns) a,QJ]
    ·rfl
    show IG _ _ _ _ _ _ _=_;unfold IG;rw[if_neg a0,if_neg c,if_pos (by decide),a];rfl
   |true=>
    rw[Tw (b:=λ_=>kB ns) a,RU (q:=(ns,acc.length+1,none,none))]
    ·have:=Uw (ns:=ns) e R<|acc++[r.map JC];rw[<-this];rw[AI];rfl
    show IG _ _ _ _ _ _ _=_;unfold IG;rw[if_neg a0,if_neg c,if_pos (by decide),a];rfl
  rw[Pp hw];rfl
def Uu{ns:List Str}{l k:Nat}{w h:Int}(e:1<=l):∀(R:Rows) (acc:List Tl),IT R (l+acc.length) ns k (some (w,h)) acc.getLast?=if((HU "tile" (λacc=>tB w h k acc.getLast?) tV R acc).1 || !(HU "tile" (λacc=>tB w h k acc.getLast?) tV R acc).2.2.isEmpty)=true then .inl (l+(HU "tile" (λacc=>tB w h k acc.getLast?) tV R acc).2.1.length)else .inr (l+(HU "tile" (λacc=>tB w h k acc.getLast?) tV R acc).2.1.length,some (w,h))
 |[],acc=>rfl
 |[]::R,acc=>rfl
 |(w0::r)::R,acc=>by
  have a0:¬l+acc.length=0:=by omega
  have a:∀x y:Bool,¬(x&&(y&&(some (w,h):Option (Int×Int)).isNone))=true:=λx y=>by simp
  have f:∀x:Bool,¬(x&&(some (w,h):Option (Int×Int)).isNone)=true:=λx=>by simp
  by_cases hw:w0="tile"
  ·subst hw
   cases c:tB w h k acc.getLast? r with
   |false=>
    rw[RO (b:=λacc:List Tl=>tB w h k acc.getLast?) c,QJ]
    ·rfl
    show IG _ _ _ _ _ _ _=_;unfold IG;rw[if_neg a0,if_neg (a _ _),if_neg (f _),if_neg (a _ _)];show(if _ then(if _ then _ else _)else _)=_;rw[if_pos (by decide),c];rfl
   |true=>
    rw[Tw (b:=λacc:List Tl=>tB w h k acc.getLast?) c,RU (q:=(ns,k,some (w,h),some (tV r)))]
    ·have:=Uu (ns:=ns) (k:=k) (w:=w) (h:=h) e R<|acc++[tV r];rw[<-this];rw[AI,show(acc++[tV r]).getLast?=some (tV r) by simp];rfl
    show IG _ _ _ _ _ _ _=_;unfold IG;rw[if_neg a0,if_neg (a _ _),if_neg (f _),if_neg (a _ _)];show(if _ then(if _ then _ else _)else _)=_;rw[if_pos (by decide),c];rfl
  ·rw[Pp hw,QJ]
   ·rfl
   show IG _ _ _ _ _ _ _=_;unfold IG;rw[if_neg a0,if_neg (a _ _),if_neg (f _),if_neg (a _ _)];exact if_neg (by rw[beq_eq_false_iff_ne.mpr hw];decide)
def told(R:Rows):Option Nat:=match IT R 0 [] 0 none none with
 |.inl j=>some j
 |.inr p=>if p.2.isNone=true then some p.1 else none
def Qn(x:Nat⊕Jy):Option Nat:=match x with
 |.inl n=>some n
 |.inr _=>none
def wL(R:Rows):told R=Qn (parse R):=by
 unfold told
 match R with
 |[]=>rfl
 |[]::R=>rfl
 |(w0::r)::R=>
  cases c:(w0=="enough")&&eB r with
  |false=>
   rw[QJ (by show IG _ _ _ _ _ _ _=_;unfold IG;rw[if_pos rfl,c];rfl)];show _=Qn (if _ then _ else _);rw[if_neg λz=>by rw[z.1,z.2]at c;cases c];rfl
  |true=>
   rw[Ad,beq_iff_eq]at c;obtain⟨rfl,A⟩:=c;rw[RU (q:=([],0,none,none)) (by show IG _ _ _ _ _ _ _=_;unfold IG;rw[if_pos rfl,A];rfl)];show _=Qn (if _ then _ else _);rw[if_pos ⟨rfl,A⟩];have E:=Uv R [];unfold Mz
   change IT R (0+1) [] 0 none none=(if(pS R).1=true then .inl (1+(pS R).2.1.length)else IT (pS R).2.2 (1+(pS R).2.1.length) ((pS R).2.1.map (·.1)) 0 none none)at E;have x:=gQ (word:="stick") (b:=λacc=>sB (acc.getLast?.map (·.1))) (v:=sV) R [];change (pS R).1=false->∀r f,(pS R).2.2≠_ at x;show(match IT R (0+1) [] 0 none none with|.inl j=>some j|.inr p=>if p.2.isNone=true then some p.1 else none)=_;rw[E]
   cases i:(pS R).1 with
   |true=>rfl
   |false=>
    have x:=x i;simp only[AM,if_false];generalize (pS R).2.1=S at *;generalize (pS R).2.2=m at *;have F:=Uw (ns:=S.map (·.1)) (l:=1+S.length) (by omega) m [];unfold MB
    change IT m (1+S.length) (S.map (·.1)) 0 none none=(if(pK (S.map (·.1)) m).1=true then .inl (1+S.length+(pK (S.map (·.1)) m).2.1.length)else IT (pK (S.map (·.1)) m).2.2 (1+S.length+(pK (S.map (·.1)) m).2.1.length) (S.map (·.1)) (pK (S.map (·.1)) m).2.1.length none none)at F;have o:=gQ (word:="kind") (b:=λ_=>kB (S.map (·.1))) (v:=λr=>r.map JC) m [];change (pK (S.map (·.1)) m).1=false->∀r f,(pK (S.map (·.1)) m).2.2≠_ at o;obtain⟨M,s,C⟩:=VH (word:="kind") (b:=λ_=>kB (S.map (·.1))) (v:=λr=>r.map JC) m [];change m=M++(pK (S.map (·.1)) m).2.2 at s;change (pK (S.map (·.1)) m).2.1.length=0+M.length at C;rw[F];cases G:(pK (S.map (·.1)) m).1 with
    |true=>rfl
    |false=>
     have o:=o G;simp only[AM,if_false];generalize (pK (S.map (·.1)) m).2.1=K at *;generalize (pK (S.map (·.1)) m).2.2=H at *;generalize J:1+S.length+K.length=l;have L:¬l=0:=by omega
     match H,s,o with
     |[],_,_=>rfl
     |[]::f,_,_=>rfl
     |(u::a)::f,s,o=>
      have y:u≠"kind":=λz=>o a f (by rw[z]);have Q:¬((u=="stick")&&(decide (K.length=0)&&(none:Option (Int×Int)).isNone))=true:=λz=>by simp only[Ad,beq_iff_eq,decide_eq_true_eq]at z;have:M=[]:=Bj (by omega);rw[this]at s;exact x a f (by rw[<-z.1];exact s)
      have W:¬((u=="kind")&&(none:Option (Int×Int)).isNone)=true:=by
       rw[beq_eq_false_iff_ne.mpr y]
       decide
      have e:(decide (0<K.length)&&(none:Option (Int×Int)).isNone)=!K.isEmpty:=by cases K<;>simp
      cases c:(u=="floor")&&(!K.isEmpty&&Kt a) with
      |false=>
       have:Sv l (S.map (·.1)) K.length none none (u::a)=none:=by
        show IG _ _ _ _ _ _ _=_;unfold IG;rw[if_neg L,if_neg Q,if_neg W,e];split
        ·rename_i z;rw[Ad]at z;rw[z.1,z.2]at c;have c:Kt a=false:=c;rw[c];rfl
        rfl
       rw[QJ this];show _=Qn (if _ then _ else _);rw[if_neg λz=>by
        rw[z.1]at c;have c:(!K.isEmpty&&Kt a)=false:=by simpa using c
        rw[z.2]at c;cases c]
       rfl
      |true=>
       rw[Ad,beq_iff_eq]at c;obtain⟨rfl,c⟩:=c;have n:=c;rw[Ad]at n;have:Sv l (S.map (·.1)) K.length none none (("floor":Str)::a)=some (S.map (·.1),K.length,some (v0 a 0,v0 a 1),none):=by show IG _ _ _ _ _ _ _=_;unfold IG;rw[if_neg L,if_neg Q,if_neg W,e,if_pos (by rw[n.1];decide),n.2];rfl
       rw[RU this];have g:=Uu (ns:=S.map (·.1)) (l:=l+1) (k:=K.length) (w:=v0 a 0) (h:=v0 a 1) (by omega) f []
       change IT f (l+1) (S.map (·.1)) K.length (some (v0 a 0,v0 a 1)) none=(if((pT (v0 a 0) (v0 a 1) K.length f).1 || !(pT (v0 a 0) (v0 a 1) K.length f).2.2.isEmpty)=true then .inl (l+1+(pT (v0 a 0) (v0 a 1) K.length f).2.1.length)else .inr (l+1+(pT (v0 a 0) (v0 a 1) K.length f).2.1.length,some (v0 a 0,v0 a 1)))at g
       have I:LY ⟨v0 r 0,S,K⟩ l ((("floor":Str)::a)::f)=LX ⟨v0 r 0,S,K⟩ (v0 a 0) (v0 a 1) (l+1) f:=if_pos ⟨rfl,c⟩;rw[I];show(match IT f (l+1) (S.map (·.1)) K.length (some (v0 a 0,v0 a 1)) none with|.inl j=>some j|.inr p=>if p.2.isNone=true then some p.1 else none)=_;rw[g];show _=Qn (if((pT (v0 a 0) (v0 a 1) K.length f).1 || !(pT (v0 a 0) (v0 a 1) K.length f).2.2.isEmpty)=true then _ else _);generalize ((pT (v0 a 0) (v0 a 1) K.length f).1 || !(pT (v0 a 0) (v0 a 1) K.length f).2.2.isEmpty)=B
       cases B<;>rfl
def Ll(s:Hg)(F:Option (Int×Int))(fl:D):Prop:=match F with
 |none=>fl=.non
 |some (w,h)=>∃k,fl=.ref k/\s[k]?=some (.lst [.int w,.int h])/\w<=1000/\h<=1000
variable {fl:D}
def Ll.gr{s':Hg}(h:Ll s F fl)(g:Gr s s'):Ll s' F fl:=by
 cases F with
 |none=>exact h
 |some p=>
  obtain⟨k,e,a,b⟩:=h;exact⟨k,e,(g.old _<|qax a).trans a,b⟩
def Ll.non{s:Hg}{F:Option (Int×Int)}{fl:D}(h:Ll s F fl):P6 fl=F.isNone:=by
 cases F with
 |none=>rw[show fl=.non from h];rfl
 |some p=>
  obtain⟨k,e,_⟩:=h;rw[e];rfl
def TurnOk(res:Option (Fl×Hg))(s:Hg)(T RS:Option D)(at_:Nat)(x:Str):Option LS->Prop
 |none=>∃s',res=some (.rt (.int (at_:Int)),s')/\Gr s s'
 |some q=>∃s' nm fl a8 a9,res=some (.nx [T,some (.ref nm),some (.int (q.2.1:Int)),some fl,some (Ky q.2.2.2),RS,some (.int (at_:Int)),some (.str x),a8,a9],s')/\Gr s s'/\s'[nm]?=some (.lst<|q.1.map D.str)/\Ll s' q.2.2.1 fl
variable {t:MT}
def Li{a b:MS}{r:Option (Fl×Hg)}(h:t ρ st=some (true,s1))(k:a ρ s1=r):HS t a b ρ st=r:=by rw[K7,h];simp only[Aa,if_true,k]
def Iz{a b:MS}{r:Option (Fl×Hg)}(h:t ρ st=some (false,s1))(k:b ρ s1=r):HS t a b ρ st=r:=by rw[K7,h];simp only[Aa,AM,if_false,k]
def Nw{a b:MT}{x y:Bool}(e:a ρ s=some (x,s))(g:b ρ s=some (y,s)):JY a b ρ s=some (x&&y,s):=by
 cases x
 ·exact Rq e
 exact Ru e g
variable {d:D}{T RS:Option D}{i nm:Nat}
section
variable {j:Nat}{A B:MS}{n:ME}{ρ1 ρ2:HX}{e:D}{o:Option LS}{q:LS}
def bB(h:m ρ s=some (d,s1))(g:Gr s s1)(C:ρ.set i (some d)=ρ1)(k:TurnOk (B ρ1 s1) s1 T RS at_ x o):TurnOk (mS (Hm m<|Hq i) B ρ s) s T RS at_ x o:=by
 subst C;have e:mS (Hm m<|Hq i) B ρ s=B (ρ.set i<|some d) s1:=HA (by rw[Kg,h];rfl) rfl;rw[e]
 cases o with
 |none=>obtain⟨f,a,b⟩:=k;exact⟨f,a,g.trans b⟩
 |some q=>obtain⟨f,nm,fl,j,l,a,b,c⟩:=k;exact⟨f,nm,fl,j,l,a,g.trans b,c⟩
def Vm(h:m ρ s=some (d,s1)):Hm m (Hq i) ρ s=some (.nx (ρ.set i<|some d),s1):=by rw[Kg,h];rfl
def Qi(h:m ρ s=some (d,s1))(k:n (ρ.set i<|some d) s1=some (e,s2)):mS (Hm m<|Hq i) (Hm n<|Hq j) ρ s=some (.nx ((ρ.set i<|some d).set j<|some e),s2):=HA (Vm h)<|Vm k
def N4(h:A ρ s=some (.nx ρ2,s2))(g:Gr s s2)(C:ρ2[9]?=some (some<|.bl true))(G:∃a8 a9,ρ2=[T,some (.ref nm),some (.int (q.2.1:Int)),some fl,some (Ky q.2.2.2),RS,some (.int (at_:Int)),some (.str x),a8,a9])(H:s2[nm]?=some (.lst<|q.1.map D.str))(I:Ll s2 q.2.2.1 fl):TurnOk (mS A (HS (Kj<|mT<|mV 9) (mR<|mV 6)<|Ia) ρ s) s T RS at_ x (some q):=by obtain⟨a8,a9,rfl⟩:=G;refine⟨s2,nm,fl,a8,a9,HA h<|Kr (s1:=s2)<|Ij (b:=true) ?_,g,H,I⟩;rw[Ih,C]
def Mv(h:A ρ s=some (.nx ρ2,s2))(g:Gr s s2)(C:ρ2[9]?=some (some<|.bl false))(G:ρ2[6]?=some (some<|.int (at_:Int))):TurnOk (mS A (HS (Kj<|mT<|mV 9) (mR<|mV 6)<|Ia) ρ s) s T RS at_ x none:=by
 refine⟨s2,HA h<|JN (s1:=s2) (Ij (b:=false) ?_) ?_,g⟩
 ·rw[Ih,C]
 rw[LQ,Ih,G];rfl
end
def oS:(cutD ds (some 1)<|some 2).length<=1:=by
 have a:HT.HR ds.length 0 (some 1)=min 1 ds.length:=by unfold HT.HR;simp
 have c:HT.HR ds.length ds.length (some 2)=min 2 ds.length:=by unfold HT.HR;simp
 unfold cutD;rw[Ba,a,c];omega
section
variable {a8 a9:Option D}
def wM(J:IU x 8000)(hs:Txt.split x " "=w0::r)(hn:s[nm]?=some (.lst (ns.map D.str)))(hN:∀y∈ns,J9 y=true/\Wd y)(hF:Ll s F fl)(hk:k<=9000)(hl:ns.length<=9000):
  TurnOk (T5 [T,some (.ref nm),some (.int (k:Int)),some fl,some (Ky L),RS,some (.int (at_:Int)),some (.str x),a8,a9] s) s T RS at_ x (IG at_ ns k F L w0 r):=by
 have hW:∀y∈w0::r,Wd y:=λy W=>(J.part (y:=" ") (by rw[hs];exact W)).up (by decide);have hR:∀y∈r,Wd y:=λy W=>hW y (Aj _ W);have rl:r.length<=9000:=by have:=VJ x " ";rw[hs]at this;have:=J.len;simp at *;omega
 have es:=RW (z:=x) (y:=" ") (s:=s) (by decide) (by have:=J.len;omega);rw[hs]at es;have g0:=Gr.app s [.lst ((w0::r).map D.str)];have e:=II s (.lst ((w0::r).map D.str));have o:=(g0.old _ (qax hn)).trans hn;have C:=hF.gr g0;generalize hs0:s++[O.lst ((w0::r).map D.str)]=s0 at *;generalize hQ:s.length=q at *;have lw:Ho [.ref q] s0=some (.int (r.length+1:Nat),s0):=by rw[M6 e];simp
 have i0:Hr (.ref q) (.int 0) s0=some (.str w0,s0):=Mo e (by decide) rfl;obtain⟨ρ,hρ⟩:∃ρ:HX,[T,some (.ref nm),some (.int (k:Int)),some fl,some (Ky L),RS,some (.int (at_:Int)),some (.str x),some (.ref q),some (.bl false)]=ρ:=⟨_,rfl⟩
 unfold T5;refine bB (by rw[Qb];simp only[Ih,Af,Az,Aa,IH,Ip,IM,es]) g0 rfl (bB rfl (Gr.refl _) hρ ?_);have G:∀s:Hg,mV 8 ρ s=some (.ref q,s):=λs=>by rw[<-hρ];rfl
 have v1:∀s:Hg,mV 1 ρ s=some (.ref nm,s):=λs=>by rw[<-hρ];rfl
 have v2:∀s:Hg,mV 2 ρ s=some (.int (k:Int),s):=λs=>by rw[<-hρ];rfl
 have v3:∀s:Hg,mV 3 ρ s=some (fl,s):=λs=>by rw[<-hρ];rfl
 have v4:∀s:Hg,mV 4 ρ s=some (Ky L,s):=λs=>by rw[<-hρ];rfl
 have v6:∀s:Hg,mV 6 ρ s=some (.int (at_:Int),s):=λs=>by rw[<-hρ];rfl
 have wq:∀lit∈(["enough","stick","kind","floor","tile"]:List Str),mT (mB Il (mB Hr (mV 8) (mK (.int 0))) (mK (.str lit))) ρ s0=some (w0==lit,s0):=λlit hl=>Hu (by
  have:=eq_str (st:=s0) (hW w0 (by simp)).str (W0 lit hl);simp only[IE,G,Ip,Aa,i0,this])
 have E:mT (mB Il (mV 6) (mK (.int 0))) ρ s0=some (decide (at_=0),s0):=Hu (by
  have:=eq_int (at_:Int) 0 s0;rw[show((at_:Int)==0)=decide (at_=0) by rw[A8];simp]at this;simp only[IE,v6,Ip,Aa,this])
 have ck:mT (mB Il (mV 2) (mK (.int 0))) ρ s0=some (decide (k=0),s0):=Hu (by
  have:=eq_int (k:Int) 0 s0;rw[show((k:Int)==0)=decide (k=0) by rw[A8];simp]at this;simp only[IE,v2,Ip,Aa,this])
 have cg:mT (mB Jg (mV 2) (mK (.int 0))) ρ s0=some (decide (0<k),s0):=Hu (by
  have:Jg (.int (k:Int)) (.int 0) s0=some (.bl (decide (0<k)),s0):=by show some (D.bl (decide ((k:Int) > 0)),s0)=_;rw[show decide ((k:Int) > 0)=decide (0<k) by rw[decide_eq_decide];omega]
  simp only[IE,v2,Ip,Aa,this])
 have cf:mT (mB JD (mV 3) (mK .non)) ρ s0=some (F.isNone,s0):=Hu (by
  simp only[IE,v3,Ip,Aa,Wo,hF.non])
 have cn:mT (mB Pc (mV 3) (mK .non)) ρ s0=some (!F.isNone,s0):=Hu (by
  have:Pc fl .non s0=some (.bl (!P6 fl),s0):=rfl;simp only[IE,v3,Ip,Aa,this,hF.non])
 have p9:ρ[9]?=some (some (.bl false)):=by rw[<-hρ];rfl
 have p6:ρ[6]?=some (some (.int (at_:Int))):=by rw[<-hρ];rfl
 unfold IG;by_cases ha:at_=0
 ·
  rw[decide_eq_true ha]at E;rw[if_pos ha];have en:JM (mB Il (mB Hr (mV 8) (mK (.int 0))) (mK (.str "enough"))) (JM (mB Il (Hi Ho (Hc (mV 8) mZ)) (mK (.int 2))) (Jj Ik Ik (mK (.int 1)) (Hi O4 (Hc (mB Hr (mV 8) (mK (.int 1))) mZ)) (mK (.int 4)))) ρ s0=some (.bl ((w0=="enough")&&eB r),s0):=by
   have A:=eq_str (st:=s0) (hW w0 (by simp)).str (W0 "enough" (by simp));have A:mB Il (mB Hr (mV 8) (mK (.int 0))) (mK (.str "enough")) ρ s0=some (.bl (w0=="enough"),s0):=by simp only[IE,G,Ip,Aa,i0,A]
   cases i:w0=="enough" with
   |false=>rw[i]at A;exact JQ A
   |true=>
    rw[i]at A;refine Ji A ?_;rw[BN];by_cases h1:r.length=1
    ·obtain⟨a,rfl⟩:=one h1;have i1:Hr (.ref q) (.int 1) s0=some (.str a,s0):=Mo e (by decide) rfl;have e2:=YW (hR a (by simp)) (Ai _) s0;have lw:Ho [.ref q] s0=some (.int 2,s0):=lw;have H:Il (.int 2) (.int 2) s0=some (.bl true,s0):=rfl;refine Ji (s1:=s0) (by simp only[IE,Jm,IH,IM,G,Ip,Aa,lw,H]) ?_;show _=some (D.bl (Jf 1 4 a),s0);rw[<-VQ (w:=a) (lo:=1) (hi:=4) (by decide) (by decide)];exact XW (s3:=s0) (s1:=s0) rfl (by simp only[Jm,IH,IM,IE,G,Ip,Aa,i1,e2]) rfl
    rw[Z8 h1];have H:=eq_int (r.length+1:Nat) 2 s0;rw[show(((r.length+1:Nat):Int)==2)=false from beq_eq_false_iff_ne.mpr (by omega)]at H;exact JQ (by simp only[IE,Jm,IH,IM,G,Ip,Aa,lw,H])
  cases i:(w0=="enough")&&eB r with
  |false=>
   rw[i]at en;exact Mv (Li E (Vm en)) (Gr.refl _) (by rw[<-hρ];rfl) (by rw[<-hρ];rfl)
  |true=>
   rw[i]at en;exact N4 (nm:=nm) (fl:=fl) (Li E (Vm en)) (Gr.refl _) (by rw[<-hρ];rfl) (by rw[<-hρ];exact⟨_,_,rfl⟩) o C
 ·rw[decide_eq_false ha]at E;rw[if_neg ha];have Q:=Nw (wq "stick" (by simp)) (Nw ck cf)
  cases h1:(w0=="stick")&&(decide (k=0)&&F.isNone) with
  |true=>
   rw[h1]at Q;rw[if_pos rfl];obtain⟨s1,A,g1⟩:=nH hR (λy W=>(hN y W).2) e o;have N:=(g1.old _ (qax e)).trans e;have hn1:=(g1.old _ (qax o)).trans o;have Y:=Vd (a:=some 1) (b:=some 2) N;have g2:=Gr.app s1 [.lst (cutD ((w0::r).map D.str) (some 1) (some 2))];have hn2:=(g2.old _ (qax hn1)).trans hn1;have hc2:=II s1 (.lst (cutD ((w0::r).map D.str) (some 1) (some 2)));have cl:=oS (ds:=(w0::r).map D.str);generalize hs2:s1++[O.lst (cutD ((w0::r).map D.str) (some 1) (some 2))]=s2 at *;have ea:=QC hn2 hc2 (by rw[Ah];omega);have hn3:=II s2 (.lst (ns.map D.str++cutD ((w0::r).map D.str) (some 1) (some 2)));have g3:=Gr.app s2 [.lst (ns.map D.str++cutD ((w0::r).map D.str) (some 1) (some 2))];generalize hs3:s2++[O.lst (ns.map D.str++cutD ((w0::r).map D.str) (some 1) (some 2))]=s3 at *;have S:=g1.trans (g2.trans g3);have n:Hi V3 (Hc (mV 8) (Hc (mV 1) mZ)) ρ s0=some (.bl (sB ns.getLast? r),s1):=by simp only[Jm,IH,IM,G,v1,Aa,A]
   have j:∀b:Bool,mB Hh (mV 1) (Iu (mV 8) (Iq (mK (.int 1))) (Iq (mK (.int 2)))) (ρ.set 9 (some (.bl b))) s1=some (.ref s2.length,s3):=λb=>by rw[<-hρ,IE];show(some (D.ref nm,s1)).bind _=_;simp only[Aa,RG,Ih,List.set_cons_succ,List.set_cons_zero,Af,Az,KQ,Ip,Y,ea]
   cases i:sB ns.getLast? r with
   |false=>
    rw[i]at n;exact Mv (Iz E (Li Q (Qi n (j _)))) S (by rw[<-hρ];rfl) (by rw[<-hρ];rfl)
   |true=>
    rw[i]at n;have cu:cutD ((w0::r).map D.str) (some 1) (some 2)=[D.str (r.getD 0 "")]:=by
     by_cases K:r.length=2
     ·obtain⟨m,a,rfl⟩:=two K;rfl
     rw[U1 K]at i;cases i
    rw[cu]at hn3;refine N4 (nm:=s2.length) (fl:=fl) (Iz E (Li Q (Qi n (j _)))) S (by rw[<-hρ];rfl) (by rw[<-hρ];exact⟨_,_,rfl⟩) ?_ (C.gr S);show s3[s2.length]?=some (.lst ((ns++[r.getD 0 ""]).map D.str));rw[hn3,BL];rfl
  |false=>
   rw[h1]at Q;rw[if_neg (by decide)];have B:=Nw (wq "kind" (by simp)) cf
   cases K:(w0=="kind")&&F.isNone with
   |true=>
    rw[K]at B;rw[if_pos rfl];obtain⟨s1,A,g1⟩:=lF hR (λy W=>(hN y W).2) e o;rw[lE λy W=>(hN y W).1]at A;have n:Hi V4 (Hc (mV 8) (Hc (mV 1) mZ)) ρ s0=some (.bl (kB ns r),s1):=by simp only[Jm,IH,IM,G,v1,Aa,A]
    have j:∀b:Bool,mB Hh (mV 2) (mK (.int 1)) (ρ.set 9 (some (.bl b))) s1=some (.int ((k+1:Nat):Int),s1):=λb=>by rw[<-hρ];rfl
    cases i:kB ns r with
    |false=>
     rw[i]at n;exact Mv (Iz E (Iz Q (Li B (Qi n (j _))))) g1 (by rw[<-hρ];rfl) (by rw[<-hρ];rfl)
    |true=>
     rw[i]at n;exact N4 (nm:=nm) (fl:=fl) (Iz E (Iz Q (Li B (Qi n (j _))))) g1 (by rw[<-hρ];rfl) (by rw[<-hρ];exact⟨_,_,rfl⟩) ((g1.old _ (qax o)).trans o) (C.gr g1)
   |false=>
    rw[K]at B;rw[if_neg (by decide)];have M:=Nw (wq "floor" (by simp)) (Nw cg cf)
    cases h3:(w0=="floor")&&(decide (0<k)&&F.isNone) with
    |true=>
     rw[h3]at M;rw[if_pos rfl];have Y:=Wl (s:=s0) (l:=q) (d:=.str w0) (ds:=r.map D.str) e;obtain⟨s1,A,g1⟩:=Vv (me:=Iu (mV 8) (Iq (mK (.int 1))) IS) (m:=jE) (ρ:=ρ) (ρ0:=[]) (s:=s0) (s0:=s0++[.lst (r.map D.str)]) (l:=s0.length) (as:=r) (f:=D.str) (g:=λx=>D.int (HE x)) (fr:=[]) (by
       rw[RG];simp only[G,Aa,KQ,K8,Ip,Y]) (II _ _) (by rw[<-hρ];rfl) (by omega) (λx J s' _=>W3 (hR x J) rfl)
     have hc:=II s1 (.lst (r.map λx=>D.int (HE x)));have g2:=Gr.app s1 [.lst (r.map λx=>D.int (HE x))];generalize hs2:s1++[O.lst (r.map λx=>D.int (HE x))]=s2 at *;have Z:=M6 hc;have Z:Ho [.ref s1.length] s2=some (.int r.length,s2):=by rw[Z];simp
     obtain⟨s3,e3,g3⟩:=cG (me:=mV 3) (m:=YN) (ρ:=ρ.set 3 (some (.ref s1.length))) (ρ0:=[]) (s:=s2) (s0:=s2) (l:=s1.length) (as:=r) (f:=λx=>D.int (HE x)) (b:=λx=>Jf 1 12 x) (fr:=[]) (by rw[<-hρ];rfl) hc (by rw[<-hρ];rfl) (by omega) (λx J s' _=>by refine⟨s',?_,Gr.refl _⟩;rw[<-VQ (w:=x) (lo:=1) (hi:=12) (by decide) (by decide)];exact XW (s3:=s') (s1:=s') rfl rfl rfl)
     have ev:∃s4,JM (mB Il (Hi Ho (Hc (mV 3) mZ)) (mK (.int 2))) (Hi JR (Hc (Jk (Jw (mV 3)) 1 [] (Hq 0) IJ YN) mZ)) (ρ.set 3 (some (.ref s1.length))) s2=some (.bl (Kt r),s4)/\Gr s2 s4:=by
      have w3:mV 3 (ρ.set 3 (some (.ref s1.length))) s2=some (.ref s1.length,s2):=by rw[<-hρ];rfl
      have H:=eq_int r.length 2 s2;by_cases K:r.length=2
      ·obtain⟨a,b,rfl⟩:=two K;have Z:Ho [.ref s1.length] s2=some (.int 2,s2):=Z;have H:Il (.int 2) (.int 2) s2=some (.bl true,s2):=rfl;refine⟨s3,Ji (s1:=s2) (by simp only[IE,Jm,IH,IM,w3,Ip,Aa,Z,H]) ?_,g3⟩;rw[e3];simp[Kt]
      ·rw[show(((r.length:Int))==2)=false from beq_eq_false_iff_ne.mpr (by omega)]at H;have:Kt r=false:=by
        unfold Kt;split
        ·exact absurd rfl K
        rfl
       rw[this];exact⟨s2,JQ (by simp only[IE,Jm,IH,IM,w3,Ip,Aa,Z,H]),Gr.refl _⟩
     obtain⟨s4,e4,g4⟩:=ev;have U:=((Gr.app s0 [.lst (r.map D.str)]).trans g1).trans (g2.trans g4);cases i:Kt r with
     |false=>
      rw[i]at e4;exact Mv (Iz E (Iz Q (Iz B (Li M (Qi A e4))))) U (by rw[<-hρ];rfl) (by rw[<-hρ];rfl)
     |true=>
      rw[i]at e4;refine N4 (nm:=nm) (fl:=.ref s1.length) (Iz E (Iz Q (Iz B (Li M (Qi A e4))))) U (by rw[<-hρ];rfl) (by rw[<-hρ];exact⟨_,_,rfl⟩) ((U.old _ (qax o)).trans o) ?_;unfold Kt at i
      split at i
      ·rename_i a b _;rw[Ad]at i;obtain⟨a1,a2,a3,_⟩:=Kl i.1;obtain⟨b1,b2,b3,_⟩:=Kl i.2;have hc4:=(g4.old _ (qax hc)).trans hc;refine⟨s1.length,rfl,?_,?_,?_⟩
       ·rw[hc4];show some (O.lst [.int (HE a),.int (HE b)])=_;rw[a1,b1];rfl
       ·show val a<=1000;omega
       show val b<=1000;omega
      ·cases i
    |false=>
     rw[h3]at M;rw[if_neg (by decide)];have X:=Nw (wq "tile" (by simp)) cn
     cases F with
     |none=>
      rw[show((w0=="tile")&&!(none:Option (Int×Int)).isNone)=false by simp]at X;exact Mv (Iz E (Iz Q (Iz B (Iz M (Iz X rfl))))) (Gr.refl _) p9 p6
     |some p=>
      obtain⟨w,h⟩:=p;obtain⟨kf,rfl,hkf,hw,hh⟩:=C;show TurnOk _ s0 T RS at_ x (if _ then _ else _);cases h4:w0=="tile" with
      |false=>
       rw[h4]at X;exact Mv (Iz E (Iz Q (Iz B (Iz M (Iz X rfl))))) (Gr.refl _) p9 p6
      |true=>
       rw[h4]at X;rw[if_pos rfl];obtain⟨s1,A,g1⟩:=lG (L:=L) hR hw hh (by omega) e hkf (k:=k);have N:=(g1.old _ (qax e)).trans e;have Y:=Vd (a:=some 1) (b:=some 3) N;obtain⟨cs,ecs⟩:∃cs:List Str,cutD ((w0::r).map D.str) (some 1) (some 3)=cs.map D.str/\(∀y∈cs,Wd y)/\cs.length<=9001:=by unfold cutD;refine⟨((w0::r).drop _).take _,by rw[GD,Fi],λy W=>hW y (BA (BK W)),?_⟩;rw[Ba,BE];simp;omega
       obtain⟨ec,hcs,lcs⟩:=ecs;rw[ec]at Y;have n:Hi T9 (Hc (mV 8) (Hc (mV 3) (Hc (mV 2) (Hc (mV 4) mZ)))) ρ s0=some (.bl (tB w h k L r),s1):=by simp only[Jm,IH,IM,G,v3,v2,v4,Aa,A]
       obtain⟨s2,e2,g2⟩:=Vv (me:=Iu (mV 8) (Iq (mK (.int 1))) (Iq (mK (.int 3)))) (m:=YO) (ρ:=ρ.set 9 (some (.bl (tB w h k L r)))) (ρ0:=[]) (s:=s1) (s0:=s1++[.lst (cs.map D.str)]) (l:=s1.length) (as:=cs) (f:=D.str) (g:=λx=>D.int (HE x)) (fr:=[]) (by
         have w8:mV 8 (ρ.set 9 (some (.bl (tB w h k L r)))) s1=some (.ref q,s1):=by rw[<-hρ];rfl
         rw[RG];simp only[w8,Aa,KQ,K8,Ip,Y]) (II _ _) (by rw[<-hρ];rfl) (by omega) (λx J s' _=>W3 (hcs x J) rfl)
       have et:=Px (II s2 (.lst (cs.map λx=>D.int (HE x))));have g3:=Gr.app s2 [.lst (cs.map λx=>D.int (HE x))];generalize hs3:s2++[O.lst (cs.map λx=>D.int (HE x))]=s3 at *;have I:=g1.trans (((Gr.app s1 [.lst (cs.map D.str)]).trans g2).trans g3);have j:Hi Mr (Hc (Jk (Jw (Iu (mV 8) (Iq (mK (.int 1))) (Iq (mK (.int 3))))) 1 [] (Hq 0) IJ YO) mZ) (ρ.set 9 (some (.bl (tB w h k L r)))) s1=some (.tup (cs.map λx=>D.int (HE x)),s3):=by simp only[Jm,IH,e2,IM,Aa,et]
       cases i:tB w h k L r with
       |false=>
        rw[i]at n j;exact Mv (Iz E (Iz Q (Iz B (Iz M (Li X (Qi n j)))))) I (by rw[<-hρ];rfl) (by rw[<-hρ];rfl)
       |true=>
        rw[i]at n j;have eL:D.tup (cs.map λx=>D.int (HE x))=Ky (some (tV r)):=by
         unfold tB at i;rw[Ad]at i;have i:=i.1;unfold NU at i;split at i
         ·rename_i a b c _;rw[Ad,Ad]at i;have:cs=[a,b]:=by
           have:[D.str a,D.str b]=cs.map D.str:=ec
           match cs,this with
           |[u,v],this=>
            cases this;rfl
          rw[this];show D.tup [.int (HE a),.int (HE b)]=_;rw[(Kl i.1.1).1,(Kl i.1.2).1];rfl
         ·cases i
        rw[eL]at j;exact N4 (nm:=nm) (fl:=.ref kf) (Iz E (Iz Q (Iz B (Iz M (Li X (Qi n j)))))) I (by rw[<-hρ];rfl) (by rw[<-hρ];exact⟨_,_,rfl⟩) ((I.old _ (qax o)).trans o) (hF.gr (g0.trans I))
end
def TC{ss:List Str}{c:Nat}(g:∀x∈ss,x.length<=c)(j:ss.length<=n)(B:z.length<=1):(Txt.join z ss).length<=n*c+n:=by have e:(Txt.join z ss).length=_:=Gq z ss;have a:=W8 (f:=λx:Str=>x.length) g;have b:ss.length*c<=n*c:=CI c j;have d:(ss.length-1)*z.length<=(ss.length-1)*1:=DJ _ B;rw[e];omega
def V2(h:m ρ s=some (.tup ds,s1)):Jw m ρ s=some (⟨ds,[]⟩,s1):=by rw[WD,h];rfl
def dash(x:Str):Str:=if x=="" then "-" else x
def dS(h:x.length<=8):(dash x).length<=8:=by
 unfold dash;split
 ·decide
 exact h
def LM(e:Int):Str:=Txt.join " " ["enough",Hv e]
def K9(p:Str×Int):Str:=Txt.join " " ["stick",p.1,Hv p.2]
def MX(q:List Str):Str:=Txt.join " " ("kind"::q.map dash)
def Pf(w h:Int):Str:=Txt.join " " ["floor",Hv w,Hv h]
def Nh(t:Tl):Str:=Txt.join " " ["tile",Hv t.1,Hv t.2.1,Hv t.2.2]
def M7(b:Jy):List Str:=[LM b.ho.e]++b.ho.sticks.map K9++b.ho.kinds.map MX++[Pf b.w b.h]++b.ts.map Nh
structure UL(b:Jy):Prop where
 e:0<=b.ho.e/\b.ho.e<=9000
 s:∀p∈b.ho.sticks,p.1.length<=8/\0<=p.2/\p.2<=9000
 n:b.ho.sticks.length+b.ho.kinds.length+b.ts.length<=8100
 k:∀q∈b.ho.kinds,q.length=5/\(∀x∈q,x.length<=8)/\∀x∈q,Ao x=true
 f:(0<=b.w/\b.w<=9000)/\0<=b.h/\b.h<=9000
 t:∀t∈b.ts,(0<=t.1/\t.1<=9000)/\(0<=t.2.1/\t.2.1<=9000)/\0<=t.2.2/\t.2.2<=9000
def VL{b c d:Str}{l:List Str}(h:l=[a,b]\/l=[a,b,c]\/l=[a,b,c,d])(e:a.length<=8)(g:b.length<=8)(j:c.length<=8)(hd:d.length<=8):(Txt.join " " l).length<=80:=by
 refine Ar (TC (c:=8) (n:=4) ?_ ?_<|by decide)<|by decide
 ·intro x f
  rcases h with rfl|rfl|rfl<;>simp at f<;>rcases f with rfl|rfl|rfl|rfl<;>first|assumption|(rcases f with rfl|rfl<;>assumption)
 rcases h with rfl|rfl|rfl<;>simp
def fN{b:Jy}(h:UL b):∀x∈M7 b,x.length<=80:=by
 have il:∀i:Int,0<=i->i<=9000->(Hv i).length<=8:=λi h0 u=>Ar (dI h0<|by omega) (by decide);intro x a;unfold M7 at a;simp only[Ez,FI,GL]at a
 rcases a with(((rfl|⟨p,l,rfl⟩)|⟨q,m,rfl⟩)|rfl)|⟨t,o,rfl⟩
 ·exact VL (c:="") (d:="") (.inl rfl) (by decide) (il _ h.e.1 h.e.2) (by decide) (by decide)
 ·have:=h.s p l;exact VL (d:="") (.inr<|.inl rfl) (by decide) this.1 (il _ this.2.1 this.2.2) (by decide)
 ·obtain⟨v,hl,_⟩:=h.k q m;refine Ar (TC (c:=8) (n:=6) ?_ (by simp;omega)<|by decide) (by decide);intro y hy
  rcases On.mp hy with rfl|hy
  ·decide
  obtain⟨z,r,rfl⟩:=UV.mp hy;exact dS<|hl z r
 ·exact VL (d:="") (.inr<|.inl rfl) (by decide) (il _ h.f.1.1 h.f.1.2) (il _ h.f.2.1 h.f.2.2) (by decide)
 obtain⟨x,y,z⟩:=h.t t o;exact VL (.inr<|.inr rfl) (by decide) (il _ x.1 x.2) (il _ y.1 y.2)<|il _ z.1 z.2
def fM{b:Jy}(h:UL b):(M7 b).length<=8200:=by have:=h.n;unfold M7;simp;omega
variable {A:List D}
def aG{B:ME}{r:Nat}(hi:ρ[i]?=some (some<|.ref r))(j:s[r]?=some (.lst A))(e:B ρ s=some (d,s1))(g:Gr s s1)(C:A.length<=10000):
  Lf (Lh (mV i)<|Hc B mZ) ρ s=some (.nx ρ,s1.set r (O.lst<|A++[d])):=by
 have a:s1[r]?=some (.lst A):=(g.old _<|qax j).trans j;have c:Iw s r=some A:=by unfold Iw;rw[j]
 have f:=append_at (x:=d) a C;rw[NF,ND,Ih,hi];simp only[Aa,c,IH,e,IM,f,Ak]
def Tn{b c:Str}(h:a.cps=b.cps++c.cps)(x:Str):a++x=b++c++x:=by show Str.mk (a.cps++x.cps)=Str.mk (b.cps++c.cps++x.cps);rw[h]
def eL(e:Int):("enough ":Str)++Hv e=LM e:=Tn (b:="enough") (c:=" ") (by decide) _
def sL(p:Str×Int):(("stick ":Str)++p.1)++" "++Hv p.2=K9 p:=by rw[Tn (a:="stick ") (b:="stick") (c:=" ") (by decide) p.1];rfl
def fL(w h:Int):(("floor ":Str)++Hv w)++" "++Hv h=Pf w h:=by rw[Tn (a:="floor ") (b:="floor") (c:=" ") (by decide) (Hv w)];rfl
def tL(t:Tl):(((("tile ":Str)++Hv t.1)++" ")++Hv t.2.1)++" "++Hv t.2.2=Nh t:=by rw[Tn (a:="tile ") (b:="tile") (c:=" ") (by decide) (Hv t.1)];rfl
def kL{q:List Str}(h:q.length=5):("kind ":Str)++Txt.join " " (q.map dash)=MX q:=by
 match q,h with
 |a::l,_=>
  rw[Tn (a:="kind ") (b:="kind") (c:=" ") (by decide) _];show _=FS " " ("kind"::dash a::l.map dash);rw[Bc];show _="kind"++" "++Ee " " (dash a::l.map dash);rw[<-Bc];rfl
def sY(h:Ao x=true)(e:x.length<=8):Se [some (.str x)] s=some (.str (dash x),s):=by
 have c:=eq_str (st:=s) h dW;have em:=dY (z:="-") (b:=x=="") (st:=s) (by decide);have a:Hh (.str x) (.str<|if(x=="")=true then "-" else Eu) s=some (.str (dash x),s):=by
  unfold dash;split
  ·rename_i f;have:x="":=eq_of_beq f;subst this;rfl
  ·have h0:Str.empty.length=0:=by decide
   rw[add_str (by omega),zm0]
 simp only[beq_iff_eq]at em a;unfold Se;simp[c,em,a]
def zY{q:List Str}{a0 a1 a2 a3:Option D}{r:Nat}(h:∀x∈q,Ao x=true)(e:q.length=5)(hs:∀x∈q,x.length<=8)(g:s[r]?=some (.lst A))(j:A.length<=9000):
  YQ [a0,a1,a2,a3,some (.ref r),some (Ju q)] s=some (.nx [a0,a1,a2,a3,some (.ref r),some (Ju q)],(s++[O.lst ((q.map dash).map D.str)]).set r (O.lst<|A++[D.str (MX q)])):=by
 have l:Kq ⟨q.map D.str,[]⟩ (Hq 0) IJ Se (q.map D.str) [none] s=some (q.map λx=>D.str (dash x),s):=by refine Qw (R:=λρ=>∃u,ρ=[u]) ⟨none,rfl⟩ rfl λp a ρ hρ=>?_;obtain⟨u,rfl⟩:=hρ;exact⟨[some (.str p)],rfl,rfl,sY (h p a)<|hs p a,⟨_,rfl⟩⟩
 have fl:fits (q.map λx=>D.str (dash x)).length=true:=Ku (by rw[Ah];omega);have em:(q.map λx=>D.str (dash x))=(q.map dash).map D.str:=by simp
 have f:Jk (Jw<|mV 5) 1 [] (Hq 0) IJ Se [a0,a1,a2,a3,some (.ref r),some (Ju q)] s=some (.ref s.length,s++[.lst ((q.map dash).map D.str)]):=by rw[Jz,V2 (m:=mV 5) (ds:=q.map D.str) (s1:=s) rfl];simp only[Aa];rw[show HG [a0,a1,a2,a3,some (.ref r),some (Ju q)] 1 []=[none] from rfl,l];simp only[Aa,fl,if_true];rw[em]
 have dl:∀x∈q.map dash,x.length<=8:=λx o=>by obtain⟨p,a,rfl⟩:=UV.mp o;exact dS<|hs p a
 have v:=X0 (z:=" ") (c:=8) (n:=5) (II s<|.lst<|(q.map dash).map D.str) dl (by simp;omega) (by decide) (by decide);have w:Hh (.str "kind ") (.str<|Txt.join " "<|q.map dash) (s++[.lst ((q.map dash).map D.str)])=some (.str (MX q),s++[.lst ((q.map dash).map D.str)]):=by
  rw[<-kL e];refine add_str ?_;have:=TC (z:=" ") (c:=8) (n:=5) dl (by simp;omega) (by decide);have:(("kind ":Str)).length=5:=by decide
  omega
 have y:mB Hh (mK<|.str "kind ") (Mf (mK<|.str " ")<|Hc (Jk (Jw<|mV 5) 1 [] (Hq 0) IJ Se) mZ) [a0,a1,a2,a3,some (.ref r),some (Ju q)] s=some (.str (MX q),s++[.lst ((q.map dash).map D.str)]):=by rw[IE,Ip,Aa,JU,Ip,Aa];simp only[IH,f,Aa,IM,v,w]
 exact aG (i:=4) rfl g y (Gr.app _ _)<|by omega
def cY{b:Jy}(h:UL b):∃l st',VT [b.d] st=some (.ref l,st')/\st'[l]?=some (.lst ((M7 b).map D.str))/\Gr st st':=by
 have E:∀i:Int,0<=i->i<=9000->(Hv i).length<=8:=λi h0 h1=>Ar (dI h0 (by omega)) (by decide);have is:∀i:Int,0<=i->i<=9000->∀s,J1 [.int i] s=some (.str (Hv i),s):=λi h0 h1 s=>zht h0 (by omega);have i0:=is _ h.e.1 h.e.2
 have e1:∀s:Hg,Hh (.str "enough ") (.str (Hv b.ho.e)) s=some (.str (LM b.ho.e),s):=λs=>by
  rw[<-eL];refine add_str ?_;have:=E _ h.e.1 h.e.2;have:(("enough ":Str)).length=7:=by decide
  omega
 have a:∃s1,s1=st++[O.lst [D.str (LM b.ho.e)]]:=⟨_,rfl⟩;obtain⟨s1,a⟩:=a;have a1:s1[st.length]?=some (.lst (([LM b.ho.e]:List Str).map D.str)):=by rw[a];exact II _ _
 have g1:Gr st s1:=by rw[a];exact Gr.app _ _
 have ec:Kq ⟨b.ho.sticks.map Jb,[]⟩ (Mm 2 (gC (Hq 0) (gC (Hq 1) Lz))) IJ V7 (b.ho.sticks.map Jb) [none,none] s1=some (b.ho.sticks.map λp=>D.str (K9 p),s1):=by
  refine Qw (R:=λρ=>∃u v,ρ=[u,v]) ⟨none,none,rfl⟩ rfl λp hp ρ hρ=>?_;obtain⟨u,v,rfl⟩:=hρ;obtain⟨F,c,r⟩:=h.s p hp;refine⟨[some (.str p.1),some (.int p.2)],rfl,rfl,?_,⟨_,_,rfl⟩⟩;have Y:(("stick ":Str)).length=6:=by decide
  have Z:((" ":Str)).length=1:=by decide
  have b1:Hh (.str "stick ") (.str p.1) s1=some (.str ("stick "++p.1),s1):=add_str (by omega);have Q:Hh (.str ("stick "++p.1)) (.str " ") s1=some (.str ("stick "++p.1++" "),s1):=add_str (by rw[AN];omega);have T:Hh (.str ("stick "++p.1++" ")) (.str (Hv p.2)) s1=some (.str (K9 p),s1):=by rw[<-sL];refine add_str ?_;have:=E _ c r;rw[AN,AN];omega
  have i1:=is _ c r s1;unfold V7;generalize Hv p.2=n at *;simp[b1,Q,i1,T]
 have fl:fits (b.ho.sticks.map λp=>D.str (K9 p)).length=true:=Ku (by rw[Ah];have:=h.n;omega);have em:(b.ho.sticks.map λp=>D.str (K9 p))=(b.ho.sticks.map K9).map D.str:=by simp
 generalize hK:D.tup (b.ho.kinds.map Ju)=KK;have j:Jk (Jw (mV 2)) 2 [] (Mm 2 (gC (Hq 0) (gC (Hq 1) Lz))) IJ V7 [some b.d,some (.int b.ho.e),some (.tup (b.ho.sticks.map Jb)),some KK,none,none] s1=some (.ref s1.length,s1++[.lst ((b.ho.sticks.map K9).map D.str)]):=by rw[Jz,V2 (m:=mV 2) (ds:=b.ho.sticks.map Jb) (s1:=s1) rfl];simp only[Aa];rw[show HG [some b.d,some (.int b.ho.e),some (.tup (b.ho.sticks.map Jb)),some KK,none,none] 2 []=[none,none] from rfl,ec];simp only[Aa,fl,if_true];rw[em]
 generalize B:s1++[O.lst ((b.ho.sticks.map K9).map D.str)]=s2 at j;have a2:s2[s1.length]?=some (.lst ((b.ho.sticks.map K9).map D.str)):=by rw[<-B];exact II _ _
 have g2:Gr s1 s2:=by rw[<-B];exact Gr.app _ _
 have J:=(g2.old _ (qax a1)).trans a1;have H:=QC J a2 (by have:=h.n;simp;omega);rw[<-BL]at H;have C:∃l,l=s2.length:=⟨_,rfl⟩
 obtain⟨l,C⟩:=C;have K:(s2++[O.lst (([LM b.ho.e]++b.ho.sticks.map K9).map D.str)])[l]?=some (.lst (([LM b.ho.e]++b.ho.sticks.map K9).map D.str)):=by rw[C];exact II _ _
 have g3:Gr st (s2++[O.lst (([LM b.ho.e]++b.ho.sticks.map K9).map D.str)]):=(g1.trans g2).trans (Gr.app _ _);have A:st.length<=l:=by rw[C];exact(g1.trans g2).len
 rw[<-C]at H;generalize s2++[O.lst (([LM b.ho.e]++b.ho.sticks.map K9).map D.str)]=s3 at H K g3;have key:=QE (W:=⟨b.ho.kinds.map Ju,[]⟩) (g:=Hq 5) (m:=YQ) (ds:=b.ho.kinds.map Ju) (ρ:=[some b.d,some (.int b.ho.e),some (.tup (b.ho.sticks.map Jb)),some KK,some (.ref l),none]) (st:=s3)
  (Inv:=λk ρ s=>(∃v,ρ=[some b.d,some (.int b.ho.e),some (.tup (b.ho.sticks.map Jb)),some KK,some (.ref l),v])/\s[l]?=some (.lst (([LM b.ho.e]++b.ho.sticks.map K9++(b.ho.kinds.take k).map MX).map D.str))/\Gr st s)
  ⟨⟨none,rfl⟩,by simpa using K,g3⟩ (λ_ _ _ _ _=>rfl) (λk d ρ s hd hI=>by
   obtain⟨⟨v,rfl⟩,G,g⟩:=hI;rw[AJ]at hd;obtain⟨q,hq,rfl⟩:=IL hd;obtain⟨F,c,r⟩:=h.k q (AD hq);have hA:(([LM b.ho.e]++b.ho.sticks.map K9++(b.ho.kinds.take k).map MX).map D.str).length<=9000:=by have:=h.n;simp;omega
   have e:=zY (a0:=some b.d) (a1:=some (.int b.ho.e)) (a2:=some (.tup (b.ho.sticks.map Jb))) (a3:=some KK) r F c G hA;obtain⟨gg,aa⟩:=W5 (o:=O.lst ((([LM b.ho.e]++b.ho.sticks.map K9++(b.ho.kinds.take k).map MX).map D.str)++[D.str (MX q)])) g (Gr.app s [O.lst ((q.map dash).map D.str)]) A (qax G);refine⟨_,s,_,_,rfl,e,⟨_,rfl⟩,?_,gg⟩;rw[aa,FT,hq];simp)
 obtain⟨ρ',s4,e4,⟨v,rfl⟩,M,g4⟩:=key;rw[Ah,CF]at M;have fw:=is _ h.f.1.1 h.f.1.2 s4;have fh:=is _ h.f.2.1 h.f.2.2 s4;have e5:mB Hh (mB Hh (mB Hh (mK (.str "floor ")) (Hi J1 (Hc (mB Hr (mB Hr (mV 0) (mK (.int 1))) (mK (.int 0))) mZ))) (mK (.str " "))) (Hi J1 (Hc (mB Hr (mB Hr (mV 0) (mK (.int 1))) (mK (.int 1))) mZ)) [some b.d,some (.int b.ho.e),some (.tup (b.ho.sticks.map Jb)),some KK,some (.ref l),v] s4=some (.str (Pf b.w b.h),s4):=by
  have Y:(("floor ":Str)).length=6:=by decide
  have Z:((" ":Str)).length=1:=by decide
  have lw:=E _ h.f.1.1 h.f.1.2;have lh:=E _ h.f.2.1 h.f.2.2;have b1:Hh (.str "floor ") (.str (Hv b.w)) s4=some (.str ("floor "++Hv b.w),s4):=add_str (by omega);have Q:Hh (.str ("floor "++Hv b.w)) (.str " ") s4=some (.str ("floor "++Hv b.w++" "),s4):=add_str (by rw[AN];omega);have T:Hh (.str ("floor "++Hv b.w++" ")) (.str (Hv b.h)) s4=some (.str (Pf b.w b.h),s4):=by rw[<-fL];refine add_str ?_;rw[AN,AN];omega
  have x0:=ZU b s4;have x1:=ZP b.w b.h s4;have x2:=ZO b.w b.h s4;generalize Hv b.w=n at *;generalize Hv b.h=m at *;simp[x0,x1,x2,fw,fh,b1,Q,T]
 have x5:=aG (i:=4) rfl M e5 (Gr.refl _) (by have:=h.n;simp;omega);obtain⟨g5,I⟩:=W5 (o:=O.lst ((([LM b.ho.e]++b.ho.sticks.map K9++b.ho.kinds.map MX).map D.str)++[D.str (Pf b.w b.h)])) g4 (Gr.refl s4) A (qax M);generalize s4.set l (O.lst ((([LM b.ho.e]++b.ho.sticks.map K9++b.ho.kinds.map MX).map D.str)++[D.str (Pf b.w b.h)]))=s5 at x5 g5 I;have N:((([LM b.ho.e]++b.ho.sticks.map K9)++b.ho.kinds.map MX).map D.str)++[D.str (Pf b.w b.h)]=(([LM b.ho.e]++b.ho.sticks.map K9)++b.ho.kinds.map MX++[Pf b.w b.h]).map D.str:=by simp
 rw[N]at I;have S:Kq ⟨b.ts.map λt=>HD (HL t),[]⟩ (Mm 3 (gC (Hq 0) (gC (Hq 1) (gC (Hq 2) Lz)))) IJ V8 (b.ts.map λt=>HD (HL t)) [none,none,none] s5=some (b.ts.map λt=>D.str (Nh t),s5):=by
  refine Qw (R:=λρ=>∃u v w,ρ=[u,v,w]) ⟨none,none,none,rfl⟩ rfl λt ht ρ hρ=>?_;obtain⟨u,v,w,rfl⟩:=hρ;obtain⟨F,c,r⟩:=h.t t ht;refine⟨[some (.int t.1),some (.int t.2.1),some (.int t.2.2)],rfl,rfl,?_,⟨_,_,_,rfl⟩⟩;have Y:(("tile ":Str)).length=5:=by decide
  have Z:((" ":Str)).length=1:=by decide
  have l1:=E _ F.1 F.2;have l2:=E _ c.1 c.2;have l3:=E _ r.1 r.2;have j1:=is _ F.1 F.2 s5;have j2:=is _ c.1 c.2 s5;have j3:=is _ r.1 r.2 s5;have S:=tL t;generalize Hv t.1=x at *;generalize Hv t.2.1=y at *;generalize Hv t.2.2=z at *;have b1:Hh (.str "tile ") (.str x) s5=some (.str ("tile "++x),s5):=add_str (by omega);have Q:Hh (.str ("tile "++x)) (.str " ") s5=some (.str ("tile "++x++" "),s5):=add_str (by rw[AN];omega);have T:Hh (.str ("tile "++x++" ")) (.str y) s5=some (.str ("tile "++x++" "++y),s5):=add_str (by rw[AN,AN];omega);have b4:Hh (.str ("tile "++x++" "++y)) (.str " ") s5=some (.str ("tile "++x++" "++y++" "),s5):=add_str (by rw[AN,AN,AN];omega);have b5:Hh (.str ("tile "++x++" "++y++" ")) (.str z) s5=some (.str (Nh t),s5):=by rw[<-S];refine add_str ?_;rw[AN,AN,AN,AN];omega
  unfold V8;simp[j1,j2,j3,b1,Q,T,b4,b5]
 have ft:fits (b.ts.map λt=>D.str (Nh t)).length=true:=Ku (by rw[Ah];have:=h.n;omega);have U:(b.ts.map λt=>D.str (Nh t))=(b.ts.map Nh).map D.str:=by simp
 have X:Jk (Jw (mB Hr (mV 0) (mK (.int 2)))) 3 [] (Mm 3 (gC (Hq 0) (gC (Hq 1) (gC (Hq 2) Lz)))) IJ V8 [some b.d,some (.int b.ho.e),some (.tup (b.ho.sticks.map Jb)),some KK,some (.ref l),v] s5=some (.ref s5.length,s5++[.lst ((b.ts.map Nh).map D.str)]):=by rw[Jz,V2 (ds:=b.ts.map λt=>HD (HL t)) (s1:=s5) (by simp[ZT];rfl)];simp only[Aa];rw[show HG [some b.d,some (.int b.ho.e),some (.tup (b.ho.sticks.map Jb)),some KK,some (.ref l),v] 3 []=[none,none,none] from rfl,S];simp only[Aa,ft,if_true];rw[U]
 have a6:(s5++[O.lst ((b.ts.map Nh).map D.str)])[l]?=_:=((Gr.app s5 [O.lst ((b.ts.map Nh).map D.str)]).old _ (qax I)).trans I;have L:=QC a6 (II s5 (.lst ((b.ts.map Nh).map D.str))) (by have:=h.n;simp;omega);rw[<-BL]at L;have eB:([LM b.ho.e]++b.ho.sticks.map K9)++b.ho.kinds.map MX++[Pf b.w b.h]++b.ts.map Nh=M7 b:=rfl;rw[eB]at L;refine⟨_,_,ID ?_,II _ _,g5.trans ((Gr.app s5 [O.lst ((b.ts.map Nh).map D.str)]).trans (Gr.app _ [O.lst ((M7 b).map D.str)]))⟩;unfold jC;refine HA (ρ1:=[some b.d,some (.int b.ho.e),some (.tup (b.ho.sticks.map Jb)),some KK,none,none]) (s1:=st) ?_ ?_
 ·rw[Kg,IE,show(mV 0 (Jc 6 [b.d]) st:Option (D×Hg))=some (b.d,st) from rfl];simp only[Aa,Ip,ZV,<-hK];rfl
 refine HA (ρ1:=[some b.d,some (.int b.ho.e),some (.tup (b.ho.sticks.map Jb)),some KK,some (.ref l),none]) (s1:=s3) ?_ ?_
 ·have el:mL (Hc (mB Hh (mK (.str "enough ")) (Hi J1 (Hc (mV 1) mZ))) mZ) [some b.d,some (.int b.ho.e),some (.tup (b.ho.sticks.map Jb)),some KK,none,none] st=some (.ref st.length,s1):=by
   rw[a];simp[i0,e1]
  rw[Kg,IE,el];simp only[Aa,j,H,NS,Ak];rfl
 refine HA (ρ1:=[some b.d,some (.int b.ho.e),some (.tup (b.ho.sticks.map Jb)),some KK,some (.ref l),v]) (s1:=s4) ?_ ?_
 ·rw[Ms,V2 (ds:=b.ho.kinds.map Ju) (s1:=s3) (by rw[Ih,<-hK];rfl)];exact e4
 refine HA x5 ?_;rw[LQ,IE,show(mV 4 [some b.d,some (.int b.ho.e),some (.tup (b.ho.sticks.map Jb)),some KK,some (.ref l),v] s5:Option (D×Hg))=some (.ref l,s5) from rfl];simp only[Aa,X,L,Ak]
def blank:(" ":Str)=⟨#[32]⟩:=by decide
def vY:("-":Str).cps.toList=[45]:=by decide
def PH(p:Str×Int):List Str:=[p.1,Hv p.2]
def Ob(q:List Str):List Str:=q.map dash
def PB(t:Tl):List Str:=[Hv t.1,Hv t.2.1,Hv t.2.2]
def M5(b:Jy):List (List Str):=[("enough":Str),Hv b.ho.e]::(b.ho.sticks.map (λp=>("stick":Str)::PH p)++(b.ho.kinds.map (λq=>("kind":Str)::Ob q)++([("floor":Str),Hv b.w,Hv b.h]::b.ts.map λt=>("tile":Str)::PB t)))
def fY(b:Jy):M7 b=(M5 b).map (Txt.join " "):=by unfold M7 M5;simp only[Ax,BL,By,Aq,List.singleton_append,Ej,BZ];rfl
structure Rt(b:Jy):Prop where
 ho:b.ho.Ok 6
 w0:1<=b.w
 w1:b.w<=12
 h0:1<=b.h
 h1:b.h<=12
 ts:KP b.w b.h b.ho.kinds.length b.ts
 len:b.ts.length<=12
def Wc(x:Str):Prop:=x.length<=8/\∀c∈x.cps.toList,33<=c/\c<=122
def Wc.int{i:Int}(h0:0<=i)(e:i<=9000):Wc (Hv i):=⟨Ar (rW h0<|by omega)<|by decide,λc a=>by have:=yD h0 c a;omega⟩
def Wc.name(h:Ig x):Wc x:=⟨by have:=h.hi;rw[AF]at this;exact this,λc a=>by have:=h.ab c a;omega⟩
def Wc.dash0:Wc ("-":Str):=⟨by decide,λc a=>by rw[vY]at a;simp at a;omega⟩
def Wc.dsh(h:Wc x):Wc (dash x):=by
 unfold dash;split
 ·exact Wc.dash0
 exact h
def Wc.empty:Wc ("":Str):=⟨by decide,λc a=>by
 have:("":Str).cps.toList=[]:=by decide
 rw[this]at a;cases a⟩
def Wc.side{ns:List Str}(hn:∀y∈ns,Ig y)(h:Pl ns x):Wc x:=by
 rcases h with rfl|h
 ·exact Wc.empty
 exact Wc.name<|hn x h
def Wc.face(h:K6 x):Wc x:=⟨by have:=h.len;rw[AF]at this;exact Ar this (by decide),λc a=>by rcases h.ab c a with h|h<;>omega⟩
def Ti:∀x∈(["enough","stick","kind","floor","tile"]:List Str),Wc x/\Ao x=true:=by
 have:∀x∈(["enough","stick","kind","floor","tile"]:List Str),(decide (x.length<=8)&&x.cps.toList.all (λc=>decide (33<=c/\c<=122))&&Ao x)=true:=by decide +kernel
 intro x a;have h:=this x a;rw[Ad,Ad]at h;refine⟨⟨of_decide_eq_true h.1.1,λc f=>of_decide_eq_true (List.all_eq_true.mp h.1.2 c f)⟩,h.2⟩
structure RowW(ws:List Str):Prop where
 ne:ws≠[]
 few:ws.length<=6
 wd:∀x∈ws,Wc x
def dE{e:Jx}{m:Int}(h:e.Ok m):∀y∈e.sticks.map (·.1),Ig y:=λy a=>by obtain⟨p,c,rfl⟩:=UV.mp a;exact h.names p c
def qU{b:Jy}(h:Rt b):∀ws∈M5 b,RowW ws:=by
 have i:=dE h.ho;have w:=h.ho.k1;intro ws hw;unfold M5 at hw;simp only[Ck,Ez,GL]at hw;rcases hw with rfl|⟨p,l,rfl⟩|⟨q,m,rfl⟩|rfl|⟨t,n,rfl⟩
 ·have x:=h.ho.e0;have y:=h.ho.e1;exact⟨by simp,by simp,all2 (Ti _<|by simp).1<|Wc.int (by omega)<|by omega⟩
 ·have s:=h.ho.str p l;exact⟨by simp,by simp[PH],Oi (Ti _<|by simp).1 (Wc.name<|h.ho.names p l)<|Wc.int (by omega)<|by omega⟩
 ·obtain⟨f,a,c,d,e,rfl,hf,o,r,hd,he⟩:=h.ho.kind q m;exact⟨by simp,by simp[Ob],LC (Ti _<|by simp).1<|LC (Wc.face hf).dsh<|LC (Wc.side i o).dsh<|Oi (Wc.side i r).dsh (Wc.side i hd).dsh (Wc.side i he).dsh⟩
 ·have a:=h.w0;have b:=h.w1;have c:=h.h0;have d:=h.h1;exact⟨by simp,by simp,Oi (Ti _<|by simp).1 (Wc.int (by omega)<|by omega)<|Wc.int (by omega)<|by omega⟩
 obtain⟨x0,z,u,A,v,E⟩:=h.ts.ok t n;have b:=h.w1;have d:=h.h1;exact⟨by simp,by simp[PB],LC (Ti _<|by simp).1<|Oi (Wc.int x0<|by omega) (Wc.int u<|by omega)<|Wc.int v<|by omega⟩
def zmX{b:Jy}(h:Rt b):(M5 b).length<=30:=by have a:=h.ho.few;have f:=h.ho.k1;have c:=h.len;unfold M5;simp;omega
def tY(h:RowW ws):(Txt.join " " ws).length<=54:=TC (z:=" ") (c:=8) (n:=6) (λx a=>(h.wd x a).1) h.few (by decide)
def feed:("\n":Str)=⟨#[10]⟩:=by decide
def Rt.p{b:Jy}(h:Rt b):b.P:=by
 refine⟨λp i=>(h.ho.names p i).str,by have:=h.ho.few;omega,λk hk=>⟨?_,Qu.str (λy l=>?_)<|h.ho.kind k hk⟩,by have:=h.ho.k1;omega,by have:=h.len;omega⟩
 ·obtain⟨f,a,b,c,d,rfl,_⟩:=h.ho.kind k hk;rfl
 obtain⟨p,i,rfl⟩:=UV.mp l;exact h.ho.names p i
def Rt.b{b:Jy}(ok:Rt b):UL b:=by
 have m:=ok.p;have x:=ok.ho.k1;have h:=dE ok.ho;refine⟨⟨by have:=ok.ho.e0;omega,by have:=ok.ho.e1;omega⟩,λp i=>?_,by have:=ok.ho.few;have:=ok.len;omega,λq l=>?_,⟨⟨by have:=ok.w0;omega,by have:=ok.w1;omega⟩,by have:=ok.h0;omega,by have:=ok.h1;omega⟩,λt n=>?_⟩
 ·have:=ok.ho.str p i;exact⟨(Wc.name<|ok.ho.names p i).1,by omega,by omega⟩
 ·obtain⟨o,r⟩:=m.kinds q l;refine⟨o,?_,r⟩;obtain⟨f,a,c,d,e,rfl,hf,s,u,hd,he⟩:=ok.ho.kind q l;exact LC (Wc.face hf).1<|LC (Wc.side h s).1<|Oi (Wc.side h u).1 (Wc.side h hd).1 (Wc.side h he).1
 obtain⟨x0,y,v,z,w,A⟩:=ok.ts.ok t n;have:=ok.w1;have:=ok.h1;exact⟨⟨x0,by omega⟩,⟨v,by omega⟩,w,by omega⟩
def Rt.of{b:Jy}{m:Int}(h:b.Ok m)(hm:m<=6):Rt b:=by obtain⟨⟨a1,a2,a,c,f,i,l,n,o,q⟩,b1,r,s,u,v,w⟩:=h;exact⟨⟨a1,a2,a,c,f,i,l,n,o,by omega⟩,b1,r,s,u,v,by omega⟩
end L2.MP.T0
namespace L2.MP.T0
open PySem L2.MP L2.MP.Hn
def QF{w:Str}{lo hi:Int}(h:Jf lo hi w=true):Hv (val w)=w:=by unfold Jf at h;exact(zmE (SL.mp h).1).symm
variable {α:Type}{word:Str}
def VB{α:Type}{word:Str}{b:List α->List Str->Bool}{v:List Str->α}{f:α->List Str}(g:∀acc c,b acc c=true->f (v c)=c):
  ∀(R:Rows) (acc l:List α) (a:Rows),HU word b v R acc=(false,l,a)->∃e,l=acc++e/\R=e.map (λx=>word::f x)++a
 |[],acc,l,a,h=>by cases h;exact⟨[],by simp,rfl⟩
 |[]::R,acc,l,a,h=>by cases h;exact⟨[],by simp,rfl⟩
 |(n::c)::R,acc,l,a,h=>by
  unfold HU at h;split at h
  ·rename_i hw
   split at h
   ·rename_i i;obtain⟨e,j,m⟩:=VB g R _ l a h;refine⟨v c::e,by rw[j];simp,?_⟩;rw[Ax,Ej,<-m,g _ _ i,hw]
   ·cases h
  ·cases h;exact⟨[],by simp,rfl⟩
variable {rr:List Str}
def zlQ{last:Option Str}(h:sB last rr=true):PH (sV rr)=rr:=by
 unfold sB at h;split at h
 ·rename_i n a;rw[Ad,Ad]at h;show [n,Hv (val a)]=[n,a]
  rw[QF h.1.2]
 ·cases h
variable {x:Str}
def vZ(h:x≠""):dash (JC x)=x:=by
 unfold JC;split
 ·rename_i e;rw[beq_iff_eq.mp e]
  decide +kernel
 unfold dash;rw[if_neg (by rw[beq_iff_eq];exact h)]
variable {ns:List Str}
def yE(h:kB ns rr=true):Ob (rr.map JC)=rr:=by unfold kB at h;have h:=(SL.mp h).1;rw[Bs,decide_eq_false_iff_not]at h;unfold Ob;rw[By];exact(CP λx l=>vZ λe=>h (e ▸ l)).trans<|DL _
def zM{w h:Int}{n:Nat}{last:Option Tl}(e:tB w h n last rr=true):PB (tV rr)=rr:=by
 unfold tB at e
 replace e:=(SL.mp e).1
 unfold NU at e;split at e
 ·rename_i a b c;rw[Ad,Ad]at e;show [Hv (val a),Hv (val b),Hv (val c)]=[a,b,c]
  rw[QF e.1.1,QF e.1.2,QF e.2]
 ·cases e
variable {b:Jy}
def gV{R:Rows}(h:parse R=.inr b):M5 b=R:=by
 unfold parse at h;split at h
 ·rename_i i rr R
  split at h
  ·rename_i he;obtain⟨rfl,he⟩:=he;have he:Hv (v0 rr 0)::[]=rr:=by
    unfold eB at he;split at he
    ·rename_i a;show [Hv (val a)]=[a]
     rw[QF he]
    ·cases he
   unfold Mz at h;split at h
   ·cases h
   ·rename_i Q;obtain⟨j,v,W⟩:=VB (f:=PH) (λacc rr o=>zlQ o) R [] _ _ (show pS R=(false,(pS R).2.1,(pS R).2.2) by rw[<-Bool.eq_false_iff.mpr Q]);rw[BZ]at v;subst v;unfold MB at h
    split at h
    ·cases h
    ·rename_i c;obtain⟨m,w,e⟩:=VB (f:=Ob) (λacc rr o=>yE o) (pS R).2.2 [] _ _ (show pK ((pS R).2.1.map (·.1)) (pS R).2.2=(false,(pK ((pS R).2.1.map (·.1)) (pS R).2.2).2.1,(pK ((pS R).2.1.map (·.1)) (pS R).2.2).2.2) by rw[<-Bool.eq_false_iff.mpr c]);rw[BZ]at w;subst w;generalize (pK ((pS R).2.1.map (·.1)) (pS R).2.2).2.1=s at *;generalize (pK ((pS R).2.1.map (·.1)) (pS R).2.2).2.2=R2 at *;generalize (pS R).2.1=ss at *;generalize (pS R).2.2=n at *;unfold LY at h
     split at h
     ·rename_i q l r
      split at h
      ·rename_i hf;obtain⟨rfl,hf⟩:=hf
       replace hf:=(SL.mp hf).2
       have g:Hv (v0 l 0)::Hv (v0 l 1)::[]=l:=by
        unfold Kt at hf;split at hf
        ·rename_i x y;have hf:=SL.mp hf;show [Hv (val x),Hv (val y)]=[x,y]
         rw[QF hf.1,QF hf.2]
        ·cases hf
       unfold LX at h;split at h
       ·cases h
       rename_i u;rw[Bool.not_eq_true,Bool.or_eq_false_iff,Bool.not_eq_false']at u;obtain⟨z,A,E⟩:=VB (f:=PB) (λacc rr o=>zM o) r [] _ _ (show pT (v0 l 0) (v0 l 1) s.length r=(false,(pT (v0 l 0) (v0 l 1) s.length r).2.1,(pT (v0 l 0) (v0 l 1) s.length r).2.2) by rw[<-u.1]);rw[BZ]at A;subst A;rw[List.isEmpty_iff.mp u.2,Am]at E;cases h;unfold M5;dsimp only;rw[W,e,<-E,g,he]
      ·cases h
     ·cases h
  ·cases h
 ·cases h
variable {z:Str}
def zkw(h:parse (rowsOf z)=.inr b):Txt.join "\n" (M7 b)=z:=by rw[fY,gV h];unfold rowsOf;rw[By,show((Txt.join " ") ∘ λx=>Txt.split x " ")=id from funext λx=>(Bc _ _).trans (C3 x " "),DL];exact(Bc _ _).trans (C3 z "\n")
def gP:(M5 b).length=b.ho.sticks.length+b.ho.kinds.length+b.ts.length+2:=by unfold M5;simp;omega
structure Read(b:Jy):Prop where
 e:1<=b.ho.e/\b.ho.e<=4
 s:∀p∈b.ho.sticks,J9 p.1=true/\1<=p.2/\p.2<=4
 k:∀q∈b.ho.kinds,kindS (b.ho.sticks.map (·.1)) q=true
 f:(1<=b.w/\b.w<=12)/\1<=b.h/\b.h<=12
 t:∀t∈b.ts,(0<=t.1/\t.1<=b.w-1)/\(0<=t.2.1/\t.2.1<=b.h-1)/\0<=t.2.2/\t.2.2<=(b.ho.kinds.length:Int)-1
def U0{α:Type}{word:Str}{b:List α->List Str->Bool}{v:List Str->α}{P:α->Prop}(c:∀acc rr,b acc rr=true->P (v rr)):
  ∀(R:Rows) (acc:List α),(∀x∈acc,P x)->∀x∈(HU word b v R acc).2.1,P x
 |[],acc,a=>a
 |[]::R,acc,a=>a
 |(f::rr)::R,acc,a=>by
  unfold HU;split
  ·split
   ·rename_i e;exact U0 c R _ λx hx=>by
     rcases SZ.mp hx with hx|hx
     ·exact a x hx
     rw[Os.mp hx];exact c _ _ e
   exact a
  exact a
def dD(h:J9 z=true):z.length<=8:=by unfold J9 at h;exact of_decide_eq_true (SL.mp (SL.mp h).2).1
def zjU{R:Rows}(h:parse R=.inr b):Read b:=by
 unfold parse at h;split at h
 ·rename_i Q rr R
  split at h
  ·rename_i he;obtain⟨rfl,he⟩:=he;have he:1<=v0 rr 0/\v0 rr 0<=4:=by
    unfold eB at he;split at he
    ·rename_i a;exact⟨(Kl he).2.1,(Kl he).2.2.1⟩
    ·cases he
   unfold Mz at h;split at h
   ·cases h
   ·have u:=U0 (word:="stick") (b:=λacc=>sB (acc.getLast?.map (·.1))) (v:=sV) (P:=λp=>J9 p.1=true/\1<=p.2/\p.2<=4) (λacc rr l=>by
     unfold sB at l;split at l
     ·rename_i n a;rw[Ad,Ad]at l;exact⟨l.1.1,(Kl l.1.2).2.1,(Kl l.1.2).2.2.1⟩
     ·cases l) R [] (λ_ s=>by cases s)
    unfold MB at h;split at h
    ·cases h
    ·have hk:=U0 (word:="kind") (b:=λ_=>kB ((pS R).2.1.map (·.1))) (v:=λr=>r.map JC) (P:=λq=>kindS ((pS R).2.1.map (·.1)) q=true) (λacc rr l=>by
      unfold kB at l;exact(SL.mp l).2) (pS R).2.2 [] (λ_ s=>by cases s)
     have u:∀p∈(pS R).2.1,J9 p.1=true/\1<=p.2/\p.2<=4:=u;have hk:∀q∈(pK ((pS R).2.1.map (·.1)) (pS R).2.2).2.1,kindS ((pS R).2.1.map (·.1)) q=true:=hk;generalize (pK ((pS R).2.1.map (·.1)) (pS R).2.2).2.1=w at *;generalize (pK ((pS R).2.1.map (·.1)) (pS R).2.2).2.2=R2 at *;generalize (pS R).2.1=ss at *;unfold LY at h;split at h
     ·rename_i W o z
      split at h
      ·rename_i hf;obtain⟨rfl,hf⟩:=hf
       replace hf:=(SL.mp hf).2
       have A:(1<=v0 o 0/\v0 o 0<=12)/\1<=v0 o 1/\v0 o 1<=12:=by
        unfold Kt at hf;split at hf
        ·rename_i x y;have hf:=SL.mp hf;exact⟨⟨(Kl hf.1).2.1,(Kl hf.1).2.2.1⟩,(Kl hf.2).2.1,(Kl hf.2).2.2.1⟩
        ·cases hf
       unfold LX at h;split at h
       ·cases h
       ·have E:=U0 (word:="tile") (b:=λacc=>tB (v0 o 0) (v0 o 1) w.length acc.getLast?) (v:=tV) (P:=λt=>(0<=t.1/\t.1<=v0 o 0-1)/\(0<=t.2.1/\t.2.1<=v0 o 1-1)/\0<=t.2.2/\t.2.2<=(w.length:Int)-1) (λacc rr l=>by
         unfold tB at l
         replace l:=(SL.mp l).1
         unfold NU at l;split at l
         ·rename_i a b c;rw[Ad,Ad]at l;exact⟨⟨(Kl l.1.1).2.1,(Kl l.1.1).2.2.1⟩,⟨(Kl l.1.2).2.1,(Kl l.1.2).2.2.1⟩,(Kl l.2).2.1,(Kl l.2).2.2.1⟩
         ·cases l) z [] (λ_ s=>by cases s)
        cases h;exact⟨he,u,hk,A,E⟩
      ·cases h
     ·cases h
  ·cases h
 ·cases h
def fX{Z:Str}(a:∀c∈Z.cps.toList,c<1114112)(h:z.cps.toList.all (λc=>decide (c∈Z.cps.toList))=true):Ao z=true:=TM λc l=>a c (of_decide_eq_true<|List.all_eq_true.mp h c l)
def bU(h:J9 z=true):Ao z=true:=by unfold J9 at h;exact fX (by decide +kernel) (SL.mp (SL.mp h).2).2
def wV{ns:List Str}(a:∀n∈ns,J9 n=true)(h:NW ns x=true):x.length<=8/\Ao x=true:=by
 unfold NW at h;rcases Bool.or_eq_true_iff.mp h with e|e
 ·rw[beq_iff_eq.mp e];exact⟨by decide,by decide +kernel⟩
 have:=a x<|of_decide_eq_true e;exact⟨dD this,bU this⟩
def Xt{ns q:List Str}(e:∀n∈ns,J9 n=true)(h:kindS ns q=true):q.length=5/\(∀x∈q,x.length<=8)/\∀x∈q,Ao x=true:=by
 unfold kindS at h;split at h
 ·rename_i f a b c d;have h:=SL.mp h;have l:∀x∈[a,b,c,d],x.length<=8/\Ao x=true:=λx hx=>wV e<|List.all_eq_true.mp h.2 x hx;have hf:=h.1;unfold Pg at hf;have hf:=SL.mp hf;have f1:f.length<=8:=Ar (of_decide_eq_true hf.1) (by decide);have f2:=fX (Z:=Rk) (by decide +kernel) hf.2;refine⟨rfl,λx hx=>?_,λx hx=>?_⟩
  ·rcases On.mp hx with rfl|hx
   ·exact f1
   exact(l x hx).1
  ·rcases On.mp hx with rfl|hx
   ·exact f2
   exact(l x hx).2
 ·cases h
def tU(h:Read b)(a:(M5 b).length<=8100):UL b:=by
 rw[gP]at a;have e:=h.e;have f:=h.f;refine⟨by omega,λp l=>?_,by omega,λq o=>Xt (λn r=>?_) (h.k q o),by omega,λt u=>?_⟩
 ·have:=h.s p l;exact⟨dD this.1,by omega,by omega⟩
 ·obtain⟨p,l,rfl⟩:=UV.mp r;exact(h.s p l).1
 have:=h.t t u;omega
open L2.MP.Ce (JN Kr Hu Ij Lo Jv JQ Ji KL Qt TF)
def sF{at_ k:Nat}{ns:List Str}{F:Option (Int×Int)}{L:Option Tl}{e:Str}{r:List Str}{q:LS}(h:IG at_ ns k F L e r=some q)(c:∀y∈ns,J9 y=true/\Wd y)(f:∀y∈r,Wd y):(∀y∈q.1,J9 y=true/\Wd y)/\q.1.length<=ns.length+1/\q.2.1<=k+1:=by
 unfold IG at h;split at h
 ·split at h
  ·cases h;exact⟨c,Bf _,Bf _⟩
  ·cases h
 ·split at h
  ·split at h
   ·rename_i l;cases h;refine⟨λy hy=>?_,by simp,Bf _⟩
    rcases SZ.mp hy with hy|hy
    ·exact c y hy
    ·cases Os.mp hy
     by_cases h2:r.length=2
     ·obtain⟨m,a,rfl⟩:=two h2;have l:(J9 m&&Jf 1 4 a&&P7 ns.getLast? m)=true:=l;rw[Ad,Ad]at l;exact⟨l.1.1,f m<|by simp⟩
     rw[U1 h2]at l;cases l
   ·cases h
  ·split at h
   ·split at h
    ·cases h;exact⟨c,Bf _,Ai _⟩
    ·cases h
   ·split at h
    ·split at h
     ·cases h;exact⟨c,Bf _,Bf _⟩
     ·cases h
    ·split at h
     ·cases h
     ·split at h
      ·split at h
       ·cases h;exact⟨c,Bf _,Bf _⟩
       ·cases h
      ·cases h
def pr(p:Str×Nat):D:=.tup [.int (p.2:Int),.str p.1]
def aF(res:Option (Fl×Hg))(s:Hg)(T RS:Option D):Nat⊕(Nat×Option (Int×Int))->Prop
 |.inl j=>∃s',res=some (.rt (.int (j:Int)),s')/\Gr s s'
 |.inr p=>∃s' nm k fl a4 a a7 a8 a9,res=some (.nx [T,nm,k,some fl,a4,RS,a,a7,a8,a9],s')/\Gr s s'/\Ll s' p.2 fl
section
variable {T RS:Option D}{W:Wk}
def bQ:∀(ls:List Str) (at_ k:Nat) (ns:List Str) (F:Option (Int×Int)) (L:Option Tl) (nm:Nat) (fl:D) (c a7 a8 a9:Option D) (s:Hg),(∀s',Gr s s'->walked W s'=true)->(∀x∈ls,IU x 8000)->s[nm]?=some (.lst<|ns.map D.str)->(∀y∈ns,J9 y=true/\Wd y)->Ll s F fl->k<=at_->ns.length<=at_->at_+ls.length<=9000 ->
  aF (Lq W (Mm 2<|gC (Hq 6)<|gC (Hq 7)<|Lz) T5 ((ls.zipIdx at_).map pr) [T,some (.ref nm),some (.int (k:Int)),some fl,some (Ky L),RS,c,a7,a8,a9] s) s T RS (IT (ls.map λx=>Txt.split x " ") at_ ns k F L)
 |[],at_,k,ns,F,L,nm,fl,c,a7,a8,a9,s,e,_,G,i,m,_,_,_=>⟨s,some<|.ref nm,some<|.int (k:Int),fl,some<|Ky L,c,a7,a8,a9,by unfold Lq;rw[List.zipIdx_nil,B8];simp only[e s (Gr.refl s),if_true],Gr.refl _,m⟩
 |x::ls,at_,k,ns,F,L,nm,fl,c,a7,a8,a9,s,e,H,G,i,m,hk,hl,M=>by
  obtain⟨n,r,f⟩:∃n r,Txt.split x " "=n::r:=by
   cases h:Txt.split x " " with
   |nil=>exact absurd h<|TL _ _
   |cons a b=>exact⟨a,b,rfl⟩
  have N:at_+(ls.length+1)<=9000:=M;have I:=H x Al;have t:=wM (T:=T) (RS:=RS) (a8:=a8) (a9:=a9) (at_:=at_) (k:=k) (L:=L) I f G i m (by omega) (by omega);have J:Mm 2 (gC (Hq 6)<|gC (Hq 7)<|Lz) (pr (x,at_)) [T,some (.ref nm),some (.int (k:Int)),some fl,some (Ky L),RS,c,a7,a8,a9] s=some ([T,some (.ref nm),some (.int (k:Int)),some fl,some (Ky L),RS,some (.int (at_:Int)),some (.str x),a8,a9],s):=rfl;have w:=e s<|Gr.refl s;rw[Ax];show aF (Lq W _ _ (pr (x,at_)::(ls.zipIdx<|at_+1).map pr) _ s) s T RS _
  cases l:IG at_ ns k F L n r with
  |none=>
   rw[l]at t;obtain⟨s',u,g⟩:=t;rw[QJ (by rw[f];exact l)];exact⟨s',sE w J u,g⟩
  |some q=>
   rw[l]at t;obtain⟨s',v,z,S,U,u,g,A,E⟩:=t;obtain⟨X,o2,o3⟩:=sF l i (λy Q=>(I.part (y:=" ") (by rw[f];exact Aj _ Q)).up (by decide));rw[RU (by rw[f];exact l),sD w J u];have K:=bQ ls (at_+1) q.2.1 q.1 q.2.2.1 q.2.2.2 v z (some<|.int (at_:Int)) (some<|.str x) S U s' (λB Y=>e B (g.trans Y)) (λy Q=>H y (Aj _ Q)) A X E (by omega) (by omega) (by omega);generalize IT (ls.map λx=>Txt.split x " ") (at_+1) q.1 q.2.1 q.2.2.1 q.2.2.2=o at *
   cases o with
   |inl j=>
    obtain⟨s2,C,g3⟩:=K;exact⟨s2,C,g.trans g3⟩
   |inr p=>
    obtain⟨s2,Z,m2,f1,m4,m6,m7,m8,m9,C,g3,h3⟩:=K;exact⟨s2,Z,m2,f1,m4,m6,m7,m8,m9,C,g.trans g3,h3⟩
end
def UQ:Option Nat->D
 |none=>.non
 |some n=>.int (n:Int)
variable {st:Hg}
def zB(h:IU z 8000):∃st',T7 [.str z] st=some (UQ (told<|rowsOf z),st')/\Gr st st':=by
 have G:=RW (z:=z) (y:="\n") (s:=st++[.lst []]) (by decide) (by have:=h.len;omega);have H:∀x∈Txt.split z "\n",IU x 8000:=λx I=>h.part I;have hl:=VA h;unfold rowsOf told;generalize Txt.split z "\n"=ls at *;have J:=Gr.app st [.lst []];have n:=II st<|.lst [];generalize Q:st++[O.lst []]=s0 at *;have g1:=Gr.app s0 [.lst (ls.map D.str)];have c:=(g1.old _<|qax n).trans n;have u:=II s0<|.lst<|ls.map D.str;generalize K:s0++[O.lst (ls.map D.str)]=s1 at *;have ll:=M6 u;have key:=bQ (T:=some (.str z)) (RS:=some (.ref s0.length)) (W:=⟨(ls.zipIdx 0).map pr,[(s0.length,ls.map D.str)]⟩) ls 0 0 [] none none st.length .non none none none none s1 (λl g=>R8 ((g.old _<|qax u).trans u)) H c (λy L=>by cases L) rfl (Ai _) (Ai _) (by omega);have B:Sw (mV 5) [some (.str z),some (.ref st.length),some (.int 0),some .non,some .non,some (.ref s0.length),none,none,none,none] s1=some (⟨(ls.zipIdx 0).map pr,[(s0.length,ls.map D.str)]⟩,s1):=by
  have M:Iw s1 s0.length=some (ls.map D.str):=by unfold Iw;rw[u]
  rw[sI,Ih];simp only[Af,Az,Aa,WH,QX,M,Ak,L2.MP.Ce.Np];rfl
 have start:∀res l,mS (mF (Sw<|mV 5) (Mm 2<|gC (Hq 6)<|gC (Hq 7)<|Lz)<|T5) (mR<|MD (mT<|mB JD (mV 3)<|mK .non) (Hi Ho<|Hc (mV 5)<|mZ)<|mK .non) [some (.str z),some (.ref st.length),some (.int 0),some .non,some .non,some (.ref s0.length),none,none,none,none] s1=some (.rt res,l)->T7 [.str z] st=some (res,l):=by
  intro res l N;refine ID ?_;unfold jA;refine HA (ρ1:=[some (.str z),some (.ref st.length),some (.int 0),some .non,some .non,none,none,none,none,none]) (s1:=s0) ?_<|HA (s1:=s1) ?_ N
  ·show Hm _ _ [some (.str z),none,none,none,none,none,none,none,none,none] st=_;rw[<-Q];rfl
  rw[Kg,Qb];simp only[Ih,Af,Aa,IH,Ip,IM,G];rfl
 have eL:∀(a:Nat) (C:Option (Int×Int)),IT (ls.map λx=>Txt.split x " ") 0 [] 0 none none=.inr (a,C)->a=0+(ls.map λx=>Txt.split x " ").length:=λa C=>dP;have v:=J.trans g1;generalize IT (ls.map λx=>Txt.split x " ") 0 [] 0 none none=o at *;cases o with
 |inl j=>
  obtain⟨l,e,A⟩:=key;refine⟨l,start _ _<|JT ?_,v.trans A⟩;rw[Ms,B];exact e
 |inr p=>
  obtain⟨a,F⟩:=p;obtain⟨l,nm,k,E,S,U,X,Y,Z,e,A,hF⟩:=key;have f:=(A.old _<|qax u).trans u;have w:=M6 f;have i:=eL _ _ rfl;have m:=hF.non;have r:=Wo (d:=E) (s:=l);rw[m]at r;refine⟨l,start _ _<|HA (s1:=l) (ρ1:=[some (.str z),nm,k,some E,S,some (.ref s0.length),U,X,Y,Z]) (by rw[Ms,B];exact e) ?_,v.trans A⟩;rw[Ah]at w;have i:a=ls.length:=by simpa using i
  subst i;cases F with
  |none=>
   show _=some (Fl.rt (.int (ls.length:Int)),l);have r:JD E .non l=some (.bl true,l):=r;simp[RD,r,w]
  |some q=>
   show _=some (Fl.rt .non,l);have r:JD E .non l=some (.bl false,l):=r;simp[RD,r]
def ZX:Mb (J0 NP) "NoText" [.fn "NoGrowing",.fn "NoPlace",.fn "Taken",.fn "NoKind",.fn "NotHeld",.fn "NothingBack"]=some false:=by decide +kernel
def ZW:Mb (J0 NP) "NoText" [.fn "NotSure",.fn "TooMany",.fn "NotFramed",.fn "NoLine"]=some false:=by decide +kernel
def Zy:J0 NP "NoText" "NoText"=some true:=by decide +kernel
section
variable {c y f:Str} {o:Option (Str×Int)} {b:Bool}{ys:List D}{n:Int}{m:ME}{ρ:HX}{s:Hg}
def rR(h:J0 NP c y=some b):Qo (J0 NP) [.er true c o,.fn y] s=some (.bl b,s):=by show(J0 NP c y).map _=_;rw[h];rfl
def bK(h:Mb (J0 NP) c (.fn y::ys)=some b):Qo (J0 NP) [.er true c o,.tup (.fn y::ys)] s=some (.bl b,s):=by show(Mb (J0 NP) c (.fn y::ys)).map _=_;rw[h];rfl
def kD(hm:m ρ s=some (.er true c (some (f,n)),s)):Nt (Um c) f m ρ s=some (.int n,s):=by unfold Nt;rw[hm];simp[Um]
end
def Qr:Nat⊕Jy->D
 |.inl n=>.tup [.str "row",.int (n:Int)]
 |.inr b=>.tup [.str "bed",b.d]
def yG{d:D}{s1:Hg}{o:Nat⊕Jy}(h:R0 [d] st=some (LW o,s1)):QQ [d] st=some (Qr o,s1):=by
 refine ID ?_;unfold iA;refine HA (ρ1:=[some d,some .non,none,none]) (s1:=st) rfl ?_;cases o with
 |inr b=>
  refine HA (ρ1:=[some d,some (.tup [.str "bed",b.d]),none,none]) (s1:=s1) ?_ rfl;unfold Sx;show(R0 [d] st).bind _=_;rw[h];rfl
 |inl n=>
  have l:=λs:Hg=>bK (o:=some ("line",(n:Int))) (s:=s) ZX;have u:=λs:Hg=>bK (o:=some ("line",(n:Int))) (s:=s) ZW;have v:=λs:Hg=>rR (o:=some ("line",(n:Int))) (s:=s) Zy;have w:Nt (Um "NoText") "line" (mV 2) [some d,some .non,some (.er true "NoText"<|some ("line",(n:Int))),some (.bl false)] s1=some (.int n,s1):=kD rfl;refine HA (ρ1:=[some d,some (.tup [.str "row",.int (n:Int)]),none,some (.bl false)]) (s1:=s1) ?_ rfl;unfold Sx;show(R0 [d] st).bind _=_;rw[h];simp only[Aa,LW,LA];show(mS _ _ [some d,some .non,some (.er true "NoText"<|some ("line",(n:Int))),none] s1).map _=_;rw[HA (ρ1:=[some d,some .non,some (.er true "NoText"<|some ("line",(n:Int))),some (.bl false)]) (s1:=s1) (by simp[l]) (HA (ρ1:=[some d,some .non,some (.er true "NoText"<|some ("line",(n:Int))),some (.bl false)]) (s1:=s1) (r:=some (.nx [some d,some (.tup [.str "row",.int (n:Int)]),some (.er true "NoText"<|some ("line",(n:Int))),some (.bl false)],s1)) (by simp[JI,u])<|by simp[RD,v,w])];rfl
def gO(h:IU z 8000):∃st',QQ [.str z] st=some (Qr (parse<|rowsOf z),st')/\Gr st st':=by obtain⟨s1,e,g⟩:=tR (st:=st) h;exact⟨s1,yG e,g⟩
end L2.MP.T0
namespace L2.MP.T0
open PySem L2.MP L2.MP.Hn
open L2.MP.Ce (OQ JN Kr Hu Ij Lo Jv JQ Ji KL)
def O7:Str:=" !\"#$&'()*+,-./0123456789:;<=>?@ABCDEFGHIJKLMNOPQRSTUVWXYZ[\\]^_`abcdefghijklmnopqrstuvwxyz{|}~"
def pH:∀c∈O7.cps.toList,c<1114112:=by decide +kernel
def Vr:O7.length=94:=by decide +kernel
def vJ{c:Nat}(h:c<1114112):IU ⟨#[c]⟩ 1:=⟨Ai _,λx l=>by
 have:x=c:=by simpa using l
 rw[this];exact h⟩
variable {n:Nat}{st:Hg}
def wW(h:IC n st):∃z st',VY [.ref n] st=some (.str z,st')/\IU z 1/\IC n st'/\Fr n st st':=by
 obtain⟨r,s1,o,s,x,u,f1,_⟩:=KZ (many:=94) h (by decide) (by decide);have v:Ho [.str O7] st=some (.int 94,st):=by have:=len_str (z:=O7) (st:=st) (by rw[Vr];decide);rw[Vr]at this;exact this
 have l:r.toNat<O7.cps.toList.length:=by
  have:O7.cps.toList.length=94:=by rw[<-Vr];rfl
  omega
 have w:=Ap l;have ex:Hr (.str O7) (.int r) s1=some (.str ⟨#[O7.cps.toList[r.toNat]]⟩,s1):=RM (by rw[Vr];decide) s (by rw[<-BY];exact w);refine⟨_,s1,ID ?_,vJ<|pH _<|CD l,u,f1⟩;unfold iC
 change mS (Hm (mK<|.str O7)<|Hq 1) _ _ _=_
 generalize O7=Z at *;generalize (Z.cps.toList[r.toNat])=c at *;refine HA (ρ1:=[some (.ref n),some (.str Z)]) (s1:=st) rfl ?_;refine KL ?_;simp[v,o,ex]
variable {z:Str}{m:Nat}{lo hi:Option Int}
def IU.slice{z:Str}{m:Nat}{lo hi:Option Int}(h:IU z m):IU (Txt.slice z lo hi) m:=⟨by
  have:=L2.MP.Ce.Nn (z:=z) (lo:=lo) (hi:=hi);rw[AF,AF]at this;exact Ar this h.len,λc l=>h.ok c (L2.MP.Ce.Nm l)⟩
variable {a b:Str}{k:Nat}
def IU.app(e:IU a m)(f:IU b k):IU (a++b) (m+k):=⟨by
  rw[AN];exact Gy e.len f.len,λc l=>by
  rw[PyProof.Rows.cps_toList_append]at l;rcases SZ.mp l with x|x
  ·exact e.ok c x
  exact f.ok c x⟩
variable {s:Hg}
def Xb(h:z.length<=9000):Ql (.str z) lo hi s=some (.str (Txt.slice z lo hi),s):=by have:fits z.length=true:=Ku (by omega);unfold Ql NM PF QW Wj;simp only[this,if_true,Kz,JH]
def Vb(c:IU a m)(e:IU b k)(h:m+k<=10000):Hh (.str a) (.str b) s=some (.str (a++b),s):=add_str (Ar (Gy c.len e.len) h)
variable {t:MT}{B:MS}{ρ:HX}{d:D}
def Vs{m:ME}{s1:Hg}(h:t ρ s=some (true,s))(e:m ρ s=some (d,s1)):mS (HS t (mR m)<|Ia) B ρ s=some (.rt d,s1):=by simp[mS,HS,mR,h,e]
def NK{A:MS}{r:Option (Fl×Hg)}(h:t ρ s=some (false,s))(k:B ρ s=r):mS (HS t A<|Ia) B ρ s=r:=by rw[<-k];simp[mS,HS,Ia,h]
def SOM:List D:=[.str " ",.str "\n",.str "0",.str "-",.str ",",.str "1",.str "a"]
def pM(h:d∈SOM):∃v,d=.str v/\IU v 1:=by simp[SOM]at h;rcases h with rfl|rfl|rfl|rfl|rfl|rfl|rfl<;>exact⟨_,rfl,by decide,by decide +kernel⟩
def zhq(J:IC n st)(h:IU z m)(hm:m<=4000):∃y st',Y0 [.ref n,.str z] st=some (.str y,st')/\IU y (2*m+60)/\IC n st'/\Fr n st st':=by
 have hl:=h.len;have K:=len_str (z:=z) (st:=st) (by omega);obtain⟨r,s1,L,r0,r1,M,f1,_⟩:=KZ (many:=(z.length:Int)+1) J (by omega) (by omega);obtain⟨w,s2,N,w0,w1,p2,f2,_⟩:=KZ (many:=7) M (by decide) (by decide);obtain⟨x,s3,S,T,U,X⟩:=wW p2;obtain⟨d,s4,j,hd,Y,f4⟩:=Pm SOM U (by decide) (by decide);obtain⟨v,rfl,Z⟩:=pM hd;obtain⟨d,s5,e5,l,E,f5⟩:=Pm [.str x,.str v] Y (by simp) (by simp);obtain⟨u,rfl,o⟩:∃u,d=.str u/\IU u 1:=by
  simp at l;rcases l with rfl|rfl
  ·exact⟨_,rfl,T⟩
  exact⟨_,rfl,Z⟩
 have F:=(((f1.trans f2).trans X).trans f4).trans f5;have Q:K3 2 3 (Hc (Hi Js<|Hc (mV 0)<|Hc (mB Hh (Hi Ho<|Hc (mV 1)<|mZ)<|mK<|.int 1)<|mZ)<|Hc (Hi Js<|Hc (mV 0)<|Hc (mK<|.int 7)<|mZ)<|mZ) (Jc 5 [.ref n,.str z]) st=some (.nx [some (.ref n),some (.str z),some (.int r),some (.int w),none],s2):=by have:Hh (.int (z.length:Int)) (.int 1) st=some (.int ((z.length:Int)+1),st):=rfl;simp[Jc,K,L,N,this,K3]
 have W:Hm (Hi KO<|Hc (mV 0)<|Hc (mL<|Hc (Hi VY<|Hc (mV 0)<|mZ)<|Hc (Hi KO<|Hc (mV 0)<|Hc (mL<|Hc (mK<|.str " ")<|Hc (mK<|.str "\n")<|Hc (mK<|.str "0")<|Hc (mK<|.str "-")<|Hc (mK<|.str ",")<|Hc (mK<|.str "1")<|Hc (mK<|.str "a")<|mZ)<|mZ)<|mZ)<|mZ) (Hq 4) [some (.ref n),some (.str z),some (.int r),some (.int w),none] s2=some (.nx [some (.ref n),some (.str z),some (.int r),some (.int w),some (.str u)],s5):=by unfold SOM at j;simp[S,j,e5]
 have t:∀c:Int,mT (mB Iv (mV 3)<|mK<|.int c) [some (.ref n),some (.str z),some (.int r),some (.int w),some (.str u)] s5=some (decide (w<c),s5):=λc=>by simp[Iv,HN]
 have e:=Xb (z:=z) (lo:=none) (hi:=some r) (s:=s5) (by omega);have sB:=Xb (z:=z) (lo:=some r) (hi:=none) (s:=s5) (by omega);have q:=Xb (z:=z) (lo:=some (r+1)) (hi:=none) (s:=s5) (by omega);have G:Hh (.int r) (.int 1) s5=some (.int (r+1),s5):=rfl;have a:=h.slice (lo:=none) (hi:=some r);have H:=h.slice (lo:=some r) (hi:=none);have f:=h.slice (lo:=some (r+1)) (hi:=none);generalize Txt.slice z none (some r)=A at *;generalize Txt.slice z (some r) none=B at *;generalize Txt.slice z (some<|r+1) none=C at *;have a1:=Vb (s:=s5) a o (by omega);have a2:=Vb (s:=s5) (a.app o) H (by omega);have a3:=Vb (s:=s5) (a.app o) f (by omega);have a4:=Vb (s:=s5) a f<|by omega
 by_cases g:w<2
 ·exact⟨_,s5,ID<|HA Q<|HA W<|Vs ((t 2).trans<|by rw[decide_eq_true g])<|by simp[OQ,K8,KQ,e,sB,a1,a2],((a.app o).app H).up<|by omega,E,F⟩
 by_cases i:w<4
 ·exact⟨_,s5,ID<|HA Q<|HA W<|NK ((t 2).trans<|by rw[decide_eq_false g])<|Vs ((t 4).trans<|by rw[decide_eq_true i])<|by simp[OQ,K8,KQ,e,q,G,a4],(a.app f).up<|by omega,E,F⟩
 by_cases I:w<6
 ·exact⟨_,s5,ID<|HA Q<|HA W<|NK ((t 2).trans<|by rw[decide_eq_false g])<|NK ((t 4).trans<|by rw[decide_eq_false i])<|Vs ((t 6).trans<|by rw[decide_eq_true I])<|by simp[OQ,K8,KQ,e,q,G,a1,a3],((a.app o).app f).up<|by omega,E,F⟩
 exact⟨_,s5,ID<|HA Q<|HA W<|NK ((t 2).trans<|by rw[decide_eq_false g])<|NK ((t 4).trans<|by rw[decide_eq_false i])<|NK ((t 6).trans<|by rw[decide_eq_false I])<|KL<|by simp[OQ,K8,KQ,e],a.up<|by omega,E,F⟩
end L2.MP.T0
namespace L2.MP.T0
open PySem L2.MP L2.MP.Hn
open L2.MP.Ce (JN Kr Hu Ij Lo Jv JQ Ji KL Qt TF OQ)
def wJ{rss:Rows}(h:∀ws∈rss,RowW ws)(a:rss.length<=31):IU (Txt.join "\n"<|rss.map<|Txt.join " ") 1705:=by
 refine⟨Ar (TC (z:="\n") (c:=54) (n:=31) (λx r=>?_) (by simpa using a)<|by decide)<|by decide,λc l=>?_⟩
 ·obtain⟨ws,o,rfl⟩:=UV.mp r;exact tY<|h ws o
 ·have e:Txt.join "\n" (rss.map<|Txt.join " ")=Ee ⟨#[10]⟩ (rss.map<|Txt.join " "):=by rw[<-feed];exact Bc _ _
  rw[e,CA]at l;rcases l with⟨x,r,l⟩|⟨_,l⟩
  ·obtain⟨ws,o,rfl⟩:=UV.mp r;have s:Txt.join " " ws=Ee ⟨#[32]⟩ ws:=by rw[<-blank];exact Bc _ _
   rw[s,CA]at l;rcases l with⟨w,hw,l⟩|⟨_,l⟩
   ·have:=((h ws o).wd w hw).2 _ l;omega
   ·have:c=32:=by simpa using l
    omega
  ·have:c=10:=by simpa using l
   omega
def oU{ds:List D}{m:Nat}(h:m<=ds.length):cutD ds none (some (m:Int))=ds.take m:=by
 unfold cutD;have l:HT.HR ds.length 0 none=0:=rfl;have o:HT.HR ds.length ds.length (some (m:Int))=m:=by
  unfold HT.HR;have:¬(m:Int)<0:=by omega
  simp[this];omega
 rw[l,o];simp
def kO{l m:Nat}{ds:List D}{s:Hg}(c:s[l]?=some (.lst ds))(h:m<=ds.length):Ql (.ref l) none (some (m:Int)) s=some (.ref s.length,s++[.lst (ds.take m)]):=by have:=Vd (a:=none) (b:=some (m:Int)) c;rw[oU h]at this;unfold Ql;rw[this,JH]
def qT{n:Int}{s:Hg}:IP (.tup [.str "row",.int n]) (.tup [.str "row",.int n]) s=some (.bl false,s):=Xp (n:=2) ⟨by show 2<=10000;decide,all2 (show Ao ("row":Str)=true by decide +kernel) trivial⟩ (by decide)
end L2.MP.T0
namespace L2.MP.T0
open PySem L2.MP L2.MP.Hn
open L2.MP.Ce (OQ JN Kr Hu Ij Lo Jv JQ Ji KL)
def Lm(x:Str):Prop:=∀c∈x.cps.toList,c<1114112
def sz(ls:List Str):Nat:=(ls.map λx=>x.length+1).sum
def Mh(a b:List Str):sz (a++b)=sz a+sz b:=by simp[sz]
def cU(x:Str)(a:List Str):sz (x::a)=x.length+1+sz a:=by simp[sz]
def Te:∀a:List Str,sz a=(a.map λx=>x.length).sum+a.length
 |[]=>rfl
 |x::a=>by rw[cU,Te a];simp;omega
def Qa(a:List Str):a.length<=sz a:=by rw[Te];omega
def aZ(a:List Str)(i:Nat):sz (a.take i)+sz (a.drop i)=sz a:=by rw[<-Mh,E3]
variable {a:List Str}{i:Nat}{x:Str}
def bA(h:a[i]?=some x):sz (a.drop i)=x.length+1+sz (a.drop<|i+1):=by obtain⟨hi,e⟩:=KM.mp h;rw[CS hi,e,cU]
variable {z:Str}
def bN(c:z.length=1)(h:a≠[]):(Txt.join z a).length+1=sz a:=by have e:(Txt.join z a).length=_:=Gq z a;have:0<a.length:=List.length_pos_iff.mpr h;rw[e,Te,c];omega
def join_le(c:z.length=1):(Txt.join z a).length<=sz a:=by
 by_cases h:a=[]
 ·subst h;have e:(Txt.join z []).length=_:=Gq z [];rw[e];simp
 have:=bN c h;omega
variable {y:Str}
def eF(c:y.length=1):sz (Txt.split z y)=z.length+1:=by have e:Txt.join y (Txt.split z y)=z:=(Bc _ _).trans<|C3 z y;rw[<-bN c (TL z y),e]
def Vx{a:List Str}(f:Lm z)(h:∀x∈a,Lm x):Lm (Txt.join z a):=λc i=>by
 have e:Txt.join z a=Ee z a:=Bc _ _;rw[e,CA]at i;rcases i with⟨x,l,i⟩|⟨_,i⟩
 ·exact h x l c i
 exact f c i
variable {s0 s:Hg}{xs:List Str}{l k m:Nat}{ds:List D}
section
variable {ρ:HX}{e e1 e2:ME}{mm:MA}{ys:List Str}{j:Nat}
def LE(ρ:HX)(s0:Hg)(e:ME)(xs:List Str):Prop:=∀s,Gr s0 s->∃a i,e ρ s=some (.ref a,i)/\i[a]?=some (.lst<|xs.map D.str)/\Gr s i
def TE(ρ:HX)(s0:Hg)(e:ME)(x:Str):Prop:=∀s,Gr s0 s->∃a,e ρ s=some (.str x,a)/\Gr s a
def AE(ρ:HX)(s0:Hg)(mm:MA)(xs:List Str):Prop:=∀s,Gr s0 s->∃a,mm ρ s=some (xs.map D.str,a)/\Gr s a
def TE.con:TE ρ s0 (mK<|.str x) x:=λs _=>⟨s,rfl,Gr.refl _⟩
def TE.var(h:ρ[i]?=some (some<|.str x)):TE ρ s0 (mV i) x:=λs _=>⟨s,by rw[Ih,h],Gr.refl _⟩
def TE.ix(h:ρ[i]?=some (some<|.ref l))(f:ρ[j]?=some (some<|.int (k:Int)))(c:s0[l]?=some (.lst<|xs.map D.str))(n:xs[k]?=some x):TE ρ s0 (mB Hr (mV i)<|mV j) x:=λs g=>⟨s,by
 have e:=Mo (k:=(k:Int)) (x:=.str x) ((g.old _<|qax c).trans c) (by omega) (by rw[show((k:Int)).toNat=k from rfl,AJ,n];rfl);rw[IE,Ih,h];simp only[Aa,Ih,f,e],Gr.refl _⟩
def TE.ix0(h:ρ[i]?=some (some<|.ref l))(c:s0[l]?=some (.lst<|xs.map D.str))(f:xs[0]?=some x):TE ρ s0 (mB Hr (mV i)<|mK<|.int 0) x:=λs g=>⟨s,by
 have e:=Mo (k:=0) (x:=.str x) ((g.old _<|qax c).trans c) (by omega) (by rw[show((0:Int)).toNat=0 from rfl,AJ,f];rfl);rw[IE,Ih,h];simp only[Aa,Ip,e],Gr.refl _⟩
def TE.ixL(h:ρ[i]?=some (some<|.ref l))(c:s0[l]?=some (.lst<|xs.map D.str))(f:xs.getLast?=some x):TE ρ s0 (mB Hr (mV i)<|Ko<|mK<|.int 1) x:=λs g=>⟨s,by
 have e:=U2 (x:=.str x) ((g.old _<|qax c).trans c) (by rw[FY,f];rfl);rw[IE,Ih,h];simp only[Aa,show Ko (mK<|.int 1) ρ s=some (.int (-1),s) from rfl,e],Gr.refl _⟩
def TE.mul{k:Int}(h:∀s:Hg,HZ (.str x) (.int k) s=some (.str y,s)):TE ρ s0 (mB HZ (mK<|.str x)<|mK<|.int k) y:=λs _=>⟨s,by
 rw[IE,Ip];simp only[Aa,Ip];exact h s,Gr.refl _⟩
def aE{k:Int}(h:(decide (-(2^62)<=k)&&decide (k<2^20)&&decide (x.length*k.toNat<=sizeLine)&&decide ((IW x k).length<=sizeLine))=true)(s:Hg):HZ (.str x) (.int k) s=some (.str (IW x k),s):=by
 have e:Pb (.str x) (.int k) s=some (.str (IW x k),s):=by unfold Pb;exact if_pos h
 unfold HZ JG;rw[show KD (.str x) (.int k) s=none from rfl,e,Kz]
def AE.nil:AE ρ s0 mZ []:=λs _=>⟨s,rfl,Gr.refl _⟩
def AE.cons(c:TE ρ s0 e x)(f:AE ρ s0 mm xs):AE ρ s0 (Hc e mm) (x::xs):=λs g=>by obtain⟨s1,a,g1⟩:=c s g;obtain⟨s2,i,g2⟩:=f s1<|g.trans g1;refine⟨s2,?_,g1.trans g2⟩;rw[IH,a];simp only[Aa,i];rfl
def LE.lst(h:AE ρ s0 mm xs)(c:xs.length<=100):LE ρ s0 (mL mm) xs:=λs g=>by obtain⟨s1,q,g1⟩:=h s g;refine⟨_,_,?_,II _ _,g1.trans<|Gr.app _ _⟩;rw[NX,q];simp only[Aa];rw[if_pos (Ku (by rw[Ah];omega))]
def LE.var(h:ρ[i]?=some (some<|.ref l))(c:s0[l]?=some (.lst<|xs.map D.str)):LE ρ s0 (mV i) xs:=λs g=>⟨l,s,by rw[Ih,h],(g.old _<|qax c).trans c,Gr.refl _⟩
def LE.add(c:LE ρ s0 e1 xs)(f:LE ρ s0 e2 ys)(h:xs.length+ys.length<=10000):LE ρ s0 (mB Hh e1 e2) (xs++ys):=λs g=>by obtain⟨a,s1,i,a1,g1⟩:=c s g;obtain⟨b,s2,j,l,g2⟩:=f s1<|g.trans g1;have a2:=(g2.old _<|qax a1).trans a1;have e:=QC a2 l (by rw[Ah,Ah];exact h);rw[<-BL]at e;refine⟨_,_,?_,II _ _,(g1.trans g2).trans<|Gr.app _ _⟩;rw[IE,i];simp only[Aa,j,e]
def TE.join(h:LE ρ s0 e xs)(c:x.length<=1)(f:sz xs<=100000):TE ρ s0 (Mf (mK<|.str x)<|Hc e mZ) (Txt.join x xs):=λs g=>by obtain⟨a,s1,i,a1,g1⟩:=h s g;have l:=Te xs;have:xs.length*x.length<=xs.length*1:=DJ _ c;have j:=Xs (z:=x) a1 (by show(xs.map λx=>x.length).sum+_<=_;omega);refine⟨s1,?_,g1⟩;rw[JU,Ip];simp only[Aa,IH,i,IM,j]
def vW(h:m<=ds.length):cutD ds (some (m:Int)) none=ds.drop m:=by
 unfold cutD;have a:HT.HR ds.length 0 (some (m:Int))=m:=by
  unfold HT.HR;have:¬(m:Int)<0:=by omega
  simp[this];omega
 have e:HT.HR ds.length ds.length none=ds.length:=rfl;rw[a,e];exact List.take_of_length_le (by rw[BE];omega)
def cE(c:s[l]?=some (.lst ds))(h:m<=ds.length):Ql (.ref l) (some (m:Int)) none s=some (.ref s.length,s++[.lst (ds.drop m)]):=by have:=Vd (a:=some (m:Int)) (b:=none) c;rw[vW h]at this;unfold Ql;rw[this,JH]
section
variable (h:ρ[i]?=some (some (.ref l))) (hj:ρ[j]?=some (some (.int (k:Int)))) (ha:s0[l]?=some (.lst (xs.map D.str)))
include h hj ha
theorem LE.to(hk:k<=xs.length):LE ρ s0 (I0 (mV i) IS<|Iq<|mV j) (xs.take k):=λs g=>by have e:=kO (m:=k) ((g.old _<|qax ha).trans ha) (by rw[Ah];exact hk);rw[<-GD]at e;refine⟨_,_,?_,II _ _,Gr.app _ _⟩;simp only[OQ,Ih,h,hj,K8,KQ,Aa,e]
theorem LE.fr(hk:k<=xs.length):LE ρ s0 (I0 (mV i) (Iq<|mV j)<|IS) (xs.drop k):=λs g=>by have e:=cE (m:=k) ((g.old _<|qax ha).trans ha) (by rw[Ah];exact hk);rw[<-Fi]at e;refine⟨_,_,?_,II _ _,Gr.app _ _⟩;simp only[OQ,Ih,h,hj,K8,KQ,Aa,e]
theorem LE.fr1(hk:k<xs.length):LE ρ s0 (I0 (mV i) (Iq<|mB Hh (mV j)<|mK<|.int 1)<|IS) (xs.drop<|k+1):=λs g=>by have e:=cE (m:=k+1) ((g.old _<|qax ha).trans ha) (by rw[Ah];exact hk);rw[<-Fi]at e;have a:Hh (.int (k:Int)) (.int 1) s=some (.int ((k+1:Nat):Int),s):=rfl;refine⟨_,_,?_,II _ _,Gr.app _ _⟩;simp only[OQ,Ih,h,hj,K8,KQ,IE,Ip,a,Aa,e]
end
def LE.asg(h:LE ρ s e xs):∃a s',Hm e (Hq i) ρ s=some (.nx (ρ.set i<|some<|.ref a),s')/\s'[a]?=some (.lst<|xs.map D.str)/\Gr s s':=by obtain⟨a,s1,q,a1,g⟩:=h s<|Gr.refl _;exact⟨a,s1,by rw[Kg,q];rfl,a1,g⟩
def LE.par(c:LE ρ s e1 xs)(f:LE ρ s e2 ys):∃a b s',K3 i j (Hc e1<|Hc e2 mZ) ρ s=some (.nx ((ρ.set i<|some<|.ref a).set j<|some<|.ref b),s')/\s'[a]?=some (.lst<|xs.map D.str)/\s'[b]?=some (.lst<|ys.map D.str)/\Gr s s':=by obtain⟨a,s1,e,a1,g1⟩:=c s<|Gr.refl _;obtain⟨b,s2,l,m,g2⟩:=f s1 g1;refine⟨a,b,s2,?_,(g2.old _<|qax a1).trans a1,m,g1.trans g2⟩;rw[NG,IH,e];simp only[Aa,IH,l,IM]
def LE.ret{t:MT}{B:MS}(h:LE ρ s e xs)(c:t ρ s=some (true,s)):∃a s',mS (HS t (mR e)<|Ia) B ρ s=some (.rt (.ref a),s')/\s'[a]?=some (.lst<|xs.map D.str)/\Gr s s':=by obtain⟨a,s1,q,a1,g⟩:=h s<|Gr.refl _;exact⟨a,s1,Vs c q,a1,g⟩
end
variable {n:Nat}
def WS{a:Nat}(f:IC n s)(c:s[a]?=some (.lst<|xs.map D.str)):a≠n:=by
 rintro rfl;obtain⟨u,v,e,_⟩:=f;rw[e]at c;cases xs with
 |nil=>simp at c
 |cons x l=>simp at c
def WQ:∀x∈(["","-","0","1","4","5","12","13","00","01","a","A","enough","stick","kind","floor","tile","abcdefghi","aa","+1","1.0","-1","_",IW "9" 7,IW "9" 50]:List Str),IU x 50:=by
 have:∀x∈(["","-","0","1","4","5","12","13","00","01","a","A","enough","stick","kind","floor","tile","abcdefghi","aa","+1","1.0","-1","_",IW "9" 7,IW "9" 50]:List Str),(decide (x.length<=50)&&x.cps.toList.all λc=>decide (c<1114112))=true:=by decide +kernel
 intro x a;have h:=SL.mp<|this x a;exact⟨of_decide_eq_true h.1,λc i=>of_decide_eq_true (List.all_eq_true.mp h.2 c i)⟩
section
variable {r o p l5 a9 b0 a1 b2:Nat}{w:Int}{v q:Str}{R W:List Str}{a7:Option D}
def Qx{a:Nat}{xs:List Str}{s':Hg}{F:Option (Fl×Hg)}(c:F=some (.rt (.ref a),s'))(e:s'[a]?=some (.lst<|xs.map D.str))(h:IC n s)(f:Fr n s0 s)(g:Gr s s')(j:sz xs<=2*m+60)(B:∀x∈xs,Lm x):∃a xs st',F=some (.rt (.ref a),st')/\st'[a]?=some (.lst<|xs.map D.str)/\sz xs<=2*m+60/\(∀x∈xs,Lm x)/\IC n st'/\Fr n s0 st':=⟨a,xs,s',c,e,j,B,h.gr g,f.trans<|g.fr n⟩
def LI{a b:List Str}(c:∀x∈a,Lm x)(e:∀x∈b,Lm x):∀x∈a++b,Lm x:=λx i=>by
 rcases SZ.mp i with h|h
 ·exact c x h
 exact e x h
def Xj:Lm " ":=by
 unfold Lm
 decide
def wQ(j:IC n s)(f:Fr n s0 s)(hm:m<=4000)(L:s[l]?=some (.lst<|R.map D.str))(hz:sz R<=m+1)(M:R[r]?=some x)(hy:R[o]?=some y)(N:∀x∈R,IU x m)(h5:s[l5]?=some (.lst<|W.map D.str))(hW:sz W=x.length+1)(B:∀y∈W,Lm y)(hq:W[p]?=some q)(S:IU v (m+50))(h9:s[a9]?=some (.lst<|(R.take r).map D.str)) (h0:s[b0]?=some (.lst<|(R.drop<|r+1).map D.str)) (h1:s[a1]?=some (.lst<|(W.take p).map D.str)) (h2:s[b2]?=some (.lst<|(W.drop<|p+1).map D.str)):
  ∃a xs st',(mS (HS (mT<|mB Iv (mV 4)<|mK<|.int 3) (mR<|mB Hh (mB Hh (mV 9)<|mL<|Hc (Mf (mK<|.str " ")<|Hc (mB Hh (mB Hh (mV 11)<|mL<|Hc (mV 8)<|mZ)<|mV 12)<|mZ)<|mZ)<|mV 10)<|Ia)<|mS (HS (mT<|mB Il (mV 4)<|mK<|.int 3) (mR<|mB Hh (mB Hh (mV 9)<|mL<|Hc (Mf (mK<|.str " ")<|Hc (mB Hh (mV 11)<|mV 12)<|mZ)<|mZ)<|mV 10)<|Ia)<|mS (HS (mT<|mB Il (mV 4)<|mK<|.int 4) (mR<|mB Hh (mB Hh (mV 9)<|mL<|Hc (Mf (mK<|.str " ")<|Hc (mB Hh (mB Hh (mV 11)<|mL<|Hc (mV 8)<|mZ)<|I0 (mV 5) (Iq<|mV 6)<|IS)<|mZ)<|mZ)<|mV 10)<|Ia)<|mS (HS (mT<|mB Il (mV 4)<|mK<|.int 5) (mR<|mB Hh (mV 9)<|mV 10)<|Ia)<|mS (HS (mT<|mB Il (mV 4)<|mK<|.int 6) (mR<|mB Hh (mB Hh (mV 9)<|mL<|Hc (mB Hr (mV 1)<|mV 3)<|mZ)<|I0 (mV 1) (Iq<|mV 2)<|IS)<|Ia)<|mS (HS (mT<|mB Il (mV 4)<|mK<|.int 7) (mR<|mB Hh (mB Hh (mV 9)<|mL<|Hc (mK<|.str "")<|mZ)<|I0 (mV 1) (Iq<|mV 2)<|IS)<|Ia)<|mR<|mB Hh (mB Hh (mV 9)<|mL<|Hc (mB Hr (mV 1)<|mV 3)<|mZ)<|mV 10) [some (.ref n),some (.ref l),some (.int (r:Int)),some (.int (o:Int)),some (.int w),some (.ref l5),some (.int (p:Int)),a7,some (.str v),some (.ref a9),some (.ref b0),some (.ref a1),some (.ref b2)] s=some (.rt (.ref a),st')/\st'[a]?=some (.lst<|xs.map D.str)/\sz xs<=2*m+60/\(∀x∈xs,Lm x)/\IC n st'/\Fr n s0 st':=by
 have tx:=(N x<|AD M).len;have ty:=N y<|AD hy;have tv':=S.len;have ty':=ty.len;obtain⟨lr,_⟩:=KM.mp M;obtain⟨lp,_⟩:=KM.mp hq;have z1:=aZ R r;have z2:=bA M;have z3:=aZ W p;have z4:=bA hq;have T:∀x∈R,Lm x:=λx h=>(N x h).ok;have E:∀x∈R.take r,Lm x:=λx h=>T x<|BK h;have F:∀x∈R.drop (r+1),Lm x:=λx h=>T x<|BA h;have cr:∀x∈R.drop r,Lm x:=λx h=>T x<|BA h;have U:∀x∈W.take p,Lm x:=λx h=>B x<|BK h;have c2:∀x∈W.drop (p+1),Lm x:=λx h=>B x<|BA h;have cp:∀x∈W.drop p,Lm x:=λx h=>B x<|BA h;have n9:=Qa<|R.take r;have n0:=Qa<|R.drop<|r+1;have nr:=Qa<|R.drop r;have n1:=Qa<|W.take p;have n2:=Qa<|W.drop<|p+1;have np:=Qa<|W.drop p;have t:∀c:Int,mT (mB Il (mV 4)<|mK<|.int c) [some (.ref n),some (.ref l),some (.int (r:Int)),some (.int (o:Int)),some (.int w),some (.ref l5),some (.int (p:Int)),a7,some (.str v),some (.ref a9),some (.ref b0),some (.ref a1),some (.ref b2)] s=some (decide (w=c),s):=λc=>by rw[show decide (w=c)=(w==c) from rfl];simp[L2.MP.eq_int]
 have t3:mT (mB Iv (mV 4)<|mK<|.int 3) [some (.ref n),some (.ref l),some (.int (r:Int)),some (.int (o:Int)),some (.int w),some (.ref l5),some (.int (p:Int)),a7,some (.str v),some (.ref a9),some (.ref b0),some (.ref a1),some (.ref b2)] s=some (decide (w<3),s):=by simp[Iv,HN]
 generalize i:[some (D.ref n),some (.ref l),some (.int (r:Int)),some (.int (o:Int)),some (.int w),some (.ref l5),some (.int (p:Int)),a7,some (.str v),some (.ref a9),some (.ref b0),some (.ref a1),some (.ref b2)]=P at *;have Q:LE P s (mV 9) (R.take r):=LE.var (by rw[<-i];rfl) h9;have G:LE P s (mV 10) (R.drop<|r+1):=LE.var (by rw[<-i];rfl) h0;have X:LE P s (mV 11) (W.take p):=LE.var (by rw[<-i];rfl) h1;have L2:LE P s (mV 12) (W.drop<|p+1):=LE.var (by rw[<-i];rfl) h2;have Lr:LE P s (I0 (mV 1) (Iq<|mV 2)<|IS) (R.drop r):=LE.fr (by rw[<-i];rfl) (by rw[<-i];rfl) L (by omega);have Lp:LE P s (I0 (mV 5) (Iq<|mV 6)<|IS) (W.drop p):=LE.fr (by rw[<-i];rfl) (by rw[<-i];rfl) h5 (by omega);have Tv:TE P s (mV 8) v:=TE.var (by rw[<-i];rfl);have Ty:TE P s (mB Hr (mV 1)<|mV 3) y:=TE.ix (by rw[<-i];rfl) (by rw[<-i];rfl) L hy;clear i h9 h0 h1 h2 h5 L;generalize R.take r=A at *;generalize R.drop (r+1)=H at *;generalize R.drop r=Rr at *;generalize W.take p=A1 at *;generalize W.drop (p+1)=u at *;generalize W.drop p=Wp at *
 by_cases k3:w<3
 ·have Y:=Mh (A1++[v]) u;have J:=Mh A1 [v];have K:sz [v]=v.length+1:=rfl;have I:=join_le (z:=" ") (a:=A1++[v]++u) (by decide);obtain⟨a,C,e,h,g⟩:=(LE.add (LE.add Q (LE.lst (AE.cons (TE.join (x:=" ") (LE.add (LE.add X (LE.lst (AE.cons Tv AE.nil)<|by simp) (by simp;omega)) L2 (by simp;omega)) (by decide)<|by omega) AE.nil)<|by simp) (by simp;omega)) G (by simp;omega)).ret (t3.trans<|by rw[decide_eq_true k3]);refine Qx e h j f g ?_<|LI (LI E<|all1<|Vx Xj<|LI (LI U<|all1 S.ok) c2) F;have Z:=Mh (A++[Txt.join " " (A1++[v]++u)]) H;have y6:=Mh A [Txt.join " " (A1++[v]++u)];have y7:sz [Txt.join " " (A1++[v]++u)]=(Txt.join " "<|A1++[v]++u).length+1:=rfl;omega
 rw[NK (t3.trans<|by rw[decide_eq_false k3]) rfl]
 by_cases k4:w=3
 ·have Y:=Mh A1 u;have I:=join_le (z:=" ") (a:=A1++u) (by decide);obtain⟨a,C,e,h,g⟩:=(LE.add (LE.add Q (LE.lst (AE.cons (TE.join (x:=" ") (LE.add X L2<|by omega) (by decide)<|by omega) AE.nil)<|by simp) (by simp;omega)) G (by simp;omega)).ret ((t 3).trans<|by rw[decide_eq_true k4]);refine Qx e h j f g ?_<|LI (LI E<|all1<|Vx Xj<|LI U c2) F;have Z:=Mh (A++[Txt.join " " (A1++u)]) H;have y6:=Mh A [Txt.join " " (A1++u)];have y7:sz [Txt.join " " (A1++u)]=(Txt.join " "<|A1++u).length+1:=rfl;omega
 rw[NK ((t 3).trans<|by rw[decide_eq_false k4]) rfl]
 by_cases k5:w=4
 ·have Y:=Mh (A1++[v]) Wp;have J:=Mh A1 [v];have K:sz [v]=v.length+1:=rfl;have I:=join_le (z:=" ") (a:=A1++[v]++Wp) (by decide);obtain⟨a,C,e,h,g⟩:=(LE.add (LE.add Q (LE.lst (AE.cons (TE.join (x:=" ") (LE.add (LE.add X (LE.lst (AE.cons Tv AE.nil)<|by simp) (by simp;omega)) Lp (by simp;omega)) (by decide)<|by omega) AE.nil)<|by simp) (by simp;omega)) G (by simp;omega)).ret ((t 4).trans<|by rw[decide_eq_true k5]);refine Qx e h j f g ?_<|LI (LI E<|all1<|Vx Xj<|LI (LI U<|all1 S.ok) cp) F;have Z:=Mh (A++[Txt.join " " (A1++[v]++Wp)]) H;have y6:=Mh A [Txt.join " " (A1++[v]++Wp)];have y7:sz [Txt.join " " (A1++[v]++Wp)]=(Txt.join " "<|A1++[v]++Wp).length+1:=rfl;omega
 rw[NK ((t 4).trans<|by rw[decide_eq_false k5]) rfl];have Y:=Mh A H
 by_cases k6:w=5
 ·obtain⟨a,C,e,h,g⟩:=(LE.add Q G<|by omega).ret ((t 5).trans<|by rw[decide_eq_true k6]);exact Qx e h j f g (by omega)<|LI E F
 rw[NK ((t 5).trans<|by rw[decide_eq_false k6]) rfl];have J:=λz=>Mh A [z];have K:∀z:Str,sz [z]=z.length+1:=λz=>rfl;have I:=λz=>Mh (A++[z]) Rr;have Z:=Mh (A++[y]) H;have e0:("":Str).length=0:=by decide
 have q1:=J y;have q2:=J "";have q3:=K y;have q4:=K "";have q5:=I y;have q6:=I "";by_cases k7:w=6
 ·obtain⟨a,C,e,h,g⟩:=(LE.add (LE.add Q (LE.lst (AE.cons Ty AE.nil)<|by simp) (by simp;omega)) Lr (by simp;omega)).ret ((t 6).trans<|by rw[decide_eq_true k7]);exact Qx e h j f g (by omega)<|LI (LI E<|all1 ty.ok) cr
 rw[NK ((t 6).trans<|by rw[decide_eq_false k7]) rfl]
 by_cases k8:w=7
 ·obtain⟨a,C,e,h,g⟩:=(LE.add (LE.add Q (LE.lst (AE.cons TE.con AE.nil)<|by simp) (by simp;omega)) Lr (by simp;omega)).ret ((t 7).trans<|by rw[decide_eq_true k8]);exact Qx e h j f g (by omega) (LI (LI E<|all1 (WQ ""<|by simp).ok) cr)
 rw[NK ((t 7).trans<|by rw[decide_eq_false k8]) rfl];obtain⟨a,C,e,h,g⟩:=LE.add (LE.add Q (LE.lst (AE.cons Ty AE.nil)<|by simp) (by simp;omega)) G (by simp;omega) s<|Gr.refl _;exact Qx (KL e) h j f g (by omega)<|LI (LI E<|all1 ty.ok) F
end
variable {st:Hg}
def zhv{R:List Str}(hp:IC n st)(ha:st[l]?=some (.lst<|R.map D.str))(hR:∀x∈R,IU x m)(hz:sz R<=m+1)(hne:R≠[])(hm:m<=4000):∃a xs st',YZ [.ref n,.ref l] st=some (.ref a,st')/\st'[a]?=some (.lst<|xs.map D.str)/\sz xs<=2*m+60/\(∀x∈xs,Lm x)/\IC n st'/\Fr n st st':=by
 have hl:=Qa R;have hpos:=List.length_pos_iff.mpr hne;have ln:=WS hp ha;have len:∀{s:Hg}{a:Nat}{xs:List Str},s[a]?=some (.lst<|xs.map D.str)->Ho [.ref a] s=some (.int (xs.length:Int),s):=λh=>by
  have:=M6 h
  rwa [Ah]at this
 have lR:=len ha;obtain⟨r,s1,e1,r0,r1,p1,f1,_⟩:=KZ (many:=(R.length:Int)) hp (by omega) (by omega);have F:=(f1.old _ (qax ha) ln).trans ha;have lR1:=len F;obtain⟨o,s2,e2,o0,o1,p2,f2,_⟩:=KZ (many:=(R.length:Int)) p1 (by omega) (by omega);have M:=(f2.old _ (qax F) ln).trans F;obtain⟨w,s3,e3,w0,w1,p3,f3,_⟩:=KZ (many:=9) p2 (by decide) (by decide);have G:=(f3.old _ (qax M) ln).trans M;obtain⟨r,rfl⟩:=Ci r0;obtain⟨o,rfl⟩:=Ci o0;obtain⟨x,hx⟩:∃x,R[r]?=some x:=⟨_,Ap<|by omega⟩
 obtain⟨y,hy⟩:∃y,R[o]?=some y:=⟨_,Ap<|by omega⟩
 have tx:=hR x<|AD hx;have ty:=hR y<|AD hy;have ex:Hr (.ref l) (.int (r:Int)) s3=some (.str x,s3):=Mo G (by omega) (by rw[show((r:Int)).toNat=r from rfl,AJ,hx];rfl);have es:=RW (z:=x) (y:=" ") (s:=s3) (by decide) (by have:=tx.len;omega);have hW:sz (Txt.split x " ")=x.length+1:=eF (by decide);have H:∀y∈Txt.split x " ",IU y m:=λy h=>tx.part h;have N:Txt.split x " "≠[]:=TL _ _;generalize Txt.split x " "=W at *;have nW:=Qa W;have pW:=List.length_pos_iff.mpr N;have hx':=tx.len;have g4:=Gr.app s3 [.lst (W.map D.str)];have Q:=II s3<|.lst<|W.map D.str;have S:=(g4.old _<|qax G).trans G;have p4:=p3.gr g4;have F4:=((f1.trans f2).trans f3).trans<|g4.fr n;have n5:=WS p4 Q;have lW:=len Q;generalize s3++[O.lst (W.map D.str)]=s4 at *;generalize s3.length=E at *;obtain⟨p,s5,e5,p0,p1',p5,f5,_⟩:=KZ (many:=(W.length:Int)) p4 (by omega) (by omega);have T:=(f5.old _ (qax S) ln).trans S;have U:=(f5.old _ (qax Q) n5).trans Q;obtain⟨p,rfl⟩:=Ci p0;obtain⟨q,hq⟩:∃q,W[p]?=some q:=⟨_,Ap<|by omega⟩
 obtain⟨u,hu⟩:∃u,W.getLast?=some u:=⟨_,List.getLast?_eq_some_getLast N⟩;obtain⟨v0,X⟩:∃v,W[0]?=some v:=⟨_,Ap pW⟩;have m1:∀s:Hg,HZ (.str "9") (.int 7) s=some (.str (IW "9" 7),s):=aE (by decide +kernel);have m2:∀s:Hg,HZ (.str "9") (.int 50) s=some (.str (IW "9" 50),s):=aE (by decide +kernel);obtain⟨a6,s6,e6,Y,g6⟩:=(LE.lst (ρ:=[some (.ref n),some (.ref l),some (.int (r:Int)),some (.int (o:Int)),some (.int w),some (.ref E),some (.int (p:Int)),none,none,none,none,none,none]) (s0:=s5) (xs:=["","-","0","1","4","5","12","13","00","01","a","A","enough","stick","kind","floor","tile"]) (AE.cons TE.con<|AE.cons TE.con<|AE.cons TE.con<|AE.cons TE.con<|AE.cons TE.con<|AE.cons TE.con<|AE.cons TE.con<|AE.cons TE.con<|AE.cons TE.con<|AE.cons TE.con<|AE.cons TE.con<|AE.cons TE.con<|AE.cons TE.con<|AE.cons TE.con<|AE.cons TE.con<|AE.cons TE.con<|AE.cons TE.con AE.nil)<|by decide).asg (i:=7);have I:=(g6.old _<|qax T).trans T;have c:=(g6.old _<|qax U).trans U;obtain⟨g,s7,e7,J,g7⟩:=(LE.add (ρ:=[some (.ref n),some (.ref l),some (.int (r:Int)),some (.int (o:Int)),some (.int w),some (.ref E),some (.int (p:Int)),some (.ref a6),none,none,none,none,none]) (LE.var (i:=7) rfl Y) (LE.lst (xs:=["abcdefghi","aa","+1","1.0","-1","_",IW "9" 7,IW "9" 50,u,v0,y]) (AE.cons TE.con<|AE.cons TE.con<|AE.cons TE.con<|AE.cons TE.con<|AE.cons TE.con<|AE.cons TE.con<|AE.cons (TE.mul m1)<|AE.cons (TE.mul m2)<|AE.cons (TE.ixL (i:=5) rfl c hu)<|AE.cons (TE.ix0 (i:=5) rfl c X)<|AE.cons (TE.ix (i:=1) (j:=3) rfl rfl I hy) AE.nil)<|by simp)<|by simp).asg (i:=7);have F7:=(F4.trans f5).trans<|(g6.trans g7).fr n;have Z:=(g7.old _<|qax I).trans I;have hw7:=(g7.old _<|qax c).trans c;have p7:=p5.gr<|g6.trans g7;have n7:=WS p7 J;obtain⟨d,s8,e8,hd,p8,f8⟩:=of_ok p7 J (by simp) (by simp) n7;obtain⟨v,hv,rfl⟩:=UV.mp hd;have tv:IU v (m+50):=by
  rcases SZ.mp hv with h|h
  ·exact(WQ v (by
    show v∈(["","-","0","1","4","5","12","13","00","01","a","A","enough","stick","kind","floor","tile"]:List Str)++(["abcdefghi","aa","+1","1.0","-1","_",IW "9" 7,IW "9" 50]:List Str);exact B4 _ h)).up (by omega)
  ·have h:v∈(["abcdefghi","aa","+1","1.0","-1","_",IW "9" 7,IW "9" 50]:List Str)++[u,v0,y]:=h
   rcases SZ.mp h with h|h
   ·exact(WQ v (by
     show v∈(["","-","0","1","4","5","12","13","00","01","a","A","enough","stick","kind","floor","tile"]:List Str)++(["abcdefghi","aa","+1","1.0","-1","_",IW "9" 7,IW "9" 50]:List Str);exact AY _ h)).up (by omega)
   ·have:IU v m:=by
     simp at h;rcases h with rfl|rfl|rfl
     ·exact H _<|List.mem_of_getLast? hu
     ·exact H _<|AD X
     exact ty
    exact this.up<|by omega
 have e:=(f8.old _ (qax Z) ln).trans Z;have hw8:=(f8.old _ (qax hw7) n5).trans hw7;obtain⟨a9,b0,s9,e9,K,L,g9⟩:=LE.par (ρ:=[some (.ref n),some (.ref l),some (.int (r:Int)),some (.int (o:Int)),some (.int w),some (.ref E),some (.int (p:Int)),some (.ref g),some (.str v),none,none,none,none]) (i:=9) (j:=10) (LE.to (i:=1) (j:=2) (k:=r) rfl rfl e<|by omega) (LE.fr1 (i:=1) (j:=2) (k:=r) rfl rfl e<|by omega);have ha9:=(g9.old _<|qax e).trans e;have f:=(g9.old _<|qax hw8).trans hw8;obtain⟨a1,b2,s10,e10,B,C,A⟩:=LE.par (ρ:=[some (.ref n),some (.ref l),some (.int (r:Int)),some (.int (o:Int)),some (.int w),some (.ref E),some (.int (p:Int)),some (.ref g),some (.str v),some (.ref a9),some (.ref b0),none,none]) (i:=11) (j:=12) (LE.to (i:=5) (j:=6) (k:=p) rfl rfl f<|by omega) (LE.fr1 (i:=5) (j:=6) (k:=p) rfl rfl f<|by omega);obtain⟨a,xs,st',e11,hh⟩:=wQ (w:=w) (a7:=some (.ref g)) (p8.gr<|g9.trans A) ((F7.trans f8).trans<|(g9.trans A).fr n) hm ((A.old _<|qax ha9).trans ha9) hz hx hy hR ((A.old _<|qax f).trans f) hW (λy h=>(H y h).ok) hq tv ((A.old _<|qax K).trans K) ((A.old _<|qax L).trans L) B C;refine⟨a,xs,st',ID ?_,hh⟩;clear hh hd hv tv Y J K L B C;unfold jK;refine HA (ρ1:=[some (.ref n),some (.ref l),some (.int (r:Int)),some (.int (o:Int)),some (.int w),none,none,none,none,none,none,none,none]) (s1:=s3) ?_ ?_
 ·simp[Jc,sJ,lR,e1,lR1,e2,e3]
 refine HA (ρ1:=[some (.ref n),some (.ref l),some (.int (r:Int)),some (.int (o:Int)),some (.int w),some (.ref E),none,none,none,none,none,none,none]) (s1:=s4) ?_ ?_
 ·rw[Kg,Qb];simp only[IE,Ih,Af,Az,Aa,ex,IH,Ip,IM,es];rfl
 refine HA (ρ1:=[some (.ref n),some (.ref l),some (.int (r:Int)),some (.int (o:Int)),some (.int w),some (.ref E),some (.int (p:Int)),none,none,none,none,none,none]) (s1:=s5) ?_ ?_
 ·simp only[Kg,Jm,IH,Ih,Af,Az,Aa,IM,lW,e5];rfl
 refine HA (ρ1:=[some (.ref n),some (.ref l),some (.int (r:Int)),some (.int (o:Int)),some (.int w),some (.ref E),some (.int (p:Int)),some (.ref a6),none,none,none,none,none]) (s1:=s6) e6 ?_;refine HA (ρ1:=[some (.ref n),some (.ref l),some (.int (r:Int)),some (.int (o:Int)),some (.int w),some (.ref E),some (.int (p:Int)),some (.ref g),none,none,none,none,none]) (s1:=s7) e7 ?_;refine HA (ρ1:=[some (.ref n),some (.ref l),some (.int (r:Int)),some (.int (o:Int)),some (.int w),some (.ref E),some (.int (p:Int)),some (.ref g),some (.str v),none,none,none,none]) (s1:=s8) ?_ ?_
 ·simp only[Kg,Jm,IH,Ih,Af,Az,Aa,IM,e8];rfl
 refine HA (ρ1:=[some (.ref n),some (.ref l),some (.int (r:Int)),some (.int (o:Int)),some (.int w),some (.ref E),some (.int (p:Int)),some (.ref g),some (.str v),some (.ref a9),some (.ref b0),none,none]) (s1:=s9) e9 ?_;exact HA (ρ1:=[some (.ref n),some (.ref l),some (.int (r:Int)),some (.int (o:Int)),some (.int w),some (.ref E),some (.int (p:Int)),some (.ref g),some (.str v),some (.ref a9),some (.ref b0),some (.ref a1),some (.ref b2)]) (s1:=s10) e10 e11
def cJ(e:IC n st)(h:IU z m)(hm:m<=4000):∃y st',Sb [.ref n,.str z] st=some (.str y,st')/\IU y (2*m+60)/\IC n st'/\Fr n st st':=by
 obtain⟨c,s1,r,q,B,o,f1,_⟩:=KZ (many:=3) e (by decide) (by decide);have t:mT (mB Il (Hi Js<|Hc (mV 0)<|Hc (mK<|.int 3)<|mZ)<|mK<|.int 0) (Jc 2 [.ref n,.str z]) st=some (decide (c=0),s1):=by rw[show decide (c=0)=(c==0) from rfl];simp[Jc,r,L2.MP.eq_int]
 by_cases k:c=0
 ·obtain⟨y,s2,u,ty,p2,f2⟩:=zhq o h hm;refine⟨y,s2,ID ?_,ty,p2,f1.trans f2⟩;unfold YG;rw[decide_eq_true k]at t;refine JT ?_;rw[K7,t];simp[Jc,u]
 ·have v:=RW (z:=z) (y:="\n") (s:=s1) (by decide) (by have:=h.len;omega);have g:=Gr.app s1 [.lst ((Txt.split z "\n").map D.str)];have at2:=II s1 (.lst<|(Txt.split z "\n").map D.str);obtain⟨a,xs,s3,w,i,l,A,E,Q⟩:=zhv (o.gr g) at2 (λx W=>h.part W) (by rw[eF (by decide)];have:=h.len;omega) (TL _ _) hm;have f:=join_le (z:="\n") (a:=xs) (by decide);have C:=Te xs;have j:=Xs (z:="\n") i (by
   have:("\n":Str).length=1:=by decide
   rw[this];show(xs.map λx=>x.length).sum+_<=_;omega)
  refine⟨Txt.join "\n" xs,s3,ID ?_,⟨Ar f l,Vx (by unfold Lm;decide) A⟩,E,(f1.trans<|g.fr n).trans Q⟩;unfold YG;rw[decide_eq_false k]at t;refine HA (ρ1:=Jc 2 [.ref n,.str z]) (s1:=s1) ?_ ?_
  ·rw[K7,t];rfl
  show mR _ [some (.ref n),some (.str z)] s1=_;rw[LQ,JU,Ip];simp only[Aa,IH,Jm,Ih,Af,Az,Qb,Ip,IM,v,w,j];rfl
end L2.MP.T0
namespace L2.MP.T0
open PySem L2.MP L2.MP.Hn
open L2.MP.Ce (JN Kr Hu Ij Lo Jv KL)
def zjJ{b:Jy}(h:Read b)(a:(M5 b).length<=8100):plain 5 b.d:=by
 rw[gP]at a;have l:∀n∈b.ho.sticks.map (·.1),J9 n=true:=λn l=>by obtain⟨p,o,rfl⟩:=UV.mp l;exact(h.s p o).1
 refine⟨by show 3<=10000;decide,λd hd=>?_⟩;simp at hd
 rcases hd with rfl|rfl|rfl
 ·exact xY (λp o=>bU (h.s p o).1) (by omega) (λk hk=>⟨(Xt l<|h.k k hk).1,(Xt l<|h.k k hk).2.2⟩)<|by omega
 ·refine⟨by show 2<=10000;decide,λd hd=>?_⟩;simp at hd
  rcases hd with rfl|rfl<;>trivial
 exact XJ (ziP<|by omega)<|by decide
variable {s:Hg}
def Y3{x:Str}{i:Nat}{d:D}{ρ:HX}(h:ρ[i]?=some (some d)):mU (Hc (mK<|.str x)<|Hc (mV i)<|mZ) ρ s=some (.tup [.str x,d],s):=by rw[NZ];simp[Ih,h]
variable {v5 v6 v7:Option D}
section
variable {p:Nat}{z:Str}{a0 a1 a4:Option D}
def lA(C:IC p s)(F:IU z 1705):∃G H I s',Xe [a0,a1,some (.ref p),some (.str z),a4,v5,v6,v7] s=some (.nx [a0,a1,some (.ref p),some (.str z),a4,G,H,I],s')/\IC p s':=by
 obtain⟨r,s1,J,t1,K,f1⟩:=cJ C F (by decide);have two:∃y s2,HS (mT<|mB Il (Hi Js<|Hc (mV 2)<|Hc (mK<|.int 2)<|mZ)<|mK<|.int 0) (Hm (Hi Sb<|Hc (mV 2)<|Hc (mV 5)<|mZ)<|Hq 5) Ia [a0,a1,some (.ref p),some (.str z),a4,some (.str r),v6,v7] s1=some (.nx [a0,a1,some (.ref p),some (.str z),a4,some (.str y),v6,v7],s2)/\IU y 8000/\IC p s2:=by
  obtain⟨c,s2,L,c0,c1,p2,f2,_⟩:=KZ (many:=2) K (by decide) (by decide);have t:mT (mB Il (Hi Js<|Hc (mV 2)<|Hc (mK<|.int 2)<|mZ)<|mK<|.int 0) [a0,a1,some (.ref p),some (.str z),a4,some (.str r),v6,v7] s1=some (decide (c=0),s2):=by rw[show decide (c=0)=(c==0) from rfl];simp[L,L2.MP.eq_int]
  by_cases k:c=0
  ·obtain⟨y,s3,u,t3,M,f3⟩:=cJ p2 t1 (by decide);rw[decide_eq_true k]at t;refine⟨y,s3,JN t ?_,t3.up<|by decide,M⟩;simp only[Kg,Jm,IH,Ih,Af,Az,Aa,IM,u];rfl
  rw[decide_eq_false k]at t;exact⟨r,s2,Kr t,t1.up<|by decide,p2⟩
 obtain⟨y,s2,W,ty,p2⟩:=two;obtain⟨s3,u,g3⟩:=zB (st:=s2) ty;rw[wL]at u;obtain⟨s4,N,S⟩:=gO (st:=s3) ty;obtain⟨s5,T,U⟩:=gO (st:=s4) ty;have a:=((p2.gr g3).gr S).gr U;have X:∀b,parse (rowsOf y)=.inr b->Read b/\(M5 b).length<=8100/\Txt.join "\n" (M7 b)=y:=λb h=>⟨zjU h,by
  rw[gV h];unfold rowsOf;rw[Ah];exact VA ty,zkw h⟩
 generalize parse (rowsOf y)=o at *;have e:Hm (Hi Sb<|Hc (mV 2)<|Hc (mV 3)<|mZ) (Hq 5) [a0,a1,some (.ref p),some (.str z),a4,v5,v6,v7] s=some (.nx [a0,a1,some (.ref p),some (.str z),a4,some (.str r),v6,v7],s1):=by simp only[Kg,Jm,IH,Ih,Af,Az,Aa,IM,J];rfl
 have f:K3 6 7 (Hc (Hi T7<|Hc (mV 5)<|mZ)<|Hc (Hi QQ<|Hc (mV 5)<|mZ)<|mZ) [a0,a1,some (.ref p),some (.str z),a4,some (.str y),v6,v7] s2=some (.nx [a0,a1,some (.ref p),some (.str z),a4,some (.str y),some (UQ<|Qn o),some (Qr o)],s4):=by simp only[NG,Jm,IH,Ih,Af,Az,Aa,IM,u,N];rfl
 have g:IP (Qr o) (Qr o) s5=some (.bl false,s5)->HS (mT<|mB IP (mV 7)<|Hi QQ<|Hc (mV 5)<|mZ) (mR<|mK<|.bl false) Ia [a0,a1,some (.ref p),some (.str z),a4,some (.str y),some (UQ<|Qn o),some (Qr o)] s4=some (.nx [a0,a1,some (.ref p),some (.str z),a4,some (.str y),some (UQ<|Qn o),some (Qr o)],s5):=λh=>Kr (Hu (b:=false) (by
  simp only[IE,Jm,IH,Ih,Af,Az,Aa,IM,T,h]))
 cases o with
 |inl n=>
  have ne:=qT (n:=(n:Int)) (s:=s5);have Y:=Y3 (x:="row") (i:=6) (d:=.int (n:Int)) (ρ:=[a0,a1,some (.ref p),some (.str z),a4,some (.str y),some (.int (n:Int)),some (.tup [.str "row",.int (n:Int)])]) (s:=s5) rfl;have v:Pc (.int (n:Int)) .non s5=some (.bl true,s5):=rfl;have w:JD (.int (n:Int)) .non s5=some (.bl false,s5):=rfl;refine⟨_,_,_,s5,HA e<|HA W<|HA f<|HA (g ne)<|HA (s1:=s5) (Kr<|Ru (s1:=s5) (Hu (b:=true) ?_)<|Hu (b:=false) ?_)<|Kr<|Rq<|Hu (b:=false) ?_,a⟩
  ·show mB Pc (mV 6) (mK .non) [a0,a1,some (.ref p),some (.str z),a4,some (.str y),some (.int (n:Int)),some (.tup [.str "row",.int (n:Int)])] s5=_;simp only[IE,Ih,Af,Az,Aa,Ip,v]
  ·show mB IP (mV 7) _ [a0,a1,some (.ref p),some (.str z),a4,some (.str y),some (.int (n:Int)),some (.tup [.str "row",.int (n:Int)])] s5=_;simp only[IE,Ih,Af,Az,Aa,Y,ne]
  show mB JD (mV 6) (mK .non) [a0,a1,some (.ref p),some (.str z),a4,some (.str y),some (.int (n:Int)),some (.tup [.str "row",.int (n:Int)])] s5=_;simp only[IE,Ih,Af,Az,Aa,Ip,w]
 |inr b=>
  obtain⟨j,m,Z⟩:=X b rfl;have ne:IP (.tup [.str "bed",b.d]) (.tup [.str "bed",b.d]) s5=some (.bl false,s5):=Xp (n:=6) ⟨by show 2<=10000;decide,all2 (show Ao ("bed":Str)=true by decide +kernel)<|zjJ j m⟩ (by decide);have ok:=tU j m;obtain⟨l,A,e6,E,g6⟩:=cY (st:=s5) ok;have q:=X0 (z:="\n") (c:=80) (n:=8200) E (fN ok) (fM ok) (by decide) (by decide);rw[Z]at q;have i0:∀s:Hg,Hr (.tup [.str "bed",b.d]) (.int 0) s=some (.str "bed",s):=λs=>J7 (by decide) rfl;have i1:∀s:Hg,Hr (.tup [.str "bed",b.d]) (.int 1) s=some (b.d,s):=λs=>J7 (by decide) rfl;have nb:IP (.str "bed") (.str "bed") s5=some (.bl false,s5):=Xp (n:=1) (show Ao ("bed":Str)=true by decide +kernel) (by decide);have ns:Sh (.str y) (.str y) A=some (.bl false,A):=by unfold Sh;simp
  have v:Pc .non .non s5=some (.bl false,s5):=rfl;have w:JD .non .non s5=some (.bl true,s5):=rfl;have Q:=g ne;refine⟨_,_,_,A,HA e<|HA W<|HA f<|HA Q<|HA (s1:=s5) (Kr<|Rq<|Hu (b:=false) ?_)<|Kr<|Ru (s1:=s5) (Hu (b:=true) ?_)<|Jv (s1:=s5) (Hu (b:=false) ?_)<|Hu (b:=false) ?_,a.gr g6⟩
  ·show mB Pc (mV 6) (mK .non) [a0,a1,some (.ref p),some (.str z),a4,some (.str y),some .non,some (.tup [.str "bed",b.d])] s5=_;simp only[IE,Ih,Af,Az,Aa,Ip,v]
  ·show mB JD (mV 6) (mK .non) [a0,a1,some (.ref p),some (.str z),a4,some (.str y),some .non,some (.tup [.str "bed",b.d])] s5=_;simp only[IE,Ih,Af,Az,Aa,Ip,w]
  ·show mB IP _ _ [a0,a1,some (.ref p),some (.str z),a4,some (.str y),some .non,some (.tup [.str "bed",b.d])] s5=_;simp only[IE,Ih,Af,Az,Aa,Ip,i0,nb]
  show mB Sh _ _ [a0,a1,some (.ref p),some (.str z),a4,some (.str y),some .non,some (.tup [.str "bed",b.d])] s5=_;generalize b.d=B at *;simp only[IE,JU,Ih,Af,Az,Aa,Ip,IH,Jm,IM,i1,e6,q,ns]
end
def lB{ns:List Int}{k:Int}{st:Hg}{v2 v3 v4:Option D}(h0:0<=k)(q:k<1000):
  ∃(C F i a f h:Option D) (st':Hg),Vo [some (.kl<|ns.map D.int),some (.int k),v2,v3,v4,v5,v6,v7] st=some (.nx [some (.kl<|ns.map D.int),some (.int k),C,F,i,a,f,h],st'):=by
 obtain⟨s1,y,A,g1⟩:=qJ (ns:=ns) (st:=st) h0 q;obtain⟨d,s2,E,hd,p2,f2⟩:=Pm [.int 1,.int 3,.int 6] A (by decide) (by decide);obtain⟨m,rfl,r,u⟩:∃m:Int,d=.int m/\1<=m/\m<=6:=by
  simp at hd;rcases hd with rfl|rfl|rfl<;>exact⟨_,rfl,by decide,by decide⟩
 obtain⟨b,s3,Q,v,G,Y⟩:=oN p2 r (by omega);have o:=Rt.of v u;obtain⟨l,s4,H,w,I⟩:=cY (st:=s3) o.b;have J:=G.gr I;have K:=X0 (z:="\n") (c:=80) (n:=8200) w (fN o.b) (fM o.b) (by decide) (by decide);have L:M7 b=(M5 b).map (Txt.join " "):=fY b;have ok:IU (Txt.join "\n"<|M7 b) 1705:=by rw[L];exact wJ (qU o)<|Ar (zmX o)<|by decide
 generalize Txt.join "\n" (M7 b)=z at *;have key:=QE (W:=⟨run 0 12,[]⟩) (g:=Hq 4) (m:=Xe) (ds:=run 0 12) (ρ:=[some (.kl<|ns.map D.int),some (.int k),some (.ref st.length),some (.str z),v4,v5,v6,v7]) (st:=s4)
  (Inv:=λ_ ρ s=>IC st.length s/\∃i a f h,ρ=[some (.kl<|ns.map D.int),some (.int k),some (.ref st.length),some (.str z),i,a,f,h]) ⟨J,_,_,_,_,rfl⟩ (λ_ _ _ _ _=>rfl) (λj d ρ s hd M=>by obtain⟨N,i,a,f,h,rfl⟩:=M;obtain⟨Z,u6,u7,S,e,x⟩:=lA (a0:=some (.kl<|ns.map D.int)) (a1:=some (.int k)) (a4:=some d) (v5:=a) (v6:=f) (v7:=h) N ok;exact⟨_,s,_,S,rfl,e,x,_,_,_,_,rfl⟩)
 obtain⟨ρ8,T,U,_,i,a,f,h,rfl⟩:=key;refine⟨some<|.ref st.length,some<|.str z,i,a,f,h,T,?_⟩;unfold Vo;refine HA (ρ1:=[some (.kl<|ns.map D.int),some (.int k),some (.ref st.length),v3,v4,v5,v6,v7]) (s1:=s1) (by simp[y]) ?_;refine HA (ρ1:=[some (.kl<|ns.map D.int),some (.int k),some (.ref st.length),some (.str z),v4,v5,v6,v7]) (s1:=s4) ?_ ?_
 ·generalize b.d=B at *;simp[JU,E,Q,H,K]
 have X:∀ρ:HX,NO (mK<|.int 12) ρ s4=some (⟨run 0 12,[]⟩,s4):=λρ=>rfl;rw[Ms,X];exact U
def yH(ns:List Int)(i:ns.length<=63):∃st,WC [.kl (ns.map D.int)] []=some (.bl true,st):=by
 obtain⟨j,o,r,u⟩:∃j:Int,0<=j/\j<=8/\(Hi Sy<|Hc (mK<|.int 1)<|Hc (Hi Sz<|Hc (Hi Ho<|Hc (mV 0)<|mZ)<|Hc (mK<|.int 8)<|mZ)<|mZ) [some (.kl<|ns.map D.int),none,none,none,none,none,none,none] []=some (.int j,[]):=by
  have em:∀(a b:Int) (s:Hg),Sz [.int a,.int b] s=some (.int (if b<a then b else a),s):=λa b s=>rfl;have ex:∀(a b:Int) (s:Hg),Sy [.int a,.int b] s=some (.int (if b > a then b else a),s):=λa b s=>rfl;refine⟨_,?_,?_,by simp[WZ,em,ex];rfl⟩
  ·split<;>(try split)<;>omega
  split<;>(try split)<;>omega
 have key:=QE (W:=⟨run 0 j.toNat,[]⟩) (g:=Hq 1) (m:=Vo) (ds:=run 0 j.toNat) (ρ:=[some (.kl<|ns.map D.int),none,none,none,none,none,none,none]) (st:=[])
  (Inv:=λk ρ s=>∃v1 v2 l v4 v5 v6 v7,ρ=[some (.kl<|ns.map D.int),v1,v2,l,v4,v5,v6,v7]) ⟨_,_,_,_,_,_,_,rfl⟩ (λ_ _ _ _ _=>rfl) (λk d ρ s hd v=>by obtain⟨v1,v2,l,v4,v5,v6,v7,rfl⟩:=v;obtain⟨hk,rfl⟩:=run_get hd;obtain⟨w,x,y,A,E,Q,c,e⟩:=lB (ns:=ns) (k:=0+(k:Int)) (st:=s) (v2:=v2) (v3:=l) (v4:=v4) (v5:=v5) (v6:=v6) (v7:=v7) (by omega) (by omega);exact⟨_,s,_,c,rfl,e,_,w,x,y,A,E,Q,rfl⟩)
 obtain⟨ρ',s1,f,v1,v2,l,v4,v5,v6,v7,rfl⟩:=key;refine⟨s1,ID ?_⟩;unfold Z5;have h:small j=true:=R9 o (by omega);show mS _ _ [some (.kl<|ns.map D.int),none,none,none,none,none,none,none] []=_;refine HA (ρ1:=[some (.kl<|ns.map D.int),v1,v2,l,v4,v5,v6,v7]) (s1:=s1) ?_ rfl;rw[Ms,NT,u];simp only[Aa,h,if_true];exact f
end L2.MP.T0
namespace L2.MP.T0
open PySem L2 L2.MP PySem.Spec PyProof.Rows PySem.W
noncomputable abbrev hk:=Hx.Qp fns Sm cos Sk
end L2.MP.T0
open PySem PySem.W PyProof.Rows L2 L2.MP L2.MP.T0 in
set_option maxRecDepth 100000 in
set_option maxHeartbeats 0 in
theorem PySem.Challenge.cw_stickytiles_k78_rows_at_fault_holds : PySem.Challenge.rw_stickytiles_k78_rows_at_fault.Holds := by
 refine holds_law (by decide +kernel) λo=>?_;refine holds_open (q:=vw) (loose:=[]) (XP:=XL vw []) (YP:=hk.says) uF hk.of hk.keeps (λs e=>xl_of s (SL.mp e).1) XL.keeps (by rfl) (by rfl) (by rfl) (λs e=>recFacts_of (SL.mp e).2) (by rfl) o (by decide +kernel) ⟨rfl,rfl,rfl,rfl,rfl,by decide +kernel⟩ ?hw ?hc
 case hw=>w_witness2
 case hc=>
  refine Hx.Nl (l:=PySem.Challenge.rw_stickytiles_k78_rows_at_fault) (n:=63) (k:=8) (x:="_law_script") (CX:=LJ) (sp:=λK=>Qk K 1 WC) rfl (by decide) rfl ⟨rfl,by decide,by decide,rfl⟩ (λK w E Q h A B X G e=>?_) (λK H a ns r u y=>(yH ns r).elim λ_ e=>zU u y e) λ_ _ _ _ z=>z;obtain⟨f,⟨W,g,kV,j,pm,an,cd,m,C,l,c⟩,n,k⟩:=A.fn ("law",top 59) (AD (i:=39) rfl)
  cases e.symm.trans (mg_of X G n);exact⟨_,λs v=>.of_eq rfl,λbase _ _=>oZ (En.of A X G) (EE.of B Al X G) (U9 (st:=top 59) l c k)⟩