import PyProof.Rows.All
import Wide.All
import Wide.FinOn
import PyProof.EqAt
import PyProof.EqKinds
import PyProof.TupleCall
import PyProof.AttrMissHeap
import PyProof.StrWalks
import PyProof.EnumMake
import PyProof.SumWalk
import PyProof.ReprRoads
import PyProof.DictWalks
import PyProof.FitsBits
import PyProof.RulesTry
import PyProof.Rows.RuleIs
import PyProof.DictTruth
import PyProof.MinMaxWalk
import PyProof.FactsAll.tuple_2
import PyProof.WalkInts
import PyProof.WalksMore
import PyProof.SetScanFacts
import PyProof.Draws
import PyProof.TupleKey
import PyProof.IsRules
import PyProof.NeKinds
import PyProof.FactsAll.dict_2
import PyProof.ExcClass3
import PyProof.InstStoreFacts
import PyProof.RulesAs
import PyProof.AssignAttr
import PyProof.ExcArgs
import PyProof.NsDelKeeps
import PyProof.ExcBaseAll.ValueError
import OpenK.KNot
import OpenK.KRaise
import OpenK.KDescr
import KE.KSortTup
import OpenK.KGet
import OpenK.KWalk
import OpenK.KFacts
import OpenK.KDict
import KE.KDictOf
import OpenK.KOps
import KE.KRevSl
import KE.KSortAsk
import OpenK.KCall
import KE.KTryMore
import KE.KIsAll
import OpenK.KMake
import OpenK.KLine
import OpenK.KList
import KE.KItem
import OpenK.Peek
import PySem.Challenge.RW_stickytiles_k13_no_rows
set_option maxHeartbeats 8000000
set_option maxRecDepth 100000
open PySem renaming wpAny_bind→Aa,wpAny_pure→Ae,wpAny_newObj_type→AG,wpAny_field→AK,wpAny_mono→AL,mem_of_lookup→AO,wpAny_holding→AY,wpAny_callSpecial?_slot→A2,wpAny_call_entry→A8,wpAny_truthy_bool→Bl,wpAny_loadPart_at→Bv,wpAny_setField→BC,wpAny_standAt→BL,wpAny_typeNameOfWhole_keyiter→BM,wpAny_seqItems→BP,wpAny_Call_Name_kw→BS,wpAny_setField_rec→B0,wpAny_execs_nil→B1,wpAny_typeOf→B8,wpAny_getItem_str_slice→Cd,tupleKind_room_in1→Ci,sizeLine_eq→Cv,wpAny_passesOwn→CC,post_val_or_str→CF,wpAny_rule→CM,wpAny_pyIter_list→CU,wpAny_pyNext_list_item→CY,wpAny_attempt→C0,plainId_quiet→C1,wpAny_execs_cons→C2,wpAny_pyNext_list_end→C6,builtinLookup_eq_fast→C9,wpAny_notOrdered_dict→Da,codeAny_mono→Df,pushCells_keeps→Di,wpAny_updateSeq_pair→Do,codeAny_builtin→Dp,wpAny_isSubtype_exc→Dv,wpAny_newList→DK,wpAny_onRaise→DL,wpAny_sequenceKey→DP,wpAny_dictEntries→DS,wpAny_call→DT,wpAny_pyNext_tuple_item→D9,typeLookup_type→Eg,wpAny_dictEpoch→Eh,wpAny_pyNext_tuple_end→Ej,wpAny_isTrue_Compare1→Ew,wpAny_newTuple→EC,wpAny_isOneOf_keyiter→EH,codeAny_handlers_test→EI,codeAny_call_builtin→ES,evalPart_none→EU,wpAny_Tuple_spliced→EW,wpAny_dictSet_pairs→EY,wpAny_handleBy_cons→Fc,seqIndex_neg→Fj,sub_AttributeError→Fo,wpAny_entryPlaceOf→Fq,wpAny_assign_Name→Ft,wpAny_Assign_Name→Fv,wpAny_pyIter_enum→FB,wpAny_frameOf_fun→FE,seqIndex_of→FH,wpAny_letGo→FJ,wpAny_Name→FU,typeIs_str→FV,call_meets→FW,call→FX
open PySem.W renaming Frag→Ab,keepIn→Bz,fnOf→BU,codeIn→CN,callWith_K→DC,KitAt→DI,methodObj→DN,kitx_dict→DR,cellsFrom_some→Ek,nsIn→Fk,kitx_list→Fy,kat_kind→FQ,kas_ask→F6,lookIn→Ge,kitOne→Gg
open PySem.Heap renaming get?_push_of_some→Ac,lt_size→Ai,get?_push_size→Ap,get?_update_other→AI,get?_update_self→A0,size_push→BB,SameBut→B7,get?_none_of_le→De,ExtBut→Es,get?_update_ne→E3,get?_push_at→FD,size_update→FS,MadeExcOf→Gh
open Option renaming bind_some→Ad,map_some→A6,isSome_map→Cn,getD_some→C3,isNone_none→DE,isNone_iff_eq_none→DW,isSome_some→Fg,getD_none→FN,map_none→Gc,bind→GA,map→GD
open List renaming length_map→Af,getElem?_eq_getElem→Ag,mem_cons_of_mem→Aj,append_assoc→Ak,append_nil→Al,mem_cons_self→An,getElem?_append_left→Ao,getD_eq_getElem?_getD→Au,getElem?_set_ne→Ax,map_cons→Ay,length_cons→Az,size_toArray→AA,getElem?_map→AB,range→AC,mem_of_getElem?→AF,getElem?_set_self→AH,mem_append_right→AM,getElem?_append_right→AS,length_append→AU,find?_cons→AW,not_mem_nil→AX,lookup_cons→A1,map_map→A3,replicate→A5,mem_cons→A7,length_nil→Bf,map_append→Bi,length_take→Bp,getElem_mem→Bq,length_set→Bx,length_replicate→BG,length_filter_le→BI,map_nil→BK,filterMap_cons→BN,take_length→BQ,toArray→BZ,mem_append_left→B6,getElem?_replicate→Cc,drop_eq_nil_of_le→Cj,eq_nil_of_length_eq_zero→Cm,getElem?_set→Co,length_range→Cp,take_add_one→Cq,any_cons→Cs,getElem_of_mem→Cw,mergeSort_perm→Cy,drop_eq_getElem_cons→CD,nil_append→CI,forIn_nil→CP,getElem?_cons_zero→CS,reverse_cons→CW,all_eq_true→C5,length_singleton→C8,of_mem_zip→Dg,range_succ→Dq,getElem?_range→Dt,map_congr_left→Du,contains_cons→DF,filter_append→DG,zipIdx_cons→D2,filter_cons→D3,pairwise_mergeSort→Ec,getElem?_cons_succ→Ed,forIn_cons→Ee,foldl_cons→Ei,lookup→Eu,drop_zero→Ex,getElem?_toArray→Ey,countP_mono_left→Ez,mem_of_mem_take→ER,length_reverse→EZ,replicate_succ→Fd,flatten_append→Fe,filterMap_map→Fh,mem_map→Fs,nodup_append→Fw,getElem?_inj→Fx,foldl_append→FC,length→FG,length_drop→FM,countP_cons→FP,getElem_map→FR,nodup_cons→FY,zipIdx_nil→F8,length_zip→F9,filter_nil→Ga,mem_filter→Gd,nodup_nil→Gf,mem_range→Gi,all_cons→Gp,sum_cons→Gs,map_take→Gu,map_drop→Gv
open Nat renaming le_refl→Ah,ne_of_lt→Ar,lt_of_lt_of_le→Av,le_trans→Aw,lt_irrefl→AR,zero_le→Bd,ne_of_gt→Bs,le_of_lt→BJ,lt_trans→BV,lt_of_le_of_lt→BX,le_of_succ_le→B5,le_add_right→B9,le_succ→Ck,succ_le_succ→C4,sub_self→Dh,add_le_add_left→Ds,lt_succ_of_lt→DQ,min_le_right→DZ,le_of_eq→D0,mul_le_mul→EK,log2_lt→FI,add_mul→FL,lt_succ_self→FO,min_le_left→F3,not_lt_zero→F5
open Bool renaming and_eq_true→Am,false_ne_true→Bm,false_eq_true→By,not_eq_true'→BF,and_comm→DM,not_false→EJ,or_eq_true→FZ,and_true→Gq
open Option.some renaming inj→Aq
open PySem.Value renaming ref→As,none→AD,builtin→Cg,bool→Dc,int→DA,str→Gj,isStrOf→Gm,isInt→Gy
open PySem.NameKind renaming free→AE,cell→AQ
open PySem.Obj renaming mapFields→AJ,isFreed_of_fields→Bc,data_mapFields→Bo,mapSeq→BA,cls_mapFields→FA
open PySem.Builtin.SmallTypes renaming nextOf→AN,ownedTupleIsFree→BD,ownedTupleHandOut→CL
open PySem.Builtin.Int renaming intBits→AV
open Ne renaming symm→AZ
open PySem.Builtin.Slice renaming slicePlaces→A4,sliceAdjust→Bw,sliceApplied→B4,sliceFields→DU
open PySem.Builtin.Tuple renaming tupleExact→A9,tupleItemsOf→Ct
open Or renaming inr→Ba,inl→Bg
open PySem.PyData renaming strOk→Bb,canLay0→Bt,canLayAll0→BE,showable→CH,depth→CK,eqv→Dk,intsShortAll→Dx,showableAll→DH,intsShort→D7,weightAll→D8,depthAll→Ef,weight→EV,int→GF
open PyProof.Rows renaming slot_tuple_getitem→Be,callWith_type1→BR,slot_tupleiter_next→CA,entry_tuple_getitem→Dr,assignInOrder_cons→DB,args_tuple_getitem→DD,listUpdate_at→DJ,subscriptTail_builtinR→Ep,seqEpoch_at→Er,Subscript_→EL,entry_tupleiter_next→EO,tupleItemsOf_→ET,args_tupleiter_next→EX,assignInOrder_nil→Fu
open PySem.PassesOwn renaming never→Bj
open Prod.mk renaming inj→Bk
open PySem.Paired renaming length→Br,snoc→Gz
open Int renaming toNat_natCast→Bu,emod_lt_of_pos→BH,emod_nonneg→B2,toNat_of_nonneg→Cz,eq_ofNat_of_zero_le→CT,le_refl→CZ,le_trans→Dl,le_of_lt→Dm,le_antisymm→F4
open Array renaming length_toList→BO,getD_eq_getD_getElem?→BY,getElem?_toList→EB,toList→Gw
open PySem.Str renaming ofString→BW
open PySem.Calls renaming Name_function_global→B3,spliced_cons→CJ,loadGlobal_global→CQ,spliced_nil→DO,call_function_entry→DV,callWith_builtin→Em,evalArgs_plain→EM
open PySem.AutoSeq1 renaming wpAny_loadPart'→Ca
open PySem.Builtin.Str renaming occurrences→Cb
open PySem.Builtin.Dict renaming updateFrom→Cf,addKeywords→D4,selfAndRest→D5,pairItems→Et,showsAll→EG
open PySem.Around renaming under_plainId→Cr,under→DX
open Sum renaming inl→Cu,inr→Dy
open PySem.Heap.SameBut renaming update→CB
open Array.Perm renaming refl→CG
open True renaming intro→CO
open List.Pairwise renaming nil→CV
open PySem.F renaming slot_dict_get→C7,args_tuple_add_2→DY,args_dict_get_2→Ea,entry_tuple_add→Eb,entry_dict_get→El,slot_tuple_add→Eo
open ForInStep renaming yield→Dj
open PySem.EntryCells renaming newEntry→Dw
open PySem.Builtin.Dict_items renaming ownsTuple→Dz
open PySem.Txt renaming slice_le→D1,slice→Gk
open Nat.succ renaming inj→D6
open PySem.W.Looks renaming of_pure→EA
open PySem.Heap.IsList renaming «at»→EF
open PySem.W.KasFin renaming intro→EN
open PySem.Code renaming isFrame→Ff,quiet_builtin→Fp,isGuard→Gx
open PySem.Heap.IsSliceOf renaming new→Fi
open PySem.Heap.IsListIter renaming «at»→Fm
open PyProof.Rows.Fr renaming set→Fn
open PySem.W.UpdF renaming head→Fz
open StateT renaming run_pure→F7
open PySem.Heap.DictOf renaming new→Gb
open PySem.W.KatTups renaming cons→GB,nil→GG
open PyProof.Rows.SortSt renaming mk'→GC
set_option Elab.async false
noncomputable section
namespace L2
open PySem PySem.Spec PyProof.Rows
def zcF(s:Stmt):Arguments:=match s with
 | .FunctionDef _ a _ _ _ _ _ _ _ _=>a
 | _=>{ posonlyargs:=[],args:=[],vararg:=none,kwonlyargs:=[],kw_defaults:=[],kwarg:=none,defaults:=[] }
def zbl(s:Stmt):List Stmt:=match s with
 | .FunctionDef _ _ b _ _ _ _ _ _ _=>b
 | _=>[]
def zar(s:Stmt):Scope:=match s with
 | .FunctionDef _ _ _ _ _ _ sc _ _ _=>sc
 | _=>{ kind:=.function,names:=[],isGenerator:=false,isCoroutine:=false }
end L2
namespace L2.MP.Hx
open PySem L2 PySem.W PyProof.Rows
def frag(h:Heap):Frag:=(AC h.objs.size).filterMap fun a=>(h.get? a).map fun o=>(a,o)
def nsL(g:Addr->Option Obj)(ns:Addr)(x:Str):Option (Option Value):=match g ns with
 | some ⟨_,_,.dict es _,_⟩=>(match es.toList.find? (·.key.isStr x) with
     | some e=>some<|some e.val
     | none=>if es.toList.any (·.refKey) then none else some none)
 | _=>none
def ztc(g:Addr->Option Obj)(cd:Value)(q:Str):Bool:=match cd with
 | .ref c=>(match g c with
     | some ⟨_,_,.fields vs,_⟩=>(match vs.toList with | _::.str n _::_=>n==q | _=>false)
     | _=>false)
 | _=>false
def fnL(g:Addr->Option Obj)(x:Str):Option (FuncData×Bool):=match nsL g mainGlobals x with
 | some (some<|.ref f)=>(match g f with
     | some ⟨_,_,.func fd,_⟩=>some ({ fd with kwdefaults:=.none,doc:=.none,pyModule:=.none,annotations:=none,code:=.none,closureTuple:=.none },ztc g fd.code x)
     | _=>none)
 | _=>none
def fnD(x:Str)(st:Stmt):Option (FuncData×Bool):=some (fnOf x x (zcF st) (zbl st) (zar st) .none .none .none .none none .none .none,true)
def coL(v:Option (Option Value)):Option (Str ⊕ Int):=match v with
 | some (some<|.str s _)=>some<|.inl s
 | some (some<|.int i _)=>some<|.inr i
 | _=>none
def seenG(g:Addr->Option Obj)(fns:List (Str×Stmt))(bl:List Str)(co:List (Str×(Str ⊕ Int))):List (Option<|FuncData×Bool)×List (Option<|Option Value)×List (Option<|Str ⊕ Int) :=
 (fns.map fun p=>fnL g p.1,bl.map fun x=>nsL g mainGlobals x,co.map fun c=>coL (nsL g mainGlobals c.1))
def dueG(fns:List (Str×Stmt))(bl:List Str)(co:List (Str×(Str ⊕ Int))):List (Option<|FuncData×Bool)×List (Option<|Option Value)×List (Option<|Str ⊕ Int) :=
 (fns.map fun p=>fnD p.1 p.2,bl.map fun _=>some none,co.map fun c=>some c.2)
def inClass(s:Stmt)(i:Nat):Stmt:=match s with
 | .ClassDef _ _ _ b _ _ _ _ _ _ _=>b.getD i<|.Pass ⟨0,0,0,0⟩
 | _=>.Pass ⟨0,0,0,0⟩
def zhB:List Value:=[.type "ValueError",.type "Exception",.type "BaseException",.type "object"]
def nnV:List Str:=["__init__","__setattr__","number","line"]
def clsE(K:Frag)(C:Addr):Option (ClassData×Addr×Array DictEntry):=match K.lookup C with
 | some ⟨.type t,_,.cls cd,⟨[_,_,_,_,some (.builtin n),_]⟩⟩=>if t="type"/\n="ValueError.__new__"/\cd.hasDel=false/\cd.hasDict=true then (match K.lookup cd.ns with
     | some ⟨_,_,.dict es _,_⟩=>if es.toList.all (fun e=>match e.key with | .str _ _=>true | _=>false)=true then some (cd,C,es) else none
     | _=>none) else none
 | _=>none
def exkB(K:Frag)(C:Addr):Bool:=findIn K (.ref C) "__getattribute__"==some (some<|.builtin "BaseException.__getattribute__")&&findIn K (.ref C) "__getattr__"==some none&&findIn K (.ref C) "__class__"==some (some<|.builtin "object.__class__")
&&mroIn K C (.type "object")==some true&&mroIn K C (.type "BaseException")==some true&&keepIn K (.ref C)&&kitOne K (.ref C) (.type "ValueError")==some true&&hasDictIn K C
def gsB(K:Frag):Bool:=specialIn K (.builtin "object.__class__") "__get__"==some (some<|.builtin "getset_descriptor.__get__")&&takesIn K (.builtin "object.__class__")==some true
structure ED where
 c:Str
 f:Option (Str×Stmt)
def zrl(K:Frag)(qual:Str)(v:Option Value):Option (FuncData×Bool):=match v with
 | some (.ref f)=>(match K.lookup f with
     | some ⟨.type t,_,.func fd,_⟩=>if t="function" then some ({ fd with kwdefaults:=.none,doc:=.none,pyModule:=.none,annotations:=none,code:=.none,closureTuple:=.none },codeIn K fd.code qual) else none
     | _=>none)
 | _=>none
def zrm(qual:Str)(st:Stmt):Option (FuncData×Bool):=some (fnOf "__init__" qual (zcF st) (zbl st) (zar st) .none .none .none .none none .none .none,true)
def zfQ(K:Frag)(c:Str):Option Addr:=match nsIn K mainGlobals c with
 | some (some<|.ref C)=>some C
 | _=>none
noncomputable abbrev OneT:=Bool×Option (FuncData×Bool)
def oneL(K:Frag)(T:Addr)(d:ED):OneT:=match zfQ K d.c with
 | some C=>(match clsE K C with
     | some (cd,_,es)=>(exkB K C&&(cd.mro==.ref C::(if d.c="TileError" then zhB else .ref T::zhB))&&(if d.f.isSome then nnV.tail else nnV).all (fun n=>(nsFind es n).isNone)&&(match d.f with
           | some (f,_)=>findIn K (.ref C) f==some none&&fastLookup "ValueError" f==some none
           | none=>true),match d.f with
           | some _=>zrl K (d.c++".__init__") (nsFind es "__init__")
           | none=>none)
     | none=>(false,none))
 | none=>(false,none)
def oneD(d:ED):OneT:=(true,match d.f with
 | some (_,st)=>zrm (d.c++".__init__") st
 | none=>none)
def subS(c y:Str):Bool:=decide (c=y) || decide (y="TileError")
def zrV(K:Frag)(c y:Str):Bool:=match zfQ K c,zfQ K y with
 | some C,some D=>kitOne K (.ref C) (.ref D)==some (subS c y)
 | _,_=>false
def errL(K:Frag)(ds:List ED):Bool×List OneT:=match zfQ K "TileError" with
 | some T=>(gsB K&&(ds.all fun d=>ds.all fun e=>zrV K d.c e.c),ds.map fun d=>oneL K T d)
 | none=>(false,[])
def errD(ds:List ED):Bool×List OneT:=(true,ds.map oneD)
noncomputable abbrev Sn (p q:Program) (l:List Str) (X:Shared->Bool) (s:Shared):=openSeen q l (importedModules p.main.body) X true s
noncomputable abbrev Rn {β:Type} (p:Program) (N:Nat) (f:Shared->β) (b:World->β):Prop:=∀ w,(openEnds treeTable p w N).map f=some (b w)
theorem left_of{p q:Program}{l:List Str}{X:Shared->Bool}{α:Type}{Y:Shared->α}{Z:World->α}{N:Nat}(h1:Rn p N (fun s=>(Sn p q l X s).1) fun _=>(openGood q l).1)(h2:Rn p N (fun s=>((Sn p q l X s).2.1,(Sn p q l X s).2.2.1)) fun _=>((openGood q l).2.1,(openGood q l).2.2.1))(h3:Rn p N (fun s=>((Sn p q l X s).2.2.2.1,(Sn p q l X s).2.2.2.2.1)) fun _=>((openGood q l).2.2.2.1,(openGood q l).2.2.2.2.1))(h4:Rn p N (fun s=>((Sn p q l X s).2.2.2.2.2.1,(Sn p q l X s).2.2.2.2.2.2.1)) fun _=>((openGood q l).2.2.2.2.2.1,(openGood q l).2.2.2.2.2.2.1))(h5:Rn p N (fun s=>(Sn p q l X s).2.2.2.2.2.2.2) fun _=>(openGood q l).2.2.2.2.2.2.2)(h6:Rn p N Y Z):LeftO p q l X Y Z N:=fun w=>by
 specialize h1 w;specialize h2 w;specialize h3 w;specialize h4 w;specialize h5 w;specialize h6 w
 generalize openEnds treeTable p w N=o at *
 cases o with
 | none=>cases h1
 | some s=>
  obtain⟨a,b⟩:=Prod.mk.inj (Option.some.inj h2)
  obtain⟨c,d⟩:=Prod.mk.inj (Option.some.inj h3)
  obtain⟨e,f⟩:=Prod.mk.inj (Option.some.inj h4)
  exact congrArg some (looks_pair (looks_pair (Option.some.inj h1) (looks_pair a (looks_pair b (looks_pair c (looks_pair d (looks_pair e (looks_pair f (Option.some.inj h5)))))))) (Option.some.inj h6))
end L2.MP.Hx
namespace L2.MP.T0
open PySem L2 PySem.Spec PyProof.Rows PySem.W
def top(i:Nat):Stmt:=PySem.Challenge.pw_stickytiles_k13_no_rows.main.body.getD i<|.Pass ⟨0,0,0,0⟩
def fns:List (Str×Stmt):=("is_whole",top 1)::("is_tuple",top 2)::("is_place",top 3)::("is_tile",top 4)::("places_around",top 19)::("sides_of",top 20)::("kinds_by_place",top 21)::("names_facing",top 22)::("strength_together",top 23)::("is_growing",top 24)::("grown",top 26)::("is_row",top 27)::("_law_begin",top 29)::("_law_draw",top 30)::("_law_names",top 31)::("_law_kind",top 32)::("_law_house",top 33)::("_law_standing",top 34)::("_law_bed",top 35)::("_law_lying",top 36)::("_law_standing_of",top 37)::("_law_step",top 38)::("_law_sides",top 39)::("_law_by",top 40)::("_law_empty",top 41)::("_law_may",top 42)::("_law_walk",top 43)::("_law_spoilt",top 44)::("_law_first_bad",top 45)::("_law_told",top 46)::("law",top 47)::[]
def bls:List Str:=["isinstance","int","bool","tuple","len","enumerate","zip","sum","dict","sorted","all","range","ValueError","min","repr"]
def cos:List (Str×(Str ⊕ Int)):=[]
def ers:List Hx.ED:=[⟨"TileError",none⟩,⟨"NoGrowing",some ("number",Hx.inClass (top 7) 0)⟩,⟨"NoText",some ("line",Hx.inClass (top 8) 0)⟩,⟨"NoPlace",none⟩,⟨"Taken",none⟩,⟨"NoKind",none⟩,⟨"NotHeld",none⟩,⟨"NothingBack",none⟩,⟨"NotSure",none⟩,⟨"TooMany",none⟩,⟨"NotFramed",none⟩,⟨"NoLine",none⟩]
def vw:Program:=view PySem.Challenge.pw_stickytiles_k13_no_rows [1,2,3,4,6,7,8,9,10,11,12,13,14,15,16,17,19,20,21,22,23,24,26,27,29,30,31,32,33,34,35,36,37,38,39,40,41,42,43,44,45,46,47]
noncomputable abbrev sX:Shared->Bool:=fun s=>xlAt vw [] s&&recOk [] s
noncomputable abbrev sO (s:Shared):=Hx.Sn PySem.Challenge.pw_stickytiles_k13_no_rows vw [] sX s
theorem sr1:Hx.Rn PySem.Challenge.pw_stickytiles_k13_no_rows 20000 (fun s=>((sO s).1)) fun _=>((openGood vw []).1):=fun w=>by kernel_rfl
theorem sr2:Hx.Rn PySem.Challenge.pw_stickytiles_k13_no_rows 20000 (fun s=>((sO s).2.1,(sO s).2.2.1)) fun _=>((openGood vw []).2.1,(openGood vw []).2.2.1):=fun w=>by kernel_rfl
theorem sr3:Hx.Rn PySem.Challenge.pw_stickytiles_k13_no_rows 20000 (fun s=>((sO s).2.2.2.1,(sO s).2.2.2.2.1)) fun _=>((openGood vw []).2.2.2.1,(openGood vw []).2.2.2.2.1):=fun w=>by kernel_rfl
theorem sr4:Hx.Rn PySem.Challenge.pw_stickytiles_k13_no_rows 20000 (fun s=>((sO s).2.2.2.2.2.1,(sO s).2.2.2.2.2.2.1)) fun _=>((openGood vw []).2.2.2.2.2.1,(openGood vw []).2.2.2.2.2.2.1):=fun w=>by kernel_rfl
theorem sr5:Hx.Rn PySem.Challenge.pw_stickytiles_k13_no_rows 20000 (fun s=>((sO s).2.2.2.2.2.2.2)) fun _=>((openGood vw []).2.2.2.2.2.2.2):=fun w=>by kernel_rfl
theorem sr6:Hx.Rn PySem.Challenge.pw_stickytiles_k13_no_rows 20000 (fun s=>((Hx.seenG s.heap.get? fns bls cos,Hx.errL (Hx.frag s.heap) ers))) fun _=>((Hx.dueG fns bls cos,Hx.errD ers)):=fun w=>by kernel_rfl
def zog:LeftO PySem.Challenge.pw_stickytiles_k13_no_rows vw [] sX (fun s=>(Hx.seenG s.heap.get? fns bls cos,Hx.errL (Hx.frag s.heap) ers)) (fun _=>(Hx.dueG fns bls cos,Hx.errD ers)) 20000:=Hx.left_of sr1 sr2 sr3 sr4 sr5 sr6
end L2.MP.T0
set_option linter.all false
namespace L2
open PySem PySem.Spec PyProof.Rows
noncomputable abbrev Key:=Sum Int Str
def znI:Key->Value->Bool
 | .inl k,v=>Gy k v
 | .inr x,v=>Gm x v
def keyH(w:World):Key->Int
 | .inl k=>hashInt k
 | .inr x=>hashStr w x
def zbc:∀ {k:Key} {v:Value},znI k v=true->(∃ i t,k=Cu i/\v=DA i t)\/(∃ x t,k=Dy x/\v=Gj x t)
 | .inl i,v,h=>by obtain⟨t,e⟩:=Value.isInt_shape (k:=i) (v:=v) h;exact .inl ⟨i,t,rfl,e⟩
 | .inr x,v,h=>by obtain⟨t,e⟩:=Value.isStrOf_shape (x:=x) (v:=v) h;exact .inr ⟨x,t,rfl,e⟩
def zky(i:Int)(t:Tok):znI (.inl i) (.int i t)=true:=by simp[znI,Gy]
def zkx(x:Str)(t:Tok):znI (.inr x) (.str x t)=true:=by simp[znI,Gm]
def zrd(a b:Int):decide ((Cu a:Key)=Cu b)=(a==b):=by
 by_cases e:a=b
 . subst e;simp
 have h:¬ (Cu a:Key)=Cu b:=fun q=>e<|Sum.inl.inj q;rw[decide_eq_false h];exact (beq_eq_false_iff_ne.mpr e).symm
def zra(a b:Str):decide ((Dy a:Key)=Dy b)=decide (a=b):=by
 by_cases e:a=b
 . subst e;simp
 have h:¬ (Dy a:Key)=Dy b:=fun q=>e<|Sum.inr.inj q;rw[decide_eq_false h,decide_eq_false e]
def zrc(a:Int)(b:Str):decide ((Cu a:Key)=Dy b)=false:=decide_eq_false fun q=>nomatch q
def zrb(a:Str)(b:Int):decide ((Dy a:Key)=Cu b)=false:=decide_eq_false fun q=>nomatch q
def zaz(prog:Program)(w:World):PySem.KeyKind prog w Key where
 is:=znI
 hash:=keyH w
 inj:=fun v a b ha hb=>by
   rcases zbc ha with ⟨i,t,rfl,rfl⟩ | ⟨x,t,rfl,rfl⟩
   . rcases zbc hb with ⟨j,u,rfl,e⟩ | ⟨y,u,rfl,e⟩
     . injection e with e1 _;rw[e1]
     exact nomatch e
   . rcases zbc hb with ⟨j,u,rfl,e⟩ | ⟨y,u,rfl,e⟩
     . exact nomatch e
     injection e with e1 _;rw[e1]
 byValue:=fun k v h=>by rcases zbc h with ⟨i,t,rfl,rfl⟩ | ⟨x,t,rfl,rfl⟩ <;> rfl
 pyHash:=fun hv h=>by
   rcases zbc hv with ⟨i,t,rfl,rfl⟩ | ⟨x,t,rfl,rfl⟩
   . exact wpAny_pyHash_int h
   exact wpAny_pyHash_str h
 eqBool:=fun hu hv h=>by
   rcases zbc hu with ⟨i,t,rfl,rfl⟩ | ⟨x,t,rfl,rfl⟩
   . rcases zbc hv with ⟨j,u,rfl,rfl⟩ | ⟨y,u,rfl,rfl⟩
     . rw[zrd] at h;exact wpAny_eqBool_int h
     rw[zrc] at h;exact SeqAt.EqAt.int_str i t y u _ _ _ _ h
   . rcases zbc hv with ⟨j,u,rfl,rfl⟩ | ⟨y,u,rfl,rfl⟩
     . rw[zrb] at h;exact SeqAt.EqAt.str_int x t j u _ _ _ _ h
     rw[zra] at h;exact wpAny_eqBool_str h
 «strs»:=fun k x t v h=>by
   rcases zbc h with ⟨i,u,rfl,e⟩ | ⟨y,u,rfl,e⟩
   . exact nomatch e
   . injection e with e1 _
     subst e1
     cases v <;> rfl
def zhn(prog:Program)(w:World)(i:Int)(t:Tok):(zaz prog w).is (.inl i) (.int i t)=true:=zky i t
def zhm(prog:Program)(w:World)(x:Str)(t:Tok):(zaz prog w).is (.inr x) (.str x t)=true:=zkx x t
inductive V where
 | non | bl (b:Bool) | int (i:Int) | str (x:Str) | byt (b:Array UInt8) | flt (b:UInt64) | ref (a:Addr) | ty (n:String)
 deriving DecidableEq
def RelV:V->Value->Prop
 | .non,u=>u=AD
 | .bl b,u=>u=Dc b
 | .int i,u=>∃ t,u=DA i t
 | .str x,u=>∃ t,u=Gj x t
 | .byt b,u=>∃ t,u=Value.bytes b t
 | .flt b,u=>∃ t,u=Value.float b t
 | .ref a,u=>u=As a
 | .ty n,u=>u=Value.type n
noncomputable abbrev Vals:List V->List Value->Prop:=Paired RelV
variable {us:List Value}
def Vals.length{xs:List V}{us:List Value}(r:Vals xs us):xs.length=us.length:=Br r
def Vals.get:∀ {xs:List V} {us:List Value} {i:Nat} {x:V},Vals xs us->xs[i]?=some x->∃ u,us[i]?=some u/\RelV x u
 | _,_,_,_,.nil,e=>by simp at e
 | _,_,0,_,.cons r _,e=>by simp at e;subst e;exact⟨_,rfl,r⟩
 | _,_,i+1,x,.cons _ t,e=>by obtain⟨u,h1,h2⟩:=Vals.get (i:=i) (x:=x) t (by simpa using e);exact⟨u,by simpa using h1,h2⟩
variable {u:Value}
def Vals.set{x:V}{u:Value}(r:RelV x u):∀ {xs:List V} {us:List Value} (i:Nat),Vals xs us->Vals (xs.set i x) (us.set i u)
 | _,_,_,.nil=>.nil
 | _,_,0,.cons _ t=>.cons r t
 | _,_,i+1,.cons q t=>.cons q<|Vals.set r i t
def Vals.append:∀ {xs ys:List V} {us ws:List Value},Vals xs us->Vals ys ws->Vals (xs++ys) (us++ws)
 | _,_,_,_,.nil,s=>s
 | _,_,_,_,.cons r t,s=>.cons r<|Vals.append t s
def Vals.take:∀ {xs:List V} {us:List Value} (n:Nat),Vals xs us->Vals (xs.take n) (us.take n)
 | _,_,0,_=>.nil
 | _,_,_+1,.nil=>.nil
 | _,_,n+1,.cons r t=>.cons r<|Vals.take n t
def Vals.drop:∀ {xs:List V} {us:List Value} (n:Nat),Vals xs us->Vals (xs.drop n) (us.drop n)
 | _,_,0,r=>r
 | _,_,_+1,.nil=>.nil
 | _,_,n+1,.cons _ t=>Vals.drop n t
def RelO:Option V->Option Value->Prop
 | some v,some u=>RelV v u
 | none,none=>True
 | _,_=>False
variable {κ:Type}
def KV:List (κ×V)->List (κ×Value)->Prop:=Paired fun (p:κ×V) (q:κ×Value)=>p.1=q.1/\RelV p.2 q.2
def kV:Key->V
 | .inl i=>.int i
 | .inr x=>.str x
inductive HO where
  | lst (xs:List V)
  | tup (xs:List V)
  | dK (kvs:List (Key×V)) | dT (kvs:List (List Key×V))
  | set (S:Int->Bool) (n:Nat)
  | ins (C dx:Addr) (fs:List (Str×V))
  | own (x:Addr)
  | xd (fs:List (Str×V))
  | met (f x:Addr)
  | rng (lo hi:Int)
  | frz (o:Obj) (u:HO)
  | tbl (ps:Array Value)
  | ext (φ:Heap->Prop)
noncomputable abbrev Hp:=Addr->Option HO
def upd(H:Hp)(a:Addr)(o:HO):Hp:=fun b=>if b=a then some o else H b
variable {H:Hp}{a:Addr}{o:HO}
def zaC:upd H a o a=some o:=by unfold upd;rw[if_pos rfl]
variable {b:Addr}
def zan(h:b≠a):upd H a o b=H b:=by unfold upd;rw[if_neg h]
def znP{u:HO}:upd (upd H a o) a u=upd H a u:=by funext b;unfold upd;split <;> rfl
def zjv{u:HO}(h:H a=some o)(h':H b=some u)(d:o≠u):a≠b:=by intro e;subst e;rw[h] at h';exact d<|Aq h'
def zaq(h:H a=some o)(h':H b=none):a≠b:=by intro e;subst e;rw[h] at h';cases h'
def zcP(h:Heap)(a:Addr)(items:Array Value):Prop:=∃ o,h.get? a=some o/\o.cls=.type "tuple"/\o.dict=none/\∃ n,o.data=.seq items n
variable {h:Heap}{items:Array Value}
def zcP.t(x:zcP h a items):IsTup h a items:=let ⟨o,ho,hc,_,r⟩:=x;⟨o,ho,hc,r⟩
variable {h':Heap}
def zcP.keeps(x:zcP h a items)(hk:∀ b o,h.get? b=some o->h'.get? b=some o):zcP h' a items:=let ⟨o,ho,r⟩:=x;⟨o,hk a o ho,r⟩
def zcP.new(h:Heap)(items:Array Value):zcP (h.push { cls:=.type "tuple",data:=.seq items }) h.objs.size items:=⟨_,Ap _ rfl,rfl,rfl,0,rfl⟩
section
variable (P:Program) (w:World)
def zdu(H:Hp)(h:Heap)(a:Addr):HO->Prop
 | .lst xs=>xs.length<=sizeLine/\∃ (its:List Value) (n:Nat),Vals xs its/\h.get? a=some { cls:=.type "list",data:=.seq its.toArray n }
 | .tup xs=>xs.length<=sizeLine/\∃ its:List Value,Vals xs its/\zcP h a its.toArray
 | .dK kvs=>kvs.length<=sizeLine/\(a==sysModules)=false/\∃ vs,KV kvs vs/\h.DictOf (zaz P w) a vs
 | .dT kvs=>kvs.length<=sizeLine/\(a==sysModules)=false/\∃ xs:List (List Key×Addr×Value),
     Paired (fun (p:List Key×V) (q:List Key×Addr×Value)=>p.1=q.1/\H q.2.1=some (.tup<|p.1.map kV)/\RelV p.2 q.2.2) kvs xs /\
     ∃ o es ep,h.get? a=some o/\o.ExactDict/\o.data=.dict es ep/\es.toList=xs.map (entryOfKey<|tupleKind<|zaz P w)/\(xs.map (·.1)).Nodup
 | .set S n=>h.SetOf (intKind P w) a S n
 | .ins C dx fs=>H dx=some (.own a)/\fs.length<=1000/\dx≠a/\h.get? a=some (PySem.W.instObj C dx) /\
     ∃ mA,h.Ns1 dx mA/\(∀ f,RelO (fs.lookup f) (mA f))/\PySem.Within mA (fs.map (·.1))
 | .own _=>∃ o,h.get? a=some o
 | .xd fs=>∃ mA,h.Ns1 a mA/\∀ f,RelO (fs.lookup f) (mA f)
 | .rng lo hi=>∃ t u v,h.get? a=some { cls:=.type "range",data:=.fields #[.int lo t,.int hi u,.int 1 v] }
 | .frz o u=>h.get? a=some o/\zdu H h a u
 | .tbl ps=>h.get? a=some { cls:=.none,data:=.fields ps }
 | .met f x=>h.get? a=some (DN (.ref f)<|.ref x)
 | .ext φ=>φ h/\(∃ o,h.get? a=some o)/\∀ h1 h2:Heap,φ h1->(∀ o,h1.get? a=some o->h2.get? a=some o)->φ h2
def HOk(H:Hp)(h:Heap):Prop:=∀ a o,H a=some o->zdu P w H h a o
end
variable {P:Program}{w:World}{H':Hp}{α:Type}
def zdu.lt(x:zdu P w H h a o):a < h.objs.size:=by
 cases o with
 | lst xs=>obtain⟨_,_,_,_,e⟩:=x;exact Ai e
 | tup xs=>obtain⟨_,_,_,p⟩:=x;exact p.t.lt
 | dK kvs=>obtain⟨_,_,_,_,o,_,_,e,_⟩:=x;exact Ai e
 | dT kvs=>obtain⟨_,_,_,_,o,_,_,e,_⟩:=x;exact Ai e
 | set S n=>obtain⟨o,_,_,_,e,_⟩:=x;exact Ai e
 | ins C dx fs=>obtain⟨_,_,_,e,_⟩:=x;exact Ai e
 | own y=>obtain⟨_,e⟩:=x;exact Ai e
 | xd fs=>obtain⟨_,⟨_,_,_,e,_⟩,_⟩:=x;exact Ai e
 | rng lo hi=>obtain⟨_,_,_,e⟩:=x;exact Ai e
 | frz ob u=>obtain⟨e,_⟩:=x;exact Ai e
 | tbl ps=>exact Ai (show h.get? a=some _ from x)
 | met f y=>exact Ai (show h.get? a=some _ from x)
 | ext φ=>obtain⟨_,⟨_,e⟩,_⟩:=x;exact Ai e
def Paired.mapP{α β:Type}{F G:α->β->Prop}:∀ {l₁:List α} {l₂:List β},Paired F l₁ l₂->(∀ a b,F a b->G a b)->Paired G l₁ l₂
 | _,_,.nil,_=>.nil
 | _,_,.cons r t,f=>.cons (f _ _ r)<|Paired.mapP t f
def zdu.stay(x:zdu P w H h a o)(k:∀ b u,(b=a\/H b=some (.own a))->h.get? b=some u->h'.get? b=some u)
   (ho:∀ b,H b=some (.own a)->H' b=some (.own a)) (ht:∀ b xs,H b=some (.tup xs)->H' b=some (.tup xs)):zdu P w H' h' a o:=by
 induction o with
 | lst xs=>obtain⟨z,its,n,r,e⟩:=x;exact⟨z,its,n,r,k _ _ (.inl rfl) e⟩
 | tup xs=>obtain⟨z,its,r,ob,e,c⟩:=x;exact⟨z,its,r,ob,k _ _ (.inl rfl) e,c⟩
 | dK kvs=>obtain⟨z,y,vs,r,ob,es,ep,e,c⟩:=x;exact⟨z,y,vs,r,ob,es,ep,k _ _ (.inl rfl) e,c⟩
 | dT kvs =>
   obtain⟨z,y,xs,r,ob,es,ep,e,c⟩:=x;exact⟨z,y,xs,Paired.mapP r fun p q z=>⟨z.1,ht _ _ z.2.1,z.2.2⟩,ob,es,ep,k _ _ (.inl rfl) e,c⟩
 | set S n=>obtain⟨ob,es,ep,t,e,c⟩:=x;exact⟨ob,es,ep,t,k _ _ (.inl rfl) e,c⟩
 | ins C dx fs =>
   obtain⟨d,z,ne,e,mA,⟨od,es,ep,e2,c⟩,r⟩:=x;exact⟨ho _ d,z,ne,k _ _ (.inl rfl) e,mA,⟨od,es,ep,k _ _ (.inr d) e2,c⟩,r⟩
 | own y=>obtain⟨ob,e⟩:=x;exact⟨ob,k _ _ (.inl rfl) e⟩
 | xd fs=>obtain⟨mA,⟨od,es,ep,e,c⟩,r⟩:=x;exact⟨mA,⟨od,es,ep,k _ _ (.inl rfl) e,c⟩,r⟩
 | rng lo hi=>obtain⟨t,u,v,e⟩:=x;exact⟨t,u,v,k _ _ (.inl rfl) e⟩
 | frz ob u ih=>obtain⟨e,q⟩:=x;exact⟨k _ _ (.inl rfl) e,ih q⟩
 | tbl ps =>
   have e:h.get? a=some { cls:=.none,data:=.fields ps }:=x;show h'.get? a=some { cls:=.none,data:=.fields ps };exact k a _ (.inl rfl) e
 | met f y =>
   have e:h.get? a=some (DN (.ref f)<|.ref y):=x;show h'.get? a=some (DN (.ref f)<|.ref y);exact k a _ (.inl rfl) e
 | ext φ=>obtain⟨p,⟨o,e⟩,st⟩:=x;exact⟨st _ _ p fun o q=>k _ _ (.inl rfl) q,⟨o,k _ _ (.inl rfl) e⟩,st⟩
def HOk.lt(x:HOk P w H h)(e:H a=some o):a < h.objs.size:=(x a o e).lt
def HOk.fresh(x:HOk P w H h)(e:h.objs.size<=a):H a=none:=by
 cases q:H a with
 | none=>rfl
 | some u=>exact absurd (Av (x.lt q) e)<|AR _
def HOk.kept(x:HOk P w H h)(k:∀ b u,h.get? b=some u->h'.get? b=some u):HOk P w H h':=fun a o e =>
 (x a o e).stay (fun b u _ q=>k b u q) (fun _ q=>q) fun _ _ q=>q
def HOk.laid(x:HOk P w H h)(k:∀ b u,h.get? b=some u->h'.get? b=some u)(hp:h.objs.size<=a)(new:zdu P w (upd H a o) h' a o):HOk P w (upd H a o) h':=fun b u e=>by
 have hn:=x.fresh hp
 by_cases hb:b=a
 . subst hb;rw[zaC] at e;cases e;exact new
 rw[zan hb] at e;exact (x b u e).stay (fun c v _ q=>k c v q) (fun c q=>by rw[zan (zaq q hn)];exact q) fun c xs q=>by rw[zan (zaq q hn)];exact q
def Rd(H:Hp)(a:Addr)(u:HO):Prop:=H a=some u\/∃ o,H a=some (.frz o u)
def Rd.ok{u:HO}(r:Rd H a u)(x:HOk P w H h):zdu P w H h a u:=by
 rcases r with r | ⟨o,r⟩
 . exact x a u r
 obtain⟨_,q⟩:=x a _ r;exact q
def Mut:Option HO->Prop
 | some (.lst _)=>True
 | some (.dK _)=>True
 | some (.dT _)=>True
 | some (.set _ _)=>True
 | some (.ins _ _ _)=>True
 | some (.ext _)=>True
 | _=>False
section
variable {x e:Addr} {o':HO}
def HOk.write(ok:HOk P w H h)(mu:Mut (H x))(he:e=x\/H e=some (.own x))(k:∀ b u,b≠e->h.get? b=some u->h'.get? b=some u)(heo:∃ u,h'.get? e=some u)
   (new:zdu P w (upd H x o') h' x o'):HOk P w (upd H x o') h':=fun b u q=>by
 have nown:∀ c y,H c=some (.own y)->c≠x:=fun c y r z=>by subst z;rw[r] at mu;exact mu
 have ntup:∀ c xs,H c=some (.tup xs)->c≠x:=fun c xs r z=>by subst z;rw[r] at mu;exact mu
 by_cases hb:b=x
 . subst hb;rw[zaC] at q;cases q;exact new
 . rw[zan hb] at q
   by_cases hbe:b=e
   . have q':H b=some (.own x):=by
       rcases he with z | z
       . exact absurd (hbe.trans z) hb
       rw[hbe];exact z
     rw[q] at q';cases q';obtain⟨v,hv⟩:=heo;exact⟨v,by rw[hbe];exact hv⟩
   . refine (ok b u q).stay (fun c v hc r=>k c v ?_ r) (fun c r=>by rw[zan (nown c b r)];exact r) fun c xs r=>by rw[zan (ntup c xs r)];exact r
     rcases hc with rfl | hc
     . exact hbe
     . rintro rfl
       rcases he with z | z
       . exact nown c b hc z
       rw[hc] at z;cases z;exact hb rfl
end
structure Un(fs ex:List Addr)(H H':Hp)(h h':Heap):Prop where
 keep:∀ b o,h.get? b=some o->H b=none->b ∉ fs->b ∉ ex->h'.get? b=some o
 slot:∀ b o,h.get? b=some o->H b=none->b∈fs->b ∉ ex->∃ sl,h'.get? b=some { o with slots:=sl }
 free:∀ b o,h.get? b=some o->H b=none->b ∉ ex->H' b=none
 there:∀ b o,h.get? b=some o->b ∉ ex->∃ o',h'.get? b=some o'
 tups:∀ b xs,H b=some (.tup xs)->H' b=some (.tup xs)
 frzs:∀ b o u,H b=some (.frz o u)->H' b=some (.frz o u)
 tbls:∀ b ps,H b=some (.tbl ps)->∃ more,H' b=some (.tbl (ps++more))
section
variable {fs fs' ex ex':List Addr} {H1 H2:Hp} {h1 h2:Heap} {x e:Addr}
def Un.any(u:Un fs ex H H1 h h1){ob:Obj}(q:h.get? b=some ob)(n:H b=none)(hx:b ∉ ex):∃ sl,h1.get? b=some { ob with slots:=sl }:=by
 by_cases hb:b∈fs
 . exact u.slot b ob q n hb hx
 exact⟨ob.slots,u.keep b ob q n hb hx⟩
def Un.kept(k:∀ b u,h.get? b=some u->h'.get? b=some u):Un fs ex H H h h' :=
 ⟨fun b ob q _ _ _=>k b ob q,fun b ob q _ _ _=>⟨ob.slots,k b ob q⟩,fun _ _ _ n _=>n,fun b ob q _=>⟨ob,k b ob q⟩,fun _ _ q=>q,fun _ _ _ q=>q,fun _ ps q=>⟨#[],by rw[q];simp⟩⟩
def Un.refl:Un fs ex H H h h:=Un.kept fun _ _ q=>q
def Un.laid(k:∀ b u,h.get? b=some u->h'.get? b=some u)(hp:h.objs.size<=a)(hn:H a=none):Un fs ex H (upd H a o) h h' where
 keep:=fun b u q _ _ _=>k b u q
 slot:=fun b u q _ _ _=>⟨u.slots,k b u q⟩
 free:=fun b u q n _=>by rw[zan (Ar<|Av (Ai q) hp)];exact n
 there:=fun b u q _=>⟨u,k b u q⟩
 tups:=fun b xs q=>by rw[zan (zaq q hn)];exact q
 frzs:=fun b u xs q=>by rw[zan (zaq q hn)];exact q
 tbls:=fun b ps q=>⟨#[],by rw[zan (zaq q hn),q];simp⟩
def Un.write(mu:Mut (H x))(he:e=x\/H e=some (.own x))(k:∀ b u,b≠e->h.get? b=some u->h'.get? b=some u)(heo:∃ u,h'.get? e=some u):Un fs ex H (upd H x o) h h':=by
 have hx:∀ b,H b=none->b≠x:=fun b n z=>by subst z;rw[n] at mu;exact mu
 have hb:∀ b,H b=none->b≠e:=fun b n z=>by
   subst z
   rcases he with r | r
   . exact hx b n r
   rw[n] at r;cases r
 have hm:∀ b u,H b=some u->¬ Mut (some u)->b≠x:=fun b u q nm z=>by subst z;rw[q] at mu;exact nm mu
 refine⟨fun b u q n _ _=>k b u (hb b n) q,fun b u q n _ _=>⟨u.slots,k b u (hb b n) q⟩,fun b u q n _=>by rw[zan (hx b n)];exact n,fun b u q _=>?_,
   fun b xs q=>by rw[zan (hm b _ q fun z=>z)];exact q,fun b u xs q=>by rw[zan (hm b _ q fun z=>z)];exact q,fun b ps q=>⟨#[],by rw[zan (hm b _ q fun z=>z),q];simp⟩⟩
 by_cases hbe:b=e
 . subst hbe;exact heo
 exact⟨u,k b u hbe q⟩
end
def trk(h:Heap)(H:Hp):List Addr:=(AC h.objs.size).filter fun a=>(H a).isSome
def hidT(h:Heap)(H:Hp):Heap:=PySem.W.hideAll h<|trk h H
def zkB(h:Heap)(H:Hp):(hidT h H).objs.size=h.objs.size:=PySem.W.hideAll_size _ _
def zm6{o:Obj}(e:h.get? b=some o)(n:H b=none):(hidT h H).get? b=some o :=
 PySem.W.hideAll_get _ e fun hm=>by have q:(H b).isSome=true:=(List.mem_filter.mp hm).2;rw[n] at q;simp at q
def zoO{o:Obj}(e:(hidT h H).get? b=some o):h.get? b=some o/\H b=none:=by
 have e':h.get? b=some o:=PySem.W.of_hideAll (trk h H) e;refine⟨e',?_⟩
 cases q:H b with
 | none=>rfl
 | some x =>
   have hm:b∈trk h H:=List.mem_filter.mpr ⟨List.mem_range.mpr<|Ai e',by simp[q]⟩;have z:(hidT h H).get? b=none:=PySem.W.hideAll_none (trk h H) hm;rw[z] at e;cases e
def zd1(g h:Heap)(L:Addr):List (Addr×Obj):=(AC h.objs.size).filterMap fun a=>if a=L\/(g.get? a).isSome=true then none else (h.get? a).map fun o=>(a,o)
variable {g:Heap}{L:Addr}
def zde{o:Obj}(h1:a≠L)(h2:g.get? a=none)(h3:h.get? a=some o):(a,o)∈zd1 g h L :=
 List.mem_filterMap.mpr ⟨a,List.mem_range.mpr<|Ai h3,by simp[h1,h2,h3]⟩
def zeZ{p:Addr×Obj}(hp:p∈zd1 g h L):p.1≠L/\g.get? p.1=none/\h.get? p.1=some p.2:=by
 obtain⟨b,_,e⟩:=List.mem_filterMap.mp hp
 split at e
 . cases e
 . rename_i hn
   cases q:h.get? b with
   | none=>rw[q] at e;simp at e
   | some u =>
     rw[q] at e;simp only[A6,Option.some.injEq] at e;subst e;refine⟨fun z=>hn (.inl z),?_,q⟩;show g.get? b=none
     cases r:g.get? b with
     | none=>rfl
     | some v=>exact (hn<|.inr<|by simp[r]).elim
def zf9:News g L h (zd1 g h L):=fun p hp=>let ⟨a,b,c⟩:=zeZ hp;⟨c,a,b⟩
structure Mod(K:Ab)(mg:Str->Option Value)(base:Heap):Prop where
 kin:K.In base
 glob:base.Ns mainGlobals mg
 blt:∃ mb,base.Ns builtinsNs mb/\∀ x:Str,x≠"__name__"->mb x=bootBuiltins x
 nolimit:base.NoLimit
structure Cx where
 prog:Program
 w:World
 K:Ab
 mg:Str->Option Value
 base:Heap
 A:Around
 N:List Str
 s₀:Shared
 H₀:Hp
 env:Env
 outer:List Env
 stack:List Env
 ex:List Addr
 fn:Str->Bool
 calm:Bool
 pn:List (Addr×Obj)
 xe:Value->Shared->Prop
def frs(l:List Env):List Addr:=l.filterMap (·.frame)
noncomputable abbrev Cx.fs (X:Cx):List Addr:=frs X.outer
def Vis(sc:Scope)(x:Str):Prop:=sc.names.lookup x=some .local\/sc.names.lookup x=some .cell\/sc.names.lookup x=some .free
def Loc(sc:Scope)(x:Str):Prop:=sc.names.lookup x=some .local\/sc.names.lookup x=some .cell
def Look(env:Env)(h:Heap)(m:Str->Option Value)(x:Str)(u:Value):Prop :=
 (env.kindOf x=some .local/\m x=some u)\/((env.kindOf x=some .cell\/env.kindOf x=some .free)/\∃ c,env.cells.lookup x=some c/\h.IsCell c (some u))
structure Cx.Ok(X:Cx):Prop where
 mod:Mod X.K X.mg X.base
 kind:X.env.scope.kind=.function
 glob:X.env.globals=mainGlobals
 blt:X.env.builtins=builtinsNs
 above:X.s₀.heap.objs.size<=X.env.locals
 inj:∀ x y c,X.env.cells.lookup x=some c->X.env.cells.lookup y=some c->x=y
 has:∀ x,(X.env.kindOf x=some .cell\/X.env.kindOf x=some .free)->∃ c,X.env.cells.lookup x=some c
 cab:∀ x c,X.fn x=true->X.env.cells.lookup x=some c->X.s₀.heap.objs.size<=c
 hd:X.calm=true->X.A.handled=none
 frames:X.A.frames=some X.stack
 stk:X.stack=X.outer\/(X.stack=X.env::X.outer/\X.env.frame=some X.env.locals)
 exf:∀ b∈X.ex,b≠X.env.locals/\∀ x c,X.env.cells.lookup x=some c->c≠b
 bs:∀ b o,X.base.get? b=some o->X.s₀.heap.get? b=some o/\X.H₀ b=none
 bsz:X.base.objs.size<=X.s₀.heap.objs.size
 noex:∀ b o,X.base.get? b=some o->b ∉ X.ex
 exfs:∀ b∈X.ex,b ∉ X.fs
 funs:X.s₀.heap.FunFrames X.base X.outer
 frf:∀ b∈X.fs,X.H₀ b=none
structure Inv(X:Cx)(pins:List (Addr×Obj))(σ:List (Option V))(H:Hp)(s:Shared):Prop where
 ok:X.Ok
 os:s.os=X.s₀.os
 bare:AllBare s.gens
 base:Un X.fs X.ex X.H₀ H X.s₀.heap s.heap
 loc:∃ m,s.heap.Ns X.env.locals m/\∀ (i:Nat) (x:Str) (v:V),X.N[i]?=some x->σ[i]?=some (some v)->Vis X.env.scope x->∃ u,RelV v u/\Look X.env s.heap m x u
 cell:∀ x c,X.env.cells.lookup x=some c->∃ v,s.heap.IsCell c v
 free:H X.env.locals=none
 freeC:∀ x c,X.env.cells.lookup x=some c->H c=none
 pin:∀ p∈X.pn++pins,s.heap.get? p.1=some p.2/\H p.1=none/\p.1≠X.env.locals/\p.1 ∉ X.fs/\∀ v,p.2.data≠.cell v
 hok:HOk X.prog X.w H s.heap
 len:σ.length=X.N.length
variable {x:Str}{X:Cx}{pins:List (Addr×Obj)}{s s':Shared}{g':Array GenState}{t' i j:Nat}{d':Drawn}{ch:List Addr}{it:Addr}{N:List Str}{M:Model}{A:Around}{E:Value->Shared->Prop}{v:V}
section
variable {σ:List (Option V)}
def Cx.Ok.nofr(ok:X.Ok){o:Obj}(e:X.base.get? b=some o):b ∉ X.fs:=fun hb=>by have:=(ok.funs.mem hb).1;rw[e] at this;cases this
def Inv.bs(I:Inv X pins σ H s):∀ b o,X.base.get? b=some o->s.heap.get? b=some o/\H b=none:=fun b o e =>
 ⟨I.base.keep b o (I.ok.bs b o e).1 (I.ok.bs b o e).2 (I.ok.nofr e)<|I.ok.noex b o e,I.base.free b o (I.ok.bs b o e).1 (I.ok.bs b o e).2<|I.ok.noex b o e⟩
def Inv.bk(I:Inv X pins σ H s):∀ b o,X.base.get? b=some o->s.heap.get? b=some o:=fun b o e=>(I.bs b o e).1
def Inv.mod(I:Inv X pins σ H s):Mod X.K X.mg X.base:=I.ok.mod
def Inv.kIn(I:Inv X pins σ H s):X.K.In s.heap:=I.ok.mod.kin.keeps I.bk
def Inv.fr(I:Inv X pins σ H s):∃ m,Fr X.base X.env.locals s.heap m :=
 let ⟨m,hn,_⟩:=I.loc
 ⟨m,hn,I.bk,Aw I.ok.bsz I.ok.above⟩
def Inv.lt(I:Inv X pins σ H s):X.env.locals < s.heap.objs.size:=let ⟨_,hn,_⟩:=I.loc;hn.lt
def Inv.sz(I:Inv X pins σ H s):X.s₀.heap.objs.size<=s.heap.objs.size:=Aw I.ok.above<|BJ I.lt
def Inv.nofs(I:Inv X pins σ H s)(h:s.heap.objs.size<=a):a ∉ X.fs:=fun hb=>by obtain⟨_,o,ho,_⟩:=I.ok.funs.mem hb;exact absurd (Av (Ai ho)<|Aw I.sz h)<|AR _
def Inv.cne(I:Inv X pins σ H s):∀ x c,X.env.cells.lookup x=some c->c≠X.env.locals:=fun x c e z=>by obtain⟨v,o,ho,hd⟩:=I.cell x c e;obtain⟨m,⟨o',es,ep,ho',hd',_⟩,_⟩:=I.loc;rw[z,ho'] at ho;cases ho;rw[hd'] at hd;cases hd
def Inv.funs(I:Inv X pins σ H s):s.heap.FunFrames X.base X.outer:=by
 have all:∀ (l:List Env),(∀ b∈frs l,b∈X.fs)->X.s₀.heap.FunFrames X.base l->s.heap.FunFrames X.base l:=by
   intro l
   induction l with
   | nil=>intro _ _;trivial
   | cons env r ih =>
     intro hs hl;obtain⟨hk,⟨L,o,hf,hn,ho,hd⟩,hr⟩:=hl;have hL:L∈X.fs:=hs L (by unfold frs;rw[BN,hf];exact An);obtain⟨sl,e⟩:=I.base.slot L o ho (I.ok.frf L hL) hL fun z=>I.ok.exfs L z hL;exact⟨hk,⟨L,_,hf,hn,e,hd⟩,ih (fun b hb=>hs b (by unfold frs;rw[BN,hf];exact Aj _ hb)) hr⟩
 exact all X.outer (fun _ hb=>hb) I.ok.funs
def Inv.stack(I:Inv X pins σ H s):s.heap.FunFrames X.base X.stack:=by
 rcases I.ok.stk with e | ⟨e,hf⟩
 . rw[e];exact I.funs
 rw[e];obtain⟨m,hn,_⟩:=I.loc;refine .cons (by rw[I.ok.kind];decide) hf hn ?_ I.funs;exact De<|Aw I.ok.bsz I.ok.above
def Inv.stkSub(I:Inv X pins σ H s):∀ b∈frs X.stack,b∈X.env.locals::X.fs:=fun b hb=>by
 rcases I.ok.stk with e | ⟨e,hf⟩
 . rw[e] at hb;exact Aj _ hb
 rw[e] at hb;unfold frs at hb;rw[BN,hf] at hb;exact hb
def Inv.stkFree(I:Inv X pins σ H s):∀ b∈frs X.stack,H b=none:=fun b hb=>by
 rcases List.mem_cons.mp (I.stkSub b hb) with e | hb
 . rw[e];exact I.free
 obtain⟨_,o,ho,_⟩:=I.ok.funs.mem hb;exact I.base.free b o ho (I.ok.frf b hb) fun z=>I.ok.exfs b z hb
def Inv.step{ch:List Addr}(I:Inv X pins σ H s)
   (hch:∀ b∈ch,(b∈X.ex\/X.s₀.heap.objs.size<=b)/\b≠X.env.locals/\(∀ x c,X.env.cells.lookup x=some c->c≠b)/\∀ p∈X.pn++pins,p.1≠b)
   (keep:∀ b o,b≠X.env.locals->b ∉ X.fs->b ∉ ch->s.heap.get? b=some o->H b=none->h'.get? b=some o)
   (slot:∀ b o,b≠X.env.locals->b∈X.fs->b ∉ ch->s.heap.get? b=some o->H b=none->∃ sl,h'.get? b=some { o with slots:=sl }) (free:∀ b o,b ∉ ch->s.heap.get? b=some o->H b=none->H' b=none)
   (there:∀ b o,b ∉ ch->s.heap.get? b=some o->∃ o',h'.get? b=some o')
   (tups:∀ b xs,H b=some (.tup xs)->H' b=some (.tup xs)) (frzs:∀ b o u,H b=some (.frz o u)->H' b=some (.frz o u)) (tbls:∀ b ps,H b=some (.tbl ps)->∃ more,H' b=some (.tbl<|ps++more))
   (ns:∀ m,s.heap.Ns X.env.locals m->h'.Ns X.env.locals m) (hok:HOk X.prog X.w H' h') (hg:AllBare g') :
   Inv X pins σ H' { s with heap:=h',gens:=g',drawn:=d',toks:=t' }:=by
 have neL:∀ b o,X.s₀.heap.get? b=some o->b≠X.env.locals:=fun b o e=>Ar<|Av (Ai e) I.ok.above;have neC:∀ b o,X.s₀.heap.get? b=some o->b ∉ X.ex->b ∉ ch:=fun b o e hx hb=>by
   rcases (hch b hb).1 with z | z
   . exact hx z
   exact absurd (Av (Ai e) z)<|AR _
 have cellK:∀ x c,X.env.cells.lookup x=some c->∀ v,s.heap.IsCell c v->h'.IsCell c v:=by
   rintro x c e v ⟨o,ho,hd⟩;have nch:c ∉ ch:=fun z=>(hch c z).2.2.1 x c e rfl
   by_cases hc:c∈X.fs
   . obtain⟨sl,q⟩:=slot c o (I.cne x c e) hc nch ho<|I.freeC x c e;exact⟨_,q,hd⟩
   exact⟨o,keep c o (I.cne x c e) hc nch ho<|I.freeC x c e,hd⟩
 refine⟨I.ok,I.os,hg,⟨fun b o e n hb hx=>?_,fun b o e n hb hx=>?_,fun b o e n hx=>?_,fun b o e hx=>?_,fun b xs e=>tups b xs (I.base.tups b xs e),fun b o xs e=>frzs b o xs (I.base.frzs b o xs e),fun b ps e=>?_⟩,?_,fun x c e=>?_,?_,fun x c e=>?_,fun p hp=>?_,hok,I.len⟩
 . exact keep b o (neL b o e) hb (neC b o e hx) (I.base.keep b o e n hb hx)<|I.base.free b o e n hx
 . obtain⟨sl,e1⟩:=I.base.slot b o e n hb hx;obtain⟨sl',e2⟩:=slot b _ (neL b o e) hb (neC b o e hx) e1<|I.base.free b o e n hx;exact⟨sl',e2⟩
 . obtain⟨o',e1⟩:=I.base.there b o e hx;exact free b o' (neC b o e hx) e1<|I.base.free b o e n hx
 . obtain⟨o',e1⟩:=I.base.there b o e hx;exact there b o' (neC b o e hx) e1
 . obtain⟨m1,e1⟩:=I.base.tbls b ps e;obtain⟨m2,e2⟩:=tbls b _ e1;exact⟨m1++m2,by rw[e2,Array.append_assoc]⟩
 . obtain⟨m,hn,hl⟩:=I.loc;refine⟨m,ns m hn,fun i x v e1 e2 e3=>?_⟩;obtain⟨u,r,l⟩:=hl i x v e1 e2 e3;refine⟨u,r,?_⟩
   rcases l with l | ⟨k,c,e,z⟩
   . exact .inl l
   exact .inr ⟨k,c,e,cellK x c e _ z⟩
 . obtain⟨v,z⟩:=I.cell x c e;exact⟨v,cellK x c e v z⟩
 . obtain⟨m,⟨o,_,_,ho,_⟩,_⟩:=I.loc;exact free _ o (fun z=>(hch _ z).2.1 rfl) ho I.free
 . obtain⟨v,o,ho,hd⟩:=I.cell x c e;exact free c o (fun z=>(hch c z).2.2.1 x c e rfl) ho<|I.freeC x c e
 obtain⟨e,n,ne,nf,d⟩:=I.pin p hp;have nch:p.1 ∉ ch:=fun z=>(hch p.1 z).2.2.2 p hp rfl;exact⟨keep p.1 p.2 ne nf nch e n,free p.1 p.2 nch e n,ne,nf,d⟩
def Inv.un(I:Inv X pins σ H s)(u:Un X.fs [] H H' s.heap h')(hok:HOk X.prog X.w H' h'):Inv X pins σ H' { s with heap:=h',toks:=t' }:=by
 obtain⟨m,⟨o,es,ep,ho,r⟩,_⟩:=id I.loc;obtain⟨sl,hL⟩:=u.any ho I.free (by simp);exact I.step (g':=s.gens) (d':=s.drawn) (ch:=[]) (fun _ z=>nomatch z) (fun b o _ hb _ e n=>u.keep b o e n hb (by simp)) (fun b o _ hb _ e n=>u.slot b o e n hb (by simp)) (fun b o _ e n=>u.free b o e n (by simp)) (fun b o _ e=>u.there b o e (by simp)) u.tups u.frzs u.tbls (fun m' hm=>by obtain⟨o',es',ep',ho',r'⟩:=hm;rw[ho] at ho';cases ho';exact⟨_,es',ep',hL,r'⟩) hok I.bare
def Inv.call{ch:List Addr}(I:Inv X pins σ H s)(u:Un (frs X.stack) ch H H' s.heap h')(hok:HOk X.prog X.w H' h')(hg:AllBare g')
   (hch:∀ b∈ch,(b∈X.ex\/X.s₀.heap.objs.size<=b)/\b≠X.env.locals/\(∀ x c,X.env.cells.lookup x=some c->c≠b)/\∀ p∈X.pn++pins,p.1≠b) :
   Inv X pins σ H' { s with heap:=h',gens:=g',drawn:=d',toks:=t' }:=by
 obtain⟨m,⟨o,es,ep,ho,r⟩,_⟩:=id I.loc;obtain⟨sl,hL⟩:=u.any ho I.free fun z=>(hch _ z).2.1 rfl;exact I.step (ch:=ch) hch (fun b o hL hb hc e n=>u.keep b o e n (fun z=>(List.mem_cons.mp<|I.stkSub b z).elim hL hb) hc) (fun b o _ _ hc e n=>u.any e n hc) (fun b o hc e n=>u.free b o e n hc) (fun b o hc e=>u.there b o e hc) u.tups u.frzs u.tbls (fun m' hm=>by obtain⟨o',es',ep',ho',r'⟩:=hm;rw[ho] at ho';cases ho';exact⟨_,es',ep',hL,r'⟩) hok hg
def Inv.turned(I:Inv X pins σ H s)(k:∀ b o,b≠it->s.heap.get? b=some o->h'.get? b=some o)(hn:H it=none)(hL:it≠X.env.locals)
   (h1:it∈X.ex\/X.s₀.heap.objs.size<=it) (h2:∀ x c,X.env.cells.lookup x=some c->c≠it) (h3:∀ p∈X.pn++pins,p.1≠it):Inv X pins σ H { s with heap:=h',toks:=t' }:=by
 have nit:∀ b u,H b=some u->b≠it:=fun b u e z=>by rw[z,hn] at e;cases e
 refine I.step (g':=s.gens) (d':=s.drawn) (ch:=[it]) (fun b hb=>?_) (fun b o _ _ hc e _=>k b o (fun z=>hc (by simp[z])) e) (fun b o _ _ hc e _=>⟨o.slots,k b o (fun z=>hc (by simp[z])) e⟩) (fun _ _ _ _ n=>n)
   (fun b o hc e=>⟨o,k b o (fun z=>hc (by simp[z])) e⟩) (fun _ _ e=>e) (fun _ _ _ e=>e) (fun b ps e=>⟨#[],by rw[e];simp⟩) (fun m hm=>?_) (fun b u e=>?_) I.bare
 . have e:b=it:=by simpa using hb
   subst e;exact⟨h1,hL,h2,h3⟩
 . obtain⟨o,es,ep,ho,r⟩:=hm;exact⟨o,es,ep,k _ o (AZ hL) ho,r⟩
 . refine (I.hok b u e).stay (fun c v hc q=>k c v ?_ q) (fun _ q=>q) fun _ _ q=>q
   rcases hc with z | z
   . rw[z];exact nit b u e
   exact nit c _ z
def Inv.tok(I:Inv X pins σ H s)(t:Nat):Inv X pins σ H { s with toks:=t }:=I.un (h':=s.heap) (t':=t) Un.refl I.hok
def Inv.kept{t':Nat}(I:Inv X pins σ H s)(k:∀ b u,s.heap.get? b=some u->h'.get? b=some u):Inv X pins σ H { s with heap:=h',toks:=t' }:=I.un (Un.kept k)<|I.hok.kept k
def Inv.laid{a:Addr}{o:HO}{t':Nat}(I:Inv X pins σ H s)(k:∀ b u,s.heap.get? b=some u->h'.get? b=some u)(hp:s.heap.objs.size<=a)(new:zdu X.prog X.w (upd H a o) h' a o) :
   Inv X pins σ (upd H a o) { s with heap:=h',toks:=t' }:=I.un (Un.laid k hp<|I.hok.fresh hp) (I.hok.laid k hp new)
def Inv.write{x e:Addr}{o:HO}{t':Nat}(I:Inv X pins σ H s)(mu:Mut (H x))(he:e=x\/H e=some (.own x))(k:∀ b u,b≠e->s.heap.get? b=some u->h'.get? b=some u)(heo:∃ u,h'.get? e=some u)
   (new:zdu X.prog X.w (upd H x o) h' x o):Inv X pins σ (upd H x o) { s with heap:=h',toks:=t' }:=I.un (Un.write mu he k heo) (I.hok.write mu he k heo new)
def Inv.pins_of{pins':List (Addr×Obj)}(I:Inv X pins σ H s)(h:∀ p∈pins',s.heap.get? p.1=some p.2/\H p.1=none/\p.1≠X.env.locals/\p.1 ∉ X.fs/\∀ v,p.2.data≠.cell v):Inv X pins' σ H s :=
 ⟨I.ok,I.os,I.bare,I.base,I.loc,I.cell,I.free,I.freeC,fun p hp=>(List.mem_append.mp hp).elim (fun z=>I.pin p (B6 _ z)) (h p),I.hok,I.len⟩
def zf8(hN:N.Nodup)(a:N[i]?=some x)(b:N[j]?=some x):i=j:=by obtain⟨h1,e1⟩:=List.getElem?_eq_some_iff.mp a;obtain⟨h2,e2⟩:=List.getElem?_eq_some_iff.mp b;exact (List.getElem_inj hN).mp<|e1.trans e2.symm
def zgu{Q:Unit->Shared->Prop}(I:Inv X pins σ H s)(hN:X.N.Nodup)(hi:X.N[i]?=some x)(hx:Loc X.env.scope x)(r:RelV v u)
   (h:∀ s',Inv X pins (σ.set i<|some v) H s'->(∃ a,B7 a s.heap s'.heap/\(a=X.env.locals\/X.env.cells.lookup x=some a))->Q () s') (hf:X.fn x=true\/X.env.scope.names.lookup x=some .local:=by first | exact .inl rfl | exact .inr rfl | assumption):wpAny M A (storeName X.env x u) Q E s:=by
 obtain⟨m,hn,hl⟩:=id I.loc;have hcls:(X.env.scope.kind==.class || (X.env.scope.kind==.module&&X.env.locals != X.env.globals))=false:=by rw[I.ok.kind];rfl
 have hiσ:i < σ.length:=by rw[I.len];exact (List.getElem?_eq_some_iff.mp hi).1
 have cne:=I.cne;have tracked:∀ {a:Addr} {h':Heap},(∃ o,s.heap.get? a=some o/\H a=none)->B7 a s.heap h'->HOk X.prog X.w H h':=fun {a h'} ha hs b ob e=>by
   obtain⟨_,_,hfree⟩:=ha;refine (I.hok b ob e).stay (fun c w' hc q=>(hs.2 c ?_).trans q) (fun _ q=>q) fun _ _ q=>q;rintro rfl
   rcases hc with rfl | hc
   . rw[hfree] at e;cases e
   rw[hfree] at hc;cases hc
 rcases hx with hk | hk
 . refine wpAny_storeName_local hk hn (fun h' hn' hs=>?_) hcls;obtain⟨oL,_,_,hoL,_⟩:=id hn;refine h _ ⟨I.ok,I.os,I.bare,⟨fun b o e n hb hx=>?_,fun b o e n hb hx=>?_,I.base.free,fun b o e hx=>?_,I.base.tups,I.base.frzs,I.base.tbls⟩,⟨_,hn',fun j y v' e1 e2 e3=>?_⟩,fun y c e=>?_,I.free,I.freeC,fun p hp=>?_,tracked ⟨oL,hoL,I.free⟩ hs,by simpa using I.len⟩ ⟨_,hs,.inl rfl⟩
   . exact (hs.2 b<|Ar<|Av (Ai e) I.ok.above).trans<|I.base.keep b o e n hb hx
   . obtain⟨sl,e1⟩:=I.base.slot b o e n hb hx;exact⟨sl,(hs.2 b<|Ar<|Av (Ai e) I.ok.above).trans e1⟩
   . obtain⟨o',e1⟩:=I.base.there b o e hx;exact⟨o',(hs.2 b<|Ar<|Av (Ai e) I.ok.above).trans e1⟩
   . by_cases hj:j=i
     . subst hj;rw[hi] at e1;cases e1;rw[AH hiσ] at e2;cases e2;exact⟨u,r,.inl ⟨hk,by simp⟩⟩
     . rw[Ax (AZ hj)] at e2;obtain⟨u',r',q⟩:=hl j y v' e1 e2 e3;refine⟨u',r',?_⟩
       rcases q with ⟨k,e⟩ | ⟨k,c,e,z⟩
       . refine .inl ⟨k,?_⟩;have:y≠x:=fun e=>hj<|zf8 hN e1<|e ▸ hi;simp[this,e]
       exact .inr ⟨k,c,e,z.sameBut hs<|cne y c e⟩
   . obtain⟨w',z⟩:=I.cell y c e;exact⟨w',z.sameBut hs<|cne y c e⟩
   obtain⟨e,n,ne,nf,d⟩:=I.pin p hp;exact⟨(hs.2 p.1 ne).trans e,n,ne,nf,d⟩
 . have hfn:X.fn x=true:=by
     rcases hf with z | z
     . exact z
     rw[z] at hk;cases hk
   obtain⟨c,hc⟩:=I.ok.has x<|.inl hk;obtain⟨w',z⟩:=I.cell x c hc;refine wpAny_storeName_cell I.ok.kind hk hc z fun h' hc' hs=>?_;obtain⟨oc,hoc,hocd⟩:=id z;refine h { s with heap:=h' } ⟨I.ok,I.os,I.bare,⟨fun b o e n hb hx=>?_,fun b o e n hb hx=>?_,I.base.free,fun b o e hx=>?_,I.base.tups,I.base.frzs,I.base.tbls⟩,⟨m,hn.sameBut hs<|AZ<|cne x c hc,fun j y v' e1 e2 e3=>?_⟩,fun y c' e=>?_,I.free,I.freeC,fun p hp=>?_,tracked ⟨oc,hoc,I.freeC x c hc⟩ hs,by simpa using I.len⟩ ⟨c,hs,.inr hc⟩
   . exact (hs.2 b<|Ar<|Av (Ai e)<|I.ok.cab x c hfn hc).trans<|I.base.keep b o e n hb hx
   . obtain⟨sl,e1⟩:=I.base.slot b o e n hb hx;exact⟨sl,(hs.2 b<|Ar<|Av (Ai e)<|I.ok.cab x c hfn hc).trans e1⟩
   . obtain⟨o',e1⟩:=I.base.there b o e hx;exact⟨o',(hs.2 b<|Ar<|Av (Ai e)<|I.ok.cab x c hfn hc).trans e1⟩
   . by_cases hj:j=i
     . subst hj;rw[hi] at e1;cases e1;rw[AH hiσ] at e2;cases e2;exact⟨u,r,.inr ⟨.inl hk,c,hc,hc'⟩⟩
     . rw[Ax (AZ hj)] at e2;obtain⟨u',r',q⟩:=hl j y v' e1 e2 e3;refine⟨u',r',?_⟩
       rcases q with q | ⟨k,c',e,z'⟩
       . exact .inl q
       refine .inr ⟨k,c',e,z'.sameBut hs ?_⟩;rintro rfl;exact hj<|zf8 hN e1<|I.ok.inj _ _ _ e hc ▸ hi
   . by_cases hcc:c'=c
     . subst hcc;exact⟨_,hc'⟩
     obtain⟨w2,z2⟩:=I.cell y c' e;exact⟨w2,z2.sameBut hs hcc⟩
   obtain⟨e,n,ne,nf,d⟩:=I.pin p hp;refine⟨(hs.2 p.1 ?_).trans e,n,ne,nf,d⟩;intro q;rw[q,hoc] at e;have q':oc=p.2:=Aq e;exact d w' (by rw[<-q'];exact hocd)
def zc5{Q:Unit->Shared->Prop}(I:Inv X pins σ H s)(hN:X.N.Nodup)(hi:X.N[i]?=some x)(hx:Loc X.env.scope x)(r:RelV v u)
   (h:∀ s',Inv X pins (σ.set i<|some v) H s'->Q () s') (hf:X.fn x=true\/X.env.scope.names.lookup x=some .local:=by first | exact .inl rfl | exact .inr rfl | assumption):wpAny M A (storeName X.env x u) Q E s :=
 zgu I hN hi hx r (fun s' I' _=>h s' I') hf
def Inv.call'{ch:List Addr}(I:Inv X pins σ H s)(ho:s'.os=s.os)(u:Un (frs X.stack) ch H H' s.heap s'.heap)(hok:HOk X.prog X.w H' s'.heap)(hg:AllBare s'.gens)
   (hch:∀ b∈ch,(b∈X.ex\/X.s₀.heap.objs.size<=b)/\b≠X.env.locals/\(∀ x c,X.env.cells.lookup x=some c->c≠b)/\∀ p∈X.pn++pins,p.1≠b):Inv X pins σ H' s':=by
 obtain⟨h',g',d',t',o'⟩:=s';have e:o'=s.os:=ho;subst e;exact I.call (g':=g') (t':=t') (d':=d') u hok hg hch
end
noncomputable abbrev XK:=Value->Option Addr->Hp->Prop
noncomputable abbrev St:=List (Option V)
noncomputable abbrev VK:=V->Hp->Prop
noncomputable abbrev TE:=St->Hp->VK->Prop
noncomputable abbrev TT:=St->Hp->(Bool->Hp->Prop)->Prop
noncomputable abbrev TA:=St->Hp->(List V->Hp->Prop)->Prop
structure Ends where
 nx:St->Hp->Prop
 rt:VK
 bk:St->Hp->Prop:=fun _ _=>False
 ct:St->Hp->Prop:=fun _ _=>False
noncomputable abbrev TS:=Ends->St->Hp->Prop
def EP(X:Cx)(pins:List (Addr×Obj))(σ:St)(Q:VK)(u:Value)(s':Shared):Prop:=∃ v H',Inv X pins σ H' s'/\RelV v u/\Q v H'
def TP(X:Cx)(pins:List (Addr×Obj))(σ:St)(Q:Bool->Hp->Prop)(b:Bool)(s':Shared):Prop:=∃ H',Inv X pins σ H' s'/\Q b H'
def AP(X:Cx)(pins:List (Addr×Obj))(σ:St)(Q:List V->Hp->Prop)(us:List Value)(s':Shared):Prop:=∃ vs H',Inv X pins σ H' s'/\Vals vs us/\Q vs H'
def SP(X:Cx)(pins:List (Addr×Obj))(D:Ends)(f:Flow)(s':Shared):Prop :=
 match f with
 | .next=>∃ σ' H',Inv X pins σ' H' s'/\D.nx σ' H'
 | .brk=>∃ σ' H',Inv X pins σ' H' s'/\D.bk σ' H'
 | .cont=>∃ σ' H',Inv X pins σ' H' s'/\D.ct σ' H'
 | .ret u=>∃ v σ' H',Inv X pins σ' H' s'/\RelV v u/\D.rt v H'
def PE(X:Cx)(e:Expr)(t:TE):Prop :=
 ∀ (pins:List (Addr×Obj)) (s:Shared) (σ:St) (H:Hp) (Q:VK),Inv X pins σ H s->t σ H Q->wpAny (model X.prog X.w) X.A (eval e X.env) (EP X pins σ Q) X.xe s
def PT(X:Cx)(e:Expr)(t:TT):Prop :=
 ∀ (pins:List (Addr×Obj)) (s:Shared) (σ:St) (H:Hp) (Q:Bool->Hp->Prop),Inv X pins σ H s->t σ H Q->wpAny (model X.prog X.w) X.A (isTrue e X.env<|eval e X.env) (TP X pins σ Q) X.xe s
def PW(X:Cx)(e:Expr)(t:TT):Prop :=
 ∀ (whole:Sem Value) (pins:List (Addr×Obj)) (s:Shared) (σ:St) (H:Hp) (Q:Bool->Hp->Prop),Inv X pins σ H s->t σ H Q->wpAny (model X.prog X.w) X.A (isTrue e X.env whole) (TP X pins σ Q) X.xe s
variable {e:Expr}
def PW.pt{t:TT}(h:PW X e t):PT X e t:=h _
def PA(X:Cx)(es:List Expr)(t:TA):Prop :=
 ∀ (pos:Pos) (pins:List (Addr×Obj)) (s:Shared) (σ:St) (H:Hp) (Q:List V->Hp->Prop),Inv X pins σ H s->t σ H Q->wpAny (model X.prog X.w) X.A (spliced<|backTo pos<|starEach es X.env) (AP X pins σ Q) X.xe s
def PS(X:Cx)(st:Stmt)(t:TS):Prop :=
 ∀ (pins:List (Addr×Obj)) (s:Shared) (σ:St) (H:Hp) (D:Ends),Inv X pins σ H s->t D σ H->wpAny (model X.prog X.w) X.A (exec st X.env) (SP X pins D) X.xe s
def PSs(X:Cx)(st:List Stmt)(t:TS):Prop :=
 ∀ (pins:List (Addr×Obj)) (s:Shared) (σ:St) (H:Hp) (D:Ends),Inv X pins σ H s->t D σ H->wpAny (model X.prog X.w) X.A (execs st X.env) (SP X pins D) X.xe s
def thn{t:Sem α}{Q Q':α->Shared->Prop}{s:Shared}(h:wpAny M A t Q E s)(hQ:∀ a s,Q a s->Q' a s):wpAny M A t Q' E s:=AL h hQ fun _ _ x=>x
variable {σ:St}{Q:Value->Shared->Prop}{pos:Pos}{ta tb:TE}{op:CmpOp}{c:Expr}
section
def tVar(i:Nat):TE:=fun σ H Q=>∃ v,σ[i]?=some (some v)/\Q v H
def tC(v:V):TE:=fun _ H Q=>Q v H
def zoC(hN:X.N[i]?=some x)(hv:Vis X.env.scope x)(hd:(x==("__debug__":Str))=false:=by decide)(hcd:(x==("__classdict__":Str))=false:=by decide):PE X (.Name x pos) (tVar i):=by
 intro pins s σ H Q I h;obtain⟨v,e,h⟩:=h;obtain⟨m,hn,hl⟩:=I.loc;obtain⟨u,r,l⟩:=hl i x v hN e hv;have fin:EP X pins σ Q u s:=⟨v,H,I,r,h⟩
 rcases l with ⟨hk,hm⟩ | ⟨hk,c,hc,hcell⟩
 . exact FU (wpAny_loadName_local I.ok.kind hk hn hm fin) hd
 . rcases hk with hk | hk
   . exact FU (wpAny_loadName_cell I.ok.kind hk hc hcell fin) hd
   exact FU (wpAny_loadName_free I.ok.kind hk hc hcell fin hcd) hd
def zqO{i j pos}:PE X (.Constant (.int i) j pos) (tC<|.int i):=fun _ _ _ H _ I h=>wpAny_Constant_int ⟨.int i,H,I.tok _,⟨_,rfl⟩,h⟩
def zsH{b j pos}:PE X (.Constant (.bool b) j pos) (tC<|.bl b):=fun _ _ _ H _ I h=>Constant_bool ⟨.bl b,H,I,rfl,h⟩
def zqM{j pos}:PE X (.Constant .none j pos) (tC .non):=fun _ _ _ H _ I h=>Constant_none ⟨.non,H,I,rfl,h⟩
def zoD{x j pos}:PE X (.Constant (.str x) j pos) (tC<|.str x):=fun _ _ _ H _ I h=>Calls.Constant_str ⟨.str x,H,I.tok _,⟨_,rfl⟩,h⟩
def Gl(X:Cx)(x:Str):Prop:=X.env.kindOf x=some .globalImplicit
def zfx(I:Inv X pins σ H s)(hg:Gl X x)(hm:X.mg x=some u)(h:Q u s)
   (hd:(x==("__debug__":Str))=false:=by decide):wpAny (model X.prog X.w) X.A (eval (.Name x pos) X.env) Q E s :=
 B3 I.ok.kind hg (CQ (by rw[I.ok.glob];exact I.mod.glob.keeps I.bk) hm h) hd
def zhq(I:Inv X pins σ H s)(hg:Gl X x)(hm:X.mg x=none)(hv:bootBuiltins x=some u)(h:Q u s)
   (hn:x≠"__name__":=by decide) (hd:(x==("__debug__":Str))=false:=by decide):wpAny (model X.prog X.w) X.A (eval (.Name x pos) X.env) Q E s:=by
 obtain⟨mb,h1,h2⟩:=I.mod.blt;exact B3 I.ok.kind hg (Calls.loadGlobal_builtin (by rw[I.ok.glob];exact I.mod.glob.keeps I.bk) hm (by rw[I.ok.blt];exact h1.keeps I.bk) ((h2 x hn).trans hv) h) hd
def zoG(hg:Gl X x)(hm:X.mg x=some u)(r:RelV v u)(hd:(x==("__debug__":Str))=false:=by decide):PE X (.Name x pos) (tC v) :=
 fun _ _ _ H _ I h=>zfx I hg hm ⟨v,H,I,r,h⟩ hd
def zlg(hg:Gl X x)(hm:X.mg x=none)(hv:bootBuiltins x=some u)(r:RelV v u)(hn:x≠"__name__":=by decide)(hd:(x==("__debug__":Str))=false:=by decide):PE X (.Name x pos) (tC v) :=
 fun _ _ _ H _ I h=>zhq I hg hm hv ⟨v,H,I,r,h⟩ hn hd
variable {a b:Expr}
def PC(X:Cx)(op:CmpOp)(a b:Expr)(t:TE):Prop :=
 ∀ (pins:List (Addr×Obj)) (s:Shared) (σ:St) (H:Hp) (Q:VK),Inv X pins σ H s->t σ H Q ->
   wpAny (model X.prog X.w) X.A (eval a X.env) (fun v s₁=>wpAny (model X.prog X.w) X.A (eval b X.env) (fun u s₂=>wpAny (model X.prog X.w) X.A (compareOp op v u) (EP X pins σ Q) X.xe s₂) X.xe s₁) X.xe s
def tB(t:TE):TT:=fun σ H Q=>t σ H fun x H1=>∃ c,x=.bl c/\Q c H1
def zor{t:TE}(h:PC X op a b t)(h1:behindInMarks op b=false:=by first | exact nobehind _ (by decide) (by decide) | rfl):PT X (.Compare a [op] [b] pos) (tB t):=by intro pins s σ H Q I hw;refine Ew (thn (h pins s σ H _ I hw) fun v s1 h1=>thn h1 fun u s2 h2=>thn h2 ?_) h1;rintro c s3 ⟨x,H1,I1,r1,q1⟩;obtain⟨d,rfl,q⟩:=q1;cases r1;exact Bl ⟨H1,I1,q⟩
variable {tA tB':TT} {rest:List Expr}
def tAnd(t u:TT):TT:=fun σ H Q=>t σ H fun c H1=>if c=true then u σ H1 Q else Q false H1
def tOr(t u:TT):TT:=fun σ H Q=>t σ H fun c H1=>if c=true then Q true H1 else u σ H1 Q
def tNot(t:TT):TT:=fun σ H Q=>t σ H fun c H1=>Q (!c) H1
def pw_and1(ha:PT X a tA):PW X (.BoolOp .And [a] pos) tA:=by
 intro wh pins s σ H Q I h;refine isTrue_and<|thn (ha pins s σ H Q I h) fun c s1 e=>?_
 cases c with
 | true=>exact isTrue_and_nil e
 | false=>exact e
def pw_or1(ha:PT X a tA):PW X (.BoolOp .Or [a] pos) tA:=by
 intro wh pins s σ H Q I h;refine isTrue_or<|thn (ha pins s σ H Q I h) fun c s1 e=>?_
 cases c with
 | false=>exact isTrue_or_nil e
 | true=>exact e
def pw_and(ha:PT X a tA)(hb:PW X (.BoolOp .And (b::rest) pos) tB'):PW X (.BoolOp .And (a::b::rest) pos) (tAnd tA tB'):=by
 intro wh pins s σ H Q I h;refine isTrue_and<|thn (ha pins s σ H _ I h) ?_;rintro c s1 ⟨H1,I1,q1⟩
 cases c with
 | true=>exact hb wh pins s1 σ H1 Q I1 q1
 | false=>exact⟨H1,I1,q1⟩
def pw_or(ha:PT X a tA)(hb:PW X (.BoolOp .Or (b::rest) pos) tB'):PW X (.BoolOp .Or (a::b::rest) pos) (tOr tA tB'):=by
 intro wh pins s σ H Q I h;refine isTrue_or<|thn (ha pins s σ H _ I h) ?_;rintro c s1 ⟨H1,I1,q1⟩
 cases c with
 | true=>exact⟨H1,I1,q1⟩
 | false=>exact hb wh pins s1 σ H1 Q I1 q1
def zqA(ha:PT X a tA):PT X (.UnaryOp .Not a pos) (tNot tA):=by intro pins s σ H Q I h;exact isTrue_not<|ha pins s σ H (fun c H1=>Q (!c) H1) I h
def zso(ta tb:TE):TE:=fun σ H Q=>ta σ H fun x H1=>∃ c,x=.bl c/\if c=true then tb σ H1 Q else Q (.bl false) H1
def tOrV(ta tb:TE):TE:=fun σ H Q=>ta σ H fun x H1=>∃ c,x=.bl c/\if c=true then Q (.bl true) H1 else tb σ H1 Q
def zsi(ta:TE):TE:=fun σ H Q=>ta σ H fun x H1=>∃ c,x=.bl c/\Q (.bl<|!c) H1
def zoF{op}{t:TE}(h:PE X a t):PE X (.BoolOp op [a] pos) t:=fun pins s σ H Q I hw=>BoolOp_one<|h pins s σ H Q I hw
def zqQ(ha:PE X a ta)(hb:PE X (.BoolOp .And (b::rest) pos) tb):PE X (.BoolOp .And (a::b::rest) pos) (zso ta tb):=by
 intro pins s σ H Q I h;refine BoolOp_and<|thn (ha pins s σ H _ I h) ?_;rintro v s1 ⟨x,H1,I1,r1,q1⟩;obtain⟨c,rfl,q1⟩:=q1;cases r1;refine Bl ?_
 cases c with
 | true=>exact hb pins s1 σ H1 Q I1 q1
 | false=>exact⟨.bl false,H1,I1,rfl,q1⟩
def zsD(ha:PE X a ta)(hb:PE X (.BoolOp .Or (b::rest) pos) tb):PE X (.BoolOp .Or (a::b::rest) pos) (tOrV ta tb):=by
 intro pins s σ H Q I h;refine BoolOp_or<|thn (ha pins s σ H _ I h) ?_;rintro v s1 ⟨x,H1,I1,r1,q1⟩;obtain⟨c,rfl,q1⟩:=q1;cases r1;refine Bl ?_
 cases c with
 | false=>exact hb pins s1 σ H1 Q I1 q1
 | true=>exact⟨.bl true,H1,I1,rfl,q1⟩
def zqL(ha:PE X a ta):PE X (.UnaryOp .Not a pos) (zsi ta):=by intro pins s σ H Q I h;refine UnaryOp_<|thn (ha pins s σ H _ I h) ?_;rintro v s1 ⟨x,H1,I1,r1,q1⟩;obtain⟨c,rfl,q1⟩:=q1;cases r1;exact not_of<|Bl ⟨.bl<|!c,H1,I1,rfl,q1⟩
def tIf(t:TT)(ta tb:TE):TE:=fun σ H Q=>t σ H fun c H1=>if c=true then ta σ H1 Q else tb σ H1 Q
def zmx(hc:PT X c tA)(ha:PE X a ta)(hb:PE X b tb):PE X (.IfExp c a b pos) (tIf tA ta tb):=by
 intro pins s σ H Q I h;refine wpAny_IfExp<|thn (hc pins s σ H _ I h) ?_;rintro d s1 ⟨H1,I1,q1⟩
 cases d with
 | true=>exact ha pins s1 σ H1 Q I1 q1
 | false=>exact hb pins s1 σ H1 Q I1 q1
end
def SqL(K:Ab)(H:Hp)(a:Addr)(xs:List V):Prop :=
 Rd H a (.lst xs) \/
   ∃ (o:Obj) (its:Array Value) (n:Nat),K.lookup a=some o/\o.cls=.type "list"/\o.dict=none/\o.data=.seq its n/\its.size<=sizeLine/\Vals xs its.toList
def SqT(K:Ab)(H:Hp)(a:Addr)(xs:List V):Prop :=
 Rd H a (.tup xs) \/
   ∃ (o:Obj) (its:Array Value) (n:Nat),K.lookup a=some o/\o.cls=.type "tuple"/\o.data=.seq its n/\its.size<=sizeLine/\Vals xs its.toList
def absV:Value->Option V
 | .none=>some .non
 | .bool b=>some<|.bl b
 | .int i _=>some<|.int i
 | .str x _=>some<|.str x
 | .bytes b _=>some<|.byt b
 | .float b _=>some<|.flt b
 | .ref a=>some<|.ref a
 | .type n=>some<|.ty n
 | _=>none
def RelV.abs{x:V}(r:RelV x u):absV u=some x:=by
 cases x with
 | non=>cases r;rfl
 | bl _=>cases r;rfl
 | int _=>obtain⟨t,rfl⟩:=r;rfl
 | str _=>obtain⟨t,rfl⟩:=r;rfl
 | byt _=>obtain⟨t,rfl⟩:=r;rfl
 | flt _=>obtain⟨t,rfl⟩:=r;rfl
 | ref _=>cases r;rfl
 | ty _=>cases r;rfl
variable {y:V}
def RelV.inj{x:V}(r:RelV x u)(q:RelV y u):x=y:=Aq<|r.abs.symm.trans q.abs
def Vals.inj:∀ {xs ys:List V} {us:List Value},Vals xs us->Vals ys us->xs=ys
 | _,_,_,.nil,.nil=>rfl
 | _,_,_,.cons r t,.cons r' t'=>by rw[r.inj r',Vals.inj t t']
variable {K:Ab}
section
variable {xs ys:List V}
def SqL.of(h:H a=some (.lst xs)):SqL K H a xs:=.inl<|.inl h
def SqT.of(h:H a=some (.tup xs)):SqT K H a xs:=.inl<|.inl h
def Inv.list(I:Inv X pins σ H s)(h:SqL X.K H a xs):∃ its:List Value,Vals xs its/\PlainL s.heap a its.toArray/\xs.length<=sizeLine:=by
 rcases h with h | ⟨o,its,n,hk,hc,hd,hs,hz,r⟩
 . obtain⟨z,its,n,r,e⟩:=h.ok I.hok;exact⟨its,r,⟨_,n,e,rfl,rfl,rfl⟩,z⟩
 refine⟨its.toList,r,⟨o,n,I.kIn a o hk,hc,hd,by simpa using hs⟩,?_⟩;have e:=r.length;simp only[BO] at e;omega
def Inv.tuple(I:Inv X pins σ H s)(h:SqT X.K H a xs):∃ its:List Value,Vals xs its/\IsTup s.heap a its.toArray/\xs.length<=sizeLine:=by
 rcases h with h | ⟨o,its,n,hk,hc,hs,hz,r⟩
 . obtain⟨z,its,r,p⟩:=h.ok I.hok;exact⟨its,r,p.t,z⟩
 refine⟨its.toList,r,⟨o,I.kIn a o hk,hc,n,by simpa using hs⟩,?_⟩;have e:=r.length;simp only[BO] at e;omega
def Inv.list_inj(I:Inv X pins σ H s)(h:SqL X.K H a xs)(h':SqL X.K H a ys):xs=ys:=by
 obtain⟨its,r,⟨o,n,e,_,_,d⟩,_⟩:=I.list h;obtain⟨its',r',⟨o',n',e',_,_,d'⟩,_⟩:=I.list h';rw[e] at e';cases e';rw[d] at d';injection d' with d1 _
 have:its=its':=by simpa using congrArg Gw d1
 subst this;exact r.inj r'
def Inv.tuple_inj(I:Inv X pins σ H s)(h:SqT X.K H a xs)(h':SqT X.K H a ys):xs=ys:=by
 obtain⟨its,r,⟨o,e,_,n,d⟩,_⟩:=I.tuple h;obtain⟨its',r',⟨o',e',_,n',d'⟩,_⟩:=I.tuple h';rw[e] at e';cases e';rw[d] at d';injection d' with d1 _
 have:its=its':=by simpa using congrArg Gw d1
 subst this;exact r.inj r'
end
noncomputable abbrev Cx.wish (X:Cx) (E:Value->Shared->Prop):Cx:={ X with xe:=E }
noncomputable abbrev Cx.nox (X:Cx):Cx:=X.wish fun _ _=>False
def Cx.Ok.wish{X:Cx}(ok:X.Ok)(E:Value->Shared->Prop):(X.wish E).Ok :=
 ⟨ok.mod,ok.kind,ok.glob,ok.blt,ok.above,ok.inj,ok.has,ok.cab,ok.hd,ok.frames,ok.stk,ok.exf,ok.bs,ok.bsz,ok.noex,ok.exfs,ok.funs,ok.frf⟩
def Cx.Ok.unwish(ok:(X.wish E).Ok):X.Ok :=
 ⟨ok.mod,ok.kind,ok.glob,ok.blt,ok.above,ok.inj,ok.has,ok.cab,ok.hd,ok.frames,ok.stk,ok.exf,ok.bs,ok.bsz,ok.noex,ok.exfs,ok.funs,ok.frf⟩
def Inv.wish(I:Inv X pins σ H s)(E:Value->Shared->Prop):Inv (X.wish E) pins σ H s:=⟨I.ok.wish E,I.os,I.bare,I.base,I.loc,I.cell,I.free,I.freeC,I.pin,I.hok,I.len⟩
def Inv.unwish(I:Inv (X.wish E) pins σ H s):Inv X pins σ H s:=⟨I.ok.unwish,I.os,I.bare,I.base,I.loc,I.cell,I.free,I.freeC,I.pin,I.hok,I.len⟩
def SP.unwish{D:Ends}{f:Flow}{s':Shared}(h:SP (X.wish E) pins D f s'):SP X pins D f s':=by
 cases f with
 | next=>obtain⟨σ',H',I,q⟩:=h;exact⟨σ',H',I.unwish,q⟩
 | brk=>obtain⟨σ',H',I,q⟩:=h;exact⟨σ',H',I.unwish,q⟩
 | cont=>obtain⟨σ',H',I,q⟩:=h;exact⟨σ',H',I.unwish,q⟩
 | ret u=>obtain⟨v,σ',H',I,r,q⟩:=h;exact⟨v,σ',H',I.unwish,r,q⟩
def PSs.nox{st:List Stmt}{t:TS}(h:PSs X.nox st t):PSs X st t:=fun pins s σ H D I hw =>
 AL (h pins s σ H D (I.wish _) hw) (fun _ _ q=>q.unwish) fun _ _ z=>False.elim z
variable {te:TE}
section
variable {st:Stmt} {rest:List Stmt} {t u:TS}
def zsj:TS:=fun D σ H=>D.nx σ H
def tSeq(t u:TS):TS:=fun D σ H=>t { D with nx:=u D } σ H
def zos:PSs X [] zsj:=fun _ _ σ H _ I h=>B1 ⟨σ,H,I,h⟩
def zil(h1:PS X st t)(h2:PSs X rest u):PSs X (st::rest) (tSeq t u):=by
 intro pins s σ H D I h;refine C2<|thn (h1 pins s σ H { D with nx:=u D } I h) fun f s1 q=>?_
 cases f with
 | next =>
   obtain⟨σ',H',I',q⟩:=q;exact h2 pins s1 σ' H' D I' q
 | ret v=>exact q
 | brk=>exact q
 | cont=>exact q
def zik(h1:PS X st t):PSs X [st] t:=by
 intro pins s σ H D I h;refine C2<|thn (h1 pins s σ H D I h) fun f s1 q=>?_
 cases f with
 | next=>exact B1 q
 | ret v=>exact q
 | brk=>exact q
 | cont=>exact q
def Inv.quiet(I:Inv X pins σ H s):interactive X.env=false:=by simp[interactive,I.ok.kind]
def zsk(te:TE):TS:=fun D σ H=>te σ H fun _ H1=>D.nx σ H1
def zov(he:PE X e te)(hs:swapsWith e none pos.line X.env=pure false:=by rfl):PS X (.Expr e pos) (zsk te):=by intro pins s σ H D I h;exact wpAny_Expr_any (thn (he pins s σ H _ I h) fun v s1 ⟨x,H1,I1,r1,q1⟩=>⟨σ,H1,I1,q1⟩) I.quiet hs
def tRet(te:TE):TS:=fun D σ H=>te σ H D.rt
def zqC(he:PE X e te):PS X (.Return (some e) pos) (tRet te):=by intro pins s σ H D I h;exact wpAny_Return_some<|thn (he pins s σ H _ I h) fun v s1 ⟨x,H1,I1,r1,q1⟩=>⟨x,σ,H1,I1,r1,q1⟩
def tIfS(c:TT)(t u:TS):TS:=fun D σ H=>c σ H fun b H1=>if b=true then t D σ H1 else u D σ H1
def zrT{a b:List Stmt}{tc:TT}(hc:PT X c tc)(ha:PSs X a t)(hb:PSs X b u):PS X (.If c a b pos) (tIfS tc t u):=by
 intro pins s σ H D I h;refine wpAny_If<|thn (hc pins s σ H _ I h) ?_;rintro d s1 ⟨H1,I1,q1⟩
 cases d with
 | true=>exact ha pins s1 σ H1 D I1 q1
 | false=>exact hb pins s1 σ H1 D I1 q1
end
noncomputable abbrev TG:=V->St->Hp->(St->Hp->Prop)->Prop
noncomputable abbrev TGs:=List V->St->Hp->(St->Hp->Prop)->Prop
def PG(X:Cx)(target:Expr)(t:TG):Prop :=
 ∀ (pins:List (Addr×Obj)) (s:Shared) (σ:St) (H:Hp) (v:V) (u:Value) (Q:St->Hp->Prop),Inv X pins σ H s->RelV v u->t v σ H Q ->
   wpAny (model X.prog X.w) X.A (assign target X.env u) (fun _ s'=>∃ σ' H',Inv X pins σ' H' s'/\Q σ' H') X.xe s
def PGs(X:Cx)(ts:List Expr)(t:TGs):Prop :=
 ∀ (pins:List (Addr×Obj)) (s:Shared) (σ:St) (H:Hp) (vs:List V) (us:List Value) (Q:St->Hp->Prop),Inv X pins σ H s->Vals vs us->t vs σ H Q ->
   wpAny (model X.prog X.w) X.A (assignInOrder ((assignEach ts X.env).map (·.2)) us) (fun _ s'=>∃ σ' H',Inv X pins σ' H' s'/\Q σ' H') X.xe s
noncomputable abbrev TSet:=V->V->V->Hp->(Hp->Prop)->Prop
def PSet(X:Cx)(t:TSet):Prop :=
 ∀ (pins:List (Addr×Obj)) (s:Shared) (σ:St) (H:Hp) (o i v:V) (ov iv u:Value) (Q:Hp->Prop),Inv X pins σ H s->RelV o ov->RelV i iv->RelV v u->t o i v H Q ->
   wpAny (model X.prog X.w) X.A (setItem ov iv u) (fun _ s'=>∃ H',Inv X pins σ H' s'/\Q H') X.xe s
variable {es:List Expr}{n:Nat}{tg:Expr}{pos':Pos}
def zr3(i:Nat):TG:=fun v σ H Q=>Q (σ.set i<|some v) H
def zoB(hN:X.N.Nodup)(hi:X.N[i]?=some x)(hx:Loc X.env.scope x)(hf:X.fn x=true\/X.env.scope.names.lookup x=some .local:=by first | exact .inl rfl | exact .inr rfl | assumption):PG X (.Name x pos) (zr3 i):=by intro pins s σ H v u Q I r h;exact Ft<|zc5 I hN hi hx r (fun s' I'=>⟨_,H,I',h⟩) hf
def gNil:TGs:=fun vs σ H Q=>vs=[]/\Q σ H
def zs1(t:TG)(u:TGs):TGs:=fun vs σ H Q=>∃ v r,vs=v::r/\t v σ H fun σ' H'=>u r σ' H' Q
def zoA:PGs X [] gNil:=by intro pins s σ H vs us Q I r h;obtain⟨e,h⟩:=h;subst e;cases r;exact Fu ⟨σ,H,I,h⟩
def zmw{t:TG}{u:TGs}(h1:PG X e t)(h2:PGs X es u)
   (hs:(assignEach (e::es) X.env).map (·.2)=assign e X.env::(assignEach es X.env).map (·.2):=by rfl):PGs X (e::es) (zs1 t u):=by
 intro pins s σ H vs us Q I r h;obtain⟨v,vr,e1,h⟩:=h;subst e1
 cases r with
 | cons r rr =>
   rw[hs];refine DB<|thn (h1 pins s σ H _ _ _ I r h) ?_;rintro _ s1 ⟨σ1,H1,I1,q1⟩;exact h2 pins s1 σ1 H1 _ _ Q I1 rr q1
def gTup(K:Ab)(n:Nat)(t:TGs):TG:=fun v σ H Q=>∃ a xs,v=.ref a/\SqT K H a xs/\xs.length=n/\t xs σ H Q
def zqI{k:Nat}{t:TGs}(hc:X.calm=true)(h:PGs X es t)
   (hn:(assignEach es X.env).length=n:=by rfl) (hst:(assignEach es X.env).findIdx? (·.1)=none:=by rfl):PG X (.Tuple es k pos) (gTup X.K n t):=by
 intro pins s σ H v u Q I r hw;obtain⟨a,xs,e1,hq,hl,hw⟩:=hw;subst e1;cases r;obtain⟨its,rv,ht,hz⟩:=I.tuple hq;refine assign_Tuple_tuple (I.ok.hd hc) ht (by simp[hn,<-hl,rv.length]) hst fun h' hx=>?_;have I1:Inv X pins σ H { s with heap:=h' }:=I.kept (t':=s.toks) fun b o e=>hx b o (Ar<|Ai e) e;exact h pins _ σ H xs _ Q I1 (by simpa using rv) hw
def gSub(to ti:TE)(t:TSet):TG:=fun v σ H Q=>to σ H fun o H1=>ti σ H1 fun i H2=>t o i v H2 fun H3=>Q σ H3
def zqJ{o i:Expr}{to ti:TE}{t:TSet}(ho:PE X o to)(hi:PE X i ti)(hs:PSet X t)
   (ha:∀ v,assign (.Subscript o i pos) X.env v=(do
     let ov <-holding [v] (eval o X.env)
     let iv <-holding [v,ov] (eval i X.env)
     standAt pos
     holding [v,ov,iv] (setItem ov iv v)
     release [v,ov,iv] []):=by intro _;rfl):PG X (.Subscript o i pos) (gSub to ti t):=by
 intro pins s σ H v u Q I r h;rw[ha];refine Aa<|AY<|thn (ho pins s σ H _ I h) ?_;rintro ov s1 ⟨x,H1,I1,r1,q1⟩;refine Aa<|AY<|thn (hi pins s1 σ H1 _ I1 q1) ?_;rintro iv s2 ⟨y,H2,I2,r2,q2⟩;refine Aa<|BL<|Aa<|AY<|thn (hs pins s2 σ H2 x y v ov iv u _ I2 r1 r2 r q2) ?_;rintro _ s3 ⟨H3,I3,q3⟩;exact wpAny_release ⟨σ,H3,I3,q3⟩
def tAsg(te:TE)(g:TG):TS:=fun D σ H=>te σ H fun x H1=>g x σ H1 D.nx
def zqF{g:TG}(he:PE X e te)(hg:PG X tg g)(hs:swapsWithSole [tg] e pos.line X.env=pure false:=by rfl)(hw:swappedStores [tg] e X.env=pure none:=by rfl)
   (h1:(assignEach [tg] X.env).map (·.2)=[assign tg X.env]:=by rfl):PS X (.Assign [tg] e pos) (tAsg te g):=by
 intro pins s σ H D I h;refine wpAny_Assign_stores (thn (he pins s σ H _ I h) ?_) hs hw;rintro v s1 ⟨x,H1,I1,r1,q1⟩;rw[h1];exact thn (hg pins s1 σ H1 x v _ I1 r1 q1) fun _ s2 q=>q
def zqB(hN:X.N.Nodup)(hi:X.N[i]?=some x)(hx:Loc X.env.scope x)(he:PE X e te)(hs:swapsWith e (some<|.Name x pos') pos.line X.env=pure false:=by rfl)(hf:X.fn x=true\/X.env.scope.names.lookup x=some .local:=by first | exact .inl rfl | exact .inr rfl | assumption) :
   PS X (.Assign [.Name x pos'] e pos) (tAsg te<|zr3 i):=by
 intro pins s σ H D I h;refine Fv (thn (he pins s σ H _ I h) ?_) hs;rintro v s1 ⟨y,H1,I1,r1,q1⟩;exact zc5 I1 hN hi hx r1 (fun s2 I2=>⟨_,H1,I2,q1⟩) hf
def tPar(i j:Nat)(ta:TA):TS:=fun D σ H=>ta σ H fun vs H1=>∃ v w,vs=[v,w]/\D.nx ((σ.set i<|some v).set j<|some w) H1
def zqD{y:Str}{a b:Expr}{ta:TA}{px py pt:Pos}{kt k2 pt2}(hc:X.calm=true)(hN:X.N.Nodup)(hi:X.N[i]?=some x)(hj:X.N[j]?=some y)(hij:i≠j)
   (hx:X.env.scope.names.lookup x=some .local) (hy:X.env.scope.names.lookup y=some .local) (ha:PA X [a,b] ta)
   (hw:swappedStores [.Tuple [.Name x px,.Name y py] kt pt] (.Tuple [a,b] k2 pt2) X.env=pure (some [x,y]))
   (hs:swapsWithSole [.Tuple [.Name x px,.Name y py] kt pt] (.Tuple [a,b] k2 pt2) pos.line X.env=pure false:=by rfl) :
   PS X (.Assign [.Tuple [.Name x px,.Name y py] kt pt] (.Tuple [a,b] k2 pt2) pos) (tPar i j ta):=by
 intro pins s σ H D I h;rw[exec_Assign_arm];refine Aa<|BL ?_;rw[hs];refine Aa<|Ae ?_;rw[if_neg (by decide)];refine Aa<|Tuple_<|thn (ha _ pins s σ H _ I h) ?_;rintro us s1 ⟨vs,H1,I1,r1,q1⟩;obtain⟨v,w,e1,q1⟩:=q1;subst e1;obtain⟨u1,u2,rfl,rv,rw'⟩:∃ u1 u2,us=[u1,u2]/\RelV v u1/\RelV w u2:=by
   cases r1 with
   | cons p q =>
     cases q with
     | cons p' q' =>
       cases q';exact⟨_,_,rfl,p,p'⟩
 refine AG ?_ (by show 2<=sizeLine;decide);have I2:Inv X pins σ H1 { s1 with heap:=s1.heap.push { cls:=.type "tuple",data:=.seq [u1,u2].toArray } }:=I1.kept (t':=s1.toks) fun b o e=>Ac _ e;rw[hw];refine Aa<|Ae ?_;show wpAny (model X.prog X.w) X.A (do rule "assign.swapped-stores";let items <-unpackItems (.ref s1.heap.objs.size) 2 none;assignInOrder [fun v=>bindName X.env y v,fun v=>bindName X.env x v] items.reverse;pure Flow.next) _ _ _;refine Aa<|CM<|Aa<|unpackItems_tuple (items:=#[u1,u2]) (I.ok.hd hc) (IsTup.new s1.heap _) fun h' hx'=>?_;have I3:=I2.kept (h':=h') (t':=s1.toks) fun b o e=>hx' b o (Ar<|Ai e) e;show wpAny _ _ (assignInOrder [fun v=>bindName X.env y v,fun v=>bindName X.env x v] [u2,u1] >>= fun _=>pure Flow.next) _ _ _;refine Aa<|DB<|wpAny_bindName<|zc5 I3 hN hj (.inl hy) rw' (fun s2 I4=>?_)<|.inr hy;refine DB<|wpAny_bindName<|zc5 I4 hN hi (.inl hx) rv (fun s3 I5=>Fu (Ae ?_))<|.inr hx;rw[List.set_comm _ _ (AZ hij)] at I5;exact⟨_,H1,I5,q1⟩
structure It where
 go:Nat->Hp->Prop
 yld:Nat->Hp->V->Hp->Prop
 stop:Nat->Hp->Prop
def FpOk(X:Cx)(pins:List (Addr×Obj))(H:Hp)(b:Addr):Prop :=
 H b=none/\b≠X.env.locals/\b ∉ X.fs/\(b∈X.ex\/X.s₀.heap.objs.size<=b)/\(∀ x c,X.env.cells.lookup x=some c->c≠b)/\∀ p∈X.pn++pins,p.1≠b
def Inv.fpOk(I:Inv X pins σ H s)(hb:s.heap.objs.size<=b)(hn:H' b=none):FpOk X pins H' b:=by
 refine⟨hn,Bs<|Av I.lt hb,I.nofs hb,.inr<|Aw I.sz hb,fun x c e z=>?_,fun p hp z=>?_⟩
 . obtain⟨v,q⟩:=I.cell x c e;exact absurd (Av q.lt (by rw[z];exact hb))<|AR _
 exact absurd (Av (Ai (I.pin p hp).1) (by rw[z];exact hb))<|AR _
structure Turn(P:Program)(w:World)(K:Ab)(tg:Expr)(J:It)(fp:List Addr)(it:Addr)(tn:Nat->Heap->Prop):Prop where
 mem:it∈fp
 obj:∀ i h,tn i h->∀ b∈fp,∃ o,h.get? b=some o/\∀ v,o.data≠.cell v
 keep:∀ i h h',tn i h->(∀ b∈fp,∀ o,h.get? b=some o->h'.get? b=some o)->tn i h'
 item:∀ (X:Cx),X.prog=P->X.w=w->X.K=K->X.calm=true->∀ (i:Nat) (pins:List (Addr×Obj)) (s:Shared) (σ:St) (H:Hp) (E:Value->Shared->Prop),Inv X pins σ H s->(∀ b∈fp,FpOk X pins H b)->tn i s.heap->J.go i H ->
   wpAny (model P w) X.A (pyNext (.ref it)) (fun r s1=>∃ u,r=some u /\
     wpAny (model P w) X.A (letOwnedTupleGo tg (.ref it) u) (fun _ s2=>∃ x H',Inv X pins σ H' s2/\RelV x u/\J.yld i H x H'/\tn (i+1) s2.heap/\∀ b∈fp,H' b=none) E s1) E s
 done:∀ (X:Cx),X.prog=P->X.w=w->X.K=K->X.calm=true->∀ (i:Nat) (pins:List (Addr×Obj)) (s:Shared) (σ:St) (H:Hp) (E:Value->Shared->Prop),Inv X pins σ H s->(∀ b∈fp,FpOk X pins H b)->tn i s.heap->J.stop i H ->
   wpAny (model P w) X.A (pyNext (.ref it)) (fun r s1=>r=none/\Inv X pins σ H s1) E s
 self:∀ (A:Around) (i:Nat) (s:Shared) (Q:Value->Shared->Prop) (E:Value->Shared->Prop),tn i s.heap->Q (.ref it) s->wpAny (model P w) A (pyIter (.ref it)) Q E s
noncomputable abbrev TI:=St->Hp->(It->Hp->Prop)->Prop
def PIE(X:Cx)(pins:List (Addr×Obj))(σ:St)(tg:Expr)(R:It->Hp->Prop)(itv:Value)(s2:Shared):Prop :=
 ∃ (it:Addr) (fp:List Addr) (tn:Nat->Heap->Prop) (J:It) (H':Hp),itv=.ref it/\Inv X pins σ H' s2/\Turn X.prog X.w X.K tg J fp it tn/\tn 0 s2.heap/\(∀ b∈fp,FpOk X pins H' b)/\R J H'
def PI(X:Cx)(tg iter:Expr)(wi:TI):Prop :=
 ∀ (pins:List (Addr×Obj)) (s:Shared) (σ:St) (H:Hp) (R:It->Hp->Prop),Inv X pins σ H s->wi σ H R ->
   wpAny (model X.prog X.w) X.A (eval iter X.env) (fun v s1=>wpAny (model X.prog X.w) X.A (pyIter v) (PIE X pins σ tg R) X.xe s1) X.xe s
def zpl{o:Obj}{n:String}{vs:Array Value}{Q:Unit->Shared->Prop}(ho:s.heap.get? it=some o)(hc:o.cls=.type n)(hd:o.data=.fields vs)
   (hn:["enumerate","zip","dict_itemiterator","dict_reverseitemiterator","odict_iterator","itertools.zip_longest","itertools.pairwise"].contains n=false) (hQ:Q () s):wpAny M A (letOwnedTupleGo tg (.ref it) u) Q E s:=by
 unfold letOwnedTupleGo
 cases tg <;> first
   | exact Ae hQ
   | (cases u <;> first
       | exact Ae hQ
       | (refine Aa (wpAny_load ho ?_)
          rw[hc,hd];show wpAny M A (if (["enumerate","zip","dict_itemiterator","dict_reverseitemiterator","odict_iterator","itertools.zip_longest","itertools.pairwise"].contains n&&vs[0]?==some (rawInt _))=true then _ else _) Q E s;rw[if_neg (by intro h;rw[hn,Bool.false_and] at h;cases h)];exact Ae hQ))
def Itl(K:Ab)(a:Addr):It :=
 ⟨fun i H=>∃ xs x,SqL K H a xs/\xs[i]?=some x,fun i H x H'=>H'=H/\∀ xs,SqL K H a xs->xs[i]?=some x,fun i H=>∃ xs,SqL K H a xs/\xs.length<=i⟩
def Itt(K:Ab)(a:Addr):It :=
 ⟨fun i H=>∃ xs x,SqT K H a xs/\xs[i]?=some x,fun i H x H'=>H'=H/\∀ xs,SqT K H a xs->xs[i]?=some x,fun i H=>∃ xs,SqT K H a xs/\xs.length<=i⟩
def Itr(lo:Int)(n:Nat):It:=⟨fun i _=>i < n,fun i H x H'=>H'=H/\x=.int (lo+i),fun i _=>n<=i⟩
def zjE(a it:Addr):Turn P w K tg (Itl K a) [it] it (fun i h=>h.IsListIter it a i) where
 mem:=by simp
 obj:=fun i h st b hb=>by
   have e:b=it:=by simpa using hb
   subst e;obtain⟨o,e,c,d⟩:=st;exact⟨o,e,fun v z=>by rw[d] at z;cases z⟩
 keep:=fun i h h' st k=>st.at fun o e=>k it (by simp) o e
 item:=by intro X hP hw hK hc i pins s σ H E I hf st hg;subst hP hw hK;obtain⟨xs,x,hq,hx⟩:=hg;obtain⟨its,rv,p,hz⟩:=I.list hq;obtain⟨u,hu,ru⟩:=rv.get hx;obtain⟨f0,f1,f2,f3,f4,f5⟩:=hf it (by simp);refine CY st p.isList (x:=u) (by simpa using hu) fun h' st' sb=>?_;have I1:Inv X pins σ H { s with heap:=h' }:=I.turned (t':=s.toks) (fun b o hb e=>(sb.2 b hb).trans e) f0 f1 f3 f4 f5;obtain⟨o,e,c,d⟩:=id st';exact⟨u,rfl,zpl (s:={ s with heap:=h' }) e c d (by decide) ⟨x,H,I1,ru,⟨rfl,fun ys hy=>by rw[I.list_inj hy hq];exact hx⟩,st',fun b hb=>(hf b hb).1⟩⟩
 done:=by intro X hP hw hK hc i pins s σ H E I hf st hg;subst hP hw hK;obtain⟨xs,hq,hx⟩:=hg;obtain⟨its,rv,p,hz⟩:=I.list hq;obtain⟨f0,f1,f2,f3,f4,f5⟩:=hf it (by simp);have hl:=rv.length;exact C6 (I.ok.hd hc) st p.isList (by simp;omega) fun h' eb=>⟨rfl,I.turned (t':=s.toks) (fun b o hb e=>eb b o hb e) f0 f1 f3 f4 f5⟩
 self:=fun _ _ _ _ _ st h=>wpAny_pyIter_listiter st h
def zhH(a it:Addr):Turn P w K tg (Itt K a) [it] it (fun i h=>h.IsTupleIter it a i) where
 mem:=by simp
 obj:=fun i h st b hb=>by
   have e:b=it:=by simpa using hb
   subst e;obtain⟨o,e,c,d⟩:=st;exact⟨o,e,fun v z=>by rw[d] at z;cases z⟩
 keep:=fun i h h' st k=>st.at fun o e=>k it (by simp) o e
 item:=by intro X hP hw hK hc i pins s σ H E I hf st hg;subst hP hw hK;obtain⟨xs,x,hq,hx⟩:=hg;obtain⟨its,rv,p,hz⟩:=I.tuple hq;obtain⟨u,hu,ru⟩:=rv.get hx;obtain⟨f0,f1,f2,f3,f4,f5⟩:=hf it (by simp);refine D9 st (show s.heap.IsTuple a its.toArray from p) (x:=u) (by simpa using hu) fun h' st' sb=>?_;have I1:Inv X pins σ H { s with heap:=h' }:=I.turned (t':=s.toks) (fun b o hb e=>(sb.2 b hb).trans e) f0 f1 f3 f4 f5;obtain⟨o,e,c,d⟩:=id st';exact⟨u,rfl,zpl (s:={ s with heap:=h' }) e c d (by decide) ⟨x,H,I1,ru,⟨rfl,fun ys hy=>by rw[I.tuple_inj hy hq];exact hx⟩,st',fun b hb=>(hf b hb).1⟩⟩
 done:=by intro X hP hw hK hc i pins s σ H E I hf st hg;subst hP hw hK;obtain⟨xs,hq,hx⟩:=hg;obtain⟨its,rv,p,hz⟩:=I.tuple hq;obtain⟨f0,f1,f2,f3,f4,f5⟩:=hf it (by simp);have hl:=rv.length;exact Ej (I.ok.hd hc) st (show s.heap.IsTuple a its.toArray from p) (by simp;omega) fun h' eb=>⟨rfl,I.turned (t':=s.toks) (fun b o hb e=>eb b o hb e) f0 f1 f3 f4 f5⟩
 self:=fun _ _ _ _ _ st h=>wpAny_pyIter_tupleiter st h
def zhI(it:Addr)(lo:Int)(n:Nat):Turn P w K tg (Itr lo n) [it] it (fun i h=>IsRangeIter h it (lo+(i:Nat)*1) ((n:Int) - (i:Nat)) 1) where
 mem:=by simp
 obj:=fun i h st b hb=>by
   have e:b=it:=by simpa using hb
   subst e;exact⟨_,st,fun v z=>by have z':Data.fields _=Data.cell v:=z;cases z'⟩
 keep:=fun i h h' st k=>k it (by simp) _ st
 item:=by intro X hP hw hK hc i pins s σ H E I hf st hg;subst hP hw hK;obtain⟨f0,f1,f2,f3,f4,f5⟩:=hf it (by simp);have W:=Walks.range (prog:=X.prog) (w:=X.w) (I.ok.hd hc) it lo 1 n;refine W.item i s _ _ hg st fun v h' tk hv st' kk=>?_;obtain⟨t,rfl⟩:=hv;have I1:Inv X pins σ H { s with heap:=h',toks:=tk }:=I.turned (fun b o hb e=>kk b o (by simpa using hb) e) f0 f1 f3 f4 f5;refine⟨_,rfl,zpl (s:={ s with heap:=h',toks:=tk }) (n:="range_iterator") st' rfl rfl (by decide) ⟨.int<|lo+i,H,I1,⟨t,?_⟩,⟨rfl,rfl⟩,st',fun b hb=>(hf b hb).1⟩⟩;rw[Int.mul_one]
 done:=by intro X hP hw hK hc i pins s σ H E I hf st hg;subst hP hw hK;obtain⟨f0,f1,f2,f3,f4,f5⟩:=hf it (by simp);exact wpAny_pyNext_range_end (I.ok.hd hc) st (by have:n<=i:=hg;omega) fun h' eb=>⟨rfl,I.turned (t':=s.toks) (fun b o hb e=>eb b o hb e) f0 f1 f3 f4 f5⟩
 self:=fun _ _ _ _ _ st h=>wpAny_pyIter_rangeiter st h
variable {p:Pos}{l:Expr}{tl:TE}{fp:List Addr}{body:List Stmt}
def zsZ(K:Ab)(tl:TE):TI:=fun σ H R=>tl σ H fun x H1=>∃ a,x=.ref a/\(∃ xs,SqL K H1 a xs)/\R (Itl K a) H1
def iTup(K:Ab)(tl:TE):TI:=fun σ H R=>tl σ H fun x H1=>∃ a,x=.ref a/\(∃ xs,SqT K H1 a xs)/\R (Itt K a) H1
def zoz(hl:PE X l tl):PI X tg l (zsZ X.K tl):=by
 intro pins s σ H R I h;refine thn (hl pins s σ H _ I h) ?_;rintro v s1 ⟨x,H1,I1,r1,q1⟩;obtain⟨a,e,⟨xs,hq⟩,q⟩:=q1;subst e;cases r1;obtain⟨its,rv,p,hz⟩:=I1.list hq;refine CU p.isList ?_;refine⟨s1.heap.objs.size,[s1.heap.objs.size],_,_,H1,rfl,I1.kept (t':=s1.toks) fun b o e=>Ac _ e,zjE a _,⟨_,Ap _ rfl,rfl,rfl⟩,fun b hb=>?_,q⟩;have e:b=s1.heap.objs.size:=by simpa using hb
 subst e;exact I1.fpOk (Ah _)<|I1.hok.fresh<|Ah _
def zqG(hl:PE X l tl):PI X tg l (iTup X.K tl):=by
 intro pins s σ H R I h;refine thn (hl pins s σ H _ I h) ?_;rintro v s1 ⟨x,H1,I1,r1,q1⟩;obtain⟨a,e,⟨xs,hq⟩,q⟩:=q1;subst e;cases r1;obtain⟨its,rv,p,hz⟩:=I1.tuple hq;refine wpAny_pyIter_tuple (show s1.heap.IsTuple a its.toArray from p) ?_;refine⟨s1.heap.objs.size,[s1.heap.objs.size],_,_,H1,rfl,I1.kept (t':=s1.toks) fun b o e=>Ac _ e,zhH a _,⟨_,Ap _ rfl,rfl,rfl⟩,fun b hb=>?_,q⟩;have e:b=s1.heap.objs.size:=by simpa using hb
 subst e;exact I1.fpOk (Ah _)<|I1.hok.fresh<|Ah _
def zmi{R:It->Hp->Prop}{lo hi:Int}{t u v:Tok}{tk:Nat}(I:Inv X pins σ H s)(h1:-(2 ^ 62)<=lo)(h2:lo < 2 ^ 62)(h3:-(2 ^ 62)<=hi)(h4:hi < 2 ^ 62)
   (q:R (Itr lo (hi - lo).toNat) H):wpAny (model X.prog X.w) X.A (pyIter<|.ref s.heap.objs.size) (PIE X pins σ tg R) E { s with heap:=s.heap.push { cls:=.type "range",data:=.fields #[.int lo t,.int hi u,.int 1 v] },toks:=tk }:=by
 refine wpAny_pyIter_range (IsRange.new ..) (small_one h1 h2 h3 h4) ?_;have I1:Inv X pins σ H { s with heap:=s.heap.push { cls:=.type "range",data:=.fields #[.int lo t,.int hi u,.int 1 v] },toks:=tk }:=I.kept fun b o e=>Ac _ e;refine⟨(s.heap.push { cls:=.type "range",data:=.fields #[.int lo t,.int hi u,.int 1 v] }).objs.size,[(s.heap.push { cls:=.type "range",data:=.fields #[.int lo t,.int hi u,.int 1 v] }).objs.size],_,_,H,rfl,
   I1.kept (t':=tk) fun b o e=>Ac _ e,zhI _ lo (hi - lo).toNat,?_,fun b hb=>?_,q⟩
 . have e1:lo+((0:Nat):Int)*1=lo:=by simp
   have e2:(((hi - lo).toNat:Nat):Int) - ((0:Nat):Int)=Builtin.Range.rangeSize lo hi 1:=by rw[rangeSize_one];split <;> omega
   show IsRangeIter _ _ (lo+((0:Nat):Int)*1) ((((hi - lo).toNat:Nat):Int) - ((0:Nat):Int)) 1;rw[e1,e2];exact Ap _ rfl
 . have e:b=(s.heap.push { cls:=.type "range",data:=.fields #[.int lo t,.int hi u,.int 1 v] }).objs.size:=by simpa using hb
   subst e;exact I1.fpOk (Ah _)<|I1.hok.fresh<|Ah _
def zsY(ta:TA):TI:=fun σ H R=>ta σ H fun vs H1=>∃ j:Int,vs=[.int j]/\-(2 ^ 62)<=j/\j < 2 ^ 62/\R (Itr 0 j.toNat) H1
def zj7{a:Expr}{ta:TA}(hg:Gl X "range")(hm:X.mg "range"=none)(ha:PA X [a] ta)(hs:starEach [a] X.env=[(false,eval a X.env)]:=by rfl):PI X tg (.Call (.Name "range" p) [a] [] pos) (zsY ta):=by
 intro pins s σ H R I h;refine Call_<|zhq I hg hm boot_range<|BR (thn (ha pos pins s σ H _ I h) ?_) hs rfl;rintro us s1 ⟨vs,H1,I1,r1,q1⟩;obtain⟨j,e,q1,q2,q⟩:=q1;subst e
 cases r1 with
 | cons r rr =>
   cases rr;obtain⟨t,rfl⟩:=r;exact call_range_1<|zmi I1 (by omega) (by omega) q1 q2<|by simpa using q
def tFor(wi:TI)(g:TG)(tb:TS):TS:=fun D σ H=>wi σ H fun J H1=>∃ W:Nat->Nat->St->Hp->Prop,(∃ m,W 0 m σ H1)/\∀ i m σ H,W i m σ H ->
 (J.stop i H/\D.nx σ H)\/(J.go i H/\∃ N:St->Hp->Prop,(∀ σ' H',N σ' H'->∃ m',m' < m/\W (i+1) m' σ' H')/\∀ x H',J.yld i H x H'->g x σ H' fun σ2 H2=>tb { D with nx:=N,ct:=N,bk:=D.nx } σ2 H2)
def zin(fp:List Addr)(h:Heap):List (Addr×Obj):=fp.filterMap fun b=>(h.get? b).map fun o=>(b,o)
def zcV{o:Obj}(hb:b∈fp)(e:h.get? b=some o):(b,o)∈zin fp h:=List.mem_filterMap.mpr ⟨b,hb,by rw[e];rfl⟩
def zki{p:Addr×Obj}(hp:p∈zin fp h):p.1∈fp/\h.get? p.1=some p.2:=by
 obtain⟨b,hb,e⟩:=List.mem_filterMap.mp hp
 cases q:h.get? b with
 | none=>rw[q] at e;cases e
 | some o =>
   rw[q] at e;have e':(b,o)=p:=Aq e;subst e';exact⟨hb,q⟩
def Inv.pinned{fp:List Addr}(I:Inv X pins σ H s)(hf:∀ b∈fp,FpOk X pins H b)(ho:∀ b∈fp,∃ o,s.heap.get? b=some o/\∀ v,o.data≠.cell v):Inv X (pins++zin fp s.heap) σ H s :=
 I.pins_of fun p hp=>(List.mem_append.mp hp).elim (fun z=>I.pin p (AM _ z)) fun z=>by obtain⟨hb,e⟩:=zki z;obtain⟨f0,f1,f2,_⟩:=hf p.1 hb;obtain⟨o,e',d⟩:=ho p.1 hb;rw[e] at e';cases e';exact⟨e,f0,f1,f2,d⟩
def Inv.unpinned{pl:List (Addr×Obj)}(I:Inv X (pins++pl) σ H s):Inv X pins σ H s:=I.pins_of fun p hp=>I.pin p<|AM _<|B6 _ hp
def zou{iter:Expr}{wi:TI}{g:TG}{tb:TS}(hp:PassesOwn (model X.prog X.w) X.A X.env X.xe)(hc:X.calm=true)(hi:PI X tg iter wi)(hg:PG X tg g)(hb:PSs X body tb)
   (hs:∀ x,foldedSetIterable iter X.env x=pure x:=by intro _;rfl):PS X (.For tg iter body [] pos) (tFor wi g tb):=by
 intro pins s σ H D I h;refine wpAny_For (thn (hi pins s σ H _ I h) fun v s1 h1=>thn h1 fun itv s2 h2=>?_) hs;obtain⟨it,fp,tn,J,H2,e,I2,T,st2,f2,W,⟨m0,w0⟩,turn⟩:=h2;subst e
 -- what stays true of the iterator's objects through the loop
 have stat:∀ {H':Hp},(∀ b∈fp,H' b=none)->∀ b∈fp,FpOk X pins H' b:=fun hn b hb=>⟨hn b hb,(f2 b hb).2⟩
 refine codeAny_forLoop_any (fun n s'=>∃ i σ' H',Inv X pins σ' H' s'/\tn i s'.heap/\(∀ b∈fp,H' b=none)/\W i n σ' H') ?_ m0 ⟨0,σ,H2,I2,st2,fun b hb=>(f2 b hb).1,w0⟩;rintro n s3 ⟨i,σ3,H3,I3,st3,fr3,w3⟩
 rcases turn i n σ3 H3 w3 with ⟨stop,qn⟩ | ⟨go,N,hN,step⟩
 . refine CC hp (thn (T.done X rfl rfl rfl hc i pins s3 σ3 H3 X.xe I3 (stat fr3) st3 stop) ?_);rintro r s4 ⟨hr,I4⟩;subst hr;exact B1 ⟨σ3,H3,I4,qn⟩
 . refine CC hp (thn (T.item X rfl rfl rfl hc i pins s3 σ3 H3 X.xe I3 (stat fr3) st3 go) ?_);rintro r s4 ⟨u,hr,h4⟩;subst hr;refine CC hp (thn h4 ?_);rintro _ s5 ⟨x,H5,I5,r5,y5,st5,fr5⟩;have I5':=I5.pinned (stat fr5) (T.obj _ _ st5);refine CC hp (thn (hg _ s5 σ3 H5 x u _ I5' r5 (step x H5 y5)) ?_);rintro _ s6 ⟨σ6,H6,I6,q6⟩;refine CC hp (thn (hb _ s6 σ6 H6 _ I6 q6) fun f s7 q7=>?_);have again:∀ {σ7:St} {H7:Hp},Inv X (pins++zin fp s5.heap) σ7 H7 s7->N σ7 H7->∃ m,m < n/\∃ i σ' H',Inv X pins σ' H' s7/\tn i s7.heap/\(∀ b∈fp,H' b=none)/\W i m σ' H':=fun {σ7 H7} I7 n7=>by
     obtain⟨m',hm,w7⟩:=hN σ7 H7 n7;refine⟨m',hm,i+1,σ7,H7,I7.unpinned,T.keep _ _ _ st5 fun b hb o e=>(I7.pin (b,o) (AM _ (AM _ (zcV hb e)))).1,fun b hb=>?_,w7⟩;obtain⟨o,e,d⟩:=T.obj _ _ st5 b hb;exact (I7.pin (b,o) (AM _ (AM _ (zcV hb e)))).2.1
   cases f with
   | next=>obtain⟨σ7,H7,I7,n7⟩:=q7;exact again I7 n7
   | cont=>obtain⟨σ7,H7,I7,n7⟩:=q7;exact again I7 n7
   | brk=>obtain⟨σ7,H7,I7,q7⟩:=q7;exact⟨σ7,H7,I7.unpinned,q7⟩
   | ret v=>obtain⟨x7,σ7,H7,I7,r7,q7⟩:=q7;exact⟨x7,σ7,H7,I7.unpinned,r7,q7⟩
noncomputable abbrev R2:=V->V->Hp->VK->Prop
def OpR(X:Cx)(f:Value->Value->Sem Value)(r:R2):Prop :=
 ∀ (pins:List (Addr×Obj)) (s:Shared) (σ:St) (H:Hp) (x y:V) (v u:Value) (Q:VK),Inv X pins σ H s->RelV x v->RelV y u->r x y H Q ->
   wpAny (model X.prog X.w) X.A (f v u) (EP X pins σ Q) X.xe s
def UnR(X:Cx)(f:Value->Sem Value)(r:V->Hp->VK->Prop):Prop :=
 ∀ (pins:List (Addr×Obj)) (s:Shared) (σ:St) (H:Hp) (x:V) (v:Value) (Q:VK),Inv X pins σ H s->RelV x v->r x H Q ->
   wpAny (model X.prog X.w) X.A (f v) (EP X pins σ Q) X.xe s
def zjy(X:Cx)(f:Value)(r:List V->Hp->VK->Prop):Prop :=
 ∀ (pins:List (Addr×Obj)) (s:Shared) (σ:St) (H:Hp) (xs:List V) (us:List Value) (Q:VK),Inv X pins σ H s->Vals xs us->r xs H Q ->
   wpAny (model X.prog X.w) X.A (call f us) (EP X pins σ Q) X.xe s
def TruR(X:Cx)(r:V->Hp->(Bool->Hp->Prop)->Prop):Prop :=
 ∀ (pins:List (Addr×Obj)) (s:Shared) (σ:St) (H:Hp) (x:V) (v:Value) (Q:Bool->Hp->Prop),Inv X pins σ H s->RelV x v->r x H Q ->
   wpAny (model X.prog X.w) X.A (truthy v) (TP X pins σ Q) X.xe s
def tOp(r:R2)(ta tb:TE):TE:=fun σ H Q=>ta σ H fun x H1=>tb σ H1 fun y H2=>r x y H2 Q
def tUn(r:V->Hp->VK->Prop)(ta:TE):TE:=fun σ H Q=>ta σ H fun x H1=>r x H1 Q
def rI(C:Int->Int->Prop)(g:Int->Int->V):R2:=fun x y H Q=>∃ i j,x=.int i/\y=.int j/\C i j/\Q (g i j) H
def rI0(g:Int->Int->V):R2:=fun x y H Q=>∃ i j,x=.int i/\y=.int j/\Q (g i j) H
def rU(g:Int->V):V->Hp->VK->Prop:=fun x H Q=>∃ i,x=.int i/\Q (g i) H
variable {f:Value->Value->Sem Value}{tc:TE}{r:R2}
section
variable {a b:Expr}
def binT(ha:PE X a ta)(hb:PE X b tb){R:V->V->Hp->Prop}(I:Inv X pins σ H s)
   (h:ta σ H fun x H1=>tb σ H1 fun y H2=>R x y H2)  
   (hf:∀ v u s2 x y H2,Inv X pins σ H2 s2->RelV x v->RelV y u->R x y H2->wpAny (model X.prog X.w) X.A (f v u) Q X.xe s2) :
   wpAny (model X.prog X.w) X.A (eval a X.env) (fun v s₁=>wpAny (model X.prog X.w) X.A (eval b X.env) (fun u s₂=>wpAny (model X.prog X.w) X.A (f v u) Q X.xe s₂) X.xe s₁) X.xe s:=by
 refine thn (ha pins s σ H _ I h) ?_;rintro v s1 ⟨x,H1,I1,r1,q1⟩;refine thn (hb pins s1 σ H1 _ I1 q1) ?_;rintro u s2 ⟨y,H2,I2,r2,q2⟩;exact hf v u s2 x y H2 I2 r1 r2 q2
def zsE{op:Operator}(ho:OpR X (binaryOp op) r)(ha:PE X a ta)(hb:PE X b tb):PE X (.BinOp a op b pos) (tOp r ta tb):=by intro pins s σ H Q I h;exact wpAny_BinOp<|binT ha hb I h fun v u s2 x y H2 I2 rx ry q=>ho pins s2 σ H2 x y v u Q I2 rx ry q
def zsC{op:UnaryOp}{r:V->Hp->VK->Prop}(ho:UnR X (unaryOp op) r)(ha:PE X a ta):PE X (.UnaryOp op a pos) (tUn r ta):=by intro pins s σ H Q I h;exact UnaryOp_<|thn (ha pins s σ H _ I h) fun v s1 ⟨x,H1,I1,r1,q1⟩=>ho pins s1 σ H1 x v Q I1 r1 q1
def opI{C:Int->Int->Prop}{g:Int->Int->Int}
   (rule:∀ (i j:Int) (t u:Tok) (s:Shared) (Q:Value->Shared->Prop) (E:Value->Shared->Prop),C i j->Q (.int (g i j) s.toks) { s with toks:=s.toks+1 }->wpAny (model X.prog X.w) X.A (f (.int i t)<|.int j u) Q E s) :
   OpR X f (rI C fun i j=>.int (g i j)):=by
 intro pins s σ H x y v u Q I rx ry h;obtain⟨i,j,rfl,rfl,hc,q⟩:=h;obtain⟨t,rfl⟩:=rx;obtain⟨t',rfl⟩:=ry;exact rule i j t t' s _ _ hc ⟨.int<|g i j,H,I.tok _,⟨_,rfl⟩,q⟩
def opI0{g:Int->Int->Int}
   (rule:∀ (i j:Int) (t u:Tok) (s:Shared) (Q:Value->Shared->Prop) (E:Value->Shared->Prop),Q (.int (g i j) s.toks) { s with toks:=s.toks+1 }->wpAny (model X.prog X.w) X.A (f (.int i t)<|.int j u) Q E s) :
   OpR X f (rI0 fun i j=>.int (g i j)):=by
 intro pins s σ H x y v u Q I rx ry h;obtain⟨i,j,rfl,rfl,q⟩:=h;obtain⟨t,rfl⟩:=rx;obtain⟨t',rfl⟩:=ry;exact rule i j t t' s _ _ ⟨.int<|g i j,H,I.tok _,⟨_,rfl⟩,q⟩
def opB0{g:Int->Int->Bool}
   (rule:∀ (i j:Int) (t u:Tok) (s:Shared) (Q:Value->Shared->Prop) (E:Value->Shared->Prop),Q (.bool<|g i j) s->wpAny (model X.prog X.w) X.A (f (.int i t)<|.int j u) Q E s) :
   OpR X f (rI0 fun i j=>.bl (g i j)):=by
 intro pins s σ H x y v u Q I rx ry h;obtain⟨i,j,rfl,rfl,q⟩:=h;obtain⟨t,rfl⟩:=rx;obtain⟨t',rfl⟩:=ry;exact rule i j t t' s _ _ ⟨.bl<|g i j,H,I,rfl,q⟩
def CMul(i j:Int):Prop:=(-(2 ^ 64) < i/\i < 2 ^ 64)\/(-(2 ^ 64) < j/\j < 2 ^ 64)
def CMul.ok{i j:Int}(h:CMul i j):IntMulOk i j:=by
 rcases h with ⟨h1,h2⟩ | ⟨h1,h2⟩
 . exact .of_left<|intBits_le_64 h1 h2
 exact .of_right<|intBits_le_64 h1 h2
def zq2:OpR X (binaryOp .Add) (rI0 fun i j=>.int (i+j)):=opI0 fun _ _ _ _ _ _ _ q=>add_int q
def zqV:OpR X (binaryOp .Sub) (rI0 fun i j=>.int (i - j)):=opI0 fun _ _ _ _ _ _ _ q=>sub_int q
def zqW:OpR X (binaryOp .Mult) (rI CMul fun i j=>.int (i*j)):=opI fun _ _ _ _ _ _ _ hc q=>mul_int q hc.ok
def zqX:OpR X (binaryOp .Mod) (rI (fun _ j=>0 < j) fun i j=>.int (i % j)):=opI fun i j _ _ _ _ _ hc q=>by have h1:(0:Int) < j:=hc;exact mod_int' (by omega) (by rw[Int.fmod_eq_emod_of_nonneg i (by omega)];exact q)
def unI{f:Value->Sem Value}{g:Int->Int}
   (rule:∀ (i:Int) (t:Tok) (s:Shared) (Q:Value->Shared->Prop) (E:Value->Shared->Prop),Q (.int (g i) s.toks) { s with toks:=s.toks+1 }->wpAny (model X.prog X.w) X.A (f<|.int i t) Q E s) :
   UnR X f (rU fun i=>.int (g i)):=by
 intro pins s σ H x v Q I rx h;obtain⟨i,rfl,q⟩:=h;obtain⟨t,rfl⟩:=rx;exact rule i t s _ _ ⟨.int<|g i,H,I.tok _,⟨_,rfl⟩,q⟩
def zpV:UnR X (unaryOp .USub) (rU fun i=>.int (-i)):=unI fun _ _ _ _ _ q=>neg_int q
end
variable {op':CmpOp}{r':R2}
section
variable {a b:Expr}
def zkD{Q:VK}{k k':Bool}(I:Inv X pins σ H s)(q:Q (.bl k) H)(e:k=k'):EP X pins σ Q (.bool k') s:=by subst e;exact⟨.bl k,H,I,rfl,q⟩
def zsJ:OpR X (compareOp .Lt) (rI0 fun i j=>.bl (decide (i < j))):=opB0 fun _ _ _ _ _ _ _ q=>lt_int q
def zsK:OpR X (compareOp .LtE) (rI0 fun i j=>.bl (decide (i<=j))):=opB0 fun _ _ _ _ _ _ _ q=>le_int q
def zsL:OpR X (compareOp .Gt) (rI0 fun i j=>.bl (decide (j < i))):=opB0 fun _ _ _ _ _ _ _ q=>gt_int q
def zsM:OpR X (compareOp .GtE) (rI0 fun i j=>.bl (decide (j<=i))):=opB0 fun _ _ _ _ _ _ _ q=>ge_int q
def zkf:OpR X (compareOp .In) (fun x y H Q=>∃ i j,x=.str i/\y=.str j/\Q (.bl<|!(Cb j i 0 j.length 1).isEmpty) H):=by intro pins s σ H x y v u Q I rx ry h;obtain⟨i,j,rfl,rfl,q⟩:=h;obtain⟨t,rfl⟩:=rx;obtain⟨t',rfl⟩:=ry;exact in_str<|zkD I q rfl
def zqY:OpR X (compareOp .Is) (fun x y H Q=>y=.non/\Q (.bl<|decide (x=.non)) H):=by
 intro pins s σ H x y v u Q I rx ry h;obtain⟨rfl,q⟩:=h;cases ry;refine is_none_gen<|zkD I q ?_
 cases x <;> first
   | (cases rx;rfl)
   | (obtain⟨t,rfl⟩:=rx;rfl)
def zoJ:OpR X (compareOp .IsNot) (fun x y H Q=>y=.non/\Q (.bl<|!decide (x=.non)) H):=by
 intro pins s σ H x y v u Q I rx ry h;obtain⟨rfl,q⟩:=h;cases ry;refine isnot_none_gen<|zkD I q ?_
 cases x <;> first
   | (cases rx;rfl)
   | (obtain⟨t,rfl⟩:=rx;rfl)
def zf3:OpR X (compareOp .NotIn) (fun x y H Q=>∃ i j,x=.str i/\y=.str j/\Q (.bl<|!(!(Cb j i 0 j.length 1).isEmpty)) H):=by intro pins s σ H x y v u Q I rx ry h;obtain⟨i,j,rfl,rfl,q⟩:=h;obtain⟨t,rfl⟩:=rx;obtain⟨t',rfl⟩:=ry;exact notIn_str<|zkD I q rfl
def zoH(ho:OpR X (compareOp op) r)(ha:PE X a ta)(hb:PE X b tb)(hm:behindInMarks op b=false):PE X (.Compare a [op] [b] pos) (tOp r ta tb):=by intro pins s σ H Q I h;exact wpAny_Compare1 (binT ha hb I h fun v u s2 x y H2 I2 rx ry q=>ho pins s2 σ H2 x y v u Q I2 rx ry q) hm
def zrR(t:TE):TT:=fun σ H Q=>t σ H fun x H'=>∃ k,x=.bl k/\Q k H'
def zoq(ho:OpR X (compareOp op) r)(ha:PE X a ta)(hb:PE X b tb)(hm:behindInMarks op b=false):PT X (.Compare a [op] [b] pos) (zrR<|tOp r ta tb):=by
 intro pins s σ H Q I h;refine Ew (thn (ha pins s σ H _ I h) fun v s1 ⟨x,H1,I1,r1,q1⟩=>thn (hb pins s1 σ H1 _ I1 q1) fun u s2 ⟨y,H2,I2,r2,q2⟩ =>
   thn (ho pins s2 σ H2 x y v u _ I2 r1 r2 q2) fun c s3 ⟨z,H3,I3,r3,k,e,q3⟩=>?_) hm
 subst e;cases r3;exact Bl ⟨H3,I3,q3⟩
def zlT(r r':R2)(ta tb tc:TE):TE:=fun σ H Q=>ta σ H fun x H1=>tb σ H1 fun y H2=>r x y H2 fun z H3=>∃ k,z=.bl k /\
 (if k=true then tc σ H3 fun w' H4=>r' y w' H4 Q else Q (.bl false) H3)
def zmA(ho:OpR X (compareOp op) r)(ho':OpR X (compareOp op') r')(ha:PE X a ta)(hb:PE X b tb)(hc:PE X c tc)
   (hm:lastMarks [op,op'] [b,c]=false:=by with_unfolding_all rfl):PE X (.Compare a [op,op'] [b,c] pos) (zlT r r' ta tb tc):=by
 intro pins s σ H Q I h;refine Compare_chain (thn (ha pins s σ H _ I h) fun v s1 ⟨x,H1,I1,r1,q1⟩=>chain_link (thn (hb pins s1 σ H1 _ I1 q1) fun u s2 ⟨y,H2,I2,r2,q2⟩ =>
   thn (ho pins s2 σ H2 x y v u _ I2 r1 r2 q2) fun d s3 ⟨z,H3,I3,r3,k,e,q3⟩=>?_)) hm
 subst e;cases r3;refine Bl ?_
 cases k with
 | false=>exact ite_ff ⟨.bl false,H3,I3,rfl,q3⟩
 | true=>exact ite_tt<|chain_last<|thn (hc pins s3 σ H3 _ I3 q3) fun w' s4 ⟨z',H4,I4,r4,q4⟩=>ho' pins s4 σ H4 y z' u w' Q I4 r2 r4 q4
def zmo(ho:OpR X (compareOp op) r)(ho':OpR X (compareOp op') r')(ha:PE X a ta)(hb:PE X b tb)(hc:PE X c tc)
   (hm:lastMarks [op,op'] [b,c]=false:=by with_unfolding_all rfl):PT X (.Compare a [op,op'] [b,c] pos) (zrR<|zlT r r' ta tb tc):=by
 intro pins s σ H Q I h;refine isTrue_chain (thn (ha pins s σ H _ I h) fun v s1 ⟨x,H1,I1,r1,q1⟩=>test_link (thn (hb pins s1 σ H1 _ I1 q1) fun u s2 ⟨y,H2,I2,r2,q2⟩ =>
   thn (ho pins s2 σ H2 x y v u _ I2 r1 r2 q2) fun d s3 ⟨z,H3,I3,r3,k,e,q3⟩=>?_)) hm
 subst e;cases r3;refine Bl ?_
 cases k with
 | false =>
   obtain⟨k',e',q'⟩:=q3;cases e';exact ite_ff ⟨H3,I3,q'⟩
 | true =>
   refine ite_tt<|test_last<|thn (hc pins s3 σ H3 _ I3 q3) fun w' s4 ⟨z',H4,I4,r4,q4⟩=>thn (ho' pins s4 σ H4 y z' u w' _ I4 r2 r4 q4) ?_;rintro d' s5 ⟨z2,H5,I5,r5,k2,e2,q5⟩;subst e2;cases r5;exact Bl ⟨H5,I5,q5⟩
def TruV(K:Ab)(x:V)(H:Hp)(k:Bool):Prop :=
 match x with
 | .non=>k=false
 | .bl b=>k=b
 | .int i=>k=(i != 0)
 | .str y=>y.length<=sizeLine/\k=((y.length:Int) != 0)
 | .byt y=>y.size<=sizeLine/\k=((y.size:Int) != 0)
 | .ref p=>(∃ xs,SqL K H p xs/\k=!xs.isEmpty)\/(∃ xs,SqT K H p xs/\k=!xs.isEmpty)\/∃ kvs,H p=some (.dK kvs)/\k=!kvs.isEmpty
 | _=>False
def ziP{kvs:List (κ×V)}{vs:List (κ×Value)}(r:KV kvs vs):(!vs.isEmpty)=!kvs.isEmpty:=by cases r <;> rfl
def zfy{xs:List V}{its:List Value}(r:Vals xs its):(!its.toArray.isEmpty)=!xs.isEmpty:=by cases r <;> simp
def zgc:(sizeLine:Nat) < 2 ^ 63:=by rw[Cv];decide
def zpZ:TruR X (fun x H Q=>∃ k,TruV X.K x H k/\Q k H):=by
 intro pins s σ H x v Q I rx h;obtain⟨k,e,q⟩:=h;have hl:=zgc;have hs:sizeLine=16777216:=Cv
 cases x with
 | non =>
   cases rx;have e':k=false:=e;subst e';exact truthy_none ⟨H,I,q⟩
 | bl b =>
   cases rx;have e':k=b:=e;subst e';exact Bl ⟨H,I,q⟩
 | int i =>
   obtain⟨t,rfl⟩:=rx;have e':k=(i != 0):=e;subst e';exact PySem.P.truthy_int ⟨H,I,q⟩
 | str y =>
   obtain⟨t,rfl⟩:=rx;obtain⟨hy,e'⟩:y.length<=sizeLine/\k=((y.length:Int) != 0):=e;subst e';exact PySem.P.truthy_str (by omega) ⟨H,I.tok _,q⟩
 | byt y =>
   obtain⟨t,rfl⟩:=rx;obtain⟨hy,e'⟩:y.size<=sizeLine/\k=((y.size:Int) != 0):=e;subst e';exact PySem.W.truthy_bytes (by omega) ⟨H,I.tok _,q⟩
 | ref p =>
   cases rx;have e':(∃ xs,SqL X.K H p xs/\k=!xs.isEmpty)\/(∃ xs,SqT X.K H p xs/\k=!xs.isEmpty)\/∃ kvs,H p=some (.dK kvs)/\k=!kvs.isEmpty:=e
   rcases e' with ⟨xs,hx,e'⟩ | ⟨xs,hx,e'⟩ | ⟨kvs,hx,e'⟩
   . subst e';obtain⟨its,r,pl,hz⟩:=I.list hx;have hlen:=r.length;exact wpAny_truthy_list pl.isList (by simp only[AA];omega) ⟨H,I.tok _,by rw[zfy r];exact q⟩
   . subst e';obtain⟨its,r,pl,hz⟩:=I.tuple hx;have hlen:=r.length;exact truthy_tuple pl (by simp only[AA];omega) ⟨H,I.tok _,by rw[zfy r];exact q⟩
   subst e';obtain⟨hz,hS,vs,r,m⟩:kvs.length<=sizeLine/\(p==sysModules)=false/\∃ vs,KV kvs vs/\s.heap.DictOf (zaz X.prog X.w) p vs:=I.hok p _ hx;have hlen:kvs.length=vs.length:=Br r;exact wpAny_truthy_dict hS m (by omega) ⟨H,I.tok _,by rw[ziP r];exact q⟩
 | _=>exact (show False from e).elim
def zmn(ha:PE X a ta)(he:∀ whole,isTrue a X.env whole=(do let v <-whole;standAt a.pos;holding [v] (truthy v))) :
   PT X a (fun σ H Q=>ta σ H fun x H'=>∃ k,TruV X.K x H' k/\Q k H'):=by
 intro pins s σ H Q I h;exact isTrue_plain (thn (ha pins s σ H _ I h) fun v s1 ⟨x,H1,I1,r1,q1⟩=>zpZ pins s1 σ H1 x v Q I1 r1 q1)<|he _
def zis:OpR X (binaryOp .Add) (fun x y H Q=>∃ i j,x=.str i/\y=.str j/\i.length+j.length<=sizeLine/\Q (.str<|i++j) H):=by intro pins s σ H x y v u Q I rx ry h;obtain⟨i,j,rfl,rfl,hz,q⟩:=h;obtain⟨t,rfl⟩:=rx;obtain⟨t',rfl⟩:=ry;exact add_str (fun t' tk=>⟨.str<|i++j,H,I.tok _,⟨_,rfl⟩,q⟩) hz
def vals1{x:V}(r:Vals [x] us):∃ u,us=[u]/\RelV x u:=by
 cases r with
 | cons r1 r2=>cases r2;exact⟨_,rfl,r1⟩
def vals2{x:V}(r:Vals [x,y] us):∃ u w',us=[u,w']/\RelV x u/\RelV y w':=by
 cases r with
 | cons r1 r2 =>
   cases r2 with
   | cons r3 r4=>cases r4;exact⟨_,_,rfl,r1,r3⟩
def zkS(hc:X.calm=true):zjy X (.builtin "min") (fun xs H Q=>∃ i j,xs=[.int i,.int j]/\Q (.int<|if j < i then j else i) H):=by
 intro pins s σ H xs us Q I r h;obtain⟨i,j,rfl,q⟩:=h;obtain⟨u,w',rfl,⟨t,rfl⟩,⟨t',rfl⟩⟩:=vals2 r;refine min_two_ints (I.ok.hd hc) fun h' tk k=>⟨_,H,I.kept k,?_,q⟩
 by_cases hj:j < i
 . rw[if_pos hj,if_pos hj];exact⟨_,rfl⟩
 rw[if_neg hj,if_neg hj];exact⟨_,rfl⟩
def zg2:zjy X (.type "int") (fun xs H Q=>(∃ i,xs=[.int i]/\Q (.int i) H)\/∃ k,xs=[.bl k]/\Q (.int<|if k then 1 else 0) H):=by
 intro pins s σ H xs us Q I r h
 rcases h with ⟨i,rfl,q⟩ | ⟨k,rfl,q⟩
 . obtain⟨u,rfl,t,rfl⟩:=vals1 r;exact call_int_int ⟨.int i,H,I,⟨_,rfl⟩,q⟩
 obtain⟨u,rfl,r1⟩:=vals1 r;cases r1;exact call_int_bool ⟨.int<|if k then 1 else 0,H,I.tok _,⟨_,rfl⟩,q⟩
end
variable {dx:Addr}
def zgP{mA:Str->Option Value}(n:h.Ns1 dx mA):∃ od,h.get? dx=some od/\∀ name,Ge name od=some (mA name):=by
 obtain⟨o,es,ep,ho,hd,hk,_,hm⟩:=n;refine⟨o,ho,fun name=>?_⟩;have e:=hm name;unfold nsFind findBy at e;rw[<-Array.find?_toList] at e;unfold Ge;rw[hd];dsimp only
 split
 . rename_i y q;rw[q] at e;exact congrArg some e
 . rename_i q;rw[q] at e;have a:es.toList.any (·.refKey)=false:=by
     rw[List.any_eq_false];intro y hy;obtain⟨z,t,hkey⟩:=hk y<|Array.mem_toList_iff.mp hy;simp[DictEntry.refKey,hkey]
   have a':¬ es.toList.any (·.refKey)=true:=by rw[a];exact Bm
   rw[if_neg a'];exact congrArg some e
def RelO.some_of{o:Option Value}(r:RelO (some v) o):∃ u,o=some u/\RelV v u:=by
 cases o with
 | none=>exact (show False from r).elim
 | some u=>exact⟨u,rfl,r⟩
variable {C:Addr}{prog:Program}{env:Env}
section
variable {fs:List (Str×V)} {f:Str}
def zpG{f:Str}(hb:attributeBase e f env (eval e env)=eval e env)
   (h:wpAny (model prog w) A (eval e env) (fun o s₁=>wpAny (model prog w) A (getAttr o f true) Q E s₁) E s):wpAny (model prog w) A (eval (.Attribute e f pos) env) Q E s :=
 Attribute_any_ h (by rw[arm_eval_Attribute,hb])
end
structure Room(k:Nat)(A:Around):Prop where
 hd:A.handled=none
 dp:A.depth+3*k+5 < recursionLimit
 un:A.units+16*k+200 < cLine
 gd:A.guards=some []
def Room.mono{k:Nat}(r:Room k A)(h:j<=k):Room j A:=⟨r.hd,by have:=r.dp;omega,by have:=r.un;omega,r.gd⟩
def Room.deeper{k:Nat}{A:Around}(r:Room (k+1) A)(env:Env):Room k (A.deeper env) :=
 ⟨r.hd,by have:=r.dp;show A.depth+1+3*k+5 < _;omega,by have:=r.un;show A.units+3+16*k+200 < _;omega,r.gd⟩
variable {kw:List (Str×Value)}
def ziE:(A.under<|.builtin "type.__call__" ⟨.ref C::us,kw⟩).depth=A.depth+1:=by first | rfl | simp[DX,Code.weight,Code.isCreation,Gx,Code.isCaller,Code.frames,Ff,guardIds]
def ziD:(A.under<|.builtin "type.__call__" ⟨.ref C::us,kw⟩).units=A.units+1:=by first | rfl | simp[DX,Code.cUnits,Code.frames,Ff]
def zho:(A.under<|.builtin "type.__call__" ⟨.ref C::us,kw⟩).guards=A.guards:=by
 have h:(Code.builtin "type.__call__" ⟨.ref C::us,kw⟩).guards=[]:=by first | rfl | simp[Code.guards,Gx,guardIds]
 dsimp only[DX];rw[h]
 cases A.guards <;> rfl
def Room.make{k:Nat}(r:Room (k+1) A)(C:Addr)(us:List Value)(kw:List (Str×Value)):Room k (A.under<|.builtin "type.__call__" ⟨.ref C::us,kw⟩) :=
 ⟨r.hd,by have:=r.dp;rw[ziE];omega,by have:=r.un;rw[ziD];omega,by rw[zho];exact r.gd⟩
def Room.depth{k:Nat}{A:Around}(r:Room k A):A.depth < recursionLimit:=by have:=r.dp;omega
def Room.units{k:Nat}{A:Around}(r:Room k A):A.units+64 < cLine:=by have:=r.un;omega
def tNil:TA:=fun _ H Q=>Q [] H
def zsm(ta:TE)(tr:TA):TA:=fun σ H Q=>ta σ H fun x H1=>tr σ H1 fun xs H2=>Q (x::xs) H2
section
variable {t:TA}
def zmB:PA X [] tNil:=fun _ _ _ _ H Q I h=>DO ⟨[],H,I,.nil,h⟩
def zfm(ha:PE X e te)(hr:PA X es t)(hs:starEach (e::es) X.env=(false,eval e X.env)::starEach es X.env:=by rfl):PA X (e::es) (zsm te t):=by intro pos pins s σ H Q I h;rw[hs];show wpAny _ _ (spliced ((false,eval e X.env)::backTo pos (starEach es X.env))) _ _ s;refine CJ<|thn (ha pins s σ H _ I h) ?_;rintro u s1 ⟨x,H1,I1,r1,q1⟩;exact thn (hr pos pins s1 σ H1 _ I1 q1) fun us s2 ⟨xs,H2,I2,r2,q2⟩=>⟨x::xs,H2,I2,.cons r1 r2,q2⟩
def tTup(t:TA):TE:=fun σ H Q=>t σ H fun xs H1=>xs.length<=sizeLine/\∀ p,H1 p=none->Q (.ref p) (upd H1 p<|.tup xs)
def tLst(t:TA):TE:=fun σ H Q=>t σ H fun xs H1=>xs.length<=sizeLine/\∀ p,H1 p=none->Q (.ref p) (upd H1 p<|.lst xs)
def zqK{x1}(h:PA X es t):PE X (.Tuple es x1 pos) (tTup t):=by intro pins s σ H Q I hq;refine EW<|thn (h pos pins s σ H _ I hq) fun us s1 ⟨xs,H1,I1,r,z,q⟩=>⟨by rw[<-r.length];exact z,?_⟩;have hf:H1 s1.heap.objs.size=none:=I1.hok.fresh<|Ah _;refine⟨.ref s1.heap.objs.size,upd H1 s1.heap.objs.size<|.tup xs,I1.laid (t':=s1.toks) (fun b u e=>Ac _ e) (Ah _) ?_,rfl,q _ hf⟩;exact⟨z,us,r,⟨_,Ap _ rfl,rfl,rfl,_,rfl⟩⟩
def zqN(h:PA X es t):PE X (.List es pos) (tLst t):=by intro pins s σ H Q I hq;refine wpAny_List_spliced<|thn (h pos pins s σ H _ I hq) fun us s1 ⟨xs,H1,I1,r,z,q⟩=>⟨by rw[<-r.length];exact z,?_⟩;have hf:H1 s1.heap.objs.size=none:=I1.hok.fresh<|Ah _;refine⟨.ref s1.heap.objs.size,upd H1 s1.heap.objs.size<|.lst xs,I1.laid (t':=s1.toks) (fun b u e=>Ac _ e) (Ah _) ?_,rfl,q _ hf⟩;exact⟨z,us,0,r,Ap _ rfl⟩
end
noncomputable abbrev Sp:=List V->Hp->VK->XK->Prop
noncomputable abbrev CXT:=List Env->Hp->Shared->XK->Value->Shared->Prop
structure Env0(P:Program)(w:World)(K:Ab)(mg:Str->Option Value)(base:Heap)(A:Around)(outer:List Env)(s:Shared)(H:Hp):Prop where
 frames:A.frames=some outer
 mod:Mod K mg base
 bs:∀ b o,base.get? b=some o->s.heap.get? b=some o/\H b=none
 bsz:base.objs.size<=s.heap.objs.size
 funs:s.heap.FunFrames base outer
 frf:∀ b∈frs outer,H b=none
 hok:HOk P w H s.heap
 bare:AllBare s.gens
def CE(outer:List Env)(P:Program)(w:World)(H:Hp)(s:Shared)(Q:VK)(u:Value)(s':Shared):Prop :=
 ∃ v H',s'.os=s.os/\AllBare s'.gens/\Un (frs outer) [] H H' s.heap s'.heap/\HOk P w H' s'.heap/\RelV v u/\Q v H'
def CR(CX:CXT)(outer:List Env)(P:Program)(w:World)(H:Hp)(s:Shared)(Q:VK)(E:XK)(r:Result)(s':Shared):Prop :=
 match r with
 | .ok (.ret u)=>CE outer P w H s Q u s'
 | .ok _=>False
 | .error e=>CX outer H s E e s'
structure FnOk(P:Program)(w:World)(K:Ab)(mg:Str->Option Value)(base:Heap)(CX:CXT)(k:Nat)(f:Addr)(fd:FuncData)(ps:List Str)(sp:Sp):Prop where
 len:∀ vs H Q E,sp vs H Q E->vs.length=ps.length
 run:∀ (A:Around) (outer:List Env) (s:Shared) (H:Hp) (args:Args) (us:List Value) (vs:List V) (Q:VK) (E:XK),Room k A->Env0 P w K mg base A outer s H->BindsTo s fd args (ps.zip us)->Vals vs us->sp vs H Q E ->
   codeAny (model P w) A (.call (.ref f) args) (CR CX outer P w H s Q E) s
variable {mg:Str->Option Value}{base:Heap}{outer:List Env}
def Env0.make(e:Env0 P w K mg base A outer s H)(C:Addr)(us:List Value)(kw:List (Str×Value)) :
   Env0 P w K mg base (A.under<|.builtin "type.__call__" ⟨.ref C::us,kw⟩) outer s H:=⟨by first | exact e.frames | (simpa[DX,Code.envs,Ff,pushEnvs] using e.frames),e.mod,e.bs,e.bsz,e.funs,e.frf,e.hok,e.bare⟩
def Inv.env0(I:Inv X pins σ H s):Env0 X.prog X.w X.K X.mg X.base X.A X.stack s H :=
 ⟨I.ok.frames,I.ok.mod,I.bs,Aw I.ok.bsz I.sz,I.stack,I.stkFree,I.hok,I.bare⟩
def Inv.after{Q:VK}(I:Inv X pins σ H s)(h:CE X.stack X.prog X.w H s Q u s'):EP X pins σ Q u s':=by obtain⟨v,H',os,bare,un,hok,r,q⟩:=h;obtain⟨hh,g,d,t,os'⟩:=s';obtain rfl:os'=s.os:=os;exact⟨v,H',I.call (h':=hh) (g':=g) (d':=d) (t':=t) (ch:=[]) un hok bare fun b z=>absurd z (by simp),r,q⟩
def zsn(sp:Sp)(dvs:List V)(E:XK)(t:TA):TE:=fun σ H Q=>t σ H fun vs H1=>sp (vs++dvs) H1 Q E
def Binds(K:Ab)(fd:FuncData)(ps:List Str)(ds:List Value):Prop :=
 ∀ (s:Shared) (us:List Value),K.In s.heap->(us++ds).length=ps.length->BindsTo s fd ⟨us,[]⟩ (ps.zip<|us++ds)
variable {fd:FuncData}{ps:List Str}
def Binds.all(h:∀ us:List Value,us.length=ps.length->bindArgs fd ⟨us,[]⟩=pure (ps.zip us)):Binds K fd ps []:=fun s us _ hl=>by rw[Al] at hl ⊢;exact .of_eq<|h us hl
def Passes(CX:CXT)(X:Cx)(E:XK):Prop:=∀ (pins:List (Addr×Obj)) (σ:St) (H:Hp) (s:Shared) (e:Value) (s':Shared),Inv X pins σ H s->CX X.stack H s E e s'->X.xe e s'
variable {CX:CXT}{sp:Sp}{apos:Pos}
section
variable {k:Nat} {f:Addr} {dvs:List V} {ds:List Value} {E:XK} {m:Str} {o:Expr} {t:TA}
def zqv{Q:VK}{vs:List V}(F:FnOk X.prog X.w X.K X.mg X.base CX k f fd ps sp)(hr:Room k X.A)(hb:Binds X.K fd ps ds)(hd:Vals dvs ds)(hx:Passes CX X E)
   (I:Inv X pins σ H s) (r:Vals vs us) (h:sp (vs++dvs) H Q E):wpAny (model X.prog X.w) X.A (call (.ref f) us) (EP X pins σ Q) X.xe s:=by
 have r2:Vals (vs++dvs) (us++ds):=r.append hd;have hl:(us++ds).length=ps.length:=by rw[<-r2.length];exact F.len _ _ _ _ h
 refine DT<|Df (F.run X.A X.stack s H ⟨us,[]⟩ (us++ds) (vs++dvs) Q E hr I.env0 (hb s us I.kIn hl) r2 h) fun r s' hq=>?_
 cases r with
 | error e=>exact hx pins σ H s e s' I hq
 | ok fl =>
   cases fl with
   | ret u=>exact I.after hq
   | next=>exact False.elim hq
   | brk=>exact False.elim hq
   | cont=>exact False.elim hq
def zoI(F:FnOk X.prog X.w X.K X.mg X.base CX k f fd ps sp)(hr:Room k X.A)(hg:Gl X x)(hm:X.mg x=some (.ref f))(hk:Bz X.K (.ref f)=true)(hb:Binds X.K fd ps ds)(hd:Vals dvs ds)(hx:Passes CX X E)
   (ha:PA X (e::es) t) (hdb:(x==("__debug__":Str))=false:=by decide) (he:starEach (e::es) X.env=(false,eval e X.env)::starEach es X.env:=by rfl) (hpl:(backTo pos<|starEach es X.env).any (·.1)=false:=by rfl) :
   PE X (.Call (.Name x p) (e::es) [] pos) (zsn sp dvs E t):=by
 intro pins s σ H Q I h;refine BS<|zfx I hg hm ?_ hdb;refine DC (h₀:=X.base) I.ok.mod.kin hk (thn (ha pos pins s σ H _ I h) fun us s1 ⟨vs,H1,I1,r,q⟩=>⟨I1.kIn,?_⟩) he hpl;exact zqv F hr hb hd hx I1 r q
end
structure FnScope(N P:List Str)(sc:Scope):Prop where
 kind:sc.kind=.function
 co:sc.isCoroutine=false
 gen:sc.isGenerator=false
 nd:N.Nodup
 pre:N.take P.length=P
 par:∀ x∈P,sc.names.lookup x=some .local\/sc.names.lookup x=some .cell
 nofree:∀ y∈sc.names,y.2≠.free
variable {kindOf:Str->Option NameKind}
def zg3{kindOf:Str->Option NameKind}{x:Str}:∀ {binds:List (Str×Value)} {m:Str->Option Value},(∀ v,(x,v) ∉ binds)->bindL kindOf binds m x=m x
 | [],_,_=>rfl
 | (n,v)::r,m,h=>by
   unfold bindL;rw[zg3 fun w hw=>h w (Aj _ hw)]
   split
   . have:x≠n:=by rintro rfl;exact h v An
     simp[this]
   rfl
def zg5{kindOf:Str->Option NameKind}{x:Str}:∀ {binds:List (Str×Value)} {m:Str->Option Value},(∀ v,(x,v) ∉ binds)->bindC kindOf binds m x=m x
 | [],_,_=>rfl
 | (n,v)::r,m,h=>by
   unfold bindC;rw[zg5 fun w hw=>h w (Aj _ hw)]
   split
   . rfl
   . have:x≠n:=by rintro rfl;exact h v An
     simp[this]
def zg4{kindOf:Str->Option NameKind}{x:Str}{v:Value}:∀ {P:List Str} {vs:List Value} {i:Nat} {m:Str->Option Value},P.Nodup->P[i]?=some x->vs[i]?=some v->kindOf x=some .local ->
   bindL kindOf (P.zip vs) m x=some v
 | [],_,_,_,_,h,_,_=>by simp at h
 | _::_,[],_,_,_,_,h,_=>by simp at h
 | p::P,w::vs,0,m,nd,h1,h2,hk=>by simp at h1 h2;subst h1;subst h2;show bindL kindOf ((p,w)::P.zip vs) m p=_;unfold bindL;rw[zg3 fun v hv=>(List.nodup_cons.mp nd).1 (Dg hv).1,if_pos hk];simp
 | p::P,w::vs,i+1,m,nd,h1,h2,hk=>by show bindL kindOf ((p,w)::P.zip vs) m x=_;unfold bindL;exact zg4 (i:=i) (List.nodup_cons.mp nd).2 (by simpa using h1) (by simpa using h2) hk
def zg6{kindOf:Str->Option NameKind}{x:Str}{v:Value}:∀ {P:List Str} {vs:List Value} {i:Nat} {m:Str->Option Value},P.Nodup->P[i]?=some x->vs[i]?=some v->kindOf x≠some .local ->
   bindC kindOf (P.zip vs) m x=some v
 | [],_,_,_,_,h,_,_=>by simp at h
 | _::_,[],_,_,_,_,h,_=>by simp at h
 | p::P,w::vs,0,m,nd,h1,h2,hk=>by simp at h1 h2;subst h1;subst h2;show bindC kindOf ((p,w)::P.zip vs) m p=_;unfold bindC;rw[zg5 fun v hv=>(List.nodup_cons.mp nd).1 (Dg hv).1,if_neg hk];simp
 | p::P,w::vs,i+1,m,nd,h1,h2,hk=>by show bindC kindOf ((p,w)::P.zip vs) m x=_;unfold bindC;exact zg6 (i:=i) (List.nodup_cons.mp nd).2 (by simpa using h1) (by simpa using h2) hk
def start(N:List Str)(vs:List V):St:=vs.map some++A5 (N.length - vs.length) none
def cxOf(CX:CXT)(P:Program)(w:World)(K:Ab)(mg:Str->Option Value)(base:Heap)(N:List Str)(qual:Str)(scope:Scope)(f:Addr)(cd:Value)(A:Around)(outer:List Env)(s:Shared)(H:Hp)(E:XK):Cx where
 prog:=P
 w:=w
 K:=K
 mg:=mg
 base:=base
 A:=A.deeper (envOfC qual scope s.heap.objs.size f cd)
 N:=N
 s₀:=s
 H₀:=H
 env:=envOfC qual scope s.heap.objs.size f cd
 outer:=outer
 stack:=envOfC qual scope s.heap.objs.size f cd::outer
 ex:=[]
 calm:=true
 fn:=fun _=>true
 pn:=[]
 xe:=fun e s'=>wpAny (model P w) (A.deeper<|envOfC qual scope s.heap.objs.size f cd) (leaving (envOfC qual scope s.heap.objs.size f cd) e) (fun _ s''=>CX outer H s E e s'') (fun e' s''=>CX outer H s E e' s'') s'
def zjf{sc:Scope}(h:sc.names.lookup x=some .cell):∃ c,(cellsFrom n sc.names []).lookup x=some c:=by have q:=Ek sc.names n []<|.inl h;exact Option.isSome_iff_exists.mp q
variable {qual:Str}{scope:Scope}
def zkz{f:Addr}{cd:Value}{s1:Shared}{E:XK}{vs:List V}
   (S:FnScope N ps scope) (hd:A.handled=none) (e0:Env0 P w K mg base A outer s H) (hl:vs.length=ps.length) (r:Vals vs us)
   (x:InCallC s s.heap.objs.size (bindL (envOfC qual scope s.heap.objs.size f cd).kindOf (ps.zip us) fun _=>none) (cellsFrom (s.heap.objs.size+1) scope.names []) (bindC (envOfC qual scope s.heap.objs.size f cd).kindOf (ps.zip us) fun _=>none) s1) :
   Inv (cxOf CX P w K mg base N qual scope f cd A outer s H E) [] (start N vs) H s1:=by
 have hpl:ps.length<=N.length:=by have:=congrArg FG S.pre;rw[Bp] at this;omega
 obtain⟨h1,tk,rfl,hk⟩:=x.done;have noA:∀ b:Addr,b ∉ (cxOf CX P w K mg base N qual scope f cd A outer s H E).ex:=fun b z=>absurd (show b∈([]:List Addr) from z) (by simp);refine⟨⟨e0.mod,S.kind,rfl,rfl,Ah _,fun y z c h1 h2=>?_,fun y hy=>?_,fun y c _ h=>?_,fun _=>hd,Around.frames_deeper e0.frames,.inr ⟨rfl,rfl⟩,fun b z=>absurd z (noA b),e0.bs,e0.bsz,fun b _ _=>noA b,fun b z=>absurd z (noA b),e0.funs,e0.frf⟩,
   rfl,e0.bare,Un.kept hk,⟨_,x.toInCall.ns,fun i y v h1 h2 h3=>?_⟩,fun y c h=>⟨_,x.cell y c h⟩,e0.hok.fresh (Ah _),fun y c h=>?_,fun p hp=>absurd (show p∈([]:List (Addr×Obj)) from hp) (by simp),e0.hok.kept hk,?_⟩
 . exact name_of_addr x.apart (AO h1)<|AO h2
 . have hy:scope.names.lookup y=some .cell\/scope.names.lookup y=some .free:=hy
   rcases hy with hy | hy
   . exact zjf hy
   exact absurd rfl<|S.nofree _<|AO hy
 . exact BJ<|x.above y c<|AO h
 . have hi:i < vs.length:=by
     unfold start at h2
     by_cases hi:i < vs.length
     . exact hi
     . rw[AS (by simpa using hi)] at h2;rw[Cc] at h2
       split at h2 <;> cases h2
   have ha:vs[i]?=some v:=by
     unfold start at h2;rw[Ao (by simpa using hi),AB] at h2
     cases e:vs[i]? with
     | none=>rw[e] at h2;cases h2
     | some a=>rw[e] at h2;cases h2;rfl
   obtain⟨u,hu,rv⟩:=r.get ha;have hp:ps[i]?=some y:=by rw[<-S.pre,List.getElem?_take_of_lt (by omega)];exact h1
   have ndP:ps.Nodup:=by rw[<-S.pre];exact S.nd.sublist<|List.take_sublist _ _
   refine⟨u,rv,?_⟩
   rcases S.par y (AF hp) with k | k
   . exact .inl ⟨k,zg4 ndP hp hu k⟩
   obtain⟨c,e⟩:=zjf (n:=s.heap.objs.size+1) k;refine .inr ⟨.inl k,c,e,?_⟩;have q:=x.cell y c e;rw[zg6 ndP hp hu (by show scope.names.lookup y≠_;rw[k];decide)] at q;exact q
 . exact e0.hok.fresh<|BJ<|x.above y c<|AO h
 unfold start;show _=N.length;rw[AU,Af,BG];omega
def zr4{k:Nat}{f:Addr}{name qual:Str}{params:Arguments}{body:List Stmt}{scope:Scope}{dV kV doc pm cdv ct oc:Value}{an od:Option Addr}
   {osl:Array (Option Value)}   (lk:K.lookup f=some ⟨oc,od,.func<|BU name qual params body scope dV kV doc pm an cdv ct,osl⟩) (hcd:CN K cdv qual=true) (S:FnScope N ps scope)
   (len:∀ vs H Q E,sp vs H Q E->vs.length=ps.length)
   (hbody:∀ (A:Around) (outer:List Env) (s:Shared) (H:Hp) (vs:List V) (Q:VK) (E:XK),Room k (A.deeper<|envOfC qual scope s.heap.objs.size f cdv)->sp vs H Q E ->
     ∃ t,PSs (cxOf CX P w K mg base N qual scope f cdv A outer s H E) body t/\t { nx:=fun _ H'=>Q .non H',rt:=Q } (start N vs) H) :
   FnOk P w K mg base CX (k+1) f (BU name qual params body scope dV kV doc pm an cdv ct) ps sp:=by
 refine⟨len,fun A outer s H args us vs Q E hr e0 hb r hsp=>?_⟩;have hl:=len _ _ _ _ hsp;have KX:K.In s.heap:=e0.mod.kin.keeps fun b o e=>(e0.bs b o e).1;have lim:s.heap.NoLimit:=e0.mod.nolimit.keeps fun b o e=>(e0.bs b o e).1;have hkind:∀ y∈ps.zip us,scope.names.lookup y.1=some .local\/(scope.names.lookup y.1=some .cell/\((cellsFrom (s.heap.objs.size+1) scope.names []).lookup y.1).isSome=true):=by
   rintro ⟨n,v⟩ hy
   rcases S.par n (Dg hy).1 with q | q
   . exact .inl q
   exact .inr ⟨q,Ek _ _ _<|.inl q⟩
 refine codeAny_call_function hr.depth (KX _ _ lk) rfl S.co S.gen rfl (PySem.W.codeRec_of KX hcd)<|hb _ _ _ _ ?_;refine wpAny_newFunctionEnv_cells S.kind hkind fun env he s1 x=>?_;subst he;refine⟨lim.keeps x.toInCall.keep,codeAny_func ?_⟩;obtain⟨t,ht,hq⟩:=hbody A outer s H vs Q E (hr.deeper _) hsp;have I:Inv (cxOf CX P w K mg base N qual scope f cdv A outer s H E) [] (start N vs) H s1:=zkz S hr.hd e0 hl r x;refine AL (ht [] s1 (start N vs) H _ I hq) (fun fl s' hs=>?_) fun e s' hs=>hs;have fin:∀ {σ':St} {H':Hp} {v:V} {u:Value},Inv (cxOf CX P w K mg base N qual scope f cdv A outer s H E) [] σ' H' s'->RelV v u->Q v H'->CE outer P w H s Q u s' :=
   fun {σ' H' v u} J rv q=>⟨v,H',J.os,J.bare,J.base,J.hok,rv,q⟩
 cases fl with
 | ret u =>
   obtain⟨v,σ',H',J,rv,q⟩:=hs;exact fin J rv q
 | next =>
   obtain⟨σ',H',J,q⟩:=hs;exact fin (v:=V.non) (u:=AD) J rfl q
 | brk =>
   obtain⟨_,_,_,q⟩:=hs;exact False.elim q
 | cont =>
   obtain⟨_,_,_,q⟩:=hs;exact False.elim q
variable {id T:String}
section
variable {t:TA} {r:List V->Hp->VK->Prop}
def tCB(r:List V->Hp->VK->Prop)(t:TA):TE:=fun σ H Q=>t σ H fun vs H1=>r vs H1 Q
def zf2(hc:zjy X (.builtin id) r)(hg:Gl X x)(hm:X.mg x=none)(hv:bootBuiltins x=some (.builtin id))(ha:PA X (e::es) t)(hn:x≠"__name__":=by decide)(hdb:(x==("__debug__":Str))=false:=by decide)
   (he:starEach (e::es) X.env=(false,eval e X.env)::starEach es X.env:=by rfl) (hpl:(backTo pos<|starEach es X.env).any (·.1)=false:=by rfl):PE X (.Call (.Name x p) (e::es) [] pos) (tCB r t):=by
 intro pins s σ H Q I h;refine BS<|zhq I hg hm hv ?_ hn hdb;exact PyProof.Rows.callWith_builtin1 (thn (ha pos pins s σ H _ I h) fun us s1 ⟨vs,H1,I1,r1,q1⟩=>hc pins s1 σ H1 vs us Q I1 r1 q1) he hpl
def zj8(hc:zjy X (.type T) r)(hg:Gl X x)(hm:X.mg x=none)(hv:bootBuiltins x=some (.type T))(ha:PA X (e::es) t)(hn:x≠"__name__":=by decide)(hdb:(x==("__debug__":Str))=false:=by decide)
   (he:starEach (e::es) X.env=(false,eval e X.env)::starEach es X.env:=by rfl) (hpl:(backTo pos<|starEach es X.env).any (·.1)=false:=by rfl):PE X (.Call (.Name x p) (e::es) [] pos) (tCB r t):=by
 intro pins s σ H Q I h;refine BS<|zhq I hg hm hv ?_ hn hdb;exact BR (thn (ha pos pins s σ H _ I h) fun us s1 ⟨vs,H1,I1,r1,q1⟩=>hc pins s1 σ H1 vs us Q I1 r1 q1) he hpl
end
variable {d:V}
section
variable [DecidableEq κ]
def valV(kvs:List (κ×V))(k:κ):Option V:=(kvs.find? fun kv=>decide (kv.1=k)).map (·.2)
def putK(kvs:List (κ×V))(k:κ)(v:V):List (κ×V) :=
 if (kvs.any fun kv=>decide (kv.1=k))=true then kvs.map (fun kv=>if kv.1=k then (kv.1,v) else kv) else kvs++[(k,v)]
def zfR{p:κ×V}{r:List (κ×V)}{k:κ}(e:p.1=k):valV (p::r) k=some p.2:=by simp[valV,AW,e]
def zfS{p:κ×V}{r:List (κ×V)}{k:κ}(e:¬ p.1=k):valV (p::r) k=valV r k:=by simp[valV,AW,e]
def zhF(k:κ):∀ kvs:List (κ×V),(kvs.any fun kv=>decide (kv.1=k))=(valV kvs k).isSome
 | []=>rfl
 | p::r=>by
   rw[Cs]
   by_cases e:p.1=k
   . simp only[zfR e,decide_eq_true e,Bool.true_or,Fg]
   rw[zfS e,decide_eq_false e,Bool.false_or];exact zhF k r
def zdg(kvs:List (κ×V))(k:κ)(v:V):(putK kvs k v).length<=kvs.length+1:=by
 unfold putK
 split
 . rw[Af];omega
 rw[AU,Az,Bf];omega
def RelO.isSome_eq{o:Option V}{u:Option Value}(r:RelO o u):o.isSome=u.isSome:=by
 cases o with
 | none=>cases u with
   | none=>rfl
   | some _=>exact (show False from r).elim
 | some _=>cases u with
   | none=>exact (show False from r).elim
   | some _=>rfl
def RelO.getD{o:Option V}{u:Option Value}{d:V}{d':Value}(r:RelO o u)(rd:RelV d d'):RelV (o.getD d) (u.getD d'):=by
 cases o with
 | none=>cases u with
   | none=>exact rd
   | some _=>exact (show False from r).elim
 | some _=>cases u with
   | none=>exact (show False from r).elim
   | some _=>exact r
def KV.val{kvs:List (κ×V)}{vs:List (κ×Value)}(r:KV kvs vs)(k:κ):RelO (valV kvs k) (valueAt vs k):=by
 unfold KV at r
 induction r with
 | nil=>exact CO
 | @cons p q ps qs h t ih =>
   obtain⟨h1,h2⟩:=h
   by_cases e:p.1=k
   . have e':q.1=k:=h1.symm.trans e;have b:valueAt (q::qs) k=some q.2:=by simp[valueAt,AW,e']
     rw[zfR e,b];exact h2
   . have e':¬ q.1=k:=fun z=>e<|h1.trans z;have b:valueAt (q::qs) k=valueAt qs k:=by simp[valueAt,AW,e']
     rw[zfS e,b];exact ih
def KV.any{kvs:List (κ×V)}{vs:List (κ×Value)}(r:KV kvs vs)(k:κ):(kvs.any fun kv=>decide (kv.1=k))=vs.any fun kv=>decide (kv.1=k):=by
 unfold KV at r
 induction r with
 | nil=>rfl
 | cons h t ih=>rw[Cs,Cs,ih,h.1]
def KV.repl{kvs:List (κ×V)}{vs:List (κ×Value)}(r:KV kvs vs)(k:κ)(ry:RelV y u) :
   KV (kvs.map fun kv=>if kv.1=k then (kv.1,y) else kv) (vs.map fun kv=>if kv.1=k then (kv.1,u) else kv):=by
 unfold KV at r ⊢
 induction r with
 | nil=>exact .nil
 | @cons p q ps qs h t ih =>
   rw[Ay,Ay];refine .cons ?_ ih;obtain⟨h1,h2⟩:=h
   by_cases e:p.1=k
   . rw[if_pos e,if_pos (h1.symm.trans e)];exact⟨h1,ry⟩
   rw[if_neg e,if_neg (fun z=>e (h1.trans z))];exact⟨h1,h2⟩
def KV.put{kvs:List (κ×V)}{vs:List (κ×Value)}(r:KV kvs vs)(k:κ)(ry:RelV y u):KV (putK kvs k y) (stored vs k u):=by
 unfold putK stored;rw[r.any k]
 by_cases e:(vs.any fun kv=>decide (kv.1=k))=true
 . rw[if_pos e,if_pos e];exact r.repl k ry
 rw[if_neg e,if_neg e];exact Gz r ⟨rfl,ry⟩
def KV.length{kvs:List (κ×V)}{vs:List (κ×Value)}(r:KV kvs vs):kvs.length=vs.length:=Br r
end
def zmZ{k:Key}(r:RelV (kV k) u):(zaz P w).is k u=true:=by
 cases k with
 | inl i=>obtain⟨t,e⟩:=(show ∃ t,u=DA i t from r);subst e;exact zhn P w i t
 | inr x=>obtain⟨t,e⟩:=(show ∃ t,u=Gj x t from r);subst e;exact zhm P w x t
def zgT{P:Program}{w:World}:∀ {ks:List Key} {us:List Value},Vals (ks.map kV) us->ItemsAre (zaz P w) ks us
 | [],_,r=>by rw[BK] at r;cases r;exact .nil
 | k::ks,_,r=>by
   rw[Ay] at r
   cases r with
   | cons h t=>exact .cons (zmZ h)<|zgT t
noncomputable abbrev KT (H:Hp):List (List Key×V)->List (List Key×Addr×Value)->Prop:=Paired fun p q=>p.1=q.1/\H q.2.1=some (.tup<|p.1.map kV)/\RelV p.2 q.2.2
variable {xs:List (List Key×Addr×Value)}{kvs:List (List Key×V)}
def KT.val(r:KT H kvs xs)(k:List Key):RelO (valV kvs k) ((atKey xs k).map (·.2)):=by
 induction r with
 | nil=>exact CO
 | @cons p q ps qs h t ih =>
   obtain⟨h1,_,h2⟩:=h
   by_cases e:p.1=k
   . have e':q.1=k:=h1.symm.trans e;have b:atKey (q::qs) k=some q.2:=by simp[atKey,AW,e']
     rw[zfR e,b];exact h2
   . have e':¬ q.1=k:=fun z=>e<|h1.trans z;have b:atKey (q::qs) k=atKey qs k:=by simp[atKey,AW,e']
     rw[zfS e,b];exact ih
def KT.repl(r:KT H kvs xs)(k:List Key)(ry:RelV y u) :
   KT H (kvs.map fun kv=>if kv.1=k then (kv.1,y) else kv) (xs.map<|putAt k u):=by
 induction r with
 | nil=>exact .nil
 | @cons p q ps qs h t ih =>
   rw[Ay,Ay];refine .cons ?_ ih;obtain⟨h1,h2,h3⟩:=h;unfold putAt
   by_cases e:p.1=k
   . rw[if_pos e,if_pos (h1.symm.trans e)];exact⟨h1,h2,ry⟩
   rw[if_neg e,if_neg (fun z=>e (h1.trans z))];exact⟨h1,h2,h3⟩
def KT.put(r:KT H kvs xs)(k:List Key)(hb:H b=some (.tup<|k.map kV))(ry:RelV y u) :
   KT H (putK kvs k y) (storedH xs k b u):=by
 have e:(kvs.any fun kv=>decide (kv.1=k))=(atKey xs k).isSome:=by rw[zhF,(r.val k).isSome_eq,Cn]
 unfold putK storedH;rw[e]
 by_cases q:(atKey xs k).isSome=true
 . rw[if_pos q,if_pos q];exact r.repl k ry
 rw[if_neg q,if_neg q];exact Gz r ⟨rfl,hb,ry⟩
def KT.keeps(r:KT H kvs xs)(ht:∀ b ys,H b=some (.tup ys)->H' b=some (.tup ys)):KT H' kvs xs :=
 Paired.mapP r fun _ _ z=>⟨z.1,ht _ _ z.2.1,z.2.2⟩
def zrS{u:HO}(ok:HOk P w H h)(e:Rd H a u):zdu P w H h a u:=e.ok ok
def znk{kvs:List (Key×V)}(ok:HOk P w H h)(e:Rd H a (.dK kvs)):kvs.length<=sizeLine/\(a==sysModules)=false/\∃ vs,KV kvs vs/\h.DictOf (zaz P w) a vs :=
 show zdu P w H h a (.dK kvs) from zrS ok e
def ztb{kvs:List (Key×V)}(ok:HOk P w H h)(e:H a=some (.dK kvs)):kvs.length<=sizeLine/\(a==sysModules)=false/\∃ vs,KV kvs vs/\h.DictOf (zaz P w) a vs:=znk ok<|.inl e
def zgg{ks:List Key}(ok:HOk P w H h)(e:H a=some (.tup<|ks.map kV)):(tupleKind<|zaz P w).is h ks a:=by
 obtain⟨_,its,r,o,h1,h2,_,n,h3⟩:=(show zdu P w H h a (.tup<|ks.map kV) from ok a _ e)
 exact⟨o,its.toArray,n,h1,h2,h3,by simpa using zgT r⟩
def znh(ok:HOk P w H h)(e:Rd H a (.dT kvs)):kvs.length<=sizeLine/\(a==sysModules)=false /\
   ∃ xs,KT H kvs xs/\h.DictOfH (tupleKind<|zaz P w) a xs:=by
 obtain⟨z,y,xs,r,o,es,ep,h1,h2,h3,h4,h5⟩:=(show zdu P w H h a (.dT kvs) from zrS ok e)
 refine⟨z,y,xs,r,o,es,ep,h1,h2,h3,h4,fun x hx=>?_,h5⟩;have all:∀ {l:List (List Key×V)} {m:List (List Key×Addr×Value)},KT H l m->∀ x∈m,(tupleKind<|zaz P w).is h x.1 x.2.1:=by
   intro l m q
   induction q with
   | nil=>intro x hx;exact nomatch hx
   | @cons p q ps qs hq t ih =>
     intro x hx
     rcases List.mem_cons.mp hx with e | hx
     . subst e;exact zgg ok (by rw[<-hq.1];exact hq.2.1)
     exact ih x hx
 exact all r x hx
def zs9(ok:HOk P w H h)(e:H a=some (.dT kvs)):kvs.length<=sizeLine/\(a==sysModules)=false /\
   ∃ xs,KT H kvs xs/\h.DictOfH (tupleKind<|zaz P w) a xs:=znh ok (.inl e)
def DGet(H:Hp)(a:Addr)(y:V)(r:Option V):Prop :=
 (∃ kvs k,Rd H a (.dK kvs)/\y=kV k/\r=valV kvs k)\/∃ kvs k b,Rd H a (.dT kvs)/\y=.ref b/\H b=some (.tup<|k.map kV)/\r=valV kvs k
def DPut(H:Hp)(a:Addr)(y v:V)(H':Hp):Prop :=
 (∃ kvs k,H a=some (.dK kvs)/\y=kV k/\kvs.length < sizeLine/\H'=upd H a (.dK<|putK kvs k v)) \/
 ∃ kvs k b,H a=some (.dT kvs)/\y=.ref b/\H b=some (.tup<|k.map kV)/\kvs.length < sizeLine/\H'=upd H a (.dT<|putK kvs k v)
def DGet.k{H:Hp}{a:Addr}{kvs:List (Key×V)}{k:Key}(e:H a=some (.dK kvs)):DGet H a (kV k) (valV kvs k):=.inl ⟨kvs,k,.inl e,rfl,rfl⟩
def DGet.t{k:List Key}(e:H a=some (.dT kvs))(eb:H b=some (.tup<|k.map kV)):DGet H a (.ref b) (valV kvs k):=.inr ⟨kvs,k,b,.inl e,rfl,eb,rfl⟩
def DPut.k{H:Hp}{a:Addr}{kvs:List (Key×V)}{k:Key}{v:V}(e:H a=some (.dK kvs))(hl:kvs.length < sizeLine):DPut H a (kV k) v (upd H a<|.dK<|putK kvs k v):=.inl ⟨kvs,k,e,rfl,hl,rfl⟩
def DPut.t{k:List Key}(e:H a=some (.dT kvs))(eb:H b=some (.tup<|k.map kV))(hl:kvs.length < sizeLine) :
   DPut H a (.ref b) v (upd H a<|.dT<|putK kvs k v):=.inr ⟨kvs,k,b,e,rfl,eb,hl,rfl⟩
section
variable {r:Value} {o:Option V}
def Inv.big(I:Inv X pins σ H s):sysModules < s.heap.objs.size:=by have h:mainGlobals < s.heap.objs.size:=(I.mod.glob.keeps I.bk).lt;exact BV (by decide) h
def zkL(hu:A.units+1 < cLine)(I:Inv X pins σ H s)(g:DGet H a y (some v))(ry:RelV y u)(h:∀ w' s',Inv X pins σ H s'->RelV v w'->Q w' s') :
   wpAny (model X.prog X.w) A (getItem (.ref a) u) Q E s:=by
 rcases g with ⟨kvs,k,e,ey,l⟩ | ⟨kvs,k,b,e,ey,eb,l⟩
 . subst ey;obtain⟨z,hd,vs,rel,dd⟩:=znk I.hok e;obtain⟨w',hw,rw'⟩:=RelO.some_of (v:=v) (o:=valueAt vs k) (by rw[l];exact rel.val k);exact wpAny_getItem_of (zmZ ry) dd.mapOf hw<|h w' _ (I.tok _) rw'
 . subst ey
   cases (show u=As b from ry)
   obtain⟨z,hd,xs,rel,dd⟩:=znh I.hok e;obtain⟨w',hw,rw'⟩:=RelO.some_of (v:=v) (o:=(atKey xs k).map (·.2)) (by rw[l];exact rel.val k);obtain⟨p,hp,hp2⟩:=Option.map_eq_some_iff.mp hw;refine wpAny_getItem_heap (Ci hu) (zgg I.hok eb) dd hp ?_;rw[hp2];exact h w' _ (I.tok _) rw'
def d_in(hu:A.units+1 < cLine)(I:Inv X pins σ H s)(g:DGet H a y o)(ry:RelV y u)(h:∀ s',Inv X pins σ H s'->Q (.bool o.isSome) s') :
   wpAny (model X.prog X.w) A (compareOp .In u<|.ref a) Q E s:=by
 rcases g with ⟨kvs,k,e,ey,l⟩ | ⟨kvs,k,b,e,ey,eb,l⟩
 . subst ey;obtain⟨z,hd,vs,rel,dd⟩:=znk I.hok e;refine wpAny_in_of (zmZ ry) hd dd.mapOf ?_;rw[<-(rel.val k).isSome_eq,<-l];exact h _<|I.tok _
 . subst ey
   cases (show u=As b from ry)
   obtain⟨z,hd,xs,rel,dd⟩:=znh I.hok e;refine wpAny_in_heap (Ci hu) (zgg I.hok eb) hd dd ?_;have q:=(rel.val k).isSome_eq;rw[Cn] at q;rw[<-q,<-l];exact h _<|I.tok _
def zpv(hu:A.units+1 < cLine)(I:Inv X pins σ H s)(g:DGet H a y o)(ry:RelV y u)(h:∀ s',Inv X pins σ H s'->Q (.bool<|!o.isSome) s') :
   wpAny (model X.prog X.w) A (compareOp .NotIn u<|.ref a) Q E s:=by
 rcases g with ⟨kvs,k,e,ey,l⟩ | ⟨kvs,k,b,e,ey,eb,l⟩
 . subst ey;obtain⟨z,hd,vs,rel,dd⟩:=znk I.hok e;refine wpAny_notIn_of (zmZ ry) hd dd.mapOf ?_;rw[<-(rel.val k).isSome_eq,<-l];exact h _<|I.tok _
 . subst ey
   cases (show u=As b from ry)
   obtain⟨z,hd,xs,rel,dd⟩:=znh I.hok e;refine wpAny_notIn_heap (Ci hu) (zgg I.hok eb) hd dd ?_;have q:=(rel.val k).isSome_eq;rw[Cn] at q;rw[<-q,<-l];exact h _<|I.tok _
def zlA{ob:HO}(I:Inv X pins σ H s)(mu:Mut (H a))(hs:B7 a s.heap h')(he:∃ q,h'.get? a=some q)(new:zdu X.prog X.w (upd H a ob) h' a ob) :
   Inv X pins σ (upd H a ob) { s with heap:=h',toks:=t' } :=
 I.write (x:=a) (e:=a) mu (.inl rfl) (fun b q hb z=>(hs.2 b hb).trans z) he new
def znl{kvs:List (Key×V)}{vs:List (Key×Value)}(z:kvs.length<=sizeLine)(hd:(a==sysModules)=false)(rel:KV kvs vs)(dd:h'.DictOf (zaz P w) a vs) :
   zdu P w H' h' a (.dK kvs):=⟨z,hd,vs,rel,dd⟩
def zkK{Q:Unit->Shared->Prop}(hu:A.units+1 < cLine)(I:Inv X pins σ H s)(g:DPut H a y v H')(ry:RelV y u)(rv:RelV v r)(h:∀ s',Inv X pins σ H' s'->Q () s') :
   wpAny (model X.prog X.w) A (setItem (.ref a) u r) Q E s:=by
 rcases g with ⟨kvs,k,e,ey,l,eH⟩ | ⟨kvs,k,b,e,ey,eb,l,eH⟩
 . subst ey eH;obtain⟨z,hd,vs,rel,dd⟩:=ztb I.hok e;have hz:vs.length<=sizeLine:=by rw[<-rel.length];exact z
   have hl:(putK kvs k v).length<=sizeLine:=by have:=zdg kvs k v;omega
   refine wpAny_setItem_pairs (hsz:=hz) (zmZ ry) dd fun h' dd' hs=>h _ ?_;have he:∃ q,h'.get? a=some q:=let ⟨q,_,_,hq,_⟩:=dd';⟨q,hq⟩
   exact zlA I (by rw[e];exact CO) hs he<|znl hl hd (rel.put k rv) dd'
 . subst ey eH
   cases (show u=As b from ry)
   obtain⟨z,hd,xs,rel,dd⟩:=zs9 I.hok e;have hz:xs.length<=sizeLine:=by rw[<-Br rel];exact z
   have hl:(putK kvs k v).length<=sizeLine:=by have:=zdg kvs k v;omega
   refine wpAny_setItem_heap (hsz:=hz) (Ci hu) (zgg I.hok eb) dd fun h' dd' hs=>h _ ?_;obtain⟨q,es,ep,hq,h2,h3,h4,_,h5⟩:=dd';refine zlA I (by rw[e];exact CO) hs ⟨q,hq⟩ ⟨hl,hd,_,(rel.put k eb rv).keeps fun c ys ec=>?_,q,es,ep,hq,h2,h3,h4,h5⟩;rw[zan (zjv ec e fun z=>nomatch z)];exact ec
end
def NoSl(i:Expr):Prop:=∀ ov iv,subscripted i false ov iv=operate [ov,iv] (getItem ov iv)
variable {value:Expr}
def znY{slice:Expr}
   (hl:typeLookup (.type T) "__getitem__"=pure (some<|.builtin id)) (hs:NoSl slice)
   (h:wpAny (model prog w) A (eval value env) (fun o s₁=>wpAny (model prog w) A (eval slice env) (fun i s₂=>s₂.TypeIs o T/\wpAny (model prog w) A (getItem o i) Q E s₂) E s₁) E s) :
   wpAny (model prog w) A (eval (.Subscript value slice pos) env) Q E s:=by
 refine EL<|AL h (fun o s₁ h₁=>AL h₁ (fun i s₂ h₂=>?_) fun _ _ x=>x) fun _ _ x=>x;obtain⟨hT,h₂⟩:=h₂;unfold subscriptTail;refine Aa ?_;rw[getitemInPython_of_ne hT.not_modules];refine Aa<|wpAny_specialOf hT hl ?_;have fin:wpAny (model prog w) A (subscripted slice false o i) (fun r s₃=>wpAny (model prog w) A (letTemporaryGo value o r >>= fun _=>pure r) Q E s₃) E s₂:=by rw[hs o i];exact wpAny_operating<|AL h₂ (fun r s₃ h₃=>Aa (wpAny_letTemporaryGo<|Ae h₃)) fun _ _ x=>x
 first
   | exact Ae (Aa fin)
   | exact Aa (Ae<|Aa fin)
   | exact Aa fin
def zhs{o:Option V}(I:Inv X pins σ H s)(g:DGet H a y o):s.TypeIs (.ref a) "dict":=by
 rcases g with ⟨kvs,k,e,_,_⟩ | ⟨kvs,k,b,e,_,_,_⟩
 . obtain⟨_,_,vs,_,dd⟩:=znk I.hok e;exact dd.typeIs
 obtain⟨_,_,xs,_,dd⟩:=znh I.hok e;exact dd.typeIs
def zsl(td ty:TE):TE:=fun σ H Q=>td σ H fun x H1=>ty σ H1 fun y H2=>∃ a v,x=.ref a/\DGet H2 a y (some v)/\Q v H2
def tDIn(ty td:TE):TE:=fun σ H Q=>ty σ H fun y H1=>td σ H1 fun x H2=>∃ a o,x=.ref a/\DGet H2 a y o/\Q (.bl o.isSome) H2
def znW(ty td:TE):TE:=fun σ H Q=>ty σ H fun y H1=>td σ H1 fun x H2=>∃ a o,x=.ref a/\DGet H2 a y o/\Q (.bl<|!o.isSome) H2
def zsx(td ty tv:TE):TS:=fun D σ H=>tv σ H fun v H1=>td σ H1 fun x H2=>ty σ H2 fun y H3=>∃ a H4,x=.ref a/\DPut H3 a y v H4/\D.nx σ H4
variable {td ty:TE}
section
variable {o i:Expr} {tpos:Pos} {tv:TE}
def zlf(hu:X.A.units+1 < cLine)(ho:PE X o td)(hi:PE X i ty)(hs:NoSl i):PE X (.Subscript o i pos) (zsl td ty):=by intro pins s σ H Q I h;refine znY PySem.F.slot_dict_getitem.lookup hs<|thn (ho pins s σ H _ I h) fun u s1 ⟨x,H1,I1,rx,q1⟩=>thn (hi pins s1 σ H1 _ I1 q1) ?_;rintro iv s2 ⟨y,H2,I2,ry,a,v,ex,g,q2⟩;subst ex;obtain rfl:u=As a:=rx;exact⟨zhs I2 g,zkL hu I2 g ry fun w' s3 I3 rw'=>⟨v,H2,I3,rw',q2⟩⟩
def zqR(hu:X.A.units+1 < cLine)(hi:PE X i ty)(ho:PE X o td):PC X .In i o (tDIn ty td):=by intro pins s σ H Q I h;refine thn (hi pins s σ H _ I h) fun iv s1 ⟨y,H1,I1,ry,q1⟩=>thn (ho pins s1 σ H1 _ I1 q1) ?_;rintro u s2 ⟨x,H2,I2,rx,a,ov,ex,g,q2⟩;subst ex;obtain rfl:u=As a:=rx;exact d_in hu I2 g ry fun s3 I3=>⟨.bl ov.isSome,H2,I3,rfl,q2⟩
def zj9(hu:X.A.units+1 < cLine)(hi:PE X i ty)(ho:PE X o td):PC X .NotIn i o (znW ty td):=by intro pins s σ H Q I h;refine thn (hi pins s σ H _ I h) fun iv s1 ⟨y,H1,I1,ry,q1⟩=>thn (ho pins s1 σ H1 _ I1 q1) ?_;rintro u s2 ⟨x,H2,I2,rx,a,ov,ex,g,q2⟩;subst ex;obtain rfl:u=As a:=rx;exact zpv hu I2 g ry fun s3 I3=>⟨.bl<|!ov.isSome,H2,I3,rfl,q2⟩
def zow(hu:X.A.units+1 < cLine)(ho:PE X o td)(hi:PE X i ty)(hv:PE X value tv)(hs:swapsWith value (some<|.Subscript o i pos') pos.line X.env=pure false) :
   PS X (.Assign [.Subscript o i pos'] value pos) (zsx td ty tv):=by
 intro pins s σ H D I h;refine wpAny_Assign_Subscript (thn (hv pins s σ H _ I h) fun r s1 ⟨v,H1,I1,rv,q1⟩=>thn (ho pins s1 σ H1 _ I1 q1) fun u s2 ⟨x,H2,I2,rx,q2⟩=>thn (hi pins s2 σ H2 _ I2 q2) ?_) hs;rintro iv s3 ⟨y,H3,I3,ry,a,H4,ex,g,q3⟩;subst ex;obtain rfl:u=As a:=rx;exact zkK hu I3 g ry rv fun s4 I4=>⟨σ,H4,I4,q3⟩
end
def zni(h:Heap)(hb:sysModules < h.objs.size):zdu P w H (h.push { cls:=.type "dict",data:=.dict #[] }) h.objs.size (.dT []) :=
 ⟨Bd _,beq_eq_false_iff_ne.mpr<|AZ<|Ar hb,[],.nil,_,#[],0,Ap _ rfl,⟨rfl,rfl,rfl⟩,rfl,rfl,Gf⟩
def zp7:TE:=fun _ H Q=>∀ p,H p=none->Q (.ref p) (upd H p<|.dT [])
def zmy:PE X (.Dict [] [] pos) zp7:=fun pins s σ H Q I h =>
 wpAny_Dict_empty ⟨.ref s.heap.objs.size,_,I.laid (a:=s.heap.objs.size) (o:=.dT []) (t':=s.toks) (fun _ _ q=>Ac _ q) (Ah _)<|zni s.heap I.big,rfl,h _<|I.hok.fresh<|Ah _⟩
def zed(kvs more:List (Key×V)):List (Key×V):=more.foldl (fun acc kv=>putK acc kv.1 kv.2) kvs
def KV.merge:∀ {more:List (Key×V)} {rs:List (Key×Value)} {kvs:List (Key×V)} {vs:List (Key×Value)},KV more rs->KV kvs vs->KV (zed kvs more) (merged vs rs):=by
 intro more rs kvs vs r;unfold KV at r
 induction r generalizing kvs vs with
 | nil=>intro q;exact q
 | @cons p q ps qs h t ih =>
   intro r0;have e:KV (putK kvs p.1 p.2) (stored vs q.1 q.2):=by have:=r0.put p.1 h.2;rw[<-h.1];exact this
   exact ih e
def zcj:∀ (more kvs:List (Key×V)),(zed kvs more).length<=kvs.length+more.length
 | [],kvs=>by show kvs.length<=kvs.length+0;omega
 | p::r,kvs=>by have h1:=zcj r<|putK kvs p.1 p.2;have h2:=zdg kvs p.1 p.2;show (zed (putK kvs p.1 p.2) r).length<=_;rw[Az];omega
structure M1(X:Cx)(o:Expr)(m:Str)(apos:Pos)(e:Expr)(cpos:Pos):Prop where
 base:attributeBase o m X.env (eval o X.env)=eval o X.env
 few:((backTo cpos (starEach [e] X.env)).all (fun x=>!x.1)&&(backToKw cpos (keywordEach [] X.env)).all (fun x=>x.1.isSome)
  &&decide (([e]:List Expr).length+([]:List Keyword).length+(if ([]:List Keyword).isEmpty then 0 else 1) < 30))=true
 line:(apos.endLine==cpos.line)=true
 trees:backTo cpos (starEach [e] X.env)=[(false,eval e X.env)]
def IsD(H:Hp)(a:Addr):Prop:=(∃ kvs,Rd H a (.dK kvs))\/∃ kvs,Rd H a (.dT kvs)
def zpb(I:Inv X pins σ H s)(d:IsD H a) :
   s.TypeIs (.ref a) "dict"/\(∀ b,As a=.ref b->∃ ob,s.heap.get? b=some ob/\ob.dict=none)/\(a==sysModules)=false:=by
 rcases d with ⟨kvs,e⟩ | ⟨kvs,e⟩
 . obtain⟨_,hd,vs,_,dd⟩:=znk I.hok e;refine⟨dd.typeIs,fun b q=>?_,hd⟩;cases q;obtain⟨ob,_,_,h1,h2,_⟩:=dd;exact⟨ob,h1,h2.2.1⟩
 obtain⟨_,hd,xs,_,dd⟩:=znh I.hok e;refine⟨dd.typeIs,fun b q=>?_,hd⟩;cases q;obtain⟨ob,_,_,h1,h2,_⟩:=dd;exact⟨ob,h1,h2.2.1⟩
section
variable {r:Value} {o:Option V}
def zrz(hu:A.units+1 < cLine)(I:Inv X pins σ H s)(g:DGet H a y o)(ry:RelV y u)(h:∀ w' s',Inv X pins σ H s'->RelV (o.getD .non) w'->Q w' s') :
   wpAny (model X.prog X.w) A (call (.builtin "dict.get") [.ref a,u]) Q E s:=by
 rcases g with ⟨kvs,k,e,ey,l⟩ | ⟨kvs,k,b,e,ey,eb,l⟩
 . subst ey;obtain⟨z,hd,vs,rel,dd⟩:=znk I.hok e;refine call_meetsIn C7 dd.typeIs El (Ea _ _) (meets_dict_get (zaz X.prog X.w) a (zmZ ry) hd) ⟨_,dd.mapOf,h _ _ (I.tok _) ?_⟩;rw[l];exact (rel.val k).getD rfl
 . subst ey
   cases (show u=As b from ry)
   obtain⟨z,hd,xs,rel,dd⟩:=znh I.hok e;refine call_meetsIn C7 dd.typeIs El (Ea _ _) (meetsH_dict_get (tupleKind<|zaz X.prog X.w) a b hd) ⟨Ci hu,k,xs,zgg I.hok eb,dd,h _ _ (I.tok _) ?_⟩;rw[l];exact (rel.val k).getD rfl
end
def zp8(td ty:TE):TE:=fun σ H Q=>td σ H fun x H1=>∃ a,x=.ref a/\IsD H1 a/\ty σ H1 fun y H2=>∃ o,DGet H2 a y o/\Q (o.getD .non) H2
section
variable {o f:Expr} {cpos:Pos} {tx:TE}
def zmz(hu:X.A.units+1 < cLine)(ho:PE X o td)(he:PE X e ty)(m:M1 X o "get" apos e cpos):PE X (.Call (.Attribute o "get" apos) [e] [] cpos) (zp8 td ty):=by intro pins s σ H Q I h;refine wpAny_Call_method m.base m.few m.line PySem.F.plainAttrs_dict C7 PySem.F.type_dict_get<|thn (ho pins s σ H _ I h) ?_;rintro u s1 ⟨x,H1,I1,rx,a,ex,d,q1⟩;subst ex;obtain rfl:u=As a:=rx;obtain⟨t1,t2,_⟩:=zpb I1 d;refine⟨t1,t2,?_⟩;rw[m.trees];refine Em rfl<|EM<|CJ<|thn (he pins s1 σ H1 _ I1 q1) fun iv s2 ⟨y,H2,I2,ry,ov,g,q2⟩=>DO ?_;exact zrz hu I2 g ry fun w' s3 I3 rw'=>⟨_,H2,I3,rw',q2⟩
end
end L2
namespace HT
open PySem PyProof.Rows
def lexLt:List Int->List Int->Bool
 | [],[]=>false
 | [],_::_=>true
 | _::_,[]=>false
 | x::xs,y::ys=>if x=y then lexLt xs ys else decide (x < y)
theorem lexLt_cons(x y:Int)(xs ys:List Int):lexLt (x::xs) (y::ys)=if x=y then lexLt xs ys else decide (x < y):=rfl
theorem lexLt_nil_nil:lexLt [] []=false:=rfl
theorem lexLt_nil_cons(y:Int)(ys:List Int):lexLt [] (y::ys)=true:=rfl
theorem lexLt_cons_nil(x:Int)(xs:List Int):lexLt (x::xs) []=false:=rfl
section
open PySem.SeqAt
open PySem.MeetsSeq PySem.MeetsSeq2 PySem.MeetsSeq3
end
variable {t sl:Addr}{Q:Value->Shared->Prop}{vl vu:Value}{lo hi:Option Int}
section
variable {prog:Program} {w:World} {A:Around} {E:Value->Shared->Prop} {s:Shared}
def cat_tup{b:Addr}{vs ws:List Value}(ht:IsTup s.heap t vs.toArray)(hb:IsTup s.heap b ws.toArray)(hv:vs≠[])
   (h1:ws=[]->Q (.ref t) s) (h2:ws≠[]->Q (.ref s.heap.objs.size) { s with heap:=s.heap.push { cls:=.type "tuple",data:=.seq (vs++ws).toArray } })
   (hsz:vs.length+ws.length<=sizeLine):wpAny (model prog w) A (binaryOp .Add (.ref t)<|.ref b) Q E s:=by
 obtain⟨⟨cls,dd,data,sl⟩,ho,hc,n,hd⟩:=id ht;obtain⟨⟨cls2,dd2,data2,sl2⟩,ho2,hc2,n2,hd2⟩:=id hb;simp only at hc hd hc2 hd2;subst hc hd hc2 hd2;have e:vs.toArray++ws.toArray=(vs++ws).toArray:=by simp
 by_cases hw:ws=[]
 . exact concat_meets ⟨_,ho,rfl⟩ ⟨_,ho2,rfl⟩ noFill_tuple_add seq_tuple_add Eo Eb (DY _ _)
     (tuple_addW1 t b vs.toArray ws.toArray n n2 dd dd2 sl sl2 (by simpa using hv)<|by simp[hw]) ⟨ho,ho2,h1 hw⟩
 . refine concat_meets ⟨_,ho,rfl⟩ ⟨_,ho2,rfl⟩ noFill_tuple_add seq_tuple_add Eo Eb (DY _ _)
     (tuple_addW2 t b vs.toArray ws.toArray n n2 dd dd2 sl sl2 (by simpa using hv) (by simpa using hw) (by rw[AA,AA];exact hsz)) ⟨ho,ho2,?_⟩
   rw[e];exact h2 hw
def sIx(n d:Nat):Option Int->Nat
 | none=>d
 | some v=>if v < 0 then (v+(n:Int)).toNat else min v.toNat n
def sIx_nat(n d k:Nat):sIx n d (some (k:Int))=min k n:=by show (if (k:Int) < 0 then ((k:Int)+(n:Int)).toNat else min (k:Int).toNat n)=min k n;rw[if_neg (by omega),Bu]
def zqu(n d:Nat)(hd:d<=n)(o:Option Int):sIx n d o<=n:=by
 cases o with
 | none=>exact hd
 | some v =>
   show (if v < 0 then (v+(n:Int)).toNat else min v.toNat n)<=n
   by_cases hv:v < 0
   . rw[if_pos hv];omega
   rw[if_neg hv];exact DZ _ _
def zlB(v:Int)(n d:Nat):(if v < 0 then max (v+(n:Int)) 0 else min v (n:Int))=((sIx n d (some v):Nat):Int):=by
 show (if v < 0 then max (v+(n:Int)) 0 else min v (n:Int))=(((if v < 0 then (v+(n:Int)).toNat else min v.toNat n):Nat):Int)
 by_cases hv:v < 0
 . simp only[if_pos hv];omega
 simp only[if_neg hv];omega
def zjr(lo hi:Option Int)(n:Nat):Bw lo hi 1 (n:Int)=(((sIx n 0 lo:Nat):Int),((sIx n n hi:Nat):Int)):=by
 have h1:¬ ((1:Int) < 0):=by omega
 unfold Bw;simp only[h1,if_false];refine Prod.ext ?_ ?_
 . cases lo with
   | none=>rfl
   | some v=>exact zlB v n 0
 . cases hi with
   | none=>rfl
   | some v=>exact zlB v n n
def zim(i j:Nat):A4 (i:Int) (j:Int) 1=j - i:=by
 unfold A4;have h1:(1:Int) > 0:=by omega
 simp only[h1,if_true,Int.ediv_one]
 split <;> omega
def slicePart_{v:Value}{o:Option Int}{Q:Option Int->Shared->Prop}(p:IsPart v o)(h:Q o s):wpAny (model prog w) A (Builtin.Slice.slicePartIndex v) Q E s:=by
 cases p with
 | none=>exact slicePart_none h
 | int i t=>exact slicePart_int h
def sliceApplied_gen{n:Nat}{Q:Int×Int×Nat->Shared->Prop}(hs:s.heap.IsSliceOf sl vl vu .none)(pl:IsPart vl lo)(pu:IsPart vu hi)
   (h:Q (((sIx n 0 lo:Nat):Int),1,sIx n n hi - sIx n 0 lo) s):wpAny (model prog w) A (B4 (.ref sl)<|pure (n:Int)) Q E s:=by
 obtain⟨os,hos,hcs,hds⟩:=id hs;unfold B4 DU;refine Aa<|Aa<|AK hos hds (x:=vl) rfl<|Aa<|AK hos hds (x:=vu) rfl<|Aa<|AK hos hds (x:=.none) rfl<|Ae ?_;refine Aa<|slicePart_none ?_;show wpAny _ _ (if ((1:Int)==0)=true then _ else _) _ _ s;rw[if_neg (by decide)];refine Aa<|slicePart_ pl<|Aa<|slicePart_ pu<|Aa<|Ae ?_;show wpAny _ _ (match Bw lo hi 1 (n:Int) with | (lo,hi)=>pure (lo,(1:Int),A4 lo hi 1)) _ _ s;rw[zjr lo hi n];show wpAny _ _ (pure (((sIx n 0 lo:Nat):Int),(1:Int),A4 ((sIx n 0 lo:Nat):Int) ((sIx n n hi:Nat):Int) 1)) _ _ s;rw[zim];exact Ae h
def zmv(xs:Array Value)(i k:Nat):((AC k).filterMap fun (m:Nat)=>xs[((i:Int)+(m:Int)*1).toNat]?).toArray=((xs.toList.drop i).take k).toArray:=by
 have e:(fun (m:Nat)=>xs[((i:Int)+(m:Int)*1).toNat]?)=fun m=>xs[i+m]?:=by
   funext m
   have:((i:Int)+(m:Int)*1).toNat=i+m:=by omega
   rw[this]
 rw[e];have:=pick_run xs i k;rw[Fh] at this;have e2:((fun x=>xs[x]?) ∘ fun x=>i+x)=fun m=>xs[i+m]?:=rfl;rw[e2] at this;rw[this]
def getItem_tuple_cut{items:Array Value}(ht:IsTup s.heap t items)(hs:s.heap.IsSliceOf sl vl vu .none)(pl:IsPart vl lo)(pu:IsPart vu hi)
   (hw:¬ (sIx items.size 0 lo=0/\sIx items.size items.size hi=items.size))
   (h:Q (.ref s.heap.objs.size) { s with heap:=s.heap.push { cls:=.type "tuple",data:=.seq ((items.toList.drop<|sIx items.size 0 lo).take<|sIx items.size items.size hi - sIx items.size 0 lo).toArray } })
   (hsz:items.size<=sizeLine):wpAny (model prog w) A (getItem (.ref t)<|.ref sl) Q E s:=by
 have htake:sizeOk (.seq ((items.toList.drop<|sIx items.size 0 lo).take<|sIx items.size items.size hi - sIx items.size 0 lo).toArray):=by show ((items.toList.drop<|sIx items.size 0 lo).take<|sIx items.size items.size hi - sIx items.size 0 lo).toArray.size<=sizeLine;rw[AA,Bp,FM,BO];omega
 have hj:sIx items.size items.size hi<=items.size:=zqu _ _ (Ah _) hi;obtain⟨os,hos,hcs,hds⟩:=id hs;have hTs:s.TypeIs (.ref sl) "slice":=⟨os,hos,hcs⟩
 unfold getItem
 try with_reducible refine AY ?_
 first | refine Aa (Ae ?_) | skip
 refine Aa (DP ht.typeIs (by decide) ?_);refine Aa (A2 (name:=BW "__getitem__") ht.typeIs Be
   (A8 Be ht.typeIs Dr ?_<|DD _ _))
 show wpAny _ _ (Ct (.ref t) >>= _) _ _ s;refine Aa<|ET ht ?_;refine Aa<|B8 hTs ?_;rw[if_pos (by decide)];refine Aa<|sliceApplied_gen hs pl pu ?_;have hno:¬ ((((sIx items.size 0 lo:Nat):Int)==0&&(1:Int)==1&&(sIx items.size items.size hi - sIx items.size 0 lo)==items.size)=true):=by intro q;rw[Am,Am] at q;have q1:((sIx items.size 0 lo:Nat):Int)=0:=eq_of_beq q.1.1;have q2:sIx items.size items.size hi - sIx items.size 0 lo=items.size:=eq_of_beq q.2;exact hw ⟨by omega,by omega⟩
 show wpAny _ _ (if (((sIx items.size 0 lo:Nat):Int)==0&&(1:Int)==1&&(sIx items.size items.size hi - sIx items.size 0 lo)==items.size)=true then _ else _) _ _ s;rw[if_neg hno,zmv]
 first
   | exact Aa (m:=A9 _) (AG (Ae ⟨_,rfl,Ae h⟩) htake)
   | exact Aa (m:=A9 _) (AG (Aa<|Ae<|Ae ⟨_,rfl,Ae h⟩) htake)
   | exact Aa (Aa (m:=A9 _)<|AG (Ae<|Ae ⟨_,rfl,Ae h⟩) htake)
   | exact Aa (Aa (m:=A9 _)<|AG (Ae ⟨_,rfl,Ae h⟩) htake)
end
end HT
namespace L2
open PySem PySem.Spec PyProof.Rows
noncomputable abbrev TO:=St->Hp->(Option Int->Hp->Prop)->Prop
def PO(X:Cx)(e:Option Expr)(t:TO):Prop :=
 ∀ (pins:List (Addr×Obj)) (s:Shared) (σ:St) (H:Hp) (Q:Option Int->Hp->Prop),Inv X pins σ H s->t σ H Q ->
   wpAny (model X.prog X.w) X.A (evalPart e X.env) (fun u s'=>∃ o H',Inv X pins σ H' s'/\IsPart u o/\Q o H') X.xe s
def znV:TO:=fun _ H Q=>Q none H
def zsh(t:TE):TO:=fun σ H Q=>t σ H fun x H1=>∃ i,x=.int i/\Q (some i) H1
variable {X:Cx}{e:Expr}{pos:Pos}{xs:List V}{us:List Value}
section
variable {te:TE} {lo hi:Option Expr} {tl th:TO} {p2:Pos}
def zoy:PO X none znV:=by intro pins s σ H Q I h;rw[EU];exact Ae ⟨none,H,I,.none,h⟩
def zld(h:PE X e te):PO X (some e) (zsh te):=by intro pins s σ H Q I hw;rw[evalPart_some];refine thn (h pins s σ H _ I hw) ?_;rintro u s1 ⟨x,H1,I1,r1,q1⟩;obtain⟨i,rfl,q⟩:=q1;obtain⟨t,rfl⟩:=r1;exact⟨some i,H1,I1,.int i t,q⟩
def SlR(X:Cx)(r:V->Option Int->Option Int->Hp->VK->Prop):Prop :=
 ∀ (pins:List (Addr×Obj)) (s:Shared) (σ:St) (H:Hp) (x:V) (v vl vu:Value) (lo hi:Option Int) (sl:Addr) (Q:VK),Inv X pins σ H s->RelV x v->s.heap.IsSliceOf sl vl vu .none->IsPart vl lo->IsPart vu hi->r x lo hi H Q ->
   ∃ T id,typeLookup (.type T) "__getitem__"=pure (some<|.builtin id)/\s.TypeIs v T/\wpAny (model X.prog X.w) X.A (getItem v<|.ref sl) (EP X pins σ Q) X.xe s
def tSl(r:V->Option Int->Option Int->Hp->VK->Prop)(te:TE)(tl th:TO):TE:=fun σ H Q=>te σ H fun x H1=>tl σ H1 fun l H2=>th σ H2 fun u H3=>r x l u H3 Q
def zeR{r:V->Option Int->Option Int->Hp->VK->Prop}(hr:SlR X r)(he:PE X e te)(hl:PO X lo tl)(hu:PO X hi th):PE X (.Subscript e (.Slice lo hi none p2) pos) (tSl r te tl th):=by intro pins s σ H Q I h;refine EL<|thn (he pins s σ H _ I h) ?_;rintro v s1 ⟨x,H1,I1,r1,q1⟩;refine wpAny_Slice<|thn (hl pins s1 σ H1 _ I1 q1) fun vl s2 ⟨l,H2,I2,pl,q2⟩=>thn (hu pins s2 σ H2 _ I2 q2) ?_;rintro vu s3 ⟨u,H3,I3,pu,q3⟩;rw[EU];refine Ae ?_;have I4:Inv X pins σ H3 { s3 with heap:=s3.heap.push { cls:=.type "slice",data:=.fields #[vl,vu,.none] } }:=I3.kept (t':=s3.toks) fun b ob q=>Ac _ q;obtain⟨T,id,hT,ht,hg⟩:=hr pins { s3 with heap:=s3.heap.push { cls:=.type "slice",data:=.fields #[vl,vu,.none] } } σ H3 x v vl vu l u s3.heap.objs.size Q I4 r1 (Fi ..) pl pu q3;show wpAny (model X.prog X.w) X.A (subscriptTail e (.Slice lo hi none p2) v<|.ref s3.heap.objs.size) (EP X pins σ Q) X.xe { s3 with heap:=s3.heap.push { cls:=.type "slice",data:=.fields #[vl,vu,.none] } };exact tail_any (ops:=[.ref s3.heap.objs.size,v]) ht hT hg<|by with_unfolding_all rfl
def cutV(xs:List V)(lo hi:Option Int):List V:=(xs.drop<|HT.sIx xs.length 0 lo).take<|HT.sIx xs.length xs.length hi - HT.sIx xs.length 0 lo
def zet(xs:List V)(lo hi:Option Int):(cutV xs lo hi).length<=xs.length:=by unfold cutV;rw[Bp,FM];omega
def rSlT(K:Ab):V->Option Int->Option Int->Hp->VK->Prop:=fun x lo hi H Q=>∃ a xs,x=.ref a/\SqT K H a xs /\
 ¬ (HT.sIx xs.length 0 lo=0/\HT.sIx xs.length xs.length hi=xs.length)/\∀ p,H p=none->Q (.ref p) (upd H p<|.tup<|cutV xs lo hi)
def zqg:SlR X (rSlT X.K):=by
 intro pins s σ H x v vl vu lo hi sl Q I rx hs pl pu h;obtain⟨a,xs,rfl,hx,hw,q⟩:=h;cases rx;obtain⟨its,r,ht,hz⟩:=I.tuple hx;have hlen:its.toArray.size=xs.length:=by rw[AA];exact r.length.symm
 refine⟨"tuple",_,PyProof.Rows.slot_tuple_getitem.lookup,ht.typeIs,?_⟩;refine HT.getItem_tuple_cut ht hs pl pu (by rw[hlen];exact hw) ?_ (by rw[hlen];exact hz);rw[hlen];refine⟨.ref s.heap.objs.size,_,I.laid (t':=s.toks) (o:=.tup (cutV xs lo hi)) (fun b ob q=>Ac _ q) (Ah _) ?_,rfl,q _<|I.hok.fresh<|Ah _⟩;exact⟨Aw (zet xs lo hi) hz,_,(r.drop<|HT.sIx xs.length 0 lo).take<|HT.sIx xs.length xs.length hi - HT.sIx xs.length 0 lo,zcP.new _ _⟩
def zsB(K:Ab):R2:=fun x y H Q=>∃ a b xs ys,x=.ref a/\y=.ref b/\SqT K H a xs/\SqT K H b ys/\xs≠[]/\xs.length+ys.length<=sizeLine /\
 (ys=[]->Q (.ref a) H)/\(ys≠[]->∀ p,H p=none->Q (.ref p) (upd H p<|.tup<|xs++ys))
def Vals.nil_iff(r:Vals xs us):us=[] ↔ xs=[]:=by
 cases r with
 | nil=>simp
 | cons _ _=>simp
def zoN:OpR X (binaryOp .Add) (zsB X.K):=by intro pins s σ H x y v u Q I rx ry h;obtain⟨a,b,xs,ys,rfl,rfl,ha,hb,hx,hz,q1,q2⟩:=h;cases rx;cases ry;obtain⟨its,r1,p1,_⟩:=I.tuple ha;obtain⟨its2,r2,p2,_⟩:=I.tuple hb;refine HT.cat_tup p1 p2 (fun z=>hx (r1.nil_iff.mp z)) (fun z=>⟨.ref a,H,I,rfl,q1<|r2.nil_iff.mp z⟩) (fun z=>?_) (by rw[<-r1.length,<-r2.length];exact hz);refine⟨.ref s.heap.objs.size,_,I.laid (t':=s.toks) (o:=.tup (xs++ys)) (fun b ob q=>Ac _ q) (Ah _) ?_,rfl,q2 (fun w=>z (r2.nil_iff.mpr w)) _<|I.hok.fresh<|Ah _⟩;exact⟨by rw[AU];exact hz,_,r1.append r2,zcP.new _ _⟩
end
def ixN(n:Nat)(i:Int):Option Nat:=if 0<=i then (if i < n then some i.toNat else none) else if -(n:Int)<=i then some (i+n).toNat else none
variable {α:Type}
def atI(xs:List α)(i:Int):Option α:=(ixN xs.length i).bind fun j=>xs[j]?
variable {n:Nat}{i:Int}
def zls{j:Nat}(h:ixN n i=some j):seqIndex? i n=some j/\j < n/\-(n:Int)<=i/\i < n:=by
 unfold ixN at h
 by_cases h0:0<=i
 . rw[if_pos h0] at h
   by_cases h1:i < n
   . rw[if_pos h1] at h;have e:i.toNat=j:=Aq h;exact⟨by rw[FH h0 h1,e],by omega,by omega,h1⟩
   rw[if_neg h1] at h;cases h
 . rw[if_neg h0] at h
   by_cases h1:-(n:Int)<=i
   . rw[if_pos h1] at h;have e:(i+n).toNat=j:=Aq h;exact⟨by rw[Fj (by omega) h1,e],by omega,h1,by omega⟩
   rw[if_neg h1] at h;cases h
def zjn{xs:List α}{v:α}(h:atI xs i=some v):∃ j,seqIndex? i xs.length=some j/\xs[j]?=some v/\j < xs.length/\-(xs.length:Int)<=i/\i < xs.length:=by
 unfold atI at h
 cases e:ixN xs.length i with
 | none=>rw[e] at h;cases h
 | some j =>
   rw[e] at h;obtain⟨h1,h2,h3,h4⟩:=zls e;exact⟨j,h1,h,h2,h3,h4⟩
def zjs(b:Expr):Prop:=∀ o i,subscripted b false o i=operate [o,i] (getItem o i)
def IxR(X:Cx)(r:R2):Prop :=
 ∀ (value slice:Expr) (pins:List (Addr×Obj)) (s:Shared) (σ:St) (H:Hp) (x y:V) (v u:Value) (Q:VK),Inv X pins σ H s->RelV x v->RelV y u->r x y H Q ->
   subscripted slice false v u=operate [v,u] (getItem v u)->wpAny (model X.prog X.w) X.A (subscriptTail value slice v u) (EP X pins σ Q) X.xe s
def MtR(X:Cx)(id:String)(r:V->List V->Hp->VK->Prop):Prop :=
 ∀ (pins:List (Addr×Obj)) (s:Shared) (σ:St) (H:Hp) (x:V) (xs:List V) (v:Value) (us:List Value) (Q:VK),Inv X pins σ H s->RelV x v->Vals xs us->r x xs H Q ->
   wpAny (model X.prog X.w) X.A (call (.builtin id) (v::us)) (EP X pins σ Q) X.xe s
variable {pins:List (Addr×Obj)}{σ:St}{H:Hp}{s:Shared}{p:Addr}{ys:List V}{its its':List Value}{T:String}{x:V}
section
variable {a b:Expr} {ta tb:TE}
def zsF{r:R2}(hr:IxR X r)(ha:PE X a ta)(hb:PE X b tb)(hs:zjs b):PE X (.Subscript a b pos) (tOp r ta tb):=by intro pins s σ H Q I h;exact EL<|binT ha hb I h fun v u s2 x y H2 I2 rx ry q=>hr a b pins s2 σ H2 x y v u Q I2 rx ry q (hs _ _)
def rIxL(K:Ab):R2:=fun x y H Q=>∃ p xs i v,x=.ref p/\y=.int i/\SqL K H p xs/\atI xs i=some v/\Q v H
def rIxT(K:Ab):R2:=fun x y H Q=>∃ p xs i v,x=.ref p/\y=.int i/\SqT K H p xs/\atI xs i=some v/\Q v H
def rIxS:R2:=fun x y H Q=>∃ z i c,x=.str z/\y=.int i/\z.length<=sizeLine/\atI z.cps.toList i=some c/\Q (.str ⟨#[c]⟩) H
def zlr:IxR X (rIxL X.K):=by
 intro value slice pins s σ H x y v u Q I rx ry h hs;obtain⟨p,xs,i,z,rfl,rfl,hq,he,q⟩:=h;cases rx;obtain⟨t,rfl⟩:=ry;obtain⟨its,r,pl,hz⟩:=I.list hq;obtain⟨j,h1,h2,h3,h4,h5⟩:=zjn he;obtain⟨w,ew,rw'⟩:=r.get h2;have hl:=r.length;have hn:=zgc;have fin:EP X pins σ Q w s:=⟨z,H,I,rw',q⟩
 by_cases h0:0<=i
 . have hj:i.toNat=j:=by
     rw[FH h0 h5] at h1;exact Aq h1
   exact item_listR pl.isList h0 (by omega) (by rw[hj];simpa using ew) fin hs
 . have hj:(i+(its.toArray.size:Int)).toNat=j:=by
     rw[Fj (by omega) h4] at h1;rw[AA,<-hl];exact Aq h1
   exact Ep (x:=w) pl.isList.typeIs slot_list_getitem.lookup
     (wpAny_getItem_list_neg (Q:=fun r s'=>r=w/\EP X pins σ Q r s') pl.isList (by omega) (by rw[AA] <;> omega) (by omega) (by rw[hj];simpa using ew) ⟨rfl,fin⟩) hs
def zaR:IxR X (rIxT X.K):=by
 intro value slice pins s σ H x y v u Q I rx ry h hs;obtain⟨p,xs,i,z,rfl,rfl,hq,he,q⟩:=h;cases rx;obtain⟨t,rfl⟩:=ry;obtain⟨its,r,pl,hz⟩:=I.tuple hq;obtain⟨j,h1,h2,h3,h4,h5⟩:=zjn he;obtain⟨w,ew,rw'⟩:=r.get h2;have hl:=r.length;have hn:=zgc;have fin:EP X pins σ Q w s:=⟨z,H,I,rw',q⟩
 exact Ep (x:=w) pl.typeIs slot_tuple_getitem.lookup
   (getItem_tuple (j:=j) (Q:=fun r s'=>r=w/\EP X pins σ Q r s') pl (by omega) (by omega) (by rw[AA,<-hl];exact h1) (by simpa using ew) ⟨rfl,fin⟩) hs
def ziO:IxR X rIxS:=by
 intro value slice pins s σ H x y v u Q I rx ry h hs;obtain⟨z,i,c,rfl,rfl,hz,he,q⟩:=h;obtain⟨t,rfl⟩:=rx;obtain⟨t',rfl⟩:=ry;obtain⟨j,h1,h2,h3,h4,h5⟩:=zjn he;have hl:z.cps.toList.length=z.length:=by simp[Str.length]
 rw[hl] at h1 h4 h5;have hn:=zgc;exact tail_any (FV s z t) slot_str_getitem.lookup (getItem_str (c:=c) (by
   have e1:decide (i < -(2 ^ 63:Int))=false:=decide_eq_false (by omega);have e2:decide (i ≥ 2 ^ 63)=false:=decide_eq_false (by omega);rw[e1,e2,Bool.or_false]) (by rw[h1];simpa using h2) ⟨.str ⟨#[c]⟩,H,I.tok _,⟨_,rfl⟩,q⟩) hs
def ziC(its:List Value)(n j:Nat)(u:Value):BA (·.setIfInBounds j u) { cls:=.type "list",data:=.seq its.toArray n }={ cls:=.type "list",data:=.seq (its.set j u).toArray n }:=by simp[BA]
def Inv.lst{pins:List (Addr×Obj)}{σ:St}{H:Hp}{s:Shared}{p:Addr}{xs:List V}(I:Inv X pins σ H s)(h:H p=some (.lst xs)) :
   ∃ (its:List Value) (n:Nat),Vals xs its/\s.heap.get? p=some { cls:=.type "list",data:=.seq its.toArray n }/\xs.length<=sizeLine:=by
 obtain⟨z,its,n,r,e⟩:=I.hok p _ h;exact⟨its,n,r,e,z⟩
def Inv.lstUpd{n':Nat}{f:Obj->Obj}(I:Inv X pins σ H s)(h:H p=some (.lst xs))
   (ho:s.heap.get? p=some { cls:=.type "list",data:=.seq its.toArray n }) (hf:f { cls:=.type "list",data:=.seq its.toArray n }={ cls:=.type "list",data:=.seq its'.toArray n' }) (r:Vals ys its') (hz:ys.length<=sizeLine) (t:Nat) :
   Inv X pins σ (upd H p<|.lst ys) { s with heap:=s.heap.update p f,toks:=t }:=by
 have e:(s.heap.update p f).get? p=some { cls:=.type "list",data:=.seq its'.toArray n' }:=by rw[A0 f ho (by rw[hf] <;> rfl),hf]
 refine I.write (x:=p) (e:=p) (by rw[h];trivial) (.inl rfl) (fun b u hb q=>(AI _ _<|AZ hb).trans q) ⟨_,e⟩ ?_;exact⟨hz,its',n',r,e⟩
def zsA:V->V->V->Hp->(Hp->Prop)->Prop:=fun o i v H Q=>∃ p xs k j,o=.ref p/\i=.int k/\H p=some (.lst xs)/\ixN xs.length k=some j/\Q (upd H p<|.lst<|xs.set j v)
def set_list:PSet X zsA:=by
 intro pins s σ H o i v ov iv u Q I ro ri rv h;obtain⟨p,xs,k,j,rfl,rfl,hp,hj,q⟩:=h;cases ro;obtain⟨t,rfl⟩:=ri;obtain⟨its,n,r,ho,hz⟩:=I.lst hp;obtain⟨h1,h2,h3,h4⟩:=zls hj;have hl:=r.length;have hn:=zgc;have I':Inv X pins σ (upd H p<|.lst<|xs.set j v) { s with heap:=s.heap.update p (BA (·.setIfInBounds j u)) } :=
   I.lstUpd hp ho (ziC its n j u) (r.set rv j) (by rw[Bx];exact hz) s.toks
 by_cases h0:0<=k
 . have hk:k.toNat=j:=by
     rw[FH h0 h4] at h1;exact Aq h1
   exact PySem.W.ki_setAt ho h0 (by omega) (by rw[AA,<-hl];exact h4) (by rw[hk];exact⟨_,I',q⟩)
 . have hk:(k+(its.toArray.size:Int)).toNat=j:=by
     rw[Fj (by omega) h3] at h1;rw[AA,<-hl];exact Aq h1
   exact PySem.W.ki_setBack ho (by omega) (by rw[AA,<-hl];exact h3) (by omega) (by rw[hk];exact⟨_,I',q⟩)
def zfZ(lo hi:Option Int)(n:Nat):(sliceBounds lo hi none n).1=((HT.sIx n 0 lo:Nat):Int)/\(sliceBounds lo hi none n).2.1=((HT.sIx n n hi:Nat):Int)/\(sliceBounds lo hi none n).2.2=1:=by
 refine⟨?_,?_,rfl⟩
 . cases lo with
   | none=>simp[sliceBounds,HT.sIx]
   | some i =>
     simp only[sliceBounds,HT.sIx,FN,show (1:Int) > 0 by decide,if_true]
     by_cases h:i < 0
     . simp only[h,if_true] <;> omega
     simp only[h,if_false] <;> omega
 . cases hi with
   | none=>simp[sliceBounds,HT.sIx]
   | some i =>
     simp only[sliceBounds,HT.sIx,FN,show (1:Int) > 0 by decide,if_true]
     by_cases h:i < 0
     . simp only[h,if_true] <;> omega
     simp only[h,if_false] <;> omega
def zfj(its:List Value)(lo hi:Option Int):slicePick its.toArray lo hi none=((its.drop<|HT.sIx its.length 0 lo).take<|HT.sIx its.length its.length hi - HT.sIx its.length 0 lo).toArray:=by obtain⟨h1,h2,h3⟩:=zfZ lo hi its.toArray.size;unfold slicePick;rw[h1,h2,h3];simp only[sliceRange_one,pick_run,AA] <;> rfl
def rSlL(K:Ab):V->Option Int->Option Int->Hp->VK->Prop:=fun x lo hi H Q=>∃ a xs,x=.ref a/\SqL K H a xs/\∀ p,H p=none->Q (.ref p) (upd H p<|.lst<|cutV xs lo hi)
def zk3:SlR X (rSlL X.K):=by intro pins s σ H x v vl vu lo hi sl Q I rx hs pl pu h;obtain⟨a,xs,rfl,hx,q⟩:=h;cases rx;obtain⟨its,r,ht,hz⟩:=I.list hx;have hlen:=r.length;refine⟨"list",_,slot_list_getitem.lookup,ht.isList.typeIs,?_⟩;refine wpAny_getItem_list_slice ht.isList hs pl pu .none (by simp) ?_ (by rw[AA] <;> omega);rw[zfj,<-hlen];refine⟨.ref s.heap.objs.size,_,I.laid (t':=s.toks) (o:=.lst (cutV xs lo hi)) (fun b ob q=>Ac _ q) (Ah _) ?_,rfl,q _<|I.hok.fresh<|Ah _⟩;exact⟨Aw (zet xs lo hi) hz,_,0,(r.drop<|HT.sIx xs.length 0 lo).take<|HT.sIx xs.length xs.length hi - HT.sIx xs.length 0 lo,Ap _ rfl⟩
def zcN:zjy X (.builtin "len") (fun xs H Q=>∃ p ys,xs=[.ref p]/\(SqL X.K H p ys\/SqT X.K H p ys)/\Q (.int ys.length) H):=by
 intro pins s σ H xs us Q I r h;obtain⟨p,ys,rfl,hq,q⟩:=h;obtain⟨u,rfl,rx⟩:=vals1 r;cases rx;have hn:=zgc
 rcases hq with hq | hq
 . obtain⟨its,r',pl,hz⟩:=I.list hq;have hlen:=r'.length;exact Calls.call_len_list pl.isList (by simp only[AA] <;> omega) ⟨.int ys.length,H,I.tok _,⟨s.toks+1,by rw[AA,hlen]⟩,q⟩
 obtain⟨its,r',pl,hz⟩:=I.tuple hq;have hlen:=r'.length;exact len_tuple pl (by simp only[AA] <;> omega) ⟨.int ys.length,H,I.tok _,⟨s.toks+1,by rw[AA,hlen]⟩,q⟩
def zgm:zjy X (.builtin "len") (fun xs H Q=>∃ z,xs=[.str z]/\z.length<=sizeLine/\Q (.int z.length) H):=by intro pins s σ H xs us Q I r h;obtain⟨z,rfl,hz,q⟩:=h;obtain⟨u,rfl,t,rfl⟩:=vals1 r;have hn:=zgc;exact len_str (by omega) ⟨.int z.length,H,I.tok _,⟨_,rfl⟩,q⟩
def zds:zjy X (.type "tuple") (fun xs H Q=>∃ p ys,xs=[.ref p]/\((SqL X.K H p ys/\∀ l,H l=none->Q (.ref l) (upd H l<|.tup ys))\/(SqT X.K H p ys/\Q (.ref p) H))):=by
 intro pins s σ H xs us Q I r h;obtain⟨p,ys,rfl,h⟩:=h;obtain⟨u,rfl,rx⟩:=vals1 r;cases rx
 rcases h with ⟨hq,q⟩ | ⟨hq,q⟩
 . obtain⟨its,r',pl,hz⟩:=I.list hq;have hlen:=r'.length;refine call_tuple_list pl.isList (fun h' kp=>?_) (by simp only[AA] <;> omega);have I1:Inv X pins σ H { s with heap:=h' }:=I.kept (t':=s.toks) kp;have I2:Inv X pins σ (upd H h'.objs.size<|.tup ys) { s with heap:=h'.push { cls:=.type "tuple",data:=.seq its.toArray } } :=
     I1.laid (t':=s.toks) (fun b o e=>Ac _ e) (Ah _) (show zdu X.prog X.w _ _ _ (.tup ys) from ⟨hz,its,r',zcP.new _ _⟩)
   exact⟨.ref h'.objs.size,_,I2,rfl,q _<|I1.hok.fresh<|Ah _⟩
 obtain⟨its,r',pl,hz⟩:=I.tuple hq;exact call_tuple_same pl ⟨.ref p,H,I,rfl,q⟩
def tyV(K:Ab)(T:String)(x:V)(H:Hp):Prop:=match x with
 | .str _=>T="str"
 | .int _=>T="int"
 | .ref p=>(T="list"/\∃ xs,SqL K H p xs)\/(T="tuple"/\∃ o,K.lookup p=some o/\o.cls=.type "tuple"/\o.dict=none) \/
     (T="dict"/\((∃ kvs,H p=some (.dK kvs))\/∃ kvs,H p=some (.dT kvs)))\/(T="set"/\∃ S n,H p=some (.set S n))
 | _=>False
def zpW{v:Value}(I:Inv X pins σ H s)(r:RelV x v)(ty:tyV X.K T x H) :
   s.TypeIs v T/\∀ a,v=.ref a->∃ ob,s.heap.get? a=some ob/\ob.dict=none:=by
 cases x with
 | str z =>
   obtain⟨t,rfl⟩:=r
   cases (show T="str" from ty)
   exact⟨FV s z t,fun _ e=>nomatch e⟩
 | int i =>
   obtain⟨t,rfl⟩:=r
   cases (show T="int" from ty)
   exact⟨typeIs_int s i t,fun _ e=>nomatch e⟩
 | ref p =>
   cases r
   rcases ty with ⟨rfl,xs,hq⟩ | ⟨rfl,o,hk,hc,hd⟩ | ⟨rfl,hk⟩ | ⟨rfl,S,n,hk⟩
   . obtain⟨its,_,pl,_⟩:=I.list hq;refine⟨pl.isList.typeIs,fun a e=>?_⟩;cases e;obtain⟨o,n,e,c,hd,_⟩:=pl;exact⟨o,e,hd⟩
   . refine⟨⟨o,I.kIn p o hk,hc⟩,fun a e=>?_⟩;cases e;exact⟨o,I.kIn _ o hk,hd⟩
   . have z:∃ o,s.heap.get? p=some o/\o.ExactDict:=by
       rcases hk with ⟨kvs,hk⟩ | ⟨kvs,hk⟩
       . obtain⟨_,_,_,_,o,_,_,e,ex,_⟩:=I.hok p _ hk;exact⟨o,e,ex⟩
       obtain⟨_,_,_,_,o,_,_,e,ex,_⟩:=I.hok p _ hk;exact⟨o,e,ex⟩
     obtain⟨o,e,ex⟩:=z;refine⟨⟨o,e,ex.1⟩,fun a e2=>?_⟩;cases e2;exact⟨o,e,ex.2.1⟩
   obtain⟨o,_,_,_,e,ex,_⟩:=I.hok p _ hk;refine⟨⟨o,e,ex.1⟩,fun a e2=>?_⟩;cases e2;exact⟨o,e,ex.2.1⟩
 | _=>exact False.elim ty
def tBM(K:Ab)(T:String)(r:V->List V->Hp->VK->Prop)(to:TE)(t:TA):TE:=fun σ H Q=>to σ H fun x H1=>tyV K T x H1/\t σ H1 fun xs H2=>r x xs H2 Q
variable {o:Expr} {es:List Expr} {to:TE} {t:TA} {name:Str} {apos cpos:Pos} {id:String} {r:V->List V->Hp->VK->Prop}
def zsG(pa:PlainAttrs T)(slot:Slot T name id)(hty:typeOf (.builtin id)=pure (.type "method_descriptor"))(hm:MtR X id r)(ho:PE X o to)(ha:PA X (e::es) t)
   (hbase:attributeBase o name X.env (eval o X.env)=eval o X.env:=by rfl)
   (hfew:((backTo cpos<|starEach (e::es) X.env).all (fun x=>!x.1)&&(backToKw cpos<|keywordEach [] X.env).all (fun x=>x.1.isSome)
    &&decide ((e::es).length+([]:List Keyword).length+(if ([]:List Keyword).isEmpty then 0 else 1) < 30))=true:=by rfl)
   (hline:(apos.endLine==cpos.line)=true:=by rfl) (hs:starEach (e::es) X.env=(false,eval e X.env)::starEach es X.env:=by rfl) (hplain:(backTo cpos<|starEach es X.env).any (·.1)=false:=by rfl) :
   PE X (.Call (.Attribute o name apos) (e::es) [] cpos) (tBM X.K T r to t):=by
 intro pins s σ H Q I h;refine wpAny_Call_method_late hbase hfew hline rfl<|thn (ho pins s σ H _ I h) ?_;rintro v s1 ⟨x,H1,I1,r1,ty,q1⟩;obtain⟨h1,h2⟩:=zpW I1 r1 ty;refine⟨T,id,pa,slot,hty,h1,h2,?_⟩;have hA:=ha cpos pins s1 σ H1 _ I1 q1;rw[hs] at hA ⊢;refine Em (by show (false || (backTo cpos<|starEach es X.env).any (·.1))=false;rw[hplain] <;> rfl)<|EM ?_;exact thn hA fun us s2 ⟨vs,H2,I2,r2,q2⟩=>hm pins s2 σ H2 x vs v us Q I2 r1 r2 q2
end
def MtM(X:Cx)(id:String)(r:V->List V->Hp->VK->Prop):Prop :=
 ∀ (pins:List (Addr×Obj)) (s:Shared) (σ:St) (H:Hp) (x:V) (xs:List V) (v:Value) (us:List Value) (Q:VK),Inv X pins σ H s->RelV x v->Vals xs us->r x xs H Q ->
   wpAny (model X.prog X.w) X.A (call (.builtin id) (v::us)) (EP X pins σ Q) X.xe s
def Vals.one:∀ {x:V} {us:List Value},Vals [x] us->∃ u,us=[u]/\RelV x u
 | _,_,.cons r .nil=>⟨_,rfl,r⟩
def Vals.two{y:V}(h:Vals [x,y] us):∃ u v,us=[u,v]/\RelV x u/\RelV y v:=by
 cases h with
 | cons r t =>
   cases t with
   | cons q t =>
     cases t;exact⟨_,_,rfl,r,q⟩
variable {t':Nat}
section
variable {l b:Addr} {zs:List V}
def Inv.lset{f:Array Value->Array Value}(I:Inv X pins σ H s)(hH:H l=some (.lst xs))
   (e:s.heap.get? l=some { cls:=.type "list",data:=.seq its.toArray n }) (hf:f its.toArray=its'.toArray) (hv:Vals ys its') (hz:ys.length<=sizeLine) :
   Inv X pins σ (upd H l<|.lst ys) { s with heap:=s.heap.update l (BA f),toks:=t' }:=by
 have q:=PySem.IsL.update e f;rw[hf] at q;refine I.write (x:=l) (e:=l) (by rw[hH];exact trivial) (.inl rfl) (fun b' u hb hu=>(AI s.heap (BA f)<|AZ hb).trans hu) ⟨_,q⟩ ?_;exact⟨hz,its',_,hv,q⟩
def Inv.lnew(I:Inv X pins σ H s)(hv:Vals ys its)(hz:ys.length<=sizeLine) :
   Inv X pins σ (upd H s.heap.objs.size<|.lst ys) { s with heap:=s.heap.push { cls:=.type "list",data:=.seq its.toArray },toks:=t' } :=
 I.laid (fun _ _ q=>Ac _ q) (Ah _) ⟨hz,its,0,hv,Ap _ rfl⟩
def Inv.fresh(I:Inv X pins σ H s):H s.heap.objs.size=none:=I.hok.fresh<|Ah _
def Inv.lstM(I:Inv X pins σ H s)(hH:H l=some (.lst xs)):xs.length<=sizeLine/\∃ (its:List Value) (n:Nat),Vals xs its/\xs.length=its.length/\s.heap.get? l=some { cls:=.type "list",data:=.seq its.toArray n }:=by obtain⟨z,its,n,r,e⟩:=I.hok l _ hH;exact⟨z,its,n,r,r.length,e⟩
end
def zoo:V->List V->Hp->VK->Prop:=fun x vs H Q=>∃ l xs y,x=.ref l/\vs=[y]/\H l=some (.lst xs)/\xs.length < sizeLine/\Q .non (upd H l<|.lst<|xs++[y])
def zgK:MtM X "list.append" zoo:=by intro pins s σ H x vs v us Q I rx rv h;obtain⟨l,xs,y,rfl,rfl,hH,hz,q⟩:=h;cases rx;obtain⟨u,rfl,ru⟩:=rv.one;obtain⟨z,its,n,r,hl,e⟩:=I.lstM hH;refine FW F.slot_list_append ⟨_,e,rfl⟩ F.entry_list_append (F.args_list_append_2 _ _) (PySem.list_append l its.toArray n u (by rw[AA];omega)) ⟨e,?_⟩;refine⟨.non,_,I.lset (its':=its++[u]) hH e (by simp) (r.append<|.cons ru .nil) ?_,rfl,q⟩;rw[AU,C8];omega
def rCat:R2:=fun x y H Q=>∃ l b xs zs,x=.ref l/\y=.ref b/\H l=some (.lst xs)/\H b=some (.lst zs)/\xs.length+zs.length<=sizeLine/\∀ p,H p=none->Q (.ref p) (upd H p<|.lst<|xs++zs)
def zq1:OpR X (binaryOp .Add) rCat:=by
 intro pins s σ H x y v u Q I rx ry h;obtain⟨l,b,xs,zs,rfl,rfl,hH,hB,hz,q⟩:=h;cases rx;cases ry;obtain⟨z,its,n,r,hl,e⟩:=I.lstM hH;obtain⟨z2,its2,n2,r2,hl2,e2⟩:=I.lstM hB;refine PySem.P.add_list e e2 ?_ (by rw[AA,AA];omega);have ea:its.toArray++its2.toArray=(its++its2).toArray:=by simp
 rw[ea];exact⟨.ref _,_,I.lnew (t':=s.toks) (r.append r2) (by rw[AU];omega),rfl,q _ I.fresh⟩
section
variable {prog:Program} {w:World} {A:Around} {E:Value->Shared->Prop}
set_option maxRecDepth 100000 in
end
end L2
namespace Att
open PySem PySem.W PySem.Calls PyProof.Rows
def zef{P:Params}{h:Heap}:∀ (ns:List Int) (vs:List Value),WellAll P h vs (ns.map WData.int)->IntsAre vs ns:=by
 intro ns
 induction ns with
 | nil =>
   intro vs w;rw[BK] at w;cases w;exact .nil
 | cons n ns ih =>
   intro vs w;rw[Ay] at w
   cases w with
   | cons a b =>
     cases a;exact .cons _ _<|ih _ b
def zjW{l:OpenLaw}{n:Nat}(hn:l.most=some n){P:Params}{h:Heap}{args:List WData}{vals:List Value}
   (hpre:l.row.toRowW.claim.pre args=true) (hwl:WellAll P h vals args) :
   ∃ a vs ns,vals=[As a]/\args=[WData.list (ns.map WData.int)]/\h.get? a=some { cls:=.type "list",data:=.seq vs.toArray }/\IntsAre vs ns/\ns.length<=n:=by
 have hsh:WShape.hasAll [] args [.list .int]=true:=(pre_splitW hpre).1;have hc:l.pre.holds [] { args:=args }=true:=(pre_splitW hpre).2;obtain⟨d,r,rfl,h1,h2⟩:=hasAllW_cons hsh;obtain rfl:=hasAllW_nil h2;obtain⟨xs,rfl,h3⟩:=hasW_list h1;obtain⟨ns,rfl⟩:=items_int h3;have hlen:ns.length<=n:=by
   unfold OpenLaw.pre at hc;have h4:(WTm.not<|.lt (.lit<|.int (n:Int))<|.len<|.arg 0).holds [] { args:=[.list (ns.map .int)] }=true:=by have h4:=(holds_andW hc).1;rw[hn] at h4;exact h4
   have h5:=condW_of h4<|w_not<|w_lt w_lit<|w_len_list<|w_arg rfl;rw[Af] at h5;refine Nat.le_of_not_lt fun q=>?_;have q':(n:Int) < ((ns.length:Nat):Int):=by omega
   first
     | (rw[decide_eq_true q'] at h5;exact absurd h5 (by decide))
     | (simp at h5;omega)
 cases hwl with
 | cons w1 w2 =>
   cases w2
   cases w1 with
   | list ho hall=>exact⟨_,_,ns,rfl,rfl,ho,zef ns _ hall,hlen⟩
def zj5(l:OpenLaw)(args:List WData):l.row.toRowW.claim.post args (.bool true) args=true :=
 postW_of (r:=l.row.toRowW) (X:=(true==true))
   (show WShape.has [] (.bool true) .bool=true by first | rfl | decide | simp[WShape.has,WShape.arms,WShape.armsAll])
   (show (WTm.eq .res<|.lit<|.bool true).value [] { args:=args,res:=some (.bool true),after:=args }=some (.bool<|true==true) from w_eq_bool (w_res rfl) w_lit) rfl
def attach_call{l:OpenLaw}{n:Nat}{q:Program}{loose:List Str}{XP:(Str->Option Value)->Heap->Prop}{YP:World->Heap->Prop}{d:DefRec}
   (hn:l.most=some n) (hdf:d.params.defaults=[])
   (call:∀ (w:World) (s₀ s₁:Shared) (mg mb:Str->Option Value) (fa:Addr) (o:Obj) (pm cd doc:Value) (a:Addr) (vs:List Value) (ns:List Int),
     Ground q loose [] XP w s₀ mg mb s₁.heap->YP w s₁.heap ->
     s₁.heap.get? fa=some o->o.data=.func (docDef d.name d.params d.body d.scope pm cd doc)->s₁.heap.CodeRec cd d.name->mg d.name=some (.ref fa) ->
     s₁.heap.get? a=some { cls:=.type "list",data:=.seq vs.toArray }->IntsAre vs ns->ns.length<=n->s₁.gens=#[] ->
     codeAny (model l.prog w) callerA (.call (.ref fa) ⟨[.ref a],[]⟩) (fun r s'=>r=.ok (.ret<|.bool true)/\OldK s₁.heap s'.heap/\s'.os=s₁.os/\AllBare s'.gens) s₁) :
   WalkO q loose XP YP l.row.toRowW d [] (fun f vs=>FX f vs):=by
 intro w s₀ s₁ mg mb G Y fa o pm cd doc dV kV ho hd hcd hD hmg hg args vals as hpre hlay hrd hwl hlo;obtain rfl:dV=.none:=Dflts.none hD hdf;obtain rfl:kV=.none:=Dflts.noKw hD;obtain⟨a,vs,ns,rfl,rfl,hobj,hints,hlen⟩:=zjW hn hpre hwl;refine enter_call<|Df (call w s₀ s₁ mg mb fa o pm cd doc a vs ns G Y ho (fd_plain hd) hcd hmg hobj hints hlen hg) fun r s' hq=>?_;obtain⟨rfl,h2,h3,h4⟩:=hq;exact⟨.inl ⟨.bool true,.bool true,[],rfl,fun _=>rfl,.bool true,zj5 l _,fun _=>⟨CV,fun _ hm=>(nomatch hm)⟩⟩,h2,h3,h4⟩
end Att
namespace L2
open PySem PySem.Spec PyProof.Rows
def zgq:∀ {vs:List Value} {ns:List Int},IntsAre vs ns->Vals (ns.map V.int) vs
 | _,_,.nil=>.nil
 | _,_,.cons n t h=>.cons ⟨t,rfl⟩<|zgq h
def Only(H:Hp):Prop:=∀ b,H b=none\/∃ o xs,H b=some (.frz o<|.lst xs)
variable {P:Program}{w:World}{K:Ab}{mg:Str->Option Value}{k:Nat}{fd:FuncData}{x:Str}{sp:Sp}
def zmX{mb:Str->Option Value}{CX:CXT}{fa a:Addr}{x:Str}{s₁:Shared}{vs:List Value}{ns:List Int}
   (KX:K.In s₁.heap) (hns:s₁.heap.Ns mainGlobals mg) (hb:s₁.heap.Ns builtinsNs mb) (hbb:∀ x:Str,x≠"__name__"->mb x=bootBuiltins x) (hlim:s₁.heap.NoLimit) (hg:s₁.gens=#[])
   (ha:s₁.heap.get? a=some { cls:=.type "list",data:=.seq vs.toArray }) (hi:IntsAre vs ns) (hl:ns.length<=sizeLine) (hr:Room k callerA)
   (F:∀ base:Heap,K.In base->base.Ns mainGlobals mg->FnOk P w K mg base CX k fa fd [x] sp) (hbind:∀ (s:Shared) (u:Value),BindsTo s fd ⟨[u],[]⟩ [(x,u)])
   (hsp:∀ H:Hp,Only H->SqL K H a (ns.map V.int)->sp [.ref a] H (fun v _=>v=.bl true) fun _ _ _=>False)
   (hCX:∀ H e s',CX [] H s₁ (fun _ _ _=>False) e s'->False) :
   codeAny (model P w) callerA (.call (.ref fa) ⟨[.ref a],[]⟩) (fun r s'=>r=.ok (.ret (.bool true))/\OldK s₁.heap s'.heap/\s'.os=s₁.os/\AllBare s'.gens) s₁:=by
 have rv:=zgq hi;have lenV:=hi.length
 -- from an abstract heap in which nothing but the script may be tracked
 have core:∀ H:Hp,Only H->SqL K H a (ns.map V.int)->HOk P w H s₁.heap->(∀ b,H b≠none->b=a)->(H a≠none->K.lookup a=none) ->
     codeAny (model P w) callerA (.call (.ref fa) ⟨[.ref a],[]⟩) (fun r s'=>r=.ok (.ret (.bool true))/\OldK s₁.heap s'.heap/\s'.os=s₁.os/\AllBare s'.gens) s₁:=by
   intro H hO hS hok hA hK;have base_of:∀ {b:Addr} {o:Obj},s₁.heap.get? b=some o->H b=none->(hidT s₁.heap H).get? b=some o:=fun e n=>zm6 e n;have noA:∀ {b:Addr} {o:Obj} {es:Array DictEntry} {ep:Nat},s₁.heap.get? b=some o->o.data=.dict es ep->H b=none:=fun {b o es ep} e d=>by
     cases q:H b with
     | none=>rfl
     | some u =>
       have e':b=a:=hA b (by rw[q];simp);subst e';rw[ha] at e;cases e;have d':Data.seq vs.toArray _=Data.dict es ep:=d;cases d'
   have nsK:∀ {b:Addr} {m:Str->Option Value},s₁.heap.Ns b m->(hidT s₁.heap H).Ns b m:=fun {b m} ⟨o,es,ep,e,d,r⟩=>⟨o,es,ep,base_of e (noA e d),d,r⟩
   have hKb:K.In (hidT s₁.heap H):=fun b o e=>base_of (KX b o e) (by
     cases q:H b with
     | none=>rfl
     | some u =>
       have e':b=a:=hA b (by rw[q];simp);subst e';rw[hK (by rw[q];simp)] at e;cases e)
   have hM:Mod K mg (hidT s₁.heap H):=⟨hKb,nsK hns,⟨mb,nsK hb,hbb⟩,let ⟨mc,h1,h2⟩:=hlim;⟨mc,nsK h1,h2⟩⟩
   have e0:Env0 P w K mg (hidT s₁.heap H) callerA [] s₁ H:=⟨rfl,hM,fun b o e=>zoO e,D0 (zkB _ _),trivial,fun b hb=>absurd (show b∈([]:List Addr) from hb) (by simp),hok,.of_eq hg⟩
   refine Df ((F _ hKb (nsK hns)).run callerA [] s₁ H ⟨[.ref a],[]⟩ [.ref a] [.ref a] _ _ hr e0 (hbind s₁ (.ref a)) (.cons rfl .nil) (hsp H hO hS)) fun r s' h=>?_
   cases r with
   | error e=>exact (hCX H e s' h).elim
   | ok fl =>
     cases fl with
     | next=>exact False.elim h
     | brk=>exact False.elim h
     | cont=>exact False.elim h
     | ret u =>
       obtain⟨v,H',os,bare,un,hok',r',q⟩:=h;have q':v=.bl true:=q;subst q';obtain rfl:u=Dc true:=r';refine⟨rfl,OldK.of_keep fun b o e=>?_,os,bare⟩
       cases q:H b with
       | none=>exact un.keep b o e q (by intro z;exact absurd (show b∈([]:List Addr) from z) (by simp)) (by simp)
       | some u =>
         rcases hO b with z | ⟨ob,xs,z⟩
         . rw[q] at z;cases z
         have z2:=un.frzs b ob _ z;obtain⟨e1,_⟩:=hok b _ z;obtain⟨e2,_⟩:=hok' b _ z2;rw[e] at e1;cases e1;exact e2
 cases hk:K.lookup a with
 | some o =>
   -- the script is one of the module's own objects
   have e:=KX a o hk;rw[ha] at e;cases e;refine core (fun _=>none) (fun _=>.inl rfl) (.inr ⟨_,vs.toArray,_,hk,rfl,rfl,rfl,by rw[AA,lenV];exact hl,by simpa using rv⟩) (fun b u z=>by have z':(none:Option HO)=some u:=z;cases z') (fun b z=>absurd rfl z) fun z=>absurd rfl z
 | none =>
   refine core (fun b=>if b=a then some (.frz { cls:=.type "list",data:=.seq vs.toArray } (.lst (ns.map V.int))) else none) (fun b=>?_) (.inl (.inr ⟨{ cls:=.type "list",data:=.seq vs.toArray },if_pos rfl⟩)) (fun b u z=>?_) (fun b z=>?_) fun _=>hk
   . by_cases hb:b=a
     . exact .inr ⟨_,_,if_pos hb⟩
     exact .inl (if_neg hb)
   . by_cases hb:b=a
     . have z':=(if_pos hb).symm.trans z;cases z';subst hb;exact⟨ha,by rw[Af];exact hl,vs,_,rv,ha⟩
     have z':=(if_neg hb).symm.trans z;cases z'
   . by_cases hb:b=a
     . exact hb
     exact absurd (if_neg hb) z
variable {n:Nat}
def walk_of{l:PySem.W.OpenLaw}{q:Program}{loose:List Str}{XP:(Str->Option Value)->Heap->Prop}{YP:World->Heap->Prop}{d:DefRec}{K:Params->Ab}{CX:World->CXT}{sp:World->Sp}
   (hn:l.most=some n) (hn2:n<=sizeLine) (hdf:d.params.defaults=[]) (hr:Room k callerA)
   (hY:∀ (w:World) (h:Heap),YP w h->(K w.params).In h)
   (F:∀ (w:World) (mg:Str->Option Value) (fa:Addr) (h:Heap),(K w.params).In h->h.Ns mainGlobals mg->mg d.name=some (.ref fa) ->
     ∃ fd:FuncData,(∀ (s:Shared) (u:Value),BindsTo s fd ⟨[u],[]⟩ [(x,u)]) /\
       ∀ base:Heap,(K w.params).In base->base.Ns mainGlobals mg->FnOk l.prog w (K w.params) mg base (CX w) k fa fd [x] (sp w))
   (hsp:∀ (w:World) (H:Hp) (a:Addr) (ns:List Int),ns.length<=n->Only H->SqL (K w.params) H a (ns.map V.int)->sp w [.ref a] H (fun v _=>v=.bl true) fun _ _ _=>False)
   (hCX:∀ (w:World) (H:Hp) (s:Shared) (e:Value) (s':Shared),CX w [] H s (fun _ _ _=>False) e s'->False) :
   PySem.W.WalkO q loose XP YP l.row.toRowW d [] (fun f vs=>FX f vs):=by
 refine Att.attach_call hn hdf fun w s₀ s₁ mg mb fa o pm cd doc a vs ns G Y ho hd hcd hmg hobj hints hlen hg=>?_;have KX:=hY w _ Y;obtain⟨fd,hb,hF⟩:=F w mg fa _ KX G.T.g hmg;exact zmX KX G.T.g G.T.b G.T.builtins G.T.nolimit hg hobj hints (Aw hlen hn2) hr hF hb (fun H hO hS=>hsp w H a ns hlen hO hS) fun H e s'=>hCX w H s₁ e s'
def inClass(s:Stmt)(j:Nat):Stmt:=match s with
 | .ClassDef _ _ _ body _ _ _ _ _ _ _=>body.getD j<|.Pass ⟨0,0,0,0⟩
 | _=>.Pass ⟨0,0,0,0⟩
noncomputable abbrev CX0:CXT:=fun _ _ _ _ _ _=>False
noncomputable abbrev E0:XK:=fun _ _ _=>False
variable {X:Cx}
def zsI:Passes CX0 X E0:=fun _ _ _ _ _ _ _ h=>h.elim
structure Fun(K:Ab)(x qual:Str)(st:Stmt)(f:Addr)(fd:FuncData):Prop where
 ex:∃ (oc:Value) (od:Option Addr) (kV doc pm:Value) (an:Option Addr) (cdv ct:Value) (osl:Array (Option Value)),
   fd=BU x qual (zcF st) (zbl st) (zar st) .none kV doc pm an cdv ct/\K.lookup f=some ⟨oc,od,.func fd,osl⟩/\CN K cdv qual=true
 kp:Bz K (.ref f)=true
variable {qual:Str}{st:Stmt}{f:Addr}{ps:List Str}
section
variable {base:Heap}
def Fun.ok{N:List Str}(F:Fun K x qual st f fd)(S:FnScope N ps (zar st))(len:∀ vs H Q E,sp vs H Q E->vs.length=ps.length)
   (hbody:∀ (cdv:Value) (A:Around) (outer:List Env) (s:Shared) (H:Hp) (vs:List V) (Q:VK) (E:XK),Room k (A.deeper<|envOfC qual (zar st) s.heap.objs.size f cdv)->sp vs H Q E ->
     ∃ t,PSs (cxOf CX0 P w K mg base N qual (zar st) f cdv A outer s H E).nox (zbl st) t/\t { nx:=fun _ H'=>Q .non H',rt:=Q } (start N vs) H):FnOk P w K mg base CX0 (k+1) f fd ps sp:=by
 obtain⟨oc,od,kV,doc,pm,an,cdv,ct,osl,rfl,lk,hcd⟩:=F.ex;refine zr4 lk hcd S len fun A outer s H vs Q E hr hsp=>?_;obtain⟨t,h,q⟩:=hbody cdv A outer s H vs Q E hr hsp;exact⟨t,h.nox,q⟩
def Fun.binds(F:Fun K x qual st f fd)
   (h:∀ (kV doc pm:Value) (an:Option Addr) (cdv ct:Value) (us:List Value),us.length=ps.length->bindArgs (BU x qual (zcF st) (zbl st) (zar st) .none kV doc pm an cdv ct) ⟨us,[]⟩=pure (ps.zip us)):Binds K fd ps []:=by
 obtain⟨oc,od,kV,doc,pm,an,cdv,ct,osl,rfl,lk,hcd⟩:=F.ex;exact .all<|h kV doc pm an cdv ct
def zkC{x qual:Str}{st:Stmt}{oc:Value}{od an:Option Addr}{osl:Array (Option Value)}{kV doc pm cdv ct:Value}(l:K.lookup f=some ⟨oc,od,.func<|BU x qual (zcF st) (zbl st) (zar st) .none kV doc pm an cdv ct,osl⟩)
   (c:CN K cdv qual=true) (k:Bz K (.ref f)=true):Fun K x qual st f (BU x qual (zcF st) (zbl st) (zar st) .none kV doc pm an cdv ct):=⟨⟨oc,od,kV,doc,pm,an,cdv,ct,osl,rfl,l,c⟩,k⟩
end
def zaB{A:Around}(hr:Room k A):A.units+1 < cLine:=BX (Ds (by decide:1<=64) _) hr.units
def zjO(h:n<=1000):n < sizeLine:=BX h<|by decide
def pv(i:Nat){pos:Pos}(hN:X.N[i]?=some x:=by rfl)(hv:Vis X.env.scope x:=by first | exact Bg rfl | exact Ba (Bg rfl) | exact Ba (Ba rfl))(hd:(x==("__debug__":Str))=false:=by decide)
   (hcd:(x==("__classdict__":Str))=false:=by decide):PE X (.Name x pos) (tVar i):=zoC hN hv hd hcd
end L2
namespace L2.MP
open PySem PySem.Spec PyProof.Rows
inductive D where
 | non | bl (b:Bool) | int (i:Int) | str (x:Str) | tup (xs:List D) | ref (n:Nat) | kl (xs:List D) | fn (x:Str) | er (b:Bool) (c:Str) (f:Option (Str×Int))
inductive O where
 | lst (xs:List D) | fz (xs:List D) | dk (kvs:List (Key×D)) | dt (kvs:List (List Key×D)) | fk (kvs:List (Key×D)) | ft (kvs:List (List Key×D)) | ob (C:Addr) (fs:List (Str×D)) | sz (n:Nat) | dz
noncomputable abbrev Sto:=List O
noncomputable abbrev Rho:=List (Option D)
structure Kp(H H':Hp):Prop where
 tup:∀ a xs,H a=some (.tup xs)->H' a=some (.tup xs)
 frz:∀ a o u,H a=some (.frz o u)->H' a=some (.frz o u)
def SqF(K:Ab)(H:Hp)(a:Addr)(xs:List V):Prop :=
 (∃ o,H a=some (.frz o<|.lst xs))\/∃ (o:Obj) (its:Array Value) (n:Nat),K.lookup a=some o/\o.cls=.type "list"/\o.dict=none/\o.data=.seq its n/\its.size<=sizeLine/\Vals xs its.toList
variable {K:Ab}{H:Hp}{a:Addr}{xs:List V}
def SqF.sq(h:SqF K H a xs):SqL K H a xs:=by
 rcases h with h | h
 . exact .inl<|.inr h
 exact .inr h
variable {H':Hp}
def SqF.kp(T:Kp H H')(h:SqF K H a xs):SqF K H' a xs:=by
 rcases h with ⟨o,h⟩ | h
 . exact .inl ⟨o,T.frz _ _ _ h⟩
 exact .inr h
def FnA(K:Ab)(x:Str)(a:Addr):Prop:=Fk K mainGlobals x=some (some<|.ref a)
def ErZ(C a:Addr)(od:Option Addr)(h:Heap):Prop:=∃ o fs,h.get? a=some o/\o.cls=.ref C/\o.dict=od/\o.data=.fields fs
def ErR(K:Ab)(H:Hp)(v:V)(c:Str):Option (Str×Int)->Prop
 | none=>∃ a C o,v=.ref a/\FnA K c C/\H a=some (.frz o<|.ext<|ErZ C a none)
 | some (f,n)=>∃ a C o dx o',v=.ref a/\FnA K c C/\H a=some (.frz o<|.ext<|ErZ C a<|some dx)/\H dx=some (.frz o'<|.xd [(f,.int n)])
variable {v:V}
def ErR.kp{c:Str}{f:Option (Str×Int)}(T:∀ a o u,H a=some (.frz o u)->(∀ ps,u≠.dT ps)->H' a=some (.frz o u))(h:ErR K H v c f):ErR K H' v c f:=by
 cases f with
 | none =>
   obtain⟨a,C,o,e,q,r⟩:=h;exact⟨a,C,o,e,q,T _ _ _ r<|by simp⟩
 | some p =>
   obtain⟨a,C,o,dx,o',e,q,r,z⟩:=h;exact⟨a,C,o,dx,o',e,q,T _ _ _ r<|by simp,T _ _ _ z<|by simp⟩
mutual
def Rep(K:Ab)(H:Hp)(io:List Addr):V->D->Prop
 | v,.non=>v=.non
 | v,.bl b=>v=.bl b
 | v,.int i=>v=.int i
 | v,.str x=>v=.str x
 | v,.tup ds=>∃ a xs,v=.ref a/\H a=some (.tup xs)/\Reps K H io xs ds
 | v,.ref n=>∃ a,v=.ref a/\io[n]?=some a
 | v,.kl ds=>∃ a xs,v=.ref a/\SqF K H a xs/\Reps K H io xs ds
 | v,.fn x=>∃ a,v=.ref a/\FnA K x a
 | v,.er b c f=>b=true/\ErR K H v c f
def Reps(K:Ab)(H:Hp)(io:List Addr):List V->List D->Prop
 | xs,[]=>xs=[]
 | xs,d::ds=>∃ y ys,xs=y::ys/\Rep K H io y d/\Reps K H io ys ds
end
variable {io ka:List Addr}
mutual
theorem Rep.mono{K:Ab}{H H':Hp}{io ka:List Addr}(T:Kp H H'):∀ {v:V} {d:D},Rep K H io v d->Rep K H' (io++ka) v d
 | _,.non,h=>h
 | _,.bl _,h=>h
 | _,.int _,h=>h
 | _,.str _,h=>h
 | _,.tup ds,h=>by obtain⟨a,xs,e,q,r⟩:=h;exact⟨a,xs,e,T.tup a xs q,Reps.mono T r⟩
 | _,.ref n,h=>by obtain⟨a,e,q⟩:=h;exact⟨a,e,by rw[Ao (List.getElem?_eq_some_iff.mp q).1];exact q⟩
 | _,.kl ds,h=>by obtain⟨a,xs,e,q,r⟩:=h;exact⟨a,xs,e,q.kp T,Reps.mono T r⟩
 | _,.fn _,h=>h
 | _,.er _ _ _,h=>⟨h.1,h.2.kp fun a o u q _=>T.frz a o u q⟩
theorem Reps.mono{K:Ab}{H H':Hp}{io ka:List Addr}(T:Kp H H'):∀ {xs:List V} {ds:List D},Reps K H io xs ds->Reps K H' (io++ka) xs ds
 | _,[],h=>h
 | _,d::ds,h=>by obtain⟨y,ys,e,r,rs⟩:=h;exact⟨y,ys,e,Rep.mono T r,Reps.mono T rs⟩
end
variable {H1 H2:Hp}{kb:List Addr}{st st':Sto}{d:D}{o:HO}{ρ:Rho}{p:Addr}{ob:O}
section
variable {ys:List V} {ds es:List D}
def Reps.length:∀ {xs:List V} {ds:List D},Reps K H io xs ds->xs.length=ds.length
 | _,[],h=>by rw[show _=[] from h];rfl
 | _,d::ds,h=>by obtain⟨y,ys,e,_,rs⟩:=h;rw[e,Az,Az,Reps.length rs]
def Reps.get:∀ {xs:List V} {ds:List D} {i:Nat} {d:D},Reps K H io xs ds->ds[i]?=some d->∃ v,xs[i]?=some v/\Rep K H io v d
 | _,[],_,_,_,e=>by simp at e
 | _,a::ds,0,d,h,e=>by
   obtain⟨y,ys,rfl,r,_⟩:=h;have e':a=d:=by simpa using e
   subst e';exact⟨y,rfl,r⟩
 | _,a::ds,i+1,d,h,e=>by obtain⟨y,ys,rfl,_,rs⟩:=h;exact Reps.get (i:=i) rs<|by simpa using e
def Reps.append:∀ {xs ys:List V} {ds es:List D},Reps K H io xs ds->Reps K H io ys es->Reps K H io (xs++ys) (ds++es)
 | _,_,[],_,h,q=>by rw[show _=[] from h];exact q
 | _,_,d::ds,_,h,q=>by obtain⟨y,ys,rfl,r,rs⟩:=h;exact⟨y,_,rfl,r,Reps.append rs q⟩
def Reps.set:∀ {xs:List V} {ds:List D} {v:V} {d:D} (i:Nat),Reps K H io xs ds->Rep K H io v d->Reps K H io (xs.set i v) (ds.set i d)
 | _,[],_,_,_,h,_=>by rw[show _=[] from h];exact rfl
 | _,a::ds,v,d,0,h,q=>by obtain⟨y,ys,rfl,_,rs⟩:=h;exact⟨v,ys,rfl,q,rs⟩
 | _,a::ds,v,d,i+1,h,q=>by obtain⟨y,ys,rfl,r,rs⟩:=h;exact⟨y,_,rfl,r,Reps.set i rs q⟩
def Reps.take:∀ {xs:List V} {ds:List D} (n:Nat),Reps K H io xs ds->Reps K H io (xs.take n) (ds.take n)
 | _,[],n,h=>by rw[show _=[] from h];simp[Reps]
 | _,_::_,0,_=>by simp[Reps]
 | _,d::ds,n+1,h=>by obtain⟨y,ys,rfl,r,rs⟩:=h;exact⟨y,_,rfl,r,Reps.take n rs⟩
def Reps.drop:∀ {xs:List V} {ds:List D} (n:Nat),Reps K H io xs ds->Reps K H io (xs.drop n) (ds.drop n)
 | _,[],n,h=>by rw[show _=[] from h];simp[Reps]
 | _,_::_,0,h=>h
 | _,d::ds,n+1,h=>by obtain⟨y,ys,rfl,r,rs⟩:=h;exact Reps.drop n rs
theorem Reps.nil:Reps K H io [] []:=rfl
def Reps.cons(r:Rep K H io v d)(rs:Reps K H io xs ds):Reps K H io (v::xs) (d::ds):=⟨v,xs,rfl,r,rs⟩
def Reps.one(r:Reps K H io xs [d]):∃ v,xs=[v]/\Rep K H io v d:=by
 obtain⟨y,ys,rfl,r,e⟩:=r
 cases (show ys=[] from e)
 exact⟨y,rfl,r⟩
def Reps.two{e:D}(r:Reps K H io xs [d,e]):∃ v u,xs=[v,u]/\Rep K H io v d/\Rep K H io u e:=by obtain⟨y,ys,rfl,r,q⟩:=r;obtain⟨v,rfl,q'⟩:=q.one;exact⟨y,v,rfl,r,q'⟩
noncomputable abbrev KR (κ:Type) (K:Ab) (H:Hp) (io:List Addr):List (κ×V)->List (κ×D)->Prop:=Paired fun (p:κ×V) (q:κ×D)=>p.1=q.1/\Rep K H io p.2 q.2
def SetZ(a:Addr)(n:Nat)(h:Heap):Prop:=∃ o es ep t,h.get? a=some o/\o.ExactSet/\o.data=.set es ep t/\es.size < scanBound/\t.fits es.size=true/\es.size=n
def DzZ(a:Addr)(h:Heap):Prop:=∃ o es ep,h.get? a=some o/\o.ExactDict/\o.data=.dict es ep
def OR(K:Ab)(H:Hp)(io:List Addr)(a:Addr):O->Prop
 | .lst ds=>∃ xs,H a=some (.lst xs)/\Reps K H io xs ds
 | .fz ds=>∃ o xs,H a=some (.frz o<|.lst xs)/\Reps K H io xs ds
 | .dk kvs=>∃ ps,H a=some (.dK ps)/\KR Key K H io ps kvs
 | .dt kvs=>∃ ps,H a=some (.dT ps)/\KR (List Key) K H io ps kvs
 | .fk kvs=>∃ o ps,H a=some (.frz o<|.dK ps)/\KR Key K H io ps kvs
 | .ft kvs=>∃ o ps,H a=some (.frz o<|.dT ps)/\KR (List Key) K H io ps kvs
 | .ob C fs=>∃ dx ps,H a=some (.ins C dx ps)/\KR Str K H io ps fs
 | .sz n=>H a=some (.ext<|SetZ a n)
 | .dz=>H a=some (.ext<|DzZ a)
structure StR(K:Ab)(H:Hp)(io:List Addr)(st:Sto):Prop where
 len:io.length=st.length
 nd:io.Nodup
 ob:∀ (n:Nat) (a:Addr) (o:O),io[n]?=some a->st[n]?=some o->OR K H io a o
structure EnvR(K:Ab)(H:Hp)(io:List Addr)(σ:St)(ρ:Rho):Prop where
 len:σ.length=ρ.length
 at_:∀ (i:Nat) (d:D),ρ[i]?=some (some d)->∃ v,σ[i]?=some (some v)/\Rep K H io v d
structure Ext(io ka:List Addr)(H H':Hp):Prop where
 keep:∀ b o,H b=some o->b ∉ io->H' b=some o
 fresh:∀ b,b∈ka->H b=none
 frz:∀ b o u,H b=some (.frz o u)->H' b=some (.frz o u)
def OR.stands{o:O}(h:OR K H io a o):∃ u,H a=some u/\∀ xs,u≠.tup xs/\∀ ob,u≠.frz ob (.tup xs):=by
 cases o with
 | lst ds=>obtain⟨xs,e,_⟩:=h;exact⟨_,e,fun _=>⟨by simp,by simp⟩⟩
 | fz ds=>obtain⟨ob,xs,e,_⟩:=h;exact⟨_,e,fun _=>⟨by simp,by simp⟩⟩
 | dk kvs=>obtain⟨xs,e,_⟩:=h;exact⟨_,e,fun _=>⟨by simp,by simp⟩⟩
 | dt kvs=>obtain⟨xs,e,_⟩:=h;exact⟨_,e,fun _=>⟨by simp,by simp⟩⟩
 | fk kvs=>obtain⟨ob,xs,e,_⟩:=h;exact⟨_,e,fun _=>⟨by simp,by simp⟩⟩
 | ft kvs=>obtain⟨ob,xs,e,_⟩:=h;exact⟨_,e,fun _=>⟨by simp,by simp⟩⟩
 | ob C fs=>obtain⟨dx,xs,e,_⟩:=h;exact⟨_,e,fun _=>⟨by simp,by simp⟩⟩
 | sz n=>exact⟨_,h,fun _=>⟨by simp,by simp⟩⟩
 | dz=>exact⟨_,h,fun _=>⟨by simp,by simp⟩⟩
def StR.mem(S:StR K H io st)(h:a∈io):∃ u,H a=some u/\∀ xs,u≠.tup xs/\∀ ob,u≠.frz ob (.tup xs):=by
 obtain⟨n,hn,e⟩:=Cw h;have h1:io[n]?=some a:=by rw[Ag hn,e]
 have h2:n < st.length:=by rw[<-S.len];exact hn
 exact (S.ob n a _ h1<|Ag h2).stands
def Ext.sqT(S:StR K H io st)(E:Ext io ka H H'):∀ a xs,H a=some (.tup xs)->H' a=some (.tup xs):=by intro a xs h;refine E.keep _ _ h fun m=>?_;obtain⟨u,e,q⟩:=S.mem m;rw[h] at e;exact (q xs).1 (Aq e).symm
def Ext.kp(S:StR K H io st)(E:Ext io ka H H'):Kp H H':=⟨E.sqT S,E.frz⟩
def Ext.refl:Ext io [] H H:=⟨fun _ _ h _=>h,fun _ h=>absurd h (by simp),fun _ _ _ h=>h⟩
def Ext.trans(S1:StR K H1 (io++ka) st)(E1:Ext io ka H H1)(E2:Ext (io++ka) kb H1 H2):Ext io (ka++kb) H H2 where
 keep:=fun b o h n=>E2.keep b o (E1.keep b o h n) fun m=>by
   rcases List.mem_append.mp m with m | m
   . exact n m
   rw[E1.fresh b m] at h;cases h
 fresh:=fun b m=>by
   rcases List.mem_append.mp m with m | m
   . exact E1.fresh b m
   . have h1:=E2.fresh b m
     cases e:H b with
     | none=>rfl
     | some o =>
       by_cases hb:b∈io
       . obtain⟨u,e',_⟩:=S1.mem<|B6 _ hb;rw[e'] at h1;cases h1
       rw[E1.keep b o e hb] at h1;cases h1
 frz:=fun b o u h=>E2.frz b o u (E1.frz b o u h)
def Ext.app(E:Ext io (ka++[]) H H'):Ext io ka H H':=by rw[Al] at E;exact E
def Rep.ext(S:StR K H io st)(E:Ext io ka H H')(h:Rep K H io v d):Rep K H' (io++ka) v d:=Rep.mono (E.kp S) h
def Reps.ext(S:StR K H io st)(E:Ext io ka H H')(h:Reps K H io xs ds):Reps K H' (io++ka) xs ds:=Reps.mono (E.kp S) h
def EnvR.ext{σ:St}{ρ:Rho}(h:EnvR K H io σ ρ)(S:StR K H io st)(E:Ext io ka H H'):EnvR K H' (io++ka) σ ρ :=
 ⟨h.len,fun i d e=>let ⟨v,q,r⟩:=h.at_ i d e;⟨v,q,r.ext S E⟩⟩
def EnvR.set{σ:St}{ρ:Rho}{v:V}{d:D}(i:Nat)(h:EnvR K H io σ ρ)(r:Rep K H io v d):EnvR K H io (σ.set i<|some v) (ρ.set i<|some d):=by
 refine⟨by rw[Bx,Bx];exact h.len,fun j e q=>?_⟩
 by_cases hij:i=j
 . subst hij;rw[Co] at q;rw[if_pos rfl] at q
   split at q
   . rename_i hl
     cases (Aq<|Aq q)
     exact⟨v,by rw[Co,if_pos rfl,if_pos (by rw[h.len];exact hl)],r⟩
   . cases q
 rw[Ax hij] at q;obtain⟨u,q',r'⟩:=h.at_ j e q;exact⟨u,by rw[Ax hij];exact q',r'⟩
def StR.nil(S:StR K H io st):StR K H (io++[]) st:=by rw[Al];exact S
def KR.mono{κ:Type}{ps:List (κ×V)}{kvs:List (κ×D)}(T:Kp H H')(h:KR κ K H io ps kvs):KR κ K H' (io++ka) ps kvs:=Paired.mapP h fun _ _ z=>⟨z.1,Rep.mono T z.2⟩
def OR.mono{a:Addr}{o:O}(T:Kp H H')(e:H' a=H a)(h:OR K H io a o):OR K H' (io++ka) a o:=by
 cases o with
 | lst ds=>obtain⟨xs,q,r⟩:=h;exact⟨xs,e.trans q,Reps.mono T r⟩
 | fz ds=>obtain⟨ob,xs,q,r⟩:=h;exact⟨ob,xs,e.trans q,Reps.mono T r⟩
 | dk kvs=>obtain⟨xs,q,r⟩:=h;exact⟨xs,e.trans q,KR.mono T r⟩
 | dt kvs=>obtain⟨xs,q,r⟩:=h;exact⟨xs,e.trans q,KR.mono T r⟩
 | fk kvs=>obtain⟨ob,xs,q,r⟩:=h;exact⟨ob,xs,e.trans q,KR.mono T r⟩
 | ft kvs=>obtain⟨ob,xs,q,r⟩:=h;exact⟨ob,xs,e.trans q,KR.mono T r⟩
 | ob C fs=>obtain⟨dx,xs,q,r⟩:=h;exact⟨dx,xs,e.trans q,KR.mono T r⟩
 | sz n=>exact e.trans h
 | dz=>exact e.trans h
def zgJ(S:StR K H io st)(hp:H p=none):Ext io [] H (upd H p o)/\StR K (upd H p o) (io++[]) st:=by
 have E:Ext io [] H (upd H p o):=⟨fun b u h _=>by rw[zan (zaq h hp)];exact h,fun _ h=>absurd h (by simp),fun b u v h=>by rw[zan (zaq h hp)];exact h⟩
 refine⟨E,?_⟩;refine⟨by rw[Al];exact S.len,by rw[Al];exact S.nd,fun n a ob h1 h2=>?_⟩;rw[Al] at h1;obtain⟨u,hu,_⟩:=(S.ob n a ob h1 h2).stands;exact OR.mono (E.kp S) (zan<|zaq hu hp)<|S.ob n a ob h1 h2
def ziy(S:StR K H io st)(hp:H p=none)(new:∀ H',Kp H H'->H' p=some o->OR K H' (io++[p]) p ob):Ext io [p] H (upd H p o)/\StR K (upd H p o) (io++[p]) (st++[ob]):=by
 have E:Ext io [p] H (upd H p o):=⟨fun b u h _=>by rw[zan (zaq h hp)];exact h,fun b h=>by rw[List.mem_singleton.mp h];exact hp,fun b u v h=>by rw[zan (zaq h hp)];exact h⟩
 have np:p ∉ io:=fun m=>by obtain⟨u,hu,_⟩:=S.mem m;rw[hp] at hu;cases hu
 refine⟨E,by simp[S.len],?_,fun n a ob' h1 h2=>?_⟩
 . rw[Fw];refine⟨S.nd,by simp,fun a ha b hb=>?_⟩;rw[List.mem_singleton.mp hb];rintro rfl;exact np ha
 . by_cases hn:n < io.length
   . rw[Ao hn] at h1;rw[Ao (by rw[<-S.len];exact hn)] at h2;obtain⟨u,hu,_⟩:=(S.ob n a ob' h1 h2).stands;exact OR.mono (E.kp S) (zan<|zaq hu hp)<|S.ob n a ob' h1 h2
   . have hl:n < (io++[p]).length:=(List.getElem?_eq_some_iff.mp h1).1;rw[AU,C8] at hl;have e:n=io.length:=by omega
     subst e;rw[AS (Ah _),Dh] at h1;rw[S.len,AS (Ah _),Dh] at h2
     cases (Aq h1)
     cases (Aq h2)
     exact new _ (E.kp S) zaC
def zii{n:Nat}{o:HO}{old:O}(S:StR K H io st)(hn:io[n]?=some p)(ho:st[n]?=some old)(nf:∀ o u,H p≠some (.frz o u))(new:∀ H',Kp H H'->H' p=some o->OR K H' (io++[]) p ob):Ext io [] H (upd H p o)/\StR K (upd H p o) (io++[]) (st.set n ob):=by
 have hp:p∈io:=AF hn;have E:Ext io [] H (upd H p o):=⟨fun b u h nb=>by rw[zan (fun e=>nb (by rw[e];exact hp))];exact h,fun b h=>absurd h (by simp),fun b u v h=>by
   by_cases hb:b=p
   . subst hb;exact absurd h<|nf u v
   rw[zan hb];exact h⟩
 refine⟨E,by simp[S.len],by rw[Al];exact S.nd,fun m a ob' h1 h2=>?_⟩;rw[Al] at h1
 by_cases hm:m=n
 . subst hm;rw[hn] at h1
   cases (Aq h1)
   rw[Co,if_pos rfl] at h2
   split at h2
   . cases (Aq h2)
     exact new _ (E.kp S) zaC
   . cases h2
 . rw[Ax (fun e=>hm e.symm)] at h2;have hap:a≠p:=fun e=>by
     subst e;exact hm<|(Fx (List.getElem?_eq_some_iff.mp h1).1 S.nd).mp<|h1.trans hn.symm
   exact OR.mono (E.kp S) (zan hap)<|S.ob m a ob' h1 h2
end
noncomputable abbrev ME:=Rho->Sto->Option (D×Sto)
noncomputable abbrev MT:=Rho->Sto->Option (Bool×Sto)
noncomputable abbrev MA:=Rho->Sto->Option (List D×Sto)
inductive Fl where
 | nx (ρ:Rho) | rt (d:D) | bk (ρ:Rho) | ct (ρ:Rho)
noncomputable abbrev MS:=Rho->Sto->Option (Fl×Sto)
noncomputable abbrev MG:=D->Rho->Sto->Option (Rho×Sto)
noncomputable abbrev MGs:=List D->Rho->Sto->Option (Rho×Sto)
def Bh(K:Ab)(io:List Addr)(H:Hp)(st':Sto)(d:D)(Q:VK):Prop:=∀ v H' ka,Ext io ka H H'->StR K H' (io++ka) st'->Rep K H' (io++ka) v d->Q v H'
inductive tE (K:Ab) (m:ME) (σ:L2.St) (H:Hp) (Q:VK):Prop
 | mk (ρ:Rho) (st:Sto) (io:List Addr) (d:D) (st':Sto) (h1:EnvR K H io σ ρ) (h2:StR K H io st) (h3:m ρ st=some (d,st')) (h4:Bh K io H st' d Q)
inductive tT (K:Ab) (m:MT) (σ:L2.St) (H:Hp) (Q:Bool->Hp->Prop):Prop
 | mk (ρ:Rho) (st:Sto) (io:List Addr) (b:Bool) (st':Sto) (h1:EnvR K H io σ ρ) (h2:StR K H io st) (h3:m ρ st=some (b,st')) (h4:∀ H' ka,Ext io ka H H'->StR K H' (io++ka) st'->Q b H')
inductive tA (K:Ab) (m:MA) (σ:L2.St) (H:Hp) (Q:List V->Hp->Prop):Prop
 | mk (ρ:Rho) (st:Sto) (io:List Addr) (ds:List D) (st':Sto) (h1:EnvR K H io σ ρ) (h2:StR K H io st) (h3:m ρ st=some (ds,st')) (h4:∀ vs H' ka,Ext io ka H H'->StR K H' (io++ka) st'->Reps K H' (io++ka) vs ds->Q vs H')
def tS(K:Ab)(m:MS):TS:=fun N σ H=>∃ ρ st io f st',EnvR K H io σ ρ/\StR K H io st/\m ρ st=some (f,st') /\
 match f with
 | .nx ρ'=>∀ σ' H' ka,Ext io ka H H'->StR K H' (io++ka) st'->EnvR K H' (io++ka) σ' ρ'->N.nx σ' H'
 | .bk ρ'=>∀ σ' H' ka,Ext io ka H H'->StR K H' (io++ka) st'->EnvR K H' (io++ka) σ' ρ'->N.bk σ' H'
 | .ct ρ'=>∀ σ' H' ka,Ext io ka H H'->StR K H' (io++ka) st'->EnvR K H' (io++ka) σ' ρ'->N.ct σ' H'
 | .rt d=>Bh K io H st' d N.rt
inductive tG (K:Ab) (m:MG) (v:V) (σ:L2.St) (H:Hp) (Q:L2.St->Hp->Prop):Prop
 | mk (d:D) (ρ:Rho) (st:Sto) (io:List Addr) (ρ':Rho) (st':Sto) (h0:Rep K H io v d) (h1:EnvR K H io σ ρ) (h2:StR K H io st) (h3:m d ρ st=some (ρ',st')) (h4:∀ σ' H' ka,Ext io ka H H'->StR K H' (io++ka) st'->EnvR K H' (io++ka) σ' ρ'->Q σ' H')
inductive tGs (K:Ab) (m:MGs) (vs:List V) (σ:L2.St) (H:Hp) (Q:L2.St->Hp->Prop):Prop
 | mk (ds:List D) (ρ:Rho) (st:Sto) (io:List Addr) (ρ':Rho) (st':Sto) (h0:Reps K H io vs ds) (h1:EnvR K H io σ ρ) (h2:StR K H io st) (h3:m ds ρ st=some (ρ',st')) (h4:∀ σ' H' ka,Ext io ka H H'->StR K H' (io++ka) st'->EnvR K H' (io++ka) σ' ρ'->Q σ' H')
def SE(X:Cx)(e:Expr)(m:ME):Prop:=PE X e<|tE X.K m
def SB(X:Cx)(e:Expr)(m:MT):Prop:=PT X e<|tT X.K m
def SA(X:Cx)(es:List Expr)(m:MA):Prop:=PA X es<|tA X.K m
def SS(X:Cx)(s:Stmt)(m:MS):Prop:=PS X s<|tS X.K m
def SSs(X:Cx)(s:List Stmt)(m:MS):Prop:=PSs X s<|tS X.K m
def SG(X:Cx)(e:Expr)(m:MG):Prop:=PG X e<|tG X.K m
def SGs(X:Cx)(e:List Expr)(m:MGs):Prop:=PGs X e<|tGs X.K m
variable {σ:L2.St}{b:Bool}{pos:Pos}{t u:TT}{Q:VK}{op:CmpOp}{s1:Sto}
section
variable {X:Cx} {e a b c:Expr} {es:List Expr} {st1 st2:Stmt} {rest body orelse:List Stmt} {m ma mb mc:ME} {mt mu:MT} {mm:MA} {ms mq mr:MS} {mg:MG} {mgs:MGs}
def PE.imp{t u:TE}(h:PE X e t)(k:∀ σ H Q,u σ H Q->t σ H Q):PE X e u:=fun pins s σ H Q I q=>h pins s σ H Q I<|k σ H Q q
def PT.imp(h:PT X e t)(k:∀ σ H Q,u σ H Q->t σ H Q):PT X e u:=fun pins s σ H Q I q=>h pins s σ H Q I<|k σ H Q q
def PA.imp{t u:TA}(h:PA X es t)(k:∀ σ H Q,u σ H Q->t σ H Q):PA X es u:=fun p pins s σ H Q I q=>h p pins s σ H Q I<|k σ H Q q
def PS.imp{t u:TS}(h:PS X st1 t)(k:∀ N σ H,u N σ H->t N σ H):PS X st1 u:=fun pins s σ H N I q=>h pins s σ H N I<|k N σ H q
def PSs.imp{t u:TS}(h:PSs X rest t)(k:∀ N σ H,u N σ H->t N σ H):PSs X rest u:=fun pins s σ H N I q=>h pins s σ H N I<|k N σ H q
def PG.imp{t u:TG}(h:PG X e t)(k:∀ v σ H Q,u v σ H Q->t v σ H Q):PG X e u:=fun pins s σ H v w Q I r q=>h pins s σ H v w Q I r<|k v σ H Q q
def PGs.imp{t u:TGs}(h:PGs X es t)(k:∀ v σ H Q,u v σ H Q->t v σ H Q):PGs X es u:=fun pins s σ H v w Q I r q=>h pins s σ H v w Q I r<|k v σ H Q q
def zaf{α β:Type}{x:Option α}{f:α->Option β}{y:β}(h:x.bind f=some y):∃ z,x=some z/\f z=some y:=by
 cases x with
 | none=>cases h
 | some z=>exact⟨z,rfl,h⟩
def Bh.now(h:Bh K io H st d Q)(S:StR K H io st)(r:Rep K H io v d):Q v H:=h v H [] Ext.refl S.nil (by rw[Al];exact r)
def Bh.on(h:Bh K io H st' d Q)(S1:StR K H1 (io++ka) st)(E:Ext io ka H H1):Bh K (io++ka) H1 st' d Q:=fun v H' kb E' S' r =>
 h v H' (ka++kb) (E.trans S1 E') (by rw[<-Ak];exact S') (by rw[<-Ak];exact r)
def mV(i:Nat):ME:=fun ρ st=>match ρ[i]? with
 | some (some d)=>some (d,st)
 | _=>none
def zab(i:Nat){x:Str}(hN:X.N[i]?=some x:=by rfl)(hv:Vis X.env.scope x:=by first | exact Bg rfl | exact Ba (Bg rfl) | exact Ba (Ba rfl))(hd:(x==("__debug__":Str))=false:=by decide)
   (hcd:(x==("__classdict__":Str))=false:=by decide):SE X (.Name x pos) (mV i):=PE.imp (zoC hN hv hd hcd) <| by
 rintro σ H Q ⟨ρ,st,io,d,st',E,S,e,k⟩;unfold mV at e
 split at e
 . rename_i d' he;cases e;obtain⟨v,hv,r⟩:=E.at_ i _ he;exact⟨v,hv,k.now S r⟩
 . cases e
def mK(d:D):ME:=fun _ st=>some (d,st)
def zad{i j pos}:SE X (.Constant (.int i) j pos) (mK<|.int i):=PE.imp zqO <| by
 rintro σ H Q ⟨ρ,st,io,d,st',E,S,e,k⟩
 cases e;exact k.now S rfl
def zmb{b j pos}:SE X (.Constant (.bool b) j pos) (mK<|.bl b):=PE.imp zsH <| by
 rintro σ H Q ⟨ρ,st,io,d,st',E,S,e,k⟩
 cases e;exact k.now S rfl
def zcT{x j pos}:SE X (.Constant (.str x) j pos) (mK<|.str x):=PE.imp zoD <| by
 rintro σ H Q ⟨ρ,st,io,d,st',E,S,e,k⟩
 cases e;exact k.now S rfl
def zh2{j pos}:SE X (.Constant .none j pos) (mK .non):=PE.imp zqM <| by
 rintro σ H Q ⟨ρ,st,io,d,st',E,S,e,k⟩
 cases e;exact k.now S rfl
noncomputable abbrev G2:=D->D->Sto->Option (D×Sto)
inductive r2M (K:Ab) (g:G2) (x y:V) (H:Hp) (Q:VK):Prop
 | mk (dx dy:D) (st:Sto) (io:List Addr) (d:D) (st':Sto) (h0:Rep K H io x dx) (h1:Rep K H io y dy) (h2:StR K H io st) (h3:g dx dy st=some (d,st')) (h4:Bh K io H st' d Q)
def OpM(X:Cx)(f:Value->Value->Sem Value)(g:G2):Prop:=OpR X f<|r2M X.K g
def mB(g:G2)(ma mb:ME):ME:=fun ρ st=>(ma ρ st).bind fun (x,s1)=>(mb ρ s1).bind fun (y,s2)=>g x y s2
def zdI{g:G2}(h:tE K (mB g ma mb) σ H Q):tOp (r2M K g) (tE K ma) (tE K mb) σ H Q:=by obtain⟨ρ,st,io,d,st',E,S,e,k⟩:=h;obtain⟨⟨x,s1⟩,e1,e⟩:=zaf e;obtain⟨⟨y,s2⟩,e2,e3⟩:=zaf e;refine⟨ρ,st,io,x,s1,E,S,e1,fun v1 H1 k1 X1 S1 R1=>?_⟩;refine⟨ρ,s1,io++k1,y,s2,E.ext S X1,S1,e2,fun v2 H2 k2 X2 S2 R2=>?_⟩;exact⟨x,y,s2,(io++k1)++k2,d,st',R1.ext S1 X2,R2,S2,e3,(k.on S1 X1).on S2 X2⟩
def zam{op:Operator}{g:G2}(ho:OpM X (binaryOp op) g)(ha:SE X a ma)(hb:SE X b mb):SE X (.BinOp a op b pos) (mB g ma mb):=PE.imp (zsE ho ha hb) fun _ _ _ h=>zdI h
def zjU{g:G2}(ho:OpM X (compareOp op) g)(ha:SE X a ma)(hb:SE X b mb)(hm:behindInMarks op b=false):SE X (.Compare a [op] [b] pos) (mB g ma mb):=PE.imp (zoH ho ha hb hm) fun _ _ _ h=>zdI h
def mT(m:ME):MT:=fun ρ st=>(m ρ st).bind fun (x,s1)=>match x with
 | .bl b=>some (b,s1)
 | _=>none
def zhK{b:Bool}(e:mT m ρ st=some (b,st')):m ρ st=some (.bl b,st'):=by
 obtain⟨⟨x,s1⟩,e1,e⟩:=zaf e;dsimp only at e
 split at e
 . cases e;exact e1
 . cases e
def zcS{Q:Bool->Hp->Prop}(h:tT K (mT m) σ H Q):tE K m σ H fun x H'=>∃ b,x=.bl b/\Q b H':=by obtain⟨ρ,st,io,b,st',E,S,e,k⟩:=h;exact⟨ρ,st,io,_,st',E,S,zhK e,fun v H' ka X' S' R'=>⟨b,R',k H' ka X' S'⟩⟩
def zbK{g:G2}(ho:OpM X (compareOp op) g)(ha:SE X a ma)(hb:SE X b mb)(hm:behindInMarks op b=false):SB X (.Compare a [op] [b] pos) (mT<|mB g ma mb) :=
 PT.imp (zoq ho ha hb hm) fun σ H Q h=>zdI (zcS h)
def zme(h:SE X a m)(he:∀ whole,isTrue a X.env whole=(do let v <-whole;standAt a.pos;holding [v] (truthy v)):=by intro _;rfl):SB X a (mT m) :=
 PT.imp (zmn h he) fun σ H Q h=>by obtain⟨ρ,st,io,b,st',E,S,e,k⟩:=zcS h;refine⟨ρ,st,io,b,st',E,S,e,fun v H' ka X' S' R'=>?_⟩;obtain⟨c,hc,q⟩:=k v H' ka X' S' R';subst hc;exact⟨c,rfl,q⟩
def zfv(m:MT):MT:=fun ρ st=>(m ρ st).map fun (b,s)=>(!b,s)
def zfk(h:SB X a mt):SB X (.UnaryOp .Not a pos) (zfv mt):=PT.imp (zqA h) <| by
 rintro σ H Q ⟨ρ,st,io,b,st',E,S,e,k⟩;unfold zfv at e
 cases e1:mt ρ st with
 | none=>rw[e1] at e;cases e
 | some p=>rw[e1] at e;cases e;exact⟨ρ,st,io,_,_,E,S,e1,fun H' ka X' S'=>k H' ka X' S'⟩
def zjw(m n:MT):MT:=fun ρ st=>(m ρ st).bind fun (b,s)=>if b=true then n ρ s else some (false,s)
def mOrT(m n:MT):MT:=fun ρ st=>(m ρ st).bind fun (b,s)=>if b=true then some (true,s) else n ρ s
def SW(X:Cx)(e:Expr)(m:MT):Prop:=PW X e<|tT X.K m
def PW.imp(h:PW X e t)(k:∀ σ H Q,u σ H Q->t σ H Q):PW X e u:=fun w pins s σ H Q I q=>h w pins s σ H Q I<|k σ H Q q
def SW.sb(h:SW X a mt):SB X a mt:=PW.pt h
def zgs(ha:SB X a mt):SW X (.BoolOp .And [a] pos) mt:=pw_and1 ha
def zjH(ha:SB X a mt):SW X (.BoolOp .Or [a] pos) mt:=pw_or1 ha
def zit{n:MT}{Q:Bool->Hp->Prop}{b:Bool}(E:EnvR K H io σ ρ)(S:StR K H io st)(X1:Ext io ka H H1)(S1:StR K H1 (io++ka) s1)(e:n ρ s1=some (b,st'))(k:∀ H' ka,Ext io ka H H'->StR K H' (io++ka) st'->Q b H'):tT K n σ H1 Q :=
 ⟨ρ,s1,io++ka,b,st',E.ext S X1,S1,e,fun H' kb X' S'=>k H' (ka++kb) (X1.trans S1 X') (by rw[<-Ak];exact S')⟩
def zhc{rs:List Expr}(ha:SB X a mt)(hb:SW X (.BoolOp .And (b::rs) pos) mu):SW X (.BoolOp .And (a::b::rs) pos) (zjw mt mu):=PW.imp (pw_and ha hb) <| by
 rintro σ H Q ⟨ρ,st,io,v,st',E,S,e,k⟩;obtain⟨⟨x,s1⟩,e1,e⟩:=zaf e;refine⟨ρ,st,io,x,s1,E,S,e1,fun H1 k1 X1 S1=>?_⟩
 cases x with
 | true=>rw[if_pos rfl];exact zit E S X1 S1 e k
 | false =>
   rw[if_neg (by decide)];have e':some (false,s1)=some (v,st'):=e;cases e';exact k H1 k1 X1 S1
def znE{rs:List Expr}(ha:SB X a mt)(hb:SW X (.BoolOp .Or (b::rs) pos) mu):SW X (.BoolOp .Or (a::b::rs) pos) (mOrT mt mu):=PW.imp (pw_or ha hb) <| by
 rintro σ H Q ⟨ρ,st,io,v,st',E,S,e,k⟩;obtain⟨⟨x,s1⟩,e1,e⟩:=zaf e;refine⟨ρ,st,io,x,s1,E,S,e1,fun H1 k1 X1 S1=>?_⟩
 cases x with
 | false=>rw[if_neg (by decide)];exact zit E S X1 S1 e k
 | true =>
   rw[if_pos rfl];have e':some (true,s1)=some (v,st'):=e;cases e';exact k H1 k1 X1 S1
def zkq(m n:ME):ME:=fun ρ st=>(mT m ρ st).bind fun (b,s)=>if b=true then n ρ s else some (.bl false,s)
def mOrV(m n:ME):ME:=fun ρ st=>(mT m ρ st).bind fun (b,s)=>if b=true then some (.bl true,s) else n ρ s
def zpP(m:ME):ME:=fun ρ st=>(mT m ρ st).map fun (b,s)=>(.bl !b,s)
def zkg{n:ME}(E:EnvR K H io σ ρ)(S:StR K H io st)(X1:Ext io ka H H1)(S1:StR K H1 (io++ka) s1)(e:n ρ s1=some (d,st'))(k:Bh K io H st' d Q):tE K n σ H1 Q :=
 ⟨ρ,s1,io++ka,d,st',E.ext S X1,S1,e,k.on S1 X1⟩
def zgx(ha:SE X a ma):SE X (.BoolOp .And [a] pos) ma:=zoF ha
def zqo(ha:SE X a ma):SE X (.BoolOp .Or [a] pos) ma:=zoF ha
def zf0{rs:List Expr}(ha:SE X a ma)(hb:SE X (.BoolOp .And (b::rs) pos) mb):SE X (.BoolOp .And (a::b::rs) pos) (zkq ma mb):=PE.imp (zqQ ha hb) <| by
 rintro σ H Q ⟨ρ,st,io,v,st',E,S,e,k⟩;obtain⟨⟨x,s1⟩,e1,e⟩:=zaf e;refine⟨ρ,st,io,.bl x,s1,E,S,zhK e1,fun v1 H1 k1 X1 S1 R1=>⟨x,R1,?_⟩⟩
 cases x with
 | true=>rw[if_pos rfl];exact zkg E S X1 S1 e k
 | false =>
   rw[if_neg (by decide)];have e':some (D.bl false,s1)=some (v,st'):=e;cases e';exact k _ H1 k1 X1 S1 rfl
def zsu{rs:List Expr}(ha:SE X a ma)(hb:SE X (.BoolOp .Or (b::rs) pos) mb):SE X (.BoolOp .Or (a::b::rs) pos) (mOrV ma mb):=PE.imp (zsD ha hb) <| by
 rintro σ H Q ⟨ρ,st,io,v,st',E,S,e,k⟩;obtain⟨⟨x,s1⟩,e1,e⟩:=zaf e;refine⟨ρ,st,io,.bl x,s1,E,S,zhK e1,fun v1 H1 k1 X1 S1 R1=>⟨x,R1,?_⟩⟩
 cases x with
 | false=>rw[if_neg (by decide)];exact zkg E S X1 S1 e k
 | true =>
   rw[if_pos rfl];have e':some (D.bl true,s1)=some (v,st'):=e;cases e';exact k _ H1 k1 X1 S1 rfl
def zqp(ha:SE X a ma):SE X (.UnaryOp .Not a pos) (zpP ma):=PE.imp (zqL ha) <| by
 rintro σ H Q ⟨ρ,st,io,v,st',E,S,e,k⟩;unfold zpP at e
 cases e1:mT ma ρ st with
 | none=>rw[e1] at e;cases e
 | some p =>
   rw[e1] at e;cases e;exact⟨ρ,st,io,_,_,E,S,zhK e1,fun v1 H1 k1 X1 S1 R1=>⟨_,R1,k _ H1 k1 X1 S1 rfl⟩⟩
def mIte(c:MT)(m n:ME):ME:=fun ρ st=>(c ρ st).bind fun (b,s)=>if b=true then m ρ s else n ρ s
def zoi(hc:SB X c mt)(ha:SE X a ma)(hb:SE X b mb):SE X (.IfExp c a b pos) (mIte mt ma mb):=PE.imp (zmx hc ha hb) <| by
 rintro σ H Q ⟨ρ,st,io,v,st',E,S,e,k⟩;obtain⟨⟨x,s1⟩,e1,e⟩:=zaf e;refine⟨ρ,st,io,x,s1,E,S,e1,fun H1 k1 X1 S1=>?_⟩
 cases x with
 | true=>rw[if_pos rfl];exact zkg E S X1 S1 e k
 | false=>rw[if_neg (by decide)];exact zkg E S X1 S1 e k
end
end L2.MP
set_option linter.unusedVariables false
namespace L2.MP
open PySem PySem.Spec PyProof.Rows
variable {X:Cx}{e a b c o tg iter:Expr}{es:List Expr}{st1 st2:Stmt}{rest body orelse:List Stmt}{pos pos':Pos}{m ma mb mc:ME}{mt mu:MT}{mm:MA}{ms mq mr:MS}{mg:MG}{mgs:MGs}{K:Ab}{H H1 H2:Hp}{io ka kb:List Addr}{st st' s1:Sto}{α:Type}{x:Str}{ds:List D}{vs:List V}{Q:VK}{p:Addr}{σ:L2.St}{T:String}{k n i:Nat}{f:Fl}{fd:FuncData}{ρ:Rho}{N:Ends}
def mZ:MA:=fun _ st=>some ([],st)
def zac(m:ME)(mm:MA):MA:=fun ρ st=>(m ρ st).bind fun (x,s1)=>(mm ρ s1).bind fun (xs,s2)=>some (x::xs,s2)
def zag:SA X [] mZ:=PA.imp zmB <| by
 rintro σ H Q ⟨ρ,st,io,ds,st',E,S,e,k⟩
 cases e;exact k [] H [] Ext.refl S.nil Reps.nil
def zaa(ha:SE X e m)(hr:SA X es mm)(hs:starEach (e::es) X.env=(false,eval e X.env)::starEach es X.env:=by rfl):SA X (e::es) (zac m mm):=PA.imp (zfm ha hr hs) <| by rintro σ H Q ⟨ρ,st,io,ds,st',E,S,e,k⟩;obtain⟨⟨x,s1⟩,e1,e⟩:=zaf e;obtain⟨⟨xs,s2⟩,e2,e⟩:=zaf e;cases e;refine⟨ρ,st,io,x,s1,E,S,e1,fun v1 H1 k1 X1 S1 R1=>⟨ρ,s1,io++k1,xs,_,E.ext S X1,S1,e2,fun vs H2 k2 X2 S2 R2=>?_⟩⟩;exact k _ H2 (k1++k2) (X1.trans S1 X2) (by rw[<-Ak];exact S2) (by rw[<-Ak];exact Reps.cons (R1.ext S1 X2) R2)
def fits(n:Nat):Bool:=decide (n<=sizeLine)
def mU(mm:MA):ME:=fun ρ st=>(mm ρ st).bind fun (xs,s)=>if fits xs.length=true then some (.tup xs,s) else none
def mL(mm:MA):ME:=fun ρ st=>(mm ρ st).bind fun (xs,s)=>if fits xs.length=true then some (.ref s.length,s++[.lst xs]) else none
def zat{c:Prop}[Decidable c]{x:Option α}{y:α}(h:(if c then x else none)=some y):c/\x=some y:=by
 by_cases hc:c
 . rw[if_pos hc] at h;exact⟨hc,h⟩
 rw[if_neg hc] at h;cases h
def Bh.tup{ds:List D}{vs:List V}{Q:VK}{p:Addr}(k:Bh K io H st (.tup ds) Q)(S:StR K H io st)(R:Reps K H io vs ds)(hp:H p=none):Q (.ref p) (upd H p<|.tup vs):=by obtain⟨E,S'⟩:=zgJ (o:=.tup vs) S hp;refine k _ _ [] E S' ⟨p,vs,rfl,zaC,R.ext S E⟩
def getElem?_len(l:List α)(x:α):(l++[x])[l.length]?=some x:=by rw[AS (Ah _),Dh];rfl
def Bh.lst{ds:List D}{vs:List V}{Q:VK}{p:Addr}(k:Bh K io H (st++[.lst ds]) (.ref st.length) Q)(S:StR K H io st)(R:Reps K H io vs ds)(hp:H p=none):Q (.ref p) (upd H p<|.lst vs):=by
 obtain⟨E,S'⟩:=ziy (o:=.lst vs) (ob:=.lst ds) S hp fun H' T e=>⟨vs,e,Reps.mono T R⟩
 exact k _ _ [p] E S' ⟨p,rfl,by rw[<-S.len];exact getElem?_len io p⟩
def zaA{x1}(h:SA X es mm):SE X (.Tuple es x1 pos) (mU mm):=PE.imp (zqK h) <| by rintro σ H Q ⟨ρ,st,io,d,st',E,S,e,k⟩;obtain⟨⟨xs,s1⟩,e1,e⟩:=zaf e;obtain⟨hf,e⟩:=zat e;cases e;refine⟨ρ,st,io,xs,_,E,S,e1,fun vs H1 k1 X1 S1 R1=>⟨by rw[R1.length];exact of_decide_eq_true hf,fun p hp=>(k.on S1 X1).tup S1 R1 hp⟩⟩
def zbT(h:SA X es mm):SE X (.List es pos) (mL mm):=PE.imp (zqN h) <| by rintro σ H Q ⟨ρ,st,io,d,st',E,S,e,k⟩;obtain⟨⟨xs,s1⟩,e1,e⟩:=zaf e;obtain⟨hf,e⟩:=zat e;cases e;refine⟨ρ,st,io,xs,_,E,S,e1,fun vs H1 k1 X1 S1 R1=>⟨by rw[R1.length];exact of_decide_eq_true hf,fun p hp=>(k.on S1 X1).lst S1 R1 hp⟩⟩
noncomputable abbrev GN:=List D->Sto->Option (D×Sto)
inductive rNM (K:Ab) (g:GN) (xs:List V) (H:Hp) (Q:VK):Prop
 | mk (ds:List D) (st:Sto) (io:List Addr) (d:D) (st':Sto) (h1:Reps K H io xs ds) (h2:StR K H io st) (h3:g ds st=some (d,st')) (h4:Bh K io H st' d Q)
def zdF(X:Cx)(f:Value)(g:GN):Prop:=zjy X f<|rNM X.K g
def zas(g:GN)(mm:MA):ME:=fun ρ st=>(mm ρ st).bind fun (xs,s)=>g xs s
def zfG{g:GN}(h:tE K (zas g mm) σ H Q):tCB (rNM K g) (tA K mm) σ H Q:=by obtain⟨ρ,st,io,d,st',E,S,e,k⟩:=h;obtain⟨⟨xs,s1⟩,e1,e⟩:=zaf e;exact⟨ρ,st,io,xs,s1,E,S,e1,fun vs H1 k1 X1 S1 R1=>⟨xs,s1,io++k1,d,st',R1,S1,e,k.on S1 X1⟩⟩
def zh6{p:Pos}{id:String}{g:GN}(hc:zdF X (.builtin id) g)(hg:Gl X x)(hm:X.mg x=none)(hv:bootBuiltins x=some (.builtin id))(ha:SA X (e::es) mm)(hn:x≠"__name__":=by decide)(hdb:(x==("__debug__":Str))=false:=by decide)
   (he:starEach (e::es) X.env=(false,eval e X.env)::starEach es X.env:=by rfl) (hpl:(backTo pos<|starEach es X.env).any (·.1)=false:=by rfl):SE X (.Call (.Name x p) (e::es) [] pos) (zas g mm) :=
 PE.imp (zf2 hc hg hm hv ha hn hdb he hpl) fun _ _ _ h=>zfG h
def zjV{p:Pos}{g:GN}(hc:zdF X (.type T) g)(hg:Gl X x)(hm:X.mg x=none)(hv:bootBuiltins x=some (.type T))(ha:SA X (e::es) mm)(hn:x≠"__name__":=by decide)(hdb:(x==("__debug__":Str))=false:=by decide)
   (he:starEach (e::es) X.env=(false,eval e X.env)::starEach es X.env:=by rfl) (hpl:(backTo pos<|starEach es X.env).any (·.1)=false:=by rfl):SE X (.Call (.Name x p) (e::es) [] pos) (zas g mm) :=
 PE.imp (zj8 hc hg hm hv ha hn hdb he hpl) fun _ _ _ h=>zfG h
def spM(K:Ab)(n:Nat)(g:GN):Sp:=fun vs H Q _=>∃ ds st io d st',vs.length=n/\Reps K H io vs ds/\StR K H io st/\g ds st=some (d,st')/\Bh K io H st' d Q
def zol{p:Pos}{f:Addr}{ps:List Str}{g:GN}(F:FnOk X.prog X.w X.K X.mg X.base CX0 k f fd ps (spM X.K n g))(hr:Room k X.A)(hg:Gl X x)(hm:X.mg x=some (.ref f))(hk:Bz X.K (.ref f)=true)(hb:Binds X.K fd ps [])
   (ha:SA X (e::es) mm) (hdb:(x==("__debug__":Str))=false:=by decide) (he:starEach (e::es) X.env=(false,eval e X.env)::starEach es X.env:=by rfl) (hpl:(backTo pos<|starEach es X.env).any (·.1)=false:=by rfl) (hn:(e::es).length=n:=by rfl)
   (hl:∀ ρ st xs s,mm ρ st=some (xs,s)->xs.length=n) :
   SE X (.Call (.Name x p) (e::es) [] pos) (zas g mm):=PE.imp (zoI F hr hg hm hk hb .nil zsI ha hdb he hpl) <| by
 rintro σ H Q ⟨ρ,st,io,d,st',E,S,e,k⟩;obtain⟨⟨xs,s1⟩,e1,e⟩:=zaf e;refine⟨ρ,st,io,xs,s1,E,S,e1,fun vs H1 k1 X1 S1 R1=>⟨xs,s1,io++k1,d,st',?_,?_,S1,e,k.on S1 X1⟩⟩
 . rw[Al,R1.length];exact hl _ _ _ _ e1
 rw[Al];exact R1
def zmS{xs:List D}{s:Sto}(h:mZ ρ st=some (xs,s)):xs.length=0:=by cases h;rfl
def zkp{ρ:Rho}{st:Sto}{xs:List D}{s:Sto}(hr:∀ ρ st xs s,mm ρ st=some (xs,s)->xs.length=n)(h:zac m mm ρ st=some (xs,s)):xs.length=n+1:=by obtain⟨⟨x,s1⟩,e1,e⟩:=zaf h;obtain⟨⟨ys,s2⟩,e2,e⟩:=zaf e;cases e;rw[Az,hr _ _ _ _ e2]
def Wn(K:Ab)(io:List Addr)(H:Hp)(st':Sto)(N:Ends):Fl->Prop
 | .nx ρ'=>∀ σ' H' ka,Ext io ka H H'->StR K H' (io++ka) st'->EnvR K H' (io++ka) σ' ρ'->N.nx σ' H'
 | .bk ρ'=>∀ σ' H' ka,Ext io ka H H'->StR K H' (io++ka) st'->EnvR K H' (io++ka) σ' ρ'->N.bk σ' H'
 | .ct ρ'=>∀ σ' H' ka,Ext io ka H H'->StR K H' (io++ka) st'->EnvR K H' (io++ka) σ' ρ'->N.ct σ' H'
 | .rt d=>Bh K io H st' d N.rt
inductive tSi (K:Ab) (m:MS) (N:Ends) (σ:L2.St) (H:Hp):Prop
 | mk (ρ:Rho) (st:Sto) (io:List Addr) (f:Fl) (st':Sto) (h1:EnvR K H io σ ρ) (h2:StR K H io st) (h3:m ρ st=some (f,st')) (h4:Wn K io H st' N f)
def zcH:tS K ms N σ H ↔ tSi K ms N σ H:=by
 constructor
 . rintro ⟨ρ,st,io,f,st',E,S,e,k⟩;exact⟨ρ,st,io,f,st',E,S,e,by cases f <;> exact k⟩
 rintro ⟨ρ,st,io,f,st',E,S,e,k⟩;exact⟨ρ,st,io,f,st',E,S,e,by cases f <;> exact k⟩
def zfo{P:L2.St->Hp->Prop}{ρ':Rho}(h:∀ σ' H' ka,Ext io ka H H'->StR K H' (io++ka) st'->EnvR K H' (io++ka) σ' ρ'->P σ' H')(X1:Ext io ka H H1)(S1:StR K H1 (io++ka) st) :
   ∀ σ' H' kb,Ext (io++ka) kb H1 H'->StR K H' ((io++ka)++kb) st'->EnvR K H' ((io++ka)++kb) σ' ρ'->P σ' H':=fun σ' H' kb E' S' R' =>
 h σ' H' (ka++kb) (X1.trans S1 E') (by rw[<-Ak];exact S') (by rw[<-Ak];exact R')
def Wn.on{N:Ends}{f:Fl}(h:Wn K io H st' N f)(X1:Ext io ka H H1)(S1:StR K H1 (io++ka) st):Wn K (io++ka) H1 st' N f:=by
 cases f with
 | nx ρ'=>exact zfo h X1 S1
 | bk ρ'=>exact zfo h X1 S1
 | ct ρ'=>exact zfo h X1 S1
 | rt d=>exact Bh.on h S1 X1
def zju(E:EnvR K H io σ ρ)(S:StR K H io st)(e:ms ρ st=some (f,st'))(w:Wn K io H st' N f):tS K ms N σ H:=zcH.mpr ⟨ρ,st,io,f,st',E,S,e,w⟩
def zpX(X1:Ext io ka H H1)(S1:StR K H1 (io++ka) s1)(E:EnvR K H1 (io++ka) σ ρ)(e:ms ρ s1=some (f,st'))(w:Wn K io H st' N f):tS K ms N σ H1 :=
 zju E S1 e (w.on X1 S1)
def zdr:MS:=fun ρ st=>some (.nx ρ,st)
def zk2:SSs X [] zdr:=PSs.imp zos fun N σ H h=>by obtain⟨ρ,st,io,f,st',E,S,e,w⟩:=zcH.mp h;cases e;exact w σ H [] Ext.refl S.nil (by rw[Al];exact E)
def mS(m n:MS):MS:=fun ρ st=>(m ρ st).bind fun (f,s)=>match f with
 | .nx ρ1=>n ρ1 s
 | f=>some (f,s)
def zlX(h1:SS X st1 ms)(h2:SSs X rest mq):SSs X (st1::rest) (mS ms mq):=PSs.imp (zil h1 h2) fun N σ H h=>by
 obtain⟨ρ,st,io,f,st',E,S,e,w⟩:=zcH.mp h;obtain⟨⟨f1,s1⟩,e1,e⟩:=zaf e;refine zju E S e1 ?_
 cases f1 with
 | nx ρ1=>exact fun σ' H' ka X' S' R'=>zpX X' S' R' e w
 | bk ρ1=>cases e;exact w
 | ct ρ1=>cases e;exact w
 | rt d=>cases e;exact w
def zn1(h1:SS X st1 ms):SSs X [st1] ms:=zik h1
def mExp(m:ME):MS:=fun ρ st=>(m ρ st).map fun (_,s)=>(.nx ρ,s)
def mR(m:ME):MS:=fun ρ st=>(m ρ st).map fun (d,s)=>(.rt d,s)
def zai{β:Type}{x:Option α}{f:α->β}{y:β}(h:x.map f=some y):∃ z,x=some z/\f z=y:=by
 cases x with
 | none=>cases h
 | some z=>exact⟨z,rfl,Aq h⟩
def zdl(he:SE X e m)(hs:swapsWith e none pos.line X.env=pure false:=by rfl):SS X (.Expr e pos) (mExp m):=PS.imp (zov he hs) fun N σ H h=>by obtain⟨ρ,st,io,f,st',E,S,e,w⟩:=zcH.mp h;obtain⟨⟨d,s1⟩,e1,e⟩:=zai e;cases e;exact⟨ρ,st,io,d,_,E,S,e1,fun v H' ka X' S' R'=>w σ H' ka X' S' (E.ext S X')⟩
def zaP(he:SE X e m):SS X (.Return (some e) pos) (mR m):=PS.imp (zqC he) fun N σ H h=>by obtain⟨ρ,st,io,f,st',E,S,e,w⟩:=zcH.mp h;obtain⟨⟨d,s1⟩,e1,e⟩:=zai e;cases e;exact⟨ρ,st,io,d,_,E,S,e1,w⟩
def mIf(c:MT)(m n:MS):MS:=fun ρ st=>(c ρ st).bind fun (b,s)=>if b=true then m ρ s else n ρ s
def zsq(hc:SB X c mt)(h1:SSs X body ms)(h2:SSs X orelse mq):SS X (.If c body orelse pos) (mIf mt ms mq):=PS.imp (zrT hc h1 h2) fun N σ H h=>by
 obtain⟨ρ,st,io,f,st',E,S,e,w⟩:=zcH.mp h;obtain⟨⟨x,s1⟩,e1,e⟩:=zaf e;refine⟨ρ,st,io,x,s1,E,S,e1,fun H1 k1 X1 S1=>?_⟩
 cases x with
 | true=>rw[if_pos rfl];exact zpX X1 S1 (E.ext S X1) e w
 | false=>rw[if_neg (by decide)];exact zpX X1 S1 (E.ext S X1) e w
def gNm(i:Nat):MG:=fun d ρ st=>some (ρ.set i (some d),st)
def zoe(hN:X.N.Nodup)(hi:X.N[i]?=some x)(hx:Loc X.env.scope x)(hf:X.fn x=true\/X.env.scope.names.lookup x=some .local:=by first | exact .inl rfl | exact .inr rfl | assumption):SG X (.Name x pos) (gNm i) :=
 PG.imp (zoB hN hi hx hf) <| by rintro v σ H Q ⟨d,ρ,st,io,ρ',st',R,E,S,e,k⟩;cases e;exact k _ H [] Ext.refl S.nil (by rw[Al];exact E.set i R)
def gN0:MGs:=fun ds ρ st=>match ds with
 | []=>some (ρ,st)
 | _=>none
def gC(g:MG)(h:MGs):MGs:=fun ds ρ st=>match ds with
 | d::r=>(g d ρ st).bind fun (ρ1,s1)=>h r ρ1 s1
 | []=>none
def zbX:SGs X [] gN0:=PGs.imp zoA <| by
 rintro v σ H Q ⟨ds,ρ,st,io,ρ',st',R,E,S,e,k⟩
 cases ds with
 | nil=>cases e;exact⟨R,k σ H [] Ext.refl S.nil (by rw[Al];exact E)⟩
 | cons d r=>cases e
def zaw(h1:SG X e mg)(h2:SGs X es mgs)(hs:(assignEach (e::es) X.env).map (·.2)=assign e X.env::(assignEach es X.env).map (·.2):=by rfl):SGs X (e::es) (gC mg mgs) :=
 PGs.imp (zmw h1 h2 hs) <| by
   rintro v σ H Q ⟨ds,ρ,st,io,ρ',st',R,E,S,e,k⟩
   cases ds with
   | nil=>cases e
   | cons d r =>
     obtain⟨y,ys,rfl,r1,rs⟩:=R;obtain⟨⟨ρ1,s1⟩,e1,e⟩:=zaf e;refine⟨y,ys,rfl,d,ρ,st,io,ρ1,s1,r1,E,S,e1,fun σ1 H1 k1 X1 S1 E1=>?_⟩;exact⟨r,ρ1,s1,io++k1,ρ',st',rs.ext S X1,E1,S1,e,zfo k X1 S1⟩
def gTp(n:Nat)(h:MGs):MG:=fun d ρ st=>match d with
 | .tup ds=>if ds.length=n then h ds ρ st else none
 | _=>none
def zc8(hc:X.calm=true)(h:SGs X es mgs)(hn:(assignEach es X.env).length=n:=by rfl)(hst:(assignEach es X.env).findIdx? (·.1)=none:=by rfl):SG X (.Tuple es k pos) (gTp n mgs) :=
 PG.imp (zqI hc h hn hst) <| by
   rintro v σ H Q ⟨d,ρ,st,io,ρ',st',R,E,S,e,k⟩
   cases d with
   | tup ds =>
     obtain⟨a,xs,rfl,hq,rs⟩:=R;obtain⟨hl,e⟩:=zat e;exact⟨a,xs,rfl,SqT.of hq,by rw[rs.length];exact hl,ds,ρ,st,io,ρ',st',rs,E,S,e,k⟩
   | _=>cases e
noncomputable abbrev G3:=D->D->D->Sto->Option Sto
inductive tSetM (K:Ab) (g:G3) (o i v:V) (H:Hp) (Q:Hp->Prop):Prop
 | mk (d1 d2 d3:D) (st:Sto) (io:List Addr) (st':Sto) (h0:Rep K H io o d1) (h1:Rep K H io i d2) (h2:Rep K H io v d3) (h3:StR K H io st) (h4:g d1 d2 d3 st=some st') (h5:∀ H' ka,Ext io ka H H'->StR K H' (io++ka) st'->Q H')
def SetM(X:Cx)(g:G3):Prop:=PSet X<|tSetM X.K g
def gSb(g:G3)(mo mi:ME):MG:=fun d ρ st=>(mo ρ st).bind fun (o,s1)=>(mi ρ s1).bind fun (i,s2)=>(g o i d s2).map fun s3=>(ρ,s3)
def zqm{i:Expr}{mo mi:ME}{g:G3}(ho:SE X o mo)(hi:SE X i mi)(hs:SetM X g)
   (ha:∀ v,assign (.Subscript o i pos) X.env v=(do
     let ov <-holding [v] (eval o X.env)
     let iv <-holding [v,ov] (eval i X.env)
     standAt pos
     holding [v,ov,iv] (setItem ov iv v)
     release [v,ov,iv] []):=by intro _;rfl):SG X (.Subscript o i pos) (gSb g mo mi) :=
 PG.imp (zqJ ho hi hs ha) <| by rintro v σ H Q ⟨d,ρ,st,io,ρ',st',R,E,S,e,k⟩;obtain⟨⟨x,s1⟩,e1,e⟩:=zaf e;obtain⟨⟨y,s2⟩,e2,e⟩:=zaf e;obtain⟨s3,e3,e⟩:=zai e;cases e;refine⟨ρ,st,io,x,s1,E,S,e1,fun v1 H1 k1 X1 S1 R1=>⟨ρ,s1,io++k1,y,s2,E.ext S X1,S1,e2,fun v2 H2 k2 X2 S2 R2=>?_⟩⟩;have X12:=X1.trans S1 X2;refine⟨x,y,d,s2,(io++k1)++k2,_,R1.ext S1 X2,R2,(R.ext S X1).ext S1 X2,S2,e3,fun H3 k3 X3 S3=>?_⟩;rw[Ak] at X3 S2;rw[Ak,Ak] at S3;refine k σ H3 ((k1++k2)++k3) (X12.trans S2 X3) (by simpa using S3) ?_;have E2:EnvR X.K H2 (io++(k1++k2)) σ ρ:=E.ext S X12;have:=E2.ext S2 X3;simpa using this
def mAsg(m:ME)(g:MG):MS:=fun ρ st=>(m ρ st).bind fun (d,s1)=>(g d ρ s1).map fun (ρ',s2)=>(.nx ρ',s2)
def zkW(h:tS K (mAsg m mg) N σ H):tAsg (tE K m) (tG K mg) N σ H:=by obtain⟨ρ,st,io,f,st',E,S,e,w⟩:=zcH.mp h;obtain⟨⟨x,s1⟩,e1,e⟩:=zaf e;obtain⟨⟨ρ',s2⟩,e2,e⟩:=zai e;cases e;exact⟨ρ,st,io,x,s1,E,S,e1,fun v1 H1 k1 X1 S1 R1=>⟨x,ρ,s1,io++k1,ρ',_,R1,E.ext S X1,S1,e2,zfo w X1 S1⟩⟩
def zfY(he:SE X e m)(hg:SG X tg mg)(hs:swapsWithSole [tg] e pos.line X.env=pure false:=by rfl)(hw:swappedStores [tg] e X.env=pure none:=by rfl)
   (h1:(assignEach [tg] X.env).map (·.2)=[assign tg X.env]:=by rfl):SS X (.Assign [tg] e pos) (mAsg m mg):=PS.imp (zqF he hg hs hw h1) fun _ _ _ h=>zkW h
def zqc(hN:X.N.Nodup)(hi:X.N[i]?=some x)(hx:Loc X.env.scope x)(he:SE X e m)(hs:swapsWith e (some<|.Name x pos') pos.line X.env=pure false:=by rfl)(hf:X.fn x=true\/X.env.scope.names.lookup x=some .local:=by first | exact .inl rfl | exact .inr rfl | assumption) :
   SS X (.Assign [.Name x pos'] e pos) (mAsg m<|gNm i):=PS.imp (zqB hN hi hx he hs hf) fun N σ H h=>by
 obtain⟨ρ,st,io,f,st',E,S,e,w⟩:=zcH.mp h;obtain⟨⟨x,s1⟩,e1,e⟩:=zaf e;obtain⟨⟨ρ',s2⟩,e2,e⟩:=zai e;cases e;cases e2;exact⟨ρ,st,io,x,_,E,S,e1,fun v1 H1 k1 X1 S1 R1=>w _ H1 k1 X1 S1 ((E.ext S X1).set i R1)⟩
structure Wk where
 ds:List D
 g:List (Nat×List D)
def stays(W:Wk)(st:Sto):Prop:=∀ p,p∈W.g->st[p.1]?=some (.lst p.2)\/st[p.1]?=some (.fz p.2)
structure ItOk(K:Ab)(H0:Hp)(io:List Addr)(W:Wk)(J:It):Prop where
 go:∀ i d H ka st,W.ds[i]?=some d->Ext io ka H0 H->StR K H (io++ka) st->stays W st->J.go i H/\∀ x H',J.yld i H x H'->Ext (io++ka) [] H H'/\StR K H' (io++ka) st/\Rep K H' (io++ka) x d
 stop:∀ H ka st,Ext io ka H0 H->StR K H (io++ka) st->stays W st->J.stop W.ds.length H
 stop':∀ H ka st i,W.ds.length<=i->Ext io ka H0 H->StR K H (io++ka) st->stays W st->J.stop i H
noncomputable abbrev MI:=Rho->Sto->Option (Wk×Sto)
inductive tI (K:Ab) (m:MI) (σ:L2.St) (H:Hp) (R:It->Hp->Prop):Prop
 | mk (ρ:Rho) (st:Sto) (io:List Addr) (W:Wk) (st':Sto) (h1:EnvR K H io σ ρ) (h2:StR K H io st) (h3:m ρ st=some (W,st')) (h4:∀ J H' ka,Ext io ka H H'->StR K H' (io++ka) st'->ItOk K H' (io++ka) W J->R J H')
def SI(X:Cx)(tg iter:Expr)(m:MI):Prop:=PI X tg iter<|tI X.K m
def PI.imp{t u:TI}(h:PI X tg iter t)(k:∀ σ H R,u σ H R->t σ H R):PI X tg iter u:=fun pins s σ H R I q=>h pins s σ H R I<|k σ H R q
mutual
def D.eqb:D->D->Bool
 | .non,.non=>true
 | .bl a,.bl b=>a==b
 | .int a,.int b=>decide (a=b)
 | .str a,.str b=>decide (a=b)
 | .tup a,.tup b=>D.eqbs a b
 | .ref a,.ref b=>decide (a=b)
 | .kl a,.kl b=>D.eqbs a b
 | .fn a,.fn b=>decide (a=b)
 | .er a b c,.er a2 b2 c2=>decide (a=a2/\b=b2/\c=c2)
 | _,_=>false
def D.eqbs:List D->List D->Bool
 | [],[]=>true
 | a::as,b::bs=>D.eqb a b&&D.eqbs as bs
 | _,_=>false
end
mutual
theorem D.eqb_refl:∀ a:D,D.eqb a a=true
 | .non=>rfl
 | .bl a=>by simp[D.eqb]
 | .int a=>by simp[D.eqb]
 | .str a=>by simp[D.eqb]
 | .tup a=>by rw[D.eqb];exact D.eqbs_refl a
 | .ref a=>by simp[D.eqb]
 | .kl a=>by rw[D.eqb];exact D.eqbs_refl a
 | .fn a=>by simp[D.eqb]
 | .er a b c=>by simp[D.eqb]
theorem D.eqbs_refl:∀ a:List D,D.eqbs a a=true
 | []=>rfl
 | a::as=>by rw[D.eqbs,D.eqb_refl a,D.eqbs_refl as];rfl
end
mutual
theorem D.eq_of:∀ {a b:D},D.eqb a b=true->a=b
 | .non,b,h=>by cases b <;> simp[D.eqb] at h ⊢
 | .bl a,b,h=>by cases b <;> simp[D.eqb] at h ⊢;exact h
 | .int a,b,h=>by cases b <;> simp[D.eqb] at h ⊢;exact h
 | .str a,b,h=>by cases b <;> simp[D.eqb] at h ⊢;exact h
 | .tup a,.tup b,h=>by rw[D.eqb] at h;rw[D.eqs_of h]
 | .tup a,.non,h=>by simp[D.eqb] at h
 | .tup a,.bl _,h=>by simp[D.eqb] at h
 | .tup a,.int _,h=>by simp[D.eqb] at h
 | .tup a,.str _,h=>by simp[D.eqb] at h
 | .tup a,.ref _,h=>by simp[D.eqb] at h
 | .tup a,.kl _,h=>by simp[D.eqb] at h
 | .tup a,.fn _,h=>by simp[D.eqb] at h
 | .tup a,.er _ _ _,h=>by simp[D.eqb] at h
 | .kl a,.kl b,h=>by rw[D.eqb] at h;rw[D.eqs_of h]
 | .kl a,.non,h=>by simp[D.eqb] at h
 | .kl a,.bl _,h=>by simp[D.eqb] at h
 | .kl a,.int _,h=>by simp[D.eqb] at h
 | .kl a,.str _,h=>by simp[D.eqb] at h
 | .kl a,.ref _,h=>by simp[D.eqb] at h
 | .kl a,.tup _,h=>by simp[D.eqb] at h
 | .kl a,.fn _,h=>by simp[D.eqb] at h
 | .kl a,.er _ _ _,h=>by simp[D.eqb] at h
 | .fn a,b,h=>by cases b <;> simp[D.eqb] at h ⊢;exact h
 | .er a b c,d,h=>by cases d <;> simp[D.eqb] at h ⊢;exact h
 | .ref a,b,h=>by cases b <;> simp[D.eqb] at h ⊢;exact h
theorem D.eqs_of:∀ {a b:List D},D.eqbs a b=true->a=b
 | [],[],_=>rfl
 | [],_::_,h=>by simp[D.eqbs] at h
 | _::_,[],h=>by simp[D.eqbs] at h
 | a::as,b::bs,h=>by rw[D.eqbs,Am] at h;rw[D.eq_of h.1,D.eqs_of h.2]
end
noncomputable instance:DecidableEq D:=fun a b=>if h:D.eqb a b=true then .isTrue (D.eq_of h) else .isFalse fun e=>h (by rw[e];exact D.eqb_refl b)
def ziT(st:Sto)(n:Nat)(ds:List D):Bool:=match st[n]? with
 | some (.lst xs)=>D.eqbs xs ds
 | some (.fz xs)=>D.eqbs xs ds
 | _=>false
def zkA(h:ziT st n ds=true):st[n]?=some (.lst ds)\/st[n]?=some (.fz ds):=by
 unfold ziT at h
 split at h
 . rename_i xs e;rw[D.eqs_of h] at e;exact .inl e
 . rename_i xs e;rw[D.eqs_of h] at e;exact .inr e
 . cases h
def zfB(h:st[n]?=some (.lst ds)):ziT st n ds=true:=by unfold ziT;rw[h];exact D.eqbs_refl ds
variable {mi:MI}{W:Wk}
def walked(W:Wk)(st:Sto):Bool:=W.g.all fun p=>ziT st p.1 p.2
def zbM(h:walked W st=true):stays W st:=fun p hp=>zkA<|List.all_eq_true.mp h p hp
def zee(W:Wk)(g:MG)(m:MS):List D->Rho->Sto->Option (Fl×Sto)
 | [],ρ,st=>if walked W st=true then some (.nx ρ,st) else none
 | d::ds,ρ,st=>if walked W st=true then (g d ρ st).bind fun (ρ1,s1)=>(m ρ1 s1).bind fun (f,s2)=>match f with
   | .nx ρ2=>zee W g m ds ρ2 s2
   | .ct ρ2=>zee W g m ds ρ2 s2
   | .bk ρ2=>some (.nx ρ2,s2)
   | .rt d=>some (.rt d,s2) else none
def mF(mi:MI)(g:MG)(m:MS):MS:=fun ρ st=>(mi ρ st).bind fun (W,s)=>zee W g m W.ds ρ s
def zqd(hp:PassesOwn (model X.prog X.w) X.A X.env X.xe)(hc:X.calm=true)(hi:SI X tg iter mi)(hg:SG X tg mg)(hb:SSs X body ms)
   (hs:∀ x,foldedSetIterable iter X.env x=pure x:=by intro _;rfl):SS X (.For tg iter body [] pos) (mF mi mg ms):=PS.imp (zou hp hc hi hg hb hs) fun N σ H h=>by
 obtain⟨ρ,st,io,f,st',E,S,e,w⟩:=zcH.mp h;obtain⟨⟨W,s1⟩,e1,e⟩:=zaf e;refine⟨ρ,st,io,W,s1,E,S,e1,fun J H1 k1 X1 S1 IO=>?_⟩;refine⟨fun i n σ2 H2=>n=W.ds.length - i/\∃ ρ2 s2 k2,Ext (io++k1) k2 H1 H2/\StR X.K H2 ((io++k1)++k2) s2/\EnvR X.K H2 ((io++k1)++k2) σ2 ρ2/\zee W mg ms (W.ds.drop i) ρ2 s2=some (f,st'),
   ⟨_,rfl,ρ,s1,[],Ext.refl,by rw[Al];exact S1,by rw[Al];exact E.ext S X1,by rw[Ex];exact e⟩,?_⟩
 rintro i n σ2 H2 ⟨rfl,ρ2,s2,k2,X2,S2,E2,e2⟩;have w2:Wn X.K ((io++k1)++k2) H2 st' N f:=(w.on X1 S1).on X2 S2
 cases hd:W.ds[i]? with
 | none =>
   have hl:W.ds.length<=i:=List.getElem?_eq_none_iff.mp hd;rw[Cj hl] at e2;obtain⟨hw,e2⟩:=zat e2;cases e2;refine .inl ⟨?_,w2 σ2 H2 [] Ext.refl S2.nil (by rw[Al];exact E2)⟩
   -- the end may lie behind
   by_cases hi:i=W.ds.length
   . rw[hi];exact IO.stop H2 k2 _ X2 S2 (zbM hw)
   exact IO.stop' H2 k2 _ i hl X2 S2 (zbM hw)
 | some d =>
   have hl:i < W.ds.length:=(List.getElem?_eq_some_iff.mp hd).1;have hdr:W.ds.drop i=d::W.ds.drop (i+1):=by rw[CD hl,(List.getElem?_eq_some_iff.mp hd).2]
   rw[hdr] at e2;obtain⟨hw,e2⟩:=zat e2;obtain⟨⟨ρ3,s3⟩,e3,e2⟩:=zaf e2;obtain⟨⟨f4,s4⟩,e4,e2⟩:=zaf e2;obtain⟨go,yl⟩:=IO.go i d H2 k2 s2 hd X2 S2 (zbM hw);refine .inr ⟨go,fun σ5 H5=>∃ ρ5 s5 k5,Ext (io++k1) k5 H1 H5/\StR X.K H5 ((io++k1)++k5) s5/\EnvR X.K H5 ((io++k1)++k5) σ5 ρ5/\zee W mg ms (W.ds.drop (i+1)) ρ5 s5=some (f,st'),
     fun σ5 H5 h5=>⟨W.ds.length - (i+1),by omega,rfl,h5⟩,fun x H' y=>?_⟩
   obtain⟨X3,S3,R3⟩:=yl x H' y;have X23:Ext (io++k1) k2 H1 H':=(X2.trans S2 X3).app;refine⟨d,ρ2,s2,(io++k1)++k2,ρ3,s3,R3,?_,S3,e3,fun σ6 H6 k6 X6 S6 E6=>?_⟩
   . have:=E2.ext S2 X3;rw[Al] at this;exact this
   . refine zju E6 S6 e4 ?_;have X26:=X23.trans S3 X6;have S6':StR X.K H6 ((io++k1)++(k2++k6)) s3:=by rw[<-Ak];exact S6
     have fin:∀ {ρ7:Rho},zee W mg ms (W.ds.drop (i+1)) ρ7 s4=some (f,st')->∀ σ7 H7 k7,Ext ((io++k1)++k2++k6) k7 H6 H7->StR X.K H7 ((io++k1)++k2++k6++k7) s4->EnvR X.K H7 ((io++k1)++k2++k6++k7) σ7 ρ7 ->
         ∃ ρ5 s5 k5,Ext (io++k1) k5 H1 H7/\StR X.K H7 ((io++k1)++k5) s5/\EnvR X.K H7 ((io++k1)++k5) σ7 ρ5/\zee W mg ms (W.ds.drop (i+1)) ρ5 s5=some (f,st'):=by
       intro ρ7 e7 σ7 H7 k7 X7 S7 E7;rw[Ak (io++k1)] at X7;rw[Ak (io++k1),Ak (io++k1)] at S7 E7;exact⟨ρ7,s4,(k2++k6)++k7,X26.trans S6' X7,S7,E7,e7⟩
     cases f4 with
     | nx ρ7=>exact fin e2
     | ct ρ7=>exact fin e2
     | bk ρ7 =>
       cases e2;exact ((w.on X1 S1).on X23 S3).on X6 S6
     | rt dd =>
       cases e2;exact ((w.on X1 S1).on X23 S3).on X6 S6
variable {xs:List V}{l:Expr}{d:D}
def ze2{x:D}{xs:List D}{s s2:Sto}(h1:m ρ s=some (x,s1))(h2:mm ρ s1=some (xs,s2)):zac m mm ρ s=some (x::xs,s2):=by unfold zac;rw[h1];show GA (mm ρ s1) _=_;rw[h2];rfl
def zbs(st:Sto)(n:Nat):Option (List D):=match st[n]? with
 | some (.lst ds)=>some ds
 | some (.fz ds)=>some ds
 | _=>none
def za7(S:StR K H io st)(hn:io[n]?=some p)(h:zbs st n=some ds):∃ xs,SqL K H p xs/\Reps K H io xs ds:=by
 unfold zbs at h
 split at h
 . rename_i o he;cases h;obtain⟨xs,e,r⟩:=S.ob n p _ hn he;exact⟨xs,SqL.of e,r⟩
 . rename_i o he;cases h;obtain⟨ob,xs,e,r⟩:=S.ob n p _ hn he;exact⟨xs,.inl<|.inr ⟨ob,e⟩,r⟩
 . cases h
def zdf(hm:(n,ds)∈W.g)(h:stays W st):zbs st n=some ds:=by
 unfold zbs
 rcases h _ hm with h | h
 . have h:st[n]?=some (.lst ds):=h;rw[h]
 have h:st[n]?=some (.fz ds):=h;rw[h]
def mWL(m:ME):MI:=fun ρ st=>(m ρ st).bind fun (d,s)=>match d with
 | .ref n=>(zbs s n).map fun ds=>(⟨ds,[(n,ds)]⟩,s)
 | _=>none
def mWT(m:ME):MI:=fun ρ st=>(m ρ st).bind fun (d,s)=>match d with
 | .tup ds=>some (⟨ds,[]⟩,s)
 | _=>none
def zbo(h:io[n]?=some p):(io++ka)[n]?=some p:=by rw[Ao (List.getElem?_eq_some_iff.mp h).1];exact h
def zri(hn:io[n]?=some p):ItOk K H io ⟨ds,[(n,ds)]⟩ (Itl K p) where
 go:=fun i d H1 k1 s hd X1 S1 hs=>by obtain⟨xs,hx,r⟩:=za7 S1 (zbo hn)<|zdf An hs;obtain⟨v,hv,rv⟩:=r.get hd;refine⟨⟨xs,v,hx,hv⟩,fun x H' y=>?_⟩;obtain⟨rfl,y⟩:=y;have e:=y xs hx;rw[hv] at e;cases e;exact⟨Ext.refl,S1,rv⟩
 stop:=fun H1 k1 s X1 S1 hs=>by obtain⟨xs,hx,r⟩:=za7 S1 (zbo hn)<|zdf An hs;exact⟨xs,hx,by rw[r.length];exact Ah _⟩
 stop':=fun H1 k1 s i hi X1 S1 hs=>by obtain⟨xs,hx,r⟩:=za7 S1 (zbo hn)<|zdf An hs;exact⟨xs,hx,by rw[r.length];exact hi⟩
def zod(hl:SE X l m):SI X tg l (mWL m):=PI.imp (zoz hl) <| by
 rintro σ H R ⟨ρ,st,io,W,st',E,S,e,k⟩;obtain⟨⟨d,s1⟩,e1,e⟩:=zaf e;dsimp only at e
 split at e
 . rename_i n;obtain⟨ds,e2,e⟩:=zai e;cases e;refine⟨ρ,st,io,_,_,E,S,e1,fun v H1 k1 X1 S1 R1=>?_⟩;obtain⟨p,rfl,hn⟩:=R1;obtain⟨xs,hx,r⟩:=za7 S1 hn e2;exact⟨p,rfl,⟨xs,hx⟩,k _ H1 k1 X1 S1<|zri hn⟩
 . cases e
def zrg(S:StR K H io st)(hp:H p=some (.tup xs))(r:Reps K H io xs ds):ItOk K H io ⟨ds,[]⟩ (Itt K p) where
 go:=fun i d H1 k1 s hd X1 S1 hs=>by obtain⟨v,hv,rv⟩:=(r.ext S X1).get hd;have hx:SqT K H1 p xs:=SqT.of<|X1.sqT S p xs hp;refine⟨⟨xs,v,hx,hv⟩,fun x H' y=>?_⟩;obtain⟨rfl,y⟩:=y;have e:=y xs hx;rw[hv] at e;cases e;exact⟨Ext.refl,S1,rv⟩
 stop:=fun H1 k1 s X1 S1 hs=>⟨xs,SqT.of<|X1.sqT S p xs hp,by rw[r.length];exact Ah _⟩
 stop':=fun H1 k1 s i hi X1 S1 hs=>⟨xs,SqT.of<|X1.sqT S p xs hp,by rw[r.length];exact hi⟩
def zqk(hl:SE X l m):SI X tg l (mWT m):=PI.imp (zqG hl) <| by
 rintro σ H R ⟨ρ,st,io,W,st',E,S,e,k⟩;obtain⟨⟨d,s1⟩,e1,e⟩:=zaf e;dsimp only at e
 split at e
 . rename_i ds;cases e;refine⟨ρ,st,io,_,_,E,S,e1,fun v H1 k1 X1 S1 R1=>?_⟩;obtain⟨p,xs,rfl,hp,r⟩:=R1;exact⟨p,rfl,⟨xs,SqT.of hp⟩,k _ H1 k1 X1 S1<|zrg S1 hp r⟩
 . cases e
def run(lo:Int)(n:Nat):List D:=(AC n).map fun (k:Nat)=>D.int<|lo+(k:Int)
def zcb(lo:Int)(n:Nat):(run lo n).length=n:=by unfold run;rw[Af,Cp]
def run_get{lo:Int}(h:(run lo n)[i]?=some d):i < n/\d=.int (lo+(i:Int)):=by
 have hi:i < n:=by
   have q:=(List.getElem?_eq_some_iff.mp h).1
   rwa [zcb] at q
 unfold run at h;rw[AB,Dt hi] at h;exact⟨hi,(Aq h).symm⟩
def zrh(lo:Int)(n:Nat):ItOk K H io ⟨run lo n,[]⟩ (Itr lo n) where
 go:=fun i d H1 k1 s hd X1 S1 hs=>by obtain⟨hi,rfl⟩:=run_get hd;refine⟨hi,fun x H' y=>?_⟩;obtain⟨rfl,rfl⟩:=y;exact⟨Ext.refl,S1,rfl⟩
 stop:=fun H1 k1 s X1 S1 hs=>by show n<=_;rw[zcb];exact Ah _
 stop':=fun H1 k1 s i hi X1 S1 hs=>by
   show n<=i;have hi:(run lo n).length<=i:=hi
   rwa [zcb] at hi
def small(j:Int):Bool:=decide (-(2 ^ 62)<=j)&&decide (j < 2 ^ 62)
def zhY{j:Int}(h:small j=true):-(2 ^ 62)<=j/\j < 2 ^ 62:=by unfold small at h;rw[Am] at h;exact⟨of_decide_eq_true h.1,of_decide_eq_true h.2⟩
def mR1(m:ME):MI:=fun ρ st=>(m ρ st).bind fun (d,s)=>match d with
 | .int j=>if small j=true then some (⟨run 0 j.toNat,[]⟩,s) else none
 | _=>none
def za9{p:Pos}(hg:Gl X "range")(hm:X.mg "range"=none)(ha:SE X a m)(hs:starEach [a] X.env=[(false,eval a X.env)]:=by rfl):SI X tg (.Call (.Name "range" p) [a] [] pos) (mR1 m) :=
 PI.imp (zj7 hg hm (zaa ha zag hs) hs) <| by
   rintro σ H R ⟨ρ,st,io,W,st',E,S,e,k⟩;obtain⟨⟨d,s1⟩,e1,e⟩:=zaf e;dsimp only at e
   split at e
   . rename_i j;obtain⟨hj,e⟩:=zat e;cases e;refine⟨ρ,st,io,[.int j],_,E,S,(ze2 e1 rfl),fun vs H1 k1 X1 S1 R1=>?_⟩;obtain⟨v,rfl,rfl⟩:=R1.one;exact⟨j,rfl,(zhY hj).1,(zhY hj).2,k _ H1 k1 X1 S1<|zrh 0 _⟩
   . cases e
def rho(n:Nat)(ds:List D):Rho:=ds.map some++A5 (n - ds.length) none
def fnM(n:Nat)(m:MS):GN:=fun ds st=>(m (rho n ds) st).bind fun (f,s)=>match f with
 | .rt d=>some (d,s)
 | .nx _=>some (.non,s)
 | _=>none
def zgX{N:List Str}(R:Reps K H io vs ds):EnvR K H io (start N vs) (rho N.length ds):=by
 have hl:=R.length;refine⟨by unfold start rho;simp[hl],fun i d h=>?_⟩;unfold rho at h;unfold start
 by_cases hi:i < ds.length
 . rw[Ao (by simpa using hi),AB] at h
   cases e:ds[i]? with
   | none=>rw[e] at h;cases h
   | some d' =>
     rw[e] at h
     cases (Aq<|Aq h)
     obtain⟨v,hv,r⟩:=R.get e;exact⟨v,by rw[Ao (by simpa[hl] using hi),AB,hv];rfl,r⟩
 . rw[AS (by simpa using hi),Cc] at h
   split at h <;> cases h
variable {w:World}
section
variable {P:Program} {mg:Str->Option Value} {base:Heap}
def fn_m{qual:Str}{st:Stmt}{f:Addr}{N ps:List Str}{m:MS}(F:Fun K x qual st f fd)(S:FnScope N ps (zar st))
   (hbody:∀ (cdv:Value) (A:Around) (outer:List Env) (s:Shared) (H:Hp) (E:XK),Room k (A.deeper<|envOfC qual (zar st) s.heap.objs.size f cdv) ->
     SSs (cxOf CX0 P w K mg base N qual (zar st) f cdv A outer s H E).nox (zbl st) m):FnOk P w K mg base CX0 (k+1) f fd ps (spM K ps.length<|fnM N.length m):=by
 refine F.ok S (fun vs H Q E ⟨_,_,_,_,_,h,_⟩=>h) fun cdv A outer s H vs Q E hr h=>?_;obtain⟨ds,st0,io,d,st',hl,R,SR,e,k'⟩:=h;refine⟨_,hbody cdv A outer s H E hr,?_⟩;obtain⟨⟨fl,s1⟩,e1,e⟩:=zaf e;refine zju (zgX R) SR e1 ?_
 cases fl with
 | rt dd=>cases e;exact k'
 | nx ρ=>cases e;exact fun σ' H' ka X' S' E'=>k' .non H' ka X' S' rfl
 | bk ρ=>cases e
 | ct ρ=>cases e
end
def clOf(cells:List (Str×Addr)):List (Str×NameKind)->List (Str×Addr)->List (Str×Addr)
 | [],acc=>acc
 | (n,k)::r,acc=>if k==.free then clOf cells r ((n,(cells.lookup n).getD 0)::acc) else clOf cells r acc
variable {env:Env}
def zdX{env:Env}(f:Str×NameKind->List (Str×Addr)->Sem (ForInStep<|List<|Str×Addr))
   (hf:∀ n k acc,f (n,k) acc=if k==.free then (do let c <-cellOf env n;pure (.yield ((n,c)::acc))) else pure (.yield acc)) :
   ∀ (names:List (Str×NameKind)) (acc:List (Str×Addr)),(∀ n,(n,AE)∈names->∃ c,env.cells.lookup n=some c)->(forIn names acc f:Sem (List<|Str×Addr))=pure (clOf env.cells names acc)
 | [],acc,_=>by rw[CP];rfl
 | (n,k)::r,acc,h=>by
   rw[Ee,hf];unfold clOf
   cases hk:k==AE with
   | false =>
     rw[if_neg (by simp),if_neg (by simp)];have:=zdX f hf r acc fun m hm=>h m<|Aj _ hm;rw[<-this];rfl
   | true =>
     rw[if_pos rfl,if_pos rfl];have hk':k=AE:=by simpa using hk
     obtain⟨c,hc⟩:=h n (by rw[hk'];exact An);have:=zdX f hf r ((n,c)::acc) fun m hm=>h m<|Aj _ hm;rw[hc,C3,<-this];unfold cellOf;rw[hc];rfl
variable {scope:Scope}
def zjc(h:∀ n,(n,AE)∈scope.names->∃ c,env.cells.lookup n=some c):closureFor scope env=pure (clOf env.cells scope.names []):=by unfold closureFor;have:=zdX (env:=env) (fun x acc=>(match x with | (n,k)=>if k==.free then (do let c <-cellOf env n;pure (.yield ((n,c)::acc))) else pure (.yield acc))) (fun _ _ _=>rfl) scope.names [] h;refine Eq.trans ?_ this;simp only[bind_pure]
variable {cells:List (Str×Addr)}
def zgl{cells:List (Str×Addr)}:∀ {names:List (Str×NameKind)} {acc:List (Str×Addr)} {p:Str×Addr},p∈clOf cells names acc->p∈acc\/((p.1,AE)∈names/\p.2=(cells.lookup p.1).getD 0)
 | [],acc,p,h=>.inl h
 | (n,k)::r,acc,p,h=>by
   unfold clOf at h
   cases hk:k==AE with
   | false =>
     rw[hk,if_neg (by simp)] at h
     rcases zgl h with h | h
     . exact .inl h
     exact .inr ⟨Aj _ h.1,h.2⟩
   | true =>
     rw[hk,if_pos rfl] at h;have hk':k=AE:=by simpa using hk
     rcases zgl h with h | h
     . rcases List.mem_cons.mp h with h | h
       . subst h;exact .inr ⟨by rw[hk'];exact An,rfl⟩
       exact .inl h
     exact .inr ⟨Aj _ h.1,h.2⟩
def ze7{cells:List (Str×Addr)}:∀ {names:List (Str×NameKind)} {acc:List (Str×Addr)} {x:Str},((x,AE)∈names\/(acc.lookup x).isSome=true)->((clOf cells names acc).lookup x).isSome=true
 | [],acc,x,h=>by
   rcases h with h | h
   . exact absurd h<|by simp
   exact h
 | (n,k)::r,acc,x,h=>by
   unfold clOf
   cases hk:k==AE with
   | false =>
     rw[if_neg (by simp)];refine ze7 ?_
     rcases h with h | h
     . rcases List.mem_cons.mp h with h | h
       . have:k=AE:=(Bk h).2.symm;rw[this] at hk;exact absurd hk<|by decide
       exact .inl h
     exact .inr h
   | true =>
     rw[if_pos rfl];refine ze7 ?_
     by_cases hx:x=n
     . subst hx;exact .inr<|by simp
     . rcases h with h | h
       . rcases List.mem_cons.mp h with h | h
         . exact absurd (Bk h).1 hx
         exact .inl h
       . refine .inr ?_;rw[A1];have:(x==n)=false:=by simpa using hx
         rw[this];exact h
def zeT:∀ {names:List (Str×NameKind)} {n:Nat} {acc:List (Str×Addr)} {p:Str×Addr},p∈cellsFrom n names acc->p∈acc\/n<=p.2
 | [],_,_,_,h=>.inl h
 | (x,k)::r,n,acc,p,h=>by
   unfold cellsFrom at h
   split at h
   . rcases zeT h with h | h
     . rcases List.mem_cons.mp h with h | h
       . subst h;exact .inr<|Ah _
       exact .inl h
     exact .inr<|B5 h
   exact zeT h
def zdi:∀ {names:List (Str×NameKind)} {n:Nat} {acc:List (Str×Addr)},(acc.Pairwise fun x y=>x.2≠y.2)->(∀ p∈acc,p.2 < n)->(cellsFrom n names acc).Pairwise fun x y=>x.2≠y.2
 | [],_,_,h,_=>h
 | (x,k)::r,n,acc,h,hl=>by
   unfold cellsFrom
   split
   . refine zdi (List.pairwise_cons.mpr ⟨fun y hy e=>?_,h⟩) fun p hp=>?_
     . have q:=hl y hy;have e':n=y.2:=e;rw[<-e'] at q;exact AR _ q
     . rcases List.mem_cons.mp hp with rfl | hp
       . exact FO _
       exact DQ<|hl p hp
   exact zdi h hl
def zio:∀ {names:List (Str×NameKind)} {n:Nat} {acc:List (Str×Addr)} {x:Str},((x,AQ)∈names\/(acc.lookup x).isSome=true)->((cellsFrom n names acc).lookup x).isSome=true
 | [],n,acc,x,h=>by
   rcases h with h | h
   . exact absurd h<|by simp
   exact h
 | (m,k)::r,n,acc,x,h=>by
   unfold cellsFrom
   cases hk:k==AQ with
   | false =>
     rw[if_neg (by simp)];refine zio ?_
     rcases h with h | h
     . rcases List.mem_cons.mp h with h | h
       . have:k=AQ:=(Bk h).2.symm;rw[this] at hk;exact absurd hk<|by decide
       exact .inl h
     exact .inr h
   | true =>
     rw[if_pos rfl];refine zio ?_
     by_cases hx:x=m
     . subst hx;exact .inr<|by simp
     . rcases h with h | h
       . rcases List.mem_cons.mp h with h | h
         . exact absurd (Bk h).1 hx
         exact .inl h
       . refine .inr ?_;rw[A1];have:(x==m)=false:=by simpa using hx
         rw[this];exact h
def zeS:∀ {names:List (Str×NameKind)} {n:Nat} {acc:List (Str×Addr)} {x:Str},(x,AQ) ∉ names->(cellsFrom n names acc).lookup x=acc.lookup x
 | [],_,_,_,_=>rfl
 | (m,k)::r,n,acc,x,h=>by
   unfold cellsFrom
   cases hk:k==AQ with
   | false=>rw[if_neg (by simp)];exact zeS fun q=>h (Aj _ q)
   | true =>
     rw[if_pos rfl,zeS fun q=>h (Aj _ q),A1];have hk':k=AQ:=by simpa using hk
     have:(x==m)=false:=by
       cases e:x==m with
       | false=>rfl
       | true=>exact absurd (by rw[hk',show x=m by simpa using e];exact An) h
     rw[this]
def ziq:∀ {names:List (Str×NameKind)} {n:Nat} {acc:List (Str×Addr)} {x:Str} {c:Addr},(x,AQ)∈names->(cellsFrom n names acc).lookup x=some c->n<=c
 | [],_,_,_,_,h,_=>absurd h<|by simp
 | (m,k)::r,n,acc,x,c,h,e=>by
   unfold cellsFrom at e
   cases hk:k==AQ with
   | false =>
     rw[hk,if_neg (by simp)] at e
     rcases List.mem_cons.mp h with h | h
     . have:k=AQ:=(Bk h).2.symm;rw[this] at hk;exact absurd hk<|by decide
     exact ziq h e
   | true =>
     rw[hk,if_pos rfl] at e
     by_cases hr:(x,AQ)∈r
     . exact B5<|ziq hr e
     . rw[zeS hr] at e
       rcases List.mem_cons.mp h with h | h
       . have hx:x=m:=(Bk h).1;subst hx;rw[List.lookup_cons_self] at e;exact D0<|Aq e
       exact absurd h hr
def zeO:∀ {names:List (Str×NameKind)} {h:Heap} {acc:List (Str×Addr)} {p:Str×Addr},p∈cellsFrom h.objs.size names acc->p∈acc\/(pushCells h names).IsCell p.2 none
 | [],_,_,_,h=>.inl h
 | (x,k)::r,h,acc,p,e=>by
   unfold cellsFrom at e;unfold pushCells
   split at e
   . rename_i hk;rw[if_pos hk];have sz:(h.push { cls:=.type "cell",data:=.cell none }).objs.size=h.objs.size+1:=BB ..;rw[<-sz] at e
     rcases zeO e with q | q
     . rcases List.mem_cons.mp q with q | q
       . subst q;exact .inr ⟨_,Di _ _ _ _<|Ap _ rfl,rfl⟩
       exact .inl q
     exact .inr q
   rename_i hk;rw[if_neg hk];exact zeO e
def zcX(X:Cx)(scope:Scope)(N':List Str)(cells:List (Str×Addr))(C:Addr)(s0:Shared)(H0:Hp)(ex:List Addr):Cx :=
 { X with N:=N',s₀:=s0,H₀:=H0,env:=compEnvC scope cells C X.env,outer:=X.stack,ex:=ex,fn:=fun x=>scope.names.any fun p=>p.1==x&&p.2==.cell,pn:=[],xe:=fun _ _=>False }
structure CompS(X:Cx)(scope:Scope)(N':List Str)(nt:Nat)(fr:List Nat):Prop where
 kind:scope.kind=.function
 nd:(scope.names.map (·.1)).Nodup
 len:N'.length=nt+fr.length
 cap:∀ (i j:Nat) (x:Str),fr[i]?=some j->N'[nt+i]?=some x->X.N[j]?=some x/\(x,AE)∈scope.names
 out:∀ x,(x,AE)∈scope.names->X.env.kindOf x=some .cell\/X.env.kindOf x=some .free
def lookup_mem:∀ {l:List (Str×NameKind)} {x:Str} {k:NameKind},(l.map (·.1)).Nodup->(x,k)∈l->l.lookup x=some k
 | [],_,_,_,h=>absurd h<|by simp
 | (n,j)::r,x,k,nd,h=>by
   rw[Ay,FY] at nd;rw[A1]
   rcases List.mem_cons.mp h with h | h
   . cases h;simp
   . have:x≠n:=fun e=>nd.1 (by rw[<-e];exact List.mem_map.mpr ⟨_,h,rfl⟩);have:(x==n)=false:=by simpa using this
     rw[this];exact lookup_mem nd.2 h
def zbA{env:Env}:∀ {l:List (Str×NameKind)} {x:Str} {k:NameKind},(l.map fun (n,k)=>if (k==AE&&env.scope.kind==.function&&env.kindOf n==some .cell) then (n,AQ) else (n,k)).lookup x=some k ->
   ∃ k',l.lookup x=some k'/\(k'=k\/k'=.free)
 | [],_,_,h=>by simp at h
 | (n,j)::r,x,k,h=>by
   rw[Ay] at h;dsimp only at h
   by_cases hc:(j==AE&&env.scope.kind==.function&&env.kindOf n==some .cell)=true
   . rw[if_pos hc,A1] at h;rw[A1]
     cases hx:x==n with
     | true =>
       have:j=.free:=by rw[Am,Am] at hc;simpa using hc.1.1
       exact⟨j,rfl,.inr this⟩
     | false=>rw[hx] at h;exact zbA h
   . rw[if_neg hc,A1] at h;rw[A1]
     cases hx:x==n with
     | true=>rw[hx] at h;cases h;exact⟨j,rfl,.inl rfl⟩
     | false=>rw[hx] at h;exact zbA h
def zcJ{env:Env}:∀ {l:List (Str×NameKind)} {x:Str},l.lookup x=some .free ->
   (l.map fun (n,k)=>if (k==AE&&env.scope.kind==.function&&env.kindOf n==some .cell) then (n,AQ) else (n,k)).lookup x=some .cell \/
   (l.map fun (n,k)=>if (k==AE&&env.scope.kind==.function&&env.kindOf n==some .cell) then (n,AQ) else (n,k)).lookup x=some .free
 | [],_,h=>by simp at h
 | (n,j)::r,x,h=>by
   rw[Ay];dsimp only;rw[A1] at h
   by_cases hc:(j==AE&&env.scope.kind==.function&&env.kindOf n==some .cell)=true
   . rw[if_pos hc,A1]
     cases hx:x==n with
     | true=>exact .inl rfl
     | false=>rw[hx] at h;exact zcJ h
   . rw[if_neg hc,A1]
     cases hx:x==n with
     | true=>rw[hx] at h;cases h;exact .inr rfl
     | false=>rw[hx] at h;exact zcJ h
variable {s:Shared}{N':List Str}{nt:Nat}{fr:List Nat}{pins:List (Addr×Obj)}{A:Around}{E:Value->Shared->Prop}{fp:List Addr}
noncomputable abbrev clX (X:Cx) (scope:Scope):List (Str×Addr):=clOf X.env.cells scope.names []
noncomputable abbrev zcY (X:Cx) (scope:Scope) (C:Nat):List (Str×Addr):=cellsFrom (C+1) scope.names (clX X scope)
def zjd(Z:CompS X scope N' nt fr)(ok:X.Ok){p:Str×Addr}(h:p∈clX X scope):(p.1,AE)∈scope.names/\X.env.cells.lookup p.1=some p.2:=by
 rcases zgl h with h | ⟨h1,h2⟩
 . exact absurd h<|by simp
 obtain⟨c,hc⟩:=ok.has p.1<|Z.out p.1 h1;rw[hc,C3] at h2;exact⟨h1,by rw[hc,h2]⟩
def zkO(Z:CompS X scope N' nt fr)(ok:X.Ok)(h:(x,AE)∈scope.names):∃ c,X.env.cells.lookup x=some c/\∀ C,(zcY X scope C).lookup x=some c:=by
 obtain⟨c,hc⟩:=ok.has x<|Z.out x h;refine⟨c,hc,fun C=>?_⟩;have no:(x,AQ) ∉ scope.names:=fun q=>by have a:=lookup_mem Z.nd h;have b:=lookup_mem Z.nd q;rw[a] at b;cases b
 rw[zeS no];have q:=ze7 (cells:=X.env.cells) (acc:=[])<|.inl h;obtain⟨c',e⟩:=Option.isSome_iff_exists.mp q;have:=(zjd Z ok<|AO e).2;have this:X.env.cells.lookup x=some c':=this;rw[hc] at this;rw[e,this]
def znp(Z:CompS X scope N' nt fr)(ok:X.Ok):(clX X scope).Pairwise fun x y=>x.2≠y.2:=by
 have gen:∀ (names:List (Str×NameKind)) (acc:List (Str×Addr)),(∀ n,(n,AE)∈names->∃ c,X.env.cells.lookup n=some c)->(names.map (·.1)).Nodup->(∀ p∈acc,p.1 ∉ names.map (·.1)/\X.env.cells.lookup p.1=some p.2)->(acc.Pairwise fun x y=>x.2≠y.2) ->
     (clOf X.env.cells names acc).Pairwise fun x y=>x.2≠y.2:=by
   intro names
   induction names with
   | nil=>intro acc _ _ _ h;exact h
   | cons p r ih =>
     intro acc hf nd ha hp;obtain⟨n,k⟩:=p;rw[Ay,FY] at nd;unfold clOf
     cases hk:k==AE with
     | false =>
       rw[if_neg (by simp)];exact ih acc (fun m hm=>hf m (Aj _ hm)) nd.2 (fun q hq=>⟨fun z=>(ha q hq).1 (by rw[Ay];exact Aj _ z),(ha q hq).2⟩) hp
     | true =>
       rw[if_pos rfl];have hk':k=AE:=by simpa using hk
       obtain⟨c,hc⟩:=hf n (by rw[hk'];exact An);refine ih _ (fun m hm=>hf m (Aj _ hm)) nd.2 (fun q hq=>?_)<|List.pairwise_cons.mpr ⟨fun y hy e=>?_,hp⟩
       . rcases List.mem_cons.mp hq with rfl | hq
         . exact⟨nd.1,by rw[hc];rfl⟩
         exact⟨fun z=>(ha q hq).1 (by rw[Ay];exact Aj _ z),(ha q hq).2⟩
       have e1:(X.env.cells.lookup n).getD 0=y.2:=e;rw[hc,C3] at e1;have e2:=(ha y hy).2;rw[<-e1] at e2;have:=ok.inj _ _ _ e2 hc;exact (ha y hy).1 (by rw[this,Ay];exact An)
 exact gen scope.names [] (fun n hn=>ok.has n (Z.out n hn)) Z.nd (fun p hp=>absurd hp (by simp)) CV
def zno{M:Model}{cl:List (Str×Addr)}{Q:Env->Shared->Prop}
   (h:Q { scope:=scope,locals:=s.heap.objs.size,globals:=env.globals,cells:=cellsFrom (s.heap.objs.size+1) scope.names cl,qual:=env.qual,func:=none,code:=env.code,frame:=env.frame,builtins:=env.builtins }
     { s with heap:=pushCells (s.heap.push { cls:=.type "dict",data:=.dict #[] }) scope.names }) :
   wpAny M A (newFunctionEnv scope env.globals cl [] env.qual none .none<|some env) Q E s:=by
 simp only[newFunctionEnv,Fg,if_true];refine Aa<|wpAny_alloc ?_;refine Aa<|wpAny_layCells _ (fun name kind cells=>by cases hkc:kind==AQ <;> simp[hkc]) _ _ _ _ ?_;rw[show ({ s with heap:=s.heap.push { cls:=.type "dict",data:=.dict #[] } }:Shared).heap.objs.size=s.heap.objs.size+1 from BB ..];rw[CP];exact Aa<|Ae<|Ae h
def zkN(σ:L2.St)(nt:Nat)(fr:List Nat):L2.St:=A5 nt none++fr.map fun (j:Nat)=>(σ[j]?).join
def zm3{fp:List Addr}(Z:CompS X scope N' nt fr)(I:Inv X pins σ H s)(hf:∀ b∈fp,FpOk X pins H b)(hlt:∀ b∈fp,b < s.heap.objs.size) :
   Inv (zcX X scope N' (zcY X scope s.heap.objs.size) s.heap.objs.size s H fp) [] (zkN σ nt fr) H { s with heap:=pushCells (s.heap.push { cls:=.type "dict",data:=.dict #[] }) scope.names }:=by
 have ok:=I.ok;have kp:∀ b o,s.heap.get? b=some o->(pushCells (s.heap.push { cls:=.type "dict",data:=.dict #[] }) scope.names).get? b=some o:=fun b o e=>Di _ _ b o (Ac _ e);have clt:∀ p∈clX X scope,p.2 < s.heap.objs.size:=fun p hp=>by obtain⟨_,e⟩:=zjd Z ok hp;obtain⟨v,q⟩:=I.cell p.1 p.2 e;exact q.lt
 have sz:(s.heap.push { cls:=.type "dict",data:=.dict #[] }).objs.size=s.heap.objs.size+1:=BB ..;have cells:∀ x c,(zcY X scope s.heap.objs.size).lookup x=some c->(X.env.cells.lookup x=some c)\/(s.heap.objs.size+1<=c/\(pushCells (s.heap.push { cls:=.type "dict",data:=.dict #[] }) scope.names).IsCell c none):=fun x c e=>by
   have m:=AO e
   rcases zeT m with h | h
   . exact .inl (zjd Z ok h).2
   . refine .inr ⟨h,?_⟩;have m':(x,c)∈cellsFrom (s.heap.push { cls:=.type "dict",data:=.dict #[] }).objs.size scope.names (clX X scope):=by rw[sz];exact m
     rcases zeO m' with q | q
     . have l:=clt _ q;exact absurd (Av l (B5 h)) (AR _)
     exact q
 refine⟨⟨ok.mod,Z.kind,ok.glob,ok.blt,Ah _,fun x y c h1 h2=>?_,fun x hx=>?_,fun x c h1 h2=>?_,ok.hd,ok.frames,.inl rfl,fun b hb=>?_,I.bs,Aw ok.bsz I.sz,fun b o e hb=>?_,fun b hb=>?_,I.stack,I.stkFree⟩,
   rfl,I.bare,Un.kept kp,⟨fun _=>none,?_,fun i x v h1 h2 h3=>?_⟩,fun x c e=>?_,I.hok.fresh (Ah _),fun x c e=>?_,fun p hp=>absurd hp (by simp[zcX]),I.hok.kept kp,?_⟩
 . exact name_of_addr (zdi (znp Z ok) fun p hp=>DQ (clt p hp)) (AO h1) (AO h2)
 . have hx:(relabel scope X.env).names.lookup x=some .cell\/(relabel scope X.env).names.lookup x=some .free:=hx;have q:(x,AQ)∈scope.names\/(x,AE)∈scope.names:=by
     rcases hx with hx | hx
     . obtain⟨k',e,z | z⟩:=zbA hx
       . subst z;exact .inl (AO e)
       subst z;exact .inr (AO e)
     . obtain⟨k',e,z | z⟩:=zbA hx
       . subst z;exact .inr (AO e)
       subst z;exact .inr (AO e)
   refine Option.isSome_iff_exists.mp (zio (n:=s.heap.objs.size+1) (acc:=clX X scope) ?_)
   rcases q with q | q
   . exact .inl q
   exact .inr (ze7 (.inl q))
 . have h1:(scope.names.any fun p=>p.1==x&&p.2==AQ)=true:=h1;obtain⟨p,hp,e⟩:=List.any_eq_true.mp h1;rw[Am] at e;have e1:p.1=x:=by simpa using e.1
   have e2:p.2=AQ:=by simpa using e.2
   have hm:(x,AQ)∈scope.names:=by rw[<-e1,<-e2];exact hp
   exact B5 (ziq hm h2)
 . refine⟨Ar (hlt b hb),fun x c e z=>?_⟩
   rcases cells x c e with q | ⟨q,_⟩
   . exact (hf b hb).2.2.2.2.1 x c q z
   have l:=hlt b hb;rw[<-z] at l;exact absurd (Av l (B5 q)) (AR _)
 . rcases (hf b hb).2.2.2.1 with z | z
   . exact ok.noex b o e z
   exact absurd (Av (Ai e) (Aw ok.bsz z)) (AR _)
 . intro hs
   rcases List.mem_cons.mp (I.stkSub b hs) with e | e
   . exact (hf b hb).2.1 e
   exact (hf b hb).2.2.1 e
 . exact (Heap.Ns.new s.heap (.type "dict")).keeps (Di _ _)
 . -- a captured name
   have hi:nt<=i:=by
     by_cases hi:i < nt
     . unfold zkN at h2;rw[Ao (by simpa using hi),Cc,if_pos hi] at h2;cases h2
     omega
   obtain⟨i',rfl⟩:∃ i',i=nt+i':=⟨i - nt,by omega⟩
   unfold zkN at h2;rw[AS (by simp),BG,Nat.add_sub_cancel_left,AB] at h2
   cases ej:fr[i']? with
   | none=>rw[ej] at h2;cases h2
   | some j =>
     rw[ej] at h2;have h2:(σ[j]?).join=some v:=Aq h2;have h2:σ[j]?=some (some v):=by
       cases q:σ[j]? with
       | none=>rw[q] at h2;cases h2
       | some w=>rw[q] at h2;cases w with
         | none=>cases h2
         | some w=>cases h2;rfl
     obtain⟨hN,hfree⟩:=Z.cap i' j x ej h1;obtain⟨c,hc,hcc⟩:=zkO Z ok hfree;have ho:=Z.out x hfree;obtain⟨m,hn,hl⟩:=I.loc;obtain⟨u,r,l⟩:=hl j x v hN h2 (ho.elim (fun z=>.inr (.inl z)) fun z=>.inr (.inr z));refine⟨u,r,.inr ⟨?_,c,hcc _,?_⟩⟩
     . exact zcJ (lookup_mem Z.nd hfree)
     . rcases l with ⟨k,_⟩ | ⟨_,c',e',z⟩
       . rcases ho with q | q
         . rw[k] at q;cases q
         rw[k] at q;cases q
       rw[hc] at e';cases e';exact z.keeps kp
 . rcases cells x c e with q | ⟨_,q⟩
   . obtain⟨v,z⟩:=I.cell x c q;exact⟨v,z.keeps kp⟩
   exact⟨none,q⟩
 . rcases cells x c e with q | ⟨q,_⟩
   . exact I.freeC x c q
   exact I.hok.fresh (B5 q)
 show _=N'.length;unfold zkN;rw[Z.len,AU,BG,Af]
noncomputable abbrev FF:Value->Shared->Prop:=fun _ _=>False
variable {elt:Expr}{ifs:List Expr}
def zht{prog:Program}{R:Result->Shared->Prop}{s:Shared}{target:Expr}{it acc:Value}(I:Nat->Shared->Prop)
   (turn:∀ n s,I n s->wpAny (model prog w) A (pyNext it) (fun r s1=>match r with
     | none=>R (.ok .next) s1
     | some v=>wpAny (model prog w) A (letOwnedTupleGo target it v) (fun _ s1=>wpAny (model prog w) A (assign target env v) (fun _ s2 =>
         wpAny (model prog w) A (forIn ifs true fun c r=>if r=true then do let ok <-isTrue c env (eval c env);pure (Dj ok) else pure (Dj r)) (fun ok s3 =>
           if ok=true then wpAny (model prog w) A (eval elt env) (fun x s4 =>
             wpAny (model prog w) A (call (.builtin "list.append") [acc,x]) (fun _ s5=>∃ m,m < n/\I m s5) FF s4) FF s3
           else ∃ m,m < n/\I m s3) FF s2) FF s1) FF s1) FF s)
   (n:Nat) (h:I n s) :
   codeAny (model prog w) A (.compLoop (.ListComp elt [⟨target,iter,ifs,0⟩] scope pos) 0 it acc env) R s:=by
 refine codeAny_loop rfl I (fun n s hI=>?_) n h;show wpAny _ A ((compTurn (.ListComp elt [⟨target,iter,ifs,0⟩] scope pos) 0 it acc env).onRaise (fun x=>do noteFrame x env;theTreesLotGoes x)) _ _ s;refine wpAny_noted ?_;rw[compTurn_list];refine Aa<|BL<|Aa<|AL (turn n s hI) (fun r s₁ h₁=>?_) fun _ _ h'=>False.elim h'
 cases r with
 | none=>exact Ae h₁
 | some v =>
   refine Aa<|AL h₁ (fun _ s₂ h₂=>?_) fun _ _ h'=>False.elim h';refine Aa<|AL h₂ (fun _ s₂ h₂=>Aa (AL h₂ (fun ok s₃ h₃=>?_) fun _ _ h'=>False.elim h')) fun _ _ h'=>False.elim h'
   cases ok with
   | false=>exact Ae ⟨rfl,h₃⟩
   | true =>
     exact Aa<|Aa<|AL h₃ (fun x s₄ h₄=>Aa (AL h₄ (fun _ s₅ h₅=>Ae (Ae ⟨rfl,h₅⟩)) fun _ _ h'=>False.elim h')) fun _ _ h'=>False.elim h'
def mCI(W:Wk)(g:MG)(c:MT)(m:ME):List D->Rho->Sto->Option (List D×Sto)
 | [],ρ,st=>if walked W st=true then some ([],st) else none
 | d::ds,ρ,st=>if walked W st=true then (g d ρ st).bind fun (ρ1,s1)=>(c ρ1 s1).bind fun (b,s2) =>
     if b=true then (m ρ1 s2).bind fun (x,s3)=>(mCI W g c m ds ρ1 s3).map fun (xs,s4)=>(x::xs,s4) else mCI W g c m ds ρ1 s2 else none
def rho0(ρ:Rho)(nt:Nat)(fr:List Nat):Rho:=A5 nt none++fr.map fun (j:Nat)=>(ρ[j]?).join
def zcf(mi:MI)(nt:Nat)(fr:List Nat)(g:MG)(c:MT)(m:ME):ME:=fun ρ st=>(mi ρ st).bind fun (W,s1)=>(mCI W g c m W.ds (rho0 ρ nt fr) s1).bind fun (xs,s2) =>
 if fits xs.length=true then some (.ref s2.length,s2++[.lst xs]) else none
def zbF:MT:=fun _ st=>some (true,st)
def SC(X:Cx)(ifs:List Expr)(m:MT):Prop:=∀ (pins:List (Addr×Obj)) (s:Shared) (σ:L2.St) (H:Hp) (Q:Bool->Hp->Prop),Inv X pins σ H s->tT X.K m σ H Q ->
 wpAny (model X.prog X.w) X.A (forIn ifs true fun c r=>if r=true then do let ok <-isTrue c X.env (eval c X.env);pure (Dj ok) else pure (Dj r)) (TP X pins σ Q) X.xe s
def zdz:SC X [] zbF:=by rintro pins s σ H Q I ⟨ρ,st,io,b,st',E,S,e,k⟩;cases e;rw[CP];exact Ae ⟨H,I,k H [] Ext.refl S.nil⟩
def zom{m:MT}(h:SB X c m):SC X [c] m:=fun pins s σ H Q I q=>PySem.wpAny_tests_one<|h pins s σ H Q I q
def znf(h:EnvR K H io σ ρ):EnvR K H io (zkN σ nt fr) (rho0 ρ nt fr):=by
 refine⟨by unfold zkN rho0;simp,fun i d e=>?_⟩;unfold rho0 at e;unfold zkN
 by_cases hi:i < nt
 . rw[Ao (by simpa using hi),Cc,if_pos hi] at e;cases e
 . rw[AS (by simpa using hi),BG,AB] at e ⊢
   cases ej:fr[i - nt]? with
   | none=>rw[ej] at e;cases e
   | some j =>
     rw[ej] at e;have e:(ρ[j]?).join=some d:=Aq e;have e:ρ[j]?=some (some d):=by
       cases q:ρ[j]? with
       | none=>rw[q] at e;cases e
       | some w=>rw[q] at e;cases w with
         | none=>cases e
         | some w=>cases e;rfl
     obtain⟨v,hv,r⟩:=h.at_ j d e;exact⟨v,by simp[hv],r⟩
def adopt(S:StR K H io st)(hp:H p=some (.lst xs))(np:p ∉ io)(R:Reps K H io xs ds):StR K H (io++[p]) (st++[.lst ds]):=by
 refine⟨by simp[S.len],?_,fun n a ob h1 h2=>?_⟩
 . rw[Fw];refine⟨S.nd,by simp,fun a ha b hb=>?_⟩;rw[List.mem_singleton.mp hb];rintro rfl;exact np ha
 . by_cases hn:n < io.length
   . rw[Ao hn] at h1;rw[Ao (by rw[<-S.len];exact hn)] at h2;exact OR.mono ⟨fun _ _ h=>h,fun _ _ _ h=>h⟩ rfl<|S.ob n a ob h1 h2
   . have hl:n < (io++[p]).length:=(List.getElem?_eq_some_iff.mp h1).1;rw[AU,C8] at hl;have e:n=io.length:=by omega
     subst e;rw[AS (Ah _),Dh] at h1;rw[S.len,AS (Ah _),Dh] at h2
     cases (Aq h1)
     cases (Aq h2)
     exact⟨xs,hp,Reps.mono ⟨fun _ _ h=>h,fun _ _ _ h=>h⟩ R⟩
section
variable {g:MG} {c:MT}
structure CompEnd(X:Cx)(pins:List (Addr×Obj))(σ:L2.St)(H:Hp)(io:List Addr)(d:D)(st':Sto)(Dd C:Addr)(H5:Hp)(s6:Shared):Prop where
 inv:Inv X pins σ H5 s6
 ns:∃ m,s6.heap.Ns C m
 free:H5 C=none
 ne:C≠X.env.locals
 young:X.s₀.heap.objs.size<=C
 cells:∀ x c,X.env.cells.lookup x=some c->c≠C
 pin:∀ p∈X.pn++pins,p.1≠C
 val:∃ ka,Ext io ka H H5/\StR X.K H5 (io++ka) st'/\Rep X.K H5 (io++ka) (.ref Dd) d
inductive CompI (X Y:Cx) (W:Wk) (tn:Nat->Heap->Prop) (fp io:List Addr) (H1:Hp) (Dd:Addr) (g:MG) (c:MT) (m:ME) (t2:Sto) (xs:List D) (n:Nat) (s5:Shared):Prop
 | mk (i:Nat) (σ5:L2.St) (H5:Hp) (ρ5:Rho) (st5:Sto) (k5:List Addr) (ac rs:List D) (h0:n=W.ds.length - i) (h1:Inv Y [] σ5 H5 s5) (h2:tn i s5.heap) (h3:∀ b∈fp,H5 b=none) (h4:Ext io k5 H1 H5) (h5:Dd ∉ k5) (h6:StR X.K H5 (io++k5) st5) (h7:EnvR X.K H5 (io++k5) σ5 ρ5) (h8:∃ vs,H5 Dd=some (.lst vs)/\Reps X.K H5 (io++k5) vs ac) (h9:mCI W g c m (W.ds.drop i) ρ5 st5=some (rs,t2)) (h10:xs=ac++rs)
def zjb(hx:X.xe=FF)(hc:X.calm=true)(Z:CompS X scope N' nt fr)(hi:SI X tg iter mi)
   (hg:∀ C s0 H0 fp,SG (zcX X scope N' (zcY X scope C) C s0 H0 fp) tg g) (ht:∀ C s0 H0 fp,SC (zcX X scope N' (zcY X scope C) C s0 H0 fp) ifs c) (he:∀ C s0 H0 fp,SE (zcX X scope N' (zcY X scope C) C s0 H0 fp) elt m)
   (hs:∀ x,foldedSetIterable iter X.env x=pure x)         {use:Option (Value->Sem Unit)} {Qf:Value->Shared->Prop} {ps:Pos}
   (I:Inv X pins σ H s) (E:EnvR X.K H io σ ρ) (S:StR X.K H io st) (e:zcf mi nt fr g c m ρ st=some (d,st'))
   (kf:∀ Dd C H5 s6,CompEnd X pins σ H io d st' Dd C H5 s6->compPost (model X.prog X.w) X.A X.xe use Qf (.ref Dd) C (.ok .next) s6) :
   wpAny (model X.prog X.w) X.A (comprehension (.ListComp elt [⟨tg,iter,ifs,0⟩] scope pos) scope X.env ps (newList []) false (eval iter X.env) use) Qf X.xe s:=by
 obtain⟨⟨W,t1⟩,e1,e⟩:=zaf e;obtain⟨⟨xs,t2⟩,e2,e⟩:=zaf e;obtain⟨hfit,e⟩:=zat e;cases e;refine wpAny_comprehension_free (use:=use) rfl hs (zjc fun n hn=>I.ok.has n (Z.out n hn)) Z.kind (fun x hx hl=>by
   obtain⟨n,k⟩:=x
   cases (show k=.local from hl)
   exact lookup_mem Z.nd hx) ?_
 refine thn (hi pins s σ H (fun J H1=>∃ ka,Ext io ka H H1/\StR X.K H1 (io++ka) t1/\ItOk X.K H1 (io++ka) W J) I ⟨ρ,st,io,W,t1,E,S,e1,fun J H' ka X' S' O'=>⟨ka,X',S',O'⟩⟩) fun v sa ha=>?_;refine thn ha ?_;rintro itv s2 ⟨it,fp,tn,J,H1,eit,I1,T,tn0,fpok,k1,X1,S1,IO⟩;subst eit;refine AG ?_
 -- the new list
 have hD:H1 s2.heap.objs.size=none:=I1.hok.fresh (Ah _);have I3:Inv X pins σ (upd H1 s2.heap.objs.size (.lst [])) { s2 with heap:=s2.heap.push { cls:=.type "list",data:=.seq ([]:List Value).toArray },toks:=s2.toks }:=I1.lnew .nil (Bd _);obtain⟨X2,S2a⟩:=zgJ (o:=.lst []) S1 hD;rw[Al] at S2a;have S2:StR X.K (upd H1 s2.heap.objs.size (.lst [])) (io++k1) t1:=S2a;clear S2a;generalize hH3:upd H1 s2.heap.objs.size (.lst [])=H3 at I3 X2 S2;have H3D:H3 s2.heap.objs.size=some (.lst []):=by rw[<-hH3];exact zaC
 generalize hD':s2.heap.objs.size=Dd at hD I3 X2 S2 hH3 H3D ⊢;generalize hs3:({ s2 with heap:=s2.heap.push { cls:=.type "list",data:=.seq ([]:List Value).toArray },toks:=s2.toks }:Shared)=s3 at I3;have fplt:∀ b∈fp,b < s3.heap.objs.size:=fun b hb=>by obtain⟨o,ho,_⟩:=T.obj 0 _ tn0 b hb;rw[<-hs3];exact Av (Ai ho) (by show _<=(s2.heap.push _).objs.size;rw[BB];exact Ck _)
 have fpD:∀ b∈fp,b≠Dd:=fun b hb z=>by obtain⟨o,ho,_⟩:=T.obj 0 _ tn0 b hb;have:=Ai ho;rw[z,<-hD'] at this;exact AR _ this
 have fp3:∀ b∈fp,FpOk X pins H3 b:=fun b hb=>⟨by rw[<-hH3,zan (fpD b hb)];exact (fpok b hb).1,(fpok b hb).2⟩
 have tn3:tn 0 s3.heap:=T.keep 0 _ _ tn0 fun b _ o ho=>by rw[<-hs3];exact Ac _ ho
 refine zno ?_;have I4:=zm3 (fp:=fp) Z I3 fp3 fplt;have tn4:tn 0 (pushCells (s3.heap.push { cls:=.type "dict",data:=.dict #[] }) scope.names):=T.keep 0 _ _ tn3 fun b _ o ho=>Di _ _ _ _ (Ac _ ho);generalize hs4:({ s3 with heap:=pushCells (s3.heap.push { cls:=.type "dict",data:=.dict #[] }) scope.names }:Shared)=s4 at I4;have tn4:tn 0 s4.heap:=by rw[<-hs4];exact tn4
 show codeAny (model X.prog X.w) X.A (.compStart (.ListComp elt [⟨tg,iter,ifs,0⟩] scope pos) 0 (.ref it) (.ref Dd) (zcX X scope N' (zcY X scope s3.heap.objs.size) s3.heap.objs.size s3 H3 fp).env) _ _;generalize hY:zcX X scope N' (zcY X scope s3.heap.objs.size) s3.heap.objs.size s3 H3 fp=Y at I4;have yP:Y.prog=X.prog:=by rw[<-hY];rfl
 have yW:Y.w=X.w:=by rw[<-hY];rfl
 have yK:Y.K=X.K:=by rw[<-hY];rfl
 have yC:Y.calm=true:=by rw[<-hY];exact hc
 have yA:Y.A=X.A:=by rw[<-hY];rfl
 have yx:Y.xe=FF:=by rw[<-hY];rfl
 have hg:=hg s3.heap.objs.size s3 H3 fp;have ht:=ht s3.heap.objs.size s3 H3 fp;have he:=he s3.heap.objs.size s3 H3 fp;rw[hY] at hg ht he;have yex:Y.ex=fp:=by rw[<-hY];rfl
 have yfs:∀ b∈fp,b ∉ Y.fs:=fun b hb hs=>by
   rw[<-hY] at hs;have hs:b∈frs X.stack:=hs
   rcases List.mem_cons.mp (I3.stkSub b hs) with z | z
   . exact (fp3 b hb).2.1 z
   exact (fp3 b hb).2.2.1 z
 have yL:Y.env.locals=s3.heap.objs.size:=by rw[<-hY];rfl
 -- the loop
 have hio:Dd ∉ io++k1:=fun hm=>by obtain⟨u,hu,_⟩:=S1.mem hm;rw[hD] at hu;cases hu
 have start:∀ {H':Hp} {sx:Shared} {σ':L2.St},Inv Y [] σ' H' sx->(∀ b∈fp,H' b=none)->∀ b∈fp,FpOk Y [] H' b:=fun {H' sx σ'} I' hn b hb=>by
   refine⟨hn b hb,fun z=>?_,yfs b hb,.inl (by rw[yex];exact hb),fun x cc e z=>?_,fun p hp=>absurd hp (by rw[<-hY];simp[zcX])⟩
   . rw[yL] at z;exact absurd (fplt b hb) (by rw[z];exact AR _)
   exact (I'.ok.exf b (by rw[yex];exact hb)).2 x cc e z
 have loop:∀ sx:Shared,Inv Y [] (zkN σ nt fr) H3 sx->tn 0 sx.heap->codeAny (model X.prog X.w) X.A (.compLoop (.ListComp elt [⟨tg,iter,ifs,0⟩] scope pos) 0 (.ref it) (.ref Dd) Y.env) (compPost (model X.prog X.w) X.A X.xe use Qf (.ref Dd) s3.heap.objs.size) sx:=by
   intro sx Ix tnx;refine zht (CompI X Y W tn fp (io++k1) H1 Dd g c m t2 xs) ?_ (W.ds.length - 0)
     ⟨0,zkN σ nt fr,H3,rho0 ρ nt fr,t1,[],[],xs,rfl,Ix,tnx,fun b hb=>(fp3 b hb).1,X2,by simp,S2.nil,by rw[Al];exact znf (by have:=(E.ext S X1).ext S1 X2;rw[Al] at this;exact this),⟨[],H3D,rfl⟩,by rw[Ex];exact e2,rfl⟩
   rintro n s5 ⟨i,σ5,H5,ρ5,st5,k5,ac,rs,rfl,I5,tn5,fr5,X25,nk5,S5,E5,⟨vs,hvs,Rvs⟩,e5,exs⟩;have nD:∀ {kk:List Addr},Dd ∉ kk->Dd ∉ (io++k1)++kk:=fun {kk} hk hm=>(List.mem_append.mp hm).elim hio hk;have nF:∀ {kk jj:List Addr} {Ha Hb:Hp} {vv:List V},Ext jj kk Ha Hb->Ha Dd=some (.lst vv)->Dd ∉ kk:=fun {kk jj Ha Hb vv} Xx hv hm=>by have q:=Xx.fresh Dd hm;rw[hv] at q;cases q
   cases hd:W.ds[i]? with
   | none =>
     have hl:W.ds.length<=i:=List.getElem?_eq_none_iff.mp hd;rw[Cj hl] at e5;obtain⟨hw,e5⟩:=zat e5;cases e5;have:=T.done Y yP yW yK yC i [] s5 σ5 H5 FF I5 (start I5 fr5) tn5 (IO.stop' H5 k5 _ i hl X25 S5 (zbM hw));rw[yA] at this;refine thn this ?_;rintro r s6 ⟨hr,I6⟩;subst hr;obtain⟨mm,hn,_⟩:=id I6.loc;rw[yL] at hn
     -- back in the frame
     have base:Un (frs X.stack) fp H3 H5 s3.heap s6.heap:=by have b:=I6.base;rw[<-hY] at b;exact b
     have os:s6.os=s3.os:=by have b:=I6.os;rw[<-hY] at b;exact b
     have free:H5 s3.heap.objs.size=none:=by have b:=I6.free;rw[yL] at b;exact b
     have hok:HOk X.prog X.w H5 s6.heap:=by have b:=I6.hok;rw[yP,yW] at b;exact b
     have I7:Inv X pins σ H5 s6:=Inv.call' (s':=s6) (ch:=fp) I3 os base hok I6.bare fun b hb=>⟨(fp3 b hb).2.2.2.1,(fp3 b hb).2.1,(fp3 b hb).2.2.2.2.1,(fp3 b hb).2.2.2.2.2⟩
     have np:Dd ∉ (io++k1)++k5:=nD nk5;rw[Al] at exs;subst exs;have SA:=adopt S5 hvs np Rvs;have X6:Ext io (k1++k5) H H5:=X1.trans S1 X25;have lt3:X.env.locals < s3.heap.objs.size:=I3.lt;refine kf Dd s3.heap.objs.size H5 s6 ⟨I7,⟨mm,hn⟩,free,Bs lt3,I3.sz,fun x cc e z=>?_,fun p hp z=>?_,?_⟩
     . obtain⟨vv,q⟩:=I3.cell x cc e;have:=q.lt;rw[z] at this;exact AR _ this
     . have:=Ai (I3.pin p hp).1;rw[z] at this;exact AR _ this
     refine⟨(k1++k5)++[Dd],⟨fun b o hb nb=>X6.keep b o hb nb,fun b hb=>?_,X6.frz⟩,(by simpa using SA),⟨Dd,rfl,?_⟩⟩
     . rcases List.mem_append.mp hb with hb | hb
       . exact X6.fresh b hb
       . rw[List.mem_singleton.mp hb]
         cases q:H Dd with
         | none=>rfl
         | some o =>
           by_cases hb:Dd∈io
           . exact absurd (B6 _ hb) hio
           have:=X1.keep Dd o q hb;rw[hD] at this;cases this
     have:=getElem?_len ((io++k1)++k5) Dd;rw[<-S5.len];simpa using this
   | some dd =>
     have hl:i < W.ds.length:=(List.getElem?_eq_some_iff.mp hd).1;have hdr:W.ds.drop i=dd::W.ds.drop (i+1):=by rw[CD hl,(List.getElem?_eq_some_iff.mp hd).2]
     rw[hdr] at e5;obtain⟨hw,e5⟩:=zat e5;obtain⟨⟨ρ6,t6⟩,e6,e5⟩:=zaf e5;obtain⟨⟨b7,t7⟩,e7,e5⟩:=zaf e5;obtain⟨go,yl⟩:=IO.go i dd H5 k5 st5 hd X25 S5 (zbM hw);have hit:=T.item Y yP yW yK yC i [] s5 σ5 H5 FF I5 (start I5 fr5) tn5 go;rw[yA] at hit;refine thn hit ?_;rintro r s6 ⟨u,hr,h6⟩;subst hr;refine thn h6 ?_;rintro _ s7 ⟨x,H7,I7,r7,y7,tn7,fr7⟩;obtain⟨X7,S7,R7⟩:=yl x H7 y7;have X57:Ext (io++k1) k5 H1 H7:=(X25.trans S5 X7).app;have hv7:H7 Dd=some (.lst vs):=X7.keep _ _ hvs (nD nk5);have E7:EnvR X.K H7 ((io++k1)++k5) σ5 ρ5:=by have:=E5.ext S5 X7;rw[Al] at this;exact this
     have R7v:Reps X.K H7 ((io++k1)++k5) vs ac:=by have:=Rvs.ext S5 X7;rw[Al] at this;exact this
     have I7p:=I7.pinned (start I7 fr7) (T.obj _ _ tn7);rw[<-yA,<-yP,<-yW];rw[<-yx];refine thn (hg _ s7 σ5 H7 x u (fun σ8 H8=>∃ k8,Ext ((io++k1)++k5) k8 H7 H8/\StR X.K H8 (((io++k1)++k5)++k8) t6/\EnvR X.K H8 (((io++k1)++k5)++k8) σ8 ρ6) I7p r7 (by rw[yK];exact⟨dd,ρ5,st5,(io++k1)++k5,ρ6,t6,R7,E7,S7,e6,fun σ8 H8 k8 X8 S8 E8=>⟨k8,X8,S8,E8⟩⟩)) ?_;rintro _ s8 ⟨σ8,H8,I8,k8,X8,S8,E8⟩;have S8':StR X.K H8 ((io++k1)++(k5++k8)) t6:=by rw[<-Ak];exact S8
     have E8':EnvR X.K H8 ((io++k1)++(k5++k8)) σ8 ρ6:=by rw[<-Ak];exact E8
     have X38:Ext (io++k1) (k5++k8) H1 H8:=X57.trans S7 X8;have nk8:Dd ∉ k5++k8:=fun hm=>(List.mem_append.mp hm).elim nk5 (nF X8 hv7);refine thn (ht _ s8 σ8 H8 (fun b H9=>b=b7/\∃ k9,Ext ((io++k1)++(k5++k8)) k9 H8 H9/\StR X.K H9 (((io++k1)++(k5++k8))++k9) t7) I8 (by rw[yK];exact⟨ρ6,t6,(io++k1)++(k5++k8),b7,t7,E8',S8',e7,fun H9 k9 X9 S9=>⟨rfl,k9,X9,S9⟩⟩)) ?_;rintro ok s9 ⟨H9,I9,eb,k9,X9,S9⟩;subst eb;have X39:Ext (io++k1) ((k5++k8)++k9) H1 H9:=X38.trans S8' X9;have S9':StR X.K H9 ((io++k1)++((k5++k8)++k9)) t7:=by rw[<-Ak];exact S9
     have E9:EnvR X.K H9 ((io++k1)++((k5++k8)++k9)) σ8 ρ6:=by have:=E8'.ext S8' X9;rw[Ak] at this;exact this
     have hv8:H8 Dd=some (.lst vs):=X8.keep _ _ hv7 (nD nk5);have hv9:H9 Dd=some (.lst vs):=X9.keep _ _ hv8 (nD nk8);have nk9:Dd ∉ (k5++k8)++k9:=fun hm=>(List.mem_append.mp hm).elim nk8 (nF X9 hv8);have R8v:Reps X.K H8 ((io++k1)++(k5++k8)) vs ac:=by have:=R7v.ext S7 X8;rw[Ak] at this;exact this
     have R9v:Reps X.K H9 ((io++k1)++((k5++k8)++k9)) vs ac:=by have:=R8v.ext S8' X9;rw[Ak] at this;exact this
     have back:∀ {Hx:Hp} {sx:Shared} {σx:L2.St},Inv Y ([]++zin fp s7.heap) σx Hx sx->Inv Y [] σx Hx sx/\tn (i+1) sx.heap/\∀ b∈fp,Hx b=none:=fun {Hx sx σx} Ix=>by refine⟨Ix.unpinned,T.keep _ _ _ tn7 fun b hb o e=>(Ix.pin (b,o) (AM _ (AM _ (zcV hb e)))).1,fun b hb=>?_⟩;obtain⟨o,e,dn⟩:=T.obj _ _ tn7 b hb;exact (Ix.pin (b,o) (AM _ (AM _ (zcV hb e)))).2.1
     cases ok with
     | false =>
       rw[if_neg (by decide)];have e5:mCI W g c m (W.ds.drop (i+1)) ρ6 t7=some (rs,t2):=e5;obtain⟨Ib,tnb,frb⟩:=back I9;exact⟨W.ds.length - (i+1),by omega,i+1,σ8,H9,ρ6,t7,(k5++k8)++k9,ac,rs,rfl,Ib,tnb,frb,X39,nk9,S9',E9,⟨vs,hv9,R9v⟩,e5,exs⟩
     | true =>
       rw[if_pos rfl];have e5:((m ρ6 t7).bind fun (x,s3)=>(mCI W g c m (W.ds.drop (i+1)) ρ6 s3).map fun (xs,s4)=>(x::xs,s4))=some (rs,t2):=e5;obtain⟨⟨x10,t10⟩,e10,e5⟩:=zaf e5;obtain⟨⟨rs',t11⟩,e11,e5⟩:=zai e5;cases e5;refine thn (he _ s9 σ8 H9 (fun v H10=>∃ k10,Ext ((io++k1)++((k5++k8)++k9)) k10 H9 H10/\StR X.K H10 (((io++k1)++((k5++k8)++k9))++k10) t10/\Rep X.K H10 (((io++k1)++((k5++k8)++k9))++k10) v x10) I9
         (by rw[yK];exact⟨ρ6,t7,(io++k1)++((k5++k8)++k9),x10,t10,E9,S9',e10,fun v H10 k10 X10 S10 R10=>⟨k10,X10,S10,R10⟩⟩)) fun u10 s10 ⟨v10,H10,I10,r10,k10,X10,S10,R10⟩=>?_
       have X310:Ext (io++k1) (((k5++k8)++k9)++k10) H1 H10:=X39.trans S9' X10;have nk10:Dd ∉ ((k5++k8)++k9)++k10:=fun hm=>(List.mem_append.mp hm).elim nk9 (nF X10 hv9);have S10':StR X.K H10 ((io++k1)++(((k5++k8)++k9)++k10)) t10:=by rw[<-Ak];exact S10
       have hv10:H10 Dd=some (.lst vs):=X10.keep _ _ hv9 (nD nk9);have E10:EnvR X.K H10 ((io++k1)++(((k5++k8)++k9)++k10)) σ8 ρ6:=by have:=E9.ext S9' X10;rw[Ak] at this;exact this
       have R10v:Reps X.K H10 ((io++k1)++(((k5++k8)++k9)++k10)) (vs++[v10]) (ac++[x10]):=by have a:=R9v.ext S9' X10;rw[Ak] at a;rw[Ak] at R10;exact a.append (Reps.cons R10 Reps.nil)
       have hlen:vs.length < sizeLine:=by rw[R9v.length];have:=of_decide_eq_true hfit;rw[exs] at this;simp at this;omega
       refine thn (zgK _ s10 σ8 H10 (.ref Dd) [v10] (.ref Dd) [u10] (fun _ H11=>H11=upd H10 Dd (.lst (vs++[v10]))) I10 rfl (.cons r10 .nil) ⟨Dd,vs,v10,rfl,rfl,hv10,hlen,rfl⟩) ?_;rintro _ s11 ⟨_,H11,I11,_,e11'⟩;subst e11';have nD10:=nD nk10
       -- the new list is written: nothing of the store
       have XU:∀ b o,H10 b=some o->b≠Dd->upd H10 Dd (.lst (vs++[v10])) b=some o:=fun b o hb hn=>by rw[zan hn];exact hb
       have TU:Kp H10 (upd H10 Dd (.lst (vs++[v10]))):=⟨fun a ys hb=>XU a _ hb (zjv hb hv10 (by simp)),fun a o u hb=>XU a _ hb (zjv hb hv10 (by simp))⟩
       have S11:StR X.K (upd H10 Dd (.lst (vs++[v10]))) ((io++k1)++(((k5++k8)++k9)++k10)) t10:=by refine⟨S10'.len,S10'.nd,fun n a ob h1 h2=>?_⟩;have hne:a≠Dd:=fun z=>nD10 (by rw[<-z];exact AF h1);have:=OR.mono (ka:=[]) TU (zan hne) (S10'.ob n a ob h1 h2);rw[Al] at this;exact this
       have mono0:∀ {v:V} {d:D},Rep X.K H10 ((io++k1)++(((k5++k8)++k9)++k10)) v d->Rep X.K (upd H10 Dd (.lst (vs++[v10]))) ((io++k1)++(((k5++k8)++k9)++k10)) v d:=fun {v d} h=>by have:=Rep.mono (ka:=[]) TU h;rw[Al] at this;exact this
       have mono1:∀ {v:List V} {d:List D},Reps X.K H10 ((io++k1)++(((k5++k8)++k9)++k10)) v d->Reps X.K (upd H10 Dd (.lst (vs++[v10]))) ((io++k1)++(((k5++k8)++k9)++k10)) v d:=fun {v d} h=>by have:=Reps.mono (ka:=[]) TU h;rw[Al] at this;exact this
       obtain⟨Ib,tnb,frb⟩:=back I11;refine⟨W.ds.length - (i+1),by omega,i+1,σ8,upd H10 Dd (.lst (vs++[v10])),ρ6,t10,((k5++k8)++k9)++k10,ac++[x10],rs',rfl,Ib,tnb,frb,⟨fun b o hb nb=>XU b o (X310.keep b o hb nb) (fun z=>by rw[z,hD] at hb;cases hb),X310.fresh,fun b o u hb=>XU b _ (X310.frz b o u hb) (fun z=>by rw[z,hD] at hb;cases hb)⟩,nk10,S11,⟨E10.len,fun j dj hj=>?_⟩,⟨_,zaC,mono1 R10v⟩,e11,by rw[exs,Ak];rfl⟩;obtain⟨v,q,r⟩:=E10.at_ j dj hj;exact⟨v,q,mono0 r⟩
 have l4:=loop s4 I4 tn4;exact codeAny_compStart_list l4 (T.self _ 0 _ _ _ tn4 l4)
def zch(hx:X.xe=FF)(hc:X.calm=true)(Z:CompS X scope N' nt fr)(hi:SI X tg iter mi)
   (hg:∀ C s0 H0 fp,SG (zcX X scope N' (zcY X scope C) C s0 H0 fp) tg g) (ht:∀ C s0 H0 fp,SC (zcX X scope N' (zcY X scope C) C s0 H0 fp) ifs c) (he:∀ C s0 H0 fp,SE (zcX X scope N' (zcY X scope C) C s0 H0 fp) elt m)
   (hs:∀ x,foldedSetIterable iter X.env x=pure x:=by intro _;rfl):SE X (.ListComp elt [⟨tg,iter,ifs,0⟩] scope pos) (zcf mi nt fr g c m):=by
 rintro pins s σ H Q I ⟨ρ,st,io,d,st',E,S,e,k⟩;rw[eval_ListComp];refine zjb (use:=none) hx hc Z hi hg ht he hs I E S e fun Dd C H5 s6 R=>?_;obtain⟨m5,hn⟩:=R.ns;refine⟨m5,hn,fun h' hsb=>?_⟩;obtain⟨ka,X5,S5,R5⟩:=R.val;exact⟨.ref Dd,H5,R.inv.turned (t':=s6.toks) (it:=C) (fun b o hb q=>(hsb.2 b hb).trans q) R.free R.ne (.inr R.young) R.cells R.pin,rfl,k _ _ ka X5 S5 R5⟩
def zc6{x:Str}{spos:Pos}(hx:X.xe=FF)(hc:X.calm=true)(Z:CompS X scope N' nt fr)(hi:SI X tg iter mi)
   (hg:∀ C s0 H0 fp,SG (zcX X scope N' (zcY X scope C) C s0 H0 fp) tg g) (ht:∀ C s0 H0 fp,SC (zcX X scope N' (zcY X scope C) C s0 H0 fp) ifs c) (he:∀ C s0 H0 fp,SE (zcX X scope N' (zcY X scope C) C s0 H0 fp) elt m)
   (hN:X.N.Nodup) (hi':X.N[i]?=some x) (hl:X.env.scope.names.lookup x=some .local)
   (hsw:swapsWith (.ListComp elt [⟨tg,iter,ifs,0⟩] scope pos) (some<|.Name x pos') spos.line X.env=pure true:=by rfl)
   (hs:∀ x,foldedSetIterable iter X.env x=pure x:=by intro _;rfl):SS X (.Assign [.Name x pos'] (.ListComp elt [⟨tg,iter,ifs,0⟩] scope pos) spos) (mAsg (zcf mi nt fr g c m)<|gNm i):=by
 intro pins s σ H N I h;obtain⟨ρ,st,io,f,st',E,S,e,w⟩:=zcH.mp h;obtain⟨⟨d,s1⟩,e1,e⟩:=zaf e;obtain⟨⟨ρ',s2⟩,e2,e⟩:=zai e;cases e;cases e2;rw[exec_Assign_Name_used _ _ _ _ hsw];refine Aa<|BL<|Aa ?_;show wpAny _ X.A (do let _ <-comprehension (.ListComp elt [⟨tg,iter,ifs,0⟩] scope pos) scope X.env _ (newList []) false (eval iter X.env) (some<|assign (.Name x pos') X.env)) _ _ s;refine Aa<|thn (zjb (use:=some (assign (.Name x pos') X.env)) (Qf:=fun _ s'=>SP X pins N .next s') hx hc Z hi hg ht he hs I E S e1 fun Dd C H5 s6 R=>?_) fun _ s' hq=>Ae (Ae hq);obtain⟨m5,hn⟩:=R.ns;obtain⟨ka,X5,S5,R5⟩:=R.val;show wpAny _ _ (assign (.Name x pos') X.env<|.ref Dd) _ _ _;refine Ft<|zgu (v:=.ref Dd) R.inv hN hi' (.inl hl) rfl (?_)<|.inr hl;rintro s7 I7 ⟨a,sb,ha⟩;have hCa:C≠a:=fun z=>by
   rcases ha with q | q
   . exact R.ne<|z.trans q
   exact R.cells _ _ q z.symm
 refine⟨m5,hn.sameBut sb hCa,fun h' hsb=>?_⟩;refine⟨_,H5,I7.turned (t':=s7.toks) (it:=C) (fun b o hb q=>(hsb.2 b hb).trans q) R.free R.ne (.inr R.young) R.cells R.pin,?_⟩;exact w _ _ ka X5 S5<|(E.ext S X5).set i R5
end
variable {v:V}
def addD:G2
 | .int i,.int j,st=>some (.int (i+j),st)
 | .str a,.str b,st=>if fits (a.length+b.length)=true then some (.str (a++b),st) else none
 | .tup a,.tup b,st=>if (!a.isEmpty&&fits (a.length+b.length))=true then some (.tup (a++b),st) else none
 | .ref a,.ref b,st=>match st[a]?,st[b]? with
   | some (.lst x),some (.lst y)=>if fits (x.length+y.length)=true then some (.ref st.length,st++[.lst (x++y)]) else none
   | _,_=>none
 | _,_,_=>none
def zau:OpM X (binaryOp .Add) addD:=by
 rintro pins s σ H x y v u Q I rx ry ⟨dx,dy,st,io,d,st',Rx,Ry,S,e,k⟩
 cases dx with
 | int i =>
   cases dy with
   | int j=>cases e;exact zq2 pins s σ H x y v u Q I rx ry ⟨i,j,Rx,Ry,k.now S rfl⟩
   | _=>cases e
 | str i =>
   cases dy with
   | str j =>
     obtain⟨hf,e⟩:=zat e
     cases e;exact zis pins s σ H x y v u Q I rx ry ⟨i,j,Rx,Ry,of_decide_eq_true hf,k.now S rfl⟩
   | _=>cases e
 | tup i =>
   cases dy with
   | tup j =>
     obtain⟨hf,e⟩:=zat e;cases e;rw[Am] at hf;obtain⟨p,xs,ex,hp,r1⟩:=Rx;obtain⟨q,ys,ey,hq,r2⟩:=Ry;refine zoN pins s σ H x y v u Q I rx ry ⟨p,q,xs,ys,ex,ey,SqT.of hp,SqT.of hq,fun z=>?_,by rw[r1.length,r2.length];exact of_decide_eq_true hf.2,fun z=>?_,fun z p hp=>k.tup S (r1.append r2) hp⟩
     . have:=r1.length;rw[z] at this;have:i=[]:=Cm this.symm;rw[this] at hf;exact absurd hf.1<|by decide
     have:=r2.length;rw[z] at this;have:j=[]:=Cm this.symm;subst this;rw[Al] at k;exact k.now S ⟨p,xs,rfl,hp,r1⟩
   | _=>cases e
 | ref i =>
   cases dy with
   | ref j =>
     unfold addD at e;dsimp only at e
     split at e
     . rename_i l1 l2 e1 e2;obtain⟨hf,e⟩:=zat e;cases e;obtain⟨p,ex,hp⟩:=Rx;obtain⟨q,ey,hq⟩:=Ry;obtain⟨xs,h1,r1⟩:=S.ob i p _ hp e1;obtain⟨ys,h2,r2⟩:=S.ob j q _ hq e2;exact zq1 pins s σ H x y v u Q I rx ry ⟨p,q,xs,ys,ex,ey,h1,h2,by rw[r1.length,r2.length];exact of_decide_eq_true hf,fun p hp=>k.lst S (r1.append r2) hp⟩
     . cases e
   | _=>cases e
 | _=>cases e
def intD(c:Int->Int->Bool)(g:Int->Int->D):G2
 | .int i,.int j,st=>if c i j=true then some (g i j,st) else none
 | _,_,_=>none
def zek{f:Value->Value->Sem Value}{C:Int->Int->Prop}{c:Int->Int->Bool}{g:Int->Int->Int}(h:OpR X f (rI C fun i j=>.int (g i j)))(hc:∀ i j,c i j=true->C i j):OpM X f (intD c fun i j=>.int (g i j)):=by
 rintro pins s σ H x y v u Q I rx ry ⟨dx,dy,st,io,d,st',Rx,Ry,S,e,k⟩
 cases dx with
 | int i =>
   cases dy with
   | int j =>
     obtain⟨hf,e⟩:=zat e
     cases e;exact h pins s σ H x y v u Q I rx ry ⟨i,j,Rx,Ry,hc i j hf,k.now S rfl⟩
   | _=>cases e
 | _=>cases e
def tt2:Int->Int->Bool:=fun _ _=>true
def subD:G2:=intD tt2 fun i j=>.int<|i - j
def zdo:OpM X (binaryOp .Sub) subD:=zek (C:=fun _ _=>True) (fun pins s σ H x y v u Q I rx ry ⟨i,j,h1,h2,_,q⟩=>zqV pins s σ H x y v u Q I rx ry ⟨i,j,h1,h2,q⟩) fun _ _ _=>trivial
def in64(i:Int):Bool:=decide (-(2 ^ 64) < i)&&decide (i < 2 ^ 64)
def mulD:G2:=intD (fun i j=>in64 i || in64 j) fun i j=>.int<|i*j
def zoK:OpM X (binaryOp .Mult) mulD:=zek zqW fun i j h=>by
 rw[FZ] at h;unfold in64 at h;rw[Am,Am] at h
 rcases h with h | h
 . exact .inl ⟨of_decide_eq_true h.1,of_decide_eq_true h.2⟩
 exact .inr ⟨of_decide_eq_true h.1,of_decide_eq_true h.2⟩
def modD:G2:=intD (fun _ j=>decide (0 < j)) fun i j=>.int<|i % j
def zbY:OpM X (binaryOp .Mod) modD:=zek zqX fun i j h=>of_decide_eq_true h
def cmpD(g:Int->Int->Bool):G2
 | .int i,.int j,st=>some (.bl (g i j),st)
 | _,_,_=>none
def zgG{f:Value->Value->Sem Value}{g:Int->Int->Bool}(h:OpR X f (rI0 fun i j=>.bl (g i j))):OpM X f (cmpD g):=by
 rintro pins s σ H x y v u Q I rx ry ⟨dx,dy,st,io,d,st',Rx,Ry,S,e,k⟩
 cases dx with
 | int i =>
   cases dy with
   | int j=>cases e;exact h pins s σ H x y v u Q I rx ry ⟨i,j,Rx,Ry,k.now S rfl⟩
   | _=>cases e
 | _=>cases e
def ltD:G2:=cmpD fun i j=>decide (i < j)
def leD:G2:=cmpD fun i j=>decide (i<=j)
def gtD:G2:=cmpD fun i j=>decide (j < i)
def geD:G2:=cmpD fun i j=>decide (j<=i)
def zhk:OpM X (compareOp .Lt) ltD:=zgG zsJ
def zhl:OpM X (compareOp .LtE) leD:=zgG zsK
def zq0:OpM X (compareOp .Gt) gtD:=zgG zsL
def zmF:OpM X (compareOp .GtE) geD:=zgG zsM
def zm1:D->Bool
 | .non=>true
 | _=>false
def isND:G2:=fun x y st=>match y with
 | .non=>some (.bl (zm1 x),st)
 | _=>none
def znH:G2:=fun x y st=>match y with
 | .non=>some (.bl !zm1 x,st)
 | _=>none
def zk8(h:Rep K H io v d):decide (v=.non)=zm1 d:=by
 cases d with
 | non=>cases (show v=.non from h);rfl
 | bl b=>cases (show v=.bl b from h);rfl
 | int b=>cases (show v=.int b from h);rfl
 | str b=>cases (show v=.str b from h);rfl
 | tup b=>obtain⟨a,xs,rfl,_⟩:=h;rfl
 | ref b=>obtain⟨a,rfl,_⟩:=h;rfl
 | kl b=>obtain⟨a,xs,rfl,_⟩:=h;rfl
 | fn b=>obtain⟨a,rfl,_⟩:=h;rfl
 | er b c f=>cases f <;> (obtain⟨_,_,_,_,h⟩:=h;first | (obtain⟨rfl,_⟩:=h;rfl) | (obtain⟨_,rfl,_⟩:=h;rfl) | (obtain⟨_,_,rfl,_⟩:=h;rfl))
def zoL:OpM X (compareOp .Is) isND:=by
 rintro pins s σ H x y v u Q I rx ry ⟨dx,dy,st,io,d,st',Rx,Ry,S,e,k⟩
 cases dy with
 | non =>
   cases e;refine zqY pins s σ H x y v u Q I rx ry ⟨Ry,?_⟩;rw[zk8 Rx];exact k.now S rfl
 | _=>cases e
def zmC:OpM X (compareOp .IsNot) znH:=by
 rintro pins s σ H x y v u Q I rx ry ⟨dx,dy,st,io,d,st',Rx,Ry,S,e,k⟩
 cases dy with
 | non =>
   cases e;refine zoJ pins s σ H x y v u Q I rx ry ⟨Ry,?_⟩;rw[zk8 Rx];exact k.now S rfl
 | _=>cases e
def negD:D->Sto->Option (D×Sto)
 | .int i,st=>some (.int (-i),st)
 | _,_=>none
def mNeg(m:ME):ME:=fun ρ st=>(m ρ st).bind fun (x,s)=>negD x s
def zh3(ha:SE X a ma):SE X (.UnaryOp .USub a pos) (mNeg ma):=PE.imp (zsC zpV ha) <| by
 rintro σ H Q ⟨ρ,st,io,d,st',E,S,e,k⟩;obtain⟨⟨x,s1⟩,e1,e⟩:=zaf e
 cases x with
 | int i =>
   cases e;exact⟨ρ,st,io,.int i,_,E,S,e1,fun v H1 k1 X1 S1 R1=>⟨i,R1,k _ H1 k1 X1 S1 rfl⟩⟩
 | _=>cases e
def idxD:G2
 | .tup ds,.int i,st=>(atI ds i).map fun d=>(d,st)
 | .ref n,.int i,st=>(zbs st n).bind fun ds=>(atI ds i).map fun d=>(d,st)
 | .kl ds,.int i,st=>(atI ds i).map fun d=>(d,st)
 | .str z,.int i,st=>if fits z.length=true then (atI z.cps.toList i).map fun c=>(.str ⟨#[c]⟩,st) else none
 | _,_,_=>none
def zjm{i:Int}(r:Reps K H io xs ds)(h:atI ds i=some d):∃ v,atI xs i=some v/\Rep K H io v d:=by unfold atI at h ⊢;rw[r.length];obtain⟨j,hj,h⟩:=zaf h;obtain⟨v,hv,rv⟩:=r.get h;exact⟨v,by rw[hj];exact hv,rv⟩
def ix_M:IxR X (r2M X.K idxD):=by
 rintro value slice pins s σ H x y v u Q I rx ry ⟨dx,dy,st,io,d,st',Rx,Ry,S,e,k⟩ hs
 cases dy with
 | int i =>
   cases dx with
   | tup ds =>
     obtain⟨d',e1,e⟩:=zai e;cases e;obtain⟨p,xs,ex,hp,r⟩:=Rx;obtain⟨w,hw,rw'⟩:=zjm r e1;exact zaR value slice pins s σ H x y v u Q I rx ry ⟨p,xs,i,w,ex,Ry,SqT.of hp,hw,k.now S rw'⟩ hs
   | ref n =>
     obtain⟨ds,e0,e⟩:=zaf e;obtain⟨d',e1,e⟩:=zai e;cases e;obtain⟨p,ex,hp⟩:=Rx;obtain⟨xs,hx,r⟩:=za7 S hp e0;obtain⟨w,hw,rw'⟩:=zjm r e1;exact zlr value slice pins s σ H x y v u Q I rx ry ⟨p,xs,i,w,ex,Ry,hx,hw,k.now S rw'⟩ hs
   | kl ds =>
     obtain⟨d',e1,e⟩:=zai e;cases e;obtain⟨p,xs,ex,hx,r⟩:=Rx;obtain⟨w,hw,rw'⟩:=zjm r e1;exact zlr value slice pins s σ H x y v u Q I rx ry ⟨p,xs,i,w,ex,Ry,hx.sq,hw,k.now S rw'⟩ hs
   | str z =>
     obtain⟨hf,e⟩:=zat e;obtain⟨d',e1,e⟩:=zai e;cases e;exact ziO value slice pins s σ H x y v u Q I rx ry ⟨z,i,d',Rx,Ry,of_decide_eq_true hf,e1,k.now S rfl⟩ hs
   | _=>cases e
 | _=>cases dx <;> cases e
def zsv(ha:SE X a ma)(hb:SE X b mb)(hs:zjs b:=by intro _ _;rfl):SE X (.Subscript a b pos) (mB idxD ma mb):=PE.imp (zsF ix_M ha hb hs) fun _ _ _ h=>zdI h
def lenD:GN
 | [.tup ds],st=>some (.int ds.length,st)
 | [.ref n],st=>(zbs st n).map fun ds=>(.int ds.length,st)
 | [.kl ds],st=>some (.int ds.length,st)
 | [.str z],st=>if fits z.length=true then some (.int z.length,st) else none
 | _,_=>none
def zaQ:zdF X (.builtin "len") lenD:=by
 rintro pins s σ H xs us Q I r ⟨ds,st,io,d,st',R,S,e,k⟩
 cases ds with
 | nil=>cases e
 | cons d0 r0 =>
 cases r0 with
 | cons d1 r1=>cases d0 <;> cases e
 | nil =>
 cases d0 with
 | tup ts =>
   cases e;obtain⟨v,rfl,p,ys,rfl,hp,r1⟩:=R.one;refine zcN pins s σ H _ us Q I r ⟨p,ys,rfl,.inr<|SqT.of hp,?_⟩;rw[r1.length];exact k.now S rfl
 | ref n =>
   obtain⟨ts,e0,e⟩:=zai e;cases e;obtain⟨v,rfl,p,rfl,hp⟩:=R.one;obtain⟨ys,hx,r1⟩:=za7 S hp e0;refine zcN pins s σ H _ us Q I r ⟨p,ys,rfl,.inl hx,?_⟩;rw[r1.length];exact k.now S rfl
 | kl ts =>
   cases e;obtain⟨v,rfl,p,ys,rfl,hx,r1⟩:=R.one;refine zcN pins s σ H _ us Q I r ⟨p,ys,rfl,.inl hx.sq,?_⟩;rw[r1.length];exact k.now S rfl
 | str z =>
   obtain⟨hf,e⟩:=zat e;cases e;obtain⟨v,rfl,rfl⟩:=R.one;exact zgm pins s σ H _ us Q I r ⟨z,rfl,of_decide_eq_true hf,k.now S rfl⟩
 | _=>cases e
def intC:GN
 | [.int i],st=>some (.int i,st)
 | [.bl b],st=>some (.int (if b then 1 else 0),st)
 | _,_=>none
def zkT:zdF X (.type "int") intC:=by
 rintro pins s σ H xs us Q I r ⟨ds,st,io,d,st',R,S,e,k⟩
 cases ds with
 | nil=>cases e
 | cons d0 r0 =>
 cases r0 with
 | cons d1 r1=>cases d0 <;> cases e
 | nil =>
 cases d0 with
 | int i =>
   cases e;obtain⟨v,rfl,rfl⟩:=R.one;exact zg2 pins s σ H _ us Q I r<|.inl ⟨i,rfl,k.now S rfl⟩
 | bl b =>
   cases e;obtain⟨v,rfl,rfl⟩:=R.one;exact zg2 pins s σ H _ us Q I r<|.inr ⟨b,rfl,k.now S rfl⟩
 | _=>cases e
def zo0:GN
 | [.int i,.int j],st=>some (.int (if j < i then j else i),st)
 | _,_=>none
def zkR(hc:X.calm=true):zdF X (.builtin "min") zo0:=by
 rintro pins s σ H xs us Q I r ⟨ds,st,io,d,st',R,S,e,k⟩;unfold zo0 at e
 split at e
 . rename_i i j;cases e;obtain⟨v,u,rfl,rfl,rfl⟩:=R.two;exact zkS hc pins s σ H _ us Q I r ⟨i,j,rfl,k.now S rfl⟩
 . cases e
def zdK:GN
 | [.tup ds],st=>some (.tup ds,st)
 | [.ref n],st=>(zbs st n).map fun ds=>(.tup ds,st)
 | _,_=>none
def zbB:zdF X (.type "tuple") zdK:=by
 rintro pins s σ H xs us Q I r ⟨ds,st,io,d,st',R,S,e,k⟩
 cases ds with
 | nil=>cases e
 | cons d0 r0 =>
 cases r0 with
 | cons d1 r1=>cases d0 <;> cases e
 | nil =>
 cases d0 with
 | tup ts =>
   cases e;obtain⟨v,rfl,p,ys,rfl,hp,r1⟩:=R.one;exact zds pins s σ H _ us Q I r ⟨p,ys,rfl,.inr ⟨SqT.of hp,k.now S ⟨p,ys,rfl,hp,r1⟩⟩⟩
 | ref n =>
   obtain⟨ts,e0,e⟩:=zai e;cases e;obtain⟨v,rfl,p,rfl,hp⟩:=R.one;obtain⟨ys,hx,r1⟩:=za7 S hp e0;exact zds pins s σ H _ us Q I r ⟨p,ys,rfl,.inl ⟨hx,fun l hl=>k.tup S r1 hl⟩⟩
 | _=>cases e
def toPs(f:D->Option PyData):List D->Option (List PyData)
 | []=>some []
 | d::ds=>(f d).bind fun p=>(toPs f ds).map fun ps=>p::ps
def toP:Nat->Sto->D->Option PyData
 | 0,_,_=>none
 | n+1,st,d=>match d with
   | .non=>some .none
   | .bl b=>some<|.bool b
   | .int i=>some<|.int i
   | .str x=>if Bb x=true then some (.str x) else none
   | .tup ds=>(toPs (toP n st) ds).map .tuple
   | .ref k=>(zbs st k).bind fun ds=>(toPs (toP n st) ds).map .list
   | .kl _=>none
   | .fn _=>none
   | .er _ _ _=>none
def zdh{n:Nat}:∀ {ps:List PyData},(∀ p∈ps,p.depth<=n)->Ef ps<=n
 | [],_=>by rw[Ef];exact Bd _
 | p::ps,h=>by rw[Ef];exact Nat.max_le.mpr ⟨h p An,zdh fun q hq=>h q (Aj _ hq)⟩
def zdZ{ps:List PyData}:(∀ p∈ps,p.canLay0=true)->BE ps=true:=by
 induction ps with
 | nil=>intro _;simp only[BE]
 | cons p ps ih =>
   intro h;simp only[BE];rw[h p An,ih fun q hq=>h q (Aj _ hq)];rfl
def zfV{f:D->Option PyData}:∀ {ds:List D} {ps:List PyData},toPs f ds=some ps->∀ p∈ps,∃ d,f d=some p
 | [],ps,h,p,hp=>by cases h;exact absurd hp<|by simp
 | d::ds,ps,h,p,hp=>by
   obtain⟨q,e1,h⟩:=zaf h;obtain⟨qs,e2,h⟩:=zai h;subst h
   rcases List.mem_cons.mp hp with rfl | hp
   . exact⟨d,e1⟩
   exact zfV e2 p hp
def zdL:∀ {n:Nat} {st:Sto} {d:D} {p:PyData},toP n st d=some p->p.canLay0=true/\p.depth<=n
 | 0,_,_,_,h=>by cases h
 | n+1,st,d,p,h=>by
   cases d with
   | non=>cases h;exact⟨by simp only[Bt],by simp only[CK];exact Bd _⟩
   | bl b=>cases h;exact⟨by simp only[Bt],by simp only[CK];exact Bd _⟩
   | int b=>cases h;exact⟨by simp only[Bt],by simp only[CK];exact Bd _⟩
   | str b =>
     obtain⟨hs,h⟩:=zat h
     cases h;exact⟨by simp only[Bt];exact hs,by simp only[CK];exact Bd _⟩
   | tup ds =>
     obtain⟨ps,e,h⟩:=zai h;subst h;have q:∀ p∈ps,p.canLay0=true/\p.depth<=n:=fun p hp=>let ⟨d,hd⟩:=zfV e p hp;zdL hd
     exact⟨by simp only[Bt];exact zdZ fun p hp=>(q p hp).1,by simp only[CK];exact C4 (zdh fun p hp=>(q p hp).2)⟩
   | kl ds=>cases h
   | fn ds=>cases h
   | er _ _ _=>cases h
   | ref k =>
     obtain⟨ds,e0,h⟩:=zaf h;obtain⟨ps,e,h⟩:=zai h;subst h;have q:∀ p∈ps,p.canLay0=true/\p.depth<=n:=fun p hp=>let ⟨d,hd⟩:=zfV e p hp;zdL hd
     exact⟨by simp only[Bt];exact zdZ fun p hp=>(q p hp).1,by simp only[CK];exact C4 (zdh fun p hp=>(q p hp).2)⟩
def zc9{f:D->Option PyData}(hf:∀ {v:V} {u:Value} {d:D} {p:PyData},Rep X.K H io v d->RelV v u->f d=some p->∃ as,Reads s.heap u p as) :
   ∀ {xs:List V} {us:List Value} {ds:List D} {ps:List PyData},Reps X.K H io xs ds->Vals xs us->toPs f ds=some ps->∃ as,ReadsAll s.heap us ps as
 | _,_,[],ps,h,r,e=>by
   cases (show _=[] from h)
   cases r;cases e;exact⟨_,.nil⟩
 | _,_,d::ds,ps,h,r,e=>by
   obtain⟨y,ys,rfl,h1,h2⟩:=h
   cases r with
   | cons r1 r2 =>
     obtain⟨q,e1,e⟩:=zaf e;obtain⟨qs,e2,e⟩:=zai e;subst e;obtain⟨as,ra⟩:=hf h1 r1 e1;obtain⟨bs,rb⟩:=zc9 hf h2 r2 e2;exact⟨_,.cons ra rb⟩
def zbE(I:Inv X pins σ H s)(S:StR X.K H io st):∀ {n:Nat} {v:V} {u:Value} {d:D} {p:PyData},Rep X.K H io v d->RelV v u->toP n st d=some p->∃ as,Reads s.heap u p as
 | 0,_,_,_,_,_,_,h=>by cases h
 | n+1,v,u,d,p,h,r,e=>by
   cases d with
   | non=>cases e;cases (show v=.non from h);cases r;exact⟨_,.none⟩
   | bl b=>cases e;cases (show v=.bl b from h);cases r;exact⟨_,.bool _⟩
   | int b=>cases e;cases (show v=.int b from h);obtain⟨t,rfl⟩:=r;exact⟨_,.int _ _⟩
   | str b =>
     obtain⟨hs,e⟩:=zat e
     cases e;cases (show v=.str b from h);obtain⟨t,rfl⟩:=r;exact⟨_,.str _ _⟩
   | tup ds =>
     obtain⟨ps,e',q⟩:=zai e;subst q;obtain⟨a,xs,rfl,ha,rs⟩:=h;cases r;obtain⟨its,rv,⟨o,ho,hc,k,hd⟩,hz⟩:=I.tuple<|SqT.of ha;obtain⟨as,ra⟩:=zc9 (f:=toP n st) (fun h r e=>zbE I S h r e) rs rv e';exact⟨_,.tuple ho hc hd<|by simpa using ra⟩
   | kl ds=>cases e
   | fn ds=>cases e
   | er _ _ _=>cases e
   | ref k =>
     obtain⟨ds,e0,e⟩:=zaf e;obtain⟨ps,e',q⟩:=zai e;subst q;obtain⟨a,rfl,ha⟩:=h;cases r;obtain⟨xs,hx,rs⟩:=za7 S ha e0;obtain⟨its,rv,⟨o,k,ho,hc,_,hd⟩,hz⟩:=I.list hx;obtain⟨as,ra⟩:=zc9 (f:=toP n st) (fun h r e=>zbE I S h r e) rs rv e';exact⟨_,.list ho hc hd<|by simpa using ra⟩
def eqD:G2:=fun x y st=>(toP 100 st x).bind fun p=>(toP 100 st y).map fun q=>(.bl (Dk p q),st)
def neD:G2:=fun x y st=>(toP 100 st x).bind fun p=>(toP 100 st y).map fun q=>(.bl !PyData.eqv p q,st)
def zf5(hu:X.A.units+100 < cLine):OpM X (compareOp .Eq) eqD:=by rintro pins s σ H x y v u Q I rx ry ⟨dx,dy,st,io,d,st',Rx,Ry,S,e,k⟩;obtain⟨p,e1,e⟩:=zaf e;obtain⟨q,e2,e⟩:=zai e;cases e;obtain⟨as,ra⟩:=zbE I S Rx rx e1;obtain⟨bs,rb⟩:=zbE I S Ry ry e2;have h1:=zdL e1;have h2:=zdL e2;exact PySem.SeqAt.compareEq_reads ra rb h1.1 h2.1 (BX (Ds (Aw (F3 _ _) h1.2) _) hu) ⟨.bl _,H,I,rfl,k.now S rfl⟩
def zke(hu:X.A.units+100 < cLine):OpM X (compareOp .NotEq) neD:=by rintro pins s σ H x y v u Q I rx ry ⟨dx,dy,st,io,d,st',Rx,Ry,S,e,k⟩;obtain⟨p,e1,e⟩:=zaf e;obtain⟨q,e2,e⟩:=zai e;cases e;obtain⟨as,ra⟩:=zbE I S Rx rx e1;obtain⟨bs,rb⟩:=zbE I S Ry ry e2;have h1:=zdL e1;have h2:=zdL e2;exact PySem.SeqAt.compareNe_reads ra rb h1.1 h2.1 (BX (Ds (Aw (F3 _ _) h1.2) _) hu) ⟨.bl _,H,I,rfl,k.now S rfl⟩
def zbz(hr:Room k A):A.units+100 < cLine:=by have:=hr.un;omega
variable {t':Nat}
section
variable {h':Heap}
def Inv.turnNew{fp:List Addr}{o:HO}(I:Inv X pins σ H s)(hf:∀ b∈fp,FpOk X pins H b)(k:∀ b ob,b ∉ fp->s.heap.get? b=some ob->h'.get? b=some ob)(hp:s.heap.objs.size<=p)
   (hfp:∀ b∈fp,∀ ob,s.heap.get? b=some ob->∃ ob',h'.get? b=some ob') (new:zdu X.prog X.w (upd H p o) h' p o):Inv X pins σ (upd H p o) { s with heap:=h',toks:=t' }:=by
 have hpn:=I.hok.fresh hp;have nlt:∀ b ob,s.heap.get? b=some ob->b≠p:=fun b ob e=>Ar<|Av (Ai e) hp;refine Inv.step (ch:=fp) (g':=s.gens) (d':=s.drawn) I (fun b hb=>⟨(hf b hb).2.2.2.1,(hf b hb).2.1,(hf b hb).2.2.2.2.1,(hf b hb).2.2.2.2.2⟩) (fun b ob _ _ hc e _=>k b ob hc e) (fun b ob _ _ hc e _=>⟨ob.slots,k b ob hc e⟩)
   (fun b ob hc e n=>by rw[zan (nlt b ob e)];exact n) (fun b ob hc e=>⟨ob,k b ob hc e⟩) (fun b xs e=>by rw[zan (zaq e hpn)];exact e) (fun b ob u e=>by rw[zan (zaq e hpn)];exact e)
   (fun b ps e=>⟨#[],by rw[zan (zaq e hpn),e];simp⟩) (fun m hm=>?_) (fun b u e=>?_) I.bare
 . obtain⟨ob,es,ep,ho,r⟩:=hm;exact⟨ob,es,ep,k _ ob (fun z=>(hf _ z).2.1 rfl) ho,r⟩
 . by_cases hb:b=p
   . subst hb;rw[zaC] at e;cases e;exact new
   . rw[zan hb] at e;refine (I.hok b u e).stay (fun c v hc q=>k c v (fun z=>?_) q) (fun c q=>by rw[zan (zaq q hpn)];exact q) fun c xs q=>by rw[zan (zaq q hpn)];exact q
     have hz:=(hf c z).1
     rcases hc with rfl | hc
     . rw[hz] at e;cases e
     rw[hz] at hc;cases hc
def Inv.turnAll{fp:List Addr}(I:Inv X pins σ H s)(hf:∀ b∈fp,FpOk X pins H b)(k:∀ b ob,b ∉ fp->s.heap.get? b=some ob->h'.get? b=some ob):Inv X pins σ H { s with heap:=h',toks:=t' }:=by
 refine Inv.step (ch:=fp) (g':=s.gens) (d':=s.drawn) I (fun b hb=>⟨(hf b hb).2.2.2.1,(hf b hb).2.1,(hf b hb).2.2.2.2.1,(hf b hb).2.2.2.2.2⟩) (fun b ob _ _ hc e _=>k b ob hc e) (fun b ob _ _ hc e _=>⟨ob.slots,k b ob hc e⟩)
   (fun b ob hc e n=>n) (fun b ob hc e=>⟨ob,k b ob hc e⟩) (fun b xs e=>e) (fun b ob u e=>e)
   (fun b ps e=>⟨#[],by rw[e];simp⟩) (fun m hm=>?_) (fun b u e=>?_) I.bare
 . obtain⟨ob,es,ep,ho,r⟩:=hm;exact⟨ob,es,ep,k _ ob (fun z=>(hf _ z).2.1 rfl) ho,r⟩
 . refine (I.hok b u e).stay (fun c v hc q=>k c v (fun z=>?_) q) (fun c q=>q) fun c xs q=>q;have hz:=(hf c z).1
   rcases hc with rfl | hc
   . rw[hz] at e;cases e
   rw[hz] at hc;cases hc
end
def boot_enumerate:bootBuiltins "enumerate"=some (.type "enumerate"):=by decide +kernel
def pairs(ds:List D):List D:=(ds.zipIdx).map fun (d,k)=>.tup [.int (k:Nat),d]
def zka(h:(pairs ds)[i]?=some d):∃ e,ds[i]?=some e/\d=.tup [.int (i:Nat),e]:=by
 unfold pairs at h;rw[AB,List.getElem?_zipIdx] at h
 cases e:ds[i]? with
 | none=>rw[e] at h;cases h
 | some x =>
   rw[e] at h;simp at h;exact⟨x,rfl,h.symm⟩
def pairs_len(ds:List D):(pairs ds).length=ds.length:=by unfold pairs;simp
section
variable {κ:Type} [DecidableEq κ]
def valD(kvs:List (κ×D))(k:κ):Option D:=(kvs.find? fun kv=>decide (kv.1=k)).map (·.2)
def putD(kvs:List (κ×D))(k:κ)(d:D):List (κ×D) :=
 if (kvs.any fun kv=>decide (kv.1=k))=true then kvs.map (fun kv=>if kv.1=k then (kv.1,d) else kv) else kvs++[(k,d)]
def KR.any{ps:List (κ×V)}{kvs:List (κ×D)}(r:KR κ K H io ps kvs)(k:κ):(ps.any fun kv=>decide (kv.1=k))=(kvs.any fun kv=>decide (kv.1=k)):=by
 induction r with
 | nil=>rfl
 | cons z t ih=>rw[Cs,Cs,ih,z.1]
def KR.length{ps:List (κ×V)}{kvs:List (κ×D)}(r:KR κ K H io ps kvs):ps.length=kvs.length:=Br r
def KR.val{ps:List (κ×V)}{kvs:List (κ×D)}(r:KR κ K H io ps kvs)(k:κ):(valD kvs k=none/\valV ps k=none)\/∃ d v,valD kvs k=some d/\valV ps k=some v/\Rep K H io v d:=by
 induction r with
 | nil=>exact .inl ⟨rfl,rfl⟩
 | @cons p q l1 l2 z t ih =>
   unfold valD valV at *;rw[AW,AW,z.1]
   by_cases e:q.1=k
   . rw[decide_eq_true e];exact .inr ⟨q.2,p.2,rfl,rfl,z.2⟩
   rw[decide_eq_false e];exact ih
def KR.append{ps qs:List (κ×V)}{kvs lvs:List (κ×D)}(r:KR κ K H io ps kvs)(r':KR κ K H io qs lvs):KR κ K H io (ps++qs) (kvs++lvs):=by
 induction r with
 | nil=>exact r'
 | cons z t ih=>exact .cons z ih
def KR.put{ps:List (κ×V)}{kvs:List (κ×D)}(r:KR κ K H io ps kvs)(k:κ)(rv:Rep K H io v d):KR κ K H io (putK ps k v) (putD kvs k d):=by
 unfold putK putD;rw[KR.any r k]
 by_cases e:(kvs.any fun kv=>decide (kv.1=k))=true
 . rw[if_pos e,if_pos e]
   induction r with
   | nil=>exact .nil
   | @cons p q l1 l2 z t ih =>
     rw[Ay,Ay];have hrest:KR κ K H io (l1.map fun kv=>if kv.1=k then (kv.1,v) else kv) (l2.map fun kv=>if kv.1=k then (kv.1,d) else kv):=by
       clear ih e
       induction t with
       | nil=>exact .nil
       | @cons p q l1 l2 z t ih =>
         rw[Ay,Ay];refine .cons ?_ ih;rw[z.1]
         by_cases e:q.1=k
         . rw[if_pos e,if_pos e];exact⟨rfl,rv⟩
         rw[if_neg e,if_neg e];exact z
     refine .cons ?_ hrest;rw[z.1]
     by_cases e:q.1=k
     . rw[if_pos e,if_pos e];exact⟨rfl,rv⟩
     rw[if_neg e,if_neg e];exact z
 rw[if_neg e,if_neg e];exact KR.append r<|.cons ⟨rfl,rv⟩ .nil
end
def keyOf:D->Option Key
 | .int i=>some<|.inl i
 | .str x=>some<|.inr x
 | _=>none
def keysOf:List D->Option (List Key)
 | []=>some []
 | d::ds=>(keyOf d).bind fun k=>(keysOf ds).map fun ks=>k::ks
variable {y:V}{md mk:ME}
def zdG{k:Key}(h:Rep K H io v d)(e:keyOf d=some k):v=kV k:=by
 cases d with
 | int i=>cases e;exact h
 | str i=>cases e;exact h
 | _=>cases e
def zck:∀ {xs:List V} {ds:List D} {ks:List Key},Reps K H io xs ds->keysOf ds=some ks->xs=ks.map kV
 | _,[],ks,h,e=>by cases e;exact h
 | _,d::ds,ks,h,e=>by obtain⟨y,ys,rfl,h1,h2⟩:=h;obtain⟨k,e1,e⟩:=zaf e;obtain⟨ks',e2,e⟩:=zai e;subst e;rw[zdG h1 e1,zck h2 e2];rfl
def look(st:Sto)(n:Nat)(k:D):Option (Option D):=match st[n]? with
 | some (.dk kvs)=>(keyOf k).map fun q=>valD kvs q
 | some (.dt kvs)=>match k with
   | .tup ds=>(keysOf ds).map fun q=>valD kvs q
   | _=>none
 | _=>none
def zga{k:D}{r:Option D}(S:StR K H io st)(hp:io[n]?=some p)(ry:Rep K H io y k)(h:look st n k=some r):∃ o,DGet H p y o/\((r=none/\o=none)\/∃ d v,r=some d/\o=some v/\Rep K H io v d):=by
 unfold look at h
 split at h
 . rename_i kvs e;obtain⟨q,e1,h⟩:=zai h;subst h;obtain⟨ps,hH,r⟩:=S.ob n p _ hp e;have ey:=zdG ry e1;subst ey;refine⟨_,DGet.k hH,?_⟩
   rcases KR.val r q with ⟨h1,h2⟩ | ⟨d,v,h1,h2,h3⟩
   . exact .inl ⟨h1,h2⟩
   exact .inr ⟨d,v,h1,h2,h3⟩
 . rename_i kvs e
   split at h
   . rename_i ds;obtain⟨q,e1,h⟩:=zai h;subst h;obtain⟨ps,hH,r⟩:=S.ob n p _ hp e;obtain⟨b,xs,rfl,hb,rs⟩:=ry;have ex:=zck rs e1;subst ex;refine⟨_,DGet.t hH hb,?_⟩
     rcases KR.val r q with ⟨h1,h2⟩ | ⟨d,v,h1,h2,h3⟩
     . exact .inl ⟨h1,h2⟩
     exact .inr ⟨d,v,h1,h2,h3⟩
   . cases h
 . cases h
def zrZ(md mk:ME):ME:=fun ρ st=>(md ρ st).bind fun (d,s1)=>(mk ρ s1).bind fun (k,s2)=>match d with
 | .ref n=>(look s2 n k).bind fun r=>r.map fun v=>(v,s2)
 | _=>none
def zok{i:Expr}(hu:X.A.units+1 < cLine)(ho:SE X o md)(hi:SE X i mk)(hs:NoSl i:=by intro _ _;rfl):SE X (.Subscript o i pos) (zrZ md mk):=PE.imp (zlf hu ho hi hs) <| by
 rintro σ H Q ⟨ρ,st,io,d,st',E,S,e,k⟩;obtain⟨⟨x,s1⟩,e1,e⟩:=zaf e;obtain⟨⟨y,s2⟩,e2,e⟩:=zaf e
 cases x with
 | ref n =>
   obtain⟨r,e3,e⟩:=zaf e;obtain⟨w,e4,e⟩:=zai e;cases e;subst e4;refine⟨ρ,st,io,_,s1,E,S,e1,fun v1 H1 k1 X1 S1 R1=>⟨ρ,s1,io++k1,y,_,E.ext S X1,S1,e2,fun v2 H2 k2 X2 S2 R2=>?_⟩⟩;obtain⟨p,rfl,hp⟩:=R1;obtain⟨o,g,⟨z,_⟩ | ⟨d',v,hd,hv,rv⟩⟩:=zga S2 (zbo hp) R2 e3
   . cases z
   . cases hd;subst hv;exact⟨p,v,rfl,g,((k.on S1 X1).on S2 X2).now S2 rv⟩
 | _=>cases e
def mDIn(neg:Bool)(mk md:ME):ME:=fun ρ st=>(mk ρ st).bind fun (k,s1)=>(md ρ s1).bind fun (d,s2)=>match d with
 | .ref n=>(look s2 n k).map fun r=>(.bl (if neg then !r.isSome else r.isSome),s2)
 | _=>none
def zgY{neg:Bool}(h:tE K (mDIn neg mk md) σ H Q):tE K mk σ H fun y H1=>tE K md σ H1 fun x H2=>∃ a o,x=.ref a/\DGet H2 a y o/\Q (.bl<|if neg then !o.isSome else o.isSome) H2:=by
 obtain⟨ρ,st,io,d,st',E,S,e,k⟩:=h;obtain⟨⟨y,s1⟩,e1,e⟩:=zaf e;obtain⟨⟨x,s2⟩,e2,e⟩:=zaf e
 cases x with
 | ref n =>
   obtain⟨r,e3,e⟩:=zai e;cases e;refine⟨ρ,st,io,y,s1,E,S,e1,fun v1 H1 k1 X1 S1 R1=>⟨ρ,s1,io++k1,_,_,E.ext S X1,S1,e2,fun v2 H2 k2 X2 S2 R2=>?_⟩⟩;obtain⟨p,rfl,hp⟩:=R2;obtain⟨o,g,z⟩:=zga S2 hp (R1.ext S1 X2) e3;have:o.isSome=r.isSome:=by
     rcases z with ⟨a,b⟩ | ⟨d',v,a,b,_⟩
     . rw[a,b];rfl
     rw[a,b];rfl
   exact⟨p,o,rfl,g,by rw[this];exact ((k.on S1 X1).on S2 X2).now S2 rfl⟩
 | _=>cases e
variable {lo hi:Option Expr}{p2:Pos}
def zqt{i:Expr}(hu:X.A.units+1 < cLine)(hi:SE X i mk)(ho:SE X o md)(hm:behindInMarks .In o=false:=by rfl):SB X (.Compare i [.In] [o] pos) (mT<|mDIn false mk md) :=
 PT.imp (zor (zqR hu hi ho) hm) fun σ H Q h=>zgY (zcS h)
def zj0{i:Expr}(hu:X.A.units+1 < cLine)(hi:SE X i mk)(ho:SE X o md)(hm:behindInMarks .NotIn o=false:=by rfl):SB X (.Compare i [.NotIn] [o] pos) (mT<|mDIn true mk md) :=
 PT.imp (zor (zj9 hu hi ho) hm) fun σ H Q h=>zgY (zcS h)
def dput(st:Sto)(n:Nat)(k d:D):Option Sto:=match st[n]? with
 | some (.dk kvs)=>(keyOf k).bind fun q=>if decide (kvs.length < sizeLine)=true then some (st.set n<|.dk<|putD kvs q d) else none
 | some (.dt kvs)=>match k with
   | .tup ds=>(keysOf ds).bind fun q=>if decide (kvs.length < sizeLine)=true then some (st.set n<|.dt<|putD kvs q d) else none
   | _=>none
 | _=>none
def znj{k:D}(S:StR K H io st)(hp:io[n]?=some p)(ry:Rep K H io y k)(rv:Rep K H io v d)(h:dput st n k d=some st'):∃ H',DPut H p y v H'/\Ext io [] H H'/\StR K H' (io++[]) st':=by
 unfold dput at h
 split at h
 . rename_i kvs e;obtain⟨q,e1,h⟩:=zaf h;obtain⟨hl,h⟩:=zat h;cases h;obtain⟨ps,hH,r⟩:=S.ob n p _ hp e;have ey:=zdG ry e1;subst ey;have:=KR.length r;refine⟨_,DPut.k hH (by rw[this];exact of_decide_eq_true hl),?_⟩;exact zii S hp e (fun o u z=>by rw[hH] at z;cases z) fun H' T e'=>⟨_,e',KR.put (KR.mono T r) q<|Rep.mono T rv⟩
 . rename_i kvs e
   split at h
   . rename_i ds;obtain⟨q,e1,h⟩:=zaf h;obtain⟨hl,h⟩:=zat h;cases h;obtain⟨ps,hH,r⟩:=S.ob n p _ hp e;obtain⟨b,xs,rfl,hb,rs⟩:=ry;have ex:=zck rs e1;subst ex;have:=KR.length r;refine⟨_,DPut.t hH hb (by rw[this];exact of_decide_eq_true hl),?_⟩;exact zii S hp e (fun o u z=>by rw[hH] at z;cases z) fun H' T e'=>⟨_,e',KR.put (KR.mono T r) q<|Rep.mono T rv⟩
   . cases h
 . cases h
def zln(md mk mv:ME):MS:=fun ρ st=>(mv ρ st).bind fun (v,s1)=>(md ρ s1).bind fun (d,s2)=>(mk ρ s2).bind fun (k,s3)=>match d with
 | .ref n=>(dput s3 n k v).map fun s4=>(.nx ρ,s4)
 | _=>none
def zn5{i value:Expr}{mv:ME}(hu:X.A.units+1 < cLine)(ho:SE X o md)(hi:SE X i mk)(hv:SE X value mv)(hs:swapsWith value (some<|.Subscript o i pos') pos.line X.env=pure false:=by rfl) :
   SS X (.Assign [.Subscript o i pos'] value pos) (zln md mk mv):=PS.imp (zow hu ho hi hv hs) fun N σ H h=>by
 obtain⟨ρ,st,io,f,st',E,S,e,w⟩:=zcH.mp h;obtain⟨⟨v,s1⟩,e1,e⟩:=zaf e;obtain⟨⟨d,s2⟩,e2,e⟩:=zaf e;obtain⟨⟨k,s3⟩,e3,e⟩:=zaf e
 cases d with
 | ref n =>
   obtain⟨s4,e4,e⟩:=zai e;cases e;refine⟨ρ,st,io,v,s1,E,S,e1,fun v1 H1 k1 X1 S1 R1=>⟨ρ,s1,io++k1,_,s2,E.ext S X1,S1,e2,fun v2 H2 k2 X2 S2 R2=>⟨ρ,s2,(io++k1)++k2,k,s3,(E.ext S X1).ext S1 X2,S2,e3,fun v3 H3 k3 X3 S3 R3=>?_⟩⟩⟩;obtain⟨p,rfl,hp⟩:=R2;obtain⟨H4,g,X4,S4⟩:=znj S3 (zbo hp) R3 ((R1.ext S1 X2).ext S2 X3) e4;refine⟨p,H4,rfl,g,?_⟩;have w3:∀ σ' H' kb,Ext (((io++k1)++k2)++k3) kb H3 H'->_:=zfo (zfo (zfo w X1 S1) X2 S2) X3 S3;exact w3 σ H4 [] X4 S4<|(((E.ext S X1).ext S1 X2).ext S2 X3).ext S3 X4
 | _=>cases e
def zo2(t:Bool):ME:=fun _ st=>some (.ref st.length,st++[if t then .dt [] else .dk []])
def zh4:SE X (.Dict [] [] pos) (zo2 true):=PE.imp zmy <| by
 rintro σ H Q ⟨ρ,st,io,d,st',E,S,e,k⟩;cases e;intro p hp;obtain⟨E',S'⟩:=ziy (o:=.dT []) (ob:=.dt []) S hp fun H' T e=>⟨[],e,.nil⟩
 exact k _ _ [p] E' S' ⟨p,rfl,by rw[<-S.len];exact getElem?_len io p⟩
inductive mtM (K:Ab) (g:D->List D->Sto->Option (D×Sto)) (x:V) (xs:List V) (H:Hp) (Q:VK):Prop
 | mk (dx:D) (ds:List D) (st:Sto) (io:List Addr) (d:D) (st':Sto) (h0:Rep K H io x dx) (h1:Reps K H io xs ds) (h2:StR K H io st) (h3:g dx ds st=some (d,st')) (h4:Bh K io H st' d Q)
def zb0:D->List D->Sto->Option (D×Sto):=fun x xs st=>match x,xs with
 | .ref n,[d]=>match st[n]? with
   | some (.lst ds)=>if decide (ds.length < sizeLine)=true then some (.non,st.set n (.lst<|ds++[d])) else none
   | _=>none
 | _,_=>none
def append_in{ds:List D}{xs:List D}(h:zb0 (.ref n) xs st=some (d,st')):∃ ds x,st[n]?=some (.lst ds)/\xs=[x]/\ds.length < sizeLine/\d=.non/\st'=st.set n (.lst<|ds++[x]):=by
 unfold zb0 at h
 match xs,h with
 | [x],h =>
   dsimp only at h
   split at h
   . rename_i ds e;obtain⟨hl,h⟩:=zat h;cases h;exact⟨ds,x,e,rfl,of_decide_eq_true hl,rfl,rfl⟩
   . cases h
 | [],h=>cases h
 | _::_::_,h=>cases h
def ziz:MtR X "list.append" (mtM X.K zb0):=by
 rintro pins s σ H x xs v us Q I rx rs ⟨dx,ds,st,io,d,st',Rx,Rs,S,e,k⟩
 cases dx with
 | ref n =>
   obtain⟨l,y,e1,rfl,hl,rfl,rfl⟩:=append_in (ds:=[]) e;obtain⟨p,rfl,hp⟩:=Rx;obtain⟨w,rfl,Rw⟩:=Rs.one;obtain⟨ys,hH,r⟩:=S.ob n p _ hp e1;refine zgK pins s σ H _ _ v us Q I rx rs ⟨p,ys,w,rfl,rfl,hH,by rw[r.length];exact hl,?_⟩;obtain⟨E',S'⟩:=zii (o:=.lst (ys++[w])) (ob:=.lst (l++[y])) S hp e1 (fun o u z=>by rw[hH] at z;cases z) fun H' T e'=>⟨_,e',(Reps.mono T r).append<|Reps.cons (Rep.mono T Rw) Reps.nil⟩
   exact k _ _ [] E' S' rfl
 | _=>unfold zb0 at e;cases ds <;> cases e
def zlM{l:List D}(R:Rep K H io v (.ref n))(S:StR K H io st)(h:zbs st n=some l):tyV K "list" v H:=by obtain⟨p,rfl,hp⟩:=R;obtain⟨xs,hx,_⟩:=za7 S hp h;exact .inl ⟨rfl,xs,hx⟩
def mApp(m:ME)(mm:MA):ME:=fun ρ st=>(m ρ st).bind fun (x,s1)=>match x with
 | .ref n=>(zbs s1 n).bind fun _=>(mm ρ s1).bind fun (xs,s2)=>zb0 x xs s2
 | _=>none
def zbN{apos cpos:Pos}(ho:SE X o m)(ha:SA X (e::es) mm)
   (hbase:attributeBase o "append" X.env (eval o X.env)=eval o X.env:=by rfl)
   (hfew:((backTo cpos<|starEach (e::es) X.env).all (fun x=>!x.1)&&(backToKw cpos<|keywordEach [] X.env).all (fun x=>x.1.isSome)
    &&decide ((e::es).length+([]:List Keyword).length+(if ([]:List Keyword).isEmpty then 0 else 1) < 30))=true:=by rfl)
   (hline:(apos.endLine==cpos.line)=true:=by rfl) (hs:starEach (e::es) X.env=(false,eval e X.env)::starEach es X.env:=by rfl) (hplain:(backTo cpos<|starEach es X.env).any (·.1)=false:=by rfl) :
   SE X (.Call (.Attribute o "append" apos) (e::es) [] cpos) (mApp m mm) :=
 PE.imp (zsG PySem.F.plainAttrs_list PySem.F.slot_list_append PySem.F.type_list_append ziz ho ha hbase hfew hline hs hplain) <| by
   rintro σ H Q ⟨ρ,st,io,d,st',E,S,e,k⟩;obtain⟨⟨x,s1⟩,e1,e⟩:=zaf e
   cases x with
   | ref n =>
     obtain⟨l,e0,e⟩:=zaf e;obtain⟨⟨xs,s2⟩,e2,e⟩:=zaf e;refine⟨ρ,st,io,_,s1,E,S,e1,fun v1 H1 k1 X1 S1 R1=>⟨zlM R1 S1 e0,ρ,s1,io++k1,xs,s2,E.ext S X1,S1,e2,fun vs H2 k2 X2 S2 R2=>?_⟩⟩;exact⟨_,xs,s2,(io++k1)++k2,d,st',R1.ext S1 X2,R2,S2,e,(k.on S1 X1).on S2 X2⟩
   | _=>cases e
noncomputable abbrev MO:=Rho->Sto->Option (Option Int×Sto)
inductive tOm (K:Ab) (m:MO) (σ:L2.St) (H:Hp) (Q:Option Int->Hp->Prop):Prop
 | mk (ρ:Rho) (st:Sto) (io:List Addr) (d:Option Int) (st':Sto) (h1:EnvR K H io σ ρ) (h2:StR K H io st) (h3:m ρ st=some (d,st')) (h4:∀ H' ka,Ext io ka H H'->StR K H' (io++ka) st'->Q d H')
def SO(X:Cx)(e:Option Expr)(m:MO):Prop:=PO X e<|tOm X.K m
def zdC:MO:=fun _ st=>some (none,st)
def zce(m:ME):MO:=fun ρ st=>(m ρ st).bind fun (d,s)=>match d with
 | .int i=>some (some i,s)
 | _=>none
def zbD:SO X none zdC:=fun pins s σ H Q I ⟨ρ,st,io,d,st',E,S,e,k⟩=>zoy pins s σ H Q I (by cases e;exact k H [] Ext.refl S.nil)
def zbe(h:SE X e m):SO X (some e) (zce m):=fun pins s σ H Q I ⟨ρ,st,io,d,st',E,S,e,k⟩=>zld h pins s σ H Q I (by
 obtain⟨⟨x,s1⟩,e1,e⟩:=zaf e
 cases x with
 | int i =>
   cases e;exact⟨ρ,st,io,_,_,E,S,e1,fun v1 H1 k1 X1 S1 R1=>⟨i,R1,k H1 k1 X1 S1⟩⟩
 | _=>cases e)
def cutD(xs:List D)(lo hi:Option Int):List D:=(xs.drop<|HT.sIx xs.length 0 lo).take<|HT.sIx xs.length xs.length hi - HT.sIx xs.length 0 lo
def zja(r:Reps K H io xs ds)(lo hi:Option Int):Reps K H io (cutV xs lo hi) (cutD ds lo hi):=by unfold cutV cutD;rw[r.length];exact (r.drop _).take _
def slD:D->Option Int->Option Int->Sto->Option (D×Sto):=fun x lo hi st=>match x with
 | .tup ds=>if (decide (HT.sIx ds.length 0 lo=0)&&decide (HT.sIx ds.length ds.length hi=ds.length))=true then none else some (.tup (cutD ds lo hi),st)
 | .ref n=>(zbs st n).map fun ds=>(.ref st.length,st++[.lst (cutD ds lo hi)])
 | _=>none
def mSl(m:ME)(l h:MO):ME:=fun ρ st=>(m ρ st).bind fun (x,s1)=>(l ρ s1).bind fun (lo,s2)=>(h ρ s2).bind fun (hi,s3)=>slD x lo hi s3
def rSlM(K:Ab):V->Option Int->Option Int->Hp->VK->Prop:=fun x lo hi H Q=>rSlT K x lo hi H Q\/rSlL K x lo hi H Q
def sl_M:SlR X (rSlM X.K):=by
 intro pins s σ H x v vl vu lo hi sl Q I rx hs pl pu h
 rcases h with h | h
 . exact zqg pins s σ H x v vl vu lo hi sl Q I rx hs pl pu h
 exact zk3 pins s σ H x v vl vu lo hi sl Q I rx hs pl pu h
def zl8{ml mh:MO}(he:SE X e m)(hl:SO X lo ml)(hu:SO X hi mh):SE X (.Subscript e (.Slice lo hi none p2) pos) (mSl m ml mh):=PE.imp (zeR sl_M he hl hu) <| by
 rintro σ H Q ⟨ρ,st,io,d,st',E,S,e,k⟩;obtain⟨⟨x,s1⟩,e1,e⟩:=zaf e;obtain⟨⟨lo',s2⟩,e2,e⟩:=zaf e;obtain⟨⟨hi',s3⟩,e3,e⟩:=zaf e;refine⟨ρ,st,io,x,s1,E,S,e1,fun v1 H1 k1 X1 S1 R1=>⟨ρ,s1,io++k1,lo',s2,E.ext S X1,S1,e2,fun H2 k2 X2 S2=>⟨ρ,s2,(io++k1)++k2,hi',s3,(E.ext S X1).ext S1 X2,S2,e3,fun H3 k3 X3 S3=>?_⟩⟩⟩;have R3:=(R1.ext S1 X2).ext S2 X3;have k':=((k.on S1 X1).on S2 X2).on S3 X3
 cases x with
 | tup ds =>
   have e:(if (decide (HT.sIx ds.length 0 lo'=0)&&decide (HT.sIx ds.length ds.length hi'=ds.length))=true then none else some (D.tup (cutD ds lo' hi'),s3))=some (d,st'):=e
   by_cases hw:(decide (HT.sIx ds.length 0 lo'=0)&&decide (HT.sIx ds.length ds.length hi'=ds.length))=true
   . rw[if_pos hw] at e;cases e
   rw[if_neg hw] at e;cases e;obtain⟨p,xs,rfl,hp,r⟩:=R3;refine .inl ⟨p,xs,rfl,SqT.of hp,fun z=>hw ?_,fun q hq=>k'.tup S3 (zja r _ _) hq⟩;rw[r.length] at z;rw[Am];exact⟨decide_eq_true z.1,decide_eq_true z.2⟩
 | ref n =>
   obtain⟨ds,e0,e⟩:=zai e;cases e;obtain⟨p,rfl,hp⟩:=R3;obtain⟨xs,hx,r⟩:=za7 S3 hp e0;exact .inr ⟨p,xs,rfl,hx,fun q hq=>k'.lst S3 (zja r _ _) hq⟩
 | _=>cases e
def zjx:G2:=intD (fun _ j=>decide (0 < j)&&decide (j < 2 ^ 128)) fun i j=>.int<|i / j
def zf4:OpM X (binaryOp .FloorDiv) zjx:=zek (C:=fun i j=>0 < j/\j < 2 ^ 128) (opI fun i j _ _ _ _ _ hc q=>by
 refine floordiv_int (by omega) (by rw[Int.fdiv_eq_ediv_of_nonneg i (by omega)];exact q)<|.inl<|PyProof.noPylong_of_log2 ?_;have h0:j.natAbs≠0:=by omega
 have h1:j.natAbs < 2 ^ 128:=by omega
 exact BV ((FI h0).mpr h1) (by decide)) fun i j h=>by rw[Am] at h;exact⟨of_decide_eq_true h.1,of_decide_eq_true h.2⟩
def powB:G2:=intD (fun i j=>decide (0<=j)&&decide ((AV i:Int)*j<=2 ^ 27)) fun i j=>.int<|i ^ j.toNat
def zdU:OpM X (binaryOp .Pow) powB:=zek (C:=fun i j=>0<=j/\(AV i:Int)*j<=2 ^ 27) (opI fun i j _ _ _ _ _ hc q=>pow_int hc.1 hc.2 q) fun i j h=>by rw[Am] at h;exact⟨of_decide_eq_true h.1,of_decide_eq_true h.2⟩
def subT(t T:String):Bool:=t==T || (t=="bool"&&T=="int")
def sorts:List String:=["NoneType","bool","int","str","tuple","list","dict"]
def kinds:List String:=["bool","int","str","tuple","list","dict"]
variable {t:String}
def zo6(ht:t∈sorts)(hT:T∈kinds):Gg K (.type t) (.type T)=some (subT t T):=by
 have all:∀ t∈sorts,∀ T∈kinds,Gg K (.type t) (.type T)=some (subT t T):=by
   intro t ht T hT;simp only[sorts,kinds,A7,AX,or_false] at ht hT
   rcases ht with rfl | rfl | rfl | rfl | rfl | rfl | rfl <;> rcases hT with rfl | rfl | rfl | rfl | rfl | rfl <;> rfl
 exact all t ht T hT
def tyName(st:Sto):D->Option String
 | .non=>some "NoneType"
 | .bl _=>some "bool"
 | .int _=>some "int"
 | .str _=>some "str"
 | .tup _=>some "tuple"
 | .ref n=>match st[n]? with
   | some (.lst _)=>some "list"
   | some (.fz _)=>some "list"
   | some (.dk _)=>some "dict"
   | some (.dt _)=>some "dict"
   | some .dz=>some "dict"
   | _=>none
 | .kl _=>none
 | .fn _=>none
 | .er _ _ _=>none
def ziK(I:Inv X pins σ H s)(h:SqL X.K H p xs):DI p "list" s.heap:=by obtain⟨its,_,⟨o,n,e,c,_,_⟩,_⟩:=I.list h;exact⟨o,e,c⟩
def zkt{ps:List (Key×V)}(I:Inv X pins σ H s)(h:H p=some (.dK ps)):DI p "dict" s.heap:=by obtain⟨_,_,_,_,o,_,_,e,ex,_⟩:=I.hok p _ h;exact⟨o,e,ex.1⟩
def zks{ps:List (List Key×V)}(I:Inv X pins σ H s)(h:H p=some (.dT ps)):DI p "dict" s.heap:=by obtain⟨_,_,_,_,o,_,_,e,ex,_⟩:=I.hok p _ h;exact⟨o,e,ex.1⟩
def zq9(I:Inv X pins σ H s)(h:H p=some (.ext<|DzZ p)):DI p "dict" s.heap:=by obtain⟨⟨o,_,_,e,ex,_⟩,_⟩:=I.hok p _ h;exact⟨o,e,ex.1⟩
def zo8{u:Value}{Q:Value->Shared->Prop}(I:Inv X pins σ H s)(S:StR X.K H io st)(R:Rep X.K H io v d)(r:RelV v u)(ht:tyName st d=some t)(hT:T∈kinds)
   (q:∀ tk,Q (.bool<|subT t T) { s with toks:=tk }):wpAny (model X.prog X.w) X.A (call (.builtin "isinstance") [u,.type T]) Q E s:=by
 have k:=fun {x:Value} {HH:Heap->Prop} (hs:t∈sorts) (Z:PySem.W.KitX X.K x (.type t) HH) (p:HH s.heap) (hx:x≠.builtin "__main__.__loader__#opaque")=>PySem.W.kia_one (prog:=X.prog) (w:=X.w) (A:=X.A) (E:=E) Z I.kIn p (zo6 hs hT) hx q
 cases d with
 | non=>cases ht;cases (show v=.non from R);cases r;exact k (by decide) PySem.W.kitx_none trivial (by intro e;cases e)
 | bl b=>cases ht;cases (show v=.bl b from R);cases r;exact k (by decide) PySem.W.kitx_bool trivial (by intro e;cases e)
 | int b=>cases ht;cases (show v=.int b from R);obtain⟨t,rfl⟩:=r;exact k (by decide) PySem.W.kitx_int trivial (by intro e;cases e)
 | str b=>cases ht;cases (show v=.str b from R);obtain⟨t,rfl⟩:=r;exact k (by decide) PySem.W.kitx_str trivial (by intro e;cases e)
 | tup ds =>
   cases ht;obtain⟨p,xs,rfl,hp,_⟩:=R;cases r;obtain⟨its,_,⟨o,e,c,_⟩,_⟩:=I.tuple<|SqT.of hp;exact k (by decide) PySem.W.kitx_tuple ⟨o,e,c⟩ (by intro e;cases e)
 | ref n =>
   obtain⟨p,rfl,hp⟩:=R;cases r;unfold tyName at ht;dsimp only at ht
   split at ht
   . rename_i o e;cases ht;obtain⟨xs,hH,_⟩:=S.ob n p _ hp e;exact k (by decide) Fy (ziK I<|SqL.of hH) (by intro e;cases e)
   . rename_i o e;cases ht;obtain⟨ob,xs,hH,_⟩:=S.ob n p _ hp e;exact k (by decide) Fy (ziK I<|.inl<|.inr ⟨ob,hH⟩) (by intro e;cases e)
   . rename_i o e;cases ht;obtain⟨xs,hH,_⟩:=S.ob n p _ hp e;exact k (by decide) DR (zkt I hH) (by intro e;cases e)
   . rename_i o e;cases ht;obtain⟨xs,hH,_⟩:=S.ob n p _ hp e;exact k (by decide) DR (zks I hH) (by intro e;cases e)
   . rename_i e;cases ht;exact k (by decide) DR (zq9 I<|S.ob n p _ hp e) (by intro e;cases e)
   . cases ht
 | kl ds=>cases ht
 | fn ds=>cases ht
 | er _ _ _=>cases ht
def rIsi(K:Ab)(T:String):List V->Hp->VK->Prop:=fun xs H Q=>∃ x d st io t,xs=[x,.ty T]/\Rep K H io x d/\StR K H io st/\tyName st d=some t/\Q (.bl<|subT t T) H
def zns(hT:T∈kinds):zjy X (.builtin "isinstance") (rIsi X.K T):=by rintro pins s σ H xs us Q I r ⟨x,d,st,io,t,e,R,S,ht,q⟩;subst e;obtain⟨u,w,rfl,ru,rw'⟩:=r.two;cases rw';exact zo8 I S R ru ht hT fun tk=>⟨.bl _,H,I.tok tk,rfl,q⟩
def mIsi(T:String)(m:ME):ME:=fun ρ st=>(m ρ st).bind fun (x,s)=>(tyName s x).map fun t=>(.bl (subT t T),s)
def zqq{x y:Str}{p:Pos}(hT:T∈kinds)(hg:Gl X "isinstance")(hm:X.mg "isinstance"=none)(ha:SE X a m)(hgy:Gl X y)(hmy:X.mg y=none)(hvy:bootBuiltins y=some (.type T))(hny:y≠"__name__":=by decide)(hdy:(y==("__debug__":Str))=false:=by decide)
   (hs:starEach [a,.Name y p2] X.env=(false,eval a X.env)::starEach [.Name y p2] X.env:=by rfl) (hs2:starEach [.Name y p2] X.env=[(false,eval (.Name y p2) X.env)]:=by rfl) (hpl:(backTo pos<|starEach [.Name y p2] X.env).any (·.1)=false:=by rfl) :
   SE X (.Call (.Name "isinstance" p) [a,.Name y p2] [] pos) (mIsi T m) :=
 PE.imp (zf2 (zns hT) hg hm (by decide +kernel) (zfm ha (zfm (zlg (v:=.ty T) hgy hmy hvy rfl hny hdy) zmB hs2) hs) (by decide) (by decide) hs hpl) <| by rintro σ H Q ⟨ρ,st,io,d,st',E,S,e,k⟩;obtain⟨⟨x,s1⟩,e1,e⟩:=zaf e;obtain⟨t,e2,e⟩:=zai e;cases e;exact⟨ρ,st,io,x,_,E,S,e1,fun v1 H1 k1 X1 S1 R1=>⟨v1,x,_,io++k1,t,rfl,R1,S1,e2,k _ H1 k1 X1 S1 rfl⟩⟩
def zdN{α:Type}{le:α->α->Prop}:∀ {l1 l2:List α},l1.Perm l2->l1.Pairwise le->l2.Pairwise le->(∀ a∈l1,∀ b∈l1,le a b->le b a->a=b)->l1=l2
 | [],l2,p,_,_,_=>(List.Perm.nil_eq p)
 | a::l1,[],p,_,_,_=>absurd p.symm (by intro h;have:=h.length_eq;simp at this)
 | a::l1,b::l2,p,h1,h2,an=>by
   obtain⟨ha,h1'⟩:=List.pairwise_cons.mp h1;obtain⟨hb,h2'⟩:=List.pairwise_cons.mp h2;have e:a=b:=by
     have m1:a∈b::l2:=p.mem_iff.mp An;have m2:b∈a::l1:=p.mem_iff.mpr An
     rcases List.mem_cons.mp m1 with q | q
     . exact q
     . rcases List.mem_cons.mp m2 with r | r
       . exact r.symm
       exact an a An b (Aj _ r) (ha b r)<|hb a q
   subst e;rw[zdN ((List.perm_cons a).mp p) h1' h2' fun x hx y hy=>an x (Aj _ hx) y (Aj _ hy)]
def sle(a b:Str):Bool:=!decide (b.cps.toList < a.cps.toList)
def zdn(ss:List Str):List Str:=ss.mergeSort sle
def znZ{a b:Str}(h:a.cps.toList=b.cps.toList):a=b:=by
 obtain⟨x⟩:=a;obtain⟨y⟩:=b;have:x=y:=by have h':x.toList=y.toList:=h;exact Array.toList_inj.mp h'
 rw[this]
def zjP(a b:Str):(sle a b || sle b a)=true:=by
 unfold sle;rw[FZ,BF,BF,decide_eq_false_iff_not,decide_eq_false_iff_not]
 by_cases h:b.cps.toList < a.cps.toList
 . exact .inr<|List.lt_asymm h
 exact .inl h
def zgw(a b c:Str)(h1:sle a b=true)(h2:sle b c=true):sle a c=true:=by unfold sle at *;rw[BF,decide_eq_false_iff_not] at *;have h1:a.cps.toList<=b.cps.toList:=h1;have h2:b.cps.toList<=c.cps.toList:=h2;exact List.le_trans h1 h2
def zl3{a b:Str}(h1:sle a b=true)(h2:sle b a=true):a=b:=by unfold sle at *;rw[BF,decide_eq_false_iff_not] at *;exact znZ<|List.le_antisymm h1 h2
def zei:∀ {ss:List Str} {p:Str},risingS p ss=true->(p::ss).Pairwise fun a b=>sle a b=true
 | [],p,_=>by simp
 | s::ss,p,h=>by
   have h':(!ltCps s.cps.toList p.cps.toList&&risingS s ss)=true:=h;rw[Am] at h';have ih:=zei h'.2;have hps:sle p s=true:=by have:=h'.1;rw[ltCps_eq] at this;exact this
   refine List.pairwise_cons.mpr ⟨fun x hx=>?_,ih⟩
   rcases List.mem_cons.mp hx with rfl | hx
   . exact hps
   exact zgw _ _ _ hps<|(List.pairwise_cons.mp ih).1 x hx
variable {ss:List Str}
def zff{ss':List Str}(p:ss'.Perm ss)(h:sortedS ss'=true):ss'=zdn ss:=by
 have hp:ss'.Pairwise fun a b=>sle a b=true:=by
   cases ss' with
   | nil=>exact CV
   | cons x r=>exact zei h
 refine zdN (p.trans (Cy ss sle).symm) hp (Ec (fun a b c=>zgw a b c) zjP ss) fun a _ b _=>zl3
variable {r:List D}
def strsOf:List D->Option (List Str)
 | []=>some []
 | .str x::r=>(strsOf r).map fun xs=>x::xs
 | _=>none
def zhd(h:strsOf (d::r)=some ss):∃ x xs,d=.str x/\strsOf r=some xs/\ss=x::xs:=by
 cases d with
 | str x =>
   obtain⟨xs,e,h⟩:=zai h;exact⟨x,xs,rfl,e,h.symm⟩
 | _=>cases h
def zhR(ss:List Str):strsOf (ss.map D.str)=some ss:=by
 induction ss with
 | nil=>rfl
 | cons x r ih=>show (strsOf<|r.map D.str).map _=_;rw[ih];rfl
def zhQ:∀ {xs:List V} {us:List Value} {ds:List D} {ss:List Str},Reps K H io xs ds->Vals xs us->strsOf ds=some ss->StrsAre us ss
 | _,_,[],ss,h,r,e=>by cases (show _=[] from h);cases r;cases e;exact .nil
 | _,_,d::ds,ss,h,r,e=>by
   obtain⟨y,ys,rfl,h1,h2⟩:=h;obtain⟨x,rest,rfl,e2,rfl⟩:=zhd e
   cases r with
   | cons r1 r2 =>
     cases (show y=.str x from h1)
     obtain⟨t,rfl⟩:=r1;exact .cons x t<|zhQ h2 r2 e2
def zeG:∀ {us:List Value} {ss:List Str},StrsAre us ss->Vals (ss.map V.str) us
 | _,_,.nil=>.nil
 | _,_,.cons y t r=>.cons ⟨t,rfl⟩<|zeG r
def zjJ(ss:List Str):Reps K H io (ss.map V.str) (ss.map D.str):=by
 induction ss with
 | nil=>exact rfl
 | cons x r ih=>exact Reps.cons rfl ih
def lt64(h:n < 64):n<=sizeLine:=Aw (BJ h)<|by decide
def zcI:GN
 | [.ref n],st=>(zbs st n).bind fun ds=>(strsOf ds).bind fun ss=>if decide (ss.length < 64)=true then some (.ref st.length,st++[.lst ((zdn ss).map D.str)]) else none
 | _,_=>none
def zfJ:zdF X (.builtin "sorted") zcI:=by
 rintro pins s σ H xs us Q I r ⟨ds,st,io,d,st',R,S,e,k⟩;unfold zcI at e
 split at e
 . rename_i n;obtain⟨ts,e0,e⟩:=zaf e;obtain⟨ss,e1,e⟩:=zaf e;obtain⟨hl,e⟩:=zat e;cases e;have hl:=of_decide_eq_true hl;obtain⟨v,rfl,p,rfl,hp⟩:=R.one;obtain⟨u,rfl,ru⟩:=r.one;cases ru;obtain⟨ys,hx,r1⟩:=za7 S hp e0;obtain⟨its,rv,pl,hz⟩:=I.list hx;have hS:=zhQ r1 rv e1;have hlen:its.length=ss.length:=by
     have h1:=rv.length;have h2:=(zeG hS).length;rw[Af] at h2;omega
   refine sorted_strs pl.isList hS (by omega) fun out ss' a1 a2 a3=>?_;have es:=zff a2 a3;obtain⟨ep,hat⟩:=sortedAll_at s.heap its out;have hv:=zeG a1;have hfree:H (s.heap.objs.size+1)=none:=I.hok.fresh<|Ck _;have hlen':(ss'.map V.str).length<=sizeLine:=by rw[Af,a2.length_eq];exact lt64 hl
   refine⟨.ref<|s.heap.objs.size+1,upd H (s.heap.objs.size+1)<|.lst<|ss'.map V.str,I.laid (t':=s.toks) (a:=s.heap.objs.size+1) (fun b o q=>sortedAll_old q) (Ck _) ⟨hlen',out.toList,ep,hv,by simpa using hat⟩,rfl,?_⟩;rw[es] at *;exact k.lst S (zjJ _) hfree
 . cases e
def rSlS:V->Option Int->Option Int->Hp->VK->Prop:=fun x lo hi H Q=>∃ z,x=.str z/\z.length<=sizeLine/\Q (.str<|Gk z lo hi) H
def zqh:SlR X rSlS:=by
 rintro pins s σ H x v vl vu lo hi sl Q I rx hs pl pu ⟨z,e,hz,q⟩;subst e;obtain⟨t,rfl⟩:=rx;refine⟨"str",_,F.slot_str_getitem.lookup,FV _ _ _,?_⟩;have fin:∀ t' k,EP X pins σ Q (.str (Gk z lo hi) t') { s with toks:=k }:=fun t' k=>⟨.str _,H,I.tok k,⟨t',rfl⟩,q⟩
 cases pl with
 | none =>
   cases pu with
   | none=>exact Cd (l:=none) (u:=none) (st:=none) hs rfl<|CF ⟨Aw (D1 z _ _) hz,fin⟩
   | int j tj=>exact Cd (l:=none) (u:=some (j,tj)) (st:=none) hs rfl<|CF ⟨Aw (D1 z _ _) hz,fin⟩
 | int i ti =>
   cases pu with
   | none=>exact Cd (l:=some (i,ti)) (u:=none) (st:=none) hs rfl<|CF ⟨Aw (D1 z _ _) hz,fin⟩
   | int j tj=>exact Cd (l:=some (i,ti)) (u:=some (j,tj)) (st:=none) hs rfl<|CF ⟨Aw (D1 z _ _) hz,fin⟩
def slS:D->Option Int->Option Int->Sto->Option (D×Sto):=fun x lo hi st=>match x with
 | .str z=>if fits z.length=true then some (.str (Gk z lo hi),st) else none
 | _=>none
def mSlS(m:ME)(l h:MO):ME:=fun ρ st=>(m ρ st).bind fun (x,s1)=>(l ρ s1).bind fun (lo,s2)=>(h ρ s2).bind fun (hi,s3)=>slS x lo hi s3
def zjS{ml mh:MO}(he:SE X e m)(hl:SO X lo ml)(hu:SO X hi mh):SE X (.Subscript e (.Slice lo hi none p2) pos) (mSlS m ml mh):=PE.imp (zeR zqh he hl hu) <| by
 rintro σ H Q ⟨ρ,st,io,d,st',E,S,e,k⟩;obtain⟨⟨x,s1⟩,e1,e⟩:=zaf e;obtain⟨⟨lo',s2⟩,e2,e⟩:=zaf e;obtain⟨⟨hi',s3⟩,e3,e⟩:=zaf e;refine⟨ρ,st,io,x,s1,E,S,e1,fun v1 H1 k1 X1 S1 R1=>⟨ρ,s1,io++k1,lo',s2,E.ext S X1,S1,e2,fun H2 k2 X2 S2=>⟨ρ,s2,(io++k1)++k2,hi',s3,(E.ext S X1).ext S1 X2,S2,e3,fun H3 k3 X3 S3=>?_⟩⟩⟩;have k':=((k.on S1 X1).on S2 X2).on S3 X3
 cases x with
 | str z =>
   obtain⟨hf,e⟩:=zat e;cases e;exact⟨z,R1,of_decide_eq_true hf,k'.now S3 rfl⟩
 | _=>cases e
def repS(x:Str)(n:Int):Str:=if n < 1 then Str.empty else if (n==1 || x.length==0)=true then x else ⟨(A5 n.toNat x.cps).foldl (·++·) #[]⟩
def zpO:G2
 | .str x,.int n,st=>if (decide (-(2 ^ 62)<=n)&&decide (n < 2 ^ 20)&&decide (x.length*n.toNat<=sizeLine)&&decide ((repS x n).length<=sizeLine))=true then some (.str (repS x n),st) else none
 | _,_,_=>none
def zmE:OpM X (binaryOp .Mult) zpO:=by
 rintro pins s σ H x y v u Q I rx ry ⟨dx,dy,st,io,d,st',Rx,Ry,S,e,k⟩;unfold zpO at e
 split at e
 . rename_i z n;obtain⟨hc,e⟩:=zat e;cases e;rw[Am,Am,Am] at hc;obtain⟨⟨⟨h1,h2⟩,h3⟩,h4⟩:=hc;have h1:=of_decide_eq_true h1;have h2:=of_decide_eq_true h2;have h3:=of_decide_eq_true h3;have h4:=of_decide_eq_true h4
   cases (show x=.str z from Rx)
   cases (show y=.int n from Ry)
   obtain⟨t,rfl⟩:=rx;obtain⟨t2,rfl⟩:=ry;have fin:∀ t' k',EP X pins σ Q (.str (repS z n) t') { s with toks:=k' }:=fun t' k'=>⟨.str _,H,I.tok k',⟨t',rfl⟩,k.now S rfl⟩
   refine PySem.P.mul_str (by rw[decide_eq_false (by omega),decide_eq_false (by omega)];rfl) (fun hn _=>?_) (fun hn _=>?_) ?_
   . have hs:sizeLine=16777216:=Cv;have hnn:((n.toNat:Nat):Int)=n:=Cz (by omega);have hm:(z.length:Int)*n<=2 ^ 63 - 1:=by
       rw[<-hnn,<-Int.natCast_mul];omega
     have:=Int.le_ediv_of_mul_le (by omega:0 < n) hm;omega
   . unfold Builtin.Str.tooLong;exact decide_eq_false<|by omega
   . unfold repS at fin h4
     by_cases hn:n < 1
     . rw[if_pos hn] at fin h4 ⊢;exact⟨h4,fin s.toks<|s.toks+1⟩
     rw[if_neg hn] at fin h4 ⊢;exact CF ⟨h4,fin⟩
 . cases e
def memP(p:PyData):PyData->Option Bool
 | .list xs=>some<|xs.any fun y=>Dk y p
 | .tuple xs=>some<|xs.any fun y=>Dk y p
 | _=>none
def inD(neg:Bool):G2:=fun x y st=>(toP 50 st x).bind fun p=>(toP 50 st y).bind fun q=>(memP p q).map fun b=>(.bl (if neg then !b else b),st)
def zew{xs:List PyData}(h:(PyData.list xs).canLay0=true):BE xs=true:=by simpa only [Bt] using h
def zdY{xs:List PyData}(h:(PyData.tuple xs).canLay0=true):BE xs=true:=by simpa only [Bt] using h
def zqZ(hu:X.A.units+100 < cLine):OpM X (compareOp .In) (inD false):=by
 rintro pins s σ H x y v u Q I rx ry ⟨dx,dy,st,io,d,st',Rx,Ry,S,e,k⟩;obtain⟨p,e1,e⟩:=zaf e;obtain⟨q,e2,e⟩:=zaf e;obtain⟨r,e3,e⟩:=zai e;cases e;obtain⟨as,ra⟩:=zbE I S Rx rx e1;obtain⟨bs,rb⟩:=zbE I S Ry ry e2;have h1:=zdL e1;have h2:=zdL e2;have hb:∀ n,X.A.units+1+min n p.depth < cLine:=fun n=>by have:=DZ n p.depth;omega
 cases q with
 | list xs=>cases e3;exact PySem.SeqAt.in_list_reads rb ra (zew h2.1) h1.1 (hb _) ⟨.bl _,H,I,rfl,k.now S rfl⟩
 | tuple xs=>cases e3;exact PySem.SeqAt.in_tuple_reads rb ra (zdY h2.1) h1.1 (hb _) ⟨.bl _,H,I,rfl,k.now S rfl⟩
 | _=>cases e3
def zkd(hu:X.A.units+100 < cLine):OpM X (compareOp .NotIn) (inD true):=by
 rintro pins s σ H x y v u Q I rx ry ⟨dx,dy,st,io,d,st',Rx,Ry,S,e,k⟩;obtain⟨p,e1,e⟩:=zaf e;obtain⟨q,e2,e⟩:=zaf e;obtain⟨r,e3,e⟩:=zai e;cases e;obtain⟨as,ra⟩:=zbE I S Rx rx e1;obtain⟨bs,rb⟩:=zbE I S Ry ry e2;have h1:=zdL e1;have h2:=zdL e2;have hb:∀ n,X.A.units+1+min n p.depth < cLine:=fun n=>by have:=DZ n p.depth;omega
 cases q with
 | list xs=>cases e3;exact PySem.SeqAt.notIn_list_reads rb ra (zew h2.1) h1.1 (hb _) ⟨.bl _,H,I,rfl,k.now S rfl⟩
 | tuple xs=>cases e3;exact PySem.SeqAt.notIn_tuple_reads rb ra (zdY h2.1) h1.1 (hb _) ⟨.bl _,H,I,rfl,k.now S rfl⟩
 | _=>cases e3
def inSD:G2
 | .str i,.str j,st=>some (.bl (!(Cb j i 0 j.length 1).isEmpty),st)
 | _,_,_=>none
def zoM:OpM X (compareOp .In) inSD:=by
 rintro pins s σ H x y v u Q I rx ry ⟨dx,dy,st,io,d,st',Rx,Ry,S,e,k⟩;unfold inSD at e
 split at e
 . rename_i i j
   cases e;exact zkf pins s σ H x y v u Q I rx ry ⟨i,j,Rx,Ry,k.now S rfl⟩
 . cases e
def znv:List D->Option (List Bool)
 | []=>some []
 | .bl x::r=>(znv r).map fun xs=>x::xs
 | _=>none
def zjl{ss:List Bool}(h:znv (d::r)=some ss):∃ x xs,d=.bl x/\znv r=some xs/\ss=x::xs:=by
 cases d with
 | bl x =>
   obtain⟨xs,e,h⟩:=zai h;exact⟨x,xs,rfl,e,h.symm⟩
 | _=>cases h
def zlE:∀ {xs:List V} {us:List Value} {ds:List D} {ss:List Bool},Reps K H io xs ds->Vals xs us->znv ds=some ss->us=ss.map Dc
 | _,_,[],ss,h,r,e=>by cases (show _=[] from h);cases r;cases e;rfl
 | _,_,d::ds,ss,h,r,e=>by
   obtain⟨y,ys,rfl,h1,h2⟩:=h;obtain⟨x,rest,rfl,e2,rfl⟩:=zjl e
   cases r with
   | cons r1 r2 =>
     cases (show y=.bl x from h1)
     cases r1;rw[zlE h2 r2 e2];rfl
def allC:GN
 | [.ref n],st=>(zbs st n).bind fun ds=>(znv ds).map fun bs=>(.bl (bs.all id),st)
 | _,_=>none
def range_all(bs:List Bool):((AC bs.length).all fun i=>bs.getD i false)=bs.all id:=by
 rw[Bool.eq_iff_iff,C5,C5]
 constructor
 . intro h b hb;obtain⟨i,hi,e⟩:=Cw hb;have:=h i<|List.mem_range.mpr hi;rw[Au,Ag hi,e] at this;exact this
 intro h i hi;have hi:=List.mem_range.mp hi;rw[Au,Ag hi];exact h _<|Bq hi
def zkV(hc:X.calm=true):zdF X (.builtin "all") allC:=by
 rintro pins s σ H xs us Q I r ⟨ds,st,io,d,st',R,S,e,k⟩;unfold allC at e
 split at e
 . rename_i n;obtain⟨ts,e0,e⟩:=zaf e;obtain⟨bs,e1,e⟩:=zai e;cases e;obtain⟨v,rfl,p,rfl,hp⟩:=R.one;obtain⟨u,rfl,ru⟩:=r.one;cases ru;obtain⟨ys,hx,r1⟩:=za7 S hp e0;obtain⟨its,rv,pl,hz⟩:=I.list hx;have hb:=zlE r1 rv e1;subst hb;refine call_all_walk<|CU pl.isList ?_;have hlt:p < s.heap.objs.size:=by
     obtain⟨o,_,e,_⟩:=pl;exact Ai e
   refine⟨_,_,_,_,_,_,fun i=>bs.getD i false,rfl,Walks.list (A:=X.A.in1) (I.ok.hd hc) s.heap.objs.size p (Ar hlt) (bs.map Dc).toArray,⟨⟨_,Ap _ rfl,rfl,rfl⟩,?_⟩,?_,fun h' tk hk=>?_⟩
   . obtain⟨o,nn,e,c,dd,sq⟩:=pl;exact⟨o,Ac _ e,c,nn,sq⟩
   . intro i v s' Q' E' hv hq;have hv:((bs.map Dc).toArray)[i]?=some v:=hv;rw[Ey,AB] at hv
     cases ei:bs[i]? with
     | none=>rw[ei] at hv;cases hv
     | some bb =>
       rw[ei] at hv;cases hv;refine Bl ?_;have hg:bs.getD i false=bb:=by rw[Au,ei];rfl
       have hq:Q' (bs.getD i false) s':=hq;rw[hg] at hq;exact hq
   . refine⟨.bl _,H,I.kept (t':=tk) fun b o q=>hk b o ?_ (Ac _ q),rfl,?_⟩
     . simp;exact Ar<|Ai q
     . have:((AC (bs.map Dc).toArray.size).all fun i=>bs.getD i false)=bs.all id:=by simpa using range_all bs
       rw[this];exact k.now S rfl
 . cases e
end L2.MP
namespace Srt
open PySem PySem.W PyProof.Rows
variable {α:Type}
def Hd(n:Nat)(r:Nat->Int){α:Type}:KasT α->(α->Prop)->Prop
 | .ret a,Q=>Q a
 | .ask i j k,Q=>(i < n/\j < n)/\Hd n r (k<|decide (r i < r j)) Q
variable {n i j src d m N:Nat}{c:Prop}{p:Array Nat}
section
variable {r:Nat->Int} {β:Type}
def Hd.bind{f:α->KasT β}{Q:β->Prop}:∀ {t:KasT α},Hd n r t (fun a=>Hd n r (f a) Q)->Hd n r (t.bind f) Q
 | .ret _,h=>h
 | .ask i j k,h=>⟨h.1,Hd.bind (t:=k _) h.2⟩
def Hd.mono{P Q:α->Prop}(k:∀ a,P a->Q a):∀ {t:KasT α},Hd n r t P->Hd n r t Q
 | .ret a,h=>k a h
 | .ask i j f,h=>⟨h.1,Hd.mono k (t:=f _) h.2⟩
def ziU[Decidable c]{A B:KasT α}{Q:α->Prop}(hc:c)(h:Hd n r A Q):Hd n r (if decide c=true then A else B) Q:=by rw[decide_eq_true hc,if_pos rfl];exact h
def ziV[Decidable c]{A B:KasT α}{Q:α->Prop}(hc:¬ c)(h:Hd n r B Q):Hd n r (if decide c=true then A else B) Q:=by rw[decide_eq_false hc,if_neg Bm];exact h
def Bel(n:Nat)(p:Array Nat):Prop:=∀ k,p.getD k 0 < n
def R(r:Nat->Int)(p:Array Nat)(k:Nat):Int:=r<|p.getD k 0
def Up(r:Nat->Int)(p:Array Nat)(m:Nat):Prop:=∀ i j,i<=j->j < m->R r p i<=R r p j
def Dn(r:Nat->Int)(p:Array Nat)(m:Nat):Prop:=∀ i j,i<=j->j < m->R r p j<=R r p i
def getD_eq{q:Array Nat}(h:p[i]?=q[j]?):p.getD i 0=q.getD j 0:=by rw[BY,BY,h]
def zgz(hj:j<=p.size)(k:Nat):(kas_rev p i j).getD k 0=if i<=k/\k < j then p.getD (i+j - 1 - k) 0 else p.getD k 0:=by
 have e:=getElem?_mirror_all (i:=i) hj k;unfold kas_rev
 by_cases h:i<=k/\k < j
 . rw[if_pos h] at e ⊢;exact getD_eq e
 rw[if_neg h] at e ⊢;exact getD_eq e
def zlC(hs:src < p.size)(hd:d<=src)(k:Nat):(bubble p src d).getD k 0=if k=src - d then p.getD src 0 else if src - d < k/\k<=src then p.getD (k - 1) 0 else p.getD k 0:=by
 have e:=getElem?_bubble hs d hd k
 by_cases h1:k=src - d
 . rw[if_pos h1] at e ⊢;exact getD_eq e
 . rw[if_neg h1] at e ⊢
   by_cases h2:src - d < k/\k<=src
   . rw[if_pos h2] at e ⊢;exact getD_eq e
   rw[if_neg h2] at e ⊢;exact getD_eq e
def zfl(hj:j<=p.size)(h:Bel n p):Bel n (kas_rev p i j):=fun k=>by
 rw[zgz hj];split
 . exact h _
 exact h _
def zpz(hs:src < p.size)(hd:d<=src)(h:Bel n p):Bel n (bubble p src d):=fun k=>by
 rw[zlC hs hd]
 by_cases h1:k=src - d
 . rw[if_pos h1];exact h _
 . rw[if_neg h1]
   by_cases h2:src - d < k/\k<=src
   . rw[if_pos h2];exact h _
   rw[if_neg h2];exact h _
def zmh(p:Array Nat)(i j:Nat):(kas_rev p i j).size=p.size:=mirror_size _ _ _ _
def zj1(p:Array Nat)(i j:Nat):(kas_rev p i j).Perm p:=mirror_perm _ _ _ _
def Up.more(h:Up r p m)(hl:m=0\/R r p (m - 1)<=R r p m):Up r p (m+1):=fun i j hij hj=>by
 by_cases hm:j < m
 . exact h i j hij hm
 . have e:j=m:=by omega
   subst e
   by_cases hi:i=j
   . rw[hi];exact CZ _
   . rcases hl with hl | hl
     . omega
     exact Dl (h i (j - 1) (by omega)<|by omega) hl
def Dn.more(h:Dn r p m)(hl:m=0\/R r p m<=R r p (m - 1)):Dn r p (m+1):=fun i j hij hj=>by
 by_cases hm:j < m
 . exact h i j hij hm
 . have e:j=m:=by omega
   subst e
   by_cases hi:i=j
   . rw[hi];exact CZ _
   . rcases hl with hl | hl
     . omega
     exact Dl hl<|h i (j - 1) (by omega)<|by omega
def zny{p:Array Nat}(hb:Bel n p):∀ (f m:Nat),1<=m->Up r p m->Hd n r (kas_asc p f m) fun m'=>m<=m'/\m'<=m+f/\Up r p m'/\(m' < m+f->R r p m' < R r p (m' - 1))
 | 0,m,h1,h=>⟨Ah _,Ah _,h,fun z=>absurd z (AR _)⟩
 | f+1,m,h1,h=>by
   refine⟨⟨hb _,hb _⟩,?_⟩
   by_cases c:r (p.getD m 0) < r (p.getD (m - 1) 0)
   . refine ziU c ?_;exact⟨Ah _,B9 _ _,h,fun _=>c⟩
   refine ziV c ?_;refine Hd.mono (fun m' h'=>?_)<|zny hb f (m+1) (by omega)<|h.more<|.inr<|Int.not_lt.mp c;exact⟨by omega,by omega,h'.2.2.1,fun z=>h'.2.2.2 (by omega)⟩
def Eqs(r:Nat->Int)(p:Array Nat)(i j:Nat):Prop:=∀ k,i<=k->k < j->R r p k=R r p (j - 1)
def zia(hj:j<=p.size)(h:Eqs r p i j)(k:Nat):R r (kas_rev p i j) k=R r p k:=by
 unfold R;rw[zgz hj]
 split
 . rename_i hk;have h1:=h (i+j - 1 - k) (by omega) (by omega);have h2:=h k hk.1 hk.2;exact h1.trans h2.symm
 rfl
def Dn.same{p':Array Nat}(h:Dn r p m)(e:∀ k,R r p' k=R r p k):Dn r p' m:=fun i j a b=>by rw[e,e];exact h i j a b
def zqw(hm:m<=p.size)(h:Dn r p m):Up r (kas_rev p 0 m) m:=fun i j hij hj=>by unfold R;rw[zgz hm,zgz hm,if_pos (by omega),if_pos (by omega)];exact h (0+m - 1 - j) (0+m - 1 - i) (by omega)<|by omega
def zgZ{N:Nat}:∀ (f:Nat) (p:Array Nat) (m q:Nat),Bel n p->p.size=N->1<=m->m+f<=N->q+1<=m->Dn r p m->Eqs r p (m - (q+1)) m ->
   Hd n r (kas_desc f p m q) fun t=>Bel n t.1/\t.1.Perm p/\m<=t.2.1/\t.2.1<=m+f/\t.2.2+1<=t.2.1/\Dn r t.1 t.2.1/\Eqs r t.1 (t.2.1 - (t.2.2+1)) t.2.1
 | 0,p,m,q,hb,hs,h1,h2,h3,hd,he=>⟨hb,CG _,Ah _,Ah _,h3,hd,he⟩
 | f+1,p,m,q,hb,hs,h1,h2,h3,hd,he=>by
   refine⟨⟨hb _,hb _⟩,?_⟩
   by_cases c:r (p.getD m 0) < r (p.getD (m - 1) 0)
   . refine ziU c ?_;have one:∀ p':Array Nat,Eqs r p' (m+1 - (0+1)) (m+1):=fun p' k h1 h2=>by
       have e:k=m+1 - 1:=by omega
       subst e;rfl
     by_cases hq:q > 0
     . rw[if_pos hq];have hz:m<=p.size:=by omega
       have e:=zia hz he;refine Hd.mono (fun t ht=>?_)<|zgZ f (kas_rev p (m - (q+1)) m) (m+1) 0 (zfl hz hb) ((zmh _ _ _).trans hs) (by omega) (by omega) (by omega) ((hd.more<|.inr<|Dm c).same e)<|one _;exact⟨ht.1,ht.2.1.trans<|zj1 _ _ _,by omega,by omega,ht.2.2.2.2⟩
     rw[if_neg hq];refine Hd.mono (fun t ht=>?_)<|zgZ f p (m+1) 0 hb hs (by omega) (by omega) (by omega) (hd.more<|.inr<|Dm c)<|one _;exact⟨ht.1,ht.2.1,by omega,by omega,ht.2.2.2.2⟩
   . refine ziV c ?_;refine⟨⟨hb _,hb _⟩,?_⟩
     by_cases d:r (p.getD (m - 1) 0) < r (p.getD m 0)
     . refine ziU d ?_;exact⟨hb,CG _,Ah _,B9 _ _,h3,hd,he⟩
     . refine ziV d ?_;have eq:R r p m=R r p (m - 1):=F4 (Int.not_lt.mp d)<|Int.not_lt.mp c;refine Hd.mono (fun t ht=>?_) (zgZ f p (m+1) (q+1) hb hs (by omega) (by omega) (by omega) (hd.more<|.inr<|Int.not_lt.mp d) fun k k1 k2=>?_)
       . exact⟨ht.1,ht.2.1,by omega,by omega,ht.2.2.2.2⟩
       . show R r p k=R r p (m+1 - 1)
         by_cases hk:k=m
         . rw[hk];rfl
         rw[Nat.add_sub_cancel,eq];exact he k (by omega)<|by omega
def zrP(n N:Nat)(r:Nat->Int)(p:Array Nat)(t:Nat×Array Nat):Prop:=Bel n t.2/\t.2.Perm p/\1<=t.1/\t.1<=N/\Up r t.2 t.1
def zhO(hb:Bel n p)(hs:p.size=N)(h1:1<=m)(h2:m<=N)(hd:Dn r p m):Hd n r (kas_tail3 m N p) (zrP n N r p):=by
 unfold kas_tail3;have hz:m<=p.size:=by omega
 refine Hd.bind<|Hd.mono (fun m' h'=>?_)<|zny (zfl hz hb) (N - m) m h1<|zqw hz hd;exact⟨zfl hz hb,zj1 _ _ _,by omega,by omega,h'.2.2.1⟩
def zes(hb:Bel n p)(hs:p.size=N)(h1:1<=m)(h2:m+1<=N)(hd:Dn r p (m+1)):Hd n r (kas_descPart m N p) (zrP n N r p):=by
 unfold kas_descPart;refine Hd.bind (Hd.mono (fun t ht=>?_) (zgZ (N:=N) (N - (m+1)) p (m+1) 0 hb hs (by omega) (by omega) (by omega) hd fun k k1 k2=>by
   have:k=m+1 - 1:=by omega
   rw[this]))
 obtain⟨t1,t2,t3,t4,t5,t6,t7⟩:=ht;have hsz:t.1.size=N:=t2.size_eq.trans hs
 by_cases hq:t.2.2 > 0
 . rw[if_pos hq];have hz:t.2.1<=t.1.size:=by omega
   refine Hd.mono (fun u hu=>?_)<|zhO (zfl hz t1) ((zmh _ _ _).trans hsz) (by omega) (by omega)<|t6.same<|zia hz t7;exact⟨hu.1,(hu.2.1.trans<|zj1 _ _ _).trans t2,hu.2.2⟩
 rw[if_neg hq];refine Hd.mono (fun u hu=>?_)<|zhO t1 hsz (by omega) (by omega) t6;exact⟨hu.1,hu.2.1.trans t2,hu.2.2⟩
def znn(hb:Bel n p)(hs:p.size=N)(hN:1<=N):Hd n r (kas_count N p) (zrP n N r p):=by
 unfold kas_count;have up1:Up r p 1:=fun i j a b=>by
   have:i=j:=by omega
   rw[this];exact CZ _
 refine Hd.bind<|Hd.mono (fun m hm=>?_)<|zny hb (N - 1) 1 (Ah _) up1;obtain⟨m1,m2,m3,m4⟩:=hm
 by_cases e:(m==N)=true
 . rw[if_pos e];exact⟨hb,CG _,m1,by omega,m3⟩
 . rw[if_neg e];have ne:m≠N:=fun z=>e (by simp[z]);have lt:=m4 (by omega)
   by_cases g:m > 1
   . rw[if_pos g];refine⟨⟨hb _,hb _⟩,?_⟩
     by_cases c:r (p.getD 0 0) < r (p.getD (m - 1) 0)
     . refine ziU c ?_;exact⟨hb,CG _,m1,by omega,m3⟩
     . refine ziV c ?_;have hz:m<=p.size:=by omega
       have all:∀ k,k < m->R r p k=R r p (m - 1):=fun k hk=>F4 (m3 k (m - 1) (by omega)<|by omega)<|Dl (Int.not_lt.mp c)<|m3 0 k (by omega) hk;have e:=zia (i:=0) hz fun k _ hk=>all k hk;have dn:Dn r p m:=fun i j a b=>by rw[all i (by omega),all j b];exact CZ _
       refine Hd.mono (fun u hu=>?_)<|zes (zfl (i:=0) hz hb) ((zmh _ _ _).trans hs) m1 (by omega)<|(dn.more<|.inr<|Dm lt).same e;exact⟨hu.1,hu.2.1.trans<|zj1 _ _ _,hu.2.2⟩
   . rw[if_neg g];have m1':m=1:=by omega
     subst m1';have dn:Dn r p 1:=fun i j a b=>by
       have:i=j:=by omega
       rw[this];exact CZ _
     exact zes hb hs (Ah _) (by omega)<|dn.more<|.inr<|Dm lt
def zdS{p:Array Nat}{k:Nat}(hb:Bel n p)(hu:Up r p k):∀ (f a b:Nat),a<=b->b<=k->b<=a+f->(∀ x,x < a->R r p x<=R r p k)->(∀ x,b<=x->x < k->R r p k<=R r p x) ->
   Hd n r (kas_place p k f a b) fun l=>l<=k/\(∀ x,x < l->R r p x<=R r p k)/\∀ x,l<=x->x < k->R r p k<=R r p x
 | 0,a,b,h1,h2,h3,hl,hr=>by
   have:a=b:=by omega
   subst this;exact⟨h2,hl,hr⟩
 | f+1,a,b,h1,h2,h3,hl,hr=>by
   unfold kas_place
   by_cases g:a ≥ b
   . rw[if_pos g];have:a=b:=by omega
     subst this;exact⟨h2,hl,hr⟩
   . rw[if_neg g];refine⟨⟨hb _,hb _⟩,?_⟩
     by_cases c:r (p.getD k 0) < r (p.getD ((a+b) / 2) 0)
     . refine ziU c ?_;refine zdS hb hu f a ((a+b) / 2) (by omega) (by omega) (by omega) hl fun x x1 x2=>?_;exact Dl (Dm c)<|hu ((a+b) / 2) x x1 x2
     refine ziV c ?_;refine zdS hb hu f ((a+b) / 2+1) b (by omega) h2 (by omega) (fun x hx=>?_) hr;exact Dl (hu x ((a+b) / 2) (by omega)<|by omega)<|Int.not_lt.mp c
def zpE{N:Nat}:∀ (f:Nat) (p:Array Nat) (k:Nat),Bel n p->p.size=N->k+f=N->Up r p k->Hd n r (kas_bin f p k) fun q=>q.Perm p/\Up r q N
 | 0,p,k,hb,hs,hk,hu=>⟨CG _,by rw[<-hk];exact hu⟩
 | f+1,p,k,hb,hs,hk,hu=>by
   unfold kas_bin;refine Hd.bind<|Hd.mono (fun l hl=>?_)<|zdS hb hu k 0 k (Bd _) (Ah _) (by omega) (fun x hx=>absurd hx (F5 _)) fun x a b=>absurd (Av b a) (AR _);obtain⟨l1,l2,l3⟩:=hl;have hks:k < p.size:=by omega
   refine Hd.mono (fun q hq=>⟨hq.1.trans<|bubble_perm _ _ _,hq.2⟩)<|zpE f (bubble p k<|k - l) (k+1) (zpz hks (by omega) hb) ((bubble_size _ _ _).trans hs) (by omega) fun i j hij hj=>?_;have g:∀ x,R r (bubble p k<|k - l) x=if x=l then R r p k else if l < x/\x<=k then R r p (x - 1) else R r p x:=fun x=>by
     unfold R;rw[zlC hks (by omega)];have e:k - (k - l)=l:=by omega
     rw[e]
     by_cases a1:x=l
     . rw[if_pos a1,if_pos a1]
     . rw[if_neg a1,if_neg a1]
       by_cases a2:l < x/\x<=k
       . rw[if_pos a2,if_pos a2]
       rw[if_neg a2,if_neg a2]
   rw[g i,g j]
   by_cases h1:i=l
   . rw[if_pos h1]
     by_cases h2:j=l
     . rw[if_pos h2];exact CZ _
     rw[if_neg h2,if_pos (by omega)];exact l3 (j - 1) (by omega)<|by omega
   . rw[if_neg h1]
     by_cases h2:j=l
     . rw[if_pos h2,if_neg (by omega)];exact l2 i<|by omega
     . rw[if_neg h2]
       by_cases h3:l < i/\i<=k
       . rw[if_pos h3,if_pos (by omega)];exact hu (i - 1) (j - 1) (by omega)<|by omega
       . rw[if_neg h3]
         by_cases h4:l < j/\j<=k
         . rw[if_pos h4];exact hu i (j - 1) (by omega)<|by omega
         rw[if_neg h4];exact hu i j hij<|by omega
def zj2(hn:1<=n):Bel n (BZ<|AC n):=fun k=>by
 rw[BY,Ey]
 by_cases h:k < n
 . rw[Dt h];exact h
 rw[List.getElem?_eq_none_iff.mpr (by rw[Cp];omega)];exact hn
def sort_ok(hn:1<=n):Hd n r (kas_sort n) fun q=>q.Perm (BZ<|AC n)/\Up r q n:=by
 unfold kas_sort;have hs:(BZ<|AC n).size=n:=by simp
 refine Hd.bind<|Hd.mono (fun t ht=>?_)<|znn (zj2 hn) hs hn;obtain⟨t1,t2,t3,t4,t5⟩:=ht
 by_cases h:t.1 < n
 . rw[if_pos h];have e:max t.1 1=t.1:=Nat.max_eq_left t3;rw[e];refine Hd.mono (fun q hq=>⟨hq.1.trans t2,hq.2⟩)<|zpE (N:=n) (n - t.1) t.2 t.1 t1 (t2.size_eq.trans hs) (by omega) t5
 . rw[if_neg h];have e:t.1=n:=by omega
   exact⟨t2,by rw[<-e];exact t5⟩
end
end Srt
namespace L2.MP
open PySem PySem.Spec PyProof.Rows
def zo3:∀ a:List Int,HT.lexLt a a=false
 | []=>rfl
 | x::r=>by rw[HT.lexLt_cons,if_pos rfl];exact zo3 r
def zlp:∀ {a b:List Int},HT.lexLt a b=false->HT.lexLt b a=false->a=b
 | [],[],_,_=>rfl
 | [],_::_,h,_=>by rw[HT.lexLt_nil_cons] at h;cases h
 | _::_,[],_,h=>by rw[HT.lexLt_nil_cons] at h;cases h
 | x::a,y::b,h1,h2=>by
   rw[HT.lexLt_cons] at h1 h2
   by_cases e:x=y
   . subst e;rw[if_pos rfl] at h1 h2;rw[zlp h1 h2]
   rw[if_neg e] at h1;rw[if_neg (AZ e)] at h2;have a1:=of_decide_eq_false h1;have a2:=of_decide_eq_false h2;omega
def ziG:∀ {a b c:List Int},HT.lexLt b a=false->HT.lexLt c b=false->HT.lexLt c a=false
 | a,[],c,_,h2=>by
   cases c with
   | nil =>
     cases a with
     | nil=>rfl
     | cons x a=>rename_i h1;rw[HT.lexLt_nil_cons] at h1;cases h1
   | cons z c =>
     cases a with
     | nil=>exact HT.lexLt_cons_nil _ _
     | cons x a=>rename_i h1;rw[HT.lexLt_nil_cons] at h1;cases h1
 | a,y::b,[],_,h2=>by rw[HT.lexLt_nil_cons] at h2;cases h2
 | [],y::b,z::c,_,_=>HT.lexLt_cons_nil _ _
 | x::a,y::b,z::c,h1,h2=>by
   rw[HT.lexLt_cons] at h1 h2 ⊢
   by_cases e1:y=x
   . subst e1;rw[if_pos rfl] at h1
     by_cases e2:z=y
     . subst e2;rw[if_pos rfl] at h2 ⊢;exact ziG h1 h2
     rw[if_neg e2] at h2 ⊢;exact h2
   . rw[if_neg e1] at h1;have a1:=of_decide_eq_false h1
     by_cases e2:z=y
     . subst e2;rw[if_neg e1];exact h1
     rw[if_neg e2] at h2;have a2:=of_decide_eq_false h2;rw[if_neg (by omega)];exact decide_eq_false<|by omega
def zlo{a b:List Int}(h:HT.lexLt a b=true):HT.lexLt b a=false:=by
 cases e:HT.lexLt b a with
 | false=>rfl
 | true =>
   -- b < a and a < b: then not (a < a) breaks
   exfalso;have:∀ {a b:List Int},HT.lexLt a b=true->HT.lexLt b a=true->False:=by
     intro a
     induction a with
     | nil=>intro b h1 h2;cases b with
       | nil=>rw[HT.lexLt_nil_nil] at h1;cases h1
       | cons y b=>rw[HT.lexLt_cons_nil] at h2;cases h2
     | cons x a ih=>intro b h1 h2;cases b with
       | nil=>rw[HT.lexLt_cons_nil] at h1;cases h1
       | cons y b =>
         rw[HT.lexLt_cons] at h1 h2
         by_cases q:x=y
         . subst q;rw[if_pos rfl] at h1 h2;exact ih h1 h2
         rw[if_neg q] at h1;rw[if_neg (AZ q)] at h2;have a1:=of_decide_eq_true h1;have a2:=of_decide_eq_true h2;omega
   exact this h e
def tle(a b:List Int):Bool:=!HT.lexLt b a
def zhX(ts:List (List Int)):List (List Int):=ts.mergeSort tle
def zeC(a b c:List Int)(h1:tle a b=true)(h2:tle b c=true):tle a c=true:=by unfold tle at *;rw[BF] at *;exact ziG h1 h2
def zjG(a b:List Int):(tle a b || tle b a)=true:=by
 unfold tle
 cases e:HT.lexLt b a with
 | false=>rfl
 | true=>rw[zlo e];rfl
def zlQ{a b:List Int}(h1:tle a b=true)(h2:tle b a=true):a=b:=by unfold tle at *;rw[BF] at *;exact zlp h2 h1
def rank(ts:List (List Int))(i:Nat):Int:=((ts.countP fun t=>HT.lexLt t (ts.getD i [])):Nat)
variable {ts:List (List Int)}{i j:Nat}
def zk9(hi:i < ts.length):(decide (rank ts i < rank ts j))=HT.lexLt (ts.getD i []) (ts.getD j []):=by
 unfold rank
 cases e:HT.lexLt (ts.getD i []) (ts.getD j []) with
 | true =>
   refine decide_eq_true ?_;have le:ts.countP (fun t=>HT.lexLt t (ts.getD i [])) < ts.countP (fun t=>HT.lexLt t (ts.getD j [])):=by
     have hm:ts.getD i []∈ts:=by rw[Au,Ag hi];exact Bq hi
     generalize ha:ts.getD i []=a at *;generalize hb:ts.getD j []=b at *;clear ha hb hi;have sub:∀ t,HT.lexLt t a=true->HT.lexLt t b=true:=fun t ht=>by
       cases q:HT.lexLt t b with
       | true=>rfl
       | false =>
         exfalso
         -- b<=t,t < a,a < b
         have h1:HT.lexLt a t=false:=zlo ht;have:HT.lexLt a b=false:=by
           have h2:tle b t=true:=by unfold tle;rw[q];rfl
           have h3:tle t a=true:=by unfold tle;rw[h1];rfl
           have:=zeC b t a h2 h3;unfold tle at this;rw[BF] at this;exact this
         rw[e] at this;cases this
     induction ts with
     | nil=>exact absurd hm (by simp)
     | cons t r ih =>
       rw[FP,FP]
       rcases List.mem_cons.mp hm with q | q
       . subst q;rw[zo3,e];have:r.countP (fun t=>HT.lexLt t a)<=r.countP (fun t=>HT.lexLt t b):=Ez fun t _ ht=>sub t ht;simp only[By,if_false,if_true];omega
       . have:=ih q
         by_cases c:HT.lexLt t a=true
         . rw[if_pos c,if_pos (sub t c)];omega
         rw[if_neg c];split <;> omega
   omega
 | false =>
   refine decide_eq_false ?_;have le:ts.countP (fun t=>HT.lexLt t (ts.getD j []))<=ts.countP (fun t=>HT.lexLt t (ts.getD i [])):=Ez fun t _ ht=>by
     cases q:HT.lexLt t (ts.getD i []) with
     | true=>rfl
     | false =>
       exfalso;have h2:tle (ts.getD j []) (ts.getD i [])=true:=by unfold tle;rw[e];rfl
       have h3:tle (ts.getD i []) t=true:=by unfold tle;rw[q];rfl
       have h4:=zeC _ _ _ h2 h3;unfold tle at h4;rw[ht] at h4;cases h4
   omega
variable {n:Nat}{α:Type}{s:Shared}
def zrn{n:Nat}{r:Nat->Int}{α:Type}{P:α->Prop}{Q:α->Shared->Prop}{s:Shared}{cmp:Nat->Nat->(Bool->Shared->Prop)->Shared->Prop}(hc:∀ i j,i < n->j < n->∀ C:Bool->Shared->Prop,C (decide (r i < r j)) s->cmp i j C s)(hq:∀ a,P a->Q a s) :
   ∀ {t:PySem.W.KasT α},Srt.Hd n r t P->t.kasWp cmp Q s
 | .ret a,h=>hq a h
 | .ask i j k,h=>hc i j h.1.1 h.1.2 _<|zrn hc hq (t:=k _) h.2
variable {prog:Program}{w:World}{A:Around}{E:Value->Shared->Prop}
def zeq{Q:Bool->Shared->Prop}:∀ {xs ys:List Int} {us ws:List Value} (i:Nat),Vals (xs.map V.int) us->Vals (ys.map V.int) ws->Q (HT.lexLt xs ys) s->PySem.W.KatLex prog w A true (decide (us.length < ws.length)) Q (us.zip ws) i s
 | [],[],_,_,i,.nil,.nil,h=>h
 | [],y::ys,_,_,i,.nil,.cons r t,h=>by show Q (decide (_ < _)) s;rw[decide_eq_true (by simp)];exact h
 | x::xs,[],_,_,i,.cons r t,.nil,h=>by show Q (decide (_ < _)) s;rw[decide_eq_false (by simp)];exact h
 | x::xs,y::ys,_,_,i,.cons r1 t1,.cons r2 t2,h=>by
   obtain⟨a1,rfl⟩:=r1;obtain⟨a2,rfl⟩:=r2;rw[HT.lexLt_cons] at h;refine SeqAt.EqAt.int_int x a1 y a2 prog w _ _ ?_
   by_cases e:x=y
   . subst e;rw[if_pos rfl] at h;rw[beq_self_eq_true,if_pos rfl];have:=zeq (Q:=Q) (i+1) t1 t2 h;rw[Az,Az];have e2:∀ a b:Nat,decide (a+1 < b+1)=decide (a < b):=fun a b=>by
       by_cases q:a < b
       . rw[decide_eq_true q,decide_eq_true (by omega)]
       rw[decide_eq_false q,decide_eq_false (by omega)]
     rw[e2];exact this
   . rw[if_neg e] at h;have hb:(x==y)=false:=by simpa using e
     rw[hb,if_neg Bm]
     by_cases hi:i=0
     . subst hi;exact oneLt_int h
     . have:(true&&i==0)=false:=by simpa using hi
       rw[this];exact PySem.W.kat_one _ _<|lt_int h
variable {X:Cx}{pins:List (Addr×Obj)}{σ:L2.St}{H:Hp}
def zhz(H:Hp):List V->List (List Int)->Prop:=Paired fun v t=>∃ a,v=.ref a/\H a=some (.tup<|t.map V.int)/\t≠[]
def zfT:∀ {xs:List V} {ts:List (List Int)} {i:Nat},zhz H xs ts->i < ts.length->∃ a,xs[i]?=some (.ref a)/\H a=some (.tup<|(ts.getD i []).map V.int)/\ts.getD i []≠[]
 | _,[],i,_,hi=>absurd hi<|by simp
 | _,t::ts,0,.cons r q,_=>by obtain⟨a,rfl,ha,hn⟩:=r;exact⟨a,rfl,ha,hn⟩
 | _,t::ts,i+1,.cons r q,hi=>by have:=zfT (i:=i) q (by simpa using hi);simpa using this
def zpH{xs:List V}{us:List Value}{s':Shared}(I:Inv X pins σ H s)(hk:∀ b o,H b≠none->s.heap.get? b=some o->s'.heap.get? b=some o)(T:zhz H xs ts)(r:Vals xs us)(hi:i < ts.length)(hj:j < ts.length)(C:Bool->Shared->Prop)
   (h:C (decide (rank ts i < rank ts j)) s'):F6 X.prog X.w A (PyProof.Rows.tuples' true) us i j C s':=by
 rw[zk9 hi] at h;obtain⟨a,ea,ha,_⟩:=zfT T hi;obtain⟨b,eb,hb,_⟩:=zfT T hj;obtain⟨u,eu,ru⟩:=r.get ea;obtain⟨u2,eu2,ru2⟩:=r.get eb;cases ru;cases ru2;obtain⟨ia,va,⟨oa,ga,ca,na,da⟩,_⟩:=I.tuple<|SqT.of (K:=X.K) ha;obtain⟨ib,vb,⟨ob,gb,cb,nb,db⟩,_⟩:=I.tuple<|SqT.of (K:=X.K) hb;unfold F6;rw[Au,Au,eu,eu2];refine PySem.W.kat_lt (hk _ _ (by rw[ha];simp) ga) da (hk _ _ (by rw[hb];simp) gb) db ?_;have:=zeq (prog:=X.prog) (w:=X.w) (A:=A) (Q:=C) (s:=s') 0 va vb h;simpa using this
variable {h':Heap}
def zgi{h':Heap}(I:Inv X pins σ H s)(hk:∀ b o,H b≠none->s.heap.get? b=some o->h'.get? b=some o):∀ {xs:List V} {us:List Value} {ts:List (List Int)},zhz H xs ts->Vals xs us ->
   ∃ fs:List Value,PySem.W.KatTups h' us fs/\fs.length=us.length/\∀ v∈fs,∃ i t,v=DA i t
 | _,_,[],.nil,.nil=>⟨[],GG,rfl,fun v hv=>absurd hv (by simp)⟩
 | _,_,t::ts,.cons r q,.cons rv rvs=>by
   obtain⟨a,rfl,ha,hn⟩:=r;cases rv;obtain⟨fs,h1,h2,h3⟩:=zgi I hk q rvs;obtain⟨its,va,⟨o,g,c,n,d⟩,_⟩:=I.tuple<|SqT.of (K:=X.K) ha
   cases t with
   | nil=>exact absurd rfl hn
   | cons x t =>
     cases va with
     | @cons _ u _ us' ru rus =>
       obtain⟨tk,rfl⟩:=ru;refine⟨.int x tk::fs,GB (hk _ _ (by rw[ha];simp) g) c d (by simp) h1,by rw[Az,Az,h2],fun v hv=>?_⟩
       rcases List.mem_cons.mp hv with rfl | hv
       . exact⟨x,tk,rfl⟩
       exact h3 v hv
variable {a:Addr}{P:Program}{h:Heap}
def zgH{o:HO}(x:zdu P w H h a o):∃ u,h.get? a=some u:=by
 cases o with
 | lst xs=>obtain⟨_,_,_,_,e⟩:=x;exact⟨_,e⟩
 | tup xs=>obtain⟨_,_,_,o,e,_⟩:=x;exact⟨_,e⟩
 | dK kvs=>obtain⟨_,_,_,_,o,_,_,e,_⟩:=x;exact⟨_,e⟩
 | dT kvs=>obtain⟨_,_,_,_,o,_,_,e,_⟩:=x;exact⟨_,e⟩
 | set S n=>obtain⟨o,_,_,_,e,_⟩:=x;exact⟨_,e⟩
 | ins C dx fs=>obtain⟨_,_,_,e,_⟩:=x;exact⟨_,e⟩
 | own y=>exact x
 | xd fs=>obtain⟨_,⟨_,_,_,e,_⟩,_⟩:=x;exact⟨_,e⟩
 | rng lo hi=>obtain⟨_,_,_,e⟩:=x;exact⟨_,e⟩
 | frz ob u=>obtain⟨e,_⟩:=x;exact⟨_,e⟩
 | tbl ps=>exact⟨_,x⟩
 | met f y=>exact⟨_,x⟩
 | ext φ=>obtain⟨_,e,_⟩:=x;exact e
variable {m:Str->Option Value}
def zoP{m':Str->Option Value}(x:h.Ns a m)(y:h.Ns a m'):m=m':=by
 obtain⟨o,es,ep,ho,hd,_,hm⟩:=x;obtain⟨o',es',ep',ho',hd',_,hm'⟩:=y;rw[ho] at ho';cases ho';rw[hd] at hd';cases hd'
 funext n
 rw[<-hm n,hm' n]
variable {l:Addr}
def Inv.laidAt{m:Str->Option Value}{o:HO}(I:Inv X pins σ H s)(k:∀ b u,b≠X.env.locals->s.heap.get? b=some u->h'.get? b=some u)(ns:∀ m,s.heap.Ns X.env.locals m->h'.Ns X.env.locals m)(hL:∃ u,h'.get? X.env.locals=some u)
   (ha:s.heap.get? a=none) (hH:H a=none) (haL:a≠X.env.locals) (new:zdu X.prog X.w (upd H a o) h' a o):Inv X pins σ (upd H a o) { s with heap:=h' }:=by
 have na:∀ b u,s.heap.get? b=some u->b≠a:=fun b u e z=>by rw[z,ha] at e;cases e
 refine Inv.step (t':=s.toks) (ch:=[]) (g':=s.gens) (d':=s.drawn) I (fun b hb=>absurd hb (by simp)) (fun b u h1 _ _ e _=>k b u h1 e) (fun b u h1 _ _ e _=>⟨u.slots,k b u h1 e⟩) (fun b u _ e n=>by rw[zan (na b u e)];exact n) (fun b u _ e=>?_)
   (fun b xs e=>by rw[zan (zaq e hH)];exact e) (fun b u v e=>by rw[zan (zaq e hH)];exact e) (fun b ps e=>⟨#[],by rw[zan (zaq e hH),e];simp⟩) ns (fun b u e=>?_) I.bare
 . by_cases hb:b=X.env.locals
   . rw[hb];exact hL
   exact⟨u,k b u hb e⟩
 . by_cases hb:b=a
   . subst hb;rw[zaC] at e;cases e;exact new
   . rw[zan hb] at e;refine (I.hok b u e).stay (fun c v hc q=>k c v (fun z=>?_) q) (fun c q=>by rw[zan (zaq q hH)];exact q) fun c xs q=>by rw[zan (zaq q hH)];exact q
     subst z
     rcases hc with rfl | hc
     . rw[I.free] at e;cases e
     rw[I.free] at hc;cases hc
def zhg{xs:List V}{Q:VK}(I:Inv X pins σ H s)(hl:SqL X.K H l xs)(T:zhz H xs ts)(h2:2<=ts.length)(h64:ts.length < 64)
   (h:∀ (q:Array Nat) (p:Addr),q.Perm (BZ<|AC ts.length)->Srt.Up (rank ts) q ts.length->H p=none->Q (.ref p) (upd H p<|.lst<|q.toList.map fun i=>xs.getD i .non)) :
   wpAny (model X.prog X.w) X.A (call (.builtin "sorted") [.ref l]) (EP X pins σ Q) X.xe s:=by
 obtain⟨its,rv,pl,hz⟩:=I.list hl;have hlen:its.length=ts.length:=by have a:=rv.length;have b:=Br T;omega
 obtain⟨m,F⟩:=I.fr;have trkL:∀ b,H b≠none->b≠X.env.locals:=fun b hb z=>hb (by rw[z];exact I.free);have trkB:∀ b,H b≠none->X.base.get? b=none:=fun b hb=>by
   cases e:X.base.get? b with
   | none=>rfl
   | some o=>exact absurd (I.bs b o e).2 hb
 refine PySem.W.kat_sorted F (zf9 (g:=X.base) (h:=s.heap) (L:=X.env.locals)) pl.isList (by omega) (by omega) fun D e1 h' F' N' hlt=>?_;have keep:∀ {h2:Heap} {o:Obj},Fr X.base X.env.locals h2 m->News X.base X.env.locals h2 ((D,o)::zd1 X.base s.heap X.env.locals)->∀ b u,b≠X.env.locals->s.heap.get? b=some u->h2.get? b=some u:=fun {h2 o} F2 N2 b u hb e=>by
   cases q:X.base.get? b with
   | some v =>
     have z:=(I.bs b v q).1;rw[e] at z;cases z;exact F2.keep b _ q
   | none=>exact (N2 (b,u)<|Aj _<|zde hb q e).1
 have hk:∀ b o,H b≠none->s.heap.get? b=some o->h'.get? b=some o:=fun b o hb e=>keep F' N' b o (trkL b hb) e;have hDD:=N' _ An;have hsD:s.heap.get? D=none:=by
   cases e:s.heap.get? D with
   | none=>rfl
   | some u=>exact absurd (hlt _<|zde hDD.2.1 hDD.2.2 e)<|AR _
 have hHD:H D=none:=by
   cases e:H D with
   | none=>rfl
   | some o =>
     obtain⟨u,hu⟩:=zgH<|I.hok D o e;rw[hsD] at hu;cases hu
 obtain⟨fs,k1,k2,k3⟩:=zgi (h':=h') I hk T rv;refine FQ (s:={ s with heap:=h' }) (T:=.type "int") k1 (by omega) (fun v hv=>?_) rfl ?_
 . obtain⟨i,t,rfl⟩:=k3 v hv;exact EA rfl
 have ok:=Srt.sort_ok (n:=its.length) (r:=rank ts) (by omega);refine zrn (n:=its.length) (r:=rank ts) (s:={ s with heap:=h' }) (fun i j hi hj C hC=>zpH (s':={ s with heap:=h' }) I hk T rv (by omega) (by omega) C hC) (fun q hq=>?_) ok;refine EN F' N' (Fz fun p hp=>Ar (hlt p hp)) fun h2 c F2 N2=>?_;have hD2:=(N2 _ An).1;rw[hlen] at hq;have vals:Vals (q.toList.map fun i=>xs.getD i .non) (q.toList.map fun i=>its.getD i AD):=by
   have hmem:∀ i∈q.toList,i < xs.length:=fun i hi=>by have:i∈(BZ<|AC ts.length).toList:=(Array.perm_iff_toList_perm.mp hq.1).mem_iff.mp hi;have hr:=rv.length;simp at this;omega
   generalize q.toList=ql at hmem
   induction ql with
   | nil=>exact .nil
   | cons i r ih =>
     refine .cons ?_<|ih fun j hj=>hmem j (Aj _ hj);have hi:=hmem i An;obtain⟨u,eu,ru⟩:=rv.get<|Ag hi;show RelV (xs.getD i V.non) (its.getD i AD);rw[Au,Au,Ag hi,eu];exact ru
 have hql:q.toList.length=ts.length:=by have:=(Array.perm_iff_toList_perm.mp hq.1).length_eq;simpa using this
 have J:Inv X pins σ (upd H D<|.lst<|q.toList.map fun i=>xs.getD i .non) { s with heap:=h2 } :=
   Inv.laidAt (m:=m) I (keep F2 N2) (fun m' hm'=>by rw[zoP hm' F.ns];exact F2.ns) (let ⟨o,_,_,e,_⟩:=F2.ns;⟨o,e⟩) hsD hHD hDD.2.1 ⟨by rw[Af,hql];exact lt64 h64,_,c,vals,hD2⟩
 exact⟨.ref D,_,J,rfl,h q D hq.1 hq.2 hHD⟩
def ze1(ts:List α)(d:α):(AC ts.length).map (fun i=>ts.getD i d)=ts:=by
 apply List.ext_getElem
 . simp
 intro i h1 h2;simp[Au,Ag h2]
def zej{q:Array Nat}(hp:q.Perm (BZ<|AC ts.length))(hu:Srt.Up (rank ts) q ts.length):q.toList.map (fun i=>ts.getD i [])=zhX ts:=by
 have hl:=Array.perm_iff_toList_perm.mp hp;have hl:q.toList.Perm (AC ts.length):=by simpa using hl
 have hsz:q.toList.length=ts.length:=by rw[hl.length_eq,Cp]
 have p1:(q.toList.map fun i=>ts.getD i []).Perm ts:=by have:=hl.map fun i=>ts.getD i [];rw[ze1] at this;exact this
 refine zdN (le:=fun a b=>tle a b=true) (p1.trans (Cy ts tle).symm) ?_ (Ec (fun a b c=>zeC a b c) zjG ts) fun a _ b _=>zlQ;rw[List.pairwise_iff_getElem];intro i j hi hj hij;rw[FR,FR];rw[Af] at hi hj;have hu:=hu i j (BJ hij) (by omega);have gi:∀ (k:Nat) (hk:k < q.toList.length),q.getD k 0=q.toList[k]:=fun k hk=>by rw[BY,<-EB,Ag hk];rfl
 unfold Srt.R at hu;rw[gi i hi,gi j hj] at hu;have lt:∀ k∈q.toList,k < ts.length:=fun k hk=>List.mem_range.mp<|hl.mem_iff.mp hk;have e:=zk9 (ts:=ts) (i:=q.toList[j]) (j:=q.toList[i])<|lt _<|Bq hj;rw[decide_eq_false (by omega)] at e;unfold tle;rw[<-e];rfl
def intsOf:List D->Option (List Int)
 | []=>some []
 | .int i::r=>(intsOf r).map fun is=>i::is
 | _=>none
variable {d:D}
def zhr{r:List D}{ss:List Int}(h:intsOf (d::r)=some ss):∃ x xs,d=.int x/\intsOf r=some xs/\ss=x::xs:=by
 cases d with
 | int x =>
   obtain⟨xs,e,h⟩:=zai h;exact⟨x,xs,rfl,e,h.symm⟩
 | _=>cases h
def rowOf:D->Option (List Int)
 | .tup ds=>(intsOf ds).bind fun t=>if (!t.isEmpty)=true then some t else none
 | _=>none
def rowsOf:List D->Option (List<|List Int)
 | []=>some []
 | d::r=>(rowOf d).bind fun t=>(rowsOf r).map fun ts=>t::ts
def tupD(t:List Int):D:=.tup<|t.map D.int
variable {K:Ab}{io:List Addr}{st st':Sto}
def ints_rep:∀ {xs:List V} {ds:List D} {t:List Int},Reps K H io xs ds->intsOf ds=some t->xs=t.map V.int/\ds=t.map D.int
 | _,[],t,h,e=>by cases e;exact⟨h,rfl⟩
 | _,d::ds,t,h,e=>by
   obtain⟨y,ys,rfl,h1,h2⟩:=h;obtain⟨x,rest,rfl,e2,rfl⟩:=zhr e;obtain⟨a,b⟩:=ints_rep h2 e2
   cases (show y=.int x from h1)
   rw[a,b];exact⟨rfl,rfl⟩
def zh8:∀ {xs:List V} {ds:List D} {ts:List (List Int)},Reps K H io xs ds->rowsOf ds=some ts->zhz H xs ts/\ds=ts.map tupD
 | _,[],ts,h,e=>by cases e;cases (show _=[] from h);exact⟨.nil,rfl⟩
 | _,d::ds,ts,h,e=>by
   obtain⟨y,ys,rfl,h1,h2⟩:=h;obtain⟨t,e1,e⟩:=zaf e;obtain⟨us,e2,e⟩:=zai e;subst e;obtain⟨a,b⟩:=zh8 h2 e2
   cases d with
   | tup zs =>
     obtain⟨t',f1,f2⟩:=zaf e1;obtain⟨hn,f2⟩:=zat f2;cases f2;obtain⟨p,vs,rfl,hp,rs⟩:=h1;obtain⟨q1,q2⟩:=ints_rep rs f1;subst q1;refine⟨.cons ⟨p,rfl,hp,fun z=>?_⟩ a,?_⟩
     . rw[z] at hn;exact absurd hn<|by decide
     rw[b,q2];rfl
   | _=>cases e1
def zeK:GN
 | [.ref n],st=>(zbs st n).bind fun ds=>(rowsOf ds).bind fun ts=>if (decide (2<=ts.length)&&decide (ts.length < 64))=true then some (.ref st.length,st++[.lst ((zhX ts).map tupD)]) else none
 | _,_=>none
def zeQ{xs:List V}{ts:List (List Int)}(r:Reps K H io xs (ts.map tupD)):∀ {q:List Nat},(∀ i∈q,i < ts.length)->Reps K H io (q.map fun i=>xs.getD i .non) ((q.map fun i=>ts.getD i []).map tupD)
 | [],_=>rfl
 | i::q,h=>by
   have hi:=h i An;have hg:(ts.map tupD)[i]?=some (tupD<|ts.getD i []):=by rw[AB,Ag hi,Au,Ag hi];rfl
   obtain⟨v,hv,rv⟩:=r.get hg;refine⟨_,_,rfl,?_,zeQ r fun j hj=>h j (Aj _ hj)⟩;show Rep K H io (xs.getD i .non) _;rw[Au,hv];exact rv
def zfI:zdF X (.builtin "sorted") zeK:=by
 rintro pins s σ H xs us Q I r ⟨ds,st,io,d,st',R,S,e,k⟩;unfold zeK at e
 split at e
 . rename_i n;obtain⟨zs,e0,e⟩:=zaf e;obtain⟨ts,e1,e⟩:=zaf e;obtain⟨hl,e⟩:=zat e;cases e;rw[Am] at hl;obtain⟨v,rfl,p,rfl,hp⟩:=R.one;obtain⟨u,rfl,ru⟩:=r.one;cases ru;obtain⟨ys,hx,r1⟩:=za7 S hp e0;obtain⟨T,hd⟩:=zh8 r1 e1;subst hd;refine zhg I hx T (of_decide_eq_true hl.1) (of_decide_eq_true hl.2) fun q p' hq hu hf=>?_;have hm:∀ i∈q.toList,i < ts.length:=fun i hi=>by
     have:=(Array.perm_iff_toList_perm.mp hq).mem_iff.mp hi;simpa using this
   have rr:=zeQ r1 hm;rw[zej hq hu] at rr;exact k.lst S rr hf
 . cases e
variable {ma mb:ME}{pos p:Pos}{g:G2}{k:Nat}
section
variable {a b c e:Expr} {es:List Expr} {mc m:ME} {mm:MA}
def orO:Option α->Option α->Option α
 | some x,_=>some x
 | none,y=>y
def zbU{x y:Option α}{z:α}(h:orO x y=some z):x=some z\/y=some z:=by
 cases x with
 | none=>exact .inr h
 | some w=>exact .inl h
def orG(g h:G2):G2:=fun x y st=>orO (g x y st)<|h x y st
def orN(g h:GN):GN:=fun xs st=>orO (g xs st)<|h xs st
def zkc{f:Value->Value->Sem Value}{h:G2}(p:OpM X f g)(q:OpM X f h):OpM X f (orG g h):=by
 rintro pins s σ H x y v u Q I rx ry ⟨dx,dy,st,io,d,st',Rx,Ry,S,e,k⟩
 rcases zbU e with e | e
 . exact p pins s σ H x y v u Q I rx ry ⟨dx,dy,st,io,d,st',Rx,Ry,S,e,k⟩
 exact q pins s σ H x y v u Q I rx ry ⟨dx,dy,st,io,d,st',Rx,Ry,S,e,k⟩
def ze8{f:Value}{g h:GN}(p:zdF X f g)(q:zdF X f h):zdF X f (orN g h):=by
 rintro pins s σ H xs us Q I r ⟨ds,st,io,d,st',R,S,e,k⟩
 rcases zbU e with e | e
 . exact p pins s σ H xs us Q I r ⟨ds,st,io,d,st',R,S,e,k⟩
 exact q pins s σ H xs us Q I r ⟨ds,st,io,d,st',R,S,e,k⟩
def zgM{ρ:Rho}{x y:D}{s0 s1 s2:Sto}{r:D×Sto}(h1:ma ρ s0=some (x,s1))(h2:mb ρ s1=some (y,s2))(h3:g x y s2=some r):mB g ma mb ρ s0=some r:=by unfold mB;rw[h1];show GA (mb ρ s1) _=_;rw[h2];exact h3
def zqn{h:G2}(p:SE X e (mB g ma mb))(q:SE X e (mB h ma mb)):SE X e (mB (orG g h) ma mb):=by
 rintro pins s σ H Q I ⟨ρ,st,io,d,st',E,S,e,k⟩;obtain⟨⟨x,s1⟩,e1,e⟩:=zaf e;obtain⟨⟨y,s2⟩,e2,e⟩:=zaf e
 rcases zbU e with e | e
 . exact p pins s σ H Q I ⟨ρ,st,io,d,st',E,S,zgM e1 e2 e,k⟩
 exact q pins s σ H Q I ⟨ρ,st,io,d,st',E,S,zgM e1 e2 e,k⟩
def zmd{h:G2}(p:SB X e (mT<|mB g ma mb))(q:SB X e (mT<|mB h ma mb)):SB X e (mT<|mB (orG g h) ma mb):=by
 rintro pins s σ H Q I ⟨ρ,st,io,d,st',E,S,e,k⟩;have e:=zhK e;obtain⟨⟨x,s1⟩,e1,e⟩:=zaf e;obtain⟨⟨y,s2⟩,e2,e⟩:=zaf e
 rcases zbU e with e | e
 . exact p pins s σ H Q I ⟨ρ,st,io,d,st',E,S,by unfold mT;rw[zgM e1 e2 e];rfl,k⟩
 exact q pins s σ H Q I ⟨ρ,st,io,d,st',E,S,by unfold mT;rw[zgM e1 e2 e];rfl,k⟩
def zrx:G2:=fun d k st=>match d with
 | .ref n=>(look st n k).bind fun r=>r.map fun v=>(v,st)
 | _=>none
def ixA:G2:=orG idxD zrx
def zap(hu:X.A.units+1 < cLine)(ha:SE X a ma)(hb:SE X b mb)(hs:zjs b:=by intro _ _;rfl)(hs':NoSl b:=by intro _ _;rfl):SE X (.Subscript a b pos) (mB ixA ma mb) :=
 zqn (zsv ha hb hs) (show SE X (.Subscript a b pos) (zrZ ma mb) from zok hu ha hb hs')
def dinD(neg:Bool):G2:=fun k d st=>match d with
 | .ref n=>(look st n k).map fun r=>(.bl (if neg then !r.isSome else r.isSome),st)
 | _=>none
def inA:G2:=orG (orG (inD false) inSD)<|dinD false
def zmI:G2:=orG (inD true)<|dinD true
def zjZ(hu:X.A.units+100 < cLine)(ha:SE X a ma)(hb:SE X b mb)(hm:behindInMarks .In b=false:=by rfl):SB X (.Compare a [.In] [b] pos) (mT<|mB inA ma mb) :=
 zmd (zbK (zkc (zqZ hu) zoM) ha hb hm) (show SB X _ (mT<|mDIn false ma mb) from zqt (by omega) ha hb hm)
def zjY(hu:X.A.units+100 < cLine)(ha:SE X a ma)(hb:SE X b mb)(hm:behindInMarks .NotIn b=false:=by rfl):SB X (.Compare a [.NotIn] [b] pos) (mT<|mB zmI ma mb) :=
 zmd (zbK (zkd hu) ha hb hm) (show SB X _ (mT<|mDIn true ma mb) from zj0 (by omega) ha hb hm)
def slA:D->Option Int->Option Int->Sto->Option (D×Sto):=fun x lo hi st=>orO (slD x lo hi st)<|slS x lo hi st
def mSlA(m:ME)(l h:MO):ME:=fun ρ st=>(m ρ st).bind fun (x,s1)=>(l ρ s1).bind fun (lo,s2)=>(h ρ s2).bind fun (hi,s3)=>slA x lo hi s3
def zjT{lo hi:Option Expr}{ml mh:MO}{p2:Pos}(he:SE X e m)(hl:SO X lo ml)(hu:SO X hi mh):SE X (.Subscript e (.Slice lo hi none p2) pos) (mSlA m ml mh):=by
 rintro pins s σ H Q I ⟨ρ,st,io,d,st',E,S,e0,k⟩;obtain⟨⟨x,s1⟩,e1,e0⟩:=zaf e0;obtain⟨⟨lo',s2⟩,e2,e0⟩:=zaf e0;obtain⟨⟨hi',s3⟩,e3,e0⟩:=zaf e0
 rcases zbU e0 with e0 | e0
 . exact zl8 he hl hu pins s σ H Q I ⟨ρ,st,io,d,st',E,S,by simp only[mSl,e1,e2,e3,Ad];exact e0,k⟩
 exact zjS he hl hu pins s σ H Q I ⟨ρ,st,io,d,st',E,S,by simp only[mSlS,e1,e2,e3,Ad];exact e0,k⟩
def zjD:D->Sto->Option (Wk×Sto)
 | .ref n,s=>(zbs s n).map fun ds=>(⟨ds,[(n,ds)]⟩,s)
 | .tup ds,s=>some (⟨ds,[]⟩,s)
 | _,_=>none
def mW(m:ME):MI:=fun ρ st=>(m ρ st).bind fun (d,s)=>zjD d s
def zoc{tg l:Expr}(hl:SE X l m):SI X tg l (mW m):=by
 rintro pins s σ H R I ⟨ρ,st,io,W,st',E,S,e0,k⟩;obtain⟨⟨d,s1⟩,e1,e0⟩:=zaf e0
 cases d with
 | ref n=>exact zod hl pins s σ H R I ⟨ρ,st,io,W,st',E,S,by unfold mWL;rw[e1];exact e0,k⟩
 | tup ds=>exact zqk hl pins s σ H R I ⟨ρ,st,io,W,st',E,S,by unfold mWT;rw[e1];exact e0,k⟩
 | _=>cases e0
def setD:G3:=fun o i v st=>match o,i with
 | .ref n,.int k=>match st[n]? with
   | some (.lst ds)=>(ixN ds.length k).map fun j=>st.set n<|.lst<|ds.set j v
   | _=>none
 | _,_=>none
def zst:SetM X setD:=by
 rintro pins s σ H o i v ov iv u Q I ro ri rv ⟨d1,d2,d3,st,io,st',R1,R2,R3,S,e,k⟩
 cases d1 with
 | ref n =>
   cases d2 with
   | int j =>
     unfold setD at e;dsimp only at e
     split at e
     . rename_i ds e0;obtain⟨q,e1,e⟩:=zai e;cases e;obtain⟨p,rfl,hp⟩:=R1;obtain⟨ys,hH,r⟩:=S.ob n p _ hp e0;refine set_list pins s σ H _ _ v ov iv u Q I ro ri rv ⟨p,ys,j,q,rfl,R2,hH,by rw[r.length];exact e1,?_⟩;obtain⟨E',S'⟩:=zii (o:=.lst (ys.set q v)) (ob:=.lst (ds.set q d3)) S hp e0 (fun o u z=>by rw[hH] at z;cases z) fun H' T e'=>⟨_,e',(Reps.mono T r).set q<|Rep.mono T R3⟩
       exact k _ [] E' S'
     . cases e
   | _=>cases e
 | _=>cases d2 <;> cases e
def putA(mo mi mv:ME):MS:=fun ρ st=>orO (mAsg mv (gSb setD mo mi) ρ st)<|zln mo mi mv ρ st
def zfX{o i value:Expr}{mo mi mv:ME}{pos':Pos}(hu:X.A.units+1 < cLine)(ho:SE X o mo)(hi:SE X i mi)(hv:SE X value mv)(hs:swapsWith value (some<|.Subscript o i pos') pos.line X.env=pure false:=by rfl)
   (ha:∀ v,assign (.Subscript o i pos') X.env v=(do
     let ov <-holding [v] (eval o X.env)
     let iv <-holding [v,ov] (eval i X.env)
     standAt pos'
     holding [v,ov,iv] (setItem ov iv v)
     release [v,ov,iv] []):=by intro _;rfl)
   (hs2:swapsWithSole [.Subscript o i pos'] value pos.line X.env=pure false:=by rfl) (hw:swappedStores [.Subscript o i pos'] value X.env=pure none:=by rfl)
   (h1:(assignEach [.Subscript o i pos'] X.env).map (·.2)=[assign (.Subscript o i pos') X.env]:=by rfl):SS X (.Assign [.Subscript o i pos'] value pos) (putA mo mi mv):=by
 intro pins s σ H N I h;obtain⟨ρ,st,io,f,st',E,S,e,w⟩:=zcH.mp h
 rcases zbU e with e | e
 . exact zfY hv (zqm ho hi zst ha) hs2 hw h1 pins s σ H N I<|zju E S e w
 exact zn5 hu ho hi hv hs pins s σ H N I<|zju E S e w
def mPar(i j:Nat)(mm:MA):MS:=fun ρ st=>(mm ρ st).bind fun (xs,s)=>match xs with
 | [x,y]=>some (.nx ((ρ.set i<|some x).set j<|some y),s)
 | _=>none
def zn4{x y:Str}{px py pt:Pos}{kt k2 pt2}(hc:X.calm=true)(hN:X.N.Nodup)(hi:X.N[i]?=some x)(hj:X.N[j]?=some y)(hij:i≠j)
   (hx:X.env.scope.names.lookup x=some .local) (hy:X.env.scope.names.lookup y=some .local) (ha:SA X [a,b] mm)
   (hw:swappedStores [.Tuple [.Name x px,.Name y py] kt pt] (.Tuple [a,b] k2 pt2) X.env=pure (some [x,y]):=by rfl)
   (hs:swapsWithSole [.Tuple [.Name x px,.Name y py] kt pt] (.Tuple [a,b] k2 pt2) pos.line X.env=pure false:=by rfl) :
   SS X (.Assign [.Tuple [.Name x px,.Name y py] kt pt] (.Tuple [a,b] k2 pt2) pos) (mPar i j mm):=PS.imp (zqD hc hN hi hj hij hx hy ha hw hs) fun N σ H h=>by
 obtain⟨ρ,st,io,f,st',E,S,e,w⟩:=zcH.mp h;obtain⟨⟨xs,s1⟩,e1,e⟩:=zaf e
 match xs,e,e1 with
 | [u,v],e,e1 =>
   cases e;refine⟨ρ,st,io,_,_,E,S,e1,fun vs H1 k1 X1 S1 R1=>?_⟩;obtain⟨p,q,rfl,r1,r2⟩:=R1.two;exact⟨p,q,rfl,w _ H1 k1 X1 S1<|((E.ext S X1).set i r1).set j r2⟩
def zcC(P:Program)(w:World)(K:Ab)(mg:Str->Option Value)(base:Heap)(k:Nat)(x:Str)(n:Nat)(g:GN):Prop :=
 ∃ f fd ps,FnOk P w K mg base CX0 k f fd ps (spM K n g)/\mg x=some (.ref f)/\Bz K (.ref f)=true/\Binds K fd ps []
def ze3(n:Nat)(mm:MA):Prop:=∀ ρ st xs s,mm ρ st=some (xs,s)->xs.length=n
def ze3.nil:ze3 0 mZ:=fun _ _ _ _ h=>zmS h
def ze3.cons(h:ze3 n mm):ze3 (n+1) (zac m mm):=fun _ _ _ _ q=>zkp h q
def zma{x:Str}{g:GN}(F:zcC X.prog X.w X.K X.mg X.base k x n g)(hr:Room k X.A)(hg:Gl X x)(ha:SA X (e::es) mm)(hl:ze3 n mm)(hdb:(x==("__debug__":Str))=false:=by decide)
   (he:starEach (e::es) X.env=(false,eval e X.env)::starEach es X.env:=by rfl) (hpl:(backTo pos<|starEach es X.env).any (·.1)=false:=by rfl) (hn:(e::es).length=n:=by rfl) :
   SE X (.Call (.Name x p) (e::es) [] pos) (zas g mm):=by
 obtain⟨f,fd,ps,F,hm,hk,hb⟩:=F;exact zol F hr hg hm hk hb ha hdb he hpl hn hl
def Laid(K:Ab)(mg:Str->Option Value)(x:Str)(st:Stmt)(ps:List Str):Prop:=∃ f fd,Fun K x x st f fd/\mg x=some (.ref f)/\Binds K fd ps []
def zry{mg:Str->Option Value}{base:Heap}{x:Str}{st:Stmt}{N ps:List Str}{m:MS}(L:Laid K mg x st ps)(S:FnScope N ps (zar st))
   (hbody:∀ (f:Addr) (cdv:Value) (A:Around) (outer:List Env) (s:Shared) (H:Hp) (E:XK),Room k (A.deeper<|envOfC x (zar st) s.heap.objs.size f cdv) ->
     SSs (cxOf CX0 P w K mg base N x (zar st) f cdv A outer s H E).nox (zbl st) m):zcC P w K mg base (k+1) x ps.length (fnM N.length m):=by
 obtain⟨f,fd,F,hm,hb⟩:=L;exact⟨f,fd,ps,fn_m F S<|hbody f,hm,F.kp,hb⟩
end
variable {v:Value}
def zjM{at_:Addr}{R:PySem.Fin->Shared->Prop}(g0:s.heap.get? at_=some (seqObj "list" #[v] k))(fin:R (.done<|.ret .none) { s with heap:=sortedHeap s.heap at_ [v] #[v] }) :
   wpAny (model prog w) A (Builtin.«list.sort» ⟨[.ref at_],[]⟩) R E s:=by
 have lt0:=Ai g0;obtain⟨ep,g1⟩:∃ ep,(s.heap.update at_<|BA fun _=>(#[]:Array Value)).get? at_=some (seqObj "list" #[] ep):=⟨_,get?_update_seq g0 fun _=>#[]⟩
 have g2:(((s.heap.update at_<|BA fun _=>(#[]:Array Value)).push<|seqObj "tuple" #[v] 0).push<|seqObj "list" #[] 0).get? at_=some (seqObj "list" #[] ep):=Ac _<|Ac _ g1;rw[list_sort_plain];refine Aa<|listItems_at g0 rfl<|Aa<|DJ g0 rfl<|Aa<|Er g1 rfl<|Aa<|EC<|Aa<|DK<|AY ?_;show wpAny (model prog w) A _ R E { s with heap:=((s.heap.update at_<|BA fun _=>(#[]:Array Value)).push<|seqObj "tuple" #[v] 0).push (seqObj "list" #[] 0) };have two:(#[v]:Array Value).size < 2:=by show 1 < 2;decide
 have same:(arrOf<|GC general' ((#[v]:Array Value).zip #[v]) #[] 7 none).map (·.2)=#[v]:=by show (((#[v]:Array Value).zip #[v]).map (·.2))=#[v];simp
 dsimp only;rw[if_pos two,if_pos two];refine Aa<|Ae ?_;rw[F7];refine Aa<|Ae ?_;dsimp only;rw[same];refine Aa<|Er g2 rfl<|Aa<|DJ g2 rfl ?_;simp only[bne_self_eq_false,By,if_false];exact Ae fin
def zhh{R:Value->Shared->Prop}(hl:s.heap.IsList l [v].toArray)(fin:R (.ref<|s.heap.objs.size+1) { s with heap:=sortedAll s.heap [v] #[v] }) :
   wpAny (model prog w) A (call (.builtin "sorted") [.ref l]) R E s:=by
 have sz:((s.heap.push<|seqObj "list" #[] 0).update s.heap.objs.size (BA (·++[v].toArray))).objs.size=s.heap.objs.size+1:=(FS ..).trans<|size_push' ..;have g0:(((s.heap.push<|seqObj "list" #[] 0).update s.heap.objs.size (BA (·++[v].toArray))).push<|seqObj "list" [v].toArray 0).get? (s.heap.objs.size+1)=some (seqObj "list" [v].toArray 0):=by rw[<-sz];exact Ap _ rfl
 refine DV kind_sorted plain_sorted entry_sorted (args_sorted1 _) ?_;unfold Builtin.«sorted»;refine Aa (m:=checkCount "sorted" 1 1 _) (Ae<|Aa<|collect_list hl<|Aa<|DK ?_);show wpAny _ _ _ _ _ { s with heap:=((s.heap.push<|seqObj "list" #[] 0).update s.heap.objs.size (BA (·++[v].toArray))).push (seqObj "list" [v].toArray 0) };rw[sz];exact Aa<|AY<|A8 slot_list_sort ⟨_,g0,rfl⟩ entry_list_sort (zjM g0 ⟨_,rfl,Ae ⟨_,rfl,fin⟩⟩)<|args_list_sort _
def zdO:GN
 | [.ref n],st=>(zbs st n).bind fun ds=>if decide (ds.length=1)=true then some (.ref st.length,st++[.lst ds]) else none
 | _,_=>none
def zfK:zdF X (.builtin "sorted") zdO:=by
 rintro pins s σ H xs us Q I r ⟨ds,st,io,d,st',R,S,e,k⟩;unfold zdO at e
 split at e
 . rename_i n;obtain⟨zs,e0,e⟩:=zaf e;obtain⟨hl,e⟩:=zat e;cases e;obtain⟨y,rfl⟩:=List.length_eq_one_iff.mp<|of_decide_eq_true hl;obtain⟨v,rfl,p,rfl,hp⟩:=R.one;obtain⟨u,rfl,ru⟩:=r.one;cases ru;obtain⟨ys,hx,r1⟩:=za7 S hp e0;obtain⟨its,rv,pl,hz⟩:=I.list hx;obtain⟨y',rfl,ry⟩:=r1.one;obtain⟨i,rfl,ri⟩:=rv.one;refine zhh pl.isList ?_;obtain⟨ep,hat⟩:=sortedAll_at s.heap [i] #[i];have hfree:H (s.heap.objs.size+1)=none:=I.hok.fresh<|Ck _;refine⟨.ref<|s.heap.objs.size+1,upd H (s.heap.objs.size+1)<|.lst [y'],I.laid (t':=s.toks) (a:=s.heap.objs.size+1) (fun b o q=>sortedAll_old q) (Ck _) ⟨by show 1<=sizeLine;decide,[i],ep,rv,by simpa using hat⟩,rfl,?_⟩;exact k.lst S r1 hfree
 . cases e
def zca:GN:=orN zcI<|orN zdO zeK
def zcM:zdF X (.builtin "sorted") zca:=ze8 zfJ<|ze8 zfK zfI
variable {o:Obj}
def Inv.freeze{d:Addr}{o:Obj}{u:HO}(I:Inv X pins σ H s)(hd:H d=some u)(g:s.heap.get? d=some o)(n1:∀ xs,u≠.tup xs)(n2:∀ x,u≠.own x)(n3:∀ o w,u≠.frz o w)(n4:∀ ps,u≠.tbl ps):Inv X pins σ (upd H d<|.frz o u) s:=by
 have ne:∀ {b:Addr} {v:HO},H b=some v->v≠u->b≠d:=fun {b v} q nv z=>by subst z;rw[hd] at q;exact nv (Aq q).symm
 refine Inv.step (h':=s.heap) (t':=s.toks) (g':=s.gens) (d':=s.drawn) (ch:=[]) I (fun _ z=>nomatch z) (fun b v _ _ _ q _=>q) (fun b v _ _ _ q _=>⟨v.slots,q⟩) (fun b v _ q n=>?_) (fun b v _ q=>⟨v,q⟩) (fun b xs q=>?_) (fun b v w q=>?_) (fun b ps q=>⟨#[],?_⟩) (fun m hm=>hm) (fun b v q=>?_) I.bare
 . have:b≠d:=fun z=>by
     rw[z,hd] at n;cases n
   rw[zan this];exact n
 . rw[zan (ne q fun z=>n1 xs z.symm)];exact q
 . rw[zan (ne q fun z=>n3 v w z.symm)];exact q
 . rw[zan (ne q fun z=>n4 ps z.symm),q];simp
 . by_cases hb:b=d
   . subst hb;rw[zaC] at q;cases q;refine⟨g,?_⟩;exact (I.hok b u hd).stay (fun c x _ y=>y) (fun c y=>by rw[zan (ne y fun z=>n2 b z.symm)];exact y) fun c xs y=>by rw[zan (ne y fun z=>n1 xs z.symm)];exact y
   rw[zan hb] at q;exact (I.hok b v q).stay (fun c x _ y=>y) (fun c y=>by rw[zan (ne y fun z=>n2 b z.symm)];exact y) fun c xs y=>by rw[zan (ne y fun z=>n1 xs z.symm)];exact y
def zi9{d:Addr}{ps:List (List Key×V)}{es:Array DictEntry}{ep:Nat}(x:zdu P w H h d (.frz o<|.dT ps))(dd:o.data=.dict es ep) :
   h.get? d=some o/\es.size=ps.length/\∀ (i:Nat) (k:List Key) (v:V),ps[i]?=some (k,v)->∃ (en:DictEntry) (b:Addr),es[i]?=some en/\en.key=.ref b/\H b=some (.tup<|k.map kV)/\RelV v en.val:=by
 obtain⟨g,z,y,xs,r,o',es',ep',g',ex,dd',et,nd⟩:=x;rw[g] at g';cases g';rw[dd] at dd';cases dd';have hl:es.size=ps.length:=by have h1:=congrArg FG et;have h2:=Br r;simp at h1;omega
 refine⟨g,hl,fun i k v hi=>?_⟩;have get:∀ {l:List (List Key×V)} {m:List (List Key×Addr×Value)} {i:Nat},Paired (fun (p:List Key×V) (q:List Key×Addr×Value)=>p.1=q.1/\H q.2.1=some (.tup<|p.1.map kV)/\RelV p.2 q.2.2) l m->l[i]?=some (k,v)->∃ q,m[i]?=some q/\H q.2.1=some (.tup<|k.map kV)/\RelV v q.2.2:=by
   intro l m i q
   induction q generalizing i with
   | nil=>intro e;simp at e
   | cons h t ih =>
     cases i with
     | zero =>
       intro e;simp at e;subst e;exact⟨_,rfl,h.2.1,h.2.2⟩
     | succ j=>intro e;exact ih<|by simpa using e
 obtain⟨q,hq,h1,h2⟩:=get r hi;have he:es[i]?=some (entryOfKey (tupleKind<|zaz P w) q):=by
   have:es.toList[i]?=some (entryOfKey (tupleKind<|zaz P w) q):=by rw[et,AB,hq];rfl
   simpa using this
 exact⟨_,q.2.1,he,rfl,h1,h2⟩
section
variable {m:ME}
def keyD:Key->D
 | .inl i=>.int i
 | .inr x=>.str x
def zgf:∀ (ks:List Key),Reps K H io (ks.map kV) (ks.map keyD)
 | []=>rfl
 | .inl i::r=>⟨_,_,rfl,rfl,zgf r⟩
 | .inr x::r=>⟨_,_,rfl,rfl,zgf r⟩
end
inductive Sr where
 | l (a:Addr) | t (a:Addr)
def Sr.ad:Sr->Addr
 | .l a=>a
 | .t a=>a
def Sr.ob:Sr->Obj
 | .l a=>{ cls:=.type "list_iterator",data:=.fields #[.ref a,.int 0 0] }
 | .t a=>{ cls:=.type "tuple_iterator",data:=.fields #[.ref a,.int 0 0] }
def Sr.is(h:Heap)(xs:Array Value):Sr->Prop
 | .l a=>h.IsList a xs
 | .t a=>IsTup h a xs
def Sr.at_(h:Heap)(i:Addr)(k:Nat):Sr->Prop
 | .l a=>h.IsListIter i a k
 | .t a=>IsTupIter h i a k
variable {xs:Array Value}{x:Sr}
def Sr.is_keep(q:x.is h xs)(k:∀ u,h.get? x.ad=some u->h'.get? x.ad=some u):x.is h' xs:=by
 cases x with
 | l a=>exact EF q k
 | t a=>obtain⟨o,g,c⟩:=q;exact⟨o,k o g,c⟩
def Sr.at_keep{i:Addr}(q:x.at_ h i n)(k:∀ u,h.get? i=some u->h'.get? i=some u):x.at_ h' i n:=by
 cases x with
 | l a=>exact Fm q k
 | t a=>obtain⟨o,g,c⟩:=q;exact⟨o,k o g,c⟩
def Sr.at_get{i:Addr}(q:x.at_ h i n):∃ o vs,h.get? i=some o/\o.data=.fields vs:=by
 cases x with
 | l a=>obtain⟨o,g,c,d⟩:=q;exact⟨o,_,g,d⟩
 | t a=>obtain⟨o,g,c,d⟩:=q;exact⟨o,_,g,d⟩
variable {it:Addr}
def Sr.iter{R:Value->Shared->Prop}(h:x.is s.heap xs)(k:R (.ref s.heap.objs.size) { s with heap:=s.heap.push x.ob }):wpAny (model prog w) A (pyIter<|.ref x.ad) R E s:=by
 cases x with
 | l a=>exact CU h k
 | t a=>exact iter_tuple h k
def zix{R:Value->Shared->Prop}(hit:IsTupIter s.heap it a i)(ht:IsTup s.heap a xs)(hx:xs[i]?=some v)
   (k:∀ h',IsTupIter h' it a (i+1)->B7 it s.heap h'->R v { s with heap:=h' }):wpAny (model prog w) A (AN<|.ref it) R E s:=by
 obtain⟨ro,rg,rc,rd⟩:=id hit;obtain⟨to,tg,_,tn,td⟩:=ht;unfold AN;refine Aa (A2 (name:=BW "__next__") hit.typeIs CA<|A8 CA hit.typeIs EO ?_<|EX _);show wpAny _ _ (field (.ref it) 0 >>= _) _ _ s;refine Aa<|AK rg rd (x:=.ref a) rfl ?_;show wpAny _ _ (if (As a==AD)=true then _ else _) _ _ s;rw[if_neg (show ¬ (As a==AD)=true from fun z=>Bm z)];show wpAny _ _ (field (.ref it) 1 >>= _) _ _ s;refine Aa<|AK rg rd (x:=.int i 0) rfl ?_;show wpAny _ _ (seqItems? (.ref a) >>= _) _ _ s;refine Aa<|BP tg td ?_;simp only[Bu,hx];refine Aa<|BC rg rd (by simp)<|Ae ⟨v,rfl,Ae<|k _ ⟨_,A0 _ rg<|Bc<|Bo rd _,(FA ..).trans rc,?_⟩<|CB ..⟩;rw[Bo rd];simp[rawInt]
def ze0{R:Value->Shared->Prop}(hh:A.handled=none)(hit:IsTupIter s.heap it a i)(ht:IsTup s.heap a xs)(hx:xs[i]?=none)
   (k:∀ h' e,Es it s.heap h'->(∃ o,h'.get? e=some o/\o.cls=.type "StopIteration")->E (.ref e) { s with heap:=h' }):wpAny (model prog w) A (AN<|.ref it) R E s:=by
 obtain⟨ro,rg,rc,rd⟩:=id hit;obtain⟨to,tg,_,tn,td⟩:=ht;unfold AN;refine Aa (A2 (name:=BW "__next__") hit.typeIs CA<|A8 CA hit.typeIs EO ?_<|EX _);show wpAny _ _ (field (.ref it) 0 >>= _) _ _ s;refine Aa<|AK rg rd (x:=.ref a) rfl ?_;show wpAny _ _ (if (As a==AD)=true then _ else _) _ _ s;rw[if_neg (show ¬ (As a==AD)=true from fun z=>Bm z)];show wpAny _ _ (field (.ref it) 1 >>= _) _ _ s;refine Aa<|AK rg rd (x:=.int i 0) rfl ?_;show wpAny _ _ (seqItems? (.ref a) >>= _) _ _ s;refine Aa<|BP tg td ?_;simp only[Bu,hx];refine Aa<|CM<|Aa<|BC rg rd (by simp) ?_;show wpAny _ _ (newExc (.type "StopIteration") [] >>= _) _ _ _;simp only[newExc,newTuple];refine Aa (Aa<|AG (Aa (m:=firstArgMember _ _)<|wpAny_of_eq (a:=AD) (by first | rfl | (simp only[firstArgMember];rfl))<|AG ?_<|by size_fits)<|by size_fits);simp only[raiseNew];refine Aa<|wpAny_handled ?_
 first | rw[show A.in1.handled=none from hh] | rw[hh]
 refine Aa<|Ae<|wpAny_throw ?_;exact k _ _ (((CB ..).extBut.push _).push _) ⟨_,Ap _ rfl,rfl⟩
def Sr.next{R:Value->Shared->Prop}(hit:x.at_ s.heap it i)(h:x.is s.heap xs)(hx:xs[i]?=some v)(k:∀ h',x.at_ h' it (i+1)->B7 it s.heap h'->R v { s with heap:=h' }) :
   wpAny (model prog w) A (AN<|.ref it) R E s:=by
 cases x with
 | l a=>exact wpAny_nextOf_list_item hit h hx k
 | t a=>exact zix hit h hx k
def Sr.stop{R:Value->Shared->Prop}(hh:A.handled=none)(hit:x.at_ s.heap it i)(h:x.is s.heap xs)(hx:xs[i]?=none)
   (k:∀ h' e,Es it s.heap h'->(∃ o,h'.get? e=some o/\o.cls=.type "StopIteration")->E (.ref e) { s with heap:=h' }):wpAny (model prog w) A (AN<|.ref it) R E s:=by
 cases x with
 | l a=>exact wpAny_nextOf_list_end hh hit h hx k
 | t a=>exact ze0 hh hit h hx k
def Sr.at_new{i:Addr}(g:h.get? i=some x.ob):x.at_ h i 0:=by
 cases x with
 | l a=>exact⟨_,g,rfl,rfl⟩
 | t a=>exact⟨_,g,rfl,rfl⟩
noncomputable abbrev zp1 (h:Heap) (x:Sr):Heap:=h.push x.ob
noncomputable abbrev zp2 (h:Heap) (x y:Sr):Heap:=(zp1 h x).push y.ob
noncomputable abbrev zp3 (h:Heap) (x y:Sr):Heap:=(zp2 h x y).push { cls:=.type "tuple",data:=.seq #[.ref h.objs.size,.ref (zp1 h x).objs.size] }
noncomputable abbrev zp4 (h:Heap) (x y:Sr):Heap:=(zp3 h x y).push { cls:=.type "tuple",data:=.seq #[.none,.none] }
noncomputable abbrev zp5 (h:Heap) (x y:Sr):Heap:=(zp4 h x y).push { cls:=.type "zip",data:=.fields #[.none,.bool false,.bool false,.ref (zp2 h x y).objs.size,.ref (zp3 h x y).objs.size] }
def zjz(x y:Sr)(xs ys:Array Value):Meets (Builtin.«zip.__new__» ⟨[.type "zip",.ref x.ad,.ref y.ad],[]⟩) (fun _ R s=>x.is s.heap xs/\y.is s.heap ys/\R (.ok<|.ret<|.ref (zp4 s.heap x y).objs.size) { s with heap:=zp5 s.heap x y }) :=
 .of_wp fun prog w A R s h=>by
   obtain⟨hp,g,d,tk,os⟩:=s;obtain⟨h1,h2,h⟩:=h;have hsub:=sub_zip;have hx:x.is (Shared.heap ⟨hp,g,d,tk,os⟩) xs:=h1;have hy:y.is (Shared.heap ⟨hp.push x.ob,g,d,tk,os⟩) ys:=Sr.is_keep h2 fun u q=>Ac _ q
   wp_walk using Sr.iter hx,Sr.iter hy
   exact⟨_,rfl,h⟩
structure Zp(z TI TO i j:Addr):Prop where
 TIz:TI≠z
 TOz:TO≠z
 iz:i≠z
 jz:j≠z
 TIO:TI≠TO
 TIi:TI≠i
 TIj:TI≠j
 TOi:TO≠i
 TOj:TO≠j
 ij:i≠j
def neq{a b:Nat}(h:a≠b):(show Addr from a)≠(show Addr from b):=h
def Zp.new(n:Nat):Zp (n+4) (n+2) (n+3) n (n+1):=⟨neq<|by omega,neq<|by omega,neq<|by omega,neq<|by omega,neq<|by omega,neq<|by omega,neq<|by omega,neq<|by omega,neq<|by omega,neq<|by omega⟩
variable {b:Value}{y:Sr}{z:Addr}{ys:Array Value}
def zkQ{R:Value->Shared->Prop}(hx:x.is s.heap xs)(hy:y.is s.heap ys)
   (k:∀ h',IsZip h' (s.heap.objs.size+4) (s.heap.objs.size+2) (s.heap.objs.size+3) .none->IsPair h' (s.heap.objs.size+2) (.ref s.heap.objs.size) (.ref<|s.heap.objs.size+1)->IsPair h' (s.heap.objs.size+3) .none .none ->
     x.at_ h' s.heap.objs.size 0->y.at_ h' (s.heap.objs.size+1) 0->(∀ c u,s.heap.get? c=some u->h'.get? c=some u)->R (.ref<|s.heap.objs.size+4) { s with heap:=h' }):wpAny (model prog w) A (call (.type "zip") [.ref x.ad,.ref y.ad]) R E s:=by
 refine callType_new F.called_zip (by decide) (F.typeCall_zip_2 _ _) (F.newCall_zip_2 _ _) (fun obj=>F.args_object_init_3 obj _ _) F.entry_zip_new (zjz x y xs ys) ⟨hx,hy,?_⟩;have e1:(zp1 s.heap x).objs.size=s.heap.objs.size+1:=BB ..;have e2:(zp2 s.heap x y).objs.size=s.heap.objs.size+2:=(BB ..).trans (by rw[e1]);have e3:(zp3 s.heap x y).objs.size=s.heap.objs.size+3:=(BB ..).trans (by rw[e2]);have e4:(zp4 s.heap x y).objs.size=s.heap.objs.size+4:=(BB ..).trans (by rw[e3]);have up:∀ c u,(zp1 s.heap x).get? c=some u->(zp5 s.heap x y).get? c=some u:=fun c u q=>Ac _<|Ac _<|Ac _<|Ac _ q;have f5:(zp5 s.heap x y).get? (zp4 s.heap x y).objs.size=some { cls:=.type "zip",data:=.fields #[.none,.bool false,.bool false,.ref (zp2 s.heap x y).objs.size,.ref (zp3 s.heap x y).objs.size] }:=Ap _ rfl;have f4:(zp5 s.heap x y).get? (zp3 s.heap x y).objs.size=some { cls:=.type "tuple",data:=.seq #[.none,.none] }:=Ac _<|Ap _ rfl;have f3:(zp5 s.heap x y).get? (zp2 s.heap x y).objs.size=some { cls:=.type "tuple",data:=.seq #[.ref s.heap.objs.size,.ref (zp1 s.heap x).objs.size] }:=Ac _<|Ac _<|Ap _ rfl;have f2:(zp5 s.heap x y).get? (zp1 s.heap x).objs.size=some y.ob:=Ac _<|Ac _<|Ac _<|Ap _ (by cases y <;> rfl);have f1:(zp5 s.heap x y).get? s.heap.objs.size=some x.ob:=up _ _<|Ap _ (by cases x <;> rfl);rw[e2,e3,e4] at f5;rw[e1,e2] at f3;rw[e3] at f4;rw[e1] at f2;show _/\_;rw[e4];exact⟨⟨_,f5,rfl⟩,k _ f5 f3 f4 (Sr.at_new f1) (Sr.at_new f2) fun c u q=>up c u (Ac _ q)⟩
def zlJ{TI TO i j:Addr}{m:Nat}{u a:Value}{R:Option Value->Shared->Prop}(D:Zp z TI TO i j)(xz:x.ad≠z/\x.ad≠TO/\x.ad≠i/\x.ad≠j)(yz:y.ad≠z/\y.ad≠TO/\y.ad≠i/\y.ad≠j)
   (hz:IsZip s.heap z TI TO .none) (hTI:IsPair s.heap TI (.ref i) (.ref j)) (hTO:IsPair s.heap TO a b) (hi:x.at_ s.heap i n) (hj:y.at_ s.heap j m) (hx:x.is s.heap xs) (hy:y.is s.heap ys) (gx:xs[n]?=some u) (gy:ys[m]?=some v)
   (k:∀ h',IsZip h' z TI TO (rawInt s.heap.objs.size)->IsPair h' TI (.ref i) (.ref j)->IsPair h' TO u v->x.at_ h' i (n+1)->y.at_ h' j (m+1)->IsPair h' s.heap.objs.size u v ->
     (∀ c o,c≠z->c≠TO->c≠i->c≠j->s.heap.get? c=some o->h'.get? c=some o)->R (some<|.ref s.heap.objs.size) { s with heap:=h' }):wpAny (model prog w) A (pyNext<|.ref z) R E s:=by
 have ty:s.TypeIs (.ref z) "zip":=⟨_,hz,rfl⟩
 unfold pyNext;refine Aa (C0<|A2 (name:=BW "__next__") ty F.slot_zip_next<|A8 F.slot_zip_next ty F.entry_zip_next ?_<|F.args_zip_next_1 _);show wpAny _ _ (field (.ref z) 2 >>= _) _ _ _;refine Aa<|AK hz rfl (x:=.bool false) rfl ?_;show wpAny _ _ (field (.ref z) 3 >>= _) _ _ _;refine Aa<|AK hz rfl (x:=.ref TI) rfl<|Aa<|BP hTI rfl ?_;show wpAny _ _ (BD (.ref z) >>= _) _ _ _;unfold BD;refine Aa<|Aa<|AK hz rfl (x:=.none) rfl<|Ae ?_;simp only[if_true];refine Aa<|CM<|Aa<|AK hz rfl (x:=.ref TO) rfl<|Aa<|B0 hz (by simp) fun g1 z1 s1=>?_
 replace z1:IsZip g1 z TI TO .ellipsis:=z1
 have k1:∀ c o,c≠z->s.heap.get? c=some o->g1.get? c=some o:=fun c o nc q=>s1.extBut c o nc q;simp only[D2,F8,Ee,CP];refine Aa<|Aa<|Aa<|DL ?_;show wpAny _ _ (AN (.ref i) >>= _) _ _ _;refine Aa<|Sr.next (Sr.at_keep hi fun o q=>k1 _ o D.iz q) (Sr.is_keep hx fun o q=>k1 _ o xz.1 q) gx fun g2 i2 s2=>Ae ?_;have k2:∀ c o,c≠z->c≠i->s.heap.get? c=some o->g2.get? c=some o:=fun c o nc ni q=>s2.extBut c o ni<|k1 c o nc q;have o2:IsPair g2 TO a b:=k2 _ _ D.TOz D.TOi hTO;refine Aa<|BP o2 rfl<|Aa<|Do o2 fun g3 o3 s3=>(Aa<|FJ<|Ae ?_)
 replace o3:IsPair g3 TO u b:=o3
 have k3:∀ c o,c≠z->c≠i->c≠TO->s.heap.get? c=some o->g3.get? c=some o:=fun c o nc ni nt q=>s3.extBut c o nt<|k2 c o nc ni q;refine Aa<|Aa<|DL ?_;show wpAny _ _ (AN (.ref j) >>= _) _ _ _;refine Aa<|Sr.next (Sr.at_keep hj fun o q=>k3 _ o D.jz D.ij.symm D.TOj.symm q) (Sr.is_keep hy fun o q=>k3 _ o yz.1 yz.2.2.1 yz.2.1 q) gy fun g4 j4 s4=>Ae ?_;have o4:IsPair g4 TO u b:=s4.extBut _ _ D.TOj o3;refine Aa<|BP o4 rfl<|Aa<|Do o4 fun g5 o5 s5=>(Aa<|FJ<|Ae<|Ae ?_)
 replace o5:IsPair g5 TO u v:=o5
 refine Aa<|BP o5 rfl<|Aa<|EC ?_;have sz:g5.objs.size=s.heap.objs.size:=by rw[s5.1,s4.1,s3.1,s2.1,s1.1]
 have z5:IsZip g5 z TI TO .ellipsis:=s5.extBut _ _ D.TOz.symm<|s4.extBut _ _ D.jz.symm<|s3.extBut _ _ D.TOz.symm<|s2.extBut _ _ D.iz.symm z1;have k5:∀ c o,c≠z->c≠TO->c≠i->c≠j->s.heap.get? c=some o->g5.get? c=some o:=fun c o c1 c2 c3 c4 q=>s5.extBut c o c2<|s4.extBut c o c4<|k3 c o c1 c3 c2 q;have i5:x.at_ g5 i (n+1):=Sr.at_keep i2 fun o q=>s5.extBut _ _ D.TOi.symm<|s4.extBut _ _ D.ij<|s3.extBut _ _ D.TOi.symm q;have j5:y.at_ g5 j (m+1):=Sr.at_keep j4 fun o q=>s5.extBut _ _ D.TOj.symm q;have lz:z < g5.objs.size:=Ai z5;show wpAny _ _ (CL (.ref z) (.ref g5.objs.size) >>= _) _ _ _;unfold CL;have z6:IsZip (g5.push { cls:=.type "tuple",data:=.seq #[u,v] }) z TI TO .ellipsis:=Ac _ z5;refine Aa<|Aa<|B0 z6 (by simp) fun g7 z7 s7=>?_
 replace z7:IsZip g7 z TI TO (rawInt g5.objs.size):=z7
 refine B0 z7 (by simp) fun g8 z8 s8=>?_
 replace z8:IsZip g8 z TI TO (rawInt g5.objs.size):=z8
 have up:∀ c o,c≠z->g5.get? c=some o->g8.get? c=some o:=fun c o nc q=>s8.extBut c o nc<|s7.extBut c o nc<|Ac _ q;have t8:IsPair g8 g5.objs.size u v:=s8.extBut _ _ (Bs lz)<|s7.extBut _ _ (Bs lz)<|Ap _ rfl;rw[sz] at z8 t8;refine Ae ⟨_,rfl,Ae ?_⟩;show R (some<|.ref g5.objs.size) _;rw[sz];exact k g8 z8 (up _ _ D.TIz<|k5 _ _ D.TIz D.TIO D.TIi D.TIj hTI) (up _ _ D.TOz o5) (Sr.at_keep i5 fun o q=>up _ o D.iz q) (Sr.at_keep j5 fun o q=>up _ o D.jz q) t8 fun c o c1 c2 c3 c4 q=>up c o c1 (k5 c o c1 c2 c3 c4 q)
def znK{TI TO i j:Addr}{m:Nat}{a:Value}{R:Option Value->Shared->Prop}(hh:A.handled=none)(D:Zp z TI TO i j)(xz:x.ad≠z/\x.ad≠TO/\x.ad≠i/\x.ad≠j)(yz:y.ad≠z/\y.ad≠TO/\y.ad≠i/\y.ad≠j)
   (hz:IsZip s.heap z TI TO .none) (hTI:IsPair s.heap TI (.ref i) (.ref j)) (hTO:IsPair s.heap TO a b) (hi:x.at_ s.heap i n) (hj:y.at_ s.heap j m) (hx:x.is s.heap xs) (hy:y.is s.heap ys) (he:xs[n]?=none\/ys[m]?=none)
   (k:∀ h',(∀ c o,c≠z->c≠TO->c≠i->c≠j->s.heap.get? c=some o->h'.get? c=some o)->R none { s with heap:=h' }):wpAny (model prog w) A (pyNext<|.ref z) R E s:=by
 have ty:s.TypeIs (.ref z) "zip":=⟨_,hz,rfl⟩
 have halt:∀ h' e,(∀ c o,c≠z->c≠TO->c≠i->c≠j->s.heap.get? c=some o->h'.get? c=some o)->(∃ o,h'.get? e=some o/\o.cls=.type "StopIteration") ->
     wpAny (model prog w) A (do if <-isInstance (.ref e) (.type "StopIteration") then pure none else throw (As e)) R E { s with heap:=h' }:=fun h' e q ⟨o,g,c⟩ =>
   Aa (wpAny_isInstance (T:="StopIteration") (b:=true) ⟨o,g,c⟩ isSubtype_stop<|Ae<|k h' q)
 unfold pyNext;refine Aa (C0<|A2 (name:=BW "__next__") ty F.slot_zip_next<|A8 F.slot_zip_next ty F.entry_zip_next ?_<|F.args_zip_next_1 _);show wpAny _ _ (field (.ref z) 2 >>= _) _ _ _;refine Aa<|AK hz rfl (x:=.bool false) rfl ?_;show wpAny _ _ (field (.ref z) 3 >>= _) _ _ _;refine Aa<|AK hz rfl (x:=.ref TI) rfl<|Aa<|BP hTI rfl ?_;show wpAny _ _ (BD (.ref z) >>= _) _ _ _;unfold BD;refine Aa<|Aa<|AK hz rfl (x:=.none) rfl<|Ae ?_;simp only[if_true];refine Aa<|CM<|Aa<|AK hz rfl (x:=.ref TO) rfl<|Aa<|B0 hz (by simp) fun g1 z1 s1=>?_
 replace z1:IsZip g1 z TI TO .ellipsis:=z1
 have k1:∀ c o,c≠z->s.heap.get? c=some o->g1.get? c=some o:=fun c o nc q=>s1.extBut c o nc q;have sep:∀ {g:Heap} {e:Addr} {o:Obj},IsZip g z TI TO .ellipsis->g.get? e=some o->o.cls=.type "StopIteration"->e≠z:=fun {g e o} q h c r=>by subst r;rw[q] at h;cases h;simp at c
 simp only[D2,F8,Ee,CP];refine Aa<|Aa<|Aa<|DL ?_;show wpAny _ _ (AN (.ref i) >>= _) _ _ _
 cases gx:xs[n]? with
 | none =>
   refine Aa<|Sr.stop hh (Sr.at_keep hi fun o q=>k1 _ o D.iz q) (Sr.is_keep hx fun o q=>k1 _ o xz.1 q) gx ?_;rintro g2 e s2 ⟨oe,he,ce⟩;have z2:IsZip g2 z TI TO .ellipsis:=s2 _ _ D.iz.symm z1;exact B0 z2 (by simp) fun g3 _ s3=>halt g3 e (fun c o c1 _ c3 _ q=>s3.extBut c o c1 (s2 c o c3<|k1 c o c1 q)) ⟨oe,s3.extBut _ _ (sep z2 he ce) he,ce⟩
 | some u =>
   have gy:ys[m]?=none:=he.resolve_left (by rw[gx];simp);refine Aa<|Sr.next (Sr.at_keep hi fun o q=>k1 _ o D.iz q) (Sr.is_keep hx fun o q=>k1 _ o xz.1 q) gx fun g2 i2 s2=>Ae ?_;have k2:∀ c o,c≠z->c≠i->s.heap.get? c=some o->g2.get? c=some o:=fun c o nc ni q=>s2.extBut c o ni<|k1 c o nc q;have o2:IsPair g2 TO a b:=k2 _ _ D.TOz D.TOi hTO;refine Aa<|BP o2 rfl<|Aa<|Do o2 fun g3 o3 s3=>(Aa<|FJ<|Ae ?_);have k3:∀ c o,c≠z->c≠i->c≠TO->s.heap.get? c=some o->g3.get? c=some o:=fun c o nc ni nt q=>s3.extBut c o nt<|k2 c o nc ni q;refine Aa<|Aa<|DL ?_;show wpAny _ _ (AN (.ref j) >>= _) _ _ _;refine Aa<|Sr.stop hh (Sr.at_keep hj fun o q=>k3 _ o D.jz D.ij.symm D.TOj.symm q) (Sr.is_keep hy fun o q=>k3 _ o yz.1 yz.2.2.1 yz.2.1 q) gy ?_;rintro g4 e s4 ⟨oe,he,ce⟩;have z4:IsZip g4 z TI TO .ellipsis:=s4 _ _ D.jz.symm<|s3.extBut _ _ D.TOz.symm<|s2.extBut _ _ D.iz.symm z1;exact B0 z4 (by simp) fun g5 _ s5=>halt g5 e (fun c o c1 c2 c3 c4 q=>s5.extBut c o c1 (s4 c o c4<|k3 c o c1 c3 c2 q)) ⟨oe,s5.extBut _ _ (sep z4 he ce) he,ce⟩
def Sr.sq(H:Hp)(xs:List V):Sr->Prop
 | .l a=>H a=some (.lst xs)\/∃ o,H a=some (.frz o<|.lst xs)
 | .t a=>H a=some (.tup xs)
def Sr.sq_ne{xs:List V}{b:Addr}(h:x.sq H xs)(hb:H b=none):x.ad≠b:=by
 cases x with
 | l a=>rcases h with h | ⟨o,h⟩ <;> exact zaq h hb
 | t a=>exact zaq (show H a=some (.tup xs) from h) hb
def Sr.sq_inj{xs ys:List V}(h:x.sq H xs)(h':x.sq H ys):xs=ys:=by
 cases x with
 | l a=>rcases h with h | ⟨o,h⟩ <;> rcases h' with h' | ⟨o',h'⟩ <;> rw[h] at h' <;> cases h' <;> rfl
 | t a =>
   have h:H a=some (.tup xs):=h;have h':H a=some (.tup ys):=h';rw[h] at h';cases h';rfl
def Sr.sq_is{xs:List V}(I:Inv X pins σ H s)(h:x.sq H xs):∃ its:List Value,Vals xs its/\x.is s.heap its.toArray:=by
 cases x with
 | l a =>
   obtain⟨its,rv,p,_⟩:=I.list (show SqL X.K H a xs from .inl h);exact⟨its,rv,p.isList⟩
 | t a =>
   obtain⟨its,rv,p,_⟩:=I.tuple<|SqT.of (K:=X.K) h;exact⟨its,rv,p⟩
def Itz(x y:Sr):It :=
 ⟨fun i H=>∃ xs ys u v,x.sq H xs/\y.sq H ys/\xs[i]?=some u/\ys[i]?=some v,fun i H r H'=>∃ p u v,H p=none/\H'=upd H p (.tup [u,v])/\r=.ref p/\(∀ xs,x.sq H xs->xs[i]?=some u)/\∀ ys,y.sq H ys->ys[i]?=some v,
   fun i H=>∃ xs ys,x.sq H xs/\y.sq H ys/\(xs.length<=i\/ys.length<=i)⟩
variable {elts:List Expr}
def zlN{x1}(x y:Sr){TI TO i j:Addr}(D:Zp z TI TO i j) :
   Turn P w K (.Tuple elts x1 pos) (Itz x y) [z,TI,TO,i,j] z (fun n h=>IsZip h z TI TO .none/\IsPair h TI (.ref i) (.ref j)/\(∃ a b,IsPair h TO a b)/\x.at_ h i n/\y.at_ h j n) where
 mem:=by simp
 obj:=fun n h st b hb=>by
   obtain⟨hz,hTI,⟨a,c,hTO⟩,hi,hj⟩:=st;simp only[A7,AX,or_false] at hb
   rcases hb with rfl | rfl | rfl | rfl | rfl
   . exact⟨_,hz,fun v q=>by cases q⟩
   . exact⟨_,hTI,fun v q=>by cases q⟩
   . exact⟨_,hTO,fun v q=>by cases q⟩
   . obtain⟨o,vs,g,d⟩:=Sr.at_get hi;exact⟨o,g,fun v q=>by rw[d] at q;cases q⟩
   obtain⟨o,vs,g,d⟩:=Sr.at_get hj;exact⟨o,g,fun v q=>by rw[d] at q;cases q⟩
 keep:=fun n h h' st k=>by obtain⟨hz,hTI,⟨a,c,hTO⟩,hi,hj⟩:=st;exact⟨k z (by simp) _ hz,k TI (by simp) _ hTI,⟨a,c,k TO (by simp) _ hTO⟩,Sr.at_keep hi fun o q=>k i (by simp) o q,Sr.at_keep hj fun o q=>k j (by simp) o q⟩
 item:=by
   intro X hP hw hK hc n pins s σ H E I hf st hg;subst hP hw hK;obtain⟨xs,ys,u,v,hx,hy,gu,gv⟩:=hg;obtain⟨hz,hTI,⟨a,c,hTO⟩,hi,hj⟩:=st;obtain⟨its,rx,ix⟩:=Sr.sq_is I hx;obtain⟨jts,ry,iy⟩:=Sr.sq_is I hy;obtain⟨u',gu',ru⟩:=rx.get gu;obtain⟨v',gv',rv⟩:=ry.get gv;have fz:=(hf z<|by simp).1;have fTO:=(hf TO<|by simp).1;have fi:=(hf i<|by simp).1;have fj:=(hf j<|by simp).1;refine zlJ D ⟨Sr.sq_ne hx fz,Sr.sq_ne hx fTO,Sr.sq_ne hx fi,Sr.sq_ne hx fj⟩ ⟨Sr.sq_ne hy fz,Sr.sq_ne hy fTO,Sr.sq_ne hy fi,Sr.sq_ne hy fj⟩ hz hTI hTO hi hj ix iy (u:=u') (v:=v') (by simpa using gu') (by simpa using gv') fun h1 z1 ti1 to1 i1 j1 t1 k1=>?_;refine⟨_,rfl,wpAny_letOwnedTupleGo_zip (s:={ s with heap:=h1 }) z1 fun h2 z2 b2=>?_⟩;have up:∀ b o,b≠z->h1.get? b=some o->h2.get? b=some o:=fun b o nb q=>(b2.2 b nb).trans q;have k2:∀ b o,b ∉ [z,TI,TO,i,j]->s.heap.get? b=some o->h2.get? b=some o:=fun b o hb q=>by simp only[A7,AX,or_false,not_or] at hb;exact up b o hb.1<|k1 b o hb.1 hb.2.2.1 hb.2.2.2.1 hb.2.2.2.2 q
   have lt:∀ b∈[z,TI,TO,i,j],b < s.heap.objs.size:=fun b hb=>by
     simp only[A7,AX,or_false] at hb
     rcases hb with rfl | rfl | rfl | rfl | rfl
     . exact Ai hz
     . exact Ai hTI
     . exact Ai hTO
     . obtain⟨o,vs,g,d⟩:=Sr.at_get hi;exact Ai g
     obtain⟨o,vs,g,d⟩:=Sr.at_get hj;exact Ai g
   have t2:h2.get? s.heap.objs.size=some { cls:=.type "tuple",data:=.seq #[u',v'] }:=up _ _ (Bs<|lt z<|by simp) t1;have st2:IsZip h2 z TI TO .none/\IsPair h2 TI (.ref i) (.ref j)/\(∃ a b,IsPair h2 TO a b)/\x.at_ h2 i (n+1)/\y.at_ h2 j (n+1) :=
     ⟨z2,up _ _ D.TIz ti1,⟨_,_,up _ _ D.TOz to1⟩,Sr.at_keep i1 fun o q=>up _ o D.iz q,Sr.at_keep j1 fun o q=>up _ o D.jz q⟩
   refine⟨.ref s.heap.objs.size,upd H s.heap.objs.size<|.tup [u,v],?_,rfl,⟨_,u,v,I.hok.fresh<|Ah _,rfl,rfl,fun zs h=>by rw[Sr.sq_inj h hx];exact gu,fun zs h=>by rw[Sr.sq_inj h hy];exact gv⟩,st2,fun b hb=>?_⟩
   . refine Inv.turnNew (s:=s) (h':=h2) (t':=s.toks) I hf k2 (Ah _) (fun b hb ob q=>?_) ⟨by show 2<=sizeLine;decide,[u',v'],.cons ru<|.cons rv .nil,⟨_,t2,rfl,rfl,_,rfl⟩⟩;simp only[A7,AX,or_false] at hb
     rcases hb with rfl | rfl | rfl | rfl | rfl
     . exact⟨_,z2⟩
     . exact⟨_,st2.2.1⟩
     . obtain⟨_,_,q⟩:=st2.2.2.1;exact⟨_,q⟩
     . obtain⟨o,vs,g,d⟩:=Sr.at_get st2.2.2.2.1;exact⟨o,g⟩
     obtain⟨o,vs,g,d⟩:=Sr.at_get st2.2.2.2.2;exact⟨o,g⟩
   rw[zan (Ar<|lt b hb)];exact (hf b hb).1
 done:=by
   intro X hP hw hK hc n pins s σ H E I hf st hg;subst hP hw hK;obtain⟨xs,ys,hx,hy,he⟩:=hg;obtain⟨hz,hTI,⟨a,c,hTO⟩,hi,hj⟩:=st;obtain⟨its,rx,ix⟩:=Sr.sq_is I hx;obtain⟨jts,ry,iy⟩:=Sr.sq_is I hy;have fz:=(hf z<|by simp).1;have fTO:=(hf TO<|by simp).1;have fi:=(hf i<|by simp).1;have fj:=(hf j<|by simp).1;have l1:=rx.length;have l2:=ry.length;exact znK (I.ok.hd hc) D ⟨Sr.sq_ne hx fz,Sr.sq_ne hx fTO,Sr.sq_ne hx fi,Sr.sq_ne hx fj⟩ ⟨Sr.sq_ne hy fz,Sr.sq_ne hy fTO,Sr.sq_ne hy fi,Sr.sq_ne hy fj⟩ hz hTI hTO hi hj ix iy (by
     rcases he with h | h
     . exact .inl (by simp;omega)
     . exact .inr (by simp;omega)) fun h' k=>⟨rfl,Inv.turnAll (t':=s.toks) I hf fun b o hb q=>by simp only[A7,AX,or_false,not_or] at hb;exact k b o hb.1 hb.2.2.1 hb.2.2.2.1 hb.2.2.2.2 q⟩
 self:=fun _ _ _ _ _ st h=>wpAny_pyIter_zip st.1 h
def seqD(s:Sto):D->Option (List D×List (Nat×List D))
 | .ref n=>(zbs s n).map fun ds=>(ds,[(n,ds)])
 | .tup ds=>some (ds,[])
 | _=>none
def pairD(a b:List D):List D:=(a.zip b).map fun p=>.tup [p.1,p.2]
def zipW(x y:D)(s:Sto):Option (Wk×Sto):=(seqD s x).bind fun (a,f)=>(seqD s y).map fun (b,g)=>(⟨pairD a b,f++g⟩,s)
def mZip(ma mb:ME):MI:=fun ρ st=>(ma ρ st).bind fun (x,s1)=>(mb ρ s1).bind fun (y,s2)=>zipW x y s2
def zh1{v:V}{ds:List D}{g:List (Nat×List D)}(S:StR K H io st)(R:Rep K H io v d)(h:seqD st d=some (ds,g)):∃ x:Sr,v=.ref x.ad/\(∃ xs,x.sq H xs) /\
   ∀ H1 ka s1,Ext io ka H H1->StR K H1 (io++ka) s1->(∀ p,p∈g->s1[p.1]?=some (.lst p.2)\/s1[p.1]?=some (.fz p.2))->∃ xs,x.sq H1 xs/\Reps K H1 (io++ka) xs ds:=by
 cases d with
 | ref n =>
   obtain⟨l,e,q⟩:=zai h;cases q;obtain⟨p,rfl,hp⟩:=R;refine⟨.l p,rfl,?_,fun H1 ka s1 X1 S1 hs=>?_⟩
   . unfold zbs at e
     split at e
     . rename_i o he;cases e;obtain⟨xs,q,_⟩:=S.ob n p _ hp he;exact⟨xs,.inl q⟩
     . rename_i o he;cases e;obtain⟨ob,xs,q,_⟩:=S.ob n p _ hp he;exact⟨xs,.inr ⟨ob,q⟩⟩
     . cases e
   . rcases hs (n,ds) An with q | q
     . obtain⟨xs,q',r⟩:=S1.ob n p _ (zbo hp) q;exact⟨xs,.inl q',r⟩
     obtain⟨ob,xs,q',r⟩:=S1.ob n p _ (zbo hp) q;exact⟨xs,.inr ⟨ob,q'⟩,r⟩
 | tup ts =>
   cases h;obtain⟨p,xs,rfl,hp,r⟩:=R;exact⟨.t p,rfl,⟨xs,hp⟩,fun H1 ka s1 X1 S1 _=>⟨xs,X1.sqT S p xs hp,r.ext S X1⟩⟩
 | _=>cases h
def zkb{a b:List D}(h:(pairD a b)[i]?=some d):∃ x y,a[i]?=some x/\b[i]?=some y/\d=.tup [x,y]:=by unfold pairD at h;rw[AB] at h;obtain⟨⟨x,y⟩,e,q⟩:=zai h;rw[List.getElem?_zip_eq_some] at e;exact⟨x,y,e.1,e.2,q.symm⟩
def boot_zip:bootBuiltins "zip"=some (.type "zip"):=by decide +kernel
def zqj{x1}{tp:Pos}{a b:Expr}(hg:Gl X "zip")(hm:X.mg "zip"=none)(ha:SE X a ma)(hb:SE X b mb)(hs:starEach [a,b] X.env=[(false,eval a X.env),(false,eval b X.env)]:=by rfl)
   (hs2:starEach [b] X.env=[(false,eval b X.env)]:=by rfl) (hpl:(backTo pos<|starEach [b] X.env).any (·.1)=false:=by rfl):SI X (.Tuple elts x1 tp) (.Call (.Name "zip" p) [a,b] [] pos) (mZip ma mb):=by
 rintro pins s σ H R I ⟨ρ,st,io,W,st',E,S,e,k⟩;obtain⟨⟨x,s1⟩,e1,e⟩:=zaf e;obtain⟨⟨y,s2⟩,e2,e⟩:=zaf e;obtain⟨⟨as,f⟩,e3,e⟩:=zaf e;obtain⟨⟨bs,g⟩,e4,e⟩:=zai e;cases e;have hs1:starEach [a,b] X.env=(false,eval a X.env)::starEach [b] X.env:=by rw[hs,hs2]
 refine Call_<|zhq I hg hm boot_zip<|BR (thn (zaa ha (zaa hb zag hs2) hs1 pos pins s σ H (fun vs H'=>∃ ka,Ext io ka H H'/\StR X.K H' (io++ka) st'/\Reps X.K H' (io++ka) vs [x,y]) I ⟨ρ,st,io,[x,y],st',E,S,ze2 e1<|ze2 e2 rfl,fun vs H1 k1 X1 S1 R1=>⟨k1,X1,S1,R1⟩⟩) ?_) hs1 hpl;rintro us t1 ⟨vs,H1,I1,r1,k1,X1,S1,R1⟩;obtain⟨v,u,rfl,Rx,Ry⟩:=R1.two;obtain⟨v',u',rfl,rv,ru⟩:=r1.two;obtain⟨xx,rfl,⟨xs,hx⟩,kx⟩:=zh1 S1 Rx e3;obtain⟨yy,rfl,⟨ys,hy⟩,ky⟩:=zh1 S1 Ry e4;cases rv;cases ru;obtain⟨its,vx,ix⟩:=Sr.sq_is I1 hx;obtain⟨jts,vy,iy⟩:=Sr.sq_is I1 hy;refine zkQ ix iy fun h' hz hTI hTO hi hj kk=>wpAny_pyIter_zip hz ?_;refine⟨_,_,_,_,H1,rfl,I1.kept (t':=t1.toks) kk,zlN xx yy<|Zp.new t1.heap.objs.size,⟨hz,hTI,⟨_,_,hTO⟩,hi,hj⟩,fun b hb=>?_,?_⟩
 . have hle:t1.heap.objs.size<=b:=by
     simp only[A7,AX,or_false] at hb
     rcases hb with rfl | rfl | rfl | rfl | rfl
     . exact B9 _ 4
     . exact B9 _ 2
     . exact B9 _ 3
     . exact Ah _
     exact B9 _ 1
   exact I1.fpOk hle<|I1.hok.fresh hle
 . refine k _ H1 k1 X1 S1 ?_;have st1:∀ {s3:Sto},stays ⟨pairD as bs,f++g⟩ s3->(∀ p,p∈f->s3[p.1]?=some (.lst p.2)\/s3[p.1]?=some (.fz p.2))/\∀ p,p∈g->s3[p.1]?=some (.lst p.2)\/s3[p.1]?=some (.fz p.2):=fun {s3} h=>⟨fun p hp=>h p (B6 _ hp),fun p hp=>h p (AM _ hp)⟩
   have len:∀ {a b:List D},(pairD a b).length=min a.length b.length:=fun {a b}=>by unfold pairD;rw[Af,F9]
   refine⟨fun i d H2 k2 s3 hd X2 S2 hs=>?_,fun H2 k2 s3 X2 S2 hs=>?_,fun H2 k2 s3 i hi X2 S2 hs=>?_⟩
   . obtain⟨xs2,qx,rx⟩:=kx H2 k2 s3 X2 S2 (st1 hs).1;obtain⟨ys2,qy,ry⟩:=ky H2 k2 s3 X2 S2 (st1 hs).2;obtain⟨dx,dy,g1,g2,rfl⟩:=zkb hd;obtain⟨u1,gu,ru⟩:=rx.get g1;obtain⟨v1,gv,rv⟩:=ry.get g2;refine⟨⟨xs2,ys2,u1,v1,qx,qy,gu,gv⟩,fun r H' yl=>?_⟩;obtain⟨q,u2,v2,hq,rfl,rfl,yu,yv⟩:=yl;have e5:=yu xs2 qx;have e6:=yv ys2 qy;rw[gu] at e5;rw[gv] at e6;cases e5;cases e6;obtain⟨E',S'⟩:=zgJ (o:=.tup [u1,v1]) S2 hq;rw[Al] at S';refine⟨E',S',⟨q,_,rfl,zaC,?_⟩⟩;have r2:=ru.ext S2 E';have r3:=rv.ext S2 E';rw[Al] at r2 r3;exact Reps.cons r2<|Reps.cons r3 Reps.nil
   . obtain⟨xs2,qx,rx⟩:=kx H2 k2 s3 X2 S2 (st1 hs).1;obtain⟨ys2,qy,ry⟩:=ky H2 k2 s3 X2 S2 (st1 hs).2;refine⟨xs2,ys2,qx,qy,?_⟩;show xs2.length<=(pairD as bs).length\/ys2.length<=(pairD as bs).length;rw[len,rx.length,ry.length];omega
   obtain⟨xs2,qx,rx⟩:=kx H2 k2 s3 X2 S2 (st1 hs).1;obtain⟨ys2,qy,ry⟩:=ky H2 k2 s3 X2 S2 (st1 hs).2;refine⟨xs2,ys2,qx,qy,?_⟩;have hi:(pairD as bs).length<=i:=hi;rw[len] at hi;rw[rx.length,ry.length];omega
def Caps(X:Cx)(fs:List Str):List Nat->List Str->Prop
 | [],[]=>True
 | j::js,x::xs=>(X.N[j]?=some x/\x∈fs)/\Caps X fs js xs
 | _,_=>False
def Outs(X:Cx):List Str->Prop
 | []=>True
 | x::xs=>(X.env.kindOf x=some .cell\/X.env.kindOf x=some .free)/\Outs X xs
def Outs.get{X:Cx}:∀ {fs:List Str} {x:Str},Outs X fs->x∈fs->X.env.kindOf x=some .cell\/X.env.kindOf x=some .free
 | [],_,_,m=>nomatch m
 | y::ys,x,h,m=>by
   rcases List.mem_cons.mp m with rfl | m
   . exact h.1
   exact Outs.get h.2 m
def Caps.get{X:Cx}{fs:List Str}:∀ {fr:List Nat} {xs:List Str} {i j:Nat} {x:Str},Caps X fs fr xs->fr[i]?=some j->xs[i]?=some x->X.N[j]?=some x/\x∈fs
 | [],[],i,j,x,_,h,_=>by simp at h
 | [],_::_,i,j,x,h,_,_=>h.elim
 | _::_,[],i,j,x,h,_,_=>h.elim
 | k::ks,y::ys,0,j,x,h,h1,h2=>by simp at h1 h2;subst h1 h2;exact h.1
 | k::ks,y::ys,i+1,j,x,h,h1,h2=>Caps.get (i:=i) h.2 (by simpa using h1)<|by simpa using h2
def zbn{scope:Scope}{N':List Str}{nt:Nat}{fr:List Nat}(fs:List Str)(kind:scope.kind=.function)(nd:(scope.names.map (·.1)).Nodup)(hf:scope.names.all (fun p=>!(p.2==AE) || fs.contains p.1)=true)
   (hb:fs.all (fun x=>scope.names.contains (x,AE))=true) (len:N'.length=nt+fr.length) (cap:Caps X fs fr (N'.drop nt)) (out:Outs X fs):CompS X scope N' nt fr:=by
 refine⟨kind,nd,len,fun i j x h1 h2=>?_,fun x hx=>?_⟩
 . have h2':(N'.drop nt)[i]?=some x:=by rw[List.getElem?_drop];exact h2
   obtain⟨a,b⟩:=cap.get h1 h2';refine⟨a,?_⟩;have:=List.all_eq_true.mp hb x b;simpa using this
 . have:=List.all_eq_true.mp hf _ hx;have hm:x∈fs:=by simpa using this
   exact out.get hm
def zcB:bootBuiltins "len"=some (.builtin "len"):=by decide +kernel
def zrC:bootBuiltins "min"=some (.builtin "min"):=by decide +kernel
def zdH:bootBuiltins "sorted"=some (.builtin "sorted"):=by decide +kernel
def zrD:bootBuiltins "all"=some (.builtin "all"):=by decide +kernel
def zpB:bootBuiltins "int"=some (.type "int"):=by decide +kernel
def zpC:bootBuiltins "bool"=some (.type "bool"):=by decide +kernel
def zcm:bootBuiltins "tuple"=some (.type "tuple"):=by decide +kernel
def zjk:bootBuiltins "dict"=some (.type "dict"):=by decide +kernel
def mulA:G2:=orG mulD zpO
def zci:OpM X (binaryOp .Mult) mulA:=zkc zoK zmE
def zlv{K:Ab}{H:Hp}{io:List Addr}:∀ (ns:List Int),Reps K H io (ns.map V.int) (ns.map D.int)
 | []=>rfl
 | n::ns=>⟨_,_,rfl,rfl,zlv ns⟩
def zlY{ns:List Int}{g:GN}{E:XK}(hO:Only H)(hS:SqL K H a (ns.map V.int))(e:g [.kl (ns.map D.int)] []=some (.bl true,st)):spM K 1 g [.ref a] H (fun v _=>v=.bl true) E:=by
 have hF:SqF K H a (ns.map V.int):=by
   rcases hS with (h | h) | h
   . rcases hO a with z | ⟨o,xs,z⟩
     . rw[z] at h;cases h
     rw[z] at h;cases h
   . exact .inl h
   exact .inr h
 refine⟨_,[],[],_,_,rfl,Reps.cons (show Rep K H [] (.ref a) (.kl<|ns.map D.int) from ⟨a,_,rfl,hF,zlv ns⟩) Reps.nil,⟨rfl,Gf,fun n b o h=>by simp at h⟩,e,fun v H' ka E' S' R'=>R'⟩
end L2.MP
namespace L2.MP
structure Y3(a b c:Prop):Prop where
 h1:a
 h2:b
 h3:c
structure Y4(a b c d:Prop):Prop where
 h1:a
 h2:b
 h3:c
 h4:d
structure Y5(a b c d e:Prop):Prop where
 h1:a
 h2:b
 h3:c
 h4:d
 h5:e
structure Y6(a b c d e f:Prop):Prop where
 h1:a
 h2:b
 h3:c
 h4:d
 h5:e
 h6:f
structure Y7(a b c d e f g:Prop):Prop where
 h1:a
 h2:b
 h3:c
 h4:d
 h5:e
 h6:f
 h7:g
structure Y8(a b c d e f g h:Prop):Prop where
 h1:a
 h2:b
 h3:c
 h4:d
 h5:e
 h6:f
 h7:g
 h8:h
open PySem
structure Gr(st st':Sto):Prop where
 len:st.length<=st'.length
 old:∀ k,k < st.length->st'[k]?=st[k]?
structure Fr(n:Nat)(st st':Sto):Prop where
 len:st.length<=st'.length
 old:∀ k,k < st.length->k≠n->st'[k]?=st[k]?
def Gr.refl(st:Sto):Gr st st:=⟨Ah _,fun _ _=>rfl⟩
def Fr.refl(n:Nat)(st:Sto):Fr n st st:=⟨Ah _,fun _ _ _=>rfl⟩
def Gr.fr{st st':Sto}(h:Gr st st')(n:Nat):Fr n st st':=⟨h.len,fun k hk _=>h.old k hk⟩
variable {a b c:Sto}
def Gr.trans{a b c:Sto}(h:Gr a b)(h':Gr b c):Gr a c:=⟨Aw h.len h'.len,fun k hk=>(h'.old k<|Av hk h.len).trans (h.old k hk)⟩
variable {n:Nat}
def Fr.trans{n:Nat}{a b c:Sto}(h:Fr n a b)(h':Fr n b c):Fr n a c:=⟨Aw h.len h'.len,fun k hk nk=>(h'.old k (Av hk h.len) nk).trans (h.old k hk nk)⟩
def Gr.app(st:Sto)(l:List O):Gr st (st++l):=⟨by simp,fun k hk=>Ao hk⟩
def Fr.app(n:Nat)(st:Sto)(l:List O):Fr n st (st++l):=(Gr.app st l).fr n
def Fn(n:Nat)(st:Sto)(o:O):Fr n st (st.set n o):=⟨by simp,fun k _ hk=>by rw[Ax (fun h=>hk h.symm)]⟩
variable {α:Type}
def getElem?_lt{l:List α}{x:α}(h:l[n]?=some x):n < l.length:=(List.getElem?_eq_some_iff.mp h).1
def zaG(st:Sto)(o:O):(st++[o])[st.length]?=some o:=getElem?_len st o
variable {W:Wk}{g:MG}
def zcd{W:Wk}{g:MG}{m:MS}:∀ {ds:List D} {Inv:Nat->Rho->Sto->Prop} {ρ:Rho} {st:Sto},Inv 0 ρ st->(∀ k ρ s,k<=ds.length->Inv k ρ s->walked W s=true) ->
   (∀ k d ρ s,ds[k]?=some d->Inv k ρ s->∃ ρ1 s1 ρ2 s2,g d ρ s=some (ρ1,s1)/\m ρ1 s1=some (.nx ρ2,s2)/\Inv (k+1) ρ2 s2)->∃ ρ' s',zee W g m ds ρ st=some (.nx ρ',s')/\Inv ds.length ρ' s'
 | [],Inv,ρ,st,h0,wk,step=>⟨ρ,st,by unfold zee;rw[if_pos (wk 0 ρ st (Ah _) h0)],h0⟩
 | d::ds,Inv,ρ,st,h0,wk,step=>by obtain⟨ρ1,s1,ρ2,s2,e1,e2,h1⟩:=step 0 d ρ st rfl h0;obtain⟨ρ',s',e,h⟩:=zcd (W:=W) (g:=g) (m:=m) (ds:=ds) (Inv:=fun k=>Inv (k+1)) h1 (fun k ρ s hk h=>wk (k+1) ρ s (C4 hk) h) fun k d ρ s hd h=>step (k+1) d ρ s (by simpa using hd) h;refine⟨ρ',s',?_,h⟩;unfold zee;rw[if_pos (wk 0 ρ st (Bd _) h0),e1];simp only[Ad,e2];exact e
variable {m:ME}
def znq{W:Wk}{g:MG}{c:MT}{m:ME}:∀ {ds:List D} {Inv:Nat->List D->Rho->Sto->Prop} {acc:List D} {ρ:Rho} {st:Sto},Inv 0 acc ρ st->(∀ k a ρ s,k<=ds.length->Inv k a ρ s->walked W s=true) ->
   (∀ k d a ρ s,ds[k]?=some d->Inv k a ρ s->∃ ρ1 s1 b s2,g d ρ s=some (ρ1,s1)/\c ρ1 s1=some (b,s2)/\((b=true/\∃ x s3,m ρ1 s2=some (x,s3)/\Inv (k+1) (a++[x]) ρ1 s3)\/(b=false/\Inv (k+1) a ρ1 s2))) ->
   ∃ xs ρ' s',mCI W g c m ds ρ st=some (xs,s')/\Inv ds.length (acc++xs) ρ' s'
 | [],Inv,acc,ρ,st,h0,wk,step=>⟨[],ρ,st,by unfold mCI;rw[if_pos (wk 0 acc ρ st (Ah _) h0)],by rw[Al];exact h0⟩
 | d::ds,Inv,acc,ρ,st,h0,wk,step=>by
   obtain⟨ρ1,s1,b,s2,e1,e2,h1⟩:=step 0 d acc ρ st rfl h0;have wk':∀ k a ρ s,k<=ds.length->Inv (k+1) a ρ s->walked W s=true:=fun k a ρ s hk h=>wk (k+1) a ρ s (C4 hk) h;have st':∀ k d a ρ s,ds[k]?=some d->Inv (k+1) a ρ s->∃ ρ1 s1 b s2,g d ρ s=some (ρ1,s1)/\c ρ1 s1=some (b,s2)/\((b=true/\∃ x s3,m ρ1 s2=some (x,s3)/\Inv (k+1+1) (a++[x]) ρ1 s3)\/(b=false/\Inv (k+1+1) a ρ1 s2)):=fun k d a ρ s hd h=>step (k+1) d a ρ s (by simpa using hd) h
   rcases h1 with ⟨rfl,x,s3,e3,h1⟩ | ⟨rfl,h1⟩
   . obtain⟨xs,ρ',s',e,h⟩:=znq (W:=W) (g:=g) (c:=c) (m:=m) (ds:=ds) (Inv:=fun k=>Inv (k+1)) h1 wk' st';refine⟨x::xs,ρ',s',?_,by simpa using h⟩;unfold mCI;rw[if_pos (wk 0 acc ρ st (Bd _) h0),e1];simp only[Ad,e2,if_true,e3,e,A6]
   obtain⟨xs,ρ',s',e,h⟩:=znq (W:=W) (g:=g) (c:=c) (m:=m) (ds:=ds) (Inv:=fun k=>Inv (k+1)) h1 wk' st';refine⟨xs,ρ',s',?_,h⟩;unfold mCI;rw[if_pos (wk 0 acc ρ st (Bd _) h0),e1];simp only[Ad,e2,By,if_false,e]
def zhu{W:Wk}{g:MG}{c:MT}{m:ME}{α:Type}{f h:α->D}{R:Rho->Prop}:∀ {as:List α} {ρ:Rho} {st:Sto},R ρ->walked W st=true->(∀ a∈as,∀ ρ,R ρ->∃ ρ1,g (f a) ρ st=some (ρ1,st)/\c ρ1 st=some (true,st)/\m ρ1 st=some (h a,st)/\R ρ1) ->
   mCI W g c m (as.map f) ρ st=some (as.map h,st)
 | [],ρ,st,r,wk,_=>by unfold mCI;rw[BK];simp only[wk,if_true,BK]
 | a::as,ρ,st,r,wk,hs=>by obtain⟨ρ1,e1,e2,e3,r1⟩:=hs a An ρ r;have e:=zhu (W:=W) (g:=g) (c:=c) (m:=m) (f:=f) (h:=h) (R:=R) (as:=as) r1 wk fun b hb=>hs b<|Aj _ hb;rw[Ay];unfold mCI;rw[if_pos wk,e1];simp only[Ad,e2,if_true,e3,e,A6,Ay]
def zcR{ds xs:List D}{s:Sto}(h:s[n]?=some (.lst xs)):walked ⟨ds,[(n,xs)]⟩ s=true:=by unfold walked;simp only[Gp,List.all_nil,Gq];exact zfB h
def zax(h:n<=10000):fits n=true:=by unfold fits;exact decide_eq_true<|Aw h<|by decide
@[simp] theorem zfa(x:α)(y:Option α):orO (some x) y=some x:=rfl
@[simp] theorem ze9(y:Option α):orO none y=y:=rfl
end L2.MP
namespace L2.MP.Hn
open PySem L2.MP
end L2.MP.Hn
namespace L2.MP
open PySem
variable {n:Nat}{ds:List D}{mi:MI}{k:Int}{s:Sto}{x:D}
section
variable {ρ ρ1:Rho} {st s1:Sto} {m n ma mb:ME} {mm:MA} {ms mq:MS} {mt mu:MT} {g:G2} {gn:GN} {d:D} {i j:Nat} {mg:MG} {mgs:MGs} {ml mh:MO}
@[simp] theorem znz:mV i ρ st=match ρ[i]? with
 | some (some d)=>some (d,st)
 | _=>none:=rfl
@[simp] theorem znB:mK d ρ st=some (d,st):=rfl
@[simp] theorem zhy:mB g ma mb ρ st=(ma ρ st).bind fun p=>(mb ρ p.2).bind fun q=>g p.1 q.1 q.2:=rfl
@[simp] theorem zjo:mT m ρ st=(m ρ st).bind fun p=>match p.1 with
 | .bl b=>some (b,p.2)
 | _=>none:=rfl
@[simp] theorem zpJ:zfv mt ρ st=(mt ρ st).map fun p=>(!p.1,p.2):=rfl
@[simp] theorem zse:zjw mt mu ρ st=(mt ρ st).bind fun p=>if p.1=true then mu ρ p.2 else some (false,p.2):=rfl
@[simp] theorem zrI:mOrT mt mu ρ st=(mt ρ st).bind fun p=>if p.1=true then some (true,p.2) else mu ρ p.2:=rfl
@[simp] theorem zsd:zkq m n ρ st=(mT m ρ st).bind fun p=>if p.1=true then n ρ p.2 else some (.bl false,p.2):=rfl
theorem zrH:mOrV m n ρ st=(mT m ρ st).bind fun p=>if p.1=true then some (.bl true,p.2) else n ρ p.2:=rfl
@[simp] theorem zsb:zpP m ρ st=(mT m ρ st).map fun p=>(.bl !p.1,p.2):=rfl
@[simp] theorem zlG:zas gn mm ρ st=(mm ρ st).bind fun p=>gn p.1 p.2:=rfl
@[simp] theorem zlF:zac m mm ρ st=(m ρ st).bind fun p=>(mm ρ p.2).bind fun q=>some (p.1::q.1,q.2):=rfl
@[simp] theorem zpK:mZ ρ st=some ([],st):=rfl
@[simp] theorem ztg:mU mm ρ st=(mm ρ st).bind fun p=>if fits p.1.length=true then some (.tup p.1,p.2) else none:=rfl
@[simp] theorem ztl:mL mm ρ st=(mm ρ st).bind fun p=>if fits p.1.length=true then some (.ref p.2.length,p.2++[.lst p.1]) else none:=rfl
@[simp] theorem zti:mR m ρ st=(m ρ st).map fun p=>(.rt p.1,p.2):=rfl
@[simp] theorem zto:mExp m ρ st=(m ρ st).map fun p=>(.nx ρ,p.2):=rfl
@[simp] theorem zfM:mAsg m mg ρ st=(m ρ st).bind fun p=>(mg p.1 ρ p.2).map fun q=>(.nx q.1,q.2):=rfl
@[simp] theorem ztK:gNm i d ρ st=some (ρ.set i (some d),st):=rfl
@[simp] theorem zpI:zdr ρ st=some (.nx ρ,st):=rfl
@[simp] theorem ztk:mNeg m ρ st=(m ρ st).bind fun p=>negD p.1 p.2:=rfl
@[simp] theorem znJ:mIf mt ms mq ρ st=(mt ρ st).bind fun p=>if p.1=true then ms ρ p.2 else mq ρ p.2:=rfl
@[simp] theorem zjp:putA ma mb m ρ st=orO (mAsg m (gSb setD ma mb) ρ st) (zln ma mb m ρ st):=rfl
@[simp] theorem ztH{g3:G3}:gSb g3 ma mb d ρ st=(ma ρ st).bind fun p=>(mb ρ p.2).bind fun q=>(g3 p.1 q.1 d q.2).map fun s=>(ρ,s):=rfl
@[simp] theorem ztG:gTp i mgs d ρ st=match d with
 | .tup ds=>if ds.length=i then mgs ds ρ st else none
 | _=>none:=rfl
@[simp] theorem ztn:gN0 [] ρ st=some (ρ,st):=rfl
@[simp] theorem ztL:gC mg mgs (d::ds) ρ st=(mg d ρ st).bind fun p=>mgs ds p.1 p.2:=rfl
@[simp] theorem zsa:mR1 m ρ st=(m ρ st).bind fun p=>match p.1 with
 | .int j=>if small j=true then some (⟨run 0 j.toNat,[]⟩,p.2) else none
 | _=>none:=rfl
@[simp] theorem zr9:zbF ρ st=some (true,st):=rfl
theorem zaS{k:Nat}{fr:List Nat}:zcf mi k fr mg mt m ρ st=(mi ρ st).bind fun p=>(mCI p.1 mg mt m p.1.ds (rho0 ρ k fr) p.2).bind fun q=>if fits q.1.length=true then some (.ref q.2.length,q.2++[.lst q.1]) else none:=rfl
@[simp] theorem zcO:mF mi mg ms ρ st=(mi ρ st).bind fun p=>zee p.1 mg ms p.1.ds ρ p.2:=rfl
@[simp] theorem ztJ:zdC ρ st=some (none,st):=rfl
@[simp] theorem ztI:zce m ρ st=(m ρ st).bind fun p=>match p.1 with
 | .int i=>some (some i,p.2)
 | _=>none:=rfl
@[simp] theorem ztm{T:String}:mIsi T m ρ st=(m ρ st).bind fun p=>(tyName p.2 p.1).map fun t=>(.bl (subT t T),p.2):=rfl
@[simp] theorem ztp:mApp m mm ρ st=(m ρ st).bind fun p=>match p.1 with
 | .ref n=>(zbs p.2 n).bind fun _=>(mm ρ p.2).bind fun q=>zb0 p.1 q.1 q.2
 | _=>none:=rfl
@[simp] theorem ztj:mPar i j mm ρ st=(mm ρ st).bind fun p=>match p.1 with
 | [x,y]=>some (.nx ((ρ.set i<|some x).set j<|some y),p.2)
 | _=>none:=rfl
@[simp] theorem zrG:mZip ma mb ρ st=(ma ρ st).bind fun p=>(mb ρ p.2).bind fun q=>zipW p.1 q.1 q.2:=rfl
@[simp] theorem zrJ:zo2 true ρ st=some (.ref st.length,st++[.dt []]):=rfl
@[simp] theorem zrK:zo2 false ρ st=some (.ref st.length,st++[.dk []]):=rfl
def zal{r:Option (Fl×Sto)}(h:ms ρ st=some (.nx ρ1,s1))(k:mq ρ1 s1=r):mS ms mq ρ st=r:=by unfold mS;rw[h];exact k
def zdy(h:ms ρ st=some (.rt d,s)):mS ms mq ρ st=some (.rt d,s):=by unfold mS;rw[h];rfl
def zbL{N:Nat}(h:ms (rho N ds) st=some (.rt d,s)):fnM N ms ds st=some (d,s):=by unfold fnM;rw[h];rfl
def zb5{k:Nat}(h:k<=10000:=by decide):fits k=true:=zax h
@[simp] theorem zty:fits 0=true:=zb5
@[simp] theorem ztx:fits 1=true:=zb5
@[simp] theorem ztw:fits 2=true:=zb5
@[simp] theorem ztv:fits 3=true:=zb5
@[simp] theorem ztu:fits 4=true:=zb5
@[simp] theorem ztt:fits 5=true:=zb5
@[simp] theorem zts:fits 6=true:=zb5
@[simp] theorem ztr:fits 7=true:=zb5
@[simp] theorem ztq:fits 8=true:=zb5
def zcx(h0:0<=k)(h1:k<=1000000):small k=true:=by unfold small;simp;omega
def zcl{n:Nat}(h:st[n]?=some (.lst ds))(h0:0<=k)(hx:ds[k.toNat]?=some x):ixA (.ref n) (.int k) st=some (x,st):=by
 have hl:=getElem?_lt hx;have h1:k < ds.length:=by omega
 simp[ixA,orG,idxD,zbs,h,atI,ixN,h0,h1,zfa];exact (List.getElem?_eq_some_iff.mp hx).2
def zaR(h0:0<=k)(hx:ds[k.toNat]?=some x):ixA (.tup ds) (.int k) st=some (x,st):=by
 have hl:=getElem?_lt hx;have h1:k < ds.length:=by omega
 simp[ixA,orG,idxD,atI,ixN,h0,h1,zfa];exact (List.getElem?_eq_some_iff.mp hx).2
def zsV(h0:0<=k)(hx:ds[k.toNat]?=some x):ixA (.kl ds) (.int k) st=some (x,st):=by
 have hl:=getElem?_lt hx;have h1:k < ds.length:=by omega
 simp[ixA,orG,idxD,atI,ixN,h0,h1,zfa];exact (List.getElem?_eq_some_iff.mp hx).2
def ziO{z:Str}{c:Nat}(hz:z.length<=10000)(h0:0<=k)(hx:z.cps[k.toNat]?=some c):ixA (.str z) (.int k) st=some (.str ⟨#[c]⟩,st):=by
 have hl:k.toNat < z.cps.size:=(Array.getElem?_eq_some_iff.mp hx).1;have h1:k < z.cps.size:=by omega
 have hf:fits z.length=true:=zax hz;simp[ixA,orG,idxD,atI,ixN,h0,h1,zfa,hf];exact (Array.getElem?_eq_some_iff.mp hx).2
def ziJ{n:Nat}(h:st[n]?=some (.lst ds)):lenD [.ref n] st=some (.int ds.length,st):=by simp[lenD,zbs,h]
theorem zcD:lenD [.tup ds] st=some (.int ds.length,st):=rfl
theorem zmV:lenD [.kl ds] st=some (.int ds.length,st):=rfl
def zb3{n:Nat}(h:st[n]?=some (.lst ds)):zdK [.ref n] st=some (.tup ds,st):=by simp[zdK,zbs,h]
@[simp] theorem add_int(a b:Int):addD (.int a) (.int b) st=some (.int (a+b),st):=rfl
@[simp] theorem sub_int(a b:Int):subD (.int a) (.int b) st=some (.int (a - b),st):=rfl
def mul_int{a b:Int}(h:-1000000<=a/\a<=1000000):mulA (.int a) (.int b) st=some (.int (a*b),st):=by
 have:in64 a=true:=by unfold in64;simp;omega
 simp[mulA,orG,mulD,intD,this,zfa]
def zg7{a b:List D}(ha:a≠[])(h:a.length+b.length<=10000):addD (.tup a) (.tup b) st=some (.tup (a++b),st):=by
 have:fits (a.length+b.length)=true:=zax h
 cases a with
 | nil=>exact absurd rfl ha
 | cons x a=>simp[addD,this] at *
def zg8{a b:Nat}{x y:List D}(ha:st[a]?=some (.lst x))(hb:st[b]?=some (.lst y))(h:x.length+y.length<=10000):addD (.ref a) (.ref b) st=some (.ref st.length,st++[.lst (x++y)]):=by have:fits (x.length+y.length)=true:=zax h;simp[addD,ha,hb,this]
def append_at{n:Nat}(h:st[n]?=some (.lst ds))(hl:ds.length<=10000):zb0 (.ref n) [x] st=some (.non,st.set n (.lst<|ds++[x])):=by have:ds.length < sizeLine:=BX hl (by decide);simp[zb0,h,this]
end
end L2.MP
set_option linter.unusedSimpArgs false
namespace L2.MP.Hn
open PySem L2.MP
end L2.MP.Hn
namespace L2.MP
open PySem PySem.Builtin PySem.Builtin.Str
theorem len_list(a:Str):a.length=a.cps.toList.length:=rfl
end L2.MP
namespace L2.MP
open PySem
def zfe{n:Nat}{st:Sto}{x:Str}(h:Bb x=true):toP (n+1) st (.str x)=some (.str x):=by rw[toP];simp[h]
def eq_int(a b:Int)(st:Sto):eqD (.int a) (.int b) st=some (.bl (a==b),st):=by unfold eqD;rw[toP,toP];simp[Dk]
end L2.MP
namespace L2.MP.Hn
open PySem L2.MP
noncomputable abbrev zaI:Str:="abcdefghijklmnopqrstuvwxyz"
def zcW:∀ k:Nat,k < 26->zaI.cps[k]?=some (97+k):=by decide +kernel
end L2.MP.Hn
namespace L2.MP
open PySem
def zbC(p:Str×Int):D:=.tup [.str p.1,.int p.2]
def zbx(k:List Str):D:=.tup<|k.map D.str
end L2.MP
namespace L2.MP.Hn
open PySem L2.MP
def zeI{st:Sto}{l:Nat}{ss:List Str}(hl:st[l]?=some (.lst<|ss.map D.str))(h:ss.length < 64):zca [.ref l] st=some (.ref st.length,st++[.lst ((zdn ss).map D.str)]):=by simp[zca,orN,zcI,zbs,hl,zhR,h,zfa]
end L2.MP.Hn
namespace L2.MP
open PySem
def zfz:∀ t:List Int,intsOf (t.map D.int)=some t
 | []=>rfl
 | x::t=>by rw[Ay,intsOf,zfz t];rfl
def zdQ:∀ {rows:List (List Int)},(∀ r∈rows,r≠[])->rowsOf (rows.map tupD)=some rows
 | [],_=>rfl
 | r::rows,h=>by
   have hr:rowOf (tupD r)=some r:=by
     unfold rowOf tupD;simp only[zfz,Ad];have:r.isEmpty=false:=by
       cases r with
       | nil=>exact absurd rfl<|h [] An
       | cons a b=>rfl
     simp[this]
   rw[Ay,rowsOf,hr,Ad,zdQ fun q hq=>h q (Aj _ hq)];rfl
variable {st:Sto}
def zhW{l:Nat}{rows:List (List Int)}(hl:st[l]?=some (.lst<|rows.map tupD))(h:∀ r∈rows,r≠[])(h64:rows.length < 64):zca [.ref l] st=some (.ref st.length,st++[.lst ((zhX rows).map tupD)]):=by
 match rows,hl,h,h64 with
 | [],hl,h,h64=>simp[zca,orN,zcI,zbs,hl,strsOf,zdn,zhX,zfa]
 | [r],hl,h,h64 =>
   have e:strsOf [tupD r]=none:=rfl;simp[zca,orN,zcI,zdO,zbs,hl,e,zhX,zfa,ze9]
 | r::q::rows,hl,h,h64 =>
   have e:strsOf (tupD r::tupD q::rows.map tupD)=none:=rfl;have e2:=zdQ h;simp only[Ay] at e2;simp at h64;have h2:rows.length+1+1 < 64:=by omega
   simp[zca,orN,zcI,zdO,zeK,zbs,hl,e,e2,zfa,ze9,h2]
def zfh(rows:List (List Int)):(zhX rows).Perm rows:=Cy _ _
noncomputable abbrev Tl:=Int×Int×Int
def kvOf(t:Tl):List Key×D:=([Cu t.1,Cu t.2.1],.int t.2.2)
def rowT(t:Tl):List Int:=[t.1,t.2.1,t.2.2]
def zbr(a b:Tl):Bool:=decide (a.1=b.1)&&decide (a.2.1=b.2.1)
def putT(l:List Tl)(t:Tl):List Tl:=if l.any (fun u=>zbr u t)=true then l.map (fun u=>if zbr u t=true then t else u) else l++[t]
def ziM(u t:Tl):decide ((kvOf u).1=(kvOf t).1)=zbr u t:=by
 unfold kvOf zbr
 by_cases h1:u.1=t.1 <;> by_cases h2:u.2.1=t.2.1 <;> simp[h1,h2]
def zla(l:List Tl)(t:Tl):putD (l.map kvOf) (kvOf t).1 (kvOf t).2=(putT l t).map kvOf:=by
 unfold putD putT;have e:((l.map kvOf).any fun kv=>decide (kv.1=(kvOf t).1))=l.any fun u=>zbr u t:=by
   rw[List.any_map]
   congr 1
   funext u
   exact ziM u t
 rw[e]
 split
 . rw[A3,A3];apply Du;intro u _;show (if (kvOf u).1=(kvOf t).1 then _ else _)=kvOf (if zbr u t=true then t else u)
   by_cases h:zbr u t=true
   . have h':(kvOf u).1=(kvOf t).1:=of_decide_eq_true<|(ziM u t).trans h;rw[if_pos h',if_pos h,h']
   have h':¬ (kvOf u).1=(kvOf t).1:=fun z=>h<|(ziM u t).symm.trans<|decide_eq_true z;rw[if_neg h',if_neg h]
 rw[Bi];rfl
def PlNd(l:List Tl):Prop:=l.Pairwise fun a b=>zbr a b=false
def zeg(a b:Tl):zbr a b=zbr b a:=by
 unfold zbr
 by_cases h1:a.1=b.1 <;> by_cases h2:a.2.1=b.2.1 <;> simp[h1,h2,eq_comm]
variable {l:List Tl}{t:Tl}
def zop(h:PlNd l):PlNd (putT l t):=by
 unfold putT
 split
 . unfold PlNd at *;rw[List.pairwise_map];refine h.imp fun {a b} hab=>?_;have eqp:∀ {a b c:Tl},zbr a b=true->zbr a c=zbr b c:=fun {a b c} q=>by
     unfold zbr at *;simp at q;rw[q.1,q.2]
   by_cases ha:zbr a t=true
   . by_cases hb:zbr b t=true
     . have h1:zbr a b=zbr t b:=eqp ha;rw[zeg] at hb;rw[h1,hb] at hab;cases hab
     rw[if_pos ha,if_neg hb,zeg];simpa using hb
   . by_cases hb:zbr b t=true
     . rw[if_neg ha,if_pos hb];simpa using ha
     rw[if_neg ha,if_neg hb];exact hab
 . rename_i hn;unfold PlNd at *;rw[List.pairwise_append];refine⟨h,List.pairwise_singleton _ _,fun a ha b hb=>?_⟩;rw[List.mem_singleton.mp hb]
   cases e:zbr a t with
   | false=>rfl
   | true=>exact absurd (List.any_eq_true.mpr ⟨a,ha,e⟩) hn
def zmm{P:Tl->Prop}{l:List Tl}{t:Tl}(h:∀ u∈l,P u)(ht:P t):∀ u∈putT l t,P u:=by
 unfold putT
 split
 . intro u hu;obtain⟨v,hv,rfl⟩:=List.mem_map.mp hu
   split
   . exact ht
   exact h v hv
 . intro u hu
   rcases List.mem_append.mp hu with hu | hu
   . exact h u hu
   rw[List.mem_singleton.mp hu];exact ht
def zij(l:List Tl)(t:Tl):(putT l t).length<=l.length+1:=by
 unfold putT
 split
 . rw[Af];omega
 simp
def zfF{t:Nat}{x y k:Int}(h:st[t]?=some (.dt<|l.map kvOf))(hl:l.length<=1000):dput st t (.tup [.int x,.int y]) (.int k)=some (st.set t<|.dt<|(putT l (x,y,k)).map kvOf):=by have h1:(l.map kvOf).length < sizeLine:=BX (by rw[Af];exact hl) (by decide);have e:=zla l (x,y,k);have e1:keysOf [.int x,.int y]=some (kvOf (x,y,k)).1:=rfl;have e2:D.int k=(kvOf (x,y,k)).2:=rfl;unfold dput;simp only[h,e1,Ad];rw[e2,e,if_pos (decide_eq_true h1)]
end L2.MP
namespace L2.MP.Hn
open PySem L2.MP
def zaH(ts:List Tl):D:=.tup<|ts.map fun t=>tupD (rowT t)
def zrF(r:List Int):Tl:=(r.getD 0 0,r.getD 1 0,r.getD 2 0)
def srtT(l:List Tl):List Tl:=(zhX<|l.map rowT).map zrF
def za6(l:List Tl):(srtT l).Perm l:=by
 have:=(zfh<|l.map rowT).map zrF;rw[A3] at this;have e:zrF ∘ rowT=id:=by funext t;rfl
 rw[e,List.map_id] at this;exact this
def zcw(l:List Tl):(srtT l).map rowT=zhX (l.map rowT):=by
 unfold srtT;rw[A3]
 conv=>rhs;rw[<-List.map_id (zhX<|l.map rowT)]
 apply Du;intro r hr;obtain⟨t,_,rfl⟩:=List.mem_map.mp<|(zfh _).mem_iff.mp hr;rfl
def zaM{st:Sto}{l:Nat}{ts:List Tl}(hl:st[l]?=some (.lst<|ts.map fun t=>tupD (rowT t)))(h64:ts.length < 64):zca [.ref l] st=some (.ref st.length,st++[.lst ((srtT ts).map fun t=>tupD (rowT t))]):=by
 have hl':st[l]?=some (.lst<|(ts.map rowT).map tupD):=by rw[A3];exact hl
 have e:=zhW hl' (fun r hr=>by obtain⟨t,_,rfl⟩:=List.mem_map.mp hr;simp[rowT]) (by rw[Af];exact h64);rw[<-zcw,A3] at e;exact e
end L2.MP.Hn
namespace L2.MP
open PySem PySem.Spec PyProof.Rows
end L2.MP
namespace L2.MP
open PySem
def zg0{W:Wk}{g:MG}{c:MT}{m:ME}{α:Type}{f h:α->D}{p:α->Bool}{R:Rho->Prop}:∀ {as:List α} {ρ:Rho} {st:Sto},R ρ->walked W st=true->(∀ a∈as,∀ ρ,R ρ->∃ ρ1,g (f a) ρ st=some (ρ1,st)/\c ρ1 st=some (p a,st)/\(p a=true->m ρ1 st=some (h a,st))/\R ρ1) ->
   mCI W g c m (as.map f) ρ st=some ((as.filter p).map h,st)
 | [],ρ,st,r,wk,_=>by unfold mCI;rw[BK];simp only[wk,if_true,Ga,BK]
 | a::as,ρ,st,r,wk,hs=>by
   obtain⟨ρ1,e1,e2,e3,r1⟩:=hs a An ρ r;have e:=zg0 (W:=W) (g:=g) (c:=c) (m:=m) (f:=f) (h:=h) (p:=p) (R:=R) (as:=as) r1 wk fun b hb=>hs b<|Aj _ hb;rw[Ay];unfold mCI;rw[if_pos wk,e1]
   cases hp:p a with
   | true =>
     rw[hp] at e2;simp only[Ad,e2,if_true,e3 hp,e,A6,D3,hp,Ay]
   | false =>
     rw[hp] at e2;simp only[Ad,e2,By,if_false,e,D3,hp]
end L2.MP
namespace L2.MP.Hn
open PySem L2.MP
end L2.MP.Hn
namespace L2.MP
open PySem PySem.Spec PyProof.Rows
def zi7(x:Sr)(o:Obj)(xs:Array Value):Meets (Builtin.«enumerate.__new__» ⟨[.type "enumerate",.ref x.ad],[]⟩) (fun _ R s=>s.heap.get? x.ad=some o/\x.is s.heap xs /\
     R (.ok<|.ret<|.ref (s.heap.push x.ob).objs.size) { s with heap:=(s.heap.push x.ob).push { cls:=.type "enumerate",data:=.fields #[.none,.bool false,.ref s.heap.objs.size,rawInt 0,.none,.none] } }) :=
 .of_wp fun prog w A R s h=>by
   obtain⟨hp,g,d,tk,os⟩:=s;obtain⟨h1,h2,h⟩:=h;have hsub:=sub_enumerate;have hx:x.is (Shared.heap ⟨hp,g,d,tk,os⟩) xs:=h2
   wp_walk using Ca h1
   refine wpAny_stack_any fun sk=>Ae ?_
   split
   . rename_i c _ _ _ _ _
     cases (c==Value.type "enumerate")
     . wp_walk using Ca h1,Sr.iter hx
       exact⟨_,rfl,h⟩
     . wp_walk using Ca h1,Sr.iter hx
       exact⟨_,rfl,h⟩
   . wp_walk using Ca h1,Sr.iter hx
     exact⟨_,rfl,h⟩
variable {prog:Program}{w:World}{A:Around}{E:Value->Shared->Prop}{s:Shared}{h:Heap}{xs:Array Value}{x:Sr}
def Sr.is_get(q:x.is h xs):∃ o,h.get? x.ad=some o:=by
 cases x with
 | l a=>obtain⟨o,g,_⟩:=q;exact⟨o,g⟩
 | t a=>obtain⟨o,g,_⟩:=q;exact⟨o,g⟩
def zjh{R:Value->Shared->Prop}(hx:x.is s.heap xs)(k:∀ h',IsEnum h' (s.heap.objs.size+1) s.heap.objs.size 0 .none->x.at_ h' s.heap.objs.size 0->(∀ c u,s.heap.get? c=some u->h'.get? c=some u)->R (.ref<|s.heap.objs.size+1) { s with heap:=h' }) :
   wpAny (model prog w) A (call (.type "enumerate") [.ref x.ad]) R E s:=by
 obtain⟨o,g⟩:=Sr.is_get hx;refine callType_new F.called_enumerate (by decide) (F.typeCall_enumerate_1 _) (F.newCall_enumerate_1 _) (fun obj=>F.args_object_init_2 obj _) F.entry_enumerate_new (zi7 x o xs) ⟨g,hx,?_⟩;have z1:(s.heap.push x.ob).objs.size=s.heap.objs.size+1:=BB ..;have f2:((s.heap.push x.ob).push { cls:=.type "enumerate",data:=.fields #[.none,.bool false,.ref s.heap.objs.size,rawInt 0,.none,.none] }).get? (s.heap.push x.ob).objs.size=some { cls:=.type "enumerate",data:=.fields #[.none,.bool false,.ref s.heap.objs.size,rawInt 0,.none,.none] }:=Ap _ rfl;have f1:((s.heap.push x.ob).push { cls:=.type "enumerate",data:=.fields #[.none,.bool false,.ref s.heap.objs.size,rawInt 0,.none,.none] }).get? s.heap.objs.size=some x.ob:=Ac _<|Ap _ (by cases x <;> rfl);show _/\_;rw[z1] at f2 ⊢;exact⟨⟨_,f2,rfl⟩,k _ f2 (Sr.at_new f1) fun c u q=>Ac _ (Ac _ q)⟩
def Sr.draws(hh:A.handled=none)(it:Addr)(x:Sr)(hne:x.ad≠it)(items:Array Value):Draws prog w A it [it,x.ad] items.size (fun i v=>items[i]?=some v) (fun i h=>x.at_ h it i/\x.is h items) where
 live:=fun _ _ q=>let ⟨o,_,g,_⟩:=Sr.at_get q.1;⟨o,g⟩
 frame:=fun _ _ _ q k=>⟨Sr.at_keep q.1 fun o e=>k it (by simp) o e,Sr.is_keep q.2 fun o e=>k x.ad (by simp) o e⟩
 item:=fun i s Q E hi q k=>by refine Sr.next q.1 q.2 (v:=items[i]) (by simp[hi]) fun h' a b=>?_;exact k _ h' s.toks (by simp[hi]) ⟨a,Sr.is_keep q.2 fun o e=>b.extBut _ _ hne e⟩ b
 done:=fun s Q E q k=>Sr.stop hh q.1 q.2 (by simp) k
def Sr.drawsEnd(hh:A.handled=none)(it:Addr)(x:Sr)(items:Array Value)(n:Nat)(hn:items[n]?=none):Draws prog w A it [it,x.ad] n (fun _ _=>True) (fun j h=>j=n/\x.at_ h it n/\x.is h items) where
 live:=fun _ _ q=>let ⟨o,_,g,_⟩:=Sr.at_get q.2.1;⟨o,g⟩
 frame:=fun _ _ _ q k=>⟨q.1,Sr.at_keep q.2.1 fun o e=>k it (by simp) o e,Sr.is_keep q.2.2 fun o e=>k x.ad (by simp) o e⟩
 item:=fun i s Q E hi q k=>absurd q.1 (Ar hi)
 done:=fun s Q E q k=>Sr.stop hh q.2.1 q.2.2 hn k
def Itn(x:Sr):It :=
 ⟨fun i H=>∃ xs v,x.sq H xs/\xs[i]?=some v,fun i H r H'=>∃ p v,H p=none/\H'=upd H p (.tup [.int (i:Nat),v])/\r=.ref p/\∀ xs,x.sq H xs->xs[i]?=some v,fun i H=>∃ xs,x.sq H xs/\xs.length<=i⟩
variable {P:Program}{K:Ab}{elts:List Expr}{pos:Pos}
def zhJ{x1}(x:Sr)(it e:Addr)(hne:e≠it) :
   Turn P w K (.Tuple elts x1 pos) (Itn x) [e,it] e (fun i h=>(∃ old,IsEnum h e it (i:Nat) old)/\x.at_ h it i) where
 mem:=by simp
 obj:=fun i h st b hb=>by
   obtain⟨⟨old,he⟩,hi⟩:=st
   rcases List.mem_cons.mp hb with rfl | hb
   . exact⟨_,he,fun v z=>by cases z⟩
   rw[List.mem_singleton.mp hb];obtain⟨o,vs,g,d⟩:=Sr.at_get hi;exact⟨o,g,fun v z=>by rw[d] at z;cases z⟩
 keep:=fun i h h' st k=>by obtain⟨⟨old,he⟩,hi⟩:=st;exact⟨⟨old,k e (by simp) _ he⟩,Sr.at_keep hi fun o q=>k it (by simp) o q⟩
 item := by
   intro X hP hw hK hc i pins s σ H E I hf st hg;subst hP hw hK;obtain⟨xs,v,hx,hv⟩:=hg;obtain⟨⟨old,he⟩,hi⟩:=st;obtain⟨its,rx,ix⟩:=Sr.sq_is I hx;obtain⟨v',gv,rv⟩:=rx.get hv;have fit:=(hf it<|by simp).1;have fe:=(hf e<|by simp).1;have hlt:i < its.toArray.size:=by have:=(List.getElem?_eq_some_iff.mp gv).1;simpa using this
   refine wpAny_pyNext_enum_itemD (Sr.draws (A:=X.A.in1) (I.ok.hd hc) it x (Sr.sq_ne hx fit) its.toArray) he ⟨hi,ix⟩ hlt hne (by
     simp only[A7,AX,or_false,not_or];exact⟨hne,fun z=>Sr.sq_ne hx fe z.symm⟩) fun y h1 tk hy he1 st1 t1 z1 k1=>?_
   have ey:y=v':=by
     have:its[i]?=some y:=by simpa using hy
     rw[gv] at this;exact (Aq this).symm
   subst ey;refine⟨_,rfl,wpAny_letOwnedTupleGo_enum (s:={ s with heap:=h1,toks:=tk+1 }) he1 fun h2 he2 hb2=>?_⟩;have k2:∀ b o,b ∉ [e,it]->s.heap.get? b=some o->h2.get? b=some o:=fun b o hb q=>by have n1:b≠e:=fun z=>hb (by simp[z]);have n2:b≠it:=fun z=>hb (by simp[z]);exact (hb2.2 b n1).trans<|k1 b o n1 n2 q
   have hsz:e≠s.heap.objs.size:=Ar<|Ai he;have t2:h2.get? s.heap.objs.size=some { cls:=.type "tuple",data:=.seq #[.int i tk,y] }:=(hb2.2 _ hsz.symm).trans t1;have hi2:x.at_ h2 it (i+1):=Sr.at_keep st1.1 fun o q=>(hb2.2 it hne.symm).trans q;refine⟨.ref s.heap.objs.size,upd H s.heap.objs.size<|.tup [.int (i:Nat),v],?_,rfl,⟨_,v,I.hok.fresh<|Ah _,rfl,rfl,fun ys hy=>by rw[Sr.sq_inj hy hx];exact hv⟩,⟨⟨_,by exact_mod_cast he2⟩,hi2⟩,fun b hb=>?_⟩
   . exact Inv.turnNew (s:=s) (h':=h2) (t':=tk+1) I hf k2 (Ah _) (fun b hb ob q=>by
       rcases List.mem_cons.mp hb with rfl | hb
       . exact⟨_,he2⟩
       rw[List.mem_singleton.mp hb];obtain⟨o,vs,g,d⟩:=Sr.at_get hi2;exact⟨o,g⟩) ⟨by show 2<=sizeLine;decide,[.int i tk,y],.cons ⟨_,rfl⟩<|.cons rv .nil,⟨_,t2,rfl,rfl,_,rfl⟩⟩
   . rw[zan (fun z=>?_)]
     . exact (hf b hb).1
     . rcases List.mem_cons.mp hb with q | hb
       . exact hsz<|q.symm.trans z
       have q:=List.mem_singleton.mp hb;obtain⟨o,vs,g,d⟩:=Sr.at_get hi;exact (Ar<|Ai g)<|q.symm.trans z
 done:=by intro X hP hw hK hc i pins s σ H E I hf st hg;subst hP hw hK;obtain⟨xs,hx,hl⟩:=hg;obtain⟨⟨old,he⟩,hi⟩:=st;obtain⟨its,rx,ix⟩:=Sr.sq_is I hx;have l1:=rx.length;exact wpAny_pyNext_enum_endD (Sr.drawsEnd (A:=X.A.in1) (I.ok.hd hc) it x its.toArray i (by simp;omega)) he ⟨rfl,hi,ix⟩ fun h' eb=>⟨rfl,Inv.turnAll (t':=s.toks) I hf fun b o hb q=>eb b o (fun z=>hb (by simp[z])) q⟩
 self:=fun _ _ _ _ _ st h=>by obtain⟨⟨old,he⟩,_⟩:=st;exact FB he h
variable {X:Cx}{H:Hp}{io:List Addr}{m:ME}{st st':Sto}{a:Expr}
def zr7(x:D)(s:Sto):Option (Wk×Sto):=(seqD s x).map fun (a,f)=>(⟨pairs a,f⟩,s)
def ziF(m:ME):MI:=fun ρ st=>(m ρ st).bind fun (x,s1)=>zr7 x s1
def zh0{x1}{tp:Pos}{p:Pos}(hg:Gl X "enumerate")(hm:X.mg "enumerate"=none)(ha:SE X a m)(hs:starEach [a] X.env=[(false,eval a X.env)]:=by rfl) :
   SI X (.Tuple elts x1 tp) (.Call (.Name "enumerate" p) [a] [] pos) (ziF m):=by
 rintro pins s σ H R I ⟨ρ,st,io,W,st',E,S,e,k⟩;obtain⟨⟨x,s1⟩,e1,e⟩:=zaf e;obtain⟨⟨as,f⟩,e3,e⟩:=zai e;cases e;refine Call_<|zhq I hg hm boot_enumerate<|BR (thn (zaa ha zag hs pos pins s σ H (fun vs H'=>∃ ka,Ext io ka H H'/\StR X.K H' (io++ka) st'/\Reps X.K H' (io++ka) vs [x]) I ⟨ρ,st,io,[x],st',E,S,ze2 e1 rfl,fun vs H1 k1 X1 S1 R1=>⟨k1,X1,S1,R1⟩⟩) ?_) hs rfl;rintro us t1 ⟨vs,H1,I1,r1,k1,X1,S1,R1⟩;obtain⟨v,rfl,Rx⟩:=R1.one;obtain⟨v',rfl,rv⟩:=r1.one;obtain⟨xx,rfl,⟨xs,hx⟩,kx⟩:=zh1 S1 Rx e3;cases rv;obtain⟨its,vx,ix⟩:=Sr.sq_is I1 hx;refine zjh ix fun h' he hi kk=>FB he ?_;refine⟨_,_,_,_,H1,rfl,I1.kept (t':=t1.toks) kk,zhJ xx t1.heap.objs.size (t1.heap.objs.size+1)<|Nat.succ_ne_self _,⟨⟨_,he⟩,hi⟩,fun b hb=>?_,?_⟩
 . have hle:t1.heap.objs.size<=b:=by
     rcases List.mem_cons.mp hb with q | hb
     . rw[q];exact Ck _
     rw[List.mem_singleton.mp hb];exact Ah _
   exact I1.fpOk hle<|I1.hok.fresh hle
 . refine k _ H1 k1 X1 S1 ?_;refine⟨fun i d H2 k2 s3 hd X2 S2 hs=>?_,fun H2 k2 s3 X2 S2 hs=>?_,fun H2 k2 s3 i hi X2 S2 hs=>?_⟩
   . obtain⟨xs2,qx,rx⟩:=kx H2 k2 s3 X2 S2 hs;obtain⟨dx,g1,rfl⟩:=zka hd;obtain⟨u1,gu,ru⟩:=rx.get g1;refine⟨⟨xs2,u1,qx,gu⟩,fun r H' yl=>?_⟩;obtain⟨q,u2,hq,rfl,rfl,yu⟩:=yl;have e5:=yu xs2 qx;rw[gu] at e5;cases e5;obtain⟨E',S'⟩:=zgJ (o:=.tup [.int (i:Nat),u1]) S2 hq;rw[Al] at S';refine⟨E',S',⟨q,_,rfl,zaC,?_⟩⟩;have r2:=ru.ext S2 E';rw[Al] at r2;exact Reps.cons rfl<|Reps.cons r2 Reps.nil
   . obtain⟨xs2,qx,rx⟩:=kx H2 k2 s3 X2 S2 hs;exact⟨xs2,qx,by show xs2.length<=(pairs as).length;rw[pairs_len,rx.length];exact Ah _⟩
   obtain⟨xs2,qx,rx⟩:=kx H2 k2 s3 X2 S2 hs;have hi:(pairs as).length<=i:=hi;rw[pairs_len] at hi;exact⟨xs2,qx,by rw[rx.length];exact hi⟩
@[simp] theorem zsc{ρ:Rho}:ziF m ρ st=(m ρ st).bind fun p=>zr7 p.1 p.2:=rfl
variable {ma mb mc:ME}{b c:Expr}{g g':G2}{σ:L2.St}{op op':CmpOp}
def zbG(g g':G2)(ma mb mc:ME):ME:=fun ρ st=>(ma ρ st).bind fun (x,s1)=>(mb ρ s1).bind fun (y,s2)=>(g x y s2).bind fun (z,s3)=>match z with
 | .bl q=>if q=true then (mc ρ s3).bind fun (w,s4)=>g' y w s4 else some (.bl false,s3)
 | _=>none
def zeu{Q:VK}(h:tE K (zbG g g' ma mb mc) σ H Q):zlT (r2M K g) (r2M K g') (tE K ma) (tE K mb) (tE K mc) σ H Q:=by
 obtain⟨ρ,st,io,d,st',E,S,e,k⟩:=h;obtain⟨⟨x,s1⟩,e1,e⟩:=zaf e;obtain⟨⟨y,s2⟩,e2,e⟩:=zaf e;obtain⟨⟨z,s3⟩,e3,e⟩:=zaf e;refine⟨ρ,st,io,x,s1,E,S,e1,fun v1 H1 k1 X1 S1 R1=>?_⟩;refine⟨ρ,s1,io++k1,y,s2,E.ext S X1,S1,e2,fun v2 H2 k2 X2 S2 R2=>?_⟩;refine⟨x,y,s2,(io++k1)++k2,z,s3,R1.ext S1 X2,R2,S2,e3,fun v3 H3 k3 X3 S3 R3=>?_⟩;have k':=((k.on S1 X1).on S2 X2).on S3 X3;dsimp only at e
 split at e
 . rename_i q;refine⟨q,R3,?_⟩
   cases q with
   | true =>
     rw[if_pos rfl] at e ⊢;obtain⟨⟨w,s4⟩,e4,e5⟩:=zaf e;refine⟨ρ,s3,((io++k1)++k2)++k3,w,s4,((E.ext S X1).ext S1 X2).ext S2 X3,S3,e4,fun v4 H4 k4 X4 S4 R4=>?_⟩;exact⟨y,w,s4,(((io++k1)++k2)++k3)++k4,d,st',(R2.ext S2 X3).ext S3 X4,R4,S4,e5,k'.on S4 X4⟩
   | false =>
     rw[if_neg Bm] at e ⊢;cases e;exact Bh.now k' S3 rfl
 . cases e
def zl9(ho:OpM X (compareOp op) g)(ho':OpM X (compareOp op') g')(ha:SE X a ma)(hb:SE X b mb)(hc:SE X c mc)(hm:lastMarks [op,op'] [b,c]=false:=by with_unfolding_all rfl) :
   SE X (.Compare a [op,op'] [b,c] pos) (zbG g g' ma mb mc):=PE.imp (zmA ho ho' ha hb hc hm) fun _ _ _ h=>zeu h
def zeL(ho:OpM X (compareOp op) g)(ho':OpM X (compareOp op') g')(ha:SE X a ma)(hb:SE X b mb)(hc:SE X c mc)(hm:lastMarks [op,op'] [b,c]=false:=by with_unfolding_all rfl) :
   SB X (.Compare a [op,op'] [b,c] pos) (mT<|zbG g g' ma mb mc):=PT.imp (zmo ho ho' ha hb hc hm) fun _ _ _ h=>zeu (zcS h)
variable {e:Expr}{p2:Pos}
section
variable {mk:ME} {se:Expr} {te:TE} {ts:TO}
def zgp{x:V}{u:Value}:∀ {xs:List V} {us:List Value},Vals xs us->RelV x u->Vals (xs++[x]) (us++[u])
 | [],_,.nil,r=>.cons r .nil
 | y::xs,_,.cons z t,r=>.cons z<|zgp t r
def zhE:∀ {xs:List V} {us:List Value},Vals xs us->Vals xs.reverse us.reverse
 | [],_,.nil=>.nil
 | x::xs,_,.cons r t=>by rw[CW,CW];exact zgp (zhE t) r
def zgA:∀ {xs:List V} {ds:List D} {x:V} {d:D},Reps K H io xs ds->Rep K H io x d->Reps K H io (xs++[x]) (ds++[d])
 | _,[],x,d,h,r=>by
   cases (show _=[] from h)
   exact⟨x,[],rfl,r,rfl⟩
 | _,e::ds,x,d,h,r=>by obtain⟨y,ys,rfl,h1,h2⟩:=h;exact⟨y,ys++[x],rfl,h1,zgA h2 r⟩
def zic:∀ {ds:List D} {xs:List V},Reps K H io xs ds->Reps K H io xs.reverse ds.reverse
 | [],xs,h=>by
   cases (show xs=[] from h)
   exact rfl
 | d::ds,xs,h=>by obtain⟨y,ys,rfl,h1,h2⟩:=h;rw[CW,CW];exact zgA (zic h2) h1
end
def zgb:typeLookup (.type "list") "keys"=pure none:=by rw[Eg,C9];kernel_rfl
def zcz:entryFor table "dict.update.loop"=some Builtin.«dict.update.loop»:=entryFor_of_fast<|by kernel_rfl
def zbb:plainId "dict.update.loop"=true:=by decide +kernel
section
variable {a:Addr}
def zgS{Q:Option Value->Shared->Prop}{k:Nat}{sl:Array (Option Value)}(hx:s.heap.get? a=some { cls:=.type "list",dict:=none,data:=.seq xs k,slots:=sl })(hA:A.handled=none)
   (h:∀ h' tk,(∀ b u,s.heap.get? b=some u->h'.get? b=some u)->Q none { s with heap:=h',toks:=tk }):wpAny (model prog w) A (getAttr? (.ref a) "keys") Q E s:=by
 obtain⟨hp,g,d,tk,os⟩:=s;have hT:∀ tk',(⟨hp,g,d,tk',os⟩:Shared).TypeIs (.ref a) "list":=fun _=>⟨_,hx,rfl⟩
 have f1:=Fo;have f3:=F.slot_list_getattribute.lookup;have f4:=F.slot_list_getattribute.bind<|.ref a;have f5:=am_list_getattr_none;unfold getAttr? getAttrBy? getAttrBy
 repeat (any_goals (first | assumption | exact hT _ | ((with_reducible show wpAny _ _ (call (Cg "list.__getattribute__") _ _) _ _ _);refine FW F.slot_list_getattribute (hT _) am_entry_list_getattribute (F.args_list_getattribute_2 _ _) (meets_getattribute_miss_list a xs k sl _ _ zgb<|by decide +kernel) ⟨hx,hA,fun h' tk' e hx'=>?_⟩) | wp_step))
 obtain⟨t',u',he⟩:=hx'.there;show wpAny _ _ (getattributeRaised _ _ _ _ _ _ _) _ _ _;unfold getattributeRaised
 repeat (any_goals (first | assumption | wp_step))
 exact h _ _ hx'.keeps
def zfO(prog:Program)(w:World)(h:Heap)(v:Value)(kv:Key×Value):Prop:=∃ p kx,v=.ref p/\IsTup h p #[kx,kv.2]/\(zaz prog w).is kv.1 kx=true
def zfO.keep{h':Heap}{v:Value}{kv:Key×Value}(q:zfO prog w h v kv)(k:∀ b o,v=.ref b->h.get? b=some o->h'.get? b=some o):zfO prog w h' v kv:=by obtain⟨p,kx,rfl,⟨o,g,c⟩,i⟩:=q;exact⟨p,kx,rfl,⟨o,k p o rfl g,c⟩,i⟩
def zdT{p:Addr}{Q:List Value->Shared->Prop}(ht:IsTup s.heap p xs)(h:Q xs.toList s):wpAny (model prog w) A (Et<|.ref p) Q E s:=by
 obtain⟨hp,g,d,tk,os⟩:=s;obtain⟨o,g0,c,n,dd⟩:=ht;have hT:(⟨hp,g,d,tk,os⟩:Shared).TypeIs (.ref p) "tuple":=⟨_,g0,c⟩
 unfold Et seqItems?
 repeat (any_goals (first | assumption | wp_step))
 rw[dd];exact Ae<|Ae h
end
variable {its:List Value}{kvs:List (Key×Value)}
section
variable {a:Addr}
def zhT{K:Type}[DecidableEq K](kvs:List (K×Value))(k:K)(v:Value):(stored kvs k v).length<=kvs.length+1:=by
 unfold stored
 split <;> simp
def zdW{K:Type}[DecidableEq K]:∀ (more kvs:List (K×Value)),(merged kvs more).length<=kvs.length+more.length
 | [],kvs=>by show kvs.length<=kvs.length+0;omega
 | p::r,kvs=>by have h1:=zdW r<|stored kvs p.1 p.2;have h2:=zhT kvs p.1 p.2;show (merged (stored kvs p.1 p.2) r).length<=_;rw[Az];omega
def zta{R:Result->Shared->Prop}{D I l:Addr}{h0:Heap}(hh:A.in1.handled=none)(hl:its.length=kvs.length)(hz:kvs.length<=sizeLine)(hDI:D≠I)(hlD:l≠D)(hlI:l≠I) :
   ∀ (k i:Nat) (s:Shared),kvs.length - i=k->i<=kvs.length->s.heap.IsListIter I l i->s.heap.IsList l its.toArray->s.heap.DictOf (zaz prog w) D (merged []<|kvs.take i) ->
   (∀ (j:Nat) (v:Value) (kv:Key×Value),its[j]?=some v->kvs[j]?=some kv->zfO prog w s.heap v kv/\v≠.ref D/\v≠.ref I)->(∀ b o,b≠D->b≠I->h0.get? b=some o->s.heap.get? b=some o) ->
   (∀ h' tk,h'.DictOf (zaz prog w) D (merged [] kvs)->(∀ b o,b≠D->b≠I->h0.get? b=some o->h'.get? b=some o)->R (.ok<|.ret .none) { s with heap:=h',toks:=tk }) ->
   codeAny (model prog w) A (.builtin "dict.update.loop" ⟨[.ref D,.ref I,rawInt i,.none],[]⟩) R s:=by
 intro k
 induction k with
 | zero =>
   intro i s hk hi hit hlist hd hp h0k hR;have hin:i=kvs.length:=by omega
   subst hin;refine Dp zcz ?_;rw[Cr zbb _];show wpAny _ A.in1 (pyNext (.ref I) >>= _) _ _ s;refine Aa<|C6 hh hit hlist (by simp[hl]) fun h' hx=>?_;show wpAny _ A.in1 (D4 D [] >>= fun _=>ret .none) _ _ _;refine Aa<|Ae<|Ae ?_;rw[BQ] at hd;refine hR h' s.toks ?_ fun b o h1 h2 e=>hx b o h2 (h0k b o h1 h2 e);obtain⟨o,es,ep,ho,r⟩:=hd;exact⟨o,es,ep,hx D o hDI ho,r⟩
 | succ k ih =>
   intro i s hk hi hit hlist hd hp h0k hR;have hlt:i < kvs.length:=by omega
   have hlt':i < its.length:=by omega
   refine Dp zcz ?_;rw[Cr zbb _];show wpAny _ A.in1 (pyNext (.ref I) >>= _) _ _ s;have hv:its[i]?=some its[i]:=Ag hlt';have hkv:kvs[i]?=some kvs[i]:=Ag hlt;refine Aa<|CY (x:=its[i]) hit hlist (by simp[hlt']) fun h' hit' hx=>?_;obtain⟨pa,nD,nI⟩:=hp i _ _ hv hkv;have pa':zfO prog w h' its[i] kvs[i]:=pa.keep fun b o e g=>hx.extBut b o (fun z=>nI (by rw[e,z])) g;obtain⟨p,kx,ep,tp,ik⟩:=pa';have hd':h'.DictOf (zaz prog w) D (merged []<|kvs.take i):=by obtain⟨o,es,ep,ho,r⟩:=hd;exact⟨o,es,ep,hx.extBut D o hDI ho,r⟩
   have hlen:(merged []<|kvs.take i).length<=sizeLine:=by have:=zdW (kvs.take i) [];rw[Bp,Bf] at this;omega
   rw[ep];refine Aa<|AY<|Aa<|wpAny_tryCatch<|zdT (s:={ s with heap:=h' }) tp ?_;refine AY<|EY (s:={ s with heap:=h' }) ik hd' (fun h2 hd2 hs2=>?_) hlen;have hI2:∀ b o,b≠D->h'.get? b=some o->h2.get? b=some o:=fun b o hb e=>hs2.extBut b o hb e;have e1:stored (merged []<|kvs.take i) kvs[i].1 kvs[i].2=merged [] (kvs.take<|i+1):=(merged_take_succ [] kvs i _ hkv).symm;refine Ae ⟨C1 zbb _,?_⟩;refine ih (i+1) { s with heap:=h2,toks:=s.toks+1 } (by omega) (by omega) ?_ ?_ (by rw[<-e1];exact hd2) (fun j v kv h1 h2'=>?_) (fun b o b1 b2 e=>hI2 b o b1 (hx.extBut b o b2<|h0k b o b1 b2 e)) fun h3 tk3 d3 k3=>hR h3 tk3 d3 k3
   . exact Fm hit' fun u e=>hI2 I u (AZ hDI) e
   . exact EF (EF hlist fun u e=>hx.extBut l u hlI e) fun u e=>hI2 l u hlD e
   obtain⟨q,q1,q2⟩:=hp j v kv h1 h2';exact⟨(q.keep fun b o e g=>hx.extBut b o (fun z=>q2 (by rw[e,z])) g).keep fun b o e g=>hI2 b o (fun z=>q1 (by rw[e,z])) g,q1,q2⟩
def zfL{l:Addr}{Q:Value->Shared->Prop}(hh:A.handled=none)(hpl:PlainL s.heap l its.toArray)(hl:its.length=kvs.length)(hz:kvs.length<=sizeLine)
   (hp:∀ (j:Nat) (v:Value) (kv:Key×Value),its[j]?=some v->kvs[j]?=some kv->zfO prog w s.heap v kv)
   (h:∀ h' tk,h'.DictOf (zaz prog w) s.heap.objs.size (merged [] kvs)->(∀ b o,s.heap.get? b=some o->h'.get? b=some o)->Q (.ref s.heap.objs.size) { s with heap:=h',toks:=tk }) :
   wpAny (model prog w) A (call (.type "dict") [.ref l]) Q E s:=by
 refine callType_codes (Q₁:=fun obj s₁=>obj=.ref s.heap.objs.size/\s₁={ s with heap:=s.heap.push { cls:=.type "dict",data:=.dict #[] } }) F.kt_called_dict (F.kt_typeCall_dict_1 _) F.entry_dict_init (kt_code_dict_new _ ⟨rfl,rfl⟩) ?_;rintro obj s₁ ⟨rfl,rfl⟩;have hnew:(s.heap.push { cls:=.type "dict",data:=.dict #[] }).DictOf (zaz prog w) s.heap.objs.size []:=Gb s.heap;have k1:∀ b o,s.heap.get? b=some o->(s.heap.push { cls:=.type "dict",data:=.dict #[] }).get? b=some o:=fun b o e=>Ac _ e;have hpl1:=hpl.keeps k1;obtain⟨⟨cl,di,da,sl⟩,n,g1,c1,c2,c3⟩:=id hpl1;simp only at c1 c2 c3;subst c1 c2 c3;have hlt:∀ b o,s.heap.get? b=some o->b < s.heap.objs.size:=fun b o e=>Ai e;have hll:l < s.heap.objs.size:=by obtain⟨o,_,g,_⟩:=hpl;exact hlt l o g
 refine⟨hnew.typeIs,F.args_dict_init_2 _ _,?_⟩;unfold Builtin.«dict.__init__»;refine Aa ?_;unfold D5;refine Aa<|Da hnew.typeIs ?_;show wpAny _ _ (pure (s.heap.objs.size,[As l])) _ _ _;refine Ae ?_;show wpAny _ _ (Cf "dict.__init__" s.heap.objs.size (.ref l) [] .none) _ _ _;unfold Cf;refine Aa (B8 (show Shared.TypeIs { s with heap:=s.heap.push { cls:=.type "dict",data:=.dict #[] } } (.ref l) "list" from ⟨_,g1,rfl⟩) ?_);rw[if_pos (by decide)];refine Aa<|zgS g1 hh fun h2 tk2 k2=>?_;have hpl2:=hpl1.keeps k2;have hd2:h2.DictOf (zaz prog w) s.heap.objs.size []:=by obtain⟨o,es,ep,ho,r⟩:=hnew;exact⟨o,es,ep,k2 _ o ho,r⟩
 have hsz:s.heap.objs.size < h2.objs.size:=by obtain⟨o,es,ep,ho,r⟩:=hd2;exact Ai ho
 simp only[DE,if_true];refine Aa<|CM ?_;refine Aa<|Sr.iter (x:=.l l) (s:={ s with heap:=h2,toks:=tk2 }) (xs:=its.toArray) hpl2.isList ?_;have k3:∀ b o,h2.get? b=some o->(h2.push<|Sr.ob<|.l l).get? b=some o:=fun b o e=>Ac _ e;refine Ae ⟨C1 zbb _,?_⟩;have n1:s.heap.objs.size≠h2.objs.size:=Ar hsz;have n2:l≠s.heap.objs.size:=Ar hll;have n3:l≠h2.objs.size:=Ar<|BV hll hsz;show codeAny (model prog w) A.in1 (.builtin "dict.update.loop" ⟨[.ref s.heap.objs.size,.ref h2.objs.size,rawInt (0:Nat),.none],[]⟩) _ { s with heap:=h2.push (Sr.ob<|.l l),toks:=tk2 };refine zta (A:=A.in1) (h0:=s.heap) (l:=l) (its:=its) (kvs:=kvs) (D:=s.heap.objs.size) (I:=h2.objs.size) hh hl hz n1 n2 n3 kvs.length 0 { s with heap:=h2.push (Sr.ob<|.l l),toks:=tk2 } rfl (Bd _) ?_ (hpl2.keeps k3).isList ?_ (fun j v kv e1 e2=>?_) (fun b o _ _ e=>k3 b o (k2 b o<|k1 b o e)) fun h' tk d' k'=>?_
 . exact Sr.at_new (x:=.l l)<|Ap _ rfl
 . obtain⟨o,es,ep,ho,r⟩:=hd2;exact⟨o,es,ep,k3 _ o ho,r⟩
 . have q:=hp j v kv e1 e2;have nn:∀ b,v=.ref b->b < s.heap.objs.size:=fun b e=>by
     obtain⟨p,kx,rfl,⟨o,g,_⟩,_⟩:=q;cases e;exact hlt _ o g
   refine⟨q.keep fun b o _ g=>k3 b o (k2 b o<|k1 b o g),fun e=>?_,fun e=>?_⟩
   . exact absurd (nn _ e)<|AR _
   exact absurd (nn _ e)<|Nat.not_lt_of_lt hsz
 exact⟨rfl,h h' tk d' fun b o e=>k' b o (Ar<|hlt b o e) (Ar<|BV (hlt b o e) hsz) e⟩
end
def prOf:D->Option (Key×D)
 | .tup [k,v]=>(keyOf k).map fun q=>(q,v)
 | _=>none
def znG:List D->Option (List<|Key×D)
 | []=>some []
 | d::r=>(prOf d).bind fun t=>(znG r).map fun ts=>t::ts
def zfu(kvs more:List (Key×D)):List (Key×D):=more.foldl (fun acc kv=>putD acc kv.1 kv.2) kvs
section
variable {pins:List (Addr×Obj)}
def ziB:∀ {more:List (Key×V)} {mds:List (Key×D)} {kvs:List (Key×V)} {kds:List (Key×D)},KR Key K H io more mds->KR Key K H io kvs kds->KR Key K H io (zed kvs more) (zfu kds mds):=by
 intro more mds kvs kds r;unfold KR at r
 induction r generalizing kvs kds with
 | nil=>intro q;exact q
 | @cons p q ps qs h t ih =>
   intro r0;have e:KR Key K H io (putK kvs p.1 p.2) (putD kds q.1 q.2):=by rw[<-h.1];exact KR.put r0 p.1 h.2
   exact ih e
def zmq(I:Inv X pins σ H s):∀ {ys:List V} {ds:List D} {kds:List (Key×D)} {its:List Value},Reps X.K H io ys ds->znG ds=some kds->Vals ys its ->
   ∃ (kvV:List (Key×V)) (kvs:List (Key×Value)),KR Key X.K H io kvV kds/\KV kvV kvs/\its.length=kvs.length/\kvs.length=kds.length/\∀ (j:Nat) (v:Value) (kv:Key×Value),its[j]?=some v->kvs[j]?=some kv->zfO X.prog X.w s.heap v kv
 | _,[],kds,_,h,e,r=>by
   cases e
   cases (show _=[] from h)
   cases r;exact⟨[],[],.nil,.nil,rfl,rfl,fun j v kv h=>by simp at h⟩
 | _,d::ds,kds,_,h,e,r=>by
   obtain⟨y,ys,rfl,h1,h2⟩:=h;obtain⟨t,e1,e⟩:=zaf e;obtain⟨ts,e2,e⟩:=zai e;subst e
   cases r with
   | @cons _ u _ us ru rus =>
     obtain⟨kvV,kvs,a1,a2,a3,a4,a5⟩:=zmq I h2 e2 rus;unfold prOf at e1
     split at e1
     . rename_i k v;obtain⟨q,eq1,e1⟩:=zai e1;subst e1;obtain⟨p,vs,rfl,hp,rs⟩:=h1;obtain⟨v1,w1,rfl,q1,rs⟩:=rs;obtain⟨v2,w2,rfl,q2,rs⟩:=rs
       cases (show w2=[] from rs)
       have ek:=zdG q1 eq1;subst ek;cases ru;obtain⟨ia,va,ht,_⟩:=I.tuple<|SqT.of (K:=X.K) hp
       cases va with
       | cons r1 t1 =>
         cases t1 with
         | cons r2 t2 =>
           cases t2;rename_i u1 u2;refine⟨(q,v2)::kvV,(q,u2)::kvs,.cons ⟨rfl,q2⟩ a1,.cons ⟨rfl,r2⟩ a2,by rw[Az,Az,a3],by rw[Az,Az,a4],fun j v kv e1 e2=>?_⟩
           cases j with
           | zero =>
             cases e1;cases e2;exact⟨p,u1,rfl,ht,zmZ r1⟩
           | succ j=>exact a5 j v kv e1 e2
     . cases e1
def zpS:GN
 | [.ref n],st=>(zbs st n).bind fun ds=>(znG ds).bind fun kds=>if fits kds.length=true then some (.ref st.length,st++[.dk (zfu [] kds)]) else none
 | _,_=>none
def zji(hc:X.calm=true):zdF X (.type "dict") zpS:=by
 rintro pins s σ H xs us Q I r ⟨ds,st,io,d,st',R,S,e,k⟩;unfold zpS at e
 split at e
 . rename_i n;obtain⟨zs,e0,e⟩:=zaf e;obtain⟨kds,e1,e⟩:=zaf e;obtain⟨hf,e⟩:=zat e;cases e;obtain⟨v,rfl,p,rfl,hp⟩:=R.one;obtain⟨u,rfl,ru⟩:=r.one;cases ru;obtain⟨ys,hx,r1⟩:=za7 S hp e0;obtain⟨its,rv,pl,hz⟩:=I.list hx;obtain⟨kvV,kvs,a1,a2,a3,a4,a5⟩:=zmq I r1 e1 rv;have hzk:kvs.length<=sizeLine:=by
     rw[a4];exact of_decide_eq_true hf
   refine zfL (I.ok.hd hc) pl a3 hzk a5 fun h' tk d' kk=>?_;have hlV:kvV.length=kvs.length:=Br a2;have hm:(zed [] kvV).length<=sizeLine:=by have:=zcj kvV [];rw[Bf] at this;omega
   have hd:(s.heap.objs.size==sysModules)=false:=beq_eq_false_iff_ne.mpr<|AZ<|Ar I.big;refine⟨.ref s.heap.objs.size,_,I.laid (a:=s.heap.objs.size) (o:=.dK (zed [] kvV)) (t':=tk) kk (Ah _)<|znl hm hd (a2.merge .nil) d',rfl,?_⟩;obtain⟨E',S'⟩:=ziy (o:=.dK (zed [] kvV)) (ob:=.dk (zfu [] kds)) S (I.hok.fresh<|Ah _) fun H' T e=>⟨_,e,ziB (KR.mono T a1) .nil⟩
   exact k _ _ [s.heap.objs.size] E' S' ⟨s.heap.objs.size,rfl,by rw[<-S.len];exact getElem?_len io _⟩
 . cases e
end
def Itw(n:Nat)(f:Nat->Option V):It:=⟨fun i _=>i < n,fun i H v H'=>H'=H/\f i=some v,fun i _=>n<=i⟩
def ziN:List String:=["enumerate","zip","dict_itemiterator","dict_reverseitemiterator","odict_iterator","itertools.zip_longest","itertools.pairwise"]
variable {tg:Expr}
def zhG(it:Addr)(n:Nat)(f:Nat->Option V){R:Nat->Value->Prop}{T:Nat->Heap->Prop}(W:∀ A:Around,A.handled=none->Walks P w A it [it] [it] n R T)
   (hr:∀ i v,R i v->∃ x,f i=some x/\RelV x v) (hob:∀ i h,T i h->∃ o nm vs,h.get? it=some o/\o.cls=.type nm/\o.data=.fields vs/\ziN.contains nm=false)
   (hself:∀ (A:Around) (i:Nat) (s:Shared) (Q:Value->Shared->Prop) (E:Value->Shared->Prop),T i s.heap->Q (.ref it) s->wpAny (model P w) A (pyIter<|.ref it) Q E s) :
   Turn P w K tg (Itw n f) [it] it (fun i h=>i<=n/\T i h) where
 mem:=by simp
 obj:=fun i h st b hb=>by
   have e:b=it:=by simpa using hb
   subst e;obtain⟨o,nm,vs,e,c,d,_⟩:=hob i h st.2;exact⟨o,e,fun v z=>by rw[d] at z;cases z⟩
 keep:=fun i h h' st k=>⟨st.1,(W {} rfl).frame i h h' st.2 k⟩
 item:=by intro X hP hw hK hc i pins s σ H E I hf st hg;subst hP hw hK;obtain⟨f0,f1,f2,f3,f4,f5⟩:=hf it (by simp);refine (W X.A<|I.ok.hd hc).item i s _ _ hg st.2 fun v h' tk hv st' kk=>?_;obtain⟨x,hx,rx⟩:=hr i v hv;have I1:Inv X pins σ H { s with heap:=h',toks:=tk }:=I.turned (fun b o hb e=>kk b o (by simpa using hb) e) f0 f1 f3 f4 f5;obtain⟨o,nm,vs,e,c,d,hn⟩:=hob (i+1) h' st';exact⟨_,rfl,zpl (s:={ s with heap:=h',toks:=tk }) e c d hn ⟨x,H,I1,rx,⟨rfl,hx⟩,⟨hg,st'⟩,fun b hb=>(hf b hb).1⟩⟩
 done:=by intro X hP hw hK hc i pins s σ H E I hf st hg;subst hP hw hK;obtain⟨f0,f1,f2,f3,f4,f5⟩:=hf it (by simp);have e:i=n:=Nat.le_antisymm st.1 hg;subst e;exact (W X.A<|I.ok.hd hc).done s _ _ st.2 fun h' tk kk=>⟨rfl,I.turned (fun b o hb e=>kk b o (by simpa using hb) e) f0 f1 f3 f4 f5⟩
 self:=fun A i s Q E st h=>hself A i s Q E st.2 h
def zrf{H:Hp}{io:List Addr}{ds:List D}{n:Nat}{f:Nat->Option V}(hn:n=ds.length)(hf:∀ i d,ds[i]?=some d->∃ v,f i=some v/\∀ H io,Rep K H io v d):ItOk K H io ⟨ds,[]⟩ (Itw n f) where
 go:=fun i d H1 k1 s hd X1 S1 hs=>by have hi:i < ds.length:=(List.getElem?_eq_some_iff.mp hd).1;refine⟨by show i < n;omega,fun x H' y=>?_⟩;obtain⟨rfl,y⟩:=y;obtain⟨v,hv,rv⟩:=hf i d hd;rw[hv] at y;cases y;exact⟨Ext.refl,S1,rv _ _⟩
 stop:=fun H1 k1 s X1 S1 hs=>by show n<=ds.length;omega
 stop':=fun H1 k1 s i hi X1 S1 hs=>by show n<=i;have hi:ds.length<=i:=hi;omega
variable {l:Expr}{es:List Expr}{mm:MA}{mt:MT}{ms:MS}{body:List Stmt}
def signs(z:Str):List D:=z.cps.toList.map fun c=>D.str ⟨#[c]⟩
def znF(z:Str)(i:Nat):Option V:=z.cps[i]?.map fun c=>V.str ⟨#[c]⟩
def zjB(hh:A.handled=none)(I:Addr)(x:Str)(t:Tok):Walks P w A I [I] [I] x.cps.size (SignAt x) (fun i h=>h.IsStrIter I (strIterType x) x t i):=by
 unfold strIterType
 cases x.cps.all (· < 128)
 . exact Walks.strWide hh I x t
 exact Walks.strAscii hh I x t
def zlO(it:Addr)(x:Str)(t:Tok):Turn P w K tg (Itw x.cps.size<|znF x) [it] it (fun i h=>i<=x.cps.size/\h.IsStrIter it (strIterType x) x t i) :=
 zhG it x.cps.size (znF x) (fun A hA=>zjB hA it x t) (fun i v ⟨c,u,hc,hv⟩=>⟨.str ⟨#[c]⟩,by unfold znF;rw[hc];rfl,u,hv⟩)
   (fun i h ⟨o,e,c,d⟩=>⟨o,_,_,e,c,d,by unfold strIterType;split <;> decide⟩) fun A i s Q E st h=>by
     unfold strIterType at st
     split at st
     . exact wpAny_pyIter_striter_ascii st h
     exact wpAny_pyIter_striter_wide st h
def iStr(tl:TE):TI:=fun σ H R=>tl σ H fun x H1=>∃ z,x=.str z/\R (Itw z.cps.size<|znF z) H1
def zqH{tl:TE}(hl:PE X l tl):PI X tg l (iStr tl):=by
 intro pins s σ H R I h;refine thn (hl pins s σ H _ I h) ?_;rintro v s1 ⟨x,H1,I1,r1,q1⟩;obtain⟨z,e,q⟩:=q1;subst e;obtain⟨t,rfl⟩:=r1;refine wpAny_pyIter_strU ?_;refine⟨s1.heap.objs.size,[s1.heap.objs.size],_,_,H1,rfl,I1.kept (t':=s1.toks) fun b o e=>Ac _ e,zlO _ z t,⟨Bd _,_,Ap _ rfl,rfl,rfl⟩,fun b hb=>?_,q⟩;have e:b=s1.heap.objs.size:=by simpa using hb
 subst e;exact I1.fpOk (Ah _)<|I1.hok.fresh<|Ah _
def signs_get{z:Str}{i:Nat}{d:D}(h:(signs z)[i]?=some d):∃ v,znF z i=some v/\∀ H io,Rep K H io v d:=by unfold signs at h;rw[AB] at h;obtain⟨c,hc,e⟩:=zai h;subst e;refine⟨.str ⟨#[c]⟩,?_,fun H io=>rfl⟩;unfold znF;rw[EB] at hc;rw[hc];rfl
def zjQ(z:Str):z.cps.size=(signs z).length:=by unfold signs;rw[Af,BO]
def mWS(m:ME):MI:=fun ρ st=>(m ρ st).bind fun (d,s)=>match d with
 | .str z=>some (⟨signs z,[]⟩,s)
 | _=>none
def zql(hl:SE X l m):SI X tg l (mWS m):=PI.imp (zqH hl) <| by
 rintro σ H R ⟨ρ,st,io,W,st',E,S,e,k⟩;obtain⟨⟨d,s1⟩,e1,e⟩:=zaf e;dsimp only at e
 split at e
 . rename_i z;cases e;refine⟨ρ,st,io,_,_,E,S,e1,fun v H1 k1 X1 S1 R1=>?_⟩;exact⟨z,R1,k _ H1 k1 X1 S1<|zrf (zjQ z) fun i d h=>signs_get h⟩
 . cases e
def mWA(m:ME):MI:=fun ρ st=>(m ρ st).bind fun (d,s)=>orO (zjD d s)<|match d with | .str z=>some (⟨signs z,[]⟩,s) | _=>none
def zcg(hl:SE X l m):SI X tg l (mWA m):=by
 rintro pins s σ H R I ⟨ρ,st,io,W,st',E,S,e0,k⟩;obtain⟨⟨d,s1⟩,e1,e0⟩:=zaf e0
 rcases zbU e0 with e0 | e0
 . exact zoc hl pins s σ H R I ⟨ρ,st,io,W,st',E,S,by unfold mW;rw[e1];exact e0,k⟩
 exact zql hl pins s σ H R I ⟨ρ,st,io,W,st',E,S,by unfold mWS;rw[e1];exact e0,k⟩
def slK:D->Option Int->Option Int->Sto->Option (D×Sto):=fun x lo hi st=>match x with
 | .kl ds=>some (.ref st.length,st++[.lst (cutD ds lo hi)])
 | _=>none
def slB:D->Option Int->Option Int->Sto->Option (D×Sto):=fun x lo hi st=>orO (slA x lo hi st)<|slK x lo hi st
def mSlB(m:ME)(l h:MO):ME:=fun ρ st=>(m ρ st).bind fun (x,s1)=>(l ρ s1).bind fun (lo,s2)=>(h ρ s2).bind fun (hi,s3)=>slB x lo hi s3
def zcy{lo hi:Option Expr}{ml mh:MO}(he:SE X e m)(hl:SO X lo ml)(hu:SO X hi mh):SE X (.Subscript e (.Slice lo hi none p2) pos) (mSlB m ml mh):=by
 rintro pins s σ H Q I ⟨ρ,st,io,d,st',E,S,e0,k⟩;obtain⟨⟨x,s1⟩,e1,e0⟩:=zaf e0;obtain⟨⟨lo',s2⟩,e2,e0⟩:=zaf e0;obtain⟨⟨hi',s3⟩,e3,e0⟩:=zaf e0
 rcases zbU e0 with e0 | e0
 . exact zjT he hl hu pins s σ H Q I ⟨ρ,st,io,d,st',E,S,by simp only[mSlA,e1,e2,e3,Ad];exact e0,k⟩
 . refine zeR zk3 he hl hu pins s σ H Q I ?_;refine⟨ρ,st,io,x,s1,E,S,e1,fun v1 H1 k1 X1 S1 R1=>⟨ρ,s1,io++k1,lo',s2,E.ext S X1,S1,e2,fun H2 k2 X2 S2=>⟨ρ,s2,(io++k1)++k2,hi',s3,(E.ext S X1).ext S1 X2,S2,e3,fun H3 k3 X3 S3=>?_⟩⟩⟩;have R3:=(R1.ext S1 X2).ext S2 X3;have k':=((k.on S1 X1).on S2 X2).on S3 X3
   cases x with
   | kl ds =>
     cases e0;obtain⟨p,xs,rfl,hx,r⟩:=R3;exact⟨p,xs,rfl,hx.sq,fun q hq=>k'.lst S3 (zja r _ _) hq⟩
   | _=>cases e0
def zli:G2
 | .str i,.str j,st=>some (.bl (!(!(Cb j i 0 j.length 1).isEmpty)),st)
 | _,_,_=>none
def zir:OpM X (compareOp .NotIn) zli:=by
 rintro pins s σ H x y v u Q I rx ry ⟨dx,dy,st,io,d,st',Rx,Ry,S,e,k⟩
 cases dx with
 | str i =>
   cases dy with
   | str j=>cases e;exact zf3 pins s σ H x y v u Q I rx ry ⟨i,j,Rx,Ry,k.now S rfl⟩
   | _=>cases e
 | _=>cases e
def ziw:G2:=orG zmI zli
def zjX(hu:X.A.units+100 < cLine)(ha:SE X a ma)(hb:SE X b mb)(hm:behindInMarks .NotIn b=false:=by rfl):SB X (.Compare a [.NotIn] [b] pos) (mT<|mB ziw ma mb) :=
 zmd (zjY hu ha hb hm) (zbK zir ha hb hm)
end L2.MP
namespace PySem.F
end PySem.F
namespace PySem
open Builtin
end PySem
namespace L2.MP
open PySem PySem.Spec PyProof.Rows
variable {st:Sto}{m ma mb:ME}{mm:MA}
section
variable {ρ ρ1:Rho} {s1:Sto} {n o:ME} {ms mq:MS} {mt mu:MT} {d:D} {ml mh:MO}
@[simp] theorem ztF:mWA m ρ st=(m ρ st).bind fun p=>orO (zjD p.1 p.2) (match p.1 with | .str z=>some (⟨signs z,[]⟩,p.2) | _=>none):=rfl
@[simp] theorem zth:mSlB m ml mh ρ st=(m ρ st).bind fun p=>(ml ρ p.2).bind fun q=>(mh ρ q.2).bind fun r=>slB p.1 q.1 r.1 r.2:=rfl
end
def zpA:bootBuiltins "sum"=some (.builtin "sum"):=by decide +kernel
def zey:bootBuiltins "repr"=some (.builtin "repr"):=by decide +kernel
variable {X:Cx}{K:Ab}{H:Hp}{io:List Addr}{st':Sto}{b c e:Expr}{mc:ME}{pos:Pos}{pins:List (Addr×Obj)}{σ:L2.St}{s:Shared}
section
variable {a:Expr} {es:List Expr}
def zpc:List D->Option (List Int)
 | []=>some []
 | .int i::r=>(zpc r).map fun is=>i::is
 | _=>none
def ziQ:∀ {ys:List V} {its:List Value} {ds:List D} {ns:List Int},Reps K H io ys ds->Vals ys its->zpc ds=some ns->its.length=ns.length/\∀ (j:Nat) (v:Value),its[j]?=some v->∃ t,v=DA (ns.getD j 0) t
 | _,_,[],ns,h,r,e=>by
   cases e
   cases (show _=[] from h)
   cases r;exact⟨rfl,fun j v h=>by simp at h⟩
 | _,_,d::ds,ns,h,r,e=>by
   obtain⟨y,ys,rfl,h1,h2⟩:=h
   cases d with
   | int i =>
     obtain⟨is,e2,e⟩:=zai e;subst e
     cases r with
     | cons r1 r2 =>
       cases (show y=.int i from h1)
       obtain⟨t,rfl⟩:=r1;obtain⟨l,q⟩:=ziQ h2 r2 e2;refine⟨by simp[l],fun j v hj=>?_⟩
       cases j with
       | zero=>cases hj;exact⟨t,rfl⟩
       | succ j=>simpa using q j v (by simpa using hj)
   | _=>cases e
def zfi(i:Int):Bool:=decide (-1000000<=i)&&decide (i<=1000000)
def sumC:GN
 | [.ref n],st=>(zbs st n).bind fun ds=>(zpc ds).bind fun ns=>if (ns.all zfi&&decide (ns.length<=100000))=true then some (.int ns.sum,st) else none
 | _,_=>none
def zeP:∀ (ns:List Int) (j:Nat),j<=ns.length->preSum (fun i=>ns.getD i 0) j=(ns.take j).sum
 | ns,0,_=>by simp[preSum]
 | ns,j+1,h=>by
   have hj:j < ns.length:=h;have e1:(ns.take<|j+1).sum=(ns.take j).sum+ns[j]:=by rw[Cq,Ag hj];simp only[Option.toList_some,List.sum_append,Gs,List.sum_nil,Int.add_zero]
   rw[preSum,zeP ns j (by omega),e1];simp only[Au,Ag hj,C3]
def zgt:∀ {ns:List Int},ns.all zfi=true->-1000000*(ns.length:Int)<=ns.sum/\ns.sum<=1000000*(ns.length:Int)
 | [],_=>by simp
 | i::ns,h=>by
   rw[Gp,Am] at h;obtain⟨h1,h2⟩:=h;unfold zfi at h1;rw[Am] at h1;have a1:=of_decide_eq_true h1.1;have a2:=of_decide_eq_true h1.2;have ih:=zgt h2;rw[Gs,Az]
   push_cast
   omega
def zg1(hc:X.calm=true):zdF X (.builtin "sum") sumC:=by
 rintro pins s σ H xs us Q I r ⟨ds,st,io,d,st',R,S,e,k⟩;unfold sumC at e
 split at e
 . rename_i n;obtain⟨ts,e0,e⟩:=zaf e;obtain⟨ns,e1,e⟩:=zaf e;obtain⟨hf,e⟩:=zat e;cases e;rw[Am] at hf;have hall:=hf.1;have hlen:=of_decide_eq_true hf.2;obtain⟨v,rfl,p,rfl,hp⟩:=R.one;obtain⟨u,rfl,ru⟩:=r.one;cases ru;obtain⟨ys,hx,r1⟩:=za7 S hp e0;obtain⟨its,rv,pl,hz⟩:=I.list hx;obtain⟨hl,hval⟩:=ziQ r1 rv e1;refine call_sum_walk<|CU pl.isList ?_;have hlt:p < s.heap.objs.size:=by
     obtain⟨o,_,e,_⟩:=pl;exact Ai e
   refine⟨_,_,_,_,_,_,fun i=>ns.getD i 0,rfl,Walks.list (A:=X.A.in1) (I.ok.hd hc) s.heap.objs.size p (Ar hlt) its.toArray,⟨⟨_,Ap _ rfl,rfl,rfl⟩,?_⟩,?_,?_,?_,fun h' tk t' hk=>?_⟩
   . obtain⟨o,nn,e,c,dd,sq⟩:=pl;exact⟨o,Ac _ e,c,nn,sq⟩
   . intro b hb;rw[BB];simp at hb
     rcases hb with hb | hb
     . rw[hb];exact FO _
     rw[hb];exact DQ hlt
   . intro i v hv;exact hval i v<|by simpa using hv
   . intro j hj;have hj:j < ns.length:=by simpa[hl] using hj
     have b1:zfi (ns.getD j 0)=true:=by rw[Au,Ag hj];exact List.all_eq_true.mp hall _<|Bq hj
     have b2:(ns.take<|j+1).all zfi=true:=List.all_eq_true.mpr fun x hx=>List.all_eq_true.mp hall x<|ER hx;have b3:=zgt b2;rw[zeP ns (j+1) hj];unfold zfi at b1;rw[Am] at b1;have a1:=of_decide_eq_true b1.1;have a2:=of_decide_eq_true b1.2;have hl2:(ns.take<|j+1).length<=100000:=by rw[Bp];omega
     unfold InLong;dsimp only;omega
   . refine⟨.int _,H,I.kept (t':=tk) fun b o q=>hk b o ?_ (Ac _ q),⟨t',rfl⟩,?_⟩
     . simp;exact Ar<|Ai q
     . have e2:preSum (fun i=>ns.getD i 0) its.toArray.size=ns.sum:=by
         rw[AA,hl,zeP ns ns.length (Ah _),BQ]
       rw[e2];exact k.now S rfl
 . cases e
def zgB:GN
 | [x],st=>(toP 100 st x).bind fun p=>if (CH p&&!p.hasDict&&fits p.shown.length)=true then some (.str p.shown,st) else none
 | _,_=>none
def zbZ(hg:X.A.guards=some [])(hu:X.A.units+110 < cLine):zdF X (.builtin "repr") zgB:=by
 rintro pins s σ H xs us Q I r ⟨ds,st,io,d,st',R,S,e,k⟩;unfold zgB at e
 split at e
 . rename_i x;obtain⟨p,e1,e⟩:=zaf e;obtain⟨hf,e⟩:=zat e;cases e;rw[Am,Am] at hf;obtain⟨⟨h1,h2⟩,h3⟩:=hf;have hz:p.shown.length<=sizeLine:=of_decide_eq_true h3;have hnd:p.hasDict=false:=by simpa using h2
   obtain⟨v,rfl,rx⟩:=R.one;obtain⟨u,rfl,ru⟩:=r.one;have hdep:=(zdL e1).2;obtain⟨as,rd⟩:=zbE I S rx ru e1;have fin:∀ h' u tk,(∀ b o,s.heap.get? b=some o->h'.get? b=some o)->EP X pins σ Q (.str p.shown u) { s with heap:=h',toks:=tk }:=fun h' u tk hk=>⟨.str p.shown,H,I.kept (t':=tk) fun b o q=>hk b o q,⟨u,rfl⟩,k.now S rfl⟩
   cases u with
   | ref a=>exact repr_of_reads' rd h1 (fun z=>by rw[hnd] at z;cases z) hg (by omega) (fun b o q=>q) fin hz
   | int i t =>
     cases rd;exact PySem.P.repr_of_int (by simpa[CH] using h1)<|fin s.heap s.toks _ fun b o q=>q
   | str z t =>
     cases rd;exact PySem.P.repr_of_str (fin s.heap s.toks _ fun b o q=>q)<|by simpa[PyData.shown] using hz
   | bool b =>
     cases rd;exact PySem.P.repr_of_bool<|fin s.heap s.toks _ fun b o q=>q
   | none =>
     cases rd;exact PySem.P.repr_of_none<|fin s.heap s.toks _ fun b o q=>q
   | _=>cases rd
 . cases e
end
variable {o:Obj}{d it:Addr}{es:Array DictEntry}{prog:Program}{w:World}{A:Around}{E:Value->Shared->Prop}{ep i:Nat}
def zkw{R:Value->Shared->Prop}(ty:s.TypeIs (.ref d) "dict")(hd:(d==sysModules)=false)(g:s.heap.get? d=some o)(dd:o.data=.dict es ep)
   (k:R (.ref s.heap.objs.size) { s with heap:=s.heap.push { cls:=.type "dict_keyiterator",data:=.fields #[.ref d,.int 0 0,.int es.size 0,.int ep 0] } }):wpAny (model prog w) A (pyIter<|.ref d) R E s:=by
 refine wpAny_pyIter_slot ty F.slot_dict_iter<|A8 F.slot_dict_iter ty F.entry_dict_iter ?go<|F.args_dict_iter_1 _;unfold Builtin.«dict.__iter__»;refine Aa ?_;unfold Builtin.Dict.dictSlotNone;refine Aa<|Da ty ?_;show wpAny _ _ (pure<|As d) _ _ s;refine Ae ?_;show wpAny _ _ (EG d >>= _) _ _ s;unfold EG;rw[if_neg (by rw[hd];exact Bm)];refine Aa<|Ae<|Aa<|DS g dd<|Aa<|Eh g dd ?_;refine Aa (AG<|Ae ⟨_,rfl,"dict_keyiterator",_,⟨_,Ap _ rfl,rfl⟩,F.slot_dict_keyiterator_next.lookup,?_⟩);simpa[rawInt] using k
def zkv{en:DictEntry}{R:Option Value->Shared->Prop}(hit:s.heap.IsKeyIter it d i es.size ep)(g:s.heap.get? d=some o)(dd:o.data=.dict es ep)(hx:es[i]?=some en)
   (k:∀ h',h'.IsKeyIter it d (i+1) es.size ep->B7 it s.heap h'->R (some en.key) { s with heap:=h' }):wpAny (model prog w) A (pyNext<|.ref it) R E s:=by
 obtain⟨io,ig,ic,idt⟩:=id hit;have own:Dz "dict_keyiterator"=false:=by decide
 unfold pyNext;refine Aa (C0<|A2 (name:=BW "__next__") hit.typeIs F.slot_dict_keyiterator_next<|A8 F.slot_dict_keyiterator_next hit.typeIs F.entry_dict_keyiterator_next ?_<|F.args_dict_keyiterator_next_1 _);refine Aa<|Ae<|Aa<|Aa ?_;refine Aa<|BM hit.typeIs<|Ae<|Aa<|wpAny_fieldsOf ig idt ?_;simp only[own,By,if_false];show wpAny _ _ (if (As d==AD)=true then _ else _) _ _ s;rw[if_neg (show ¬ (As d==AD)=true from fun z=>Bm z)];refine Aa<|Ae<|Aa<|DS g dd ?_;rw[if_neg (by simp)];refine Aa<|Ae<|Aa<|Eh g dd ?_;rw[if_neg (by simp)];refine Ae ?_;have ni:¬ ((i:Int) < 0):=by omega
 simp only[ni,if_false,Bu,hx];refine Aa<|Aa<|BM hit.typeIs<|Ae<|Aa<|EH hit.typeIs ?_;show wpAny _ _ (setField (.ref it) 1 (rawInt<|(i:Int)+1) >>= _) _ _ s;refine Aa<|BC ig idt (by simp) ?_;have h2:(s.heap.update it (AJ (·.setIfInBounds 1 (rawInt<|(i:Int)+1)))).IsKeyIter it d (i+1) es.size ep:=⟨_,A0 _ ig<|Bc<|Bo idt _,(FA ..).trans ic,by rw[Bo idt];simp[rawInt]⟩
 refine Aa (AY (Aa (EH (s:={ s with heap:=s.heap.update it (AJ (·.setIfInBounds 1 (rawInt<|(i:Int)+1))) }) h2.typeIs ?_)));show wpAny _ _ (pure en.key) _ _ _;exact Ae<|Ae ⟨_,rfl,Ae<|k _ h2<|CB ..⟩
def zku{R:Option Value->Shared->Prop}(hh:A.handled=none)(hit:s.heap.IsKeyIter it d i es.size ep)(g:s.heap.get? d=some o)(dd:o.data=.dict es ep)(hx:es[i]?=none)
   (k:∀ h',Es it s.heap h'->R none { s with heap:=h' }):wpAny (model prog w) A (pyNext<|.ref it) R E s:=by
 obtain⟨io,ig,ic,idt⟩:=id hit;have own:Dz "dict_keyiterator"=false:=by decide
 unfold pyNext;refine Aa (C0<|A2 (name:=BW "__next__") hit.typeIs F.slot_dict_keyiterator_next<|A8 F.slot_dict_keyiterator_next hit.typeIs F.entry_dict_keyiterator_next ?_<|F.args_dict_keyiterator_next_1 _);refine Aa<|Ae<|Aa<|Aa ?_;refine Aa<|BM hit.typeIs<|Ae<|Aa<|wpAny_fieldsOf ig idt ?_;simp only[own,By,if_false];show wpAny _ _ (if (As d==AD)=true then _ else _) _ _ s;rw[if_neg (show ¬ (As d==AD)=true from fun z=>Bm z)];refine Aa<|Ae<|Aa<|DS g dd ?_;rw[if_neg (by simp)];refine Aa<|Ae<|Aa<|Eh g dd ?_;rw[if_neg (by simp)];refine Ae ?_;have ni:¬ ((i:Int) < 0):=by omega
 simp only[ni,if_false,Bu,hx];refine Aa<|Aa<|BM hit.typeIs<|Ae ?_;show wpAny _ _ (setField (.ref it) 0 .none >>= _) _ _ s;refine Aa<|BC ig idt (by simp) ?_;show wpAny _ _ (newExc (.type "StopIteration") [] >>= _) _ _ _;simp only[newExc,newTuple];refine Aa (Aa<|AG (Aa (m:=firstArgMember _ _)<|wpAny_of_eq (a:=AD) (by first | rfl | (simp only[firstArgMember];rfl))<|AG ?_<|by size_fits)<|by size_fits);simp only[raiseNew];refine Aa<|wpAny_handled ?_;rw[show A.in1.handled=none from hh];refine Aa<|Ae<|wpAny_throw ?_;refine Aa (wpAny_isInstance (T:="StopIteration") (b:=true) ⟨_,Ap _ rfl,rfl⟩ isSubtype_stop<|Ae ?_);exact k _<|((CB ..).extBut.push _).push _
def Itk(o:Obj)(d:Addr):It :=
 ⟨fun i H=>∃ ps p,H d=some (.frz o<|.dT ps)/\ps[i]?=some p,fun i H x H'=>∃ b ps k v,H'=H/\x=.ref b/\H d=some (.frz o<|.dT ps)/\ps[i]?=some (k,v)/\H b=some (.tup<|k.map kV),
   fun i H=>∃ ps,H d=some (.frz o<|.dT ps)/\ps.length<=i⟩
variable {tg:Expr}
def zjF{P:Program}(d it:Addr)(dd:o.data=.dict es ep) :
   Turn P w K tg (Itk o d) [it] it (fun i h=>h.IsKeyIter it d i es.size ep) where
 mem:=by simp
 obj:=fun i h st b hb=>by obtain⟨ob,e,c,dt⟩:=st;rw[List.mem_singleton.mp hb];exact⟨_,e,fun v z=>by rw[dt] at z;cases z⟩
 keep:=fun i h h' st k=>st.at fun ob e=>k it (by simp) ob e
 item:=by intro X hP hw hK hc i pins s σ H E I hf st hg;subst hP hw hK;obtain⟨ps,⟨k,v⟩,hq,hx⟩:=hg;obtain⟨g,hl,ent⟩:=zi9 (I.hok d _ hq) dd;obtain⟨en,b,he,hkey,hb,hv⟩:=ent i k v hx;obtain⟨f0,f1,f2,f3,f4,f5⟩:=hf it (by simp);refine zkv st g dd he fun h' st' sb=>?_;have I1:Inv X pins σ H { s with heap:=h' }:=I.turned (t':=s.toks) (fun b o hb e=>(sb.2 b hb).trans e) f0 f1 f3 f4 f5;obtain⟨ob,e,c,dt⟩:=id st';exact⟨en.key,rfl,zpl (s:={ s with heap:=h' }) e c dt (by decide) ⟨.ref b,H,I1,by rw[hkey];rfl,⟨b,ps,k,v,rfl,rfl,hq,hx,hb⟩,st',fun b hb=>(hf b hb).1⟩⟩
 done:=by intro X hP hw hK hc i pins s σ H E I hf st hg;subst hP hw hK;obtain⟨ps,hq,hx⟩:=hg;obtain⟨g,hl,_⟩:=zi9 (I.hok d _ hq) dd;obtain⟨f0,f1,f2,f3,f4,f5⟩:=hf it (by simp);exact zku (I.ok.hd hc) st g dd (by simp;omega) fun h' eb=>⟨rfl,I.turned (t':=s.toks) (fun b o hb e=>eb b o hb e) f0 f1 f3 f4 f5⟩
 self:=fun _ _ _ _ _ st h=>wpAny_pyIter_keyiter st h
variable {n:Nat}{p:Addr}{y:V}
def zep(kvs:List (List Key×D)):List D:=kvs.map fun p=>.tup<|p.1.map keyD
def znD:D->Sto->Option (Wk×Sto)
 | .ref n,s=>match s[n]? with
   | some (.dt kvs)=>some (⟨zep kvs,[]⟩,s.set n (.ft kvs))
   | _=>none
 | _,_=>none
def zrj{ps:List (List Key×V)}{kvs:List (List Key×D)}(S:StR K H io st)(hn:io[n]?=some p)(hp:H p=some (.frz o<|.dT ps))(r:KR (List Key) K H io ps kvs):ItOk K H io ⟨zep kvs,[]⟩ (Itk o p) where
 go := fun i d H1 k1 s hd X1 S1 hs=>by
   have h1:=X1.frz _ _ _ hp;have hd:(zep kvs)[i]?=some d:=hd;unfold zep at hd;rw[AB] at hd;obtain⟨⟨k,y⟩,hk,rfl⟩:=zai hd;have get:∀ {l:List (List Key×V)} {m:List (List Key×D)} {i:Nat},KR (List Key) K H io l m->m[i]?=some (k,y)->∃ v,l[i]?=some (k,v):=by
     intro l m i q
     induction q generalizing i with
     | nil=>intro e;simp at e
     | @cons a b _ _ h t ih =>
       cases i with
       | zero =>
         intro e;simp at e;subst e;obtain⟨a1,a2⟩:=a;have z:a1=k:=h.1;subst z;exact⟨a2,rfl⟩
       | succ j=>intro e;exact ih<|by simpa using e
   obtain⟨v,hv⟩:=get r hk;refine⟨⟨ps,_,h1,hv⟩,fun x H' y'=>?_⟩;obtain⟨b,ps',k',v',rfl,rfl,h1',hv',hb⟩:=y';rw[h1] at h1';cases h1';rw[hv] at hv';cases hv';exact⟨Ext.refl,S1,⟨b,_,rfl,hb,zgf k⟩⟩
 stop:=fun H1 k1 s X1 S1 hs=>⟨ps,X1.frz _ _ _ hp,by show ps.length<=(zep kvs).length;unfold zep;rw[Af,KR.length r];exact Ah _⟩
 stop':=fun H1 k1 s i hi X1 S1 hs=>⟨ps,X1.frz _ _ _ hp,by have hi:(zep kvs).length<=i:=hi;unfold zep at hi;rw[Af,<-KR.length r] at hi;exact hi⟩
def mWK(m:ME):MI:=fun ρ st=>(m ρ st).bind fun (d,s)=>znD d s
def zk4{o:Expr}(ho:SE X o m):SI X tg o (mWK m):=by
 rintro pins s σ H R I ⟨ρ,st,io,W,st',E,S,e,k⟩;obtain⟨⟨d,s1⟩,e1,e⟩:=zaf e
 cases d with
 | ref n =>
   unfold znD at e;dsimp only at e
   split at e
   . rename_i kvs en;cases e;refine thn (ho pins s σ H (fun v H'=>∃ ka,Ext io ka H H'/\StR X.K H' (io++ka) s1/\Rep X.K H' (io++ka) v (.ref n)) I ⟨ρ,st,io,_,s1,E,S,e1,fun v1 H1 k1 X1 S1 R1=>⟨k1,X1,S1,R1⟩⟩) ?_;rintro v s2 ⟨x,H1,I1,r1,k1,X1,S1,R1⟩;obtain⟨p,rfl,hp⟩:=R1;cases r1;obtain⟨ps,hH,r⟩:=S1.ob n p _ hp en;obtain⟨t1,t2,hs⟩:=zpb I1<|.inr ⟨ps,.inl hH⟩;obtain⟨_,_,xs,_,o,es,ep,g,_,dd,_,_⟩:=I1.hok p _ hH;refine zkw (o:=o) (es:=es) (ep:=ep) t1 hs g dd ?_;have J:=I1.kept (t':=s2.toks) (h':=s2.heap.push { cls:=.type "dict_keyiterator",data:=.fields #[.ref p,.int 0 0,.int es.size 0,.int ep 0] }) fun b u q=>Ac _ q;have J2:=Inv.freeze J hH (Ac _ g) (by simp) (by simp) (by simp) (by simp);obtain⟨X2,S2⟩:=zii (o:=.frz o (.dT ps)) (ob:=.ft kvs) S1 hp en (fun o u z=>by rw[hH] at z;cases z) fun H' T e'=>⟨o,ps,e',KR.mono T r⟩
     refine⟨_,[_],_,_,_,rfl,J2,zjF p _ dd,⟨_,Ap _ rfl,rfl,rfl⟩,fun b hb=>?_,?_⟩
     . rw[List.mem_singleton.mp hb];refine I1.fpOk (Ah _) ?_;rw[zan (AZ<|Ar<|Ai g)];exact I1.hok.fresh<|Ah _
     . have hn':((io++k1)++[])[n]?=some p:=by rw[Al];exact hp
       have r2:=KR.mono (ka:=[]) (X2.kp S1) r;have ok:=zrj S2 hn' zaC r2;refine k _ _ (k1++[]) (X1.trans S1 X2) (by rw[<-Ak];exact S2) (by rw[<-Ak];exact ok)
   . cases e
 | _=>cases e
def zmU(st:Sto)(n:Nat)(k:D):Option (Option D):=match st[n]? with
 | some (.ft kvs)=>match k with
   | .tup ds=>(keysOf ds).map fun q=>valD kvs q
   | _=>none
 | _=>none
def zgQ{k:D}{r:Option D}(S:StR K H io st)(hp:io[n]?=some p)(ry:Rep K H io y k)(h:zmU st n k=some r):∃ o,DGet H p y o/\((r=none/\o=none)\/∃ d v,r=some d/\o=some v/\Rep K H io v d):=by
 unfold zmU at h
 split at h
 . rename_i kvs e
   split at h
   . rename_i ds;obtain⟨q,e1,h⟩:=zai h;subst h;obtain⟨ob,ps,hH,r⟩:=S.ob n p _ hp e;obtain⟨b,xs,rfl,hb,rs⟩:=ry;have ex:=zck rs e1;subst ex;refine⟨_,.inr ⟨ps,q,b,.inr ⟨ob,hH⟩,rfl,hb,rfl⟩,?_⟩
     rcases KR.val r q with ⟨h1,h2⟩ | ⟨d,v,h1,h2,h3⟩
     . exact .inl ⟨h1,h2⟩
     exact .inr ⟨d,v,h1,h2,h3⟩
   . cases h
 . cases h
variable {sl:Addr}{Q:Value->Shared->Prop}
def zhx{t:Tok}{Q:Int×Int×Nat->Shared->Prop}(hs:s.heap.IsSliceOf sl .none .none (.int (-1) t))(h:Q ((n:Int) - 1,-1,n) s):wpAny (model prog w) A (B4 (.ref sl)<|pure (n:Int)) Q E s:=by
 obtain⟨os,hos,hcs,hds⟩:=id hs;unfold B4 DU;refine Aa<|Aa<|AK hos hds (x:=.none) rfl<|Aa<|AK hos hds (x:=.none) rfl<|Aa<|AK hos hds (x:=.int (-1) t) rfl<|Ae ?_;refine Aa<|HT.slicePart_ (.int (-1) t) ?_;show wpAny _ _ (if ((-1:Int)==0)=true then _ else _) _ _ s;rw[if_neg (by decide)];refine Aa<|HT.slicePart_ .none<|Aa<|HT.slicePart_ .none<|Aa<|Ae ?_;have e1:Bw none none (-1) (n:Int)=((n:Int) - 1,-1):=by unfold Bw;simp
 have e2:A4 ((n:Int) - 1) (-1) (-1)=n:=by
   unfold A4;have h1:¬ ((-1:Int) > 0):=by decide
   simp only[h1,if_false]
   by_cases hn:(-1:Int) < (n:Int) - 1
   . simp[hn]
   simp[hn];omega
 show wpAny _ _ (match Bw none none (-1) (n:Int) with | (lo,hi)=>pure (lo,(-1:Int),A4 lo hi (-1))) _ _ s;rw[e1];show wpAny _ _ (pure ((n:Int) - 1,(-1:Int),A4 ((n:Int) - 1) (-1) (-1))) _ _ s;rw[e2];exact Ae h
def zi2{α β:Type}{f g:α->Option β}:∀ {l:List α},(∀ x∈l,f x=g x)->l.filterMap f=l.filterMap g
 | [],_=>rfl
 | a::l,h=>by rw[BN,BN,h a An,zi2 fun x hx=>h x (Aj _ hx)]
def zmu(xs:Array Value):((AC xs.size).filterMap fun (m:Nat)=>xs[(((xs.size:Int) - 1)+(m:Int)*-1).toNat]?).toArray=xs.toList.reverse.toArray:=by
 congr 1
 have e:∀ m∈AC xs.size,xs[(((xs.size:Int) - 1)+(m:Int)*-1).toNat]?=xs[xs.size - 1 - m]?:=fun m hm=>by
   have:=List.mem_range.mp hm;have:(((xs.size:Int) - 1)+(m:Int)*-1).toNat=xs.size - 1 - m:=by omega
   rw[this]
 rw[zi2 e];have h2:(AC xs.size).filterMap (fun m=>xs[xs.size - 1 - m]?)=((AC xs.size).map fun k=>xs.size - 1 - k).filterMap (xs[·]?):=by rw[Fh];rfl
 rw[h2,PySem.W.krv_range,List.filterMap_reverse,PySem.W.krv_all]
def zdE{t:Addr}{items:Array Value}{tk:Tok}(ht:IsTup s.heap t items)(hs:s.heap.IsSliceOf sl .none .none (.int (-1) tk))
   (h:Q (.ref s.heap.objs.size) { s with heap:=s.heap.push { cls:=.type "tuple",data:=.seq items.toList.reverse.toArray } }) (hsz:items.size<=sizeLine):wpAny (model prog w) A (getItem (.ref t)<|.ref sl) Q E s:=by
 have htake:sizeOk (.seq items.toList.reverse.toArray):=by show items.toList.reverse.toArray.size<=sizeLine;rw[AA,EZ,BO];exact hsz
 obtain⟨os,hos,hcs,hds⟩:=id hs;have hTs:s.TypeIs (.ref sl) "slice":=⟨os,hos,hcs⟩
 unfold getItem
 try with_reducible refine AY ?_
 first | refine Aa (Ae ?_) | skip
 refine Aa<|DP ht.typeIs (by decide) ?_;refine Aa (A2 (name:=BW "__getitem__") ht.typeIs Be<|A8 Be ht.typeIs Dr ?_<|DD _ _);show wpAny _ _ (Ct (.ref t) >>= _) _ _ s;refine Aa<|ET ht ?_;refine Aa<|B8 hTs ?_;rw[if_pos (by decide)];refine Aa<|zhx hs ?_;have hno:¬ ((((items.size:Int) - 1)==0&&(-1:Int)==1&&items.size==items.size)=true):=by intro q;rw[Am,Am] at q;exact absurd q.1.2<|by decide
 show wpAny _ _ (if (((items.size:Int) - 1)==0&&(-1:Int)==1&&items.size==items.size)=true then _ else _) _ _ s;rw[if_neg hno,zmu]
 first
   | exact Aa (m:=A9 _) (AG (Ae ⟨_,rfl,Ae h⟩) htake)
   | exact Aa (m:=A9 _) (AG (Aa<|Ae<|Ae ⟨_,rfl,Ae h⟩) htake)
   | exact Aa (Aa (m:=A9 _)<|AG (Ae<|Ae ⟨_,rfl,Ae h⟩) htake)
   | exact Aa (Aa (m:=A9 _)<|AG (Ae ⟨_,rfl,Ae h⟩) htake)
variable {mk md:ME}{p2:Pos}{se:Expr}
section
variable {a:Expr} {es:List Expr}
def zpQ(st:Sto)(n:Nat)(k:D):Option (Option D):=orO (look st n k)<|zmU st n k
def zkr{k:D}{r:Option D}(S:StR K H io st)(hp:io[n]?=some p)(ry:Rep K H io y k)(h:zpQ st n k=some r):∃ o,DGet H p y o/\((r=none/\o=none)\/∃ d v,r=some d/\o=some v/\Rep K H io v d):=by
 rcases zbU h with h | h
 . exact zga S hp ry h
 exact zgQ S hp ry h
def zpa(st:Sto)(n:Nat):Bool:=match st[n]? with
 | some (.dk _)=>true
 | some (.dt _)=>true
 | some (.fk _)=>true
 | some (.ft _)=>true
 | _=>false
def zm2(S:StR K H io st)(hp:io[n]?=some p)(h:zpa st n=true):IsD H p:=by
 unfold zpa at h
 split at h
 . rename_i kvs e;obtain⟨ps,q,_⟩:=S.ob n p _ hp e;exact .inl ⟨ps,.inl q⟩
 . rename_i kvs e;obtain⟨ps,q,_⟩:=S.ob n p _ hp e;exact .inr ⟨ps,.inl q⟩
 . rename_i kvs e;obtain⟨o,ps,q,_⟩:=S.ob n p _ hp e;exact .inl ⟨ps,.inr ⟨o,q⟩⟩
 . rename_i kvs e;obtain⟨o,ps,q,_⟩:=S.ob n p _ hp e;exact .inr ⟨ps,.inr ⟨o,q⟩⟩
 . cases h
def zmT(md mk:ME):ME:=fun ρ st=>(md ρ st).bind fun (d,s1)=>match d with
 | .ref n=>if zpa s1 n=true then (mk ρ s1).bind fun (k,s2)=>(zpQ s2 n k).map fun r=>(r.getD .non,s2) else none
 | _=>none
def zoj{o:Expr}{apos cpos:Pos}(hu:X.A.units+1 < cLine)(ho:SE X o md)(he:SE X e mk)(mm:M1 X o "get" apos e cpos:=by exact⟨rfl,rfl,rfl,rfl⟩):SE X (.Call (.Attribute o "get" apos) [e] [] cpos) (zmT md mk) :=
 PE.imp (zmz hu ho he mm) <| by
   rintro σ H Q ⟨ρ,st,io,d,st',E,S,e,k⟩;obtain⟨⟨x,s1⟩,e1,e⟩:=zaf e
   cases x with
   | ref n =>
     obtain⟨hd,e⟩:=zat e;obtain⟨⟨y,s2⟩,e2,e⟩:=zaf e;obtain⟨r,e3,e⟩:=zai e;cases e;refine⟨ρ,st,io,_,s1,E,S,e1,fun v1 H1 k1 X1 S1 R1=>?_⟩;obtain⟨p,rfl,hp⟩:=R1;refine⟨p,rfl,zm2 S1 hp hd,ρ,s1,io++k1,y,_,E.ext S X1,S1,e2,fun v2 H2 k2 X2 S2 R2=>?_⟩;obtain⟨o,g,z⟩:=zkr S2 (zbo hp) R2 e3;refine⟨o,g,?_⟩
     rcases z with ⟨rfl,rfl⟩ | ⟨d',v,rfl,rfl,rv⟩
     . exact ((k.on S1 X1).on S2 X2).now S2 rfl
     exact ((k.on S1 X1).on S2 X2).now S2 rv
   | _=>cases e
def zkJ:G2:=fun d k st=>match d with
 | .ref n=>(zmU st n k).bind fun r=>r.map fun v=>(v,st)
 | _=>none
def zh5{o i:Expr}(hu:X.A.units+1 < cLine)(ho:SE X o md)(hi:SE X i mk)(hs:NoSl i:=by intro _ _;rfl):SE X (.Subscript o i pos) (mB zkJ md mk):=PE.imp (zlf hu ho hi hs) <| by
 rintro σ H Q ⟨ρ,st,io,d,st',E,S,e,k⟩;obtain⟨⟨x,s1⟩,e1,e⟩:=zaf e;obtain⟨⟨y,s2⟩,e2,e⟩:=zaf e
 cases x with
 | ref n =>
   obtain⟨r,e3,e⟩:=zaf (show (zmU s2 n y).bind _=some (d,st') from e);obtain⟨w,e4,e⟩:=zai e;cases e;subst e4;refine⟨ρ,st,io,_,s1,E,S,e1,fun v1 H1 k1 X1 S1 R1=>⟨ρ,s1,io++k1,y,_,E.ext S X1,S1,e2,fun v2 H2 k2 X2 S2 R2=>?_⟩⟩;obtain⟨p,rfl,hp⟩:=R1;obtain⟨o,g,⟨z,_⟩ | ⟨d',v,hd,hv,rv⟩⟩:=zgQ S2 (zbo hp) R2 e3
   . cases z
   . cases hd;subst hv;exact⟨p,v,rfl,g,((k.on S1 X1).on S2 X2).now S2 rv⟩
 | _=>cases e
def zsg(K:Ab)(te:TE)(ts:TO):TE:=fun σ H Q=>te σ H fun x H1=>ts σ H1 fun k H2=>k=some (-1)/\∃ a xs,x=.ref a/\H2 a=some (.tup xs)/\∀ p,H2 p=none->Q (.ref p) (upd H2 p<|.tup xs.reverse)
def zoE{te:TE}{ts:TO}(he:PE X e te)(hs:PO X (some se) ts):PE X (.Subscript e (.Slice none none (some se) p2) pos) (zsg X.K te ts):=by
 intro pins s σ H Q I h;refine EL<|thn (he pins s σ H _ I h) ?_;rintro v s1 ⟨x,H1,I1,r1,q1⟩;refine wpAny_Slice ?_;rw[EU];refine Ae<|Ae ?_;refine thn (hs pins s1 σ H1 _ I1 q1) ?_;rintro vs s3 ⟨k,H3,I3,pk,hk,a,xs,hx,hq,q3⟩;subst hk;subst hx;cases r1;have I4:Inv X pins σ H3 { s3 with heap:=s3.heap.push { cls:=.type "slice",data:=.fields #[.none,.none,vs] } }:=I3.kept (t':=s3.toks) fun b ob q=>Ac _ q;obtain⟨its,r,ht,hz⟩:=I4.tuple<|SqT.of (K:=X.K) hq;have hlen:=r.length;show wpAny (model X.prog X.w) X.A (subscriptTail e (.Slice none none (some se) p2) (.ref a)<|.ref s3.heap.objs.size) (EP X pins σ Q) X.xe { s3 with heap:=s3.heap.push { cls:=.type "slice",data:=.fields #[.none,.none,vs] } }
 cases pk with
 | int i ti =>
 refine tail_any (ops:=[.ref a,.ref s3.heap.objs.size]) ht.typeIs PyProof.Rows.slot_tuple_getitem.lookup ?_ (by with_unfolding_all rfl);refine zdE ht (Fi ..) ?_ (by rw[AA];omega);refine⟨.ref (s3.heap.push { cls:=.type "slice",data:=.fields #[.none,.none,.int (-1) ti] }).objs.size,_,I4.laid (t':=s3.toks) (o:=.tup xs.reverse) (fun b ob q=>Ac _ q) (Ah _) ?_,rfl,q3 _<|I4.hok.fresh<|Ah _⟩;exact⟨by rw[EZ];exact hz,_,zhE r,zcP.new _ _⟩
def zmQ(m mk:ME):ME:=fun ρ st=>(m ρ st).bind fun (x,s1)=>(mk ρ s1).bind fun (k,s2)=>match x,k with
 | .tup ds,.int i=>if (decide (i=-1))=true then some (.tup ds.reverse,s2) else none
 | _,_=>none
def zk5(he:SE X e m)(hk:SE X se mk):SE X (.Subscript e (.Slice none none (some se) p2) pos) (zmQ m mk) :=
 PE.imp (zoE he<|zld hk) <| by
   rintro σ H Q ⟨ρ,st,io,d,st',E,S,e,k⟩;obtain⟨⟨x,s1⟩,e1,e⟩:=zaf e;obtain⟨⟨y,s2⟩,e2,e⟩:=zaf e;refine⟨ρ,st,io,x,s1,E,S,e1,fun v1 H1 k1 X1 S1 R1=>?_⟩;refine⟨ρ,s1,io++k1,y,s2,E.ext S X1,S1,e2,fun v2 H2 k2 X2 S2 R2=>?_⟩
   cases x with
   | tup ds =>
     cases y with
     | int i =>
       obtain⟨hi,e⟩:=zat e;cases e;have hi1:=of_decide_eq_true hi;subst hi1;obtain⟨p,xs,rfl,hp,r⟩:=R1.ext S1 X2;exact⟨_,R2,rfl,p,xs,rfl,hp,fun l hl=>((k.on S1 X1).on S2 X2).tup S2 (zic r) hl⟩
     | _=>cases e
   | _=>cases e
end
def zfw:typeLookup (.type "tuple") "keys"=pure none:=by rw[Eg,C9];kernel_rfl
structure Fill(prog:Program)(w:World)(A:Around)(D I:Addr)(n:Nat)(key val:Nat->Value)(T:Nat->Heap->Prop):Prop where
 keep:∀ i h h',T i h->(∀ b o,b≠I->h.get? b=some o->h'.get? b=some o)->T i h'
 step:∀ i (s:Shared) (Q:Unit->Shared->Prop) (E:Value->Shared->Prop),i < n->T i s.heap->(∀ h' tk,T (i+1) h'->B7 D s.heap h'->Q () { s with heap:=h',toks:=tk })->wpAny (model prog w) A (dictSet D (key i) (val i)) Q E s
variable {a I:Addr}{k:Nat}{xs:Array Value}{x:Sr}{v:Value}{its:List Value}{key val:Nat->Value}{T:Nat->Heap->Prop}{h h':Heap}
def ziL{Q:Option Value->Shared->Prop}{sl:Array (Option Value)}(hx:s.heap.get? a=some { cls:=.type "tuple",dict:=none,data:=.seq xs k,slots:=sl })(hA:A.handled=none)
   (h:∀ h' tk,(∀ b u,s.heap.get? b=some u->h'.get? b=some u)->Q none { s with heap:=h',toks:=tk }):wpAny (model prog w) A (getAttr? (.ref a) "keys") Q E s:=by
 obtain⟨hp,g,d,tk,os⟩:=s;have hT:∀ tk',(⟨hp,g,d,tk',os⟩:Shared).TypeIs (.ref a) "tuple":=fun _=>⟨_,hx,rfl⟩
 have f1:=Fo;have f3:=F.slot_tuple_getattribute.lookup;have f4:=F.slot_tuple_getattribute.bind<|.ref a;have f5:=am_tuple_getattr_none;unfold getAttr? getAttrBy? getAttrBy
 repeat (any_goals (first | assumption | exact hT _ | ((with_reducible show wpAny _ _ (call (Cg "tuple.__getattribute__") _ _) _ _ _);refine FW F.slot_tuple_getattribute (hT _) am_entry_tuple_getattribute (F.args_tuple_getattribute_2 _ _) (meets_getattribute_miss_tuple a xs k sl _ _ zfw<|by decide +kernel) ⟨hx,hA,fun h' tk' e hx'=>?_⟩) | wp_step))
 obtain⟨t',u',he⟩:=hx'.there;show wpAny _ _ (getattributeRaised _ _ _ _ _ _ _) _ _ _;unfold getattributeRaised
 repeat (any_goals (first | assumption | wp_step))
 exact h _ _ hx'.keeps
def Sr.nextN{R:Option Value->Shared->Prop}(hit:x.at_ s.heap it i)(h:x.is s.heap xs)(hx:xs[i]?=some v)(k:∀ h',x.at_ h' it (i+1)->B7 it s.heap h'->R (some v) { s with heap:=h' }) :
   wpAny (model prog w) A (pyNext<|.ref it) R E s:=by
 cases x with
 | l a=>exact CY hit h hx k
 | t a=>exact D9 (show s.heap.IsTupleIter it a i from hit) (show s.heap.IsTuple a xs from h) hx k
def Sr.stopN{R:Option Value->Shared->Prop}(hh:A.handled=none)(hit:x.at_ s.heap it i)(h:x.is s.heap xs)(hx:xs[i]?=none)(k:∀ h',Es it s.heap h'->R none { s with heap:=h' }) :
   wpAny (model prog w) A (pyNext<|.ref it) R E s:=by
 cases x with
 | l a=>exact C6 hh hit h hx k
 | t a=>exact Ej hh (show s.heap.IsTupleIter it a i from hit) (show s.heap.IsTuple a xs from h) hx k
def zs0{R:Result->Shared->Prop}{D:Addr}{h0:Heap}(F:Fill prog w A.in1 D I n key val T)(hh:A.in1.handled=none)(hl:its.length=n)(hDI:D≠I)(hxD:x.ad≠D)(hxI:x.ad≠I) :
   ∀ (k i:Nat) (s:Shared),n - i=k->i<=n->x.at_ s.heap I i->x.is s.heap its.toArray->T i s.heap ->
   (∀ (j:Nat) (v:Value),its[j]?=some v->∃ p,v=.ref p/\IsTup s.heap p #[key j,val j]/\p≠D/\p≠I)->(∀ b o,b≠D->b≠I->h0.get? b=some o->s.heap.get? b=some o) ->
   (∀ h' tk,T n h'->(∀ b o,b≠D->b≠I->h0.get? b=some o->h'.get? b=some o)->R (.ok<|.ret .none) { s with heap:=h',toks:=tk }) ->
   codeAny (model prog w) A (.builtin "dict.update.loop" ⟨[.ref D,.ref I,rawInt i,.none],[]⟩) R s:=by
 intro k
 induction k with
 | zero =>
   intro i s hk hi hit hlist hd hp h0k hR;have hin:i=n:=by omega
   subst hin;refine Dp zcz ?_;rw[Cr zbb _];show wpAny _ A.in1 (pyNext (.ref I) >>= _) _ _ s;refine Aa<|Sr.stopN hh hit hlist (by simp[hl]) fun h' hx=>?_;show wpAny _ A.in1 (D4 D [] >>= fun _=>ret .none) _ _ _;exact Aa<|Ae<|Ae<|hR h' s.toks (F.keep _ _ _ hd fun b o hb e=>hx b o hb e) fun b o h1 h2 e=>hx b o h2 (h0k b o h1 h2 e)
 | succ k ih =>
   intro i s hk hi hit hlist hd hp h0k hR;have hlt:i < n:=by omega
   have hlt':i < its.length:=by omega
   refine Dp zcz ?_;rw[Cr zbb _];show wpAny _ A.in1 (pyNext (.ref I) >>= _) _ _ s;have hv:its[i]?=some its[i]:=Ag hlt';refine Aa<|Sr.nextN (v:=its[i]) hit hlist (by simp[hlt']) fun h' hit' hx=>?_;obtain⟨p,ep,tp,nD,nI⟩:=hp i _ hv;have tp':IsTup h' p #[key i,val i]:=by obtain⟨o,g,c⟩:=tp;exact⟨o,hx.extBut p o nI g,c⟩
   have hd':T i h':=F.keep _ _ _ hd fun b o hb e=>hx.extBut b o hb e;rw[ep];refine Aa<|AY<|Aa<|wpAny_tryCatch<|zdT (s:={ s with heap:=h' }) tp' ?_;refine AY<|F.step i { s with heap:=h' } _ _ hlt hd' fun h2 tk2 hd2 hs2=>?_;have hI2:∀ b o,b≠D->h'.get? b=some o->h2.get? b=some o:=fun b o hb e=>hs2.extBut b o hb e;refine Ae ⟨C1 zbb _,?_⟩;refine ih (i+1) { s with heap:=h2,toks:=tk2 } (by omega) (by omega) ?_ ?_ hd2 (fun j v h1=>?_) (fun b o b1 b2 e=>hI2 b o b1 (hx.extBut b o b2<|h0k b o b1 b2 e)) fun h3 tk3 d3 k3=>hR h3 tk3 d3 k3
   . exact Sr.at_keep hit' fun u e=>hI2 I u (AZ hDI) e
   . exact Sr.is_keep (Sr.is_keep hlist fun u e=>hx.extBut _ u hxI e) fun u e=>hI2 _ u hxD e
   obtain⟨q,e,⟨o,g,c⟩,q1,q2⟩:=hp j v h1;exact⟨q,e,⟨o,hI2 q o q1<|hx.extBut q o q2 g,c⟩,q1,q2⟩
def Sr.pl(h:Heap)(xs:Array Value):Sr->Prop
 | .l a=>PlainL h a xs
 | .t a=>zcP h a xs
def Sr.pl_is(q:x.pl h xs):x.is h xs:=by
 cases x with
 | l a=>exact PlainL.isList q
 | t a=>exact zcP.t q
def Sr.pl_keep(q:x.pl h xs)(k:∀ b u,h.get? b=some u->h'.get? b=some u):x.pl h' xs:=by
 cases x with
 | l a=>exact PlainL.keeps q k
 | t a=>exact zcP.keeps q k
def zdt(hh:A.handled=none)(hpl:x.pl s.heap its.toArray)(hl:its.length=n)
   (hF:∀ I:Addr,s.heap.objs.size < I->Fill prog w A.in1.in1 s.heap.objs.size I n key val T) (h0:T 0 (s.heap.push { cls:=.type "dict",data:=.dict #[] }))
   (hp:∀ (j:Nat) (v:Value),its[j]?=some v->∃ p,v=.ref p/\IsTup s.heap p #[key j,val j])
   (h:∀ h' tk,T n h'->(∀ b o,s.heap.get? b=some o->h'.get? b=some o)->Q (.ref s.heap.objs.size) { s with heap:=h',toks:=tk }) :
   wpAny (model prog w) A (call (.type "dict") [.ref x.ad]) Q E s:=by
 refine callType_codes (Q₁:=fun obj s₁=>obj=.ref s.heap.objs.size/\s₁={ s with heap:=s.heap.push { cls:=.type "dict",data:=.dict #[] } }) F.kt_called_dict (F.kt_typeCall_dict_1 _) F.entry_dict_init (kt_code_dict_new _ ⟨rfl,rfl⟩) ?_;rintro obj s₁ ⟨rfl,rfl⟩;have hnt:Shared.TypeIs { s with heap:=s.heap.push { cls:=.type "dict",data:=.dict #[] } } (.ref s.heap.objs.size) "dict":=⟨_,Ap _ rfl,rfl⟩
 have k1:∀ b o,s.heap.get? b=some o->(s.heap.push { cls:=.type "dict",data:=.dict #[] }).get? b=some o:=fun b o e=>Ac _ e;have hpl1:=Sr.pl_keep hpl k1;have hlt:∀ b o,s.heap.get? b=some o->b < s.heap.objs.size:=fun b o e=>Ai e;have hll:x.ad < s.heap.objs.size:=by obtain⟨o,g⟩:=Sr.is_get<|Sr.pl_is hpl;exact hlt _ o g
 refine⟨hnt,F.args_dict_init_2 _ _,?_⟩;unfold Builtin.«dict.__init__»;refine Aa ?_;unfold D5;refine Aa<|Da hnt ?_;show wpAny _ _ (pure (s.heap.objs.size,[As x.ad])) _ _ _;refine Ae ?_;show wpAny _ _ (Cf "dict.__init__" s.heap.objs.size (.ref x.ad) [] .none) _ _ _;unfold Cf;have rest:∀ (h2:Heap) (tk2:Nat),(∀ b u,(s.heap.push { cls:=.type "dict",data:=.dict #[] }).get? b=some u->h2.get? b=some u) ->
     codeAny (model prog w) A.in1 (.builtin "dict.update.loop" ⟨[.ref s.heap.objs.size,.ref h2.objs.size,rawInt (0:Nat),.none],[]⟩) (wants (fun r s₂=>r=.none/\Q (.ref s.heap.objs.size) s₂) E) { s with heap:=h2.push x.ob,toks:=tk2 }:=by
   intro h2 tk2 k2;have hpl2:=Sr.pl_keep hpl1 k2;have hsz:s.heap.objs.size < h2.objs.size:=by obtain⟨o,ho,_⟩:=hnt;exact Ai<|k2 _ o ho
   have k3:∀ b o,h2.get? b=some o->(h2.push x.ob).get? b=some o:=fun b o e=>Ac _ e;have n1:s.heap.objs.size≠h2.objs.size:=Ar hsz;have n2:x.ad≠s.heap.objs.size:=Ar hll;have n3:x.ad≠h2.objs.size:=Ar<|BV hll hsz;have FF:=hF h2.objs.size hsz;refine zs0 (A:=A.in1) (h0:=s.heap) (x:=x) (its:=its) FF hh hl n1 n2 n3 n 0 { s with heap:=h2.push x.ob,toks:=tk2 } rfl (Bd _) ?_ (Sr.pl_is<|Sr.pl_keep hpl2 k3) ?_ (fun j v e1=>?_) (fun b o _ _ e=>k3 b o (k2 b o<|k1 b o e)) fun h' tk d' k'=>?_
   . exact Sr.at_new<|Ap _ (by cases x <;> rfl)
   . exact FF.keep _ _ _ h0 fun b o _ e=>k3 b o (k2 b o e)
   . obtain⟨p,e,⟨o,g,c⟩⟩:=hp j v e1;exact⟨p,e,⟨o,k3 p o<|k2 p o<|k1 p o g,c⟩,Ar<|hlt p o g,Ar<|BV (hlt p o g) hsz⟩
   exact⟨rfl,h h' tk d' fun b o e=>k' b o (Ar<|hlt b o e) (Ar<|BV (hlt b o e) hsz) e⟩
 cases x with
 | l a =>
   obtain⟨⟨cl,di,da,sl⟩,nn,g1,c1,c2,c3⟩:=id hpl1;simp only at c1 c2 c3;subst c1 c2 c3;refine Aa (B8 (show Shared.TypeIs { s with heap:=s.heap.push { cls:=.type "dict",data:=.dict #[] } } (.ref a) "list" from ⟨_,g1,rfl⟩) ?_);rw[if_pos (by decide)];refine Aa<|zgS g1 hh fun h2 tk2 k2=>?_;simp only[DE,if_true];refine Aa<|CM ?_;refine Aa<|Sr.iter (x:=.l a) (s:={ s with heap:=h2,toks:=tk2 }) (xs:=its.toArray) (Sr.pl_is (x:=.l a)<|Sr.pl_keep (x:=.l a) hpl1 k2) ?_;exact Ae ⟨C1 zbb _,rest h2 tk2 k2⟩
 | t a =>
   obtain⟨⟨cl,di,da,sl⟩,g1,c1,c2,nn,c3⟩:=id hpl1;simp only at c1 c2 c3;subst c1 c2 c3;refine Aa (B8 (show Shared.TypeIs { s with heap:=s.heap.push { cls:=.type "dict",data:=.dict #[] } } (.ref a) "tuple" from ⟨_,g1,rfl⟩) ?_);rw[if_pos (by decide)];refine Aa<|ziL g1 hh fun h2 tk2 k2=>?_;simp only[DE,if_true];refine Aa<|CM ?_;refine Aa<|Sr.iter (x:=.t a) (s:={ s with heap:=h2,toks:=tk2 }) (xs:=its.toArray) (Sr.pl_is (x:=.t a)<|Sr.pl_keep (x:=.t a) hpl1 k2) ?_;exact Ae ⟨C1 zbb _,rest h2 tk2 k2⟩
noncomputable abbrev TE3:=List Key×Addr×Value
def zih(acc xs:List TE3):List TE3:=xs.foldl (fun acc x=>storedH acc x.1 x.2.1 x.2.2) acc
def zhe{acc:List TE3}{k:List Key}{x:TE3}(h:x∈storedH acc k a v):(∃ y∈acc,y.1=x.1/\y.2.1=x.2.1)\/(x.1=k/\x.2.1=a):=by
 unfold storedH at h
 split at h
 . obtain⟨y,hy,e⟩:=List.mem_map.mp h;refine .inl ⟨y,hy,?_⟩;rw[<-e];unfold putAt
   split <;> exact⟨rfl,rfl⟩
 . rcases List.mem_append.mp h with h | h
   . exact .inl ⟨x,h,rfl,rfl⟩
   rw[List.mem_singleton.mp h];exact .inr ⟨rfl,rfl⟩
def zgD:∀ {xs acc:List TE3} {x:TE3},x∈zih acc xs->(∃ y∈acc,y.1=x.1/\y.2.1=x.2.1)\/∃ y∈xs,y.1=x.1/\y.2.1=x.2.1
 | [],acc,x,h=>.inl ⟨x,h,rfl,rfl⟩
 | z::zs,acc,x,h=>by
   rcases zgD (xs:=zs) (acc:=storedH acc z.1 z.2.1 z.2.2) h with ⟨y,hy,e1,e2⟩ | ⟨y,hy,e⟩
   . rcases zhe hy with ⟨u,hu,f1,f2⟩ | ⟨f1,f2⟩
     . exact .inl ⟨u,hu,f1.trans e1,f2.trans e2⟩
     exact .inr ⟨z,An,f1.symm.trans e1,f2.symm.trans e2⟩
   exact .inr ⟨y,Aj _ hy,e⟩
def zhf(acc:List TE3)(k:List Key)(a:Addr)(v:Value):(storedH acc k a v).length<=acc.length+1:=by
 unfold storedH
 split <;> simp
def zeM:∀ (xs acc:List TE3),(zih acc xs).length<=acc.length+xs.length
 | [],acc=>by show acc.length<=acc.length+0;omega
 | z::zs,acc=>by have h1:=zeM zs<|storedH acc z.1 z.2.1 z.2.2;have h2:=zhf acc z.1 z.2.1 z.2.2;show (zih (storedH acc z.1 z.2.1 z.2.2) zs).length<=_;rw[Az];omega
def zig{xs:List TE3}{x:TE3}(e:xs[i]?=some x):zih [] (xs.take<|i+1)=storedH (zih []<|xs.take i) x.1 x.2.1 x.2.2:=by rw[Cq,e];unfold zih;rw[FC];rfl
def kAt(xs:List TE3)(i:Nat):Value:=match xs[i]? with | some x=>.ref x.2.1 | none=>.none
def vAt(xs:List TE3)(i:Nat):Value:=match xs[i]? with | some x=>x.2.2 | none=>.none
def FT(prog:Program)(w:World)(D:Addr)(xs:List TE3)(i:Nat)(h:Heap):Prop :=
 h.DictOfH (tupleKind<|zaz prog w) D (zih []<|xs.take i)/\∀ x∈xs,(tupleKind<|zaz prog w).is h x.1 x.2.1
def zgh{k:List Key}{b:Addr}(q:(tupleKind<|zaz prog w).is h k b)(kk:∀ o,h.get? b=some o->h'.get? b=some o):(tupleKind<|zaz prog w).is h' k b:=by obtain⟨o,its,n,h1,r⟩:=q;exact⟨o,its,n,kk o h1,r⟩
def zs3{D:Addr}{xs:List TE3}(hu:A.units < cLine)(hDI:D≠I)(hI:∀ x∈xs,x.2.1≠I)(hD:∀ x∈xs,x.2.1≠D)(hz:xs.length<=sizeLine):Fill prog w A D I xs.length (kAt xs) (vAt xs) (FT prog w D xs) where
 keep:=by
   rintro i h h' ⟨⟨o,es,ep,ho,hc,hd,he,his,hn⟩,hk⟩ k;have all:∀ x∈xs,(tupleKind<|zaz prog w).is h' x.1 x.2.1:=fun x hx=>zgh (hk x hx) fun o e=>k _ o (hI x hx) e;refine⟨⟨o,es,ep,k _ o hDI ho,hc,hd,he,fun x hx=>?_,hn⟩,all⟩
   rcases zgD hx with ⟨y,hy,_⟩ | ⟨y,hy,e1,e2⟩
   . exact nomatch hy
   have:=all y<|ER hy;rw[e1,e2] at this;exact this
 step:=by
   rintro i s Q E hi ⟨hd,hk⟩ h;have e:xs[i]?=some xs[i]:=Ag hi;have ek:kAt xs i=.ref xs[i].2.1:=by unfold kAt;rw[e]
   have ev:vAt xs i=xs[i].2.2:=by unfold vAt;rw[e]
   rw[ek,ev];have hl:(zih []<|xs.take i).length<=sizeLine:=by have:=zeM (xs.take i) [];rw[Bp,Bf] at this;omega
   refine wpAny_dictSet_heap (hsz:=hl) hu (hk _<|Bq hi) hd fun h' hd' hs=>h h' _ ⟨?_,fun x hx=>?_⟩ hs
   . rw[zig e];exact hd'
   exact zgh (hk x hx) fun o g=>hs.extBut _ o (hD x hx) g
def zfs{κ:Type}[DecidableEq κ](kvs more:List (κ×V)):List (κ×V):=more.foldl (fun acc kv=>putK acc kv.1 kv.2) kvs
def zft(kvs more:List (List Key×D)):List (List Key×D):=more.foldl (fun acc kv=>putD acc kv.1 kv.2) kvs
def zrU:D->Option (List Key×D)
 | .tup [.tup ks,v]=>(keysOf ks).map fun q=>(q,v)
 | _=>none
def zf1:List D->Option (List<|List Key×D)
 | []=>some []
 | d::r=>(zrU d).bind fun t=>(zf1 r).map fun ts=>t::ts
def zmN:∀ {more:List (List Key×V)} {mx:List TE3} {kvs:List (List Key×V)} {xs:List TE3},KT H more mx->KT H kvs xs->KT H (zfs kvs more) (zih xs mx):=by
 intro more mx kvs xs r
 induction r generalizing kvs xs with
 | nil=>intro q;exact q
 | @cons p q ps qs h t ih =>
   intro r0;have e:KT H (putK kvs p.1 p.2) (storedH xs q.1 q.2.1 q.2.2):=by rw[<-h.1];exact KT.put r0 p.1 h.2.1 h.2.2
   exact ih e
def zko:∀ {more:List (List Key×V)} {mds:List (List Key×D)} {kvs:List (List Key×V)} {kds:List (List Key×D)},KR (List Key) K H io more mds->KR (List Key) K H io kvs kds->KR (List Key) K H io (zfs kvs more) (zft kds mds):=by
 intro more mds kvs kds r;unfold KR at r
 induction r generalizing kvs kds with
 | nil=>intro q;exact q
 | @cons p q ps qs h t ih =>
   intro r0;have e:KR (List Key) K H io (putK kvs p.1 p.2) (putD kds q.1 q.2):=by rw[<-h.1];exact KR.put r0 p.1 h.2
   exact ih e
def zlb(I:Inv X pins σ H s):∀ {ys:List V} {ds:List D} {kds:List (List Key×D)} {its:List Value},Reps X.K H io ys ds->zf1 ds=some kds->Vals ys its ->
   ∃ (kvV:List (List Key×V)) (xs:List TE3),KR (List Key) X.K H io kvV kds/\KT H kvV xs/\its.length=xs.length/\xs.length=kds.length/\∀ (j:Nat) (v:Value) (x:TE3),its[j]?=some v->xs[j]?=some x->∃ p,v=.ref p/\IsTup s.heap p #[.ref x.2.1,x.2.2]
 | _,[],kds,_,h,e,r=>by
   cases e
   cases (show _=[] from h)
   cases r;exact⟨[],[],.nil,.nil,rfl,rfl,fun j v kv h=>by simp at h⟩
 | _,d::ds,kds,_,h,e,r=>by
   obtain⟨y,ys,rfl,h1,h2⟩:=h;obtain⟨t,e1,e⟩:=zaf e;obtain⟨ts,e2,e⟩:=zai e;subst e
   cases r with
   | @cons _ u _ us ru rus =>
     obtain⟨kvV,xs,a1,a2,a3,a4,a5⟩:=zlb I h2 e2 rus;unfold zrU at e1
     split at e1
     . rename_i ks v;obtain⟨q,eq1,e1⟩:=zai e1;subst e1;obtain⟨p,vs,rfl,hp,rs⟩:=h1;obtain⟨v1,w1,rfl,q1,rs⟩:=rs;obtain⟨v2,w2,rfl,q2,rs⟩:=rs
       cases (show w2=[] from rs)
       obtain⟨b,zs,rfl,hb,rz⟩:=q1;have ek:=zck rz eq1;subst ek;cases ru;obtain⟨ia,va,ht,_⟩:=I.tuple<|SqT.of (K:=X.K) hp
       cases va with
       | cons r1 t1 =>
         cases t1 with
         | cons r2 t2 =>
           cases t2;rename_i u1 u2
           cases (show u1=As b from r1)
           refine⟨(q,v2)::kvV,(q,b,u2)::xs,.cons ⟨rfl,q2⟩ a1,.cons ⟨rfl,hb,r2⟩ a2,by rw[Az,Az,a3],by rw[Az,Az,a4],fun j v kv e1 e2=>?_⟩
           cases j with
           | zero =>
             cases e1;cases e2;exact⟨p,rfl,ht⟩
           | succ j=>exact a5 j v kv e1 e2
     . cases e1
def zsy(hr:Room k A):A.units+2 < cLine:=by have:=hr.un;omega
def zpt:GN
 | [.ref n],st=>(zbs st n).bind fun ds=>(zf1 ds).bind fun kds=>if fits kds.length=true then some (.ref st.length,st++[.dt (zft [] kds)]) else none
 | [.tup ds],st=>(zf1 ds).bind fun kds=>if fits kds.length=true then some (.ref st.length,st++[.dt (zft [] kds)]) else none
 | _,_=>none
def zi8{ys:List V}{ds:List D}{kds:List (List Key×D)}(I:Inv X pins σ H s)(hh:A.handled=none)(hu:A.units+2 < cLine)(pl:x.pl s.heap its.toArray)(rv:Vals ys its)(r1:Reps X.K H io ys ds)(e1:zf1 ds=some kds)(hf:kds.length<=sizeLine)
   (h:∀ s' kvV,Inv X pins σ (upd H s.heap.objs.size<|.dT<|zfs [] kvV) s'->KR (List Key) X.K H io kvV kds->Q (.ref s.heap.objs.size) s'):wpAny (model X.prog X.w) A (call (.type "dict") [.ref x.ad]) Q E s:=by
 obtain⟨kvV,xs,a1,a2,a3,a4,a5⟩:=zlb I r1 e1 rv;have hz:xs.length<=sizeLine:=by rw[a4];exact hf
 have hkey:∀ y∈xs,(tupleKind<|zaz X.prog X.w).is s.heap y.1 y.2.1:=by
   clear a5 a4 a3 hz a1
   induction a2 with
   | nil=>intro y hy;exact nomatch hy
   | @cons p q ps qs hq t ih =>
     intro y hy
     rcases List.mem_cons.mp hy with e | hy
     . subst e;exact zgg I.hok (by rw[<-hq.1];exact hq.2.1)
     exact ih y hy
 have hlt:∀ y∈xs,y.2.1 < s.heap.objs.size:=fun y hy=>by obtain⟨o,_,_,g,_⟩:=hkey y hy;exact Ai g
 refine zdt (T:=FT X.prog X.w s.heap.objs.size xs) (key:=kAt xs) (val:=vAt xs) hh pl a3 (fun i hi=>zs3 hu (Ar hi) (fun y hy=>Ar (BV (hlt y hy) hi)) (fun y hy=>Ar (hlt y hy)) hz) ⟨Heap.DictOfH.new s.heap,fun y hy=>zgh (hkey y hy) fun o g=>Ac _ g⟩ (fun j v e=>?_) fun h' tk d' kk=>?_
 . have hj:j < xs.length:=by
     rw[<-a3];exact (List.getElem?_eq_some_iff.mp e).1
   have ex:xs[j]?=some xs[j]:=Ag hj;obtain⟨p,ep,tp⟩:=a5 j v _ e ex;refine⟨p,ep,?_⟩;unfold kAt vAt;rw[ex];exact tp
 . have hlV:kvV.length=xs.length:=Br a2;obtain⟨⟨o,es,ep,ho,hc,hdd,he,his,hn⟩,_⟩:=d';rw[BQ] at he his hn;have km:KT H (zfs [] kvV) (zih [] xs):=zmN a2 .nil;have hm:(zfs [] kvV).length<=sizeLine:=by
     have:=zeM xs [];rw[Br km];rw[Bf] at this;omega
   have hd:(s.heap.objs.size==sysModules)=false:=beq_eq_false_iff_ne.mpr<|AZ<|Ar I.big;refine h _ kvV (I.laid (a:=s.heap.objs.size) (o:=.dT (zfs [] kvV)) (t':=tk) kk (Ah _) ⟨hm,hd,zih [] xs,?_,o,es,ep,ho,hc,hdd,he,hn⟩) a1;exact KT.keeps km fun b ys e=>by rw[zan (zaq e<|I.hok.fresh<|Ah _)];exact e
def zhv(hc:X.calm=true)(hu:X.A.units+2 < cLine):zdF X (.type "dict") zpt:=by
 rintro pins s σ H xs us Q I r ⟨ds,st,io,d,st',R,S,e,k⟩;have fin:∀ (kds:List (List Key×D)),(d,st')=(D.ref st.length,st++[O.dt (zft [] kds)])->∀ s' kvV,Inv X pins σ (upd H s.heap.objs.size<|.dT<|zfs [] kvV) s'->KR (List Key) X.K H io kvV kds->∃ v H',Inv X pins σ H' s'/\RelV v (.ref s.heap.objs.size)/\Q v H':=fun kds ed s' kvV I' a1=>by
   cases ed;obtain⟨E',S'⟩:=ziy (o:=.dT (zfs [] kvV)) (ob:=.dt (zft [] kds)) S (I.hok.fresh<|Ah _) fun H' T e=>⟨_,e,zko (KR.mono T a1) .nil⟩
   exact⟨.ref s.heap.objs.size,_,I',rfl,k _ _ [s.heap.objs.size] E' S' ⟨s.heap.objs.size,rfl,by rw[<-S.len];exact getElem?_len io _⟩⟩
 unfold zpt at e
 split at e
 . rename_i n;obtain⟨zs,e0,e⟩:=zaf e;obtain⟨kds,e1,e⟩:=zaf e;obtain⟨hf,e⟩:=zat e;obtain⟨v,rfl,p,rfl,hp⟩:=R.one;obtain⟨u,rfl,ru⟩:=r.one;cases ru;obtain⟨ys,hx,r1⟩:=za7 S hp e0;obtain⟨its,rv,pl,hz⟩:=I.list hx;exact zi8 (x:=.l p) I (I.ok.hd hc) hu pl rv r1 e1 (of_decide_eq_true hf)<|fin kds (by cases e;rfl)
 . rename_i zs;obtain⟨kds,e1,e⟩:=zaf e;obtain⟨hf,e⟩:=zat e;obtain⟨v,rfl,p,ys,rfl,hp,r1⟩:=R.one;obtain⟨u,rfl,ru⟩:=r.one;cases ru;obtain⟨hz,its,rv,pl⟩:=(show zdu X.prog X.w H s.heap p (.tup ys) from I.hok p _ hp)
   exact zi8 (x:=.t p) I (I.ok.hd hc) hu pl rv r1 e1 (of_decide_eq_true hf)<|fin kds (by cases e;rfl)
 . cases e
def zeh(hr:Room k A):A.units+110 < cLine:=by have:=hr.un;omega
def mulB:G2:=intD (fun i j=>decide (AV i<=2 ^ 20)&&decide (AV j<=2 ^ 20)) fun i j=>.int<|i*j
def zfn:OpM X (binaryOp .Mult) mulB:=zek (C:=fun i j=>AV i<=2 ^ 20/\AV j<=2 ^ 20) (opI fun i j _ _ _ _ _ hc q=>PyProof.Rows.mul_int q (IntMulOk.of_bits hc.1 hc.2)) fun i j h=>by rw[Am] at h;exact⟨of_decide_eq_true h.1,of_decide_eq_true h.2⟩
def neS:G2
 | .str x,.str y,st=>some (.bl (x != y),st)
 | _,_,_=>none
def zmD:OpM X (compareOp .NotEq) neS:=by
 rintro pins s σ H x y v u Q I rx ry ⟨dx,dy,st,io,d,st',Rx,Ry,S,e,k⟩;unfold neS at e
 split at e
 . cases e
   cases (show x=_ from Rx)
   cases (show y=_ from Ry)
   obtain⟨t,rfl⟩:=rx;obtain⟨t',rfl⟩:=ry;exact PyProof.Rows.ne_str ⟨.bl _,H,I,rfl,k.now S rfl⟩
 . cases e
def FK(prog:Program)(w:World)(D:Addr)(kvs:List (Key×Value))(i:Nat)(h:Heap):Prop:=h.DictOf (zaz prog w) D<|merged []<|kvs.take i
def xAt(xs:List Value)(i:Nat):Value:=match xs[i]? with | some x=>x | none=>.none
def wAt(xs:List (Key×Value))(i:Nat):Value:=match xs[i]? with | some x=>x.2 | none=>.none
def zs4{D:Addr}{kvs:List (Key×Value)}{kxs:List Value}(hDI:D≠I)(hz:kvs.length<=sizeLine)(hk:∀ (j:Nat) (kv:Key×Value),kvs[j]?=some kv->(zaz prog w).is kv.1 (xAt kxs j)=true):Fill prog w A D I kvs.length (xAt kxs) (wAt kvs) (FK prog w D kvs) where
 keep:=fun i h h' ⟨o,es,ep,ho,r⟩ k=>⟨o,es,ep,k D o hDI ho,r⟩
 step:=fun i s Q E hi hd h=>by
   have e:kvs[i]?=some kvs[i]:=Ag hi;have ev:wAt kvs i=kvs[i].2:=by unfold wAt;rw[e]
   rw[ev];have hl:(merged []<|kvs.take i).length<=sizeLine:=by have:=zdW (kvs.take i) [];rw[Bp,Bf] at this;omega
   refine EY (hk i _ e) hd (fun h' hd' hs=>h h' _ ?_ hs) hl;have e1:stored (merged []<|kvs.take i) kvs[i].1 kvs[i].2=merged [] (kvs.take<|i+1):=(merged_take_succ [] kvs i _ e).symm;unfold FK;rw[<-e1];exact hd'
def zgF{h:Heap}:∀ {its:List Value} {kvs:List (Key×Value)},its.length=kvs.length->(∀ (j:Nat) (v:Value) (kv:Key×Value),its[j]?=some v->kvs[j]?=some kv->zfO prog w h v kv) ->
   ∃ kxs:List Value,∀ (j:Nat) (v:Value) (kv:Key×Value),its[j]?=some v->kvs[j]?=some kv->∃ p,v=.ref p/\IsTup h p #[xAt kxs j,kv.2]/\(zaz prog w).is kv.1 (xAt kxs j)=true
 | [],kvs,_,_=>⟨[],fun j v kv e=>by simp at e⟩
 | v::its,[],e,_=>by cases e
 | v::its,kv::kvs,e,hp=>by
   obtain⟨kxs,hk⟩:=zgF (its:=its) (kvs:=kvs) (by simpa using e) fun j u q e1 e2=>hp (j+1) u q e1 e2;obtain⟨p,kx,e1,e2,e3⟩:=hp 0 v kv rfl rfl;refine⟨kx::kxs,fun j u q f1 f2=>?_⟩
   cases j with
   | zero =>
     cases f1;cases f2;exact⟨p,e1,e2,e3⟩
   | succ j=>exact hk j u q f1 f2
def zpR:GN
 | [.tup ds],st=>(znG ds).bind fun kds=>if fits kds.length=true then some (.ref st.length,st++[.dk (zfu [] kds)]) else none
 | _,_=>none
def zhw(hc:X.calm=true):zdF X (.type "dict") zpR:=by
 rintro pins s σ H xs us Q I r ⟨ds,st,io,d,st',R,S,e,k⟩;unfold zpR at e
 split at e
 . rename_i zs;obtain⟨kds,e1,e⟩:=zaf e;obtain⟨hf,e⟩:=zat e;cases e;obtain⟨v,rfl,p,ys,rfl,hp,r1⟩:=R.one;obtain⟨u,rfl,ru⟩:=r.one;cases ru;obtain⟨hz,its,rv,pl⟩:=(show zdu X.prog X.w H s.heap p (.tup ys) from I.hok p _ hp)
   obtain⟨kvV,kvs,a1,a2,a3,a4,a5⟩:=zmq I r1 e1 rv;have hzk:kvs.length<=sizeLine:=by rw[a4];exact of_decide_eq_true hf
   obtain⟨kxs,hk⟩:=zgF a3 a5;have hkk:∀ (j:Nat) (kv:Key×Value),kvs[j]?=some kv->(zaz X.prog X.w).is kv.1 (xAt kxs j)=true:=fun j kv e=>by
     have hj:j < its.length:=by rw[a3];exact (List.getElem?_eq_some_iff.mp e).1
     obtain⟨_,_,_,q⟩:=hk j _ kv (Ag hj) e;exact q
   refine zdt (x:=.t p) (T:=FK X.prog X.w s.heap.objs.size kvs) (key:=xAt kxs) (val:=wAt kvs) (I.ok.hd hc) pl a3 (fun i hi=>zs4 (Ar hi) hzk hkk) (Gb s.heap) (fun j v e=>?_) fun h' tk d' kk=>?_
   . have hj:j < kvs.length:=by
       rw[<-a3];exact (List.getElem?_eq_some_iff.mp e).1
     have ex:kvs[j]?=some kvs[j]:=Ag hj;obtain⟨p',ep,tp,_⟩:=hk j v _ e ex;refine⟨p',ep,?_⟩;unfold wAt;rw[ex];exact tp
   . have d':h'.DictOf (zaz X.prog X.w) s.heap.objs.size (merged [] kvs):=by
       have:FK X.prog X.w s.heap.objs.size kvs kvs.length h':=d';unfold FK at this
       rwa [BQ] at this
     have hlV:kvV.length=kvs.length:=Br a2;have hm:(zed [] kvV).length<=sizeLine:=by have:=zcj kvV [];rw[Bf] at this;omega
     have hd:(s.heap.objs.size==sysModules)=false:=beq_eq_false_iff_ne.mpr<|AZ<|Ar I.big;refine⟨.ref s.heap.objs.size,_,I.laid (a:=s.heap.objs.size) (o:=.dK (zed [] kvV)) (t':=tk) kk (Ah _)<|znl hm hd (a2.merge .nil) d',rfl,?_⟩;obtain⟨E',S'⟩:=ziy (o:=.dK (zed [] kvV)) (ob:=.dk (zfu [] kds)) S (I.hok.fresh<|Ah _) fun H' T e=>⟨_,e,ziB (KR.mono T a1) .nil⟩
     exact k _ _ [s.heap.objs.size] E' S' ⟨s.heap.objs.size,rfl,by rw[<-S.len];exact getElem?_len io _⟩
 . cases e
def zpu:GN:=orN zpS zpR
def zex(hc:X.calm=true):zdF X (.type "dict") zpu:=ze8 (zji hc)<|zhw hc
end L2.MP
namespace L2.MP
variable {prog:Program}{w:World}{A:Around}{E:Value->Shared->Prop}{s:Shared}
section
open PySem PySem.Spec PyProof.Rows PySem.Builtin PySem.Builtin.Str
variable {z y:Str} {t u:Tok} {Q:Value->Shared->Prop}
end
variable {X:Cx}{K:Ab}{H:Hp}{io:List Addr}{st st':Sto}{a b c e:Expr}{es:List Expr}{ma mb mc m:ME}{mm:MA}{pos:Pos}
section
open PySem PySem.Spec PyProof.Rows
end
open PySem
variable {ρ:Rho}
theorem znA{c:MT}{n:ME}:mIte c m n ρ st=(c ρ st).bind fun p=>if p.1=true then m ρ p.2 else n ρ p.2:=rfl
variable {W:Wk}{g:MG}{ρ1:Rho}{s1 s2:Sto}
def zo4{m:MS}{d r:D}{ds:List D}(wk:walked W st=true)(e1:g d ρ st=some (ρ1,s1))(e2:m ρ1 s1=some (.rt r,s2)):zee W g m (d::ds) ρ st=some (.rt r,s2):=by unfold zee;rw[if_pos wk,e1];simp only[Ad,e2]
def zo5{m:MS}{d:D}{ds:List D}{ρ2:Rho}(wk:walked W st=true)(e1:g d ρ st=some (ρ1,s1))(e2:m ρ1 s1=some (.nx ρ2,s2)):zee W g m (d::ds) ρ st=zee W g m ds ρ2 s2:=by
 conv=>lhs;unfold zee
 rw[if_pos wk,e1];simp only[Ad,e2]
open PySem.Spec PyProof.Rows
@[irreducible] def JSs (X:Cx) (s:List Stmt) (m:MS):Prop:=SSs X s m
@[irreducible] def JS (X:Cx) (s:Stmt) (m:MS):Prop:=SS X s m
@[irreducible] def JA (X:Cx) (es:List Expr) (m:MA):Prop:=SA X es m
variable {body:List Stmt}{ms:MS}
section
variable {st1 st2:Stmt} {rest orelse:List Stmt} {mt mu:MT} {mq mr:MS} {mg:MG} {mi:MI}
def JSs.out(h:JSs X body ms):SSs X body ms:=by unfold JSs at h;exact h
def JSs.mk(h:SSs X body ms):JSs X body ms:=by unfold JSs;exact h
def JS.out(h:JS X st1 ms):SS X st1 ms:=by unfold JS at h;exact h
def JS.mk(h:SS X st1 ms):JS X st1 ms:=by unfold JS;exact h
def JA.out(h:JA X es mm):SA X es mm:=by unfold JA at h;exact h
def JA.mk(h:SA X es mm):JA X es mm:=by unfold JA;exact h
def zbu:JSs X [] zdr:=.mk zk2
def zao(h:JS X st1 ms):JSs X [st1] ms:=.mk<|zn1 h.out
def zah(h:JS X st1 ms)(h2:JSs X rest mq):JSs X (st1::rest) (mS ms mq):=.mk<|zlX h.out h2.out
def zfb(hc:SB X c mt)(h1:JSs X body ms)(h2:JSs X orelse mq):JS X (.If c body orelse pos) (mIf mt ms mq):=.mk<|zsq hc h1.out h2.out
def zdD{tg iter:Expr}(hp:PassesOwn (model X.prog X.w) X.A X.env X.xe)(hc:X.calm=true)(hi:SI X tg iter mi)(hg:SG X tg mg)(hb:JSs X body ms)(hs:∀ x,foldedSetIterable iter X.env x=pure x:=by intro _;rfl):JS X (.For tg iter body [] pos) (mF mi mg ms):=.mk<|zqd hp hc hi hg hb.out hs
def zb4:JA X [] mZ:=.mk zag
def zaj(ha:SE X e m)(hr:JA X es mm)(hs:∀ q,starEach (e::q) X.env=(false,eval e X.env)::starEach q X.env:=by intro _;rfl):JA X (e::es) (zac m mm):=.mk<|zaa ha hr.out<|hs _
end
def isBD:G2:=orG isND fun x y st=>match x,y with
 | .bl a,.bl b=>some (.bl (a==b),st)
 | _,_=>none
def zlh:OpM X (compareOp .Is) isBD:=zkc zoL (by
 rintro pins s σ H x y v u Q I rx ry ⟨dx,dy,st,io,d,st',Rx,Ry,S,e,k⟩
 (try dsimp only at e)
 split at e
 . cases e
   cases (show x=_ from Rx)
   cases (show y=_ from Ry)
   cases rx;cases ry;exact PyProof.Rows.is_bool ⟨.bl _,H,I,rfl,k.now S rfl⟩
 . cases e)
structure Kl(H H':Hp):Prop where
 tup:∀ a xs,H a=some (.tup xs)->H' a=some (.tup xs)
 frz:∀ a o u,H a=some (.frz o u)->(∀ ps,u≠.dT ps)->H' a=some (.frz o u)
variable {xs:List V}{K0:Ab}{G0 G1:Hp}{i0:List Addr}
section
variable {H':Hp}
def SqF.kl{a:Addr}(T:Kl H H')(h:SqF K H a xs):SqF K H' a xs:=by
 rcases h with ⟨o,h⟩ | h
 . exact .inl ⟨o,T.frz _ _ _ h<|by simp⟩
 exact .inr h
mutual
theorem Rep.thawn{K0:Ab}{G0 G1:Hp}{i0:List Addr}(T:Kl G0 G1):∀ {v:V} {d:D},Rep K0 G0 i0 v d->Rep K0 G1 i0 v d
 | _,.non,h=>h
 | _,.bl _,h=>h
 | _,.int _,h=>h
 | _,.str _,h=>h
 | _,.tup ds,h=>by obtain⟨a,xs,e,q,r⟩:=h;exact⟨a,xs,e,T.tup a xs q,Reps.thawn T r⟩
 | _,.ref n,h=>h
 | _,.kl ds,h=>by obtain⟨a,xs,e,q,r⟩:=h;exact⟨a,xs,e,q.kl T,Reps.thawn T r⟩
 | _,.fn _,h=>h
 | _,.er _ _ _,h=>⟨h.1,h.2.kp T.frz⟩
theorem Reps.thawn{K0:Ab}{G0 G1:Hp}{i0:List Addr}(T:Kl G0 G1):∀ {xs:List V} {ds:List D},Reps K0 G0 i0 xs ds->Reps K0 G1 i0 xs ds
 | _,[],h=>h
 | _,d::ds,h=>by obtain⟨y,ys,e,r,rs⟩:=h;exact⟨y,ys,e,Rep.thawn T r,Reps.thawn T rs⟩
end
def KR.thawn{κ:Type}{ps:List (κ×V)}{kvs:List (κ×D)}(T:Kl H H')(h:KR κ K H io ps kvs):KR κ K H' io ps kvs:=Paired.mapP h fun _ _ z=>⟨z.1,Rep.thawn T z.2⟩
def OR.thawn{a:Addr}{o:O}(T:Kl H H')(e:H' a=H a)(h:OR K H io a o):OR K H' io a o:=by
 cases o with
 | lst ds=>obtain⟨xs,q,r⟩:=h;exact⟨xs,e.trans q,Reps.thawn T r⟩
 | fz ds=>obtain⟨ob,xs,q,r⟩:=h;exact⟨ob,xs,e.trans q,Reps.thawn T r⟩
 | dk kvs=>obtain⟨xs,q,r⟩:=h;exact⟨xs,e.trans q,KR.thawn T r⟩
 | dt kvs=>obtain⟨xs,q,r⟩:=h;exact⟨xs,e.trans q,KR.thawn T r⟩
 | fk kvs=>obtain⟨ob,xs,q,r⟩:=h;exact⟨ob,xs,e.trans q,KR.thawn T r⟩
 | ft kvs=>obtain⟨ob,xs,q,r⟩:=h;exact⟨ob,xs,e.trans q,KR.thawn T r⟩
 | ob C fs=>obtain⟨dx,xs,q,r⟩:=h;exact⟨dx,xs,e.trans q,KR.thawn T r⟩
 | sz n=>exact e.trans h
 | dz=>exact e.trans h
end
variable {ps:List (List Key×V)}{o:Obj}{pins:List (Addr×Obj)}
section
variable {σ:List (Option V)}
def Inv.thaw{d:Addr}{o:Obj}(I:Inv X pins σ H s)(hd:H d=some (.frz o<|.dT ps))(n0:∀ o u,X.H₀ d≠some (.frz o u)):Inv X pins σ (upd H d<|.dT ps) s:=by
 have ne:∀ {b:Addr} {v:HO},H b=some v->v≠.frz o (.dT ps)->b≠d:=fun {b v} q nv z=>by subst z;rw[hd] at q;exact nv (Aq q).symm
 have nn:∀ {b:Addr},H b=none->b≠d:=fun {b} q z=>by rw[z,hd] at q;cases q
 refine⟨I.ok,I.os,I.bare,⟨I.base.keep,I.base.slot,fun b v q n hx=>?_,I.base.there,fun b xs q=>?_,fun b v u q=>?_,fun b xs q=>?_⟩,I.loc,I.cell,?_,fun x c q=>?_,fun p hp=>?_,fun b v q=>?_,I.len⟩
 . have:=I.base.free b v q n hx;rw[zan (nn this)];exact this
 . have:=I.base.tups b xs q;rw[zan (ne this<|by simp)];exact this
 . have h:=I.base.frzs b v u q;have:b≠d:=fun z=>n0 v u (by rw[<-z];exact q);rw[zan this];exact h
 . obtain⟨m,h⟩:=I.base.tbls b xs q;exact⟨m,by rw[zan (ne h<|by simp)];exact h⟩
 . rw[zan (nn I.free)];exact I.free
 . rw[zan (nn<|I.freeC x c q)];exact I.freeC x c q
 . obtain⟨a,b,c⟩:=I.pin p hp;exact⟨a,by rw[zan (nn b)];exact b,c⟩
 . by_cases hb:b=d
   . subst hb;rw[zaC] at q;cases q;exact (I.hok b _ hd).2.stay (fun c x _ y=>y) (fun c y=>by rw[zan (ne y<|by simp)];exact y) fun c xs y=>by rw[zan (ne y<|by simp)];exact y
   rw[zan hb] at q;exact (I.hok b v q).stay (fun c x _ y=>y) (fun c y=>by rw[zan (ne y<|by simp)];exact y) fun c xs y=>by rw[zan (ne y<|by simp)];exact y
end
def zlS(n:Nat)(st0 st:Sto):Option Sto:=match st0[n]? with
 | some (.dt _)=>match st[n]? with
   | some (.ft kvs)=>some<|st.set n<|.dt kvs
   | _=>none
 | _=>none
def zo1(i:Nat)(m:ME):ME:=fun ρ st=>match ρ[i]? with
 | some (some<|.ref n)=>(m ρ st).bind fun (d,s)=>(zlS n st s).map fun t=>(d,t)
 | _=>none
variable {p:Addr}
section
variable {i:Nat}
def znU{H1:Hp}{ka:List Addr}{n:Nat}{ps0:List (List Key×V)}{kvs:List (List Key×D)}(S:StR K H io st)(X1:Ext io ka H H1)(S1:StR K H1 (io++ka) s1)
   (hn:io[n]?=some p) (h0:H p=some (.dT ps0)) (en:s1[n]?=some (.ft kvs)) (hp:H1 p=some (.frz o<|.dT ps)) (r:KR (List Key) K H1 (io++ka) ps kvs) :
   Kl H1 (upd H1 p<|.dT ps)/\Ext io ka H (upd H1 p<|.dT ps)/\StR K (upd H1 p<|.dT ps) (io++ka) (s1.set n<|.dt kvs):=by
 have ne:∀ {b:Addr} {v:HO},H1 b=some v->v≠.frz o (.dT ps)->b≠p:=fun {b v} q nv z=>by subst z;rw[hp] at q;exact nv (Aq q).symm
 have T:Kl H1 (upd H1 p<|.dT ps):=⟨fun a xs q=>by rw[zan (ne q<|by simp)];exact q,fun a v u q nu=>by rw[zan (ne q (fun z=>by cases z;exact nu ps rfl))];exact q⟩
 have hn':(io++ka)[n]?=some p:=by rw[Ao (List.getElem?_eq_some_iff.mp hn).1];exact hn
 refine⟨T,⟨fun b u h nb=>?_,X1.fresh,fun b v u h=>?_⟩,by rw[Bx];exact S1.len,S1.nd,fun k a ob h1 h2=>?_⟩
 . rw[zan (fun z=>nb (by rw[z];exact AF hn))];exact X1.keep b u h nb
 . have:b≠p:=fun z=>by
     rw[z,h0] at h;cases h
   rw[zan this];exact X1.frz b v u h
 . by_cases hk:k=n
   . subst hk;rw[hn'] at h1
     cases (Aq h1)
     rw[Co,if_pos rfl] at h2
     split at h2
     . cases (Aq h2)
       exact⟨ps,zaC,KR.thawn T r⟩
     . cases h2
   . rw[Ax (fun z=>hk z.symm)] at h2;have hap:a≠p:=fun z=>by
       subst z;exact hk<|(Fx (List.getElem?_eq_some_iff.mp h1).1 S1.nd).mp<|h1.trans hn'.symm
     exact OR.thawn T (zan hap)<|S1.ob k a ob h1 h2
def zoh(h:SE X e m):SE X e (zo1 i m):=by
 rintro pins s σ H Q I ⟨ρ,st,io,d,st',E,S,e0,k⟩;unfold zo1 at e0
 split at e0
 . rename_i n _;obtain⟨⟨d1,s1⟩,e1,e0⟩:=zaf e0;obtain⟨t,e2,e0⟩:=zai e0;cases e0;unfold zlS at e2
   split at e2
   . rename_i kvs0 en0
     split at e2
     . rename_i kvs en;cases e2;refine thn (h pins s σ H (fun v H'=>∃ ka,Ext io ka H H'/\StR X.K H' (io++ka) s1/\Rep X.K H' (io++ka) v d) I ⟨ρ,st,io,d,s1,E,S,e1,fun v1 H1 k1 X1 S1 R1=>⟨k1,X1,S1,R1⟩⟩) ?_;rintro v s2 ⟨x,H1,I1,r1,k1,X1,S1,R1⟩;have hl:n < io.length:=by rw[S.len];exact (List.getElem?_eq_some_iff.mp en0).1
       obtain⟨ps0,h0,_⟩:=S.ob n _ _ (Ag hl) en0;have hn':(io++k1)[n]?=some io[n]:=by rw[Ao hl];exact Ag hl
       obtain⟨o,ps,hp,r⟩:=S1.ob n _ _ hn' en;obtain⟨T,X2,S2⟩:=znU S X1 S1 (Ag hl) h0 en hp r;refine⟨x,_,Inv.thaw I1 hp fun o u z=>?_,r1,k _ _ _ X2 S2<|Rep.thawn T R1⟩;have:=I.base.frzs _ _ _ z;rw[h0] at this;cases this
     . cases e2
   . cases e2
 . cases e0
end
variable {vs:List Value}
def zgv{l:Addr}{R:Value->Shared->Prop}(ht:IsTup s.heap l vs.toArray)(hz:vs.length<=sizeLine)
   (go:∀ D h',(∀ b o,s.heap.get? b=some o->h'.get? b=some o)->s.heap.get? D=none->h'.get? D=some (seqObj "list" vs.toArray 0)->wpAny (model prog w) A.in1.in1 (Builtin.«list.sort» ⟨[.ref D],[]⟩) (fun f s'=>f=.done (.ret .none)/\R (.ref D) s') (fun _ _=>False) { s with heap:=h' }) :
   wpAny (model prog w) A (call (.builtin "sorted") [.ref l]) R E s:=by
 obtain⟨o,g,c,n,d⟩:=ht;refine DV kind_sorted plain_sorted entry_sorted (args_sorted1 _) ?_;unfold Builtin.«sorted»;refine Aa (m:=checkCount "sorted" 1 1 _) (Ae<|Aa<|PySem.wpAny_collect_seq l (.inr rfl) g c d (fun h1 k1=>Aa (DK ?_<|by simpa using hz))<|by simpa using hz);have g0:(h1.push<|seqObj "list" vs.toArray 0).get? h1.objs.size=some (seqObj "list" vs.toArray 0):=Ap _ rfl;have fr:s.heap.get? h1.objs.size=none:=by
   cases e:s.heap.get? h1.objs.size with
   | none=>rfl
   | some u=>exact absurd (Ai<|k1 _ _ e)<|AR _
 refine Aa<|AY<|A8 slot_list_sort ⟨_,g0,rfl⟩ entry_list_sort (AL (go _ _ (fun b u e=>Ac _ (k1 b u e)) fr g0) (fun f s' ⟨e,r⟩=>?_) fun _ _ x=>x.elim)<|args_list_sort _;subst e;exact⟨_,rfl,Ae ⟨_,rfl,r⟩⟩
def zl2{at_:Addr}{k:Nat}{R:PySem.Fin->Shared->Prop}(hv:vs.length < 2)(g0:s.heap.get? at_=some (seqObj "list" vs.toArray k))(fin:R (.done<|.ret .none) { s with heap:=sortedHeap s.heap at_ vs vs.toArray }) :
   wpAny (model prog w) A (Builtin.«list.sort» ⟨[.ref at_],[]⟩) R E s:=by
 have lt0:=Ai g0;have hz:vs.length<=sizeLine:=Aw (BJ hv) (by decide);obtain⟨ep,g1⟩:∃ ep,(s.heap.update at_<|BA fun _=>(#[]:Array Value)).get? at_=some (seqObj "list" #[] ep):=⟨_,get?_update_seq g0 fun _=>#[]⟩
 have g2:(((s.heap.update at_<|BA fun _=>(#[]:Array Value)).push<|seqObj "tuple" vs.toArray 0).push<|seqObj "list" #[] 0).get? at_=some (seqObj "list" #[] ep):=Ac _<|Ac _ g1;rw[list_sort_plain];refine Aa (listItems_at g0 rfl<|Aa<|DJ g0 rfl (Aa<|Er g1 rfl<|Aa<|EC (Aa<|DK<|AY ?_)<|by simpa using hz)<|by simpa using hz);show wpAny (model prog w) A _ R E { s with heap:=((s.heap.update at_<|BA fun _=>(#[]:Array Value)).push<|seqObj "tuple" vs.toArray 0).push (seqObj "list" #[] 0) };have two:vs.toArray.size < 2:=by simpa using hv
 have same:(arrOf<|GC general' (vs.toArray.zip vs.toArray) #[] 7 none).map (·.2)=vs.toArray:=by
   show ((vs.toArray.zip vs.toArray).map (·.2))=vs.toArray;simp;clear two g2 g1 g0 hz fin hv
   induction vs with
   | nil=>rfl
   | cons a r ih=>simpa using ih
 dsimp only;rw[if_pos two,if_pos two];refine Aa<|Ae ?_;rw[F7];refine Aa<|Ae ?_;dsimp only;rw[same];refine Aa<|Er g2 rfl<|Aa<|DJ g2 rfl ?_ (hsz2:=by simp;omega);simp only[bne_self_eq_false,By,if_false];exact Ae fin
variable {Q:VK}{its:List Value}{ts:List (List Int)}
section
variable {σ:L2.St}
def Inv.notL(I:Inv X pins σ H s){D:Addr}(h:s.heap.get? D=none):D≠X.env.locals/\X.base.get? D=none/\H D=none:=by
 refine⟨fun z=>?_,?_,?_⟩
 . obtain⟨m,⟨o,_,_,e,_⟩,_⟩:=I.loc;rw[<-z,h] at e;cases e
 . cases e:X.base.get? D with
   | none=>rfl
   | some u=>rw[(I.bs D u e).1] at h;cases h
 . cases e:H D with
   | none=>rfl
   | some o =>
     obtain⟨u,hu⟩:=zgH<|I.hok D o e;rw[h] at hu;cases hu
def zl1{D:Addr}{h':Heap}(I:Inv X pins σ H s)(rv:Vals xs its)(h2:xs.length < 2)(k:∀ b o,s.heap.get? b=some o->h'.get? b=some o)(hD:s.heap.get? D=none)(gD:h'.get? D=some (seqObj "list" its.toArray 0))(h:∀ p,H p=none->Q (.ref p) (upd H p<|.lst xs)) :
   wpAny (model X.prog X.w) X.A.in1.in1 (Builtin.«list.sort» ⟨[.ref D],[]⟩) (fun f s'=>f=.done (.ret .none)/\EP X pins σ Q (.ref D) s') (fun _ _=>False) { s with heap:=h' }:=by
 have hlen:=rv.length;have hz:xs.length<=sizeLine:=Aw (BJ h2) (by decide);refine zl2 (by omega) gD ⟨rfl,?_⟩;obtain⟨n1,n2,n3⟩:=Inv.notL I hD;obtain⟨ep,e⟩:=sortedHeap_at (out:=its.toArray) gD;have kk:∀ b u,s.heap.get? b=some u->(sortedHeap h' D its its.toArray).get? b=some u:=fun b u q=>by
   have hb:b≠D:=fun z=>by rw[z,hD] at q;cases q
   rw[sortedHeap_old hb (Ai<|k b u q)];exact k b u q
 have J:Inv X pins σ (upd H D<|.lst xs) { s with heap:=sortedHeap h' D its its.toArray }:=by obtain⟨m,F⟩:=I.fr;refine Inv.laidAt (m:=m) I (fun b u _=>kk b u) (fun m' ⟨o,a1,a2,q,a3⟩=>⟨o,a1,a2,kk _ _ q,a3⟩) (let ⟨m',⟨o,_,_,q,_⟩,_⟩:=I.loc;⟨o,kk _ _ q⟩) hD n3 n1 ⟨hz,its,ep,rv,e⟩
 exact⟨.ref D,_,J,rfl,h D n3⟩
def zl0{D:Addr}{h0:Heap}(I:Inv X pins σ H s)(rv:Vals xs its)(T:zhz H xs ts)(h2:2<=ts.length)(h64:ts.length < 64)(k0:∀ b o,s.heap.get? b=some o->h0.get? b=some o)(hsD:s.heap.get? D=none)(gD:h0.get? D=some (seqObj "list" its.toArray 0))
   (h:∀ (q:Array Nat) (p:Addr),q.Perm (BZ<|AC ts.length)->Srt.Up (rank ts) q ts.length->H p=none->Q (.ref p) (upd H p<|.lst<|q.toList.map fun i=>xs.getD i .non)) :
   wpAny (model X.prog X.w) X.A.in1.in1 (Builtin.«list.sort» ⟨[.ref D],[]⟩) (fun f s'=>f=.done (.ret .none)/\EP X pins σ Q (.ref D) s') (fun _ _=>False) { s with heap:=h0 }:=by
 have hlen:its.length=ts.length:=by have a:=rv.length;have b:=Br T;omega
 obtain⟨m,F⟩:=I.fr;have trkL:∀ b,H b≠none->b≠X.env.locals:=fun b hb z=>hb (by rw[z];exact I.free);obtain⟨n1,n2,hHD⟩:=Inv.notL I hsD;have nD:∀ p∈zd1 X.base s.heap X.env.locals,p.1≠D:=fun p hp z=>by have q:=(zf9 (g:=X.base) (h:=s.heap) (L:=X.env.locals) p hp).1;rw[z,hsD] at q;cases q
 refine PySem.W.kat_list_sort (s:={ s with heap:=h0 }) (news:=zd1 X.base s.heap X.env.locals) (F.kept k0) ((zf9 (g:=X.base) (h:=s.heap) (L:=X.env.locals)).grown k0) gD n1 n2 nD (by omega) (by omega) fun e1 h' F' N'=>?_;have keep:∀ {h2:Heap} {o:Obj},PyProof.Rows.Fr X.base X.env.locals h2 m->News X.base X.env.locals h2 ((D,o)::zd1 X.base s.heap X.env.locals)->∀ b u,b≠X.env.locals->s.heap.get? b=some u->h2.get? b=some u:=fun {h2 o} F2 N2 b u hb e=>by
   cases q:X.base.get? b with
   | some v =>
     have z:=(I.bs b v q).1;rw[e] at z;cases z;exact F2.keep b _ q
   | none=>exact (N2 (b,u)<|Aj _<|zde hb q e).1
 have hk:∀ b o,H b≠none->s.heap.get? b=some o->h'.get? b=some o:=fun b o hb e=>keep F' N' b o (trkL b hb) e;obtain⟨fs,k1,k2,k3⟩:=zgi (h':=h') I hk T rv;refine FQ (s:={ s with heap:=h' }) (T:=.type "int") k1 (by omega) (fun v hv=>?_) rfl ?_
 . obtain⟨i,t,rfl⟩:=k3 v hv;exact EA rfl
 have ok:=Srt.sort_ok (n:=its.length) (r:=rank ts) (by omega);refine zrn (n:=its.length) (r:=rank ts) (s:={ s with heap:=h' }) (fun i j hi hj C hC=>zpH (s':={ s with heap:=h' }) I hk T rv (by omega) (by omega) C hC) (fun q hq=>?_) ok;refine EN F' N' (Fz nD) fun h2 c F2 N2=>⟨rfl,?_⟩
 have hD2:=(N2 _ An).1;rw[hlen] at hq;have vals:Vals (q.toList.map fun i=>xs.getD i .non) (q.toList.map fun i=>its.getD i AD):=by
   have hmem:∀ i∈q.toList,i < xs.length:=fun i hi=>by have:i∈(BZ<|AC ts.length).toList:=(Array.perm_iff_toList_perm.mp hq.1).mem_iff.mp hi;have hr:=rv.length;simp at this;omega
   generalize q.toList=ql at hmem
   induction ql with
   | nil=>exact .nil
   | cons i r ih =>
     refine .cons ?_<|ih fun j hj=>hmem j (Aj _ hj);have hi:=hmem i An;obtain⟨u,eu,ru⟩:=rv.get<|Ag hi;show RelV (xs.getD i V.non) (its.getD i AD);rw[Au,Au,Ag hi,eu];exact ru
 have hql:q.toList.length=ts.length:=by have:=(Array.perm_iff_toList_perm.mp hq.1).length_eq;simpa using this
 have J:Inv X pins σ (upd H D<|.lst<|q.toList.map fun i=>xs.getD i .non) { s with heap:=h2 } :=
   Inv.laidAt (m:=m) I (keep F2 N2) (fun m' hm'=>by rw[zoP hm' F.ns];exact F2.ns) (let ⟨o,_,_,e,_⟩:=F2.ns;⟨o,e⟩) hsD hHD n1 ⟨by rw[Af,hql];exact lt64 h64,_,c,vals,hD2⟩
 exact⟨.ref D,_,J,rfl,h q D hq.1 hq.2 hHD⟩
end
def zhj{q:Array Nat}(S:StR K H io st)(r1:Reps K H io xs (ts.map tupD))(hq:q.Perm (BZ<|AC ts.length))(hu:Srt.Up (rank ts) q ts.length)(hf:H p=none)(k:Bh K io H (st++[.lst ((zhX ts).map tupD)]) (.ref st.length) Q):Q (.ref p) (upd H p<|.lst<|q.toList.map fun i=>xs.getD i .non):=by
 have hm:∀ i∈q.toList,i < ts.length:=fun i hi=>by have:=(Array.perm_iff_toList_perm.mp hq).mem_iff.mp hi;simpa using this
 have rr:=zeQ r1 hm;rw[zej hq hu] at rr;exact k.lst S rr hf
def zeJ:GN
 | [.tup ds],st=>if decide (ds.length < 2)=true then some (.ref st.length,st++[.lst ds]) else (rowsOf ds).bind fun ts=>if (decide (2<=ts.length)&&decide (ts.length < 64))=true then some (.ref st.length,st++[.lst ((zhX ts).map tupD)]) else none
 | _,_=>none
def zfH:zdF X (.builtin "sorted") zeJ:=by
 rintro pins s σ H xs us Q I r ⟨ds,st,io,d,st',R,S,e,k⟩;unfold zeJ at e
 split at e
 . rename_i zs;obtain⟨v,rfl,p,ys,rfl,hp,r1⟩:=R.one;obtain⟨u,rfl,ru⟩:=r.one;cases ru;have hx:SqT X.K H p ys:=.inl (.inl hp)
   split at e
   . rename_i hl;cases e;have e2:=r1.length;obtain⟨its,rv,pl,hz⟩:=I.tuple hx;exact zgv pl (by have:=rv.length;omega) fun D h' k0 hD gD=>zl1 I rv (by rw[e2];exact of_decide_eq_true hl) k0 hD gD fun q hf=>k.lst S r1 hf
   obtain⟨ts,e1,e⟩:=zaf e;obtain⟨hl,e⟩:=zat e;cases e;rw[Am] at hl;obtain⟨T,hd⟩:=zh8 r1 e1;subst hd;obtain⟨its,rv,pl,hz⟩:=I.tuple hx;refine zgv pl (by have:=rv.length;omega) fun D h' k0 hD gD=>zl0 I rv T (of_decide_eq_true hl.1) (of_decide_eq_true hl.2) k0 hD gD fun q p' hq hu hf=>zhj S r1 hq hu hf k
 . cases e
def zdm:GN:=orN zca zeJ
def zd0:zdF X (.builtin "sorted") zdm:=ze8 zcM zfH
def zpT:G2
 | .tup a,.tup b,st=>if (a.isEmpty&&fits b.length)=true then some (.tup b,st) else none
 | _,_,_=>none
def zmG:OpM X (binaryOp .Add) zpT:=by
 rintro pins s σ H x y v u Q I rx ry ⟨dx,dy,st,io,d,st',Rx,Ry,S,e,k⟩;unfold zpT at e
 split at e
 . rename_i i j;obtain⟨hf,e⟩:=zat e;cases e;rw[Am] at hf;obtain⟨p,xs,rfl,hp,r1⟩:=Rx;obtain⟨q,ys,rfl,hq,r2⟩:=id Ry;cases rx;cases ry;obtain⟨m,F⟩:=I.fr;obtain⟨its,w1,p1,_⟩:=I.tuple<|SqT.of hp;obtain⟨its2,w2,p2,_⟩:=I.tuple<|SqT.of hq;have e0:its=[]:=by
     have a:=r1.length;have b:=w1.length;have c:i=[]:=by simpa using hf.1
     rw[c] at a;exact Cm (by have a':xs.length=0:=a;omega)
   have hz:its2.length<=sizeLine:=by have a:=r2.length;have b:=w2.length;have c:=of_decide_eq_true hf.2;omega
   exact PyProof.Rows.add_tuples F (news:=[]) (fun p hp=>nomatch hp) p1 p2 (fun _=>⟨.ref q,H,I,rfl,k.now S Ry⟩) (fun z _=>absurd e0 z) (fun z _=>absurd e0 z) (by rw[e0];simpa using hz)
 . cases e
def addE:G2:=orG addD zpT
def zcc:OpM X (binaryOp .Add) addE:=zkc zau zmG
open PySem.SeqAt PySem.MeetsSeq PySem.MeetsSeq2 PySem.MeetsSeq3
def zfD{t sl:Addr}{items:Array Value}{vl vu:Value}{lo hi:Option Int}{Q:Value->Shared->Prop}(ht:IsTup s.heap t items)(hs:s.heap.IsSliceOf sl vl vu .none)(pl:IsPart vl lo)(pu:IsPart vu hi)
   (h0:HT.sIx items.size 0 lo=0) (h1:HT.sIx items.size items.size hi=items.size) (h:Q (.ref t) s):wpAny (model prog w) A (getItem (.ref t)<|.ref sl) Q E s:=by
 obtain⟨os,hos,hcs,hds⟩:=id hs;have hTs:s.TypeIs (.ref sl) "slice":=⟨os,hos,hcs⟩
 unfold getItem
 try with_reducible refine AY ?_
 first | refine Aa (Ae ?_) | skip
 refine Aa (DP ht.typeIs (by decide)<|Aa<|A2 (name:=BW "__getitem__") ht.typeIs Be<|A8 Be ht.typeIs Dr ?_<|DD _ _);show wpAny _ _ (Ct (.ref t) >>= _) _ _ s;refine Aa<|ET ht<|Aa<|B8 hTs ?_;rw[if_pos (by decide)];refine Aa<|HT.sliceApplied_gen hs pl pu ?_;rw[h0,h1];have yes:((((0:Nat):Int)==0&&(1:Int)==1&&(items.size - 0)==items.size)=true):=by simp
 show wpAny _ _ (if (((0:Nat):Int)==0&&(1:Int)==1&&(items.size - 0)==items.size)=true then _ else _) _ _ s;rw[if_pos yes];refine Aa (m:=Builtin.Tuple.tupleIsExact _)<|Aa<|B8 ht.typeIs<|Ae ?_;rw[if_pos (by decide)];exact Aa (m:=(pure (Fin.done<|Flow.ret<|As t):Sem Fin))<|Ae<|Ae ⟨_,rfl,Ae h⟩
def rSlW(K:Ab):V->Option Int->Option Int->Hp->VK->Prop:=fun x lo hi H Q=>∃ a xs,x=.ref a/\SqT K H a xs/\HT.sIx xs.length 0 lo=0/\HT.sIx xs.length xs.length hi=xs.length/\Q (.ref a) H
def zl4:SlR X (rSlW X.K):=by
 intro pins s σ H x v vl vu lo hi sl Q I rx hs pl pu h;obtain⟨a,xs,rfl,hx,h0,h1,q⟩:=h;cases rx;obtain⟨its,r,ht,hz⟩:=I.tuple hx;have hlen:its.toArray.size=xs.length:=by rw[AA];exact r.length.symm
 exact⟨"tuple",_,PyProof.Rows.slot_tuple_getitem.lookup,ht.typeIs,zfD ht hs pl pu (by rw[hlen];exact h0) (by rw[hlen];exact h1) ⟨.ref a,H,I,rfl,q⟩⟩
def slW:D->Option Int->Option Int->Sto->Option (D×Sto):=fun x lo hi st=>match x with
 | .tup ds=>if (decide (HT.sIx ds.length 0 lo=0)&&decide (HT.sIx ds.length ds.length hi=ds.length))=true then some (.tup ds,st) else none
 | _=>none
def slC:D->Option Int->Option Int->Sto->Option (D×Sto):=fun x lo hi st=>orO (slB x lo hi st)<|slW x lo hi st
def mSlC(m:ME)(l h:MO):ME:=fun ρ st=>(m ρ st).bind fun (x,s1)=>(l ρ s1).bind fun (lo,s2)=>(h ρ s2).bind fun (hi,s3)=>slC x lo hi s3
def zba{lo hi:Option Expr}{ml mh:MO}{p2:Pos}(he:SE X e m)(hl:SO X lo ml)(hu:SO X hi mh):SE X (.Subscript e (.Slice lo hi none p2) pos) (mSlC m ml mh):=by
 rintro pins s σ H Q I ⟨ρ,st,io,d,st',E,S,e0,k⟩;obtain⟨⟨x,s1⟩,e1,e0⟩:=zaf e0;obtain⟨⟨lo',s2⟩,e2,e0⟩:=zaf e0;obtain⟨⟨hi',s3⟩,e3,e0⟩:=zaf e0
 rcases zbU e0 with e0 | e0
 . exact zcy he hl hu pins s σ H Q I ⟨ρ,st,io,d,st',E,S,by simp only[mSlB,e1,e2,e3,Ad];exact e0,k⟩
 . refine zeR zl4 he hl hu pins s σ H Q I ?_;refine⟨ρ,st,io,x,s1,E,S,e1,fun v1 H1 k1 X1 S1 R1=>⟨ρ,s1,io++k1,lo',s2,E.ext S X1,S1,e2,fun H2 k2 X2 S2=>⟨ρ,s2,(io++k1)++k2,hi',s3,(E.ext S X1).ext S1 X2,S2,e3,fun H3 k3 X3 S3=>?_⟩⟩⟩;have R3:=(R1.ext S1 X2).ext S2 X3;have k':=((k.on S1 X1).on S2 X2).on S3 X3;unfold slW at e0
   split at e0
   . rename_i ds;obtain⟨hw,e0⟩:=zat e0;cases e0;rw[Am] at hw;obtain⟨p,xs,rfl,hp,r⟩:=id R3;exact⟨p,xs,rfl,SqT.of hp,by rw[r.length];exact of_decide_eq_true hw.1,by rw[r.length];exact of_decide_eq_true hw.2,k'.now S3 R3⟩
   . cases e0
end L2.MP
namespace L2.MP
open PySem L2 PySem.Spec PyProof.Rows
section
variable {K:Ab} {x:Str} {st:Stmt} {f:Addr}
structure FdIn(K:Ab)(x:Str)(st:Stmt)(f:Addr):Prop where
 ex:∃ (oc:Value) (od:Option Addr) (kV dc pm:Value) (an:Option Addr) (cd ct:Value) (sl:Array (Option Value)),K.lookup f=some ⟨oc,od,.func (BU x x (zcF st) (zbl st) (zar st) .none kV dc pm an cd ct),sl⟩/\CN K cd x=true
 ns:Fk K mainGlobals x=some (some (.ref f))
 kp:Bz K (.ref f)=true
def zs6{oc kV dc pm cd ct:Value}{od an:Option Addr}{sl:Array (Option Value)}(a:Fk K mainGlobals x=some (some<|.ref f))(l:K.lookup f=some ⟨oc,od,.func<|BU x x (zcF st) (zbl st) (zar st) .none kV dc pm an cd ct,sl⟩)(c:CN K cd x=true)(k:Bz K (.ref f)=true):FdIn K x st f :=
 ⟨⟨oc,od,kV,dc,pm,an,cd,ct,sl,l,c⟩,a,k⟩
end
variable {α:Type}
def len1{P:List α->Prop}(h:∀ a,P [a])(l:List α)(e:l.length=1):P l:=by
 rcases l with _ | ⟨a,_ | ⟨b,l⟩⟩
 . cases e
 . exact h a
 . cases e
def len2{P:List α->Prop}(h:∀ a b,P [a,b])(l:List α)(e:l.length=2):P l:=by
 rcases l with _ | ⟨a,l⟩
 . cases e
 exact len1 (P:=fun l=>P (a::l)) (h a) l<|D6 e
def len3{P:List α->Prop}(h:∀ a b c,P [a,b,c])(l:List α)(e:l.length=3):P l:=by
 rcases l with _ | ⟨a,l⟩
 . cases e
 exact len2 (P:=fun l=>P (a::l)) (h a) l<|D6 e
def len4{P:List α->Prop}(h:∀ a b c d,P [a,b,c,d])(l:List α)(e:l.length=4):P l:=by
 rcases l with _ | ⟨a,l⟩
 . cases e
 exact len3 (P:=fun l=>P (a::l)) (h a) l<|D6 e
def len5{P:List α->Prop}(h:∀ a b c d f,P [a,b,c,d,f])(l:List α)(e:l.length=5):P l:=by
 rcases l with _ | ⟨a,l⟩
 . cases e
 exact len4 (P:=fun l=>P (a::l)) (h a) l<|D6 e
end L2.MP
namespace L2.MP
open PySem PySem.Spec PyProof.Rows
section
variable {X:Cx} {K:Ab} {H:Hp} {io:List Addr} {st st':Sto} {o e value:Expr} {es:List Expr} {m mo mv:ME} {mm:MA} {pos pos' apos:Pos} {C:Addr} {f:Str}
def inClass(st:Stmt)(j:Nat):Stmt:=match st with
 | .ClassDef _ _ _ body _ _ _ _ _ _ _=>body.getD j<|.Pass ⟨0,0,0,0⟩
 | _=>.Pass ⟨0,0,0,0⟩
end
open L2
end L2.MP
namespace L2.MP
open PySem PySem.Spec PyProof.Rows
end L2.MP
namespace L2.MP
open PySem PySem.Spec
open PyProof.Rows
end L2.MP
namespace L2.MP
open PySem PySem.Spec
open PyProof.Rows
section
variable {X:Cx} {K:Ab} {H:Hp} {io:List Addr} {m:ME} {st st':Sto} {tg:Expr}
end
end L2.MP
namespace L2.MP
open PySem PySem.Spec
open PyProof.Rows
end L2.MP
namespace L2.MP.ST
open PySem PySem.SetTable
end L2.MP.ST
namespace L2.MP
open PySem PySem.Spec PyProof.Rows
end L2.MP
namespace L2.MP
open PySem PySem.Spec
open PyProof.Rows
variable {X:Cx} {pos:Pos}
end L2.MP
namespace L2.MP.ST
open PySem PySem.SetTable
end L2.MP.ST
namespace L2.MP
open PySem PySem.Spec PyProof.Rows
end L2.MP
namespace L2.MP
open PySem PySem.Spec
open PyProof.Rows
section
variable {X:Cx} {K:Ab} {H:Hp} {io:List Addr} {st st':Sto} {e:Expr} {es:List Expr} {m:ME} {mm:MA} {pos:Pos}
def zsw{x:Str}{p:Pos}{f:Addr}(hg:Gl X x)(hm:X.mg x=some (.ref f))(hn:FnA X.K x f)(hd:(x==("__debug__":Str))=false:=by decide):SE X (.Name x p) (mK<|.fn x) :=
 PE.imp (zoG hg hm (v:=.ref f) rfl hd) <| by
   rintro σ H Q ⟨ρ,st,io,d,st',E,S,e,k⟩
   cases e;exact k.now S ⟨f,rfl,hn⟩
end
end L2.MP
namespace L2.MP
open PySem PyProof.Rows
section
open PySem.SeqAt
open PySem.MeetsSeq PySem.MeetsSeq2 PySem.MeetsSeq3
end
open PySem.Spec
open PySem.SeqAt
end L2.MP
namespace L2.MP
open PySem PySem.Spec PyProof.Rows
section
variable {X:Cx} {K:Ab} {H:Hp} {io:List Addr} {st st':Sto} {pos:Pos} {a b:Expr}
def rowD:D->Option (List Key)
 | .tup es=>keysOf es
 | _=>none
end
end L2.MP
namespace L2.MP
open PySem
variable {prog:Program}{w:World}{A:Around}{E:Value->Shared->Prop}{hp:Heap}{gs:Array GenState}{dr:Drawn}{tk:Nat}{os:OsState}{nm ql:Str}{C N f:Addr}{bs bm sub xs:List Value}{b1 b2:Bool}{sn:List Str}{b3:Option Bool}{dd:Option Addr}{k0 k1 k2 k3 k5:Option Value}{B newId:String}{mN:Str->Option Value}{oF:Obj}
section
variable {bmB bmN:List Value} {Bn nid initId inN:String}
noncomputable abbrev rowO (xs:List Value):Obj:={ cls:=.type "tuple",data:=.seq xs.toArray }
noncomputable abbrev errO (C n:Addr):Obj:={ cls:=.ref C,data:=.fields #[.ref n,.none,.none,.none,.bool false,.none] }
def zfc(X1:ExcBaseFacts Bn newId inN bmN)(X2:bmB.contains (.type Bn)=true)(X3:ExcBaseFacts B nid initId bmB)(T:OwnTail hp bmB bm){Q:Fin->Shared->Prop}
   (at_:hp.get? C=some (excClassObj nm ql C N bs bm b1 sn sub b2 b3 dd k0 k1 k2 k3 k5 newId)) (ns:hp.Ns N mN) (own:mN "__init__"=some (.ref f)) (fat:hp.get? f=some oF) (fcl:oF.cls=.type "function")
   (k:∀ h' e,hp.objs.size<=e->Gh hp h' e (.ref C) xs->wpAny (model prog w) A (call (.ref f) (.ref e::xs)) (fun r s'=>r=.none/\Q (.done<|.ret<|.ref e) s') E ⟨h',gs,dr,tk,os⟩) (few:xs.length<=sizeLine) :
   wpAny (model prog w) A (Builtin.«type.__call__» ⟨.ref C::xs,[]⟩) Q E ⟨hp,gs,dr,tk,os⟩:=by
 repeat (first | with_reducible refine Bv at_ ?_ | with_reducible refine wpAny_madeBy_exc at_ ?_ | wp_step)
 refine codeAny_call_builtin_code (Fp _ X1.quiet)<|wpAny_check_new_subU X1 X2 T at_<|codeAny_exc_new_subU X1 X2 X3 T at_ ?_ few;show wpAny _ _ _ _ _ _;have up:∀ {b:Addr} {o:Obj},hp.get? b=some o->((hp.push<|rowO xs).push<|errO C hp.objs.size).get? b=some o:=fun e=>Ac _<|Ac _ e;have at1:=up at_;have f1:=up fat;have ns1:((hp.push<|rowO xs).push<|errO C hp.objs.size).Ns N mN:=by obtain⟨o,es,ep,e,r⟩:=ns;exact⟨o,es,ep,up e,r⟩
 have new:((hp.push<|rowO xs).push<|errO C hp.objs.size).get? (hp.objs.size+1)=some (errO C hp.objs.size):=by heap_get
 have self:(As C::bm).contains (.ref C)=true:=by simp
 have T1:=T.keeps (h':=(hp.push<|rowO xs).push (errO C hp.objs.size)) fun b o e=>up e;unfold isInstance
 repeat (first | with_reducible refine Bv new ?_ | (with_reducible refine Dv at1 ?_;rw[self]) | wp_step)
 show wpAny _ _ (typeLookup (.ref C) _) _ _ _;refine wpAny_typeLookup_tail at1 ns1 T1 X3.mroIs X3.init.lookup ?_;rw[own];refine AY<|Aa ?_;unfold bindSpecial;refine Aa (B8 (T:="function") ⟨_,f1,fcl⟩ ?_);rw[if_pos (by decide)];refine Ae<|Aa<|AL (k _ (hp.objs.size+1) (Ck _) ⟨fun b o e=>up e,De<|Ck _,hp.objs.size,new,De<|Ah _,Ac _<|FD rfl rfl⟩) (fun r s' z=>?_) fun _ _ z=>z;obtain⟨rfl,z⟩:=z
 wp_walk
 exact z
def zkU(X1:ExcBaseFacts Bn newId inN bmN)(X2:bmB.contains (.type Bn)=true)(X3:ExcBaseFacts B nid initId bmB)(T:OwnTail hp bmB bm){Q:Value->Shared->Prop}
   (at_:hp.get? C=some (excClassObj nm ql C N bs bm b1 sn sub b2 b3 dd k0 k1 k2 k3 k5 newId)) (ns:hp.Ns N mN) (own:mN "__init__"=some (.ref f)) (fat:hp.get? f=some oF) (fcl:oF.cls=.type "function")
   (k:∀ h' e,hp.objs.size<=e->Gh hp h' e (.ref C) xs->wpAny (model prog w) (A.under<|.builtin "type.__call__" ⟨.ref C::xs,[]⟩) (call (.ref f) (.ref e::xs)) (fun r s'=>r=.none/\Q (.ref e) s') E ⟨h',gs,dr,tk,os⟩) (few:xs.length<=sizeLine) :
   wpAny (model prog w) A (call (.ref C) xs) Q E ⟨hp,gs,dr,tk,os⟩:=by
 have z1:=tc_lookup;have z2:=tc_bind<|.ref C;have ty:(⟨hp,gs,dr,tk,os⟩:Shared).TypeIs (.ref C) "type":=⟨_,at_,rfl⟩
 refine DT<|codeAny_of_tree ?_;show wpAny _ _ (callAny (.ref C) _) _ _ _
 repeat (any_goals (first | assumption | with_reducible refine Bv at_ ?_ | wp_step))
 exact⟨rfl,codeAny_call_builtin_at (Fp _<|by decide +kernel) entry_typeCall<|wpAny_check_type_call_sub at_<|zfc X1 X2 X3 T at_ ns own fat fcl k few⟩
end
inductive OT (hp:Heap) (nn:List Str) (top:List Value):List Value->Prop
 | base:OT hp nn top top
 | own {a:Addr} {c0:Value} {dd:Option Addr} {cd:ClassData} {sl:Array (Option Value)} {mA:Str->Option Value} {tl:List Value}
     (at_:hp.get? a=some { cls:=c0,dict:=dd,data:=.cls cd,slots:=sl }) (ns:hp.Ns cd.ns mA) (no:∀ n∈nn,mA n=none) (more:OT hp nn top tl):OT hp nn top (.ref a::tl)
variable {nn:List Str}{tl:List Value}
section
variable {hp':Heap} {top:List Value}
def OT.tail(T:OT hp nn top tl)(h:("__init__":Str)∈nn):OwnTail hp top tl:=by
 induction T with
 | base=>exact .base
 | own at_ ns no _ ih=>exact .own at_ ns (no _ h) ih
def OT.has(T:OT hp nn top tl){z:String}{b:Bool}(h:top.contains (.type z)=b):tl.contains (.type z)=b:=by
 induction T with
 | base=>exact h
 | own _ _ _ _ ih=>rw[DF,ih];rfl
def OT.pass(T:OT hp nn top tl)(self:Value)(what:Str):refuseLoop self what tl=refuseLoop self what top:=by
 induction T with
 | base=>rfl
 | own _ _ _ _ ih=>rw[refuseLoop_ref,ih]
end
variable {Q:Unit->Shared->Prop}{M:Model}{x:Addr}{sa owner:String}{name:Str}{v:Value}{y:Option Value}{o:Obj}
section
variable {top:List Value}
def znC{Q:Option Value->Shared->Prop}(T:OT hp nn top tl)(hm:name∈nn)(e:lookupAlong top name=pure y)(k:Q y ⟨hp,gs,dr,tk,os⟩):wpAny M A (lookupAlong tl name) Q E ⟨hp,gs,dr,tk,os⟩:=by
 induction T with
 | base=>rw[e];exact Ae k
 | own at_ ns no _ ih =>
   rw[lookupAlong_cons];refine Aa<|wpAny_classOwn_cls at_ ns ?_;rw[no _ hm];exact ih
def zgO{Q:Option Value->Shared->Prop}(at_:hp.get? C=some (excClassObj nm ql C N bs bm b1 sn sub b2 b3 dd k0 k1 k2 k3 k5 newId))(ns:hp.Ns N mN)(T:OT hp nn top bm)(hm:name∈nn)(mro:mroOf (.type B)=pure top)
   (e:typeLookup (.type B) name=pure y) (no:mN name=none) (k:Q y ⟨hp,gs,dr,tk,os⟩):wpAny M A (typeLookup (.ref C) name) Q E ⟨hp,gs,dr,tk,os⟩:=by
 rw[typeLookup_eq,mro] at e;rw[typeLookup_eq];refine Aa<|wpAny_mroOf_exc at_ ?_;rw[lookupAlong_cons];refine Aa<|wpAny_classOwn_exc at_ ns ?_;rw[no];exact znC T hm e k
def znr{u:Value}(SF:StoreFacts B top sa owner)(T:OT hp nn top bm)(at_:hp.get? C=some (excClassObj nm ql C N bs bm true sn sub b2 b3 dd k0 k1 k2 k3 k5 newId))(hx:hp.get? x=some o)(hc:o.cls=.ref C)(k:Q () ⟨hp,gs,dr,tk,os⟩) :
   wpAny M A (checkBuiltinCall sa ⟨[.ref x,u,v],[]⟩) Q E ⟨hp,gs,dr,tk,os⟩:=by
 have own:(As C::bm).contains (.type owner)=true:=by rw[DF,T.has SF.hasOwner];simp
 have ok:=SF.args (.ref x) u v;simp only[checkBuiltinCall,SF.kind,SF.split];refine Aa ?_;unfold isInstance
 repeat (first | (with_reducible refine Bv hx ?_;rw[hc]) | (with_reducible refine Dv at_ ?_;rw[own]) | wp_step)
 cases sg:Manifest.signature? sa with
 | none=>exact Ae k
 | some g =>
   simp only[argsOk,sg] at ok;show wpAny M A (Bind.checkArgs sa g ⟨[.ref x,u,v],[]⟩) Q E _;rw[show Bind.checkArgs sa g ⟨[.ref x,u,v],[]⟩=pure () from ok];exact Ae k
end
section
variable {top:List Value}
open Builtin Builtin.ObjectAttr in
def zng{tok:Tok}{Q:Fin->Shared->Prop}(SF:StoreFacts B top sa owner)(T:OT hp nn top bm)(hm:name∈nn)(at_:hp.get? C=some (excClassObj nm ql C N bs bm true sn sub b2 b3 dd k0 k1 k2 k3 k5 newId))(ns:hp.Ns N mN)(no:mN name=none)
   (e:typeLookup (.type B) name=pure none) (hx:hp.get? x=some o) (hc:o.cls=.ref C) (hnc:∀ c,o.data≠.cls c) (hd:o.dict=none)
   (k:∀ h' tk',h'.get? x=some { o with dict:=some hp.objs.size }->h'.Ns1 hp.objs.size (fun y=>if y=name then some v else none)->(∀ b ob,b≠x->hp.get? b=some ob->h'.get? b=some ob)->Q (.done<|.ret .none) ⟨h',gs,dr,tk',os⟩) :
   wpAny (model prog w) A (Builtin.«object.__setattr__» ⟨[.ref x,.str name tok,v],[]⟩) Q E ⟨hp,gs,dr,tk,os⟩:=by
 have pass:=(T.pass (.ref x) "__setattr__").trans (SF.passes<|.ref x);have hxs:x≠hp.objs.size:=Ar<|Ai hx;unfold Builtin.«object.__setattr__»
 repeat (first | rw[refuse_eq] | (rw[refuseLoop_ref,pass]) | (with_reducible refine Bv hx ?_;rw[hc]) | with_reducible refine wpAny_mroOf_exc at_ ?_ | with_reducible refine zgO at_ ns T hm SF.mro e no ?_ | wp_step)
 rw[hd,if_neg (by simp[typeHasDict])]
 split
 . rename_i z;cases z
 split
 . rename_i c z;exact absurd z<|hnc c
 . have hx1:(hp.push { cls:=.type "dict",data:=.dict #[] }).get? x=some o:=Ac _ hx;refine Aa<|wpAny_alloc'<|Aa<|wpAny_update' hx1<|Ae ?_;have hD:((hp.push { cls:=.type "dict",data:=.dict #[] }).update x fun o=>{ cls:=o.cls,dict:=some hp.objs.size,data:=o.data,slots:=o.slots }).get? hp.objs.size=some { cls:=.type "dict",data:=.dict #[] }:=by
     rw[E3 _ _ _ _ hxs.symm];exact FD rfl rfl
   have hX:((hp.push { cls:=.type "dict",data:=.dict #[] }).update x fun o=>{ cls:=o.cls,dict:=some hp.objs.size,data:=o.data,slots:=o.slots }).get? x=some { o with dict:=some hp.objs.size }:=by
     refine A0 _ hx1 ?_;have fr:=(Heap.get?_some_iff.mp hx).2;obtain⟨oc,od,odt,osl⟩:=o
     cases odt <;> first | rfl | exact fr
   have hO:∀ b ob,b≠x->hp.get? b=some ob->((hp.push { cls:=.type "dict",data:=.dict #[] }).update x fun o=>{ cls:=o.cls,dict:=some hp.objs.size,data:=o.data,slots:=o.slots }).get? b=some ob:=fun b ob hb z=>by rw[E3 _ _ _ _ hb];exact Ac _ z
   generalize ((hp.push { cls:=.type "dict",data:=.dict #[] }).update x fun o=>{ cls:=o.cls,dict:=some hp.objs.size,data:=o.data,slots:=o.slots })=h2 at *;have hE:h2.Ns hp.objs.size (fun _=>none):=⟨_,#[],_,hD,rfl,fun z hz=>absurd hz (by simp),fun _=>rfl⟩
   show wpAny _ _ (storeInDict hp.objs.size (.str name tok) name v) _ _ _;unfold storeInDict newKeyGuard;refine Aa<|Ae<|Aa<|wpAny_nsSet1 (Heap.Ns1.of_empty hE) fun h3 n3 sb=>?_;obtain⟨oD,esD,epD,q1,q2,q3⟩:=n3.count<|Within.cons name v Within.nil;refine Aa<|wpAny_lookBehind q1 (by rw[q2];exact pastItsLine_dict (Aw q3 (by rw[Az,Bf,Cv];omega))) ?_
   wp_walk
   exact k h3 _ ((sb.2 x hxs).trans hX) n3 fun b ob hb z=>(sb.2 b<|Ar<|Ai z).trans (hO b ob hb z)
def zlV(SF:StoreFacts B top sa owner)(T:OT hp nn top bm)(hm:name∈nn)(hms:("__setattr__":Str)∈nn)(at_:hp.get? C=some (excClassObj nm ql C N bs bm true sn sub b2 b3 dd k0 k1 k2 k3 k5 newId))(ns:hp.Ns N mN)(no:mN name=none)(nos:mN "__setattr__"=none)
   (e:typeLookup (.type B) name=pure none) (hx:hp.get? x=some o) (hc:o.cls=.ref C) (hnc:∀ c,o.data≠.cls c) (hd:o.dict=none)
   (k:∀ h' tk',h'.get? x=some { o with dict:=some hp.objs.size }->h'.Ns1 hp.objs.size (fun y=>if y=name then some v else none)->(∀ b ob,b≠x->hp.get? b=some ob->h'.get? b=some ob)->Q () ⟨h',gs,dr,tk',os⟩) :
   wpAny (model prog w) A (setAttr (.ref x) name v) Q E ⟨hp,gs,dr,tk,os⟩:=by
 have bd:=SF.slot.bind<|.ref x;unfold setAttr callSpecial? specialOf
 repeat (any_goals (first | assumption | (with_reducible refine Bv hx ?_;rw[hc]) | with_reducible refine zgO at_ ns T hms SF.mro SF.slot.lookup nos ?_ | wp_step))
 refine ES SF.slot.plain SF.entry<|znr SF T at_ hx hc<|zng SF T hm at_ ns no e hx hc hnc hd fun h' tk' z1 z2 z3=>?_
 repeat (any_goals (first | assumption | wp_step))
 exact k h' tk' z1 z2 z3
end
variable {pos:Pos}
section
variable {s:Shared} {env:Env}
def zdR{x:Sem Value}{Q:Flow->Shared->Prop}(hb:bm.contains (.type "BaseException")=true)(hh:A.handled=none)
   (h:wpAny M A x (fun v s1=>∃ e t D,v=.ref e/\s1.heap.get? C=some (excClassObj nm ql C N bs bm b1 sn sub b2 b3 dd k0 k1 k2 k3 k5 newId) /\
     s1.heap.get? e=some { cls:=.ref C,dict:=D,data:=.fields #[.ref t,.none,.none,.none,.bool false,.none] }/\E (.ref e) s1) E s):wpAny M A (raiseStmt env (some x) none) Q E s:=by
 have top:(As C::bm).contains (.type "BaseException")=true:=by rw[DF,hb];simp
 unfold raiseStmt;refine Aa<|AL h (fun v s1 z=>?_) fun _ _ z=>z;obtain⟨e,t,D,rfl,at_,he,k⟩:=z;obtain⟨hp,gs,dr,tk,os⟩:=s1
 repeat (first | with_reducible refine Bv he ?_ | with_reducible refine Bv at_ ?_ | (with_reducible refine Dv at_ ?_;rw[top]) | wp_step)
 exact wpAny_raiseNew_none hh k
def zid{ex:Expr}{Q:Flow->Shared->Prop}(hb:bm.contains (.type "BaseException")=true)(hh:A.handled=none)
   (h:wpAny M A (eval ex env) (fun v s1=>∃ e t D,v=.ref e/\s1.heap.get? C=some (excClassObj nm ql C N bs bm b1 sn sub b2 b3 dd k0 k1 k2 k3 k5 newId) /\
     s1.heap.get? e=some { cls:=.ref C,dict:=D,data:=.fields #[.ref t,.none,.none,.none,.bool false,.none] }/\E (.ref e) s1) E s):wpAny M A (exec (.Raise (some ex) none pos) env) Q E s:=by
 rw[arm_exec_Raise]
 first
   | exact Aa (BL<|zdR hb hh h)
   | (simp only[evalOpt,GD];exact Aa (BL<|zdR hb hh<|Aa<|AL h (fun v s3 z=>Aa (BL<|Ae z)) fun _ _ z=>z))
   | exact Aa (BL<|zdR hb hh<|Aa<|AL h (fun v s3 z=>Aa (BL<|Ae z)) fun _ _ z=>z)
end
open PySem.Spec PyProof.Rows
structure WX(K:Ab)(er:Int->D)(z:Int->Hp->Prop)(io:List Addr)(H:Hp)(st':Sto)(N:Ends)(f:Fl):Prop where
 x:∀ n,f=.rt (er n)->∀ H' ka,Ext io ka H H'->StR K H' (io++ka) st'->z n H'
 w:Wn K io H st' N f
inductive tX (K:Ab) (er:Int->D) (z:Int->Hp->Prop) (m:MS) (N:Ends) (σ:L2.St) (H:Hp):Prop
 | mk (ρ:Rho) (st:Sto) (io:List Addr) (f:Fl) (st':Sto) (h1:EnvR K H io σ ρ) (h2:StR K H io st) (h3:m ρ st=some (f,st')) (h4:WX K er z io H st' N f)
def SX(X:Cx)(er:Int->D)(z:Int->Hp->Prop)(s:Stmt)(m:MS):Prop:=PS X s<|tX X.K er z m
def SXs(X:Cx)(er:Int->D)(z:Int->Hp->Prop)(s:List Stmt)(m:MS):Prop:=PSs X s<|tX X.K er z m
variable {X:Cx}{K:Ab}{H:Hp}{er:Int->D}
section
variable {e a b c:Expr} {st1 st2:Stmt} {rest body orelse:List Stmt} {m:ME} {mt:MT} {ms mq:MS} {mg:MG} {mi:MI}
variable {H1 H2:Hp} {io ka kb:List Addr} {st st':Sto} {z:Int->Hp->Prop} {N:Ends} {f:Fl}
def WX.on(h:WX K er z io H st' N f)(X1:Ext io ka H H1)(S1:StR K H1 (io++ka) st):WX K er z (io++ka) H1 st' N f :=
 ⟨fun n e H' kb E' S'=>h.x n e H' (ka++kb) (X1.trans S1 E') (by rw[<-Ak];exact S'),h.w.on X1 S1⟩
def zpL(h:SS X st1 ms):SX X er z st1 ms:=PS.imp h fun N σ H ⟨ρ,st,io,f,st',E,S,e,w⟩=>zju E S e w.w
def zp9(h:SSs X rest ms):SXs X er z rest ms:=PSs.imp h fun N σ H ⟨ρ,st,io,f,st',E,S,e,w⟩=>zju E S e w.w
def zhP(h1:SX X er z st1 ms):SXs X er z [st1] ms:=zik h1
def zeF(h1:SX X er z st1 ms)(h2:SXs X er z rest mq):SXs X er z (st1::rest) (mS ms mq):=PSs.imp (zil h1 h2) fun N σ H h=>by
 obtain⟨ρ,st,io,f,st',E,S,e,w⟩:=h;obtain⟨⟨f1,s1⟩,e1,e⟩:=zaf e
 cases f1 with
 | nx ρ1=>exact⟨ρ,st,io,_,s1,E,S,e1,fun n q=>(by cases q),fun σ' H' ka X' S' R'=>⟨ρ1,s1,io++ka,f,st',R',S',e,w.on X' S'⟩⟩
 | bk ρ1=>cases e;exact⟨ρ,st,io,_,_,E,S,e1,fun n q=>(by cases q),w.w⟩
 | ct ρ1=>cases e;exact⟨ρ,st,io,_,_,E,S,e1,fun n q=>(by cases q),w.w⟩
 | rt d=>cases e;exact⟨ρ,st,io,_,_,E,S,e1,w.x,w.w⟩
def zsp(hc:SB X c mt)(h1:SXs X er z body ms)(h2:SXs X er z orelse mq):SX X er z (.If c body orelse pos) (mIf mt ms mq):=PS.imp (zrT hc h1 h2) fun N σ H h=>by
 obtain⟨ρ,st,io,f,st',E,S,e,w⟩:=h;obtain⟨⟨x,s1⟩,e1,e⟩:=zaf e;refine⟨ρ,st,io,x,s1,E,S,e1,fun H1 k1 X1 S1=>?_⟩
 cases x with
 | true=>rw[if_pos rfl];exact⟨ρ,s1,io++k1,f,st',E.ext S X1,S1,e,w.on X1 S1⟩
 | false=>rw[if_neg (by decide)];exact⟨ρ,s1,io++k1,f,st',E.ext S X1,S1,e,w.on X1 S1⟩
def zqa{tg iter:Expr}(hp:PassesOwn (model X.prog X.w) X.A X.env X.xe)(hc:X.calm=true)(hi:SI X tg iter mi)(hg:SG X tg mg)(hb:SXs X er z body ms)
   (hs:∀ x,foldedSetIterable iter X.env x=pure x:=by intro _;rfl):SX X er z (.For tg iter body [] pos) (mF mi mg ms):=PS.imp (zou hp hc hi hg hb hs) fun N σ H h=>by
 obtain⟨ρ,st,io,f,st',E,S,e,w⟩:=h;obtain⟨⟨W,s1⟩,e1,e⟩:=zaf e;refine⟨ρ,st,io,W,s1,E,S,e1,fun J H1 k1 X1 S1 IO=>?_⟩;refine⟨fun i n σ2 H2=>n=W.ds.length - i/\∃ ρ2 s2 k2,Ext (io++k1) k2 H1 H2/\StR X.K H2 ((io++k1)++k2) s2/\EnvR X.K H2 ((io++k1)++k2) σ2 ρ2/\zee W mg ms (W.ds.drop i) ρ2 s2=some (f,st'),
   ⟨_,rfl,ρ,s1,[],Ext.refl,by rw[Al];exact S1,by rw[Al];exact E.ext S X1,by rw[Ex];exact e⟩,?_⟩
 rintro i n σ2 H2 ⟨rfl,ρ2,s2,k2,X2,S2,E2,e2⟩;have w2:WX X.K er z ((io++k1)++k2) H2 st' N f:=(w.on X1 S1).on X2 S2
 cases hd:W.ds[i]? with
 | none =>
   have hl:W.ds.length<=i:=List.getElem?_eq_none_iff.mp hd;rw[Cj hl] at e2;obtain⟨hw,e2⟩:=zat e2;cases e2;refine .inl ⟨?_,w2.w σ2 H2 [] Ext.refl S2.nil (by rw[Al];exact E2)⟩
   by_cases hi:i=W.ds.length
   . rw[hi];exact IO.stop H2 k2 _ X2 S2<|zbM hw
   exact IO.stop' H2 k2 _ i hl X2 S2<|zbM hw
 | some d =>
   have hl:i < W.ds.length:=(List.getElem?_eq_some_iff.mp hd).1;have hdr:W.ds.drop i=d::W.ds.drop (i+1):=by rw[CD hl,(List.getElem?_eq_some_iff.mp hd).2]
   rw[hdr] at e2;obtain⟨hw,e2⟩:=zat e2;obtain⟨⟨ρ3,s3⟩,e3,e2⟩:=zaf e2;obtain⟨⟨f4,s4⟩,e4,e2⟩:=zaf e2;obtain⟨go,yl⟩:=IO.go i d H2 k2 s2 hd X2 S2 (zbM hw);refine .inr ⟨go,fun σ5 H5=>∃ ρ5 s5 k5,Ext (io++k1) k5 H1 H5/\StR X.K H5 ((io++k1)++k5) s5/\EnvR X.K H5 ((io++k1)++k5) σ5 ρ5/\zee W mg ms (W.ds.drop<|i+1) ρ5 s5=some (f,st'),
     fun σ5 H5 h5=>⟨W.ds.length - (i+1),by omega,rfl,h5⟩,fun x H' y=>?_⟩
   obtain⟨X3,S3,R3⟩:=yl x H' y;have X23:Ext (io++k1) k2 H1 H':=(X2.trans S2 X3).app;refine⟨d,ρ2,s2,(io++k1)++k2,ρ3,s3,R3,?_,S3,e3,fun σ6 H6 k6 X6 S6 E6=>?_⟩
   . have:=E2.ext S2 X3;rw[Al] at this;exact this
   . have X26:=X23.trans S3 X6;have S6':StR X.K H6 ((io++k1)++(k2++k6)) s3:=by rw[<-Ak];exact S6
     have fin:∀ {ρ7:Rho},zee W mg ms (W.ds.drop<|i+1) ρ7 s4=some (f,st')->∀ σ7 H7 k7,Ext ((io++k1)++k2++k6) k7 H6 H7->StR X.K H7 ((io++k1)++k2++k6++k7) s4->EnvR X.K H7 ((io++k1)++k2++k6++k7) σ7 ρ7 ->
         ∃ ρ5 s5 k5,Ext (io++k1) k5 H1 H7/\StR X.K H7 ((io++k1)++k5) s5/\EnvR X.K H7 ((io++k1)++k5) σ7 ρ5/\zee W mg ms (W.ds.drop<|i+1) ρ5 s5=some (f,st'):=by
       intro ρ7 e7 σ7 H7 k7 X7 S7 E7;rw[Ak (io++k1)] at X7;rw[Ak (io++k1),Ak (io++k1)] at S7 E7;exact⟨ρ7,s4,(k2++k6)++k7,X26.trans S6' X7,S7,E7,e7⟩
     refine⟨ρ3,s3,_,f4,s4,E6,S6,e4,?_⟩
     cases f4 with
     | nx ρ7=>exact⟨fun n q=>(by cases q),fin e2⟩
     | ct ρ7=>exact⟨fun n q=>(by cases q),fin e2⟩
     | bk ρ7 =>
       cases e2;exact⟨fun n q=>(by cases q),(((w.w).on X1 S1).on X23 S3).on X6 S6⟩
     | rt dd =>
       cases e2;have w9:=((w.on X1 S1).on X23 S3).on X6 S6;exact⟨w9.x,w9.w⟩
end
def spX(K:Ab)(er:Int->D)(n:Nat)(g:GN):Sp:=fun vs H Q E=>∃ ds st io d st',vs.length=n/\Reps K H io vs ds/\StR K H io st/\g ds st=some (d,st')/\Bh K io H st' d Q/\∀ i,d=er i->∀ H' ka,Ext io ka H H'->StR K H' (io++ka) st'->E (.int i 0) none H'
section
variable {P:Program} {mg:Str->Option Value} {base:Heap}
def zrE{X:Cx}{n:Nat}{m:MS}{vs:List V}{Q:VK}{E:XK}{N:List Str}(hne:∀ i,er i≠.non)(h:spX K er n (fnM N.length m) vs H Q E) :
   tX K er (fun i H'=>E (.int i 0) none H') m { nx:=fun _ H'=>Q .non H',rt:=Q } (start N vs) H:=by
 obtain⟨ds,st0,io,d,st',hl,R,SR,e,k,kx⟩:=h;obtain⟨⟨fl,s1⟩,e1,e⟩:=zaf e;refine⟨_,st0,io,fl,s1,zgX R,SR,e1,?_⟩
 cases fl with
 | rt dd=>cases e;exact⟨fun i q=>kx i (by cases q;rfl),k⟩
 | nx ρ=>cases e;exact⟨fun i q=>(by cases q),fun σ' H' ka X' S' E'=>k .non H' ka X' S' rfl⟩
 | bk ρ=>cases e
 | ct ρ=>cases e
end
end L2.MP
namespace L2.MP
open PySem
variable {M:Model}{A:Around}{E:Value->Shared->Prop}{s:Shared}{base:Heap}{env:Env}{outer:List Env}{L x:Addr}{o:Obj}{vs:Array Value}{Q:Unit->Shared->Prop}
structure Gone(base:Heap)(l:List Env)(x:Addr)(o:Obj)(h h':Heap):Prop where
 stays:base.StaysIn h'
 frames:h'.FunFrames base l
 err:∃ ws T oT ts,h'.get? x=some { o with data:=.fields ws }/\ws[1]?=some (.ref T)/\(base.get? T=none/\(h.get? T=none->h.objs.size<=T))/\T≠x/\h'.get? T=some oT/\oT.data=.fields ts/\ts[3]?=some .none
 rest:∀ b ob,h.get? b=some ob->(∀ ws,ob.data≠.fields ws)->∃ sl,h'.get? b=some { ob with slots:=sl }
def zlk(hd:o.data=.fields vs)(g:Array Value->Array Value):AJ g o={ o with data:=.fields (g vs) }:=by obtain⟨oc,od,odt,osl⟩:=o;cases hd;rfl
def zhp(fr:A.frames=some (env::outer))(fl:s.heap.FunFrames base (env::outer))(hf:env.frame=some L)(hx:s.heap.get? x=some o)(st:base.StaysIn s.heap)(no:base.get? x=none)(hd:o.data=.fields vs)(h1:vs[1]?=some .none)
   (k:∀ h',Gone base (env::outer) x o s.heap h'->Q () { s with heap:=h' }):wpAny M A (leaving env<|.ref x) Q E s:=by
 have big:1 < vs.size:=(Array.getElem?_eq_some_iff.mp h1).1;have xf:x ∉ (env::outer).filterMap (·.frame):=fun z=>by obtain⟨_,ob,hb,nf⟩:=fl.mem z;rw[hx] at hb;cases hb;exact nf vs hd
 unfold leaving noteFrame;simp only[hf];refine Aa<|Aa<|AK hx hd h1 ?_;rw[if_neg (by decide)];refine Aa<|FE fr fl hf fun g1 sm=>Aa (Fq fun pl hpl=>?_);unfold Dw newFields;refine Aa<|AG ?_<|hpl.sizeOk5 _ _ _ _ _;have x1:g1.get? x=some o:=(sm.2.1 x xf).trans hx;have st1:base.StaysIn g1:=fun b ob hb=>(sm.2.1 b fun z=>by rw[(fl.mem z).1] at hb;cases hb).trans<|st b ob hb;have tx:g1.objs.size≠x:=Bs<|Ai x1;generalize hN:({ cls:=.type "traceback",dict:=none,data:=.fields ([AD,.ref L,.none,rawInt L,.none]++(if pl.isEmpty then A5 6 AD else pl)).toArray }:Obj)=nw;have nd:nw.data=.fields ([AD,.ref L,.none,rawInt L,.none]++(if pl.isEmpty then A5 6 AD else pl)).toArray:=by rw[<-hN]
 have nfr:nw.isFreed=false:=Bc nd;have x2:(g1.push nw).get? x=some o:=Ac nw x1;refine BC x2 hd big ?_;have e3:=Bo hd (·.setIfInBounds 1 (As g1.objs.size));have x3:=A0 (AJ (·.setIfInBounds 1 (As g1.objs.size))) x2<|Bc e3;have t3:((g1.push nw).update x (AJ (·.setIfInBounds 1 (As g1.objs.size)))).get? g1.objs.size=some nw:=(AI _ _<|AZ tx).trans<|Ap g1 nfr;unfold setFlight;refine Aa<|AK x3 e3 (x:=.ref g1.objs.size) (by simp[big]) ?_;rw[if_pos (show (As g1.objs.size != AD)=true from by simp)];refine BC t3 nd (by simp only[AA,AU,Az,Bf] <;> omega)<|k _ ?_;have e4:=Bo nd (·.setIfInBounds 3 ((none:Option Addr).elim AD fun f=>rawInt f));have t4:=A0 (AJ (·.setIfInBounds 3 ((none:Option Addr).elim AD fun f=>rawInt f))) t3<|Bc e4;have x4:(((g1.push nw).update x (AJ (·.setIfInBounds 1 (As g1.objs.size)))).update g1.objs.size (AJ (·.setIfInBounds 3 ((none:Option Addr).elim AD fun f=>rawInt f)))).get? x=some (AJ (·.setIfInBounds 1 (As g1.objs.size)) o):=by rw[AI _ _ tx];exact x3
 have old:∀ b ob,b≠x->g1.get? b=some ob->(((g1.push nw).update x (AJ (·.setIfInBounds 1 (As g1.objs.size)))).update g1.objs.size (AJ (·.setIfInBounds 3 ((none:Option Addr).elim AD fun f=>rawInt f)))).get? b=some ob:=fun b ob hb z=>by rw[AI _ _ (Bs<|Ai z),AI _ _ (AZ hb)];exact Ac _ z
 have nrec:∀ b ob,s.heap.get? b=some ob->(∀ ws,ob.data≠.fields ws)->b≠x:=fun b ob z nf q=>by rw[q,hx] at z;cases z;exact nf vs hd
 rw[zlk hd] at x4;refine⟨fun b ob hb=>old b ob (fun q=>by rw[q,no] at hb;cases hb) (st1 b ob hb),fl.of_keeps fun b ob z nf=>?_,⟨_,g1.objs.size,_,_,x4,by simp[big],⟨st1.fresh,fun _=>D0 sm.1.symm⟩,tx,t4,e4,?_⟩,fun b ob z nf=>?_⟩
 . obtain⟨sl,q⟩:=sm.2.2 b ob z;exact⟨_,old b _ (nrec b ob z nf) q,rfl⟩
 . first | (simp;done) | (rcases hpl with rfl | ⟨_,_,_,_,_,_,_,rfl⟩ <;> simp)
 obtain⟨sl,q⟩:=sm.2.2 b ob z;exact⟨sl,old b _ (nrec b ob z nf) q⟩
variable {T:Addr}{oT:Obj}{ts:Array Value}
def entry_any{hd0:Value}{nx:Bool}(fr:A.frames=some (env::outer))(fl:s.heap.FunFrames base (env::outer))(hf:env.frame=some L)(hx:s.heap.get? x=some o)(st:base.StaysIn s.heap)(no:base.get? x=none)(hd:o.data=.fields vs)(big:1 < vs.size)
   (k:∀ h',Gone base (env::outer) x o s.heap h'->Q () { s with heap:=h' }) :
   wpAny M A (do let a <-frameOf env;let pl <-entryPlaceOf L nx;let b <-Dw hd0 a .none (rawInt L) .none pl;setField (.ref x) 1 b) (fun _ s'=>wpAny M A (setFlight (.ref x) none) Q E s') E s:=by
 have xf:x ∉ (env::outer).filterMap (·.frame):=fun z=>by obtain⟨_,ob,hb,nf⟩:=fl.mem z;rw[hx] at hb;cases hb;exact nf vs hd
 refine Aa<|FE fr fl hf fun g1 sm=>Aa (Fq fun pl hpl=>?_);unfold Dw newFields;refine Aa<|AG ?_<|hpl.sizeOk5 _ _ _ _ _;have x1:g1.get? x=some o:=(sm.2.1 x xf).trans hx;have st1:base.StaysIn g1:=fun b ob hb=>(sm.2.1 b fun z=>by rw[(fl.mem z).1] at hb;cases hb).trans<|st b ob hb;have tx:g1.objs.size≠x:=Bs<|Ai x1;generalize hN:({ cls:=.type "traceback",dict:=none,data:=.fields ([hd0,.ref L,.none,rawInt L,.none]++(if pl.isEmpty then A5 6 AD else pl)).toArray }:Obj)=nw;have nd:nw.data=.fields ([hd0,.ref L,.none,rawInt L,.none]++(if pl.isEmpty then A5 6 AD else pl)).toArray:=by rw[<-hN]
 have nfr:nw.isFreed=false:=Bc nd;have x2:(g1.push nw).get? x=some o:=Ac nw x1;refine BC x2 hd big ?_;have e3:=Bo hd (·.setIfInBounds 1 (As g1.objs.size));have x3:=A0 (AJ (·.setIfInBounds 1 (As g1.objs.size))) x2<|Bc e3;have t3:((g1.push nw).update x (AJ (·.setIfInBounds 1 (As g1.objs.size)))).get? g1.objs.size=some nw:=(AI _ _<|AZ tx).trans<|Ap g1 nfr;unfold setFlight;refine Aa<|AK x3 e3 (x:=.ref g1.objs.size) (by simp[big]) ?_;rw[if_pos (show (As g1.objs.size != AD)=true from by simp)];refine BC t3 nd (by simp only[AA,AU,Az,Bf] <;> omega)<|k _ ?_;have e4:=Bo nd (·.setIfInBounds 3 ((none:Option Addr).elim AD fun f=>rawInt f));have t4:=A0 (AJ (·.setIfInBounds 3 ((none:Option Addr).elim AD fun f=>rawInt f))) t3<|Bc e4;have x4:(((g1.push nw).update x (AJ (·.setIfInBounds 1 (As g1.objs.size)))).update g1.objs.size (AJ (·.setIfInBounds 3 ((none:Option Addr).elim AD fun f=>rawInt f)))).get? x=some (AJ (·.setIfInBounds 1 (As g1.objs.size)) o):=by rw[AI _ _ tx];exact x3
 have old:∀ b ob,b≠x->g1.get? b=some ob->(((g1.push nw).update x (AJ (·.setIfInBounds 1 (As g1.objs.size)))).update g1.objs.size (AJ (·.setIfInBounds 3 ((none:Option Addr).elim AD fun f=>rawInt f)))).get? b=some ob:=fun b ob hb z=>by rw[AI _ _ (Bs<|Ai z),AI _ _ (AZ hb)];exact Ac _ z
 have nrec:∀ b ob,s.heap.get? b=some ob->(∀ ws,ob.data≠.fields ws)->b≠x:=fun b ob z nf q=>by rw[q,hx] at z;cases z;exact nf vs hd
 rw[zlk hd] at x4;refine⟨fun b ob hb=>old b ob (fun q=>by rw[q,no] at hb;cases hb) (st1 b ob hb),fl.of_keeps fun b ob z nf=>?_,⟨_,g1.objs.size,_,_,x4,by simp[big],⟨st1.fresh,fun _=>D0 sm.1.symm⟩,tx,t4,e4,?_⟩,fun b ob z nf=>?_⟩
 . obtain⟨sl,q⟩:=sm.2.2 b ob z;exact⟨_,old b _ (nrec b ob z nf) q,rfl⟩
 . first | (simp;done) | (rcases hpl with rfl | ⟨_,_,_,_,_,_,_,rfl⟩ <;> simp)
 obtain⟨sl,q⟩:=sm.2.2 b ob z;exact⟨sl,old b _ (nrec b ob z nf) q⟩
def zkj(fr:A.frames=some (env::outer))(fl:s.heap.FunFrames base (env::outer))(hf:env.frame=some L)(hx:s.heap.get? x=some o)(st:base.StaysIn s.heap)(no:base.get? x=none)(hd:o.data=.fields vs)
   (h1:vs[1]?=some (.ref T)) (nT:base.get? T=none) (Tx:T≠x) (hT:s.heap.get? T=some oT) (dT:oT.data=.fields ts) (h3:ts[3]?=some .none) 
   (k:∀ h',Gone base (env::outer) x o s.heap h'->Q () { s with heap:=h' }):wpAny M A (noteFrame (.ref x) env) (fun _ s'=>wpAny M A (setFlight (.ref x) none) Q E s') E s:=by
 unfold noteFrame;simp only[hf];refine Aa<|AK hx hd h1 ?_;rw[if_pos (show (As T != AD)=true from by simp)];refine Aa<|AK hT dT h3 ?_;rw[if_neg (show ¬ ((AD==rawInt L)=true) from by simp[rawInt])];refine Aa<|BC hT dT (Array.getElem?_eq_some_iff.mp h3).1 ?_;have oth:∀ b,b≠T->(s.heap.update T (AJ (·.setIfInBounds 3 AD))).get? b=s.heap.get? b:=fun b hb=>AI _ _<|AZ hb;have nrec:∀ b ob,s.heap.get? b=some ob->(∀ ws,ob.data≠.fields ws)->b≠T:=fun b ob z nf q=>by rw[q,hT] at z;cases z;exact nf ts dT
 refine entry_any fr (fl.of_keeps fun b ob z nf=>⟨ob,(oth b<|nrec b ob z nf).trans z,rfl⟩) hf ((oth x<|AZ Tx).trans hx) (fun b ob z=>(oth b fun q=>by rw[q,nT] at z;cases z).trans (st b ob z)) no hd (Array.getElem?_eq_some_iff.mp h1).1 fun h' g=>?_;obtain⟨ws,T2,oT2,ts2,y1,y2,y3,y4⟩:=g.err;exact k h' ⟨g.stays,g.frames,⟨ws,T2,oT2,ts2,y1,y2,⟨y3.1,fun z=>by
   have:=y3.2 (by
     by_cases q:T2=T
     . rw[q,hT] at z;cases z
     rw[oth T2 q];exact z)
   rwa [FS] at this⟩,y4⟩,fun b ob z nf=>g.rest b ob ((oth b<|nrec b ob z nf).trans z) nf⟩
variable {w:World}{C:Addr}{st0:Stmt}{more:List Stmt}{pos:Pos}{rest:List ExceptHandler}
section
variable {prog:Program}
variable {nm ql:Str} {N:Addr} {bs bm:List Value} {b1:Bool} {sn:List Str} {sub:List Value} {b2:Bool} {b3:Option Bool} {dd:Option Addr} {k0 k1 k2 k3 k5:Option Value} {newId:String}
noncomputable abbrev hurt (prog:Program) (w:World) (A:Around) (env:Env) (x:Addr) (E:Value->Shared->Prop):Value->Shared->Prop:=notedBy (model prog w) (A.mark<|some<|.ref x) env (cameBackBy (model prog w) A env E)
def zi6{t:Expr}{Q:Flow->Shared->Prop}(hb:bm.contains (.type "BaseException")=true)
   (h:wpAny (model prog w) (A.mark<|some<|.ref x) (eval t env) (fun c s1=>c=.ref C/\s1.heap.get? C=some (excClassObj nm ql C N bs bm b1 sn sub b2 b3 dd k0 k1 k2 k3 k5 newId)/\(∃ o,s1.heap.get? x=some o/\o.cls=.ref C) /\
     wpAny (model prog w) (A.mark<|some<|.ref x) (setFlight (.ref x) none) (fun _ s2=>wpAny (model prog w) (A.mark<|some<|.ref x) (execs (st0::more) env) Q (hurt prog w A env x E) s2) (hurt prog w A env x E) s1) (hurt prog w A env x E) s) :
   wpAny (model prog w) A (handleBy (.ref x) env (.ExceptHandler (some t) none (st0::more) pos::rest)) Q E s:=by
 refine Fc (EI<|AL h (fun c s1 z=>?_) fun _ _ z=>z) (by intro q;cases q);obtain⟨rfl,at_,⟨o,hx,hc⟩,k⟩:=z;obtain⟨hp,gs,dr,tk,os⟩:=s1;exact wpAny_excMatches_sub_self at_ hx hc hb<|codeAny_handlers_suite k
end
section
variable {l:List Env}
def zib(st:base.StaysIn s.heap)(fl:s.heap.FunFrames base l)(hx:s.heap.get? x=some o)(hd:o.data=.fields vs)(h1:vs[1]?=some (.ref T))(nT:base.get? T=none)(Tx:T≠x)(hT:s.heap.get? T=some oT)(dT:oT.data=.fields ts)(h3:ts[3]?=some .none)
   (k:∀ h',Gone base l x o s.heap h'->Q () { s with heap:=h' }):wpAny M A (setFlight (.ref x) none) Q E s:=by
 have big:3 < ts.size:=(Array.getElem?_eq_some_iff.mp h3).1;unfold setFlight;refine Aa<|AK hx hd h1 ?_;rw[if_pos (show (As T != AD)=true from by simp)];refine BC hT dT big<|k _ ?_;have oth:∀ b,b≠T->(s.heap.update T (AJ (·.setIfInBounds 3 ((none:Option Addr).elim AD fun f=>rawInt f)))).get? b=s.heap.get? b:=fun b hb=>AI _ _<|AZ hb;have nrec:∀ b ob,s.heap.get? b=some ob->(∀ ws,ob.data≠.fields ws)->b≠T:=fun b ob z nf q=>by rw[q,hT] at z;cases z;exact nf ts dT
 have e4:=Bo dT (·.setIfInBounds 3 ((none:Option Addr).elim AD fun f=>rawInt f));have eo:({ o with data:=.fields vs }:Obj)=o:=by obtain⟨oc,od,odt,osl⟩:=o;cases hd;rfl
 refine⟨fun b ob z=>(oth b fun q=>by rw[q,nT] at z;cases z).trans (st b ob z),fl.of_keeps fun b ob z nf=>⟨ob,(oth b<|nrec b ob z nf).trans z,rfl⟩,⟨vs,T,_,_,?_,h1,⟨nT,fun z=>by rw[hT] at z;cases z⟩,Tx,A0 _ hT<|Bc e4,e4,?_⟩,fun b ob z nf=>⟨ob.slots,(oth b<|nrec b ob z nf).trans z⟩⟩
 . rw[oth x (AZ Tx),eo];exact hx
 simp[big]
end
open PySem.Spec PyProof.Rows
structure ErrAt(hp:Heap)(C:Addr)(f:Str):Prop where
 ex:∃ (nm ql:Str) (N:Addr) (bs bm top:List Value) (sn:List Str) (sub:List Value) (b2:Bool) (b3:Option Bool) (dd:Option Addr) (k0 k1 k2 k3 k5:Option Value) (newId B sa owner:String) (mN:Str->Option Value) (nn:List Str),
   hp.get? C=some (excClassObj nm ql C N bs bm true sn sub b2 b3 dd k0 k1 k2 k3 k5 newId)/\hp.Ns N mN/\mN f=none/\mN "__setattr__"=none/\OT hp nn top bm/\f∈nn/\("__setattr__":Str)∈nn/\StoreFacts B top sa owner/\typeLookup (.type B) f=pure none
def newE(C x:Addr)(h:Heap):Prop:=∃ t,h.get? x=some { cls:=.ref C,data:=.fields #[.ref t,.none,.none,.none,.bool false,.none] }
def hasE(C x dx:Addr)(h:Heap):Prop:=∃ t,h.get? x=some { cls:=.ref C,dict:=some dx,data:=.fields #[.ref t,.none,.none,.none,.bool false,.none] }
def sErr(C:Addr)(ta tv:TE)(f:Str):TS:=fun D σ H=>tv σ H fun y H1=>ta σ H1 fun v H2=>∃ x,v=.ref x/\H2 x=some (.ext<|newE C x) /\
 ∀ dx,H2 dx=none->x < dx->D.nx σ (upd (upd H2 dx<|.xd [(f,y)]) x<|.ext<|hasE C x dx)
variable {X:Cx}{f:Str}{pos':Pos}{pins:List (Addr×Obj)}{σ:L2.St}{H:Hp}
section
variable {o value:Expr} {ta tv:TE}
def zpq{y:V}{u:Value}(I:Inv X pins σ H s)(hx:H x=some (.ext (newE C x)))(K:ErrAt s.heap C f)(ry:RelV y u)
   (k:∀ dx s',H dx=none->x < dx->Inv X pins σ (upd (upd H dx (.xd [(f,y)])) x (.ext (hasE C x dx))) s'->Q () s'):wpAny (model X.prog X.w) A (setAttr (.ref x) f u) Q E s:=by
 obtain⟨nm,ql,N,bs,bm,top,sn,sub,b2,b3,dd,k0,k1,k2,k3,k5,newId,B,sa,owner,mN,nn,at_,ns,no,nos,T,hm,hms,SF,e⟩:=K.ex;obtain⟨⟨t,ox⟩,_,_⟩:=I.hok x _ hx;have lx:=Ai ox;have xs:s.heap.objs.size≠x:=Bs lx;have hdx:H s.heap.objs.size=none:=I.hok.fresh (Ah _);obtain⟨hp,gs,dr,tk,os⟩:=s;refine zlV SF T hm hms at_ ns no nos e ox rfl (by intro c z;cases z) rfl fun h' tk' z1 z2 z3=>?_;refine k hp.objs.size _ hdx lx ?_
 -- the dict is laid,then the instance is written
 have nf:({ cls:=.ref C,data:=.fields #[.ref t,.none,.none,.none,.bool false,.none] }:Obj).isFreed=false:=rfl;have u1:(h'.update x fun _=>{ cls:=.ref C,data:=.fields #[.ref t,.none,.none,.none,.bool false,.none] }).get? x=some { cls:=.ref C,data:=.fields #[.ref t,.none,.none,.none,.bool false,.none] }:=A0 _ z1 nf;have u2:∀ b,b≠x->(h'.update x fun _=>{ cls:=.ref C,data:=.fields #[.ref t,.none,.none,.none,.bool false,.none] }).get? b=h'.get? b:=fun b hb=>AI _ _ (AZ hb);generalize (h'.update x fun _=>{ cls:=.ref C,data:=.fields #[.ref t,.none,.none,.none,.bool false,.none] })=h1 at *;have kp:∀ b q,hp.get? b=some q->h1.get? b=some q:=fun b q z=>by
   by_cases hb:b=x
   . rw[hb] at z ⊢;rw[u1];exact ox.symm.trans z
   rw[u2 b hb];exact z3 b q hb z
 have I1:Inv X pins σ (upd H hp.objs.size (.xd [(f,y)])) ⟨h1,gs,dr,tk',os⟩:=I.laid (t':=tk') kp (Ah _) ⟨_,z2.at fun q z=>(u2 _ xs).trans z,fun g=>by
   show RelO (Eu g [(f,y)]) _
   by_cases q:g=f
   . rw[if_pos q,q];simp[Eu];exact ry
   . rw[if_neg q];have:(g==f)=false:=by simpa using q
     simp[Eu,this]
     trivial⟩
 have mu:Mut (upd H hp.objs.size (.xd [(f,y)]) x):=by rw[zan (AZ xs),hx];exact CO
 exact I1.write (x:=x) (e:=x) (t':=tk') mu (.inl rfl) (fun b q hb z=>(u2 b hb).symm.trans z) ⟨_,z1⟩ ⟨⟨t,z1⟩,⟨_,z1⟩,fun g1 g2 z kk=>by obtain⟨t',z⟩:=z;exact⟨t',kk _ z⟩⟩
def zqE(hC:∀ h:Heap,X.K.In h->ErrAt h C f)(ha:PE X o ta)(hv:PE X value tv)(hs:swapsWith value (some<|.Attribute o f pos') pos.line X.env=pure false):PS X (.Assign [.Attribute o f pos'] value pos) (sErr C ta tv f):=by intro pins s σ H D I h;refine plainObj_wpAny_Assign_Attribute (thn (hv pins s σ H _ I h) fun u s1 ⟨y,H1,I1,ry,q⟩=>thn (ha pins s1 σ H1 _ I1 q) ?_) hs;rintro ov s2 ⟨v,H2,I2,rx,x,ex,hx,q2⟩;subst ex;obtain rfl:ov=As x:=rx;exact zpq I2 hx (hC _ I2.kIn) ry fun dx s3 d1 d2 I3=>⟨σ,_,I3,q2 dx d1 d2⟩
end
structure MadeAt(hp:Heap)(C f:Addr):Prop where
 ex:∃ (nm ql:Str) (N:Addr) (bs bm bmB bmN:List Value) (b1:Bool) (sn:List Str) (sub:List Value) (b2:Bool) (b3:Option Bool) (dd:Option Addr) (k0 k1 k2 k3 k5:Option Value) (newId B Bn nid initId inN:String) (mN:Str->Option Value) (oF:Obj),
   ExcBaseFacts Bn newId inN bmN/\bmB.contains (.type Bn)=true/\ExcBaseFacts B nid initId bmB/\OwnTail hp bmB bm/\hp.get? C=some (excClassObj nm ql C N bs bm b1 sn sub b2 b3 dd k0 k1 k2 k3 k5 newId)/\hp.Ns N mN/\mN "__init__"=some (.ref f)/\hp.get? f=some oF/\oF.cls=.type "function"
def tErr(b:Nat)(C:Addr)(sp:Sp)(t:TA):TE:=fun σ H Q=>t σ H fun vs H1=>vs.length<=1000/\∀ x,H1 x=none->b<=x->sp (.ref x::vs) (upd H1 x<|.ext<|newE C x) (fun v H2=>v=.non/\Q (.ref x) H2) E0
variable {t:TA}{y:Str}{fd:FuncData}{ps:List Str}{sp:Sp}{k:Nat}{us:List Value}{p:Pos}{e:Expr}{es:List Expr}
section
variable {f:Addr} {Q:VK} {vs:List V}
def zon(hC:∀ h:Heap,X.K.In h->MadeAt h C f)(F:FnOk X.prog X.w X.K X.mg X.base CX0 k f fd ps sp)(hr:Room (k+1) X.A)(hb:Binds X.K fd ps [])(I:Inv X pins σ H s)(r:Vals vs us)(few:vs.length<=1000)
   (h:∀ x,H x=none->X.s₀.heap.objs.size<=x->sp (.ref x::vs) (upd H x<|.ext<|newE C x) (fun v H2=>v=.non/\Q (.ref x) H2) E0):wpAny (model X.prog X.w) X.A (call (.ref C) us) (EP X pins σ Q) X.xe s:=by
 obtain⟨nm,ql,N,bs,bm,bmB,bmN,b1,sn,sub,b2,b3,dd,k0,k1,k2,k3,k5,newId,B,Bn,nid,initId,inN,mN,oF,X1,X2,X3,T,at_,ns,own,fat,fcl⟩:=(hC _ I.kIn).ex;obtain⟨hp,gs,dr,tk,os⟩:=s;have lu:us.length=vs.length:=r.length.symm;refine zkU X1 X2 X3 T at_ ns own fat fcl (fun h' x hle m=>?_) (by rw[lu];exact BJ (zjO few));have hx:H x=none:=I.hok.fresh hle;obtain⟨t',ht,_,_⟩:=m.there;have I2:Inv X pins σ (upd H x<|.ext<|newE C x) ⟨h',gs,dr,tk,os⟩:=I.laid (t':=tk) m.keeps hle ⟨⟨t',ht⟩,⟨_,ht⟩,fun g1 g2 z kk=>by obtain⟨t2,z⟩:=z;exact⟨t2,kk _ z⟩⟩
 have hq:=h x hx<|Aw I.sz hle;have r2:Vals (V.ref x::vs) (As x::us):=.cons rfl r;have hl:(As x::us).length=ps.length:=by have q:=r2.length;rw[F.len _ _ _ _ hq] at q;exact q.symm
 have r3:Vals (V.ref x::vs) (As x::us++[]):=by rw[Al];exact r2
 refine DT<|Df (F.run _ X.stack _ _ ⟨As x::us,[]⟩ (As x::us++[]) _ _ E0 (hr.make C us []) (I2.env0.make C us []) (hb _ (As x::us) I2.kIn (by rw[Al];exact hl)) r3 hq) fun rr s' z=>?_
 cases rr with
 | error e=>exact False.elim z
 | ok fl =>
   cases fl with
   | ret u =>
     obtain⟨v,H',I3,rv,ev,q3⟩:=I2.after z;subst ev;exact⟨rv,⟨V.ref x,H',I3,rfl,q3⟩⟩
   | next=>exact False.elim z
   | brk=>exact False.elim z
   | cont=>exact False.elim z
def zqP(hC:∀ h:Heap,X.K.In h->MadeAt h C f)(hkp:Bz X.K (.ref C)=true)(F:FnOk X.prog X.w X.K X.mg X.base CX0 k f fd ps sp)(hr:Room (k+1) X.A)(hg:Gl X y)(hm:X.mg y=some (.ref C))(hb:Binds X.K fd ps [])
   (ha:PA X (e::es) t) (hdb:(y==("__debug__":Str))=false:=by decide) (he:starEach (e::es) X.env=(false,eval e X.env)::starEach es X.env:=by rfl) (hpl:(backTo pos<|starEach es X.env).any (·.1)=false:=by rfl) :
   PE X (.Call (.Name y p) (e::es) [] pos) (tErr X.s₀.heap.objs.size C sp t):=by
 intro pins s σ H Q I h;refine BS<|zfx I hg hm ?_ hdb;refine DC (h₀:=X.base) I.ok.mod.kin hkp (thn (ha pos pins s σ H _ I h) fun us s1 ⟨vs,H1,I1,r,few,q⟩=>⟨I1.kIn,?_⟩) he hpl;exact zon hC F hr hb I1 r few q
end
structure RaiseAt(hp:Heap)(C:Addr):Prop where
 ex:∃ (nm ql:Str) (N:Addr) (bs bm:List Value) (b1:Bool) (sn:List Str) (sub:List Value) (b2:Bool) (b3:Option Bool) (dd:Option Addr) (k0 k1 k2 k3 k5:Option Value) (newId:String),
   hp.get? C=some (excClassObj nm ql C N bs bm b1 sn sub b2 b3 dd k0 k1 k2 k3 k5 newId)/\bm.contains (.type "BaseException")=true
def zp6(C:Addr)(X:Cx)(te:TE):TS:=fun _ σ H=>te σ H fun v H1=>∃ x dx,v=.ref x/\H1 x=some (.ext<|hasE C x dx)/\∀ pins s',Inv X pins σ H1 s'->X.xe (.ref x) s'
def zlZ(C:Addr)(f:Str):Sp:=fun vs H Q _=>∃ x y,vs=[.ref x,y]/\H x=some (.ext<|newE C x)/\∀ dx,H dx=none->x < dx->Q .non (upd (upd H dx<|.xd [(f,y)]) x<|.ext<|hasE C x dx)
section
variable {ex:Expr} {te:TE}
def zmp(hC:∀ h:Heap,X.K.In h->RaiseAt h C)(hc:X.calm=true)(he:PE X ex te):PS X (.Raise (some ex) none pos) (zp6 C X te):=by intro pins s σ H D I h;obtain⟨nm,ql,N,bs,bm,b1,sn,sub,b2,b3,dd,k0,k1,k2,k3,k5,newId,at_,hb⟩:=(hC _ I.ok.mod.kin).ex;refine zid (nm:=nm) (ql:=ql) (C:=C) (N:=N) (bs:=bs) (bm:=bm) (b1:=b1) (sn:=sn) (sub:=sub) (b2:=b2) (b3:=b3) (dd:=dd) (k0:=k0) (k1:=k1) (k2:=k2) (k3:=k3) (k5:=k5) (newId:=newId) hb (I.ok.hd hc)<|thn (he pins s σ H _ I h) ?_;rintro u s1 ⟨v,H1,I1,rv,x,dx,rfl,hx,q⟩;obtain rfl:u=As x:=rv;obtain⟨⟨t,ox⟩,_,_⟩:=I1.hok x _ hx;exact⟨x,t,some dx,rfl,I1.bk _ _ at_,ox,q pins s1 I1⟩
end
variable {P:Program}{K:Ab}{mg:Str->Option Value}{qual:Str}{st:Stmt}{fa:Addr}
def zpd{x n0 n1:Str}{p0 p1:Pos}(F:Fun K x qual st fa fd)(S:FnScope [n0,n1] [n0,n1] (zar st))(hb:zbl st=[.Assign [.Attribute (.Name n0 p0) f pos'] (.Name n1 p1) pos])
   (hC:∀ h:Heap,K.In h->ErrAt h C f) (v0:(zar st).names.lookup n0=some .local) (v1:(zar st).names.lookup n1=some .local) (d0:(n0==("__debug__":Str))=false) (d1:(n1==("__debug__":Str))=false) (c0:(n0==("__classdict__":Str))=false) (c1:(n1==("__classdict__":Str))=false)
   (hs:∀ env,swapsWith (.Name n1 p1) (some<|.Attribute (.Name n0 p0) f pos') pos.line env=pure false):FnOk P w K mg base CX0 (k+1) fa fd [n0,n1] (zlZ C f):=by
 refine F.ok S (fun vs H Q E ⟨x,y,e,_⟩=>by rw[e];rfl) fun cdv A outer s H vs Q E hr h=>?_;rw[hb];refine⟨_,zik<|zqE (C:=C) hC (pv 0 rfl (.inl v0) d0 c0) (pv 1 rfl (.inl v1) d1 c1)<|hs _,?_⟩;obtain⟨a,y,rfl,ha,q⟩:=h;exact⟨y,rfl,.ref a,rfl,a,rfl,ha,fun dx h1 h2=>q dx h1 h2⟩
open PySem.W
def gotE(C x dx:Addr)(h:Heap):Prop:=∃ ws,h.get? x=some { cls:=.ref C,dict:=some dx,data:=.fields ws }
structure Thrown(P:Program)(w:World)(C:Addr)(f:Str)(outer:List Env)(H:Hp)(s:Shared)(E:XK)(x dx T:Addr)(n:Int)(H':Hp)(s':Shared):Prop where
 at_:H' x=some (.ext (gotE C x dx))
 dict:H' dx=some (.xd [(f,.int n)])
 tr:∃ ws oT ts,s'.heap.get? x=some { cls:=.ref C,dict:=some dx,data:=.fields ws }/\ws[1]?=some (.ref T)/\T≠x/\s'.heap.get? T=some oT/\oT.data=.fields ts/\ts[3]?=some .none
 free:H' T=none
 new:s.heap.objs.size<=x/\s.heap.objs.size<=T/\s.heap.objs.size<=dx
 os:s'.os=s.os
 bare:AllBare s'.gens
 un:Un (frs outer) [] H H' s.heap s'.heap
 hok:HOk P w H' s'.heap
 wish:E (.int n 0) none H'
def CX1(P:Program)(w:World)(C:Addr)(f:Str):CXT:=fun outer H s E e s'=>∃ x dx T n H',e=.ref x/\Thrown P w C f outer H s E x dx T n H' s'
variable {N:List Str}{scope:Scope}{cd:Value}{s0:Shared}{H0:Hp}{dx:Addr}{n:Int}
section
variable {s1:Shared} {H1:Hp} {E:XK}
def zjA(I:Inv (cxOf (CX1 P w C f) P w K mg base N qual scope fa cd A outer s0 H0 E) pins σ H1 s1)(hx:H1 x=some (.ext<|hasE C x dx))(hdx:H1 dx=some (.xd [(f,.int n)]))(old:s0.heap.objs.size<=x)(oldd:s0.heap.objs.size<=dx)
   (k:E (.int n 0) none (upd H1 x<|.ext<|gotE C x dx)):(cxOf (CX1 P w C f) P w K mg base N qual scope fa cd A outer s0 H0 E).xe (.ref x) s1:=by
 obtain⟨⟨t,ox⟩,_,_⟩:=I.hok x _ hx;have nex:dx≠x:=zjv hdx hx (by intro z;cases z);have fr:=I.ok.frames;have fun0:s1.heap.FunFrames base (envOfC qual scope s0.heap.objs.size fa cd::outer):=I.env0.funs;have stf:∀ b∈(envOfC qual scope s0.heap.objs.size fa cd::outer).filterMap (·.frame),H1 b=none:=I.env0.frf;have fun1:s1.heap.FunFrames (hideAll s1.heap (x::(envOfC qual scope s0.heap.objs.size fa cd::outer).filterMap (·.frame))) (envOfC qual scope s0.heap.objs.size fa cd::outer) :=
   funFrames_hide fun0 fun env he a hf=>Aj _ (List.mem_filterMap.mpr ⟨env,he,hf⟩)
 refine zhp (L:=s0.heap.objs.size) fr fun1 rfl ox (fun b o e=>of_hideAll _ e) (hideAll_none _ An) rfl rfl fun h' g=>?_;obtain⟨ws,T,oT,ts,g1,g2,⟨g3,g3'⟩,g4,g5,g6,g7⟩:=g.err;have Tf:T ∉ (envOfC qual scope s0.heap.objs.size fa cd::outer).filterMap (·.frame):=fun z=>by obtain⟨_,o,ho,nf⟩:=g.frames.mem z;rw[g5] at ho;cases ho;exact nf _ g6
 have T1:s1.heap.get? T=none:=by
   cases q:s1.heap.get? T with
   | none=>rfl
   | some o =>
     have:=hideAll_get (x::(envOfC qual scope s0.heap.objs.size fa cd::outer).filterMap (·.frame)) q (fun z=>by
       rcases List.mem_cons.mp z with z | z
       . exact g4 z
       exact Tf z)
     rw[g3] at this;cases this
 have szT:s1.heap.objs.size<=T:=g3' T1;have stay:∀ b o,b≠x->b ∉ (envOfC qual scope s0.heap.objs.size fa cd::outer).filterMap (·.frame)->s1.heap.get? b=some o->h'.get? b=some o:=fun b o hb hf z =>
   g.stays b o (hideAll_get _ z fun q=>by
     rcases List.mem_cons.mp q with q | q
     . exact hb q
     exact hf q)
 have U:=I.base;have sz:s0.heap.objs.size<=s1.heap.objs.size:=I.sz;have own:∀ b o,s0.heap.get? b=some o->b≠x/\b≠s0.heap.objs.size:=fun b o z=>⟨fun q=>by have l:=Ai z;rw[q] at l;exact absurd l (Nat.not_lt.mpr old),Ar (Ai z)⟩
 have mem:∀ b,b≠s0.heap.objs.size->b ∉ frs outer->b ∉ (envOfC qual scope s0.heap.objs.size fa cd::outer).filterMap (·.frame):=fun b h1 h2 z=>by
   obtain⟨env,he,hf⟩:=List.mem_filterMap.mp z
   rcases List.mem_cons.mp he with rfl | he
   . exact h1 (Aq hf).symm
   exact h2<|List.mem_filterMap.mpr ⟨env,he,hf⟩
 have nx:∀ b,H1 b=none->b≠x:=fun b h1 q=>by rw[q,hx] at h1;cases h1
 have nofr:∀ b o,H1 b=some o->b ∉ (envOfC qual scope s0.heap.objs.size fa cd::outer).filterMap (·.frame):=fun b o h1 z=>by rw[stf b z] at h1;cases h1
 refine⟨x,dx,T,n,upd H1 x<|.ext<|gotE C x dx,rfl,zaC,by rw[zan nex];exact hdx,⟨ws,oT,ts,g1,g2,g4,g5,g6,g7⟩,by rw[zan g4];exact I.hok.fresh szT,⟨old,Aw sz szT,oldd⟩,I.os,I.bare,?_,?_,k⟩
 . refine⟨fun b o z h1 h2 h3=>?_,fun b o z h1 h2 h3=>?_,fun b o z h1 h3=>?_,fun b o z h3=>?_,fun b xs h1=>?_,fun b o u h1=>?_,fun b ps h1=>?_⟩
   . exact stay b o (own b o z).1 (mem b (own b o z).2 h2)<|U.keep b o z h1 h2 h3
   . obtain⟨sl,q⟩:=U.slot b o z h1 h2 h3;obtain⟨_,o2,q2,nf⟩:=fun0.mem (b:=b) (by
       obtain⟨env,he,hf⟩:=List.mem_filterMap.mp h2;exact List.mem_filterMap.mpr ⟨env,Aj _ he,hf⟩)
     rw[q] at q2;cases q2;obtain⟨sl2,q3⟩:=g.rest b _ q nf;exact⟨sl2,q3⟩
   . rw[zan (own b o z).1];exact U.free b o z h1 h3
   . obtain⟨o2,q⟩:=U.there b o z h3
     by_cases hb:b∈(envOfC qual scope s0.heap.objs.size fa cd::outer).filterMap (·.frame)
     . obtain⟨_,o3,q3,nf⟩:=fun0.mem hb;obtain⟨sl,q4⟩:=g.rest b o3 q3 nf;exact⟨_,q4⟩
     exact⟨o2,stay b o2 (own b o z).1 hb q⟩
   . have h2:=U.tups b xs h1;rw[zan (zjv h2 hx (by intro z;cases z))];exact h2
   . have h2:=U.frzs b o u h1;rw[zan (zjv h2 hx (by intro z;cases z))];exact h2
   obtain⟨m,h2⟩:=U.tbls b ps h1;exact⟨m,by rw[zan (zjv h2 hx (by intro z;cases z))];exact h2⟩
 . intro b o z
   by_cases hb:b=x
   . subst hb;rw[zaC] at z;cases z;exact⟨⟨ws,g1⟩,⟨_,g1⟩,fun a1 a2 q kk=>by obtain⟨ws2,q⟩:=q;exact⟨ws2,kk _ q⟩⟩
   . rw[zan hb] at z;refine (I.hok b o z).stay (fun c u hc q=>?_) (fun c hc=>?_) (fun c xs hc=>?_)
     . have h1:∃ o',H1 c=some o':=by
         rcases hc with rfl | hc
         . exact⟨_,z⟩
         exact⟨_,hc⟩
       obtain⟨o',h1⟩:=h1;refine stay c u (fun e=>?_) (nofr c o' h1) q
       rcases hc with rfl | hc
       . exact hb e
       rw[e,hx] at hc;cases hc
     . rw[zan (zjv hc hx (by intro z;cases z))];exact hc
     rw[zan (zjv hc hx (by intro z;cases z))];exact hc
end
variable {CX:CXT}{er:Int->D}{fld:Str}
def zpn{x:Str}{f:Addr}(F:Fun K x qual st f fd)(S:FnScope N ps (zar st))(len:∀ vs H Q E,sp vs H Q E->vs.length=ps.length)
   (hbody:∀ (cdv:Value) (A:Around) (outer:List Env) (s:Shared) (H:Hp) (vs:List V) (Q:VK) (E:XK),Room k (A.deeper<|envOfC qual (zar st) s.heap.objs.size f cdv)->sp vs H Q E ->
     ∃ t,PSs (cxOf CX P w K mg base N qual (zar st) f cdv A outer s H E) (zbl st) t/\t { nx:=fun _ H'=>Q .non H',rt:=Q } (start N vs) H):FnOk P w K mg base CX (k+1) f fd ps sp:=by
 obtain⟨oc,od,kV,doc,pm,an,cdv,ct,osl,rfl,lk,hcd⟩:=F.ex;exact zr4 lk hcd S len fun A outer s H vs Q E hr hsp=>hbody cdv A outer s H vs Q E hr hsp
def fn_x{x:Str}{f:Addr}{m:MS}(hne:∀ i,er i≠.non)(F:Fun K x qual st f fd)(S:FnScope N ps (zar st))
   (hbody:∀ (cdv:Value) (A:Around) (outer:List Env) (s:Shared) (H:Hp) (E:XK),Room k (A.deeper<|envOfC qual (zar st) s.heap.objs.size f cdv) ->
     SXs (cxOf (CX1 P w C fld) P w K mg base N qual (zar st) f cdv A outer s H E) er (fun i H'=>E (.int i 0) none H') (zbl st) m):FnOk P w K mg base (CX1 P w C fld) (k+1) f fd ps (spX K er ps.length<|fnM N.length m):=by
 refine zpn F S (fun vs H Q E ⟨_,_,_,_,_,h,_⟩=>h) fun cdv A outer s H vs Q E hr h=>⟨_,hbody cdv A outer s H E hr,?_⟩
 exact zrE (X:=cxOf (CX1 P w C fld) P w K mg base N qual (zar st) f cdv A outer s H E) hne h
def zhZ{io:List Addr}{st:Sto}{p:Addr}{o:HO}(S:StR K H io st)(hp:H p=none):Ext io [] H (upd H p o)/\StR K (upd H p o) (io++[]) st:=by
 have E:Ext io [] H (upd H p o):=⟨fun b u h _=>by rw[zan (zaq h hp)];exact h,fun b h=>absurd h (by simp),fun b u v h=>by rw[zan (zaq h hp)];exact h⟩
 refine⟨E,by rw[Al];exact S.len,by rw[Al];exact S.nd,fun n a ob h1 h2=>?_⟩;rw[Al] at h1;obtain⟨u,hu,_⟩:=(S.ob n a ob h1 h2).stands;exact OR.mono (E.kp S) (by rw[zan (zaq hu hp)])<|S.ob n a ob h1 h2
def zmR(er:Int->D)(m:ME):MS:=fun ρ st=>(m ρ st).bind fun (d,s)=>match d with
 | .int n=>some (.rt (er n),s)
 | _=>none
variable {cpos:Pos}
section
variable {E:XK} {f:Addr} {m:ME}
def zlU(hinj:∀ i j,er i=er j->i=j)(hM:∀ h:Heap,K.In h->MadeAt h C f)(hR:∀ h:Heap,K.In h->RaiseAt h C)(hkp:Bz K (.ref C)=true)
   (F:FnOk P w K mg base CX0 k f fd ps (zlZ C fld)) (hr:Room (k+1) (cxOf (CX1 P w C fld) P w K mg base N qual scope fa cd A outer s0 H0 E).A) (hg:Gl (cxOf (CX1 P w C fld) P w K mg base N qual scope fa cd A outer s0 H0 E) y) (hm:mg y=some (.ref C)) (hb:Binds K fd ps [])
   (he:SE (cxOf (CX1 P w C fld) P w K mg base N qual scope fa cd A outer s0 H0 E) e m) (ha:SA (cxOf (CX1 P w C fld) P w K mg base N qual scope fa cd A outer s0 H0 E) [e] (zac m mZ)) (hdb:(y==("__debug__":Str))=false)
   (hst:starEach [e] (cxOf (CX1 P w C fld) P w K mg base N qual scope fa cd A outer s0 H0 E).env=(false,eval e (cxOf (CX1 P w C fld) P w K mg base N qual scope fa cd A outer s0 H0 E).env)::starEach [] (cxOf (CX1 P w C fld) P w K mg base N qual scope fa cd A outer s0 H0 E).env) :
   SX (cxOf (CX1 P w C fld) P w K mg base N qual scope fa cd A outer s0 H0 E) er (fun i H'=>E (.int i 0) none H') (.Raise (some<|.Call (.Name y p) [e] [] cpos) none pos) (zmR er m):=by
 refine PS.imp (zmp (C:=C) hR rfl<|zqP (pos:=cpos) hM hkp F hr hg hm hb ha hdb hst rfl) fun D σ H h=>?_;obtain⟨ρ,st,io,fl,st',En,S,e0,wx⟩:=h;obtain⟨⟨d,s1⟩,e1,e0⟩:=zaf e0
 cases d with
 | int n =>
   cases e0;have e2:zac m mZ ρ st=some ([.int n],st'):=by show (m ρ st).bind _=_;rw[e1];rfl
   refine⟨ρ,st,io,_,st',En,S,e2,fun vs H1 ka X1 S1 R1=>?_⟩;obtain⟨v,vs',rfl,hv,h2⟩:=R1
   cases (show vs'=[] from h2)
   cases (show v=.int n from hv)
   refine⟨by simp,fun x hx hle=>⟨x,.int n,rfl,zaC,fun dx h1 h2=>⟨rfl,x,dx,rfl,zaC,fun pins s' I=>?_⟩⟩⟩;have nd:dx≠x:=Bs h2;have hdx:H1 dx=none:=by rw[zan nd] at h1;exact h1
   refine zjA I zaC (by rw[zan nd,zaC]) hle (Aw hle<|BJ h2) ?_;have q:upd (upd (upd (upd H1 x<|.ext<|newE C x) dx<|.xd [(fld,.int n)]) x<|.ext<|hasE C x dx) x (.ext<|gotE C x dx)=upd (upd H1 dx<|.xd [(fld,.int n)]) x (.ext<|gotE C x dx):=by
     funext b
     unfold upd
     by_cases hb:b=x
     . simp[hb]
     simp[hb]
   rw[q];obtain⟨X2,S2⟩:=zhZ (o:=.xd [(fld,.int n)]) S1 hdx;obtain⟨X3,S3⟩:=zhZ (p:=x) (o:=.ext (gotE C x dx)) S2 (by rw[zan (AZ nd)];exact hx);have X4:=(X1.trans S1 X2).trans (by rw[<-Ak];exact S2) (by rw[<-Ak];exact X3);refine wx.x n rfl _ _ X4 ?_;rw[<-Ak,<-Ak];exact S3
 | _=>cases e0
end
section
variable {h':Heap}
def ziY(I:Inv X pins σ H s)(hx:H x=some (.ext<|gotE C x dx))(hT:H T=none)(new:X.s₀.heap.objs.size<=T)(nl:T≠X.env.locals)(nc:∀ y c,X.env.cells.lookup y=some c->c≠T)(np:∀ p∈X.pn++pins,p.1≠T)
   (g:Gone (hideAll s.heap (x::T::X.stack.filterMap (·.frame))) X.stack x o s.heap h') (ox:s.heap.get? x=some o):Inv X pins σ H { s with heap:=h' }:=by
 obtain⟨ws0,oo⟩:=(I.hok x _ hx).1;have eo:o={ cls:=.ref C,dict:=some dx,data:=.fields ws0 }:=Aq<|ox.symm.trans oo;obtain⟨ws,T2,oT,ts,g1,_⟩:=g.err;have stay:∀ b q,b≠x->b≠T->b ∉ X.stack.filterMap (·.frame)->s.heap.get? b=some q->h'.get? b=some q:=fun b q h1 h2 h3 z =>
   g.stays b q (hideAll_get _ z fun m=>by
     rcases List.mem_cons.mp m with m | m
     . exact h1 m
     . rcases List.mem_cons.mp m with m | m
       . exact h2 m
       exact h3 m)
 have stf:∀ b∈X.stack.filterMap (·.frame),H b=none:=I.env0.frf;have nx:∀ b,H b=none->b≠x:=fun b h1 q=>by rw[q,hx] at h1;cases h1
 have nT:∀ b q,H b=some q->b≠T:=fun b q h1 z=>by rw[z,hT] at h1;cases h1
 refine I.call (h':=h') (g':=s.gens) (d':=s.drawn) (t':=s.toks) (ch:=[T]) ⟨fun b q z h1 h2 h3=>?_,fun b q z h1 h2 h3=>?_,fun b q z h1 h3=>h1,fun b q z h3=>?_,fun b xs h1=>h1,fun b q u h1=>h1,fun b ps h1=>⟨#[],by rw[h1];simp⟩⟩ ?_ I.bare fun b z=>?_
 . exact stay b q (nx b h1) (fun e=>h3 (by rw[e];exact List.mem_singleton.mpr rfl)) h2 z
 . obtain⟨_,o2,q2,nf⟩:=I.env0.funs.mem h2;rw[z] at q2;cases q2;exact g.rest b _ z nf
 . by_cases hb:b∈X.stack.filterMap (·.frame)
   . obtain⟨_,o2,q2,nf⟩:=I.env0.funs.mem hb;obtain⟨sl,q3⟩:=g.rest b _ q2 nf;exact⟨_,q3⟩
   . by_cases e:b=x
     . rw[e];exact⟨_,g1⟩
     exact⟨q,stay b q e (fun e=>h3 (by rw[e];exact List.mem_singleton.mpr rfl)) hb z⟩
 . intro b q z
   by_cases e:b=x
   . subst e;rw[hx] at z;cases z;rw[eo] at g1;exact⟨⟨ws,g1⟩,⟨_,g1⟩,fun a1 a2 q kk=>by obtain⟨ws2,q⟩:=q;exact⟨ws2,kk _ q⟩⟩
   . refine (I.hok b q z).stay (fun c u hc q2=>?_) (fun c hc=>hc) fun c xs hc=>hc;have h1:∃ o',H c=some o':=by
       rcases hc with rfl | hc
       . exact⟨_,z⟩
       exact⟨_,hc⟩
     obtain⟨o',h1⟩:=h1;refine stay c u (fun e2=>?_) (nT c o' h1) (fun m=>by rw[stf c m] at h1;cases h1) q2
     rcases hc with rfl | hc
     . exact e e2
     rw[e2,hx] at hc;cases hc
 rw[List.mem_singleton.mp z];exact⟨.inr new,nl,nc,np⟩
end
variable {np hpos:Pos}{W:Value->Shared->Prop}
section
variable {H':Hp} {s':Shared} {E:XK} {Q:Flow->Shared->Prop}
def landed{R:Shared->Prop}(hs:X.stack=X.env::X.outer)(hf:X.env.frame=some X.env.locals)(I:Inv X pins σ H s)(Th:Thrown X.prog X.w C f X.stack H s E x dx T n H' s')
   (k:∀ s2,Inv X pins σ H' s2->(∀ (M:Model) (A:Around) (E:Value->Shared->Prop) (Q:Unit->Shared->Prop),(∀ s3,Inv X pins σ H' s3->Q () s3)->wpAny M A (setFlight (.ref x) none) Q E s2) ->
     (∃ T2 ws oT ts,(s2.heap.get? x=some { cls:=.ref C,dict:=some dx,data:=.fields ws }/\ws[1]?=some (.ref T2)/\T2≠x/\s2.heap.get? T2=some oT/\oT.data=.fields ts/\ts[3]?=some .none)/\H' T2=none/\s.heap.objs.size<=T2)->R s2) :
   wpAny (model X.prog X.w) X.A (noteFrame (.ref x) X.env) (fun _ s2=>wpAny (model X.prog X.w) X.A (setFlight (.ref x) none) (fun _ s3=>R s3) W s2) W s':=by
 have I1:Inv X pins σ H' s':=I.call' Th.os Th.un Th.hok Th.bare fun b z=>absurd z (by simp);obtain⟨ws,oT,ts,ox,w1,Tx,hT,dT,t3⟩:=Th.tr;have fr:=I.ok.frames;rw[hs] at fr;have s01:X.s₀.heap.objs.size<=s.heap.objs.size:=I.sz;obtain⟨m0,ns0,_⟩:=I.loc;have ll:X.env.locals < s.heap.objs.size:=ns0.lt;have lc:∀ z c,X.env.cells.lookup z=some c->c < s.heap.objs.size:=fun z c h=>by obtain⟨v,q⟩:=I.cell z c h;exact q.lt
 have lp:∀ p∈X.pn++pins,p.1 < s.heap.objs.size:=fun p hp=>Ai (I.pin p hp).1;have far:∀ T2:Addr,s.heap.objs.size<=T2->X.s₀.heap.objs.size<=T2/\T2≠X.env.locals/\(∀ z c,X.env.cells.lookup z=some c->c≠T2)/\∀ p∈X.pn++pins,p.1≠T2:=fun T2 h =>
   ⟨Aw s01 h,Bs<|Av ll h,fun z c q=>Ar (Av (lc z c q) h),fun p hp=>Ar (Av (lp p hp) h)⟩
 have hide:∀ {hp:Heap} {T2:Addr},hp.FunFrames X.base X.stack->hp.FunFrames (hideAll hp (x::T2::X.stack.filterMap (·.frame))) X.stack:=fun h=>funFrames_hide h fun env he a hf=>Aj _<|Aj _<|List.mem_filterMap.mpr ⟨env,he,hf⟩;have fl1:=hide (T2:=T) I1.env0.funs;obtain⟨c1,c2,c3,c4⟩:=far T Th.new.2.1;refine zkj (base:=hideAll s'.heap (x::T::X.stack.filterMap (·.frame))) (outer:=X.outer) fr (by rw[hs] at fl1 ⊢;exact fl1) hf ox (fun b o e=>of_hideAll _ e) (hideAll_none _ An) rfl w1 (hideAll_none _<|Aj _ An) Tx hT dT t3 fun h2 g=>?_;rw[<-hs] at g;have I2:=ziY I1 Th.at_ Th.free c1 c2 c3 c4 g ox;obtain⟨ws2,T2,oT2,ts2,g1,g2,⟨g3,g3'⟩,g4,g5,g6,g7⟩:=g.err;have Tf:T2 ∉ X.stack.filterMap (·.frame):=fun z=>by obtain⟨_,o,ho,nf⟩:=g.frames.mem z;rw[g5] at ho;cases ho;exact nf _ g6
 have T2ok:s.heap.objs.size<=T2/\H' T2=none:=by
   by_cases e:T2=T
   . rw[e];exact⟨Th.new.2.1,Th.free⟩
   . have z:s'.heap.get? T2=none:=by
       cases q:s'.heap.get? T2 with
       | none=>rfl
       | some o =>
         have:=hideAll_get (x::T::X.stack.filterMap (·.frame)) q (fun z=>by
           rcases List.mem_cons.mp z with z | z
           . exact g4 z
           . rcases List.mem_cons.mp z with z | z
             . exact e z
             exact Tf z)
         rw[g3] at this;cases this
     have sz:s.heap.objs.size<=s'.heap.objs.size:=by have:=Ai hT;exact Aw Th.new.2.1<|BJ this
     exact⟨Aw sz<|g3' z,I1.hok.fresh<|g3' z⟩
 obtain⟨e1,e2,e3,e4⟩:=far T2 T2ok.1;have fl2:=hide (T2:=T2) I2.env0.funs;refine k _ I2 (fun M A E Q q=>?_) ⟨T2,ws2,oT2,ts2,⟨g1,g2,g4,g5,g6,g7⟩,T2ok.2,T2ok.1⟩;refine zib (base:=hideAll h2 (x::T2::X.stack.filterMap (·.frame))) (l:=X.stack) (fun b o e=>of_hideAll _ e) fl2 g1 rfl g2 (hideAll_none _<|Aj _ An) g4 g5 g6 g7 fun h3 g'=>?_;exact q _<|ziY I2 Th.at_ T2ok.2 e1 e2 e3 e4 g' g1
def zrB(hs:X.stack=X.env::X.outer)(hf:X.env.frame=some X.env.locals)(I:Inv X pins σ H s)(Th:Thrown X.prog X.w C f X.stack H s E x dx T n H' s')(hR:∀ h:Heap,X.K.In h->RaiseAt h C)(hg:Gl X y)(hm:X.mg y=some (.ref C))(hdb:(y==("__debug__":Str))=false)
   (k:∀ s2,Inv X pins σ H' s2->wpAny (model X.prog X.w) (X.A.mark<|some<|.ref x) (execs (st0::more) X.env) Q (hurt X.prog X.w X.A X.env x X.xe) s2) :
   wpAny (model X.prog X.w) X.A (noteFrame (.ref x) X.env) (fun _ s2=>wpAny (model X.prog X.w) X.A (setFlight (.ref x) none) (fun _ s3=>wpAny (model X.prog X.w) X.A (handleBy (.ref x) X.env (.ExceptHandler (some<|.Name y np) none (st0::more) hpos::rest)) Q X.xe s3) X.xe s2) X.xe s':=by
 refine landed hs hf I Th fun s2 I2 ra _=>?_;obtain⟨nm,ql,N,bs,bm,b1,sn,sub,b2,b3,dd,k0,k1,k2,k3,k5,newId,at_,hb⟩:=(hR _ I.ok.mod.kin).ex;obtain⟨⟨ws,g1⟩,_,_⟩:=I2.hok x _ Th.at_;refine zi6 (nm:=nm) (ql:=ql) (C:=C) (N:=N) (bs:=bs) (bm:=bm) (b1:=b1) (sn:=sn) (sub:=sub) (b2:=b2) (b3:=b3) (dd:=dd) (k0:=k0) (k1:=k1) (k2:=k2) (k3:=k3) (k5:=k5) (newId:=newId) hb ?_;refine B3 I2.ok.kind hg (CQ (by rw[I2.ok.glob];exact I2.mod.glob.keeps I2.bk) hm ?_) hdb;exact⟨rfl,I2.bk _ _ at_,⟨_,g1,rfl⟩,ra _ _ _ _ k⟩
end
section
variable {E:XK} {Q:VK} {vs:List V}
def zh7(F:FnOk X.prog X.w X.K X.mg X.base CX k fa fd ps sp)(hr:Room k X.A)(hb:Binds X.K fd ps [])(I:Inv X pins σ H s)(r:Vals vs us)(h:sp vs H Q E)(hx:∀ e s',CX X.stack H s E e s'->W e s') :
   wpAny (model X.prog X.w) X.A (call (.ref fa) us) (EP X pins σ Q) W s:=by
 have hl:(us++[]).length=ps.length:=by rw[Al,<-r.length];exact F.len _ _ _ _ h
 have r2:Vals vs (us++[]):=by rw[Al];exact r
 refine DT<|Df (F.run X.A X.stack s H ⟨us,[]⟩ (us++[]) vs Q E hr I.env0 (hb s us I.kIn hl) r2 h) fun rr s' z=>?_
 cases rr with
 | error e=>exact hx e s' z
 | ok fl =>
   cases fl with
   | ret u=>exact I.after z
   | next=>exact False.elim z
   | brk=>exact False.elim z
   | cont=>exact False.elim z
end
section
variable {g:Str} {epos:Pos}
def tTry(sp:Sp)(t:TA)(hand:V->Ends->L2.St->Hp->Prop):TS:=fun D σ H=>t σ H fun vs H1=>sp vs H1 (fun _ H2=>D.nx σ H2) fun v _ H2=>∃ n tk,v=.int n tk/\hand (.int n) D σ H2
def zot{hand:V->Ends->L2.St->Hp->Prop}(hs:X.stack=X.env::X.outer)(hf:X.env.frame=some X.env.locals)(F:FnOk X.prog X.w X.K X.mg X.base (CX1 X.prog X.w C fld) k fa fd ps sp)(hr:Room k X.A)(hg:Gl X g)(hm:X.mg g=some (.ref fa))(hk:Bz X.K (.ref fa)=true)(hb:Binds X.K fd ps [])
   (ha:PA X.nox (e::es) t) (hR:∀ h:Heap,X.K.In h->RaiseAt h C) (hgy:Gl X y) (hmy:X.mg y=some (.ref C)) (hdy:(y==("__debug__":Str))=false) (hdb:(g==("__debug__":Str))=false)
   (he:starEach (e::es) X.env=(false,eval e X.env)::starEach es X.env) (hpl:(backTo cpos<|starEach es X.env).any (·.1)=false) (hsw:swapsWith (.Call (.Name g p) (e::es) [] cpos) none epos.line X.env=pure false)
   (hh:∀ (pins:List (Addr×Obj)) (x:Addr) (n:Int) (σ:L2.St) (H:Hp) (s:Shared) (D:Ends),Inv X pins σ H s->hand (.int n) D σ H->wpAny (model X.prog X.w) (X.A.mark<|some<|.ref x) (execs (st0::more) X.env) (SP X pins D) (hurt X.prog X.w X.A X.env x X.xe) s) :
   PS X (.Try [.Expr (.Call (.Name g p) (e::es) [] cpos) epos] (.ExceptHandler (some<|.Name y np) none (st0::more) hpos::rest) [] [] pos) (tTry sp t hand):=by
 intro pins s σ H D I h;refine wpAny_Try_except ?_;refine C2<|wpAny_Expr_any (BS<|zfx I hg hm ?_ hdb) I.quiet hsw;refine DC (h₀:=X.base) I.ok.mod.kin hk (AL (ha cpos pins s σ H _ (I.wish _) h) (fun us s1 z=>?_) fun _ _ z=>z.elim) he hpl;obtain⟨vs,H1,I1,r,q⟩:=z;refine⟨I1.unwish.kIn,AL (zh7 F hr hb I1.unwish r q fun e s' z=>?_) (fun v s2 z=>?_) fun _ _ z=>z⟩
 . obtain⟨x,dx,T,n,H',rfl,Th⟩:=z;obtain⟨n',tk,en,hd⟩:=Th.wish;cases en;exact zrB hs hf I1.unwish Th hR hgy hmy hdy fun s2 I2=>hh pins x n σ H' s2 D I2 hd
 obtain⟨v',H2,I2,rv,q2⟩:=z;exact B1<|B1 ⟨σ,H2,I2,q2⟩
end
end L2.MP
namespace L2.MP
open PySem PySem.W PyProof.Rows Builtin.ObjectAttr
structure ExK(K:Frag)(C:Addr):Prop where
 ga:findIn K (.ref C) "__getattribute__"=some (some (.builtin "BaseException.__getattribute__"))
 hk:findIn K (.ref C) "__getattr__"=some none
 cl:findIn K (.ref C) "__class__"=some (some (.builtin "object.__class__"))
 gs:specialIn K (.builtin "object.__class__") "__get__"=some (some (.builtin "getset_descriptor.__get__"))
 tk:takesIn K (.builtin "object.__class__")=some true
 mo:mroIn K C (.type "object")=some true
 mb:mroIn K C (.type "BaseException")=some true
variable {expr:Bool}{Q:Value->Shared->Prop}{v:Value}
section
variable {prog:Program} {w:World} {A:Around} {E:Value->Shared->Prop} {s:Shared} {K:Frag} {x C:Addr} {ox:Obj} {od:Option Obj} {name:Str} {tk:Tok}
def zpp{fill:Bool}(Z:ExK K C)(X:K.In s.heap)(I:InstAt s.heap x ox C od)
   (h:wpAny (model prog w) A.in1 (Builtin.«object.__getattribute__» ⟨[.ref x,.str name tk],[]⟩) (fun fin s'=>match fin with | .done (.ret v)=>handedIn v=true/\Q v s' | _=>False) (fun _ _=>False) s) :
   wpAny (model prog w) A (getAttrBy (.ref x) (.str name tk) fill expr) Q E s:=by
 obtain⟨hh,g,d,t,os⟩:=s;have L0:=I.type (M:=model prog w);have L1:=looks_findIn (M:=model prog w) X Z.ga;have L2:=looks_findIn (M:=model prog w) X Z.hk;have L3:Looks (model prog w) hh (isInstance (.ref x)<|.type "BaseException") true:=L0.andThen<|looks_mroIn X Z.mb;have bd:=F.excAttr_ValueError.ga.bind<|.ref x;have n1:(expr&&onTheHeap (Cg "BaseException.__getattribute__"))=false:=by cases expr <;> rfl
 have n2:(Cg "BaseException.__getattribute__"==Cg "object.__getattribute__")=false:=by decide +kernel
 have n3:(onTheHeap (As C)&&Cg "BaseException.__getattribute__"==Cg "object.__getattribute__")=false:=by rw[n2];rfl
 repeat (any_goals (first | assumption | (with_reducible refine Bv I.at_ ?_;rw[I.cls]) | with_reducible refine L1.here ?_ | with_reducible refine L2.here ?_ | wp_step))
 have kd:builtinKind "BaseException.__getattribute__"=some .slot:=by decide +kernel
 have sp:splitId "BaseException.__getattribute__"=some ("BaseException","__getattribute__"):=by decide +kernel
 refine ES F.excAttr_ValueError.ga.plain F.entry_bexc_ga ?_;have ak:=F.args_bexc_ga (.ref x)<|.str name tk;show wpAny _ _ (checkBuiltinCall "BaseException.__getattribute__" ⟨.ref x::[.str name tk],[]⟩) _ _ _;refine check_slot (s:=⟨hh,g,d,t,os⟩) (i:="BaseException.__getattribute__") (owner:="BaseException") (n:="__getattribute__") (self:=.ref x) (rest:=[.str name tk]) (kw:=[]) kd sp L3 ak ?_;refine AL h (fun fin s' z=>?_) fun _ _ z=>z.elim
 rcases fin with (_ | _ | _ | v) | _ <;> first | exact z.elim | skip
 obtain⟨z1,z2⟩:=z;show wpAny _ _ (handedOut _) _ _ _;rw[handedOut_of z1];exact Ae z2
def zna{Q:Fin->Shared->Prop}(X:K.In s.heap)(I:InstAt s.heap x ox C od)(hf:findObj K C od name=some (.value v))(h:Q (.done<|.ret v) s) :
   wpAny (model prog w) A (Builtin.«object.__getattribute__» ⟨[.ref x,.str name tk],[]⟩) Q E s:=by
 obtain⟨hh,g,d,t,os⟩:=s;have L0:=I.type (M:=model prog w);have L1:=looks_find (M:=model prog w) X I hf;refine Aa<|Ae<|Aa<|Ae<|Aa<|L0.at<|Aa<|L1.at ?_;exact Ae h
def zpm{ge a:Value}{Q:Fin->Shared->Prop}(X:K.In s.heap)(I:InstAt s.heap x ox C od)(hf:findObj K C od name=some (.bind ge a))(h:wpAny (model prog w) A (call ge [a,.ref x,.ref C]) (fun v s'=>Q (.done<|.ret v) s') E s) :
   wpAny (model prog w) A (Builtin.«object.__getattribute__» ⟨[.ref x,.str name tk],[]⟩) Q E s:=by
 obtain⟨hh,g,d,t,os⟩:=s;have L0:=I.type (M:=model prog w);have L1:=looks_find (M:=model prog w) X I hf;refine Aa<|Ae<|Aa<|Ae<|Aa<|L0.at<|Aa<|L1.at ?_;show wpAny _ _ (holding [a] (call ge [a,.ref x,.ref C]) >>= ret) _ _ _;exact Aa<|AY<|AL h (fun v s' z=>Ae z) fun _ _ z=>z
def zkH{Q:Option Value->Shared->Prop}(Z:ExK K C)(X:K.In s.heap)(I:InstAt s.heap x ox C od)(h:Q (some<|.ref C) { s with toks:=s.toks+1 }):wpAny (model prog w) A (getAttr? (.ref x) "__class__") Q E s:=by
 have hc:(clsIn K C).isSome=true:=by
   have:=Z.mo;unfold mroIn at this
   cases hh:clsIn K C with
   | none=>rw[hh] at this;cases this
   | some _=>rfl
 have hf:findObj K C od "__class__"=some (.bind (.builtin "getset_descriptor.__get__")<|.builtin "object.__class__"):=by obtain⟨cd,hc⟩:=Option.isSome_iff_exists.mp hc;unfold findObj;rw[hc,Ad,Z.cl,Ad];simp[Z.gs,Z.tk]
 unfold getAttr? getAttrBy?;refine Aa<|wpAny_mkText<|Aa<|C0<|zpp (s:={ s with toks:=s.toks+1 }) Z X I<|zpm (s:={ s with toks:=s.toks+1 }) X I hf<|DT<|class_get (s:={ s with toks:=s.toks+1 }) X I Z.mo ?_;exact⟨rfl,Ae h⟩
def zne(Z:ExK K C)(X:K.In s.heap)(I:InstAt s.heap x ox C od)(hf:findObj K C od name=some (.value v))(hv:handedIn v=true)(h:Q v { s with toks:=s.toks+1 }):wpAny (model prog w) A (getAttr (.ref x) name expr) Q E s:=by unfold getAttr;exact Aa<|wpAny_mkText<|zpp (s:={ s with toks:=s.toks+1 }) Z X I<|zna (s:={ s with toks:=s.toks+1 }) X I hf ⟨hv,h⟩
def zge(Z:ExK K C):KitX K (.ref x) (.ref C) (fun h=>∃ ox od,InstAt h x ox C od) where
 ty:=fun _ _ _ ⟨_,_,I⟩=>I.type
 it:=fun _ _ X _=>by
   have:=Z.mo;unfold mroIn clsIn at this
   split at this
   . rename_i ho;intro A' Q' E' s' k q;unfold isType loadHead;exact Aa<|wpAny_loadPart (k _ _<|X _ _ ho)<|Ae q
   . cases this
 ne:=fun h tp dd its n sl X htp=>by
   have:=Z.mo;refine Bool.eq_false_iff.mpr fun q=>?_;have e:C=tp:=Value.ref.inj<|beq_iff_eq.mp q;subst e;unfold mroIn clsIn at this
   split at this
   . rename_i ho;have z:=(X _ _ ho).symm.trans htp;cases z
   . cases this
 ca:=fun X ⟨_,_,I⟩ k=>zkH Z X I k
end
end L2.MP
namespace L2.MP
open PySem PySem.W
open PySem.Spec PyProof.Rows
structure PlainAt(hp:Heap)(C:Addr):Prop where
 ex:∃ (nm ql:Str) (N:Addr) (bs bm bmB bmN:List Value) (b1:Bool) (sn:List Str) (sub:List Value) (b2:Bool) (b3:Option Bool) (dd:Option Addr) (k0 k1 k2 k3 k5:Option Value) (newId B Bn nid initId inN:String) (mN:Str->Option Value),
   ExcBaseFacts Bn newId inN bmN/\bmB.contains (.type Bn)=true/\ExcBaseFacts B nid initId bmB/\OwnTail hp bmB bm/\hp.get? C=some (excClassObj nm ql C N bs bm b1 sn sub b2 b3 dd k0 k1 k2 k3 k5 newId)/\hp.Ns N mN/\mN "__init__"=none
def anyE(t:Str->Str->Option Bool)(c:Str):List D->Option Bool
 | []=>some false
 | d::ds=>match d with
   | .fn y=>(t c y).bind fun b=>if b=true then some true else anyE t c ds
   | _=>none
def isE(t:Str->Str->Option Bool):GN:=fun ds st=>match ds with
 | [.er true c _,.fn y]=>(t c y).map fun b=>(.bl b,st)
 | [.er true c _,.tup (.fn y::ys)]=>(anyE t c (.fn y::ys)).map fun b=>(.bl b,st)
 | _=>none
def mIsT(t:Str->Option Bool)(m:ME):ME:=fun ρ st=>(m ρ st).bind fun (d,s)=>match d with
 | .er true c _=>(t c).map fun b=>(.bl b,s)
 | _=>none
def mAtE(ok:Str->Bool)(f:Str)(m:ME):ME:=fun ρ st=>(m ρ st).bind fun (d,s)=>match d with
 | .er true c (some (g,n))=>if g=f/\ok c=true then some (.int n,s) else none
 | _=>none
def IsOk(K:Frag)(t:Str->Str->Option Bool):Prop:=∀ c y b C D,t c y=some b->FnA K c C->FnA K y D->ExK K C/\kitOne K (.ref C) (.ref D)=some b
def zrN(K:Frag)(T:String)(t:Str->Option Bool):Prop:=∀ c b C,t c=some b->FnA K c C->ExK K C/\kitOne K (.ref C) (.type T)=some b
def AtOk(K:Frag)(f:Str)(ok:Str->Bool):Prop:=∀ c C,ok c=true->FnA K c C->ExK K C/\findIn K (.ref C) f=some none/\hasDictIn K C=true
variable {X:Cx}{pins:List (Addr×Obj)}{σ:L2.St}{H:Hp}{s:Shared}{io:List Addr}{st:Sto}{x C:Addr}{c:Str}{K:Frag}{t:Str->Str->Option Bool}
def Inv.er{od:Option Addr}{φ:Heap->Prop}{o:Obj}{fs:Array Value}(I:Inv X pins σ H s)(hx:H x=some (.ext φ))(g:s.heap.get? x=some o)(c:o.cls=.ref C)(d:o.dict=od)(e:o.data=.fields fs):Inv X pins σ (upd H x<|.frz o<|.ext<|ErZ C x od) s:=by
 have I1:Inv X pins σ (upd H x<|.ext<|ErZ C x od) s:=I.write (x:=x) (e:=x) (h':=s.heap) (t':=s.toks) (by rw[hx];exact CO) (.inl rfl) (fun b u _ q=>q) ⟨_,g⟩ ⟨⟨o,fs,g,c,d,e⟩,⟨_,g⟩,fun h1 h2 ⟨o',fs',g',r⟩ kk=>⟨o',fs',kk _ g',r⟩⟩;have:=Inv.freeze I1 (d:=x) (o:=o) zaC g (by simp) (by simp) (by simp)<|by simp
 rwa [znP] at this
def ziR{v:V}{f:Option (Str×Int)}(I:Inv X pins σ H s)(h:ErR X.K H v c f):∃ a C ox od,v=.ref a/\FnA X.K c C/\InstAt s.heap a ox C od:=by
 cases f with
 | none =>
   obtain⟨a,C,o,rfl,q,r⟩:=h;obtain⟨g,⟨o1,fs,g1,c1,d1,e1⟩,_⟩:=I.hok _ _ r;refine⟨a,C,o1,none,rfl,q,g1,c1,by unfold notCls;rw[e1],?_⟩;rw[d1];exact CO
 | some p =>
   obtain⟨a,C,o,dx,o',rfl,q,r,z⟩:=h;obtain⟨g,⟨o1,fs,g1,c1,d1,e1⟩,_⟩:=I.hok _ _ r;obtain⟨g2,_⟩:=I.hok _ _ z;refine⟨a,C,o1,some o',rfl,q,g1,c1,by unfold notCls;rw[e1],?_⟩;rw[d1];exact g2
def zlH{K:Frag}{c:Str}{C:Addr}{t:Str->Str->Option Bool}(T:IsOk K t)(hc:FnA K c C){io:List Addr}:∀ {ds:List D} {xs:List V} {us:List Value} {b:Bool},anyE t c ds=some b->Reps K H io xs ds->Vals xs us->kitAny K (.ref C) us=some b
 | [],xs,us,b,e,R,r=>by
   cases e
   cases (show xs=[] from R)
   cases r;rfl
 | d::ds,xs,us,b,e,R,r=>by
   obtain⟨x,xs,rfl,r1,R⟩:=R
   cases r with
   | cons q r =>
     unfold anyE at e
     split at e
     . rename_i y;obtain⟨b1,e1,e⟩:=zaf e;obtain⟨D,rfl,hD⟩:=r1;obtain rfl:=(show _=As D from q)
       have hk:=(T c y b1 C D e1 hc hD).2;unfold kitAny;rw[hk]
       cases b1 with
       | true=>cases e;rfl
       | false=>exact zlH T hc e R r
     . cases e
def znu(T:IsOk X.K t):zdF X (.builtin "isinstance") (isE t):=by
 rintro pins s σ H xs us Q I r ⟨ds,st,io,d,st',R,S,e,k⟩;unfold isE at e
 split at e
 . rename_i c f y;obtain⟨b,e1,e⟩:=zai e;cases e;obtain⟨v1,v2,rfl,r1,r2⟩:=R.two;obtain⟨u1,u2,rfl,q1,q2⟩:=r.two;obtain⟨a,C,ox,od,rfl,hC,J⟩:=ziR I r1.2;obtain⟨D,rfl,hD⟩:=r2;obtain rfl:=(show u1=As a from q1)
   obtain rfl:=(show u2=As D from q2)
   obtain⟨Z,hk⟩:=T c y b C D e1 hC hD;exact kia_one (zge Z) I.kIn ⟨ox,od,J⟩ hk (by intro z;cases z) fun tk=>⟨.bl b,H,I.tok tk,rfl,k.now S rfl⟩
 . rename_i c f y ys;obtain⟨b,e1,e⟩:=zai e;cases e;obtain⟨v1,v2,rfl,r1,r2⟩:=R.two;obtain⟨u1,u2,rfl,q1,q2⟩:=r.two;obtain⟨a,C,ox,od,rfl,hC,J⟩:=ziR I r1.2;obtain⟨p,zs,rfl,hp,r3⟩:=r2;obtain rfl:=(show u1=As a from q1)
   obtain rfl:=(show u2=As p from q2)
   obtain⟨its,vs,⟨o,g,hc,n,hd⟩,_⟩:=I.tuple<|SqT.of hp;obtain⟨oc,od2,da,sl⟩:=o;dsimp only at hc hd;subst hc hd;have Z:ExK X.K C:=by obtain⟨b1,h1,_⟩:=zaf (show (t c y).bind _=_ from e1);obtain⟨z,zs',rfl,hz,_⟩:=r3;obtain⟨D,_,hD⟩:=hz;exact (T c y b1 C D h1 hC hD).1
   exact kia_tup (zge Z) I.kIn ⟨ox,od,J⟩ g (zlH T hC e1 r3 vs) (by intro z;cases z) fun tk=>⟨.bl b,H,I.tok tk,rfl,k.now S rfl⟩
 . cases e
variable {fld y:Str}{k:Nat}{e:Expr}{pos:Pos}{T:String}
section
variable {f:Addr} {fd:FuncData} {ps:List Str} {m:ME} {p:Pos}
def zqs{ok:Str->Bool}(A:AtOk X.K fld ok)(he:SE X e m)(hb:attributeBase e fld X.env (eval e X.env)=eval e X.env:=by rfl):SE X (.Attribute e fld pos) (mAtE ok fld m):=by
 rintro pins s σ H Q I ⟨ρ,st,io,d,st',En,S,e0,kk⟩;obtain⟨⟨d0,s1⟩,e1,e5⟩:=zaf e0;clear e0;dsimp only at e5
 split at e5
 . rename_i c g n
   split at e5
   . rename_i q;obtain⟨rfl,q⟩:=q;cases e5;refine zpG hb<|thn (he pins s σ H (fun v H1=>∃ ka,Ext io ka H H1/\StR X.K H1 (io++ka) st'/\Rep X.K H1 (io++ka) v (.er true c<|some (g,n))) I ⟨ρ,st,io,_,st',En,S,e1,fun v H1 ka X1 S1 R1=>⟨ka,X1,S1,R1⟩⟩) ?_;rintro u s2 ⟨v,H1,I1,rv,ka,X1,S1,_,a,C,o,dx,o',rfl,hC,hx,hd⟩;obtain rfl:=(show u=As a from rv)
     obtain⟨Z,h1,h2⟩:=A c C q hC;obtain⟨g0,⟨o1,fs,g1,c1,d1,e1⟩,_⟩:=I1.hok _ _ hx;obtain⟨g2,mA,ns,rl⟩:=I1.hok _ _ hd;obtain⟨od,god,lk⟩:=zgP ns;have J:InstAt s2.heap a o1 C (some od):=⟨g1,c1,by unfold notCls;rw[e1],by rw[d1];exact god⟩
     obtain⟨w,hw,rw'⟩:=RelO.some_of (v:=.int n) (o:=mA g) (by have:=rl g;simpa[Eu] using this);obtain⟨t,rfl⟩:=(show ∃ t,w=DA n t from rw')
     obtain⟨cd,hc,hdd⟩:=any_some h2;have hf:findObj X.K C (some od) g=some (.value<|.int n t):=by unfold findObj;rw[hc,Ad,h1];simp only[Ad,PySem.W.ownOf];rw[if_pos hdd,lk,hw];rfl
     exact zne Z I1.kIn J hf rfl ⟨.int n,H1,I1.tok _,⟨t,rfl⟩,kk _ _ _ X1 S1 rfl⟩
   . cases e5
 . cases e5
def rIsT(K:Frag)(T:String)(t:Str->Option Bool):List V->Hp->VK->Prop:=fun xs H Q=>∃ x c f b,xs=[x,.ty T]/\ErR K H x c f/\t c=some b/\Q (.bl b) H
def znt{t:Str->Option Bool}(O:zrN X.K T t):zjy X (.builtin "isinstance") (rIsT X.K T t):=by
 rintro pins s σ H xs us Q I r ⟨x,c,f,b,rfl,R,e,q⟩;obtain⟨u,w,rfl,ru,rw'⟩:=r.two;cases rw';obtain⟨a,C,ox,od,rfl,hC,J⟩:=ziR I R;obtain rfl:=(show u=As a from ru)
 obtain⟨Z,hk⟩:=O c b C e hC;exact kia_one (zge Z) I.kIn ⟨ox,od,J⟩ hk (by intro z;cases z) fun tk=>⟨.bl b,H,I.tok tk,rfl,q⟩
def zqr{t:Str->Option Bool}{p2:Pos}(O:zrN X.K T t)(hg:Gl X "isinstance")(hm:X.mg "isinstance"=none)(ha:SE X e m)(hgy:Gl X y)(hmy:X.mg y=none)(hvy:bootBuiltins y=some (.type T))(hny:y≠"__name__":=by decide)(hdy:(y==("__debug__":Str))=false:=by decide)
   (hs:starEach [e,.Name y p2] X.env=(false,eval e X.env)::starEach [.Name y p2] X.env:=by rfl) (hs2:starEach [.Name y p2] X.env=[(false,eval (.Name y p2) X.env)]:=by rfl) (hpl:(backTo pos<|starEach [.Name y p2] X.env).any (·.1)=false:=by rfl) :
   SE X (.Call (.Name "isinstance" p) [e,.Name y p2] [] pos) (mIsT t m) :=
 PE.imp (zf2 (znt O) hg hm (by decide +kernel) (zfm ha (zfm (zlg (v:=.ty T) hgy hmy hvy rfl hny hdy) zmB hs2) hs) (by decide) (by decide) hs hpl) <| by
   rintro σ H Q ⟨ρ,st,io,d,st',E,S,e0,k⟩;obtain⟨⟨x,s1⟩,e1,e0⟩:=zaf e0;dsimp only at e0
   split at e0
   . rename_i c f;obtain⟨b,e2,e0⟩:=zai e0;cases e0;exact⟨ρ,st,io,_,_,E,S,e1,fun v1 H1 k1 X1 S1 R1=>⟨v1,c,f,b,rfl,R1.2,e2,k _ H1 k1 X1 S1 rfl⟩⟩
   . cases e0
end
variable {A:Around}{E W:Value->Shared->Prop}{i:Nat}
def zgU{M:Model}{x:Str}{Q:Unit->Shared->Prop}(I:Inv X pins σ H s)(hN:X.N.Nodup)(hi:X.N[i]?=some x)(hk:X.env.scope.names.lookup x=some .local)(h:∀ s',Inv X pins (σ.set i none) H s'->Q () s') :
   wpAny M A (do bindName X.env x .none;unbindBehindTheSuite X.env x pos) Q E s:=by
 obtain⟨m,hn,hl⟩:=id I.loc;have hcls:(X.env.scope.kind==.class || (X.env.scope.kind==.module&&X.env.locals != X.env.globals))=false:=by rw[I.ok.kind];rfl
 have hiσ:i < σ.length:=by rw[I.len];exact (List.getElem?_eq_some_iff.mp hi).1
 have cne:=I.cne;obtain⟨oL,_,_,hoL,_⟩:=id hn;refine wpAny_nameGoes_keeps hk hn hcls fun h' v hn' hs=>?_;have far:∀ {b:Addr} {o:Obj},X.s₀.heap.get? b=some o->b≠X.env.locals:=fun e=>Ar<|Av (Ai e) I.ok.above;have J:Inv X pins (σ.set i none) H { s with heap:=h' }:=by
   refine⟨I.ok,I.os,I.bare,⟨fun b o e n hb hx=>(hs.2 b<|far e).trans (I.base.keep b o e n hb hx),fun b o e n hb hx=>?_,I.base.free,fun b o e hx=>?_,I.base.tups,I.base.frzs,I.base.tbls⟩,⟨_,hn',fun j y v' e1 e2 e3=>?_⟩,fun y c e=>?_,I.free,I.freeC,fun p hp=>?_,fun b ob e=>?_,by simpa using I.len⟩
   . obtain⟨sl,e1⟩:=I.base.slot b o e n hb hx;exact⟨sl,(hs.2 b<|far e).trans e1⟩
   . obtain⟨o',e1⟩:=I.base.there b o e hx;exact⟨o',(hs.2 b<|far e).trans e1⟩
   . by_cases hj:j=i
     . subst hj;rw[AH hiσ] at e2;cases e2
     . rw[Ax (AZ hj)] at e2;obtain⟨u',r',q⟩:=hl j y v' e1 e2 e3;refine⟨u',r',?_⟩
       rcases q with ⟨k,e⟩ | ⟨k,c,e,z⟩
       . refine .inl ⟨k,?_⟩;have ny:y≠x:=fun e=>hj<|zf8 hN e1<|e ▸ hi;simp[ny,e]
       exact .inr ⟨k,c,e,z.sameBut hs<|cne y c e⟩
   . obtain⟨w',z⟩:=I.cell y c e;exact⟨w',z.sameBut hs<|cne y c e⟩
   . obtain⟨e,n,ne,nf,d⟩:=I.pin p hp;exact⟨(hs.2 p.1 ne).trans e,n,ne,nf,d⟩
   . refine (I.hok b ob e).stay (fun c w' hc q=>(hs.2 c ?_).trans q) (fun _ q=>q) fun _ _ q=>q;rintro rfl
     rcases hc with rfl | hc
     . rw[I.free] at e;cases e
     rw[I.free] at hc;cases hc
 exact h _<|J.tok _
def hdX(X:Cx)(x:Addr)(W:Value->Shared->Prop):Cx:={ X with A:=X.A.mark (some<|.ref x),calm:=false,xe:=W }
def zr1(I:Inv X pins σ H s):Inv (hdX X x W) pins σ H s :=
 ⟨⟨I.ok.mod,I.ok.kind,I.ok.glob,I.ok.blt,I.ok.above,I.ok.inj,I.ok.has,I.ok.cab,fun z=>(by cases z),I.ok.frames,I.ok.stk,I.ok.exf,I.ok.bs,I.ok.bsz,I.ok.noex,I.ok.exfs,I.ok.funs,I.ok.frf⟩,I.os,I.bare,I.base,I.loc,I.cell,I.free,I.freeC,I.pin,I.hok,I.len⟩
def zfC(ok:X.Ok)(I:Inv (hdX X x W) pins σ H s):Inv X pins σ H s :=
 ⟨ok,I.os,I.bare,I.base,I.loc,I.cell,I.free,I.freeC,I.pin,I.hok,I.len⟩
variable {w:World}{st0:Stmt}{more:List Stmt}
section
variable {prog:Program} {env:Env}
def zkG{t:Expr}{n:Str}{rest:List ExceptHandler}{Q:Flow->Shared->Prop}
   (h:wpAny (model prog w) (A.mark<|some<|.ref x) (eval t env) (fun c s1=>c=.ref C/\Looks (model prog w) s1.heap (excMatches (.ref x)<|.ref C) true/\wpAny (model prog w) (A.mark<|some<|.ref x) (setFlight (.ref x) none) (fun _ s2 =>
         wpAny (model prog w) (A.mark<|some<|.ref x) (storeName env n<|.ref x) (fun _ s3 =>
           wpAny (model prog w) (A.mark<|some<|.ref x) (execs (st0::more) env) (fun f s4=>wpAny (model prog w) A (do bindName env n .none;unbindBehindTheSuite env n pos) (fun _ s5=>Q f s5) E s4)
             (AsSuiteRaised (model prog w) (A.mark<|some<|.ref x) env n pos<|hurt prog w A env x E) s3) (hurt prog w A env x E) s2) (hurt prog w A env x E) s1) (hurt prog w A env x E) s) :
   wpAny (model prog w) A (handleBy (.ref x) env (.ExceptHandler (some t) (some n) (st0::more) pos::rest)) Q E s:=by
 refine Fc (EI<|AL h (fun c s1 z=>?_) fun _ _ z=>z) (by intro q;cases q);obtain⟨rfl,L,k⟩:=z;exact L.here<|codeAny_handlers_suite_as k
end
def erF(n:Int):D:=.er false "" (some ("",n))
def DefX(P:Program)(w:World)(K:Frag)(mg:Str->Option Value)(base:Heap)(k:Nat)(x:Str)(n:Nat)(c fld:Str)(g:GN):Prop :=
 ∃ C fa fd ps,FnA K c C/\mg c=some (.ref C)/\(∀ h:Heap,K.In h->RaiseAt h C)/\FnOk P w K mg base (CX1 P w C fld) k fa fd ps (spX K erF n g)/\mg x=some (.ref fa)/\keepIn K (.ref fa)=true/\Binds K fd ps []
def zlm(g:GN)(mm:MA)(mh:MS):MS:=fun ρ st=>(mm ρ st).bind fun (ds,s1)=>(g ds s1).bind fun (d,s2)=>match d with
 | .er false _ _=>mh ρ s2
 | _=>some (.nx ρ,s2)
def zr2(j:Nat):Fl->Fl
 | .nx ρ=>.nx<|ρ.set j none
 | .bk ρ=>.bk<|ρ.set j none
 | .ct ρ=>.ct<|ρ.set j none
 | .rt d=>.rt d
def zll(c0:Str)(g:GN)(mm:MA)(i j:Nat)(c fld:Str)(mh:MS):MS:=fun ρ st=>(mm ρ st).bind fun (ds,s1)=>(g ds s1).bind fun (d,s2)=>match d with
 | .er false _ (some (_,n))=>(mh (ρ.set j<|some<|.er true c<|some (fld,n)) s2).map fun (f,s3)=>(zr2 j f,s3)
 | .er false _ none=>none
 | _=>some (.nx (ρ.set i<|some<|.tup [.str c0,d]),s2)
variable {o:HO}{p dx:Addr}{kb:List Addr}{st':Sto}
section
variable {H' H1:Hp} {ka:List Addr}
def EnvR.unset{ρ:Rho}(i:Nat)(h:EnvR K H io σ ρ):EnvR K H io (σ.set i none) (ρ.set i none):=by
 refine⟨by rw[Bx,Bx];exact h.len,fun j e q=>?_⟩
 by_cases hij:i=j
 . subst hij;rw[Co] at q
   split at q
   . split at q
     . cases q
     . cases q
   exact absurd rfl ‹_›
 rw[Ax hij] at q;obtain⟨v,e1,r⟩:=h.at_ j e q;exact⟨v,by rw[Ax hij];exact e1,r⟩
def zi5(E:Ext io ka H H')(hp:H p=none):Ext io ka H (upd H' p o) :=
 ⟨fun b u h n=>by rw[zan (zaq h hp)];exact E.keep b u h n,E.fresh,fun b u v h=>by rw[zan (zaq h hp)];exact E.frz b u v h⟩
def zhS{o u:HO}(S:StR K H io st)(hp:p ∉ io)(hu:H p=some u)(n1:∀ xs,u≠.tup xs)(n2:∀ o w,u≠.frz o w):StR K (upd H p o) io st:=by
 have ne:∀ {b:Addr} {v:HO},H b=some v->v≠u->b≠p:=fun {b v} q nv z=>by subst z;rw[hu] at q;exact nv (Aq q).symm
 have T:Kp H (upd H p o):=⟨fun a xs q=>by rw[zan (ne q fun z=>n1 xs z.symm)];exact q,fun a v w q=>by rw[zan (ne q fun z=>n2 v w z.symm)];exact q⟩
 refine⟨S.len,S.nd,fun n a ob h1 h2=>?_⟩;have:=OR.mono (ka:=[]) T (zan fun z=>hp (by rw[<-z];exact AF h1))<|S.ob n a ob h1 h2
 rwa [Al] at this
def zq4{fs:List (Str×V)}(S:StR K H io st)(hp:H p=some (.xd fs)):p ∉ io:=fun hm=>by
 obtain⟨n,hn,e⟩:=Cw hm;have e1:io[n]?=some p:=by rw[Ag hn,e]
 have h2:n < st.length:=by rw[<-S.len];exact hn
 have:=S.ob n p _ e1<|Ag h2;generalize st[n]=o at this
 cases o with
 | lst ds=>obtain⟨xs,q,_⟩:=this;rw[hp] at q;cases q
 | fz ds=>obtain⟨ob,xs,q,_⟩:=this;rw[hp] at q;cases q
 | dk ds=>obtain⟨xs,q,_⟩:=this;rw[hp] at q;cases q
 | dt ds=>obtain⟨xs,q,_⟩:=this;rw[hp] at q;cases q
 | fk ds=>obtain⟨ob,xs,q,_⟩:=this;rw[hp] at q;cases q
 | ft ds=>obtain⟨ob,xs,q,_⟩:=this;rw[hp] at q;cases q
 | ob C fs=>obtain⟨dx,xs,q,_⟩:=this;rw[hp] at q;cases q
 | sz n=>have q:H p=_:=this;rw[hp] at q;cases q
 | dz=>have q:H p=_:=this;rw[hp] at q;cases q
def zoQ{P:Program}{h:Heap}(S:StR K H io st)(A:HOk P w H h)(hp:H p=some (.ext<|gotE C p dx)):p ∉ io:=fun hm=>by
 obtain⟨n,hn,e⟩:=Cw hm;have e1:io[n]?=some p:=by rw[Ag hn,e]
 have h2:n < st.length:=by rw[<-S.len];exact hn
 have:=S.ob n p _ e1<|Ag h2;obtain⟨⟨ws,g⟩,_,_⟩:=A p _ hp;generalize st[n]=o at this
 cases o with
 | lst ds=>obtain⟨xs,q,_⟩:=this;rw[hp] at q;cases q
 | fz ds=>obtain⟨ob,xs,q,_⟩:=this;rw[hp] at q;cases q
 | dk ds=>obtain⟨xs,q,_⟩:=this;rw[hp] at q;cases q
 | dt ds=>obtain⟨xs,q,_⟩:=this;rw[hp] at q;cases q
 | fk ds=>obtain⟨ob,xs,q,_⟩:=this;rw[hp] at q;cases q
 | ft ds=>obtain⟨ob,xs,q,_⟩:=this;rw[hp] at q;cases q
 | ob C fs=>obtain⟨dx,xs,q,_⟩:=this;rw[hp] at q;cases q
 | sz n =>
   obtain⟨⟨o,es,ep,t,g2,x,_⟩,_,_⟩:=A p _ this;rw[g] at g2;cases g2;cases x.1
 | dz =>
   obtain⟨⟨o,es,ep,g2,x,_⟩,_,_⟩:=A p _ this;rw[g] at g2;cases g2;cases x.1
end
variable {n j:Nat}{g xn nm c0:Str}{gg:GN}{es:List Expr}{mm:MA}{mh:MS}{cpos epos np hpos px cp tp apos:Pos}
section
variable {p:Pos} {kk:Option Str}
def zn3(D:DefX X.prog X.w X.K X.mg X.base k g n y fld gg)(hs:X.stack=X.env::X.outer)(hf:X.env.frame=some X.env.locals)(hr:Room k X.A)(hg:Gl X g)(ha:SA X.nox (e::es) mm)(hl:ze3 n mm)(hgy:Gl X y)(hh:∀ x W,SSs (hdX X x W) (st0::more) mh)
   (hdy:(y==("__debug__":Str))=false:=by decide) (hdb:(g==("__debug__":Str))=false:=by decide) (he:starEach (e::es) X.env=(false,eval e X.env)::starEach es X.env:=by rfl) (hpl:(backTo cpos<|starEach es X.env).any (·.1)=false:=by rfl)
   (hsw:swapsWith (.Call (.Name g p) (e::es) [] cpos) none epos.line X.env=pure false:=by rfl) :
   SS X (.Try [.Expr (.Call (.Name g p) (e::es) [] cpos) epos] [.ExceptHandler (some<|.Name y np) none (st0::more) hpos] [] [] pos) (zlm gg mm mh):=by
 obtain⟨C,fa,fd,ps,hC,hmy,hR,F,hm,hk,hb⟩:=D;refine PS.imp (zot (hand:=fun _ D σ H=>tS X.K mh D σ H) hs hf F hr hg hm hk hb ha hR hgy hmy hdy hdb he hpl hsw fun pins x n σ H s D I q=>?_) fun N σ H h=>?_
 . refine thn (hh x (hurt X.prog X.w X.A X.env x X.xe) pins s σ H D (zr1 I) q) fun f s' z=>?_
   cases f with
   | next=>obtain⟨σ',H',I',q⟩:=z;exact⟨σ',H',zfC I.ok I',q⟩
   | brk=>obtain⟨σ',H',I',q⟩:=z;exact⟨σ',H',zfC I.ok I',q⟩
   | cont=>obtain⟨σ',H',I',q⟩:=z;exact⟨σ',H',zfC I.ok I',q⟩
   | ret u=>obtain⟨v,σ',H',I',r,q⟩:=z;exact⟨v,σ',H',zfC I.ok I',r,q⟩
 . obtain⟨ρ,st,io,f,st',En,S,e0,w⟩:=zcH.mp h;obtain⟨⟨ds,s1⟩,e1,e3⟩:=zaf e0;obtain⟨⟨d,s2⟩,e2,e4⟩:=zaf e3;dsimp only at e4;refine⟨ρ,st,io,ds,s1,En,S,e1,fun vs H1 ka X1 S1 R1=>⟨ds,s1,io++ka,d,s2,by rw[R1.length];exact hl _ _ _ _ e1,R1,S1,e2,fun v H2 kb X2 S2 R2=>?_,fun i ed H2 kb X2 S2=>⟨i,0,rfl,?_⟩⟩⟩
   . split at e4
     . exact absurd R2.1<|by decide
     . cases e4;exact w σ H2 (ka++kb) (X1.trans S1 X2) (by rw[<-Ak];exact S2) (by rw[<-Ak];exact (En.ext S X1).ext S1 X2)
   subst ed;exact zju ((En.ext S X1).ext S1 X2) S2 e4<|(w.on X1 S1).on X2 S2
end
def znM{H:Hp}{N:Ends}{f:Fl}(w:Wn K io H st' N (zr2 j f)):Wn K io H st' { nx:=fun σ H=>N.nx (σ.set j none) H,rt:=N.rt,bk:=fun σ H=>N.bk (σ.set j none) H,ct:=fun σ H=>N.ct (σ.set j none) H } f:=by
 cases f with
 | nx ρ=>exact fun σ' H' ka X' S' E'=>w (σ'.set j none) H' ka X' S'<|E'.unset j
 | bk ρ=>exact fun σ' H' ka X' S' E'=>w (σ'.set j none) H' ka X' S'<|E'.unset j
 | ct ρ=>exact fun σ' H' ka X' S' E'=>w (σ'.set j none) H' ka X' S'<|E'.unset j
 | rt d=>exact w
section
variable {p:Pos} {kk:Nat} {T:Addr}
def zkP{T':Addr}{s' s7:Shared}{H2 H3:Hp}{E:XK}{s2:Sto}{m:Int}(Th:Thrown X.prog X.w C fld X.stack H2 s E x dx T' m H3 s')(I2:Inv X pins σ H2 s)(I7:Inv X pins σ H3 s7)(X3:Ext io kb H2 H3)(S3:StR X.K H3 (io++kb) s2)(hC:FnA X.K c C) :
   ∃ H4,Inv X pins σ H4 s7/\Ext io kb H2 H4/\StR X.K H4 (io++kb) s2/\Rep X.K H4 (io++kb) (.ref x) (.er true c<|some (fld,m)):=by
 have hx:=Th.at_;have hd:=Th.dict;have nd:dx≠x:=zjv hd hx (by intro z;cases z);obtain⟨⟨ws,ox⟩,_,_⟩:=I7.hok x _ hx;obtain⟨mA,ns,_⟩:=I7.hok dx _ hd;obtain⟨od,god,_⟩:=zgP ns;have x2:H2 x=none:=I2.hok.fresh Th.new.1;have d2:H2 dx=none:=I2.hok.fresh Th.new.2.2;have I8:=Inv.er I7 hx ox rfl rfl rfl;have I9:=Inv.freeze I8 (d:=dx) (o:=od) (by rw[zan nd];exact hd) god (by simp) (by simp) (by simp) (by simp);have S4:=zhS (p:=x) (o:=.frz { cls:=.ref C,dict:=some dx,data:=.fields ws } (.ext<|ErZ C x<|some dx)) S3 (zoQ S3 I7.hok hx) hx (by simp) (by simp);have hd4:upd H3 x (.frz { cls:=.ref C,dict:=some dx,data:=.fields ws }<|.ext<|ErZ C x<|some dx) dx=some (.xd [(fld,.int m)]):=by rw[zan nd];exact hd
 have S5:=zhS (p:=dx) (o:=.frz od (.xd [(fld,.int m)])) S4 (zq4 S4 hd4) hd4 (by simp) (by simp);refine⟨_,I9,zi5 (zi5 X3 x2) d2,S5,rfl,x,C,{ cls:=.ref C,dict:=some dx,data:=.fields ws },dx,od,rfl,hC,?_,zaC⟩;rw[zan (AZ nd),zaC]
def zn2(D:DefX X.prog X.w X.K X.mg X.base k g n c fld gg)(hs:X.stack=X.env::X.outer)(hf:X.env.frame=some X.env.locals)(hr:Room k X.A)(hg:Gl X g)(ha:SA X.nox (e::es) mm)(hl:ze3 n mm)
   (hgy:Gl X y) (hmy:X.mg y=some (.ref T)) (hx:∀ C,FnA X.K c C->exmOne X.K (.ref C) (.ref T)=some true) (hN:X.N.Nodup) (hi:X.N[i]?=some xn) (hj:X.N[j]?=some nm) (hil:X.env.scope.names.lookup xn=some .local) (hjl:X.env.scope.names.lookup nm=some .local) (hh:∀ x W,SSs (hdX X x W) (st0::more) mh)
   (hdy:(y==("__debug__":Str))=false:=by decide) (hdb:(g==("__debug__":Str))=false:=by decide) (he:starEach (e::es) X.env=(false,eval e X.env)::starEach es X.env:=by rfl) (hpl:(backTo cpos<|starEach es X.env).any (·.1)=false:=by rfl)
   (hst:starEach [.Constant (.str c0) kk cp,.Call (.Name g p) (e::es) [] cpos] X.env=[(false,eval (.Constant (.str c0) kk cp) X.env),(false,eval (.Call (.Name g p) (e::es) [] cpos) X.env)]:=by rfl)
   {x1:Nat} (hsw:swapsWith (.Tuple [.Constant (.str c0) kk cp,.Call (.Name g p) (e::es) [] cpos] x1 tp) (some<|.Name xn px) apos.line X.env=pure false:=by rfl) :
   SS X (.Try [.Assign [.Name xn px] (.Tuple [.Constant (.str c0) kk cp,.Call (.Name g p) (e::es) [] cpos] x1 tp) apos] [.ExceptHandler (some<|.Name y np) (some nm) (st0::more) hpos] [] [] pos) (zll c0 gg mm i j c fld mh):=by
 obtain⟨C,fa,fd,ps,hC,hmC,hR,F,hm,hk,hb⟩:=D;intro pins s σ H N I h;obtain⟨ρ,st,io,f,st',En,S,e0,w⟩:=zcH.mp h;obtain⟨⟨ds,s1⟩,e1,e3⟩:=zaf e0;obtain⟨⟨d,s2⟩,e2,e4⟩:=zaf e3;clear e0 e3;dsimp only at e4;refine wpAny_Try_except (C2<|Fv (EW ?_) hsw);rw[hst];show wpAny _ _ (spliced ((false,eval (.Constant (.str c0) kk cp) X.env)::[(false,eval (.Call (.Name g p) (e::es) [] cpos) X.env)])) _ _ s;refine CJ (AL (zoD (X:=X.nox) pins s σ H (fun v H1=>v=.str c0/\H1=H) (I.wish _) ⟨rfl,rfl⟩) (fun u s3 z=>?_) fun _ _ z=>z.elim);obtain⟨v0,H1,I1,rv,rfl,rfl⟩:=z;refine CJ (BS<|zfx I1.unwish hg hm ?_ hdb);refine callWith_K (h₀:=X.base) I.ok.mod.kin hk (AL (ha cpos pins s3 σ H1 (fun vs H2=>∃ ka,Ext io ka H1 H2/\StR X.K H2 (io++ka) s1/\Reps X.K H2 (io++ka) vs ds) I1 ⟨ρ,st,io,ds,s1,En,S,e1,fun vs H2 ka X2 S2 R2=>⟨ka,X2,S2,R2⟩⟩) (fun us s4 z=>?_) fun _ _ z=>z.elim) he hpl;obtain⟨vs,H2,I2,r,ka,X2,S2,R2⟩:=z;refine⟨I2.unwish.kIn,AL (zh7 (W:=fun e s₁=>wpAny (model X.prog X.w) X.A (noteFrame e X.env) (fun _ s₂=>wpAny (model X.prog X.w) X.A (setFlight e none) (fun _ s₃=>wpAny (model X.prog X.w) X.A (handleBy e X.env [.ExceptHandler (some<|.Name y np) (some nm) (st0::more) hpos]) (SP X pins N) X.xe s₃) X.xe s₂) X.xe s₁) (Q:=fun v H3=>∃ kb,Ext (io++ka) kb H2 H3/\StR X.K H3 (io++ka++kb) s2/\Rep X.K H3 (io++ka++kb) v d) (E:=fun v _ H3=>∃ n,v=.int n 0/\d=erF n/\∃ kb,Ext (io++ka) kb H2 H3/\StR X.K H3 (io++ka++kb) s2) F hr hb I2.unwish r
   ⟨ds,s1,io++ka,d,s2,by rw[R2.length];exact hl _ _ _ _ e1,R2,S2,e2,fun v H3 kb X3 S3 R3=>⟨kb,X3,S3,R3⟩,fun i ed H3 kb X3 S3=>⟨i,rfl,ed,kb,X3,S3⟩⟩ fun e s' z=>?_) (fun u2 s5 z=>?_) fun _ _ z=>z⟩
 . obtain⟨x,dx,T',m,H3,rfl,Th⟩:=z;obtain⟨m',em,ed,kb,X3,S3⟩:=Th.wish;cases em;subst ed;obtain⟨⟨f1,s8⟩,e5,e6⟩:=zai e4;cases e6;refine landed hs hf I2.unwish Th fun s6 I6 ra _=>zkG (C:=T) ?_;refine B3 I6.ok.kind hgy (CQ (by rw[I6.ok.glob];exact I6.mod.glob.keeps I6.bk) hmy ?_) hdy;obtain⟨⟨ws,g1⟩,_,_⟩:=I6.hok x _ Th.at_;refine⟨rfl,exm_one I6.kIn ((Looks.ld g1).andThen .now)<|hx C hC,ra _ _ _ _ fun s7 I7=>?_⟩;obtain⟨H4,I8,X4,S4,R4⟩:=zkP Th I2.unwish I7 X3 S3 hC;refine zc5 I8 hN hj (.inl hjl) (v:=.ref x) rfl (fun s9 I9=>?_)<|.inr hjl;have E4:EnvR X.K H4 (io++ka++kb) (σ.set j<|some<|.ref x) (ρ.set j<|some<|.er true c<|some (fld,m)):=((En.ext S X2).ext S2 X4).set j R4;refine thn (hh x _ pins s9 _ H4 { nx:=fun σ H=>N.nx (σ.set j none) H,rt:=N.rt,bk:=fun σ H=>N.bk (σ.set j none) H,ct:=fun σ H=>N.ct (σ.set j none) H } (zr1 I9)<|zju E4 S4 e5<|znM<|(w.on X2 S2).on X4 S4) fun f s' z=>?_
   cases f with
   | next=>obtain⟨σ',H',I',q⟩:=z;exact zgU (zfC I.ok I') hN hj hjl fun s'' J=>⟨_,H',J,q⟩
   | brk=>obtain⟨σ',H',I',q⟩:=z;exact zgU (zfC I.ok I') hN hj hjl fun s'' J=>⟨_,H',J,q⟩
   | cont=>obtain⟨σ',H',I',q⟩:=z;exact zgU (zfC I.ok I') hN hj hjl fun s'' J=>⟨_,H',J,q⟩
   | ret u=>obtain⟨v,σ',H',I',r,q⟩:=z;exact zgU (zfC I.ok I') hN hj hjl fun s'' J=>⟨v,_,H',J,r,q⟩
 . obtain⟨v,H3,I3,rv2,kb,X3,S3,R3⟩:=z;refine DO ⟨by show (2:Nat)<=sizeLine;rw[Cv];omega,?_⟩;have hf3:H3 s5.heap.objs.size=none:=I3.hok.fresh<|Ah _;have I4:=I3.laid (a:=s5.heap.objs.size) (o:=.tup [.str c0,v]) (h':=s5.heap.push { cls:=.type "tuple",data:=.seq #[u,u2] }) (t':=s5.toks) (fun b q z=>Ac _ z) (Ah _) ⟨by show (2:Nat)<=sizeLine;rw[Cv];omega,[u,u2],.cons rv<|.cons rv2 .nil,⟨_,Ap _ rfl,rfl,rfl,_,rfl⟩⟩;obtain⟨X5,S5⟩:=zhZ (p:=s5.heap.objs.size) (o:=.tup [.str c0,v]) S3 hf3;have X35:=X3.trans S3 X5;have S5':StR X.K (upd H3 s5.heap.objs.size<|.tup [.str c0,v]) (io++ka++(kb++[])) s2:=by rw[<-Ak];exact S5
   refine zc5 I4 hN hi (.inl hil) (v:=.ref s5.heap.objs.size) rfl (fun s6 I6=>?_)<|.inr hil;refine B1<|B1 ⟨_,_,I6,?_⟩;have R5:Rep X.K (upd H3 s5.heap.objs.size<|.tup [.str c0,v]) (io++ka++(kb++[])) (.ref s5.heap.objs.size) (.tup [.str c0,d]):=by have q:=R3.ext S3 X5;rw[Ak (io++ka)] at q;exact⟨_,_,rfl,zaC,.cons rfl<|.cons q .nil⟩
   have e7:f=.nx (ρ.set i<|some<|.tup [.str c0,d])/\st'=s2:=by
     split at e4
     . exact absurd R3.1<|by decide
     . cases e4
     . cases e4;exact⟨rfl,rfl⟩
   obtain⟨rfl,rfl⟩:=e7;have w2:=(w.on X2 S2).on X35 S5';exact w2 _ _ [] Ext.refl S5'.nil (by rw[Al];exact ((En.ext S X2).ext S2 X35).set i R5)
end
end L2.MP
namespace L2.MP.Hb
open PySem L2.MP
end L2.MP.Hb
namespace L2.MP
open PySem
def zgr{f:D->Option PyData}(hf:∀ x:Int,f (.int x)=some (.int x)):∀ as:List Int,toPs f (as.map D.int)=some (as.map GF)
 | []=>rfl
 | x::as=>by rw[Ay,toPs,hf x,Ad,zgr hf as];rfl
def zdM{n:Nat}{st:Sto}{k:Nat}{as:List Int}(hk:st[k]?=some (.lst<|as.map D.int)):toP (n+2) st (.ref k)=some (.list<|as.map GF):=by rw[toP];simp only[zbs,hk,Ad];rw[zgr (fun x=>by rw[toP])];rfl
end L2.MP
namespace L2.MP.Hb
open PySem L2.MP
noncomputable abbrev sgD (c:Nat):D:=.str ⟨#[c]⟩
def zjg(c:Nat):∀ (k:Nat) (a:Array Nat),((A5 k #[c]).foldl (·++·) a).toList=a.toList++A5 k c
 | 0,a=>by simp
 | k+1,a=>by rw[Fd,Ei,zjg c k (a++#[c])];simp[Fd]
def zgC{c:Nat}{n:Int}(h1:1<=n):(repS ⟨#[c]⟩ n).cps.toList=A5 n.toNat c:=by
 unfold repS;rw[if_neg (by omega)]
 by_cases hn:n=1
 . subst hn;rfl
 . rw[if_neg]
   . exact zjg c n.toNat #[]
   . simp[hn];show ¬ ((⟨#[c]⟩:Str).length=0);show ¬ (1=0)
     decide
def zdd{c:Nat}{n:Int}{st:Sto}(h1:1<=n)(h2:n<=1000):mulA (sgD c) (.int n) st=some (.str (repS ⟨#[c]⟩ n),st):=by
 have hl:(repS ⟨#[c]⟩ n).length=n.toNat:=by rw[len_list,zgC h1,BG]
 have e1:(⟨#[c]⟩:Str).length=1:=rfl;have hz:sizeLine=16777216:=Cv;have:(decide (-(2 ^ 62)<=n)&&decide (n < 2 ^ 20)&&decide ((⟨#[c]⟩:Str).length*n.toNat<=sizeLine)&&decide ((repS ⟨#[c]⟩ n).length<=sizeLine))=true:=by rw[hl,e1,hz];rw[decide_eq_true (show -(2 ^ 62)<=n by omega),decide_eq_true (show n < 2 ^ 20 by omega),decide_eq_true (show 1*n.toNat<=16777216 by omega),decide_eq_true (show n.toNat<=16777216 by omega)];rfl
 show mulA (.str ⟨#[c]⟩) (.int n) st=_;unfold mulA orG mulD intD;dsimp only;rw[ze9];unfold zpO;dsimp only;rw[if_pos this]
end L2.MP.Hb
namespace L2.MP.Hd
open PySem L2.MP
def zcG:MS:=mS (mAsg (mB ixA (mV 0)<|mK<|.int 0)<|gNm 1)<|mS (mAsg (mB ixA (mV 0)<|mK<|.int 1)<|gNm 2)<|mR<|mU<|zac (mU<|zac (mV 1)<|zac (mB addD (mV 2)<|mK<|.int 1)<|mZ)<|zac (mU<|zac (mB addD (mV 1)<|mK<|.int 1)<|zac (mV 2)<|mZ)<|zac (mU<|zac (mV 1)<|zac (mB subD (mV 2)<|mK<|.int 1)<|mZ)<|zac (mU<|zac (mB subD (mV 1)<|mK<|.int 1)<|zac (mV 2)<|mZ)<|mZ
def zbt:GN:=fnM 3 zcG
def zc1:MS:=mS (mAsg (mB ixA (mB ixA (mV 0)<|mK<|.int 0)<|mK<|.int 2)<|gNm 2) (mS (mIf (mT<|zbG leD ltD (mK<|.int 0) (mV 1)<|zas lenD<|zac (mV 2)<|mZ) (mR<|mSlB (mB ixA (mV 2)<|mV 1) (zce<|mK<|.int 1)<|zdC)<|zdr)<|mR<|mU<|zac (mK<|.str "")<|zac (mK<|.str "")<|zac (mK<|.str "")<|zac (mK<|.str "")<|mZ)
def zbv:GN:=fnM 3 zc1
def zbd:MS:=putA (mV 1) (mU<|zac (mV 2)<|zac (mV 3)<|mZ)<|mV 4
def zcv:MS:=mS (mAsg (zo2 true)<|gNm 1)<|mS (mF (mWA<|mV 0) (gTp 3<|gC (gNm 2)<|gC (gNm 3)<|gC (gNm 4)<|gN0)<|zbd)<|mR<|mV 1
def zbq:GN:=fnM 5 zcv
def zaF:MS:=mIf (mT<|mB inA (mV 5)<|mV 1) (mExp<|mApp (mV 3)<|zac (mB ixA (zas zbv<|zac (mV 0)<|zac (mB ixA (mV 1)<|mV 5)<|mZ)<|mB modD (mB addD (mV 4)<|mK<|.int 2)<|mK<|.int 4)<|mZ) (mExp<|mApp (mV 3)<|zac (mK<|.str "")<|mZ)
def zc3:MS:=mS (mAsg (mL<|mZ)<|gNm 3)<|mS (mF (ziF<|zas zbt<|zac (mV 2)<|mZ) (gTp 2<|gC (gNm 4)<|gC (gNm 5)<|gN0)<|zaF)<|mR<|mV 3
def zbp:GN:=fnM 6 zc3
def zaE:ME:=mB ixA (mV 2)<|mV 0
def zaD:MT:=zjw (mT<|mB eqD (mV 0)<|mV 1) (mT<|mB neD (mV 0)<|mK<|.str "")
def zbR:MS:=mR<|zas sumC<|zac (zcf (mZip (mV 1)<|mV 2) 2 [0] (gTp 2<|gC (gNm 0)<|gC (gNm 1)<|gN0) zaD<|zaE)<|mZ
def zaK:GN:=fnM 3 zbR
def zcu:MS:=mS (mAsg (mIte (mT<|mB ltD (mV 1)<|zas lenD<|zac (mV 0)<|mZ) (mB ixA (mV 0)<|mV 1)<|mK<|.int 0)<|gNm 2)<|mS (mAsg (mB mulB (mB mulB (mB mulB (mB mulB (mB powB (mK<|.int 10)<|mK<|.int 60)<|mB powB (mK<|.int 10)<|mK<|.int 60)<|mB powB (mK<|.int 10)<|mK<|.int 60)<|mB powB (mK<|.int 10)<|mK<|.int 60)<|mB powB (mK<|.int 10)<|mK<|.int 60)<|gNm 3)<|mS (mAsg (mB mulB (mB modD (mV 2)<|mV 3)<|zas intC<|zac (mB geD (mV 2)<|mB powB (mK<|.int 10)<|mK<|.int 18)<|mZ)<|gNm 4)<|mR<|mL<|zac (mV 4)<|zac (mB modD (mB addD (mB modD (mV 2)<|mK<|.int 2305843009213693951)<|mB mulA (mK<|.int 7919)<|mV 1)<|mK<|.int 2305843009213693951)<|zac (mK<|.int 0)<|mZ
def zcq:GN:=fnM 5 zcu
def zbJ:MS:=mS (mIf (mT<|mB gtD (mB ixA (mV 0)<|mK<|.int 0)<|mK<|.int 0) (mS (mAsg (mB modD (mB ixA (mV 0)<|mK<|.int 0)<|mV 1)<|gNm 2)<|mS (putA (mV 0) (mK<|.int 0)<|mB zjx (mB ixA (mV 0)<|mK<|.int 0)<|mV 1)<|mR<|mV 2)<|zdr)<|mS (putA (mV 0) (mK<|.int 2)<|mB addD (mB ixA (mV 0)<|mK<|.int 2)<|mK<|.int 1)<|mS (mAsg (mB modD (mB mulA (mB addD (mB addD (mB ixA (mV 0)<|mK<|.int 1)<|mB mulA (mB mulA (mK<|.int 104729)<|mB ixA (mV 0)<|mK<|.int 2)<|mB ixA (mV 0)<|mK<|.int 2)<|mB mulA (mK<|.int 31)<|mB ixA (mV 0)<|mK<|.int 2)<|mK<|.int 48271)<|mK<|.int 2305843009213693921)<|gNm 3)<|mS (mAsg (mB modD (mB mulA (mV 3)<|mB addD (mB modD (mV 3)<|mK<|.int 1000003)<|mB mulA (mK<|.int 39373)<|mB ixA (mV 0)<|mK<|.int 2)<|mK<|.int 2305843009213693907)<|gNm 3)<|mR<|mB modD (mB addD (mB zjx (mV 3)<|mK<|.int 65537)<|mB zjx (mV 3)<|mK<|.int 1000033)<|mV 1
def zae:GN:=fnM 4 zbJ
def za4:ME:=mB mulA (mB ixA (mV 1)<|mV 2)<|mB addD (mV 0)<|mK<|.int 1
def za3:ME:=mB mulA (mB ixA (mV 1)<|mB modD (mB addD (mV 2)<|mB mulA (mV 3)<|mV 0)<|mK<|.int 26)<|mB addD (mK<|.int 1)<|mB modD (mB addD (mB mulA (mV 0)<|mV 0)<|mV 2)<|mK<|.int 8
def zcs:MS:=mS (mAsg (mK<|.str "abcdefghijklmnopqrstuvwxyz")<|gNm 2) (mS (mAsg (mU<|zac (zas zae<|zac (mV 0)<|zac (mK<|.int 26)<|mZ)<|zac (mB ixA (mL<|zac (mK<|.int 1)<|zac (mK<|.int 3)<|zac (mK<|.int 5)<|zac (mK<|.int 7)<|zac (mK<|.int 9)<|zac (mK<|.int 11)<|mZ)<|zas zae<|zac (mV 0)<|zac (mK<|.int 6)<|mZ)<|mZ)<|gTp 2<|gC (gNm 3)<|gC (gNm 4)<|gN0)<|mS (mIf (mT<|mB eqD (zas zae<|zac (mV 0)<|zac (mK<|.int 3)<|mZ)<|mK<|.int 0) (mR<|zcf (mR1<|mV 1) 1 [2,3] (gNm 0) zbF<|za4)<|zdr)<|mR<|zas zca<|zac (zcf (mR1<|mV 1) 1 [2,3,4] (gNm 0) zbF<|za3)<|mZ)
def zco:GN:=fnM 5 zcs
def za0:ME:=mB ixA (mB addD (mL<|zac (mK<|.str "")<|mZ)<|mV 1) (zas zae<|zac (mV 2)<|zac (mB addD (zas lenD<|zac (mV 1)<|mZ)<|mK<|.int 1)<|mZ)
def zd7:MS:=mS (mAsg (mB ixA (mL<|zac (mK<|.str "")<|zac (mB ixA (mK<|.str "abcdefghijklmnopqrstuvwxyz0123456789")<|zas zae<|zac (mV 0)<|zac (mK<|.int 36)<|mZ)<|mZ)<|zas zae<|zac (mV 0)<|zac (mK<|.int 2)<|mZ)<|gNm 2) (mS (mAsg (zcf (mR1<|mK<|.int 4) 1 [1,0] (gNm 0) zbF<|za0)<|gNm 3)<|mR<|mU<|zac (mV 2)<|zac (mB ixA (mV 3)<|mK<|.int 0)<|zac (mB ixA (mV 3)<|mK<|.int 1)<|zac (mB ixA (mV 3)<|mK<|.int 2)<|zac (mB ixA (mV 3)<|mK<|.int 3)<|mZ)
def zcQ:GN:=fnM 4 zd7
def za5:ME:=mU<|zac (mV 0)<|zac (mB ixA (mL<|zac (mK<|.int 1)<|zac (mK<|.int 2)<|zac (mK<|.int 1)<|zac (mB addD (mK<|.int 1)<|zas zae<|zac (mV 1)<|zac (mK<|.int 4)<|mZ)<|mZ)<|zas zae<|zac (mV 1)<|zac (mK<|.int 4)<|mZ)<|mZ
def zbi:ME:=zas zcQ<|zac (mV 1)<|zac (mV 2)<|mZ
def zct:MS:=mS (mAsg (zas zco<|zac (mV 0)<|zac (mB addD (mK<|.int 1)<|zas zae<|zac (mV 0)<|zac (mK<|.int 4)<|mZ)<|mZ)<|gNm 1)<|mS (mAsg (mB ixA (mL<|zac (mK<|.int 1)<|zac (mK<|.int 1)<|zac (mK<|.int 2)<|zac (mK<|.int 2)<|zac (mK<|.int 1)<|zac (mK<|.int 3)<|zac (mK<|.int 4)<|zac (mK<|.int 2)<|mZ)<|zas zae<|zac (mV 0)<|zac (mK<|.int 8)<|mZ)<|gNm 2)<|mS (mAsg (zas zdK<|zac (zcf (mWA<|mV 1) 1 [0] (gNm 0) zbF<|za5)<|mZ)<|gNm 3)<|mS (mAsg (zcf (mR1<|mB addD (mK<|.int 1)<|zas zae<|zac (mV 0)<|zac (mB ixA (mL<|zac (mK<|.int 3)<|zac (mK<|.int 5)<|zac (mK<|.int 5)<|zac (mK<|.int 12)<|mZ)<|zas zae<|zac (mV 0)<|zac (mK<|.int 4)<|mZ)<|mZ) 1 [0,1] (gNm 0) zbF<|zbi)<|gNm 4)<|mS (mIf (mT<|mB eqD (zas zae<|zac (mV 0)<|zac (mK<|.int 6)<|mZ)<|mK<|.int 0) (mExp<|mApp (mV 4)<|zac (mB ixA (mV 4)<|zas zae<|zac (mV 0)<|zac (zas lenD<|zac (mV 4)<|mZ)<|mZ)<|mZ)<|zdr)<|mR<|mU<|zac (mV 2)<|zac (mV 3)<|zac (zas zdK<|zac (mV 4)<|mZ)<|mZ
def zcp:GN:=fnM 5 zct
def zaT:MS:=mS (mAsg (mU<|zac (zas zae<|zac (mV 0)<|zac (mB ixA (mV 2)<|mK<|.int 0)<|mZ)<|zac (zas zae<|zac (mV 0)<|zac (mB ixA (mV 2)<|mK<|.int 1)<|mZ)<|mZ)<|gNm 6)<|putA (mV 4) (mV 6)<|zas zae<|zac (mV 0)<|zac (zas lenD<|zac (mB ixA (mV 1)<|mK<|.int 2)<|mZ)<|mZ
def zaU:ME:=mB addD (mV 0)<|mU<|zac (mB zkJ (mV 1)<|mV 0)<|mZ
def zcr:MS:=mS (mAsg (zo2 true)<|gNm 4)<|mS (mF (mR1<|zas zae<|zac (mV 0)<|zac (mB addD (mV 3)<|mK<|.int 1)<|mZ) (gNm 5)<|zaT)<|mR<|zas zdK<|zac (zas zca<|zac (zcf (mWK<|mV 4) 1 [4] (gNm 0) zbF<|zaU)<|mZ)<|mZ
def za8:GN:=fnM 7 zcr
def zcA:MS:=mS (mAsg (zas zcp<|zac (mV 0)<|mZ)<|gNm 1)<|mS (mAsg (mU<|zac (mB addD (mK<|.int 1)<|zas zae<|zac (mV 0)<|zac (mK<|.int 5)<|mZ)<|zac (mB addD (mK<|.int 1)<|zas zae<|zac (mV 0)<|zac (mB ixA (mL<|zac (mK<|.int 5)<|zac (mK<|.int 5)<|zac (mK<|.int 5)<|zac (mK<|.int 12)<|mZ)<|zas zae<|zac (mV 0)<|zac (mK<|.int 4)<|mZ)<|mZ)<|mZ)<|gNm 2)<|mS (mIf (mT<|mB eqD (zas zae<|zac (mV 0)<|zac (mK<|.int 2)<|mZ)<|mK<|.int 0) (mAsg (zmQ (mV 2)<|mNeg<|mK<|.int 1)<|gNm 2)<|zdr)<|mR<|mU<|zac (mV 1)<|zac (mV 2)<|zac (zas za8<|zac (mV 0)<|zac (mV 1)<|zac (mV 2)<|zac (mB ixA (mL<|zac (mK<|.int 1)<|zac (mK<|.int 2)<|zac (mK<|.int 6)<|mZ)<|zas zae<|zac (mV 0)<|zac (mK<|.int 3)<|mZ)<|mZ)<|mZ
def zdj:GN:=fnM 3 zcA
def zbh:ME:=mU<|zac (mU<|zac (mV 0)<|zac (mV 1)<|mZ)<|zac (mV 2)<|mZ
def zdw:MS:=mR<|zas zpt<|zac (zcf (mWA<|mV 0) 3 [] (gTp 3<|gC (gNm 0)<|gC (gNm 1)<|gC (gNm 2)<|gN0) zbF<|zbh)<|mZ
def zbP:GN:=fnM 1 zdw
def zd6:MS:=mS (mAsg (mV 0)<|gTp 2<|gC (gNm 2)<|gC (gNm 3)<|gN0)<|mR<|mB ixA (mL<|zac (mU<|zac (mV 2)<|zac (mB addD (mV 3)<|mK<|.int 1)<|mZ)<|zac (mU<|zac (mB addD (mV 2)<|mK<|.int 1)<|zac (mV 3)<|mZ)<|zac (mU<|zac (mV 2)<|zac (mB subD (mV 3)<|mK<|.int 1)<|mZ)<|zac (mU<|zac (mB subD (mV 2)<|mK<|.int 1)<|zac (mV 3)<|mZ)<|mZ)<|mV 1
def zaY:GN:=fnM 4 zd6
def zaO:MS:=mS (mAsg (zmT (mV 1)<|zas zaY<|zac (mV 2)<|zac (mV 6)<|mZ)<|gNm 7) (mS (mAsg (mB ixA (mB ixA (mV 4)<|mV 3)<|mB addD (mV 6)<|mK<|.int 1)<|gNm 8)<|mIf (zjw (mT<|mB znH (mV 7)<|mK .non)<|zjw (mT<|mB neD (mV 8)<|mK<|.str "")<|mT<|mB eqD (mB ixA (mB ixA (mV 4)<|mV 7)<|mB addD (mB modD (mB addD (mV 6)<|mK<|.int 2)<|mK<|.int 4)<|mK<|.int 1)<|mV 8) (mExp<|mApp (mV 5)<|zac (mV 6)<|mZ)<|zdr)
def zdv:MS:=mS (mPar 4 5<|zac (mB ixA (mB ixA (mV 0)<|mK<|.int 0)<|mK<|.int 2)<|zac (mL<|mZ)<|mZ)<|mS (mF (mR1<|mK<|.int 4) (gNm 6)<|zaO)<|mR<|mV 5
def zcn:GN:=fnM 9 zdv
def zbI:ME:=mB ixA (mV 1)<|mB ixA (mB ixA (mB ixA (mB ixA (mV 2)<|mK<|.int 0)<|mK<|.int 2)<|mV 3)<|mB addD (mV 0)<|mK<|.int 1
def zd8:MS:=mS (mAsg (zas zcn<|zac (mV 0)<|zac (mV 1)<|zac (mV 2)<|zac (mV 3)<|mZ)<|gNm 4)<|mS (mIf (mT<|mB eqD (mV 4)<|mL<|mZ) (mR<|mK<|.int 0)<|zdr)<|mS (mAsg (zas zpu<|zac (mB ixA (mB ixA (mV 0)<|mK<|.int 0)<|mK<|.int 1)<|mZ)<|gNm 5)<|mR<|zas sumC<|zac (zcf (mWA<|mV 4) 1 [5,0,3] (gNm 0) zbF<|zbI)<|mZ
def zbH:GN:=fnM 6 zd8
end L2.MP.Hd
namespace L2.MP
open PySem
@[simp] theorem zs8(n:Nat)(ds:List D):rho n ds=ds.map some++A5 (n - ds.length) none:=rfl
@[simp] theorem zr6(ρ:Rho)(n:Nat)(l:List Nat):rho0 ρ n l=A5 n none++l.map fun (j:Nat)=>(ρ[j]?).join:=rfl
variable {a b:Int}{st:Sto}
@[simp] theorem ztz:ltD (.int a) (.int b) st=some (.bl (decide (a < b)),st):=rfl
@[simp] theorem ztA:leD (.int a) (.int b) st=some (.bl (decide (a<=b)),st):=rfl
@[simp] theorem ztD:gtD (.int a) (.int b) st=some (.bl (decide (b < a)),st):=rfl
@[simp] theorem ztE:geD (.int a) (.int b) st=some (.bl (decide (b<=a)),st):=rfl
@[simp] theorem ztC:intC [.int a] st=some (.int a,st):=rfl
@[simp] theorem ztB{b:Bool}:intC [.bl b] st=some (.int (if b then 1 else 0),st):=rfl
end L2.MP
namespace L2.MP.Hd
open PySem L2.MP
def PotD(n m:Nat)(st:Sto):Prop:=∃ a b c:Int,st[n]?=some (.lst [.int a,.int b,.int c])/\0<=a/\0<=b/\b < 2305843009213693951/\0<=c/\c<=(m:Int)
variable {n m:Nat}{st:Sto}
def PotD.lt(h:PotD n m st):n < st.length:=by obtain⟨a,b,c,e,_⟩:=h;exact getElem?_lt e
def PotD.ne(h:PotD n m st):st.length≠n:=Bs h.lt
def PotD.gr{st':Sto}(h:PotD n m st)(g:Gr st st'):PotD n m st':=by obtain⟨a,b,c,e,r⟩:=h;exact⟨a,b,c,(g.old n<|getElem?_lt e).trans e,r⟩
variable {k:Nat}
def PotD.up(h:PotD n m st)(hk:m<=k):PotD n k st:=by obtain⟨a,b,c,e,h1,h2,h3,h4,h5⟩:=h;exact⟨a,b,c,e,h1,h2,h3,h4,by omega⟩
def PotD.set{n m l:Nat}{st:Sto}{o:O}(h:PotD n m st)(hl:l≠n):PotD n m (st.set l o):=by obtain⟨a,b,c,e,r⟩:=h;exact⟨a,b,c,by rw[Ax hl];exact e,r⟩
variable {a b:Int}
def zrY(h:in64 a=true):mulA (.int a) (.int b) st=some (.int (a*b),st):=by simp[mulA,orG,mulD,intD,h,zfa]
def mul_r(h:in64 b=true):mulA (.int a) (.int b) st=some (.int (a*b),st):=by simp[mulA,orG,mulD,intD,h,zfa]
def zhA(h:0 < b):modD (.int a) (.int b) st=some (.int (a % b),st):=by simp[modD,intD,h]
def zrw(h:0 < b)(h2:b < 340282366920938463463374607431768211456):zjx (.int a) (.int b) st=some (.int (a / b),st):=by simp[zjx,intD,h,h2]
variable {many:Int}{s1:Sto}
def zqS{c:Int}(i0:ixA (.ref n) (.int 0) st=some (.int a,st))(ha:0 < a)(e1:modD (.int a) (.int many) st=some (.int b,st))(e2:zjx (.int a) (.int many) st=some (.int c,st))(hs:setD (.ref n) (.int 0) (.int c) st=some s1):zbJ [some (.ref n),some (.int many),none,none] st=some (.rt (.int b),s1):=by
 unfold zbJ;refine zdy ?_;have et:mT (mB gtD (mB ixA (mV 0)<|mK<|.int 0)<|mK<|.int 0) [some (.ref n),some (.int many),none,none] st=some (true,st):=by simp[zaS,i0,ha]
 rw[znJ,et];refine zal (ρ1:=[some (.ref n),some (.int many),some (.int b),none]) (s1:=st) (by simp[zaS,i0,e1]) ?_;refine zal (ρ1:=[some (.ref n),some (.int many),some (.int b),none]) (s1:=s1) (by simp[zaS,i0,e2,hs]) ?_;simp[zaS]
variable {x2 x3:Int}
def zq6{c d m1 m2 x1 x4 x5 x6 x7 x8 r:Int}(i0:ixA (.ref n) (.int 0) st=some (.int a,st))(ha:¬ 0 < a)(i2:ixA (.ref n) (.int 2) st=some (.int c,st))(hd:c+1=d)(hs:setD (.ref n) (.int 2) (.int d) st=some s1)
   (j1:ixA (.ref n) (.int 1) s1=some (.int b,s1)) (j2:ixA (.ref n) (.int 2) s1=some (.int d,s1))
   (e1:mulA (.int 104729) (.int d) s1=some (.int x1,s1)) (e2:mulA (.int x1) (.int d) s1=some (.int x2,s1)) (e3:mulA (.int 31) (.int d) s1=some (.int x3,s1)) (e4:mulA (.int<|b+x2+x3) (.int 48271) s1=some (.int x4,s1)) (e5:modD (.int x4) (.int 2305843009213693921) s1=some (.int m1,s1))
   (e6:modD (.int m1) (.int 1000003) s1=some (.int x5,s1)) (e7:mulA (.int 39373) (.int d) s1=some (.int x6,s1)) (e8:mulA (.int m1) (.int<|x5+x6) s1=some (.int x7,s1)) (e9:modD (.int x7) (.int 2305843009213693907) s1=some (.int m2,s1))
   (e10:zjx (.int m2) (.int 65537) s1=some (.int x8,s1)) {x9:Int} (e11:zjx (.int m2) (.int 1000033) s1=some (.int x9,s1)) (e12:modD (.int<|x8+x9) (.int many) s1=some (.int r,s1)) :
   zbJ [some (.ref n),some (.int many),none,none] st=some (.rt (.int r),s1):=by
 unfold zbJ;have et:mT (mB gtD (mB ixA (mV 0)<|mK<|.int 0)<|mK<|.int 0) [some (.ref n),some (.int many),none,none] st=some (false,st):=by simp[zaS,i0,ha]
 refine zal (ρ1:=[some (.ref n),some (.int many),none,none]) (s1:=st) (by rw[znJ,et];rfl) ?_;refine zal (ρ1:=[some (.ref n),some (.int many),none,none]) (s1:=s1) (by simp[zaS,i2,hd,hs]) ?_;refine zal (ρ1:=[some (.ref n),some (.int many),none,some (.int m1)]) (s1:=s1) (by simp[zaS,j1,j2,e1,e2,e3,e4,e5]) ?_;refine zal (ρ1:=[some (.ref n),some (.int many),none,some (.int m2)]) (s1:=s1) (by simp[zaS,j2,e6,e7,e8,e9]) ?_;simp[zaS,e10,e11,e12]
def za1(h:PotD n m st)(hm:m<=1000000)(h1:0 < many)(h2:many < 18446744073709551616):∃ (r:Int) (st':Sto),Y5 (zae [.ref n,.int many] st=some (.int r,st')) (0<=r) (r < many) (PotD n (m+1) st') (Fr n st st'):=by
 obtain⟨a,b,c,e,ha,hb,hb2,hc,hc2⟩:=h;have hn:=getElem?_lt e;have i0:ixA (.ref n) (.int 0) st=some (.int a,st):=zcl e (by decide) rfl
 by_cases h0:0 < a
 . have hs:setD (.ref n) (.int 0) (.int<|a / many) st=some (st.set n<|.lst [.int (a / many),.int b,.int c]):=by simp[setD,e,ixN]
   have ed:zjx (.int a) (.int many) st=some (.int (a / many),st):=zrw h1 (by omega);exact⟨a % many,_,zbL<|zqS i0 h0 (zhA h1) ed hs,B2 _<|by omega,BH _ h1,⟨a / many,b,c,by simp[hn],Int.ediv_nonneg ha<|by omega,hb,hb2,hc,by omega⟩,Fn _ _ _⟩
 . have i2:ixA (.ref n) (.int 2) st=some (.int c,st):=zcl e (by decide) rfl;obtain⟨d,hd⟩:∃ d,c+1=d:=⟨_,rfl⟩
   have hs:setD (.ref n) (.int 2) (.int d) st=some (st.set n<|.lst [.int a,.int b,.int d]):=by simp[setD,e,ixN]
   have e':(st.set n<|.lst [.int a,.int b,.int d])[n]?=some (.lst [.int a,.int b,.int d]):=by simp[hn]
   have f:Fr n st (st.set n<|.lst [.int a,.int b,.int d]):=Fn _ _ _;generalize st.set n (.lst [.int a,.int b,.int d])=s1 at hs e' f;have j1:ixA (.ref n) (.int 1) s1=some (.int b,s1):=zcl e' (by decide) rfl;have j2:ixA (.ref n) (.int 2) s1=some (.int d,s1):=zcl e' (by decide) rfl;have k1:in64 d=true:=by unfold in64;simp;omega
   have k2:in64 48271=true:=by decide
   have k3:∀ x:Int,in64 (x % 2305843009213693921)=true:=fun x=>by have h1:=B2 x (show (2305843009213693921:Int)≠0 by decide);have h2:=BH x (show (0:Int) < 2305843009213693921 by decide);unfold in64;simp;omega
   refine⟨_,s1,zbL<|zq6 i0 h0 i2 hd hs j1 j2 (mul_r k1) (mul_r k1) (mul_r k1) (mul_r k2) (zhA<|by decide) (zhA<|by decide) (mul_r k1) (zrY<|k3 _) (zhA<|by decide) (zrw (by decide)<|by decide) (zrw (by decide)<|by decide)<|zhA h1,B2 _<|by omega,BH _ h1,⟨a,b,d,e',ha,hb,hb2,by omega,by omega⟩,f⟩
def zrs(st:Sto):∃ F:Int,Y3 (0 < F) (F.natAbs < 2 ^ 1100) (∀ ρ:Rho,mB mulB (mB mulB (mB mulB (mB mulB (mB powB (mK<|.int 10)<|mK<|.int 60)<|mB powB (mK<|.int 10)<|mK<|.int 60)<|mB powB (mK<|.int 10)<|mK<|.int 60)<|mB powB (mK<|.int 10)<|mK<|.int 60) (mB powB (mK<|.int 10)<|mK<|.int 60) ρ st=some (.int F,st)) :=
 ⟨10 ^ 300,by decide +kernel,by decide +kernel,fun ρ=>by
   have e0:mB powB (mK<|.int 10) (mK<|.int 60) ρ st=some (.int (10 ^ 60),st):=by
     rw[zhy];simp only[znB,Ad];have:(decide ((0:Int)<=60)&&decide ((AV 10:Int)*60<=2 ^ 27))=true:=by decide +kernel
     unfold powB intD;dsimp only;rw[if_pos this];rfl
   have e1:∀ (i j k:Nat),i+j=k->(decide (AV ((10:Int) ^ i)<=2 ^ 20)&&decide (AV ((10:Int) ^ j)<=2 ^ 20))=true->mulB (.int<|10 ^ i) (.int<|10 ^ j) st=some (.int (10 ^ k),st):=fun i j k hk h=>by unfold mulB intD;dsimp only;rw[if_pos h,<-hk,Int.pow_add]
   have q1:=e1 60 60 120 rfl (by decide +kernel);have q2:=e1 120 60 180 rfl (by decide +kernel);have q3:=e1 180 60 240 rfl (by decide +kernel);have q4:=e1 240 60 300 rfl (by decide +kernel);have h0:=e0;generalize (10:Int) ^ 60=a1 at *;generalize (10:Int) ^ 120=a2 at *;generalize (10:Int) ^ 180=a3 at *;generalize (10:Int) ^ 240=a4 at *;generalize (10:Int) ^ 300=a5 at *;simp only[zhy,znB,Ad] at e0;simp only[zhy,znB,Ad,e0,q1,q2,q3,q4]⟩
theorem zrQ(ρ:Rho)(st:Sto):mB powB (mK<|.int 10) (mK<|.int 18) ρ st=some (.int 1000000000000000000,st):=rfl
def zmL(ha:AV a<=2 ^ 20)(hb:b=0\/b=1):mulB (.int a) (.int b) st=some (.int (a*b),st):=by
 have h1:AV b<=2 ^ 20:=by rcases hb with rfl | rfl <;> decide +kernel
 unfold mulB intD;dsimp only;rw[if_pos];rw[decide_eq_true ha,decide_eq_true h1];rfl
variable {F:Int}
def zpD(h0:0<=a)(h1:a < F)(hF:F.natAbs < 2 ^ 1100):AV a<=2 ^ 20:=by
 have h2:a.natAbs < F.natAbs:=by omega
 exact Aw (PyProof.Rows.intBits_le<|BV h2 hF)<|by decide
variable {ρ:Rho}
theorem znA{c:MT}{m n:ME}:mIte c m n ρ st=(c ρ st).bind fun p=>if p.1=true then m ρ p.2 else n ρ p.2:=rfl
variable {ds:List D}{cell:Int}
def znw{k own:Int}
   (e0:mIte (mT<|mB ltD (mV 1)<|zas lenD<|zac (mV 0)<|mZ) (mB ixA (mV 0)<|mV 1) (mK<|.int 0) [some (.kl ds),some (.int k),none,none,none] st=some (.int cell,st))
   (e1:mB mulB (mB mulB (mB mulB (mB mulB (mB powB (mK<|.int 10)<|mK<|.int 60)<|mB powB (mK<|.int 10)<|mK<|.int 60)<|mB powB (mK<|.int 10)<|mK<|.int 60)<|mB powB (mK<|.int 10)<|mK<|.int 60) (mB powB (mK<|.int 10)<|mK<|.int 60) [some (.kl ds),some (.int k),some (.int cell),none,none] st=some (.int F,st))
   (e2:mB mulB (mB modD (mV 2)<|mV 3) (zas intC<|zac (mB geD (mV 2)<|mB powB (mK<|.int 10)<|mK<|.int 18)<|mZ) [some (.kl ds),some (.int k),some (.int cell),some (.int F),none] st=some (.int own,st))
   (e3:modD (.int cell) (.int 2305843009213693951) st=some (.int x2,st)) (e4:mulA (.int 7919) (.int k) st=some (.int x3,st)) (e5:modD (.int<|x2+x3) (.int 2305843009213693951) st=some (.int b,st)) :
   zcu [some (.kl ds),some (.int k),none,none,none] st=some (.rt (.ref st.length),st++[.lst [.int own,.int b,.int 0]]):=by
 unfold zcu;refine zal (ρ1:=[some (.kl ds),some (.int k),some (.int cell),none,none]) (s1:=st) (by rw[zfM,e0];rfl) ?_;refine zal (ρ1:=[some (.kl ds),some (.int k),some (.int cell),some (.int F),none]) (s1:=st) (by rw[zfM,e1];rfl) ?_;refine zal (ρ1:=[some (.kl ds),some (.int k),some (.int cell),some (.int F),some (.int own)]) (s1:=st) (by rw[zfM,e2];rfl) ?_;simp[zaS,e3,e4,e5]
def zqT{k:Int}(h0:0 < F)(hF:F.natAbs < 2 ^ 1100):∃ own:Int,0<=own/\mB mulB (mB modD (mV 2)<|mV 3) (zas intC<|zac (mB geD (mV 2)<|mB powB (mK<|.int 10)<|mK<|.int 18)<|mZ) [some (.kl ds),some (.int k),some (.int cell),some (.int F),none] st=some (.int own,st):=by
 have m0:=B2 cell (show F≠0 by omega);have m1:=BH cell h0;have e1:=zhA (a:=cell) (st:=st) h0;generalize cell % F=x at m0 m1 e1;have hb:=zpD m0 m1 hF;have e18:=zrQ [some (.kl ds),some (.int k),some (.int cell),some (.int F),none] st;have ei:∃ j:Int,(j=0\/j=1)/\zas intC (zac (mB geD (mV 2)<|mB powB (mK<|.int 10)<|mK<|.int 18)<|mZ) [some (.kl ds),some (.int k),some (.int cell),some (.int F),none] st=some (.int j,st):=by generalize mB powB (mK<|.int 10) (mK<|.int 18)=P18 at e18;refine⟨if decide (1000000000000000000<=cell)=true then 1 else 0,by split <;> simp,?_⟩;rw[zlG,zlF,zhy];simp only[znz,Ed,CS,Ad,e18,geD,cmpD,zpK];rfl
 obtain⟨j,hj,ej⟩:=ei;refine⟨x*j,by rcases hj with rfl | rfl <;> omega,?_⟩;have em:=zmL (a:=x) (b:=j) (st:=st) hb hj;rw[zhy,zhy];simp only[znz,Ed,CS,Ad,e1];rw[ej];simp only[Ad];exact em
def znx{ns:List Int}{k:Int}(h0:0<=k)(h1:k<=1000):∃ st',Y3 (zcq [.kl (ns.map D.int),.int k] st=some (.ref st.length,st')) (PotD st.length 0 st') (Gr st st'):=by
 obtain⟨F,F0,F1,eF⟩:=zrs st;have ec:∃ cell:Int,mIte (mT<|mB ltD (mV 1)<|zas lenD<|zac (mV 0)<|mZ) (mB ixA (mV 0)<|mV 1) (mK<|.int 0) [some (.kl<|ns.map D.int),some (.int k),none,none,none] st=some (.int cell,st):=by
   by_cases hk:k < (ns.length:Int)
   . have hk':k.toNat < ns.length:=by omega
     have ex:ixA (.kl<|ns.map D.int) (.int k) st=some (.int ns[k.toNat],st):=zsV h0 (by rw[AB,Ag hk'];rfl);exact⟨ns[k.toNat],by rw[znA];simp[zaS,zmV,hk,ex]⟩
   exact⟨0,by rw[znA];simp[zaS,zmV,hk]⟩
 obtain⟨cell,ec⟩:=ec;obtain⟨own,o0,eo⟩:=zqT (ds:=ns.map D.int) (k:=k) (cell:=cell) (st:=st) F0 F1;have b0:=B2 (cell % 2305843009213693951+7919*k) (show (2305843009213693951:Int)≠0 by decide);have b1:=BH (cell % 2305843009213693951+7919*k) (show (0:Int) < 2305843009213693951 by decide);exact⟨_,zbL<|znw ec (eF _) eo (zhA<|by decide) (zrY<|by decide)<|zhA<|by decide,⟨own,_,0,zaG _ _,o0,b0,b1,by decide,by decide⟩,Gr.app _ _⟩
open L2.MP.Hb (zdd zgC sgD)
noncomputable abbrev zaI:Str:=Hn.zaI
def zcW:∀ k:Nat,k < 26->zaI.cps[k]?=some (97+k):=Hn.zcW
structure NmOk(x:Str):Prop where
 len:x.cps.toList.length<=8
 ab:∀ c∈x.cps.toList,48<=c/\c<=122
def zgn{x:Str}(h:∀ c∈x.cps.toList,48<=c/\c<=122):Bb x=true:=by unfold Bb;rw[Array.all_eq_true'];intro c hc;have:=h c (by simpa using hc);simp;omega
def zdc:NmOk "":=⟨by decide,by decide⟩
variable {c:Nat}
def zoU{k:Int}(h1:1<=k)(h8:k<=8)(c1:48<=c)(c2:c<=122):NmOk (repS ⟨#[c]⟩ k):=by refine⟨by rw[zgC h1,BG];omega,fun x hx=>?_⟩;rw[zgC h1] at hx;rw[List.eq_of_mem_replicate hx];exact⟨c1,c2⟩
def zif{m:ME}(e:m ρ st=some (.int (k:Int),st))(hk:k<=1000):mR1 m ρ st=some (⟨run 0 k,[]⟩,st):=by have sm:small (k:Int)=true:=zcx (by omega) (by omega);rw[zsa,e,Ad];simp only[sm,if_true];rw[Bu]
variable {M:Int}
def zj4{m:ME}(hM:M=(k:Int))(e:m ρ st=some (.int M,s1))(hk:k<=1000):mR1 m ρ st=some (⟨run 0 k,[]⟩,s1):=by have sm:small M=true:=zcx (by omega) (by omega);rw[zsa,e,Ad];simp only[sm,if_true];rw[hM,Bu]
def run_map(k:Nat):run 0 k=(AC k).map fun (i:Nat)=>D.int (i:Int):=by unfold run;apply Du;intro i _;rw[Int.zero_add]
def zdP{j:Nat}{d:D}(h:(run 0 j)[k]?=some d):k < j/\d=.int (k:Int):=by have hk:=getElem?_lt h;rw[zcb] at hk;rw[run_map,AB,Dt hk] at h;exact⟨hk,by cases h;rfl⟩
variable {x r1:Int}{y:D}
def zkm(ix1:∀ s:Sto,ixA (.str zaI) (.int r1) s=some (sgD c,s))(em:mulA (sgD c) (.int<|x+1) st=some (y,st)):za4 [some (.int x),some (.str zaI),some (.int r1)] st=some (y,st):=by unfold za4;simp[ix1,em]
def zkn(hm:m<=8)(r10:0<=r1)(r11:r1 < 26):∃ ts:List Str,Y3 (ts.length=m) ((∀ x∈ts,NmOk x)) (mCI ⟨run 0 m,[]⟩ (gNm 0) zbF za4 (run 0 m) [none,some (.str zaI),some (.int r1)] st=some (ts.map D.str,st)):=by
 have ix1:∀ s:Sto,ixA (.str zaI) (.int r1) s=some (sgD (97+r1.toNat),s):=fun s=>ziO (by decide) r10 (zcW _<|by omega);have c1:48<=97+r1.toNat:=by omega
 have c2:97+r1.toNat<=122:=by omega
 generalize 97+r1.toNat=c at ix1 c1 c2;refine⟨(AC m).map fun (i:Nat)=>repS ⟨#[c]⟩ ((i:Int)+1),by simp,fun x hx=>?_,?_⟩
 . obtain⟨i,hi,rfl⟩:=List.mem_map.mp hx;have:=List.mem_range.mp hi;exact zoU (by omega) (by omega) c1 c2
 have:∀ W:Wk,walked W st=true->mCI W (gNm 0) zbF za4 (run 0 m) [none,some (.str zaI),some (.int r1)] st=some (((AC m).map fun (i:Nat)=>repS ⟨#[c]⟩ ((i:Int)+1)).map D.str,st):=by intro W hW;rw[run_map,A3];refine zhu (R:=fun ρ=>∃ x,ρ=[x,some (.str zaI),some (.int r1)]) ⟨none,rfl⟩ hW fun i hi ρ hρ=>?_;obtain⟨x,rfl⟩:=hρ;have hi:=List.mem_range.mp hi;have em:=zdd (c:=c) (n:=(i:Int)+1) (st:=st) (by omega) (by omega);exact⟨[some (.int (i:Int)),some (.str zaI),some (.int r1)],by simp,rfl,zkm ix1 em,⟨_,rfl⟩⟩
 exact this _ rfl
variable {w:Int}
def zkk{p1 p2 q1 q2:Int}(e1:mulA (.int w) (.int x) st=some (.int p1,st))(e2:modD (.int<|r1+p1) (.int 26) st=some (.int p2,st))(ex:ixA (.str zaI) (.int p2) st=some (sgD c,st))(e3:mulA (.int x) (.int x) st=some (.int q1,st))(e4:modD (.int<|q1+r1) (.int 8) st=some (.int q2,st))(em:mulA (sgD c) (.int<|1+q2) st=some (y,st)):za3 [some (.int x),some (.str zaI),some (.int r1),some (.int w)] st=some (y,st):=by unfold za3;simp[e1,e2,ex,e3,e4,em]
def zkl(hm:m<=8)(hw0:0<=w)(hw1:w<=11):∃ ts:List Str,Y3 (ts.length=m) ((∀ x∈ts,NmOk x)) (mCI ⟨run 0 m,[]⟩ (gNm 0) zbF za3 (run 0 m) [none,some (.str zaI),some (.int r1),some (.int w)] st=some (ts.map D.str,st)):=by
 have key:=znq (W:=⟨run 0 m,[]⟩) (g:=gNm 0) (c:=zbF) (m:=za3) (ds:=run 0 m) (acc:=[]) (st:=st) (ρ:=[none,some (.str zaI),some (.int r1),some (.int w)])
   (Inv:=fun k a ρ s=>Y3 ((∃ x,ρ=[x,some (.str zaI),some (.int r1),some (.int w)])) ((∃ ts:List Str,a=ts.map D.str/\ts.length=k/\∀ x∈ts,NmOk x)) (s=st))
   ⟨⟨none,rfl⟩,⟨[],rfl,rfl,by simp⟩,rfl⟩ (fun _ _ _ _ _ _=>rfl) (fun k d a ρ s hd hI=>by
     obtain⟨⟨x,rfl⟩,⟨ts,rfl,hl,hn⟩,rfl⟩:=hI;obtain⟨hk,rfl⟩:=zdP hd;have e1:mulA (.int w) (.int (k:Int)) s=some (.int (w*(k:Int)),s):=mul_int (by omega);have e2:modD (.int<|r1+w*(k:Int)) (.int 26) s=some (.int ((r1+w*(k:Int)) % 26),s):=zhA (by decide);have h1:=BH (r1+w*(k:Int)) (show (0:Int) < 26 by decide);have h2:=B2 (r1+w*(k:Int)) (show (26:Int)≠0 by decide);have e3:mulA (.int (k:Int)) (.int (k:Int)) s=some (.int ((k:Int)*(k:Int)),s):=mul_int (by omega);have e4:modD (.int<|(k:Int)*(k:Int)+r1) (.int 8) s=some (.int (((k:Int)*(k:Int)+r1) % 8),s):=zhA (by decide);have h3:=BH ((k:Int)*(k:Int)+r1) (show (0:Int) < 8 by decide);have h4:=B2 ((k:Int)*(k:Int)+r1) (show (8:Int)≠0 by decide);generalize (r1+w*(k:Int)) % 26=p2 at e2 h1 h2;generalize ((k:Int)*(k:Int)+r1) % 8=q2 at e4 h3 h4;have ex:ixA (.str zaI) (.int p2) s=some (sgD (97+p2.toNat),s):=ziO (by decide) h2 (zcW _<|by omega);have em:=zdd (c:=97+p2.toNat) (n:=1+q2) (st:=s) (by omega) (by omega);refine⟨[some (.int (k:Int)),some (.str zaI),some (.int r1),some (.int w)],s,true,s,rfl,rfl,.inl ⟨rfl,.str<|repS ⟨#[97+p2.toNat]⟩<|1+q2,s,zkk e1 e2 ex e3 e4 em,⟨_,rfl⟩,⟨ts++[repS ⟨#[97+p2.toNat]⟩ (1+q2)],by simp,by simp[hl],fun x hx=>?_⟩,rfl⟩⟩
     rcases List.mem_append.mp hx with hx | hx
     . exact hn x hx
     rw[List.mem_singleton.mp hx];exact zoU (by omega) (by omega) (by omega) (by omega))
 obtain⟨xs,ρ',s',ec,_,⟨ts,hx,hl,hn⟩,rfl⟩:=key;rw[CI] at hx;subst hx;exact⟨ts,by rw[hl,zcb],hn,ec⟩
def zmK(hM:M=(k:Int))(h:PotD n m st)(h1:k<=8)(hm:m<=900000):∃ (ss:List Str) (l:Nat) (st':Sto),Y7 (zco [.ref n,.int M] st=some (.ref l,st')) (st'[l]?=some (.lst<|ss.map D.str)) (ss.length=k) ((∀ x∈ss,NmOk x)) (l≠n) (PotD n (m+3) st') (Fr n st st'):=by
 obtain⟨r1,s1,e1,r10,r11,p1,f1⟩:=za1 (many:=26) h (by omega) (by decide) (by decide);have p2:=p1.gr<|Gr.app s1 [.lst [.int 1,.int 3,.int 5,.int 7,.int 9,.int 11]];have f2:=Fr.app n s1 [.lst [.int 1,.int 3,.int 5,.int 7,.int 9,.int 11]];have a2:=zaG s1<|.lst [.int 1,.int 3,.int 5,.int 7,.int 9,.int 11];have hn2:=p1.ne;generalize hs2:s1++[O.lst [.int 1,.int 3,.int 5,.int 7,.int 9,.int 11]]=s2 at p2 f2 a2;obtain⟨r3,s3,e3,r30,r31,p3,f3⟩:=za1 (many:=6) p2 (by omega) (by decide) (by decide);have a3:=(f3.old _ (getElem?_lt a2) hn2).trans a2;obtain⟨w,hw,hw0,hw1⟩:∃ w:Int,[D.int 1,.int 3,.int 5,.int 7,.int 9,.int 11][r3.toNat]?=some (.int w)/\0<=w/\w<=11:=by
   have:r3=0\/r3=1\/r3=2\/r3=3\/r3=4\/r3=5:=by omega
   rcases this with rfl | rfl | rfl | rfl | rfl | rfl <;> exact⟨_,rfl,by decide,by decide⟩
 have i3:ixA (.ref s1.length) (.int r3) s3=some (.int w,s3):=zcl a3 r30 hw;obtain⟨r4,s4,e4,r40,r41,p4,f4⟩:=za1 (many:=3) p3 (by omega) (by decide) (by decide);have f14:Fr n st s4:=((f1.trans f2).trans f3).trans f4;have g1:mAsg (mU<|zac (zas zae<|zac (mV 0)<|zac (mK<|.int 26)<|mZ)<|zac (mB ixA (mL<|zac (mK<|.int 1)<|zac (mK<|.int 3)<|zac (mK<|.int 5)<|zac (mK<|.int 7)<|zac (mK<|.int 9)<|zac (mK<|.int 11)<|mZ)<|zas zae<|zac (mV 0)<|zac (mK<|.int 6)<|mZ)<|mZ) (gTp 2<|gC (gNm 3)<|gC (gNm 4)<|gN0)
     [some (.ref n),some (.int M),some (.str zaI),none,none] st=some (.nx [some (.ref n),some (.int M),some (.str zaI),some (.int r1),some (.int w)],s3):=by
   simp[e1,hs2,e3,i3]
 by_cases hr:r4=0
 . subst hr;obtain⟨ts,ht,hn,ec⟩:=zkn (st:=s4) h1 r10 r11;have fl:fits (ts.map D.str).length=true:=zax (by simp;omega);refine⟨ts,s4.length,s4++[.lst (ts.map D.str)],zbL ?_,zaG _ _,ht,hn,p4.ne,p4.gr<|Gr.app _ _,f14.trans<|Fr.app _ _ _⟩;generalize ts.map D.str=A at ec fl;unfold zcs;refine zal (ρ1:=[some (.ref n),some (.int M),some (.str zaI),none,none]) (s1:=st) (by simp) ?_;refine zal g1<|zdy ?_;have ecm:zcf (mR1<|mV 1) 1 [2,3] (gNm 0) zbF za4 [some (.ref n),some (.int M),some (.str zaI),some (.int r1),some (.int w)] s4=some (.ref s4.length,s4++[.lst A]):=by
     rw[zaS,zj4 (s1:=s4) (k:=k) hM (by simp) (by omega)];simp only[Ad];rw[show rho0 [some (.ref n),some (.int M),some (.str zaI),some (.int r1),some (.int w)] 1 [2,3]=[none,some (.str zaI),some (.int r1)] from rfl,ec];simp only[Ad,fl,if_true]
   simp[e4,eq_int,ecm]
 . obtain⟨ts,ht,hn,ec⟩:=zkl (r1:=r1) (st:=s4) h1 hw0 hw1;have fl:fits (ts.map D.str).length=true:=zax (by simp;omega);have p5:=p4.gr<|Gr.app s4 [.lst (ts.map D.str)];have es:=Hn.zeI (zaG s4<|.lst<|ts.map D.str) (by omega);have f5:=Fr.app n s4 [.lst (ts.map D.str)];have hp:(zdn ts).Perm ts:=Cy _ _;generalize hs5:s4++[O.lst (ts.map D.str)]=s5 at p5 es f5;refine⟨zdn ts,s5.length,s5++[.lst ((zdn ts).map D.str)],zbL ?_,zaG _ _,by rw[<-ht];exact hp.length_eq,fun x hx=>hn x (hp.mem_iff.mp hx),p5.ne,p5.gr<|Gr.app _ _,(f14.trans f5).trans<|Fr.app _ _ _⟩;generalize (zdn ts).map D.str=B at es;generalize ts.map D.str=A at ec fl hs5;unfold zcs;refine zal (ρ1:=[some (.ref n),some (.int M),some (.str zaI),none,none]) (s1:=st) (by simp) ?_;refine zal g1 ?_;refine zal (ρ1:=[some (.ref n),some (.int M),some (.str zaI),some (.int r1),some (.int w)]) (s1:=s4) (by simp[e4,eq_int,hr]) ?_;have ecm:zcf (mR1<|mV 1) 1 [2,3,4] (gNm 0) zbF za3 [some (.ref n),some (.int M),some (.str zaI),some (.int r1),some (.int w)] s4=some (.ref s4.length,s5):=by
     rw[zaS,zj4 (s1:=s4) (k:=k) hM (by simp) (by omega)];simp only[Ad];rw[show rho0 [some (.ref n),some (.int M),some (.str zaI),some (.int r1),some (.int w)] 1 [2,3,4]=[none,some (.str zaI),some (.int r1),some (.int w)] from rfl,ec];simp only[Ad,fl,if_true,hs5]
   simp[ecm,es]
end L2.MP.Hd
namespace L2.MP.Hd
open PySem L2.MP
open L2.MP.Hb (sgD)
noncomputable abbrev sg36:Str:="abcdefghijklmnopqrstuvwxyz0123456789"
def zof:∀ k:Nat,k < 36->∃ c,sg36.cps[k]?=some c/\48<=c/\c<=122:=by
 have:∀ k:Nat,k < 36->(match sg36.cps[k]? with | some c=>decide (48<=c/\c<=122) | none=>false)=true:=by decide +kernel
 intro k hk;have:=this k hk
 split at this
 . rename_i c e;exact⟨c,e,of_decide_eq_true this⟩
 . cases this
structure KdOk(ss:List Str)(k:List Str):Prop where
 ex:∃ f ds,k=f::ds/\NmOk f/\ds.length=4/\∀ x∈ds,NmOk x/\(x=""\/x∈ss)
variable {lN a n:Nat}{r:Int}{s s1 s2 s3:Sto}
def zob{c:Int}{v:Option D}{y:D}(hs1:s++[.lst [.str ""]]=s1)(ea:addD (.ref s.length) (.ref lN) s1=some (.ref a,s2))(el:lenD [.ref lN] s2=some (.int c,s2))(en:zae [.ref n,.int (c+1)] s2=some (.int r,s3))(ex:ixA (.ref a) (.int r) s3=some (y,s3)) :
   za0 [v,some (.ref lN),some (.ref n)] s=some (y,s3):=by
 unfold za0;simp[hs1,ea,el,en,ex]
variable {m:Nat}{ss:List Str}{st:Sto}
def zl7{ss:List Str}(h:PotD n m st)(hN:st[lN]?=some (.lst<|ss.map D.str))(h1:lN≠n)(hl:ss.length<=100)(hn:∀ x∈ss,NmOk x)(hm:m<=800000) :
   ∃ (ds:List Str) (st':Sto),Y5 (mCI ⟨run 0 4,[]⟩ (gNm 0) zbF za0 (run 0 4) [none,some (.ref lN),some (.ref n)] st=some (ds.map D.str,st')) (ds.length=4) ((∀ x∈ds,NmOk x/\(x=""\/x∈ss))) (PotD n (m+4) st') (Fr n st st'):=by
 have key:=znq (W:=⟨run 0 4,[]⟩) (g:=gNm 0) (c:=zbF) (m:=za0) (ds:=run 0 4) (acc:=[]) (st:=st) (ρ:=[none,some (.ref lN),some (.ref n)])
   (Inv:=fun k a ρ s=>Y4 ((∃ x,ρ=[x,some (.ref lN),some (.ref n)])) ((∃ ds:List Str,a=ds.map D.str/\ds.length=k/\∀ x∈ds,NmOk x/\(x=""\/x∈ss))) (PotD n (m+k) s) (Fr n st s))
   ⟨⟨_,rfl⟩,⟨[],rfl,rfl,by simp⟩,h,Fr.refl _ _⟩ (fun _ _ _ _ _ _=>rfl) (fun k d a ρ s hd hI=>by
     obtain⟨⟨x,rfl⟩,⟨ds,rfl,hlen,hok⟩,hp,hf⟩:=hI;have hk4:=(zdP hd).1;have hN0:s[lN]?=some (.lst<|ss.map D.str):=(hf.old _ (getElem?_lt hN) h1).trans hN;have a1:=zaG s (.lst [.str ""]);have hN1:(s++[O.lst [D.str ""]])[lN]?=some (.lst<|ss.map D.str):=by rw[Ao (getElem?_lt hN0)];exact hN0
     have p1:=hp.gr (Gr.app s [.lst [.str ""]]);have f1:=Fr.app n s [.lst [.str ""]];generalize hs1:s++[O.lst [D.str ""]]=s1 at a1 hN1 p1 f1;have ea:=zg8 a1 hN1 (by simp;omega);have a2:=zaG s1 (.lst<|[.str ""]++ss.map D.str);have hN2:(s1++[O.lst ([.str ""]++ss.map D.str)])[lN]?=some (.lst<|ss.map D.str):=by rw[Ao (getElem?_lt hN1)];exact hN1
     have p2:=p1.gr (Gr.app s1 [.lst ([.str ""]++ss.map D.str)]);have f2:=Fr.app n s1 [.lst ([.str ""]++ss.map D.str)];have hn1:=p1.ne;generalize hs2:s1++[O.lst ([.str ""]++ss.map D.str)]=s2 at a2 hN2 p2 f2 ea;have el:=ziJ hN2;rw[Af] at el;obtain⟨r,s3,e3,r0,r1,p3,f3⟩:=za1 (many:=(ss.length:Int)+1) p2 (by omega) (by omega) (by omega);have a3:=(f3.old _ (getElem?_lt a2) hn1).trans a2;have hr:r.toNat < ((("":Str))::ss).length:=by simp;omega
     have hm:[D.str ""]++ss.map D.str=((("":Str))::ss).map D.str:=rfl;rw[hm] at a3;have ex:=zcl (x:=.str ((("":Str))::ss)[r.toNat]) a3 r0 (by rw[AB,Ag hr];rfl);have hmem:((("":Str))::ss)[r.toNat]∈("":Str)::ss:=Bq hr;generalize ((("":Str))::ss)[r.toNat]=y at ex hmem;have hy:NmOk y/\(y=""\/y∈ss):=by
       rcases List.mem_cons.mp hmem with rfl | h
       . exact⟨zdc,.inl rfl⟩
       exact⟨hn y h,.inr h⟩
     refine⟨[some d,some (.ref lN),some (.ref n)],s,true,s,by simp,rfl,.inl ⟨rfl,.str y,s3,zob hs1 ea el e3 ex,⟨_,rfl⟩,⟨ds++[y],by simp,by simp[hlen],fun x hx=>?_⟩,p3,((hf.trans f1).trans f2).trans f3⟩⟩
     rcases List.mem_append.mp hx with hx | hx
     . exact hok x hx
     rw[List.mem_singleton.mp hx];exact hy)
 obtain⟨xs,ρ',s',ec,_,⟨ds,hx,hlen,hok⟩,hp,hf⟩:=key;rw[CI] at hx;subst hx;rw[zcb] at hlen hp;exact⟨ds,s',ec,hlen,hok,hp,hf⟩
def zo7{ss:List Str}(h:PotD n m st)(hN:st[lN]?=some (.lst<|ss.map D.str))(h1:lN≠n)(hl:ss.length<=100)(hn:∀ x∈ss,NmOk x)(hm:m<=700000) :
   ∃ (k:List Str) (st':Sto),Y4 (zcQ [.ref n,.ref lN] st=some (zbx k,st')) (KdOk ss k) (PotD n (m+6) st') (Fr n st st'):=by
 obtain⟨r1,s1,e1,r10,r11,p1,f1⟩:=za1 (many:=36) h (by omega) (by decide) (by decide);obtain⟨c1,g1,c10,c11⟩:=zof r1.toNat (by omega);have i1:ixA (.str sg36) (.int r1) s1=some (sgD c1,s1):=ziO (by decide) r10 g1;have a2:=zaG s1 (.lst [.str "",sgD c1]);have p2:=p1.gr (Gr.app s1 [.lst [.str "",sgD c1]]);have f2:=Fr.app n s1 [.lst [.str "",sgD c1]];have hn2:=p1.ne;generalize hs2:s1++[O.lst [D.str "",sgD c1]]=s2 at a2 p2 f2;obtain⟨r3,s3,e3,r30,r31,p3,f3⟩:=za1 (many:=2) p2 (by omega) (by decide) (by decide);have a3:=(f3.old _ (getElem?_lt a2) hn2).trans a2;obtain⟨x,hx,fx⟩:∃ x:Str,[D.str "",sgD c1][r3.toNat]?=some (.str x)/\NmOk x:=by
   have:r3=0\/r3=1:=by omega
   rcases this with rfl | rfl
   . exact⟨"",rfl,zdc⟩
   exact⟨⟨#[c1]⟩,rfl,⟨by simp,by simp;omega⟩⟩
 have i3:ixA (.ref s1.length) (.int r3) s3=some (.str x,s3):=zcl a3 r30 hx;have f13:Fr n st s3:=(f1.trans f2).trans f3;have hN3:=(f13.old _ (getElem?_lt hN) h1).trans hN;obtain⟨ds,s4,e4,hds,hok,p4,f4⟩:=zl7 p3 hN3 h1 hl hn (by omega);have fd:fits (ds.map D.str).length=true:=zax (by simp;omega)
 match ds,hds,hok,e4,fd with
 | [a,b,c,d],_,hok,e4,fd =>
   have a5:=zaG s4<|.lst [.str a,.str b,.str c,.str d];have p5:=p4.gr<|Gr.app s4 [.lst [.str a,.str b,.str c,.str d]];have f5:=Fr.app n s4 [.lst [.str a,.str b,.str c,.str d]];have e4:mCI ⟨run 0 4,[]⟩ (gNm 0) zbF za0 (run 0 4) [none,some (.ref lN),some (.ref n)] s3=some ([.str a,.str b,.str c,.str d],s4):=e4;generalize hs5:s4++[O.lst [.str a,.str b,.str c,.str d]]=s5 at a5 p5 f5;have j0:ixA (.ref s4.length) (.int 0) s5=some (.str a,s5):=zcl a5 (by decide) rfl;have j1:ixA (.ref s4.length) (.int 1) s5=some (.str b,s5):=zcl a5 (by decide) rfl;have j2:ixA (.ref s4.length) (.int 2) s5=some (.str c,s5):=zcl a5 (by decide) rfl;have j3:ixA (.ref s4.length) (.int 3) s5=some (.str d,s5):=zcl a5 (by decide) rfl;refine⟨[x,a,b,c,d],s5,zbL ?_,⟨x,[a,b,c,d],rfl,fx,rfl,hok⟩,p5.up<|by omega,(f13.trans f4).trans f5⟩;unfold zd7;refine zal (ρ1:=[some (.ref n),some (.ref lN),some (.str x),none]) (s1:=s3) (by simp[e1,i1,hs2,e3,i3]) ?_;have ecm:zcf (mR1<|mK<|.int 4) 1 [1,0] (gNm 0) zbF za0 [some (.ref n),some (.ref lN),some (.str x),none] s3=some (.ref s4.length,s5):=by rw[zaS,zif (k:=4) rfl (by decide)];simp only[Ad];rw[show rho0 [some (.ref n),some (.ref lN),some (.str x),none] 1 [1,0]=[none,some (.ref lN),some (.ref n)] from rfl,e4];simp only[Ad,Az,Bf,hs5];rfl
   refine zal (ρ1:=[some (.ref n),some (.ref lN),some (.str x),some (.ref s4.length)]) (s1:=s5) (by rw[zfM,ecm];rfl) ?_;simp[j0,j1,j2,j3,zbx]
def ze5(e:Int)(stk:List (Str×Int))(ks:List (List Str)):D:=.tup [.int e,.tup (stk.map zbC),.tup (ks.map zbx)]
structure HsOk(e:Int)(stk:List (Str×Int))(ks:List (List Str)):Prop where
 e0:1<=e
 e1:e<=4
 sl:stk.length<=8
 nm:∀ p∈stk,NmOk p.1/\1<=p.2/\p.2<=4
 lo:1<=ks.length
 hi:ks.length<=13
 kd:∀ k∈ks,KdOk (stk.map (·.1)) k
def zlW{a:Nat}{nm:D}{r2 y:Int}(e1:zae [.ref n,.int 4] s=some (.int r,s1))(hs2:s1++[.lst [.int 1,.int 2,.int 1,.int (1+r)]]=s2)(e2:zae [.ref n,.int 4] s2=some (.int r2,s3))(ex:ixA (.ref s1.length) (.int r2) s3=some (.int y,s3)):za5 [some nm,some (.ref n)] s=some (.tup [nm,.int y],s3):=by unfold za5;simp[e1,hs2,e2,ex]
def zjK{ss:List Str}(h:PotD n m st)(hN:st[lN]?=some (.lst<|ss.map D.str))(h1:lN≠n)(hl:ss.length<=8)(hn:∀ x∈ss,NmOk x)(hm:m<=800000) :
   ∃ (stk:List (Str×Int)) (st':Sto),Y5 (mCI ⟨ss.map D.str,[(lN,ss.map D.str)]⟩ (gNm 0) zbF za5 (ss.map D.str) [none,some (.ref n)] st=some (stk.map zbC,st')) (stk.map (·.1)=ss) ((∀ p∈stk,NmOk p.1/\1<=p.2/\p.2<=4)) (PotD n (m+16) st') (Fr n st st'):=by
 have key:=znq (W:=⟨ss.map D.str,[(lN,ss.map D.str)]⟩) (g:=gNm 0) (c:=zbF) (m:=za5) (ds:=ss.map D.str) (acc:=[]) (st:=st) (ρ:=[none,some (.ref n)])
   (Inv:=fun k a ρ s=>Y4 ((∃ x,ρ=[x,some (.ref n)])) ((∃ stk:List (Str×Int),a=stk.map zbC/\stk.map (·.1)=ss.take k/\∀ p∈stk,NmOk p.1/\1<=p.2/\p.2<=4)) (PotD n (m+2*k) s) (Fr n st s))
   ⟨⟨_,rfl⟩,⟨[],rfl,by simp,by simp⟩,h,Fr.refl _ _⟩ (fun k a ρ s _ hI=>zcR ((hI.h4.old _ (getElem?_lt hN) h1).trans hN)) (fun k d a ρ s hd hI=>by
     obtain⟨⟨x,rfl⟩,⟨stk,rfl,htk,hok⟩,hp,hf⟩:=hI;rw[AB] at hd;obtain⟨nm,hnm,rfl⟩:=zai hd;have hk:=getElem?_lt hnm;obtain⟨r,s1,e1,r0,r1,p1,f1⟩:=za1 (many:=4) hp (by omega) (by decide) (by decide);have a2:=zaG s1<|.lst [.int 1,.int 2,.int 1,.int (1+r)];have p2:=p1.gr<|Gr.app s1 [.lst [.int 1,.int 2,.int 1,.int (1+r)]];have f2:=Fr.app n s1 [.lst [.int 1,.int 2,.int 1,.int (1+r)]];have hn2:=p1.ne;generalize hs2:s1++[O.lst [.int 1,.int 2,.int 1,.int (1+r)]]=s2 at a2 p2 f2;obtain⟨r2,s3,e3,r20,r21,p3,f3⟩:=za1 (many:=4) p2 (by omega) (by decide) (by decide);have a3:=(f3.old _ (getElem?_lt a2) hn2).trans a2;obtain⟨y,hy,y0,y1⟩:∃ y:Int,[D.int 1,.int 2,.int 1,.int (1+r)][r2.toNat]?=some (.int y)/\1<=y/\y<=4:=by
       have:r2=0\/r2=1\/r2=2\/r2=3:=by omega
       rcases this with rfl | rfl | rfl | rfl
       . exact⟨1,rfl,by decide,by decide⟩
       . exact⟨2,rfl,by decide,by decide⟩
       . exact⟨1,rfl,by decide,by decide⟩
       exact⟨1+r,rfl,by omega,by omega⟩
     have ex:ixA (.ref s1.length) (.int r2) s3=some (.int y,s3):=zcl a3 r20 hy;refine⟨[some (.str nm),some (.ref n)],s,true,s,rfl,rfl,.inl ⟨rfl,zbC (nm,y),s3,zlW (a:=0) e1 hs2 e3 ex,⟨_,rfl⟩,⟨stk++[(nm,y)],by simp,?_,fun p hp=>?_⟩,p3.up<|by omega,((hf.trans f1).trans f2).trans f3⟩⟩
     . rw[Bi,htk,Cq,hnm];rfl
     . rcases List.mem_append.mp hp with hp | hp
       . exact hok p hp
       rw[List.mem_singleton.mp hp];exact⟨hn nm<|AF hnm,y0,y1⟩)
 obtain⟨xs,ρ',s',ec,_,⟨stk,hx,htk,hok⟩,hp,hf⟩:=key;rw[CI] at hx;subst hx;rw[Af] at htk hp;rw[BQ] at htk;exact⟨stk,s',ec,htk,hok,hp.up<|by omega,hf⟩
def zmY{j:Nat}{ss:List Str}(h:PotD n m st)(hN:st[lN]?=some (.lst<|ss.map D.str))(h1:lN≠n)(hl:ss.length<=8)(hn:∀ x∈ss,NmOk x)(hm:m<=600000)(hj:j<=12) :
   ∃ (ks:List (List Str)) (st':Sto),Y5 (mCI ⟨run 0 j,[]⟩ (gNm 0) zbF zbi (run 0 j) [none,some (.ref n),some (.ref lN)] st=some (ks.map zbx,st')) (ks.length=j) ((∀ k∈ks,KdOk ss k)) (PotD n (m+72) st') (Fr n st st'):=by
 have key:=znq (W:=⟨run 0 j,[]⟩) (g:=gNm 0) (c:=zbF) (m:=zbi) (ds:=run 0 j) (acc:=[]) (st:=st) (ρ:=[none,some (.ref n),some (.ref lN)])
   (Inv:=fun i a ρ s=>Y4 ((∃ x,ρ=[x,some (.ref n),some (.ref lN)])) ((∃ ks:List (List Str),a=ks.map zbx/\ks.length=i/\∀ k∈ks,KdOk ss k)) (PotD n (m+6*i) s) (Fr n st s))
   ⟨⟨_,rfl⟩,⟨[],rfl,rfl,by simp⟩,h,Fr.refl _ _⟩ (fun _ _ _ _ _ _=>rfl) (fun i d a ρ s hd hI=>by
     obtain⟨⟨x,rfl⟩,⟨ks,rfl,hlen,hok⟩,hp,hf⟩:=hI;have hi:=(zdP hd).1;obtain⟨k,s1,e1,hk,p1,f1⟩:=zo7 hp ((hf.old _ (getElem?_lt hN) h1).trans hN) h1 (by omega) hn (by omega);refine⟨[some d,some (.ref n),some (.ref lN)],s,true,s,rfl,rfl,.inl ⟨rfl,zbx k,s1,?_,⟨_,rfl⟩,⟨ks++[k],by simp,by simp[hlen],fun y hy=>?_⟩,p1.up<|by omega,hf.trans f1⟩⟩
     . unfold zbi;simp[e1]
     . rcases List.mem_append.mp hy with hy | hy
       . exact hok y hy
       rw[List.mem_singleton.mp hy];exact hk)
 obtain⟨xs,ρ',s',ec,_,⟨ks,hx,hlen,hok⟩,hp,hf⟩:=key;rw[CI] at hx;subst hx;rw[zcb] at hlen hp;exact⟨ks,s',ec,hlen,hok,hp.up<|by omega,hf⟩
def zgE{xs:List Int}{lo hi:Int}(h:PotD n m st)(hm:m<=900000)(hx:1<=xs.length)(hx2:xs.length<=100)(hb:∀ x∈xs,lo<=x/\x<=hi):∃ (r y:Int) (st':Sto),Y6 (zae [.ref n,.int (xs.length:Int)] (st++[.lst (xs.map D.int)])=some (.int r,st')) (ixA (.ref st.length) (.int r) st'=some (.int y,st')) (lo<=y) (y<=hi) (PotD n (m+1) st') (Fr n st st'):=by
 have a1:=zaG st<|.lst<|xs.map D.int;have p1:=h.gr<|Gr.app st [.lst (xs.map D.int)];have f1:=Fr.app n st [.lst (xs.map D.int)];have hn:=h.ne;generalize st++[O.lst (xs.map D.int)]=s1 at a1 p1 f1;obtain⟨r,s2,e2,r0,r1,p2,f2⟩:=za1 (many:=(xs.length:Int)) p1 (by omega) (by omega) (by omega);have a2:=(f2.old _ (getElem?_lt a1) hn).trans a1;have hr:r.toNat < xs.length:=by omega
 have hy:=hb _<|Bq hr;exact⟨r,xs[r.toNat],s2,e2,zcl a2 r0 (by rw[AB,Ag hr];rfl),hy.1,hy.2,p2,f1.trans f2⟩
def zm5(h:PotD n m st)(hm:m<=100000):∃ (e:Int) (stk:List (Str×Int)) (ks:List (List Str)) (st':Sto),Y4 (zcp [.ref n] st=some (ze5 e stk ks,st')) (HsOk e stk ks) (PotD n (m+200) st') (Fr n st st'):=by
 obtain⟨r1,s1,e1,r10,r11,p1,f1⟩:=za1 (many:=4) h (by omega) (by decide) (by decide);obtain⟨ss,lN,s2,e2,at2,hss,hnm,n1,p2,f2⟩:=zmK (k:=(1+r1).toNat) (M:=1+r1) (by omega) p1 (by omega) (by omega);obtain⟨r3,y3,s3,e3,x3,y30,y31,p3,f3⟩:=zgE (xs:=[1,1,2,2,1,3,4,2]) (lo:=1) (hi:=4) p2 (by omega) (by decide) (by decide) (by decide);have nm3:=(f3.old _ (getElem?_lt at2) n1).trans at2;obtain⟨stk,s4,e4,hstk,hsok,p4,f4⟩:=zjK p3 nm3 n1 (by omega) hnm (by omega);have lstk:stk.length=ss.length:=by rw[<-hstk,Af]
 have a5:=zaG s4<|.lst<|stk.map zbC;have p5:=p4.gr<|Gr.app s4 [.lst (stk.map zbC)];have f5:=Fr.app n s4 [.lst (stk.map zbC)];have fs:fits (stk.map zbC).length=true:=zax (by rw[Af];omega);generalize hs5:s4++[O.lst (stk.map zbC)]=s5 at a5 p5 f5;have et:=zb3 a5;obtain⟨r6,y6,s6,e6,x6,y60,y61,p6,f6⟩:=zgE (xs:=[3,5,5,12]) (lo:=3) (hi:=12) p5 (by omega) (by decide) (by decide) (by decide);obtain⟨r7,s7,e7,r70,r71,p7,f7⟩:=za1 (many:=y6) p6 (by omega) (by omega) (by omega);have nm7:=(((f4.trans f5).trans<|f6.trans f7).old _ (getElem?_lt nm3) n1).trans nm3;obtain⟨ks,s8,e8,hks,hkok,p8,f8⟩:=zmY (j:=(1+r7).toNat) p7 nm7 n1 (by omega) hnm (by omega) (by omega);have a9:=zaG s8<|.lst<|ks.map zbx;have p9:=p8.gr<|Gr.app s8 [.lst (ks.map zbx)];have f9:=Fr.app n s8 [.lst (ks.map zbx)];have fk:fits (ks.map zbx).length=true:=zax (by rw[Af];omega);have hn9:=p8.ne;generalize hs9:s8++[O.lst (ks.map zbx)]=s9 at a9 p9 f9;obtain⟨r10',s10,e10,r100,r101,p10,f10⟩:=za1 (many:=6) p9 (by omega) (by decide) (by decide);have a10:=(f10.old _ (getElem?_lt a9) hn9).trans a9;have f110:Fr n st s10:=((f1.trans f2).trans<|f3.trans f4).trans<|((f5.trans f6).trans<|f7.trans f8).trans<|f9.trans f10;have sm:small (1+r7)=true:=zcx (by omega) (by omega);have ecm1:zcf (mWA<|mV 1) 1 [0] (gNm 0) zbF za5 [some (.ref n),some (.ref lN),some (.int y3),none,none] s3=some (.ref s4.length,s5):=by
   have:mWA (mV 1) [some (.ref n),some (.ref lN),some (.int y3),none,none] s3=some (⟨ss.map D.str,[(lN,ss.map D.str)]⟩,s3):=by simp[zjD,zbs,nm3]
   rw[zaS,this];simp only[Ad];rw[show rho0 [some (.ref n),some (.ref lN),some (.int y3),none,none] 1 [0]=[none,some (.ref n)] from rfl,e4];simp only[Ad,fs,if_true,hs5]
 have ecm2:zcf (mR1<|mB addD (mK<|.int 1)<|zas zae<|zac (mV 0)<|zac (mB ixA (mL<|zac (mK<|.int 3)<|zac (mK<|.int 5)<|zac (mK<|.int 5)<|zac (mK<|.int 12)<|mZ)<|zas zae<|zac (mV 0)<|zac (mK<|.int 4)<|mZ)<|mZ) 1 [0,1] (gNm 0) zbF zbi [some (.ref n),some (.ref lN),some (.int y3),some (.tup<|stk.map zbC),none] s5=some (.ref s8.length,s9):=by
   have e6':zae [.ref n,.int 4] (s5++[.lst [.int 3,.int 5,.int 5,.int 12]])=some (.int r6,s6):=e6;have:mR1 (mB addD (mK<|.int 1)<|zas zae<|zac (mV 0)<|zac (mB ixA (mL<|zac (mK<|.int 3)<|zac (mK<|.int 5)<|zac (mK<|.int 5)<|zac (mK<|.int 12)<|mZ)<|zas zae<|zac (mV 0)<|zac (mK<|.int 4)<|mZ)<|mZ) [some (.ref n),some (.ref lN),some (.int y3),some (.tup<|stk.map zbC),none] s5=some (⟨run 0 (1+r7).toNat,[]⟩,s7):=by simp[e6',x6,e7,sm]
   rw[zaS,this];simp only[Ad];rw[show rho0 [some (.ref n),some (.ref lN),some (.int y3),some (.tup<|stk.map zbC),none] 1 [0,1]=[none,some (.ref n),some (.ref lN)] from rfl,e8];simp only[Ad,fk,if_true,hs9]
 have e3':zae [.ref n,.int 8] (s2++[.lst [.int 1,.int 1,.int 2,.int 2,.int 1,.int 3,.int 4,.int 2]])=some (.int r3,s3):=e3;have pre:∀ {R:Option (Fl×Sto)},mS (mIf (mT<|mB eqD (zas zae<|zac (mV 0)<|zac (mK<|.int 6)<|mZ)<|mK<|.int 0) (mExp<|mApp (mV 4)<|zac (mB ixA (mV 4)<|zas zae<|zac (mV 0)<|zac (zas lenD<|zac (mV 4)<|mZ)<|mZ)<|mZ)<|zdr) (mR<|mU<|zac (mV 2)<|zac (mV 3)<|zac (zas zdK<|zac (mV 4)<|mZ)<|mZ)
     [some (.ref n),some (.ref lN),some (.int y3),some (.tup<|stk.map zbC),some (.ref s8.length)] s9=R->zct (rho 5 [.ref n]) st=R:=fun hR=>by
   unfold zct;refine zal (ρ1:=[some (.ref n),some (.ref lN),none,none,none]) (s1:=s2) (by simp[e1,e2]) ?_;refine zal (ρ1:=[some (.ref n),some (.ref lN),some (.int y3),none,none]) (s1:=s3) (by simp[e3',x3]) ?_;refine zal (ρ1:=[some (.ref n),some (.ref lN),some (.int y3),some (.tup<|stk.map zbC),none]) (s1:=s5) (by simp[ecm1,et]) ?_;exact zal (ρ1:=[some (.ref n),some (.ref lN),some (.int y3),some (.tup<|stk.map zbC),some (.ref s8.length)]) (s1:=s9) (by rw[zfM,ecm2];rfl) hR
 have kd':∀ k∈ks,KdOk (stk.map (·.1)) k:=by rw[hstk];exact hkok
 by_cases hr:r10'=0
 . subst hr;have el:=ziJ a10;rw[Af] at el;obtain⟨r11',s11,e11,r110,r111,p11,f11⟩:=za1 (many:=(ks.length:Int)) p10 (by omega) (by omega) (by omega);have a11:=(f11.old _ (getElem?_lt a10) hn9).trans a10;have hlt:r11'.toNat < ks.length:=by omega
   have ex:ixA (.ref s8.length) (.int r11') s11=some (zbx ks[r11'.toNat],s11):=zcl a11 r110 (by rw[AB,Ag hlt];rfl);have hmem:ks[r11'.toNat]∈ks:=Bq hlt;generalize ks[r11'.toNat]=k0 at ex hmem;have ea:=append_at (x:=zbx k0) a11 (by rw[Af];omega);have a12:(s11.set s8.length<|.lst<|ks.map zbx++[zbx k0])[s8.length]?=some (.lst<|ks.map zbx++[zbx k0]):=by simp[getElem?_lt a11]
   have et2:=zb3 a12;have hlen8:st.length<=s8.length:=(((f1.trans f2).trans<|f3.trans f4).trans<|(f5.trans f6).trans<|f7.trans f8).len;refine⟨y3,stk,ks++[k0],s11.set s8.length<|.lst<|ks.map zbx++[zbx k0],zbL<|pre ?_,⟨y30,y31,by omega,hsok,by simp,by simp;omega,fun k hk=>?_⟩,(p11.set hn9).up<|by omega,?_⟩
   . generalize s11.set s8.length (.lst<|ks.map zbx++[zbx k0])=s12 at *;refine zal (ρ1:=[some (.ref n),some (.ref lN),some (.int y3),some (.tup<|stk.map zbC),some (.ref s8.length)]) (s1:=s12) (by simp[e10,eq_int,el,e11,ex,ea,zbs,a10]) ?_;simp[et2,ze5]
   . rcases List.mem_append.mp hk with hk | hk
     . exact kd' k hk
     rw[List.mem_singleton.mp hk];exact kd' k0 hmem
   have f:=f110.trans f11;exact⟨by rw[Bx];exact f.len,fun k hk hkn=>by rw[Ax (by omega)];exact f.old k hk hkn⟩
 have et2:=zb3 a10;refine⟨y3,stk,ks,s10,zbL<|pre ?_,⟨y30,y31,by omega,hsok,by omega,by omega,kd'⟩,p10.up<|by omega,f110⟩;refine zal (ρ1:=[some (.ref n),some (.ref lN),some (.int y3),some (.tup<|stk.map zbC),some (.ref s8.length)]) (s1:=s10) (by simp[e10,eq_int,hr]) ?_;simp[et2,ze5]
end L2.MP.Hd
namespace L2.MP.Hd
open PySem L2.MP
open L2.MP.Hn (zaH zaM srtT za6)
def zbV(w h kn:Int)(t:Tl):Prop:=0<=t.1/\t.1 < w/\0<=t.2.1/\t.2.1 < h/\0<=t.2.2/\t.2.2 < kn
def zlL:∀ {l:List Tl} {t:Tl},PlNd l->t∈l->valD (l.map kvOf) (kvOf t).1=some (.int t.2.2)
 | [],t,_,h=>by cases h
 | u::l,t,nd,h=>by
   have nd':(∀ b∈l,zbr u b=false)/\PlNd l:=List.pairwise_cons.mp nd;unfold valD;rw[Ay,AW,ziM]
   rcases List.mem_cons.mp h with rfl | h
   . have:zbr t t=true:=by unfold zbr;simp
     rw[this];rfl
   rw[nd'.1 t h];exact zlL nd'.2 h
structure SInv(n t m:Nat)(w h kn:Int)(st0:Sto)(l:List Tl)(s:Sto):Prop where
 at_:s[t]?=some (.dt (l.map kvOf))
 ok:∀ u∈l,zbV w h kn u
 nd:PlNd l
 pot:PotD n m s
 fr:Fr n st0 s
noncomputable abbrev srho (n:Nat) (hd:D) (w h most:Int) (t:Nat) (v u:Option D):Rho:=[some (.ref n),some hd,some (.tup [.int w,.int h]),some (.int most),some (.ref t),v,u]
variable {n t:Nat}{w h most x y k:Int}{s:Sto}{v u:Option D}
def zqy{K:Int}{hd KK:D}{s1 s2 s3 s4:Sto}(ew:ixA (.tup [.int w,.int h]) (.int 0) s=some (.int w,s))(e1:zae [.ref n,.int w] s=some (.int x,s1))(eh:ixA (.tup [.int w,.int h]) (.int 1) s1=some (.int h,s1))(e2:zae [.ref n,.int h] s1=some (.int y,s2))(e3:ixA hd (.int 2) s2=some (KK,s2))(e4:lenD [KK] s2=some (.int K,s2))(e5:zae [.ref n,.int K] s2=some (.int k,s3))(ed:dput s3 t (.tup [.int x,.int y]) (.int k)=some s4) :
   zaT (srho n hd w h most t v u) s=some (.nx (srho n hd w h most t v<|some<|.tup [.int x,.int y]),s4):=by
 unfold zaT;refine zal (ρ1:=srho n hd w h most t v (some<|.tup [.int x,.int y])) (s1:=s2) (by simp[srho,zaS,ew,e1,eh,e2]) ?_;rw[zjp];have c1:mAsg (zas zae<|zac (mV 0)<|zac (zas lenD<|zac (mB ixA (mV 1)<|mK<|.int 2)<|mZ)<|mZ) (gSb setD (mV 4)<|mV 6) (srho n hd w h most t v<|some<|.tup [.int x,.int y]) s2=none:=by simp[srho,zaS,e3,e4,e5,setD]
 rw[c1,ze9];unfold zln;simp[srho,zaS,e3,e4,e5,ed]
variable {m:Nat}{a b:D}{ks:List D}
def zhU{st0:Sto}{l:List Tl}(q:SInv n t m w h ks.length st0 l s)(ht:t≠n)(ht0:st0.length<=t)(hw:0 < w)(hw2:w<=1000)(hh:0 < h)(hh2:h<=1000)(hk:0 < ks.length)(hk2:ks.length < 100000)(hl:l.length<=1000)(hm:m<=900000) :
   ∃ (l':List Tl) (u':Option D) (s':Sto),Y3 (zaT (srho n (.tup [a,b,.tup ks]) w h most t v u) s=some (.nx (srho n (.tup [a,b,.tup ks]) w h most t v u'),s')) (SInv n t (m+3) w h ks.length st0 l' s') (l'.length<=l.length+1):=by
 obtain⟨x,s1,e1,x0,x1,p1,f1⟩:=za1 (many:=w) q.pot (by omega) hw (by omega);obtain⟨y,s2,e2,y0,y1,p2,f2⟩:=za1 (many:=h) p1 (by omega) hh (by omega);obtain⟨k,s3,e3,k0,k1,p3,f3⟩:=za1 (many:=ks.length) p2 (by omega) (by omega) (by omega);have f13:=(f1.trans f2).trans f3;have at3:=(f13.old _ (getElem?_lt q.at_) ht).trans q.at_;have ed:=zfF (x:=x) (y:=y) (k:=k) at3 hl;have hlt:=getElem?_lt at3;have fr3:=q.fr.trans f13;refine⟨putT l (x,y,k),_,s3.set t<|.dt<|(putT l (x,y,k)).map kvOf,zqy (zaR (by decide) rfl) e1 (zaR (by decide) rfl) e2 (zaR (by decide) rfl) zcD e3 ed,⟨by simp[hlt],zmm q.ok ⟨x0,x1,y0,y1,k0,k1⟩,zop q.nd,p3.set ht,⟨by have:=fr3.len;simpa using this,fun j hj nj=>by rw[Ax (by omega)];exact fr3.old j hj nj⟩⟩,zij _ _⟩
def zms(hk:zkJ (.ref t) (.tup [.int x,.int y]) s=some (.int k,s)):zaU [some (.tup [.int x,.int y]),some (.ref t)] s=some (.tup [.int x,.int y,.int k],s):=by have ea:addD (.tup [.int x,.int y]) (.tup [.int k]) s=some (.tup [.int x,.int y,.int k],s):=zg7 (by simp) (by simp);unfold zaU;simp[hk,ea]
variable {st:Sto}
def zfW(hp:PotD n m st)(hw:0 < w)(hw2:w<=1000)(hh:0 < h)(hh2:h<=1000)(hk:0 < ks.length)(hk2:ks.length < 100000)(hm:0<=most)(hm2:most < 60)(hmm:m<=800000) :
   ∃ (ts:List Tl) (st':Sto),Y6 (za8 [.ref n,.tup [a,b,.tup ks],.tup [.int w,.int h],.int most] st=some (zaH ts,st')) ((∀ t∈ts,zbV w h ks.length t)) ((∃ l:List Tl,ts=srtT l/\PlNd l)) ((ts.length:Int)<=most) (PotD n (m+181) st') (Fr n st st'):=by
 have ht:st.length≠n:=hp.ne;have p0:=hp.gr<|Gr.app st [.dt []];obtain⟨r,s1,e1,r0,r1,p1,f1⟩:=za1 (many:=most+1) p0 (by omega) (by omega) (by omega);have at1:s1[st.length]?=some (.dt<|([]:List Tl).map kvOf):=(f1.old _ (by simp) ht).trans<|zaG st _;have key:=zcd (W:=⟨run 0 r.toNat,[]⟩) (g:=gNm 5) (m:=zaT) (ds:=run 0 r.toNat) (ρ:=srho n (.tup [a,b,.tup ks]) w h most st.length none none) (st:=s1)
   (Inv:=fun k ρ s=>∃ (l:List Tl) (v u:Option D),Y3 (ρ=srho n (.tup [a,b,.tup ks]) w h most st.length v u) (l.length<=k) (SInv n st.length (m+1+3*k) w h ks.length st l s))
   ⟨[],none,none,rfl,Ah _,⟨at1,by simp,CV,p1,(Fr.app _ _ _).trans f1⟩⟩ (fun _ _ _ _ _=>rfl) (fun k d ρ s hd hI=>by obtain⟨l,v,u,rfl,hl,q⟩:=hI;have hkl:=(zdP hd).1;obtain⟨l',u',s',e,q',hl'⟩:=zhU (most:=most) (a:=a) (b:=b) (v:=some d) (u:=u) q ht (Ah _) hw hw2 hh hh2 hk hk2 (by omega) (by omega);exact⟨_,s,_,s',rfl,e,l',some d,u',rfl,by omega,q'⟩)
 obtain⟨ρ',s2,e2,l,v,u,rfl,hl,q⟩:=key;rw[zcb] at hl q;have hlt:=getElem?_lt q.at_;have ewk:znD (.ref st.length) s2=some (⟨zep<|l.map kvOf,[]⟩,s2.set st.length (.ft<|l.map kvOf)):=by unfold znD;simp only[q.at_]
 have a3:(s2.set st.length<|.ft<|l.map kvOf)[st.length]?=some (.ft<|l.map kvOf):=by simp[hlt]
 have fr3:Fr n st (s2.set st.length<|.ft<|l.map kvOf):=⟨by have:=q.fr.len;simpa using this,fun j hj nj=>by rw[Ax (by omega)];exact q.fr.old j hj nj⟩
 have p3:PotD n (m+1+3*r.toNat) (s2.set st.length<|.ft<|l.map kvOf):=q.pot.set ht;generalize hs3:s2.set st.length (.ft<|l.map kvOf)=s3 at ewk a3 fr3 p3;have eit:zep (l.map kvOf)=l.map fun t=>D.tup [.int t.1,.int t.2.1]:=by unfold zep;rw[A3];rfl
 have ec:mCI ⟨zep<|l.map kvOf,[]⟩ (gNm 0) zbF zaU (zep<|l.map kvOf) [none,some (.ref st.length)] s3=some (l.map fun t=>tupD (rowT t),s3):=by
   rw[eit];refine zhu (R:=fun ρ=>∃ x,ρ=[x,some (.ref st.length)]) ⟨none,rfl⟩ rfl fun t ht ρ hρ=>?_;obtain⟨x,rfl⟩:=hρ;have hv:=zlL q.nd ht;have hk:zkJ (.ref st.length) (.tup [.int t.1,.int t.2.1]) s3=some (.int t.2.2,s3):=by have e1:keysOf [.int t.1,.int t.2.1]=some (kvOf t).1:=rfl;simp only[zkJ,zmU,a3,e1,A6,Ad,hv]
   exact⟨[some (.tup [.int t.1,.int t.2.1]),some (.ref st.length)],rfl,rfl,zms hk,⟨_,rfl⟩⟩
 have fl:fits (l.map fun t=>tupD (rowT t)).length=true:=zax (by rw[Af];omega);have a4:=zaG s3 (.lst<|l.map fun t=>tupD (rowT t));have es:=zaM a4 (by omega);have p4:=p3.gr (Gr.app s3 [.lst (l.map fun t=>tupD (rowT t))]);have f4:=Fr.app n s3 [.lst (l.map fun t=>tupD (rowT t))];have hperm:=za6 l;generalize hs4:s3++[O.lst (l.map fun t=>tupD (rowT t))]=s4 at es p4 f4;have et:=zb3 (zaG s4<|.lst<|(srtT l).map fun t=>tupD (rowT t));refine⟨srtT l,s4++[.lst ((srtT l).map fun t=>tupD (rowT t))],zbL ?_,fun t ht=>q.ok t (hperm.mem_iff.mp ht),⟨l,rfl,q.nd⟩,by rw[hperm.length_eq];omega,(p4.gr<|Gr.app _ _).up<|by omega,(fr3.trans f4).trans<|Fr.app _ _ _⟩;have sm:small r=true:=zcx r0 (by omega);unfold zcr zaH;generalize ((srtT l).map fun t=>tupD (rowT t))=B at es et;generalize (l.map fun t=>tupD (rowT t))=A at ec fl hs4;generalize zep (l.map kvOf)=KD at ec ewk;refine zal (ρ1:=srho n (.tup [a,b,.tup ks]) w h most st.length none none) (s1:=st++[.dt []]) (by simp[srho,]) ?_;refine zal (ρ1:=srho n (.tup [a,b,.tup ks]) w h most st.length v u) (s1:=s2) (by
   have:mR1 (zas zae<|zac (mV 0)<|zac (mB addD (mV 3)<|mK<|.int 1)<|mZ) (srho n (.tup [a,b,.tup ks]) w h most st.length none none) (st++[.dt []])=some (⟨run 0 r.toNat,[]⟩,s1):=by simp[srho,e1,sm]
   rw[zcO,this];exact e2) ?_
 have ecm:zcf (mWK<|mV 4) 1 [4] (gNm 0) zbF zaU (srho n (.tup [a,b,.tup ks]) w h most st.length v u) s2=some (.ref s3.length,s4):=by have:mWK (mV 4) (srho n (.tup [a,b,.tup ks]) w h most st.length v u) s2=some (⟨KD,[]⟩,s3):=ewk;rw[zaS,this];simp only[Ad];rw[show rho0 (srho n (.tup [a,b,.tup ks]) w h most st.length v u) 1 [4]=[none,some (.ref st.length)] from rfl,ec];simp only[Ad,fl,if_true,hs4]
 simp[ecm,es,et]
structure FlOk(w h:Int):Prop where
 w0:1<=w
 w1:w<=12
 h0:1<=h
 h1:h<=12
 wh:w<=5\/h<=5
def bedD(e:Int)(stk:List (Str×Int))(ks:List (List Str))(w h:Int)(sd:List Tl):D:=.tup [ze5 e stk ks,.tup [.int w,.int h],zaH sd]
def zpF(hp:PotD n m st)(hm:m<=100000):∃ (e:Int) (stk:List (Str×Int)) (ks:List (List Str)) (w h:Int) (sd:List Tl) (st':Sto),Y8 (zdj [.ref n] st=some (bedD e stk ks w h sd,st')) (HsOk e stk ks) (FlOk w h) ((∀ t∈sd,zbV w h ks.length t)) ((∃ l:List Tl,sd=srtT l/\PlNd l)) (sd.length<=6) (PotD n (m+400) st') (Fr n st st'):=by
 obtain⟨e,stk,ks,s1,e1,hs,p1,f1⟩:=zm5 hp hm;obtain⟨r2,s2,e2,r20,r21,p2,f2⟩:=za1 (many:=5) p1 (by omega) (by decide) (by decide);obtain⟨r3,y3,s3,e3,x3,y30,y31,p3,f3⟩:=zgE (xs:=[5,5,5,12]) (lo:=5) (hi:=12) p2 (by omega) (by decide) (by decide) (by decide);obtain⟨r4,s4,e4,r40,r41,p4,f4⟩:=za1 (many:=y3) p3 (by omega) (by omega) (by omega);obtain⟨r5,s5,e5,r50,r51,p5,f5⟩:=za1 (many:=2) p4 (by omega) (by decide) (by decide);obtain⟨r6,y6,s6,e6,x6,y60,y61,p6,f6⟩:=zgE (xs:=[1,2,6]) (lo:=1) (hi:=6) p5 (by omega) (by decide) (by decide) (by decide);have e3':zae [.ref n,.int 4] (s2++[.lst [.int 5,.int 5,.int 5,.int 12]])=some (.int r3,s3):=e3;have e6':zae [.ref n,.int 3] (s5++[.lst [.int 1,.int 2,.int 6]])=some (.int r6,s6):=e6;have k1:=hs.lo;have k2:=hs.hi;have f16:Fr n st s6:=((f1.trans f2).trans<|f3.trans f4).trans<|f5.trans f6;obtain⟨w,h,hwh,hfl⟩:∃ w h:Int,(∀ R:Option (Fl×Sto),mR (mU<|zac (mV 1)<|zac (mV 2)<|zac (zas za8<|zac (mV 0)<|zac (mV 1)<|zac (mV 2)<|zac (mB ixA (mL<|zac (mK<|.int 1)<|zac (mK<|.int 2)<|zac (mK<|.int 6)<|mZ)<|zas zae<|zac (mV 0)<|zac (mK<|.int 3)<|mZ)<|mZ)<|mZ) [some (.ref n),some (ze5 e stk ks),some (.tup [.int w,.int h])] s5=R->zcA (rho 3 [.ref n]) st=R)/\FlOk w h:=by
   generalize ze5 e stk ks=hd at *
   by_cases hr:r5=0
   . subst hr;refine⟨1+r4,1+r2,fun R hR=>?_,by omega,by omega,by omega,by omega,by omega⟩;unfold zcA;refine zal (ρ1:=[some (.ref n),some hd,none]) (s1:=s1) (by simp[e1]) ?_;refine zal (ρ1:=[some (.ref n),some hd,some (.tup [.int (1+r2),.int (1+r4)])]) (s1:=s4) (by simp[e2,e3',x3,e4]) ?_;refine zal (ρ1:=[some (.ref n),some hd,some (.tup [.int (1+r4),.int (1+r2)])]) (s1:=s5) ?_ hR;have er:∀ s:Sto,zmQ (mV 2) (mNeg<|mK<|.int 1) [some (.ref n),some hd,some (.tup [.int (1+r2),.int (1+r4)])] s=some (.tup [.int (1+r4),.int (1+r2)],s):=fun s=>rfl;simp[e5,eq_int,er]
   refine⟨1+r2,1+r4,fun R hR=>?_,by omega,by omega,by omega,by omega,by omega⟩;unfold zcA;refine zal (ρ1:=[some (.ref n),some hd,none]) (s1:=s1) (by simp[e1]) ?_;refine zal (ρ1:=[some (.ref n),some hd,some (.tup [.int (1+r2),.int (1+r4)])]) (s1:=s4) (by simp[e2,e3',x3,e4]) ?_;refine zal (ρ1:=[some (.ref n),some hd,some (.tup [.int (1+r2),.int (1+r4)])]) (s1:=s5) (by simp[e5,eq_int,hr]) hR
 have:=hfl.w0;have:=hfl.w1;have:=hfl.h0;have:=hfl.h1;obtain⟨sd,s7,e7,hsd,hso,hsl,p7,f7⟩:=zfW (w:=w) (h:=h) (most:=y6) (a:=.int e) (b:=.tup (stk.map zbC)) (ks:=ks.map zbx) p6 (by omega) (by omega) (by omega) (by omega) (by rw[Af];omega) (by rw[Af];omega) (by omega) (by omega) (by omega);have e7:za8 [.ref n,ze5 e stk ks,.tup [.int w,.int h],.int y6] s6=some (zaH sd,s7):=e7;rw[Af] at hsd;refine⟨e,stk,ks,w,h,sd,s7,zbL<|hwh _ ?_,hs,hfl,hsd,hso,by omega,p7.up<|by omega,f16.trans f7⟩;unfold bedD;generalize ze5 e stk ks=hd at *;simp[e6',x6,e7]
end L2.MP.Hd
namespace L2.MP.Hd
open PySem L2.MP
open L2.MP.Hn (zaH)
variable {x y:Int}{d:Nat}{kvs:List (List Key×D)}{st:Sto}
def zpf(h:st[d]?=some (.dt kvs)):inA (.tup [.int x,.int y]) (.ref d) st=some (.bl (valD kvs [.inl x,.inl y]).isSome,st):=by
 have e0:toP 50 st (.ref d)=none:=by rw[toP];simp[zbs,h]
 have e1:inD false (.tup [.int x,.int y]) (.ref d) st=none:=by
   unfold inD;rw[e0]
   cases toP 50 st (.tup [.int x,.int y]) <;> rfl
 have e2:inSD (.tup [.int x,.int y]) (.ref d) st=none:=rfl;unfold inA orG;rw[show orO (inD false (.tup [.int x,.int y]) (.ref d) st) (inSD (.tup [.int x,.int y]) (.ref d) st)=none by rw[e1,e2];rfl,ze9];simp[dinD,look,h,keysOf,keyOf]
variable {v:D}
def zsW(h:st[d]?=some (.dt kvs))(hv:valD kvs [.inl x,.inl y]=some v):ixA (.ref d) (.tup [.int x,.int y]) st=some (v,st):=by
 have e1:idxD (.ref d) (.tup [.int x,.int y]) st=none:=by simp[idxD,zbs,h]
 unfold ixA orG;rw[e1,ze9];simp[zrx,look,h,keysOf,keyOf,hv]
variable {a b:Str}
def eq_str(ha:Bb a=true)(hb:Bb b=true):eqD (.str a) (.str b) st=some (.bl (a==b),st):=by unfold eqD;rw[zfe ha,zfe hb];simp[Dk]
def ne_str(ha:Bb a=true)(hb:Bb b=true):neD (.str a) (.str b) st=some (.bl (a != b),st):=by unfold neD;rw[zfe ha,zfe hb];simp[Dk,bne]
def byPl(ts:List Tl):List Tl:=ts.foldl putT []
def ziA:∀ (ts acc:List Tl),zft (acc.map kvOf) (ts.map kvOf)=(ts.foldl putT acc).map kvOf
 | [],acc=>rfl
 | t::ts,acc=>by show zft (putD (acc.map kvOf) (kvOf t).1 (kvOf t).2) (ts.map kvOf)=_;rw[zla];exact ziA ts<|putT acc t
def zi0:∀ (ts acc:List Tl),(ts.foldl putT acc).length<=acc.length+ts.length
 | [],acc=>by simp
 | t::ts,acc=>by have h1:=zi0 ts<|putT acc t;have h2:=zij acc t;simp only[Ei,Az];omega
def fnd(P:List Tl)(x y:Int):Option Int:=(P.find? fun t=>decide (t.1=x)&&decide (t.2.1=y)).map fun t=>t.2.2
def zdk(x y:Int):∀ P:List Tl,valD (P.map kvOf) [.inl x,.inl y]=(fnd P x y).map D.int
 | []=>rfl
 | t::P=>by
   have ih:=zdk x y P;have hk:decide ((kvOf t).1=[Cu x,Cu y])=(decide (t.1=x)&&decide (t.2.1=y)):=ziM t (x,y,0);unfold valD fnd at *;rw[Ay,AW,AW,hk]
   cases decide (t.1=x)&&decide (t.2.1=y) with
   | true=>rfl
   | false=>exact ih
variable {P:List Tl}{k:Int}
def zi1{P:List Tl}(h:fnd P x y=some k):∃ t∈P,t.2.2=k:=by unfold fnd at h;obtain⟨t,e,h⟩:=zai h;exact⟨t,List.mem_of_find?_eq_some e,h⟩
variable {t:Tl}{s:Sto}
theorem zq8:zbh [some (.int t.1),some (.int t.2.1),some (.int t.2.2)] s=some (.tup [.tup [.int t.1,.int t.2.1],.int t.2.2],s):=rfl
def zox:∀ ts:List Tl,zf1 (ts.map fun t=>.tup [.tup [.int t.1,.int t.2.1],.int t.2.2])=some (ts.map kvOf)
 | []=>rfl
 | t::ts=>by have ih:=zox ts;rw[Ay,zf1,ih];rfl
theorem zlR{a b c:Option D}{r:Rho}:gTp 3 (gC (gNm 0)<|gC (gNm 1)<|gC (gNm 2)<|gN0) (tupD<|rowT t) (a::b::c::r) st=some (some (.int t.1)::some (.int t.2.1)::some (.int t.2.2)::r,st):=rfl
variable {ts:List Tl}
def zgN(hl:ts.length<=1000):∃ (l:Nat) (st':Sto),Y4 (zbP [zaH ts] st=some (.ref l,st')) (st'[l]?=some (.dt<|(byPl ts).map kvOf)) (st.length<=l) (Gr st st'):=by
 have ec:mCI ⟨ts.map fun t=>tupD (rowT t),[]⟩ (gTp 3<|gC (gNm 0)<|gC (gNm 1)<|gC (gNm 2)<|gN0) zbF zbh (ts.map fun t=>tupD (rowT t)) [none,none,none] st=some (ts.map fun t=>.tup [.tup [.int t.1,.int t.2.1],.int t.2.2],st):=by
   have:∀ W:Wk,walked W st=true->mCI W (gTp 3<|gC (gNm 0)<|gC (gNm 1)<|gC (gNm 2)<|gN0) zbF zbh (ts.map fun t=>tupD (rowT t)) [none,none,none] st=some (ts.map fun t=>.tup [.tup [.int t.1,.int t.2.1],.int t.2.2],st):=by intro W hW;refine zhu (R:=fun ρ=>∃ x y z,ρ=[x,y,z]) ⟨none,none,none,rfl⟩ hW fun t ht ρ hρ=>?_;obtain⟨x,y,z,rfl⟩:=hρ;exact⟨_,zlR,rfl,zq8,_,_,_,rfl⟩
   exact this _ rfl
 have fl:fits (ts.map fun t=>D.tup [.tup [.int t.1,.int t.2.1],.int t.2.2]).length=true:=zax (by rw[Af];omega);have a1:=zaG st<|.lst<|ts.map fun t=>.tup [.tup [.int t.1,.int t.2.1],.int t.2.2];have fk:fits (ts.map kvOf).length=true:=zax (by rw[Af];omega);have g1:=Gr.app st [.lst (ts.map fun t=>.tup [.tup [.int t.1,.int t.2.1],.int t.2.2])];generalize hs1:st++[O.lst (ts.map fun t=>.tup [.tup [.int t.1,.int t.2.1],.int t.2.2])]=s1 at a1 g1;have ed:zpt [.ref st.length] s1=some (.ref s1.length,s1++[.dt ((byPl ts).map kvOf)]):=by unfold zpt;have hm:zft [] (ts.map kvOf)=(byPl ts).map kvOf:=ziA ts [];simp only[zbs,a1,Ad,zox,fk,if_true,hm]
 refine⟨s1.length,s1++[.dt ((byPl ts).map kvOf)],zbL ?_,zaG _ _,g1.len,g1.trans<|Gr.app _ _⟩;unfold zdw zaH;generalize (ts.map fun t=>tupD (rowT t))=T at *;generalize (ts.map fun t=>D.tup [.tup [.int t.1,.int t.2.1],.int t.2.2])=A at *;have ecm:zcf (mWA<|mV 0) 3 [] (gTp 3<|gC (gNm 0)<|gC (gNm 1)<|gC (gNm 2)<|gN0) zbF zbh (rho 1 [.tup T]) st=some (.ref st.length,s1):=by
   have:mWA (mV 0) (rho 1 [.tup T]) st=some (⟨T,[]⟩,st):=by simp[zjD]
   rw[zaS,this];simp only[Ad];rw[show rho0 (rho 1 [.tup T]) 3 []=[none,none,none] from rfl,ec];simp only[Ad,fl,if_true,hs1]
 simp at ecm ⊢;simp[ecm,ed]
variable {n:Nat}
def zqz{T:D}{s':Sto}(ed:dput s n (.tup [.int x,.int y]) (.int k)=some s'):zbd [some T,some (.ref n),some (.int x),some (.int y),some (.int k)] s=some (.nx [some T,some (.ref n),some (.int x),some (.int y),some (.int k)],s'):=by
 unfold zbd;rw[zjp];have c1:mAsg (mV 4) (gSb setD (mV 1)<|mU<|zac (mV 2)<|zac (mV 3)<|mZ) [some T,some (.ref n),some (.int x),some (.int y),some (.int k)] s=none:=by simp[setD]
 rw[c1,ze9];unfold zln;simp[ed]
def zre(hl:ts.length<=500):∃ (st':Sto),Y3 (zbq [zaH ts] st=some (.ref st.length,st')) (st'[st.length]?=some (.dt<|(byPl ts).map kvOf)) (Gr st st'):=by
 have key:=zcd (W:=⟨ts.map fun t=>tupD (rowT t),[]⟩) (g:=gTp 3 (gC (gNm 2)<|gC (gNm 3)<|gC (gNm 4)<|gN0)) (m:=zbd) (ds:=ts.map fun t=>tupD (rowT t)) (ρ:=[some (zaH ts),some (.ref st.length),none,none,none]) (st:=st++[.dt []])
   (Inv:=fun k ρ s=>Y3 ((∃ a b c,ρ=[some (zaH ts),some (.ref st.length),a,b,c])) (s[st.length]?=some (.dt<|((ts.take k).foldl putT []).map kvOf)) (Gr st s))
   ⟨⟨_,_,_,rfl⟩,zaG _ _,Gr.app _ _⟩ (fun _ _ _ _ _=>rfl) (fun k d ρ s hd hI=>by
     obtain⟨⟨a,b,c,rfl⟩,hat,hg⟩:=hI;rw[AB] at hd;obtain⟨t,ht,rfl⟩:=zai hd;have hl2:((ts.take k).foldl putT []).length<=1000:=by have:=zi0 (ts.take k) [];rw[Bp,Bf] at this;omega
     have ed:=zfF (x:=t.1) (y:=t.2.1) (k:=t.2.2) hat hl2;refine⟨[some (zaH ts),some (.ref st.length),some (.int t.1),some (.int t.2.1),some (.int t.2.2)],s,_,_,rfl,zqz ed,⟨_,_,_,rfl⟩,?_,?_⟩
     . rw[AH (getElem?_lt hat),Cq,ht,FC];rfl
     exact⟨by rw[Bx];exact hg.len,fun j hj=>by rw[Ax (by omega)];exact hg.old j hj⟩)
 obtain⟨ρ',s',el,⟨a,b,c,rfl⟩,hat,hg⟩:=key;rw[Af,BQ] at hat;refine⟨s',zbL ?_,hat,hg⟩;unfold zcv;refine zal (ρ1:=[some (zaH ts),some (.ref st.length),none,none,none]) (s1:=st++[.dt []]) (by simp) ?_;refine zal (ρ1:=[some (zaH ts),some (.ref st.length),a,b,c]) (s1:=s') (by
   have:mWA (mV 0) [some (zaH ts),some (.ref st.length),none,none,none] (st++[.dt []])=some (⟨ts.map fun t=>tupD (rowT t),[]⟩,st++[.dt []]):=by unfold zaH;simp[zjD]
   rw[zcO,this];exact el) ?_
 simp
def sds(ks:List (List Str))(k:Int):List Str:=(ks.getD k.toNat []).tail
structure BedAt(bed:D)(stk:List (Str×Int))(ks:List (List Str)):Prop where
 h:∃ hs:D,(∀ s:Sto,ixA bed (.int 0) s=some (hs,s))/\(∀ s:Sto,ixA hs (.int 1) s=some (.tup (stk.map zbC),s))/\∀ s:Sto,ixA hs (.int 2) s=some (.tup (ks.map zbx),s)
structure KsOk(ss:List Str)(ks:List (List Str)):Prop where
 hi:ks.length<=100
 kd:∀ k∈ks,KdOk ss k
variable {ss:List Str}{ks:List (List Str)}
def zcE(h:KsOk ss ks)(h0:0<=k)(h1:k < (ks.length:Int)):∃ f a b c d:Str,Y3 (ks[k.toNat]?=some [f,a,b,c,d]) (sds ks k=[a,b,c,d]) (∀ x∈[a,b,c,d],NmOk x/\(x=""\/x∈ss)):=by
 have hk:k.toNat < ks.length:=by omega
 obtain⟨f,ds,e,hf,hl,hok⟩:=(h.kd _<|Bq hk).ex;have e':ks[k.toNat]?=some (f::ds):=by rw[Ag hk,e]
 have es:sds ks k=ds:=by unfold sds;rw[Au,e'];rfl
 match ds,hl,hok,e',es with
 | [a,b,c,d],_,hok,e',es=>exact⟨f,a,b,c,d,e',es,hok⟩
variable {bed hs KK kd sl:D}
def zl6{K:Int}(i0:ixA bed (.int 0) st=some (hs,st))(i2:ixA hs (.int 2) st=some (KK,st))(el:lenD [KK] st=some (.int K,st))(h0:0<=k)(h1:k < K)(ik:ixA KK (.int k) st=some (kd,st))(es:slB kd (some 1) none st=some (sl,st)):zc1 [some bed,some (.int k),none] st=some (.rt sl,st):=by
 unfold zc1;refine zal (ρ1:=[some bed,some (.int k),some KK]) (s1:=st) (by simp[i0,i2])<|zdy ?_;have et:mT (zbG leD ltD (mK<|.int 0) (mV 1)<|zas lenD<|zac (mV 2)<|mZ) [some bed,some (.int k),some KK] st=some (true,st):=by rw[zjo];unfold zbG;simp[el,h0,h1]
 rw[znJ,et];simp[ik,es]
variable {stk:List (Str×Int)}
def zc7(hb:BedAt bed stk ks)(h:KsOk ss ks)(h0:0<=k)(h1:k < (ks.length:Int)):zbv [bed,.int k] st=some (.tup ((sds ks k).map D.str),st):=by obtain⟨hs,i0,_,i2⟩:=hb.h;obtain⟨f,a,b,c,d,e,es,_⟩:=zcE h h0 h1;rw[es];refine zbL<|zl6 (i0 st) (i2 st) zcD h0 (by rw[Af];exact h1) (zaR h0 (by rw[AB,e];rfl)) ?_;rfl
def zkX:zbt [.tup [.int x,.int y]] st=some (.tup [.tup [.int x,.int (y+1)],.tup [.int (x+1),.int y],.tup [.int x,.int (y - 1)],.tup [.int (x - 1),.int y]],st):=by have i0:ixA (.tup [.int x,.int y]) (.int 0) st=some (.int x,st):=zaR (by decide) rfl;have i1:ixA (.tup [.int x,.int y]) (.int 1) st=some (.int y,st):=zaR (by decide) rfl;refine zbL ?_;unfold zcG;refine zal (ρ1:=[some (.tup [.int x,.int y]),some (.int x),none]) (s1:=st) (by simp[i0]) ?_;refine zal (ρ1:=[some (.tup [.int x,.int y]),some (.int x),some (.int y)]) (s1:=st) (by simp[i1]) ?_;simp
def nmF(ks:List (List Str))(P:List Tl)(p:Int×Int)(j:Nat):Str:=match fnd P p.1 p.2 with
 | some k=>(sds ks k).getD j ""
 | none=>""
variable {pl nr:D}{l:Nat}{J I:Int}{L:List D}
def zsX{L0:D}{y:D}(h1:inA nr (.ref d) s=some (.bl true,s))(hl:s[l]?=some (.lst L))(hx:ixA (.ref d) nr s=some (.int k,s))(hs:zbv [bed,.int k] s=some (sl,s))(hm:modD (.int<|J+2) (.int 4) s=some (.int I,s))(hy:ixA sl (.int I) s=some (y,s))(ha:zb0 (.ref l) [y] s=some (.non,s.set l (.lst<|L++[y]))) :
   zaF [some bed,some (.ref d),some pl,some (.ref l),some (.int J),some nr] s=some (.nx [some bed,some (.ref d),some pl,some (.ref l),some (.int J),some nr],s.set l (.lst<|L++[y])):=by
 unfold zaF;simp[h1,zbs,hl,hx,hs,hm,hy,ha]
def zqU(h1:inA nr (.ref d) s=some (.bl false,s))(hl:s[l]?=some (.lst L))(ha:zb0 (.ref l) [.str ""] s=some (.non,s.set l (.lst<|L++[.str ""]))) :
   zaF [some bed,some (.ref d),some pl,some (.ref l),some (.int J),some nr] s=some (.nx [some bed,some (.ref d),some pl,some (.ref l),some (.int J),some nr],s.set l (.lst<|L++[.str ""])):=by
 unfold zaF;simp[h1,zbs,hl,ha]
variable {j:Nat}
def zgI{P:List Tl}{a b:Int}(hb:BedAt bed stk ks)(h:KsOk ss ks)(hP:∀ t∈P,0<=t.2.2/\t.2.2 < (ks.length:Int))(hd:s[d]?=some (.dt<|P.map kvOf))(hl:s[l]?=some (.lst L))(hL:L.length<=10)(hI:(J+2) % 4=I)(hj:I=(j:Int))(hj4:j < 4) :
   zaF [some bed,some (.ref d),some pl,some (.ref l),some (.int J),some (.tup [.int a,.int b])] s=some (.nx [some bed,some (.ref d),some pl,some (.ref l),some (.int J),some (.tup [.int a,.int b])],s.set l (.lst<|L++[.str (nmF ks P (a,b) j)])):=by
 have hin:=zpf (x:=a) (y:=b) hd;have hv:=zdk a b P;unfold nmF
 cases hf:fnd P a b with
 | none =>
   rw[hf] at hv;rw[hv] at hin;exact zqU hin hl<|append_at hl<|by omega
 | some k =>
   rw[hf] at hv;have hv:valD (P.map kvOf) [.inl a,.inl b]=some (.int k):=hv;rw[hv] at hin;obtain⟨t,ht,rfl⟩:=zi1 hf;obtain⟨k0,k1⟩:=hP t ht;obtain⟨f,x0,x1,x2,x3,e,es,_⟩:=zcE h k0 k1;refine zsX (L0:=.non) hin hl (zsW hd hv) (zc7 hb h k0 k1) (by rw[zhA (by decide),hI]) (zaR (by omega) ?_) (append_at hl<|by omega);show ((sds ks t.2.2).map D.str)[I.toNat]?=some (D.str<|(sds ks t.2.2).getD j "");rw[es,hj,Bu]
   match j,hj4 with
   | 0,_=>rfl
   | 1,_=>rfl
   | 2,_=>rfl
   | 3,_=>rfl
def names4(ks:List (List Str))(P:List Tl)(x y:Int):List Str:=[nmF ks P (x,y+1) 2,nmF ks P (x+1,y) 3,nmF ks P (x,y - 1) 0,nmF ks P (x - 1,y) 1]
variable {ρ:Rho}{ds:List D}
def zgk{e:ME}(h:e ρ st=some (.tup ds,s)):ziF e ρ st=some (⟨pairs ds,[]⟩,s):=by unfold ziF;rw[h];rfl
def zgW{P:List Tl}(hb:BedAt bed stk ks)(h:KsOk ss ks)(hP:∀ t∈P,0<=t.2.2/\t.2.2 < (ks.length:Int))(hd:st[d]?=some (.dt<|P.map kvOf)) :
   ∃ st',Y3 (zbp [bed,.ref d,.tup [.int x,.int y]] st=some (.ref st.length,st')) (st'[st.length]?=some (.lst<|(names4 ks P x y).map D.str)) (Gr st st'):=by
 have hdl:=getElem?_lt hd;have key:=zcd (W:=⟨pairs [.tup [.int x,.int (y+1)],.tup [.int (x+1),.int y],.tup [.int x,.int (y - 1)],.tup [.int (x - 1),.int y]],[]⟩) (g:=gTp 2 (gC (gNm 4)<|gC (gNm 5)<|gN0)) (m:=zaF) (ds:=[D.tup [.int 0,.tup [.int x,.int (y+1)]],.tup [.int 1,.tup [.int (x+1),.int y]],.tup [.int 2,.tup [.int x,.int (y - 1)]],.tup [.int 3,.tup [.int (x - 1),.int y]]]) (ρ:=[some bed,some (.ref d),some (.tup [.int x,.int y]),some (.ref st.length),none,none]) (st:=st++[.lst []])
   (Inv:=fun k ρ s=>Y3 ((∃ a b,ρ=[some bed,some (.ref d),some (.tup [.int x,.int y]),some (.ref st.length),a,b])) (s[st.length]?=some (.lst<|((names4 ks P x y).take k).map D.str)) (Gr st s))
   ⟨⟨_,_,rfl⟩,zaG _ _,Gr.app _ _⟩ (fun _ _ _ _ _=>rfl) (fun k dd ρ s hdd hI=>by
     obtain⟨⟨u,v,rfl⟩,hat,hg⟩:=hI;have hd':=(hg.old _ hdl).trans hd;have hL:(((names4 ks P x y).take k).map D.str).length<=10:=by rw[Af,Bp];simp[names4];omega
     have gr:∀ o:O,Gr st (s.set st.length o):=fun o=>⟨by rw[Bx];exact hg.len,fun j hj=>by rw[Ax (by omega)];exact hg.old j hj⟩
     have at':∀ o:O,(s.set st.length o)[st.length]?=some o:=fun o=>AH<|getElem?_lt hat
     match k,hdd with
     | 0,hdd =>
       cases hdd;exact⟨_,s,_,_,rfl,zgI (pl:=.tup [.int x,.int y]) (I:=2) (j:=2) hb h hP hd' hat hL (by decide) rfl<|by decide,⟨_,_,rfl⟩,at' _,gr _⟩
     | 1,hdd =>
       cases hdd;exact⟨_,s,_,_,rfl,zgI (pl:=.tup [.int x,.int y]) (I:=3) (j:=3) hb h hP hd' hat hL (by decide) rfl<|by decide,⟨_,_,rfl⟩,at' _,gr _⟩
     | 2,hdd =>
       cases hdd;exact⟨_,s,_,_,rfl,zgI (pl:=.tup [.int x,.int y]) (I:=0) (j:=0) hb h hP hd' hat hL (by decide) rfl<|by decide,⟨_,_,rfl⟩,at' _,gr _⟩
     | 3,hdd =>
       cases hdd;exact⟨_,s,_,_,rfl,zgI (pl:=.tup [.int x,.int y]) (I:=1) (j:=1) hb h hP hd' hat hL (by decide) rfl<|by decide,⟨_,_,rfl⟩,at' _,gr _⟩
     | k+4,hdd=>exact absurd hdd (by simp))
 obtain⟨ρ',s',el,⟨u,v,rfl⟩,hat,hg⟩:=key;refine⟨s',zbL ?_,hat,hg⟩;unfold zc3;refine zal (ρ1:=[some bed,some (.ref d),some (.tup [.int x,.int y]),some (.ref st.length),none,none]) (s1:=st++[.lst []]) (by simp) ?_;refine zal (ρ1:=[some bed,some (.ref d),some (.tup [.int x,.int y]),some (.ref st.length),u,v]) (s1:=s') (by
   have ec:zas zbt (zac (mV 2)<|mZ) [some bed,some (.ref d),some (.tup [.int x,.int y]),some (.ref st.length),none,none] (st++[.lst []])=some (.tup [.tup [.int x,.int (y+1)],.tup [.int (x+1),.int y],.tup [.int x,.int (y - 1)],.tup [.int (x - 1),.int y]],st++[.lst []]):=by have:=zkX (x:=x) (y:=y) (st:=st++[.lst []]);simp[this]
   rw[zcO,zgk ec];exact el) ?_
 simp
def okJ(S N:List Str)(j:Nat):Bool:=S.getD j "" != ""&&S.getD j ""==N.getD j ""
def alike(S N:List Str):List Nat:=(AC 4).filter<|okJ S N
def ze6:Bb ("":Str)=true:=by decide +kernel
def nm_F{P:List Tl}(h:KsOk ss ks)(hP:∀ t∈P,0<=t.2.2/\t.2.2 < (ks.length:Int))(p:Int×Int)(j:Nat):NmOk (nmF ks P p j):=by
 unfold nmF
 split
 . rename_i k hf;obtain⟨t,ht,rfl⟩:=zi1 hf;obtain⟨k0,k1⟩:=hP t ht;obtain⟨f,a,b,c,d,e,es,hok⟩:=zcE h k0 k1;rw[es,Au]
   cases hg:[a,b,c,d][j]? with
   | none=>exact zdc
   | some x=>exact (hok x<|AF hg).1
 exact zdc
def kvS(p:Str×Int):Key×D:=(.inr p.1,.int p.2)
def stD(stk:List (Str×Int)):List (Key×D):=zfu []<|stk.map kvS
def znO{κ:Type}[DecidableEq κ]:∀ (kvs:List (κ×D)) (k q:κ) (d:D),valD (putD kvs k d) q=if q=k then some d else valD kvs q:=by
 intro kvs k q d;unfold putD
 by_cases h:(kvs.any fun kv=>decide (kv.1=k))=true
 . rw[if_pos h]
   induction kvs with
   | nil=>simp at h
   | cons p r ih =>
     unfold valD at *;rw[Ay,AW,AW]
     by_cases hp:p.1=k
     . simp only[hp,if_true]
       by_cases hq:q=k
       . simp[hq]
       . have:¬ k=q:=fun e=>hq e.symm;simp only[this,decide_false,hq,if_false];clear h ih
         induction r with
         | nil=>rfl
         | cons u r ih2 =>
           rw[Ay,AW,AW]
           by_cases hu:u.1=k
           . simp only[hu,if_true,this,decide_false];exact ih2
           . simp only[hu,if_false]
             by_cases huq:u.1=q
             . simp[huq]
             simp only[huq,decide_false];exact ih2
     . simp only[hp,if_false]
       by_cases hpq:p.1=q
       . have:¬ q=k:=fun e=>hp<|hpq.trans e;simp[hpq,this]
       simp only[hpq,decide_false];refine ih ?_;rw[Cs] at h;simpa[hp] using h
 . rw[if_neg h];unfold valD;rw[List.find?_append]
   by_cases hq:q=k
   . subst hq;have:kvs.find? (fun kv=>decide (kv.1=q))=none:=by
       rw[List.find?_eq_none];intro x hx hx2;exact h<|List.any_eq_true.mpr ⟨x,hx,hx2⟩
     simp[this]
   have:¬ k=q:=fun e=>hq e.symm;simp[hq,this]
def okV(d:Option D):Prop:=∃ v:Int,d=some (.int v)/\1<=v/\v<=4
def zgL{q:Str}:∀ {more:List (Str×Int)} {acc:List (Key×D)},(∀ p∈more,1<=p.2/\p.2<=4)->(okV (valD acc<|.inr q)\/q∈more.map (·.1))->okV (valD (zfu acc<|more.map kvS)<|.inr q)
 | [],acc,_,h=>by
   rcases h with h | h
   . exact h
   . cases h
 | p::r,acc,hv,h=>by
   show okV (valD (zfu (putD acc (.inr p.1)<|.int p.2)<|r.map kvS)<|.inr q);refine zgL (fun u hu=>hv u (Aj _ hu)) ?_;rw[znO]
   by_cases e:q=p.1
   . subst e;rw[if_pos rfl];have:=hv p An;exact .inl ⟨p.2,rfl,this.1,this.2⟩
   . have e':¬ (Dy q:Key)=.inr p.1:=fun z=>e (by injection z);rw[if_neg e']
     rcases h with h | h
     . exact .inl h
     . rcases List.mem_cons.mp h with h | h
       . exact absurd h e
       exact .inr h
def sv(stk:List (Str×Int))(a:Str):Int:=match valD (stD stk) (.inr a) with | some (.int v)=>v | _=>0
def zpM{stk:List (Str×Int)}(h:∀ p∈stk,1<=p.2/\p.2<=4)(ha:a∈stk.map (·.1)):valD (stD stk) (.inr a)=some (.int<|sv stk a)/\1<=sv stk a/\sv stk a<=4:=by
 obtain⟨v,e,h1,h2⟩:=zgL (acc:=[]) h<|.inr ha;have e:valD (stD stk) (.inr a)=some (.int v):=e;have:sv stk a=v:=by unfold sv;rw[e]
 rw[this];exact⟨e,h1,h2⟩
def zlc:∀ stk:List (Str×Int),znG (stk.map zbC)=some (stk.map kvS)
 | []=>rfl
 | p::r=>by have ih:=zlc r;rw[Ay,znG,ih];rfl
def zlz(hl:stk.length<=1000):zpu [.tup (stk.map zbC)] st=some (.ref st.length,st++[.dk (stD stk)]):=by have fk:fits (stk.map kvS).length=true:=zax (by rw[Af];omega);have e1:zpS [.tup (stk.map zbC)] st=none:=rfl;unfold zpu orN;rw[e1,ze9];unfold zpR;simp only[zlc,Ad,fk,if_true];rfl
def zr0{kvs:List (Key×D)}(h:st[d]?=some (.dk kvs))(hv:valD kvs (.inr a)=some v):ixA (.ref d) (.str a) st=some (v,st):=by
 have e1:idxD (.ref d) (.str a) st=none:=by simp[idxD,zbs,h]
 unfold ixA orG;rw[e1,ze9];simp[zrx,look,h,keyOf,hv]
def zlu:∀ ns:List Int,zpc (ns.map D.int)=some ns
 | []=>rfl
 | n::r=>by have ih:=zlu r;rw[Ay,zpc,ih];rfl
def znX{ns:List Int}(hl:st[l]?=some (.lst<|ns.map D.int))(h:∀ n∈ns,0<=n/\n<=100)(hn:ns.length<=100):sumC [.ref l] st=some (.int ns.sum,st):=by
 have h1:(ns.all zfi&&decide (ns.length<=100000))=true:=by rw[Am];refine⟨List.all_eq_true.mpr fun n hn=>?_,decide_eq_true<|by omega⟩;have:=h n hn;unfold zfi;simp;omega
 unfold sumC;simp only[zbs,hl,Ad,zlu,h1,if_true]
def zpU{K:Option D}(ha:Bb a=true)(hb:Bb b=true):zaD [some (.str a),some (.str b),K] s=some (a==b&&a != "",s):=by
 have e1:=eq_str (st:=s) ha hb;have e2:=ne_str (st:=s) ha ze6;unfold zaD
 cases h:a==b with
 | true=>simp[e1,e2,h]
 | false=>simp[e1,e2,h]
def zqb(h:ixA (.ref d) (.str a) s=some (v,s)):zaE [some (.str a),some (.str b),some (.ref d)] s=some (v,s):=by unfold zaE;simp[h]
def togs(S N:List Str):List (Str×Str):=(S.zip N).filter fun p=>p.1==p.2&&p.1 != ""
variable {S N:List Str}
def zc4{stk:List (Str×Int)}{S N:List Str}(hstk:∀ p∈stk,1<=p.2/\p.2<=4)(hS:S.length<=4)(oS:∀ x∈S,NmOk x/\(x=""\/x∈stk.map (·.1)))(oN:∀ x∈N,Bb x=true)(hd:st[d]?=some (.dk<|stD stk))(hl:st[l]?=some (.lst<|N.map D.str)) :
   ∃ st',zaK [.ref d,.tup (S.map D.str),.ref l] st=some (.int ((togs S N).map fun p=>sv stk p.1).sum,st')/\Gr st st':=by
 have hz:pairD (S.map D.str) (N.map D.str)=(S.zip N).map fun p=>D.tup [.str p.1,.str p.2]:=by unfold pairD;rw[List.zip_map,A3];rfl
 have hmem:∀ p∈S.zip N,p.1∈S/\p.2∈N:=fun p hp=>by obtain⟨a,b⟩:=p;exact Dg hp
 have hw:walked ⟨(S.zip N).map fun p=>D.tup [.str p.1,.str p.2],[(l,N.map D.str)]⟩ st=true:=zcR hl;have ec:mCI ⟨(S.zip N).map fun p=>D.tup [.str p.1,.str p.2],[(l,N.map D.str)]⟩ (gTp 2<|gC (gNm 0)<|gC (gNm 1)<|gN0) zaD zaE ((S.zip N).map fun p=>D.tup [.str p.1,.str p.2]) [none,none,some (.ref d)] st=some ((togs S N).map fun p=>D.int (sv stk p.1),st):=by
   refine zg0 (R:=fun ρ=>∃ x y,ρ=[x,y,some (.ref d)]) ⟨none,none,rfl⟩ hw fun p hp ρ hρ=>?_;obtain⟨x,y,rfl⟩:=hρ;obtain⟨h1,h2⟩:=hmem p hp;refine⟨[some (.str p.1),some (.str p.2),some (.ref d)],rfl,zpU (zgn (oS _ h1).1.ab)<|oN _ h2,fun hc=>?_,_,_,rfl⟩;have hne:p.1≠"":=by rw[Am] at hc;simpa using hc.2
   have hin:p.1∈stk.map (·.1):=by
     rcases (oS _ h1).2 with h | h
     . exact absurd h hne
     exact h
   exact zqb<|zr0 hd (zpM hstk hin).1
 have hm:((togs S N).map fun p=>D.int (sv stk p.1))=((togs S N).map fun p=>sv stk p.1).map D.int:=by rw[A3];rfl
 rw[hm] at ec;have hlen:(togs S N).length<=4:=by refine Aw (BI _ _) ?_;rw[F9];omega
 have hall:∀ n∈(togs S N).map (fun p=>sv stk p.1),0<=n/\n<=100:=fun n hn=>by
   obtain⟨p,hp,rfl⟩:=List.mem_map.mp hn;obtain⟨hp1,hc⟩:=List.mem_filter.mp hp;obtain⟨h1,h2⟩:=hmem p hp1;have hne:p.1≠"":=by rw[Am] at hc;simpa using hc.2
   have hin:p.1∈stk.map (·.1):=by
     rcases (oS _ h1).2 with h | h
     . exact absurd h hne
     exact h
   have:=zpM hstk hin;omega
 have es:=znX (zaG st<|.lst<|((togs S N).map fun p=>sv stk p.1).map D.int) hall (by rw[Af];omega);have fl:fits (((togs S N).map fun p=>sv stk p.1).map D.int).length=true:=zax (by rw[Af,Af];omega);generalize ((togs S N).map fun p=>sv stk p.1).sum=R at *;generalize ((togs S N).map fun p=>sv stk p.1).map D.int=A at *;refine⟨st++[.lst A],zbL ?_,Gr.app _ _⟩;rw[<-hz] at ec;generalize S.map D.str=SS at *;generalize hNN:N.map D.str=NN at *;unfold zbR;have ecm:zcf (mZip (mV 1)<|mV 2) 2 [0] (gTp 2<|gC (gNm 0)<|gC (gNm 1)<|gN0) zaD zaE [some (.ref d),some (.tup SS),some (.ref l)] st=some (.ref st.length,st++[.lst A]):=by
   have:mZip (mV 1) (mV 2) [some (.ref d),some (.tup SS),some (.ref l)] st=some (⟨pairD SS NN,[(l,NN)]⟩,st):=by rw[zrG];simp[znz,zipW,seqD,zbs,hl]
   rw[zaS,this];simp only[Ad];rw[show rho0 [some (.ref d),some (.tup SS),some (.ref l)] 2 [0]=[none,none,some (.ref d)] from rfl,ec];simp only[Ad,fl,if_true]
 simp[ecm,es]
def zk1{a b:Int}(h0:0<=J)(h:[D.tup [.int x,.int (y+1)],.tup [.int (x+1),.int y],.tup [.int x,.int (y - 1)],.tup [.int (x - 1),.int y]][J.toNat]?=some (.tup [.int a,.int b])):∃ s',zaY [.tup [.int x,.int y],.int J] s=some (.tup [.int a,.int b],s')/\Gr s s':=by have ex:=zcl (zaG s<|.lst [.tup [.int x,.int (y+1)],.tup [.int (x+1),.int y],.tup [.int x,.int (y - 1)],.tup [.int (x - 1),.int y]]) h0 h;refine⟨s++[.lst [.tup [.int x,.int (y+1)],.tup [.int (x+1),.int y],.tup [.int x,.int (y - 1)],.tup [.int (x - 1),.int y]]],zbL ?_,Gr.app _ _⟩;unfold zd6;refine zal (ρ1:=[some (.tup [.int x,.int y]),some (.int J),some (.int x),some (.int y)]) (s1:=s) (by simp) ?_;simp[ex]
variable {s1:Sto}
def zrq{a b:Int}{mk:ME}{md:ME}(hm:md ρ s=some (.ref d,s))(h:s[d]?=some (.dt kvs))(hk:mk ρ s=some (.tup [.int a,.int b],s1))(h1:s1[d]?=some (.dt kvs)):zmT md mk ρ s=some ((valD kvs [.inl a,.inl b]).getD .non,s1):=by
 have e1:zpa s d=true:=by unfold zpa;rw[h]
 have e2:zpQ s1 d (.tup [.int a,.int b])=some (valD kvs [.inl a,.inl b]):=by
   unfold zpQ;have:look s1 d (.tup [.int a,.int b])=some (valD kvs [.inl a,.inl b]):=by unfold look;simp only[h1];rfl
   rw[this,zfa]
 unfold zmT;rw[hm];simp only[Ad,e1,if_true];rw[hk];simp only[Ad,e2,A6]
variable {a7 a8:Option D}{mine:Str}
section
variable {mineD:D}
def zoR(hg:zmT (mV 1) (zas zaY<|zac (mV 2)<|zac (mV 6)<|mZ) [some bed,some (.ref d),some pl,some (.int k),some KK,some (.ref l),some (.int J),a7,a8] s=some (.non,s1))
   (hk:ixA KK (.int k) s1=some (kd,s1)) (hm:ixA kd (.int<|J+1) s1=some (.str mine,s1)) :
   zaO [some bed,some (.ref d),some pl,some (.int k),some KK,some (.ref l),some (.int J),a7,a8] s=some (.nx [some bed,some (.ref d),some pl,some (.int k),some KK,some (.ref l),some (.int J),some .non,some (.str mine)],s1):=by
 unfold zaO;refine zal (ρ1:=[some bed,some (.ref d),some pl,some (.int k),some KK,some (.ref l),some (.int J),some .non,a8]) (s1:=s1) (by rw[zfM,hg];rfl) ?_;refine zal (ρ1:=[some bed,some (.ref d),some pl,some (.int k),some KK,some (.ref l),some (.int J),some .non,some (.str mine)]) (s1:=s1) (by simp[hk,hm]) ?_;simp[znH,zm1]
def zn9{o:Int}{od:D}{os:Str}(hg:zmT (mV 1) (zas zaY<|zac (mV 2)<|zac (mV 6)<|mZ) [some bed,some (.ref d),some pl,some (.int k),some KK,some (.ref l),some (.int J),a7,a8] s=some (.int o,s1))
   (hk:ixA KK (.int k) s1=some (kd,s1)) (hm:ixA kd (.int<|J+1) s1=some (.str mine,s1)) (sm:Bb mine=true) (so:Bb os=true) (hI:modD (.int<|J+2) (.int 4) s1=some (.int I,s1)) (ho:ixA KK (.int o) s1=some (od,s1)) (hos:ixA od (.int<|I+1) s1=some (.str os,s1)) (hl:s1[l]?=some (.lst L)) (hL:L.length<=10) :
   zaO [some bed,some (.ref d),some pl,some (.int k),some KK,some (.ref l),some (.int J),a7,a8] s=some (.nx [some bed,some (.ref d),some pl,some (.int k),some KK,some (.ref l),some (.int J),some (.int o),some (.str mine)],if (mine != ""&&os==mine)=true then s1.set l (.lst<|L++[.int J]) else s1):=by
 have e1:=ne_str (st:=s1) sm ze6;have e2:=eq_str (st:=s1) so sm;have ea:=append_at (x:=.int J) hl (by omega);unfold zaO;refine zal (ρ1:=[some bed,some (.ref d),some pl,some (.int k),some KK,some (.ref l),some (.int J),some (.int o),a8]) (s1:=s1) (by rw[zfM,hg];rfl) ?_;refine zal (ρ1:=[some bed,some (.ref d),some pl,some (.int k),some KK,some (.ref l),some (.int J),some (.int o),some (.str mine)]) (s1:=s1) (by simp[hk,hm]) ?_
 cases h1:mine != "" with
 | false=>simp[znH,zm1,e1,h1]
 | true =>
   cases h2:os==mine with
   | false=>simp[znH,zm1,e1,h1,hI,ho,hos,e2,h2]
   | true=>simp[znH,zm1,e1,h1,hI,ho,hos,e2,h2,zbs,hl,ea]
end
def ze4{P:List Tl}{a b:Int}{i:Nat}(h:KsOk ss ks)(hP:∀ t∈P,0<=t.2.2/\t.2.2 < (ks.length:Int))(k0:0<=k)(k1:k < (ks.length:Int))(hd:s[d]?=some (.dt<|P.map kvOf))(hl:s[l]?=some (.lst L))(hL:L.length<=10)
   (hJ:J=(i:Int)) (hi:i < 4) (hI:(J+2) % 4=I) (hj:I=(j:Int)) (hj4:j < 4) (hp:[D.tup [.int x,.int (y+1)],.tup [.int (x+1),.int y],.tup [.int x,.int (y - 1)],.tup [.int (x - 1),.int y]][J.toNat]?=some (.tup [.int a,.int b])) :
   ∃ (b7 b8:Option D) (s':Sto),Y3 (zaO [some bed,some (.ref d),some (.tup [.int x,.int y]),some (.int k),some (.tup<|ks.map zbx),some (.ref l),some (.int J),a7,a8] s=some (.nx [some bed,some (.ref d),some (.tup [.int x,.int y]),some (.int k),some (.tup<|ks.map zbx),some (.ref l),some (.int J),b7,b8],s')) (s'[l]?=some (.lst<|if ((sds ks k).getD i "" != ""&&(sds ks k).getD i ""==nmF ks P (a,b) j)=true then L++[.int J] else L)) (Fr l s s'):=by
 obtain⟨s1,e1,g1⟩:=zk1 (x:=x) (y:=y) (s:=s) (by omega) hp;have hd1:=(g1.old _<|getElem?_lt hd).trans hd;have hl1:=(g1.old _<|getElem?_lt hl).trans hl;have eg:=zrq (a:=a) (b:=b) (s1:=s1) (md:=mV 1) (mk:=zas zaY (zac (mV 2)<|zac (mV 6)<|mZ)) (ρ:=[some bed,some (.ref d),some (.tup [.int x,.int y]),some (.int k),some (.tup<|ks.map zbx),some (.ref l),some (.int J),a7,a8]) rfl hd (by simp[e1]) hd1;have hv:=zdk a b P;obtain⟨f,x0,x1,x2,x3,e,es,hok⟩:=zcE h k0 k1;have ek:ixA (.tup<|ks.map zbx) (.int k) s1=some (zbx [f,x0,x1,x2,x3],s1):=zaR k0 (by rw[AB,e];rfl);have em:ixA (zbx [f,x0,x1,x2,x3]) (.int<|J+1) s1=some (.str ((sds ks k).getD i ""),s1):=by
   refine zaR (by omega) ?_;rw[es];have:(J+1).toNat=i+1:=by omega
   rw[this]
   match i,hi with
   | 0,_=>rfl
   | 1,_=>rfl
   | 2,_=>rfl
   | 3,_=>rfl
 have sm:NmOk ((sds ks k).getD i ""):=by
   rw[es,Au]
   cases hg:[x0,x1,x2,x3][i]? with
   | none=>exact zdc
   | some u=>exact (hok u<|AF hg).1
 generalize (sds ks k).getD i ""=mine at em sm ⊢
 cases hf:fnd P a b with
 | none =>
   have en:nmF ks P (a,b) j="":=by unfold nmF;rw[hf]
   rw[hf] at hv;rw[hv] at eg;refine⟨_,_,s1,zoR eg ek em,?_,g1.fr l⟩;rw[en];have:(mine != ""&&mine=="")=false:=by cases h:mine=="" <;> simp[bne,h]
   rw[this];exact hl1
 | some o =>
   have en:nmF ks P (a,b) j=(sds ks o).getD j "":=by unfold nmF;rw[hf]
   rw[hf] at hv;rw[hv] at eg;obtain⟨t,ht,rfl⟩:=zi1 hf;obtain⟨o0,o1⟩:=hP t ht;obtain⟨f',z0,z1,z2,z3,e',es',hok'⟩:=zcE h o0 o1;have eo:ixA (.tup<|ks.map zbx) (.int t.2.2) s1=some (zbx [f',z0,z1,z2,z3],s1):=zaR o0 (by rw[AB,e'];rfl);have eos:ixA (zbx [f',z0,z1,z2,z3]) (.int<|I+1) s1=some (.str ((sds ks t.2.2).getD j ""),s1):=by
     refine zaR (by omega) ?_;rw[es'];have:(I+1).toNat=j+1:=by omega
     rw[this]
     match j,hj4 with
     | 0,_=>rfl
     | 1,_=>rfl
     | 2,_=>rfl
     | 3,_=>rfl
   have so:NmOk ((sds ks t.2.2).getD j ""):=by
     rw[es',Au]
     cases hg:[z0,z1,z2,z3][j]? with
     | none=>exact zdc
     | some u=>exact (hok' u<|AF hg).1
   rw[en];generalize (sds ks t.2.2).getD j ""=os at eos so ⊢;have eg:zmT (mV 1) (zas zaY<|zac (mV 2)<|zac (mV 6)<|mZ) [some bed,some (.ref d),some (.tup [.int x,.int y]),some (.int k),some (.tup<|ks.map zbx),some (.ref l),some (.int J),a7,a8] s=some (.int t.2.2,s1):=eg;have rd:=zn9 eg ek em (zgn sm.ab) (zgn so.ab) (by rw[zhA (by decide),hI]) eo eos hl1 hL;have hsym:(mine != ""&&os==mine)=(mine != ""&&mine==os):=by
     have:(os==mine)=(mine==os):=by
       by_cases hq:os=mine
       . subst hq;rfl
       rw[beq_false_of_ne hq,beq_false_of_ne fun z=>hq z.symm]
     rw[this]
   rw[hsym] at rd;refine⟨_,_,_,rd,?_,?_⟩
   . by_cases hc:(mine != ""&&mine==os)=true
     . rw[if_pos hc,if_pos hc,AH (getElem?_lt hl1)]
     rw[if_neg hc,if_neg hc];exact hl1
   . by_cases hc:(mine != ""&&mine==os)=true
     . rw[if_pos hc];exact (g1.fr l).trans<|Fn _ _ _
     rw[if_neg hc];exact g1.fr l
def fl(p:Nat->Bool)(k:Nat):List D:=((AC k).filter p).map fun (i:Nat)=>D.int (i:Int)
def zer(p:Nat->Bool)(k:Nat):fl p (k+1)=if p k=true then fl p k++[.int (k:Int)] else fl p k:=by
 unfold fl;rw[Dq,DG,Bi]
 by_cases h:p k=true
 . rw[if_pos h];simp[h]
 rw[if_neg h];simp[h]
def zgd{P:List Tl}(hb:BedAt bed stk ks)(h:KsOk ss ks)(hP:∀ t∈P,0<=t.2.2/\t.2.2 < (ks.length:Int))(k0:0<=k)(k1:k < (ks.length:Int))(hd:st[d]?=some (.dt<|P.map kvOf)) :
   ∃ st',Y3 (zcn [bed,.ref d,.tup [.int x,.int y],.int k] st=some (.ref st.length,st')) (st'[st.length]?=some (.lst<|(alike (sds ks k)<|names4 ks P x y).map fun (i:Nat)=>D.int (i:Int))) (Gr st st'):=by
 obtain⟨hs,i0,_,i2⟩:=hb.h;have hdl:=getElem?_lt hd;have key:=zcd (W:=⟨run 0 4,[]⟩) (g:=gNm 6) (m:=zaO) (ds:=[D.int 0,.int 1,.int 2,.int 3]) (ρ:=[some bed,some (.ref d),some (.tup [.int x,.int y]),some (.int k),some (.tup<|ks.map zbx),some (.ref st.length),none,none,none]) (st:=st++[.lst []])
   (Inv:=fun i ρ s=>Y3 ((∃ a b c,ρ=[some bed,some (.ref d),some (.tup [.int x,.int y]),some (.int k),some (.tup<|ks.map zbx),some (.ref st.length),a,b,c])) (s[st.length]?=some (.lst<|fl (okJ (sds ks k)<|names4 ks P x y) i)) (Gr st s))
   ⟨⟨_,_,_,rfl⟩,zaG _ _,Gr.app _ _⟩ (fun _ _ _ _ _=>rfl) (fun i dd ρ s hdd hI=>by
     obtain⟨⟨u,v,w,rfl⟩,hat,hg⟩:=hI;have hd':=(hg.old _ hdl).trans hd;have hL:(fl (okJ (sds ks k)<|names4 ks P x y) i).length<=10:=by
       have h1:(fl (okJ (sds ks k)<|names4 ks P x y) i).length<=i:=by unfold fl;rw[Af];exact Aw (BI _ _)<|by simp
       have:=getElem?_lt hdd;simp at this;omega
     have fin:∀ s':Sto,Fr st.length s s'->Gr st s':=fun s' f=>⟨Aw hg.len f.len,fun j hj=>(f.old j (Av hj hg.len)<|by omega).trans (hg.old j hj)⟩
     match i,hdd with
     | 0,hdd =>
       cases hdd;obtain⟨b7,b8,s',e,hat',f⟩:=ze4 (bed:=bed) (I:=2) (i:=0) (j:=2) (a:=x) (b:=y+1) (x:=x) (y:=y) (a7:=v) (a8:=w) h hP k0 k1 hd' hat hL rfl (by decide) (by decide) rfl (by decide) rfl;exact⟨_,s,_,s',rfl,e,⟨_,_,_,rfl⟩,by rw[zer];exact hat',fin s' f⟩
     | 1,hdd =>
       cases hdd;obtain⟨b7,b8,s',e,hat',f⟩:=ze4 (bed:=bed) (I:=3) (i:=1) (j:=3) (a:=x+1) (b:=y) (x:=x) (y:=y) (a7:=v) (a8:=w) h hP k0 k1 hd' hat hL rfl (by decide) (by decide) rfl (by decide) rfl;exact⟨_,s,_,s',rfl,e,⟨_,_,_,rfl⟩,by rw[zer];exact hat',fin s' f⟩
     | 2,hdd =>
       cases hdd;obtain⟨b7,b8,s',e,hat',f⟩:=ze4 (bed:=bed) (I:=0) (i:=2) (j:=0) (a:=x) (b:=y - 1) (x:=x) (y:=y) (a7:=v) (a8:=w) h hP k0 k1 hd' hat hL rfl (by decide) (by decide) rfl (by decide) rfl;exact⟨_,s,_,s',rfl,e,⟨_,_,_,rfl⟩,by rw[zer];exact hat',fin s' f⟩
     | 3,hdd =>
       cases hdd;obtain⟨b7,b8,s',e,hat',f⟩:=ze4 (bed:=bed) (I:=1) (i:=3) (j:=1) (a:=x - 1) (b:=y) (x:=x) (y:=y) (a7:=v) (a8:=w) h hP k0 k1 hd' hat hL rfl (by decide) (by decide) rfl (by decide) rfl;exact⟨_,s,_,s',rfl,e,⟨_,_,_,rfl⟩,by rw[zer];exact hat',fin s' f⟩
     | i+4,hdd=>exact absurd hdd (by simp))
 obtain⟨ρ',s',el,⟨u,v,w,rfl⟩,hat,hg⟩:=key;refine⟨s',zbL ?_,hat,hg⟩;have i0':=i0 st;have i2':=i2 st;generalize ks.map zbx=KK at *;unfold zdv;refine zal (ρ1:=[some bed,some (.ref d),some (.tup [.int x,.int y]),some (.int k),some (.tup KK),some (.ref st.length),none,none,none]) (s1:=st++[.lst []]) (by simp[i0',i2']) ?_;refine zal (ρ1:=[some bed,some (.ref d),some (.tup [.int x,.int y]),some (.int k),some (.tup KK),some (.ref st.length),u,v,w]) (s1:=s') (by
   rw[zcO,zif (k:=4) rfl (by decide)];exact el) ?_
 simp
def zte{e:Nat}(i0:ixA bed (.int 0) s=some (hs,s))(i2:ixA hs (.int 2) s=some (KK,s))(ik:ixA KK (.int k) s=some (kd,s))(ij:ixA kd (.int<|J+1) s=some (.str mine,s))(iv:ixA (.ref e) (.str mine) s=some (v,s)):zbI [some (.int J),some (.ref e),some bed,some (.int k)] s=some (v,s):=by unfold zbI;simp[i0,i2,ik,ij,iv]
def eq_nil{m:Nat}{js:List Nat}(hl:st[l]?=some (.lst<|js.map fun (i:Nat)=>D.int (i:Int)))(hm:st[m]?=some (.lst [])):eqD (.ref l) (.ref m) st=some (.bl js.isEmpty,st):=by
 have e:(js.map fun (i:Nat)=>D.int (i:Int))=(js.map fun (i:Nat)=>(i:Int)).map D.int:=by rw[A3];rfl
 rw[e] at hl;unfold eqD;rw[zdM (n:=98) hl,zdM (n:=98) (as:=[]) hm]
 cases js <;> rfl
def zgR{stk:List (Str×Int)}{P:List Tl}(hb:BedAt bed stk ks)(h:KsOk (stk.map (·.1)) ks)(hstk:∀ p∈stk,1<=p.2/\p.2<=4)(hsl:stk.length<=1000)(hP:∀ t∈P,0<=t.2.2/\t.2.2 < (ks.length:Int))(k0:0<=k)(k1:k < (ks.length:Int))(hd:st[d]?=some (.dt<|P.map kvOf)) :
   ∃ st',zbH [bed,.ref d,.tup [.int x,.int y],.int k] st=some (.int ((alike (sds ks k)<|names4 ks P x y).map fun i=>sv stk ((sds ks k).getD i "")).sum,st')/\Gr st st':=by
 obtain⟨s1,e1,a1,g1⟩:=zgd (x:=x) (y:=y) hb h hP k0 k1 hd;obtain⟨hs,i0,i1,i2⟩:=id hb.h;have hmem:∀ i∈alike (sds ks k) (names4 ks P x y),i < 4/\(sds ks k).getD i ""≠"":=fun i hi=>by obtain⟨h1,h2⟩:=List.mem_filter.mp hi;unfold okJ at h2;rw[Am] at h2;exact⟨List.mem_range.mp h1,by simpa using h2.1⟩
 have hle:(alike (sds ks k)<|names4 ks P x y).length<=4:=by have:=BI (okJ (sds ks k)<|names4 ks P x y)<|AC 4;rw[Cp] at this;exact this
 obtain⟨f,x0,x1,x2,x3,e,es,hok⟩:=zcE h k0 k1;generalize alike (sds ks k) (names4 ks P x y)=js at *;have a2:(s1++[O.lst []])[st.length]?=some (.lst<|js.map fun (i:Nat)=>D.int (i:Int)):=by rw[Ao (getElem?_lt a1)];exact a1
 have en:=eq_nil a2<|zaG s1<|.lst [];have g2:=Gr.app s1 [.lst []];generalize hs2:s1++[O.lst []]=s2 at *
 by_cases hj:js=[]
 . subst hj;refine⟨s2,zbL ?_,g1.trans g2⟩;unfold zd8;refine zal (ρ1:=[some bed,some (.ref d),some (.tup [.int x,.int y]),some (.int k),some (.ref st.length),none]) (s1:=s1) (by simp[e1])<|zdy ?_;simp[hs2,en]
 . have hne:js.isEmpty=false:=by cases js with
     | nil=>exact absurd rfl hj
     | cons a b=>rfl
   rw[hne] at en;have ed:=zlz (stk:=stk) (st:=s2) hsl;have a3:=zaG s2<|.dk<|stD stk;have a2':(s2++[O.dk (stD stk)])[st.length]?=some (.lst<|js.map fun (i:Nat)=>D.int (i:Int)):=by rw[Ao (getElem?_lt a2)];exact a2
   have g3:=Gr.app s2 [.dk (stD stk)];generalize hs3:s2++[O.dk (stD stk)]=s3 at *;have side:∀ i∈js,(sds ks k).getD i ""∈stk.map (·.1):=fun i hi=>by
     obtain⟨h1,h2⟩:=hmem i hi;rw[es] at h2 ⊢;have hx:[x0,x1,x2,x3].getD i ""∈[x0,x1,x2,x3]:=by
       rw[Au]
       cases hg:[x0,x1,x2,x3][i]? with
       | none =>
         rw[Au,hg] at h2;exact absurd rfl h2
       | some u=>exact AF hg
     rcases (hok _ hx).2 with h3 | h3
     . exact absurd h3 h2
     exact h3
   have ec:mCI ⟨js.map fun (i:Nat)=>D.int (i:Int),[(st.length,js.map fun (i:Nat)=>D.int (i:Int))]⟩ (gNm 0) zbF zbI (js.map fun (i:Nat)=>D.int (i:Int)) [none,some (.ref s2.length),some bed,some (.int k)] s3=some (js.map fun i=>D.int (sv stk<|(sds ks k).getD i ""),s3):=by
     refine zhu (R:=fun ρ=>∃ x,ρ=[x,some (.ref s2.length),some bed,some (.int k)]) ⟨none,rfl⟩ (zcR a2') fun i hi ρ hρ=>?_;obtain⟨u,rfl⟩:=hρ;have ek:ixA (.tup<|ks.map zbx) (.int k) s3=some (zbx [f,x0,x1,x2,x3],s3):=zaR k0 (by rw[AB,e];rfl);have ij:ixA (zbx [f,x0,x1,x2,x3]) (.int<|(i:Int)+1) s3=some (.str ((sds ks k).getD i ""),s3):=by
       refine zaR (by omega) ?_;rw[es];have:((i:Int)+1).toNat=i+1:=by omega
       rw[this]
       match i,(hmem i hi).1 with
       | 0,_=>rfl
       | 1,_=>rfl
       | 2,_=>rfl
       | 3,_=>rfl
     exact⟨[some (.int (i:Int)),some (.ref s2.length),some bed,some (.int k)],rfl,rfl,zte (i0 s3) (i2 s3) ek ij<|zr0 a3 (zpM hstk<|side i hi).1,_,rfl⟩
   have hm:(js.map fun i=>D.int (sv stk<|(sds ks k).getD i ""))=(js.map fun i=>sv stk ((sds ks k).getD i "")).map D.int:=by rw[A3];rfl
   rw[hm] at ec;have hall:∀ n∈js.map (fun i=>sv stk ((sds ks k).getD i "")),0<=n/\n<=100:=fun n hn=>by obtain⟨i,hi,rfl⟩:=List.mem_map.mp hn;have:=zpM hstk<|side i hi;omega
   have esm:=znX (zaG s3<|.lst<|(js.map fun i=>sv stk ((sds ks k).getD i "")).map D.int) hall (by rw[Af];omega);have fl':fits ((js.map fun i=>sv stk ((sds ks k).getD i "")).map D.int).length=true:=zax (by rw[Af,Af];omega);generalize (js.map fun i=>sv stk ((sds ks k).getD i "")).sum=R at *;generalize (js.map fun i=>sv stk ((sds ks k).getD i "")).map D.int=A at *;refine⟨s3++[.lst A],zbL ?_,((g1.trans g2).trans g3).trans<|Gr.app _ _⟩;generalize (js.map fun (i:Nat)=>D.int (i:Int))=JJ at *;unfold zd8;refine zal (ρ1:=[some bed,some (.ref d),some (.tup [.int x,.int y]),some (.int k),some (.ref st.length),none]) (s1:=s1) (by simp[e1]) ?_;refine zal (ρ1:=[some bed,some (.ref d),some (.tup [.int x,.int y]),some (.int k),some (.ref st.length),none]) (s1:=s2) (by simp[hs2,en]) ?_;refine zal (ρ1:=[some bed,some (.ref d),some (.tup [.int x,.int y]),some (.int k),some (.ref st.length),some (.ref s2.length)]) (s1:=s3) (by simp[i0,i1,ed]) ?_;have ecm:zcf (mWA<|mV 4) 1 [5,0,3] (gNm 0) zbF zbI [some bed,some (.ref d),some (.tup [.int x,.int y]),some (.int k),some (.ref st.length),some (.ref s2.length)] s3=some (.ref s3.length,s3++[.lst A]):=by
     have:mWA (mV 4) [some bed,some (.ref d),some (.tup [.int x,.int y]),some (.int k),some (.ref st.length),some (.ref s2.length)] s3=some (⟨JJ,[(st.length,JJ)]⟩,s3):=by simp[zjD,zbs,a2']
     rw[zaS,this];simp only[Ad];rw[show rho0 [some bed,some (.ref d),some (.tup [.int x,.int y]),some (.int k),some (.ref st.length),some (.ref s2.length)] 1 [5,0,3]=[none,some (.ref s2.length),some bed,some (.int k)] from rfl,ec];simp only[Ad,fl',if_true]
   simp[ecm,esm]
def zjI(hS:S.length=4)(hN:N.length=4):((togs S N).map fun p=>sv stk p.1)=(alike S N).map fun i=>sv stk (S.getD i ""):=by
 match S,N,hS,hN with
 | [a,b,c,d],[a',b',c',d'],_,_ =>
   have e:AC 4=[0,1,2,3]:=rfl;have f0:okJ [a,b,c,d] [a',b',c',d'] 0=(a==a'&&a != ""):=DM _ _;have f1:okJ [a,b,c,d] [a',b',c',d'] 1=(b==b'&&b != ""):=DM _ _;have f2:okJ [a,b,c,d] [a',b',c',d'] 2=(c==c'&&c != ""):=DM _ _;have f3:okJ [a,b,c,d] [a',b',c',d'] 3=(d==d'&&d != ""):=DM _ _;unfold togs alike;rw[e];simp only[List.zip_cons_cons,List.zip_nil_left,D3,Ga,f0,f1,f2,f3]
   cases (a==a'&&a != "") <;> cases (b==b'&&b != "") <;> cases (c==c'&&c != "") <;> cases (d==d'&&d != "") <;> rfl
structure TameP(w:Nat)(p:PyData):Prop where
 lay:p.canLay0=true
 int:p.intsShort 13=true
 shw:p.showable=true
 wt:p.weight<=w
def Tame(w k:Nat)(d:D):Prop:=∃ p,(∀ (m:Nat) (st:Sto),toP (m+k) st d=some p)/\TameP w p
variable {w:Nat}
def Tame.up{k w' k':Nat}{d:D}(h:Tame w k d)(hw:w<=w')(hk:k<=k'):Tame w' k' d:=by obtain⟨p,e,t⟩:=h;refine⟨p,fun m st=>?_,t.lay,t.int,t.shw,Aw t.wt hw⟩;have:=e (m+(k' - k)) st;rw[show m+(k' - k)+k=m+k' by omega] at this;exact this
def zeE{i:Int}(h0:0<=i)(h1:i<=100):Tame 8 1 (.int i):=by
 refine⟨.int i,fun m st=>by rw[toP],by simp only[Bt],?_,?_,?_⟩
 . simp only[D7];exact decide_eq_true<|PyData.shown_int_le<|by omega
 . simp only[CH];refine decide_eq_true ?_
   by_cases hz:i.natAbs=0
   . rw[hz];decide
   exact Av ((FI hz).mpr (show i.natAbs < 2 ^ 7 by omega))<|by decide
 . simp only[EV]
   split
   . exact Bd _
   . rename_i hz;have hz:i.natAbs≠0:=by simp at hz;omega
     have:=(FI hz).mpr (show i.natAbs < 2 ^ 7 by omega);omega
def zhL{x:Str}(h:NmOk x):Tame 8 1 (.str x):=by refine⟨.str x,fun m st=>zfe (zgn h.ab),by simp only[Bt];exact zgn h.ab,by simp only[D7],by simp only[CH],?_⟩;have:=h.len;simp only[EV];rw[BO] at this;exact this
def zhN{w k:Nat}:∀ {ds:List D},(∀ d∈ds,Tame w k d)->∃ ps:List PyData,(∀ (m:Nat) (st:Sto),toPs (toP (m+k) st) ds=some ps)/\BE ps=true/\Dx 13 ps=true/\DH ps=true/\D8 ps<=(w+1)*ds.length
 | [],_=>⟨[],fun _ _=>rfl,by simp only[BE],by simp only[Dx],by simp only[DH],by simp only[D8];omega⟩
 | d::ds,h=>by
   obtain⟨p,e,t⟩:=h d An;obtain⟨ps,e1,e2,e3,e4,e5⟩:=zhN (ds:=ds) fun x hx=>h x<|Aj _ hx;refine⟨p::ps,fun m st=>?_,?_,?_,?_,?_⟩
   . rw[toPs,e,Ad,e1];rfl
   . simp only[BE,t.lay,e2];rfl
   . simp only[Dx,t.int,e3];rfl
   . simp only[DH,t.shw,e4];rfl
   simp only[D8,Az];have:=t.wt;rw[Nat.mul_add];omega
def zeD{k L:Nat}{ds:List D}(h:∀ d∈ds,Tame w k d)(hl:ds.length<=L):Tame ((w+1)*L) (k+1) (.tup ds):=by
 obtain⟨ps,e1,e2,e3,e4,e5⟩:=zhN h;refine⟨.tuple ps,fun m st=>?_,by simp only[Bt];exact e2,by simp only[D7];exact e3,by simp only[CH];exact e4,?_⟩
 . rw[show m+(k+1)=(m+k)+1 by omega,toP,e1];rfl
 simp only[EV];exact Aw e5<|Nat.mul_le_mul_left _ hl
def zk6{k:Nat}{d:D}(h:Tame w k d)(hw:w<=1000000)(hk:k<=100):∃ z:Str,∀ st:Sto,zgB [d] st=some (.str z,st):=by
 obtain⟨p,e,t⟩:=h;refine⟨p.shown,fun st=>?_⟩;have e':=e (100 - k) st;rw[show 100 - k+k=100 by omega] at e';have hd:p.hasDict=false:=PyData.hasDict_of_canLay p t.lay;have hf:fits p.shown.length=true:=by unfold fits;refine decide_eq_true<|PyData.shown_fits (B:=13) (by decide) (by decide) (PyData.leavesShort_of_canLay0 13 p t.lay t.int)<|Aw t.wt<|Aw hw<|by decide
 unfold zgB;simp only[e',Ad,t.shw,hd,hf];rfl
def zhM{w h kn:Int}{ts:List Tl}(ht:∀ t∈ts,zbV w h kn t)(hl:ts.length<=60)(hw:w<=100)(hh:h<=100)(hk:kn<=100):Tame 1680 3 (zaH ts):=by
 refine zeD (w:=27) (k:=2) (L:=60) (fun d hd=>?_) (by rw[Af];exact hl);obtain⟨t,htm,rfl⟩:=List.mem_map.mp hd;obtain⟨a1,a2,a3,a4,a5,a6⟩:=ht t htm;refine zeD (w:=8) (k:=1) (L:=3) (fun d hd=>?_) (by simp[rowT]);simp[rowT] at hd
 rcases hd with rfl | rfl | rfl
 . exact zeE a1<|by omega
 . exact zeE a3<|by omega
 exact zeE a5<|by omega
def zlj{z:Str}:neS (.str z) (.str z) st=some (.bl false,st):=by unfold neS;simp
def plD(p:Int×Int):D:=.tup [.int p.1,.int p.2]
end L2.MP.Hd
namespace L2.MP
open PySem
def zr8{W:Wk}{g:MG}{c:MT}{m:ME}{α:Type}{f h:α->D}{R:Rho->Prop}:∀ {as:List α} {ρ:Rho} {st:Sto},R ρ->(∀ s,Gr st s->walked W s=true)->(∀ a∈as,∀ ρ s,R ρ->Gr st s->∃ ρ1 s1,g (f a) ρ s=some (ρ1,s)/\c ρ1 s=some (true,s)/\m ρ1 s=some (h a,s1)/\Gr s s1/\R ρ1) ->
   ∃ s',mCI W g c m (as.map f) ρ st=some (as.map h,s')/\Gr st s'
 | [],ρ,st,r,wk,_=>⟨st,by unfold mCI;rw[BK];simp only[wk st (Gr.refl st),if_true,BK],Gr.refl st⟩
 | a::as,ρ,st,r,wk,hs=>by obtain⟨ρ1,s1,e1,e2,e3,g1,r1⟩:=hs a An ρ st r<|Gr.refl st;obtain⟨s',e,g'⟩:=zr8 (W:=W) (g:=g) (c:=c) (m:=m) (f:=f) (h:=h) (R:=R) (as:=as) (st:=s1) r1 (fun s q=>wk s (g1.trans q)) fun b hb ρ s q z=>hs b (Aj _ hb) ρ s q<|g1.trans z;refine⟨s',?_,g1.trans g'⟩;rw[Ay];unfold mCI;rw[if_pos (wk st<|Gr.refl st),e1];simp only[Ad,e2,if_true,e3,e,A6,Ay]
end L2.MP
namespace L2.MP.Ce
open PySem L2.MP
variable {α:Type}
def zlD{α:Type}(f:α->Bool):∀ as:List α,znv (as.map fun a=>D.bl (f a))=some (as.map f)
 | []=>rfl
 | a::as=>by show (znv<|as.map fun a=>D.bl (f a)).map _=_;rw[zlD f as];rfl
variable {st:Sto}
def zrL{f:α->Bool}{as:List α}{n:Nat}(h:st[n]?=some (.lst<|as.map fun a=>D.bl (f a))):allC [.ref n] st=some (.bl (as.all f),st):=by unfold allC;simp only[zbs,h,Ad,zlD,A6,List.all_map];rfl
variable {t:MT}{a:MS}{ρ:Rho}{s1:Sto}{b:Bool}
def ifB(h:t ρ st=some (b,s1)):mIf t a zdr ρ st=if b=true then a ρ s1 else some (.nx ρ,s1):=by simp only[znJ,h,Ad,zpI]
def ifT{r:Option (Fl×Sto)}(h:t ρ st=some (true,s1))(k:a ρ s1=r):mIf t a zdr ρ st=r:=by rw[ifB h,if_pos rfl];exact k
def ifF(h:t ρ st=some (false,s1)):mIf t a zdr ρ st=some (.nx ρ,s1):=by rw[ifB h,if_neg (by decide)]
variable {m:ME}
def tstB(h:m ρ st=some (.bl b,s1)):mT m ρ st=some (b,s1):=by simp only[zjo,h,Ad]
def notB(h:m ρ st=some (.bl b,s1)):zfv (mT m) ρ st=some (!b,s1):=by simp only[zpJ,zjo,h,Ad,A6]
def orR{a b:MT}{r:Option (Bool×Sto)}(h1:a ρ st=some (false,s1))(h2:b ρ s1=r):mOrT a b ρ st=r:=by simp only[zrI,h1,Ad,By,if_false,h2]
section
variable {mi:MI} {f h:α->D} {b:α->Bool} {as:List α} {fr:List Nat} {ρ0:Rho} {gd:List (Nat×List D)}
def zkM(hw:mi ρ st=some (⟨as.map f,gd⟩,st))(hg:∀ s,Gr st s->walked ⟨as.map f,gd⟩ s=true)(hρ:rho0 ρ 1 fr=none::ρ0)(hl:as.length<=10000)
   (H:∀ a∈as,∀ s,Gr st s->∃ s1,m (some (f a)::ρ0) s=some (h a,s1)/\Gr s s1) :
   ∃ s1,zcf mi 1 fr (gNm 0) zbF m ρ st=some (.ref s1.length,s1++[.lst (as.map h)])/\Gr st s1:=by
 obtain⟨s1,e,g⟩:=zr8 (W:=⟨as.map f,gd⟩) (g:=gNm 0) (c:=zbF) (m:=m) (f:=f) (h:=h) (R:=fun r=>∃ x,r=x::ρ0) (as:=as) (ρ:=none::ρ0) (st:=st) ⟨none,rfl⟩ hg (fun a ha r s hr gs=>by obtain⟨x,rfl⟩:=hr;obtain⟨s1,e,g⟩:=H a ha s gs;exact⟨some (f a)::ρ0,s1,rfl,rfl,e,g,_,rfl⟩)
 have fl:fits (as.map h).length=true:=zax (by rw[Af];exact hl);refine⟨s1,?_,g⟩;rw[zaS,hw];simp only[Ad];rw[hρ,e];simp only[Ad,fl,if_true]
def zrM(hw:mi ρ st=some (⟨as.map f,gd⟩,st))(hg:∀ s,Gr st s->walked ⟨as.map f,gd⟩ s=true)(hρ:rho0 ρ 1 fr=none::ρ0)(hl:as.length<=10000)
   (H:∀ a∈as,∀ s,Gr st s->∃ s1,m (some (f a)::ρ0) s=some (.bl (b a),s1)/\Gr s s1) :
   ∃ st',zas allC (zac (zcf mi 1 fr (gNm 0) zbF m) mZ) ρ st=some (.bl (as.all b),st')/\Gr st st':=by
 obtain⟨s1,ec,g⟩:=zkM (h:=fun a=>D.bl (b a)) hw hg hρ hl H;refine⟨_,?_,g.trans<|Gr.app s1 [.lst (as.map fun a=>D.bl (b a))]⟩;simp only[zlG,zlF,zpK,ec,Ad];exact zrL<|zaG s1 _
end
end L2.MP.Ce
namespace L2.MP.Hx
open PySem L2 L2.MP PySem.W PyProof.Rows
def ziI{g:Addr->Option Obj}(a:Addr):∀ l:List Addr,(l.filterMap fun b=>(g b).map fun o=>(b,o)).lookup a=if a∈l then g a else none
 | []=>rfl
 | b::l=>by
   rw[BN]
   by_cases h:a=b
   . subst h;rw[if_pos An]
     cases hg:g a with
     | none =>
       simp only[Gc];rw[ziI a l,hg]
       split <;> rfl
     | some o=>simp only[A6,A1,beq_self_eq_true]
   . have e:(a==b)=false:=beq_false_of_ne h;have e2:(if a∈b::l then g a else none)=if a∈l then g a else none:=by simp only[A7,h,false_or]
     rw[e2,<-ziI a l]
     cases hg:g b with
     | none=>simp only[Gc]
     | some o=>simp only[A6,A1,e]
def zgV(h:Heap)(a:Addr):(frag h).lookup a=h.get? a:=by
 unfold frag;rw[ziI]
 split
 . rfl
 . rename_i hn
   cases hg:h.get? a with
   | none=>rfl
   | some o=>exact absurd (List.mem_range.mpr<|Ai hg) hn
def zpo(h:Heap):(frag h).In h:=fun a o e=>(zgV h a).symm.trans e
def CoIn(K:Frag)(x:Str):Str ⊕ Int->Prop
 | .inl s=>∃ t,nsIn K mainGlobals x=some (some<|.str s t)
 | .inr i=>∃ t,nsIn K mainGlobals x=some (some<|.int i t)
variable {K:Frag}
def zlq{f:Addr}{oc:Value}{od:Option Addr}{fd:FuncData}{sl:Array (Option Value)}(h:K.lookup f=some ⟨oc,od,.func fd,sl⟩):keepIn K (.ref f)=true:=by unfold keepIn;dsimp only;rw[h]
variable {x:Str}
def zs5{st:Stmt}(e:fnL (K.lookup ·) x=fnD x st):∃ f,FdIn K x st f:=by
 unfold fnL fnD at e
 cases hn:nsL (K.lookup ·) mainGlobals x with
 | none=>rw[hn] at e;cases e
 | some v =>
   cases v with
   | none=>rw[hn] at e;cases e
   | some v =>
     cases v with
     | ref f =>
       rw[hn] at e;dsimp only at e
       cases hg:K.lookup f with
       | none=>rw[hg] at e;cases e
       | some o =>
         rw[hg] at e;obtain⟨oc,od,da,sl⟩:=o
         cases da with
         | func fd =>
           dsimp only at e;obtain⟨a1,a2⟩:=Bk<|Aq e;obtain⟨n,q,p,b,sc,gl,cl,df,kd,dc,pm,an,cd,ct,bu⟩:=fd;cases a1;exact⟨f,zs6 hn hg a2<|zlq hg⟩
         | _=>cases e
     | _=>rw[hn] at e;cases e
def ztd{c:Str ⊕ Int}(e:coL (nsL (K.lookup ·) mainGlobals x)=some c):CoIn K x c:=by
 unfold coL at e
 cases hn:nsL (K.lookup ·) mainGlobals x with
 | none=>rw[hn] at e;cases e
 | some v =>
   cases v with
   | none=>rw[hn] at e;cases e
   | some v =>
     rw[hn] at e
     cases v with
     | str s t=>cases e;exact⟨t,hn⟩
     | int i t=>cases e;exact⟨t,hn⟩
     | _=>cases e
structure Has(K:Frag)(fns:List (Str×Stmt))(bl:List Str)(co:List (Str×(Str ⊕ Int))):Prop where
 fn:∀ p∈fns,∃ f,FdIn K p.1 p.2 f
 bl:∀ x∈bl,nsIn K mainGlobals x=some none
 co:∀ c∈co,CoIn K c.1 c.2
def zjq{α β:Type}{f g:α->β}:∀ {l:List α},l.map f=l.map g->∀ a∈l,f a=g a
 | [],_,a,h=>by cases h
 | b::l,e,a,h=>by
   obtain⟨e1,e2⟩:=List.cons.inj e
   rcases List.mem_cons.mp h with rfl | h
   . exact e1
   exact zjq e2 a h
def zro{fns:List (Str×Stmt)}{bl:List Str}{co:List (Str×(Str ⊕ Int))}(e:seenG (K.lookup ·) fns bl co=dueG fns bl co):Has K fns bl co:=by obtain⟨e1,e2⟩:=Bk e;obtain⟨e2,e3⟩:=Bk e2;exact⟨fun p hp=>zs5 (zjq e1 p hp),fun x hx=>zjq e2 x hx,fun c hc=>ztd (zjq e3 c hc)⟩
end L2.MP.Hx
namespace L2.MP
open PySem L2 PySem.W PyProof.Rows
variable {bl ps:List Str}{co:List (Str×(Str ⊕ Int))}{x:Str}{st:Stmt}{P:Program}{w:World}{base:Heap}{k:Nat}{m:MS}
section
variable {K:Frag} {mg:Str->Option Value} {fns:List (Str×Stmt)}
structure En(K:Frag)(mg:Str->Option Value)(fns:List (Str×Stmt))(bl:List Str)(co:List (Str×(Str ⊕ Int))):Prop where
 b:∀ x∈bl,mg x=none
 c:∀ c∈co,match c.2 with
   | .inl s=>∃ t,mg c.1=some (.str s t)
   | .inr i=>∃ t,mg c.1=some (.int i t)
 l:∀ p∈fns,∃ f,FdIn K p.1 p.2 f/\mg p.1=some (.ref f)
def En.of{h:Heap}(A:Hx.Has K fns bl co)(X:K.In h)(G:h.Ns mainGlobals mg):En K mg fns bl co:=by
 refine⟨fun x hx=>mg_none_of X G (A.bl x hx),fun c hc=>?_,fun p hp=>?_⟩
 . have q:=A.co c hc;obtain⟨x,c⟩:=c
   cases c with
   | inl s=>obtain⟨t,q⟩:=q;exact⟨t,mg_of X G q⟩
   | inr i=>obtain⟨t,q⟩:=q;exact⟨t,mg_of X G q⟩
 obtain⟨f,q⟩:=A.fn p hp;exact⟨f,q,mg_of X G q.ns⟩
def En.b1(Z:En K mg fns bl co)(h:x∈bl:=by decide +kernel):mg x=none:=Z.b x h
def scB(N ps:List Str)(sc:Scope):Bool:=decide (sc.kind=.function)&&decide (sc.isCoroutine=false)&&decide (sc.isGenerator=false)&&decide N.Nodup&&decide (N.take ps.length=ps)&&ps.all (fun x=>decide (sc.names.lookup x=some .local\/sc.names.lookup x=some .cell))&&sc.names.all fun y=>decide (y.2≠.free)
def zmc{N:List Str}{sc:Scope}(h:scB N ps sc=true):FnScope N ps sc:=by unfold scB at h;simp only[Am,decide_eq_true_eq,C5] at h;obtain⟨⟨⟨⟨⟨⟨a,b⟩,c⟩,d⟩,e⟩,f⟩,g⟩:=h;exact⟨a,b,c,d,e,f,g⟩
noncomputable abbrev Bnd (x:Str) (st:Stmt) (ps:List Str):Prop:=∀ (kV doc pm:Value) (an:Option Addr) (cdv ct:Value) (us:List Value),us.length=ps.length->bindArgs (BU x x (zcF st) (zbl st) (zar st) .none kV doc pm an cdv ct) ⟨us,[]⟩=pure (ps.zip us)
def En.laid{i:Nat}(Z:En K mg fns bl co)(hi:fns[i]?=some (x,st))(b:Bnd x st ps):Laid K mg x st ps:=by obtain⟨f,F,hm⟩:=Z.l _<|AF hi;obtain⟨⟨oc,od,kV,dc,pm,an,cd,ct,sl,l,c⟩,a,k⟩:=F;exact⟨_,_,zkC l c k,hm,(zkC l c k).binds b⟩
def zaJ(Z:En K mg fns bl co)(st:Stmt)(i:Nat)(N ps:List Str)
   (hbody:N.Nodup->∀ (f:Addr) (cdv:Value) (A:Around) (outer:List Env) (s:Shared) (H:Hp) (E:XK),Room k (A.deeper<|envOfC x (zar st) s.heap.objs.size f cdv) ->
     SSs (cxOf CX0 P w K mg base N x (zar st) f cdv A outer s H E).nox (zbl st) m) (hi:fns[i]?=some (x,st):=by rfl)
   (S:scB N ps (zar st)=true:=by decide +kernel) (b:Bnd x st ps:=by intro _ _ _ _ _ _;first | exact len1 fun _=>rfl | exact len2 fun _ _=>rfl | exact len3 fun _ _ _=>rfl | exact len4 fun _ _ _ _=>rfl | exact len5 fun _ _ _ _ _=>rfl):zcC P w K mg base (k+1) x ps.length (fnM N.length m) :=
 zry (Z.laid hi b) (zmc S) (hbody (zmc S).nd)
def zs2{qual:Str}{f:Addr}{fd:FuncData}(F:Fun K x qual st f fd)(N ps:List Str)
   (hbody:N.Nodup->∀ (cdv:Value) (A:Around) (outer:List Env) (s:Shared) (H:Hp) (E:XK),Room k (A.deeper<|envOfC qual (zar st) s.heap.objs.size f cdv) ->
     SSs (cxOf CX0 P w K mg base N qual (zar st) f cdv A outer s H E).nox (zbl st) m) (S:scB N ps (zar st)=true:=by decide +kernel):FnOk P w K mg base CX0 (k+1) f fd ps (spM K ps.length<|fnM N.length m):=fn_m F (zmc S) (hbody (zmc S).nd)
end
variable {g:GN}{T:String}
section
variable {X:Cx} {e:Expr} {es:List Expr} {m:ME} {mm:MA} {pos pos' p p2:Pos} {y:Str}
def sgn(i:Nat)(hN:X.N.Nodup)(hi:X.N[i]?=some x:=by rfl)(hx:Loc X.env.scope x:=by first | exact Bg rfl | exact Ba rfl)(hf:X.fn x=true\/X.env.scope.names.lookup x=some .local:=by first | exact .inl rfl | exact .inr rfl | assumption):SG X (.Name x pos) (gNm i):=zoe hN hi hx hf
def sst(i:Nat)(hN:X.N.Nodup)(he:SE X e m)(hi:X.N[i]?=some x:=by rfl)(hx:Loc X.env.scope x:=by first | exact Bg rfl | exact Ba rfl)(hs:swapsWith e (some<|.Name x pos') pos.line X.env=pure false:=by rfl)(hf:X.fn x=true\/X.env.scope.names.lookup x=some .local:=by first | exact .inl rfl | exact .inr rfl | assumption):SS X (.Assign [.Name x pos'] e pos) (mAsg m<|gNm i):=zqc hN hi hx he hs hf
def zbf{j n:Nat}(F:zcC X.prog X.w X.K X.mg X.base k x n g)(hr:Room j X.A)(ha:SA X (e::es) mm)(hj:k<=j:=by decide)(hg:Gl X x:=by rfl)(hl:ze3 n mm:=by repeat (first | exact ze3.nil | refine ze3.cons ?_))(hdb:(x==("__debug__":Str))=false:=by decide)
   (he:starEach (e::es) X.env=(false,eval e X.env)::starEach es X.env:=by rfl) (hpl:(backTo pos<|starEach es X.env).any (·.1)=false:=by rfl) (hn:(e::es).length=n:=by rfl):SE X (.Call (.Name x p) (e::es) [] pos) (zas g mm):=zma F (hr.mono hj) hg ha hl hdb he hpl hn
variable {fns:List (Str×Stmt)}
def isiE(Z:En X.K X.mg fns bl co)(ha:SE X e m)(hv:bootBuiltins y=some (.type T))(hT:T∈kinds:=by decide)(hg:Gl X "isinstance":=by rfl)(hm:("isinstance":Str)∈bl:=by decide +kernel)(hgy:Gl X y:=by rfl)(hmy:y∈bl:=by decide +kernel)(hny:y≠"__name__":=by decide)(hdy:(y==("__debug__":Str))=false:=by decide)
   (hs:starEach [e,.Name y p2] X.env=(false,eval e X.env)::starEach [.Name y p2] X.env:=by rfl) (hs2:starEach [.Name y p2] X.env=[(false,eval (.Name y p2) X.env)]:=by rfl) (hpl:(backTo pos<|starEach [.Name y p2] X.env).any (·.1)=false:=by rfl):SE X (.Call (.Name "isinstance" p) [e,.Name y p2] [] pos) (mIsi T m) :=
 zqq (x:="isinstance") hT hg (Z.b _ hm) ha hgy (Z.b _ hmy) hv hny hdy hs hs2 hpl
def cBE{id:String}(Z:En X.K X.mg fns bl co)(hc:zdF X (.builtin id) g)(hv:bootBuiltins x=some (.builtin id))(ha:SA X (e::es) mm)(hg:Gl X x:=by rfl)(hm:x∈bl:=by decide +kernel)(hn:x≠"__name__":=by decide)(hdb:(x==("__debug__":Str))=false:=by decide)
   (he:starEach (e::es) X.env=(false,eval e X.env)::starEach es X.env:=by rfl) (hpl:(backTo pos<|starEach es X.env).any (·.1)=false:=by rfl):SE X (.Call (.Name x p) (e::es) [] pos) (zas g mm):=zh6 hc hg (Z.b _ hm) hv ha hn hdb he hpl
def cTE(Z:En X.K X.mg fns bl co)(hc:zdF X (.type T) g)(hv:bootBuiltins x=some (.type T))(ha:SA X (e::es) mm)(hg:Gl X x:=by rfl)(hm:x∈bl:=by decide +kernel)(hn:x≠"__name__":=by decide)(hdb:(x==("__debug__":Str))=false:=by decide)
   (he:starEach (e::es) X.env=(false,eval e X.env)::starEach es X.env:=by rfl) (hpl:(backTo pos<|starEach es X.env).any (·.1)=false:=by rfl):SE X (.Call (.Name x p) (e::es) [] pos) (zas g mm):=zjV hc hg (Z.b _ hm) hv ha hn hdb he hpl
def cS{scope:Scope}(N':List Str)(nt:Nat)(fr:List Nat)(fs:List Str)(kind:scope.kind=.function:=by rfl)(nd:(scope.names.map (·.1)).Nodup:=by decide +kernel)(hf:scope.names.all (fun p=>!(p.2==AE) || fs.contains p.1)=true:=by decide +kernel)
   (hb:fs.all (fun x=>scope.names.contains (x,AE))=true:=by decide +kernel) (len:N'.length=nt+fr.length:=by rfl) (cap:Caps X fs fr (N'.drop nt):=by trivial) (out:Outs X fs:=by trivial):CompS X scope N' nt fr:=zbn fs kind nd hf hb len cap out
end
end L2.MP
namespace L2.MP.Hx
open PySem L2 L2.MP PySem.W PyProof.Rows
structure ClE(K:Frag)(C:Addr)(cd:ClassData)(es:Array DictEntry):Prop where
 at_:∀ bm,cd.mro=.ref C::bm->∃ nm ql bs sn sub b2 b3 dd k0 k1 k2 k3 k5,K.lookup C=some (excClassObj nm ql C cd.ns bs bm true sn sub b2 b3 dd k0 k1 k2 k3 k5 "ValueError.__new__")
 ns:∀ h:Heap,K.In h->h.Ns cd.ns (nsFind es)
variable {K:Frag}{C:Addr}{cd:ClassData}{es:Array DictEntry}
def zpw{a:Addr}(h:clsE K C=some (cd,a,es)):ClE K C cd es:=by
 unfold clsE at h
 split at h
 . rename_i t dd cd' k0 k1 k2 k3 n k5 hl
   split at h
   . rename_i q;obtain⟨rfl,rfl,q3,q4⟩:=q
     split at h
     . rename_i c2 d2 es2 ep2 sl2 hn
       split at h
       . rename_i ha;cases h;refine⟨fun bm e=>?_,fun h X=>⟨_,_,_,X _ _ hn,rfl,fun e he=>?_,fun _=>rfl⟩⟩
         . obtain⟨nm,bs,mro,ns,ql,hd,sn,sub,ab,col,del⟩:=cd;dsimp only at e q3 q4;subst e q3 q4;exact⟨nm,ql,bs,sn,sub,ab,col,dd,k0,k1,k2,k3,k5,hl⟩
         . have:=List.all_eq_true.mp ha e (Array.mem_toList_iff.mpr he)
           split at this
           . rename_i x t' hk;exact⟨x,t',hk⟩
           . cases this
       . cases h
     . cases h
   . cases h
 . cases h
def zrt(a:exkB K C=true)(b:gsB K=true):ExK K C/\keepIn K (.ref C)=true/\kitOne K (.ref C) (.type "ValueError")=some true/\hasDictIn K C=true:=by unfold exkB at a;unfold gsB at b;simp only[Am,beq_iff_eq] at a b;obtain⟨⟨⟨⟨⟨⟨⟨a1,a2⟩,a3⟩,a4⟩,a5⟩,a6⟩,a7⟩,a8⟩:=a;exact⟨⟨a1,a2,a3,b.1,b.2,a4,a5⟩,a6,a7,a8⟩
variable {c:Str}
def zcZ(h:zfQ K c=some C):FnA K c C:=by
 unfold zfQ at h
 split at h
 . rename_i D e;cases h;exact e
 . cases h
def zez{D:Addr}(h:zfQ K c=some C)(g:FnA K c D):D=C:=by have:=zcZ h;unfold FnA at this g;rw[g] at this;cases this;rfl
structure EOk(K:Frag)(T:Addr)(d:ED)(C:Addr)(bm:List Value)(cd:ClassData)(es:Array DictEntry):Prop where
 a:zfQ K d.c=some C
 k:ExK K C
 kp:keepIn K (.ref C)=true
 v:kitOne K (.ref C) (.type "ValueError")=some true
 hd:hasDictIn K C=true
 cl:ClE K C cd es
 m:cd.mro=.ref C::bm
 b:bm=if d.c="TileError" then zhB else .ref T::zhB
 no:∀ n∈(if d.f.isSome then nnV.tail else nnV),nsFind es n=none
 ini:∀ f st,d.f=some (f,st)->findIn K (.ref C) f=some none/\fastLookup "ValueError" f=some none/\zrl K (d.c++".__init__") (nsFind es "__init__")=zrm (d.c++".__init__") st
variable {T:Addr}{d:ED}
def zq3(g:gsB K=true)(h:oneL K T d=oneD d):∃ C bm cd es,EOk K T d C bm cd es:=by
 unfold oneL oneD at h
 cases ha:zfQ K d.c with
 | none=>rw[ha] at h;cases (Bk h).1
 | some C =>
   rw[ha] at h;dsimp only at h
   cases hc:clsE K C with
   | none=>rw[hc] at h;cases (Bk h).1
   | some p =>
     obtain⟨cd,a0,es⟩:=p;rw[hc] at h;dsimp only at h;obtain⟨h1,h2⟩:=Bk h;simp only[Am,beq_iff_eq,C5,DW] at h1;obtain⟨⟨⟨b1,b2⟩,b3⟩,b4⟩:=h1;obtain⟨e1,e2,e3,e4⟩:=zrt b1 g;refine⟨C,_,cd,es,ha,e1,e2,e3,e4,zpw hc,b2,rfl,b3,fun f st e=>?_⟩;rw[e] at h2 b4;dsimp only at h2 b4;simp only[Am,beq_iff_eq] at b4;exact⟨b4.1,b4.2,h2⟩
structure HasE(K:Frag)(ds:List ED):Prop where
 ex:∃ T,zfQ K "TileError"=some T/\∀ d∈ds,∃ C bm cd es,EOk K T d C bm cd es
 pr:∀ d∈ds,∀ e∈ds,∀ C D,FnA K d.c C->FnA K e.c D->kitOne K (.ref C) (.ref D)=some (subS d.c e.c)
def zpg{ds:List ED}(h:errL K ds=errD ds):HasE K ds:=by
 unfold errL errD at h
 cases hT:zfQ K "TileError" with
 | none=>rw[hT] at h;cases (Bk h).1
 | some T =>
   rw[hT] at h;dsimp only at h;obtain⟨h1,h2⟩:=Bk h;rw[Am] at h1;obtain⟨g,h1⟩:=h1;refine⟨⟨T,hT,fun d hd=>zq3 g (zjq h2 d hd)⟩,fun d hd e he C D hC hD=>?_⟩;have:=List.all_eq_true.mp (List.all_eq_true.mp h1 d hd) e he;unfold zrV at this
   split at this
   . rename_i C' D' a1 a2
     cases zez a1 hC
     cases zez a2 hD
     exact beq_iff_eq.mp this
   . cases this
variable {bm b2:List Value}{cd2:ClassData}{es2:Array DictEntry}{h:Heap}
def zpN{D:Addr}(X:K.In h)(U:EOk K T ⟨"TileError",none⟩ D b2 cd2 es2)(hT:zfQ K "TileError"=some T)(E:EOk K T d C bm cd es):OT h nnV zhB bm:=by
 rw[E.b]
 split
 . exact .base
 have e:D=T:=Aq<|U.a.symm.trans hT;subst e;obtain⟨nm,ql,bs,sn,sub,b2',b3,dd,k0,k1,k2,k3,k5,at_⟩:=U.cl.at_ b2 U.m;exact .own (X _ _ at_) (U.cl.ns h X) (fun n hn=>U.no n hn) .base
def ziW:zhB.contains (.type "ValueError")=true:=by decide +kernel
def zmr{D:Addr}(X:K.In h)(U:EOk K T ⟨"TileError",none⟩ D b2 cd2 es2)(hT:zfQ K "TileError"=some T)(E:EOk K T d C bm cd es)(hf:d.f=none):PlainAt h C:=by obtain⟨nm,ql,bs,sn,sub,b2',b3,dd,k0,k1,k2,k3,k5,at_⟩:=E.cl.at_ bm E.m;exact⟨nm,ql,cd.ns,bs,bm,zhB,zhB,true,sn,sub,b2',b3,dd,k0,k1,k2,k3,k5,"ValueError.__new__","ValueError","ValueError","ValueError.__new__","ValueError.__init__","ValueError.__init__",nsFind es,F.excBase_ValueError,ziW,F.excBase_ValueError,(zpN X U hT E).tail<|by decide,X _ _ at_,E.cl.ns h X,E.no _ (by rw[hf];exact An)⟩
def zmj{D:Addr}(X:K.In h)(U:EOk K T ⟨"TileError",none⟩ D b2 cd2 es2)(hT:zfQ K "TileError"=some T)(E:EOk K T d C bm cd es):RaiseAt h C:=by obtain⟨nm,ql,bs,sn,sub,b2',b3,dd,k0,k1,k2,k3,k5,at_⟩:=E.cl.at_ bm E.m;exact⟨nm,ql,cd.ns,bs,bm,true,sn,sub,b2',b3,dd,k0,k1,k2,k3,k5,"ValueError.__new__",X _ _ at_,(zpN X U hT E).has<|by decide +kernel⟩
variable {f:Str}{st:Stmt}
def zru{D:Addr}(X:K.In h)(U:EOk K T ⟨"TileError",none⟩ D b2 cd2 es2)(hT:zfQ K "TileError"=some T)(E:EOk K T d C bm cd es)(hf:d.f=some (f,st))(hn:f∈nnV.tail):ErrAt h C f:=by
 obtain⟨nm,ql,bs,sn,sub,b2',b3,dd,k0,k1,k2,k3,k5,at_⟩:=E.cl.at_ bm E.m;have no:=E.no;rw[hf] at no;have e2:typeLookup (.type "ValueError") f=pure none:=by rw[Eg,C9,(E.ini f st hf).2.1]
 exact⟨nm,ql,cd.ns,bs,bm,zhB,sn,sub,b2',b3,dd,k0,k1,k2,k3,k5,"ValueError.__new__","ValueError","object.__setattr__","object",nsFind es,nnV,X _ _ at_,E.cl.ns h X,no f hn,no _ (show ("__setattr__":Str)∈nnV.tail by decide),zpN X U hT E,List.mem_of_mem_tail hn,by decide,F.store_ValueError,e2⟩
def zpe{D:Addr}(U:EOk K T ⟨"TileError",none⟩ D b2 cd2 es2)(hT:zfQ K "TileError"=some T)(E:EOk K T d C bm cd es)(hf:d.f=some (f,st)) :
   ∃ fa fd,Fun K "__init__" (d.c++".__init__") st fa fd/\∀ h:Heap,K.In h->MadeAt h C fa:=by
 have e:=(E.ini f st hf).2.2;unfold zrl zrm at e
 split at e
 . rename_i fa hv
   split at e
   . rename_i t od fd sl hl
     split at e
     . rename_i ht;subst ht;obtain⟨a1,a2⟩:=Bk<|Aq e;obtain⟨n,q,p,b,sc,gl,cl,df,kd,dc,pm,an,cdv,ct,bu⟩:=fd;cases a1;refine⟨fa,_,zkC hl a2<|zlq hl,fun h X=>?_⟩;obtain⟨nm,ql,bs,sn,sub,b2',b3,dd,k0,k1,k2,k3,k5,at_⟩:=E.cl.at_ bm E.m;exact⟨nm,ql,cd.ns,bs,bm,zhB,zhB,true,sn,sub,b2',b3,dd,k0,k1,k2,k3,k5,"ValueError.__new__","ValueError","ValueError","ValueError.__new__","ValueError.__init__","ValueError.__init__",nsFind es,_,F.excBase_ValueError,ziW,F.excBase_ValueError,(zpN X U hT E).tail<|by decide,X _ _ at_,E.cl.ns h X,hv,X _ _ hl,rfl⟩
     . cases e
   . cases e
 . cases e
end L2.MP.Hx
namespace L2.MP
open PySem L2 PySem.W PyProof.Rows Hx
def tKls(ns:List Str)(c y:Str):Option Bool:=if c∈ns/\y∈ns then some (subS c y) else none
def tKlv(ns:List Str)(c:Str):Option Bool:=if c∈ns then some true else none
structure EE(K:Frag)(mg:Str->Option Value)(ds:List ED):Prop where
 e0:∀ d∈ds,d.f=none->∃ C,FnA K d.c C/\mg d.c=some (.ref C)/\keepIn K (.ref C)=true/\∀ h:Heap,K.In h->PlainAt h C
 e1:∀ d∈ds,∀ f st,d.f=some (f,st)->f∈nnV.tail->∃ C fa fd,FnA K d.c C/\mg d.c=some (.ref C)/\keepIn K (.ref C)=true/\Fun K "__init__" (d.c++".__init__") st fa fd/\(∀ h:Heap,K.In h->MadeAt h C fa)/\(∀ h:Heap,K.In h->ErrAt h C f)/\∀ h:Heap,K.In h->RaiseAt h C
 is:IsOk K (tKls (ds.map (·.c)))
 it:zrN K "ValueError" (tKlv (ds.map (·.c)))
 at_:∀ d∈ds,∀ f st,d.f=some (f,st)->AtOk K f fun c=>decide (c=d.c)
 fn:∀ d∈ds,∃ C,FnA K d.c C/\mg d.c=some (.ref C)
 ex:∀ d∈ds,d.c≠"TileError"->∃ T,mg "TileError"=some (.ref T)/\∀ C,FnA K d.c C->exmOne K (.ref C) (.ref T)=some true
variable {K:Frag}{mg:Str->Option Value}{ds:List ED}
def EE.of{h:Heap}(A:HasE K ds)(hT:⟨"TileError",none⟩∈ds)(X:K.In h)(G:h.Ns mainGlobals mg):EE K mg ds:=by
 obtain⟨T,aT,all⟩:=A.ex;obtain⟨D,b2,cd2,es2,U⟩:=all _ hT;refine⟨fun d hd hf=>?_,fun d hd f st hf hn=>?_,fun c y b C D e hC hD=>?_,fun c b C e hC=>?_,fun d hd f st hf c C hc hC=>?_,fun d hd=>?_,fun d hd hne=>⟨T,mg_of X G<|zcZ aT,fun C hC=>?_⟩⟩
 . obtain⟨C,bm,cd,es,E⟩:=all d hd;exact⟨C,zcZ E.a,mg_of X G<|zcZ E.a,E.kp,fun h' X'=>zmr X' U aT E hf⟩
 . obtain⟨C,bm,cd,es,E⟩:=all d hd;obtain⟨fa,fd,F,M⟩:=zpe U aT E hf;exact⟨C,fa,fd,zcZ E.a,mg_of X G<|zcZ E.a,E.kp,F,M,fun h' X'=>zru X' U aT E hf hn,fun h' X'=>zmj X' U aT E⟩
 . unfold tKls at e
   split at e
   . rename_i q;cases e;obtain⟨d,hd,rfl⟩:=List.mem_map.mp q.1;obtain⟨d',hd',rfl⟩:=List.mem_map.mp q.2;obtain⟨C',bm,cd,es,E⟩:=all d hd
     cases zez E.a hC
     exact⟨E.k,A.pr d hd d' hd' _ _ hC hD⟩
   . cases e
 . unfold tKlv at e
   split at e
   . rename_i q;cases e;obtain⟨d,hd,rfl⟩:=List.mem_map.mp q;obtain⟨C',bm,cd,es,E⟩:=all d hd
     cases zez E.a hC
     exact⟨E.k,E.v⟩
   . cases e
 . have hc':=of_decide_eq_true hc;subst hc';obtain⟨C',bm,cd,es,E⟩:=all d hd
   cases zez E.a hC
   exact⟨E.k,(E.ini f st hf).1,E.hd⟩
 . obtain⟨C,bm,cd,es,E⟩:=all d hd;exact⟨C,zcZ E.a,mg_of X G<|zcZ E.a⟩
 . obtain⟨C',bm,cd,es,E⟩:=all d hd
   cases zez E.a hC
   have eD:D=T:=Aq<|U.a.symm.trans aT;subst eD;have ne:C≠D:=fun z=>by subst z;obtain⟨_,_,_,_,_,_,_,_,_,_,_,_,_,h1⟩:=E.cl.at_ bm E.m;obtain⟨_,_,_,_,_,_,_,_,_,_,_,_,_,h2⟩:=U.cl.at_ b2 U.m;rw[h1] at h2;have e2:=E.b;rw[if_neg hne] at e2;have e3:=U.b;rw[if_pos rfl] at e3;subst e2 e3;simp[excClassObj,zhB] at h2
   have hk:=A.pr d hd _ hT C D hC<|zcZ aT;have hs:subS d.c "TileError"=true:=by simp[subS]
   rw[show (ED.mk "TileError" none).c="TileError" from rfl,hs] at hk;unfold kitOne at hk;rw[if_neg (by simp[ne])] at hk;unfold exmOne;have mb:subIn K (.ref D) (.type "BaseException")=some true:=U.k.mb;rw[if_pos (by rw[mb];rfl)];exact hk
def okE(c:Str):Str->Bool:=fun x=>decide (x=c)
structure InitOk(c f n1:Str)(st:Stmt):Prop where
 S:FnScope ["self",n1] ["self",n1] (zar st)
 hb:∃ p0 p1 pos' pos,zbl st=[.Assign [.Attribute (.Name "self" p0) f pos'] (.Name n1 p1) pos]/\∀ env,swapsWith (.Name n1 p1) (some (.Attribute (.Name "self" p0) f pos')) pos.line env=pure false
 v0:(zar st).names.lookup ("self":Str)=some .local
 v1:(zar st).names.lookup n1=some .local
 d1:(n1==("__debug__":Str))=false
 c1:(n1==("__classdict__":Str))=false
 bd:∀ (kV doc pm:Value) (an:Option Addr) (cdv ct:Value) (us:List Value),us.length=2->bindArgs (fnOf "__init__" (c++".__init__") (zcF st) (zbl st) (zar st) .none kV doc pm an cdv ct) ⟨us,[]⟩=pure ((["self",n1]:List Str).zip us)
variable {X:Cx}{c f n1:Str}{st:Stmt}{m:ME}{mm:MA}{e:Expr}{es:List Expr}{p pos:Pos}{ns:List Str}
section
variable {p2:Pos} {d:ED}
def efn(Y:EE X.K X.mg ds)(i:Nat)(hi:ds[i]?.map (·.c)=some c:=by rfl)(hg:Gl X c:=by rfl)(hdb:(c==("__debug__":Str))=false:=by decide):SE X (.Name c p) (mK<|.fn c):=by obtain⟨d,hd,rfl⟩:=Option.map_eq_some_iff.mp hi;obtain⟨C,hn,hm⟩:=Y.fn _<|AF hd;exact zsw hg hm hn hdb
def eis(Y:EE X.K X.mg ds)(hb:X.mg "isinstance"=none)(ha:SA X (e::es) mm)(hn:ds.map (·.c)=ns:=by rfl)(hg:Gl X "isinstance":=by rfl)(he:starEach (e::es) X.env=(false,eval e X.env)::starEach es X.env:=by rfl)(hpl:(backTo pos<|starEach es X.env).any (·.1)=false:=by rfl) :
   SE X (.Call (.Name "isinstance" p) (e::es) [] pos) (zas (isE<|tKls ns) mm):=by
 subst hn;exact zh6 (znu Y.is) hg hb (by decide +kernel) ha (by decide) (by decide) he hpl
def eit(Y:EE X.K X.mg ds)(hb:X.mg "isinstance"=none)(hv:X.mg "ValueError"=none)(ha:SE X e m)(hn:ds.map (·.c)=ns:=by rfl)(hg:Gl X "isinstance":=by rfl)(hgv:Gl X "ValueError":=by rfl)
   (hs:starEach [e,.Name "ValueError" p2] X.env=(false,eval e X.env)::starEach [.Name "ValueError" p2] X.env:=by rfl) (hs2:starEach [.Name "ValueError" p2] X.env=[(false,eval (.Name "ValueError" p2) X.env)]:=by rfl) (hpl:(backTo pos<|starEach [.Name "ValueError" p2] X.env).any (·.1)=false:=by rfl) :
   SE X (.Call (.Name "isinstance" p) [e,.Name "ValueError" p2] [] pos) (mIsT (tKlv ns) m):=by
 subst hn;exact zqr Y.it hg hb ha hgv hv (by decide +kernel) (by decide) (by decide) hs hs2 hpl
def eat(Y:EE X.K X.mg ds)(i:Nat)(he:SE X e m)(hi:ds[i]?=some ⟨c,some (f,st)⟩:=by rfl)(hb:attributeBase e f X.env (eval e X.env)=eval e X.env:=by rfl):SE X (.Attribute e f pos) (mAtE (okE c) f m) :=
 zqs (Y.at_ _ (AF hi) f st rfl) he hb
end
structure RX(P:Program)(w:World)(K:Frag)(mg:Str->Option Value)(base:Heap)(c fld:Str)(C:Addr):Prop where
 fn:FnA K c C
 at_:mg c=some (.ref C)
 kp:keepIn K (.ref C)=true
 ex:∃ fa fd ps,(∀ h:Heap,K.In h->MadeAt h C fa)/\FnOk P w K mg base CX0 1 fa fd ps (zlZ C fld)/\Binds K fd ps []
 ra:∀ h:Heap,K.In h->RaiseAt h C
variable {k j:Nat}{cpos:Pos}
section
variable {P:Program} {w:World} {base:Heap}
def EE.rx(Y:EE K mg ds)(J:InitOk c f n1 st)(i:Nat)(hi:ds[i]?=some ⟨c,some (f,st)⟩)(hf:f∈nnV.tail):∃ C,RX P w K mg base c f C:=by obtain⟨C,fa,fd,hn,hm,hk,F,hM,hE,hR⟩:=Y.e1 _ (AF hi) f st rfl hf;obtain⟨p0,p1,pos',pos2,hb,hs⟩:=J.hb;exact⟨C,hn,hm,hk,⟨fa,fd,_,hM,zpd (k:=0) F J.S hb hE J.v0 J.v1 (by decide) J.d1 (by decide) J.c1 hs,F.binds J.bd⟩,hR⟩
def znm{fns:List (Str×Stmt)}{bl:List Str}{co:List (Str×(Str ⊕ Int))}{x:Str}{m:MS}(Z:En K mg fns bl co)(Y:EE K mg ds)(J:InitOk c f n1 st)(q:Nat)(s0:Stmt)(i:Nat)(N ps:List Str)
   (hbody:N.Nodup->∀ (C:Addr),RX P w K mg base c f C->∀ (fa:Addr) (cdv:Value) (A:Around) (outer:List Env) (s:Shared) (H:Hp) (E:XK),Room k (A.deeper<|envOfC x (zar s0) s.heap.objs.size fa cdv) ->
     SXs (cxOf (CX1 P w C f) P w K mg base N x (zar s0) fa cdv A outer s H E) erF (fun i H'=>E (.int i 0) none H') (zbl s0) m) (hq:ds[q]?=some ⟨c,some (f,st)⟩:=by rfl) (hf:f∈nnV.tail:=by decide) (hi:fns[i]?=some (x,s0):=by rfl)
   (S:scB N ps (zar s0)=true:=by decide +kernel) (b:Bnd x s0 ps:=by intro _ _ _ _ _ _;first | exact len1 fun _=>rfl | exact len2 fun _ _=>rfl | exact len3 fun _ _ _=>rfl | exact len4 fun _ _ _ _=>rfl | exact len5 fun _ _ _ _ _=>rfl):DefX P w K mg base (k+1) x ps.length c f (fnM N.length m):=by
 obtain⟨C,R⟩:=Y.rx (P:=P) (w:=w) (base:=base) J q hq hf;obtain⟨fa,fd,F,hm,hb⟩:=Z.laid hi b;exact⟨C,fa,fd,ps,R.fn,R.at_,R.ra,fn_x (by intro i z;cases z) F (zmc S) fun cdv A outer s H E hr=>hbody (zmc S).nd C R fa cdv A outer s H E hr,hm,F.kp,hb⟩
variable {N:List Str} {qual:Str} {scope:Scope} {fa:Addr} {cd:Value} {A:Around} {outer:List Env} {s0:Shared} {H0:Hp} {E:XK} {C:Addr}
def exr(R:RX P w K mg base c f C)(hr:Room j (cxOf (CX1 P w C f) P w K mg base N qual scope fa cd A outer s0 H0 E).A)(he:SE (cxOf (CX1 P w C f) P w K mg base N qual scope fa cd A outer s0 H0 E) e m)(hj:2<=j:=by decide)(hg:Gl (cxOf (CX1 P w C f) P w K mg base N qual scope fa cd A outer s0 H0 E) c:=by rfl)(hdb:(c==("__debug__":Str))=false:=by decide)
   (hst:starEach [e] (cxOf (CX1 P w C f) P w K mg base N qual scope fa cd A outer s0 H0 E).env=(false,eval e (cxOf (CX1 P w C f) P w K mg base N qual scope fa cd A outer s0 H0 E).env)::starEach [] (cxOf (CX1 P w C f) P w K mg base N qual scope fa cd A outer s0 H0 E).env:=by rfl) :
   SX (cxOf (CX1 P w C f) P w K mg base N qual scope fa cd A outer s0 H0 E) erF (fun i H'=>E (.int i 0) none H') (.Raise (some<|.Call (.Name c p) [e] [] cpos) none pos) (zmR erF m):=by
 obtain⟨ga,fd,ps,hM,F,hb⟩:=R.ex;exact zlU (fun i j z=>by cases z;rfl) hM R.ra R.kp F (hr.mono hj) hg R.at_ hb he (zaa he zag hst) hdb hst
end
section
variable {n i:Nat} {g fld xn nm c0:Str} {gg:GN} {mh:MS} {epos np hpos px cp tp apos:Pos} {st0:Stmt} {more:List Stmt} {kk x1:Nat} {fs:Option (Str×Stmt)}
def etA(Y:EE X.K X.mg ds)(q i j:Nat)(D:DefX X.prog X.w X.K X.mg X.base k g n c fld gg)(hr:Room k X.A)(ha:SA X.nox (e::es) mm)(hl:ze3 n mm)(hN:X.N.Nodup)(hh:∀ x W,SSs (hdX X x W) (st0::more) mh)
   (hq:ds[q]?=some ⟨c,fs⟩:=by rfl) (hne:c≠"TileError":=by decide) (hs:X.stack=X.env::X.outer:=by rfl) (hf:X.env.frame=some X.env.locals:=by rfl) (hg:Gl X g:=by rfl) (hgy:Gl X "TileError":=by rfl) (hi:X.N[i]?=some xn:=by rfl) (hj:X.N[j]?=some nm:=by rfl)
   (hil:X.env.scope.names.lookup xn=some .local:=by rfl) (hjl:X.env.scope.names.lookup nm=some .local:=by rfl) (hdb:(g==("__debug__":Str))=false:=by decide) (he:starEach (e::es) X.env=(false,eval e X.env)::starEach es X.env:=by rfl) (hpl:(backTo cpos<|starEach es X.env).any (·.1)=false:=by rfl)
   (hst:starEach [.Constant (.str c0) kk cp,.Call (.Name g p) (e::es) [] cpos] X.env=[(false,eval (.Constant (.str c0) kk cp) X.env),(false,eval (.Call (.Name g p) (e::es) [] cpos) X.env)]:=by rfl)
   (hsw:swapsWith (.Tuple [.Constant (.str c0) kk cp,.Call (.Name g p) (e::es) [] cpos] x1 tp) (some<|.Name xn px) apos.line X.env=pure false:=by rfl) :
   SS X (.Try [.Assign [.Name xn px] (.Tuple [.Constant (.str c0) kk cp,.Call (.Name g p) (e::es) [] cpos] x1 tp) apos] [.ExceptHandler (some<|.Name "TileError" np) (some nm) (st0::more) hpos] [] [] pos) (zll c0 gg mm i j c fld mh):=by
 obtain⟨T,hm,hx⟩:=Y.ex _ (AF hq) hne;exact zn2 D hs hf hr hg ha hl hgy hm hx hN hi hj hil hjl hh (by decide) hdb he hpl hst hsw
def et1(D:DefX X.prog X.w X.K X.mg X.base k g n c fld gg)(hr:Room k X.A)(ha:SA X.nox (e::es) mm)(hl:ze3 n mm)(hh:∀ x W,SSs (hdX X x W) (st0::more) mh)(hs:X.stack=X.env::X.outer:=by rfl)(hf:X.env.frame=some X.env.locals:=by rfl)(hg:Gl X g:=by rfl)(hgy:Gl X c:=by rfl)
   (hdy:(c==("__debug__":Str))=false:=by decide) (hdb:(g==("__debug__":Str))=false:=by decide) (he:starEach (e::es) X.env=(false,eval e X.env)::starEach es X.env:=by rfl) (hpl:(backTo cpos<|starEach es X.env).any (·.1)=false:=by rfl)
   (hsw:swapsWith (.Call (.Name g p) (e::es) [] cpos) none epos.line X.env=pure false:=by rfl) :
   SS X (.Try [.Expr (.Call (.Name g p) (e::es) [] cpos) epos] [.ExceptHandler (some<|.Name c np) none (st0::more) hpos] [] [] pos) (zlm gg mm mh):=zn3 D hs hf hr hg ha hl hgy hh hdy hdb he hpl hsw
end
end L2.MP
namespace L2.MP.Hx
open PySem L2 L2.MP PySem.W PyProof.Rows
def hookE(fns:List (Str×Stmt))(bl:List Str)(co:List (Str×(Str ⊕ Int)))(ds:List ED):Hook where
 α:=(List (Option<|FuncData×Bool)×List (Option<|Option Value)×List (Option<|Str ⊕ Int))×Bool×List OneT
 obs s:=(seenG s.heap.get? fns bl co,errL (frag s.heap) ds)
 val _:=(dueG fns bl co,errD ds)
 says _ h:=∃ K:Frag,K.In h/\Has K fns bl co/\HasE K ds
 of w s e:=by obtain⟨e1,e2⟩:=Bk e;exact⟨frag s.heap,zpo _,zro (by rw[funext (zgV s.heap)];exact e1),zpg e2⟩
 keeps w h h':=fun⟨K,a,b⟩ k=>⟨K,a.keeps k,b⟩
def walk_hasE{l:OpenLaw}{n k:Nat}{q:Program}{loose:List Str}{XP:(Str->Option Value)->Heap->Prop}{fns:List (Str×Stmt)}{bl:List Str}{co:List (Str×(Str ⊕ Int))}{ds:List ED}{d:DefRec}{CX:CXT}{sp:Frag->Sp}{x:Str}
   (hn:l.most=some n) (hn2:n<=sizeLine) (hdf:d.params.defaults=[]) (hr:Room k callerA)
   (F:∀ (K:Frag) (w:World) (mg:Str->Option Value) (fa:Addr) (h:Heap),Has K fns bl co->HasE K ds->K.In h->h.Ns mainGlobals mg->mg d.name=some (.ref fa) ->
     ∃ fd:FuncData,(∀ (s:Shared) (u:Value),BindsTo s fd ⟨[u],[]⟩ [(x,u)])/\∀ base:Heap,K.In base->base.Ns mainGlobals mg->FnOk l.prog w K mg base CX k fa fd [x] (sp K))
   (hsp:∀ (K:Frag) (H:Hp) (a:Addr) (ns:List Int),ns.length<=n->Only H->SqL K H a (ns.map V.int)->sp K [.ref a] H (fun v _=>v=.bl true) fun _ _ _=>False)
   (hCX:∀ (H:Hp) (s:Shared) (e:Value) (s':Shared),CX [] H s (fun _ _ _=>False) e s'->False) :
   WalkO q loose XP (hookE fns bl co ds).says l.row.toRowW d [] (fun f vs=>FX f vs):=by
 intro w s₀ s₁ mg mb G Y;obtain⟨K,hK,hH,hC⟩:=Y;exact L2.walk_of (K:=fun _=>K) (CX:=fun _=>CX) (sp:=fun _=>sp K) (YP:=fun _ h=>K.In h) hn hn2 hdf hr (fun _ _ y=>y) (fun w mg fa h a b c=>F K w mg fa h hH hC a b c) (fun _ H a ns h1 h2 h3=>hsp K H a ns h1 h2 h3) (fun _ H s e s'=>hCX H s e s') w s₀ s₁ mg mb G hK
end L2.MP.Hx
namespace L2.MP.T0
open PySem L2.MP L2.MP.Hd
def erN:List Str:=["TileError","NoGrowing","NoText","NoPlace","Taken","NoKind","NotHeld","NothingBack","NotSure","TooMany","NotFramed","NoLine"]
def zd9:MS:=mR (zkq (mIsi "int"<|mV 0)<|zkq (zpP<|mIsi "bool"<|mV 0)<|zbG leD leD (mV 1) (mV 0)<|mV 2)
def zb2:GN:=fnM 3 zd9
def zfP:MS:=mR (zkq (mIsi "tuple"<|mV 0)<|mB eqD (zas lenD<|zac (mV 0)<|mZ)<|mV 1)
def zc0:GN:=fnM 2 zfP
def zea:MS:=mS (mAsg (mB ixA (mV 0)<|mK<|.int 1)<|gNm 2)<|mR<|zkq (zas zc0<|zac (mV 1)<|zac (mK<|.int 2)<|mZ)<|zkq (zas zb2<|zac (mB ixA (mV 1)<|mK<|.int 0)<|zac (mK<|.int 0)<|zac (mB subD (mB ixA (mV 2)<|mK<|.int 0)<|mK<|.int 1)<|mZ)<|zas zb2<|zac (mB ixA (mV 1)<|mK<|.int 1)<|zac (mK<|.int 0)<|zac (mB subD (mB ixA (mV 2)<|mK<|.int 1)<|mK<|.int 1)<|mZ
def zbw:GN:=fnM 3 zea
def zhb:MS:=mS (mAsg (mB ixA (mB ixA (mV 0)<|mK<|.int 0)<|mK<|.int 2)<|gNm 2)<|mR<|zkq (zas zc0<|zac (mV 1)<|zac (mK<|.int 3)<|mZ)<|zkq (zas zbw<|zac (mV 0)<|zac (mSlB (mV 1) zdC<|zce<|mK<|.int 2)<|mZ)<|zas zb2<|zac (mB ixA (mV 1)<|mK<|.int 2)<|zac (mK<|.int 0)<|zac (mB subD (zas lenD<|zac (mV 2)<|mZ)<|mK<|.int 1)<|mZ
def zdJ:GN:=fnM 3 zhb
def zb9:MS:=mS (mAsg (mSlB (mV 3) zdC<|zce<|mK<|.int 2)<|gNm 4)<|mS (mIf (mOrT (mT<|mB inA (mV 4)<|mV 2)<|zfv<|mT<|zas zbw<|zac (mV 0)<|zac (mV 4)<|mZ) (mR<|mK<|.bl false)<|zdr)<|mS (mAsg (zas zbp<|zac (mV 0)<|zac (mV 2)<|zac (mV 4)<|mZ)<|gNm 5)<|mR<|mB geD (zas zaK<|zac (mV 1)<|zac (zas zbv<|zac (mV 0)<|zac (mB ixA (mV 3)<|mK<|.int 2)<|mZ)<|zac (mV 5)<|mZ)<|mB ixA (mB ixA (mV 0)<|mK<|.int 0)<|mK<|.int 0
def zaZ:GN:=fnM 6 zb9
def zb6:MS:=mS (mIf (zfv<|mT<|zas zaZ<|zac (mV 0)<|zac (mV 2)<|zac (mV 3)<|zac (mV 5)<|mZ) (zmR erF<|mV 4)<|zdr)<|putA (mV 3) (mSlB (mV 5) zdC<|zce<|mK<|.int 2)<|mB ixA (mV 5)<|mK<|.int 2
def zjt:MS:=mS (mAsg (zas zpu<|zac (mB ixA (mB ixA (mV 0)<|mK<|.int 0)<|mK<|.int 1)<|mZ)<|gNm 2)<|mS (mAsg (zas zbq<|zac (mB ixA (mV 0)<|mK<|.int 2)<|mZ)<|gNm 3)<|mS (mF (ziF<|mV 1) (gTp 2<|gC (gNm 4)<|gC (gNm 5)<|gN0)<|zb6)<|mR<|zas zdK<|zac (zas zdm<|zac (mB addE (mB ixA (mV 0)<|mK<|.int 2)<|mV 1)<|mZ)<|mZ
def zeA:GN:=fnM 6 zjt
def zd3:ME:=zas zdJ<|zac (mV 1)<|zac (mV 0)<|mZ
def zgo:MS:=mS (mIf (mOrT (zfv<|mT<|mIsi "tuple"<|mV 1)<|zfv<|mT<|zas allC<|zac (zcf (mWA<|mV 1) 1 [0] (gNm 0) zbF<|zd3)<|mZ) (mR<|mK<|.bl false)<|zdr) (mS (zlm zeA (zac (mV 0)<|zac (mV 1)<|mZ)<|mR<|mK<|.bl false)<|mR<|mK<|.bl true)
def zd2:GN:=fnM 2 zgo
def zay:ME:=mB addD (mV 0)<|mU<|zac (mB zkJ (mV 1)<|mV 0)<|mZ
def zbS:MS:=mR<|zas zdK<|zac (zas zdm<|zac (zo1 0<|zcf (mWK<|mV 0) 1 [0] (gNm 0) zbF<|zay)<|mZ)<|mZ
def zaL:GN:=fnM 1 zbS
def zbj:ME:=mV 0
def zaN:MT:=mT<|mB inA (zas zaY<|zac (mU<|zac (mV 1)<|zac (mV 2)<|mZ)<|zac (mV 0)<|mZ)<|mV 3
def zbg:MS:=mS (mAsg (zcf (mR1<|mK<|.int 4) 1 [3,4,1] (gNm 0) zaN<|zbj)<|gNm 5)<|mIf (zjw (mT<|mB ziw (mU<|zac (mV 3)<|zac (mV 4)<|mZ)<|mV 1)<|mT<|mB neD (mV 5)<|mL<|mZ) (mExp<|mApp (mV 2)<|zac (mU<|zac (mV 3)<|zac (mV 4)<|mZ)<|mZ)<|zdr
def zbW:MS:=mF (mR1<|mB ixA (mB ixA (mV 0)<|mK<|.int 1)<|mK<|.int 1) (gNm 4)<|zbg
def zdx:MS:=mS (mAsg (mL<|mZ)<|gNm 2)<|mS (mF (mR1<|mB ixA (mB ixA (mV 0)<|mK<|.int 1)<|mK<|.int 0) (gNm 3)<|zbW)<|mR<|mV 2
def zbQ:GN:=fnM 6 zdx
def zbm:MS:=mIf (mT<|mB geD (zas zbH<|zac (mV 0)<|zac (mV 1)<|zac (mV 3)<|zac (mV 4)<|mZ)<|mB ixA (mB ixA (mV 0)<|mK<|.int 0)<|mK<|.int 0) (mExp<|mApp (mV 2)<|zac (mB addD (mV 3)<|mU<|zac (mV 4)<|mZ)<|mZ)<|zdr
def zbO:MS:=mF (mR1<|zas lenD<|zac (mB ixA (mB ixA (mV 0)<|mK<|.int 0)<|mK<|.int 2)<|mZ) (gNm 4)<|zbm
def zeB:MS:=mS (mAsg (mL<|mZ)<|gNm 2)<|mS (mF (mWA<|zas zbQ<|zac (mV 0)<|zac (mV 1)<|mZ) (gNm 3)<|zbO)<|mR<|mV 2
def zb1:GN:=fnM 5 zeB
def zaX:MS:=mS (mAsg (zas zb1<|zac (mV 1)<|zac (mV 3)<|mZ)<|gNm 6)<|mIf (mT<|mB neD (mV 6)<|mL<|mZ) (mS (mAsg (mB ixA (mV 6)<|zas zae<|zac (mV 0)<|zac (zas lenD<|zac (mV 6)<|mZ)<|mZ)<|gNm 7)<|mS (putA (mV 3) (mSlB (mV 7) zdC<|zce<|mK<|.int 2)<|mB ixA (mV 7)<|mK<|.int 2)<|mExp<|mApp (mV 4)<|zac (mV 7)<|mZ)<|zdr
def zd4:MS:=mS (mPar 3 4<|zac (zas zbP<|zac (mB ixA (mV 1)<|mK<|.int 2)<|mZ)<|zac (mL<|mZ)<|mZ)<|mS (mF (mR1<|mV 2) (gNm 5)<|zaX)<|mR<|zas zdK<|zac (mV 4)<|mZ
def zb7:GN:=fnM 8 zd4
def zaW:ME:=mB addE (mB addE (mSlC (mV 1) zdC<|zce<|mV 2)<|mU<|zac (mV 0)<|mZ)<|mSlC (mV 1) (zce<|mB addD (mV 2)<|mK<|.int 1)<|zdC
def zaV:ME:=mB addE (mB addE (mSlC (mV 1) zdC<|zce<|mV 2)<|mU<|zac (mV 0)<|mZ)<|mSlC (mV 1) (zce<|mV 2)<|zdC
def zc2:MS:=mS (mAsg (mU<|zac (zas zae<|zac (mV 0)<|zac (mB addD (zas lenD<|zac (mV 2)<|mZ)<|mK<|.int 1)<|mZ)<|zac (zas zae<|zac (mV 0)<|zac (mB addD (zas lenD<|zac (mV 2)<|mZ)<|mK<|.int 1)<|mZ)<|mZ)<|gTp 2<|gC (gNm 3)<|gC (gNm 4)<|gN0)<|mS (mAsg (mB ixA (mV 1)<|mK<|.int 1)<|gTp 2<|gC (gNm 5)<|gC (gNm 6)<|gN0)<|mS (mAsg (mB ixA (mB addE (mV 2)<|mU<|zac (mU<|zac (mK<|.int 0)<|zac (mK<|.int 0)<|zac (mK<|.int 0)<|mZ)<|mZ)<|mV 3)<|gTp 3<|gC (gNm 7)<|gC (gNm 8)<|gC (gNm 9)<|gN0)<|mS (mAsg (mB addD (mB powB (mK<|.int 10)<|mK<|.int 18)<|zas zae<|zac (mV 0)<|zac (mK<|.int 1000)<|mZ)<|gNm 10)<|mS (mAsg (mL<|zac (mU<|zac (mV 7)<|zac (mV 8)<|zac (mB modD (mB addD (mV 9)<|mK<|.int 1)<|zas lenD<|zac (mB ixA (mB ixA (mV 1)<|mK<|.int 0)<|mK<|.int 2)<|mZ)<|mZ)<|zac (mU<|zac (mB addD (mV 7)<|mK<|.int 1)<|zac (mV 8)<|zac (mV 9)<|mZ)<|zac (mU<|zac (mV 5)<|zac (mV 8)<|zac (mV 9)<|mZ)<|zac (mU<|zac (mV 7)<|zac (mV 6)<|zac (mV 9)<|mZ)<|zac (mU<|zac (mNeg<|mK<|.int 1)<|zac (mV 8)<|zac (mV 9)<|mZ)<|mZ)<|gNm 11)<|mS (mAsg (mB addD (mV 11)<|mL<|zac (mU<|zac (mV 7)<|zac (mNeg<|mK<|.int 1)<|zac (mV 9)<|mZ)<|zac (mU<|zac (mV 7)<|zac (mV 8)<|zac (zas lenD<|zac (mB ixA (mB ixA (mV 1)<|mK<|.int 0)<|mK<|.int 2)<|mZ)<|mZ)<|zac (mU<|zac (mV 7)<|zac (mV 8)<|zac (mNeg<|mK<|.int 1)<|mZ)<|zac (mU<|zac (mV 10)<|zac (mV 8)<|zac (mV 9)<|mZ)<|zac (mU<|zac (mV 7)<|zac (mV 8)<|zac (mB subD (mK<|.int 0)<|mV 10)<|mZ)<|mZ)<|gNm 11)<|mS (mAsg (mL<|zac (mB addE (mB addE (mSlC (mV 2) zdC<|zce<|mV 3)<|mSlC (mV 2) (zce<|mV 4)<|zce<|mB addD (mV 4)<|mK<|.int 1)<|mSlC (mV 2) (zce<|mV 3)<|zdC)<|zac (mB addE (mSlC (mV 2) zdC<|zce<|mV 3)<|mSlC (mV 2) (zce<|mB addD (mV 3)<|mK<|.int 1)<|zdC)<|zac (zmQ (mV 2)<|mNeg<|mK<|.int 1)<|zac (mB addE (mV 2)<|mSlC (mV 2) (zce<|mV 3)<|zce<|mB addD (mV 3)<|mK<|.int 1)<|mZ)<|gNm 12)<|mS (mExp<|mApp (mV 12)<|zac (mB addE (mB addE (mSlC (mV 2) zdC<|zce<|mV 3)<|mSlC (mV 2) (zce<|mB addD (mV 3)<|mK<|.int 1)<|zdC)<|mSlC (mV 2) (zce<|mV 3)<|zce<|mB addD (mV 3)<|mK<|.int 1)<|mZ)<|mS (mAsg (mB addD (mB addD (mV 12)<|zcf (mWA<|mV 11) 1 [2,3] (gNm 0) zbF<|zaW)<|zcf (mWA<|mV 11) 1 [2,3] (gNm 0) zbF<|zaV)<|gNm 12)<|mR<|mB ixA (mV 12)<|zas zae<|zac (mV 0)<|zac (zas lenD<|zac (mV 12)<|mZ)<|mZ
def zb8:GN:=fnM 13 zc2
def zav:MS:=mS (mIf (mOrT (zfv<|mT<|zbG leD ltD (mK<|.int 0) (mV 4)<|mB ixA (mB ixA (mV 0)<|mK<|.int 1)<|mK<|.int 0)<|mOrT (zfv<|mT<|zbG leD ltD (mK<|.int 0) (mV 5)<|mB ixA (mB ixA (mV 0)<|mK<|.int 1)<|mK<|.int 1)<|mOrT (mT<|mB inA (mU<|zac (mV 4)<|zac (mV 5)<|mZ)<|mV 2)<|zfv<|mT<|zbG leD ltD (mK<|.int 0) (mV 6)<|zas lenD<|zac (mB ixA (mB ixA (mV 0)<|mK<|.int 0)<|mK<|.int 2)<|mZ) (mR<|mU<|zac (mV 3)<|zac (mV 2)<|mZ)<|zdr)<|mS (mIf (mT<|mB ltD (zas zbH<|zac (mV 0)<|zac (mV 2)<|zac (mU<|zac (mV 4)<|zac (mV 5)<|mZ)<|zac (mV 6)<|mZ)<|mB ixA (mB ixA (mV 0)<|mK<|.int 0)<|mK<|.int 0) (mR<|mU<|zac (mV 3)<|zac (mV 2)<|mZ)<|zdr)<|putA (mV 2) (mU<|zac (mV 4)<|zac (mV 5)<|mZ)<|mV 6
def zby:MS:=mS (mAsg (zas zbP<|zac (mB ixA (mV 0)<|mK<|.int 2)<|mZ)<|gNm 2)<|mS (mF (ziF<|mV 1) (gTp 2<|gC (gNm 3)<|gC (gTp 3<|gC (gNm 4)<|gC (gNm 5)<|gC (gNm 6)<|gN0)<|gN0)<|zav)<|mR<|mU<|zac (mK .non)<|zac (mV 2)<|mZ
def za2:GN:=fnM 7 zby
def zd5:MS:=mS (mAsg (mK .non)<|gNm 2) (mS (zll "told" zeA (zac (mV 0)<|zac (mV 1)<|mZ) 2 3 "NoGrowing" "number"<|mS (mAsg (zas (isE<|tKls erN)<|zac (mV 3)<|zac (mU<|zac (mK<|.fn "NoKind")<|zac (mK<|.fn "NoLine")<|zac (mK<|.fn "NoPlace")<|zac (mK<|.fn "NoText")<|zac (mK<|.fn "NotFramed")<|mZ)<|mZ)<|gNm 4)<|mS (mAsg (mOrV (mV 4)<|zas (isE<|tKls erN)<|zac (mV 3)<|zac (mU<|zac (mK<|.fn "NotHeld")<|zac (mK<|.fn "NothingBack")<|zac (mK<|.fn "NotSure")<|zac (mK<|.fn "Taken")<|zac (mK<|.fn "TooMany")<|mZ)<|mZ)<|gNm 4)<|mIf (zjw (mT<|zas (isE<|tKls erN)<|zac (mV 3)<|zac (mK<|.fn "NoGrowing")<|mZ)<|zjw (mT<|mIsT (tKlv erN)<|mV 3)<|zfv<|mT<|mV 4) (mAsg (mU<|zac (mK<|.str "no")<|zac (mAtE (okE "NoGrowing") "number"<|mV 3)<|mZ)<|gNm 2)<|zdr)<|mR<|mV 2)
def zbk:GN:=fnM 5 zd5
def zha:MS:=mS (mAsg (zas zb8<|zac (mV 2)<|zac (mV 3)<|zac (mV 4)<|mZ)<|gNm 6) (mS (mAsg (zas za2<|zac (mV 3)<|zac (mV 6)<|mZ)<|gTp 2<|gC (gNm 7)<|gC (gNm 8)<|gN0)<|mS (mAsg (mIte (mT<|mB isBD (mV 7)<|mK .non) (mU<|zac (mK<|.str "told")<|zac (zas zaL<|zac (mV 8)<|mZ)<|mZ)<|mU<|zac (mK<|.str "no")<|zac (mV 7)<|mZ)<|gNm 9)<|mS (mIf (mOrT (mT<|mB neS (zas zgB<|zac (zas zbk<|zac (mV 3)<|zac (mV 6)<|mZ)<|mZ)<|zas zgB<|zac (mV 9)<|mZ)<|mT<|mB neS (zas zgB<|zac (zas zd2<|zac (mV 3)<|zac (mV 6)<|mZ)<|mZ)<|zas zgB<|zac (mB isBD (mV 7)<|mK .non)<|mZ) (mR<|mK<|.bl false)<|zdr)<|mIf (mT<|mB neS (zas zgB<|zac (zas zbk<|zac (mV 3)<|zac (mV 6)<|mZ)<|mZ)<|zas zgB<|zac (mV 9)<|mZ) (mR<|mK<|.bl false)<|zdr)
def zg9:MS:=mS (mAsg (zas zcq<|zac (mV 0)<|zac (mV 1)<|mZ)<|gNm 2)<|mS (mAsg (zas zdj<|zac (mV 2)<|mZ)<|gNm 3)<|mS (mAsg (zas zb7<|zac (mV 2)<|zac (mV 3)<|zac (mK<|.int 8)<|mZ)<|gNm 4)<|mF (mR1<|mK<|.int 8) (gNm 5)<|zha
def zsf:MS:=mS (mF (mR1<|mB addD (mK<|.int 1)<|zas zo0<|zac (mK<|.int 3)<|zac (zas lenD<|zac (mV 0)<|mZ)<|mZ) (gNm 1)<|zg9)<|mR<|mK<|.bl true
def zrO:GN:=fnM 10 zsf
open L2 PySem.Spec PyProof.Rows
def zfA:InitOk "NoGrowing" "number" "number" (Hx.inClass (top 7) 0):=⟨zmc<|by decide +kernel,⟨_,_,_,_,rfl,fun _=>rfl⟩,rfl,rfl,rfl,rfl,fun _ _ _ _ _ _=>len2 fun _ _=>rfl⟩
section
variable {P:Program} {w:World} {K:Ab} {mg:Str->Option Value} {base:Heap} (Z:En K mg fns bls cos) (Y:EE K mg ers)
def nd_6:(["side","name","strengths"]:List Str).Nodup:=by decide +kernel
def nd_9:(["part","bed"]:List Str).Nodup:=by decide +kernel
def zsU:(["_law_k","_law_letters","_law_first"]:List Str).Nodup:=by decide +kernel
def zsT:(["_law_k","_law_letters","_law_first","_law_step_here"]:List Str).Nodup:=by decide +kernel
def zsS:(["_law_side","_law_names_here","_law_pot"]:List Str).Nodup:=by decide +kernel
def zsR:(["_law_name","_law_pot"]:List Str).Nodup:=by decide +kernel
def zsQ:(["_law_k","_law_pot","_law_names_here"]:List Str).Nodup:=by decide +kernel
def zrX:(["_law_place","_law_there"]:List Str).Nodup:=by decide +kernel
def zq5:(["_law_x","_law_y","_law_kind_here"]:List Str).Nodup:=by decide +kernel
def zsP:(["_law_side","_law_strengths","_law_bed_here","_law_kind_here"]:List Str).Nodup:=by decide +kernel
def zsO:(["_law_side","_law_x","_law_y","_law_there"]:List Str).Nodup:=by decide +kernel
def zrW:(["_law_one","_law_row","_law_at"]:List Str).Nodup:=by decide +kernel
include Z Y
theorem zdb:zcC P w K mg base 1 "is_whole" 3 zb2 :=
 zaJ (k:=0) Z (top 1) 0 ["thing","least","most"] ["thing","least","most"] fun nd f cdv A outer s H E hr=>JSs.out (zao<|JS.mk<|zaP<|zf0 (isiE Z (zab 0) zpB)<|zf0 (zqp<|isiE Z (zab 0) zpC)<|zgx<|zl9 zhl zhl (zab 1) (zab 0)<|zab 2)
theorem zen:zcC P w K mg base 1 "is_tuple" 2 zc0 :=
 zaJ (k:=0) Z (top 2) 1 ["thing","size"] ["thing","size"] fun nd f cdv A outer s H E hr=>JSs.out (zao<|JS.mk<|zaP<|zf0 (isiE Z (zab 0) zcm)<|zgx<|zjU (zf5<|zbz hr) (cBE Z zaQ zcB<|zaa (zab 0)<|zag) (zab 1) rfl)
theorem zeo:zcC P w K mg base 2 "is_place" 2 zbw :=
 zaJ (k:=1) Z (top 3) 2 ["bed","thing","floor"] ["bed","thing"] fun nd f cdv A outer s H E hr=>JSs.out (zah (JS.mk<|sst 2 nd<|zap (zaB hr) (zab 0)<|zad)<|zao<|JS.mk<|zaP<|zf0 (zbf (zen Z Y) hr<|zaa (zab 1)<|zaa zad<|zag)<|zf0 (zbf (zdb Z Y) hr<|zaa (zap (zaB hr) (zab 1)<|zad)<|zaa zad<|zaa (zam zdo (zap (zaB hr) (zab 2)<|zad)<|zad)<|zag)<|zgx<|zbf (zdb Z Y) hr<|zaa (zap (zaB hr) (zab 1)<|zad)<|zaa zad<|zaa (zam zdo (zap (zaB hr) (zab 2)<|zad)<|zad)<|zag)
theorem ziu:zcC P w K mg base 3 "is_tile" 2 zdJ :=
 zaJ (k:=2) Z (top 4) 3 ["bed","thing","kinds"] ["bed","thing"] fun nd f cdv A outer s H E hr=>JSs.out (zah (JS.mk<|sst 2 nd<|zap (zaB hr) (zap (zaB hr) (zab 0)<|zad)<|zad)<|zao<|JS.mk<|zaP<|zf0 (zbf (zen Z Y) hr<|zaa (zab 1)<|zaa zad<|zag)<|zf0 (zbf (zeo Z Y) hr<|zaa (zab 0)<|zaa (zcy (zab 1) zbD<|zbe<|zad)<|zag)<|zgx<|zbf (zdb Z Y) hr<|zaa (zap (zaB hr) (zab 1)<|zad)<|zaa zad<|zaa (zam zdo (cBE Z zaQ zcB<|zaa (zab 2)<|zag)<|zad)<|zag)
theorem zdV:zcC P w K mg base 1 "places_around" 1 zbt :=
 zaJ (k:=0) Z (top 19) 4 ["place","x","y"] ["place"] fun nd f cdv A outer s H E hr=>JSs.out (zah (JS.mk<|sst 1 nd<|zap (zaB hr) (zab 0)<|zad)<|zah (JS.mk<|sst 2 nd<|zap (zaB hr) (zab 0)<|zad)<|zao<|JS.mk<|zaP<|zaA<|JA.out<|zaj (zaA<|zaa (zab 1)<|zaa (zam zau (zab 2)<|zad)<|zag)<|zaj (zaA<|zaa (zam zau (zab 1)<|zad)<|zaa (zab 2)<|zag)<|zaj (zaA<|zaa (zab 1)<|zaa (zam zdo (zab 2)<|zad)<|zag)<|zaj (zaA<|zaa (zam zdo (zab 1)<|zad)<|zaa (zab 2)<|zag)<|zb4)
theorem zel:zcC P w K mg base 1 "sides_of" 2 zbv :=
 zaJ (k:=0) Z (top 20) 5 ["bed","kind","kinds"] ["bed","kind"] fun nd f cdv A outer s H E hr=>JSs.out (zah (JS.mk<|sst 2 nd<|zap (zaB hr) (zap (zaB hr) (zab 0)<|zad)<|zad)<|zah (zfb (zeL zhl zhk zad (zab 1)<|cBE Z zaQ zcB<|zaa (zab 2)<|zag) (zao<|JS.mk<|zaP<|zcy (zap (zaB hr) (zab 2)<|zab 1) (zbe<|zad)<|zbD)<|zbu)<|zao<|JS.mk<|zaP<|zaA<|JA.out<|zaj zcT<|zaj zcT<|zaj zcT<|zaj zcT<|zb4)
theorem zdB:zcC P w K mg base 1 "kinds_by_place" 1 zbq :=
 zaJ (k:=0) Z (top 21) 6 ["standing","kinds","x","y","kind"] ["standing"] fun nd f cdv A outer s H E hr=>JSs.out (zah (JS.mk<|sst 1 nd<|zh4)<|zah (zdD Bj rfl (zcg<|zab 0) (zc8 rfl<|zaw (sgn 2 nd)<|zaw (sgn 3 nd)<|zaw (sgn 4 nd)<|zbX)<|zao<|JS.mk<|zfX (zaB hr) (zab 1) (zaA<|zaa (zab 2)<|zaa (zab 3)<|zag)<|zab 4)<|zao<|JS.mk<|zaP<|zab 1)
theorem zec:zcC P w K mg base 2 "names_facing" 3 zbp :=
 zaJ (k:=1) Z (top 22) 7 ["bed","standing_kinds","place","names","side","near"] ["bed","standing_kinds","place"] fun nd f cdv A outer s H E hr=>JSs.out (zah (JS.mk<|sst 3 nd<|zbT<|zag)<|zah (zdD Bj rfl (zh0 rfl Z.b1<|zbf (zdV Z Y) hr<|zaa (zab 2)<|zag) (zc8 rfl<|zaw (sgn 4 nd)<|zaw (sgn 5 nd)<|zbX)<|zao<|zfb (zjZ (zbz hr) (zab 5)<|zab 1) (zao<|JS.mk<|zdl<|zbN (zab 3)<|zaa (zap (zaB hr) (zbf (zel Z Y) hr<|zaa (zab 0)<|zaa (zap (zaB hr) (zab 1)<|zab 5)<|zag)<|zam zbY (zam zau (zab 4)<|zad)<|zad)<|zag)<|zao<|JS.mk<|zdl<|zbN (zab 3)<|zaa zcT<|zag)<|zao<|JS.mk<|zaP<|zab 3)
theorem zcK:zcC P w K mg base 1 "strength_together" 3 zaK :=
 zaJ (k:=0) Z (top 23) 8 ["strengths","sides","names"] ["strengths","sides","names"] fun nd f cdv A outer s H E hr=>JSs.out (zao<|JS.mk<|zaP<|cBE Z (zg1 rfl) zpA<|zaa (zch rfl rfl (zbn (N':=["side","name","strengths"]) (nt:=2) (fr:=[0]) ["strengths"] rfl (by decide +kernel) (by decide +kernel) (by decide +kernel) rfl ⟨⟨rfl,by decide⟩,trivial⟩ ⟨by first | exact Bg rfl | exact Ba rfl,trivial⟩) (zqj rfl Z.b1 (zab 1)<|zab 2) (fun C s0 H0 fp=>zc8 rfl (zaw (sgn 0 nd_6)<|zaw (sgn 1 nd_6)<|zbX)) (fun C s0 H0 fp=>zom (SW.sb<|zhc (zbK (zf5<|zbz hr) (zab 0) (zab 1) rfl)<|zgs<|zbK (zke<|zbz hr) (zab 0) zcT rfl)) fun C s0 H0 fp=>zap (zaB hr) (zab 2) (zab 0))<|zag)
theorem zfr:zcC P w K mg base 3 "is_growing" 4 zaZ :=
 zaJ (k:=2) Z (top 24) 9 ["bed","strengths","standing_kinds","tile","place","names"] ["bed","strengths","standing_kinds","tile"] fun nd f cdv A outer s H E hr=>JSs.out (zah (JS.mk<|sst 4 nd<|zcy (zab 3) zbD<|zbe<|zad)<|zah (zfb (SW.sb<|znE (zjZ (zbz hr) (zab 4)<|zab 2)<|zjH<|zfk<|zme<|zbf (zeo Z Y) hr<|zaa (zab 0)<|zaa (zab 4)<|zag) (zao<|JS.mk<|zaP<|zmb)<|zbu)<|zah (JS.mk<|sst 5 nd<|zbf (zec Z Y) hr<|zaa (zab 0)<|zaa (zab 2)<|zaa (zab 4)<|zag)<|zao<|JS.mk<|zaP<|zjU zmF (zbf (zcK Z Y) hr<|zaa (zab 1)<|zaa (zbf (zel Z Y) hr<|zaa (zab 0)<|zaa (zap (zaB hr) (zab 3)<|zad)<|zag)<|zaa (zab 5)<|zag) (zap (zaB hr) (zap (zaB hr) (zab 0)<|zad)<|zad) rfl)
theorem ziv:DefX P w K mg base 4 "grown" 2 "NoGrowing" "number" zeA :=
 znm (k:=3) Z Y zfA 1 (top 26) 10 ["bed","row","strengths","standing_kinds","number","tile"] ["bed","row"] fun nd C R f cdv A outer s H E hr=>zeF (zpL<|sst 2 nd<|cTE Z (zex rfl) zjk<|zaa (zap (zaB hr) (zap (zaB hr) (zab 0)<|zad)<|zad)<|zag) (zeF (zpL<|sst 3 nd<|zbf (zdB Z Y) hr<|zaa (zap (zaB hr) (zab 0)<|zad)<|zag)<|zeF (zqa PassesOwn.leaving rfl (zh0 rfl Z.b1<|zab 1) (zc8 rfl<|zaw (sgn 4 nd)<|zaw (sgn 5 nd)<|zbX)<|zeF (zsp (zfk<|zme<|zbf (zfr Z Y) hr<|JA.out<|zaj (zab 0)<|zaj (zab 2)<|zaj (zab 3)<|zaj (zab 5)<|zb4) (zhP<|exr R hr<|zab 4)<|zp9 zk2)<|zhP<|zpL<|zfX (zaB hr) (zab 3) (zcy (zab 5) zbD<|zbe<|zad)<|zap (zaB hr) (zab 5)<|zad)<|zhP<|zpL<|zaP<|cTE Z zbB zcm<|zaa (cBE Z zd0 zdH<|zaa (zam zcc (zap (zaB hr) (zab 0)<|zad)<|zab 1)<|zag)<|zag)
theorem zkh:zcC P w K mg base 5 "is_row" 2 zd2 :=
 zaJ (k:=4) Z (top 27) 11 ["bed","thing"] ["bed","thing"] fun nd f cdv A outer s H E hr=>JSs.out (zah (zfb (SW.sb<|znE (zfk<|zme<|isiE Z (zab 1) zcm)<|zjH<|zfk<|zme<|cBE Z (zkV rfl) zrD<|zaa (zch rfl rfl (zbn (N':=["part","bed"]) (nt:=1) (fr:=[0]) ["bed"] rfl (by decide +kernel) (by decide +kernel) (by decide +kernel) rfl ⟨⟨rfl,by decide⟩,trivial⟩ ⟨by first | exact Bg rfl | exact Ba rfl,trivial⟩) (zcg<|zab 1) (fun C s0 H0 fp=>sgn 0 nd_9) (fun C s0 H0 fp=>zdz) fun C s0 H0 fp=>zbf (ziu Z Y) hr (zaa (zab 1)<|zaa (zab 0)<|zag))<|zag) (zao<|JS.mk<|zaP<|zmb)<|zbu)<|zah (JS.mk<|et1 (ziv Z Y) (hr.mono<|by decide) (zaa (zab 0)<|zaa (zab 1)<|zag) (ze3.cons<|ze3.cons ze3.nil) fun x W=>JSs.out (zao<|JS.mk<|zaP<|zmb))<|zao<|JS.mk<|zaP<|zmb)
theorem zeY:zcC P w K mg base 1 "_law_begin" 2 zcq :=
 zaJ (k:=0) Z (top 29) 12 ["_law_script","_law_k","_law_cell","_law_far","_law_own"] ["_law_script","_law_k"] fun nd f cdv A outer s H E hr=>JSs.out (zah (JS.mk<|sst 2 nd<|zoi (zbK zhk (zab 1) (cBE Z zaQ zcB<|zaa (zab 0)<|zag) rfl) (zap (zaB hr) (zab 0)<|zab 1)<|zad)<|zah (JS.mk<|sst 3 nd<|zam zfn (zam zfn (zam zfn (zam zfn (zam zdU zad<|zad)<|zam zdU zad<|zad)<|zam zdU zad<|zad)<|zam zdU zad<|zad)<|zam zdU zad<|zad)<|zah (JS.mk<|sst 4 nd<|zam zfn (zam zbY (zab 2)<|zab 3)<|cTE Z zkT zpB<|zaa (zjU zmF (zab 2) (zam zdU zad<|zad) rfl)<|zag)<|zao<|JS.mk<|zaP<|zbT<|zaa (zab 4)<|zaa (zam zbY (zam zau (zam zbY (zab 2)<|zad)<|zam zci zad<|zab 1)<|zad)<|zaa zad<|zag)
theorem zak:zcC P w K mg base 1 "_law_draw" 2 zae :=
 zaJ (k:=0) Z (top 30) 13 ["_law_pot","_law_many","_law_digit","_law_mixed"] ["_law_pot","_law_many"] fun nd f cdv A outer s H E hr=>JSs.out (zah (zfb (zbK zq0 (zap (zaB hr) (zab 0)<|zad) zad rfl) (zah (JS.mk<|sst 2 nd<|zam zbY (zap (zaB hr) (zab 0)<|zad)<|zab 1)<|zah (JS.mk<|zfX (zaB hr) (zab 0) zad<|zam zf4 (zap (zaB hr) (zab 0)<|zad)<|zab 1)<|zao<|JS.mk<|zaP<|zab 2)<|zbu)<|zah (JS.mk<|zfX (zaB hr) (zab 0) zad<|zam zau (zap (zaB hr) (zab 0)<|zad)<|zad)<|zah (JS.mk<|sst 3 nd<|zam zbY (zam zci (zam zau (zam zau (zap (zaB hr) (zab 0)<|zad)<|zam zci (zam zci zad<|zap (zaB hr) (zab 0)<|zad)<|zap (zaB hr) (zab 0)<|zad)<|zam zci zad<|zap (zaB hr) (zab 0)<|zad)<|zad)<|zad)<|zah (JS.mk<|sst 3 nd<|zam zbY (zam zci (zab 3)<|zam zau (zam zbY (zab 3)<|zad)<|zam zci zad<|zap (zaB hr) (zab 0)<|zad)<|zad)<|zao<|JS.mk<|zaP<|zam zbY (zam zau (zam zf4 (zab 3)<|zad)<|zam zf4 (zab 3)<|zad)<|zab 1)
theorem zeV:zcC P w K mg base 2 "_law_names" 2 zco :=
 zaJ (k:=1) Z (top 31) 14 ["_law_pot","_law_many","_law_letters","_law_first","_law_step_here"] ["_law_pot","_law_many"] fun nd f cdv A outer s H E hr=>JSs.out (zah (JS.mk<|sst 2 nd<|zcT)<|zah (JS.mk<|zfY (zaA<|zaa (zbf (zak Z Y) hr<|zaa (zab 0)<|zaa zad<|zag)<|zaa (zap (zaB hr) (zbT<|JA.out<|zaj zad<|zaj zad<|zaj zad<|zaj zad<|zaj zad<|zaj zad<|zb4)<|zbf (zak Z Y) hr<|zaa (zab 0)<|zaa zad<|zag)<|zag)<|zc8 rfl<|zaw (sgn 3 nd)<|zaw (sgn 4 nd)<|zbX)<|zah (zfb (zbK (zf5<|zbz hr) (zbf (zak Z Y) hr<|zaa (zab 0)<|zaa zad<|zag) zad rfl) (zao<|JS.mk<|zaP<|zch rfl rfl (zbn (N':=["_law_k","_law_letters","_law_first"]) (nt:=1) (fr:=[2,3]) ["_law_letters","_law_first"] rfl (by decide +kernel) (by decide +kernel) (by decide +kernel) rfl ⟨⟨rfl,by decide⟩,⟨⟨rfl,by decide⟩,trivial⟩⟩ ⟨by first | exact Bg rfl | exact Ba rfl,⟨by first | exact Bg rfl | exact Ba rfl,trivial⟩⟩) (za9 rfl Z.b1<|zab 1) (fun C s0 H0 fp=>sgn 0 zsU) (fun C s0 H0 fp=>zdz) fun C s0 H0 fp=>zam zci (zap (zaB hr) (zab 1)<|zab 2) (zam zau (zab 0)<|zad))<|zbu)<|zao<|JS.mk<|zaP<|cBE Z zcM zdH<|zaa (zch rfl rfl (zbn (N':=["_law_k","_law_letters","_law_first","_law_step_here"]) (nt:=1) (fr:=[2,3,4]) ["_law_letters","_law_first","_law_step_here"] rfl (by decide +kernel) (by decide +kernel) (by decide +kernel) rfl ⟨⟨rfl,by decide⟩,⟨⟨rfl,by decide⟩,⟨⟨rfl,by decide⟩,trivial⟩⟩⟩ ⟨by first | exact Bg rfl | exact Ba rfl,⟨by first | exact Bg rfl | exact Ba rfl,⟨by first | exact Bg rfl | exact Ba rfl,trivial⟩⟩⟩) (za9 rfl Z.b1<|zab 1) (fun C s0 H0 fp=>sgn 0 zsT) (fun C s0 H0 fp=>zdz) fun C s0 H0 fp=>zam zci (zap (zaB hr) (zab 1)<|zam zbY (zam zau (zab 2)<|zam zci (zab 3)<|zab 0)<|zad) (zam zau zad<|zam zbY (zam zau (zam zci (zab 0)<|zab 0)<|zab 2)<|zad))<|zag)
theorem zfq:zcC P w K mg base 2 "_law_kind" 2 zcQ :=
 zaJ (k:=1) Z (top 32) 15 ["_law_pot","_law_names_here","_law_face","_law_sides_here"] ["_law_pot","_law_names_here"] fun nd f cdv A outer s H E hr=>JSs.out (zah (JS.mk<|sst 2 nd<|zap (zaB hr) (zbT<|zaa zcT<|zaa (zap (zaB hr) zcT<|zbf (zak Z Y) hr<|zaa (zab 0)<|zaa zad<|zag)<|zag)<|zbf (zak Z Y) hr<|zaa (zab 0)<|zaa zad<|zag)<|zah (JS.mk<|zc6 (i:=3) rfl rfl (zbn (N':=["_law_side","_law_names_here","_law_pot"]) (nt:=1) (fr:=[1,0]) ["_law_names_here","_law_pot"] rfl (by decide +kernel) (by decide +kernel) (by decide +kernel) rfl ⟨⟨rfl,by decide⟩,⟨⟨rfl,by decide⟩,trivial⟩⟩ ⟨by first | exact Bg rfl | exact Ba rfl,⟨by first | exact Bg rfl | exact Ba rfl,trivial⟩⟩) (za9 rfl Z.b1<|zad) (fun C s0 H0 fp=>sgn 0 zsS) (fun C s0 H0 fp=>zdz) (fun C s0 H0 fp=>zap (zaB hr) (zam zau (zbT<|zaa zcT<|zag)<|zab 1) (zbf (zak Z Y) hr<|zaa (zab 2)<|zaa (zam zau (cBE Z zaQ zcB<|zaa (zab 1)<|zag)<|zad)<|zag)) nd rfl rfl)<|zao<|JS.mk<|zaP<|zaA<|JA.out<|zaj (zab 2)<|zaj (zap (zaB hr) (zab 3)<|zad)<|zaj (zap (zaB hr) (zab 3)<|zad)<|zaj (zap (zaB hr) (zab 3)<|zad)<|zaj (zap (zaB hr) (zab 3)<|zad)<|zb4)
theorem zeW:zcC P w K mg base 3 "_law_house" 1 zcp :=
 zaJ (k:=2) Z (top 33) 16 ["_law_pot","_law_names_here","_law_enough","_law_sticks","_law_kinds"] ["_law_pot"] fun nd f cdv A outer s H E hr=>JSs.out (zah (JS.mk<|sst 1 nd<|zbf (zeV Z Y) hr<|zaa (zab 0)<|zaa (zam zau zad<|zbf (zak Z Y) hr<|zaa (zab 0)<|zaa zad<|zag)<|zag)<|zah (JS.mk<|sst 2 nd<|zap (zaB hr) (zbT<|JA.out<|zaj zad<|zaj zad<|zaj zad<|zaj zad<|zaj zad<|zaj zad<|zaj zad<|zaj zad<|zb4)<|zbf (zak Z Y) hr<|zaa (zab 0)<|zaa zad<|zag)<|zah (JS.mk<|sst 3 nd<|cTE Z zbB zcm<|zaa (zch rfl rfl (zbn (N':=["_law_name","_law_pot"]) (nt:=1) (fr:=[0]) ["_law_pot"] rfl (by decide +kernel) (by decide +kernel) (by decide +kernel) rfl ⟨⟨rfl,by decide⟩,trivial⟩ ⟨by first | exact Bg rfl | exact Ba rfl,trivial⟩) (zcg<|zab 1) (fun C s0 H0 fp=>sgn 0 zsR) (fun C s0 H0 fp=>zdz) fun C s0 H0 fp=>zaA (zaa (zab 0)<|zaa (zap (zaB hr) (zbT<|JA.out<|zaj zad<|zaj zad<|zaj zad<|zaj (zam zau zad<|zbf (zak Z Y) hr<|zaa (zab 1)<|zaa zad<|zag)<|zb4)<|zbf (zak Z Y) hr<|zaa (zab 1)<|zaa zad<|zag)<|zag))<|zag)<|zah (JS.mk<|zc6 (i:=4) rfl rfl (zbn (N':=["_law_k","_law_pot","_law_names_here"]) (nt:=1) (fr:=[0,1]) ["_law_pot","_law_names_here"] rfl (by decide +kernel) (by decide +kernel) (by decide +kernel) rfl ⟨⟨rfl,by decide⟩,⟨⟨rfl,by decide⟩,trivial⟩⟩ ⟨by first | exact Bg rfl | exact Ba rfl,⟨by first | exact Bg rfl | exact Ba rfl,trivial⟩⟩) (za9 rfl Z.b1<|zam zau zad<|zbf (zak Z Y) hr<|zaa (zab 0)<|zaa (zap (zaB hr) (zbT<|JA.out<|zaj zad<|zaj zad<|zaj zad<|zaj zad<|zb4)<|zbf (zak Z Y) hr<|zaa (zab 0)<|zaa zad<|zag)<|zag) (fun C s0 H0 fp=>sgn 0 zsQ) (fun C s0 H0 fp=>zdz) (fun C s0 H0 fp=>zbf (zfq Z Y) hr (zaa (zab 1)<|zaa (zab 2)<|zag)) nd rfl rfl)<|zah (zfb (zbK (zf5<|zbz hr) (zbf (zak Z Y) hr<|zaa (zab 0)<|zaa zad<|zag) zad rfl) (zao<|JS.mk<|zdl<|zbN (zab 4)<|zaa (zap (zaB hr) (zab 4)<|zbf (zak Z Y) hr<|zaa (zab 0)<|zaa (cBE Z zaQ zcB<|zaa (zab 4)<|zag)<|zag)<|zag)<|zbu)<|zao<|JS.mk<|zaP<|zaA<|zaa (zab 2)<|zaa (zab 3)<|zaa (cTE Z zbB zcm<|zaa (zab 4)<|zag)<|zag)
theorem zdA:zcC P w K mg base 2 "_law_standing" 4 za8 :=
 zaJ (k:=1) Z (top 34) 17 ["_law_pot","_law_house_here","_law_floor","_law_most","_law_there","_law_k","_law_place"] ["_law_pot","_law_house_here","_law_floor","_law_most"] fun nd f cdv A outer s H E hr=>JSs.out (zah (JS.mk<|sst 4 nd<|zh4)<|zah (zdD Bj rfl (za9 rfl Z.b1<|zbf (zak Z Y) hr<|zaa (zab 0)<|zaa (zam zau (zab 3)<|zad)<|zag) (sgn 5 nd)<|zah (JS.mk<|sst 6 nd<|zaA<|zaa (zbf (zak Z Y) hr<|zaa (zab 0)<|zaa (zap (zaB hr) (zab 2)<|zad)<|zag)<|zaa (zbf (zak Z Y) hr<|zaa (zab 0)<|zaa (zap (zaB hr) (zab 2)<|zad)<|zag)<|zag)<|zao<|JS.mk<|zfX (zaB hr) (zab 4) (zab 6)<|zbf (zak Z Y) hr<|zaa (zab 0)<|zaa (cBE Z zaQ zcB<|zaa (zap (zaB hr) (zab 1)<|zad)<|zag)<|zag)<|zao<|JS.mk<|zaP<|cTE Z zbB zcm<|zaa (cBE Z zcM zdH<|zaa (zch rfl rfl (zbn (N':=["_law_place","_law_there"]) (nt:=1) (fr:=[4]) ["_law_there"] rfl (by decide +kernel) (by decide +kernel) (by decide +kernel) rfl ⟨⟨rfl,by decide⟩,trivial⟩ ⟨by first | exact Bg rfl | exact Ba rfl,trivial⟩) (zk4<|zab 4) (fun C s0 H0 fp=>sgn 0 zrX) (fun C s0 H0 fp=>zdz) fun C s0 H0 fp=>zam zau (zab 0) (zaA<|zaa (zh5 (zaB hr) (zab 1)<|zab 0)<|zag))<|zag)<|zag)
theorem zf7:zcC P w K mg base 4 "_law_bed" 1 zdj :=
 zaJ (k:=3) Z (top 35) 18 ["_law_pot","_law_house_here","_law_floor"] ["_law_pot"] fun nd f cdv A outer s H E hr=>JSs.out (zah (JS.mk<|sst 1 nd<|zbf (zeW Z Y) hr<|zaa (zab 0)<|zag)<|zah (JS.mk<|sst 2 nd<|zaA<|zaa (zam zau zad<|zbf (zak Z Y) hr<|zaa (zab 0)<|zaa zad<|zag)<|zaa (zam zau zad<|zbf (zak Z Y) hr<|zaa (zab 0)<|zaa (zap (zaB hr) (zbT<|JA.out<|zaj zad<|zaj zad<|zaj zad<|zaj zad<|zb4)<|zbf (zak Z Y) hr<|zaa (zab 0)<|zaa zad<|zag)<|zag)<|zag)<|zah (zfb (zbK (zf5<|zbz hr) (zbf (zak Z Y) hr<|zaa (zab 0)<|zaa zad<|zag) zad rfl) (zao<|JS.mk<|sst 2 nd<|zk5 (zab 2)<|zh3<|zad)<|zbu)<|zao<|JS.mk<|zaP<|zaA<|zaa (zab 1)<|zaa (zab 2)<|zaa (zbf (zdA Z Y) hr<|JA.out<|zaj (zab 0)<|zaj (zab 1)<|zaj (zab 2)<|zaj (zap (zaB hr) (zbT<|zaa zad<|zaa zad<|zaa zad<|zag)<|zbf (zak Z Y) hr<|zaa (zab 0)<|zaa zad<|zag)<|zb4)<|zag)
theorem zcU:zcC P w K mg base 1 "_law_lying" 1 zbP :=
 zaJ (k:=0) Z (top 36) 19 ["_law_standing_here"] ["_law_standing_here"] fun nd f cdv A outer s H E hr=>JSs.out (zao<|JS.mk<|zaP<|cTE Z (zhv rfl<|zsy hr) zjk<|zaa (zch rfl rfl (cS ["_law_x","_law_y","_law_kind_here"] 3 [] []) (zcg<|zab 0) (fun C s0 H0 fp=>zc8 rfl (zaw (sgn 0 zq5)<|zaw (sgn 1 zq5)<|zaw (sgn 2 zq5)<|zbX)) (fun C s0 H0 fp=>zdz) fun C s0 H0 fp=>zaA (zaa (zaA<|zaa (zab 0)<|zaa (zab 1)<|zag)<|zaa (zab 2)<|zag))<|zag)
theorem zcL:zcC P w K mg base 1 "_law_standing_of" 1 zaL :=
 zaJ (k:=0) Z (top 37) 20 ["_law_there"] ["_law_there"] fun nd f cdv A outer s H E hr=>JSs.out (zao<|JS.mk<|zaP<|cTE Z zbB zcm<|zaa (cBE Z zd0 zdH<|zaa (zoh<|zch rfl rfl (zbn (N':=["_law_place","_law_there"]) (nt:=1) (fr:=[0]) ["_law_there"] rfl (by decide +kernel) (by decide +kernel) (by decide +kernel) rfl ⟨⟨rfl,by decide⟩,trivial⟩ ⟨by first | exact Bg rfl | exact Ba rfl,trivial⟩) (zk4<|zab 0) (fun C s0 H0 fp=>sgn 0 zrX) (fun C s0 H0 fp=>zdz) fun C s0 H0 fp=>zam zau (zab 0) (zaA<|zaa (zh5 (zaB hr) (zab 1)<|zab 0)<|zag))<|zag)<|zag)
theorem zdq:zcC P w K mg base 1 "_law_step" 2 zaY :=
 zaJ (k:=0) Z (top 38) 21 ["_law_place","_law_side","_law_x","_law_y"] ["_law_place","_law_side"] fun nd f cdv A outer s H E hr=>JSs.out (zah (JS.mk<|zfY (zab 0)<|zc8 rfl<|zaw (sgn 2 nd)<|zaw (sgn 3 nd)<|zbX)<|zao<|JS.mk<|zaP<|zap (zaB hr) (zbT<|JA.out<|zaj (zaA<|zaa (zab 2)<|zaa (zam zau (zab 3)<|zad)<|zag)<|zaj (zaA<|zaa (zam zau (zab 2)<|zad)<|zaa (zab 3)<|zag)<|zaj (zaA<|zaa (zab 2)<|zaa (zam zdo (zab 3)<|zad)<|zag)<|zaj (zaA<|zaa (zam zdo (zab 2)<|zad)<|zaa (zab 3)<|zag)<|zb4)<|zab 1)
theorem zeU:zcC P w K mg base 2 "_law_sides" 4 zcn :=
 zaJ (k:=1) Z (top 39) 22 ["_law_bed_here","_law_there","_law_place","_law_kind_here","_law_kinds","_law_found","_law_side","_law_other","_law_mine"] ["_law_bed_here","_law_there","_law_place","_law_kind_here"] fun nd f cdv A outer s H E hr=>JSs.out (zah (JS.mk<|zn4 (i:=4) (j:=5) rfl nd rfl rfl (by decide) rfl rfl<|zaa (zap (zaB hr) (zap (zaB hr) (zab 0)<|zad)<|zad)<|zaa (zbT<|zag)<|zag)<|zah (zdD Bj rfl (za9 rfl Z.b1<|zad) (sgn 6 nd)<|zah (JS.mk<|sst 7 nd<|zoj (zaB hr) (zab 1)<|zbf (zdq Z Y) hr<|zaa (zab 2)<|zaa (zab 6)<|zag)<|zah (JS.mk<|sst 8 nd<|zap (zaB hr) (zap (zaB hr) (zab 4)<|zab 3)<|zam zau (zab 6)<|zad)<|zao<|zfb (SW.sb<|zhc (zbK zmC (zab 7) zh2 rfl)<|zhc (zbK (zke<|zbz hr) (zab 8) zcT rfl)<|zgs<|zbK (zf5<|zbz hr) (zap (zaB hr) (zap (zaB hr) (zab 4)<|zab 7)<|zam zau (zam zbY (zam zau (zab 6)<|zad)<|zad)<|zad) (zab 8) rfl) (zao<|JS.mk<|zdl<|zbN (zab 5)<|zaa (zab 6)<|zag)<|zbu)<|zao<|JS.mk<|zaP<|zab 5)
theorem zem:zcC P w K mg base 3 "_law_by" 4 zbH :=
 zaJ (k:=2) Z (top 40) 23 ["_law_bed_here","_law_there","_law_place","_law_kind_here","_law_sides_here","_law_strengths"] ["_law_bed_here","_law_there","_law_place","_law_kind_here"] fun nd f cdv A outer s H E hr=>JSs.out (zah (JS.mk<|sst 4 nd<|zbf (zeU Z Y) hr<|JA.out<|zaj (zab 0)<|zaj (zab 1)<|zaj (zab 2)<|zaj (zab 3)<|zb4)<|zah (zfb (zbK (zf5<|zbz hr) (zab 4) (zbT<|zag) rfl) (zao<|JS.mk<|zaP<|zad)<|zbu)<|zah (JS.mk<|sst 5 nd<|cTE Z (zex rfl) zjk<|zaa (zap (zaB hr) (zap (zaB hr) (zab 0)<|zad)<|zad)<|zag)<|zao<|JS.mk<|zaP<|cBE Z (zg1 rfl) zpA<|zaa (zch rfl rfl (zbn (N':=["_law_side","_law_strengths","_law_bed_here","_law_kind_here"]) (nt:=1) (fr:=[5,0,3]) ["_law_strengths","_law_bed_here","_law_kind_here"] rfl (by decide +kernel) (by decide +kernel) (by decide +kernel) rfl ⟨⟨rfl,by decide⟩,⟨⟨rfl,by decide⟩,⟨⟨rfl,by decide⟩,trivial⟩⟩⟩ ⟨by first | exact Bg rfl | exact Ba rfl,⟨by first | exact Bg rfl | exact Ba rfl,⟨by first | exact Bg rfl | exact Ba rfl,trivial⟩⟩⟩) (zcg<|zab 4) (fun C s0 H0 fp=>sgn 0 zsP) (fun C s0 H0 fp=>zdz) fun C s0 H0 fp=>zap (zaB hr) (zab 1) (zap (zaB hr) (zap (zaB hr) (zap (zaB hr) (zap (zaB hr) (zab 2)<|zad)<|zad)<|zab 3)<|zam zau (zab 0)<|zad))<|zag)
theorem zeX:zcC P w K mg base 2 "_law_empty" 2 zbQ :=
 zaJ (k:=1) Z (top 41) 24 ["_law_bed_here","_law_there","_law_found","_law_x","_law_y","_law_beside"] ["_law_bed_here","_law_there"] fun nd f cdv A outer s H E hr=>JSs.out (zah (JS.mk<|sst 2 nd<|zbT<|zag)<|zah (zdD Bj rfl (za9 rfl Z.b1<|zap (zaB hr) (zap (zaB hr) (zab 0)<|zad)<|zad) (sgn 3 nd)<|zao<|zdD Bj rfl (za9 rfl Z.b1<|zap (zaB hr) (zap (zaB hr) (zab 0)<|zad)<|zad) (sgn 4 nd)<|zah (JS.mk<|zc6 (i:=5) rfl rfl (zbn (N':=["_law_side","_law_x","_law_y","_law_there"]) (nt:=1) (fr:=[3,4,1]) ["_law_x","_law_y","_law_there"] rfl (by decide +kernel) (by decide +kernel) (by decide +kernel) rfl ⟨⟨rfl,by decide⟩,⟨⟨rfl,by decide⟩,⟨⟨rfl,by decide⟩,trivial⟩⟩⟩ ⟨by first | exact Bg rfl | exact Ba rfl,⟨by first | exact Bg rfl | exact Ba rfl,⟨by first | exact Bg rfl | exact Ba rfl,trivial⟩⟩⟩) (za9 rfl Z.b1<|zad) (fun C s0 H0 fp=>sgn 0 zsO) (fun C s0 H0 fp=>zom (zjZ (zbz hr) (zbf (zdq Z Y) hr<|zaa (zaA<|zaa (zab 1)<|zaa (zab 2)<|zag)<|zaa (zab 0)<|zag)<|zab 3)) (fun C s0 H0 fp=>zab 0) nd rfl rfl)<|zao<|zfb (SW.sb<|zhc (zjX (zbz hr) (zaA<|zaa (zab 3)<|zaa (zab 4)<|zag)<|zab 1)<|zgs<|zbK (zke<|zbz hr) (zab 5) (zbT<|zag) rfl) (zao<|JS.mk<|zdl<|zbN (zab 2)<|zaa (zaA<|zaa (zab 3)<|zaa (zab 4)<|zag)<|zag)<|zbu)<|zao<|JS.mk<|zaP<|zab 2)
theorem zf6:zcC P w K mg base 4 "_law_may" 2 zb1 :=
 zaJ (k:=3) Z (top 42) 25 ["_law_bed_here","_law_there","_law_found","_law_place","_law_kind_here"] ["_law_bed_here","_law_there"] fun nd f cdv A outer s H E hr=>JSs.out (zah (JS.mk<|sst 2 nd<|zbT<|zag)<|zah (zdD Bj rfl (zcg<|zbf (zeX Z Y) hr<|zaa (zab 0)<|zaa (zab 1)<|zag) (sgn 3 nd)<|zao<|zdD Bj rfl (za9 rfl Z.b1<|cBE Z zaQ zcB<|zaa (zap (zaB hr) (zap (zaB hr) (zab 0)<|zad)<|zad)<|zag) (sgn 4 nd)<|zao<|zfb (zbK zmF (zbf (zem Z Y) hr<|JA.out<|zaj (zab 0)<|zaj (zab 1)<|zaj (zab 3)<|zaj (zab 4)<|zb4) (zap (zaB hr) (zap (zaB hr) (zab 0)<|zad)<|zad) rfl) (zao<|JS.mk<|zdl<|zbN (zab 2)<|zaa (zam zau (zab 3)<|zaA<|zaa (zab 4)<|zag)<|zag)<|zbu)<|zao<|JS.mk<|zaP<|zab 2)
theorem zfp:zcC P w K mg base 5 "_law_walk" 3 zb7 :=
 zaJ (k:=4) Z (top 43) 26 ["_law_pot","_law_bed_here","_law_most","_law_there","_law_row","_law_k","_law_some","_law_tile"] ["_law_pot","_law_bed_here","_law_most"] fun nd f cdv A outer s H E hr=>JSs.out (zah (JS.mk<|zn4 (i:=3) (j:=4) rfl nd rfl rfl (by decide) rfl rfl<|zaa (zbf (zcU Z Y) hr<|zaa (zap (zaB hr) (zab 1)<|zad)<|zag)<|zaa (zbT<|zag)<|zag)<|zah (zdD Bj rfl (za9 rfl Z.b1<|zab 2) (sgn 5 nd)<|zah (JS.mk<|sst 6 nd<|zbf (zf6 Z Y) hr<|zaa (zab 1)<|zaa (zab 3)<|zag)<|zao<|zfb (zbK (zke<|zbz hr) (zab 6) (zbT<|zag) rfl) (zah (JS.mk<|sst 7 nd<|zap (zaB hr) (zab 6)<|zbf (zak Z Y) hr<|zaa (zab 0)<|zaa (cBE Z zaQ zcB<|zaa (zab 6)<|zag)<|zag)<|zah (JS.mk<|zfX (zaB hr) (zab 3) (zcy (zab 7) zbD<|zbe<|zad)<|zap (zaB hr) (zab 7)<|zad)<|zao<|JS.mk<|zdl<|zbN (zab 4)<|zaa (zab 7)<|zag)<|zbu)<|zao<|JS.mk<|zaP<|cTE Z zbB zcm<|zaa (zab 4)<|zag)
theorem zeb:zcC P w K mg base 2 "_law_spoilt" 3 zb8 :=
 zaJ (k:=1) Z (top 44) 27 ["_law_pot","_law_bed_here","_law_row","_law_at","_law_other","_law_wide","_law_high","_law_x","_law_y","_law_kind_here","_law_far","_law_odd","_law_some"] ["_law_pot","_law_bed_here","_law_row"] fun nd f cdv A outer s H E hr=>JSs.out (zah (JS.mk<|zfY (zaA<|zaa (zbf (zak Z Y) hr<|zaa (zab 0)<|zaa (zam zau (cBE Z zaQ zcB<|zaa (zab 2)<|zag)<|zad)<|zag)<|zaa (zbf (zak Z Y) hr<|zaa (zab 0)<|zaa (zam zau (cBE Z zaQ zcB<|zaa (zab 2)<|zag)<|zad)<|zag)<|zag)<|zc8 rfl<|zaw (sgn 3 nd)<|zaw (sgn 4 nd)<|zbX)<|zah (JS.mk<|zfY (zap (zaB hr) (zab 1)<|zad)<|zc8 rfl<|zaw (sgn 5 nd)<|zaw (sgn 6 nd)<|zbX)<|zah (JS.mk<|zfY (zap (zaB hr) (zam zcc (zab 2)<|zaA<|zaa (zaA<|zaa zad<|zaa zad<|zaa zad<|zag)<|zag)<|zab 3)<|zc8 rfl<|zaw (sgn 7 nd)<|zaw (sgn 8 nd)<|zaw (sgn 9 nd)<|zbX)<|zah (JS.mk<|sst 10 nd<|zam zau (zam zdU zad<|zad)<|zbf (zak Z Y) hr<|zaa (zab 0)<|zaa zad<|zag)<|zah (JS.mk<|sst 11 nd<|zbT<|JA.out<|zaj (zaA<|zaa (zab 7)<|zaa (zab 8)<|zaa (zam zbY (zam zau (zab 9)<|zad)<|cBE Z zaQ zcB<|zaa (zap (zaB hr) (zap (zaB hr) (zab 1)<|zad)<|zad)<|zag)<|zag)<|zaj (zaA<|zaa (zam zau (zab 7)<|zad)<|zaa (zab 8)<|zaa (zab 9)<|zag)<|zaj (zaA<|zaa (zab 5)<|zaa (zab 8)<|zaa (zab 9)<|zag)<|zaj (zaA<|zaa (zab 7)<|zaa (zab 6)<|zaa (zab 9)<|zag)<|zaj (zaA<|zaa (zh3<|zad)<|zaa (zab 8)<|zaa (zab 9)<|zag)<|zb4)<|zah (JS.mk<|sst 11 nd<|zam zau (zab 11)<|zbT<|JA.out<|zaj (zaA<|zaa (zab 7)<|zaa (zh3<|zad)<|zaa (zab 9)<|zag)<|zaj (zaA<|zaa (zab 7)<|zaa (zab 8)<|zaa (cBE Z zaQ zcB<|zaa (zap (zaB hr) (zap (zaB hr) (zab 1)<|zad)<|zad)<|zag)<|zag)<|zaj (zaA<|zaa (zab 7)<|zaa (zab 8)<|zaa (zh3<|zad)<|zag)<|zaj (zaA<|zaa (zab 10)<|zaa (zab 8)<|zaa (zab 9)<|zag)<|zaj (zaA<|zaa (zab 7)<|zaa (zab 8)<|zaa (zam zdo zad<|zab 10)<|zag)<|zb4)<|zah (JS.mk<|sst 12 nd<|zbT<|JA.out<|zaj (zam zcc (zam zcc (zba (zab 2) zbD<|zbe<|zab 3)<|zba (zab 2) (zbe<|zab 4)<|zbe<|zam zau (zab 4)<|zad)<|zba (zab 2) (zbe<|zab 3)<|zbD)<|zaj (zam zcc (zba (zab 2) zbD<|zbe<|zab 3)<|zba (zab 2) (zbe<|zam zau (zab 3)<|zad)<|zbD)<|zaj (zk5 (zab 2)<|zh3<|zad)<|zaj (zam zcc (zab 2)<|zba (zab 2) (zbe<|zab 3)<|zbe<|zam zau (zab 3)<|zad)<|zb4)<|zah (JS.mk<|zdl<|zbN (zab 12)<|zaa (zam zcc (zam zcc (zba (zab 2) zbD<|zbe<|zab 3)<|zba (zab 2) (zbe<|zam zau (zab 3)<|zad)<|zbD)<|zba (zab 2) (zbe<|zab 3)<|zbe<|zam zau (zab 3)<|zad)<|zag)<|zah (JS.mk<|sst 12 nd<|zam zau (zam zau (zab 12)<|zch rfl rfl (zbn (N':=["_law_one","_law_row","_law_at"]) (nt:=1) (fr:=[2,3]) ["_law_row","_law_at"] rfl (by decide +kernel) (by decide +kernel) (by decide +kernel) rfl ⟨⟨rfl,by decide⟩,⟨⟨rfl,by decide⟩,trivial⟩⟩ ⟨by first | exact Bg rfl | exact Ba rfl,⟨by first | exact Bg rfl | exact Ba rfl,trivial⟩⟩) (zcg<|zab 11) (fun C s0 H0 fp=>sgn 0 zrW) (fun C s0 H0 fp=>zdz) fun C s0 H0 fp=>zam zcc (zam zcc (zba (zab 1) zbD<|zbe<|zab 2)<|zaA<|zaa (zab 0)<|zag) (zba (zab 1) (zbe<|zam zau (zab 2)<|zad)<|zbD))<|zch rfl rfl (zbn (N':=["_law_one","_law_row","_law_at"]) (nt:=1) (fr:=[2,3]) ["_law_row","_law_at"] rfl (by decide +kernel) (by decide +kernel) (by decide +kernel) rfl ⟨⟨rfl,by decide⟩,⟨⟨rfl,by decide⟩,trivial⟩⟩ ⟨by first | exact Bg rfl | exact Ba rfl,⟨by first | exact Bg rfl | exact Ba rfl,trivial⟩⟩) (zcg<|zab 11) (fun C s0 H0 fp=>sgn 0 zrW) (fun C s0 H0 fp=>zdz) fun C s0 H0 fp=>zam zcc (zam zcc (zba (zab 1) zbD<|zbe<|zab 2)<|zaA<|zaa (zab 0)<|zag) (zba (zab 1) (zbe<|zab 2)<|zbD))<|zao<|JS.mk<|zaP<|zap (zaB hr) (zab 12)<|zbf (zak Z Y) hr<|zaa (zab 0)<|zaa (cBE Z zaQ zcB<|zaa (zab 12)<|zag)<|zag)
theorem zda:zcC P w K mg base 4 "_law_first_bad" 2 za2 :=
 zaJ (k:=3) Z (top 45) 28 ["_law_bed_here","_law_row","_law_there","_law_number","_law_x","_law_y","_law_kind_here"] ["_law_bed_here","_law_row"] fun nd f cdv A outer s H E hr=>JSs.out (zah (JS.mk<|sst 2 nd<|zbf (zcU Z Y) hr<|zaa (zap (zaB hr) (zab 0)<|zad)<|zag)<|zah (zdD Bj rfl (zh0 rfl Z.b1<|zab 1) (zc8 rfl<|zaw (sgn 3 nd)<|zaw (zc8 rfl<|zaw (sgn 4 nd)<|zaw (sgn 5 nd)<|zaw (sgn 6 nd)<|zbX)<|zbX)<|zah (zfb (SW.sb<|znE (zfk<|zeL zhl zhk zad (zab 4)<|zap (zaB hr) (zap (zaB hr) (zab 0)<|zad)<|zad)<|znE (zfk<|zeL zhl zhk zad (zab 5)<|zap (zaB hr) (zap (zaB hr) (zab 0)<|zad)<|zad)<|znE (zjZ (zbz hr) (zaA<|zaa (zab 4)<|zaa (zab 5)<|zag)<|zab 2)<|zjH<|zfk<|zeL zhl zhk zad (zab 6)<|cBE Z zaQ zcB<|zaa (zap (zaB hr) (zap (zaB hr) (zab 0)<|zad)<|zad)<|zag) (zao<|JS.mk<|zaP<|zaA<|zaa (zab 3)<|zaa (zab 2)<|zag)<|zbu)<|zah (zfb (zbK zhk (zbf (zem Z Y) hr<|JA.out<|zaj (zab 0)<|zaj (zab 2)<|zaj (zaA<|zaa (zab 4)<|zaa (zab 5)<|zag)<|zaj (zab 6)<|zb4) (zap (zaB hr) (zap (zaB hr) (zab 0)<|zad)<|zad) rfl) (zao<|JS.mk<|zaP<|zaA<|zaa (zab 3)<|zaa (zab 2)<|zag)<|zbu)<|zao<|JS.mk<|zfX (zaB hr) (zab 2) (zaA<|zaa (zab 4)<|zaa (zab 5)<|zag)<|zab 6)<|zao<|JS.mk<|zaP<|zaA<|zaa zh2<|zaa (zab 2)<|zag)
theorem zdp:zcC P w K mg base 5 "_law_told" 2 zbk :=
 zaJ (k:=4) Z (top 46) 29 ["_law_bed_here","_law_row","_law_told_here","error","_law_other"] ["_law_bed_here","_law_row"] fun nd f cdv A outer s H E hr=>JSs.out (zah (JS.mk<|sst 2 nd<|zh2)<|zah (JS.mk<|etA Y 1 2 3 (ziv Z Y) (hr.mono<|by decide) (zaa (zab 0)<|zaa (zab 1)<|zag) (ze3.cons<|ze3.cons ze3.nil) nd fun x W=>JSs.out (zah (JS.mk<|sst 4 nd<|eis Y Z.b1<|zaa (zab 3)<|zaa (zaA<|JA.out<|zaj (efn Y 5)<|zaj (efn Y 11)<|zaj (efn Y 3)<|zaj (efn Y 2)<|zaj (efn Y 10)<|zb4)<|zag)<|zah (JS.mk<|sst 4 nd<|zsu (zab 4)<|zqo<|eis Y Z.b1<|zaa (zab 3)<|zaa (zaA<|JA.out<|zaj (efn Y 6)<|zaj (efn Y 7)<|zaj (efn Y 8)<|zaj (efn Y 4)<|zaj (efn Y 9)<|zb4)<|zag)<|zao<|zfb (SW.sb<|zhc (zme<|eis Y Z.b1<|zaa (zab 3)<|zaa (efn Y 1)<|zag)<|zhc (zme<|eit Y Z.b1 Z.b1<|zab 3)<|zgs<|zfk<|zme<|zab 4) (zao<|JS.mk<|sst 2 nd<|zaA<|zaa zcT<|zaa (eat Y 1<|zab 3)<|zag)<|zbu))<|zao<|JS.mk<|zaP<|zab 2)
theorem zrr{f:Addr}{fd:FuncData}(F:Fun K "law" "law" (top 47) f fd):FnOk P w K mg base CX0 6 f fd ["_law_script"] (spM K 1 zrO) :=
 zs2 (k:=5) F ["_law_script","_law_k","_law_pot","_law_bed_here","_law_row","_law_turn","_law_spoilt_here","_law_number","_law_there","_law_due"] ["_law_script"] fun nd cdv A outer s H E hr=>JSs.out (zah (zdD Bj rfl (za9 rfl Z.b1<|zam zau zad<|cBE Z (zkR rfl) zrC<|zaa zad<|zaa (cBE Z zaQ zcB<|zaa (zab 0)<|zag)<|zag) (sgn 1 nd)<|zah (JS.mk<|sst 2 nd<|zbf (zeY Z Y) hr<|zaa (zab 0)<|zaa (zab 1)<|zag)<|zah (JS.mk<|sst 3 nd<|zbf (zf7 Z Y) hr<|zaa (zab 2)<|zag)<|zah (JS.mk<|sst 4 nd<|zbf (zfp Z Y) hr<|zaa (zab 2)<|zaa (zab 3)<|zaa zad<|zag)<|zao<|zdD Bj rfl (za9 rfl Z.b1<|zad) (sgn 5 nd)<|zah (JS.mk<|sst 6 nd<|zbf (zeb Z Y) hr<|zaa (zab 2)<|zaa (zab 3)<|zaa (zab 4)<|zag)<|zah (JS.mk<|zfY (zbf (zda Z Y) hr<|zaa (zab 3)<|zaa (zab 6)<|zag)<|zc8 rfl<|zaw (sgn 7 nd)<|zaw (sgn 8 nd)<|zbX)<|zah (JS.mk<|sst 9 nd<|zoi (zbK zlh (zab 7) zh2 rfl) (zaA<|zaa zcT<|zaa (zbf (zcL Z Y) hr<|zaa (zab 8)<|zag)<|zag)<|zaA<|zaa zcT<|zaa (zab 7)<|zag)<|zah (zfb (SW.sb<|znE (zbK zmD (cBE Z (zbZ hr.gd<|zeh hr) zey<|zaa (zbf (zdp Z Y) hr<|zaa (zab 3)<|zaa (zab 6)<|zag)<|zag) (cBE Z (zbZ hr.gd<|zeh hr) zey<|zaa (zab 9)<|zag) rfl)<|zjH<|zbK zmD (cBE Z (zbZ hr.gd<|zeh hr) zey<|zaa (zbf (zkh Z Y) hr<|zaa (zab 3)<|zaa (zab 6)<|zag)<|zag) (cBE Z (zbZ hr.gd<|zeh hr) zey<|zaa (zjU zlh (zab 7) zh2 rfl)<|zag) rfl) (zao<|JS.mk<|zaP<|zmb)<|zbu)<|zao<|zfb (zbK zmD (cBE Z (zbZ hr.gd<|zeh hr) zey<|zaa (zbf (zdp Z Y) hr<|zaa (zab 3)<|zaa (zab 6)<|zag)<|zag) (cBE Z (zbZ hr.gd<|zeh hr) zey<|zaa (zab 9)<|zag) rfl) (zao<|JS.mk<|zaP<|zmb)<|zbu)<|zao<|JS.mk<|zaP<|zmb)
end
end L2.MP.T0
namespace L2.MP.T0
open PySem L2.MP L2.MP.Hd
open L2.MP.Hn (zaH)
def zmH{x y:Int}{d:Nat}{kvs:List (List Key×D)}{st:Sto}(h:st[d]?=some (.dt kvs)):ziw (.tup [.int x,.int y]) (.ref d) st=some (.bl (!(valD kvs [.inl x,.inl y]).isSome),st):=by
 have e0:toP 50 st (.ref d)=none:=by rw[toP];simp[zbs,h]
 have e1:inD true (.tup [.int x,.int y]) (.ref d) st=none:=by
   unfold inD;rw[e0]
   cases toP 50 st (.tup [.int x,.int y]) <;> rfl
 unfold ziw orG zmI orG;rw[e1,ze9];simp[dinD,look,h,keysOf,keyOf,zfa]
def tD(t:Tl):D:=tupD<|rowT t
def sth(stk:List (Str×Int))(ks:List (List Str))(P:List Tl)(x y:Int)(k:Nat):Int:=((togs (sds ks (k:Int))<|names4 ks P x y).map fun p=>sv stk p.1).sum
def gK(e:Int)(stk:List (Str×Int))(ks:List (List Str))(P:List Tl)(x y:Int)(n:Nat):List Tl:=((AC n).filter fun k=>decide (e<=sth stk ks P x y k)).map fun (k:Nat)=>(x,y,(k:Int))
def zlx(e:Int)(stk:List (Str×Int))(ks:List (List Str))(P:List Tl)(x y:Int)(n:Nat):gK e stk ks P x y (n+1)=if e<=sth stk ks P x y n then gK e stk ks P x y n++[(x,y,(n:Int))] else gK e stk ks P x y n:=by
 unfold gK;rw[Dq,DG,Bi]
 by_cases h:e<=sth stk ks P x y n
 . rw[if_pos h];simp[h]
 rw[if_neg h];simp[h]
def znb(e:Int)(stk:List (Str×Int))(ks:List (List Str))(P:List Tl)(x y:Int)(n:Nat):(gK e stk ks P x y n).length<=n:=by unfold gK;rw[Af];exact Aw (BI _ _)<|by simp
structure Ctx(bed:D)(e:Int)(stk:List (Str×Int))(ks:List (List Str))(w h:Int):Prop where
 at_:∃ hs:D,(∀ s:Sto,ixA bed (.int 0) s=some (hs,s))/\(∀ s:Sto,ixA hs (.int 0) s=some (.int e,s))/\(∀ s:Sto,ixA hs (.int 1) s=some (.tup (stk.map zbC),s))/\∀ s:Sto,ixA hs (.int 2) s=some (.tup (ks.map zbx),s)
 fl:∀ s:Sto,ixA bed (.int 1) s=some (.tup [.int w,.int h],s)
 hs:HsOk e stk ks
 fo:FlOk w h
variable {e w h:Int}
def Ctx.bed{bed:D}{e w h:Int}{stk:List (Str×Int)}{ks:List (List Str)}(c:Ctx bed e stk ks w h):BedAt bed stk ks:=let ⟨hs,i0,_,i1,i2⟩:=c.at_;⟨hs,i0,i1,i2⟩
def Ctx.ks{bed:D}{e w h:Int}{stk:List (Str×Int)}{ks:List (List Str)}(c:Ctx bed e stk ks w h):KsOk (stk.map (·.1)) ks:=⟨by have:=c.hs.hi;omega,c.hs.kd⟩
def Ctx.stk{bed:D}{e w h:Int}{stk:List (Str×Int)}{ks:List (List Str)}(c:Ctx bed e stk ks w h):∀ p∈stk,1<=p.2/\p.2<=4:=fun p hp=>(c.hs.nm p hp).2
end L2.MP.T0
namespace L2.MP.T0
open PySem L2.MP L2.MP.Hd
def nb(x y:Int):Nat->Int×Int
 | 0=>(x,y+1)
 | 1=>(x+1,y)
 | 2=>(x,y - 1)
 | _=>(x - 1,y)
def pres(P:List Tl)(x y:Int)(j:Nat):Bool:=(fnd P (nb x y j).1 (nb x y j).2).isSome
def okB(P:List Tl)(x y:Int):Bool:=!(fnd P x y).isSome&&!((AC 4).filter<|pres P x y).isEmpty
section
variable (P:List Tl)
def eC(x:Int)(m:Nat):List (Int×Int):=((AC m).filter fun (j:Nat)=>okB P x (j:Int)).map fun (j:Nat)=>(x,(j:Int))
def eF(h:Int)(n:Nat):List (Int×Int):=((AC n).map fun (i:Nat)=>eC P (i:Int) h.toNat).flatten
def zpr(x:Int)(m:Nat):eC P x (m+1)=if okB P x (m:Int)=true then eC P x m++[(x,(m:Int))] else eC P x m:=by
 unfold eC;rw[Dq,DG,Bi]
 by_cases h:okB P x (m:Int)=true
 . rw[if_pos h];simp[h]
 rw[if_neg h];simp[h]
def zly(h:Int)(n:Nat):eF P h (n+1)=eF P h n++eC P (n:Int) h.toNat:=by unfold eF;rw[Dq,Bi,Fe];simp
def zps(x:Int)(m:Nat):(eC P x m).length<=m:=by unfold eC;rw[Af];exact Aw (BI _ _)<|by simp
def zkI(h:Int):∀ n:Nat,(eF P h n).length<=n*h.toNat
 | 0=>by simp[eF]
 | n+1=>by have h1:=zkI h n;have h2:=zps P (n:Int) h.toNat;rw[zly,AU,FL];omega
end
def mays(e:Int)(stk:List (Str×Int))(ks:List (List Str))(P:List Tl)(ps:List (Int×Int)):List Tl:=(ps.map fun p=>gK e stk ks P p.1 p.2 ks.length).flatten
def zmP(e:Int)(stk:List (Str×Int))(ks:List (List Str))(P:List Tl)(a b:List (Int×Int)):mays e stk ks P (a++b)=mays e stk ks P a++mays e stk ks P b:=by unfold mays;rw[Bi,Fe]
variable {l:Nat}{st:Sto}
def ne_nil{m:Nat}{js:List Nat}(hl:st[l]?=some (.lst<|js.map fun (i:Nat)=>D.int (i:Int)))(hm:st[m]?=some (.lst [])):neD (.ref l) (.ref m) st=some (.bl !js.isEmpty,st):=by
 have e:(js.map fun (i:Nat)=>D.int (i:Int))=(js.map fun (i:Nat)=>(i:Int)).map D.int:=by rw[A3];rfl
 rw[e] at hl;unfold neD;rw[zdM (n:=98) hl,zdM (n:=98) (as:=[]) hm]
 cases js <;> rfl
variable {x y:Int}{d:Nat}{s s1:Sto}
def zoV{J a b:Int}{q:Bool}(e1:zaY [.tup [.int x,.int y],.int J] s=some (.tup [.int a,.int b],s1))(e2:inA (.tup [.int a,.int b]) (.ref d) s1=some (.bl q,s1)):zaN [some (.int J),some (.int x),some (.int y),some (.ref d)] s=some (q,s1):=by unfold zaN;simp[e1,e2]
variable {P:List Tl}
def zoW(hd:st[d]?=some (.dt<|P.map kvOf)):∃ st',mCI ⟨run 0 4,[]⟩ (gNm 0) zaN zbj (run 0 4) [none,some (.int x),some (.int y),some (.ref d)] st=some (((AC 4).filter<|pres P x y).map fun (i:Nat)=>D.int (i:Int),st')/\Gr st st':=by
 have key:=znq (W:=⟨run 0 4,[]⟩) (g:=gNm 0) (c:=zaN) (m:=zbj) (ds:=run 0 4) (acc:=[]) (st:=st) (ρ:=[none,some (.int x),some (.int y),some (.ref d)])
   (Inv:=fun k a ρ s=>Y3 ((∃ u,ρ=[u,some (.int x),some (.int y),some (.ref d)])) (a=fl (pres P x y) k) (Gr st s))
   ⟨⟨_,rfl⟩,rfl,Gr.refl _⟩ (fun _ _ _ _ _ _=>rfl) (fun k dd a ρ s hdd hI=>by
     obtain⟨⟨u,rfl⟩,rfl,hg⟩:=hI;obtain⟨hk,rfl⟩:=zdP hdd;have hp:[D.tup [.int x,.int (y+1)],.tup [.int (x+1),.int y],.tup [.int x,.int (y - 1)],.tup [.int (x - 1),.int y]][((k:Nat):Int).toNat]?=some (.tup [.int (nb x y k).1,.int (nb x y k).2]):=by
       rw[Bu]
       match k,hk with
       | 0,_=>rfl
       | 1,_=>rfl
       | 2,_=>rfl
       | 3,_=>rfl
     obtain⟨s1,e1,g1⟩:=zk1 (s:=s) (J:=(k:Int)) (by omega) hp;have hg1:=hg.trans g1;have ein:=zpf (x:=(nb x y k).1) (y:=(nb x y k).2)<|(hg1.old _<|getElem?_lt hd).trans hd;rw[zdk,Cn] at ein;have rd:=zoV e1 ein
     cases hq:(fnd P (nb x y k).1 (nb x y k).2).isSome with
     | true =>
       rw[hq] at rd;refine⟨[some (.int (k:Int)),some (.int x),some (.int y),some (.ref d)],s,true,s1,rfl,rd,.inl ⟨rfl,.int (k:Int),s1,rfl,⟨_,rfl⟩,?_,hg1⟩⟩;rw[zer,if_pos (show pres P x y k=true from hq)]
     | false =>
       rw[hq] at rd;refine⟨[some (.int (k:Int)),some (.int x),some (.int y),some (.ref d)],s,false,s1,rfl,rd,.inr ⟨rfl,⟨_,rfl⟩,?_,hg1⟩⟩;rw[zer,if_neg (show ¬ pres P x y k=true by unfold pres;rw[hq];decide)])
 obtain⟨xs,ρ',s',ec,_,hx,hg⟩:=key;rw[CI] at hx;subst hx;exact⟨s',ec,hg⟩
variable {bed:D}{a5:Option D}{L:List D}{s2:Sto}
def zpx{lb:Nat}{q1 q2:Bool}(ec:zcf (mR1<|mK<|.int 4) 1 [3,4,1] (gNm 0) zaN zbj [some bed,some (.ref d),some (.ref l),some (.int x),some (.int y),a5] s=some (.ref lb,s1))(e1:ziw (.tup [.int x,.int y]) (.ref d) s1=some (.bl q1,s1))(hs2:s1++[.lst []]=s2)(e2:neD (.ref lb) (.ref s1.length) s2=some (.bl q2,s2))(hl:s2[l]?=some (.lst L))(ea:zb0 (.ref l) [.tup [.int x,.int y]] s2=some (.non,s2.set l (.lst<|L++[.tup [.int x,.int y]]))) :
   zbg [some bed,some (.ref d),some (.ref l),some (.int x),some (.int y),a5] s=some (.nx [some bed,some (.ref d),some (.ref l),some (.int x),some (.int y),some (.ref lb)],if q1=true then (if q2=true then s2.set l (.lst<|L++[.tup [.int x,.int y]]) else s2) else s1):=by
 unfold zbg;refine zal (ρ1:=[some bed,some (.ref d),some (.ref l),some (.int x),some (.int y),some (.ref lb)]) (s1:=s1) (by rw[zfM,ec];rfl) ?_
 cases q1 with
 | false=>simp[e1]
 | true =>
   cases q2 with
   | false=>simp[e1,hs2,e2]
   | true=>simp[e1,hs2,e2,zbs,hl,ea]
variable {st0:Sto}
def zpy{L:List (Int×Int)}(hd:s[d]?=some (.dt<|P.map kvOf))(hl:s[l]?=some (.lst<|L.map plD))(hL:L.length<=9000)(h0:st0.length<=l)(hdl:d≠l)(g0:Gr st0 s) :
   ∃ (b5:Option D) (s':Sto),Y4 (zbg [some bed,some (.ref d),some (.ref l),some (.int x),some (.int y),a5] s=some (.nx [some bed,some (.ref d),some (.ref l),some (.int x),some (.int y),b5],s')) (s'[l]?=some (.lst<|(if okB P x y=true then L++[(x,y)] else L).map plD)) (s'[d]?=s[d]?) (Gr st0 s'):=by
 obtain⟨s1,e1,g1⟩:=zoW (x:=x) (y:=y) hd;have hle:((AC 4).filter<|pres P x y).length<=4:=by have:=BI (pres P x y)<|AC 4;rw[Cp] at this;exact this
 have fl':fits (((AC 4).filter<|pres P x y).map fun (i:Nat)=>D.int (i:Int)).length=true:=zax (by rw[Af];omega);have a2:=zaG s1<|.lst<|((AC 4).filter<|pres P x y).map fun (i:Nat)=>D.int (i:Int);have g2:=g1.trans<|Gr.app s1 [.lst (((AC 4).filter<|pres P x y).map fun (i:Nat)=>D.int (i:Int))];have ec:zcf (mR1<|mK<|.int 4) 1 [3,4,1] (gNm 0) zaN zbj [some bed,some (.ref d),some (.ref l),some (.int x),some (.int y),a5] s=some (.ref s1.length,s1++[.lst (((AC 4).filter<|pres P x y).map fun (i:Nat)=>D.int (i:Int))]):=by rw[zaS,zif (k:=4) rfl (by decide)];simp only[Ad];rw[show rho0 [some bed,some (.ref d),some (.ref l),some (.int x),some (.int y),a5] 1 [3,4,1]=[none,some (.int x),some (.int y),some (.ref d)] from rfl,e1];simp only[Ad,fl',if_true]
 generalize s1++[O.lst (((AC 4).filter<|pres P x y).map fun (i:Nat)=>D.int (i:Int))]=s2 at *;have hin:=zmH (x:=x) (y:=y)<|(g2.old _<|getElem?_lt hd).trans hd;rw[zdk,Cn] at hin;have a3:(s2++[O.lst []])[s1.length]?=some (.lst<|((AC 4).filter<|pres P x y).map fun (i:Nat)=>D.int (i:Int)):=by rw[Ao (getElem?_lt a2)];exact a2
 have en:=ne_nil a3<|zaG s2<|.lst [];have g3:=g2.trans<|Gr.app s2 [.lst []];have hl2:=(g2.old _<|getElem?_lt hl).trans hl;have hl3:=(g3.old _<|getElem?_lt hl).trans hl;have hd2:=g2.old _<|getElem?_lt hd;have hd3:=g3.old _<|getElem?_lt hd;have ea:=append_at (x:=.tup [.int x,.int y]) hl3 (by rw[Af];omega);have rd:=zpx ec hin rfl en hl3 ea;generalize s2++[O.lst []]=s3 at *;refine⟨_,_,rd,?_,?_,?_⟩
 . unfold okB
   cases (fnd P x y).isSome with
   | true=>simpa using hl2
   | false =>
     cases ((AC 4).filter<|pres P x y).isEmpty with
     | true=>simpa using hl3
     | false =>
       simp only[EJ,if_true,Gq];rw[AH (getElem?_lt hl3),Bi];rfl
 . cases (fnd P x y).isSome with
   | true=>simpa using hd2
   | false =>
     cases ((AC 4).filter<|pres P x y).isEmpty with
     | true=>simpa using hd3
     | false =>
       simp only[EJ,if_true];rw[Ax (AZ hdl)];exact hd3
 . cases (fnd P x y).isSome with
   | true=>simpa using g0.trans g2
   | false =>
     cases ((AC 4).filter<|pres P x y).isEmpty with
     | true=>simpa using g0.trans g3
     | false =>
       simp only[EJ,if_true];have g:=g0.trans g3;exact⟨by rw[Bx];exact g.len,fun j hj=>by rw[Ax (by omega)];exact g.old j hj⟩
variable {e w h:Int}{stk:List (Str×Int)}{ks:List (List Str)}
def ze6(c:Ctx bed e stk ks w h)(hd:st[d]?=some (.dt<|P.map kvOf)) :
   ∃ st',Y3 (zbQ [bed,.ref d] st=some (.ref st.length,st')) (st'[st.length]?=some (.lst<|(eF P h w.toNat).map plD)) (Gr st st'):=by
 have f1:=c.fo.w0;have f2:=c.fo.w1;have f3:=c.fo.h0;have f4:=c.fo.h1;have hdl:=getElem?_lt hd;have h12:h.toNat<=12:=by omega
 have bound:∀ n m:Nat,n<=12->m<=h.toNat->(eF P h n++eC P (n:Int) m).length<=9000:=fun n m hn hm=>by have b1:=zkI P h n;have b2:=zps P (n:Int) m;have b3:n*h.toNat<=12*12:=EK hn h12;rw[AU];omega
 have hd1:(st++[O.lst []])[d]?=some (.dt<|P.map kvOf):=by rw[Ao hdl];exact hd
 have key:=zcd (W:=⟨run 0 w.toNat,[]⟩) (g:=gNm 3) (m:=zbW) (ds:=run 0 w.toNat) (ρ:=[some bed,some (.ref d),some (.ref st.length),none,none,none]) (st:=st++[.lst []])
   (Inv:=fun k ρ s=>Y4 ((∃ a b cc,ρ=[some bed,some (.ref d),some (.ref st.length),a,b,cc])) (s[st.length]?=some (.lst<|(eF P h k).map plD)) (s[d]?=some (.dt<|P.map kvOf)) (Gr st s))
   ⟨⟨_,_,_,rfl⟩,zaG _ _,hd1,Gr.app _ _⟩ (fun _ _ _ _ _=>rfl) (fun k dd ρ s hdd hI=>by
     obtain⟨⟨u,v,q,rfl⟩,hat,hdt,hg⟩:=hI;obtain⟨hk,rfl⟩:=zdP hdd;have key2:=zcd (W:=⟨run 0 h.toNat,[]⟩) (g:=gNm 4) (m:=zbg) (ds:=run 0 h.toNat) (ρ:=[some bed,some (.ref d),some (.ref st.length),some (.int (k:Int)),v,q]) (st:=s)
       (Inv:=fun j ρ s=>Y4 ((∃ b cc,ρ=[some bed,some (.ref d),some (.ref st.length),some (.int (k:Int)),b,cc])) (s[st.length]?=some (.lst<|(eF P h k++eC P (k:Int) j).map plD)) (s[d]?=some (.dt<|P.map kvOf)) (Gr st s))
       ⟨⟨_,_,rfl⟩,by simpa[eC] using hat,hdt,hg⟩ (fun _ _ _ _ _=>rfl) (fun j dd ρ s hdd hI=>by
         obtain⟨⟨v,q,rfl⟩,hat,hdt,hg⟩:=hI;obtain⟨hj,rfl⟩:=zdP hdd;obtain⟨b5,s',e',hat',hdt',hg'⟩:=zpy (bed:=bed) (x:=(k:Int)) (y:=(j:Int)) (a5:=q) hdt hat (bound k j (by omega)<|by omega) (Ah _) (by omega) hg;refine⟨[some bed,some (.ref d),some (.ref st.length),some (.int (k:Int)),some (.int (j:Int)),q],s,_,s',rfl,e',⟨_,_,rfl⟩,?_,hdt'.trans hdt,hg'⟩;rw[hat',zpr]
         by_cases ho:okB P (k:Int) (j:Int)=true
         . rw[if_pos ho,if_pos ho,Ak]
         rw[if_neg ho,if_neg ho])
     obtain⟨ρ',s',el,⟨v',q',rfl⟩,hat',hdt',hg'⟩:=key2;rw[zcb] at hat';refine⟨[some bed,some (.ref d),some (.ref st.length),some (.int (k:Int)),v,q],s,[some bed,some (.ref d),some (.ref st.length),some (.int (k:Int)),v',q'],s',rfl,?_,⟨_,_,_,rfl⟩,by rw[zly];exact hat',hdt',hg'⟩;have sm:small h=true:=zcx (by omega) (by omega);have hfl:=c.fl s;have i1':ixA (.tup [.int w,.int h]) (.int 1) s=some (.int h,s):=zaR (by decide) rfl;unfold zbW;have:mR1 (mB ixA (mB ixA (mV 0)<|mK<|.int 1)<|mK<|.int 1) [some bed,some (.ref d),some (.ref st.length),some (.int (k:Int)),v,q] s=some (⟨run 0 h.toNat,[]⟩,s):=by generalize (k:Int)=kk;simp[hfl,i1',sm]
     rw[zcO,this];exact el)
 obtain⟨ρ',s',el,⟨u,v,q,rfl⟩,hat,hdt,hg⟩:=key;rw[zcb] at hat;refine⟨s',zbL ?_,hat,hg⟩;have sm:small w=true:=zcx (by omega) (by omega);have hfl:=c.fl (st++[.lst []]);have j0:ixA (.tup [.int w,.int h]) (.int 0) (st++[.lst []])=some (.int w,st++[.lst []]):=zaR (by decide) rfl;unfold zdx;refine zal (ρ1:=[some bed,some (.ref d),some (.ref st.length),none,none,none]) (s1:=st++[.lst []]) (by simp) ?_;refine zal (ρ1:=[some bed,some (.ref d),some (.ref st.length),u,v,q]) (s1:=s') (by
   have:mR1 (mB ixA (mB ixA (mV 0)<|mK<|.int 1)<|mK<|.int 0) [some bed,some (.ref d),some (.ref st.length),none,none,none] (st++[.lst []])=some (⟨run 0 w.toNat,[]⟩,st++[.lst []]):=by simp[hfl,j0,sm]
   rw[zcO,this];exact el) ?_
 simp
open L2.MP.Hn (zaH zaM srtT za6)
def zn0{k:Nat}(h:(sds ks (k:Int)).length=4):((alike (sds ks (k:Int))<|names4 ks P x y).map fun i=>sv stk ((sds ks (k:Int)).getD i "")).sum=sth stk ks P x y k:=by unfold sth;rw[zjI h rfl]
variable {hs pl:D}{K E:Int}
def zoZ{R:Int}{v:D}(e1:zbH [bed,.ref d,pl,.int K] s=some (.int R,s1))(i0:ixA bed (.int 0) s1=some (hs,s1))(ie:ixA hs (.int 0) s1=some (.int E,s1))(hR:E<=R)(hl:s1[l]?=some (.lst L))(ea:addD pl (.tup [.int K]) s1=some (v,s1))(eap:zb0 (.ref l) [v] s1=some (.non,s1.set l (.lst<|L++[v]))) :
   zbm [some bed,some (.ref d),some (.ref l),some pl,some (.int K)] s=some (.nx [some bed,some (.ref d),some (.ref l),some pl,some (.int K)],s1.set l (.lst<|L++[v])):=by
 unfold zbm;simp[e1,i0,ie,hR,zbs,hl,ea,eap]
def zmM{R:Int}(e1:zbH [bed,.ref d,pl,.int K] s=some (.int R,s1))(i0:ixA bed (.int 0) s1=some (hs,s1))(ie:ixA hs (.int 0) s1=some (.int E,s1))(hR:¬ E<=R) :
   zbm [some bed,some (.ref d),some (.ref l),some pl,some (.int K)] s=some (.nx [some bed,some (.ref d),some (.ref l),some pl,some (.int K)],s1):=by
 unfold zbm;simp[e1,i0,ie,hR]
def zdS{P:List Tl}{p:Int×Int}{a4:Option D}{L:List Tl}(c:Ctx bed e stk ks w h)(hP:∀ t∈P,0<=t.2.2/\t.2.2 < (ks.length:Int))(hd:s[d]?=some (.dt<|P.map kvOf))(hl:s[l]?=some (.lst<|L.map tD))(hL:L.length<=9000)(h0:st0.length<=l)(hdl:d≠l)(g0:Gr st0 s) :
   ∃ (b4:Option D) (s':Sto),Y3 (zbO [some bed,some (.ref d),some (.ref l),some (plD p),a4] s=some (.nx [some bed,some (.ref d),some (.ref l),some (plD p),b4],s')) (s'[l]?=some (.lst<|(L++gK e stk ks P p.1 p.2 ks.length).map tD)) (Fr l s s'):=by
 obtain⟨hs,i0,ie,i1,i2⟩:=c.at_;have k13:=c.hs.hi;have key:=zcd (W:=⟨run 0 ks.length,[]⟩) (g:=gNm 4) (m:=zbm) (ds:=run 0 ks.length) (ρ:=[some bed,some (.ref d),some (.ref l),some (plD p),a4]) (st:=s)
   (Inv:=fun k ρ s'=>Y3 ((∃ a,ρ=[some bed,some (.ref d),some (.ref l),some (plD p),a])) (s'[l]?=some (.lst<|(L++gK e stk ks P p.1 p.2 k).map tD)) (Fr l s s'))
   ⟨⟨_,rfl⟩,by simpa[gK] using hl,Fr.refl _ _⟩ (fun _ _ _ _ _=>rfl) (fun k dd ρ s' hdd hI=>by
     obtain⟨⟨u,rfl⟩,hat,hf⟩:=hI;obtain⟨hk,rfl⟩:=zdP hdd;have k1:((k:Nat):Int) < (ks.length:Int):=by omega
     obtain⟨f,b0,b1,b2,b3,ek,es,hok⟩:=zcE c.ks (k:=(k:Int)) (by omega) k1;have hd':=(hf.old _ (getElem?_lt hd) hdl).trans hd;obtain⟨s2,e2,g2⟩:=zgR (x:=p.1) (y:=p.2) c.bed c.ks c.stk (by have:=c.hs.sl;omega) hP (by omega) k1 hd';rw[zn0 (by rw[es];rfl)] at e2;have hat2:=(g2.old _<|getElem?_lt hat).trans hat;have hlen:=znb e stk ks P p.1 p.2 k
     by_cases hR:e<=sth stk ks P p.1 p.2 k
     . have ea:addD (.tup [.int p.1,.int p.2]) (.tup [.int (k:Int)]) s2=some (tD (p.1,p.2,(k:Int)),s2):=zg7 (by simp) (by simp);have eap:=append_at (x:=tD (p.1,p.2,(k:Int))) hat2 (by rw[Af,AU];omega);refine⟨_,s',_,_,rfl,zoZ e2 (i0 _) (ie _) hR hat2 ea eap,⟨_,rfl⟩,?_,(hf.trans<|g2.fr l).trans<|Fn _ _ _⟩;rw[AH (getElem?_lt hat2),zlx,if_pos hR];simp
     refine⟨_,s',_,_,rfl,zmM e2 (i0 _) (ie _) hR,⟨_,rfl⟩,?_,hf.trans<|g2.fr l⟩;rw[zlx,if_neg hR];exact hat2)
 obtain⟨ρ',s',el,⟨u,rfl⟩,hat,hf⟩:=key;rw[zcb] at hat;refine⟨u,s',?_,hat,hf⟩;have el':lenD [.tup (ks.map zbx)] s=some (.int (ks.length:Int),s):=by rw[zcD,Af]
 have hr:mR1 (zas lenD<|zac (mB ixA (mB ixA (mV 0)<|mK<|.int 0)<|mK<|.int 2)<|mZ) [some bed,some (.ref d),some (.ref l),some (plD p),a4] s=some (⟨run 0 ks.length,[]⟩,s):=by refine zif (k:=ks.length) ?_ (by omega);generalize (ks.length:Int)=K at *;simp[i0,i2,el']
 unfold zbO;rw[zcO,hr];exact el
def zq7{P:List Tl}(c:Ctx bed e stk ks w h)(hP:∀ t∈P,0<=t.2.2/\t.2.2 < (ks.length:Int))(hd:st[d]?=some (.dt<|P.map kvOf)) :
   ∃ st',Y3 (zb1 [bed,.ref d] st=some (.ref st.length,st')) (st'[st.length]?=some (.lst<|(mays e stk ks P<|eF P h w.toNat).map tD)) (Gr st st'):=by
 have f1:=c.fo.w0;have f2:=c.fo.w1;have f3:=c.fo.h0;have f4:=c.fo.h1;have k13:=c.hs.hi;have hdl:=getElem?_lt hd;have hd1:(st++[O.lst []])[d]?=some (.dt<|P.map kvOf):=by rw[Ao hdl];exact hd
 have a1:=zaG st<|.lst [];have g1:=Gr.app st [.lst []];have l1:(st++[O.lst []]).length=st.length+1:=by simp
 generalize hs1:st++[O.lst []]=s1 at *;obtain⟨s2,e2,a2,g2⟩:=ze6 c hd1;have a12:=(g2.old _<|getElem?_lt a1).trans a1;have hd2:=(g2.old _<|getElem?_lt hd1).trans hd1;have hlen:=zkI P h w.toNat;have h144:(eF P h w.toNat).length<=144:=Aw hlen<|EK (show w.toNat<=12 by omega) (show h.toNat<=12 by omega);generalize eF P h w.toNat=ps at *;have bound:∀ i:Nat,(mays e stk ks P<|ps.take i).length<=9000:=fun i=>by
   have:∀ qs:List (Int×Int),(mays e stk ks P qs).length<=qs.length*13:=by
     intro qs
     induction qs with
     | nil=>simp[mays]
     | cons q qs ih =>
       have h1:=znb e stk ks P q.1 q.2 ks.length;have h2:(mays e stk ks P (q::qs)).length=(gK e stk ks P q.1 q.2 ks.length).length+(mays e stk ks P qs).length:=by simp[mays]
       rw[h2,Az,FL];omega
   have h1:=this<|ps.take i;have h2:(ps.take i).length<=144:=by rw[Bp];omega
   omega
 have key:=zcd (W:=⟨ps.map plD,[(s1.length,ps.map plD)]⟩) (g:=gNm 3) (m:=zbO) (ds:=ps.map plD) (ρ:=[some bed,some (.ref d),some (.ref st.length),none,none]) (st:=s2)
   (Inv:=fun i ρ s=>Y3 ((∃ a b,ρ=[some bed,some (.ref d),some (.ref st.length),a,b])) (s[st.length]?=some (.lst<|(mays e stk ks P<|ps.take i).map tD)) (Fr st.length s2 s))
   ⟨⟨_,_,rfl⟩,a12,Fr.refl _ _⟩ (fun i ρ s _ hI=>zcR ((hI.h3.old _ (getElem?_lt a2)<|by omega).trans a2)) (fun i dd ρ s hdd hI=>by obtain⟨⟨u,v,rfl⟩,hat,hf⟩:=hI;rw[AB] at hdd;obtain⟨p,hp,rfl⟩:=zai hdd;obtain⟨b4,s',e',hat',hf'⟩:=zdS (st0:=[]) (p:=p) (a4:=v) c hP ((hf.old _ (getElem?_lt hd2)<|by omega).trans hd2) hat (bound i) (Bd _) (by omega) ⟨Bd _,fun j hj=>absurd hj (F5 _)⟩;refine⟨_,s,_,s',rfl,e',⟨_,_,rfl⟩,?_,hf.trans hf'⟩;rw[hat',Cq,hp,zmP];simp[mays])
 obtain⟨ρ',s',el,⟨u,v,rfl⟩,hat,hf⟩:=key;rw[Af,BQ] at hat;refine⟨s',zbL ?_,hat,?_⟩
 . generalize ps.map plD=PS at *;unfold zeB;refine zal (ρ1:=[some bed,some (.ref d),some (.ref st.length),none,none]) (s1:=s1) (by simp[hs1]) ?_;refine zal (ρ1:=[some bed,some (.ref d),some (.ref st.length),u,v]) (s1:=s') (by
     have ew:mWA (zas zbQ<|zac (mV 0)<|zac (mV 1)<|mZ) [some bed,some (.ref d),some (.ref st.length),none,none] s1=some (⟨PS,[(s1.length,PS)]⟩,s2):=by simp[e2,zjD,zbs,a2]
     rw[zcO,ew];exact el) ?_
   simp
 have g:=g1.trans g2;exact⟨Aw g.len hf.len,fun j hj=>(hf.old j (Av hj g.len)<|by omega).trans (g.old j hj)⟩
def zhC{lo hi:Int}(h1:lo<=x)(h2:x<=hi):zb2 [.int x,.int lo,.int hi] st=some (.bl true,st):=by
 refine zbL ?_;have t1:tyName st (.int x)=some "int":=rfl;have t2:subT "int" "int"=true:=by decide
 have t3:subT "int" "bool"=false:=by decide
 unfold zd9;simp[zbG,t1,t2,t3,h1,h2]
def zfU{ds:List D}{n:Nat}{N:Int}(h:ds.length=n)(hN:N=(n:Int)):zc0 [.tup ds,.int N] st=some (.bl true,st):=by
 have e:lenD [.tup ds] st=some (.int N,st):=by rw[zcD,h,hN]
 refine zbL ?_;have t1:tyName st (.tup ds)=some "tuple":=rfl;have t2:subT "tuple" "tuple"=true:=by decide
 unfold zfP;simp[t1,t2,e,eq_int]
def zmt(c:Ctx bed e stk ks w h)(x0:0<=x)(x1:x < w)(y0:0<=y)(y1:y < h):zbw [bed,.tup [.int x,.int y]] st=some (.bl true,st):=by have e1:=zfU (ds:=[.int x,.int y]) (n:=2) (N:=2) (st:=st) rfl rfl;have e2:=zhC (x:=x) (lo:=0) (hi:=w - 1) (st:=st) x0 (by omega);have e3:=zhC (x:=y) (lo:=0) (hi:=h - 1) (st:=st) y0 (by omega);have i0:ixA (.tup [.int x,.int y]) (.int 0) st=some (.int x,st):=zaR (by decide) rfl;have i1:ixA (.tup [.int x,.int y]) (.int 1) st=some (.int y,st):=zaR (by decide) rfl;have j0:ixA (.tup [.int w,.int h]) (.int 0) st=some (.int w,st):=zaR (by decide) rfl;have j1:ixA (.tup [.int w,.int h]) (.int 1) st=some (.int h,st):=zaR (by decide) rfl;have cf:=c.fl;refine zbL ?_;unfold zea;refine zal (ρ1:=[some bed,some (.tup [.int x,.int y]),some (.tup [.int w,.int h])]) (s1:=st) (by simp[cf]) ?_;simp[e1,e2,e3,i0,i1,j0,j1]
variable {sd:Nat}
def zpi{sl:D}{ln:Nat}{k R:Int}(hin:inA (.tup [.int x,.int y]) (.ref d) s=some (.bl false,s))(hp:zbw [bed,.tup [.int x,.int y]] s=some (.bl true,s))(e1:zbp [bed,.ref d,.tup [.int x,.int y]] s=some (.ref ln,s1))
   (e2:zbv [bed,.int k] s1=some (sl,s1)) (e3:zaK [.ref sd,sl,.ref ln] s1=some (.int R,s2)) (i0:ixA bed (.int 0) s2=some (hs,s2)) (ie:ixA hs (.int 0) s2=some (.int E,s2)) (hR:E<=R):zaZ [bed,.ref sd,.ref d,.tup [.int x,.int y,.int k]] s=some (.bl true,s2):=by
 have j2:ixA (.tup [.int x,.int y,.int k]) (.int 2) s1=some (.int k,s1):=zaR (by decide) rfl;have es:slB (.tup [.int x,.int y,.int k]) none (some 2) s=some (.tup [.int x,.int y],s):=rfl;refine zbL ?_;unfold zb9;refine zal (ρ1:=[some bed,some (.ref sd),some (.ref d),some (.tup [.int x,.int y,.int k]),some (.tup [.int x,.int y]),none]) (s1:=s) (by simp[es]) ?_;refine zal (ρ1:=[some bed,some (.ref sd),some (.ref d),some (.tup [.int x,.int y,.int k]),some (.tup [.int x,.int y]),none]) (s1:=s) (by simp[hin,hp]) ?_;refine zal (ρ1:=[some bed,some (.ref sd),some (.ref d),some (.tup [.int x,.int y,.int k]),some (.tup [.int x,.int y]),some (.ref ln)]) (s1:=s1) (by simp[e1]) ?_;simp[j2,e2,e3,i0,ie,hR]
def May(e:Int)(stk:List (Str×Int))(ks:List (List Str))(w h:Int)(P:List Tl)(t:Tl):Prop:=zbV w h ks.length t/\fnd P t.1 t.2.1=none/\e<=sth stk ks P t.1 t.2.1 t.2.2.toNat
variable {t:Tl}
def zpk{P:List Tl}{t:Tl}(c:Ctx bed e stk ks w h)(hP:∀ t∈P,0<=t.2.2/\t.2.2 < (ks.length:Int))(hd:st[d]?=some (.dt<|P.map kvOf))(hs:st[sd]?=some (.dk<|stD stk))(hm:May e stk ks w h P t) :
   ∃ st',zaZ [bed,.ref sd,.ref d,tD t] st=some (.bl true,st')/\Gr st st':=by
 obtain⟨x,y,k⟩:=t;obtain⟨⟨x0,x1,y0,y1,k0,k1⟩,hf,hR⟩:=hm;have hf:fnd P x y=none:=hf;have hR:e<=sth stk ks P x y k.toNat:=hR;have k0:0<=k:=k0;have k1:k < (ks.length:Int):=k1;obtain⟨hh,i0,ie,_,i2⟩:=c.at_;obtain⟨f,b0,b1,b2,b3,ek,es,hok⟩:=zcE c.ks (k:=k) k0 k1;obtain⟨s1,e1,a1,g1⟩:=zgW (x:=x) (y:=y) c.bed c.ks hP hd;have hs1:=(g1.old _<|getElem?_lt hs).trans hs;have oN:∀ z∈names4 ks P x y,Bb z=true:=fun z hz=>by
   have:NmOk z:=by
     simp only[names4,A7,AX,or_false] at hz
     rcases hz with rfl | rfl | rfl | rfl <;> exact nm_F c.ks hP _ _
   exact zgn this.ab
 obtain⟨s2,e2,g2⟩:=zc4 (S:=sds ks k) (N:=names4 ks P x y) c.stk (by rw[es];exact Ah _) (by rw[es];exact fun z hz=>hok z hz) oN hs1 a1;have hin:inA (.tup [.int x,.int y]) (.ref d) st=some (.bl false,st):=by rw[zpf hd,zdk,hf];rfl
 have hR':e<=((togs (sds ks k)<|names4 ks P x y).map fun p=>sv stk p.1).sum:=by unfold sth at hR;rw[Cz k0] at hR;exact hR
 exact⟨s2,zpi hin (zmt c x0 x1 y0 y1) e1 (zc7 c.bed c.ks k0 k1) e2 (i0 _) (ie _) hR',g1.trans g2⟩
def zmO(hf:FlOk w h)(ht:t∈mays e stk ks P (eF P h w.toNat)):May e stk ks w h P t:=by
 have f1:=hf.w0;have f3:=hf.h0;simp only[mays,eF,eC,gK,List.mem_flatten,Fs,Gd,Gi] at ht;obtain⟨l,⟨p,⟨m,⟨i,hi,rfl⟩,hp⟩,rfl⟩,ht⟩:=ht;simp only[Fs,Gd,Gi] at hp ht;obtain⟨j,⟨hj,hok⟩,rfl⟩:=hp;obtain⟨k,⟨hk,hs⟩,rfl⟩:=ht;have hn:fnd P (i:Int) (j:Int)=none:=by unfold okB at hok;rw[Am] at hok;simpa using hok.1
 refine⟨⟨?_,?_,?_,?_,?_,?_⟩,hn,by simpa using hs⟩
 . show (0:Int)<=(i:Int);omega
 . show (i:Int) < w;omega
 . show (0:Int)<=(j:Int);omega
 . show (j:Int) < h;omega
 . show (0:Int)<=(k:Int);omega
 show (k:Int) < (ks.length:Int);omega
def zlI(e:Int)(stk:List (Str×Int))(ks:List (List Str))(w h:Int):List Tl->List Tl->Prop
 | _,[]=>True
 | P,t::R=>May e stk ks w h P t/\zlI e stk ks w h (P++[t]) R
def zh9:∀ {R P:List Tl} {t:Tl},zlI e stk ks w h P R->May e stk ks w h (P++R) t->zlI e stk ks w h P (R++[t])
 | [],P,t,_,hm=>⟨by simpa using hm,trivial⟩
 | u::R,P,t,hr,hm=>⟨hr.1,zh9 hr.2<|by simpa using hm⟩
def zgy:∀ {R P:List Tl},zlI e stk ks w h P R->∀ t∈R,zbV w h ks.length t
 | u::R,P,hr,t,ht=>by
   rcases List.mem_cons.mp ht with rfl | ht
   . exact hr.1.1
   exact zgy hr.2 t ht
def zgj{P:List Tl}:fnd P x y=none ↔ ∀ t∈P,¬ (t.1=x/\t.2.1=y):=by unfold fnd;simp
def zeN(hn:fnd P t.1 t.2.1=none):putT P t=P++[t]:=by have h1:=zgj.mp hn;unfold putT;rw[if_neg];intro z;obtain⟨u,hu,z⟩:=List.any_eq_true.mp z;unfold zbr at z;rw[Am] at z;exact h1 u hu ⟨of_decide_eq_true z.1,of_decide_eq_true z.2⟩
def zoY(nd:PlNd (P++[t])):fnd P t.1 t.2.1=none:=by refine zgj.mpr fun u hu z=>?_;have:=(List.pairwise_append.mp nd).2.2 u hu t (by simp);unfold zbr at this;simp[z.1,z.2] at this
def zoS(nd:PlNd P)(hn:fnd P t.1 t.2.1=none):PlNd (P++[t]):=by refine List.pairwise_append.mpr ⟨nd,by simp,fun u hu v hv=>?_⟩;rw[List.mem_singleton.mp hv];have:=zgj.mp hn u hu;unfold zbr;simpa using this
def ziZ:∀ {ts acc:List Tl},PlNd (acc++ts)->ts.foldl putT acc=acc++ts
 | [],acc,_=>by simp
 | t::ts,acc,nd=>by
   have nd':PlNd ((acc++[t])++ts):=by simpa using nd
   have n1:PlNd (acc++[t]):=(List.pairwise_append.mp nd').1;rw[Ei,zeN (zoY n1),ziZ nd'];simp
def zjj{ts:List Tl}(nd:PlNd ts):byPl ts=ts:=by have:=ziZ (ts:=ts) (acc:=[]) (by simpa using nd);simpa[byPl] using this
def zoX{a b:List Tl}(h:a.Perm b)(nd:PlNd b):PlNd a:=by
 refine (List.Perm.pairwise_iff (fun {x y} z=>?_) h).mpr nd;unfold zbr at *;rw[Bool.and_eq_false_iff] at *
 rcases z with z | z
 . exact .inl<|by simpa using fun q=>(of_decide_eq_false z) q.symm
 exact .inr<|by simpa using fun q=>(of_decide_eq_false z) q.symm
end L2.MP.T0
namespace L2.MP.T0
open PySem L2.MP L2.MP.Hd
open L2.MP.Hn (zaH zaM srtT za6 zcw)
theorem zhV(ts:List Tl):zaH ts=.tup (ts.map tD):=rfl
variable {ts:List Tl}
def zjN(h:ts.length < 2):srtT ts=ts:=by
 have hp:=za6 ts
 match ts,h,hp with
 | [],_,hp=>exact hp.eq_nil
 | [t],_,hp=>exact List.perm_singleton.mp hp
variable {st:Sto}
def zhi(h64:ts.length < 64):zdm [.tup (ts.map tD)] st=some (.ref st.length,st++[.lst ((srtT ts).map tD)]):=by
 have e0:zca [.tup (ts.map tD)] st=none:=rfl;unfold zdm orN;rw[e0,ze9];unfold zeJ;dsimp only
 by_cases h:ts.length < 2
 . rw[if_pos (by simpa using h),zjN h]
 . rw[if_neg (by simp;omega)];have er:rowsOf (ts.map tD)=some (ts.map rowT):=by
     have:ts.map tD=(ts.map rowT).map tupD:=by rw[A3];rfl
     rw[this];exact zdQ fun r hr=>by obtain⟨t,_,rfl⟩:=List.mem_map.mp hr;simp[rowT]
   rw[er];simp only[Ad];rw[if_pos (by simp;omega),<-zcw,A3];rfl
variable {l:Nat}
def zfg(hl:st[l]?=some (.lst<|ts.map tD))(h64:ts.length < 64):zdm [.ref l] st=some (.ref st.length,st++[.lst ((srtT ts).map tD)]):=by unfold zdm orN;rw[zaM hl h64,zfa];rfl
variable {x y k:Int}{s:Sto}
def zj6{t:Nat}(hk:zkJ (.ref t) (.tup [.int x,.int y]) s=some (.int k,s)):zay [some (.tup [.int x,.int y]),some (.ref t)] s=some (.tup [.int x,.int y,.int k],s):=by have ea:addD (.tup [.int x,.int y]) (.tup [.int k]) s=some (.tup [.int x,.int y,.int k],s):=zg7 (by simp) (by simp);unfold zay;simp[hk,ea]
variable {P:List Tl}{d:Nat}
def zeH(hd:st[d]?=some (.dt<|P.map kvOf))(nd:PlNd P)(h64:P.length < 64):∃ st',zaL [.ref d] st=some (zaH (srtT P),st')/\Gr st st':=by
 have hlt:=getElem?_lt hd;have ewk:znD (.ref d) st=some (⟨zep<|P.map kvOf,[]⟩,st.set d (.ft<|P.map kvOf)):=by unfold znD;simp only[hd]
 have a3:(st.set d<|.ft<|P.map kvOf)[d]?=some (.ft<|P.map kvOf):=by simp[hlt]
 have back:(st.set d (.ft<|P.map kvOf)++[O.lst (P.map tD)]).set d (.dt<|P.map kvOf)=st++[.lst (P.map tD)]:=by
   rw[List.set_append_left _ _ (by simpa using hlt),List.set_set]
   congr 1
   apply List.ext_getElem?;intro i
   by_cases hi:i=d
   . subst hi;rw[AH hlt,hd]
   rw[Ax (fun z=>hi z.symm)]
 have a4:(st.set d (.ft<|P.map kvOf)++[O.lst (P.map tD)])[d]?=some (.ft<|P.map kvOf):=by rw[Ao (by simpa using hlt)];exact a3
 have ls:(st.set d<|.ft<|P.map kvOf).length=st.length:=by simp
 generalize hs3:st.set d (.ft<|P.map kvOf)=s3 at ewk a3 back a4 ls;have eit:zep (P.map kvOf)=P.map fun t=>D.tup [.int t.1,.int t.2.1]:=by unfold zep;rw[A3];rfl
 have ec:mCI ⟨zep<|P.map kvOf,[]⟩ (gNm 0) zbF zay (zep<|P.map kvOf) [none,some (.ref d)] s3=some (P.map tD,s3):=by
   rw[eit];refine zhu (R:=fun ρ=>∃ x,ρ=[x,some (.ref d)]) ⟨none,rfl⟩ rfl fun t ht ρ hρ=>?_;obtain⟨x,rfl⟩:=hρ;have hv:=zlL nd ht;have hk:zkJ (.ref d) (.tup [.int t.1,.int t.2.1]) s3=some (.int t.2.2,s3):=by have e1:keysOf [.int t.1,.int t.2.1]=some (kvOf t).1:=rfl;simp only[zkJ,zmU,a3,e1,A6,Ad,hv]
   exact⟨[some (.tup [.int t.1,.int t.2.1]),some (.ref d)],rfl,rfl,zj6 hk,⟨_,rfl⟩⟩
 have fl:fits (P.map tD).length=true:=zax (by rw[Af];omega);have es:=zfg (zaG st<|.lst<|P.map tD) h64;have et:=zb3<|zaG (st++[.lst (P.map tD)])<|.lst<|(srtT P).map tD;refine⟨st++[.lst (P.map tD)]++[.lst ((srtT P).map tD)],zbL ?_,(Gr.app _ _).trans<|Gr.app _ _⟩;have ecm:zcf (mWK<|mV 0) 1 [0] (gNm 0) zbF zay [some (.ref d)] st=some (.ref st.length,s3++[.lst (P.map tD)]):=by have:mWK (mV 0) [some (.ref d)] st=some (⟨zep<|P.map kvOf,[]⟩,s3):=ewk;rw[zaS,this];simp only[Ad];rw[show rho0 [some (D.ref d)] 1 [0]=[none,some (.ref d)] from rfl,ec];simp only[Ad,fl,if_true,ls]
 have eth:zo1 0 (zcf (mWK<|mV 0) 1 [0] (gNm 0) zbF<|zay) [some (.ref d)] st=some (.ref st.length,st++[.lst (P.map tD)]):=by unfold zo1;simp only[CS,ecm,Ad];unfold zlS;rw[hd,a4];show GD _ (some<|List.set _ _ _)=_;rw[back];rfl
 unfold zbS;rw[zhV];generalize (srtT P).map tD=B at *;generalize P.map tD=A at *;generalize st++[O.lst A]=s4 at *;generalize s4++[O.lst B]=s5 at *;simp[eth,es,et]
def tP(t:Tl):PyData:=.tuple [.int t.1,.int t.2.1,.int t.2.2]
variable {n:Nat}
def zfd{n:Nat}{st:Sto}:∀ ts:List Tl,toPs (toP (n+2) st) (ts.map tD)=some (ts.map tP)
 | []=>rfl
 | t::ts=>by
   have e:toP (n+2) st (tD t)=some (tP t):=by obtain⟨x,y,k⟩:=t;show toP (n+2) st (.tup [.int x,.int y,.int k])=_;rw[toP];simp only[toPs,toP,Ad,A6];rfl
   rw[Ay,toPs,e,Ad,zfd ts];rfl
variable {m:Nat}
def zmJ(hl:st[l]?=some (.lst<|ts.map tD))(hm:st[m]?=some (.lst [])):neD (.ref l) (.ref m) st=some (.bl !ts.isEmpty,st):=by
 have e:toP 100 st (.ref l)=some (.list<|ts.map tP):=by rw[toP];simp only[zbs,hl,Ad];rw[zfd];rfl
 unfold neD;rw[e,zdM (n:=98) (as:=[]) hm]
 cases ts <;> rfl
variable {bed t2:D}{q:Nat}{a5 a6 a7:Option D}{s1 s2:Sto}
def zlK(e1:zb1 [bed,.ref d] s=some (.ref q,s1))(hs2:s1++[.lst []]=s2)(en:neD (.ref q) (.ref s1.length) s2=some (.bl false,s2)) :
   zaX [some (.ref n),some bed,some t2,some (.ref d),some (.ref l),a5,a6,a7] s=some (.nx [some (.ref n),some bed,some t2,some (.ref d),some (.ref l),a5,some (.ref q),a7],s2):=by
 unfold zaX;refine zal (ρ1:=[some (.ref n),some bed,some t2,some (.ref d),some (.ref l),a5,some (.ref q),a7]) (s1:=s1) (by simp[e1]) ?_;rw[znJ];simp[hs2,en]
def znL{N r:Int}{L:List D}{s3 s4 s5:Sto}(e1:zb1 [bed,.ref d] s=some (.ref q,s1))(hs2:s1++[.lst []]=s2)(en:neD (.ref q) (.ref s1.length) s2=some (.bl true,s2))(el:lenD [.ref q] s2=some (.int N,s2))(ed:zae [.ref n,.int N] s2=some (.int r,s3))
   (ix:ixA (.ref q) (.int r) s3=some (.tup [.int x,.int y,.int k],s3)) (dp:dput s3 d (.tup [.int x,.int y]) (.int k)=some s4) (hl:s4[l]?=some (.lst L)) (ap:zb0 (.ref l) [.tup [.int x,.int y,.int k]] s4=some (.non,s5)) :
   zaX [some (.ref n),some bed,some t2,some (.ref d),some (.ref l),a5,a6,a7] s=some (.nx [some (.ref n),some bed,some t2,some (.ref d),some (.ref l),a5,some (.ref q),some (.tup [.int x,.int y,.int k])],s5):=by
 have es:slB (.tup [.int x,.int y,.int k]) none (some 2) s3=some (.tup [.int x,.int y],s3):=rfl;have j2:ixA (.tup [.int x,.int y,.int k]) (.int 2) s3=some (.int k,s3):=zaR (by decide) rfl;unfold zaX;refine zal (ρ1:=[some (.ref n),some bed,some t2,some (.ref d),some (.ref l),a5,some (.ref q),a7]) (s1:=s1) (by simp[e1]) ?_;rw[znJ];have c0:mT (mB neD (mV 6)<|mL<|mZ) [some (.ref n),some bed,some t2,some (.ref d),some (.ref l),a5,some (.ref q),a7] s1=some (true,s2):=by simp[hs2,en]
 rw[c0,Ad];show mS _ _ _ s2=_;refine zal (ρ1:=[some (.ref n),some bed,some t2,some (.ref d),some (.ref l),a5,some (.ref q),some (.tup [.int x,.int y,.int k])]) (s1:=s3) (by simp[el,ed,ix]) ?_;refine zal (ρ1:=[some (.ref n),some bed,some t2,some (.ref d),some (.ref l),a5,some (.ref q),some (.tup [.int x,.int y,.int k])]) (s1:=s4) ?_ (by simp[zbs,hl,ap]);rw[zjp];have c1:mAsg (mB ixA (mV 7)<|mK<|.int 2) (gSb setD (mV 3)<|mSlB (mV 7) zdC<|zce<|mK<|.int 2) [some (.ref n),some bed,some t2,some (.ref d),some (.ref l),a5,some (.ref q),some (.tup [.int x,.int y,.int k])] s3=none:=by simp[es,j2,setD]
 rw[c1,ze9];unfold zln;simp[es,j2,dp]
structure WInv(n d l m:Nat)(P R:List Tl)(st0 s:Sto):Prop where
 at_:s[d]?=some (.dt ((P++R).map kvOf))
 row:s[l]?=some (.lst (R.map tD))
 pot:PotD n m s
 fr:Fr n st0 s
variable {e w h:Int}{stk:List (Str×Int)}{ks:List (List Str)}
def zjC{P R:List Tl}{st0:Sto}(c:Ctx bed e stk ks w h)(q:WInv n d l m P R st0 s)(hP:∀ t∈P,zbV w h ks.length t)(hr:zlI e stk ks w h P R)(hd:st0.length<=d)(hl:st0.length<=l)(hdl:d≠l)(hdn:d≠n)(hln:l≠n)(hlen:P.length+R.length<=100)(hm:m<=900000) :
   ∃ (R':List Tl) (b6 b7:Option D) (s':Sto),Y4 (zaX [some (.ref n),some bed,some t2,some (.ref d),some (.ref l),a5,a6,a7] s=some (.nx [some (.ref n),some bed,some t2,some (.ref d),some (.ref l),a5,b6,b7],s')) (WInv n d l (m+1) P R' st0 s') (zlI e stk ks w h P R') (R'.length<=R.length+1):=by
 have hK:∀ t∈P++R,0<=t.2.2/\t.2.2 < (ks.length:Int):=fun t hh=>by
   have:zbV w h ks.length t:=by
     rcases List.mem_append.mp hh with hh | hh
     . exact hP t hh
     exact zgy hr t hh
   exact⟨this.2.2.2.2.1,this.2.2.2.2.2⟩
 obtain⟨s1,e1,a1,g1⟩:=zq7 c hK q.at_;have g2:Gr s (s1++[.lst []]):=g1.trans<|Gr.app _ _;have a2:(s1++[O.lst []])[s.length]?=some (.lst<|(mays e stk ks (P++R)<|eF (P++R) h w.toNat).map tD):=by rw[Ao (getElem?_lt a1)];exact a1
 have b2:=zaG s1<|.lst [];have hmm:∀ t∈mays e stk ks (P++R) (eF (P++R) h w.toNat),May e stk ks w h (P++R) t:=fun t ht=>zmO c.fo ht;generalize hM:mays e stk ks (P++R) (eF (P++R) h w.toNat)=M at a1 a2 hmm;have en:=zmJ a2 b2;generalize hs2:s1++[O.lst []]=s2 at *;have at2:=(g2.old _<|getElem?_lt q.at_).trans q.at_;have row2:=(g2.old _<|getElem?_lt q.row).trans q.row;have pot2:=q.pot.gr g2;have fr2:=q.fr.trans<|g2.fr n
 cases hc:M with
 | nil =>
   rw[hc] at en;exact⟨R,_,_,s2,zlK e1 hs2 en,⟨at2,row2,pot2.up<|by omega,fr2⟩,hr,by omega⟩
 | cons u M' =>
   rw[hc] at en;have hML:0 < M.length:=by rw[hc];simp
   have hsz:M.length < 100000:=by
     have bound:∀ qs:List (Int×Int),(mays e stk ks (P++R) qs).length<=qs.length*13:=by
       intro qs;have k13:=c.hs.hi
       induction qs with
       | nil=>simp[mays]
       | cons z qs ih =>
         have h1:=znb e stk ks (P++R) z.1 z.2 ks.length;have h2:(mays e stk ks (P++R) (z::qs)).length=(gK e stk ks (P++R) z.1 z.2 ks.length).length+(mays e stk ks (P++R) qs).length:=by simp[mays]
         rw[h2,Az,FL];omega
     have f2:=c.fo.w1;have f4:=c.fo.h1;have h144:(eF (P++R) h w.toNat).length<=144:=Aw (zkI (P++R) h w.toNat)<|EK (show w.toNat<=12 by omega) (show h.toNat<=12 by omega);have:=bound<|eF (P++R) h w.toNat;rw[hM] at this;omega
   have el:lenD [.ref s.length] s2=some (.int (M.length:Int),s2):=by rw[ziJ a2,Af]
   have sq:s.length≠n:=q.pot.ne;obtain⟨r,s3,e3,r0,r1,p3,f3⟩:=za1 (many:=(M.length:Int)) pot2 (by omega) (by omega) (by omega);have a3:=(f3.old _ (getElem?_lt a2) sq).trans a2;have hrn:r.toNat < M.length:=by omega
   have hxt:(M.map tD)[r.toNat]?=some (tD M[r.toNat]):=by rw[AB,Ag hrn];rfl
   have ix:=zcl a3 r0 hxt;have hmt:=hmm _<|Bq hrn;generalize M[r.toNat]=t at ix hmt;obtain⟨x,y,k⟩:=t;have at3:=(f3.old _ (getElem?_lt at2) hdn).trans at2;have row3:=(f3.old _ (getElem?_lt row2) hln).trans row2;have dp:=zfF (x:=x) (y:=y) (k:=k) at3 (by simp;omega);rw[zeN hmt.2.1,Ak] at dp;have row4:(s3.set d<|.dt<|(P++(R++[(x,y,k)])).map kvOf)[l]?=some (.lst<|R.map tD):=by rw[Ax hdl];exact row3
   have ap:=append_at (x:=tD (x,y,k)) row4 (by rw[Af];omega);have dlt:=getElem?_lt at3;have llt:=getElem?_lt row3;have fr3:=fr2.trans f3;refine⟨R++[(x,y,k)],_,_,_,znL e1 hs2 en el e3 ix dp row4 ap,⟨?_,?_,?_,?_⟩,zh9 hr hmt,by simp⟩
   . rw[Ax (AZ hdl),AH dlt]
   . rw[AH (by simpa using llt)];simp
   . exact (p3.set hdn).set hln
   exact⟨by have:=fr3.len;simpa using this,fun j hj nj=>by rw[Ax (by omega),Ax (by omega)];exact fr3.old j hj nj⟩
variable {sd:List Tl}
def znN{sd:List Tl}(c:Ctx (bedD e stk ks w h sd) e stk ks w h)(hp:PotD n m st)(hm:m<=800000)(hsd:∀ t∈sd,zbV w h ks.length t)(nd:PlNd sd)(hl:sd.length<=6) :
   ∃ (R:List Tl) (st':Sto),Y5 (zb7 [.ref n,bedD e stk ks w h sd,.int 8] st=some (.tup (R.map tD),st')) (zlI e stk ks w h sd R) (R.length<=8) (PotD n (m+8) st') (Fr n st st'):=by
 obtain⟨d,s1,e1,a1,hd,g1⟩:=zgN (ts:=sd) (st:=st) (by omega);rw[zjj nd] at a1;have hn:=hp.lt;have hdl:=getElem?_lt a1;have a2:(s1++[O.lst []])[d]?=some (.dt<|(sd++[]).map kvOf):=by rw[Ao hdl,Al];exact a1
 have b2:(s1++[O.lst []])[s1.length]?=some (.lst<|([]:List Tl).map tD):=zaG s1 _;have g2:Gr st (s1++[O.lst []]):=g1.trans<|Gr.app _ _;have hl1:=g1.len;have key:=zcd (W:=⟨run 0 8,[]⟩) (g:=gNm 5) (m:=zaX) (ds:=run 0 8) (ρ:=[some (.ref n),some (bedD e stk ks w h sd),some (.int 8),some (.ref d),some (.ref s1.length),none,none,none]) (st:=s1++[O.lst []])
   (Inv:=fun k ρ s=>(∃ a5 a6 a7,ρ=[some (.ref n),some (bedD e stk ks w h sd),some (.int 8),some (.ref d),some (.ref s1.length),a5,a6,a7])/\∃ R,WInv n d s1.length (m+k) sd R st s/\zlI e stk ks w h sd R/\R.length<=k)
   ⟨⟨_,_,_,rfl⟩,[],⟨a2,b2,hp.gr g2,g2.fr n⟩,trivial,Ah _⟩ (fun _ _ _ _ _=>rfl) (fun k dd ρ s hdd hI=>by obtain⟨⟨a5,a6,a7,rfl⟩,R,q,hr,hR⟩:=hI;obtain⟨hk,rfl⟩:=zdP hdd;obtain⟨R',b6,b7,s',e,q',hr',hR'⟩:=zjC (t2:=.int 8) (a5:=some (.int (k:Int))) (a6:=a6) (a7:=a7) c q hsd hr hd hl1 (by omega) (by omega) (by omega) (by omega) (by omega);exact⟨_,s,_,s',rfl,e,⟨_,_,_,rfl⟩,R',q',hr',by omega⟩)
 obtain⟨ρ',s',el,⟨a5,a6,a7,rfl⟩,R,q,hr,hR⟩:=key;rw[zcb] at hR q;have et:=zb3 q.row;have x2:∀ s:Sto,ixA (bedD e stk ks w h sd) (.int 2) s=some (zaH sd,s):=fun s=>zaR (by decide) rfl;refine⟨R,s',zbL ?_,hr,hR,q.pot,q.fr⟩;unfold zd4;generalize bedD e stk ks w h sd=bed at *;have hr1:mR1 (mV 2) [some (.ref n),some bed,some (.int 8),some (.ref d),some (.ref s1.length),none,none,none] (s1++[O.lst []])=some (⟨run 0 8,[]⟩,s1++[O.lst []]):=zif (k:=8) rfl (by omega);refine zal (ρ1:=[some (.ref n),some bed,some (.int 8),some (.ref d),some (.ref s1.length),none,none,none]) (s1:=s1++[O.lst []]) (by simp[x2,e1]) ?_;refine zal (ρ1:=[some (.ref n),some bed,some (.int 8),some (.ref d),some (.ref s1.length),a5,a6,a7]) (s1:=s') (by rw[zcO,hr1];exact el) ?_;simp[et]
theorem zkY{m:ME}{ml mh:MO}{ρ:Rho}:mSlC m ml mh ρ st=(m ρ st).bind fun p=>(ml ρ p.2).bind fun q=>(mh ρ q.2).bind fun r=>slC p.1 q.1 r.1 r.2:=rfl
def zrA(hs:HsOk e stk ks)(hf:FlOk w h):Ctx (bedD e stk ks w h sd) e stk ks w h :=
 ⟨⟨ze5 e stk ks,fun s=>zaR (by decide) rfl,fun s=>zaR (by decide) rfl,fun s=>zaR (by decide) rfl,fun s=>zaR (by decide) rfl⟩,fun s=>zaR (by decide) rfl,hs,hf⟩
variable {ds:List D}
def zl5{lo hi:Option Int}{i j:Nat}(h0:HT.sIx ds.length 0 lo=i)(h1:HT.sIx ds.length ds.length hi=j):slC (.tup ds) lo hi st=some (.tup ((ds.drop i).take<|j - i),st):=by
 have a1:slK (.tup ds) lo hi st=none:=rfl;have a2:slS (.tup ds) lo hi st=none:=rfl;unfold slC slB slA;rw[a1,a2]
 by_cases hw:(decide (i=0)&&decide (j=ds.length))=true
 . have e1:slD (.tup ds) lo hi st=none:=by
     unfold slD;dsimp only;rw[h0,h1,if_pos hw]
   rw[e1,ze9,ze9,ze9];unfold slW;dsimp only;rw[h0,h1,if_pos hw];rw[Am] at hw;rw[of_decide_eq_true hw.1,of_decide_eq_true hw.2];simp
 . have e1:slD (.tup ds) lo hi st=some (.tup ((ds.drop i).take<|j - i),st):=by
     unfold slD cutD;dsimp only;rw[h0,h1,if_neg hw]
   rw[e1,zfa,zfa,zfa]
variable {a:Nat}
def zoa(ha:a<=ds.length):slC (.tup ds) none (some (a:Int)) st=some (.tup (ds.take a),st):=by rw[zl5 (i:=0) (j:=a) rfl (by rw[HT.sIx_nat];omega)];simp
def zqi(ha:a<=ds.length):slC (.tup ds) (some (a:Int)) (some<|(a:Int)+1) st=some (.tup ((ds.drop a).take 1),st):=by
 have e:((a:Int)+1)=((a+1:Nat):Int):=by omega
 rw[e,zl5 (i:=a) (j:=min (a+1) ds.length) (by rw[HT.sIx_nat];omega) (HT.sIx_nat _ _ _)]
 congr 3
 by_cases h:a=ds.length
 . subst h;simp
 rw[show min (a+1) ds.length - a=1 by omega]
end L2.MP.T0
namespace L2.MP.T0
open PySem L2.MP L2.MP.Hd
variable {x:Int}{st:Sto}
def zhD{lo hi:Int}:zb2 [.int x,.int lo,.int hi] st=some (.bl (decide (lo<=x)&&decide (x<=hi)),st):=by
 refine zbL ?_;have t1:tyName st (.int x)=some "int":=rfl;have t2:subT "int" "int"=true:=by decide
 have t3:subT "int" "bool"=false:=by decide
 unfold zd9
 by_cases h1:lo<=x
 . simp[zbG,t1,t2,t3,h1]
 simp[zbG,t1,t2,t3,h1]
def inF(w h x y:Int):Bool:=(decide (0<=x)&&decide (x<=w - 1))&&(decide (0<=y)&&decide (y<=h - 1))
variable {bed:D}{e w h y:Int}{stk:List (Str×Int)}{ks:List (List Str)}
def zle(c:Ctx bed e stk ks w h):zbw [bed,.tup [.int x,.int y]] st=some (.bl (inF w h x y),st):=by
 have e1:=zfU (ds:=[.int x,.int y]) (n:=2) (N:=2) (st:=st) rfl rfl;have e2:=zhD (x:=x) (lo:=0) (hi:=w - 1) (st:=st);have e3:=zhD (x:=y) (lo:=0) (hi:=h - 1) (st:=st);have i0:ixA (.tup [.int x,.int y]) (.int 0) st=some (.int x,st):=zaR (by decide) rfl;have i1:ixA (.tup [.int x,.int y]) (.int 1) st=some (.int y,st):=zaR (by decide) rfl;have j0:ixA (.tup [.int w,.int h]) (.int 0) st=some (.int w,st):=zaR (by decide) rfl;have j1:ixA (.tup [.int w,.int h]) (.int 1) st=some (.int h,st):=zaR (by decide) rfl;have cf:=c.fl;unfold inF;refine zbL ?_;unfold zea;refine zal (ρ1:=[some bed,some (.tup [.int x,.int y]),some (.tup [.int w,.int h])]) (s1:=st) (by simp[cf]) ?_;generalize (decide (0<=x)&&decide (x<=w - 1))=b1 at *;generalize (decide (0<=y)&&decide (y<=h - 1))=b2 at *
 cases b1 <;> simp[e1,e2,e3,i0,i1,j0,j1]
def tlB(w h n:Int)(t:Tl):Bool:=inF w h t.1 t.2.1&&(decide (0<=t.2.2)&&decide (t.2.2<=n - 1))
variable {t:Tl}
def zk0{n:Int}:tlB w h n t=true ↔ zbV w h n t:=by unfold tlB inF zbV;simp only[Am,decide_eq_true_eq];omega
def zp0(c:Ctx bed e stk ks w h):zdJ [bed,tD t] st=some (.bl (tlB w h ks.length t),st):=by
 obtain⟨hs,i0,_,_,i2⟩:=c.at_;obtain⟨x,y,k⟩:=t;have e1:=zfU (ds:=[.int x,.int y,.int k]) (n:=3) (N:=3) (st:=st) rfl rfl;have e2:=zle (x:=x) (y:=y) (st:=st) c;have el:lenD [.tup (ks.map zbx)] st=some (.int (ks.length:Int),st):=by rw[zcD,Af]
 have e3:=zhD (x:=k) (lo:=0) (hi:=(ks.length:Int) - 1) (st:=st);have j2:ixA (.tup [.int x,.int y,.int k]) (.int 2) st=some (.int k,st):=zaR (by decide) rfl;have es:slB (.tup [.int x,.int y,.int k]) none (some 2) st=some (.tup [.int x,.int y],st):=rfl;show zdJ [bed,.tup [.int x,.int y,.int k]] st=some (.bl (inF w h x y&&(decide (0<=k)&&decide (k<=(ks.length:Int) - 1))),st);refine zbL ?_;unfold zhb;generalize (ks.length:Int)=K at *;generalize D.tup (ks.map zbx)=KK at *;refine zal (ρ1:=[some bed,some (.tup [.int x,.int y,.int k]),some KK]) (s1:=st) (by simp[i0,i2]) ?_;generalize inF w h x y=b1 at *;generalize (decide (0<=k)&&decide (k<=K - 1))=b2 at *
 cases b1 <;> simp[e1,e2,el,e3,j2,es]
variable {k:Int}
def zjR(hb:BedAt bed stk ks)(h:¬ (0<=k/\k < (ks.length:Int))):zbv [bed,.int k] st=some (.tup ([("":Str),"","",""].map D.str),st):=by
 obtain⟨hs,i0,_,i2⟩:=hb.h;have el:lenD [.tup (ks.map zbx)] st=some (.int (ks.length:Int),st):=by rw[zcD,Af]
 have j0:=i0 st;have j2:=i2 st;refine zbL ?_;unfold zc1;generalize D.tup (ks.map zbx)=KK at *;generalize (ks.length:Int)=K at *;refine zal (ρ1:=[some bed,some (.int k),some KK]) (s1:=st) (by simp[j0,j2]) ?_;have et:mT (zbG leD ltD (mK<|.int 0) (mV 1)<|zas lenD<|zac (mV 2)<|mZ) [some bed,some (.int k),some KK] st=some (false,st):=by
   rw[zjo];unfold zbG
   by_cases h0:0<=k
   . have h1:¬ k < K:=fun z=>h ⟨h0,z⟩;simp[el,h0,h1]
   simp[h0]
 refine zal (L2.MP.Ce.ifF et) ?_;simp
variable {sd d:Nat}{s s1 s2:Sto}
def zlw{hs sl:D}{ln:Nat}{E R:Int}(hin:inA (.tup [.int x,.int y]) (.ref d) s=some (.bl false,s))(hp:zbw [bed,.tup [.int x,.int y]] s=some (.bl true,s))(e1:zbp [bed,.ref d,.tup [.int x,.int y]] s=some (.ref ln,s1))
   (e2:zbv [bed,.int k] s1=some (sl,s1)) (e3:zaK [.ref sd,sl,.ref ln] s1=some (.int R,s2)) (i0:ixA bed (.int 0) s2=some (hs,s2)) (ie:ixA hs (.int 0) s2=some (.int E,s2)) (hR:¬ E<=R):zaZ [bed,.ref sd,.ref d,.tup [.int x,.int y,.int k]] s=some (.bl false,s2):=by
 have j2:ixA (.tup [.int x,.int y,.int k]) (.int 2) s1=some (.int k,s1):=zaR (by decide) rfl;have es:slB (.tup [.int x,.int y,.int k]) none (some 2) s=some (.tup [.int x,.int y],s):=rfl;refine zbL ?_;unfold zb9;refine zal (ρ1:=[some bed,some (.ref sd),some (.ref d),some (.tup [.int x,.int y,.int k]),some (.tup [.int x,.int y]),none]) (s1:=s) (by simp[es]) ?_;refine zal (ρ1:=[some bed,some (.ref sd),some (.ref d),some (.tup [.int x,.int y,.int k]),some (.tup [.int x,.int y]),none]) (s1:=s) (by simp[hin,hp]) ?_;refine zal (ρ1:=[some bed,some (.ref sd),some (.ref d),some (.tup [.int x,.int y,.int k]),some (.tup [.int x,.int y]),some (.ref ln)]) (s1:=s1) (by simp[e1]) ?_;simp[j2,e2,e3,i0,ie,hR]
def zm9{b c:Bool}(hin:inA (.tup [.int x,.int y]) (.ref d) s=some (.bl b,s))(hp:zbw [bed,.tup [.int x,.int y]] s=some (.bl c,s))(h:b=true\/c=false):zaZ [bed,.ref sd,.ref d,.tup [.int x,.int y,.int k]] s=some (.bl false,s):=by
 have es:slB (.tup [.int x,.int y,.int k]) none (some 2) s=some (.tup [.int x,.int y],s):=rfl;refine zbL ?_;unfold zb9;refine zal (ρ1:=[some bed,some (.ref sd),some (.ref d),some (.tup [.int x,.int y,.int k]),some (.tup [.int x,.int y]),none]) (s1:=s) (by simp[es])<|zdy ?_
 cases b with
 | true=>simp[hin]
 | false =>
   have hc:c=false:=by rcases h with h | h <;> simp_all
   subst hc;simp[hin,hp]
def zpj{P:List Tl}{t:Tl}(c:Ctx bed e stk ks w h)(hP:∀ t∈P,0<=t.2.2/\t.2.2 < (ks.length:Int))(hd:st[d]?=some (.dt<|P.map kvOf))(hs:st[sd]?=some (.dk<|stD stk))(hm:¬ May e stk ks w h P t) :
   ∃ st',zaZ [bed,.ref sd,.ref d,tD t] st=some (.bl false,st')/\Gr st st':=by
 obtain⟨x,y,k⟩:=t;have hin:inA (.tup [.int x,.int y]) (.ref d) st=some (.bl (fnd P x y).isSome,st):=by rw[zpf hd,zdk];cases fnd P x y <;> rfl
 have hp:=zle (x:=x) (y:=y) (st:=st) c
 by_cases hoff:(fnd P x y).isSome=true\/inF w h x y=false
 . exact⟨st,zm9 hin hp hoff,Gr.refl _⟩
 . have hf:(fnd P x y).isSome=false:=by cases q:(fnd P x y).isSome <;> simp_all
   have hi:inF w h x y=true:=by cases q:inF w h x y <;> simp_all
   rw[hf] at hin;rw[hi] at hp;obtain⟨hh,i0,ie,_,i2⟩:=c.at_;obtain⟨s1,e1,a1,g1⟩:=zgW (x:=x) (y:=y) c.bed c.ks hP hd;have hs1:=(g1.old _<|getElem?_lt hs).trans hs;have oN:∀ z∈names4 ks P x y,Bb z=true:=fun z hz=>by
     have:NmOk z:=by
       simp only[names4,A7,AX,or_false] at hz
       rcases hz with rfl | rfl | rfl | rfl <;> exact nm_F c.ks hP _ _
     exact zgn this.ab
   by_cases hk:0<=k/\k < (ks.length:Int)
   . obtain⟨f,b0,b1,b2,b3,ek,es,hok⟩:=zcE c.ks (k:=k) hk.1 hk.2;obtain⟨s2,e2,g2⟩:=zc4 (S:=sds ks k) (N:=names4 ks P x y) c.stk (by rw[es];exact Ah _) (by rw[es];exact fun z hz=>hok z hz) oN hs1 a1;have hR:¬ e<=((togs (sds ks k)<|names4 ks P x y).map fun p=>sv stk p.1).sum:=fun z=>hm ⟨by
       have q:tlB w h ks.length (x,y,k)=true:=by unfold tlB;simp only[hi,Bool.true_and,Am,decide_eq_true_eq];omega
       exact zk0.mp q,Option.not_isSome_iff_eq_none.mp (by simp only[hf];decide),by
       show e<=sth stk ks P x y k.toNat;unfold sth;rw[Cz hk.1];exact z⟩
     exact⟨s2,zlw hin hp e1 (zc7 c.bed c.ks hk.1 hk.2) e2 (i0 _) (ie _) hR,g1.trans g2⟩
   . have n0:NmOk ("":Str):=⟨by decide,fun z hz=>by
       rw[show ("":Str).cps.toList=[] from by decide] at hz;cases hz⟩
     obtain⟨s2,e2,g2⟩:=zc4 (S:=["","","",""]) (N:=names4 ks P x y) c.stk (Ah _) (fun z hz=>by simp only[A7,AX,or_false,or_self] at hz;subst hz;exact⟨n0,.inl rfl⟩) oN hs1 a1
     have e0:togs ["","","",""] (names4 ks P x y)=[]:=by simp[togs,names4]
     rw[e0] at e2;have he:=c.hs.e0;exact⟨s2,zlw hin hp e1 (zjR c.bed hk) e2 (i0 _) (ie _) (by simp;omega),g1.trans g2⟩
section
variable (A:List Tl->Tl->Prop)
open Classical in
def fb:List Tl->Nat->List Tl->Option Nat×List Tl
 | P,_,[]=>(none,P)
 | P,i,t::S=>if A P t then fb (P++[t]) (i+1) S else (some i,P)
def zfE:∀ {S P P':List Tl} {i:Nat},fb A P i S=(none,P')->P'=P++S
 | [],P,P',i,h=>by cases h;simp
 | t::S,P,P',i,h=>by
   unfold fb at h
   split at h
   . rw[zfE h];simp
   . cases h
def zr5:∀ {S P P':List Tl} {i j:Nat},fb A P i S=(some j,P')->j < i+S.length
 | [],P,P',i,j,h=>by cases h
 | t::S,P,P',i,j,h=>by
   unfold fb at h
   split at h
   . have:=zr5 h;rw[Az];omega
   . cases h;rw[Az];omega
def zi4{J:List Tl->Prop}:∀ {S P P':List Tl} {i:Nat} {o:Option Nat},fb A P i S=(o,P')->J P->(∀ P t,J P->A P t->J (P++[t]))->J P'
 | [],P,P',i,o,h,h0,hs=>by cases h;exact h0
 | t::S,P,P',i,o,h,h0,hs=>by
   unfold fb at h
   split at h
   . rename_i ha;exact zi4 h (hs P t h0 ha) hs
   . cases h;exact h0
def idx(i:Nat)(ds:List D):List D:=(ds.zipIdx i).map fun (d,k)=>.tup [.int (k:Nat),d]
theorem ziS(ds:List D):idx 0 ds=pairs ds:=rfl
def zm4(i:Nat)(d:D)(ds:List D):idx i (d::ds)=.tup [.int (i:Nat),d]::idx (i+1) ds:=by unfold idx;rw[D2,Ay]
inductive Stops (L:Option (Fl×Sto)) (r:Nat->List Tl->D) (Inv:Nat->List Tl->Rho->Sto->Prop) (J:List Tl->Sto->Prop) (N:Nat):Option Nat×List Tl->Prop
 | on (P:List Tl) (ρ:Rho) (s:Sto) (h1:L=some (.nx ρ,s)) (h2:Inv N P ρ s):Stops L r Inv J N (none,P)
 | at_ (j:Nat) (P:List Tl) (s:Sto) (h1:L=some (.rt (r j P),s)) (h2:J P s):Stops L r Inv J N (some j,P)
def ziH{g:MG}{m:MS}{r:Nat->List Tl->D}{Inv:Nat->List Tl->Rho->Sto->Prop}{J:List Tl->Sto->Prop}{N:Nat}
   (step:∀ i t P ρ s,i < N->Inv i P ρ s->∃ ρ1 s1,g (.tup [.int (i:Nat),tD t]) ρ s=some (ρ1,s1)/\(A P t->∃ ρ2 s2,m ρ1 s1=some (.nx ρ2,s2)/\Inv (i+1) (P++[t]) ρ2 s2)/\(¬ A P t->∃ s2,m ρ1 s1=some (.rt (r i P),s2)/\J P s2)) {dd:List D} :
   ∀ (S P:List Tl) (i:Nat) (ρ:Rho) (s:Sto),i+S.length=N->Inv i P ρ s->Stops (zee ⟨dd,[]⟩ g m (idx i<|S.map tD) ρ s) r Inv J N (fb A P i S)
 | [],P,i,ρ,s,hN,h=>by
   have:i=N:=by simpa using hN
   subst this;exact .on P ρ s rfl h
 | t::S,P,i,ρ,s,hN,h=>by
   rw[Az] at hN;obtain⟨ρ1,s1,e1,hy,hn⟩:=step i t P ρ s (by omega) h;rw[Ay,zm4];unfold fb
   by_cases ha:A P t
   . rw[if_pos ha];obtain⟨ρ2,s2,e2,h2⟩:=hy ha;rw[zo5 rfl e1 e2];exact ziH step S (P++[t]) (i+1) ρ2 s2 (by omega) h2
   rw[if_neg ha];obtain⟨s2,e2,h2⟩:=hn ha;exact .at_ i P s2 (zo4 rfl e1 e2) h2
end
open L2.MP.Hn (zaH zaM srtT za6 zcw)
def zfN{a b:List Tl}(h:a.length+b.length<=1000):addE (.tup<|a.map tD) (.tup<|b.map tD) st=some (.tup ((a++b).map tD),st):=by
 unfold addE orG
 cases a with
 | nil =>
   have e0:addD (.tup<|([]:List Tl).map tD) (.tup<|b.map tD) st=none:=rfl;rw[e0,ze9];unfold zpT;have:fits b.length=true:=zax (by simp at h;omega);simp[this]
 | cons t a =>
   rw[zg7 (by simp) (by simp at h ⊢;omega),zfa,Bi]
variable {row:D}
def zm7{a:Option D}(e1:zaZ [bed,.ref sd,.ref d,.tup [.int x,.int y,.int k]] s=some (.bl true,s1))(ed:dput s1 d (.tup [.int x,.int y]) (.int k)=some s2) :
   zb6 [some bed,some row,some (.ref sd),some (.ref d),a,some (.tup [.int x,.int y,.int k])] s=some (.nx [some bed,some row,some (.ref sd),some (.ref d),a,some (.tup [.int x,.int y,.int k])],s2):=by
 have es:slB (.tup [.int x,.int y,.int k]) none (some 2) s1=some (.tup [.int x,.int y],s1):=rfl;have j2:ixA (.tup [.int x,.int y,.int k]) (.int 2) s1=some (.int k,s1):=zaR (by decide) rfl;unfold zb6;refine zal (ρ1:=[some bed,some row,some (.ref sd),some (.ref d),a,some (.tup [.int x,.int y,.int k])]) (s1:=s1) (by simp[e1]) ?_;rw[zjp];have c1:mAsg (mB ixA (mV 5)<|mK<|.int 2) (gSb setD (mV 3)<|mSlB (mV 5) zdC<|zce<|mK<|.int 2) [some bed,some row,some (.ref sd),some (.ref d),a,some (.tup [.int x,.int y,.int k])] s1=none:=by simp[es,j2,setD]
 rw[c1,ze9];unfold zln;simp[es,j2,ed]
structure GInv(P:List Tl)(sd d:Nat)(stk:List (Str×Int))(st0 s:Sto):Prop where
 at_:s[d]?=some (.dt (P.map kvOf))
 st_:s[sd]?=some (.dk (stD stk))
 fr:Gr st0 s
def zm8{t:D}{i:Int}(e1:zaZ [bed,.ref sd,.ref d,t] s=some (.bl false,s1)) :
   zb6 [some bed,some row,some (.ref sd),some (.ref d),some (.int i),some t] s=some (.rt (erF i),s1):=by
 unfold zb6;refine zdy<|L2.MP.Ce.ifT (s1:=s1) ?_ rfl;simp[e1]
inductive Gn (L:Option (D×Sto)) (st:Sto) (v:List Tl->D) (r:Nat->D):Option Nat×List Tl->Prop
 | on (P:List Tl) (s:Sto) (h1:L=some (v P,s)) (h2:Gr st s):Gn L st v r (none,P)
 | at_ (j:Nat) (P:List Tl) (s:Sto) (h1:L=some (r j,s)) (h2:Gr st s):Gn L st v r (some j,P)
def ziX{sd S:List Tl}(c:Ctx (bedD e stk ks w h sd) e stk ks w h)(hsd:∀ t∈sd,zbV w h ks.length t)(nd:PlNd sd)(hl:sd.length<=6)(hS:S.length<=12) :
   Gn (zeA [bedD e stk ks w h sd,.tup (S.map tD)] st) st (fun P=>zaH (srtT P)) (fun j=>erF (j:Int)) (fb (May e stk ks w h) sd 0 S):=by
 obtain⟨hs,i0,ie,i1,i2⟩:=c.at_;have ed0:=zlz (stk:=stk) (st:=st) (by have:=c.hs.sl;omega);obtain⟨s1,e1,a1,g1⟩:=zre (ts:=sd) (st:=st++[.dk (stD stk)]) (by omega);rw[zjj nd] at a1;have b1:s1[st.length]?=some (.dk<|stD stk):=(g1.old _<|by simp).trans<|zaG st _;have l1:(st++[O.dk (stD stk)]).length=st.length+1:=by simp
 have gA:=(Gr.app st [.dk (stD stk)]).trans g1;have key:=ziH (A:=May e stk ks w h) (g:=gTp 2 (gC (gNm 4)<|gC (gNm 5)<|gN0)) (m:=zb6) (r:=fun j _=>erF (j:Int)) (N:=S.length) (dd:=pairs (S.map tD))
   (Inv:=fun i P ρ s=>(∃ a b,ρ=[some (bedD e stk ks w h sd),some (.tup<|S.map tD),some (.ref st.length),some (.ref<|st.length+1),a,b])/\GInv P st.length (st.length+1) stk st s/\P.length<=6+i/\∀ t∈P,0<=t.2.2/\t.2.2 < (ks.length:Int))
   (J := fun _ s=>Gr st s) (fun i t P ρ s hi hI=>by
     obtain⟨⟨a,b,rfl⟩,q,hlen,hP⟩:=hI;refine⟨_,s,rfl,fun hm=>?_,fun hm=>?_⟩
     . obtain⟨s2,e2,g2⟩:=zpk c hP q.at_ q.st_ hm;obtain⟨x,y,kk⟩:=t;have at2:=(g2.old _<|getElem?_lt q.at_).trans q.at_;have ed:=zfF (x:=x) (y:=y) (k:=kk) at2 (by omega);rw[zeN hm.2.1] at ed;refine⟨_,_,zm7 e2 ed,⟨_,_,rfl⟩,⟨by simp[getElem?_lt at2],?_,?_⟩,by simp;omega,fun u hu=>?_⟩
       . rw[Ax (by omega)];exact (g2.old _<|getElem?_lt q.st_).trans q.st_
       . have gg:=q.fr.trans g2;exact⟨by have:=gg.len;simpa using this,fun j hj=>by rw[Ax (by omega)];exact gg.old j hj⟩
       . rcases List.mem_append.mp hu with hu | hu
         . exact hP u hu
         . cases List.mem_singleton.mp hu
           exact⟨hm.1.2.2.2.2.1,hm.1.2.2.2.2.2⟩
     obtain⟨s2,e2,g2⟩:=zpj c hP q.at_ q.st_ hm;exact⟨s2,zm8 e2,q.fr.trans g2⟩) S sd 0 [some (bedD e stk ks w h sd),some (.tup<|S.map tD),some (.ref st.length),some (.ref<|st.length+1),none,none] s1 (by simp) ⟨⟨_,_,rfl⟩,⟨by simpa[l1] using a1,b1,gA⟩,by omega,fun t ht=>⟨(hsd t ht).2.2.2.2.1,(hsd t ht).2.2.2.2.2⟩⟩
 rw[ziS] at key;have x2:∀ s:Sto,ixA (bedD e stk ks w h sd) (.int 2) s=some (.tup (sd.map tD),s):=fun s=>zaR (by decide) rfl;rw[l1] at e1;have e1:zbq [.tup (sd.map tD)] (st++[O.dk (stD stk)])=some (.ref (st.length+1),s1):=e1;have start:∀ r,mS (mF (ziF<|mV 1) (gTp 2<|gC (gNm 4)<|gC (gNm 5)<|gN0)<|zb6) (mR<|zas zdK<|zac (zas zdm<|zac (mB addE (mB ixA (mV 0)<|mK<|.int 2)<|mV 1)<|mZ)<|mZ) [some (bedD e stk ks w h sd),some (.tup<|S.map tD),some (.ref st.length),some (.ref<|st.length+1),none,none] s1=r->zjt [some (bedD e stk ks w h sd),some (.tup<|S.map tD),none,none,none,none] st=r:=by intro r hr;unfold zjt;generalize bedD e stk ks w h sd=bed at *;generalize S.map tD=RR at *;refine zal (ρ1:=[some bed,some (.tup RR),some (.ref st.length),none,none,none]) (s1:=st++[O.dk (stD stk)]) (by simp[i0,i1,ed0]) ?_;exact zal (ρ1:=[some bed,some (.tup RR),some (.ref st.length),some (.ref<|st.length+1),none,none]) (s1:=s1) (by simp[x2,e1]) hr
 have hen:ziF (mV 1) [some (bedD e stk ks w h sd),some (.tup<|S.map tD),some (.ref st.length),some (.ref<|st.length+1),none,none] s1=some (⟨pairs<|S.map tD,[]⟩,s1):=zgk rfl;generalize hfb:fb (May e stk ks w h) sd 0 S=o at key ⊢
 cases key with
 | on P ρ s2 e2 q =>
   obtain⟨⟨a,b,rfl⟩,q,_,_⟩:=q
   cases zfE _ hfb
   have ea:=zfN (a:=sd) (b:=S) (st:=s2) (by omega);have es:=zhi (ts:=sd++S) (st:=s2) (by simp;omega);have et:=zb3<|zaG s2<|.lst<|(srtT<|sd++S).map tD;refine .on _ (s2++[.lst ((srtT<|sd++S).map tD)]) (zbL<|start _ ?_)<|q.fr.trans<|Gr.app _ _;rw[zhV];generalize bedD e stk ks w h sd=bed at *;generalize (srtT<|sd++S).map tD=B at *;generalize (sd++S).map tD=C at *;generalize S.map tD=RR at *;refine zal (ρ1:=[some bed,some (.tup RR),some (.ref st.length),some (.ref<|st.length+1),a,b]) (s1:=s2) (by rw[zcO,hen];exact e2) ?_;generalize s2++[O.lst B]=s5 at *;simp[x2,ea,es,et]
 | at_ j P s2 e2 q =>
   refine .at_ j P s2 (zbL<|start _<|zdy ?_) q;rw[zcO,hen];exact e2
end L2.MP.T0
namespace L2.MP.T0
open PySem L2.MP L2.MP.Hd
open L2.MP.Hn (zaH srtT)
open L2.MP.Ce (ifT ifF tstB notB orR zrM)
variable {ρ:Rho}{s:Sto}
def zje{ma mb mc:ME}{a b c:Int}(h1:ma ρ s=some (.int a,s))(h2:mb ρ s=some (.int b,s))(h3:mc ρ s=some (.int c,s)):mT (zbG leD ltD ma mb mc) ρ s=some (decide (a<=b/\b < c),s):=by
 rw[zjo];unfold zbG
 by_cases h:a<=b
 . by_cases h':b < c
   . simp[h1,h2,h3,h,h']
   simp[h1,h2,h3,h,h']
 simp[h1,h2,h3,h]
variable {e w h:Int}{stk:List (Str×Int)}{ks:List (List Str)}{P:List Tl}{s2:Sto}
section
variable {bed row:D} {d:Nat} {i x y k:Int}
def fr7(bed row:D)(d:Nat)(i x y k:Int):Rho:=[some bed,some row,some (.ref d),some (.int i),some (.int x),some (.int y),some (.int k)]
def zkF(c:Ctx bed e stk ks w h)(hd:s[d]?=some (.dt<|P.map kvOf)) :
   mOrT (zfv<|mT<|zbG leD ltD (mK<|.int 0) (mV 4)<|mB ixA (mB ixA (mV 0)<|mK<|.int 1)<|mK<|.int 0) (mOrT (zfv<|mT<|zbG leD ltD (mK<|.int 0) (mV 5)<|mB ixA (mB ixA (mV 0)<|mK<|.int 1)<|mK<|.int 1)<|mOrT (mT<|mB inA (mU<|zac (mV 4)<|zac (mV 5)<|mZ)<|mV 2)<|zfv<|mT<|zbG leD ltD (mK<|.int 0) (mV 6)<|zas lenD<|zac (mB ixA (mB ixA (mV 0)<|mK<|.int 0)<|mK<|.int 2)<|mZ) (fr7 bed row d i x y k) s
    =some (!(decide (0<=x/\x < w)&&(decide (0<=y/\y < h)&&(!(fnd P x y).isSome&&decide (0<=k/\k < (ks.length:Int))))),s):=by
 obtain⟨hs,i0,ie,_,i2⟩:=c.at_;have i1:=c.fl s;have j0:ixA (.tup [.int w,.int h]) (.int 0) s=some (.int w,s):=zaR (by decide) rfl;have j1:ixA (.tup [.int w,.int h]) (.int 1) s=some (.int h,s):=zaR (by decide) rfl;have el:lenD [.tup (ks.map zbx)] s=some (.int (ks.length:Int),s):=by rw[zcD,Af]
 have hin:inA (.tup [.int x,.int y]) (.ref d) s=some (.bl (fnd P x y).isSome,s):=by rw[zpf hd,zdk];cases fnd P x y <;> rfl
 have k0:=i0 s;have k2:=i2 s;unfold fr7;generalize D.tup (ks.map zbx)=KK at *;generalize (ks.length:Int)=K at *;generalize D.tup [.int w,.int h]=F at *;have t1:=zje (ma:=mK (.int 0)) (mb:=mV 4) (mc:=mB ixA (mB ixA (mV 0)<|mK<|.int 1) (mK<|.int 0)) (a:=0) (b:=x) (c:=w) (ρ:=[some bed,some row,some (.ref d),some (.int i),some (.int x),some (.int y),some (.int k)]) (s:=s) rfl rfl (by simp[i1,j0]);have t2:=zje (ma:=mK (.int 0)) (mb:=mV 5) (mc:=mB ixA (mB ixA (mV 0)<|mK<|.int 1) (mK<|.int 1)) (a:=0) (b:=y) (c:=h) (ρ:=[some bed,some row,some (.ref d),some (.int i),some (.int x),some (.int y),some (.int k)]) (s:=s) rfl rfl (by simp[i1,j1]);have t3:=zje (ma:=mK (.int 0)) (mb:=mV 6) (mc:=zas lenD (zac (mB ixA (mB ixA (mV 0)<|mK<|.int 0)<|mK<|.int 2)<|mZ)) (a:=0) (b:=k) (c:=K) (ρ:=[some bed,some row,some (.ref d),some (.int i),some (.int x),some (.int y),some (.int k)]) (s:=s) rfl rfl (by simp[k0,k2,el]);generalize decide (0<=x/\x < w)=b1 at *;generalize decide (0<=y/\y < h)=b2 at *;generalize decide (0<=k/\k < K)=b3 at *;generalize (fnd P x y).isSome=b4 at *;generalize mT (zbG leD ltD (mK<|.int 0) (mV 4)<|mB ixA (mB ixA (mV 0)<|mK<|.int 1)<|mK<|.int 0)=M1 at *;generalize mT (zbG leD ltD (mK<|.int 0) (mV 5)<|mB ixA (mB ixA (mV 0)<|mK<|.int 1)<|mK<|.int 1)=M2 at *;generalize mT (zbG leD ltD (mK<|.int 0) (mV 6)<|zas lenD<|zac (mB ixA (mB ixA (mV 0)<|mK<|.int 0)<|mK<|.int 2)<|mZ)=M3 at *
 cases b1 <;> cases b2 <;> cases b4 <;> cases b3 <;> simp[t1,t2,t3,hin]
def znd(ed:dput s d (.tup [.int x,.int y]) (.int k)=some s2):putA (mV 2) (mU<|zac (mV 4)<|zac (mV 5)<|mZ) (mV 6) (fr7 bed row d i x y k) s=some (.nx (fr7 bed row d i x y k),s2):=by
 unfold fr7;rw[zjp];have c1:mAsg (mV 6) (gSb setD (mV 2)<|mU<|zac (mV 4)<|zac (mV 5)<|mZ) [some bed,some row,some (.ref d),some (.int i),some (.int x),some (.int y),some (.int k)] s=none:=by simp[setD]
 rw[c1,ze9];unfold zln;simp[ed]
def zkE(c:Ctx bed e stk ks w h)(hP:∀ t∈P,0<=t.2.2/\t.2.2 < (ks.length:Int))(hd:s[d]?=some (.dt<|P.map kvOf))(hlen:P.length<=100) :
   (May e stk ks w h P (x,y,k)->∃ s2,zav (fr7 bed row d i x y k) s=some (.nx (fr7 bed row d i x y k),s2)/\s2[d]?=some (.dt<|(P++[(x,y,k)]).map kvOf)/\Fr d s s2) /\
   (¬ May e stk ks w h P (x,y,k)->∃ s2,zav (fr7 bed row d i x y k) s=some (.rt (.tup [.int i,.ref d]),s2)/\s2[d]?=some (.dt<|P.map kvOf)/\Gr s s2):=by
 have ht:=zkF (row:=row) (i:=i) (x:=x) (y:=y) (k:=k) c hd;have ret:∀ s:Sto,mR (mU<|zac (mV 3)<|zac (mV 2)<|mZ) (fr7 bed row d i x y k) s=some (.rt (.tup [.int i,.ref d]),s):=fun s=>by unfold fr7;simp
 by_cases hok:(decide (0<=x/\x < w)&&(decide (0<=y/\y < h)&&(!(fnd P x y).isSome&&decide (0<=k/\k < (ks.length:Int)))))=true
 . rw[hok] at ht;simp only[Am,decide_eq_true_eq,BF,Option.isSome_eq_false_iff,DW] at hok;obtain⟨hx,hy,hf,hk⟩:=hok;have htile:zbV w h ks.length (x,y,k):=⟨hx.1,hx.2,hy.1,hy.2,hk.1,hk.2⟩
   obtain⟨hs,i0,ie,_,i2⟩:=c.at_;obtain⟨f,b0,b1,b2,b3,ek,es,hok⟩:=zcE c.ks (k:=k) hk.1 hk.2;obtain⟨s2,e2,g2⟩:=zgR (x:=x) (y:=y) c.bed c.ks c.stk (by have:=c.hs.sl;omega) hP hk.1 hk.2 hd;have hk2:((k.toNat:Nat):Int)=k:=Cz hk.1;have sb:=zn0 (stk:=stk) (ks:=ks) (P:=P) (x:=x) (y:=y) (k:=k.toNat) (by rw[hk2,es];rfl);rw[hk2] at sb;rw[sb] at e2;have j0:=i0 s2;have je:=ie s2;have tst:mT (mB ltD (zas zbH<|zac (mV 0)<|zac (mV 2)<|zac (mU<|zac (mV 4)<|zac (mV 5)<|mZ)<|zac (mV 6)<|mZ)<|mB ixA (mB ixA (mV 0)<|mK<|.int 0)<|mK<|.int 0) (fr7 bed row d i x y k) s=some (decide (sth stk ks P x y k.toNat < e),s2):=by unfold fr7;simp[e2,j0,je]
   have d2:=(g2.old _<|getElem?_lt hd).trans hd
   constructor
   . intro hm;have hR:e<=sth stk ks P x y k.toNat:=hm.2.2;rw[decide_eq_false (by omega)] at tst;have ed:=zfF (x:=x) (y:=y) (k:=k) d2 (by omega);rw[zeN hf] at ed;refine⟨s2.set d<|.dt<|(P++[(x,y,k)]).map kvOf,?_,AH<|getElem?_lt d2,(g2.fr d).trans<|Fn _ _ _⟩;unfold zav;exact zal (ifF ht)<|zal (ifF tst)<|znd ed
   intro hm;have hR:¬ e<=sth stk ks P x y k.toNat:=fun z=>hm ⟨htile,hf,z⟩;rw[decide_eq_true (by omega)] at tst;refine⟨s2,?_,d2,g2⟩;unfold zav;exact zal (ifF ht)<|zdy<|ifT tst<|ret s2
 . have hb:(decide (0<=x/\x < w)&&(decide (0<=y/\y < h)&&(!(fnd P x y).isSome&&decide (0<=k/\k < (ks.length:Int)))))=false:=by simpa using hok
   rw[hb] at ht
   constructor
   . intro hm;refine absurd ?_ hok;obtain⟨⟨a1,a2,a3,a4,a5,a6⟩,hf,_⟩:=hm;have hf:fnd P x y=none:=hf;have a1:0<=x:=a1;have a2:x < w:=a2;have a3:0<=y:=a3;have a4:y < h:=a4;have a5:0<=k:=a5;have a6:k < (ks.length:Int):=a6;simp[a1,a2,a3,a4,a5,a6,hf]
   intro _;refine⟨s,?_,hd,Gr.refl _⟩;unfold zav;exact zdy<|ifT ht<|ret s
end
variable {sd S:List Tl}{st:Sto}
inductive Fb (L:Option (D×Sto)) (st:Sto):Option Nat×List Tl->Prop
 | mk (o:Option Nat) (P:List Tl) (d:Nat) (s:Sto) (h1:L=some (.tup [match o with | none=>D.non | some j=>.int (j:Nat),.ref d],s)) (h2:s[d]?=some (.dt (P.map kvOf))) (h3:Gr st s) (h4:st.length<=d):Fb L st (o,P)
def znc(c:Ctx (bedD e stk ks w h sd) e stk ks w h)(hsd:∀ t∈sd,zbV w h ks.length t)(nd:PlNd sd)(hl:sd.length<=6)(hS:S.length<=12) :
   Fb (za2 [bedD e stk ks w h sd,.tup (S.map tD)] st) st (fb (May e stk ks w h) sd 0 S):=by
 obtain⟨d,s1,e1,a1,hd,g1⟩:=zgN (ts:=sd) (st:=st) (by omega);rw[zjj nd] at a1;have key:=ziH (A:=May e stk ks w h) (g:=gTp 2 (gC (gNm 3)<|gC (gTp 3<|gC (gNm 4)<|gC (gNm 5)<|gC (gNm 6)<|gN0)<|gN0)) (m:=zav) (r:=fun j _=>.tup [.int (j:Nat),.ref d]) (N:=S.length) (dd:=pairs (S.map tD))
   (Inv:=fun i P ρ s=>(∃ a b f q,ρ=[some (bedD e stk ks w h sd),some (.tup<|S.map tD),some (.ref d),a,b,f,q])/\s[d]?=some (.dt<|P.map kvOf)/\Gr st s/\P.length<=6+i/\∀ t∈P,0<=t.2.2/\t.2.2 < (ks.length:Int))
   (J := fun P s=>s[d]?=some (.dt<|P.map kvOf)/\Gr st s) (fun i t P ρ s hi hI=>by
     obtain⟨⟨a,b,f,q,rfl⟩,at_,gr,hlen,hP⟩:=hI;obtain⟨x,y,k⟩:=t;obtain⟨hy,hn⟩:=zkE (row:=.tup (S.map tD)) (i:=(i:Nat)) (x:=x) (y:=y) (k:=k) c hP at_ (by omega);refine⟨fr7 (bedD e stk ks w h sd) (.tup<|S.map tD) d (i:Nat) x y k,s,rfl,fun hm=>?_,fun hm=>?_⟩
     . obtain⟨s2,e2,d2,f2⟩:=hy hm;refine⟨_,s2,e2,⟨_,_,_,_,rfl⟩,d2,⟨Aw gr.len f2.len,fun j hj=>(f2.old j (Av hj gr.len)<|by omega).trans (gr.old j hj)⟩,by simp;omega,fun u hu=>?_⟩
       rcases List.mem_append.mp hu with hu | hu
       . exact hP u hu
       . cases List.mem_singleton.mp hu
         exact⟨hm.1.2.2.2.2.1,hm.1.2.2.2.2.2⟩
     obtain⟨s2,e2,d2,g2⟩:=hn hm;exact⟨s2,e2,d2,gr.trans g2⟩) S sd 0 [some (bedD e stk ks w h sd),some (.tup<|S.map tD),some (.ref d),none,none,none,none] s1 (by simp) ⟨⟨_,_,_,_,rfl⟩,a1,g1,by omega,fun t ht=>⟨(hsd t ht).2.2.2.2.1,(hsd t ht).2.2.2.2.2⟩⟩
 rw[ziS] at key;have x2:∀ s:Sto,ixA (bedD e stk ks w h sd) (.int 2) s=some (zaH sd,s):=fun s=>zaR (by decide) rfl;have start:∀ r,mS (mF (ziF<|mV 1) (gTp 2<|gC (gNm 3)<|gC (gTp 3<|gC (gNm 4)<|gC (gNm 5)<|gC (gNm 6)<|gN0)<|gN0)<|zav) (mR<|mU<|zac (mK .non)<|zac (mV 2)<|mZ) [some (bedD e stk ks w h sd),some (.tup<|S.map tD),some (.ref d),none,none,none,none] s1=r->zby [some (bedD e stk ks w h sd),some (.tup<|S.map tD),none,none,none,none,none] st=r:=by intro r hr;unfold zby;generalize bedD e stk ks w h sd=bed at *;generalize S.map tD=RR at *;exact zal (ρ1:=[some bed,some (.tup RR),some (.ref d),none,none,none,none]) (s1:=s1) (by simp[x2,e1]) hr
 have hen:ziF (mV 1) [some (bedD e stk ks w h sd),some (.tup<|S.map tD),some (.ref d),none,none,none,none] s1=some (⟨pairs<|S.map tD,[]⟩,s1):=zgk rfl;generalize hfb:fb (May e stk ks w h) sd 0 S=o at key ⊢
 cases key with
 | on P ρ s2 e2 q =>
   obtain⟨⟨a,b,f,q,rfl⟩,at_,gr,_,_⟩:=q;refine .mk none P d s2 (zbL<|start _ ?_) at_ gr hd;generalize bedD e stk ks w h sd=bed at *;generalize S.map tD=RR at *;refine zal (ρ1:=[some bed,some (.tup RR),some (.ref d),a,b,f,q]) (s1:=s2) (by rw[zcO,hen];exact e2) ?_;simp
 | at_ j P s2 e2 q =>
   refine .mk (some j) P d s2 (zbL<|start _<|zdy ?_) q.1 q.2 hd;rw[zcO,hen];exact e2
def any1:anyE (tKls erN) "NoGrowing" [.fn "NoKind",.fn "NoLine",.fn "NoPlace",.fn "NoText",.fn "NotFramed"]=some false:=by decide +kernel
def any2:anyE (tKls erN) "NoGrowing" [.fn "NotHeld",.fn "NothingBack",.fn "NotSure",.fn "Taken",.fn "TooMany"]=some false:=by decide +kernel
def one1:tKls erN "NoGrowing" "NoGrowing"=some true:=by decide +kernel
def val1:tKlv erN "NoGrowing"=some true:=by decide +kernel
variable {c f:Str}{n:Int}
section
variable {y:Str} {o:Option (Str×Int)} {b:Bool} {ys:List D} {m:ME}
def zo9(h:tKls erN c y=some b):isE (tKls erN) [.er true c o,.fn y] s=some (.bl b,s):=by show (tKls erN c y).map _=_;rw[h];rfl
def zlt(h:anyE (tKls erN) c (.fn y::ys)=some b):isE (tKls erN) [.er true c o,.tup (.fn y::ys)] s=some (.bl b,s):=by show (anyE (tKls erN) c (.fn y::ys)).map _=_;rw[h];rfl
def zrk(h:tKlv erN c=some b)(hm:m ρ s=some (.er true c o,s)):mIsT (tKlv erN) m ρ s=some (.bl b,s):=by unfold mIsT;rw[hm];show (tKlv erN c).map _=_;rw[h];rfl
def ztf(hm:m ρ s=some (.er true c (some (f,n)),s)):mAtE (okE c) f m ρ s=some (.int n,s):=by unfold mAtE;rw[hm];simp[okE]
end
def zrp:MS:=mS (mAsg (zas (isE<|tKls erN)<|zac (mV 3)<|zac (mU<|zac (mK<|.fn "NoKind")<|zac (mK<|.fn "NoLine")<|zac (mK<|.fn "NoPlace")<|zac (mK<|.fn "NoText")<|zac (mK<|.fn "NotFramed")<|mZ)<|mZ)<|gNm 4) (mS (mAsg (mOrV (mV 4)<|zas (isE<|tKls erN)<|zac (mV 3)<|zac (mU<|zac (mK<|.fn "NotHeld")<|zac (mK<|.fn "NothingBack")<|zac (mK<|.fn "NotSure")<|zac (mK<|.fn "Taken")<|zac (mK<|.fn "TooMany")<|mZ)<|mZ)<|gNm 4)<|mIf (zjw (mT<|zas (isE<|tKls erN)<|zac (mV 3)<|zac (mK<|.fn "NoGrowing")<|mZ)<|zjw (mT<|mIsT (tKlv erN)<|mV 3)<|zfv<|mT<|mV 4) (mAsg (mU<|zac (mK<|.str "no")<|zac (mAtE (okE "NoGrowing") "number"<|mV 3)<|mZ)<|gNm 2)<|zdr)
def zph{a b:Option D}:zrp [a,b,some .non,some (.er true "NoGrowing"<|some ("number",n)),none] s=some (.nx [a,b,some (.tup [.str "no",.int n]),some (.er true "NoGrowing"<|some ("number",n)),some (.bl false)],s):=by have e1:=fun s:Sto=>zlt (o:=some ("number",n)) (s:=s) any1;have e2:=fun s:Sto=>zlt (o:=some ("number",n)) (s:=s) any2;have e3:=fun s:Sto=>zo9 (o:=some ("number",n)) (s:=s) one1;have e4:mIsT (tKlv erN) (mV 3) [a,b,some .non,some (.er true "NoGrowing"<|some ("number",n)),some (.bl false)] s=some (.bl true,s):=zrk val1 rfl;have e5:mAtE (okE "NoGrowing") "number" (mV 3) [a,b,some .non,some (.er true "NoGrowing"<|some ("number",n)),some (.bl false)] s=some (.int n,s):=ztf rfl;unfold zrp;refine zal (ρ1:=[a,b,some .non,some (.er true "NoGrowing"<|some ("number",n)),some (.bl false)]) (s1:=s) (by simp[e1]) ?_;refine zal (ρ1:=[a,b,some .non,some (.er true "NoGrowing"<|some ("number",n)),some (.bl false)]) (s1:=s) (by simp[zrH,e2]) ?_;simp[e3,e4,e5]
theorem zkZ:zd5=mS (mAsg (mK .non)<|gNm 2) (mS (zll "told" zeA (zac (mV 0)<|zac (mV 1)<|mZ) 2 3 "NoGrowing" "number" zrp)<|mR<|mV 2):=rfl
variable {i j:Nat}{mm:MA}{ds:List D}{g:GN}{c0:Str}{mh:MS}
def zpY{ρ1:Rho}{s3:Sto}(e1:mm ρ st=some (ds,st))(e2:g ds st=some (erF n,s2))(e3:mh (ρ.set j<|some<|.er true c<|some (f,n)) s2=some (.nx ρ1,s3)):zll c0 g mm i j c f mh ρ st=some (.nx (ρ1.set j none),s3):=by unfold zll;rw[e1];simp only[Ad];rw[e2];simp only[Ad,erF];rw[e3];rfl
variable {ts:List D}
def znR(e1:mm ρ st=some (ds,st))(e2:g ds st=some (.tup ts,s2)):zll c0 g mm i j c f mh ρ st=some (.nx (ρ.set i<|some<|.tup [.str c0,.tup ts]),s2):=by unfold zll;rw[e1];simp only[Ad];rw[e2];rfl
def znS{r:Option (Fl×Sto)}(e1:mm ρ st=some (ds,st))(e2:g ds st=some (erF n,s2))(e3:mh ρ s2=r):zlm g mm mh ρ st=r:=by unfold zlm;rw[e1];simp only[Ad];rw[e2];exact e3
def zlP(e1:mm ρ st=some (ds,st))(e2:g ds st=some (.tup ts,s2)):zlm g mm mh ρ st=some (.nx ρ,s2):=by unfold zlm;rw[e1];simp only[Ad];rw[e2];rfl
variable {o:Option Nat}
def znT(c:Ctx (bedD e stk ks w h sd) e stk ks w h)(hsd:∀ t∈sd,zbV w h ks.length t)(nd:PlNd sd)(hl:sd.length<=6)(hS:S.length<=12) :
   Gn (zbk [bedD e stk ks w h sd,.tup (S.map tD)] st) st (fun P=>.tup [.str "told",zaH (srtT P)]) (fun j=>.tup [.str "no",.int (j:Int)]) (fb (May e stk ks w h) sd 0 S):=by
 have key:=ziX (st:=st) c hsd nd hl hS;generalize bedD e stk ks w h sd=bed at *;generalize D.tup (S.map tD)=row at *;generalize fb (May e stk ks w h) sd 0 S=o at *;have em:∀ ρ:Rho,zac (mV 0) (zac (mV 1)<|mZ) (some bed::some row::ρ) st=some ([bed,row],st):=fun ρ=>by simp
 cases key with
 | on P s e1 g =>
   refine .on P s (zbL ?_) g;rw[zkZ];refine zal (ρ1:=[some bed,some row,some .non,none,none]) (s1:=st) rfl ?_;refine zal (ρ1:=[some bed,some row,some (.tup [.str "told",zaH (srtT P)]),none,none]) (s1:=s) (znR (em _) e1) rfl
 | at_ j P s e1 g =>
   refine .at_ j P s (zbL ?_) g;rw[zkZ];refine zal (ρ1:=[some bed,some row,some .non,none,none]) (s1:=st) rfl ?_;refine zal (ρ1:=[some bed,some row,some (.tup [.str "no",.int (j:Int)]),none,some (.bl false)]) (s1:=s) ?_ rfl;exact zpY (ρ1:=[some bed,some row,some (.tup [.str "no",.int (j:Int)]),some (.er true "NoGrowing"<|some ("number",(j:Int))),some (.bl false)]) (em _) e1 zph
def zi3{P:List Tl}(h0:fb (May e stk ks w h) sd 0 S=(o,P))(hsd:∀ t∈sd,zbV w h ks.length t):∀ t∈P,zbV w h ks.length t :=
 zi4 (A:=May e stk ks w h) (J:=fun P=>∀ t∈P,zbV w h ks.length t) h0 hsd fun P t hP hm u hu=>by
   rcases List.mem_append.mp hu with hu | hu
   . exact hP u hu
   . cases List.mem_singleton.mp hu
     exact hm.1
def zs7(h0:fb (May e stk ks w h) sd 0 S=(o,P))(nd:PlNd sd):PlNd P :=
 zi4 (A:=May e stk ks w h) (J:=PlNd) h0 nd fun P t hP hm=>zoS hP hm.2.1
def zm0(c:Ctx (bedD e stk ks w h sd) e stk ks w h)(hsd:∀ t∈sd,zbV w h ks.length t)(nd:PlNd sd)(hl:sd.length<=6)(hS:S.length<=12) :
   ∃ st',zd2 [bedD e stk ks w h sd,.tup (S.map tD)] st=some (.bl (fb (May e stk ks w h) sd 0 S).1.isNone,st')/\Gr st st':=by
 obtain⟨s1,e1,g1⟩:=zrM (mi:=mWA (mV 1)) (ρ:=[some (bedD e stk ks w h sd),some (.tup<|S.map tD)]) (fr:=[0]) (ρ0:=[some (bedD e stk ks w h sd)]) (st:=st) (as:=S) (f:=tD) (gd:=[]) (b:=tlB w h ks.length) (m:=zd3) rfl (fun _ _=>rfl) rfl (by omega) (fun t ht s gs=>by refine⟨s,?_,Gr.refl _⟩;have:=zp0 (t:=t) (st:=s) c;unfold zd3;generalize bedD e stk ks w h sd=bed at *;simp[this])
 have key:=ziX (st:=s1) c hsd nd hl hS;have all:(fb (May e stk ks w h) sd 0 S).1=none->S.all (tlB w h ks.length)=true:=fun h0=>by
   have q:fb (May e stk ks w h) sd 0 S=(none,(fb (May e stk ks w h) sd 0 S).2):=by rw[<-h0]
   have ht:=zi3 q hsd;rw[zfE _ q] at ht;exact List.all_eq_true.mpr fun t hm=>zk0.mpr (ht t<|AM _ hm)
 have ty:tyName st (.tup<|S.map tD)=some "tuple":=rfl;have t2:subT "tuple" "tuple"=true:=by decide
 have em:zac (mV 0) (zac (mV 1)<|mZ) [some (bedD e stk ks w h sd),some (.tup<|S.map tD)] s1=some ([bedD e stk ks w h sd,.tup (S.map tD)],s1):=by simp
 generalize fb (May e stk ks w h) sd 0 S=o at *;generalize bedD e stk ks w h sd=bed at *;have start:∀ r,(S.all (tlB w h ks.length)=true->mS (zlm zeA (zac (mV 0)<|zac (mV 1)<|mZ)<|mR<|mK<|.bl false) (mR<|mK<|.bl true) [some bed,some (.tup<|S.map tD)] s1=r)->(S.all (tlB w h ks.length)=false->some (Fl.rt (.bl false),s1)=r)->zgo [some bed,some (.tup<|S.map tD)] st=r:=by
   intro r h1 h2;unfold zgo;have tn:zfv (mT<|mIsi "tuple"<|mV 1) [some bed,some (.tup<|S.map tD)] st=some (false,st):=by generalize D.tup (S.map tD)=row at *;simp[ty,t2]
   cases hb:S.all (tlB w h ks.length) with
   | true =>
     rw[hb] at e1;exact zal (ifF<|orR tn<|notB e1)<|h1 hb
   | false =>
     rw[hb] at e1;rw[<-h2 hb];exact zdy<|ifT (orR tn<|notB e1) rfl
 cases key with
 | on P s e2 g =>
   refine⟨s,zbL<|start _ (fun _=>?_) fun hb=>?_,g1.trans g⟩
   . exact zal (zlP em e2) rfl
   rw[all rfl] at hb;cases hb
 | at_ j P s e2 g =>
   by_cases hb:S.all (tlB w h ks.length)=true
   . refine⟨s,zbL<|start _ (fun _=>?_) fun h'=>?_,g1.trans g⟩
     . exact zdy<|znS em e2 rfl
     rw[hb] at h';cases h'
   exact⟨s1,zbL<|start _ (fun h'=>absurd h' hb) fun _=>rfl,g1⟩
end L2.MP.T0
namespace L2.MP.T0
open PySem L2.MP L2.MP.Hd
open L2.MP.Ce (zkM)
def rowD(T:List Tl):D:=.tup<|T.map tD
variable {a:Nat}{s:Sto}
section
variable {R A B:List Tl}
def zj3(ha:a<=R.length):slC (rowD R) none (some (a:Int)) s=some (rowD (R.take a),s):=by unfold rowD;rw[zoa (by rw[Af];exact ha),Gu]
def zqx(ha:a<=R.length):slC (rowD R) (some (a:Int)) (some<|(a:Int)+1) s=some (rowD ((R.drop a).take 1),s):=by unfold rowD;rw[zqi (by rw[Af];exact ha),Gu,Gv]
def zml:slC (rowD R) (some (a:Int)) none s=some (rowD (R.drop a),s):=by
 unfold rowD;rw[zl5 (i:=min a (R.map tD).length) (j:=(R.map tD).length) (by rw[HT.sIx_nat]) rfl,Gv]
 congr 3
 by_cases h:a<=(R.map tD).length
 . rw[Nat.min_eq_left h,List.take_of_length_le (by simp)]
 rw[Nat.min_eq_right (by omega),Cj (by omega:(R.map tD).length<=a)];simp
def zmk:slC (rowD R) (some<|(a:Int)+1) none s=some (rowD (R.drop<|a+1),s):=by have:=zml (R:=R) (a:=a+1) (s:=s);rw[show (((a+1:Nat)):Int)=(a:Int)+1 by omega] at this;exact this
def zie(h:A.length+B.length<=1000):addE (rowD A) (rowD B) s=some (rowD (A++B),s):=zfN h
def zsz{m mk:ME}{ρ:Rho}(h1:m ρ s=some (rowD R,s))(h2:mk ρ s=some (.int (-1),s)):zmQ m mk ρ s=some (rowD R.reverse,s):=by unfold zmQ;rw[h1];simp only[Ad];rw[h2];simp only[Ad,rowD,decide_true,if_true,List.map_reverse]
end
def one5(R:List Tl)(a b:Nat):List (List Tl):=[R.take a++(R.drop b).take 1++R.drop a,R.take a++R.drop (a+1),R.reverse,R++(R.drop a).take 1]
def lst5(R:List Tl)(a:Nat):List Tl:=R.take a++R.drop (a+1)++(R.drop a).take 1
def put1(R:List Tl)(a:Nat)(t:Tl):List Tl:=R.take a++[t]++R.drop (a+1)
def put2(R:List Tl)(a:Nat)(t:Tl):List Tl:=R.take a++[t]++R.drop a
def rows(R:List Tl)(a b:Nat)(Wd:List Tl):List (List Tl):=one5 R a b++[lst5 R a]++Wd.map (put1 R a)++Wd.map (put2 R a)
variable {b:Nat}{Wd:List Tl}
def zmf{R:List Tl}{T:List Tl}(hT:T∈rows R a b Wd):T.length<=R.length+2:=by
 unfold rows one5 at hT;simp only[List.mem_append,A7,AX,or_false,Fs] at hT
 rcases hT with (((rfl | rfl | rfl | rfl) | rfl) | ⟨t,_,rfl⟩) | ⟨t,_,rfl⟩ <;> simp[lst5,put1,put2] <;> omega
variable {l:Nat}{t:Tl}
section
variable {R:List Tl} {a0 a1 a5 a6 a7 a8 a9 a10 a11 a12:Option D}
def rs(R:List Tl)(a b:Nat)(a0 a1 a5 a6 a7 a8 a9 a10 a11 a12:Option D):Rho:=[a0,a1,some (rowD R),some (.int (a:Int)),some (.int (b:Int)),a5,a6,a7,a8,a9,a10,a11,a12]
def zn6(hR:R.length<=8)(ha:a<=R.length)(hb:b<=R.length):mAsg (mL<|zac (mB addE (mB addE (mSlC (mV 2) zdC<|zce<|mV 3)<|mSlC (mV 2) (zce<|mV 4)<|zce<|mB addD (mV 4)<|mK<|.int 1)<|mSlC (mV 2) (zce<|mV 3)<|zdC)<|zac (mB addE (mSlC (mV 2) zdC<|zce<|mV 3)<|mSlC (mV 2) (zce<|mB addD (mV 3)<|mK<|.int 1)<|zdC)<|zac (zmQ (mV 2)<|mNeg<|mK<|.int 1)<|zac (mB addE (mV 2)<|mSlC (mV 2) (zce<|mV 3)<|zce<|mB addD (mV 3)<|mK<|.int 1)<|mZ) (gNm 12) (rs R a b a0 a1 a5 a6 a7 a8 a9 a10 a11 a12) s
  =some (.nx (rs R a b a0 a1 a5 a6 a7 a8 a9 a10 a11<|some<|.ref s.length),s++[.lst ((one5 R a b).map rowD)]):=by
 have t1:=zj3 (s:=s) ha;have t2:=zqx (s:=s) hb;have t3:=zml (R:=R) (a:=a) (s:=s);have t4:=zmk (R:=R) (a:=a) (s:=s);have t5:=zqx (s:=s) ha;have q1:=zie (A:=R.take a) (B:=(R.drop b).take 1) (s:=s) (by simp;omega);have q2:=zie (A:=R.take a++(R.drop b).take 1) (B:=R.drop a) (s:=s) (by simp;omega);have q3:=zie (A:=R.take a) (B:=R.drop (a+1)) (s:=s) (by simp;omega);have q4:=zie (A:=R) (B:=(R.drop a).take 1) (s:=s) (by simp;omega);have rv:=zsz (R:=R) (m:=mV 2) (mk:=mNeg (mK<|.int 1)) (ρ:=rs R a b a0 a1 a5 a6 a7 a8 a9 a10 a11 a12) (s:=s) rfl rfl;unfold one5;unfold rs at *;generalize (a:Int)=A at *;generalize (b:Int)=B at *;generalize rowD R=RR at *;simp only[Ay,BK];generalize rowD (R.take a++(R.drop b).take 1++R.drop a)=T1 at *;generalize rowD (R.take a++R.drop (a+1))=T2 at *;generalize rowD R.reverse=T3 at *;generalize rowD (R++(R.drop a).take 1)=T4 at *;simp[zkY,t1,t2,t3,t4,t5,q1,q2,q3,q4,rv]
def zqe(hR:R.length<=8)(ha:a<=R.length)(hl:s[l]?=some (.lst<|(one5 R a b).map rowD)):mExp (mApp (mV 12)<|zac (mB addE (mB addE (mSlC (mV 2) zdC<|zce<|mV 3)<|mSlC (mV 2) (zce<|mB addD (mV 3)<|mK<|.int 1)<|zdC)<|mSlC (mV 2) (zce<|mV 3)<|zce<|mB addD (mV 3)<|mK<|.int 1)<|mZ) (rs R a b a0 a1 a5 a6 a7 a8 a9 a10 a11<|some<|.ref l) s
  =some (.nx (rs R a b a0 a1 a5 a6 a7 a8 a9 a10 a11<|some<|.ref l),s.set l (.lst<|(one5 R a b++[lst5 R a]).map rowD)):=by
 have t1:=zj3 (s:=s) ha;have t4:=zmk (R:=R) (a:=a) (s:=s);have t5:=zqx (s:=s) ha;have q3:=zie (A:=R.take a) (B:=R.drop (a+1)) (s:=s) (by simp;omega);have q4:=zie (A:=R.take a++R.drop (a+1)) (B:=(R.drop a).take 1) (s:=s) (by simp;omega);have ap:=append_at (x:=rowD (lst5 R a)) hl (by simp[one5]);rw[Bi];simp only[Ay,BK];unfold rs;unfold lst5 at *;generalize (a:Int)=A at *;generalize (b:Int)=B at *;generalize rowD R=RR at *;generalize (one5 R a b).map rowD=OO at *;generalize rowD (R.take a++R.drop (a+1)++(R.drop a).take 1)=T1 at *;have la:zbs s l=some OO:=by simp[zbs,hl]
 simp[zkY,t1,t4,t5,q3,q4,ap,la]
def zss(hR:R.length<=8)(ha:a<=R.length):zaW [some (tD t),some (rowD R),some (.int (a:Int))] s=some (rowD (put1 R a t),s):=by have t1:=zj3 (s:=s) ha;have t4:=zmk (R:=R) (a:=a) (s:=s);have q3:=zie (A:=R.take a) (B:=[t]) (s:=s) (by simp;omega);have q4:=zie (A:=R.take a++[t]) (B:=R.drop (a+1)) (s:=s) (by simp;omega);have q3':addE (rowD<|R.take a) (.tup [tD t]) s=some (rowD (R.take a++[t]),s):=q3;unfold zaW put1;generalize (a:Int)=A at *;generalize rowD R=RR at *;generalize rowD (R.take a++[t]++R.drop (a+1))=T1 at *;generalize tD t=tt at *;simp[zkY,t1,t4,q3',q4]
def zsr(hR:R.length<=8)(ha:a<=R.length):zaV [some (tD t),some (rowD R),some (.int (a:Int))] s=some (rowD (put2 R a t),s):=by have t1:=zj3 (s:=s) ha;have t4:=zml (R:=R) (a:=a) (s:=s);have q3:=zie (A:=R.take a) (B:=[t]) (s:=s) (by simp;omega);have q4:=zie (A:=R.take a++[t]) (B:=R.drop a) (s:=s) (by simp;omega);have q3':addE (rowD<|R.take a) (.tup [tD t]) s=some (rowD (R.take a++[t]),s):=q3;unfold zaV put2;generalize (a:Int)=A at *;generalize rowD R=RR at *;generalize rowD (R.take a++[t]++R.drop a)=T1 at *;generalize tD t=tt at *;simp[zkY,t1,t4,q3',q4]
def zqf{lo:Nat}(hR:R.length<=8)(ha:a<=R.length)(hO:Wd.length<=100)(hl:s[l]?=some (.lst<|(one5 R a b++[lst5 R a]).map rowD))(ho:s[lo]?=some (.lst<|Wd.map tD)) :
   ∃ r s',mAsg (mB addD (mB addD (mV 12)<|zcf (mWA<|mV 11) 1 [2,3] (gNm 0) zbF<|zaW)<|zcf (mWA<|mV 11) 1 [2,3] (gNm 0) zbF<|zaV) (gNm 12) (rs R a b a0 a1 a5 a6 a7 a8 a9 a10 (some<|.ref lo)<|some<|.ref l) s
    =some (.nx (rs R a b a0 a1 a5 a6 a7 a8 a9 a10 (some<|.ref lo)<|some<|.ref r),s')/\s'[r]?=some (.lst<|(rows R a b Wd).map rowD)/\Gr s s':=by
 have wk:∀ q:Sto,Gr s q->mWA (mV 11) (rs R a b a0 a1 a5 a6 a7 a8 a9 a10 (some<|.ref lo)<|some<|.ref l) q=some (⟨Wd.map tD,[(lo,Wd.map tD)]⟩,q):=fun q g=>by have h2:=(g.old _<|getElem?_lt ho).trans ho;unfold rs;generalize Wd.map tD=OO at *;simp[zjD,zbs,h2]
 have hg:∀ q:Sto,Gr s q->walked ⟨Wd.map tD,[(lo,Wd.map tD)]⟩ q=true:=fun q g=>by have:=zfB<|(g.old _<|getElem?_lt ho).trans ho;simp[walked,this]
 obtain⟨s1,e1,g1⟩:=zkM (mi:=mWA (mV 11)) (ρ:=rs R a b a0 a1 a5 a6 a7 a8 a9 a10 (some<|.ref lo) (some<|.ref l)) (st:=s) (as:=Wd) (f:=tD) (gd:=[(lo,Wd.map tD)]) (fr:=[2,3]) (ρ0:=[some (rowD R),some (.int (a:Int))]) (m:=zaW) (h:=fun t=>rowD (put1 R a t)) (wk s<|Gr.refl _) hg rfl (by omega) fun t _ q _=>⟨q,zss hR ha,Gr.refl _⟩;have gA:Gr s (s1++[.lst (Wd.map fun t=>rowD (put1 R a t))]):=g1.trans<|Gr.app _ _;obtain⟨s2,e2⟩:∃ s2,s2=s1++[O.lst (Wd.map fun t=>rowD (put1 R a t))]:=⟨_,rfl⟩
 have at1:=zaG s1<|.lst<|Wd.map fun t=>rowD (put1 R a t);rw[<-e2] at gA at1 e1;have hl2:=(gA.old _<|getElem?_lt hl).trans hl;have ad1:=zg8 hl2 at1 (by simp[one5];omega);obtain⟨s3,e3⟩:∃ s3,s3=s2++[O.lst ((one5 R a b++[lst5 R a]).map rowD++Wd.map fun t=>rowD (put1 R a t))]:=⟨_,rfl⟩
 have at3:=zaG s2<|.lst<|(one5 R a b++[lst5 R a]).map rowD++Wd.map fun t=>rowD (put1 R a t);have g3:Gr s s3:=by rw[e3];exact gA.trans<|Gr.app _ _
 rw[<-e3] at ad1 at3;obtain⟨s4,e4,g4⟩:=zkM (mi:=mWA (mV 11)) (ρ:=rs R a b a0 a1 a5 a6 a7 a8 a9 a10 (some<|.ref lo) (some<|.ref l)) (st:=s3) (as:=Wd) (f:=tD) (gd:=[(lo,Wd.map tD)]) (fr:=[2,3]) (ρ0:=[some (rowD R),some (.int (a:Int))]) (m:=zaV) (h:=fun t=>rowD (put2 R a t)) (wk s3 g3) (fun q g=>hg q (g3.trans g)) rfl (by omega) fun t _ q _=>⟨q,zsr hR ha,Gr.refl _⟩;have gB:Gr s3 (s4++[.lst (Wd.map fun t=>rowD (put2 R a t))]):=g4.trans<|Gr.app _ _;obtain⟨s5,e5⟩:∃ s5,s5=s4++[O.lst (Wd.map fun t=>rowD (put2 R a t))]:=⟨_,rfl⟩
 have at5:=zaG s4<|.lst<|Wd.map fun t=>rowD (put2 R a t);rw[<-e5] at gB at5 e4;have hl5:=(gB.old _<|getElem?_lt at3).trans at3;have ad2:=zg8 hl5 at5 (by simp[one5];omega);refine⟨s5.length,_,?_,zaG s5 _,(g3.trans gB).trans<|Gr.app _ _⟩;have er:(rows R a b Wd).map rowD=(one5 R a b++[lst5 R a]).map rowD++(Wd.map fun t=>rowD (put1 R a t))++Wd.map fun t=>rowD (put2 R a t):=by unfold rows;simp only[Bi,A3];rfl
 rw[er];unfold rs at *;generalize (a:Int)=A at *;generalize (b:Int)=B at *;generalize rowD R=RR at *;generalize zcf (mWA<|mV 11) 1 [2,3] (gNm 0) zbF zaW=M1 at *;generalize zcf (mWA<|mV 11) 1 [2,3] (gNm 0) zbF zaV=M2 at *;simp[e1,ad1,e4,ad2]
end
end L2.MP.T0
namespace L2.MP.T0
open PySem L2.MP L2.MP.Hd
open L2.MP.Hn (zaH srtT)
def odd1(w h K x y k:Int):List Tl:=[(x,y,(k+1) % K),(x+1,y,k),(w,y,k),(x,h,k),(-1,y,k)]
def odd2(K x y k F:Int):List Tl:=[(x,-1,k),(x,y,K),(x,y,-1),(F,y,k),(x,y,0 - F)]
variable {e w h:Int}{stk:List (Str×Int)}{ks:List (List Str)}
section
variable {R:List Tl} {a b:Nat} {s:Sto} {bed:D} {a0 a11 a12:Option D} {x y k F:Int}
def zn8(c:Ctx bed e stk ks w h)(hk:0 < ks.length):mAsg (mL<|zac (mU<|zac (mV 7)<|zac (mV 8)<|zac (mB modD (mB addD (mV 9)<|mK<|.int 1)<|zas lenD<|zac (mB ixA (mB ixA (mV 1)<|mK<|.int 0)<|mK<|.int 2)<|mZ)<|mZ)<|zac (mU<|zac (mB addD (mV 7)<|mK<|.int 1)<|zac (mV 8)<|zac (mV 9)<|mZ)<|zac (mU<|zac (mV 5)<|zac (mV 8)<|zac (mV 9)<|mZ)<|zac (mU<|zac (mV 7)<|zac (mV 6)<|zac (mV 9)<|mZ)<|zac (mU<|zac (mNeg<|mK<|.int 1)<|zac (mV 8)<|zac (mV 9)<|mZ)<|mZ) (gNm 11) (rs R a b a0 (some bed) (some<|.int w) (some<|.int h) (some<|.int x) (some<|.int y) (some<|.int k) (some<|.int F) a11 a12) s
  =some (.nx (rs R a b a0 (some bed) (some<|.int w) (some<|.int h) (some<|.int x) (some<|.int y) (some<|.int k) (some<|.int F) (some<|.ref s.length) a12),s++[.lst ((odd1 w h ks.length x y k).map tD)]):=by
 obtain⟨hs,i0,_,_,i2⟩:=c.at_;have el:lenD [.tup (ks.map zbx)] s=some (.int (ks.length:Int),s):=by rw[zcD,Af]
 have hK:0 < (ks.length:Int):=by omega
 have em:modD (.int<|k+1) (.int (ks.length:Int)) s=some (.int ((k+1) % (ks.length:Int)),s):=by unfold modD intD;simp[hk]
 have j0:=i0 s;have j2:=i2 s;have eo:(odd1 w h ks.length x y k).map tD=[.tup [.int x,.int y,.int ((k+1) % (ks.length:Int))],.tup [.int (x+1),.int y,.int k],.tup [.int w,.int y,.int k],.tup [.int x,.int h,.int k],.tup [.int (-1),.int y,.int k]]:=rfl;have ng:∀ q:Sto,negD (.int 1) q=some (.int (-1),q):=fun _=>rfl;rw[eo];unfold rs;generalize (a:Int)=A at *;generalize (b:Int)=B at *;generalize rowD R=RR at *;generalize D.tup (ks.map zbx)=KK at *;generalize (ks.length:Int)=K at *;simp[j0,j2,el,em,ng]
def zn7{lo:Nat}(c:Ctx bed e stk ks w h)(hlo:s[lo]?=some (.lst<|(odd1 w h ks.length x y k).map tD)):mAsg (mB addD (mV 11)<|mL<|zac (mU<|zac (mV 7)<|zac (mNeg<|mK<|.int 1)<|zac (mV 9)<|mZ)<|zac (mU<|zac (mV 7)<|zac (mV 8)<|zac (zas lenD<|zac (mB ixA (mB ixA (mV 1)<|mK<|.int 0)<|mK<|.int 2)<|mZ)<|mZ)<|zac (mU<|zac (mV 7)<|zac (mV 8)<|zac (mNeg<|mK<|.int 1)<|mZ)<|zac (mU<|zac (mV 10)<|zac (mV 8)<|zac (mV 9)<|mZ)<|zac (mU<|zac (mV 7)<|zac (mV 8)<|zac (mB subD (mK<|.int 0)<|mV 10)<|mZ)<|mZ) (gNm 11) (rs R a b a0 (some bed) (some<|.int w) (some<|.int h) (some<|.int x) (some<|.int y) (some<|.int k) (some<|.int F) (some<|.ref lo) a12) s
  =some (.nx (rs R a b a0 (some bed) (some<|.int w) (some<|.int h) (some<|.int x) (some<|.int y) (some<|.int k) (some<|.int F) (some<|.ref<|s.length+1) a12),s++[.lst ((odd2 ks.length x y k F).map tD)]++[.lst ((odd1 w h ks.length x y k++odd2 ks.length x y k F).map tD)]):=by
 obtain⟨hs,i0,_,_,i2⟩:=c.at_;have el:lenD [.tup (ks.map zbx)] s=some (.int (ks.length:Int),s):=by rw[zcD,Af]
 have j0:=i0 s;have j2:=i2 s;have ng:∀ q:Sto,negD (.int 1) q=some (.int (-1),q):=fun _=>rfl;have hlo2:(s++[O.lst ((odd2 ks.length x y k F).map tD)])[lo]?=some (.lst<|(odd1 w h ks.length x y k).map tD):=by rw[Ao (getElem?_lt hlo)];exact hlo
 have ad:=zg8 hlo2 (zaG s<|.lst<|(odd2 ks.length x y k F).map tD) (by simp[odd1,odd2]);have ls:(s++[O.lst ((odd2 ks.length x y k F).map tD)]).length=s.length+1:=by simp
 rw[ls,<-Bi] at ad;have eo:(odd2 ks.length x y k F).map tD=[.tup [.int x,.int (-1),.int k],.tup [.int x,.int y,.int (ks.length:Int)],.tup [.int x,.int y,.int (-1)],.tup [.int F,.int y,.int k],.tup [.int x,.int y,.int (0 - F)]]:=rfl;rw[eo] at ad ⊢;unfold rs;generalize (odd1 w h ks.length x y k++odd2 ks.length x y k F).map tD=OO at *;generalize (a:Int)=A at *;generalize (b:Int)=B at *;generalize rowD R=RR at *;generalize D.tup (ks.map zbx)=KK at *;generalize (ks.length:Int)=K at *;have ad':addD (.ref lo) (.ref s.length) (s++[O.lst [.tup [.int x,.int (-1),.int k],.tup [.int x,.int y,.int K],.tup [.int x,.int y,.int (-1)],.tup [.int F,.int y,.int k],.tup [.int x,.int y,.int (-F)]]])=some (.ref (s.length+1),s++[O.lst [.tup [.int x,.int (-1),.int k],.tup [.int x,.int y,.int K],.tup [.int x,.int y,.int (-1)],.tup [.int F,.int y,.int k],.tup [.int x,.int y,.int (-F)]]]++[.lst OO]):=by rw[Int.zero_sub] at ad;exact ad
 simp[j0,j2,el,ng,ad']
end
def zjL{n m:Nat}{sd R:List Tl}{st:Sto}(c:Ctx (bedD e stk ks w h sd) e stk ks w h)(hk:0 < ks.length)(hp:PotD n m st)(hm:m<=900000)(hR:R.length<=8) :
   ∃ (S:List Tl) (st':Sto),Y4 (zb8 [.ref n,bedD e stk ks w h sd,rowD R] st=some (rowD S,st')) (S.length<=10) (PotD n (m+4) st') (Fr n st st'):=by
 obtain⟨r1,s1,e1,r1a,r1b,p1,f1⟩:=za1 (many:=(R.length:Int)+1) hp (by omega) (by omega) (by omega);obtain⟨a,rfl⟩:=CT r1a;obtain⟨r2,s2,e2,r2a,r2b,p2,f2⟩:=za1 (many:=(R.length:Int)+1) p1 (by omega) (by omega) (by omega);obtain⟨b,rfl⟩:=CT r2a;have ha:a<=R.length:=by omega
 have hb:b<=R.length:=by omega
 obtain⟨r3,s3,e3,r3a,r3b,p3,f3⟩:=za1 (many:=1000) p2 (by omega) (by omega) (by omega);obtain⟨⟨x,y,k⟩,ht⟩:∃ t,(R++[((0:Int),(0:Int),(0:Int))])[a]?=some t:=⟨_,Ag (by simp;omega)⟩
 obtain⟨F,hF⟩:∃ F:Int,F=1000000000000000000+r3:=⟨_,rfl⟩
 have hn3:=p3.lt;have hn:n < st.length:=hp.lt
 -- the lists
 have o1:=zn8 (R:=R) (a:=a) (b:=b) (s:=s3) (a0:=some (.ref n)) (a11:=none) (a12:=none) (x:=x) (y:=y) (k:=k) (F:=F) c hk;have o2:=zn7 (R:=R) (a:=a) (b:=b) (s:=s3++[.lst ((odd1 w h ks.length x y k).map tD)]) (a0:=some (.ref n)) (a12:=none) (x:=x) (y:=y) (k:=k) (F:=F) c (zaG s3 _);obtain⟨s4,h4⟩:∃ s4,s4=s3++[O.lst ((odd1 w h ks.length x y k).map tD)]++[.lst ((odd2 ks.length x y k F).map tD)]++[.lst ((odd1 w h ks.length x y k++odd2 ks.length x y k F).map tD)]:=⟨_,rfl⟩
 have at4:s4[(s3++[O.lst ((odd1 w h ks.length x y k).map tD)]).length+1]?=some (.lst ((odd1 w h ks.length x y k++odd2 ks.length x y k F).map tD)):=by have:=zaG (s3++[O.lst ((odd1 w h ks.length x y k).map tD)]++[.lst ((odd2 ks.length x y k F).map tD)]) (.lst ((odd1 w h ks.length x y k++odd2 ks.length x y k F).map tD));rw[<-h4] at this;rw[<-this];simp
 rw[<-h4] at o2;have g4:Gr s3 s4:=by rw[h4,Ak,Ak];exact Gr.app _ _
 obtain⟨lo,hlo⟩:∃ lo,lo=(s3++[O.lst ((odd1 w h ks.length x y k).map tD)]).length+1:=⟨_,rfl⟩
 rw[<-hlo] at at4 o2;have o3:=zn6 (R:=R) (a:=a) (b:=b) (s:=s4) (a0:=some (.ref n)) (a1:=some (bedD e stk ks w h sd)) (a5:=some (.int w)) (a6:=some (.int h)) (a7:=some (.int x)) (a8:=some (.int y)) (a9:=some (.int k)) (a10:=some (.int F)) (a11:=some (.ref lo)) (a12:=none) hR ha hb;have o4:=zqe (R:=R) (a:=a) (b:=b) (s:=s4++[.lst ((one5 R a b).map rowD)]) (l:=s4.length) (a0:=some (.ref n)) (a1:=some (bedD e stk ks w h sd)) (a5:=some (.int w)) (a6:=some (.int h)) (a7:=some (.int x)) (a8:=some (.int y)) (a9:=some (.int k)) (a10:=some (.int F)) (a11:=some (.ref lo)) hR ha (zaG s4 _);obtain⟨s5,h5⟩:∃ s5,s5=(s4++[O.lst ((one5 R a b).map rowD)]).set s4.length (.lst ((one5 R a b++[lst5 R a]).map rowD)):=⟨_,rfl⟩
 have at5:s5[s4.length]?=some (.lst ((one5 R a b++[lst5 R a]).map rowD)):=by rw[h5];exact AH (by simp)
 have g5:Gr s4 s5:=by refine⟨by rw[h5];simp,fun j hj=>?_⟩;rw[h5,Ax (by omega),Ao hj]
 rw[<-h5] at o4;have lo5:=(g5.old _ (getElem?_lt at4)).trans at4;obtain⟨r,s6,o5,at6,g6⟩:=zqf (R:=R) (a:=a) (b:=b) (s:=s5) (l:=s4.length) (lo:=lo) (a0:=some (.ref n)) (a1:=some (bedD e stk ks w h sd)) (a5:=some (.int w)) (a6:=some (.int h)) (a7:=some (.int x)) (a8:=some (.int y)) (a9:=some (.int k)) (a10:=some (.int F)) hR ha (by simp[odd1,odd2]) at5 lo5;have g36:Gr s3 s6:=(g4.trans g5).trans g6;have p6:=p3.gr g36;have len25:(rows R a b (odd1 w h ks.length x y k++odd2 ks.length x y k F)).length=25:=by simp[rows,one5,odd1,odd2]
 have el:lenD [.ref r] s6=some (.int 25,s6):=by
   have:zbs s6 r=some ((rows R a b (odd1 w h ks.length x y k++odd2 ks.length x y k F)).map rowD):=by simp only[zbs,at6]
   unfold lenD;simp only[this];simp[len25]
 obtain⟨r7,s7,e7,r7a,r7b,p7,f7⟩:=za1 (many:=25) p6 (by omega) (by omega) (by omega);obtain⟨j,rfl⟩:=CT r7a;have hj:j < (rows R a b (odd1 w h ks.length x y k++odd2 ks.length x y k F)).length:=by omega
 obtain⟨S,hS⟩:∃ S,(rows R a b (odd1 w h ks.length x y k++odd2 ks.length x y k F))[j]?=some S:=⟨_,Ag hj⟩
 have hrn:r≠n:=fun z=>by rw[z] at at6;obtain⟨q1,q2,q3,hq,_⟩:=p6;rw[at6] at hq;have:=congrArg FG (O.lst.inj (Aq hq));rw[Af,len25] at this;simp at this
 have at7:=(f7.old _ (getElem?_lt at6) hrn).trans at6;have ix:ixA (.ref r) (.int (j:Int)) s7=some (rowD S,s7):=zcl at7 (by omega) (by rw[AB];simp[hS]);refine⟨S,s7,zbL ?_,by have:=zmf (AF hS);omega,p7,((f1.trans f2).trans f3).trans ((g36.fr n).trans f7)⟩;have elen:∀ q:Sto,lenD [rowD R] q=some (.int (R.length:Int),q):=fun q=>by unfold rowD;rw[zcD,Af]
 have i1:=c.fl s2;have ad:addE (rowD R) (.tup [.tup [.int 0,.int 0,.int 0]]) s2=some (rowD (R++[((0:Int),(0:Int),(0:Int))]),s2):=zie (A:=R) (B:=[((0:Int),(0:Int),(0:Int))]) (by simp;omega);have ia:ixA (rowD (R++[((0:Int),(0:Int),(0:Int))])) (.int (a:Int)) s2=some (.tup [.int x,.int y,.int k],s2):=zaR (by omega) (by
   show ((R++[((0:Int),(0:Int),(0:Int))]).map tD)[a]?=_;rw[AB,ht]
   rfl)
 have t18:∀ q:Sto,powB (.int 10) (.int 18) q=some (.int 1000000000000000000,q):=fun q=>zrQ [] q;unfold zc2;show mS _ _ [some (.ref n),some (bedD e stk ks w h sd),some (rowD R),none,none,none,none,none,none,none,none,none,none] st=_;unfold rs at o1 o2 o3 o4 o5;generalize rowD (R++[((0:Int),(0:Int),(0:Int))])=RZ at *;generalize rowD R=RR at *;generalize bedD e stk ks w h sd=bed at *;generalize (R.length:Int)=L at *;generalize (1000000000000000000:Int)=big at *;refine zal (ρ1:=[some (.ref n),some bed,some RR,some (.int (a:Int)),some (.int (b:Int)),none,none,none,none,none,none,none,none]) (s1:=s2) (by simp[elen,e1,e2]) ?_;refine zal (ρ1:=[some (.ref n),some bed,some RR,some (.int (a:Int)),some (.int (b:Int)),some (.int w),some (.int h),none,none,none,none,none,none]) (s1:=s2) (by simp[i1]) ?_;refine zal (ρ1:=[some (.ref n),some bed,some RR,some (.int (a:Int)),some (.int (b:Int)),some (.int w),some (.int h),some (.int x),some (.int y),some (.int k),none,none,none]) (s1:=s2) (by simp[ad,ia]) ?_;refine zal (ρ1:=[some (.ref n),some bed,some RR,some (.int (a:Int)),some (.int (b:Int)),some (.int w),some (.int h),some (.int x),some (.int y),some (.int k),some (.int F),none,none]) (s1:=s3) (by simp[t18,e3,hF]) ?_;refine zal o1 (zal o2 (zal o3 (zal o4 (zal o5 ?_))));simp[el,e7,ix]
end L2.MP.T0
namespace L2.MP.T0
open PySem L2.MP L2.MP.Hd
open L2.MP.Hn (zaH srtT za6)
open L2.MP.Ce (ifT ifF ifB tstB notB orR)
def zk7(b:Bool):∃ z:Str,∀ st:Sto,zgB [.bl b] st=some (.str z,st):=by cases b <;> exact⟨_,fun _=>rfl⟩
def zoT:NmOk "told":=⟨by decide,by decide⟩
def zsN:NmOk "no":=⟨by decide,by decide⟩
variable {s:Sto}{k:Int}{a5 a6 a7 a8 a9:Option D}
section
variable {e w h:Int} {stk:List (Str×Int)} {ks:List (List Str)} {sd S:List Tl} {st:Sto}
def zrv(c:Ctx (bedD e stk ks w h sd) e stk ks w h)(hsd:∀ t∈sd,zbV w h ks.length t)(nd:PlNd sd)(hl:sd.length<=6)(hS:S.length<=10){V:D}
   (hV:Gn (some (V,s)) st (fun P=>.tup [.str "told",zaH (srtT P)]) (fun j=>.tup [.str "no",.int (j:Int)]) (fb (May e stk ks w h) sd 0 S)):∃ z:Str,∀ st:Sto,zgB [V] st=some (.str z,st):=by
 have w1:=c.fo.w1;have h1:=c.fo.h1;have k1:=c.hs.hi;generalize hfb:fb (May e stk ks w h) sd 0 S=o at hV
 cases hV with
 | on P s e1 g =>
   cases e1;have ht:=zi3 hfb hsd;have hP:=zfE _ hfb;have t1:Tame 1680 3 (.str "told"):=(zhL zoT).up (by decide) (by decide);have t2:Tame 1680 3 (zaH<|srtT P):=zhM (w:=w) (h:=h) (kn:=ks.length) (fun t hm=>ht t ((za6 P).mem_iff.mp hm)) (by rw[(za6 P).length_eq,hP];simp;omega) (by omega) (by omega) (by omega);exact zk6 (zeD (w:=1680) (k:=3) (L:=2) (fun d hd=>by
     simp only[A7,AX,or_false] at hd
     rcases hd with rfl | rfl
     . exact t1
     exact t2) (by simp)) (by decide) (by decide)
 | at_ j P s e1 g =>
   cases e1;have hj:=zr5 _ hfb;have t1:Tame 8 1 (.str "no"):=zhL zsN;have t2:Tame 8 1 (.int (j:Int)):=zeE (by omega) (by omega);exact zk6 (zeD (w:=8) (k:=1) (L:=2) (fun d hd=>by
     simp only[A7,AX,or_false] at hd
     rcases hd with rfl | rfl
     . exact t1
     exact t2) (by simp)) (by decide) (by decide)
def r10(NS:List D)(k:Int)(n:Nat)(bed row:D)(a5 a6 a7 a8 a9:Option D):Rho:=[some (.kl NS),some (.int k),some (.ref n),some bed,some row,a5,a6,a7,a8,a9]
def znQ{NS:List D}{n m:Nat}{R:List Tl}(c:Ctx (bedD e stk ks w h sd) e stk ks w h)(hsd:∀ t∈sd,zbV w h ks.length t)(nd:PlNd sd)(hl:sd.length<=6)(hR:R.length<=8)(hp:PotD n m st)(hm:m<=900000) :
   ∃ b6 b7 b8 b9 st',zha (r10 NS k n (bedD e stk ks w h sd) (rowD R) a5 a6 a7 a8 a9) st=some (.nx (r10 NS k n (bedD e stk ks w h sd) (rowD R) a5 b6 b7 b8 b9),st')/\PotD n (m+4) st':=by
 obtain⟨S,s1,e1,lS,p1,f1⟩:=zjL c c.hs.lo hp hm hR;have hS12:S.length<=12:=by omega
 have kF:=znc (S:=S) (st:=s1) c hsd nd hl hS12
 -- the due and all that is told
 obtain⟨num,d,V,z,B,z2,s2,s3,e2,e3,isn,g2,g3,tl,rw1,rp,rb⟩:∃ (num:D) (d:Nat) (V:D) (z:Str) (B:Bool) (z2:Str) (s2 s3:Sto),za2 [bedD e stk ks w h sd,.tup (S.map tD)] s1=some (.tup [num,.ref d],s2) /\
     (∀ ρ,mIte (mT (mB isBD (mV 7) (mK .non))) (mU (zac (mK (.str "told")) (zac (zas zaL (zac (mV 8) mZ)) mZ))) (mU (zac (mK (.str "no")) (zac (mV 7) mZ))) (r10 NS k n (bedD e stk ks w h sd) (rowD R) a5 (some (rowD S)) (some num) (some (.ref d)) ρ) s2=some (V,s3)) /\
     (∀ s:Sto,isBD num .non s=some (.bl B,s))/\Gr s1 s2/\Gr s2 s3/\(∀ s:Sto,∃ s',zbk [bedD e stk ks w h sd,.tup (S.map tD)] s=some (V,s')/\Gr s s')/\(∀ s:Sto,∃ s',zd2 [bedD e stk ks w h sd,.tup (S.map tD)] s=some (.bl B,s')/\Gr s s')/\(∀ s:Sto,zgB [V] s=some (.str z,s))/\(∀ s:Sto,zgB [.bl B] s=some (.str z2,s)):=by
   have tv:=fun s:Sto=>znT (S:=S) (st:=s) c hsd nd hl hS12;have iv:=fun s:Sto=>zm0 (S:=S) (st:=s) c hsd nd hl hS12;have du:=fun (V:D) (s s':Sto) (q:Gn (some (V,s')) s _ _ _)=>zrv (S:=S) c hsd nd hl lS q;generalize hfb:fb (May e stk ks w h) sd 0 S=o at kF tv iv du
   cases kF with
   | mk oo P d s2 e2 at2 g2 hd =>
     cases oo with
     | none =>
       have hP:=zfE _ hfb;obtain⟨s3,e3,g3⟩:=zeH at2 (zs7 hfb nd) (by rw[hP];simp;omega);obtain⟨z,hz⟩:=du (.tup [.str "told",zaH (srtT P)]) s1 s1 (.on P s1 rfl (Gr.refl _));obtain⟨z2,hz2⟩:=zk7 true;have isn:∀ s:Sto,isBD .non .non s=some (.bl true,s):=fun _=>rfl;refine⟨.non,d,.tup [.str "told",zaH (srtT P)],z,true,z2,s2,s3,e2,fun ρ=>?_,isn,g2,g3,fun s=>?_,fun s=>?_,hz,hz2⟩
       . unfold r10;generalize bedD e stk ks w h sd=bed at *;generalize rowD R=RR at *;generalize rowD S=SS at *;unfold mIte;simp[isn,e3]
       . have q:=tv s
         cases q with
         | on _ s' e g=>exact⟨s',e,g⟩
       exact iv s
     | some j =>
       obtain⟨z,hz⟩:=du (.tup [.str "no",.int (j:Int)]) s1 s1 (.at_ j P s1 rfl (Gr.refl _));obtain⟨z2,hz2⟩:=zk7 false;have isn:∀ s:Sto,isBD (.int (j:Nat)) .non s=some (.bl false,s):=fun _=>rfl;refine⟨.int (j:Nat),d,.tup [.str "no",.int (j:Int)],z,false,z2,s2,s2,e2,fun ρ=>?_,isn,g2,Gr.refl _,fun s=>?_,fun s=>?_,hz,hz2⟩
       . unfold r10;generalize bedD e stk ks w h sd=bed at *;generalize rowD R=RR at *;generalize rowD S=SS at *;generalize ((j:Nat):Int)=J at *;unfold mIte;simp[isn]
       . have q:=tv s
         cases q with
         | at_ _ _ s' e g=>exact⟨s',e,g⟩
       exact iv s
 obtain⟨s4,e4,g4⟩:=tl s3;obtain⟨s5,e5,g5⟩:=rw1 s4;obtain⟨s6,e6,g6⟩:=tl s5;have gr:Gr s1 s6:=(((g2.trans g3).trans g4).trans g5).trans g6;refine⟨some (rowD S),some num,some (.ref d),some V,s6,?_,p1.gr gr⟩;have ns:∀ s:Sto,neS (.str z) (.str z) s=some (.bl false,s):=fun _=>zlj;have n2:∀ s:Sto,neS (.str z2) (.str z2) s=some (.bl false,s):=fun _=>zlj;have e2':za2 [bedD e stk ks w h sd,rowD S] s1=some (.tup [num,.ref d],s2):=e2;have e4':zbk [bedD e stk ks w h sd,rowD S] s3=some (V,s4):=e4;have e5':zd2 [bedD e stk ks w h sd,rowD S] s4=some (.bl B,s5):=e5;have e6':zbk [bedD e stk ks w h sd,rowD S] s5=some (V,s6):=e6;have e3':=e3 a9;unfold zha;unfold r10 at *;generalize bedD e stk ks w h sd=bed at *;generalize rowD R=RR at *;generalize rowD S=SS at *;refine zal (ρ1:=[some (.kl NS),some (.int k),some (.ref n),some bed,some RR,a5,some SS,a7,a8,a9]) (s1:=s1) (by simp[e1]) ?_;refine zal (ρ1:=[some (.kl NS),some (.int k),some (.ref n),some bed,some RR,a5,some SS,some num,some (.ref d),a9]) (s1:=s2) (by simp[e2']) ?_;generalize mIte (mT (mB isBD (mV 7) (mK .non))) (mU (zac (mK (.str "told")) (zac (zas zaL (zac (mV 8) mZ)) mZ))) (mU (zac (mK (.str "no")) (zac (mV 7) mZ)))=MI at *;refine zal (ρ1:=[some (.kl NS),some (.int k),some (.ref n),some bed,some RR,a5,some SS,some num,some (.ref d),some V]) (s1:=s3) (by simp[e3']) ?_;refine zal (ρ1:=[some (.kl NS),some (.int k),some (.ref n),some bed,some RR,a5,some SS,some num,some (.ref d),some V]) (s1:=s5) (ifF (orR (s1:=s4) (tstB ?_) (tstB ?_))) (ifF (tstB ?_))
 . simp[e4',rp,ns]
 . simp[e5',rb,isn,n2]
 simp[e6',rp,ns]
end
def zmg{ns:List Int}{a2 a3 a4:Option D}(h0:0<=k)(h1:k<=1000) :
   ∃ (b2 b3 b4 b5 b6 b7 b8 b9:Option D) (s':Sto),zg9 [some (.kl<|ns.map D.int),some (.int k),a2,a3,a4,a5,a6,a7,a8,a9] s=some (.nx [some (.kl<|ns.map D.int),some (.int k),b2,b3,b4,b5,b6,b7,b8,b9],s'):=by
 obtain⟨s1,e1,p1,g1⟩:=znx (ns:=ns) (k:=k) (st:=s) h0 h1;generalize hn:s.length=n at *;obtain⟨e,stk,ks,w,h,sd,s2,e2,hs,hf,hsd,⟨l,hsl,ndl⟩,lsd,p2,f2⟩:=zpF p1 (by omega);have nd:PlNd sd:=by rw[hsl];exact zoX (za6 l) ndl
 have c:Ctx (bedD e stk ks w h sd) e stk ks w h:=zrA hs hf;obtain⟨R,s3,e3,hr,hR,p3,f3⟩:=znN c p2 (by omega) hsd nd lsd;generalize hm:(0:Nat)=m0 at *;obtain⟨m,hmm,p3'⟩:∃ m,m<=850000/\PotD n m s3:=⟨_,by omega,p3⟩
 have key:=zcd (W:=⟨run 0 8,[]⟩) (g:=gNm 5) (m:=zha) (ds:=run 0 8) (ρ:=r10 (ns.map D.int) k n (bedD e stk ks w h sd) (rowD R) a5 a6 a7 a8 a9) (st:=s3)
   (Inv:=fun i ρ s=>(∃ b5 b6 b7 b8 b9,ρ=r10 (ns.map D.int) k n (bedD e stk ks w h sd) (rowD R) b5 b6 b7 b8 b9)/\PotD n (m+4*i) s) ⟨⟨_,_,_,_,_,rfl⟩,p3'⟩ (fun _ _ _ _ _=>rfl) (fun i dd ρ s hd hI=>by obtain⟨⟨b5,b6,b7,b8,b9,rfl⟩,hp⟩:=hI;obtain⟨hi,rfl⟩:=zdP hd;obtain⟨c6,c7,c8,c9,s',e',p'⟩:=znQ (NS:=ns.map D.int) (k:=k) (a5:=some (.int (i:Int))) (a6:=b6) (a7:=b7) (a8:=b8) (a9:=b9) c hsd nd lsd hR hp (by omega);exact⟨r10 (ns.map D.int) k n (bedD e stk ks w h sd) (rowD R) (some<|.int (i:Int)) b6 b7 b8 b9,s,_,s',rfl,e',⟨_,_,_,_,_,rfl⟩,by rw[show m+4*(i+1)=m+4*i+4 by omega];exact p'⟩)
 obtain⟨ρ',s4,el,⟨b5,b6,b7,b8,b9,rfl⟩,_⟩:=key;refine⟨some<|.ref n,some<|bedD e stk ks w h sd,some<|rowD R,b5,b6,b7,b8,b9,s4,?_⟩;have e3':zb7 [.ref n,bedD e stk ks w h sd,.int 8] s2=some (rowD R,s3):=e3;unfold zg9;unfold r10 at el;generalize bedD e stk ks w h sd=bed at *;generalize rowD R=RR at *;generalize ns.map D.int=NS at *;refine zal (ρ1:=[some (.kl NS),some (.int k),some (.ref n),a3,a4,a5,a6,a7,a8,a9]) (s1:=s1) (by simp[e1]) ?_;refine zal (ρ1:=[some (.kl NS),some (.int k),some (.ref n),some bed,a4,a5,a6,a7,a8,a9]) (s1:=s2) (by simp[e2]) ?_;refine zal (ρ1:=[some (.kl NS),some (.int k),some (.ref n),some bed,some RR,a5,a6,a7,a8,a9]) (s1:=s3) (by simp[e3']) ?_;rw[zcO,show mR1 (mK<|.int 8) [some (.kl NS),some (.int k),some (.ref n),some bed,some RR,a5,a6,a7,a8,a9] s3=some (⟨run 0 8,[]⟩,s3) from zj4 (k:=8) rfl rfl (by omega)];exact el
def zmW(ns:List Int)(hl:ns.length<=63):∃ st,zrO [.kl (ns.map D.int)] []=some (.bl true,st):=by
 obtain⟨M,hM,hM4⟩:∃ M:Nat,(1+(if (ns.length:Int) < 3 then (ns.length:Int) else 3))=(M:Int)/\M<=4:=by
   by_cases h:(ns.length:Int) < 3
   . exact⟨1+ns.length,by rw[if_pos h];omega,by omega⟩
   exact⟨4,by rw[if_neg h];rfl,by omega⟩
 have key:=zcd (W:=⟨run 0 M,[]⟩) (g:=gNm 1) (m:=zg9) (ds:=run 0 M) (ρ:=[some (.kl<|ns.map D.int),none,none,none,none,none,none,none,none,none]) (st:=[])
   (Inv:=fun i ρ s=>∃ a b c d e f g h q,ρ=[some (.kl<|ns.map D.int),a,b,c,d,e,f,g,h,q]) ⟨_,_,_,_,_,_,_,_,_,rfl⟩ (fun _ _ _ _ _=>rfl) (fun i dd ρ s hd hI=>by obtain⟨a1,a2,a3,a4,a5,a6,a7,a8,a9,rfl⟩:=hI;obtain⟨hi,rfl⟩:=zdP hd;obtain⟨b2,b3,b4,b5,b6,b7,b8,b9,s',e⟩:=zmg (ns:=ns) (k:=(i:Int)) (a2:=a2) (a3:=a3) (a4:=a4) (a5:=a5) (a6:=a6) (a7:=a7) (a8:=a8) (a9:=a9) (s:=s) (by omega) (by omega);exact⟨[some (.kl<|ns.map D.int),some (.int (i:Int)),a2,a3,a4,a5,a6,a7,a8,a9],s,_,s',rfl,e,_,_,_,_,_,_,_,_,_,rfl⟩)
 obtain⟨ρ',s2,el,a1,a2,a3,a4,a5,a6,a7,a8,a9,rfl⟩:=key;refine⟨s2,zbL ?_⟩;unfold zsf;have elen:lenD [.kl (ns.map D.int)] []=some (.int (ns.length:Int),[]):=by rw[zmV,Af]
 have er:mR1 (mB addD (mK<|.int 1)<|zas zo0<|zac (mK<|.int 3)<|zac (zas lenD<|zac (mV 0)<|mZ)<|mZ) [some (.kl<|ns.map D.int),none,none,none,none,none,none,none,none,none] []=some (⟨run 0 M,[]⟩,[]):=by refine zj4 (s1:=[]) (k:=M) hM ?_ (by omega);generalize ns.map D.int=NS at *;generalize (ns.length:Int)=K at *;simp[elen,zo0]
 refine zal (ρ1:=[some (.kl<|ns.map D.int),a1,a2,a3,a4,a5,a6,a7,a8,a9]) (s1:=s2) (by
   show mF _ _ _ [some (.kl<|ns.map D.int),none,none,none,none,none,none,none,none,none] []=_;rw[zcO,er];exact el) ?_
 simp
end L2.MP.T0
namespace L2.MP.T0
open PySem L2 L2.MP PySem.Spec PyProof.Rows PySem.W
noncomputable abbrev hk:=Hx.hookE fns bls cos ers
end L2.MP.T0
open PySem PySem.W PyProof.Rows L2 L2.MP L2.MP.T0 in
set_option maxRecDepth 100000 in
set_option maxHeartbeats 0 in
theorem PySem.Challenge.cw_stickytiles_k13_no_rows_holds : PySem.Challenge.rw_stickytiles_k13_no_rows.Holds := by
 refine holds_law (by decide +kernel) fun said=>?_;refine holds_open (q:=vw) (loose:=[]) (XP:=XL vw []) (YP:=hk.says) zog hk.of hk.keeps (fun s e=>xl_of s (Bool.and_eq_true_iff.mp e).1) XL.keeps (by rfl) (by rfl) (by rfl) (fun s e=>recFacts_of (Bool.and_eq_true_iff.mp e).2) (by rfl) said (by decide +kernel) ⟨rfl,rfl,rfl,rfl,rfl,by decide +kernel⟩ ?hw ?hc
 case hw=>w_witness2
 case hc =>
   refine Hx.walk_hasE (l:=PySem.Challenge.rw_stickytiles_k13_no_rows) (n:=63) (k:=6) (x:="_law_script") (CX:=CX0) (sp:=fun K=>spM K 1 zrO) rfl (by decide) rfl ⟨rfl,by decide,by decide,rfl⟩ (fun K w mg fa h A B X G e=>?_) (fun K H a ns hl hO hS=>(zmW ns hl).elim fun _ e=>zlY hO hS e) fun _ _ _ _ z=>z;obtain⟨f,⟨oc,od,kV,dc,pm,an,cd,ct,sl,l,c⟩,n,k⟩:=A.fn ("law",top 47) (AF (i:=30) rfl)
   cases e.symm.trans (mg_of X G n)
   exact⟨_,fun s v=>.of_eq rfl,fun base _ _=>zrr (En.of A X G) (EE.of B An X G) (zkC (st:=top 47) l c k)⟩
