import PyProof.Rows.All
import Wide.All
import Wide.FinOn
import PyProof.EqAt
import PyProof.EqKinds
import PyProof.TupleCall
import PyProof.AttrMissHeap
import PyProof.StrWalks
import PyProof.EnumMake
import PyProof.SumWalk
import PyProof.ReprRoads
import PyProof.DictWalks
import PyProof.FitsBits
import PyProof.RulesTry
import PyProof.Rows.RuleIs
import PyProof.DictTruth
import PyProof.Rows.SetFrom
import PyProof.FactsAll.tuple_2
import PyProof.WalksMore
import PyProof.SetScanFacts
import PyProof.Draws
import PyProof.TupleKey
import PyProof.IsRules
import PyProof.NeKinds
import PyProof.FactsAll.dict_2
import PyProof.ExcClass3
import PyProof.InstStoreFacts
import PyProof.RulesAs
import PyProof.AssignAttr
import PyProof.ExcArgs
import PyProof.NsDelKeeps
import PyProof.ExcBaseAll.ValueError
import KE.KDictList
import KE.KDictOf
import KE.KDictSum
import KE.KEqDict
import KE.KIsAll
import KE.KItem
import KE.KSortAsk
import KE.KSortTup
import KE.KTryMore
import OpenK.KCall
import OpenK.KDescr
import OpenK.KDict
import OpenK.KFacts
import OpenK.KGet
import OpenK.KLine
import OpenK.KList
import OpenK.KMake
import OpenK.KNot
import OpenK.KOps
import OpenK.KRaise
import OpenK.KWalk
import OpenK.Peek
import PySem.Challenge.RW_stickytiles_k68_wrong_ones
set_option maxHeartbeats 8000000
set_option maxRecDepth 100000
open PySem renaming wpAny_bind→Aa,wpAny_pure→Ab,wpAny_newObj_type→AN,wpAny_call_entry→AO,wpAny_callSpecial?_slot→AY,wpAny_holding→A0,wpAny_setField→A1,mem_of_lookup→A4,wpAny_field→A7,wpAny_mono→A8,wpAny_ite_split→Bu,wpAny_setState_of→Bx,wpAny_askSetting→Bz,wpAny_loadPart_at→BF,codeAny_builtin→BG,wpAny_seqItems→BJ,wpAny_truthy_bool→BL,wpAny_standAt→BU,wpAny_rule→BY,wpAny_attempt→B2,plainId_quiet→B3,wpAny_typeNameOfWhole_keyiter→B5,wpAny_typeOf→Ca,wpAny_setField_rec→Cd,wpAny_passesOwn→Cg,builtinLookup_eq_fast→Ci,wpAny_setEntries_of→Cu,wpAny_getItem_str_slice→Cy,wpAny_execs_nil→CC,wpAny_Call_Name_kw→CD,tupleKind_room_in1→CG,wpAny_dictEntries→CK,codeAny_mono→CL,wpAny_notOrdered_dict→CO,wpAny_fieldsOf→CP,wpAny_isInstance→CT,post_val_or_str→C8,typeLookup_type→Dc,wpAny_bindName→Dj,wpAny_pyIter_list→Dp,wpAny_pyIter_slot→Dt,wpAny_pyNext_list_item→Du,sizeLine_eq→Dv,wpAny_newList→Dz,wpAny_pyNext_list_end→DC,wpAny_call→DG,pushCells_keeps→DH,wpAny_updateSeq_pair→DN,codeAny_call_builtin→DO,wpAny_isSubtype_exc→DS,wpAny_onRaise→Ec,call_meets→Ek,wpAny_execs_cons→Eo,wpAny_pyNext_tuple_item→EH,wpAny_dictEpoch→ES,codeAny_of_tree→ET,wpAny_pyNext_tuple_end→EV,wpAny_of_eq→Fc,wpAny_isTrue_Compare1→Ff,wpAny_newTuple→Fk,isSubtype_stop→Fp,wpAny_isOneOf_keyiter→Fq,isSubtype_type→Fu,wpAny_pyIter_keyiter→Fz,wpAny_handled→FA,wpAny_dictSet_pairs→FG,seqIndex_neg→FQ,sub_AttributeError→FW,wpAny_entryPlaceOf→FZ,wpAny_assign_Name→F1,wpAny_Assign_Name→F3,wpAny_sequenceKey→F6,wpAny_pyIter_enum→Gb,wpAny_storeSet_of→Gf,fits_of_scanBound→Gg,wpAny_frameOf_fun→Gi,seqIndex_of→Gj,wpAny_throw→Gm,wpAny_letGo→Gn,wpAny_Name→Gy,typeIs_str→GA,call→GB
open PySem.W renaming Frag→Ac,keepIn→BV,fnOf→B8,codeIn→Dk,KitAt→Ea,methodObj→Ef,kitx_dict→Ei,cellsFrom_some→EW,callWith_K→FN,nsIn→FR,kitx_list→F9,kat_kind→Gs,kas_ask→GH,lookIn→GR,kitOne→GU,KdlSrc→GV
open PySem.Heap renaming get?_push_of_some→Ad,lt_size→Aj,get?_push_size→Am,get?_update_self→AG,get?_update_other→AL,size_push→Bl,SameBut→BA,ExtBut→Co,get?_none_of_le→DF,get?_update_ne→FH,get?_push_at→Gh,size_update→Gv,MadeExcOf→GX
open Option renaming bind_some→Ae,map_some→A9,getD_some→DA,isNone_none→DZ,isSome_map→Eh,map_none→EU,isSome_some→FO,getD_none→Gp,bind→Hr,map→Hu
open List renaming length_map→Af,getElem?_eq_getElem→Ah,getElem?_append_left→Ai,mem_cons_of_mem→Ak,append_nil→Al,mem_cons_self→Ao,append_assoc→Aq,getElem?_set_ne→As,size_toArray→Aw,map_cons→Ax,getD_eq_getElem?_getD→Ay,length_cons→AC,getElem?_map→AD,getElem?_set_self→AF,getElem?_cons_zero→AH,mem_of_getElem?→AI,length_append→AM,not_mem_nil→AS,getElem?_cons_succ→AU,getElem?_append_right→AV,mem_cons→AW,mem_append_right→A2,find?_cons→Ba,map_map→Be,length_nil→Bf,lookup_cons→Bj,range→Bo,length_take→Bv,replicate→BD,length_singleton→BH,getElem_mem→BI,map_append→BP,mem_append_left→BX,length_set→BZ,eq_nil_of_length_eq_zero→B4,toArray→Cc,map_nil→Cp,take_length→Ct,getElem?_replicate→Cw,getElem?_set→CJ,length_replicate→CM,getElem?_eq_none→CQ,any_cons→CV,sum_cons→CW,filterMap_cons→C0,getElem?_range→C1,mergeSort_perm→C2,map_congr_left→C4,of_mem_zip→C5,drop_eq_getElem_cons→C7,nodup_nil→Dl,forIn_nil→Dm,length_range→Dr,take_add_one→Ds,drop_eq_nil_of_le→Dw,getElem_of_mem→DR,mem_singleton→D0,contains_cons→D4,set_comm→D7,length_eraseIdx_of_lt→Ed,ext_getElem?→Ej,length_drop→Et,zipIdx_cons→Ew,filter_cons→Ex,pairwise_mergeSort→EK,forIn_cons→EN,lookup→Fe,drop_zero→Fg,getElem?_toArray→Fh,countP_mono_left→Fi,mem_of_mem_take→Fy,nodup_append→F7,getElem?_inj→F8,foldl_append→Gc,countP_cons→Gq,getElem_map→Gu,all_eq_true→Gw,isEmpty_map→Gx,nodup_cons→GC,zipIdx_nil→GJ,length_zip→GK,foldl_cons→GO,nil_append→GP,all_cons→G6,sum_nil→Hg
open Nat renaming le_refl→Ag,ne_of_lt→An,lt_of_lt_of_le→Av,le_trans→Az,lt_irrefl→AZ,zero_le→Bc,ne_of_gt→Br,le_of_lt→BQ,le_succ→BR,lt_trans→B9,lt_of_le_of_lt→Cb,le_of_succ_le→Cj,lt_succ_of_lt→Ck,le_add_right→Cr,sub_self→CN,succ_le_succ→CS,mul_add→CZ,mul_one→Dy,lt_succ_self→DB,add_le_add_left→DQ,min_le_right→Es,le_of_eq→Eu,add_assoc→FB,add_sub_cancel→FS,log2_lt→Gk,min_le_left→GD,not_lt_zero→GG,mul_le_mul→GY
open Option.some renaming inj→Ap
open Bool renaming and_eq_true→Ar,false_eq_true→Bd,false_ne_true→Bk,not_eq_true'→BN,or_eq_true→DJ,and_false→GS,or_false→G5,and_true→G7,not_true→G9
open PySem.Value renaming ref→Au,none→AE,builtin→CA,type→CB,isStrOf_shape→DP,int→DY,isStrOf→D6,str→FI,isInt→Ho
open PySem.Obj renaming data_mapFields→AB,isFreed_of_fields→AQ,mapFields→AR,mapSeq→Bs,cls_mapFields→B1,putSet→GM
open PySem.NameKind renaming free→AJ,cell→A5
open Array renaming length_toList→AK,getElem?_toList→Bp,getD_eq_getD_getElem?→BO,getElem?_eq_getElem→Cn,toList_push→Ge,toList→He
open PySem.Heap.SameBut renaming update→AX
open PySem.Builtin.SmallTypes renaming nextOf→A3,ownedTupleIsFree→BK,ownedTupleHandOut→Dh
open Ne renaming symm→A6
open Int renaming toNat_natCast→Bb,eq_ofNat_of_zero_le→Bq,emod_nonneg→CH,emod_lt_of_pos→CI,le_refl→Dx,le_trans→DL,le_of_lt→DM,zero_add→F0,le_antisymm→GF
open PySem.PassesOwn renaming never→Bg
open Prod.mk renaming inj→Bi
open PySem.PyData renaming canLay0→Bm,strOk→BC,canLayAll0→BM,showable→De,depth→Dg,eqv→DK,intsShortAll→DU,showableAll→D5,intsShort→EC,weightAll→EF,depthAll→EO,weight→FC,int→Hv
open PySem.Around renaming under_plainId→Bt,under→Ep
open PySem.Builtin.Int renaming intBits→Bw
open PySem.Paired renaming length→By,snoc→Hq
open PySem.Str renaming ofString→BB,empty→G4,join→Hl
open PySem.SetTable renaming grown→BE,below→DX,fits→Ee,sizeAbove→FX,layClean→Gd,relaid→GL,laid→G8
open Or renaming inr→BS,inl→B0
open PyProof.Rows renaming slot_tuple_getitem→BW,assignInOrder_cons→B6,callWith_type1→B7,slot_tupleiter_next→C3,listUpdate_at→Eb,assignInOrder_nil→Eg,intBits_le→EL,entry_list_sort→ER,subscriptTail_builtinR→E3,seqEpoch_at→Fb,slot_list_sort→Fm,args_list_sort→Fn,entry_tupleiter_next→Fx,entry_tuple_getitem→FD,args_tupleiter_next→FE,args_tuple_getitem→FP,args_sorted1→FU,unpackItems_tuple→F4,Subscript_→Gz,mul_int→GZ
open PyProof.Rows.F renaming plain_set_update_loop→Cf,entry_set_update_loop→Di
open PySem.Builtin.Slice renaming slicePlaces→Cm,sliceAdjust→C6,sliceApplied→D8
open PySem.Builtin.Tuple renaming tupleExact→Cq,tupleItemsOf→D9
open PySem.AutoSeq1 renaming wpAny_loadPart'→Cs
open PySem.Builtin.Str renaming occurrences→Cv
open PySem.Builtin.Dict renaming updateFrom→Cz,showsAll→DE,dictSlotArgs→El,addKeywords→Ey,selfAndRest→Ez,pairItems→Fd
open True renaming intro→CF
open PySem.Calls renaming Name_function_global→CU,call_function_entry→Da,loadGlobal_global→EG,callWith_builtin→EY,evalArgs_plain→Fv,spliced_cons→FM,spliced_nil→F5
open Sum renaming inl→CY,inr→DV
open Array.Perm renaming refl→C9
open PySem.Builtin.List renaming listTooLong→Df,listLengthHint→D1,listExtendWith→D2,listSameRef→EB
open PySem.F renaming plainAttrs_list→Do,slot_dict_get→DD,args_tuple_add_2→Er,args_dict_get_2→EI,entry_tuple_add→EJ,entry_dict_get→EX,slot_tuple_add→EZ
open List.Pairwise renaming nil→Dq
open ForInStep renaming yield→DI
open PySem.EntryCells renaming newEntry→DT
open PySem.Builtin.Dict_items renaming ownsTuple→DW
open PySem.Code renaming quiet_builtin→D3,isFrame→FL,isGuard→Hf
open Classical renaming byContradiction→Em
open Nat.succ renaming inj→EA
open PySem.Heap.DictOf renaming new→EM
open PySem.W.Looks renaming of_pure→Fj
open PySem.Heap.IsList renaming «at»→Fo
open List.Perm renaming refl→Fs,cons→Ft
open PySem.W.KasFin renaming intro→Fw
open PySem.Flow renaming next→FJ,ret→Hi
open PySem.Heap.IsListIter renaming «at»→FV
open PySem.pickOrder renaming go→FY
open PySem.W.UpdF renaming head→Ga
open StateT renaming run_pure→GI
open List.cons renaming injEq→GQ
open PySem.Builtin.Frozenset renaming updateFrom→GW,newClass→Hc,addrOf→Hj,sizeOf→Hk,slot0→Hm
open PySem.Fin renaming done→Hh
open PySem.W.KatTups renaming cons→Hs,nil→Hw
open PyProof.Rows.SortSt renaming mk'→Ht
open PySem.Heap.IsSliceOf renaming new→Hy
set_option Elab.async false
open PySem renaming Value→IR,model→KB,Heap→KM,Expr→Os,Program→Pv,starEach→P3,compareOp→Re,rawInt→SZ,World→UF,bootBuiltins→UV,Stmt→Wp,eval→W1
open List renaming getElem?_eq_some_iff→KF,mem_cons→M2,mem_singleton→On,mem_map→PP,mem_append→SL
noncomputable section
abbrev Qqa:=PySem.Value->PySem.Shared->Prop
abbrev Qqb (v:PySem.Env) (e:PySem.Expr) (l:List PySem.Expr):Prop:=PySem.starEach (e::l) v=(false,PySem.eval e v)::PySem.starEach l v
abbrev Qqc (p:PySem.Pos) (l:List PySem.Expr) (v:PySem.Env):Prop:=(PySem.backTo p (PySem.starEach l v)).any (·.1)=false
abbrev Qqd:PySem.Obj:={ cls:=.type "dict",data:=.dict #[] }
namespace L2
open PySem PySem.Spec PyProof.Rows
def Nd(s:Wp):Arguments:=match s with
 | .FunctionDef _ a _ _ _ _ _ _ _ _=>a
 | _=>{ posonlyargs:=[],args:=[],vararg:=none,kwonlyargs:=[],kw_defaults:=[],kwarg:=none,defaults:=[] }
def Ki(s:Wp):List Wp:=match s with
 | .FunctionDef _ _ b _ _ _ _ _ _ _=>b
 | _=>[]
def IL(s:Wp):Scope:=match s with
 | .FunctionDef _ _ _ _ _ _ sc _ _ _=>sc
 | _=>{ kind:=.function,names:=[],isGenerator:=false,isCoroutine:=false }
end L2
namespace L2.MP.Hx
open PySem L2 PySem.W PyProof.Rows
def Lq(h:KM):Frag:=(Bo h.objs.size).filterMap fun a=>(h.get? a).map fun o=>(a,o)
def Qx(g:Addr->Option Obj)(ns:Addr)(x:Str):Option (Option IR):=match g ns with
 | some ⟨_,_,.dict es _,_⟩=>(match es.toList.find? (·.key.isStr x) with
     | some e=>some<|some e.val
     | none=>if es.toList.any (·.refKey) then none else some none)
 | _=>none
def eQ(g:Addr->Option Obj)(cd:IR)(q:Str):Bool:=match cd with
 | .ref c=>(match g c with
     | some ⟨_,_,.fields vs,_⟩=>(match vs.toList with | _::.str n _::_=>n==q | _=>false)
     | _=>false)
 | _=>false
def XM(g:Addr->Option Obj)(x:Str):Option (FuncData×Bool):=match Qx g mainGlobals x with
 | some (some<|.ref f)=>(match g f with
     | some ⟨_,_,.func fd,_⟩=>some ({ fd with kwdefaults:=.none,doc:=.none,pyModule:=.none,annotations:=none,code:=.none,closureTuple:=.none },eQ g fd.code x)
     | _=>none)
 | _=>none
def XN(x:Str)(st:Wp):Option (FuncData×Bool):=some (fnOf x x (Nd st) (Ki st) (IL st) .none .none .none .none none .none .none,true)
def XQ(v:Option (Option IR)):Option (Str ⊕ Int):=match v with
 | some (some<|.str s _)=>some<|.inl s
 | some (some<|.int i _)=>some<|.inr i
 | _=>none
def LG(g:Addr->Option Obj)(fns:List (Str×Wp))(bl:List Str)(co:List (Str×(Str ⊕ Int))):List (Option<|FuncData×Bool)×List (Option<|Option IR)×List (Option<|Str ⊕ Int) :=
 (fns.map fun p=>XM g p.1,bl.map fun x=>Qx g mainGlobals x,co.map fun c=>XQ (Qx g mainGlobals c.1))
def N7(fns:List (Str×Wp))(bl:List Str)(co:List (Str×(Str ⊕ Int))):List (Option<|FuncData×Bool)×List (Option<|Option IR)×List (Option<|Str ⊕ Int) :=
 (fns.map fun p=>XN p.1 p.2,bl.map fun _=>some none,co.map fun c=>some c.2)
def inClass(s:Wp)(i:Nat):Wp:=match s with
 | .ClassDef _ _ _ b _ _ _ _ _ _ _=>b.getD i<|.Pass ⟨0,0,0,0⟩
 | _=>.Pass ⟨0,0,0,0⟩
def Mc:List IR:=[.type "ValueError",.type "Exception",.type "BaseException",.type "object"]
def MB:List Str:=["__init__","__setattr__","number","line"]
def N9(K:Frag)(C:Addr):Option (ClassData×Addr×Array DictEntry):=match K.lookup C with
 | some ⟨.type t,_,.cls cd,⟨[_,_,_,_,some (.builtin n),_]⟩⟩=>if t="type"/\n="ValueError.__new__"/\cd.hasDel=false/\cd.hasDict=true then (match K.lookup cd.ns with
     | some ⟨_,_,.dict es _,_⟩=>if es.toList.all (fun e=>match e.key with | .str _ _=>true | _=>false)=true then some (cd,C,es) else none
     | _=>none) else none
 | _=>none
def PQ(K:Frag)(C:Addr):Bool:=findIn K (.ref C) "__getattribute__"==some (some<|.builtin "BaseException.__getattribute__")&&findIn K (.ref C) "__getattr__"==some none&&findIn K (.ref C) "__class__"==some (some<|.builtin "object.__class__")
&&mroIn K C (.type "object")==some true&&mroIn K C (.type "BaseException")==some true&&keepIn K (.ref C)&&kitOne K (.ref C) (.type "ValueError")==some true&&hasDictIn K C
def UG(K:Frag):Bool:=specialIn K (.builtin "object.__class__") "__get__"==some (some<|.builtin "getset_descriptor.__get__")&&takesIn K (.builtin "object.__class__")==some true
structure ED where
 c:Str
 f:Option (Str×Wp)
def UR(K:Frag)(qual:Str)(v:Option IR):Option (FuncData×Bool):=match v with
 | some (.ref f)=>(match K.lookup f with
     | some ⟨.type t,_,.func fd,_⟩=>if t="function" then some ({ fd with kwdefaults:=.none,doc:=.none,pyModule:=.none,annotations:=none,code:=.none,closureTuple:=.none },codeIn K fd.code qual) else none
     | _=>none)
 | _=>none
def UQ(qual:Str)(st:Wp):Option (FuncData×Bool):=some (fnOf "__init__" qual (Nd st) (Ki st) (IL st) .none .none .none .none none .none .none,true)
def La(K:Frag)(c:Str):Option Addr:=match nsIn K mainGlobals c with
 | some (some<|.ref C)=>some C
 | _=>none
noncomputable abbrev MX:=Bool×Option (FuncData×Bool)
def Py(K:Frag)(T:Addr)(d:ED):MX:=match La K d.c with
 | some C=>(match N9 K C with
     | some (cd,_,es)=>(PQ K C&&(cd.mro==.ref C::(if d.c="TileError" then Mc else .ref T::Mc))&&(if d.f.isSome then MB.tail else MB).all (fun n=>(nsFind es n).isNone)&&(match d.f with
           | some (f,_)=>findIn K (.ref C) f==some none&&fastLookup "ValueError" f==some none
           | none=>true),match d.f with
           | some _=>UR K (d.c++".__init__") (nsFind es "__init__")
           | none=>none)
     | none=>(false,none))
 | none=>(false,none)
def Pz(d:ED):MX:=(true,match d.f with
 | some (_,st)=>UQ (d.c++".__init__") st
 | none=>none)
def Mx(c y:Str):Bool:=decide (c=y) || decide (y="TileError")
def Yr(K:Frag)(c y:Str):Bool:=match La K c,La K y with
 | some C,some D=>kitOne K (.ref C) (.ref D)==some (Mx c y)
 | _,_=>false
def MQ(K:Frag)(ds:List ED):Bool×List MX:=match La K "TileError" with
 | some T=>(UG K&&(ds.all fun d=>ds.all fun e=>Yr K d.c e.c),ds.map fun d=>Py K T d)
 | none=>(false,[])
def MR(ds:List ED):Bool×List MX:=(true,ds.map Pz)
noncomputable abbrev Sn (p q:Pv) (l:List Str) (X:Shared->Bool) (s:Shared):=openSeen q l (importedModules p.main.body) X true s
noncomputable abbrev Rn {β:Type} (p:Pv) (N:Nat) (f:Shared->β) (b:UF->β):Prop:=∀ w,(openEnds treeTable p w N).map f=some (b w)
def N3{p q:Pv}{l:List Str}{X:Shared->Bool}{α:Type}{Y:Shared->α}{Z:UF->α}{N:Nat}(h1:Rn p N (fun s=>(Sn p q l X s).1) fun _=>(openGood q l).1)(h2:Rn p N (fun s=>((Sn p q l X s).2.1,(Sn p q l X s).2.2.1)) fun _=>((openGood q l).2.1,(openGood q l).2.2.1))(h3:Rn p N (fun s=>((Sn p q l X s).2.2.2.1,(Sn p q l X s).2.2.2.2.1)) fun _=>((openGood q l).2.2.2.1,(openGood q l).2.2.2.2.1))(h4:Rn p N (fun s=>((Sn p q l X s).2.2.2.2.2.1,(Sn p q l X s).2.2.2.2.2.2.1)) fun _=>((openGood q l).2.2.2.2.2.1,(openGood q l).2.2.2.2.2.2.1))(h5:Rn p N (fun s=>(Sn p q l X s).2.2.2.2.2.2.2) fun _=>(openGood q l).2.2.2.2.2.2.2)(h6:Rn p N Y Z):LeftO p q l X Y Z N:=fun w=>by
 specialize h1 w;specialize h2 w;specialize h3 w;specialize h4 w;specialize h5 w;specialize h6 w;generalize openEnds treeTable p w N=o at *
 cases o with
 | none=>cases h1
 | some s =>
   obtain⟨a,b⟩:=Bi<|Ap h2;obtain⟨c,d⟩:=Bi<|Ap h3;obtain⟨e,f⟩:=Bi<|Ap h4;exact congrArg some<|looks_pair (looks_pair (Ap h1)<|looks_pair a<|looks_pair b<|looks_pair c<|looks_pair d<|looks_pair e<|looks_pair f<|Ap h5)<|Ap h6
end L2.MP.Hx
namespace L2.MP.T0
open PySem L2 PySem.Spec PyProof.Rows PySem.W
def top(i:Nat):Wp:=PySem.Challenge.pw_stickytiles_k68_wrong_ones.main.body.getD i<|.Pass ⟨0,0,0,0⟩
def fns:List (Str×Wp):=("is_whole",top 1)::("is_tuple",top 2)::("is_place",top 3)::("places_around",top 8)::("sides_of",top 9)::("kinds_by_place",top 10)::("names_facing",top 11)::("strength_together",top 12)::("step_price",top 14)::("wrong_ones_from",top 15)::("wrong_ones",top 16)::("_law_spring_of",top 18)::("_law_take",top 19)::("_law_of",top 20)::("_law_hold",top 21)::("_law_lain",top 22)::("_law_name_of",top 23)::("_law_house_of",top 24)::("_law_bed_of",top 25)::("_law_rough_ones",top 26)::("_law_strange",top 27)::("_law_row_of",top 28)::("_law_due_of",top 29)::("_law_told_of",top 30)::("law",top 31)::[]
def QA:List Str:=["isinstance","int","bool","tuple","len","enumerate","zip","sum","dict","range","abs","sorted","set","ValueError","repr"]
def cos:List (Str×(Str ⊕ Int)):=[]
def Qy:List Hx.ED:=[⟨"TileError",none⟩,⟨"NoGrowing",some ("number",Hx.inClass (top 6) 0)⟩]
def vw:Pv:=view PySem.Challenge.pw_stickytiles_k68_wrong_ones [1,2,3,5,6,8,9,10,11,12,14,15,16,18,19,20,21,22,23,24,25,26,27,28,29,30,31]
noncomputable abbrev sX:Shared->Bool:=fun s=>xlAt vw [] s&&recOk [] s
noncomputable abbrev sO (s:Shared):=Hx.Sn PySem.Challenge.pw_stickytiles_k68_wrong_ones vw [] sX s
def sr1:Hx.Rn PySem.Challenge.pw_stickytiles_k68_wrong_ones 20000 (fun s=>((sO s).1)) fun _=>((openGood vw []).1):=fun w=>by kernel_rfl
def sr2:Hx.Rn PySem.Challenge.pw_stickytiles_k68_wrong_ones 20000 (fun s=>((sO s).2.1,(sO s).2.2.1)) fun _=>((openGood vw []).2.1,(openGood vw []).2.2.1):=fun w=>by kernel_rfl
def sr3:Hx.Rn PySem.Challenge.pw_stickytiles_k68_wrong_ones 20000 (fun s=>((sO s).2.2.2.1,(sO s).2.2.2.2.1)) fun _=>((openGood vw []).2.2.2.1,(openGood vw []).2.2.2.2.1):=fun w=>by kernel_rfl
def sr4:Hx.Rn PySem.Challenge.pw_stickytiles_k68_wrong_ones 20000 (fun s=>((sO s).2.2.2.2.2.1,(sO s).2.2.2.2.2.2.1)) fun _=>((openGood vw []).2.2.2.2.2.1,(openGood vw []).2.2.2.2.2.2.1):=fun w=>by kernel_rfl
def sr5:Hx.Rn PySem.Challenge.pw_stickytiles_k68_wrong_ones 20000 (fun s=>((sO s).2.2.2.2.2.2.2)) fun _=>((openGood vw []).2.2.2.2.2.2.2):=fun w=>by kernel_rfl
def sr6:Hx.Rn PySem.Challenge.pw_stickytiles_k68_wrong_ones 20000 (fun s=>((Hx.LG s.heap.get? fns QA cos,Hx.MQ (Hx.Lq s.heap) Qy))) fun _=>((Hx.N7 fns QA cos,Hx.MR Qy)):=fun w=>by kernel_rfl
def rN:LeftO PySem.Challenge.pw_stickytiles_k68_wrong_ones vw [] sX (fun s=>(Hx.LG s.heap.get? fns QA cos,Hx.MQ (Hx.Lq s.heap) Qy)) (fun _=>(Hx.N7 fns QA cos,Hx.MR Qy)) 20000:=Hx.N3 sr1 sr2 sr3 sr4 sr5 sr6
end L2.MP.T0
set_option linter.all false
namespace L2
open PySem PySem.Spec PyProof.Rows
noncomputable abbrev Key:=Sum Int Str
def P6:Key->IR->Bool
 | .inl k,v=>Ho k v
 | .inr x,v=>D6 x v
def XC(w:UF):Key->Int
 | .inl k=>hashInt k
 | .inr x=>hashStr w x
def NJ:∀ {k:Key} {v:IR},P6 k v=true->(∃ i t,k=CY i/\v=DY i t)\/(∃ x t,k=DV x/\v=FI x t)
 | .inl i,v,h=>by obtain⟨t,e⟩:=Value.isInt_shape (k:=i) (v:=v) h;exact .inl ⟨i,t,rfl,e⟩
 | .inr x,v,h=>by obtain⟨t,e⟩:=DP (x:=x) (v:=v) h;exact .inr ⟨x,t,rfl,e⟩
def vP(i:Int)(t:Tok):P6 (.inl i) (.int i t)=true:=by simp[P6,Ho]
def vQ(x:Str)(t:Tok):P6 (.inr x) (.str x t)=true:=by simp[P6,D6]
def iM(a b:Int):decide ((CY a:Key)=CY b)=(a==b):=by
 by_cases e:a=b
 . subst e;simp
 have h:¬ (CY a:Key)=CY b:=fun q=>e<|Sum.inl.inj q;rw[decide_eq_false h];exact (beq_eq_false_iff_ne.mpr e).symm
def iP(a b:Str):decide ((DV a:Key)=DV b)=decide (a=b):=by
 by_cases e:a=b
 . subst e;simp
 have h:¬ (DV a:Key)=DV b:=fun q=>e<|Sum.inr.inj q;rw[decide_eq_false h,decide_eq_false e]
def iN(a:Int)(b:Str):decide ((CY a:Key)=DV b)=false:=decide_eq_false fun q=>nomatch q
def iO(a:Str)(b:Int):decide ((DV a:Key)=CY b)=false:=decide_eq_false fun q=>nomatch q
def IS(prog:Pv)(w:UF):PySem.KeyKind prog w Key where
 is:=P6
 hash:=XC w
 inj:=fun v a b ha hb=>by
   rcases NJ ha with ⟨i,t,rfl,rfl⟩ | ⟨x,t,rfl,rfl⟩
   . rcases NJ hb with ⟨j,u,rfl,e⟩ | ⟨y,u,rfl,e⟩
     . injection e with e1 _;rw[e1]
     exact nomatch e
   . rcases NJ hb with ⟨j,u,rfl,e⟩ | ⟨y,u,rfl,e⟩
     . exact nomatch e
     injection e with e1 _;rw[e1]
 byValue:=fun k v h=>by rcases NJ h with ⟨i,t,rfl,rfl⟩ | ⟨x,t,rfl,rfl⟩ <;> rfl
 pyHash:=fun hv h=>by
   rcases NJ hv with ⟨i,t,rfl,rfl⟩ | ⟨x,t,rfl,rfl⟩
   . exact wpAny_pyHash_int h
   exact wpAny_pyHash_str h
 eqBool:=fun hu hv h=>by
   rcases NJ hu with ⟨i,t,rfl,rfl⟩ | ⟨x,t,rfl,rfl⟩
   . rcases NJ hv with ⟨j,u,rfl,rfl⟩ | ⟨y,u,rfl,rfl⟩
     . rw[iM] at h;exact wpAny_eqBool_int h
     rw[iN] at h;exact SeqAt.EqAt.int_str i t y u _ _ _ _ h
   . rcases NJ hv with ⟨j,u,rfl,rfl⟩ | ⟨y,u,rfl,rfl⟩
     . rw[iO] at h;exact SeqAt.EqAt.str_int x t j u _ _ _ _ h
     rw[iP] at h;exact wpAny_eqBool_str h
 «strs»:=fun k x t v h=>by
   rcases NJ h with ⟨i,u,rfl,e⟩ | ⟨y,u,rfl,e⟩
   . exact nomatch e
   . injection e with e1 _
     subst e1
     cases v <;> rfl
def zG(prog:Pv)(w:UF)(i:Int)(t:Tok):(IS prog w).is (.inl i) (.int i t)=true:=vP i t
def zH(prog:Pv)(w:UF)(x:Str)(t:Tok):(IS prog w).is (.inr x) (.str x t)=true:=vQ x t
inductive V where
 | non | bl (b:Bool) | int (i:Int) | str (x:Str) | byt (b:Array UInt8) | flt (b:UInt64) | ref (a:Addr) | ty (n:String)
 deriving DecidableEq
def RelV:V->IR->Prop
 | .non,u=>u=AE
 | .bl b,u=>u=Value.bool b
 | .int i,u=>∃ t,u=DY i t
 | .str x,u=>∃ t,u=FI x t
 | .byt b,u=>∃ t,u=Value.bytes b t
 | .flt b,u=>∃ t,u=Value.float b t
 | .ref a,u=>u=Au a
 | .ty n,u=>u=CB n
noncomputable abbrev Vals:List V->List IR->Prop:=Paired RelV
variable {us:List IR}
def Vals.length{xs:List V}{us:List IR}(r:Vals xs us):xs.length=us.length:=By r
def Vals.get:∀ {xs:List V} {us:List IR} {i:Nat} {x:V},Vals xs us->xs[i]?=some x->∃ u,us[i]?=some u/\RelV x u
 | _,_,_,_,.nil,e=>by simp at e
 | _,_,0,_,.cons r _,e=>by simp at e;subst e;exact⟨_,rfl,r⟩
 | _,_,i+1,x,.cons _ t,e=>by obtain⟨u,h1,h2⟩:=Vals.get (i:=i) (x:=x) t (by simpa using e);exact⟨u,by simpa using h1,h2⟩
variable {u:IR}
def Vals.set{x:V}{u:IR}(r:RelV x u):∀ {xs:List V} {us:List IR} (i:Nat),Vals xs us->Vals (xs.set i x) (us.set i u)
 | _,_,_,.nil=>.nil
 | _,_,0,.cons _ t=>.cons r t
 | _,_,i+1,.cons q t=>.cons q<|Vals.set r i t
def Vals.append:∀ {xs ys:List V} {us ws:List IR},Vals xs us->Vals ys ws->Vals (xs++ys) (us++ws)
 | _,_,_,_,.nil,s=>s
 | _,_,_,_,.cons r t,s=>.cons r<|Vals.append t s
def Vals.take:∀ {xs:List V} {us:List IR} (n:Nat),Vals xs us->Vals (xs.take n) (us.take n)
 | _,_,0,_=>.nil
 | _,_,_+1,.nil=>.nil
 | _,_,n+1,.cons r t=>.cons r<|Vals.take n t
def Vals.drop:∀ {xs:List V} {us:List IR} (n:Nat),Vals xs us->Vals (xs.drop n) (us.drop n)
 | _,_,0,r=>r
 | _,_,_+1,.nil=>.nil
 | _,_,n+1,.cons _ t=>Vals.drop n t
def JC:Option V->Option IR->Prop
 | some v,some u=>RelV v u
 | none,none=>True
 | _,_=>False
variable {κ:Type}
def KV:List (κ×V)->List (κ×IR)->Prop:=Paired fun (p:κ×V) (q:κ×IR)=>p.1=q.1/\RelV p.2 q.2
def kV:Key->V
 | .inl i=>.int i
 | .inr x=>.str x
inductive HO where
  | lst (xs:List V)
  | tup (xs:List V)
  | dK (kvs:List (Key×V)) | dT (kvs:List (List Key×V))
  | set (S:Int->Bool) (n:Nat)
  | ins (C dx:Addr) (fs:List (Str×V))
  | own (x:Addr)
  | xd (fs:List (Str×V))
  | met (f x:Addr)
  | rng (lo hi:Int)
  | frz (o:Obj) (u:HO)
  | tbl (ps:Array IR)
  | ext (φ:KM->Prop)
noncomputable abbrev Hp:=Addr->Option HO
def upd(H:Hp)(a:Addr)(o:HO):Hp:=fun b=>if b=a then some o else H b
variable {H:Hp}{a:Addr}{o:HO}
def JP:upd H a o a=some o:=by unfold upd;rw[if_pos rfl]
variable {b:Addr}
def HV(h:b≠a):upd H a o b=H b:=by unfold upd;rw[if_neg h]
def rF{u:HO}:upd (upd H a o) a u=upd H a u:=by funext b;unfold upd;split <;> rfl
def M7{u:HO}(h:H a=some o)(h':H b=some u)(d:o≠u):a≠b:=by intro e;subst e;rw[h] at h';exact d<|Ap h'
def Jw(h:H a=some o)(h':H b=none):a≠b:=by intro e;subst e;rw[h] at h';cases h'
def Ly(h:KM)(a:Addr)(items:Array IR):Prop:=∃ o,h.get? a=some o/\o.cls=.type "tuple"/\o.dict=none/\∃ n,o.data=.seq items n
variable {h:KM}{items:Array IR}
def Ly.t(x:Ly h a items):IsTup h a items:=let ⟨o,ho,hc,_,r⟩:=x;⟨o,ho,hc,r⟩
variable {h':KM}
def Ly.keeps(x:Ly h a items)(hk:∀ b o,h.get? b=some o->h'.get? b=some o):Ly h' a items:=let ⟨o,ho,r⟩:=x;⟨o,hk a o ho,r⟩
def Ly.new(h:KM)(items:Array IR):Ly (h.push { cls:=.type "tuple",data:=.seq items }) h.objs.size items:=⟨_,Am _ rfl,rfl,rfl,0,rfl⟩
section
variable (P:Pv) (w:UF)
def Ju(H:Hp)(h:KM)(a:Addr):HO->Prop
 | .lst xs=>xs.length<=sizeLine/\∃ (its:List IR) (n:Nat),Vals xs its/\h.get? a=some { cls:=.type "list",data:=.seq its.toArray n }
 | .tup xs=>xs.length<=sizeLine/\∃ its:List IR,Vals xs its/\Ly h a its.toArray
 | .dK kvs=>kvs.length<=sizeLine/\(a==sysModules)=false/\∃ vs,KV kvs vs/\h.DictOf (IS P w) a vs
 | .dT kvs=>kvs.length<=sizeLine/\(a==sysModules)=false/\∃ xs:List (List Key×Addr×IR),
     Paired (fun (p:List Key×V) (q:List Key×Addr×IR)=>p.1=q.1/\H q.2.1=some (.tup<|p.1.map kV)/\RelV p.2 q.2.2) kvs xs /\
     ∃ o es ep,h.get? a=some o/\o.ExactDict/\o.data=.dict es ep/\es.toList=xs.map (entryOfKey<|tupleKind<|IS P w)/\(xs.map (·.1)).Nodup
 | .set S n=>h.SetOf (intKind P w) a S n
 | .ins C dx fs=>H dx=some (.own a)/\fs.length<=1000/\dx≠a/\h.get? a=some (PySem.W.instObj C dx) /\
     ∃ mA,h.Ns1 dx mA/\(∀ f,JC (fs.lookup f) (mA f))/\PySem.Within mA (fs.map (·.1))
 | .own _=>∃ o,h.get? a=some o
 | .xd fs=>∃ mA,h.Ns1 a mA/\∀ f,JC (fs.lookup f) (mA f)
 | .rng lo hi=>∃ t u v,h.get? a=some { cls:=.type "range",data:=.fields #[.int lo t,.int hi u,.int 1 v] }
 | .frz o u=>h.get? a=some o/\Ju H h a u
 | .tbl ps=>h.get? a=some { cls:=.none,data:=.fields ps }
 | .met f x=>h.get? a=some (Ef (.ref f)<|.ref x)
 | .ext φ=>φ h/\(∃ o,h.get? a=some o)/\∀ h1 h2:KM,φ h1->(∀ o,h1.get? a=some o->h2.get? a=some o)->φ h2
def Jn(H:Hp)(h:KM):Prop:=∀ a o,H a=some o->Ju P w H h a o
end
variable {P:Pv}{w:UF}{H':Hp}{α:Type}
def Ju.lt(x:Ju P w H h a o):a < h.objs.size:=by
 cases o with
 | lst xs=>obtain⟨_,_,_,_,e⟩:=x;exact Aj e
 | tup xs=>obtain⟨_,_,_,p⟩:=x;exact p.t.lt
 | dK kvs=>obtain⟨_,_,_,_,o,_,_,e,_⟩:=x;exact Aj e
 | dT kvs=>obtain⟨_,_,_,_,o,_,_,e,_⟩:=x;exact Aj e
 | set S n=>obtain⟨o,_,_,_,e,_⟩:=x;exact Aj e
 | ins C dx fs=>obtain⟨_,_,_,e,_⟩:=x;exact Aj e
 | own y=>obtain⟨_,e⟩:=x;exact Aj e
 | xd fs=>obtain⟨_,⟨_,_,_,e,_⟩,_⟩:=x;exact Aj e
 | rng lo hi=>obtain⟨_,_,_,e⟩:=x;exact Aj e
 | frz ob u=>obtain⟨e,_⟩:=x;exact Aj e
 | tbl ps=>exact Aj (show h.get? a=some _ from x)
 | met f y=>exact Aj (show h.get? a=some _ from x)
 | ext φ=>obtain⟨_,⟨_,e⟩,_⟩:=x;exact Aj e
def Paired.mapP{α β:Type}{F G:α->β->Prop}:∀ {l₁:List α} {l₂:List β},Paired F l₁ l₂->(∀ a b,F a b->G a b)->Paired G l₁ l₂
 | _,_,.nil,_=>.nil
 | _,_,.cons r t,f=>.cons (f _ _ r)<|Paired.mapP t f
def Ju.stay(x:Ju P w H h a o)(k:∀ b u,(b=a\/H b=some (.own a))->h.get? b=some u->h'.get? b=some u)
   (ho:∀ b,H b=some (.own a)->H' b=some (.own a)) (ht:∀ b xs,H b=some (.tup xs)->H' b=some (.tup xs)):Ju P w H' h' a o:=by
 induction o with
 | lst xs=>obtain⟨z,its,n,r,e⟩:=x;exact⟨z,its,n,r,k _ _ (.inl rfl) e⟩
 | tup xs=>obtain⟨z,its,r,ob,e,c⟩:=x;exact⟨z,its,r,ob,k _ _ (.inl rfl) e,c⟩
 | dK kvs=>obtain⟨z,y,vs,r,ob,es,ep,e,c⟩:=x;exact⟨z,y,vs,r,ob,es,ep,k _ _ (.inl rfl) e,c⟩
 | dT kvs =>
   obtain⟨z,y,xs,r,ob,es,ep,e,c⟩:=x;exact⟨z,y,xs,Paired.mapP r fun p q z=>⟨z.1,ht _ _ z.2.1,z.2.2⟩,ob,es,ep,k _ _ (.inl rfl) e,c⟩
 | set S n=>obtain⟨ob,es,ep,t,e,c⟩:=x;exact⟨ob,es,ep,t,k _ _ (.inl rfl) e,c⟩
 | ins C dx fs =>
   obtain⟨d,z,ne,e,mA,⟨od,es,ep,e2,c⟩,r⟩:=x;exact⟨ho _ d,z,ne,k _ _ (.inl rfl) e,mA,⟨od,es,ep,k _ _ (.inr d) e2,c⟩,r⟩
 | own y=>obtain⟨ob,e⟩:=x;exact⟨ob,k _ _ (.inl rfl) e⟩
 | xd fs=>obtain⟨mA,⟨od,es,ep,e,c⟩,r⟩:=x;exact⟨mA,⟨od,es,ep,k _ _ (.inl rfl) e,c⟩,r⟩
 | rng lo hi=>obtain⟨t,u,v,e⟩:=x;exact⟨t,u,v,k _ _ (.inl rfl) e⟩
 | frz ob u ih=>obtain⟨e,q⟩:=x;exact⟨k _ _ (.inl rfl) e,ih q⟩
 | tbl ps =>
   have e:h.get? a=some { cls:=.none,data:=.fields ps }:=x;show h'.get? a=some { cls:=.none,data:=.fields ps };exact k a _ (.inl rfl) e
 | met f y =>
   have e:h.get? a=some (Ef (.ref f)<|.ref y):=x;show h'.get? a=some (Ef (.ref f)<|.ref y);exact k a _ (.inl rfl) e
 | ext φ=>obtain⟨p,⟨o,e⟩,st⟩:=x;exact⟨st _ _ p fun o q=>k _ _ (.inl rfl) q,⟨o,k _ _ (.inl rfl) e⟩,st⟩
def Jn.lt(x:Jn P w H h)(e:H a=some o):a < h.objs.size:=(x a o e).lt
def Jn.fresh(x:Jn P w H h)(e:h.objs.size<=a):H a=none:=by
 cases q:H a with
 | none=>rfl
 | some u=>exact absurd (Av (x.lt q) e)<|AZ _
def Jn.kept(x:Jn P w H h)(k:∀ b u,h.get? b=some u->h'.get? b=some u):Jn P w H h':=fun a o e =>
 (x a o e).stay (fun b u _ q=>k b u q) (fun _ q=>q) fun _ _ q=>q
def Jn.laid(x:Jn P w H h)(k:∀ b u,h.get? b=some u->h'.get? b=some u)(hp:h.objs.size<=a)(new:Ju P w (upd H a o) h' a o):Jn P w (upd H a o) h':=fun b u e=>by
 have hn:=x.fresh hp
 by_cases hb:b=a
 . subst hb;rw[JP] at e;cases e;exact new
 rw[HV hb] at e;exact (x b u e).stay (fun c v _ q=>k c v q) (fun c q=>by rw[HV (Jw q hn)];exact q) fun c xs q=>by rw[HV (Jw q hn)];exact q
def Rd(H:Hp)(a:Addr)(u:HO):Prop:=H a=some u\/∃ o,H a=some (.frz o u)
def Rd.ok{u:HO}(r:Rd H a u)(x:Jn P w H h):Ju P w H h a u:=by
 rcases r with r | ⟨o,r⟩
 . exact x a u r
 obtain⟨_,q⟩:=x a _ r;exact q
def QC:Option HO->Prop
 | some (.lst _)=>True
 | some (.dK _)=>True
 | some (.dT _)=>True
 | some (.set _ _)=>True
 | some (.ins _ _ _)=>True
 | some (.ext _)=>True
 | _=>False
section
variable {x e:Addr} {o':HO}
def Jn.write(ok:Jn P w H h)(mu:QC (H x))(he:e=x\/H e=some (.own x))(k:∀ b u,b≠e->h.get? b=some u->h'.get? b=some u)(heo:∃ u,h'.get? e=some u)
   (new:Ju P w (upd H x o') h' x o'):Jn P w (upd H x o') h':=fun b u q=>by
 have nown:∀ c y,H c=some (.own y)->c≠x:=fun c y r z=>by subst z;rw[r] at mu;exact mu
 have ntup:∀ c xs,H c=some (.tup xs)->c≠x:=fun c xs r z=>by subst z;rw[r] at mu;exact mu
 by_cases hb:b=x
 . subst hb;rw[JP] at q;cases q;exact new
 . rw[HV hb] at q
   by_cases hbe:b=e
   . have q':H b=some (.own x):=by
       rcases he with z | z
       . exact absurd (hbe.trans z) hb
       rw[hbe];exact z
     rw[q] at q';cases q';obtain⟨v,hv⟩:=heo;exact⟨v,by rw[hbe];exact hv⟩
   . refine (ok b u q).stay (fun c v hc r=>k c v ?_ r) (fun c r=>by rw[HV (nown c b r)];exact r) fun c xs r=>by rw[HV (ntup c xs r)];exact r
     rcases hc with rfl | hc
     . exact hbe
     . rintro rfl
       rcases he with z | z
       . exact nown c b hc z
       rw[hc] at z;cases z;exact hb rfl
end
structure Un(fs ex:List Addr)(H H':Hp)(h h':KM):Prop where
 keep:∀ b o,h.get? b=some o->H b=none->b ∉ fs->b ∉ ex->h'.get? b=some o
 slot:∀ b o,h.get? b=some o->H b=none->b∈fs->b ∉ ex->∃ sl,h'.get? b=some { o with slots:=sl }
 free:∀ b o,h.get? b=some o->H b=none->b ∉ ex->H' b=none
 there:∀ b o,h.get? b=some o->b ∉ ex->∃ o',h'.get? b=some o'
 tups:∀ b xs,H b=some (.tup xs)->H' b=some (.tup xs)
 frzs:∀ b o u,H b=some (.frz o u)->H' b=some (.frz o u)
 tbls:∀ b ps,H b=some (.tbl ps)->∃ more,H' b=some (.tbl (ps++more))
section
variable {fs fs' ex ex':List Addr} {H1 H2:Hp} {h1 h2:KM} {x e:Addr}
def Un.any(u:Un fs ex H H1 h h1){ob:Obj}(q:h.get? b=some ob)(n:H b=none)(hx:b ∉ ex):∃ sl,h1.get? b=some { ob with slots:=sl }:=by
 by_cases hb:b∈fs
 . exact u.slot b ob q n hb hx
 exact⟨ob.slots,u.keep b ob q n hb hx⟩
def Un.kept(k:∀ b u,h.get? b=some u->h'.get? b=some u):Un fs ex H H h h' :=
 ⟨fun b ob q _ _ _=>k b ob q,fun b ob q _ _ _=>⟨ob.slots,k b ob q⟩,fun _ _ _ n _=>n,fun b ob q _=>⟨ob,k b ob q⟩,fun _ _ q=>q,fun _ _ _ q=>q,fun _ ps q=>⟨#[],by rw[q];simp⟩⟩
def Un.refl:Un fs ex H H h h:=Un.kept fun _ _ q=>q
def Un.laid(k:∀ b u,h.get? b=some u->h'.get? b=some u)(hp:h.objs.size<=a)(hn:H a=none):Un fs ex H (upd H a o) h h' where
 keep:=fun b u q _ _ _=>k b u q
 slot:=fun b u q _ _ _=>⟨u.slots,k b u q⟩
 free:=fun b u q n _=>by rw[HV (An<|Av (Aj q) hp)];exact n
 there:=fun b u q _=>⟨u,k b u q⟩
 tups:=fun b xs q=>by rw[HV (Jw q hn)];exact q
 frzs:=fun b u xs q=>by rw[HV (Jw q hn)];exact q
 tbls:=fun b ps q=>⟨#[],by rw[HV (Jw q hn),q];simp⟩
def Un.write(mu:QC (H x))(he:e=x\/H e=some (.own x))(k:∀ b u,b≠e->h.get? b=some u->h'.get? b=some u)(heo:∃ u,h'.get? e=some u):Un fs ex H (upd H x o) h h':=by
 have hx:∀ b,H b=none->b≠x:=fun b n z=>by subst z;rw[n] at mu;exact mu
 have hb:∀ b,H b=none->b≠e:=fun b n z=>by
   subst z
   rcases he with r | r
   . exact hx b n r
   rw[n] at r;cases r
 have hm:∀ b u,H b=some u->¬ QC (some u)->b≠x:=fun b u q nm z=>by subst z;rw[q] at mu;exact nm mu
 refine⟨fun b u q n _ _=>k b u (hb b n) q,fun b u q n _ _=>⟨u.slots,k b u (hb b n) q⟩,fun b u q n _=>by rw[HV (hx b n)];exact n,fun b u q _=>?_,
   fun b xs q=>by rw[HV (hm b _ q fun z=>z)];exact q,fun b u xs q=>by rw[HV (hm b _ q fun z=>z)];exact q,fun b ps q=>⟨#[],by rw[HV (hm b _ q fun z=>z),q];simp⟩⟩
 by_cases hbe:b=e
 . subst hbe;exact heo
 exact⟨u,k b u hbe q⟩
end
def UA(h:KM)(H:Hp):List Addr:=(Bo h.objs.size).filter fun a=>(H a).isSome
def Kt(h:KM)(H:Hp):KM:=PySem.W.hideAll h<|UA h H
def vM(h:KM)(H:Hp):(Kt h H).objs.size=h.objs.size:=PySem.W.hideAll_size _ _
def uE{o:Obj}(e:h.get? b=some o)(n:H b=none):(Kt h H).get? b=some o :=
 PySem.W.hideAll_get _ e fun hm=>by have q:(H b).isSome=true:=(List.mem_filter.mp hm).2;rw[n] at q;simp at q
def pA{o:Obj}(e:(Kt h H).get? b=some o):h.get? b=some o/\H b=none:=by
 have e':h.get? b=some o:=PySem.W.of_hideAll (UA h H) e;refine⟨e',?_⟩
 cases q:H b with
 | none=>rfl
 | some x =>
   have hm:b∈UA h H:=List.mem_filter.mpr ⟨List.mem_range.mpr<|Aj e',by simp[q]⟩;have z:(Kt h H).get? b=none:=PySem.W.hideAll_none (UA h H) hm;rw[z] at e;cases e
def O8(g h:KM)(L:Addr):List (Addr×Obj):=(Bo h.objs.size).filterMap fun a=>if a=L\/(g.get? a).isSome=true then none else (h.get? a).map fun o=>(a,o)
variable {g:KM}{L:Addr}
def WH{o:Obj}(h1:a≠L)(h2:g.get? a=none)(h3:h.get? a=some o):(a,o)∈O8 g h L :=
 List.mem_filterMap.mpr ⟨a,List.mem_range.mpr<|Aj h3,by simp[h1,h2,h3]⟩
def zeJ{p:Addr×Obj}(hp:p∈O8 g h L):p.1≠L/\g.get? p.1=none/\h.get? p.1=some p.2:=by
 obtain⟨b,_,e⟩:=List.mem_filterMap.mp hp
 split at e
 . cases e
 . rename_i hn
   cases q:h.get? b with
   | none=>rw[q] at e;simp at e
   | some u =>
     rw[q] at e;simp only[A9,Option.some.injEq] at e;subst e;refine⟨fun z=>hn (.inl z),?_,q⟩;show g.get? b=none
     cases r:g.get? b with
     | none=>rfl
     | some v=>exact (hn<|.inr<|by simp[r]).elim
def V6:News g L h (O8 g h L):=fun p hp=>let ⟨a,b,c⟩:=zeJ hp;⟨c,a,b⟩
structure Mod(K:Ac)(mg:Str->Option IR)(base:KM):Prop where
 kin:K.In base
 glob:base.Ns mainGlobals mg
 blt:∃ mb,base.Ns builtinsNs mb/\∀ x:Str,x≠"__name__"->mb x=UV x
 nolimit:base.NoLimit
structure Cx where
 prog:Pv
 w:UF
 K:Ac
 mg:Str->Option IR
 base:KM
 A:Around
 N:List Str
 s₀:Shared
 H₀:Hp
 env:Env
 outer:List Env
 stack:List Env
 ex:List Addr
 fn:Str->Bool
 calm:Bool
 pn:List (Addr×Obj)
 xe:Qqa
def Lp(l:List Env):List Addr:=l.filterMap (·.frame)
noncomputable abbrev Cx.fs (X:Cx):List Addr:=Lp X.outer
def UH(sc:Scope)(x:Str):Prop:=sc.names.lookup x=some .local\/sc.names.lookup x=some .cell\/sc.names.lookup x=some .free
def Loc(sc:Scope)(x:Str):Prop:=sc.names.lookup x=some .local\/sc.names.lookup x=some .cell
def Look(env:Env)(h:KM)(m:Str->Option IR)(x:Str)(u:IR):Prop :=
 (env.kindOf x=some .local/\m x=some u)\/((env.kindOf x=some .cell\/env.kindOf x=some .free)/\∃ c,env.cells.lookup x=some c/\h.IsCell c (some u))
structure Cx.Ok(X:Cx):Prop where
 mod:Mod X.K X.mg X.base
 kind:X.env.scope.kind=.function
 glob:X.env.globals=mainGlobals
 blt:X.env.builtins=builtinsNs
 above:X.s₀.heap.objs.size<=X.env.locals
 inj:∀ x y c,X.env.cells.lookup x=some c->X.env.cells.lookup y=some c->x=y
 has:∀ x,(X.env.kindOf x=some .cell\/X.env.kindOf x=some .free)->∃ c,X.env.cells.lookup x=some c
 cab:∀ x c,X.fn x=true->X.env.cells.lookup x=some c->X.s₀.heap.objs.size<=c
 hd:X.calm=true->X.A.handled=none
 frames:X.A.frames=some X.stack
 stk:X.stack=X.outer\/(X.stack=X.env::X.outer/\X.env.frame=some X.env.locals)
 exf:∀ b∈X.ex,b≠X.env.locals/\∀ x c,X.env.cells.lookup x=some c->c≠b
 bs:∀ b o,X.base.get? b=some o->X.s₀.heap.get? b=some o/\X.H₀ b=none
 bsz:X.base.objs.size<=X.s₀.heap.objs.size
 noex:∀ b o,X.base.get? b=some o->b ∉ X.ex
 exfs:∀ b∈X.ex,b ∉ X.fs
 funs:X.s₀.heap.FunFrames X.base X.outer
 frf:∀ b∈X.fs,X.H₀ b=none
structure Inv(X:Cx)(qp:List (Addr×Obj))(σ:List (Option V))(H:Hp)(s:Shared):Prop where
 ok:X.Ok
 os:s.os=X.s₀.os
 bare:AllBare s.gens
 base:Un X.fs X.ex X.H₀ H X.s₀.heap s.heap
 loc:∃ m,s.heap.Ns X.env.locals m/\∀ (i:Nat) (x:Str) (v:V),X.N[i]?=some x->σ[i]?=some (some v)->UH X.env.scope x->∃ u,RelV v u/\Look X.env s.heap m x u
 cell:∀ x c,X.env.cells.lookup x=some c->∃ v,s.heap.IsCell c v
 free:H X.env.locals=none
 freeC:∀ x c,X.env.cells.lookup x=some c->H c=none
 pin:∀ p∈X.pn++qp,s.heap.get? p.1=some p.2/\H p.1=none/\p.1≠X.env.locals/\p.1 ∉ X.fs/\∀ v,p.2.data≠.cell v
 hok:Jn X.prog X.w H s.heap
 len:σ.length=X.N.length
variable {x:Str}{X:Cx}{qp:List (Addr×Obj)}{s s':Shared}{g':Array GenState}{t' i j:Nat}{d':Drawn}{ch:List Addr}{it:Addr}{N:List Str}{M:Model}{A:Around}{E:Qqa}{v:V}
section
variable {σ:List (Option V)}
def Cx.Ok.nofr(ok:X.Ok){o:Obj}(e:X.base.get? b=some o):b ∉ X.fs:=fun hb=>by have:=(ok.funs.mem hb).1;rw[e] at this;cases this
def Inv.bs(I:Inv X qp σ H s):∀ b o,X.base.get? b=some o->s.heap.get? b=some o/\H b=none:=fun b o e =>
 ⟨I.base.keep b o (I.ok.bs b o e).1 (I.ok.bs b o e).2 (I.ok.nofr e)<|I.ok.noex b o e,I.base.free b o (I.ok.bs b o e).1 (I.ok.bs b o e).2<|I.ok.noex b o e⟩
def Inv.bk(I:Inv X qp σ H s):∀ b o,X.base.get? b=some o->s.heap.get? b=some o:=fun b o e=>(I.bs b o e).1
def Inv.mod(I:Inv X qp σ H s):Mod X.K X.mg X.base:=I.ok.mod
def Inv.kIn(I:Inv X qp σ H s):X.K.In s.heap:=I.ok.mod.kin.keeps I.bk
def Inv.fr(I:Inv X qp σ H s):∃ m,Fr X.base X.env.locals s.heap m :=
 let ⟨m,hn,_⟩:=I.loc
 ⟨m,hn,I.bk,Az I.ok.bsz I.ok.above⟩
def Inv.lt(I:Inv X qp σ H s):X.env.locals < s.heap.objs.size:=let ⟨_,hn,_⟩:=I.loc;hn.lt
def Inv.sz(I:Inv X qp σ H s):X.s₀.heap.objs.size<=s.heap.objs.size:=Az I.ok.above<|BQ I.lt
def Inv.nofs(I:Inv X qp σ H s)(h:s.heap.objs.size<=a):a ∉ X.fs:=fun hb=>by obtain⟨_,o,ho,_⟩:=I.ok.funs.mem hb;exact absurd (Av (Aj ho)<|Az I.sz h)<|AZ _
def Inv.cne(I:Inv X qp σ H s):∀ x c,X.env.cells.lookup x=some c->c≠X.env.locals:=fun x c e z=>by obtain⟨v,o,ho,hd⟩:=I.cell x c e;obtain⟨m,⟨o',es,ep,ho',hd',_⟩,_⟩:=I.loc;rw[z,ho'] at ho;cases ho;rw[hd'] at hd;cases hd
def Inv.funs(I:Inv X qp σ H s):s.heap.FunFrames X.base X.outer:=by
 have all:∀ (l:List Env),(∀ b∈Lp l,b∈X.fs)->X.s₀.heap.FunFrames X.base l->s.heap.FunFrames X.base l:=by
   intro l
   induction l with
   | nil=>intro _ _;trivial
   | cons env r ih =>
     intro hs hl;obtain⟨hk,⟨L,o,hf,hn,ho,hd⟩,hr⟩:=hl;have hL:L∈X.fs:=hs L (by unfold Lp;rw[C0,hf];exact Ao);obtain⟨sl,e⟩:=I.base.slot L o ho (I.ok.frf L hL) hL fun z=>I.ok.exfs L z hL;exact⟨hk,⟨L,_,hf,hn,e,hd⟩,ih (fun b hb=>hs b (by unfold Lp;rw[C0,hf];exact Ak _ hb)) hr⟩
 exact all X.outer (fun _ hb=>hb) I.ok.funs
def Inv.stack(I:Inv X qp σ H s):s.heap.FunFrames X.base X.stack:=by
 rcases I.ok.stk with e | ⟨e,hf⟩
 . rw[e];exact I.funs
 rw[e];obtain⟨m,hn,_⟩:=I.loc;refine .cons (by rw[I.ok.kind];decide) hf hn ?_ I.funs;exact DF<|Az I.ok.bsz I.ok.above
def Inv.stkSub(I:Inv X qp σ H s):∀ b∈Lp X.stack,b∈X.env.locals::X.fs:=fun b hb=>by
 rcases I.ok.stk with e | ⟨e,hf⟩
 . rw[e] at hb;exact Ak _ hb
 rw[e] at hb;unfold Lp at hb;rw[C0,hf] at hb;exact hb
def Inv.stkFree(I:Inv X qp σ H s):∀ b∈Lp X.stack,H b=none:=fun b hb=>by
 rcases M2.mp (I.stkSub b hb) with e | hb
 . rw[e];exact I.free
 obtain⟨_,o,ho,_⟩:=I.ok.funs.mem hb;exact I.base.free b o ho (I.ok.frf b hb) fun z=>I.ok.exfs b z hb
def Inv.step{ch:List Addr}(I:Inv X qp σ H s)
   (hch:∀ b∈ch,(b∈X.ex\/X.s₀.heap.objs.size<=b)/\b≠X.env.locals/\(∀ x c,X.env.cells.lookup x=some c->c≠b)/\∀ p∈X.pn++qp,p.1≠b)
   (keep:∀ b o,b≠X.env.locals->b ∉ X.fs->b ∉ ch->s.heap.get? b=some o->H b=none->h'.get? b=some o)
   (slot:∀ b o,b≠X.env.locals->b∈X.fs->b ∉ ch->s.heap.get? b=some o->H b=none->∃ sl,h'.get? b=some { o with slots:=sl }) (free:∀ b o,b ∉ ch->s.heap.get? b=some o->H b=none->H' b=none)
   (there:∀ b o,b ∉ ch->s.heap.get? b=some o->∃ o',h'.get? b=some o')
   (tups:∀ b xs,H b=some (.tup xs)->H' b=some (.tup xs)) (frzs:∀ b o u,H b=some (.frz o u)->H' b=some (.frz o u)) (tbls:∀ b ps,H b=some (.tbl ps)->∃ more,H' b=some (.tbl<|ps++more))
   (ns:∀ m,s.heap.Ns X.env.locals m->h'.Ns X.env.locals m) (hok:Jn X.prog X.w H' h') (hg:AllBare g') :
   Inv X qp σ H' { s with heap:=h',gens:=g',drawn:=d',toks:=t' }:=by
 have neL:∀ b o,X.s₀.heap.get? b=some o->b≠X.env.locals:=fun b o e=>An<|Av (Aj e) I.ok.above;have neC:∀ b o,X.s₀.heap.get? b=some o->b ∉ X.ex->b ∉ ch:=fun b o e hx hb=>by
   rcases (hch b hb).1 with z | z
   . exact hx z
   exact absurd (Av (Aj e) z)<|AZ _
 have cellK:∀ x c,X.env.cells.lookup x=some c->∀ v,s.heap.IsCell c v->h'.IsCell c v:=by
   rintro x c e v ⟨o,ho,hd⟩;have nch:c ∉ ch:=fun z=>(hch c z).2.2.1 x c e rfl
   by_cases hc:c∈X.fs
   . obtain⟨sl,q⟩:=slot c o (I.cne x c e) hc nch ho<|I.freeC x c e;exact⟨_,q,hd⟩
   exact⟨o,keep c o (I.cne x c e) hc nch ho<|I.freeC x c e,hd⟩
 refine⟨I.ok,I.os,hg,⟨fun b o e n hb hx=>?_,fun b o e n hb hx=>?_,fun b o e n hx=>?_,fun b o e hx=>?_,fun b xs e=>tups b xs (I.base.tups b xs e),fun b o xs e=>frzs b o xs (I.base.frzs b o xs e),fun b ps e=>?_⟩,?_,fun x c e=>?_,?_,fun x c e=>?_,fun p hp=>?_,hok,I.len⟩
 . exact keep b o (neL b o e) hb (neC b o e hx) (I.base.keep b o e n hb hx)<|I.base.free b o e n hx
 . obtain⟨sl,e1⟩:=I.base.slot b o e n hb hx;obtain⟨sl',e2⟩:=slot b _ (neL b o e) hb (neC b o e hx) e1<|I.base.free b o e n hx;exact⟨sl',e2⟩
 . obtain⟨o',e1⟩:=I.base.there b o e hx;exact free b o' (neC b o e hx) e1<|I.base.free b o e n hx
 . obtain⟨o',e1⟩:=I.base.there b o e hx;exact there b o' (neC b o e hx) e1
 . obtain⟨m1,e1⟩:=I.base.tbls b ps e;obtain⟨m2,e2⟩:=tbls b _ e1;exact⟨m1++m2,by rw[e2,Array.append_assoc]⟩
 . obtain⟨m,hn,hl⟩:=I.loc;refine⟨m,ns m hn,fun i x v e1 e2 e3=>?_⟩;obtain⟨u,r,l⟩:=hl i x v e1 e2 e3;refine⟨u,r,?_⟩
   rcases l with l | ⟨k,c,e,z⟩
   . exact .inl l
   exact .inr ⟨k,c,e,cellK x c e _ z⟩
 . obtain⟨v,z⟩:=I.cell x c e;exact⟨v,cellK x c e v z⟩
 . obtain⟨m,⟨o,_,_,ho,_⟩,_⟩:=I.loc;exact free _ o (fun z=>(hch _ z).2.1 rfl) ho I.free
 . obtain⟨v,o,ho,hd⟩:=I.cell x c e;exact free c o (fun z=>(hch c z).2.2.1 x c e rfl) ho<|I.freeC x c e
 obtain⟨e,n,ne,nf,d⟩:=I.pin p hp;have nch:p.1 ∉ ch:=fun z=>(hch p.1 z).2.2.2 p hp rfl;exact⟨keep p.1 p.2 ne nf nch e n,free p.1 p.2 nch e n,ne,nf,d⟩
def Inv.un(I:Inv X qp σ H s)(u:Un X.fs [] H H' s.heap h')(hok:Jn X.prog X.w H' h'):Inv X qp σ H' { s with heap:=h',toks:=t' }:=by
 obtain⟨m,⟨o,es,ep,ho,r⟩,_⟩:=id I.loc;obtain⟨sl,hL⟩:=u.any ho I.free (by simp);exact I.step (g':=s.gens) (d':=s.drawn) (ch:=[]) (fun _ z=>nomatch z) (fun b o _ hb _ e n=>u.keep b o e n hb (by simp)) (fun b o _ hb _ e n=>u.slot b o e n hb (by simp)) (fun b o _ e n=>u.free b o e n (by simp)) (fun b o _ e=>u.there b o e (by simp)) u.tups u.frzs u.tbls (fun m' hm=>by obtain⟨o',es',ep',ho',r'⟩:=hm;rw[ho] at ho';cases ho';exact⟨_,es',ep',hL,r'⟩) hok I.bare
def Inv.call{ch:List Addr}(I:Inv X qp σ H s)(u:Un (Lp X.stack) ch H H' s.heap h')(hok:Jn X.prog X.w H' h')(hg:AllBare g')
   (hch:∀ b∈ch,(b∈X.ex\/X.s₀.heap.objs.size<=b)/\b≠X.env.locals/\(∀ x c,X.env.cells.lookup x=some c->c≠b)/\∀ p∈X.pn++qp,p.1≠b) :
   Inv X qp σ H' { s with heap:=h',gens:=g',drawn:=d',toks:=t' }:=by
 obtain⟨m,⟨o,es,ep,ho,r⟩,_⟩:=id I.loc;obtain⟨sl,hL⟩:=u.any ho I.free fun z=>(hch _ z).2.1 rfl;exact I.step (ch:=ch) hch (fun b o hL hb hc e n=>u.keep b o e n (fun z=>(M2.mp<|I.stkSub b z).elim hL hb) hc) (fun b o _ _ hc e n=>u.any e n hc) (fun b o hc e n=>u.free b o e n hc) (fun b o hc e=>u.there b o e hc) u.tups u.frzs u.tbls (fun m' hm=>by obtain⟨o',es',ep',ho',r'⟩:=hm;rw[ho] at ho';cases ho';exact⟨_,es',ep',hL,r'⟩) hok hg
def Inv.turned(I:Inv X qp σ H s)(k:∀ b o,b≠it->s.heap.get? b=some o->h'.get? b=some o)(hn:H it=none)(hL:it≠X.env.locals)
   (h1:it∈X.ex\/X.s₀.heap.objs.size<=it) (h2:∀ x c,X.env.cells.lookup x=some c->c≠it) (h3:∀ p∈X.pn++qp,p.1≠it):Inv X qp σ H { s with heap:=h',toks:=t' }:=by
 have nit:∀ b u,H b=some u->b≠it:=fun b u e z=>by rw[z,hn] at e;cases e
 refine I.step (g':=s.gens) (d':=s.drawn) (ch:=[it]) (fun b hb=>?_) (fun b o _ _ hc e _=>k b o (fun z=>hc (by simp[z])) e) (fun b o _ _ hc e _=>⟨o.slots,k b o (fun z=>hc (by simp[z])) e⟩) (fun _ _ _ _ n=>n)
   (fun b o hc e=>⟨o,k b o (fun z=>hc (by simp[z])) e⟩) (fun _ _ e=>e) (fun _ _ _ e=>e) (fun b ps e=>⟨#[],by rw[e];simp⟩) (fun m hm=>?_) (fun b u e=>?_) I.bare
 . have e:b=it:=by simpa using hb
   subst e;exact⟨h1,hL,h2,h3⟩
 . obtain⟨o,es,ep,ho,r⟩:=hm;exact⟨o,es,ep,k _ o (A6 hL) ho,r⟩
 . refine (I.hok b u e).stay (fun c v hc q=>k c v ?_ q) (fun _ q=>q) fun _ _ q=>q
   rcases hc with z | z
   . rw[z];exact nit b u e
   exact nit c _ z
def Inv.tok(I:Inv X qp σ H s)(t:Nat):Inv X qp σ H { s with toks:=t }:=I.un (h':=s.heap) (t':=t) Un.refl I.hok
def Inv.kept{t':Nat}(I:Inv X qp σ H s)(k:∀ b u,s.heap.get? b=some u->h'.get? b=some u):Inv X qp σ H { s with heap:=h',toks:=t' }:=I.un (Un.kept k)<|I.hok.kept k
def Inv.laid{a:Addr}{o:HO}{t':Nat}(I:Inv X qp σ H s)(k:∀ b u,s.heap.get? b=some u->h'.get? b=some u)(hp:s.heap.objs.size<=a)(new:Ju X.prog X.w (upd H a o) h' a o) :
   Inv X qp σ (upd H a o) { s with heap:=h',toks:=t' }:=I.un (Un.laid k hp<|I.hok.fresh hp) (I.hok.laid k hp new)
def Inv.write{x e:Addr}{o:HO}{t':Nat}(I:Inv X qp σ H s)(mu:QC (H x))(he:e=x\/H e=some (.own x))(k:∀ b u,b≠e->s.heap.get? b=some u->h'.get? b=some u)(heo:∃ u,h'.get? e=some u)
   (new:Ju X.prog X.w (upd H x o) h' x o):Inv X qp σ (upd H x o) { s with heap:=h',toks:=t' }:=I.un (Un.write mu he k heo) (I.hok.write mu he k heo new)
def Inv.pins_of{pins':List (Addr×Obj)}(I:Inv X qp σ H s)(h:∀ p∈pins',s.heap.get? p.1=some p.2/\H p.1=none/\p.1≠X.env.locals/\p.1 ∉ X.fs/\∀ v,p.2.data≠.cell v):Inv X pins' σ H s :=
 ⟨I.ok,I.os,I.bare,I.base,I.loc,I.cell,I.free,I.freeC,fun p hp=>(SL.mp hp).elim (fun z=>I.pin p (BX _ z)) (h p),I.hok,I.len⟩
def V7(hN:N.Nodup)(a:N[i]?=some x)(b:N[j]?=some x):i=j:=by obtain⟨h1,e1⟩:=KF.mp a;obtain⟨h2,e2⟩:=KF.mp b;exact (List.getElem_inj hN).mp<|e1.trans e2.symm
def aG{Q:Unit->Shared->Prop}(I:Inv X qp σ H s)(hN:X.N.Nodup)(hi:X.N[i]?=some x)(hx:Loc X.env.scope x)(r:RelV v u)
   (h:∀ s',Inv X qp (σ.set i<|some v) H s'->(∃ a,BA a s.heap s'.heap/\(a=X.env.locals\/X.env.cells.lookup x=some a))->Q () s') (hf:X.fn x=true\/X.env.scope.names.lookup x=some .local:=by first | exact .inl rfl | exact .inr rfl | assumption):wpAny M A (storeName X.env x u) Q E s:=by
 obtain⟨m,hn,hl⟩:=id I.loc;have hcls:(X.env.scope.kind==.class || (X.env.scope.kind==.module&&X.env.locals != X.env.globals))=false:=by rw[I.ok.kind];rfl
 have hiσ:i < σ.length:=by rw[I.len];exact (KF.mp hi).1
 have cne:=I.cne;have tracked:∀ {a:Addr} {h':KM},(∃ o,s.heap.get? a=some o/\H a=none)->BA a s.heap h'->Jn X.prog X.w H h':=fun {a h'} ha hs b ob e=>by
   obtain⟨_,_,hfree⟩:=ha;refine (I.hok b ob e).stay (fun c w' hc q=>(hs.2 c ?_).trans q) (fun _ q=>q) fun _ _ q=>q;rintro rfl
   rcases hc with rfl | hc
   . rw[hfree] at e;cases e
   rw[hfree] at hc;cases hc
 rcases hx with hk | hk
 . refine wpAny_storeName_local hk hn (fun h' hn' hs=>?_) hcls;obtain⟨oL,_,_,hoL,_⟩:=id hn;refine h _ ⟨I.ok,I.os,I.bare,⟨fun b o e n hb hx=>?_,fun b o e n hb hx=>?_,I.base.free,fun b o e hx=>?_,I.base.tups,I.base.frzs,I.base.tbls⟩,⟨_,hn',fun j y v' e1 e2 e3=>?_⟩,fun y c e=>?_,I.free,I.freeC,fun p hp=>?_,tracked ⟨oL,hoL,I.free⟩ hs,by simpa using I.len⟩ ⟨_,hs,.inl rfl⟩
   . exact (hs.2 b<|An<|Av (Aj e) I.ok.above).trans<|I.base.keep b o e n hb hx
   . obtain⟨sl,e1⟩:=I.base.slot b o e n hb hx;exact⟨sl,(hs.2 b<|An<|Av (Aj e) I.ok.above).trans e1⟩
   . obtain⟨o',e1⟩:=I.base.there b o e hx;exact⟨o',(hs.2 b<|An<|Av (Aj e) I.ok.above).trans e1⟩
   . by_cases hj:j=i
     . subst hj;rw[hi] at e1;cases e1;rw[AF hiσ] at e2;cases e2;exact⟨u,r,.inl ⟨hk,by simp⟩⟩
     . rw[As (A6 hj)] at e2;obtain⟨u',r',q⟩:=hl j y v' e1 e2 e3;refine⟨u',r',?_⟩
       rcases q with ⟨k,e⟩ | ⟨k,c,e,z⟩
       . refine .inl ⟨k,?_⟩;have:y≠x:=fun e=>hj<|V7 hN e1<|e ▸ hi;simp[this,e]
       exact .inr ⟨k,c,e,z.sameBut hs<|cne y c e⟩
   . obtain⟨w',z⟩:=I.cell y c e;exact⟨w',z.sameBut hs<|cne y c e⟩
   obtain⟨e,n,ne,nf,d⟩:=I.pin p hp;exact⟨(hs.2 p.1 ne).trans e,n,ne,nf,d⟩
 . have hfn:X.fn x=true:=by
     rcases hf with z | z
     . exact z
     rw[z] at hk;cases hk
   obtain⟨c,hc⟩:=I.ok.has x<|.inl hk;obtain⟨w',z⟩:=I.cell x c hc;refine wpAny_storeName_cell I.ok.kind hk hc z fun h' hc' hs=>?_;obtain⟨oc,hoc,hocd⟩:=id z;refine h { s with heap:=h' } ⟨I.ok,I.os,I.bare,⟨fun b o e n hb hx=>?_,fun b o e n hb hx=>?_,I.base.free,fun b o e hx=>?_,I.base.tups,I.base.frzs,I.base.tbls⟩,⟨m,hn.sameBut hs<|A6<|cne x c hc,fun j y v' e1 e2 e3=>?_⟩,fun y c' e=>?_,I.free,I.freeC,fun p hp=>?_,tracked ⟨oc,hoc,I.freeC x c hc⟩ hs,by simpa using I.len⟩ ⟨c,hs,.inr hc⟩
   . exact (hs.2 b<|An<|Av (Aj e)<|I.ok.cab x c hfn hc).trans<|I.base.keep b o e n hb hx
   . obtain⟨sl,e1⟩:=I.base.slot b o e n hb hx;exact⟨sl,(hs.2 b<|An<|Av (Aj e)<|I.ok.cab x c hfn hc).trans e1⟩
   . obtain⟨o',e1⟩:=I.base.there b o e hx;exact⟨o',(hs.2 b<|An<|Av (Aj e)<|I.ok.cab x c hfn hc).trans e1⟩
   . by_cases hj:j=i
     . subst hj;rw[hi] at e1;cases e1;rw[AF hiσ] at e2;cases e2;exact⟨u,r,.inr ⟨.inl hk,c,hc,hc'⟩⟩
     . rw[As (A6 hj)] at e2;obtain⟨u',r',q⟩:=hl j y v' e1 e2 e3;refine⟨u',r',?_⟩
       rcases q with q | ⟨k,c',e,z'⟩
       . exact .inl q
       refine .inr ⟨k,c',e,z'.sameBut hs ?_⟩;rintro rfl;exact hj<|V7 hN e1<|I.ok.inj _ _ _ e hc ▸ hi
   . by_cases hcc:c'=c
     . subst hcc;exact⟨_,hc'⟩
     obtain⟨w2,z2⟩:=I.cell y c' e;exact⟨w2,z2.sameBut hs hcc⟩
   obtain⟨e,n,ne,nf,d⟩:=I.pin p hp;refine⟨(hs.2 p.1 ?_).trans e,n,ne,nf,d⟩;intro q;rw[q,hoc] at e;have q':oc=p.2:=Ap e;exact d w' (by rw[<-q'];exact hocd)
def NA{Q:Unit->Shared->Prop}(I:Inv X qp σ H s)(hN:X.N.Nodup)(hi:X.N[i]?=some x)(hx:Loc X.env.scope x)(r:RelV v u)
   (h:∀ s',Inv X qp (σ.set i<|some v) H s'->Q () s') (hf:X.fn x=true\/X.env.scope.names.lookup x=some .local:=by first | exact .inl rfl | exact .inr rfl | assumption):wpAny M A (storeName X.env x u) Q E s :=
 aG I hN hi hx r (fun s' I' _=>h s' I') hf
def Inv.call'{ch:List Addr}(I:Inv X qp σ H s)(ho:s'.os=s.os)(u:Un (Lp X.stack) ch H H' s.heap s'.heap)(hok:Jn X.prog X.w H' s'.heap)(hg:AllBare s'.gens)
   (hch:∀ b∈ch,(b∈X.ex\/X.s₀.heap.objs.size<=b)/\b≠X.env.locals/\(∀ x c,X.env.cells.lookup x=some c->c≠b)/\∀ p∈X.pn++qp,p.1≠b):Inv X qp σ H' s':=by
 obtain⟨h',g',d',t',o'⟩:=s';have e:o'=s.os:=ho;subst e;exact I.call (g':=g') (t':=t') (d':=d') u hok hg hch
end
noncomputable abbrev XK:=IR->Option Addr->Hp->Prop
noncomputable abbrev St:=List (Option V)
noncomputable abbrev VK:=V->Hp->Prop
noncomputable abbrev TE:=St->Hp->VK->Prop
noncomputable abbrev TT:=St->Hp->(Bool->Hp->Prop)->Prop
noncomputable abbrev TA:=St->Hp->(List V->Hp->Prop)->Prop
structure Ends where
 nx:St->Hp->Prop
 rt:VK
 bk:St->Hp->Prop:=fun _ _=>False
 ct:St->Hp->Prop:=fun _ _=>False
noncomputable abbrev TS:=Ends->St->Hp->Prop
def EP(X:Cx)(qp:List (Addr×Obj))(σ:St)(Q:VK)(u:IR)(s':Shared):Prop:=∃ v H',Inv X qp σ H' s'/\RelV v u/\Q v H'
def TP(X:Cx)(qp:List (Addr×Obj))(σ:St)(Q:Bool->Hp->Prop)(b:Bool)(s':Shared):Prop:=∃ H',Inv X qp σ H' s'/\Q b H'
def AP(X:Cx)(qp:List (Addr×Obj))(σ:St)(Q:List V->Hp->Prop)(us:List IR)(s':Shared):Prop:=∃ vs H',Inv X qp σ H' s'/\Vals vs us/\Q vs H'
def SP(X:Cx)(qp:List (Addr×Obj))(D:Ends)(f:Flow)(s':Shared):Prop :=
 match f with
 | .next=>∃ σ' H',Inv X qp σ' H' s'/\D.nx σ' H'
 | .brk=>∃ σ' H',Inv X qp σ' H' s'/\D.bk σ' H'
 | .cont=>∃ σ' H',Inv X qp σ' H' s'/\D.ct σ' H'
 | .ret u=>∃ v σ' H',Inv X qp σ' H' s'/\RelV v u/\D.rt v H'
def PE(X:Cx)(e:Os)(t:TE):Prop :=
 ∀ (qp:List (Addr×Obj)) (s:Shared) (σ:St) (H:Hp) (Q:VK),Inv X qp σ H s->t σ H Q->wpAny (KB X.prog X.w) X.A (W1 e X.env) (EP X qp σ Q) X.xe s
def PT(X:Cx)(e:Os)(t:TT):Prop :=
 ∀ (qp:List (Addr×Obj)) (s:Shared) (σ:St) (H:Hp) (Q:Bool->Hp->Prop),Inv X qp σ H s->t σ H Q->wpAny (KB X.prog X.w) X.A (isTrue e X.env<|W1 e X.env) (TP X qp σ Q) X.xe s
def PW(X:Cx)(e:Os)(t:TT):Prop :=
 ∀ (whole:Sem IR) (qp:List (Addr×Obj)) (s:Shared) (σ:St) (H:Hp) (Q:Bool->Hp->Prop),Inv X qp σ H s->t σ H Q->wpAny (KB X.prog X.w) X.A (isTrue e X.env whole) (TP X qp σ Q) X.xe s
variable {e:Os}
def PW.pt{t:TT}(h:PW X e t):PT X e t:=h _
def PA(X:Cx)(es:List Os)(t:TA):Prop :=
 ∀ (pos:Pos) (qp:List (Addr×Obj)) (s:Shared) (σ:St) (H:Hp) (Q:List V->Hp->Prop),Inv X qp σ H s->t σ H Q->wpAny (KB X.prog X.w) X.A (spliced<|backTo pos<|P3 es X.env) (AP X qp σ Q) X.xe s
def PS(X:Cx)(st:Wp)(t:TS):Prop :=
 ∀ (qp:List (Addr×Obj)) (s:Shared) (σ:St) (H:Hp) (D:Ends),Inv X qp σ H s->t D σ H->wpAny (KB X.prog X.w) X.A (exec st X.env) (SP X qp D) X.xe s
def J1(X:Cx)(st:List Wp)(t:TS):Prop :=
 ∀ (qp:List (Addr×Obj)) (s:Shared) (σ:St) (H:Hp) (D:Ends),Inv X qp σ H s->t D σ H->wpAny (KB X.prog X.w) X.A (execs st X.env) (SP X qp D) X.xe s
def HS{t:Sem α}{Q Q':α->Shared->Prop}{s:Shared}(h:wpAny M A t Q E s)(hQ:∀ a s,Q a s->Q' a s):wpAny M A t Q' E s:=A8 h hQ fun _ _ x=>x
variable {σ:St}{Q:Qqa}{pos:Pos}{ta tb:TE}{op:CmpOp}{c:Os}
section
def Rz(i:Nat):TE:=fun σ H Q=>∃ v,σ[i]?=some (some v)/\Q v H
def tC(v:V):TE:=fun _ H Q=>Q v H
def YN(hN:X.N[i]?=some x)(hv:UH X.env.scope x)(hd:(x==("__debug__":Str))=false:=by decide)(hcd:(x==("__classdict__":Str))=false:=by decide):PE X (.Name x pos) (Rz i):=by
 intro qp s σ H Q I h;obtain⟨v,e,h⟩:=h;obtain⟨m,hn,hl⟩:=I.loc;obtain⟨u,r,l⟩:=hl i x v hN e hv;have fin:EP X qp σ Q u s:=⟨v,H,I,r,h⟩
 rcases l with ⟨hk,hm⟩ | ⟨hk,c,hc,hcell⟩
 . exact Gy (wpAny_loadName_local I.ok.kind hk hn hm fin) hd
 . rcases hk with hk | hk
   . exact Gy (wpAny_loadName_cell I.ok.kind hk hc hcell fin) hd
   exact Gy (wpAny_loadName_free I.ok.kind hk hc hcell fin hcd) hd
def kW{i j pos}:PE X (.Constant (.int i) j pos) (tC<|.int i):=fun _ _ _ H _ I h=>wpAny_Constant_int ⟨.int i,H,I.tok _,⟨_,rfl⟩,h⟩
def fW{b j pos}:PE X (.Constant (.bool b) j pos) (tC<|.bl b):=fun _ _ _ H _ I h=>Constant_bool ⟨.bl b,H,I,rfl,h⟩
def kY{j pos}:PE X (.Constant .none j pos) (tC .non):=fun _ _ _ H _ I h=>Constant_none ⟨.non,H,I,rfl,h⟩
def lB{x j pos}:PE X (.Constant (.str x) j pos) (tC<|.str x):=fun _ _ _ H _ I h=>Calls.Constant_str ⟨.str x,H,I.tok _,⟨_,rfl⟩,h⟩
def Gl(X:Cx)(x:Str):Prop:=X.env.kindOf x=some .globalImplicit
def Tq(I:Inv X qp σ H s)(hg:Gl X x)(hm:X.mg x=some u)(h:Q u s)
   (hd:(x==("__debug__":Str))=false:=by decide):wpAny (KB X.prog X.w) X.A (W1 (.Name x pos) X.env) Q E s :=
 CU I.ok.kind hg (EG (by rw[I.ok.glob];exact I.mod.glob.keeps I.bk) hm h) hd
def Qk(I:Inv X qp σ H s)(hg:Gl X x)(hm:X.mg x=none)(hv:UV x=some u)(h:Q u s)
   (hn:x≠"__name__":=by decide) (hd:(x==("__debug__":Str))=false:=by decide):wpAny (KB X.prog X.w) X.A (W1 (.Name x pos) X.env) Q E s:=by
 obtain⟨mb,h1,h2⟩:=I.mod.blt;exact CU I.ok.kind hg (Calls.loadGlobal_builtin (by rw[I.ok.glob];exact I.mod.glob.keeps I.bk) hm (by rw[I.ok.blt];exact h1.keeps I.bk) ((h2 x hn).trans hv) h) hd
def pM(hg:Gl X x)(hm:X.mg x=some u)(r:RelV v u)(hd:(x==("__debug__":Str))=false:=by decide):PE X (.Name x pos) (tC v) :=
 fun _ _ _ H _ I h=>Tq I hg hm ⟨v,H,I,r,h⟩ hd
def Zi(hg:Gl X x)(hm:X.mg x=none)(hv:UV x=some u)(r:RelV v u)(hn:x≠"__name__":=by decide)(hd:(x==("__debug__":Str))=false:=by decide):PE X (.Name x pos) (tC v) :=
 fun _ _ _ H _ I h=>Qk I hg hm hv ⟨v,H,I,r,h⟩ hn hd
variable {a b:Os}
def PC(X:Cx)(op:CmpOp)(a b:Os)(t:TE):Prop :=
 ∀ (qp:List (Addr×Obj)) (s:Shared) (σ:St) (H:Hp) (Q:VK),Inv X qp σ H s->t σ H Q ->
   wpAny (KB X.prog X.w) X.A (W1 a X.env) (fun v s₁=>wpAny (KB X.prog X.w) X.A (W1 b X.env) (fun u s₂=>wpAny (KB X.prog X.w) X.A (Re op v u) (EP X qp σ Q) X.xe s₂) X.xe s₁) X.xe s
def tB(t:TE):TT:=fun σ H Q=>t σ H fun x H1=>∃ c,x=.bl c/\Q c H1
def kT{t:TE}(h:PC X op a b t)(h1:behindInMarks op b=false:=by first | exact nobehind _ (by decide) (by decide) | rfl):PE X (.Compare a [op] [b] pos) t:=fun qp s σ H Q I hw=>wpAny_Compare1 (h qp s σ H Q I hw) h1
def YF{t:TE}(h:PC X op a b t)(h1:behindInMarks op b=false:=by first | exact nobehind _ (by decide) (by decide) | rfl):PT X (.Compare a [op] [b] pos) (tB t):=by intro qp s σ H Q I hw;refine Ff (HS (h qp s σ H _ I hw) fun v s1 h1=>HS h1 fun u s2 h2=>HS h2 ?_) h1;rintro c s3 ⟨x,H1,I1,r1,q1⟩;obtain⟨d,rfl,q⟩:=q1;cases r1;exact BL ⟨H1,I1,q⟩
variable {tA tB':TT} {rest:List Os}
def Xf(t u:TT):TT:=fun σ H Q=>t σ H fun c H1=>if c=true then u σ H1 Q else Q false H1
def tOr(t u:TT):TT:=fun σ H Q=>t σ H fun c H1=>if c=true then Q true H1 else u σ H1 Q
def W7(t:TT):TT:=fun σ H Q=>t σ H fun c H1=>Q (!c) H1
def NW(ha:PT X a tA):PW X (.BoolOp .And [a] pos) tA:=by
 intro wh qp s σ H Q I h;refine isTrue_and<|HS (ha qp s σ H Q I h) fun c s1 e=>?_
 cases c with
 | true=>exact isTrue_and_nil e
 | false=>exact e
def Pw(ha:PT X a tA):PW X (.BoolOp .Or [a] pos) tA:=by
 intro wh qp s σ H Q I h;refine isTrue_or<|HS (ha qp s σ H Q I h) fun c s1 e=>?_
 cases c with
 | false=>exact isTrue_or_nil e
 | true=>exact e
def Px(ha:PT X a tA)(hb:PW X (.BoolOp .And (b::rest) pos) tB'):PW X (.BoolOp .And (a::b::rest) pos) (Xf tA tB'):=by
 intro wh qp s σ H Q I h;refine isTrue_and<|HS (ha qp s σ H _ I h) ?_;rintro c s1 ⟨H1,I1,q1⟩
 cases c with
 | true=>exact hb wh qp s1 σ H1 Q I1 q1
 | false=>exact⟨H1,I1,q1⟩
def RH(ha:PT X a tA)(hb:PW X (.BoolOp .Or (b::rest) pos) tB'):PW X (.BoolOp .Or (a::b::rest) pos) (tOr tA tB'):=by
 intro wh qp s σ H Q I h;refine isTrue_or<|HS (ha qp s σ H _ I h) ?_;rintro c s1 ⟨H1,I1,q1⟩
 cases c with
 | true=>exact⟨H1,I1,q1⟩
 | false=>exact hb wh qp s1 σ H1 Q I1 q1
def jK(ha:PT X a tA):PT X (.UnaryOp .Not a pos) (W7 tA):=by intro qp s σ H Q I h;exact isTrue_not<|ha qp s σ H (fun c H1=>Q (!c) H1) I h
def gQ(ta tb:TE):TE:=fun σ H Q=>ta σ H fun x H1=>∃ c,x=.bl c/\if c=true then tb σ H1 Q else Q (.bl false) H1
def fK(ta:TE):TE:=fun σ H Q=>ta σ H fun x H1=>∃ c,x=.bl c/\Q (.bl<|!c) H1
def lA{op}{t:TE}(h:PE X a t):PE X (.BoolOp op [a] pos) t:=fun qp s σ H Q I hw=>BoolOp_one<|h qp s σ H Q I hw
def kS(ha:PE X a ta)(hb:PE X (.BoolOp .And (b::rest) pos) tb):PE X (.BoolOp .And (a::b::rest) pos) (gQ ta tb):=by
 intro qp s σ H Q I h;refine BoolOp_and<|HS (ha qp s σ H _ I h) ?_;rintro v s1 ⟨x,H1,I1,r1,q1⟩;obtain⟨c,rfl,q1⟩:=q1;cases r1;refine BL ?_
 cases c with
 | true=>exact hb qp s1 σ H1 Q I1 q1
 | false=>exact⟨.bl false,H1,I1,rfl,q1⟩
def kZ(ha:PE X a ta):PE X (.UnaryOp .Not a pos) (fK ta):=by intro qp s σ H Q I h;refine UnaryOp_<|HS (ha qp s σ H _ I h) ?_;rintro v s1 ⟨x,H1,I1,r1,q1⟩;obtain⟨c,rfl,q1⟩:=q1;cases r1;exact not_of<|BL ⟨.bl<|!c,H1,I1,rfl,q1⟩
def tIf(t:TT)(ta tb:TE):TE:=fun σ H Q=>t σ H fun c H1=>if c=true then ta σ H1 Q else tb σ H1 Q
def rX(hc:PT X c tA)(ha:PE X a ta)(hb:PE X b tb):PE X (.IfExp c a b pos) (tIf tA ta tb):=by
 intro qp s σ H Q I h;refine wpAny_IfExp<|HS (hc qp s σ H _ I h) ?_;rintro d s1 ⟨H1,I1,q1⟩
 cases d with
 | true=>exact ha qp s1 σ H1 Q I1 q1
 | false=>exact hb qp s1 σ H1 Q I1 q1
end
def JB(K:Ac)(H:Hp)(a:Addr)(xs:List V):Prop :=
 Rd H a (.lst xs) \/
   ∃ (o:Obj) (its:Array IR) (n:Nat),K.lookup a=some o/\o.cls=.type "list"/\o.dict=none/\o.data=.seq its n/\its.size<=sizeLine/\Vals xs its.toList
def IQ(K:Ac)(H:Hp)(a:Addr)(xs:List V):Prop :=
 Rd H a (.tup xs) \/
   ∃ (o:Obj) (its:Array IR) (n:Nat),K.lookup a=some o/\o.cls=.type "tuple"/\o.data=.seq its n/\its.size<=sizeLine/\Vals xs its.toList
def XR:IR->Option V
 | .none=>some .non
 | .bool b=>some<|.bl b
 | .int i _=>some<|.int i
 | .str x _=>some<|.str x
 | .bytes b _=>some<|.byt b
 | .float b _=>some<|.flt b
 | .ref a=>some<|.ref a
 | .type n=>some<|.ty n
 | _=>none
def RelV.abs{x:V}(r:RelV x u):XR u=some x:=by
 cases x with
 | non=>cases r;rfl
 | bl _=>cases r;rfl
 | int _=>obtain⟨t,rfl⟩:=r;rfl
 | str _=>obtain⟨t,rfl⟩:=r;rfl
 | byt _=>obtain⟨t,rfl⟩:=r;rfl
 | flt _=>obtain⟨t,rfl⟩:=r;rfl
 | ref _=>cases r;rfl
 | ty _=>cases r;rfl
variable {y:V}
def RelV.inj{x:V}(r:RelV x u)(q:RelV y u):x=y:=Ap<|r.abs.symm.trans q.abs
def Vals.inj:∀ {xs ys:List V} {us:List IR},Vals xs us->Vals ys us->xs=ys
 | _,_,_,.nil,.nil=>rfl
 | _,_,_,.cons r t,.cons r' t'=>by rw[r.inj r',Vals.inj t t']
variable {K:Ac}
section
variable {xs ys:List V}
def JB.of(h:H a=some (.lst xs)):JB K H a xs:=.inl<|.inl h
def IQ.of(h:H a=some (.tup xs)):IQ K H a xs:=.inl<|.inl h
def Inv.list(I:Inv X qp σ H s)(h:JB X.K H a xs):∃ its:List IR,Vals xs its/\PlainL s.heap a its.toArray/\xs.length<=sizeLine:=by
 rcases h with h | ⟨o,its,n,hk,hc,hd,hs,hz,r⟩
 . obtain⟨z,its,n,r,e⟩:=h.ok I.hok;exact⟨its,r,⟨_,n,e,rfl,rfl,rfl⟩,z⟩
 refine⟨its.toList,r,⟨o,n,I.kIn a o hk,hc,hd,by simpa using hs⟩,?_⟩;have e:=r.length;simp only[AK] at e;omega
def Inv.tuple(I:Inv X qp σ H s)(h:IQ X.K H a xs):∃ its:List IR,Vals xs its/\IsTup s.heap a its.toArray/\xs.length<=sizeLine:=by
 rcases h with h | ⟨o,its,n,hk,hc,hs,hz,r⟩
 . obtain⟨z,its,r,p⟩:=h.ok I.hok;exact⟨its,r,p.t,z⟩
 refine⟨its.toList,r,⟨o,I.kIn a o hk,hc,n,by simpa using hs⟩,?_⟩;have e:=r.length;simp only[AK] at e;omega
def Inv.list_inj(I:Inv X qp σ H s)(h:JB X.K H a xs)(h':JB X.K H a ys):xs=ys:=by
 obtain⟨its,r,⟨o,n,e,_,_,d⟩,_⟩:=I.list h;obtain⟨its',r',⟨o',n',e',_,_,d'⟩,_⟩:=I.list h';rw[e] at e';cases e';rw[d] at d';injection d' with d1 _
 have:its=its':=by simpa using congrArg He d1
 subst this;exact r.inj r'
def Inv.tuple_inj(I:Inv X qp σ H s)(h:IQ X.K H a xs)(h':IQ X.K H a ys):xs=ys:=by
 obtain⟨its,r,⟨o,e,_,n,d⟩,_⟩:=I.tuple h;obtain⟨its',r',⟨o',e',_,n',d'⟩,_⟩:=I.tuple h';rw[e] at e';cases e';rw[d] at d';injection d' with d1 _
 have:its=its':=by simpa using congrArg He d1
 subst this;exact r.inj r'
end
noncomputable abbrev Cx.wish (X:Cx) (E:Qqa):Cx:={ X with xe:=E }
noncomputable abbrev Cx.nox (X:Cx):Cx:=X.wish fun _ _=>False
def Cx.Ok.wish{X:Cx}(ok:X.Ok)(E:Qqa):(X.wish E).Ok :=
 ⟨ok.mod,ok.kind,ok.glob,ok.blt,ok.above,ok.inj,ok.has,ok.cab,ok.hd,ok.frames,ok.stk,ok.exf,ok.bs,ok.bsz,ok.noex,ok.exfs,ok.funs,ok.frf⟩
def Cx.Ok.unwish(ok:(X.wish E).Ok):X.Ok :=
 ⟨ok.mod,ok.kind,ok.glob,ok.blt,ok.above,ok.inj,ok.has,ok.cab,ok.hd,ok.frames,ok.stk,ok.exf,ok.bs,ok.bsz,ok.noex,ok.exfs,ok.funs,ok.frf⟩
def Inv.wish(I:Inv X qp σ H s)(E:Qqa):Inv (X.wish E) qp σ H s:=⟨I.ok.wish E,I.os,I.bare,I.base,I.loc,I.cell,I.free,I.freeC,I.pin,I.hok,I.len⟩
def Inv.unwish(I:Inv (X.wish E) qp σ H s):Inv X qp σ H s:=⟨I.ok.unwish,I.os,I.bare,I.base,I.loc,I.cell,I.free,I.freeC,I.pin,I.hok,I.len⟩
def SP.unwish{D:Ends}{f:Flow}{s':Shared}(h:SP (X.wish E) qp D f s'):SP X qp D f s':=by
 cases f with
 | next=>obtain⟨σ',H',I,q⟩:=h;exact⟨σ',H',I.unwish,q⟩
 | brk=>obtain⟨σ',H',I,q⟩:=h;exact⟨σ',H',I.unwish,q⟩
 | cont=>obtain⟨σ',H',I,q⟩:=h;exact⟨σ',H',I.unwish,q⟩
 | ret u=>obtain⟨v,σ',H',I,r,q⟩:=h;exact⟨v,σ',H',I.unwish,r,q⟩
def J1.nox{st:List Wp}{t:TS}(h:J1 X.nox st t):J1 X st t:=fun qp s σ H D I hw =>
 A8 (h qp s σ H D (I.wish _) hw) (fun _ _ q=>q.unwish) fun _ _ z=>False.elim z
variable {te:TE}{tc:TT}
section
variable {st:Wp} {rest:List Wp} {t u:TS}
def fJ:TS:=fun D σ H=>D.nx σ H
def W4(t u:TS):TS:=fun D σ H=>t { D with nx:=u D } σ H
def oC:J1 X [] fJ:=fun _ _ σ H _ I h=>CC ⟨σ,H,I,h⟩
def ZI(h1:PS X st t)(h2:J1 X rest u):J1 X (st::rest) (W4 t u):=by
 intro qp s σ H D I h;refine Eo<|HS (h1 qp s σ H { D with nx:=u D } I h) fun f s1 q=>?_
 cases f with
 | next =>
   obtain⟨σ',H',I',q⟩:=q;exact h2 qp s1 σ' H' D I' q
 | ret v=>exact q
 | brk=>exact q
 | cont=>exact q
def Vy(h1:PS X st t):J1 X [st] t:=by
 intro qp s σ H D I h;refine Eo<|HS (h1 qp s σ H D I h) fun f s1 q=>?_
 cases f with
 | next=>exact CC q
 | ret v=>exact q
 | brk=>exact q
 | cont=>exact q
def Inv.quiet(I:Inv X qp σ H s):interactive X.env=false:=by simp[interactive,I.ok.kind]
def fI(te:TE):TS:=fun D σ H=>te σ H fun _ H1=>D.nx σ H1
def oA(he:PE X e te)(hs:swapsWith e none pos.line X.env=pure false:=by rfl):PS X (.Expr e pos) (fI te):=by intro qp s σ H D I h;exact wpAny_Expr_any (HS (he qp s σ H _ I h) fun v s1 ⟨x,H1,I1,r1,q1⟩=>⟨σ,H1,I1,q1⟩) I.quiet hs
def W5(te:TE):TS:=fun D σ H=>te σ H D.rt
def YE(he:PE X e te):PS X (.Return (some e) pos) (W5 te):=by intro qp s σ H D I h;exact wpAny_Return_some<|HS (he qp s σ H _ I h) fun v s1 ⟨x,H1,I1,r1,q1⟩=>⟨x,σ,H1,I1,r1,q1⟩
def Xa(c:TT)(t u:TS):TS:=fun D σ H=>c σ H fun b H1=>if b=true then t D σ H1 else u D σ H1
def Yt{a b:List Wp}(hc:PT X c tc)(ha:J1 X a t)(hb:J1 X b u):PS X (.If c a b pos) (Xa tc t u):=by
 intro qp s σ H D I h;refine wpAny_If<|HS (hc qp s σ H _ I h) ?_;rintro d s1 ⟨H1,I1,q1⟩
 cases d with
 | true=>exact ha qp s1 σ H1 D I1 q1
 | false=>exact hb qp s1 σ H1 D I1 q1
end
noncomputable abbrev TG:=V->St->Hp->(St->Hp->Prop)->Prop
noncomputable abbrev OI:=List V->St->Hp->(St->Hp->Prop)->Prop
def PG(X:Cx)(target:Os)(t:TG):Prop :=
 ∀ (qp:List (Addr×Obj)) (s:Shared) (σ:St) (H:Hp) (v:V) (u:IR) (Q:St->Hp->Prop),Inv X qp σ H s->RelV v u->t v σ H Q ->
   wpAny (KB X.prog X.w) X.A (assign target X.env u) (fun _ s'=>∃ σ' H',Inv X qp σ' H' s'/\Q σ' H') X.xe s
def Nn(X:Cx)(ts:List Os)(t:OI):Prop :=
 ∀ (qp:List (Addr×Obj)) (s:Shared) (σ:St) (H:Hp) (vs:List V) (us:List IR) (Q:St->Hp->Prop),Inv X qp σ H s->Vals vs us->t vs σ H Q ->
   wpAny (KB X.prog X.w) X.A (assignInOrder ((assignEach ts X.env).map (·.2)) us) (fun _ s'=>∃ σ' H',Inv X qp σ' H' s'/\Q σ' H') X.xe s
noncomputable abbrev PU:=V->V->V->Hp->(Hp->Prop)->Prop
def PV(X:Cx)(t:PU):Prop :=
 ∀ (qp:List (Addr×Obj)) (s:Shared) (σ:St) (H:Hp) (o i v:V) (ov iv u:IR) (Q:Hp->Prop),Inv X qp σ H s->RelV o ov->RelV i iv->RelV v u->t o i v H Q ->
   wpAny (KB X.prog X.w) X.A (setItem ov iv u) (fun _ s'=>∃ H',Inv X qp σ H' s'/\Q H') X.xe s
variable {es:List Os}{n:Nat}{tg:Os}{pos':Pos}
def Yi(i:Nat):TG:=fun v σ H Q=>Q (σ.set i<|some v) H
def pN(hN:X.N.Nodup)(hi:X.N[i]?=some x)(hx:Loc X.env.scope x)(hf:X.fn x=true\/X.env.scope.names.lookup x=some .local:=by first | exact .inl rfl | exact .inr rfl | assumption):PG X (.Name x pos) (Yi i):=by intro qp s σ H v u Q I r h;exact F1<|NA I hN hi hx r (fun s' I'=>⟨_,H,I',h⟩) hf
def XI:OI:=fun vs σ H Q=>vs=[]/\Q σ H
def fA(t:TG)(u:OI):OI:=fun vs σ H Q=>∃ v r,vs=v::r/\t v σ H fun σ' H'=>u r σ' H' Q
def pO:Nn X [] XI:=by intro qp s σ H vs us Q I r h;obtain⟨e,h⟩:=h;subst e;cases r;exact Eg ⟨σ,H,I,h⟩
def rY{t:TG}{u:OI}(h1:PG X e t)(h2:Nn X es u)
   (hs:(assignEach (e::es) X.env).map (·.2)=assign e X.env::(assignEach es X.env).map (·.2):=by rfl):Nn X (e::es) (fA t u):=by
 intro qp s σ H vs us Q I r h;obtain⟨v,vr,e1,h⟩:=h;subst e1
 cases r with
 | cons r rr =>
   rw[hs];refine B6<|HS (h1 qp s σ H _ _ _ I r h) ?_;rintro _ s1 ⟨σ1,H1,I1,q1⟩;exact h2 qp s1 σ1 H1 _ _ Q I1 rr q1
def XG(K:Ac)(n:Nat)(t:OI):TG:=fun v σ H Q=>∃ a xs,v=.ref a/\IQ K H a xs/\xs.length=n/\t xs σ H Q
def lE{k:Nat}{t:OI}(hc:X.calm=true)(h:Nn X es t)
   (hn:(assignEach es X.env).length=n:=by rfl) (hst:(assignEach es X.env).findIdx? (·.1)=none:=by rfl):PG X (.Tuple es k pos) (XG X.K n t):=by
 intro qp s σ H v u Q I r hw;obtain⟨a,xs,e1,hq,hl,hw⟩:=hw;subst e1;cases r;obtain⟨its,rv,ht,hz⟩:=I.tuple hq;refine assign_Tuple_tuple (I.ok.hd hc) ht (by simp[hn,<-hl,rv.length]) hst fun h' hx=>?_;have I1:Inv X qp σ H { s with heap:=h' }:=I.kept (t':=s.toks) fun b o e=>hx b o (An<|Aj e) e;exact h qp _ σ H xs _ Q I1 (by simpa using rv) hw
def XH(to ti:TE)(t:PU):TG:=fun v σ H Q=>to σ H fun o H1=>ti σ H1 fun i H2=>t o i v H2 fun H3=>Q σ H3
def lD{o i:Os}{to ti:TE}{t:PU}(ho:PE X o to)(hi:PE X i ti)(hs:PV X t)
   (ha:∀ v,assign (.Subscript o i pos) X.env v=(do
     let ov <-holding [v] (W1 o X.env)
     let iv <-holding [v,ov] (W1 i X.env)
     standAt pos
     holding [v,ov,iv] (setItem ov iv v)
     release [v,ov,iv] []):=by intro _;rfl):PG X (.Subscript o i pos) (XH to ti t):=by
 intro qp s σ H v u Q I r h;rw[ha];refine Aa<|A0<|HS (ho qp s σ H _ I h) ?_;rintro ov s1 ⟨x,H1,I1,r1,q1⟩;refine Aa<|A0<|HS (hi qp s1 σ H1 _ I1 q1) ?_;rintro iv s2 ⟨y,H2,I2,r2,q2⟩;refine Aa<|BU<|Aa<|A0<|HS (hs qp s2 σ H2 x y v ov iv u _ I2 r1 r2 r q2) ?_;rintro _ s3 ⟨H3,I3,q3⟩;exact wpAny_release ⟨σ,H3,I3,q3⟩
def Pq(te:TE)(g:TG):TS:=fun D σ H=>te σ H fun x H1=>g x σ H1 D.nx
def lH{g:TG}(he:PE X e te)(hg:PG X tg g)(hs:swapsWithSole [tg] e pos.line X.env=pure false:=by rfl)(hw:swappedStores [tg] e X.env=pure none:=by rfl)
   (h1:(assignEach [tg] X.env).map (·.2)=[assign tg X.env]:=by rfl):PS X (.Assign [tg] e pos) (Pq te g):=by
 intro qp s σ H D I h;refine wpAny_Assign_stores (HS (he qp s σ H _ I h) ?_) hs hw;rintro v s1 ⟨x,H1,I1,r1,q1⟩;rw[h1];exact HS (hg qp s1 σ H1 x v _ I1 r1 q1) fun _ s2 q=>q
def lK(hN:X.N.Nodup)(hi:X.N[i]?=some x)(hx:Loc X.env.scope x)(he:PE X e te)(hs:swapsWith e (some<|.Name x pos') pos.line X.env=pure false:=by rfl)(hf:X.fn x=true\/X.env.scope.names.lookup x=some .local:=by first | exact .inl rfl | exact .inr rfl | assumption) :
   PS X (.Assign [.Name x pos'] e pos) (Pq te<|Yi i):=by
 intro qp s σ H D I h;refine F3 (HS (he qp s σ H _ I h) ?_) hs;rintro v s1 ⟨y,H1,I1,r1,q1⟩;exact NA I1 hN hi hx r1 (fun s2 I2=>⟨_,H1,I2,q1⟩) hf
def W6(i j:Nat)(ta:TA):TS:=fun D σ H=>ta σ H fun vs H1=>∃ v w,vs=[v,w]/\D.nx ((σ.set i<|some v).set j<|some w) H1
def lJ{y:Str}{a b:Os}{ta:TA}{px py pt:Pos}{kt k2 pt2}(hc:X.calm=true)(hN:X.N.Nodup)(hi:X.N[i]?=some x)(hj:X.N[j]?=some y)(hij:i≠j)
   (hx:X.env.scope.names.lookup x=some .local) (hy:X.env.scope.names.lookup y=some .local) (ha:PA X [a,b] ta)
   (hw:swappedStores [.Tuple [.Name x px,.Name y py] kt pt] (.Tuple [a,b] k2 pt2) X.env=pure (some [x,y]))
   (hs:swapsWithSole [.Tuple [.Name x px,.Name y py] kt pt] (.Tuple [a,b] k2 pt2) pos.line X.env=pure false:=by rfl) :
   PS X (.Assign [.Tuple [.Name x px,.Name y py] kt pt] (.Tuple [a,b] k2 pt2) pos) (W6 i j ta):=by
 intro qp s σ H D I h;rw[exec_Assign_arm];refine Aa<|BU ?_;rw[hs];refine Aa<|Ab ?_;rw[if_neg (by decide)];refine Aa<|Tuple_<|HS (ha _ qp s σ H _ I h) ?_;rintro us s1 ⟨vs,H1,I1,r1,q1⟩;obtain⟨v,w,e1,q1⟩:=q1;subst e1;obtain⟨u1,u2,rfl,rv,rw'⟩:∃ u1 u2,us=[u1,u2]/\RelV v u1/\RelV w u2:=by
   cases r1 with
   | cons p q =>
     cases q with
     | cons p' q' =>
       cases q';exact⟨_,_,rfl,p,p'⟩
 refine AN ?_ (by show 2<=sizeLine;decide);have I2:Inv X qp σ H1 { s1 with heap:=s1.heap.push { cls:=.type "tuple",data:=.seq [u1,u2].toArray } }:=I1.kept (t':=s1.toks) fun b o e=>Ad _ e;rw[hw];refine Aa<|Ab ?_;show wpAny (KB X.prog X.w) X.A (do rule "assign.swapped-stores";let items <-unpackItems (.ref s1.heap.objs.size) 2 none;assignInOrder [fun v=>bindName X.env y v,fun v=>bindName X.env x v] items.reverse;pure FJ) _ _ _;refine Aa<|BY<|Aa<|F4 (items:=#[u1,u2]) (I.ok.hd hc) (IsTup.new s1.heap _) fun h' hx'=>?_;have I3:=I2.kept (h':=h') (t':=s1.toks) fun b o e=>hx' b o (An<|Aj e) e;show wpAny _ _ (assignInOrder [fun v=>bindName X.env y v,fun v=>bindName X.env x v] [u2,u1] >>= fun _=>pure FJ) _ _ _;refine Aa<|B6<|Dj<|NA I3 hN hj (.inl hy) rw' (fun s2 I4=>?_)<|.inr hy;refine B6<|Dj<|NA I4 hN hi (.inl hx) rv (fun s3 I5=>Eg (Ab ?_))<|.inr hx;rw[D7 _ _ (A6 hij)] at I5;exact⟨_,H1,I5,q1⟩
variable {body:List Wp}
def nE(c:TT)(tb:TS):TS:=fun D σ H=>∃ W:Nat->St->Hp->Prop,(∃ m,W m σ H)/\∀ m σ H,W m σ H ->
 c σ H fun b H1=>if b=true then ∃ N:St->Hp->Prop,(∀ σ' H',N σ' H'->∃ m',m' < m/\W m' σ' H')/\tb { D with nx:=N,ct:=N,bk:=D.nx } σ H1 else D.nx σ H1
def sE{tb:TS}(hp:PassesOwn (KB X.prog X.w) X.A X.env X.xe)(hc:PT X c tc)(hb:J1 X body tb):PS X (.While c body [] pos) (nE tc tb):=by
 intro qp s σ H D I h;obtain⟨W,⟨m0,w0⟩,turn⟩:=h;refine wpAny_While<|codeAny_whileLoop (fun n s'=>∃ σ' H',Inv X qp σ' H' s'/\W n σ' H') ?_ m0 ⟨σ,H,I,w0⟩;rintro n s1 ⟨σ1,H1,I1,w1⟩;refine Cg hp<|HS (hc qp s1 σ1 H1 _ I1<|turn n σ1 H1 w1) ?_;rintro b s2 ⟨H2,I2,q2⟩
 cases b with
 | true =>
   obtain⟨N,hN,q2⟩:=q2;rw[if_pos rfl];refine Cg hp<|HS (hb qp s2 σ1 H2 _ I2 q2) fun f s3 q3=>?_
   cases f with
   | next =>
     obtain⟨σ3,H3,I3,n3⟩:=q3;obtain⟨m',hm,w3⟩:=hN σ3 H3 n3;exact⟨m',hm,σ3,H3,I3,w3⟩
   | cont =>
     obtain⟨σ3,H3,I3,n3⟩:=q3;obtain⟨m',hm,w3⟩:=hN σ3 H3 n3;exact⟨m',hm,σ3,H3,I3,w3⟩
   | brk=>exact q3
   | ret v=>exact q3
 | false =>
   rw[if_neg Bk];exact CC ⟨σ1,H2,I2,q2⟩
structure It where
 go:Nat->Hp->Prop
 yld:Nat->Hp->V->Hp->Prop
 stop:Nat->Hp->Prop
def J3(X:Cx)(qp:List (Addr×Obj))(H:Hp)(b:Addr):Prop :=
 H b=none/\b≠X.env.locals/\b ∉ X.fs/\(b∈X.ex\/X.s₀.heap.objs.size<=b)/\(∀ x c,X.env.cells.lookup x=some c->c≠b)/\∀ p∈X.pn++qp,p.1≠b
def Inv.fpOk(I:Inv X qp σ H s)(hb:s.heap.objs.size<=b)(hn:H' b=none):J3 X qp H' b:=by
 refine⟨hn,Br<|Av I.lt hb,I.nofs hb,.inr<|Az I.sz hb,fun x c e z=>?_,fun p hp z=>?_⟩
 . obtain⟨v,q⟩:=I.cell x c e;exact absurd (Av q.lt (by rw[z];exact hb))<|AZ _
 exact absurd (Av (Aj (I.pin p hp).1) (by rw[z];exact hb))<|AZ _
structure Turn(P:Pv)(w:UF)(K:Ac)(tg:Os)(J:It)(fp:List Addr)(it:Addr)(tn:Nat->KM->Prop):Prop where
 mem:it∈fp
 obj:∀ i h,tn i h->∀ b∈fp,∃ o,h.get? b=some o/\∀ v,o.data≠.cell v
 keep:∀ i h h',tn i h->(∀ b∈fp,∀ o,h.get? b=some o->h'.get? b=some o)->tn i h'
 item:∀ (X:Cx),X.prog=P->X.w=w->X.K=K->X.calm=true->∀ (i:Nat) (qp:List (Addr×Obj)) (s:Shared) (σ:St) (H:Hp) (E:Qqa),Inv X qp σ H s->(∀ b∈fp,J3 X qp H b)->tn i s.heap->J.go i H ->
   wpAny (KB P w) X.A (pyNext (.ref it)) (fun r s1=>∃ u,r=some u /\
     wpAny (KB P w) X.A (letOwnedTupleGo tg (.ref it) u) (fun _ s2=>∃ x H',Inv X qp σ H' s2/\RelV x u/\J.yld i H x H'/\tn (i+1) s2.heap/\∀ b∈fp,H' b=none) E s1) E s
 done:∀ (X:Cx),X.prog=P->X.w=w->X.K=K->X.calm=true->∀ (i:Nat) (qp:List (Addr×Obj)) (s:Shared) (σ:St) (H:Hp) (E:Qqa),Inv X qp σ H s->(∀ b∈fp,J3 X qp H b)->tn i s.heap->J.stop i H ->
   wpAny (KB P w) X.A (pyNext (.ref it)) (fun r s1=>r=none/\Inv X qp σ H s1) E s
 self:∀ (A:Around) (i:Nat) (s:Shared) (Q:Qqa) (E:Qqa),tn i s.heap->Q (.ref it) s->wpAny (KB P w) A (pyIter (.ref it)) Q E s
noncomputable abbrev TI:=St->Hp->(It->Hp->Prop)->Prop
def eJ(X:Cx)(qp:List (Addr×Obj))(σ:St)(tg:Os)(R:It->Hp->Prop)(itv:IR)(s2:Shared):Prop :=
 ∃ (it:Addr) (fp:List Addr) (tn:Nat->KM->Prop) (J:It) (H':Hp),itv=.ref it/\Inv X qp σ H' s2/\Turn X.prog X.w X.K tg J fp it tn/\tn 0 s2.heap/\(∀ b∈fp,J3 X qp H' b)/\R J H'
def PI(X:Cx)(tg iter:Os)(wi:TI):Prop :=
 ∀ (qp:List (Addr×Obj)) (s:Shared) (σ:St) (H:Hp) (R:It->Hp->Prop),Inv X qp σ H s->wi σ H R ->
   wpAny (KB X.prog X.w) X.A (W1 iter X.env) (fun v s1=>wpAny (KB X.prog X.w) X.A (pyIter v) (eJ X qp σ tg R) X.xe s1) X.xe s
def QH{o:Obj}{n:String}{vs:Array IR}{Q:Unit->Shared->Prop}(ho:s.heap.get? it=some o)(hc:o.cls=.type n)(hd:o.data=.fields vs)
   (hn:["enumerate","zip","dict_itemiterator","dict_reverseitemiterator","odict_iterator","itertools.zip_longest","itertools.pairwise"].contains n=false) (hQ:Q () s):wpAny M A (letOwnedTupleGo tg (.ref it) u) Q E s:=by
 unfold letOwnedTupleGo
 cases tg <;> first
   | exact Ab hQ
   | (cases u <;> first
       | exact Ab hQ
       | (refine Aa (wpAny_load ho ?_)
          rw[hc,hd];show wpAny M A (if (["enumerate","zip","dict_itemiterator","dict_reverseitemiterator","odict_iterator","itertools.zip_longest","itertools.pairwise"].contains n&&vs[0]?==some (SZ _))=true then _ else _) Q E s;rw[if_neg (by intro h;rw[hn,Bool.false_and] at h;cases h)];exact Ab hQ))
def XZ(K:Ac)(a:Addr):It :=
 ⟨fun i H=>∃ xs x,JB K H a xs/\xs[i]?=some x,fun i H x H'=>H'=H/\∀ xs,JB K H a xs->xs[i]?=some x,fun i H=>∃ xs,JB K H a xs/\xs.length<=i⟩
def XY(K:Ac)(a:Addr):It :=
 ⟨fun i H=>∃ xs x,IQ K H a xs/\xs[i]?=some x,fun i H x H'=>H'=H/\∀ xs,IQ K H a xs->xs[i]?=some x,fun i H=>∃ xs,IQ K H a xs/\xs.length<=i⟩
def UL(lo:Int)(n:Nat):It:=⟨fun i _=>i < n,fun i H x H'=>H'=H/\x=.int (lo+i),fun i _=>n<=i⟩
def wV(a it:Addr):Turn P w K tg (XZ K a) [it] it (fun i h=>h.IsListIter it a i) where
 mem:=by simp
 obj:=fun i h st b hb=>by
   have e:b=it:=by simpa using hb
   subst e;obtain⟨o,e,c,d⟩:=st;exact⟨o,e,fun v z=>by rw[d] at z;cases z⟩
 keep:=fun i h h' st k=>st.at fun o e=>k it (by simp) o e
 item:=by intro X hP hw hK hc i qp s σ H E I hf st hg;subst hP hw hK;obtain⟨xs,x,hq,hx⟩:=hg;obtain⟨its,rv,p,hz⟩:=I.list hq;obtain⟨u,hu,ru⟩:=rv.get hx;obtain⟨f0,f1,f2,f3,f4,f5⟩:=hf it (by simp);refine Du st p.isList (x:=u) (by simpa using hu) fun h' st' sb=>?_;have I1:Inv X qp σ H { s with heap:=h' }:=I.turned (t':=s.toks) (fun b o hb e=>(sb.2 b hb).trans e) f0 f1 f3 f4 f5;obtain⟨o,e,c,d⟩:=id st';exact⟨u,rfl,QH (s:={ s with heap:=h' }) e c d (by decide) ⟨x,H,I1,ru,⟨rfl,fun ys hy=>by rw[I.list_inj hy hq];exact hx⟩,st',fun b hb=>(hf b hb).1⟩⟩
 done:=by intro X hP hw hK hc i qp s σ H E I hf st hg;subst hP hw hK;obtain⟨xs,hq,hx⟩:=hg;obtain⟨its,rv,p,hz⟩:=I.list hq;obtain⟨f0,f1,f2,f3,f4,f5⟩:=hf it (by simp);have hl:=rv.length;exact DC (I.ok.hd hc) st p.isList (by simp;omega) fun h' eb=>⟨rfl,I.turned (t':=s.toks) (fun b o hb e=>eb b o hb e) f0 f1 f3 f4 f5⟩
 self:=fun _ _ _ _ _ st h=>wpAny_pyIter_listiter st h
def zW(a it:Addr):Turn P w K tg (XY K a) [it] it (fun i h=>h.IsTupleIter it a i) where
 mem:=by simp
 obj:=fun i h st b hb=>by
   have e:b=it:=by simpa using hb
   subst e;obtain⟨o,e,c,d⟩:=st;exact⟨o,e,fun v z=>by rw[d] at z;cases z⟩
 keep:=fun i h h' st k=>st.at fun o e=>k it (by simp) o e
 item:=by intro X hP hw hK hc i qp s σ H E I hf st hg;subst hP hw hK;obtain⟨xs,x,hq,hx⟩:=hg;obtain⟨its,rv,p,hz⟩:=I.tuple hq;obtain⟨u,hu,ru⟩:=rv.get hx;obtain⟨f0,f1,f2,f3,f4,f5⟩:=hf it (by simp);refine EH st (show s.heap.IsTuple a its.toArray from p) (x:=u) (by simpa using hu) fun h' st' sb=>?_;have I1:Inv X qp σ H { s with heap:=h' }:=I.turned (t':=s.toks) (fun b o hb e=>(sb.2 b hb).trans e) f0 f1 f3 f4 f5;obtain⟨o,e,c,d⟩:=id st';exact⟨u,rfl,QH (s:={ s with heap:=h' }) e c d (by decide) ⟨x,H,I1,ru,⟨rfl,fun ys hy=>by rw[I.tuple_inj hy hq];exact hx⟩,st',fun b hb=>(hf b hb).1⟩⟩
 done:=by intro X hP hw hK hc i qp s σ H E I hf st hg;subst hP hw hK;obtain⟨xs,hq,hx⟩:=hg;obtain⟨its,rv,p,hz⟩:=I.tuple hq;obtain⟨f0,f1,f2,f3,f4,f5⟩:=hf it (by simp);have hl:=rv.length;exact EV (I.ok.hd hc) st (show s.heap.IsTuple a its.toArray from p) (by simp;omega) fun h' eb=>⟨rfl,I.turned (t':=s.toks) (fun b o hb e=>eb b o hb e) f0 f1 f3 f4 f5⟩
 self:=fun _ _ _ _ _ st h=>wpAny_pyIter_tupleiter st h
def zV(it:Addr)(lo:Int)(n:Nat):Turn P w K tg (UL lo n) [it] it (fun i h=>IsRangeIter h it (lo+(i:Nat)*1) ((n:Int) - (i:Nat)) 1) where
 mem:=by simp
 obj:=fun i h st b hb=>by
   have e:b=it:=by simpa using hb
   subst e;exact⟨_,st,fun v z=>by have z':Data.fields _=Data.cell v:=z;cases z'⟩
 keep:=fun i h h' st k=>k it (by simp) _ st
 item:=by intro X hP hw hK hc i qp s σ H E I hf st hg;subst hP hw hK;obtain⟨f0,f1,f2,f3,f4,f5⟩:=hf it (by simp);have W:=Walks.range (prog:=X.prog) (w:=X.w) (I.ok.hd hc) it lo 1 n;refine W.item i s _ _ hg st fun v h' tk hv st' kk=>?_;obtain⟨t,rfl⟩:=hv;have I1:Inv X qp σ H { s with heap:=h',toks:=tk }:=I.turned (fun b o hb e=>kk b o (by simpa using hb) e) f0 f1 f3 f4 f5;refine⟨_,rfl,QH (s:={ s with heap:=h',toks:=tk }) (n:="range_iterator") st' rfl rfl (by decide) ⟨.int<|lo+i,H,I1,⟨t,?_⟩,⟨rfl,rfl⟩,st',fun b hb=>(hf b hb).1⟩⟩;rw[Int.mul_one]
 done:=by intro X hP hw hK hc i qp s σ H E I hf st hg;subst hP hw hK;obtain⟨f0,f1,f2,f3,f4,f5⟩:=hf it (by simp);exact wpAny_pyNext_range_end (I.ok.hd hc) st (by have:n<=i:=hg;omega) fun h' eb=>⟨rfl,I.turned (t':=s.toks) (fun b o hb e=>eb b o hb e) f0 f1 f3 f4 f5⟩
 self:=fun _ _ _ _ _ st h=>wpAny_pyIter_rangeiter st h
variable {p:Pos}{l:Os}{tl:TE}{fp:List Addr}
def gT(K:Ac)(tl:TE):TI:=fun σ H R=>tl σ H fun x H1=>∃ a,x=.ref a/\(∃ xs,JB K H1 a xs)/\R (XZ K a) H1
def XE(K:Ac)(tl:TE):TI:=fun σ H R=>tl σ H fun x H1=>∃ a,x=.ref a/\(∃ xs,IQ K H1 a xs)/\R (XY K a) H1
def pQ(hl:PE X l tl):PI X tg l (gT X.K tl):=by
 intro qp s σ H R I h;refine HS (hl qp s σ H _ I h) ?_;rintro v s1 ⟨x,H1,I1,r1,q1⟩;obtain⟨a,e,⟨xs,hq⟩,q⟩:=q1;subst e;cases r1;obtain⟨its,rv,p,hz⟩:=I1.list hq;refine Dp p.isList ?_;refine⟨s1.heap.objs.size,[s1.heap.objs.size],_,_,H1,rfl,I1.kept (t':=s1.toks) fun b o e=>Ad _ e,wV a _,⟨_,Am _ rfl,rfl,rfl⟩,fun b hb=>?_,q⟩;have e:b=s1.heap.objs.size:=by simpa using hb
 subst e;exact I1.fpOk (Ag _)<|I1.hok.fresh<|Ag _
def lG(hl:PE X l tl):PI X tg l (XE X.K tl):=by
 intro qp s σ H R I h;refine HS (hl qp s σ H _ I h) ?_;rintro v s1 ⟨x,H1,I1,r1,q1⟩;obtain⟨a,e,⟨xs,hq⟩,q⟩:=q1;subst e;cases r1;obtain⟨its,rv,p,hz⟩:=I1.tuple hq;refine wpAny_pyIter_tuple (show s1.heap.IsTuple a its.toArray from p) ?_;refine⟨s1.heap.objs.size,[s1.heap.objs.size],_,_,H1,rfl,I1.kept (t':=s1.toks) fun b o e=>Ad _ e,zW a _,⟨_,Am _ rfl,rfl,rfl⟩,fun b hb=>?_,q⟩;have e:b=s1.heap.objs.size:=by simpa using hb
 subst e;exact I1.fpOk (Ag _)<|I1.hok.fresh<|Ag _
def sJ{R:It->Hp->Prop}{lo hi:Int}{t u v:Tok}{tk:Nat}(I:Inv X qp σ H s)(h1:-(2 ^ 62)<=lo)(h2:lo < 2 ^ 62)(h3:-(2 ^ 62)<=hi)(h4:hi < 2 ^ 62)
   (q:R (UL lo (hi - lo).toNat) H):wpAny (KB X.prog X.w) X.A (pyIter<|.ref s.heap.objs.size) (eJ X qp σ tg R) E { s with heap:=s.heap.push { cls:=.type "range",data:=.fields #[.int lo t,.int hi u,.int 1 v] },toks:=tk }:=by
 refine wpAny_pyIter_range (IsRange.new ..) (small_one h1 h2 h3 h4) ?_;have I1:Inv X qp σ H { s with heap:=s.heap.push { cls:=.type "range",data:=.fields #[.int lo t,.int hi u,.int 1 v] },toks:=tk }:=I.kept fun b o e=>Ad _ e;refine⟨(s.heap.push { cls:=.type "range",data:=.fields #[.int lo t,.int hi u,.int 1 v] }).objs.size,[(s.heap.push { cls:=.type "range",data:=.fields #[.int lo t,.int hi u,.int 1 v] }).objs.size],_,_,H,rfl,
   I1.kept (t':=tk) fun b o e=>Ad _ e,zV _ lo (hi - lo).toNat,?_,fun b hb=>?_,q⟩
 . have e1:lo+((0:Nat):Int)*1=lo:=by simp
   have e2:(((hi - lo).toNat:Nat):Int) - ((0:Nat):Int)=Builtin.Range.rangeSize lo hi 1:=by rw[rangeSize_one];split <;> omega
   show IsRangeIter _ _ (lo+((0:Nat):Int)*1) ((((hi - lo).toNat:Nat):Int) - ((0:Nat):Int)) 1;rw[e1,e2];exact Am _ rfl
 . have e:b=(s.heap.push { cls:=.type "range",data:=.fields #[.int lo t,.int hi u,.int 1 v] }).objs.size:=by simpa using hb
   subst e;exact I1.fpOk (Ag _)<|I1.hok.fresh<|Ag _
def gU(ta:TA):TI:=fun σ H R=>ta σ H fun vs H1=>∃ j:Int,vs=[.int j]/\-(2 ^ 62)<=j/\j < 2 ^ 62/\R (UL 0 j.toNat) H1
def yB{a:Os}{ta:TA}(hg:Gl X "range")(hm:X.mg "range"=none)(ha:PA X [a] ta)(hs:P3 [a] X.env=[(false,W1 a X.env)]:=by rfl):PI X tg (.Call (.Name "range" p) [a] [] pos) (gU ta):=by
 intro qp s σ H R I h;refine Call_<|Qk I hg hm boot_range<|B7 (HS (ha pos qp s σ H _ I h) ?_) hs rfl;rintro us s1 ⟨vs,H1,I1,r1,q1⟩;obtain⟨j,e,q1,q2,q⟩:=q1;subst e
 cases r1 with
 | cons r rr =>
   cases rr;obtain⟨t,rfl⟩:=r;exact call_range_1<|sJ I1 (by omega) (by omega) q1 q2<|by simpa using q
def Xb(wi:TI)(g:TG)(tb:TS):TS:=fun D σ H=>wi σ H fun J H1=>∃ W:Nat->Nat->St->Hp->Prop,(∃ m,W 0 m σ H1)/\∀ i m σ H,W i m σ H ->
 (J.stop i H/\D.nx σ H)\/(J.go i H/\∃ N:St->Hp->Prop,(∀ σ' H',N σ' H'->∃ m',m' < m/\W (i+1) m' σ' H')/\∀ x H',J.yld i H x H'->g x σ H' fun σ2 H2=>tb { D with nx:=N,ct:=N,bk:=D.nx } σ2 H2)
def QU(fp:List Addr)(h:KM):List (Addr×Obj):=fp.filterMap fun b=>(h.get? b).map fun o=>(b,o)
def T8{o:Obj}(hb:b∈fp)(e:h.get? b=some o):(b,o)∈QU fp h:=List.mem_filterMap.mpr ⟨b,hb,by rw[e];rfl⟩
def vY{p:Addr×Obj}(hp:p∈QU fp h):p.1∈fp/\h.get? p.1=some p.2:=by
 obtain⟨b,hb,e⟩:=List.mem_filterMap.mp hp
 cases q:h.get? b with
 | none=>rw[q] at e;cases e
 | some o =>
   rw[q] at e;have e':(b,o)=p:=Ap e;subst e';exact⟨hb,q⟩
def Inv.pinned{fp:List Addr}(I:Inv X qp σ H s)(hf:∀ b∈fp,J3 X qp H b)(ho:∀ b∈fp,∃ o,s.heap.get? b=some o/\∀ v,o.data≠.cell v):Inv X (qp++QU fp s.heap) σ H s :=
 I.pins_of fun p hp=>(SL.mp hp).elim (fun z=>I.pin p (A2 _ z)) fun z=>by obtain⟨hb,e⟩:=vY z;obtain⟨f0,f1,f2,_⟩:=hf p.1 hb;obtain⟨o,e',d⟩:=ho p.1 hb;rw[e] at e';cases e';exact⟨e,f0,f1,f2,d⟩
def Inv.unpinned{pl:List (Addr×Obj)}(I:Inv X (qp++pl) σ H s):Inv X qp σ H s:=I.pins_of fun p hp=>I.pin p<|A2 _<|BX _ hp
def YD{iter:Os}{wi:TI}{g:TG}{tb:TS}(hp:PassesOwn (KB X.prog X.w) X.A X.env X.xe)(hc:X.calm=true)(hi:PI X tg iter wi)(hg:PG X tg g)(hb:J1 X body tb)
   (hs:∀ x,foldedSetIterable iter X.env x=pure x:=by intro _;rfl):PS X (.For tg iter body [] pos) (Xb wi g tb):=by
 intro qp s σ H D I h;refine wpAny_For (HS (hi qp s σ H _ I h) fun v s1 h1=>HS h1 fun itv s2 h2=>?_) hs;obtain⟨it,fp,tn,J,H2,e,I2,T,st2,f2,W,⟨m0,w0⟩,turn⟩:=h2;subst e
 -- what stays true of the iterator's objects through the loop
 have stat:∀ {H':Hp},(∀ b∈fp,H' b=none)->∀ b∈fp,J3 X qp H' b:=fun hn b hb=>⟨hn b hb,(f2 b hb).2⟩
 refine codeAny_forLoop_any (fun n s'=>∃ i σ' H',Inv X qp σ' H' s'/\tn i s'.heap/\(∀ b∈fp,H' b=none)/\W i n σ' H') ?_ m0 ⟨0,σ,H2,I2,st2,fun b hb=>(f2 b hb).1,w0⟩;rintro n s3 ⟨i,σ3,H3,I3,st3,fr3,w3⟩
 rcases turn i n σ3 H3 w3 with ⟨stop,qn⟩ | ⟨go,N,hN,step⟩
 . refine Cg hp (HS (T.done X rfl rfl rfl hc i qp s3 σ3 H3 X.xe I3 (stat fr3) st3 stop) ?_);rintro r s4 ⟨hr,I4⟩;subst hr;exact CC ⟨σ3,H3,I4,qn⟩
 . refine Cg hp (HS (T.item X rfl rfl rfl hc i qp s3 σ3 H3 X.xe I3 (stat fr3) st3 go) ?_);rintro r s4 ⟨u,hr,h4⟩;subst hr;refine Cg hp (HS h4 ?_);rintro _ s5 ⟨x,H5,I5,r5,y5,st5,fr5⟩;have I5':=I5.pinned (stat fr5) (T.obj _ _ st5);refine Cg hp (HS (hg _ s5 σ3 H5 x u _ I5' r5 (step x H5 y5)) ?_);rintro _ s6 ⟨σ6,H6,I6,q6⟩;refine Cg hp (HS (hb _ s6 σ6 H6 _ I6 q6) fun f s7 q7=>?_);have again:∀ {σ7:St} {H7:Hp},Inv X (qp++QU fp s5.heap) σ7 H7 s7->N σ7 H7->∃ m,m < n/\∃ i σ' H',Inv X qp σ' H' s7/\tn i s7.heap/\(∀ b∈fp,H' b=none)/\W i m σ' H':=fun {σ7 H7} I7 n7=>by
     obtain⟨m',hm,w7⟩:=hN σ7 H7 n7;refine⟨m',hm,i+1,σ7,H7,I7.unpinned,T.keep _ _ _ st5 fun b hb o e=>(I7.pin (b,o) (A2 _ (A2 _ (T8 hb e)))).1,fun b hb=>?_,w7⟩;obtain⟨o,e,d⟩:=T.obj _ _ st5 b hb;exact (I7.pin (b,o) (A2 _ (A2 _ (T8 hb e)))).2.1
   cases f with
   | next=>obtain⟨σ7,H7,I7,n7⟩:=q7;exact again I7 n7
   | cont=>obtain⟨σ7,H7,I7,n7⟩:=q7;exact again I7 n7
   | brk=>obtain⟨σ7,H7,I7,q7⟩:=q7;exact⟨σ7,H7,I7.unpinned,q7⟩
   | ret v=>obtain⟨x7,σ7,H7,I7,r7,q7⟩:=q7;exact⟨x7,σ7,H7,I7.unpinned,r7,q7⟩
noncomputable abbrev R2:=V->V->Hp->VK->Prop
def JG(X:Cx)(f:IR->IR->Sem IR)(r:R2):Prop :=
 ∀ (qp:List (Addr×Obj)) (s:Shared) (σ:St) (H:Hp) (x y:V) (v u:IR) (Q:VK),Inv X qp σ H s->RelV x v->RelV y u->r x y H Q ->
   wpAny (KB X.prog X.w) X.A (f v u) (EP X qp σ Q) X.xe s
def XS(X:Cx)(f:IR->Sem IR)(r:V->Hp->VK->Prop):Prop :=
 ∀ (qp:List (Addr×Obj)) (s:Shared) (σ:St) (H:Hp) (x:V) (v:IR) (Q:VK),Inv X qp σ H s->RelV x v->r x H Q ->
   wpAny (KB X.prog X.w) X.A (f v) (EP X qp σ Q) X.xe s
def Mj(X:Cx)(f:IR)(r:List V->Hp->VK->Prop):Prop :=
 ∀ (qp:List (Addr×Obj)) (s:Shared) (σ:St) (H:Hp) (xs:List V) (us:List IR) (Q:VK),Inv X qp σ H s->Vals xs us->r xs H Q ->
   wpAny (KB X.prog X.w) X.A (call f us) (EP X qp σ Q) X.xe s
def XT(X:Cx)(r:V->Hp->(Bool->Hp->Prop)->Prop):Prop :=
 ∀ (qp:List (Addr×Obj)) (s:Shared) (σ:St) (H:Hp) (x:V) (v:IR) (Q:Bool->Hp->Prop),Inv X qp σ H s->RelV x v->r x H Q ->
   wpAny (KB X.prog X.w) X.A (truthy v) (TP X qp σ Q) X.xe s
def RB(r:R2)(ta tb:TE):TE:=fun σ H Q=>ta σ H fun x H1=>tb σ H1 fun y H2=>r x y H2 Q
def tUn(r:V->Hp->VK->Prop)(ta:TE):TE:=fun σ H Q=>ta σ H fun x H1=>r x H1 Q
def rI(C:Int->Int->Prop)(g:Int->Int->V):R2:=fun x y H Q=>∃ i j,x=.int i/\y=.int j/\C i j/\Q (g i j) H
def NV(g:Int->Int->V):R2:=fun x y H Q=>∃ i j,x=.int i/\y=.int j/\Q (g i j) H
def rU(g:Int->V):V->Hp->VK->Prop:=fun x H Q=>∃ i,x=.int i/\Q (g i) H
variable {f:IR->IR->Sem IR}{r:R2}
section
variable {a b:Os} {tc:TE}
def PR(ha:PE X a ta)(hb:PE X b tb){R:V->V->Hp->Prop}(I:Inv X qp σ H s)
   (h:ta σ H fun x H1=>tb σ H1 fun y H2=>R x y H2)  
   (hf:∀ v u s2 x y H2,Inv X qp σ H2 s2->RelV x v->RelV y u->R x y H2->wpAny (KB X.prog X.w) X.A (f v u) Q X.xe s2) :
   wpAny (KB X.prog X.w) X.A (W1 a X.env) (fun v s₁=>wpAny (KB X.prog X.w) X.A (W1 b X.env) (fun u s₂=>wpAny (KB X.prog X.w) X.A (f v u) Q X.xe s₂) X.xe s₁) X.xe s:=by
 refine HS (ha qp s σ H _ I h) ?_;rintro v s1 ⟨x,H1,I1,r1,q1⟩;refine HS (hb qp s1 σ H1 _ I1 q1) ?_;rintro u s2 ⟨y,H2,I2,r2,q2⟩;exact hf v u s2 x y H2 I2 r1 r2 q2
def fY{op:Operator}(ho:JG X (binaryOp op) r)(ha:PE X a ta)(hb:PE X b tb):PE X (.BinOp a op b pos) (RB r ta tb):=by intro qp s σ H Q I h;exact wpAny_BinOp<|PR ha hb I h fun v u s2 x y H2 I2 rx ry q=>ho qp s2 σ H2 x y v u Q I2 rx ry q
def fZ{op:UnaryOp}{r:V->Hp->VK->Prop}(ho:XS X (unaryOp op) r)(ha:PE X a ta):PE X (.UnaryOp op a pos) (tUn r ta):=by intro qp s σ H Q I h;exact UnaryOp_<|HS (ha qp s σ H _ I h) fun v s1 ⟨x,H1,I1,r1,q1⟩=>ho qp s1 σ H1 x v Q I1 r1 q1
def RM{C:Int->Int->Prop}{g:Int->Int->Int}
   (rule:∀ (i j:Int) (t u:Tok) (s:Shared) (Q:Qqa) (E:Qqa),C i j->Q (.int (g i j) s.toks) { s with toks:=s.toks+1 }->wpAny (KB X.prog X.w) X.A (f (.int i t)<|.int j u) Q E s) :
   JG X f (rI C fun i j=>.int (g i j)):=by
 intro qp s σ H x y v u Q I rx ry h;obtain⟨i,j,rfl,rfl,hc,q⟩:=h;obtain⟨t,rfl⟩:=rx;obtain⟨t',rfl⟩:=ry;exact rule i j t t' s _ _ hc ⟨.int<|g i j,H,I.tok _,⟨_,rfl⟩,q⟩
def RL{g:Int->Int->Int}
   (rule:∀ (i j:Int) (t u:Tok) (s:Shared) (Q:Qqa) (E:Qqa),Q (.int (g i j) s.toks) { s with toks:=s.toks+1 }->wpAny (KB X.prog X.w) X.A (f (.int i t)<|.int j u) Q E s) :
   JG X f (NV fun i j=>.int (g i j)):=by
 intro qp s σ H x y v u Q I rx ry h;obtain⟨i,j,rfl,rfl,q⟩:=h;obtain⟨t,rfl⟩:=rx;obtain⟨t',rfl⟩:=ry;exact rule i j t t' s _ _ ⟨.int<|g i j,H,I.tok _,⟨_,rfl⟩,q⟩
def NX{g:Int->Int->Bool}
   (rule:∀ (i j:Int) (t u:Tok) (s:Shared) (Q:Qqa) (E:Qqa),Q (.bool<|g i j) s->wpAny (KB X.prog X.w) X.A (f (.int i t)<|.int j u) Q E s) :
   JG X f (NV fun i j=>.bl (g i j)):=by
 intro qp s σ H x y v u Q I rx ry h;obtain⟨i,j,rfl,rfl,q⟩:=h;obtain⟨t,rfl⟩:=rx;obtain⟨t',rfl⟩:=ry;exact rule i j t t' s _ _ ⟨.bl<|g i j,H,I,rfl,q⟩
def PY(i j:Int):Prop:=(-(2 ^ 64) < i/\i < 2 ^ 64)\/(-(2 ^ 64) < j/\j < 2 ^ 64)
def PY.ok{i j:Int}(h:PY i j):IntMulOk i j:=by
 rcases h with ⟨h1,h2⟩ | ⟨h1,h2⟩
 . exact .of_left<|intBits_le_64 h1 h2
 exact .of_right<|intBits_le_64 h1 h2
def lQ:JG X (binaryOp .Add) (NV fun i j=>.int (i+j)):=RL fun _ _ _ _ _ _ _ q=>add_int q
def kP:JG X (binaryOp .Sub) (NV fun i j=>.int (i - j)):=RL fun _ _ _ _ _ _ _ q=>sub_int q
def kN:JG X (binaryOp .Mult) (rI PY fun i j=>.int (i*j)):=RM fun _ _ _ _ _ _ _ hc q=>GZ q hc.ok
def kM:JG X (binaryOp .Mod) (rI (fun _ j=>0 < j) fun i j=>.int (i % j)):=RM fun i j _ _ _ _ _ hc q=>by have h1:(0:Int) < j:=hc;exact mod_int' (by omega) (by rw[Int.fmod_eq_emod_of_nonneg i (by omega)];exact q)
def unI{f:IR->Sem IR}{g:Int->Int}
   (rule:∀ (i:Int) (t:Tok) (s:Shared) (Q:Qqa) (E:Qqa),Q (.int (g i) s.toks) { s with toks:=s.toks+1 }->wpAny (KB X.prog X.w) X.A (f<|.int i t) Q E s) :
   XS X f (rU fun i=>.int (g i)):=by
 intro qp s σ H x v Q I rx h;obtain⟨i,rfl,q⟩:=h;obtain⟨t,rfl⟩:=rx;exact rule i t s _ _ ⟨.int<|g i,H,I.tok _,⟨_,rfl⟩,q⟩
def nJ:XS X (unaryOp .USub) (rU fun i=>.int (-i)):=unI fun _ _ _ _ _ q=>neg_int q
end
variable {op':CmpOp}{r':R2}
section
variable {a b:Os} {tc:TE}
def Sy{Q:VK}{k k':Bool}(I:Inv X qp σ H s)(q:Q (.bl k) H)(e:k=k'):EP X qp σ Q (.bool k') s:=by subst e;exact⟨.bl k,H,I,rfl,q⟩
def fU:JG X (Re .Lt) (NV fun i j=>.bl (decide (i < j))):=NX fun _ _ _ _ _ _ _ q=>lt_int q
def fT:JG X (Re .LtE) (NV fun i j=>.bl (decide (i<=j))):=NX fun _ _ _ _ _ _ _ q=>le_int q
def fS:JG X (Re .Gt) (NV fun i j=>.bl (decide (j < i))):=NX fun _ _ _ _ _ _ _ q=>gt_int q
def fR:JG X (Re .GtE) (NV fun i j=>.bl (decide (j<=i))):=NX fun _ _ _ _ _ _ _ q=>ge_int q
def vZ:JG X (Re .In) (fun x y H Q=>∃ i j,x=.str i/\y=.str j/\Q (.bl<|!(Cv j i 0 j.length 1).isEmpty) H):=by intro qp s σ H x y v u Q I rx ry h;obtain⟨i,j,rfl,rfl,q⟩:=h;obtain⟨t,rfl⟩:=rx;obtain⟨t',rfl⟩:=ry;exact in_str<|Sy I q rfl
def kL:JG X (Re .Is) (fun x y H Q=>y=.non/\Q (.bl<|decide (x=.non)) H):=by
 intro qp s σ H x y v u Q I rx ry h;obtain⟨rfl,q⟩:=h;cases ry;refine is_none_gen<|Sy I q ?_
 cases x <;> first
   | (cases rx;rfl)
   | (obtain⟨t,rfl⟩:=rx;rfl)
def pI:JG X (Re .IsNot) (fun x y H Q=>y=.non/\Q (.bl<|!decide (x=.non)) H):=by
 intro qp s σ H x y v u Q I rx ry h;obtain⟨rfl,q⟩:=h;cases ry;refine isnot_none_gen<|Sy I q ?_
 cases x <;> first
   | (cases rx;rfl)
   | (obtain⟨t,rfl⟩:=rx;rfl)
def zf3:JG X (Re .NotIn) (fun x y H Q=>∃ i j,x=.str i/\y=.str j/\Q (.bl<|!(!(Cv j i 0 j.length 1).isEmpty)) H):=by intro qp s σ H x y v u Q I rx ry h;obtain⟨i,j,rfl,rfl,q⟩:=h;obtain⟨t,rfl⟩:=rx;obtain⟨t',rfl⟩:=ry;exact notIn_str<|Sy I q rfl
def pK(ho:JG X (Re op) r)(ha:PE X a ta)(hb:PE X b tb)(hm:behindInMarks op b=false):PE X (.Compare a [op] [b] pos) (RB r ta tb):=by intro qp s σ H Q I h;exact wpAny_Compare1 (PR ha hb I h fun v u s2 x y H2 I2 rx ry q=>ho qp s2 σ H2 x y v u Q I2 rx ry q) hm
def Yw(t:TE):TT:=fun σ H Q=>t σ H fun x H'=>∃ k,x=.bl k/\Q k H'
def oE(ho:JG X (Re op) r)(ha:PE X a ta)(hb:PE X b tb)(hm:behindInMarks op b=false):PT X (.Compare a [op] [b] pos) (Yw<|RB r ta tb):=by
 intro qp s σ H Q I h;refine Ff (HS (ha qp s σ H _ I h) fun v s1 ⟨x,H1,I1,r1,q1⟩=>HS (hb qp s1 σ H1 _ I1 q1) fun u s2 ⟨y,H2,I2,r2,q2⟩ =>
   HS (ho qp s2 σ H2 x y v u _ I2 r1 r2 q2) fun c s3 ⟨z,H3,I3,r3,k,e,q3⟩=>?_) hm
 subst e;cases r3;exact BL ⟨H3,I3,q3⟩
def Vl(r r':R2)(ta tb tc:TE):TE:=fun σ H Q=>ta σ H fun x H1=>tb σ H1 fun y H2=>r x y H2 fun z H3=>∃ k,z=.bl k /\
 (if k=true then tc σ H3 fun w' H4=>r' y w' H4 Q else Q (.bl false) H3)
def tW(ho:JG X (Re op) r)(ho':JG X (Re op') r')(ha:PE X a ta)(hb:PE X b tb)(hc:PE X c tc)
   (hm:lastMarks [op,op'] [b,c]=false:=by with_unfolding_all rfl):PE X (.Compare a [op,op'] [b,c] pos) (Vl r r' ta tb tc):=by
 intro qp s σ H Q I h;refine Compare_chain (HS (ha qp s σ H _ I h) fun v s1 ⟨x,H1,I1,r1,q1⟩=>chain_link (HS (hb qp s1 σ H1 _ I1 q1) fun u s2 ⟨y,H2,I2,r2,q2⟩ =>
   HS (ho qp s2 σ H2 x y v u _ I2 r1 r2 q2) fun d s3 ⟨z,H3,I3,r3,k,e,q3⟩=>?_)) hm
 subst e;cases r3;refine BL ?_
 cases k with
 | false=>exact ite_ff ⟨.bl false,H3,I3,rfl,q3⟩
 | true=>exact ite_tt<|chain_last<|HS (hc qp s3 σ H3 _ I3 q3) fun w' s4 ⟨z',H4,I4,r4,q4⟩=>ho' qp s4 σ H4 y z' u w' Q I4 r2 r4 q4
def sF(ho:JG X (Re op) r)(ho':JG X (Re op') r')(ha:PE X a ta)(hb:PE X b tb)(hc:PE X c tc)
   (hm:lastMarks [op,op'] [b,c]=false:=by with_unfolding_all rfl):PT X (.Compare a [op,op'] [b,c] pos) (Yw<|Vl r r' ta tb tc):=by
 intro qp s σ H Q I h;refine isTrue_chain (HS (ha qp s σ H _ I h) fun v s1 ⟨x,H1,I1,r1,q1⟩=>test_link (HS (hb qp s1 σ H1 _ I1 q1) fun u s2 ⟨y,H2,I2,r2,q2⟩ =>
   HS (ho qp s2 σ H2 x y v u _ I2 r1 r2 q2) fun d s3 ⟨z,H3,I3,r3,k,e,q3⟩=>?_)) hm
 subst e;cases r3;refine BL ?_
 cases k with
 | false =>
   obtain⟨k',e',q'⟩:=q3;cases e';exact ite_ff ⟨H3,I3,q'⟩
 | true =>
   refine ite_tt<|test_last<|HS (hc qp s3 σ H3 _ I3 q3) fun w' s4 ⟨z',H4,I4,r4,q4⟩=>HS (ho' qp s4 σ H4 y z' u w' _ I4 r2 r4 q4) ?_;rintro d' s5 ⟨z2,H5,I5,r5,k2,e2,q5⟩;subst e2;cases r5;exact BL ⟨H5,I5,q5⟩
def Sa(K:Ac)(x:V)(H:Hp)(k:Bool):Prop :=
 match x with
 | .non=>k=false
 | .bl b=>k=b
 | .int i=>k=(i != 0)
 | .str y=>y.length<=sizeLine/\k=((y.length:Int) != 0)
 | .byt y=>y.size<=sizeLine/\k=((y.size:Int) != 0)
 | .ref p=>(∃ xs,JB K H p xs/\k=!xs.isEmpty)\/(∃ xs,IQ K H p xs/\k=!xs.isEmpty)\/∃ kvs,H p=some (.dK kvs)/\k=!kvs.isEmpty
 | _=>False
def yX{kvs:List (κ×V)}{vs:List (κ×IR)}(r:KV kvs vs):(!vs.isEmpty)=!kvs.isEmpty:=by cases r <;> rfl
def bQ{xs:List V}{its:List IR}(r:Vals xs its):(!its.toArray.isEmpty)=!xs.isEmpty:=by cases r <;> simp
def OX:(sizeLine:Nat) < 2 ^ 63:=by rw[Dv];decide
def nG:XT X (fun x H Q=>∃ k,Sa X.K x H k/\Q k H):=by
 intro qp s σ H x v Q I rx h;obtain⟨k,e,q⟩:=h;have hl:=OX;have hs:sizeLine=16777216:=Dv
 cases x with
 | non =>
   cases rx;have e':k=false:=e;subst e';exact truthy_none ⟨H,I,q⟩
 | bl b =>
   cases rx;have e':k=b:=e;subst e';exact BL ⟨H,I,q⟩
 | int i =>
   obtain⟨t,rfl⟩:=rx;have e':k=(i != 0):=e;subst e';exact PySem.P.truthy_int ⟨H,I,q⟩
 | str y =>
   obtain⟨t,rfl⟩:=rx;obtain⟨hy,e'⟩:y.length<=sizeLine/\k=((y.length:Int) != 0):=e;subst e';exact PySem.P.truthy_str (by omega) ⟨H,I.tok _,q⟩
 | byt y =>
   obtain⟨t,rfl⟩:=rx;obtain⟨hy,e'⟩:y.size<=sizeLine/\k=((y.size:Int) != 0):=e;subst e';exact PySem.W.truthy_bytes (by omega) ⟨H,I.tok _,q⟩
 | ref p =>
   cases rx;have e':(∃ xs,JB X.K H p xs/\k=!xs.isEmpty)\/(∃ xs,IQ X.K H p xs/\k=!xs.isEmpty)\/∃ kvs,H p=some (.dK kvs)/\k=!kvs.isEmpty:=e
   rcases e' with ⟨xs,hx,e'⟩ | ⟨xs,hx,e'⟩ | ⟨kvs,hx,e'⟩
   . subst e';obtain⟨its,r,pl,hz⟩:=I.list hx;have hlen:=r.length;exact wpAny_truthy_list pl.isList (by simp only[Aw];omega) ⟨H,I.tok _,by rw[bQ r];exact q⟩
   . subst e';obtain⟨its,r,pl,hz⟩:=I.tuple hx;have hlen:=r.length;exact truthy_tuple pl (by simp only[Aw];omega) ⟨H,I.tok _,by rw[bQ r];exact q⟩
   subst e';obtain⟨hz,hS,vs,r,m⟩:kvs.length<=sizeLine/\(p==sysModules)=false/\∃ vs,KV kvs vs/\s.heap.DictOf (IS X.prog X.w) p vs:=I.hok p _ hx;have hlen:kvs.length=vs.length:=By r;exact wpAny_truthy_dict hS m (by omega) ⟨H,I.tok _,by rw[yX r];exact q⟩
 | _=>exact (show False from e).elim
def sG(ha:PE X a ta)(he:∀ whole,isTrue a X.env whole=(do let v <-whole;standAt a.pos;holding [v] (truthy v))) :
   PT X a (fun σ H Q=>ta σ H fun x H'=>∃ k,Sa X.K x H' k/\Q k H'):=by
 intro qp s σ H Q I h;exact isTrue_plain (HS (ha qp s σ H _ I h) fun v s1 ⟨x,H1,I1,r1,q1⟩=>nG qp s1 σ H1 x v Q I1 r1 q1)<|he _
def yR:JG X (binaryOp .Add) (fun x y H Q=>∃ i j,x=.str i/\y=.str j/\i.length+j.length<=sizeLine/\Q (.str<|i++j) H):=by intro qp s σ H x y v u Q I rx ry h;obtain⟨i,j,rfl,rfl,hz,q⟩:=h;obtain⟨t,rfl⟩:=rx;obtain⟨t',rfl⟩:=ry;exact add_str (fun t' tk=>⟨.str<|i++j,H,I.tok _,⟨_,rfl⟩,q⟩) hz
def vals1{x:V}(r:Vals [x] us):∃ u,us=[u]/\RelV x u:=by
 cases r with
 | cons r1 r2=>cases r2;exact⟨_,rfl,r1⟩
def qC:Mj X (.builtin "abs") (fun xs H Q=>∃ i,xs=[.int i]/\Q (.int<|if i < 0 then -i else i) H):=by intro qp s σ H xs us Q I r h;obtain⟨i,rfl,q⟩:=h;obtain⟨u,rfl,t,rfl⟩:=vals1 r;exact call_abs_int fun u tk=>⟨.int<|if i < 0 then -i else i,H,I.tok _,⟨_,rfl⟩,q⟩
end
variable {dx:Addr}
def aO{mA:Str->Option IR}(n:h.Ns1 dx mA):∃ od,h.get? dx=some od/\∀ name,GR name od=some (mA name):=by
 obtain⟨o,es,ep,ho,hd,hk,_,hm⟩:=n;refine⟨o,ho,fun name=>?_⟩;have e:=hm name;unfold nsFind findBy at e;rw[<-Array.find?_toList] at e;unfold GR;rw[hd];dsimp only
 split
 . rename_i y q;rw[q] at e;exact congrArg some e
 . rename_i q;rw[q] at e;have a:es.toList.any (·.refKey)=false:=by
     rw[List.any_eq_false];intro y hy;obtain⟨z,t,hkey⟩:=hk y<|Array.mem_toList_iff.mp hy;simp[DictEntry.refKey,hkey]
   have a':¬ es.toList.any (·.refKey)=true:=by rw[a];exact Bk
   rw[if_neg a'];exact congrArg some e
def JC.some_of{o:Option IR}(r:JC (some v) o):∃ u,o=some u/\RelV v u:=by
 cases o with
 | none=>exact (show False from r).elim
 | some u=>exact⟨u,rfl,r⟩
variable {C:Addr}{prog:Pv}{env:Env}
section
variable {fs:List (Str×V)} {f:Str}
def nQ{f:Str}(hb:attributeBase e f env (W1 e env)=W1 e env)
   (h:wpAny (KB prog w) A (W1 e env) (fun o s₁=>wpAny (KB prog w) A (getAttr o f true) Q E s₁) E s):wpAny (KB prog w) A (W1 (.Attribute e f pos) env) Q E s :=
 Attribute_any_ h (by rw[arm_eval_Attribute,hb])
end
structure Ia(k:Nat)(A:Around):Prop where
 hd:A.handled=none
 dp:A.depth+3*k+5 < recursionLimit
 un:A.units+16*k+200 < cLine
 gd:A.guards=some []
def Ia.mono{k:Nat}(r:Ia k A)(h:j<=k):Ia j A:=⟨r.hd,by have:=r.dp;omega,by have:=r.un;omega,r.gd⟩
def Ia.deeper{k:Nat}{A:Around}(r:Ia (k+1) A)(env:Env):Ia k (A.deeper env) :=
 ⟨r.hd,by have:=r.dp;show A.depth+1+3*k+5 < _;omega,by have:=r.un;show A.units+3+16*k+200 < _;omega,r.gd⟩
variable {kw:List (Str×IR)}
def zA:(A.under<|.builtin "type.__call__" ⟨.ref C::us,kw⟩).depth=A.depth+1:=by first | rfl | simp[Ep,Code.weight,Code.isCreation,Hf,Code.isCaller,Code.frames,FL,guardIds]
def zB:(A.under<|.builtin "type.__call__" ⟨.ref C::us,kw⟩).units=A.units+1:=by first | rfl | simp[Ep,Code.cUnits,Code.frames,FL]
def zF:(A.under<|.builtin "type.__call__" ⟨.ref C::us,kw⟩).guards=A.guards:=by
 have h:(Code.builtin "type.__call__" ⟨.ref C::us,kw⟩).guards=[]:=by first | rfl | simp[Code.guards,Hf,guardIds]
 dsimp only[Ep];rw[h]
 cases A.guards <;> rfl
def Ia.make{k:Nat}(r:Ia (k+1) A)(C:Addr)(us:List IR)(kw:List (Str×IR)):Ia k (A.under<|.builtin "type.__call__" ⟨.ref C::us,kw⟩) :=
 ⟨r.hd,by have:=r.dp;rw[zA];omega,by have:=r.un;rw[zB];omega,by rw[zF];exact r.gd⟩
def Ia.depth{k:Nat}{A:Around}(r:Ia k A):A.depth < recursionLimit:=by have:=r.dp;omega
def Ia.units{k:Nat}{A:Around}(r:Ia k A):A.units+64 < cLine:=by have:=r.un;omega
def W8:TA:=fun _ H Q=>Q [] H
def fF(ta:TE)(tr:TA):TA:=fun σ H Q=>ta σ H fun x H1=>tr σ H1 fun xs H2=>Q (x::xs) H2
section
variable {t:TA}
def QT:PA X [] W8:=fun _ _ _ _ H Q I h=>F5 ⟨[],H,I,.nil,h⟩
def Pd(ha:PE X e te)(hr:PA X es t)(hs:Qqb X.env e es:=by rfl):PA X (e::es) (fF te t):=by intro pos qp s σ H Q I h;rw[hs];show wpAny _ _ (spliced ((false,W1 e X.env)::backTo pos (P3 es X.env))) _ _ s;refine FM<|HS (ha qp s σ H _ I h) ?_;rintro u s1 ⟨x,H1,I1,r1,q1⟩;exact HS (hr pos qp s1 σ H1 _ I1 q1) fun us s2 ⟨xs,H2,I2,r2,q2⟩=>⟨x::xs,H2,I2,.cons r1 r2,q2⟩
def W3(t:TA):TE:=fun σ H Q=>t σ H fun xs H1=>xs.length<=sizeLine/\∀ p,H1 p=none->Q (.ref p) (upd H1 p<|.tup xs)
def W9(t:TA):TE:=fun σ H Q=>t σ H fun xs H1=>xs.length<=sizeLine/\∀ p,H1 p=none->Q (.ref p) (upd H1 p<|.lst xs)
def lC{x1}(h:PA X es t):PE X (.Tuple es x1 pos) (W3 t):=by intro qp s σ H Q I hq;refine wpAny_Tuple_spliced<|HS (h pos qp s σ H _ I hq) fun us s1 ⟨xs,H1,I1,r,z,q⟩=>⟨by rw[<-r.length];exact z,?_⟩;have hf:H1 s1.heap.objs.size=none:=I1.hok.fresh<|Ag _;refine⟨.ref s1.heap.objs.size,upd H1 s1.heap.objs.size<|.tup xs,I1.laid (t':=s1.toks) (fun b u e=>Ad _ e) (Ag _) ?_,rfl,q _ hf⟩;exact⟨z,us,r,⟨_,Am _ rfl,rfl,rfl,_,rfl⟩⟩
def kX(h:PA X es t):PE X (.List es pos) (W9 t):=by intro qp s σ H Q I hq;refine wpAny_List_spliced<|HS (h pos qp s σ H _ I hq) fun us s1 ⟨xs,H1,I1,r,z,q⟩=>⟨by rw[<-r.length];exact z,?_⟩;have hf:H1 s1.heap.objs.size=none:=I1.hok.fresh<|Ag _;refine⟨.ref s1.heap.objs.size,upd H1 s1.heap.objs.size<|.lst xs,I1.laid (t':=s1.toks) (fun b u e=>Ad _ e) (Ag _) ?_,rfl,q _ hf⟩;exact⟨z,us,0,r,Am _ rfl⟩
end
noncomputable abbrev Sp:=List V->Hp->VK->XK->Prop
noncomputable abbrev M5:=List Env->Hp->Shared->XK->Qqa
structure Lx(P:Pv)(w:UF)(K:Ac)(mg:Str->Option IR)(base:KM)(A:Around)(outer:List Env)(s:Shared)(H:Hp):Prop where
 frames:A.frames=some outer
 mod:Mod K mg base
 bs:∀ b o,base.get? b=some o->s.heap.get? b=some o/\H b=none
 bsz:base.objs.size<=s.heap.objs.size
 funs:s.heap.FunFrames base outer
 frf:∀ b∈Lp outer,H b=none
 hok:Jn P w H s.heap
 bare:AllBare s.gens
def CE(outer:List Env)(P:Pv)(w:UF)(H:Hp)(s:Shared)(Q:VK)(u:IR)(s':Shared):Prop :=
 ∃ v H',s'.os=s.os/\AllBare s'.gens/\Un (Lp outer) [] H H' s.heap s'.heap/\Jn P w H' s'.heap/\RelV v u/\Q v H'
def CR(CX:M5)(outer:List Env)(P:Pv)(w:UF)(H:Hp)(s:Shared)(Q:VK)(E:XK)(r:Result)(s':Shared):Prop :=
 match r with
 | .ok (.ret u)=>CE outer P w H s Q u s'
 | .ok _=>False
 | .error e=>CX outer H s E e s'
structure II(P:Pv)(w:UF)(K:Ac)(mg:Str->Option IR)(base:KM)(CX:M5)(k:Nat)(f:Addr)(fd:FuncData)(ps:List Str)(sp:Sp):Prop where
 len:∀ vs H Q E,sp vs H Q E->vs.length=ps.length
 run:∀ (A:Around) (outer:List Env) (s:Shared) (H:Hp) (args:Args) (us:List IR) (vs:List V) (Q:VK) (E:XK),Ia k A->Lx P w K mg base A outer s H->BindsTo s fd args (ps.zip us)->Vals vs us->sp vs H Q E ->
   codeAny (KB P w) A (.call (.ref f) args) (CR CX outer P w H s Q E) s
variable {mg:Str->Option IR}{base:KM}{outer:List Env}
def Lx.make(e:Lx P w K mg base A outer s H)(C:Addr)(us:List IR)(kw:List (Str×IR)) :
   Lx P w K mg base (A.under<|.builtin "type.__call__" ⟨.ref C::us,kw⟩) outer s H:=⟨by first | exact e.frames | (simpa[Ep,Code.envs,FL,pushEnvs] using e.frames),e.mod,e.bs,e.bsz,e.funs,e.frf,e.hok,e.bare⟩
def Inv.env0(I:Inv X qp σ H s):Lx X.prog X.w X.K X.mg X.base X.A X.stack s H :=
 ⟨I.ok.frames,I.ok.mod,I.bs,Az I.ok.bsz I.sz,I.stack,I.stkFree,I.hok,I.bare⟩
def Inv.after{Q:VK}(I:Inv X qp σ H s)(h:CE X.stack X.prog X.w H s Q u s'):EP X qp σ Q u s':=by obtain⟨v,H',os,bare,un,hok,r,q⟩:=h;obtain⟨hh,g,d,t,os'⟩:=s';obtain rfl:os'=s.os:=os;exact⟨v,H',I.call (h':=hh) (g':=g) (d':=d) (t':=t) (ch:=[]) un hok bare fun b z=>absurd z (by simp),r,q⟩
def gR(sp:Sp)(dvs:List V)(E:XK)(t:TA):TE:=fun σ H Q=>t σ H fun vs H1=>sp (vs++dvs) H1 Q E
def Binds(K:Ac)(fd:FuncData)(ps:List Str)(ds:List IR):Prop :=
 ∀ (s:Shared) (us:List IR),K.In s.heap->(us++ds).length=ps.length->BindsTo s fd ⟨us,[]⟩ (ps.zip<|us++ds)
variable {fd:FuncData}{ps:List Str}
def Binds.all(h:∀ us:List IR,us.length=ps.length->bindArgs fd ⟨us,[]⟩=pure (ps.zip us)):Binds K fd ps []:=fun s us _ hl=>by rw[Al] at hl ⊢;exact .of_eq<|h us hl
def Passes(CX:M5)(X:Cx)(E:XK):Prop:=∀ (qp:List (Addr×Obj)) (σ:St) (H:Hp) (s:Shared) (e:IR) (s':Shared),Inv X qp σ H s->CX X.stack H s E e s'->X.xe e s'
variable {CX:M5}{sp:Sp}{apos:Pos}
section
variable {k:Nat} {f:Addr} {dvs:List V} {ds:List IR} {E:XK} {m:Str} {o:Os} {t:TA}
def jP{Q:VK}{vs:List V}(F:II X.prog X.w X.K X.mg X.base CX k f fd ps sp)(hr:Ia k X.A)(hb:Binds X.K fd ps ds)(hd:Vals dvs ds)(hx:Passes CX X E)
   (I:Inv X qp σ H s) (r:Vals vs us) (h:sp (vs++dvs) H Q E):wpAny (KB X.prog X.w) X.A (call (.ref f) us) (EP X qp σ Q) X.xe s:=by
 have r2:Vals (vs++dvs) (us++ds):=r.append hd;have hl:(us++ds).length=ps.length:=by rw[<-r2.length];exact F.len _ _ _ _ h
 refine DG<|CL (F.run X.A X.stack s H ⟨us,[]⟩ (us++ds) (vs++dvs) Q E hr I.env0 (hb s us I.kIn hl) r2 h) fun r s' hq=>?_
 cases r with
 | error e=>exact hx qp σ H s e s' I hq
 | ok fl =>
   cases fl with
   | ret u=>exact I.after hq
   | next=>exact False.elim hq
   | brk=>exact False.elim hq
   | cont=>exact False.elim hq
def Zs(F:II X.prog X.w X.K X.mg X.base CX k f fd ps sp)(hr:Ia k X.A)(hg:Gl X x)(hm:X.mg x=some (.ref f))(hk:BV X.K (.ref f)=true)(hb:Binds X.K fd ps ds)(hd:Vals dvs ds)(hx:Passes CX X E)
   (ha:PA X (e::es) t) (hdb:(x==("__debug__":Str))=false:=by decide) (he:Qqb X.env e es:=by rfl) (hpl:Qqc pos es X.env:=by rfl) :
   PE X (.Call (.Name x p) (e::es) [] pos) (gR sp dvs E t):=by
 intro qp s σ H Q I h;refine CD<|Tq I hg hm ?_ hdb;refine FN (h₀:=X.base) I.ok.mod.kin hk (HS (ha pos qp s σ H _ I h) fun us s1 ⟨vs,H1,I1,r,q⟩=>⟨I1.kIn,?_⟩) he hpl;exact jP F hr hb hd hx I1 r q
end
structure Iy(N P:List Str)(sc:Scope):Prop where
 kind:sc.kind=.function
 co:sc.isCoroutine=false
 gen:sc.isGenerator=false
 nd:N.Nodup
 pre:N.take P.length=P
 par:∀ x∈P,sc.names.lookup x=some .local\/sc.names.lookup x=some .cell
 nofree:∀ y∈sc.names,y.2≠.free
variable {kindOf:Str->Option NameKind}
def Z3{kindOf:Str->Option NameKind}{x:Str}:∀ {binds:List (Str×IR)} {m:Str->Option IR},(∀ v,(x,v) ∉ binds)->bindL kindOf binds m x=m x
 | [],_,_=>rfl
 | (n,v)::r,m,h=>by
   unfold bindL;rw[Z3 fun w hw=>h w (Ak _ hw)]
   split
   . have:x≠n:=by rintro rfl;exact h v Ao
     simp[this]
   rfl
def Z1{kindOf:Str->Option NameKind}{x:Str}:∀ {binds:List (Str×IR)} {m:Str->Option IR},(∀ v,(x,v) ∉ binds)->bindC kindOf binds m x=m x
 | [],_,_=>rfl
 | (n,v)::r,m,h=>by
   unfold bindC;rw[Z1 fun w hw=>h w (Ak _ hw)]
   split
   . rfl
   . have:x≠n:=by rintro rfl;exact h v Ao
     simp[this]
def Z2{kindOf:Str->Option NameKind}{x:Str}{v:IR}:∀ {P:List Str} {vs:List IR} {i:Nat} {m:Str->Option IR},P.Nodup->P[i]?=some x->vs[i]?=some v->kindOf x=some .local ->
   bindL kindOf (P.zip vs) m x=some v
 | [],_,_,_,_,h,_,_=>by simp at h
 | _::_,[],_,_,_,_,h,_=>by simp at h
 | p::P,w::vs,0,m,nd,h1,h2,hk=>by simp at h1 h2;subst h1;subst h2;show bindL kindOf ((p,w)::P.zip vs) m p=_;unfold bindL;rw[Z3 fun v hv=>(List.nodup_cons.mp nd).1 (C5 hv).1,if_pos hk];simp
 | p::P,w::vs,i+1,m,nd,h1,h2,hk=>by show bindL kindOf ((p,w)::P.zip vs) m x=_;unfold bindL;exact Z2 (i:=i) (List.nodup_cons.mp nd).2 (by simpa using h1) (by simpa using h2) hk
def Z0{kindOf:Str->Option NameKind}{x:Str}{v:IR}:∀ {P:List Str} {vs:List IR} {i:Nat} {m:Str->Option IR},P.Nodup->P[i]?=some x->vs[i]?=some v->kindOf x≠some .local ->
   bindC kindOf (P.zip vs) m x=some v
 | [],_,_,_,_,h,_,_=>by simp at h
 | _::_,[],_,_,_,_,h,_=>by simp at h
 | p::P,w::vs,0,m,nd,h1,h2,hk=>by simp at h1 h2;subst h1;subst h2;show bindC kindOf ((p,w)::P.zip vs) m p=_;unfold bindC;rw[Z1 fun v hv=>(List.nodup_cons.mp nd).1 (C5 hv).1,if_neg hk];simp
 | p::P,w::vs,i+1,m,nd,h1,h2,hk=>by show bindC kindOf ((p,w)::P.zip vs) m x=_;unfold bindC;exact Z0 (i:=i) (List.nodup_cons.mp nd).2 (by simpa using h1) (by simpa using h2) hk
def start(N:List Str)(vs:List V):St:=vs.map some++BD (N.length - vs.length) none
def Ic(CX:M5)(P:Pv)(w:UF)(K:Ac)(mg:Str->Option IR)(base:KM)(N:List Str)(qual:Str)(scope:Scope)(f:Addr)(cd:IR)(A:Around)(outer:List Env)(s:Shared)(H:Hp)(E:XK):Cx where
 prog:=P
 w:=w
 K:=K
 mg:=mg
 base:=base
 A:=A.deeper (envOfC qual scope s.heap.objs.size f cd)
 N:=N
 s₀:=s
 H₀:=H
 env:=envOfC qual scope s.heap.objs.size f cd
 outer:=outer
 stack:=envOfC qual scope s.heap.objs.size f cd::outer
 ex:=[]
 calm:=true
 fn:=fun _=>true
 pn:=[]
 xe:=fun e s'=>wpAny (KB P w) (A.deeper<|envOfC qual scope s.heap.objs.size f cd) (leaving (envOfC qual scope s.heap.objs.size f cd) e) (fun _ s''=>CX outer H s E e s'') (fun e' s''=>CX outer H s E e' s'') s'
def ZD{sc:Scope}(h:sc.names.lookup x=some .cell):∃ c,(cellsFrom n sc.names []).lookup x=some c:=by have q:=EW sc.names n []<|.inl h;exact Option.isSome_iff_exists.mp q
variable {qual:Str}{scope:Scope}
def vO{f:Addr}{cd:IR}{s1:Shared}{E:XK}{vs:List V}
   (S:Iy N ps scope) (hd:A.handled=none) (e0:Lx P w K mg base A outer s H) (hl:vs.length=ps.length) (r:Vals vs us)
   (x:InCallC s s.heap.objs.size (bindL (envOfC qual scope s.heap.objs.size f cd).kindOf (ps.zip us) fun _=>none) (cellsFrom (s.heap.objs.size+1) scope.names []) (bindC (envOfC qual scope s.heap.objs.size f cd).kindOf (ps.zip us) fun _=>none) s1) :
   Inv (Ic CX P w K mg base N qual scope f cd A outer s H E) [] (start N vs) H s1:=by
 have hpl:ps.length<=N.length:=by have:=congrArg List.length S.pre;rw[Bv] at this;omega
 obtain⟨h1,tk,rfl,hk⟩:=x.done;have noA:∀ b:Addr,b ∉ (Ic CX P w K mg base N qual scope f cd A outer s H E).ex:=fun b z=>absurd (show b∈([]:List Addr) from z) (by simp);refine⟨⟨e0.mod,S.kind,rfl,rfl,Ag _,fun y z c h1 h2=>?_,fun y hy=>?_,fun y c _ h=>?_,fun _=>hd,Around.frames_deeper e0.frames,.inr ⟨rfl,rfl⟩,fun b z=>absurd z (noA b),e0.bs,e0.bsz,fun b _ _=>noA b,fun b z=>absurd z (noA b),e0.funs,e0.frf⟩,
   rfl,e0.bare,Un.kept hk,⟨_,x.toInCall.ns,fun i y v h1 h2 h3=>?_⟩,fun y c h=>⟨_,x.cell y c h⟩,e0.hok.fresh (Ag _),fun y c h=>?_,fun p hp=>absurd (show p∈([]:List (Addr×Obj)) from hp) (by simp),e0.hok.kept hk,?_⟩
 . exact name_of_addr x.apart (A4 h1)<|A4 h2
 . have hy:scope.names.lookup y=some .cell\/scope.names.lookup y=some .free:=hy
   rcases hy with hy | hy
   . exact ZD hy
   exact absurd rfl<|S.nofree _<|A4 hy
 . exact BQ<|x.above y c<|A4 h
 . have hi:i < vs.length:=by
     unfold start at h2
     by_cases hi:i < vs.length
     . exact hi
     . rw[AV (by simpa using hi)] at h2;rw[Cw] at h2
       split at h2 <;> cases h2
   have ha:vs[i]?=some v:=by
     unfold start at h2;rw[Ai (by simpa using hi),AD] at h2
     cases e:vs[i]? with
     | none=>rw[e] at h2;cases h2
     | some a=>rw[e] at h2;cases h2;rfl
   obtain⟨u,hu,rv⟩:=r.get ha;have hp:ps[i]?=some y:=by rw[<-S.pre,List.getElem?_take_of_lt (by omega)];exact h1
   have ndP:ps.Nodup:=by rw[<-S.pre];exact S.nd.sublist<|List.take_sublist _ _
   refine⟨u,rv,?_⟩
   rcases S.par y (AI hp) with k | k
   . exact .inl ⟨k,Z2 ndP hp hu k⟩
   obtain⟨c,e⟩:=ZD (n:=s.heap.objs.size+1) k;refine .inr ⟨.inl k,c,e,?_⟩;have q:=x.cell y c e;rw[Z0 ndP hp hu (by show scope.names.lookup y≠_;rw[k];decide)] at q;exact q
 . exact e0.hok.fresh<|BQ<|x.above y c<|A4 h
 unfold start;show _=N.length;rw[AM,Af,CM];omega
def Yh{k:Nat}{f:Addr}{name qual:Str}{params:Arguments}{body:List Wp}{scope:Scope}{dV kV doc pm cdv ct oc:IR}{an od:Option Addr}
   {osl:Array (Option IR)}   (lk:K.lookup f=some ⟨oc,od,.func<|B8 name qual params body scope dV kV doc pm an cdv ct,osl⟩) (hcd:Dk K cdv qual=true) (S:Iy N ps scope)
   (len:∀ vs H Q E,sp vs H Q E->vs.length=ps.length)
   (hbody:∀ (A:Around) (outer:List Env) (s:Shared) (H:Hp) (vs:List V) (Q:VK) (E:XK),Ia k (A.deeper<|envOfC qual scope s.heap.objs.size f cdv)->sp vs H Q E ->
     ∃ t,J1 (Ic CX P w K mg base N qual scope f cdv A outer s H E) body t/\t { nx:=fun _ H'=>Q .non H',rt:=Q } (start N vs) H) :
   II P w K mg base CX (k+1) f (B8 name qual params body scope dV kV doc pm an cdv ct) ps sp:=by
 refine⟨len,fun A outer s H args us vs Q E hr e0 hb r hsp=>?_⟩;have hl:=len _ _ _ _ hsp;have KX:K.In s.heap:=e0.mod.kin.keeps fun b o e=>(e0.bs b o e).1;have lim:s.heap.NoLimit:=e0.mod.nolimit.keeps fun b o e=>(e0.bs b o e).1;have hkind:∀ y∈ps.zip us,scope.names.lookup y.1=some .local\/(scope.names.lookup y.1=some .cell/\((cellsFrom (s.heap.objs.size+1) scope.names []).lookup y.1).isSome=true):=by
   rintro ⟨n,v⟩ hy
   rcases S.par n (C5 hy).1 with q | q
   . exact .inl q
   exact .inr ⟨q,EW _ _ _<|.inl q⟩
 refine codeAny_call_function hr.depth (KX _ _ lk) rfl S.co S.gen rfl (PySem.W.codeRec_of KX hcd)<|hb _ _ _ _ ?_;refine wpAny_newFunctionEnv_cells S.kind hkind fun env he s1 x=>?_;subst he;refine⟨lim.keeps x.toInCall.keep,codeAny_func ?_⟩;obtain⟨t,ht,hq⟩:=hbody A outer s H vs Q E (hr.deeper _) hsp;have I:Inv (Ic CX P w K mg base N qual scope f cdv A outer s H E) [] (start N vs) H s1:=vO S hr.hd e0 hl r x;refine A8 (ht [] s1 (start N vs) H _ I hq) (fun fl s' hs=>?_) fun e s' hs=>hs;have fin:∀ {σ':St} {H':Hp} {v:V} {u:IR},Inv (Ic CX P w K mg base N qual scope f cdv A outer s H E) [] σ' H' s'->RelV v u->Q v H'->CE outer P w H s Q u s' :=
   fun {σ' H' v u} J rv q=>⟨v,H',J.os,J.bare,J.base,J.hok,rv,q⟩
 cases fl with
 | ret u =>
   obtain⟨v,σ',H',J,rv,q⟩:=hs;exact fin J rv q
 | next =>
   obtain⟨σ',H',J,q⟩:=hs;exact fin (v:=V.non) (u:=AE) J rfl q
 | brk =>
   obtain⟨_,_,_,q⟩:=hs;exact False.elim q
 | cont =>
   obtain⟨_,_,_,q⟩:=hs;exact False.elim q
variable {id T:String}
section
variable {t:TA} {r:List V->Hp->VK->Prop}
def Xe(r:List V->Hp->VK->Prop)(t:TA):TE:=fun σ H Q=>t σ H fun vs H1=>r vs H1 Q
def TV(hc:Mj X (.builtin id) r)(hg:Gl X x)(hm:X.mg x=none)(hv:UV x=some (.builtin id))(ha:PA X (e::es) t)(hn:x≠"__name__":=by decide)(hdb:(x==("__debug__":Str))=false:=by decide)
   (he:Qqb X.env e es:=by rfl) (hpl:Qqc pos es X.env:=by rfl):PE X (.Call (.Name x p) (e::es) [] pos) (Xe r t):=by
 intro qp s σ H Q I h;refine CD<|Qk I hg hm hv ?_ hn hdb;exact PyProof.Rows.callWith_builtin1 (HS (ha pos qp s σ H _ I h) fun us s1 ⟨vs,H1,I1,r1,q1⟩=>hc qp s1 σ H1 vs us Q I1 r1 q1) he hpl
def aY(hc:Mj X (.type T) r)(hg:Gl X x)(hm:X.mg x=none)(hv:UV x=some (.type T))(ha:PA X (e::es) t)(hn:x≠"__name__":=by decide)(hdb:(x==("__debug__":Str))=false:=by decide)
   (he:Qqb X.env e es:=by rfl) (hpl:Qqc pos es X.env:=by rfl):PE X (.Call (.Name x p) (e::es) [] pos) (Xe r t):=by
 intro qp s σ H Q I h;refine CD<|Qk I hg hm hv ?_ hn hdb;exact B7 (HS (ha pos qp s σ H _ I h) fun us s1 ⟨vs,H1,I1,r1,q1⟩=>hc qp s1 σ H1 vs us Q I1 r1 q1) he hpl
end
variable {d:V}
section
variable [DecidableEq κ]
def Jp(kvs:List (κ×V))(k:κ):Option V:=(kvs.find? fun kv=>decide (kv.1=k)).map (·.2)
def putK(kvs:List (κ×V))(k:κ)(v:V):List (κ×V) :=
 if (kvs.any fun kv=>decide (kv.1=k))=true then kvs.map (fun kv=>if kv.1=k then (kv.1,v) else kv) else kvs++[(k,v)]
def V4{p:κ×V}{r:List (κ×V)}{k:κ}(e:p.1=k):Jp (p::r) k=some p.2:=by simp[Jp,Ba,e]
def V3{p:κ×V}{r:List (κ×V)}{k:κ}(e:¬ p.1=k):Jp (p::r) k=Jp r k:=by simp[Jp,Ba,e]
def Z9(k:κ):∀ kvs:List (κ×V),(kvs.any fun kv=>decide (kv.1=k))=(Jp kvs k).isSome
 | []=>rfl
 | p::r=>by
   rw[CV]
   by_cases e:p.1=k
   . simp only[V4 e,decide_eq_true e,Bool.true_or,FO]
   rw[V3 e,decide_eq_false e,Bool.false_or];exact Z9 k r
def WE(kvs:List (κ×V))(k:κ)(v:V):(putK kvs k v).length<=kvs.length+1:=by
 unfold putK
 split
 . rw[Af];omega
 rw[AM,AC,Bf];omega
def JC.isSome_eq{o:Option V}{u:Option IR}(r:JC o u):o.isSome=u.isSome:=by
 cases o with
 | none=>cases u with
   | none=>rfl
   | some _=>exact (show False from r).elim
 | some _=>cases u with
   | none=>exact (show False from r).elim
   | some _=>rfl
def JC.getD{o:Option V}{u:Option IR}{d:V}{d':IR}(r:JC o u)(rd:RelV d d'):RelV (o.getD d) (u.getD d'):=by
 cases o with
 | none=>cases u with
   | none=>exact rd
   | some _=>exact (show False from r).elim
 | some _=>cases u with
   | none=>exact (show False from r).elim
   | some _=>exact r
def KV.val{kvs:List (κ×V)}{vs:List (κ×IR)}(r:KV kvs vs)(k:κ):JC (Jp kvs k) (valueAt vs k):=by
 unfold KV at r
 induction r with
 | nil=>exact CF
 | @cons p q ps qs h t ih =>
   obtain⟨h1,h2⟩:=h
   by_cases e:p.1=k
   . have e':q.1=k:=h1.symm.trans e;have b:valueAt (q::qs) k=some q.2:=by simp[valueAt,Ba,e']
     rw[V4 e,b];exact h2
   . have e':¬ q.1=k:=fun z=>e<|h1.trans z;have b:valueAt (q::qs) k=valueAt qs k:=by simp[valueAt,Ba,e']
     rw[V3 e,b];exact ih
def KV.any{kvs:List (κ×V)}{vs:List (κ×IR)}(r:KV kvs vs)(k:κ):(kvs.any fun kv=>decide (kv.1=k))=vs.any fun kv=>decide (kv.1=k):=by
 unfold KV at r
 induction r with
 | nil=>rfl
 | cons h t ih=>rw[CV,CV,ih,h.1]
def KV.repl{kvs:List (κ×V)}{vs:List (κ×IR)}(r:KV kvs vs)(k:κ)(ry:RelV y u) :
   KV (kvs.map fun kv=>if kv.1=k then (kv.1,y) else kv) (vs.map fun kv=>if kv.1=k then (kv.1,u) else kv):=by
 unfold KV at r ⊢
 induction r with
 | nil=>exact .nil
 | @cons p q ps qs h t ih =>
   rw[Ax,Ax];refine .cons ?_ ih;obtain⟨h1,h2⟩:=h
   by_cases e:p.1=k
   . rw[if_pos e,if_pos (h1.symm.trans e)];exact⟨h1,ry⟩
   rw[if_neg e,if_neg (fun z=>e (h1.trans z))];exact⟨h1,h2⟩
def KV.put{kvs:List (κ×V)}{vs:List (κ×IR)}(r:KV kvs vs)(k:κ)(ry:RelV y u):KV (putK kvs k y) (stored vs k u):=by
 unfold putK stored;rw[r.any k]
 by_cases e:(vs.any fun kv=>decide (kv.1=k))=true
 . rw[if_pos e,if_pos e];exact r.repl k ry
 rw[if_neg e,if_neg e];exact Hq r ⟨rfl,ry⟩
def KV.length{kvs:List (κ×V)}{vs:List (κ×IR)}(r:KV kvs vs):kvs.length=vs.length:=By r
end
def Oi{k:Key}(r:RelV (kV k) u):(IS P w).is k u=true:=by
 cases k with
 | inl i=>obtain⟨t,e⟩:=(show ∃ t,u=DY i t from r);subst e;exact zG P w i t
 | inr x=>obtain⟨t,e⟩:=(show ∃ t,u=FI x t from r);subst e;exact zH P w x t
def bF{P:Pv}{w:UF}:∀ {ks:List Key} {us:List IR},Vals (ks.map kV) us->ItemsAre (IS P w) ks us
 | [],_,r=>by rw[Cp] at r;cases r;exact .nil
 | k::ks,_,r=>by
   rw[Ax] at r
   cases r with
   | cons h t=>exact .cons (Oi h)<|bF t
noncomputable abbrev KT (H:Hp):List (List Key×V)->List (List Key×Addr×IR)->Prop:=Paired fun p q=>p.1=q.1/\H q.2.1=some (.tup<|p.1.map kV)/\RelV p.2 q.2.2
variable {xs:List (List Key×Addr×IR)}{kvs:List (List Key×V)}
def KT.val(r:KT H kvs xs)(k:List Key):JC (Jp kvs k) ((atKey xs k).map (·.2)):=by
 induction r with
 | nil=>exact CF
 | @cons p q ps qs h t ih =>
   obtain⟨h1,_,h2⟩:=h
   by_cases e:p.1=k
   . have e':q.1=k:=h1.symm.trans e;have b:atKey (q::qs) k=some q.2:=by simp[atKey,Ba,e']
     rw[V4 e,b];exact h2
   . have e':¬ q.1=k:=fun z=>e<|h1.trans z;have b:atKey (q::qs) k=atKey qs k:=by simp[atKey,Ba,e']
     rw[V3 e,b];exact ih
def KT.repl(r:KT H kvs xs)(k:List Key)(ry:RelV y u) :
   KT H (kvs.map fun kv=>if kv.1=k then (kv.1,y) else kv) (xs.map<|putAt k u):=by
 induction r with
 | nil=>exact .nil
 | @cons p q ps qs h t ih =>
   rw[Ax,Ax];refine .cons ?_ ih;obtain⟨h1,h2,h3⟩:=h;unfold putAt
   by_cases e:p.1=k
   . rw[if_pos e,if_pos (h1.symm.trans e)];exact⟨h1,h2,ry⟩
   rw[if_neg e,if_neg (fun z=>e (h1.trans z))];exact⟨h1,h2,h3⟩
def KT.put(r:KT H kvs xs)(k:List Key)(hb:H b=some (.tup<|k.map kV))(ry:RelV y u) :
   KT H (putK kvs k y) (storedH xs k b u):=by
 have e:(kvs.any fun kv=>decide (kv.1=k))=(atKey xs k).isSome:=by rw[Z9,(r.val k).isSome_eq,Eh]
 unfold putK storedH;rw[e]
 by_cases q:(atKey xs k).isSome=true
 . rw[if_pos q,if_pos q];exact r.repl k ry
 rw[if_neg q,if_neg q];exact Hq r ⟨rfl,hb,ry⟩
def KT.keeps(r:KT H kvs xs)(ht:∀ b ys,H b=some (.tup ys)->H' b=some (.tup ys)):KT H' kvs xs :=
 Paired.mapP r fun _ _ z=>⟨z.1,ht _ _ z.2.1,z.2.2⟩
def Yu{u:HO}(ok:Jn P w H h)(e:Rd H a u):Ju P w H h a u:=e.ok ok
def OM{kvs:List (Key×V)}(ok:Jn P w H h)(e:Rd H a (.dK kvs)):kvs.length<=sizeLine/\(a==sysModules)=false/\∃ vs,KV kvs vs/\h.DictOf (IS P w) a vs :=
 show Ju P w H h a (.dK kvs) from Yu ok e
def Yg{kvs:List (Key×V)}(ok:Jn P w H h)(e:H a=some (.dK kvs)):kvs.length<=sizeLine/\(a==sysModules)=false/\∃ vs,KV kvs vs/\h.DictOf (IS P w) a vs:=OM ok<|.inl e
def OW{ks:List Key}(ok:Jn P w H h)(e:H a=some (.tup<|ks.map kV)):(tupleKind<|IS P w).is h ks a:=by
 obtain⟨_,its,r,o,h1,h2,_,n,h3⟩:=(show Ju P w H h a (.tup<|ks.map kV) from ok a _ e)
 exact⟨o,its.toArray,n,h1,h2,h3,by simpa using bF r⟩
def ON(ok:Jn P w H h)(e:Rd H a (.dT kvs)):kvs.length<=sizeLine/\(a==sysModules)=false /\
   ∃ xs,KT H kvs xs/\h.DictOfH (tupleKind<|IS P w) a xs:=by
 obtain⟨z,y,xs,r,o,es,ep,h1,h2,h3,h4,h5⟩:=(show Ju P w H h a (.dT kvs) from Yu ok e)
 refine⟨z,y,xs,r,o,es,ep,h1,h2,h3,h4,fun x hx=>?_,h5⟩;have all:∀ {l:List (List Key×V)} {m:List (List Key×Addr×IR)},KT H l m->∀ x∈m,(tupleKind<|IS P w).is h x.1 x.2.1:=by
   intro l m q
   induction q with
   | nil=>intro x hx;exact nomatch hx
   | @cons p q ps qs hq t ih =>
     intro x hx
     rcases M2.mp hx with e | hx
     . subst e;exact OW ok (by rw[<-hq.1];exact hq.2.1)
     exact ih x hx
 exact all r x hx
def eS(ok:Jn P w H h)(e:H a=some (.dT kvs)):kvs.length<=sizeLine/\(a==sysModules)=false /\
   ∃ xs,KT H kvs xs/\h.DictOfH (tupleKind<|IS P w) a xs:=ON ok (.inl e)
def IU(H:Hp)(a:Addr)(y:V)(r:Option V):Prop :=
 (∃ kvs k,Rd H a (.dK kvs)/\y=kV k/\r=Jp kvs k)\/∃ kvs k b,Rd H a (.dT kvs)/\y=.ref b/\H b=some (.tup<|k.map kV)/\r=Jp kvs k
def Kv(H:Hp)(a:Addr)(y v:V)(H':Hp):Prop :=
 (∃ kvs k,H a=some (.dK kvs)/\y=kV k/\kvs.length < sizeLine/\H'=upd H a (.dK<|putK kvs k v)) \/
 ∃ kvs k b,H a=some (.dT kvs)/\y=.ref b/\H b=some (.tup<|k.map kV)/\kvs.length < sizeLine/\H'=upd H a (.dT<|putK kvs k v)
def IU.k{H:Hp}{a:Addr}{kvs:List (Key×V)}{k:Key}(e:H a=some (.dK kvs)):IU H a (kV k) (Jp kvs k):=.inl ⟨kvs,k,.inl e,rfl,rfl⟩
def IU.t{k:List Key}(e:H a=some (.dT kvs))(eb:H b=some (.tup<|k.map kV)):IU H a (.ref b) (Jp kvs k):=.inr ⟨kvs,k,b,.inl e,rfl,eb,rfl⟩
def Kv.k{H:Hp}{a:Addr}{kvs:List (Key×V)}{k:Key}{v:V}(e:H a=some (.dK kvs))(hl:kvs.length < sizeLine):Kv H a (kV k) v (upd H a<|.dK<|putK kvs k v):=.inl ⟨kvs,k,e,rfl,hl,rfl⟩
def Kv.t{k:List Key}(e:H a=some (.dT kvs))(eb:H b=some (.tup<|k.map kV))(hl:kvs.length < sizeLine) :
   Kv H a (.ref b) v (upd H a<|.dT<|putK kvs k v):=.inr ⟨kvs,k,b,e,rfl,eb,hl,rfl⟩
section
variable {r:IR} {o:Option V}
def Inv.big(I:Inv X qp σ H s):sysModules < s.heap.objs.size:=by have h:mainGlobals < s.heap.objs.size:=(I.mod.glob.keeps I.bk).lt;exact B9 (by decide) h
def wN(hu:A.units+1 < cLine)(I:Inv X qp σ H s)(g:IU H a y (some v))(ry:RelV y u)(h:∀ w' s',Inv X qp σ H s'->RelV v w'->Q w' s') :
   wpAny (KB X.prog X.w) A (getItem (.ref a) u) Q E s:=by
 rcases g with ⟨kvs,k,e,ey,l⟩ | ⟨kvs,k,b,e,ey,eb,l⟩
 . subst ey;obtain⟨z,hd,vs,rel,dd⟩:=OM I.hok e;obtain⟨w',hw,rw'⟩:=JC.some_of (v:=v) (o:=valueAt vs k) (by rw[l];exact rel.val k);exact wpAny_getItem_of (Oi ry) dd.mapOf hw<|h w' _ (I.tok _) rw'
 . subst ey
   cases (show u=Au b from ry)
   obtain⟨z,hd,xs,rel,dd⟩:=ON I.hok e;obtain⟨w',hw,rw'⟩:=JC.some_of (v:=v) (o:=(atKey xs k).map (·.2)) (by rw[l];exact rel.val k);obtain⟨p,hp,hp2⟩:=Option.map_eq_some_iff.mp hw;refine wpAny_getItem_heap (CG hu) (OW I.hok eb) dd hp ?_;rw[hp2];exact h w' _ (I.tok _) rw'
def XO(hu:A.units+1 < cLine)(I:Inv X qp σ H s)(g:IU H a y o)(ry:RelV y u)(h:∀ s',Inv X qp σ H s'->Q (.bool o.isSome) s') :
   wpAny (KB X.prog X.w) A (Re .In u<|.ref a) Q E s:=by
 rcases g with ⟨kvs,k,e,ey,l⟩ | ⟨kvs,k,b,e,ey,eb,l⟩
 . subst ey;obtain⟨z,hd,vs,rel,dd⟩:=OM I.hok e;refine wpAny_in_of (Oi ry) hd dd.mapOf ?_;rw[<-(rel.val k).isSome_eq,<-l];exact h _<|I.tok _
 . subst ey
   cases (show u=Au b from ry)
   obtain⟨z,hd,xs,rel,dd⟩:=ON I.hok e;refine wpAny_in_heap (CG hu) (OW I.hok eb) hd dd ?_;have q:=(rel.val k).isSome_eq;rw[Eh] at q;rw[<-q,<-l];exact h _<|I.tok _
def lX(hu:A.units+1 < cLine)(I:Inv X qp σ H s)(g:IU H a y o)(ry:RelV y u)(h:∀ s',Inv X qp σ H s'->Q (.bool<|!o.isSome) s') :
   wpAny (KB X.prog X.w) A (Re .NotIn u<|.ref a) Q E s:=by
 rcases g with ⟨kvs,k,e,ey,l⟩ | ⟨kvs,k,b,e,ey,eb,l⟩
 . subst ey;obtain⟨z,hd,vs,rel,dd⟩:=OM I.hok e;refine wpAny_notIn_of (Oi ry) hd dd.mapOf ?_;rw[<-(rel.val k).isSome_eq,<-l];exact h _<|I.tok _
 . subst ey
   cases (show u=Au b from ry)
   obtain⟨z,hd,xs,rel,dd⟩:=ON I.hok e;refine wpAny_notIn_heap (CG hu) (OW I.hok eb) hd dd ?_;have q:=(rel.val k).isSome_eq;rw[Eh] at q;rw[<-q,<-l];exact h _<|I.tok _
def VE{ob:HO}(I:Inv X qp σ H s)(mu:QC (H a))(hs:BA a s.heap h')(he:∃ q,h'.get? a=some q)(new:Ju X.prog X.w (upd H a ob) h' a ob) :
   Inv X qp σ (upd H a ob) { s with heap:=h',toks:=t' } :=
 I.write (x:=a) (e:=a) mu (.inl rfl) (fun b q hb z=>(hs.2 b hb).trans z) he new
def S0{kvs:List (Key×V)}{vs:List (Key×IR)}(z:kvs.length<=sizeLine)(hd:(a==sysModules)=false)(rel:KV kvs vs)(dd:h'.DictOf (IS P w) a vs) :
   Ju P w H' h' a (.dK kvs):=⟨z,hd,vs,rel,dd⟩
def wO{Q:Unit->Shared->Prop}(hu:A.units+1 < cLine)(I:Inv X qp σ H s)(g:Kv H a y v H')(ry:RelV y u)(rv:RelV v r)(h:∀ s',Inv X qp σ H' s'->Q () s') :
   wpAny (KB X.prog X.w) A (setItem (.ref a) u r) Q E s:=by
 rcases g with ⟨kvs,k,e,ey,l,eH⟩ | ⟨kvs,k,b,e,ey,eb,l,eH⟩
 . subst ey eH;obtain⟨z,hd,vs,rel,dd⟩:=Yg I.hok e;have hz:vs.length<=sizeLine:=by rw[<-rel.length];exact z
   have hl:(putK kvs k v).length<=sizeLine:=by have:=WE kvs k v;omega
   refine wpAny_setItem_pairs (hsz:=hz) (Oi ry) dd fun h' dd' hs=>h _ ?_;have he:∃ q,h'.get? a=some q:=let ⟨q,_,_,hq,_⟩:=dd';⟨q,hq⟩
   exact VE I (by rw[e];exact CF) hs he<|S0 hl hd (rel.put k rv) dd'
 . subst ey eH
   cases (show u=Au b from ry)
   obtain⟨z,hd,xs,rel,dd⟩:=eS I.hok e;have hz:xs.length<=sizeLine:=by rw[<-By rel];exact z
   have hl:(putK kvs k v).length<=sizeLine:=by have:=WE kvs k v;omega
   refine wpAny_setItem_heap (hsz:=hz) (CG hu) (OW I.hok eb) dd fun h' dd' hs=>h _ ?_;obtain⟨q,es,ep,hq,h2,h3,h4,_,h5⟩:=dd';refine VE I (by rw[e];exact CF) hs ⟨q,hq⟩ ⟨hl,hd,_,(rel.put k eb rv).keeps fun c ys ec=>?_,q,es,ep,hq,h2,h3,h4,h5⟩;rw[HV (M7 ec e fun z=>nomatch z)];exact ec
end
def MY(i:Os):Prop:=∀ ov iv,subscripted i false ov iv=operate [ov,iv] (getItem ov iv)
variable {value:Os}
def qW{slice:Os}
   (hl:typeLookup (.type T) "__getitem__"=pure (some<|.builtin id)) (hs:MY slice)
   (h:wpAny (KB prog w) A (W1 value env) (fun o s₁=>wpAny (KB prog w) A (W1 slice env) (fun i s₂=>s₂.TypeIs o T/\wpAny (KB prog w) A (getItem o i) Q E s₂) E s₁) E s) :
   wpAny (KB prog w) A (W1 (.Subscript value slice pos) env) Q E s:=by
 refine Gz<|A8 h (fun o s₁ h₁=>A8 h₁ (fun i s₂ h₂=>?_) fun _ _ x=>x) fun _ _ x=>x;obtain⟨hT,h₂⟩:=h₂;unfold subscriptTail;refine Aa ?_;rw[getitemInPython_of_ne hT.not_modules];refine Aa<|wpAny_specialOf hT hl ?_;have fin:wpAny (KB prog w) A (subscripted slice false o i) (fun r s₃=>wpAny (KB prog w) A (letTemporaryGo value o r >>= fun _=>pure r) Q E s₃) E s₂:=by rw[hs o i];exact wpAny_operating<|A8 h₂ (fun r s₃ h₃=>Aa (wpAny_letTemporaryGo<|Ab h₃)) fun _ _ x=>x
 first
   | exact Ab (Aa fin)
   | exact Aa (Ab<|Aa fin)
   | exact Aa fin
def zhF{o:Option V}(I:Inv X qp σ H s)(g:IU H a y o):s.TypeIs (.ref a) "dict":=by
 rcases g with ⟨kvs,k,e,_,_⟩ | ⟨kvs,k,b,e,_,_,_⟩
 . obtain⟨_,_,vs,_,dd⟩:=OM I.hok e;exact dd.typeIs
 obtain⟨_,_,xs,_,dd⟩:=ON I.hok e;exact dd.typeIs
def fG(td ty:TE):TE:=fun σ H Q=>td σ H fun x H1=>ty σ H1 fun y H2=>∃ a v,x=.ref a/\IU H2 a y (some v)/\Q v H2
def Xd(ty td:TE):TE:=fun σ H Q=>ty σ H fun y H1=>td σ H1 fun x H2=>∃ a o,x=.ref a/\IU H2 a y o/\Q (.bl o.isSome) H2
def qY(ty td:TE):TE:=fun σ H Q=>ty σ H fun y H1=>td σ H1 fun x H2=>∃ a o,x=.ref a/\IU H2 a y o/\Q (.bl<|!o.isSome) H2
def gJ(td ty tv:TE):TS:=fun D σ H=>tv σ H fun v H1=>td σ H1 fun x H2=>ty σ H2 fun y H3=>∃ a H4,x=.ref a/\Kv H3 a y v H4/\D.nx σ H4
variable {td ty tv:TE}
section
variable {o i:Os} {tpos:Pos}
def Zt(hu:X.A.units+1 < cLine)(ho:PE X o td)(hi:PE X i ty)(hs:MY i):PE X (.Subscript o i pos) (fG td ty):=by intro qp s σ H Q I h;refine qW PySem.F.slot_dict_getitem.lookup hs<|HS (ho qp s σ H _ I h) fun u s1 ⟨x,H1,I1,rx,q1⟩=>HS (hi qp s1 σ H1 _ I1 q1) ?_;rintro iv s2 ⟨y,H2,I2,ry,a,v,ex,g,q2⟩;subst ex;obtain rfl:u=Au a:=rx;exact⟨zhF I2 g,wN hu I2 g ry fun w' s3 I3 rw'=>⟨v,H2,I3,rw',q2⟩⟩
def kR(hu:X.A.units+1 < cLine)(hi:PE X i ty)(ho:PE X o td):PC X .In i o (Xd ty td):=by intro qp s σ H Q I h;refine HS (hi qp s σ H _ I h) fun iv s1 ⟨y,H1,I1,ry,q1⟩=>HS (ho qp s1 σ H1 _ I1 q1) ?_;rintro u s2 ⟨x,H2,I2,rx,a,ov,ex,g,q2⟩;subst ex;obtain rfl:u=Au a:=rx;exact XO hu I2 g ry fun s3 I3=>⟨.bl ov.isSome,H2,I3,rfl,q2⟩
def aX(hu:X.A.units+1 < cLine)(hi:PE X i ty)(ho:PE X o td):PC X .NotIn i o (qY ty td):=by intro qp s σ H Q I h;refine HS (hi qp s σ H _ I h) fun iv s1 ⟨y,H1,I1,ry,q1⟩=>HS (ho qp s1 σ H1 _ I1 q1) ?_;rintro u s2 ⟨x,H2,I2,rx,a,ov,ex,g,q2⟩;subst ex;obtain rfl:u=Au a:=rx;exact lX hu I2 g ry fun s3 I3=>⟨.bl<|!ov.isSome,H2,I3,rfl,q2⟩
def nZ(hu:X.A.units+1 < cLine)(ho:PE X o td)(hi:PE X i ty)(hv:PE X value tv)(hs:swapsWith value (some<|.Subscript o i pos') pos.line X.env=pure false) :
   PS X (.Assign [.Subscript o i pos'] value pos) (gJ td ty tv):=by
 intro qp s σ H D I h;refine wpAny_Assign_Subscript (HS (hv qp s σ H _ I h) fun r s1 ⟨v,H1,I1,rv,q1⟩=>HS (ho qp s1 σ H1 _ I1 q1) fun u s2 ⟨x,H2,I2,rx,q2⟩=>HS (hi qp s2 σ H2 _ I2 q2) ?_) hs;rintro iv s3 ⟨y,H3,I3,ry,a,H4,ex,g,q3⟩;subst ex;obtain rfl:u=Au a:=rx;exact wO hu I3 g ry rv fun s4 I4=>⟨σ,H4,I4,q3⟩
end
def ZY(h:KM)(hb:sysModules < h.objs.size):Ju P w H (h.push Qqd) h.objs.size (.dK []) :=
 ⟨Bc _,beq_eq_false_iff_ne.mpr<|A6<|An hb,[],.nil,EM h⟩
def qM(h:KM)(hb:sysModules < h.objs.size):Ju P w H (h.push Qqd) h.objs.size (.dT []) :=
 ⟨Bc _,beq_eq_false_iff_ne.mpr<|A6<|An hb,[],.nil,_,#[],0,Am _ rfl,⟨rfl,rfl,rfl⟩,rfl,rfl,Dl⟩
def nA:TE:=fun _ H Q=>∀ p,H p=none->Q (.ref p) (upd H p<|.dK [])
def nB:TE:=fun _ H Q=>∀ p,H p=none->Q (.ref p) (upd H p<|.dT [])
def rV:PE X (.Dict [] [] pos) nA:=fun qp s σ H Q I h =>
 wpAny_Dict_empty ⟨.ref s.heap.objs.size,_,I.laid (a:=s.heap.objs.size) (o:=.dK []) (t':=s.toks) (fun _ _ q=>Ad _ q) (Ag _)<|ZY s.heap I.big,rfl,h _<|I.hok.fresh<|Ag _⟩
def rW:PE X (.Dict [] [] pos) nB:=fun qp s σ H Q I h =>
 wpAny_Dict_empty ⟨.ref s.heap.objs.size,_,I.laid (a:=s.heap.objs.size) (o:=.dT []) (t':=s.toks) (fun _ _ q=>Ad _ q) (Ag _)<|qM s.heap I.big,rfl,h _<|I.hok.fresh<|Ag _⟩
def Vm:List (TE×TE)->St->Hp->(List (V×V)->Hp->Prop)->Prop
 | [],_,H,Q=>Q [] H
 | (tk,tv)::r,σ,H,Q=>tk σ H fun x H1=>tv σ H1 fun y H2=>Vm r σ H2 fun ps H3=>Q ((x,y)::ps) H3
noncomputable abbrev VV:List (V×V)->List (IR×IR)->Prop:=Paired fun p q=>RelV p.1 q.1/\RelV p.2 q.2
def UJ(X:Cx)(pos:Pos)(keys:List (Option Os))(values:List Os)(trs:List (TE×TE)):Prop :=
 ∀ (qp:List (Addr×Obj)) (s:Shared) (σ:St) (H:Hp) (Q:List (V×V)->Hp->Prop),Inv X qp σ H s->Vm trs σ H Q ->
   wpAny (KB X.prog X.w) X.A (evalPairs<|pairTrees keys values X.env pos) (fun vs s'=>∃ ps H',Inv X qp σ H' s'/\VV ps vs/\Q ps H') X.xe s
def nY:UJ X pos [] [] []:=fun qp s σ H Q I h=>pairTrees_nil_walk ⟨[],H,I,.nil,h⟩
variable {trs:List (TE×TE)}
def V9{k v:Os}{ks:List (Option Os)}{vs:List Os}{tk:TE}(hk:PE X k tk)(hv:PE X v tv)(hr:UJ X pos ks vs trs) :
   UJ X pos (some k::ks) (v::vs) ((tk,tv)::trs):=fun qp s σ H Q I h =>
 pairTrees_cons_walk (HS (hk qp s σ H _ I h) fun u s1 ⟨x,H1,I1,rx,q1⟩=>HS (hv qp s1 σ H1 _ I1 q1) fun w2 s2 ⟨y,H2,I2,ry,q2⟩ =>
   HS (hr qp s2 σ H2 _ I2 q2) fun ws s3 ⟨ps,H3,I3,rel,q3⟩=>⟨(x,y)::ps,H3,I3,.cons ⟨rx,ry⟩ rel,q3⟩)
def LC(kvs more:List (Key×V)):List (Key×V):=more.foldl (fun acc kv=>putK acc kv.1 kv.2) kvs
def KV.merge:∀ {more:List (Key×V)} {rs:List (Key×IR)} {kvs:List (Key×V)} {vs:List (Key×IR)},KV more rs->KV kvs vs->KV (LC kvs more) (merged vs rs):=by
 intro more rs kvs vs r;unfold KV at r
 induction r generalizing kvs vs with
 | nil=>intro q;exact q
 | @cons p q ps qs h t ih =>
   intro r0;have e:KV (putK kvs p.1 p.2) (stored vs q.1 q.2):=by have:=r0.put p.1 h.2;rw[<-h.1];exact this
   exact ih e
def Uh:∀ (more kvs:List (Key×V)),(LC kvs more).length<=kvs.length+more.length
 | [],kvs=>by show kvs.length<=kvs.length+0;omega
 | p::r,kvs=>by have h1:=Uh r<|putK kvs p.1 p.2;have h2:=WE kvs p.1 p.2;show (LC (putK kvs p.1 p.2) r).length<=_;rw[AC];omega
def bN{P:Pv}{w:UF}:∀ {kvs:List (Key×V)} {ws:List (IR×IR)},VV (kvs.map fun kv=>(kV kv.1,kv.2)) ws->∃ rs,Carries (IS P w) ws rs/\KV kvs rs
 | [],_,r=>by rw[Cp] at r;cases r;exact⟨[],CF,.nil⟩
 | p::kvs,_,r=>by
   rw[Ax] at r
   cases r with
   | @cons a b as bs h t =>
     obtain⟨rs,c,q⟩:=bN (P:=P) (w:=w) t;obtain⟨b1,b2⟩:=b;exact⟨(p.1,b2)::rs,⟨Oi h.1,rfl,c⟩,.cons ⟨rfl,h.2⟩ q⟩
def fH(trs:List (TE×TE)):TE:=fun σ H Q=>∀ p,H p=none->Vm trs σ (upd H p<|.dK []) fun ps H2=>H2 p=some (.dK [])/\∃ kvs:List (Key×V),ps=kvs.map (fun kv=>(kV kv.1,kv.2))/\kvs.length<=15/\Q (.ref p) (upd H2 p<|.dK<|LC [] kvs)
def pL{keys:List (Option Os)}{values:List Os}(h:UJ X pos keys values trs)(hall:keys.all (·.isSome)=true)(hl:keys.length=values.length)(h0:keys≠[])
   (h15:keys.length<=15):PE X (.Dict keys values pos) (fH trs):=by
 intro qp s σ H Q I q;have hn:=I.hok.fresh<|Ag s.heap.objs.size;have I1:=I.laid (a:=s.heap.objs.size) (o:=.dK []) (h':=s.heap.push Qqd) (t':=s.toks) (fun _ _ q=>Ad _ q) (Ag _) (ZY s.heap I.big);refine wpAny_Dict_walk (knd:=IS X.prog X.w) hall hl h0 h15<|HS (h qp _ σ _ _ I1<|q _ hn) ?_;rintro ws s2 ⟨ps,H2,I2,rel,e,kvs,ep,lk,q2⟩;subst ep;obtain⟨rs,c,rk⟩:=bN (P:=X.prog) (w:=X.w) rel;obtain⟨z,hd,vs0,r0,dd⟩:=Yg I2.hok e;cases r0;refine⟨rs,c,dd,fun h' dd' hs=>⟨.ref s.heap.objs.size,_,?_,rfl,q2⟩⟩;have hz:(LC [] kvs).length<=sizeLine:=by have h1:=Uh kvs [];rw[Bf] at h1;rw[Dv];omega
 have he:∃ q,h'.get? s.heap.objs.size=some q:=let ⟨q,_,_,hq,_⟩:=dd';⟨q,hq⟩
 exact VE I2 (by rw[e];exact CF) hs he<|S0 hz hd (rk.merge .nil) dd'
structure M1(X:Cx)(o:Os)(m:Str)(apos:Pos)(e:Os)(cpos:Pos):Prop where
 base:attributeBase o m X.env (W1 o X.env)=W1 o X.env
 few:((backTo cpos (P3 [e] X.env)).all (fun x=>!x.1)&&(backToKw cpos (keywordEach [] X.env)).all (fun x=>x.1.isSome)
  &&decide (([e]:List Os).length+([]:List Keyword).length+(if ([]:List Keyword).isEmpty then 0 else 1) < 30))=true
 line:(apos.endLine==cpos.line)=true
 trees:backTo cpos (P3 [e] X.env)=[(false,W1 e X.env)]
def X0(H:Hp)(a:Addr):Prop:=(∃ kvs,Rd H a (.dK kvs))\/∃ kvs,Rd H a (.dT kvs)
def Ve(I:Inv X qp σ H s)(d:X0 H a) :
   s.TypeIs (.ref a) "dict"/\(∀ b,Au a=.ref b->∃ ob,s.heap.get? b=some ob/\ob.dict=none)/\(a==sysModules)=false:=by
 rcases d with ⟨kvs,e⟩ | ⟨kvs,e⟩
 . obtain⟨_,hd,vs,_,dd⟩:=OM I.hok e;refine⟨dd.typeIs,fun b q=>?_,hd⟩;cases q;obtain⟨ob,_,_,h1,h2,_⟩:=dd;exact⟨ob,h1,h2.2.1⟩
 obtain⟨_,hd,xs,_,dd⟩:=ON I.hok e;refine⟨dd.typeIs,fun b q=>?_,hd⟩;cases q;obtain⟨ob,_,_,h1,h2,_⟩:=dd;exact⟨ob,h1,h2.2.1⟩
section
variable {r:IR} {o:Option V}
def jG(hu:A.units+1 < cLine)(I:Inv X qp σ H s)(g:IU H a y o)(ry:RelV y u)(h:∀ w' s',Inv X qp σ H s'->RelV (o.getD .non) w'->Q w' s') :
   wpAny (KB X.prog X.w) A (call (.builtin "dict.get") [.ref a,u]) Q E s:=by
 rcases g with ⟨kvs,k,e,ey,l⟩ | ⟨kvs,k,b,e,ey,eb,l⟩
 . subst ey;obtain⟨z,hd,vs,rel,dd⟩:=OM I.hok e;refine call_meetsIn DD dd.typeIs EX (EI _ _) (meets_dict_get (IS X.prog X.w) a (Oi ry) hd) ⟨_,dd.mapOf,h _ _ (I.tok _) ?_⟩;rw[l];exact (rel.val k).getD rfl
 . subst ey
   cases (show u=Au b from ry)
   obtain⟨z,hd,xs,rel,dd⟩:=ON I.hok e;refine call_meetsIn DD dd.typeIs EX (EI _ _) (meetsH_dict_get (tupleKind<|IS X.prog X.w) a b hd) ⟨CG hu,k,xs,OW I.hok eb,dd,h _ _ (I.tok _) ?_⟩;rw[l];exact (rel.val k).getD rfl
end
def nV(td ty:TE):TE:=fun σ H Q=>td σ H fun x H1=>∃ a,x=.ref a/\X0 H1 a/\ty σ H1 fun y H2=>∃ o,IU H2 a y o/\Q (o.getD .non) H2
section
variable {o f:Os} {cpos:Pos} {tx:TE}
def tY(hu:X.A.units+1 < cLine)(ho:PE X o td)(he:PE X e ty)(m:M1 X o "get" apos e cpos):PE X (.Call (.Attribute o "get" apos) [e] [] cpos) (nV td ty):=by intro qp s σ H Q I h;refine wpAny_Call_method m.base m.few m.line PySem.F.plainAttrs_dict DD PySem.F.type_dict_get<|HS (ho qp s σ H _ I h) ?_;rintro u s1 ⟨x,H1,I1,rx,a,ex,d,q1⟩;subst ex;obtain rfl:u=Au a:=rx;obtain⟨t1,t2,_⟩:=Ve I1 d;refine⟨t1,t2,?_⟩;rw[m.trees];refine EY rfl<|Fv<|FM<|HS (he qp s1 σ H1 _ I1 q1) fun iv s2 ⟨y,H2,I2,ry,ov,g,q2⟩=>F5 ?_;exact jG hu I2 g ry fun w' s3 I3 rw'=>⟨_,H2,I3,rw',q2⟩
end
end L2
namespace HT
open PySem PyProof.Rows
def lexLt:List Int->List Int->Bool
 | [],[]=>false
 | [],_::_=>true
 | _::_,[]=>false
 | x::xs,y::ys=>if x=y then lexLt xs ys else decide (x < y)
theorem IB(x y:Int)(xs ys:List Int):lexLt (x::xs) (y::ys)=if x=y then lexLt xs ys else decide (x < y):=rfl
theorem Ke:lexLt [] []=false:=rfl
theorem Ij(y:Int)(ys:List Int):lexLt [] (y::ys)=true:=rfl
theorem Iu(x:Int)(xs:List Int):lexLt (x::xs) []=false:=rfl
section
open PySem.SeqAt
open PySem.MeetsSeq PySem.MeetsSeq2 PySem.MeetsSeq3
end
variable {t sl:Addr}{Q:Qqa}{vl vu:IR}{lo hi:Option Int}
section
variable {prog:Pv} {w:UF} {A:Around} {E:Qqa} {s:Shared}
def Oa{b:Addr}{vs ws:List IR}(ht:IsTup s.heap t vs.toArray)(hb:IsTup s.heap b ws.toArray)(hv:vs≠[])
   (h1:ws=[]->Q (.ref t) s) (h2:ws≠[]->Q (.ref s.heap.objs.size) { s with heap:=s.heap.push { cls:=.type "tuple",data:=.seq (vs++ws).toArray } })
   (hsz:vs.length+ws.length<=sizeLine):wpAny (KB prog w) A (binaryOp .Add (.ref t)<|.ref b) Q E s:=by
 obtain⟨⟨cls,dd,data,sl⟩,ho,hc,n,hd⟩:=id ht;obtain⟨⟨cls2,dd2,data2,sl2⟩,ho2,hc2,n2,hd2⟩:=id hb;simp only at hc hd hc2 hd2;subst hc hd hc2 hd2;have e:vs.toArray++ws.toArray=(vs++ws).toArray:=by simp
 by_cases hw:ws=[]
 . exact concat_meets ⟨_,ho,rfl⟩ ⟨_,ho2,rfl⟩ noFill_tuple_add seq_tuple_add EZ EJ (Er _ _)
     (tuple_addW1 t b vs.toArray ws.toArray n n2 dd dd2 sl sl2 (by simpa using hv)<|by simp[hw]) ⟨ho,ho2,h1 hw⟩
 . refine concat_meets ⟨_,ho,rfl⟩ ⟨_,ho2,rfl⟩ noFill_tuple_add seq_tuple_add EZ EJ (Er _ _)
     (tuple_addW2 t b vs.toArray ws.toArray n n2 dd dd2 sl sl2 (by simpa using hv) (by simpa using hw) (by rw[Aw,Aw];exact hsz)) ⟨ho,ho2,?_⟩
   rw[e];exact h2 hw
def Ih(n d:Nat):Option Int->Nat
 | none=>d
 | some v=>if v < 0 then (v+(n:Int)).toNat else min v.toNat n
def NQ(n d k:Nat):Ih n d (some (k:Int))=min k n:=by show (if (k:Int) < 0 then ((k:Int)+(n:Int)).toNat else min (k:Int).toNat n)=min k n;rw[if_neg (by omega),Bb]
def jQ(n d:Nat)(hd:d<=n)(o:Option Int):Ih n d o<=n:=by
 cases o with
 | none=>exact hd
 | some v =>
   show (if v < 0 then (v+(n:Int)).toNat else min v.toNat n)<=n
   by_cases hv:v < 0
   . rw[if_pos hv];omega
   rw[if_neg hv];exact Es _ _
def YW(v:Int)(n d:Nat):(if v < 0 then max (v+(n:Int)) 0 else min v (n:Int))=((Ih n d (some v):Nat):Int):=by
 show (if v < 0 then max (v+(n:Int)) 0 else min v (n:Int))=(((if v < 0 then (v+(n:Int)).toNat else min v.toNat n):Nat):Int)
 by_cases hv:v < 0
 . simp only[if_pos hv];omega
 simp only[if_neg hv];omega
def xA(lo hi:Option Int)(n:Nat):C6 lo hi 1 (n:Int)=(((Ih n 0 lo:Nat):Int),((Ih n n hi:Nat):Int)):=by
 have h1:¬ ((1:Int) < 0):=by omega
 unfold C6;simp only[h1,if_false];refine Prod.ext ?_ ?_
 . cases lo with
   | none=>rfl
   | some v=>exact YW v n 0
 . cases hi with
   | none=>rfl
   | some v=>exact YW v n n
def yS(i j:Nat):Cm (i:Int) (j:Int) 1=j - i:=by
 unfold Cm;have h1:(1:Int) > 0:=by omega
 simp only[h1,if_true,Int.ediv_one]
 split <;> omega
def cN{v:IR}{o:Option Int}{Q:Option Int->Shared->Prop}(p:IsPart v o)(h:Q o s):wpAny (KB prog w) A (Builtin.Slice.slicePartIndex v) Q E s:=by
 cases p with
 | none=>exact slicePart_none h
 | int i t=>exact slicePart_int h
def IM{n:Nat}{Q:Int×Int×Nat->Shared->Prop}(hs:s.heap.IsSliceOf sl vl vu .none)(pl:IsPart vl lo)(pu:IsPart vu hi)
   (h:Q (((Ih n 0 lo:Nat):Int),1,Ih n n hi - Ih n 0 lo) s):wpAny (KB prog w) A (D8 (.ref sl)<|pure (n:Int)) Q E s:=by
 obtain⟨os,hos,hcs,hds⟩:=id hs;unfold D8 Builtin.Slice.sliceFields;refine Aa<|Aa<|A7 hos hds (x:=vl) rfl<|Aa<|A7 hos hds (x:=vu) rfl<|Aa<|A7 hos hds (x:=.none) rfl<|Ab ?_;refine Aa<|slicePart_none ?_;show wpAny _ _ (if ((1:Int)==0)=true then _ else _) _ _ s;rw[if_neg (by decide)];refine Aa<|cN pl<|Aa<|cN pu<|Aa<|Ab ?_;show wpAny _ _ (match C6 lo hi 1 (n:Int) with | (lo,hi)=>pure (lo,(1:Int),Cm lo hi 1)) _ _ s;rw[xA lo hi n];show wpAny _ _ (pure (((Ih n 0 lo:Nat):Int),(1:Int),Cm ((Ih n 0 lo:Nat):Int) ((Ih n n hi:Nat):Int) 1)) _ _ s;rw[yS];exact Ab h
def rZ(xs:Array IR)(i k:Nat):((Bo k).filterMap fun (m:Nat)=>xs[((i:Int)+(m:Int)*1).toNat]?).toArray=((xs.toList.drop i).take k).toArray:=by
 have e:(fun (m:Nat)=>xs[((i:Int)+(m:Int)*1).toNat]?)=fun m=>xs[i+m]?:=by
   funext m
   have:((i:Int)+(m:Int)*1).toNat=i+m:=by omega
   rw[this]
 rw[e];have:=pick_run xs i k;rw[List.filterMap_map] at this;have e2:((fun x=>xs[x]?) ∘ fun x=>i+x)=fun m=>xs[i+m]?:=rfl;rw[e2] at this;rw[this]
def Jy{items:Array IR}(ht:IsTup s.heap t items)(hs:s.heap.IsSliceOf sl vl vu .none)(pl:IsPart vl lo)(pu:IsPart vu hi)
   (hw:¬ (Ih items.size 0 lo=0/\Ih items.size items.size hi=items.size))
   (h:Q (.ref s.heap.objs.size) { s with heap:=s.heap.push { cls:=.type "tuple",data:=.seq ((items.toList.drop<|Ih items.size 0 lo).take<|Ih items.size items.size hi - Ih items.size 0 lo).toArray } })
   (hsz:items.size<=sizeLine):wpAny (KB prog w) A (getItem (.ref t)<|.ref sl) Q E s:=by
 have htake:sizeOk (.seq ((items.toList.drop<|Ih items.size 0 lo).take<|Ih items.size items.size hi - Ih items.size 0 lo).toArray):=by show ((items.toList.drop<|Ih items.size 0 lo).take<|Ih items.size items.size hi - Ih items.size 0 lo).toArray.size<=sizeLine;rw[Aw,Bv,Et,AK];omega
 have hj:Ih items.size items.size hi<=items.size:=jQ _ _ (Ag _) hi;obtain⟨os,hos,hcs,hds⟩:=id hs;have hTs:s.TypeIs (.ref sl) "slice":=⟨os,hos,hcs⟩
 unfold getItem
 try with_reducible refine A0 ?_
 first | refine Aa (Ab ?_) | skip
 refine Aa (F6 ht.typeIs (by decide) ?_);refine Aa (AY (name:=BB "__getitem__") ht.typeIs BW
   (AO BW ht.typeIs FD ?_<|FP _ _))
 show wpAny _ _ (D9 (.ref t) >>= _) _ _ s;refine Aa<|tupleItemsOf_ ht ?_;refine Aa<|Ca hTs ?_;rw[if_pos (by decide)];refine Aa<|IM hs pl pu ?_;have hno:¬ ((((Ih items.size 0 lo:Nat):Int)==0&&(1:Int)==1&&(Ih items.size items.size hi - Ih items.size 0 lo)==items.size)=true):=by intro q;rw[Ar,Ar] at q;have q1:((Ih items.size 0 lo:Nat):Int)=0:=eq_of_beq q.1.1;have q2:Ih items.size items.size hi - Ih items.size 0 lo=items.size:=eq_of_beq q.2;exact hw ⟨by omega,by omega⟩
 show wpAny _ _ (if (((Ih items.size 0 lo:Nat):Int)==0&&(1:Int)==1&&(Ih items.size items.size hi - Ih items.size 0 lo)==items.size)=true then _ else _) _ _ s;rw[if_neg hno,rZ]
 first
   | exact Aa (m:=Cq _) (AN (Ab ⟨_,rfl,Ab h⟩) htake)
   | exact Aa (m:=Cq _) (AN (Aa<|Ab<|Ab ⟨_,rfl,Ab h⟩) htake)
   | exact Aa (Aa (m:=Cq _)<|AN (Ab<|Ab ⟨_,rfl,Ab h⟩) htake)
   | exact Aa (Aa (m:=Cq _)<|AN (Ab ⟨_,rfl,Ab h⟩) htake)
end
end HT
namespace L2
open PySem PySem.Spec PyProof.Rows
noncomputable abbrev TO:=St->Hp->(Option Int->Hp->Prop)->Prop
def PO(X:Cx)(e:Option Os)(t:TO):Prop :=
 ∀ (qp:List (Addr×Obj)) (s:Shared) (σ:St) (H:Hp) (Q:Option Int->Hp->Prop),Inv X qp σ H s->t σ H Q ->
   wpAny (KB X.prog X.w) X.A (evalPart e X.env) (fun u s'=>∃ o H',Inv X qp σ H' s'/\IsPart u o/\Q o H') X.xe s
def qZ:TO:=fun _ H Q=>Q none H
def fM(t:TE):TO:=fun σ H Q=>t σ H fun x H1=>∃ i,x=.int i/\Q (some i) H1
variable {X:Cx}{e:Os}{pos:Pos}{xs:List V}{us:List IR}
section
variable {te:TE} {lo hi:Option Os} {tl th:TO} {p2:Pos}
def nW:PO X none qZ:=by intro qp s σ H Q I h;rw[evalPart_none];exact Ab ⟨none,H,I,.none,h⟩
def nX(h:PE X e te):PO X (some e) (fM te):=by intro qp s σ H Q I hw;rw[evalPart_some];refine HS (h qp s σ H _ I hw) ?_;rintro u s1 ⟨x,H1,I1,r1,q1⟩;obtain⟨i,rfl,q⟩:=q1;obtain⟨t,rfl⟩:=r1;exact⟨some i,H1,I1,.int i t,q⟩
def QB(X:Cx)(r:V->Option Int->Option Int->Hp->VK->Prop):Prop :=
 ∀ (qp:List (Addr×Obj)) (s:Shared) (σ:St) (H:Hp) (x:V) (v vl vu:IR) (lo hi:Option Int) (sl:Addr) (Q:VK),Inv X qp σ H s->RelV x v->s.heap.IsSliceOf sl vl vu .none->IsPart vl lo->IsPart vu hi->r x lo hi H Q ->
   ∃ T id,typeLookup (.type T) "__getitem__"=pure (some<|.builtin id)/\s.TypeIs v T/\wpAny (KB X.prog X.w) X.A (getItem v<|.ref sl) (EP X qp σ Q) X.xe s
def tSl(r:V->Option Int->Option Int->Hp->VK->Prop)(te:TE)(tl th:TO):TE:=fun σ H Q=>te σ H fun x H1=>tl σ H1 fun l H2=>th σ H2 fun u H3=>r x l u H3 Q
def TX{r:V->Option Int->Option Int->Hp->VK->Prop}(hr:QB X r)(he:PE X e te)(hl:PO X lo tl)(hu:PO X hi th):PE X (.Subscript e (.Slice lo hi none p2) pos) (tSl r te tl th):=by intro qp s σ H Q I h;refine Gz<|HS (he qp s σ H _ I h) ?_;rintro v s1 ⟨x,H1,I1,r1,q1⟩;refine wpAny_Slice<|HS (hl qp s1 σ H1 _ I1 q1) fun vl s2 ⟨l,H2,I2,pl,q2⟩=>HS (hu qp s2 σ H2 _ I2 q2) ?_;rintro vu s3 ⟨u,H3,I3,pu,q3⟩;rw[evalPart_none];refine Ab ?_;have I4:Inv X qp σ H3 { s3 with heap:=s3.heap.push { cls:=.type "slice",data:=.fields #[vl,vu,.none] } }:=I3.kept (t':=s3.toks) fun b ob q=>Ad _ q;obtain⟨T,id,hT,ht,hg⟩:=hr qp { s3 with heap:=s3.heap.push { cls:=.type "slice",data:=.fields #[vl,vu,.none] } } σ H3 x v vl vu l u s3.heap.objs.size Q I4 r1 (Hy ..) pl pu q3;show wpAny (KB X.prog X.w) X.A (subscriptTail e (.Slice lo hi none p2) v<|.ref s3.heap.objs.size) (EP X qp σ Q) X.xe { s3 with heap:=s3.heap.push { cls:=.type "slice",data:=.fields #[vl,vu,.none] } };exact tail_any (ops:=[.ref s3.heap.objs.size,v]) ht hT hg<|by with_unfolding_all rfl
def K4(xs:List V)(lo hi:Option Int):List V:=(xs.drop<|HT.Ih xs.length 0 lo).take<|HT.Ih xs.length xs.length hi - HT.Ih xs.length 0 lo
def bY(xs:List V)(lo hi:Option Int):(K4 xs lo hi).length<=xs.length:=by unfold K4;rw[Bv,Et];omega
def RE(K:Ac):V->Option Int->Option Int->Hp->VK->Prop:=fun x lo hi H Q=>∃ a xs,x=.ref a/\IQ K H a xs /\
 ¬ (HT.Ih xs.length 0 lo=0/\HT.Ih xs.length xs.length hi=xs.length)/\∀ p,H p=none->Q (.ref p) (upd H p<|.tup<|K4 xs lo hi)
def kG:QB X (RE X.K):=by
 intro qp s σ H x v vl vu lo hi sl Q I rx hs pl pu h;obtain⟨a,xs,rfl,hx,hw,q⟩:=h;cases rx;obtain⟨its,r,ht,hz⟩:=I.tuple hx;have hlen:its.toArray.size=xs.length:=by rw[Aw];exact r.length.symm
 refine⟨"tuple",_,PyProof.Rows.slot_tuple_getitem.lookup,ht.typeIs,?_⟩;refine HT.Jy ht hs pl pu (by rw[hlen];exact hw) ?_ (by rw[hlen];exact hz);rw[hlen];refine⟨.ref s.heap.objs.size,_,I.laid (t':=s.toks) (o:=.tup (K4 xs lo hi)) (fun b ob q=>Ad _ q) (Ag _) ?_,rfl,q _<|I.hok.fresh<|Ag _⟩;exact⟨Az (bY xs lo hi) hz,_,(r.drop<|HT.Ih xs.length 0 lo).take<|HT.Ih xs.length xs.length hi - HT.Ih xs.length 0 lo,Ly.new _ _⟩
def gB(K:Ac):R2:=fun x y H Q=>∃ a b xs ys,x=.ref a/\y=.ref b/\IQ K H a xs/\IQ K H b ys/\xs≠[]/\xs.length+ys.length<=sizeLine /\
 (ys=[]->Q (.ref a) H)/\(ys≠[]->∀ p,H p=none->Q (.ref p) (upd H p<|.tup<|xs++ys))
def Vals.nil_iff(r:Vals xs us):us=[] ↔ xs=[]:=by
 cases r with
 | nil=>simp
 | cons _ _=>simp
def pD:JG X (binaryOp .Add) (gB X.K):=by intro qp s σ H x y v u Q I rx ry h;obtain⟨a,b,xs,ys,rfl,rfl,ha,hb,hx,hz,q1,q2⟩:=h;cases rx;cases ry;obtain⟨its,r1,p1,_⟩:=I.tuple ha;obtain⟨its2,r2,p2,_⟩:=I.tuple hb;refine HT.Oa p1 p2 (fun z=>hx (r1.nil_iff.mp z)) (fun z=>⟨.ref a,H,I,rfl,q1<|r2.nil_iff.mp z⟩) (fun z=>?_) (by rw[<-r1.length,<-r2.length];exact hz);refine⟨.ref s.heap.objs.size,_,I.laid (t':=s.toks) (o:=.tup (xs++ys)) (fun b ob q=>Ad _ q) (Ag _) ?_,rfl,q2 (fun w=>z (r2.nil_iff.mpr w)) _<|I.hok.fresh<|Ag _⟩;exact⟨by rw[AM];exact hz,_,r1.append r2,Ly.new _ _⟩
end
def LY(n:Nat)(i:Int):Option Nat:=if 0<=i then (if i < n then some i.toNat else none) else if -(n:Int)<=i then some (i+n).toNat else none
variable {α:Type}
def KH(xs:List α)(i:Int):Option α:=(LY xs.length i).bind fun j=>xs[j]?
variable {n:Nat}{i:Int}
def Y5{j:Nat}(h:LY n i=some j):seqIndex? i n=some j/\j < n/\-(n:Int)<=i/\i < n:=by
 unfold LY at h
 by_cases h0:0<=i
 . rw[if_pos h0] at h
   by_cases h1:i < n
   . rw[if_pos h1] at h;have e:i.toNat=j:=Ap h;exact⟨by rw[Gj h0 h1,e],by omega,by omega,h1⟩
   rw[if_neg h1] at h;cases h
 . rw[if_neg h0] at h
   by_cases h1:-(n:Int)<=i
   . rw[if_pos h1] at h;have e:(i+n).toNat=j:=Ap h;exact⟨by rw[FQ (by omega) h1,e],by omega,h1,by omega⟩
   rw[if_neg h1] at h;cases h
def Vq{xs:List α}{v:α}(h:KH xs i=some v):∃ j,seqIndex? i xs.length=some j/\xs[j]?=some v/\j < xs.length/\-(xs.length:Int)<=i/\i < xs.length:=by
 unfold KH at h
 cases e:LY xs.length i with
 | none=>rw[e] at h;cases h
 | some j =>
   rw[e] at h;obtain⟨h1,h2,h3,h4⟩:=Y5 e;exact⟨j,h1,h,h2,h3,h4⟩
def Vp(b:Os):Prop:=∀ o i,subscripted b false o i=operate [o,i] (getItem o i)
def Sh(X:Cx)(r:R2):Prop :=
 ∀ (value slice:Os) (qp:List (Addr×Obj)) (s:Shared) (σ:St) (H:Hp) (x y:V) (v u:IR) (Q:VK),Inv X qp σ H s->RelV x v->RelV y u->r x y H Q ->
   subscripted slice false v u=operate [v,u] (getItem v u)->wpAny (KB X.prog X.w) X.A (subscriptTail value slice v u) (EP X qp σ Q) X.xe s
def Sg(X:Cx)(id:String)(r:V->List V->Hp->VK->Prop):Prop :=
 ∀ (qp:List (Addr×Obj)) (s:Shared) (σ:St) (H:Hp) (x:V) (xs:List V) (v:IR) (us:List IR) (Q:VK),Inv X qp σ H s->RelV x v->Vals xs us->r x xs H Q ->
   wpAny (KB X.prog X.w) X.A (call (.builtin id) (v::us)) (EP X qp σ Q) X.xe s
variable {qp:List (Addr×Obj)}{σ:St}{H:Hp}{s:Shared}{p:Addr}{ys:List V}{its its':List IR}{T:String}{x:V}
section
variable {a b:Os} {ta tb:TE}
def fX{r:R2}(hr:Sh X r)(ha:PE X a ta)(hb:PE X b tb)(hs:Vp b):PE X (.Subscript a b pos) (RB r ta tb):=by intro qp s σ H Q I h;exact Gz<|PR ha hb I h fun v u s2 x y H2 I2 rx ry q=>hr a b qp s2 σ H2 x y v u Q I2 rx ry q (hs _ _)
def Xr(K:Ac):R2:=fun x y H Q=>∃ p xs i v,x=.ref p/\y=.int i/\JB K H p xs/\KH xs i=some v/\Q v H
def Xp(K:Ac):R2:=fun x y H Q=>∃ p xs i v,x=.ref p/\y=.int i/\IQ K H p xs/\KH xs i=some v/\Q v H
def Xq:R2:=fun x y H Q=>∃ z i c,x=.str z/\y=.int i/\z.length<=sizeLine/\KH z.cps.toList i=some c/\Q (.str ⟨#[c]⟩) H
def Y6:Sh X (Xr X.K):=by
 intro value slice qp s σ H x y v u Q I rx ry h hs;obtain⟨p,xs,i,z,rfl,rfl,hq,he,q⟩:=h;cases rx;obtain⟨t,rfl⟩:=ry;obtain⟨its,r,pl,hz⟩:=I.list hq;obtain⟨j,h1,h2,h3,h4,h5⟩:=Vq he;obtain⟨w,ew,rw'⟩:=r.get h2;have hl:=r.length;have hn:=OX;have fin:EP X qp σ Q w s:=⟨z,H,I,rw',q⟩
 by_cases h0:0<=i
 . have hj:i.toNat=j:=by
     rw[Gj h0 h5] at h1;exact Ap h1
   exact item_listR pl.isList h0 (by omega) (by rw[hj];simpa using ew) fin hs
 . have hj:(i+(its.toArray.size:Int)).toNat=j:=by
     rw[FQ (by omega) h4] at h1;rw[Aw,<-hl];exact Ap h1
   exact E3 (x:=w) pl.isList.typeIs slot_list_getitem.lookup
     (wpAny_getItem_list_neg (Q:=fun r s'=>r=w/\EP X qp σ Q r s') pl.isList (by omega) (by rw[Aw] <;> omega) (by omega) (by rw[hj];simpa using ew) ⟨rfl,fin⟩) hs
def Jh:Sh X (Xp X.K):=by
 intro value slice qp s σ H x y v u Q I rx ry h hs;obtain⟨p,xs,i,z,rfl,rfl,hq,he,q⟩:=h;cases rx;obtain⟨t,rfl⟩:=ry;obtain⟨its,r,pl,hz⟩:=I.tuple hq;obtain⟨j,h1,h2,h3,h4,h5⟩:=Vq he;obtain⟨w,ew,rw'⟩:=r.get h2;have hl:=r.length;have hn:=OX;have fin:EP X qp σ Q w s:=⟨z,H,I,rw',q⟩
 exact E3 (x:=w) pl.typeIs slot_tuple_getitem.lookup
   (getItem_tuple (j:=j) (Q:=fun r s'=>r=w/\EP X qp σ Q r s') pl (by omega) (by omega) (by rw[Aw,<-hl];exact h1) (by simpa using ew) ⟨rfl,fin⟩) hs
def Vf:Sh X Xq:=by
 intro value slice qp s σ H x y v u Q I rx ry h hs;obtain⟨z,i,c,rfl,rfl,hz,he,q⟩:=h;obtain⟨t,rfl⟩:=rx;obtain⟨t',rfl⟩:=ry;obtain⟨j,h1,h2,h3,h4,h5⟩:=Vq he;have hl:z.cps.toList.length=z.length:=by simp[Str.length]
 rw[hl] at h1 h4 h5;have hn:=OX;exact tail_any (GA s z t) slot_str_getitem.lookup (getItem_str (c:=c) (by
   have e1:decide (i < -(2 ^ 63:Int))=false:=decide_eq_false (by omega);have e2:decide (i ≥ 2 ^ 63)=false:=decide_eq_false (by omega);rw[e1,e2,G5]) (by rw[h1];simpa using h2) ⟨.str ⟨#[c]⟩,H,I.tok _,⟨_,rfl⟩,q⟩) hs
def zC(its:List IR)(n j:Nat)(u:IR):Bs (·.setIfInBounds j u) { cls:=.type "list",data:=.seq its.toArray n }={ cls:=.type "list",data:=.seq (its.set j u).toArray n }:=by simp[Bs]
def Inv.lst{qp:List (Addr×Obj)}{σ:St}{H:Hp}{s:Shared}{p:Addr}{xs:List V}(I:Inv X qp σ H s)(h:H p=some (.lst xs)) :
   ∃ (its:List IR) (n:Nat),Vals xs its/\s.heap.get? p=some { cls:=.type "list",data:=.seq its.toArray n }/\xs.length<=sizeLine:=by
 obtain⟨z,its,n,r,e⟩:=I.hok p _ h;exact⟨its,n,r,e,z⟩
def Inv.lstUpd{n':Nat}{f:Obj->Obj}(I:Inv X qp σ H s)(h:H p=some (.lst xs))
   (ho:s.heap.get? p=some { cls:=.type "list",data:=.seq its.toArray n }) (hf:f { cls:=.type "list",data:=.seq its.toArray n }={ cls:=.type "list",data:=.seq its'.toArray n' }) (r:Vals ys its') (hz:ys.length<=sizeLine) (t:Nat) :
   Inv X qp σ (upd H p<|.lst ys) { s with heap:=s.heap.update p f,toks:=t }:=by
 have e:(s.heap.update p f).get? p=some { cls:=.type "list",data:=.seq its'.toArray n' }:=by rw[AG f ho (by rw[hf] <;> rfl),hf]
 refine I.write (x:=p) (e:=p) (by rw[h];trivial) (.inl rfl) (fun b u hb q=>(AL _ _<|A6 hb).trans q) ⟨_,e⟩ ?_;exact⟨hz,its',n',r,e⟩
def gE:V->V->V->Hp->(Hp->Prop)->Prop:=fun o i v H Q=>∃ p xs k j,o=.ref p/\i=.int k/\H p=some (.lst xs)/\LY xs.length k=some j/\Q (upd H p<|.lst<|xs.set j v)
def set_list:PV X gE:=by
 intro qp s σ H o i v ov iv u Q I ro ri rv h;obtain⟨p,xs,k,j,rfl,rfl,hp,hj,q⟩:=h;cases ro;obtain⟨t,rfl⟩:=ri;obtain⟨its,n,r,ho,hz⟩:=I.lst hp;obtain⟨h1,h2,h3,h4⟩:=Y5 hj;have hl:=r.length;have hn:=OX;have I':Inv X qp σ (upd H p<|.lst<|xs.set j v) { s with heap:=s.heap.update p (Bs (·.setIfInBounds j u)) } :=
   I.lstUpd hp ho (zC its n j u) (r.set rv j) (by rw[BZ];exact hz) s.toks
 by_cases h0:0<=k
 . have hk:k.toNat=j:=by
     rw[Gj h0 h4] at h1;exact Ap h1
   exact PySem.W.ki_setAt ho h0 (by omega) (by rw[Aw,<-hl];exact h4) (by rw[hk];exact⟨_,I',q⟩)
 . have hk:(k+(its.toArray.size:Int)).toNat=j:=by
     rw[FQ (by omega) h3] at h1;rw[Aw,<-hl];exact Ap h1
   exact PySem.W.ki_setBack ho (by omega) (by rw[Aw,<-hl];exact h3) (by omega) (by rw[hk];exact⟨_,I',q⟩)
def zfR(lo hi:Option Int)(n:Nat):(sliceBounds lo hi none n).1=((HT.Ih n 0 lo:Nat):Int)/\(sliceBounds lo hi none n).2.1=((HT.Ih n n hi:Nat):Int)/\(sliceBounds lo hi none n).2.2=1:=by
 refine⟨?_,?_,rfl⟩
 . cases lo with
   | none=>simp[sliceBounds,HT.Ih]
   | some i =>
     simp only[sliceBounds,HT.Ih,Gp,show (1:Int) > 0 by decide,if_true]
     by_cases h:i < 0
     . simp only[h,if_true] <;> omega
     simp only[h,if_false] <;> omega
 . cases hi with
   | none=>simp[sliceBounds,HT.Ih]
   | some i =>
     simp only[sliceBounds,HT.Ih,Gp,show (1:Int) > 0 by decide,if_true]
     by_cases h:i < 0
     . simp only[h,if_true] <;> omega
     simp only[h,if_false] <;> omega
def ze4(its:List IR)(lo hi:Option Int):slicePick its.toArray lo hi none=((its.drop<|HT.Ih its.length 0 lo).take<|HT.Ih its.length its.length hi - HT.Ih its.length 0 lo).toArray:=by obtain⟨h1,h2,h3⟩:=zfR lo hi its.toArray.size;unfold slicePick;rw[h1,h2,h3];simp only[sliceRange_one,pick_run,Aw] <;> rfl
def RF(K:Ac):V->Option Int->Option Int->Hp->VK->Prop:=fun x lo hi H Q=>∃ a xs,x=.ref a/\JB K H a xs/\∀ p,H p=none->Q (.ref p) (upd H p<|.lst<|K4 xs lo hi)
def Zl:QB X (RF X.K):=by intro qp s σ H x v vl vu lo hi sl Q I rx hs pl pu h;obtain⟨a,xs,rfl,hx,q⟩:=h;cases rx;obtain⟨its,r,ht,hz⟩:=I.list hx;have hlen:=r.length;refine⟨"list",_,slot_list_getitem.lookup,ht.isList.typeIs,?_⟩;refine wpAny_getItem_list_slice ht.isList hs pl pu .none (by simp) ?_ (by rw[Aw] <;> omega);rw[ze4,<-hlen];refine⟨.ref s.heap.objs.size,_,I.laid (t':=s.toks) (o:=.lst (K4 xs lo hi)) (fun b ob q=>Ad _ q) (Ag _) ?_,rfl,q _<|I.hok.fresh<|Ag _⟩;exact⟨Az (bY xs lo hi) hz,_,0,(r.drop<|HT.Ih xs.length 0 lo).take<|HT.Ih xs.length xs.length hi - HT.Ih xs.length 0 lo,Am _ rfl⟩
def WC:Mj X (.builtin "len") (fun xs H Q=>∃ p ys,xs=[.ref p]/\(JB X.K H p ys\/IQ X.K H p ys)/\Q (.int ys.length) H):=by
 intro qp s σ H xs us Q I r h;obtain⟨p,ys,rfl,hq,q⟩:=h;obtain⟨u,rfl,rx⟩:=vals1 r;cases rx;have hn:=OX
 rcases hq with hq | hq
 . obtain⟨its,r',pl,hz⟩:=I.list hq;have hlen:=r'.length;exact Calls.call_len_list pl.isList (by simp only[Aw] <;> omega) ⟨.int ys.length,H,I.tok _,⟨s.toks+1,by rw[Aw,hlen]⟩,q⟩
 obtain⟨its,r',pl,hz⟩:=I.tuple hq;have hlen:=r'.length;exact len_tuple pl (by simp only[Aw] <;> omega) ⟨.int ys.length,H,I.tok _,⟨s.toks+1,by rw[Aw,hlen]⟩,q⟩
def zgm:Mj X (.builtin "len") (fun xs H Q=>∃ z,xs=[.str z]/\z.length<=sizeLine/\Q (.int z.length) H):=by intro qp s σ H xs us Q I r h;obtain⟨z,rfl,hz,q⟩:=h;obtain⟨u,rfl,t,rfl⟩:=vals1 r;have hn:=OX;exact len_str (by omega) ⟨.int z.length,H,I.tok _,⟨_,rfl⟩,q⟩
def cW:Mj X (.type "tuple") (fun xs H Q=>∃ p ys,xs=[.ref p]/\((JB X.K H p ys/\∀ l,H l=none->Q (.ref l) (upd H l<|.tup ys))\/(IQ X.K H p ys/\Q (.ref p) H))):=by
 intro qp s σ H xs us Q I r h;obtain⟨p,ys,rfl,h⟩:=h;obtain⟨u,rfl,rx⟩:=vals1 r;cases rx
 rcases h with ⟨hq,q⟩ | ⟨hq,q⟩
 . obtain⟨its,r',pl,hz⟩:=I.list hq;have hlen:=r'.length;refine call_tuple_list pl.isList (fun h' kp=>?_) (by simp only[Aw] <;> omega);have I1:Inv X qp σ H { s with heap:=h' }:=I.kept (t':=s.toks) kp;have I2:Inv X qp σ (upd H h'.objs.size<|.tup ys) { s with heap:=h'.push { cls:=.type "tuple",data:=.seq its.toArray } } :=
     I1.laid (t':=s.toks) (fun b o e=>Ad _ e) (Ag _) (show Ju X.prog X.w _ _ _ (.tup ys) from ⟨hz,its,r',Ly.new _ _⟩)
   exact⟨.ref h'.objs.size,_,I2,rfl,q _<|I1.hok.fresh<|Ag _⟩
 obtain⟨its,r',pl,hz⟩:=I.tuple hq;exact call_tuple_same pl ⟨.ref p,H,I,rfl,q⟩
def W2(K:Ac)(T:String)(x:V)(H:Hp):Prop:=match x with
 | .str _=>T="str"
 | .int _=>T="int"
 | .ref p=>(T="list"/\∃ xs,JB K H p xs)\/(T="tuple"/\∃ o,K.lookup p=some o/\o.cls=.type "tuple"/\o.dict=none) \/
     (T="dict"/\((∃ kvs,H p=some (.dK kvs))\/∃ kvs,H p=some (.dT kvs)))\/(T="set"/\∃ S n,H p=some (.set S n))
 | _=>False
def nH{v:IR}(I:Inv X qp σ H s)(r:RelV x v)(ty:W2 X.K T x H) :
   s.TypeIs v T/\∀ a,v=.ref a->∃ ob,s.heap.get? a=some ob/\ob.dict=none:=by
 cases x with
 | str z =>
   obtain⟨t,rfl⟩:=r
   cases (show T="str" from ty)
   exact⟨GA s z t,fun _ e=>nomatch e⟩
 | int i =>
   obtain⟨t,rfl⟩:=r
   cases (show T="int" from ty)
   exact⟨typeIs_int s i t,fun _ e=>nomatch e⟩
 | ref p =>
   cases r
   rcases ty with ⟨rfl,xs,hq⟩ | ⟨rfl,o,hk,hc,hd⟩ | ⟨rfl,hk⟩ | ⟨rfl,S,n,hk⟩
   . obtain⟨its,_,pl,_⟩:=I.list hq;refine⟨pl.isList.typeIs,fun a e=>?_⟩;cases e;obtain⟨o,n,e,c,hd,_⟩:=pl;exact⟨o,e,hd⟩
   . refine⟨⟨o,I.kIn p o hk,hc⟩,fun a e=>?_⟩;cases e;exact⟨o,I.kIn _ o hk,hd⟩
   . have z:∃ o,s.heap.get? p=some o/\o.ExactDict:=by
       rcases hk with ⟨kvs,hk⟩ | ⟨kvs,hk⟩
       . obtain⟨_,_,_,_,o,_,_,e,ex,_⟩:=I.hok p _ hk;exact⟨o,e,ex⟩
       obtain⟨_,_,_,_,o,_,_,e,ex,_⟩:=I.hok p _ hk;exact⟨o,e,ex⟩
     obtain⟨o,e,ex⟩:=z;refine⟨⟨o,e,ex.1⟩,fun a e2=>?_⟩;cases e2;exact⟨o,e,ex.2.1⟩
   obtain⟨o,_,_,_,e,ex,_⟩:=I.hok p _ hk;refine⟨⟨o,e,ex.1⟩,fun a e2=>?_⟩;cases e2;exact⟨o,e,ex.2.1⟩
 | _=>exact False.elim ty
def tBM(K:Ac)(T:String)(r:V->List V->Hp->VK->Prop)(to:TE)(t:TA):TE:=fun σ H Q=>to σ H fun x H1=>W2 K T x H1/\t σ H1 fun xs H2=>r x xs H2 Q
variable {o:Os} {es:List Os} {to:TE} {t:TA} {name:Str} {apos cpos:Pos} {id:String} {r:V->List V->Hp->VK->Prop}
def Sv(pa:PlainAttrs T)(slot:Slot T name id)(hty:typeOf (.builtin id)=pure (.type "method_descriptor"))(hm:Sg X id r)(ho:PE X o to)(ha:PA X (e::es) t)
   (hbase:attributeBase o name X.env (W1 o X.env)=W1 o X.env:=by rfl)
   (hfew:((backTo cpos<|P3 (e::es) X.env).all (fun x=>!x.1)&&(backToKw cpos<|keywordEach [] X.env).all (fun x=>x.1.isSome)
    &&decide ((e::es).length+([]:List Keyword).length+(if ([]:List Keyword).isEmpty then 0 else 1) < 30))=true:=by rfl)
   (hline:(apos.endLine==cpos.line)=true:=by rfl) (hs:Qqb X.env e es:=by rfl) (hplain:Qqc cpos es X.env:=by rfl) :
   PE X (.Call (.Attribute o name apos) (e::es) [] cpos) (tBM X.K T r to t):=by
 intro qp s σ H Q I h;refine wpAny_Call_method_late hbase hfew hline rfl<|HS (ho qp s σ H _ I h) ?_;rintro v s1 ⟨x,H1,I1,r1,ty,q1⟩;obtain⟨h1,h2⟩:=nH I1 r1 ty;refine⟨T,id,pa,slot,hty,h1,h2,?_⟩;have hA:=ha cpos qp s1 σ H1 _ I1 q1;rw[hs] at hA ⊢;refine EY (by show (false || (backTo cpos<|P3 es X.env).any (·.1))=false;rw[hplain] <;> rfl)<|Fv ?_;exact HS hA fun us s2 ⟨vs,H2,I2,r2,q2⟩=>hm qp s2 σ H2 x vs v us Q I2 r1 r2 q2
end
def XX(X:Cx)(id:String)(r:V->List V->Hp->VK->Prop):Prop :=
 ∀ (qp:List (Addr×Obj)) (s:Shared) (σ:St) (H:Hp) (x:V) (xs:List V) (v:IR) (us:List IR) (Q:VK),Inv X qp σ H s->RelV x v->Vals xs us->r x xs H Q ->
   wpAny (KB X.prog X.w) X.A (call (.builtin id) (v::us)) (EP X qp σ Q) X.xe s
def Vals.one:∀ {x:V} {us:List IR},Vals [x] us->∃ u,us=[u]/\RelV x u
 | _,_,.cons r .nil=>⟨_,rfl,r⟩
def Vals.two{y:V}(h:Vals [x,y] us):∃ u v,us=[u,v]/\RelV x u/\RelV y v:=by
 cases h with
 | cons r t =>
   cases t with
   | cons q t =>
     cases t;exact⟨_,_,rfl,r,q⟩
def Vals.eraseIdx:∀ {xs:List V} {us:List IR} (i:Nat),Vals xs us->Vals (xs.eraseIdx i) (us.eraseIdx i)
 | _,_,_,.nil=>.nil
 | _,_,0,.cons _ t=>t
 | _,_,i+1,.cons r t=>.cons r<|Vals.eraseIdx i t
def aM{α:Type}:∀ (l:List α) (i:Nat),(l.eraseIdx i).length<=l.length
 | [],_=>Ag _
 | _::_,0=>BR _
 | _::r,i+1=>CS<|aM r i
variable {t':Nat}
section
variable {l b:Addr} {zs:List V}
def Inv.lset{f:Array IR->Array IR}(I:Inv X qp σ H s)(hH:H l=some (.lst xs))
   (e:s.heap.get? l=some { cls:=.type "list",data:=.seq its.toArray n }) (hf:f its.toArray=its'.toArray) (hv:Vals ys its') (hz:ys.length<=sizeLine) :
   Inv X qp σ (upd H l<|.lst ys) { s with heap:=s.heap.update l (Bs f),toks:=t' }:=by
 have q:=PySem.IsL.update e f;rw[hf] at q;refine I.write (x:=l) (e:=l) (by rw[hH];exact trivial) (.inl rfl) (fun b' u hb hu=>(AL s.heap (Bs f)<|A6 hb).trans hu) ⟨_,q⟩ ?_;exact⟨hz,its',_,hv,q⟩
def Inv.lnew(I:Inv X qp σ H s)(hv:Vals ys its)(hz:ys.length<=sizeLine) :
   Inv X qp σ (upd H s.heap.objs.size<|.lst ys) { s with heap:=s.heap.push { cls:=.type "list",data:=.seq its.toArray },toks:=t' } :=
 I.laid (fun _ _ q=>Ad _ q) (Ag _) ⟨hz,its,0,hv,Am _ rfl⟩
def Inv.fresh(I:Inv X qp σ H s):H s.heap.objs.size=none:=I.hok.fresh<|Ag _
def Inv.lstM(I:Inv X qp σ H s)(hH:H l=some (.lst xs)):xs.length<=sizeLine/\∃ (its:List IR) (n:Nat),Vals xs its/\xs.length=its.length/\s.heap.get? l=some { cls:=.type "list",data:=.seq its.toArray n }:=by obtain⟨z,its,n,r,e⟩:=I.hok l _ hH;exact⟨z,its,n,r,r.length,e⟩
def tQ(h:n<=sizeLine):Df n=false:=by unfold Df;exact decide_eq_false<|by omega
end
def oH:V->List V->Hp->VK->Prop:=fun x vs H Q=>∃ l xs y,x=.ref l/\vs=[y]/\H l=some (.lst xs)/\xs.length < sizeLine/\Q .non (upd H l<|.lst<|xs++[y])
def aS:XX X "list.append" oH:=by intro qp s σ H x vs v us Q I rx rv h;obtain⟨l,xs,y,rfl,rfl,hH,hz,q⟩:=h;cases rx;obtain⟨u,rfl,ru⟩:=rv.one;obtain⟨z,its,n,r,hl,e⟩:=I.lstM hH;refine Ek F.slot_list_append ⟨_,e,rfl⟩ F.entry_list_append (F.args_list_append_2 _ _) (PySem.list_append l its.toArray n u (by rw[Aw];omega)) ⟨e,?_⟩;refine⟨.non,_,I.lset (its':=its++[u]) hH e (by simp) (r.append<|.cons ru .nil) ?_,rfl,q⟩;rw[AM,BH];omega
def oJ:V->List V->Hp->VK->Prop:=fun x vs H Q=>∃ l b xs zs,x=.ref l/\vs=[.ref b]/\H l=some (.lst xs)/\H b=some (.lst zs)/\xs.length+zs.length<=sizeLine/\Q .non (upd H l<|.lst<|xs++zs)
def vW:XX X "list.extend" oJ:=by
 intro qp s σ H x vs v us Q I rx rv h;obtain⟨l,b,xs,zs,rfl,rfl,hH,hB,hz,q⟩:=h;cases rx;obtain⟨u,rfl,ru⟩:=rv.one;cases ru;obtain⟨z,its,n,r,hl,e⟩:=I.lstM hH;obtain⟨z2,its2,n2,r2,hl2,e2⟩:=I.lstM hB;have hsz:its.toArray.size+its2.toArray.size<=sizeLine:=by rw[Aw,Aw];omega
 have hlong:¬ (!its.toArray.isEmpty&&Df (its.toArray.size+its2.toArray.size))=true:=by rw[tQ hsz,GS];exact Bk
 refine Ek F.slot_list_extend ⟨_,e,rfl⟩ F.entry_list_extend (F.args_list_extend_2 _ _)
   (AutoSeq1.list_extend_list_list_0 l its.toArray n b its2.toArray n2 hlong (by rw[Aw];omega)<|by omega) ⟨e,e2,?_⟩
 refine⟨.non,_,I.lset (its':=its++its2) hH e (by simp) (r.append r2) ?_,rfl,q⟩;rw[AM];omega
def jM:V->List V->Hp->VK->Prop:=fun x vs H Q=>∃ l xs i k y,x=.ref l/\vs=[.int i]/\H l=some (.lst xs)/\-(2 ^ 63)<=i/\i < 2 ^ 63/\seqIndex? i xs.length=some k/\xs[k]?=some y/\Q y (upd H l<|.lst<|xs.eraseIdx k)
def tM:XX X "list.pop" jM:=by
 intro qp s σ H x vs v us Q I rx rv h;obtain⟨l,xs,i,k,y,rfl,rfl,hH,h1,h2,hk,hy,q⟩:=h;cases rx;obtain⟨u,rfl,ru⟩:=rv.one;obtain⟨t,rfl⟩:=ru;obtain⟨z,its,n,r,hl,e⟩:=I.lstM hH;obtain⟨w,hw,rw'⟩:=r.get hy;refine Ek F.slot_list_pop ⟨_,e,rfl⟩ F.entry_list_pop (F.args_list_pop_2 _ _)
   (MeetsSeq.list_pop_at l its.toArray n i t k w (fitsIndex_both h1 h2) (by rw[Aw,<-hl];exact hk) (by rw[<-Bp];exact hw) (by rw[Aw];omega)) ⟨e,?_⟩
 refine⟨y,_,I.lset (its':=its.eraseIdx k) hH e ?_ (r.eraseIdx k) ?_,rw',q⟩
 . show its.toArray.eraseIdxIfInBounds k=(its.eraseIdx k).toArray;rw[List.eraseIdxIfInBounds_toArray]
 have:=aM xs k;omega
def Xu:R2:=fun x y H Q=>∃ l b xs zs,x=.ref l/\y=.ref b/\H l=some (.lst xs)/\H b=some (.lst zs)/\xs.length+zs.length<=sizeLine/\∀ p,H p=none->Q (.ref p) (upd H p<|.lst<|xs++zs)
def lT:JG X (binaryOp .Add) Xu:=by
 intro qp s σ H x y v u Q I rx ry h;obtain⟨l,b,xs,zs,rfl,rfl,hH,hB,hz,q⟩:=h;cases rx;cases ry;obtain⟨z,its,n,r,hl,e⟩:=I.lstM hH;obtain⟨z2,its2,n2,r2,hl2,e2⟩:=I.lstM hB;refine PySem.P.add_list e e2 ?_ (by rw[Aw,Aw];omega);have ea:its.toArray++its2.toArray=(its++its2).toArray:=by simp
 rw[ea];exact⟨.ref _,_,I.lnew (t':=s.toks) (r.append r2) (by rw[AM];omega),rfl,q _ I.fresh⟩
section
variable {prog:Pv} {w:UF} {A:Around} {E:Qqa}
set_option maxRecDepth 100000 in
end
end L2
namespace Att
open PySem PySem.W PySem.Calls PyProof.Rows
def zeb{P:Params}{h:KM}:∀ (ns:List Int) (vs:List IR),WellAll P h vs (ns.map WData.int)->IntsAre vs ns:=by
 intro ns
 induction ns with
 | nil =>
   intro vs w;rw[Cp] at w;cases w;exact .nil
 | cons n ns ih =>
   intro vs w;rw[Ax] at w
   cases w with
   | cons a b =>
     cases a;exact .cons _ _<|ih _ b
def yM{l:OpenLaw}{n:Nat}(hn:l.most=some n){P:Params}{h:KM}{args:List WData}{vals:List IR}
   (hpre:l.row.toRowW.claim.pre args=true) (hwl:WellAll P h vals args) :
   ∃ a vs ns,vals=[Au a]/\args=[WData.list (ns.map WData.int)]/\h.get? a=some { cls:=.type "list",data:=.seq vs.toArray }/\IntsAre vs ns/\ns.length<=n:=by
 have hsh:WShape.hasAll [] args [.list .int]=true:=(pre_splitW hpre).1;have hc:l.pre.holds [] { args:=args }=true:=(pre_splitW hpre).2;obtain⟨d,r,rfl,h1,h2⟩:=hasAllW_cons hsh;obtain rfl:=hasAllW_nil h2;obtain⟨xs,rfl,h3⟩:=hasW_list h1;obtain⟨ns,rfl⟩:=items_int h3;have hlen:ns.length<=n:=by
   unfold OpenLaw.pre at hc;have h4:(WTm.not<|.lt (.lit<|.int (n:Int))<|.len<|.arg 0).holds [] { args:=[.list (ns.map .int)] }=true:=by have h4:=(holds_andW hc).1;rw[hn] at h4;exact h4
   have h5:=condW_of h4<|w_not<|w_lt w_lit<|w_len_list<|w_arg rfl;rw[Af] at h5;refine Nat.le_of_not_lt fun q=>?_;have q':(n:Int) < ((ns.length:Nat):Int):=by omega
   first
     | (rw[decide_eq_true q'] at h5;exact absurd h5 (by decide))
     | (simp at h5;omega)
 cases hwl with
 | cons w1 w2 =>
   cases w2
   cases w1 with
   | list ho hall=>exact⟨_,_,ns,rfl,rfl,ho,zeb ns _ hall,hlen⟩
def yD(l:OpenLaw)(args:List WData):l.row.toRowW.claim.post args (.bool true) args=true :=
 postW_of (r:=l.row.toRowW) (X:=(true==true))
   (show WShape.has [] (.bool true) .bool=true by first | rfl | decide | simp[WShape.has,WShape.arms,WShape.armsAll])
   (show (WTm.eq .res<|.lit<|.bool true).value [] { args:=args,res:=some (.bool true),after:=args }=some (.bool<|true==true) from w_eq_bool (w_res rfl) w_lit) rfl
def K6{l:OpenLaw}{n:Nat}{q:Pv}{loose:List Str}{XP:(Str->Option IR)->KM->Prop}{YP:UF->KM->Prop}{d:DefRec}
   (hn:l.most=some n) (hdf:d.params.defaults=[])
   (call:∀ (w:UF) (s₀ s₁:Shared) (mg mb:Str->Option IR) (fa:Addr) (o:Obj) (pm cd doc:IR) (a:Addr) (vs:List IR) (ns:List Int),
     Ground q loose [] XP w s₀ mg mb s₁.heap->YP w s₁.heap ->
     s₁.heap.get? fa=some o->o.data=.func (docDef d.name d.params d.body d.scope pm cd doc)->s₁.heap.CodeRec cd d.name->mg d.name=some (.ref fa) ->
     s₁.heap.get? a=some { cls:=.type "list",data:=.seq vs.toArray }->IntsAre vs ns->ns.length<=n->s₁.gens=#[] ->
     codeAny (KB l.prog w) callerA (.call (.ref fa) ⟨[.ref a],[]⟩) (fun r s'=>r=.ok (.ret<|.bool true)/\OldK s₁.heap s'.heap/\s'.os=s₁.os/\AllBare s'.gens) s₁) :
   WalkO q loose XP YP l.row.toRowW d [] (fun f vs=>GB f vs):=by
 intro w s₀ s₁ mg mb G Y fa o pm cd doc dV kV ho hd hcd hD hmg hg args vals as hpre hlay hrd hwl hlo;obtain rfl:dV=.none:=Dflts.none hD hdf;obtain rfl:kV=.none:=Dflts.noKw hD;obtain⟨a,vs,ns,rfl,rfl,hobj,hints,hlen⟩:=yM hn hpre hwl;refine enter_call<|CL (call w s₀ s₁ mg mb fa o pm cd doc a vs ns G Y ho (fd_plain hd) hcd hmg hobj hints hlen hg) fun r s' hq=>?_;obtain⟨rfl,h2,h3,h4⟩:=hq;exact⟨.inl ⟨.bool true,.bool true,[],rfl,fun _=>rfl,.bool true,yD l _,fun _=>⟨Dq,fun _ hm=>(nomatch hm)⟩⟩,h2,h3,h4⟩
end Att
namespace L2
open PySem PySem.Spec PyProof.Rows
def aK:∀ {vs:List IR} {ns:List Int},IntsAre vs ns->Vals (ns.map V.int) vs
 | _,_,.nil=>.nil
 | _,_,.cons n t h=>.cons ⟨t,rfl⟩<|aK h
def MW(H:Hp):Prop:=∀ b,H b=none\/∃ o xs,H b=some (.frz o<|.lst xs)
variable {P:Pv}{w:UF}{K:Ac}{mg:Str->Option IR}{k:Nat}{fd:FuncData}{x:Str}{sp:Sp}
def sZ{mb:Str->Option IR}{CX:M5}{fa a:Addr}{x:Str}{s₁:Shared}{vs:List IR}{ns:List Int}
   (KX:K.In s₁.heap) (hns:s₁.heap.Ns mainGlobals mg) (hb:s₁.heap.Ns builtinsNs mb) (hbb:∀ x:Str,x≠"__name__"->mb x=UV x) (hlim:s₁.heap.NoLimit) (hg:s₁.gens=#[])
   (ha:s₁.heap.get? a=some { cls:=.type "list",data:=.seq vs.toArray }) (hi:IntsAre vs ns) (hl:ns.length<=sizeLine) (hr:Ia k callerA)
   (F:∀ base:KM,K.In base->base.Ns mainGlobals mg->II P w K mg base CX k fa fd [x] sp) (hbind:∀ (s:Shared) (u:IR),BindsTo s fd ⟨[u],[]⟩ [(x,u)])
   (hsp:∀ H:Hp,MW H->JB K H a (ns.map V.int)->sp [.ref a] H (fun v _=>v=.bl true) fun _ _ _=>False)
   (hCX:∀ H e s',CX [] H s₁ (fun _ _ _=>False) e s'->False) :
   codeAny (KB P w) callerA (.call (.ref fa) ⟨[.ref a],[]⟩) (fun r s'=>r=.ok (.ret (.bool true))/\OldK s₁.heap s'.heap/\s'.os=s₁.os/\AllBare s'.gens) s₁:=by
 have rv:=aK hi;have lenV:=hi.length
 -- from an abstract heap in which nothing but the script may be tracked
 have core:∀ H:Hp,MW H->JB K H a (ns.map V.int)->Jn P w H s₁.heap->(∀ b,H b≠none->b=a)->(H a≠none->K.lookup a=none) ->
     codeAny (KB P w) callerA (.call (.ref fa) ⟨[.ref a],[]⟩) (fun r s'=>r=.ok (.ret (.bool true))/\OldK s₁.heap s'.heap/\s'.os=s₁.os/\AllBare s'.gens) s₁:=by
   intro H hO hS hok hA hK;have base_of:∀ {b:Addr} {o:Obj},s₁.heap.get? b=some o->H b=none->(Kt s₁.heap H).get? b=some o:=fun e n=>uE e n;have noA:∀ {b:Addr} {o:Obj} {es:Array DictEntry} {ep:Nat},s₁.heap.get? b=some o->o.data=.dict es ep->H b=none:=fun {b o es ep} e d=>by
     cases q:H b with
     | none=>rfl
     | some u =>
       have e':b=a:=hA b (by rw[q];simp);subst e';rw[ha] at e;cases e;have d':Data.seq vs.toArray _=Data.dict es ep:=d;cases d'
   have nsK:∀ {b:Addr} {m:Str->Option IR},s₁.heap.Ns b m->(Kt s₁.heap H).Ns b m:=fun {b m} ⟨o,es,ep,e,d,r⟩=>⟨o,es,ep,base_of e (noA e d),d,r⟩
   have hKb:K.In (Kt s₁.heap H):=fun b o e=>base_of (KX b o e) (by
     cases q:H b with
     | none=>rfl
     | some u =>
       have e':b=a:=hA b (by rw[q];simp);subst e';rw[hK (by rw[q];simp)] at e;cases e)
   have hM:Mod K mg (Kt s₁.heap H):=⟨hKb,nsK hns,⟨mb,nsK hb,hbb⟩,let ⟨mc,h1,h2⟩:=hlim;⟨mc,nsK h1,h2⟩⟩
   have e0:Lx P w K mg (Kt s₁.heap H) callerA [] s₁ H:=⟨rfl,hM,fun b o e=>pA e,Eu (vM _ _),trivial,fun b hb=>absurd (show b∈([]:List Addr) from hb) (by simp),hok,.of_eq hg⟩
   refine CL ((F _ hKb (nsK hns)).run callerA [] s₁ H ⟨[.ref a],[]⟩ [.ref a] [.ref a] _ _ hr e0 (hbind s₁ (.ref a)) (.cons rfl .nil) (hsp H hO hS)) fun r s' h=>?_
   cases r with
   | error e=>exact (hCX H e s' h).elim
   | ok fl =>
     cases fl with
     | next=>exact False.elim h
     | brk=>exact False.elim h
     | cont=>exact False.elim h
     | ret u =>
       obtain⟨v,H',os,bare,un,hok',r',q⟩:=h;have q':v=.bl true:=q;subst q';obtain rfl:u=Value.bool true:=r';refine⟨rfl,OldK.of_keep fun b o e=>?_,os,bare⟩
       cases q:H b with
       | none=>exact un.keep b o e q (by intro z;exact absurd (show b∈([]:List Addr) from z) (by simp)) (by simp)
       | some u =>
         rcases hO b with z | ⟨ob,xs,z⟩
         . rw[q] at z;cases z
         have z2:=un.frzs b ob _ z;obtain⟨e1,_⟩:=hok b _ z;obtain⟨e2,_⟩:=hok' b _ z2;rw[e] at e1;cases e1;exact e2
 cases hk:K.lookup a with
 | some o =>
   -- the script is one of the module's own objects
   have e:=KX a o hk;rw[ha] at e;cases e;refine core (fun _=>none) (fun _=>.inl rfl) (.inr ⟨_,vs.toArray,_,hk,rfl,rfl,rfl,by rw[Aw,lenV];exact hl,by simpa using rv⟩) (fun b u z=>by have z':(none:Option HO)=some u:=z;cases z') (fun b z=>absurd rfl z) fun z=>absurd rfl z
 | none =>
   refine core (fun b=>if b=a then some (.frz { cls:=.type "list",data:=.seq vs.toArray } (.lst (ns.map V.int))) else none) (fun b=>?_) (.inl (.inr ⟨{ cls:=.type "list",data:=.seq vs.toArray },if_pos rfl⟩)) (fun b u z=>?_) (fun b z=>?_) fun _=>hk
   . by_cases hb:b=a
     . exact .inr ⟨_,_,if_pos hb⟩
     exact .inl (if_neg hb)
   . by_cases hb:b=a
     . have z':=(if_pos hb).symm.trans z;cases z';subst hb;exact⟨ha,by rw[Af];exact hl,vs,_,rv,ha⟩
     have z':=(if_neg hb).symm.trans z;cases z'
   . by_cases hb:b=a
     . exact hb
     exact absurd (if_neg hb) z
variable {n:Nat}
def NM{l:PySem.W.OpenLaw}{q:Pv}{loose:List Str}{XP:(Str->Option IR)->KM->Prop}{YP:UF->KM->Prop}{d:DefRec}{K:Params->Ac}{CX:UF->M5}{sp:UF->Sp}
   (hn:l.most=some n) (hn2:n<=sizeLine) (hdf:d.params.defaults=[]) (hr:Ia k callerA)
   (hY:∀ (w:UF) (h:KM),YP w h->(K w.params).In h)
   (F:∀ (w:UF) (mg:Str->Option IR) (fa:Addr) (h:KM),(K w.params).In h->h.Ns mainGlobals mg->mg d.name=some (.ref fa) ->
     ∃ fd:FuncData,(∀ (s:Shared) (u:IR),BindsTo s fd ⟨[u],[]⟩ [(x,u)]) /\
       ∀ base:KM,(K w.params).In base->base.Ns mainGlobals mg->II l.prog w (K w.params) mg base (CX w) k fa fd [x] (sp w))
   (hsp:∀ (w:UF) (H:Hp) (a:Addr) (ns:List Int),ns.length<=n->MW H->JB (K w.params) H a (ns.map V.int)->sp w [.ref a] H (fun v _=>v=.bl true) fun _ _ _=>False)
   (hCX:∀ (w:UF) (H:Hp) (s:Shared) (e:IR) (s':Shared),CX w [] H s (fun _ _ _=>False) e s'->False) :
   PySem.W.WalkO q loose XP YP l.row.toRowW d [] (fun f vs=>GB f vs):=by
 refine Att.K6 hn hdf fun w s₀ s₁ mg mb fa o pm cd doc a vs ns G Y ho hd hcd hmg hobj hints hlen hg=>?_;have KX:=hY w _ Y;obtain⟨fd,hb,hF⟩:=F w mg fa _ KX G.T.g hmg;exact sZ KX G.T.g G.T.b G.T.builtins G.T.nolimit hg hobj hints (Az hlen hn2) hr hF hb (fun H hO hS=>hsp w H a ns hlen hO hS) fun H e s'=>hCX w H s₁ e s'
def inClass(s:Wp)(j:Nat):Wp:=match s with
 | .ClassDef _ _ _ body _ _ _ _ _ _ _=>body.getD j<|.Pass ⟨0,0,0,0⟩
 | _=>.Pass ⟨0,0,0,0⟩
noncomputable abbrev KL:M5:=fun _ _ _ _ _ _=>False
noncomputable abbrev E0:XK:=fun _ _ _=>False
variable {X:Cx}
def fV:Passes KL X E0:=fun _ _ _ _ _ _ _ h=>h.elim
structure LJ(K:Ac)(x qual:Str)(st:Wp)(f:Addr)(fd:FuncData):Prop where
 ex:∃ (oc:IR) (od:Option Addr) (kV doc pm:IR) (an:Option Addr) (cdv ct:IR) (osl:Array (Option IR)),
   fd=B8 x qual (Nd st) (Ki st) (IL st) .none kV doc pm an cdv ct/\K.lookup f=some ⟨oc,od,.func fd,osl⟩/\Dk K cdv qual=true
 kp:BV K (.ref f)=true
variable {qual:Str}{st:Wp}{f:Addr}{ps:List Str}
section
variable {base:KM}
def LJ.ok{N:List Str}(F:LJ K x qual st f fd)(S:Iy N ps (IL st))(len:∀ vs H Q E,sp vs H Q E->vs.length=ps.length)
   (hbody:∀ (cdv:IR) (A:Around) (outer:List Env) (s:Shared) (H:Hp) (vs:List V) (Q:VK) (E:XK),Ia k (A.deeper<|envOfC qual (IL st) s.heap.objs.size f cdv)->sp vs H Q E ->
     ∃ t,J1 (Ic KL P w K mg base N qual (IL st) f cdv A outer s H E).nox (Ki st) t/\t { nx:=fun _ H'=>Q .non H',rt:=Q } (start N vs) H):II P w K mg base KL (k+1) f fd ps sp:=by
 obtain⟨oc,od,kV,doc,pm,an,cdv,ct,osl,rfl,lk,hcd⟩:=F.ex;refine Yh lk hcd S len fun A outer s H vs Q E hr hsp=>?_;obtain⟨t,h,q⟩:=hbody cdv A outer s H vs Q E hr hsp;exact⟨t,h.nox,q⟩
def LJ.binds(F:LJ K x qual st f fd)
   (h:∀ (kV doc pm:IR) (an:Option Addr) (cdv ct:IR) (us:List IR),us.length=ps.length->bindArgs (B8 x qual (Nd st) (Ki st) (IL st) .none kV doc pm an cdv ct) ⟨us,[]⟩=pure (ps.zip us)):Binds K fd ps []:=by
 obtain⟨oc,od,kV,doc,pm,an,cdv,ct,osl,rfl,lk,hcd⟩:=F.ex;exact .all<|h kV doc pm an cdv ct
def Sz{x qual:Str}{st:Wp}{oc:IR}{od an:Option Addr}{osl:Array (Option IR)}{kV doc pm cdv ct:IR}(l:K.lookup f=some ⟨oc,od,.func<|B8 x qual (Nd st) (Ki st) (IL st) .none kV doc pm an cdv ct,osl⟩)
   (c:Dk K cdv qual=true) (k:BV K (.ref f)=true):LJ K x qual st f (B8 x qual (Nd st) (Ki st) (IL st) .none kV doc pm an cdv ct):=⟨⟨oc,od,kV,doc,pm,an,cdv,ct,osl,rfl,l,c⟩,k⟩
end
def HY{A:Around}(hr:Ia k A):A.units+1 < cLine:=Cb (DQ (by decide:1<=64) _) hr.units
def xR(h:n<=1000):n < sizeLine:=Cb h<|by decide
def pv(i:Nat){pos:Pos}(hN:X.N[i]?=some x:=by rfl)(hv:UH X.env.scope x:=by first | exact B0 rfl | exact BS (B0 rfl) | exact BS (BS rfl))(hd:(x==("__debug__":Str))=false:=by decide)
   (hcd:(x==("__classdict__":Str))=false:=by decide):PE X (.Name x pos) (Rz i):=YN hN hv hd hcd
end L2
namespace L2.MP
open PySem PySem.Spec PyProof.Rows
inductive D where
 | non | bl (b:Bool) | int (i:Int) | str (x:Str) | tup (xs:List D) | ref (n:Nat) | kl (xs:List D) | fn (x:Str) | er (b:Bool) (c:Str) (f:Option (Str×Int))
inductive O where
 | lst (xs:List D) | fz (xs:List D) | dk (kvs:List (Key×D)) | dt (kvs:List (List Key×D)) | fk (kvs:List (Key×D)) | ft (kvs:List (List Key×D)) | ob (C:Addr) (fs:List (Str×D)) | sz (n:Nat) | dz
noncomputable abbrev HB:=List O
noncomputable abbrev Ie:=List (Option D)
structure Kp(H H':Hp):Prop where
 tup:∀ a xs,H a=some (.tup xs)->H' a=some (.tup xs)
 frz:∀ a o u,H a=some (.frz o u)->H' a=some (.frz o u)
def Nm(K:Ac)(H:Hp)(a:Addr)(xs:List V):Prop :=
 (∃ o,H a=some (.frz o<|.lst xs))\/∃ (o:Obj) (its:Array IR) (n:Nat),K.lookup a=some o/\o.cls=.type "list"/\o.dict=none/\o.data=.seq its n/\its.size<=sizeLine/\Vals xs its.toList
variable {K:Ac}{H:Hp}{a:Addr}{xs:List V}
def Nm.sq(h:Nm K H a xs):JB K H a xs:=by
 rcases h with h | h
 . exact .inl<|.inr h
 exact .inr h
variable {H':Hp}
def Nm.kp(T:Kp H H')(h:Nm K H a xs):Nm K H' a xs:=by
 rcases h with ⟨o,h⟩ | h
 . exact .inl ⟨o,T.frz _ _ _ h⟩
 exact .inr h
def JV(K:Ac)(x:Str)(a:Addr):Prop:=FR K mainGlobals x=some (some<|.ref a)
def QD(C a:Addr)(od:Option Addr)(h:KM):Prop:=∃ o fs,h.get? a=some o/\o.cls=.ref C/\o.dict=od/\o.data=.fields fs
def QE(K:Ac)(H:Hp)(v:V)(c:Str):Option (Str×Int)->Prop
 | none=>∃ a C o,v=.ref a/\JV K c C/\H a=some (.frz o<|.ext<|QD C a none)
 | some (f,n)=>∃ a C o dx o',v=.ref a/\JV K c C/\H a=some (.frz o<|.ext<|QD C a<|some dx)/\H dx=some (.frz o'<|.xd [(f,.int n)])
variable {v:V}
def QE.kp{c:Str}{f:Option (Str×Int)}(T:∀ a o u,H a=some (.frz o u)->(∀ ps,u≠.dT ps)->H' a=some (.frz o u))(h:QE K H v c f):QE K H' v c f:=by
 cases f with
 | none =>
   obtain⟨a,C,o,e,q,r⟩:=h;exact⟨a,C,o,e,q,T _ _ _ r<|by simp⟩
 | some p =>
   obtain⟨a,C,o,dx,o',e,q,r,z⟩:=h;exact⟨a,C,o,dx,o',e,q,T _ _ _ r<|by simp,T _ _ _ z<|by simp⟩
mutual
def Rep(K:Ac)(H:Hp)(io:List Addr):V->D->Prop
 | v,.non=>v=.non
 | v,.bl b=>v=.bl b
 | v,.int i=>v=.int i
 | v,.str x=>v=.str x
 | v,.tup ds=>∃ a xs,v=.ref a/\H a=some (.tup xs)/\HC K H io xs ds
 | v,.ref n=>∃ a,v=.ref a/\io[n]?=some a
 | v,.kl ds=>∃ a xs,v=.ref a/\Nm K H a xs/\HC K H io xs ds
 | v,.fn x=>∃ a,v=.ref a/\JV K x a
 | v,.er b c f=>b=true/\QE K H v c f
def HC(K:Ac)(H:Hp)(io:List Addr):List V->List D->Prop
 | xs,[]=>xs=[]
 | xs,d::ds=>∃ y ys,xs=y::ys/\Rep K H io y d/\HC K H io ys ds
end
variable {io ka:List Addr}
mutual
theorem Rep.mono{K:Ac}{H H':Hp}{io ka:List Addr}(T:Kp H H'):∀ {v:V} {d:D},Rep K H io v d->Rep K H' (io++ka) v d
 | _,.non,h=>h
 | _,.bl _,h=>h
 | _,.int _,h=>h
 | _,.str _,h=>h
 | _,.tup ds,h=>by obtain⟨a,xs,e,q,r⟩:=h;exact⟨a,xs,e,T.tup a xs q,HC.mono T r⟩
 | _,.ref n,h=>by obtain⟨a,e,q⟩:=h;exact⟨a,e,by rw[Ai (KF.mp q).1];exact q⟩
 | _,.kl ds,h=>by obtain⟨a,xs,e,q,r⟩:=h;exact⟨a,xs,e,q.kp T,HC.mono T r⟩
 | _,.fn _,h=>h
 | _,.er _ _ _,h=>⟨h.1,h.2.kp fun a o u q _=>T.frz a o u q⟩
theorem HC.mono{K:Ac}{H H':Hp}{io ka:List Addr}(T:Kp H H'):∀ {xs:List V} {ds:List D},HC K H io xs ds->HC K H' (io++ka) xs ds
 | _,[],h=>h
 | _,d::ds,h=>by obtain⟨y,ys,e,r,rs⟩:=h;exact⟨y,ys,e,Rep.mono T r,HC.mono T rs⟩
end
variable {H1 H2:Hp}{kb:List Addr}{st st':HB}{d:D}{o:HO}{ρ:Ie}{p:Addr}{ob:O}
section
variable {ys:List V} {ds es:List D}
def HC.length:∀ {xs:List V} {ds:List D},HC K H io xs ds->xs.length=ds.length
 | _,[],h=>by rw[show _=[] from h];rfl
 | _,d::ds,h=>by obtain⟨y,ys,e,_,rs⟩:=h;rw[e,AC,AC,HC.length rs]
def HC.get:∀ {xs:List V} {ds:List D} {i:Nat} {d:D},HC K H io xs ds->ds[i]?=some d->∃ v,xs[i]?=some v/\Rep K H io v d
 | _,[],_,_,_,e=>by simp at e
 | _,a::ds,0,d,h,e=>by
   obtain⟨y,ys,rfl,r,_⟩:=h;have e':a=d:=by simpa using e
   subst e';exact⟨y,rfl,r⟩
 | _,a::ds,i+1,d,h,e=>by obtain⟨y,ys,rfl,_,rs⟩:=h;exact HC.get (i:=i) rs<|by simpa using e
def HC.append:∀ {xs ys:List V} {ds es:List D},HC K H io xs ds->HC K H io ys es->HC K H io (xs++ys) (ds++es)
 | _,_,[],_,h,q=>by rw[show _=[] from h];exact q
 | _,_,d::ds,_,h,q=>by obtain⟨y,ys,rfl,r,rs⟩:=h;exact⟨y,_,rfl,r,HC.append rs q⟩
def HC.set:∀ {xs:List V} {ds:List D} {v:V} {d:D} (i:Nat),HC K H io xs ds->Rep K H io v d->HC K H io (xs.set i v) (ds.set i d)
 | _,[],_,_,_,h,_=>by rw[show _=[] from h];exact rfl
 | _,a::ds,v,d,0,h,q=>by obtain⟨y,ys,rfl,_,rs⟩:=h;exact⟨v,ys,rfl,q,rs⟩
 | _,a::ds,v,d,i+1,h,q=>by obtain⟨y,ys,rfl,r,rs⟩:=h;exact⟨y,_,rfl,r,HC.set i rs q⟩
def HC.take:∀ {xs:List V} {ds:List D} (n:Nat),HC K H io xs ds->HC K H io (xs.take n) (ds.take n)
 | _,[],n,h=>by rw[show _=[] from h];simp[HC]
 | _,_::_,0,_=>by simp[HC]
 | _,d::ds,n+1,h=>by obtain⟨y,ys,rfl,r,rs⟩:=h;exact⟨y,_,rfl,r,HC.take n rs⟩
def HC.drop:∀ {xs:List V} {ds:List D} (n:Nat),HC K H io xs ds->HC K H io (xs.drop n) (ds.drop n)
 | _,[],n,h=>by rw[show _=[] from h];simp[HC]
 | _,_::_,0,h=>h
 | _,d::ds,n+1,h=>by obtain⟨y,ys,rfl,r,rs⟩:=h;exact HC.drop n rs
theorem HC.nil:HC K H io [] []:=rfl
def HC.cons(r:Rep K H io v d)(rs:HC K H io xs ds):HC K H io (v::xs) (d::ds):=⟨v,xs,rfl,r,rs⟩
def HC.one(r:HC K H io xs [d]):∃ v,xs=[v]/\Rep K H io v d:=by
 obtain⟨y,ys,rfl,r,e⟩:=r
 cases (show ys=[] from e)
 exact⟨y,rfl,r⟩
def HC.two{e:D}(r:HC K H io xs [d,e]):∃ v u,xs=[v,u]/\Rep K H io v d/\Rep K H io u e:=by obtain⟨y,ys,rfl,r,q⟩:=r;obtain⟨v,rfl,q'⟩:=q.one;exact⟨y,v,rfl,r,q'⟩
noncomputable abbrev KR (κ:Type) (K:Ac) (H:Hp) (io:List Addr):List (κ×V)->List (κ×D)->Prop:=Paired fun (p:κ×V) (q:κ×D)=>p.1=q.1/\Rep K H io p.2 q.2
def XW(a:Addr)(n:Nat)(h:KM):Prop:=∃ o es ep t,h.get? a=some o/\o.ExactSet/\o.data=.set es ep t/\es.size < scanBound/\t.fits es.size=true/\es.size=n
def eM(a:Addr)(h:KM):Prop:=∃ o es ep,h.get? a=some o/\o.ExactDict/\o.data=.dict es ep
def OR(K:Ac)(H:Hp)(io:List Addr)(a:Addr):O->Prop
 | .lst ds=>∃ xs,H a=some (.lst xs)/\HC K H io xs ds
 | .fz ds=>∃ o xs,H a=some (.frz o<|.lst xs)/\HC K H io xs ds
 | .dk kvs=>∃ ps,H a=some (.dK ps)/\KR Key K H io ps kvs
 | .dt kvs=>∃ ps,H a=some (.dT ps)/\KR (List Key) K H io ps kvs
 | .fk kvs=>∃ o ps,H a=some (.frz o<|.dK ps)/\KR Key K H io ps kvs
 | .ft kvs=>∃ o ps,H a=some (.frz o<|.dT ps)/\KR (List Key) K H io ps kvs
 | .ob C fs=>∃ dx ps,H a=some (.ins C dx ps)/\KR Str K H io ps fs
 | .sz n=>H a=some (.ext<|XW a n)
 | .dz=>H a=some (.ext<|eM a)
structure HN(K:Ac)(H:Hp)(io:List Addr)(st:HB):Prop where
 len:io.length=st.length
 nd:io.Nodup
 ob:∀ (n:Nat) (a:Addr) (o:O),io[n]?=some a->st[n]?=some o->OR K H io a o
structure HQ(K:Ac)(H:Hp)(io:List Addr)(σ:St)(ρ:Ie):Prop where
 len:σ.length=ρ.length
 at_:∀ (i:Nat) (d:D),ρ[i]?=some (some d)->∃ v,σ[i]?=some (some v)/\Rep K H io v d
structure Ext(io ka:List Addr)(H H':Hp):Prop where
 keep:∀ b o,H b=some o->b ∉ io->H' b=some o
 fresh:∀ b,b∈ka->H b=none
 frz:∀ b o u,H b=some (.frz o u)->H' b=some (.frz o u)
def OR.stands{o:O}(h:OR K H io a o):∃ u,H a=some u/\∀ xs,u≠.tup xs/\∀ ob,u≠.frz ob (.tup xs):=by
 cases o with
 | lst ds=>obtain⟨xs,e,_⟩:=h;exact⟨_,e,fun _=>⟨by simp,by simp⟩⟩
 | fz ds=>obtain⟨ob,xs,e,_⟩:=h;exact⟨_,e,fun _=>⟨by simp,by simp⟩⟩
 | dk kvs=>obtain⟨xs,e,_⟩:=h;exact⟨_,e,fun _=>⟨by simp,by simp⟩⟩
 | dt kvs=>obtain⟨xs,e,_⟩:=h;exact⟨_,e,fun _=>⟨by simp,by simp⟩⟩
 | fk kvs=>obtain⟨ob,xs,e,_⟩:=h;exact⟨_,e,fun _=>⟨by simp,by simp⟩⟩
 | ft kvs=>obtain⟨ob,xs,e,_⟩:=h;exact⟨_,e,fun _=>⟨by simp,by simp⟩⟩
 | ob C fs=>obtain⟨dx,xs,e,_⟩:=h;exact⟨_,e,fun _=>⟨by simp,by simp⟩⟩
 | sz n=>exact⟨_,h,fun _=>⟨by simp,by simp⟩⟩
 | dz=>exact⟨_,h,fun _=>⟨by simp,by simp⟩⟩
def HN.mem(S:HN K H io st)(h:a∈io):∃ u,H a=some u/\∀ xs,u≠.tup xs/\∀ ob,u≠.frz ob (.tup xs):=by
 obtain⟨n,hn,e⟩:=DR h;have h1:io[n]?=some a:=by rw[Ah hn,e]
 have h2:n < st.length:=by rw[<-S.len];exact hn
 exact (S.ob n a _ h1<|Ah h2).stands
def Ext.sqT(S:HN K H io st)(E:Ext io ka H H'):∀ a xs,H a=some (.tup xs)->H' a=some (.tup xs):=by intro a xs h;refine E.keep _ _ h fun m=>?_;obtain⟨u,e,q⟩:=S.mem m;rw[h] at e;exact (q xs).1 (Ap e).symm
def Ext.kp(S:HN K H io st)(E:Ext io ka H H'):Kp H H':=⟨E.sqT S,E.frz⟩
def Ext.refl:Ext io [] H H:=⟨fun _ _ h _=>h,fun _ h=>absurd h (by simp),fun _ _ _ h=>h⟩
def Ext.trans(S1:HN K H1 (io++ka) st)(E1:Ext io ka H H1)(E2:Ext (io++ka) kb H1 H2):Ext io (ka++kb) H H2 where
 keep:=fun b o h n=>E2.keep b o (E1.keep b o h n) fun m=>by
   rcases SL.mp m with m | m
   . exact n m
   rw[E1.fresh b m] at h;cases h
 fresh:=fun b m=>by
   rcases SL.mp m with m | m
   . exact E1.fresh b m
   . have h1:=E2.fresh b m
     cases e:H b with
     | none=>rfl
     | some o =>
       by_cases hb:b∈io
       . obtain⟨u,e',_⟩:=S1.mem<|BX _ hb;rw[e'] at h1;cases h1
       rw[E1.keep b o e hb] at h1;cases h1
 frz:=fun b o u h=>E2.frz b o u (E1.frz b o u h)
def Ext.app(E:Ext io (ka++[]) H H'):Ext io ka H H':=by rw[Al] at E;exact E
def Rep.ext(S:HN K H io st)(E:Ext io ka H H')(h:Rep K H io v d):Rep K H' (io++ka) v d:=Rep.mono (E.kp S) h
def HC.ext(S:HN K H io st)(E:Ext io ka H H')(h:HC K H io xs ds):HC K H' (io++ka) xs ds:=HC.mono (E.kp S) h
def HQ.ext{σ:St}{ρ:Ie}(h:HQ K H io σ ρ)(S:HN K H io st)(E:Ext io ka H H'):HQ K H' (io++ka) σ ρ :=
 ⟨h.len,fun i d e=>let ⟨v,q,r⟩:=h.at_ i d e;⟨v,q,r.ext S E⟩⟩
def HQ.set{σ:St}{ρ:Ie}{v:V}{d:D}(i:Nat)(h:HQ K H io σ ρ)(r:Rep K H io v d):HQ K H io (σ.set i<|some v) (ρ.set i<|some d):=by
 refine⟨by rw[BZ,BZ];exact h.len,fun j e q=>?_⟩
 by_cases hij:i=j
 . subst hij;rw[CJ] at q;rw[if_pos rfl] at q
   split at q
   . rename_i hl
     cases (Ap<|Ap q)
     exact⟨v,by rw[CJ,if_pos rfl,if_pos (by rw[h.len];exact hl)],r⟩
   . cases q
 rw[As hij] at q;obtain⟨u,q',r'⟩:=h.at_ j e q;exact⟨u,by rw[As hij];exact q',r'⟩
def HN.nil(S:HN K H io st):HN K H (io++[]) st:=by rw[Al];exact S
def KR.mono{κ:Type}{ps:List (κ×V)}{kvs:List (κ×D)}(T:Kp H H')(h:KR κ K H io ps kvs):KR κ K H' (io++ka) ps kvs:=Paired.mapP h fun _ _ z=>⟨z.1,Rep.mono T z.2⟩
def OR.mono{a:Addr}{o:O}(T:Kp H H')(e:H' a=H a)(h:OR K H io a o):OR K H' (io++ka) a o:=by
 cases o with
 | lst ds=>obtain⟨xs,q,r⟩:=h;exact⟨xs,e.trans q,HC.mono T r⟩
 | fz ds=>obtain⟨ob,xs,q,r⟩:=h;exact⟨ob,xs,e.trans q,HC.mono T r⟩
 | dk kvs=>obtain⟨xs,q,r⟩:=h;exact⟨xs,e.trans q,KR.mono T r⟩
 | dt kvs=>obtain⟨xs,q,r⟩:=h;exact⟨xs,e.trans q,KR.mono T r⟩
 | fk kvs=>obtain⟨ob,xs,q,r⟩:=h;exact⟨ob,xs,e.trans q,KR.mono T r⟩
 | ft kvs=>obtain⟨ob,xs,q,r⟩:=h;exact⟨ob,xs,e.trans q,KR.mono T r⟩
 | ob C fs=>obtain⟨dx,xs,q,r⟩:=h;exact⟨dx,xs,e.trans q,KR.mono T r⟩
 | sz n=>exact e.trans h
 | dz=>exact e.trans h
def Q3(S:HN K H io st)(hp:H p=none):Ext io [] H (upd H p o)/\HN K (upd H p o) (io++[]) st:=by
 have E:Ext io [] H (upd H p o):=⟨fun b u h _=>by rw[HV (Jw h hp)];exact h,fun _ h=>absurd h (by simp),fun b u v h=>by rw[HV (Jw h hp)];exact h⟩
 refine⟨E,?_⟩;refine⟨by rw[Al];exact S.len,by rw[Al];exact S.nd,fun n a ob h1 h2=>?_⟩;rw[Al] at h1;obtain⟨u,hu,_⟩:=(S.ob n a ob h1 h2).stands;exact OR.mono (E.kp S) (HV<|Jw hu hp)<|S.ob n a ob h1 h2
def O4(S:HN K H io st)(hp:H p=none)(new:∀ H',Kp H H'->H' p=some o->OR K H' (io++[p]) p ob):Ext io [p] H (upd H p o)/\HN K (upd H p o) (io++[p]) (st++[ob]):=by
 have E:Ext io [p] H (upd H p o):=⟨fun b u h _=>by rw[HV (Jw h hp)];exact h,fun b h=>by rw[On.mp h];exact hp,fun b u v h=>by rw[HV (Jw h hp)];exact h⟩
 have np:p ∉ io:=fun m=>by obtain⟨u,hu,_⟩:=S.mem m;rw[hp] at hu;cases hu
 refine⟨E,by simp[S.len],?_,fun n a ob' h1 h2=>?_⟩
 . rw[F7];refine⟨S.nd,by simp,fun a ha b hb=>?_⟩;rw[On.mp hb];rintro rfl;exact np ha
 . by_cases hn:n < io.length
   . rw[Ai hn] at h1;rw[Ai (by rw[<-S.len];exact hn)] at h2;obtain⟨u,hu,_⟩:=(S.ob n a ob' h1 h2).stands;exact OR.mono (E.kp S) (HV<|Jw hu hp)<|S.ob n a ob' h1 h2
   . have hl:n < (io++[p]).length:=(KF.mp h1).1;rw[AM,BH] at hl;have e:n=io.length:=by omega
     subst e;rw[AV (Ag _),CN] at h1;rw[S.len,AV (Ag _),CN] at h2
     cases (Ap h1)
     cases (Ap h2)
     exact new _ (E.kp S) JP
def Ow{n:Nat}{o:HO}{old:O}(S:HN K H io st)(hn:io[n]?=some p)(ho:st[n]?=some old)(nf:∀ o u,H p≠some (.frz o u))(new:∀ H',Kp H H'->H' p=some o->OR K H' (io++[]) p ob):Ext io [] H (upd H p o)/\HN K (upd H p o) (io++[]) (st.set n ob):=by
 have hp:p∈io:=AI hn;have E:Ext io [] H (upd H p o):=⟨fun b u h nb=>by rw[HV (fun e=>nb (by rw[e];exact hp))];exact h,fun b h=>absurd h (by simp),fun b u v h=>by
   by_cases hb:b=p
   . subst hb;exact absurd h<|nf u v
   rw[HV hb];exact h⟩
 refine⟨E,by simp[S.len],by rw[Al];exact S.nd,fun m a ob' h1 h2=>?_⟩;rw[Al] at h1
 by_cases hm:m=n
 . subst hm;rw[hn] at h1
   cases (Ap h1)
   rw[CJ,if_pos rfl] at h2
   split at h2
   . cases (Ap h2)
     exact new _ (E.kp S) JP
   . cases h2
 . rw[As (fun e=>hm e.symm)] at h2;have hap:a≠p:=fun e=>by
     subst e;exact hm<|(F8 (KF.mp h1).1 S.nd).mp<|h1.trans hn.symm
   exact OR.mono (E.kp S) (HV hap)<|S.ob m a ob' h1 h2
end
noncomputable abbrev ME:=Ie->HB->Option (D×HB)
noncomputable abbrev MT:=Ie->HB->Option (Bool×HB)
noncomputable abbrev MA:=Ie->HB->Option (List D×HB)
inductive Fl where
 | nx (ρ:Ie) | rt (d:D) | bk (ρ:Ie) | ct (ρ:Ie)
noncomputable abbrev MS:=Ie->HB->Option (Fl×HB)
noncomputable abbrev MG:=D->Ie->HB->Option (Ie×HB)
noncomputable abbrev Oe:=List D->Ie->HB->Option (Ie×HB)
def Bh(K:Ac)(io:List Addr)(H:Hp)(st':HB)(d:D)(Q:VK):Prop:=∀ v H' ka,Ext io ka H H'->HN K H' (io++ka) st'->Rep K H' (io++ka) v d->Q v H'
inductive tE (K:Ac) (m:ME) (σ:L2.St) (H:Hp) (Q:VK):Prop
 | mk (ρ:Ie) (st:HB) (io:List Addr) (d:D) (st':HB) (h1:HQ K H io σ ρ) (h2:HN K H io st) (h3:m ρ st=some (d,st')) (h4:Bh K io H st' d Q)
inductive tT (K:Ac) (m:MT) (σ:L2.St) (H:Hp) (Q:Bool->Hp->Prop):Prop
 | mk (ρ:Ie) (st:HB) (io:List Addr) (b:Bool) (st':HB) (h1:HQ K H io σ ρ) (h2:HN K H io st) (h3:m ρ st=some (b,st')) (h4:∀ H' ka,Ext io ka H H'->HN K H' (io++ka) st'->Q b H')
inductive tA (K:Ac) (m:MA) (σ:L2.St) (H:Hp) (Q:List V->Hp->Prop):Prop
 | mk (ρ:Ie) (st:HB) (io:List Addr) (ds:List D) (st':HB) (h1:HQ K H io σ ρ) (h2:HN K H io st) (h3:m ρ st=some (ds,st')) (h4:∀ vs H' ka,Ext io ka H H'->HN K H' (io++ka) st'->HC K H' (io++ka) vs ds->Q vs H')
def tS(K:Ac)(m:MS):TS:=fun N σ H=>∃ ρ st io f st',HQ K H io σ ρ/\HN K H io st/\m ρ st=some (f,st') /\
 match f with
 | .nx ρ'=>∀ σ' H' ka,Ext io ka H H'->HN K H' (io++ka) st'->HQ K H' (io++ka) σ' ρ'->N.nx σ' H'
 | .bk ρ'=>∀ σ' H' ka,Ext io ka H H'->HN K H' (io++ka) st'->HQ K H' (io++ka) σ' ρ'->N.bk σ' H'
 | .ct ρ'=>∀ σ' H' ka,Ext io ka H H'->HN K H' (io++ka) st'->HQ K H' (io++ka) σ' ρ'->N.ct σ' H'
 | .rt d=>Bh K io H st' d N.rt
inductive tG (K:Ac) (m:MG) (v:V) (σ:L2.St) (H:Hp) (Q:L2.St->Hp->Prop):Prop
 | mk (d:D) (ρ:Ie) (st:HB) (io:List Addr) (ρ':Ie) (st':HB) (h0:Rep K H io v d) (h1:HQ K H io σ ρ) (h2:HN K H io st) (h3:m d ρ st=some (ρ',st')) (h4:∀ σ' H' ka,Ext io ka H H'->HN K H' (io++ka) st'->HQ K H' (io++ka) σ' ρ'->Q σ' H')
inductive tGs (K:Ac) (m:Oe) (vs:List V) (σ:L2.St) (H:Hp) (Q:L2.St->Hp->Prop):Prop
 | mk (ds:List D) (ρ:Ie) (st:HB) (io:List Addr) (ρ':Ie) (st':HB) (h0:HC K H io vs ds) (h1:HQ K H io σ ρ) (h2:HN K H io st) (h3:m ds ρ st=some (ρ',st')) (h4:∀ σ' H' ka,Ext io ka H H'->HN K H' (io++ka) st'->HQ K H' (io++ka) σ' ρ'->Q σ' H')
def SE(X:Cx)(e:Os)(m:ME):Prop:=PE X e<|tE X.K m
def SB(X:Cx)(e:Os)(m:MT):Prop:=PT X e<|tT X.K m
def SA(X:Cx)(es:List Os)(m:MA):Prop:=PA X es<|tA X.K m
def SS(X:Cx)(s:Wp)(m:MS):Prop:=PS X s<|tS X.K m
def KJ(X:Cx)(s:List Wp)(m:MS):Prop:=J1 X s<|tS X.K m
def SG(X:Cx)(e:Os)(m:MG):Prop:=PG X e<|tG X.K m
def UI(X:Cx)(e:List Os)(m:Oe):Prop:=Nn X e<|tGs X.K m
variable {σ:L2.St}{b:Bool}{pos:Pos}{t u:TT}{Q:VK}{op:CmpOp}{s1:HB}{rs:List Os}
section
variable {X:Cx} {e a b c:Os} {es:List Os} {st1 st2:Wp} {rest body orelse:List Wp} {m ma mb mc:ME} {mt mu:MT} {mm:MA} {ms mq mr:MS} {mg:MG} {mgs:Oe}
def PE.imp{t u:TE}(h:PE X e t)(k:∀ σ H Q,u σ H Q->t σ H Q):PE X e u:=fun qp s σ H Q I q=>h qp s σ H Q I<|k σ H Q q
def PT.imp(h:PT X e t)(k:∀ σ H Q,u σ H Q->t σ H Q):PT X e u:=fun qp s σ H Q I q=>h qp s σ H Q I<|k σ H Q q
def PA.imp{t u:TA}(h:PA X es t)(k:∀ σ H Q,u σ H Q->t σ H Q):PA X es u:=fun p qp s σ H Q I q=>h p qp s σ H Q I<|k σ H Q q
def PS.imp{t u:TS}(h:PS X st1 t)(k:∀ N σ H,u N σ H->t N σ H):PS X st1 u:=fun qp s σ H N I q=>h qp s σ H N I<|k N σ H q
def J1.imp{t u:TS}(h:J1 X rest t)(k:∀ N σ H,u N σ H->t N σ H):J1 X rest u:=fun qp s σ H N I q=>h qp s σ H N I<|k N σ H q
def PG.imp{t u:TG}(h:PG X e t)(k:∀ v σ H Q,u v σ H Q->t v σ H Q):PG X e u:=fun qp s σ H v w Q I r q=>h qp s σ H v w Q I r<|k v σ H Q q
def Nn.imp{t u:OI}(h:Nn X es t)(k:∀ v σ H Q,u v σ H Q->t v σ H Q):Nn X es u:=fun qp s σ H v w Q I r q=>h qp s σ H v w Q I r<|k v σ H Q q
def HK{α β:Type}{x:Option α}{f:α->Option β}{y:β}(h:x.bind f=some y):∃ z,x=some z/\f z=some y:=by
 cases x with
 | none=>cases h
 | some z=>exact⟨z,rfl,h⟩
def Bh.now(h:Bh K io H st d Q)(S:HN K H io st)(r:Rep K H io v d):Q v H:=h v H [] Ext.refl S.nil (by rw[Al];exact r)
def Bh.on(h:Bh K io H st' d Q)(S1:HN K H1 (io++ka) st)(E:Ext io ka H H1):Bh K (io++ka) H1 st' d Q:=fun v H' kb E' S' r =>
 h v H' (ka++kb) (E.trans S1 E') (by rw[<-Aq];exact S') (by rw[<-Aq];exact r)
def mV(i:Nat):ME:=fun ρ st=>match ρ[i]? with
 | some (some d)=>some (d,st)
 | _=>none
def HA(i:Nat){x:Str}(hN:X.N[i]?=some x:=by rfl)(hv:UH X.env.scope x:=by first | exact B0 rfl | exact BS (B0 rfl) | exact BS (BS rfl))(hd:(x==("__debug__":Str))=false:=by decide)
   (hcd:(x==("__classdict__":Str))=false:=by decide):SE X (.Name x pos) (mV i):=PE.imp (YN hN hv hd hcd) <| by
 rintro σ H Q ⟨ρ,st,io,d,st',E,S,e,k⟩;unfold mV at e
 split at e
 . rename_i d' he;cases e;obtain⟨v,hv,r⟩:=E.at_ i _ he;exact⟨v,hv,k.now S r⟩
 . cases e
def mK(d:D):ME:=fun _ st=>some (d,st)
def HI{i j pos}:SE X (.Constant (.int i) j pos) (mK<|.int i):=PE.imp kW <| by
 rintro σ H Q ⟨ρ,st,io,d,st',E,S,e,k⟩
 cases e;exact k.now S rfl
def Yv{b j pos}:SE X (.Constant (.bool b) j pos) (mK<|.bl b):=PE.imp fW <| by
 rintro σ H Q ⟨ρ,st,io,d,st',E,S,e,k⟩
 cases e;exact k.now S rfl
def I0{x j pos}:SE X (.Constant (.str x) j pos) (mK<|.str x):=PE.imp lB <| by
 rintro σ H Q ⟨ρ,st,io,d,st',E,S,e,k⟩
 cases e;exact k.now S rfl
def Ox{j pos}:SE X (.Constant .none j pos) (mK .non):=PE.imp kY <| by
 rintro σ H Q ⟨ρ,st,io,d,st',E,S,e,k⟩
 cases e;exact k.now S rfl
noncomputable abbrev G2:=D->D->HB->Option (D×HB)
inductive RG (K:Ac) (g:G2) (x y:V) (H:Hp) (Q:VK):Prop
 | mk (dx dy:D) (st:HB) (io:List Addr) (d:D) (st':HB) (h0:Rep K H io x dx) (h1:Rep K H io y dy) (h2:HN K H io st) (h3:g dx dy st=some (d,st')) (h4:Bh K io H st' d Q)
def IZ(X:Cx)(f:IR->IR->Sem IR)(g:G2):Prop:=JG X f<|RG X.K g
def mB(g:G2)(ma mb:ME):ME:=fun ρ st=>(ma ρ st).bind fun (x,s1)=>(mb ρ s1).bind fun (y,s2)=>g x y s2
def TY{g:G2}(h:tE K (mB g ma mb) σ H Q):RB (RG K g) (tE K ma) (tE K mb) σ H Q:=by obtain⟨ρ,st,io,d,st',E,S,e,k⟩:=h;obtain⟨⟨x,s1⟩,e1,e⟩:=HK e;obtain⟨⟨y,s2⟩,e2,e3⟩:=HK e;refine⟨ρ,st,io,x,s1,E,S,e1,fun v1 H1 k1 X1 S1 R1=>?_⟩;refine⟨ρ,s1,io++k1,y,s2,E.ext S X1,S1,e2,fun v2 H2 k2 X2 S2 R2=>?_⟩;exact⟨x,y,s2,(io++k1)++k2,d,st',R1.ext S1 X2,R2,S2,e3,(k.on S1 X1).on S2 X2⟩
def Im{op:Operator}{g:G2}(ho:IZ X (binaryOp op) g)(ha:SE X a ma)(hb:SE X b mb):SE X (.BinOp a op b pos) (mB g ma mb):=PE.imp (fY ho ha hb) fun _ _ _ h=>TY h
def Vd{g:G2}(ho:IZ X (Re op) g)(ha:SE X a ma)(hb:SE X b mb)(hm:behindInMarks op b=false):SE X (.Compare a [op] [b] pos) (mB g ma mb):=PE.imp (pK ho ha hb hm) fun _ _ _ h=>TY h
def mT(m:ME):MT:=fun ρ st=>(m ρ st).bind fun (x,s1)=>match x with
 | .bl b=>some (b,s1)
 | _=>none
def Tc{b:Bool}(e:mT m ρ st=some (b,st')):m ρ st=some (.bl b,st'):=by
 obtain⟨⟨x,s1⟩,e1,e⟩:=HK e;dsimp only at e
 split at e
 . cases e;exact e1
 . cases e
def Rh{Q:Bool->Hp->Prop}(h:tT K (mT m) σ H Q):tE K m σ H fun x H'=>∃ b,x=.bl b/\Q b H':=by obtain⟨ρ,st,io,b,st',E,S,e,k⟩:=h;exact⟨ρ,st,io,_,st',E,S,Tc e,fun v H' ka X' S' R'=>⟨b,R',k H' ka X' S'⟩⟩
def JE{g:G2}(ho:IZ X (Re op) g)(ha:SE X a ma)(hb:SE X b mb)(hm:behindInMarks op b=false):SB X (.Compare a [op] [b] pos) (mT<|mB g ma mb) :=
 PT.imp (oE ho ha hb hm) fun σ H Q h=>TY (Rh h)
def Qa(h:SE X a m)(he:∀ whole,isTrue a X.env whole=(do let v <-whole;standAt a.pos;holding [v] (truthy v)):=by intro _;rfl):SB X a (mT m) :=
 PT.imp (sG h he) fun σ H Q h=>by obtain⟨ρ,st,io,b,st',E,S,e,k⟩:=Rh h;refine⟨ρ,st,io,b,st',E,S,e,fun v H' ka X' S' R'=>?_⟩;obtain⟨c,hc,q⟩:=k v H' ka X' S' R';subst hc;exact⟨c,rfl,q⟩
def LL(m:MT):MT:=fun ρ st=>(m ρ st).map fun (b,s)=>(!b,s)
def Qi(h:SB X a mt):SB X (.UnaryOp .Not a pos) (LL mt):=PT.imp (jK h) <| by
 rintro σ H Q ⟨ρ,st,io,b,st',E,S,e,k⟩;unfold LL at e
 cases e1:mt ρ st with
 | none=>rw[e1] at e;cases e
 | some p=>rw[e1] at e;cases e;exact⟨ρ,st,io,_,_,E,S,e1,fun H' ka X' S'=>k H' ka X' S'⟩
def M6(m n:MT):MT:=fun ρ st=>(m ρ st).bind fun (b,s)=>if b=true then n ρ s else some (false,s)
def Kc(m n:MT):MT:=fun ρ st=>(m ρ st).bind fun (b,s)=>if b=true then some (true,s) else n ρ s
def SW(X:Cx)(e:Os)(m:MT):Prop:=PW X e<|tT X.K m
def PW.imp(h:PW X e t)(k:∀ σ H Q,u σ H Q->t σ H Q):PW X e u:=fun w qp s σ H Q I q=>h w qp s σ H Q I<|k σ H Q q
def SW.sb(h:SW X a mt):SB X a mt:=PW.pt h
def To(ha:SB X a mt):SW X (.BoolOp .And [a] pos) mt:=NW ha
def Tb(ha:SB X a mt):SW X (.BoolOp .Or [a] pos) mt:=Pw ha
def ZF{n:MT}{Q:Bool->Hp->Prop}{b:Bool}(E:HQ K H io σ ρ)(S:HN K H io st)(X1:Ext io ka H H1)(S1:HN K H1 (io++ka) s1)(e:n ρ s1=some (b,st'))(k:∀ H' ka,Ext io ka H H'->HN K H' (io++ka) st'->Q b H'):tT K n σ H1 Q :=
 ⟨ρ,s1,io++ka,b,st',E.ext S X1,S1,e,fun H' kb X' S'=>k H' (ka++kb) (X1.trans S1 X') (by rw[<-Aq];exact S')⟩
def Q0(ha:SB X a mt)(hb:SW X (.BoolOp .And (b::rs) pos) mu):SW X (.BoolOp .And (a::b::rs) pos) (M6 mt mu):=PW.imp (Px ha hb) <| by
 rintro σ H Q ⟨ρ,st,io,v,st',E,S,e,k⟩;obtain⟨⟨x,s1⟩,e1,e⟩:=HK e;refine⟨ρ,st,io,x,s1,E,S,e1,fun H1 k1 X1 S1=>?_⟩
 cases x with
 | true=>rw[if_pos rfl];exact ZF E S X1 S1 e k
 | false =>
   rw[if_neg (by decide)];have e':some (false,s1)=some (v,st'):=e;cases e';exact k H1 k1 X1 S1
def Qc(ha:SB X a mt)(hb:SW X (.BoolOp .Or (b::rs) pos) mu):SW X (.BoolOp .Or (a::b::rs) pos) (Kc mt mu):=PW.imp (RH ha hb) <| by
 rintro σ H Q ⟨ρ,st,io,v,st',E,S,e,k⟩;obtain⟨⟨x,s1⟩,e1,e⟩:=HK e;refine⟨ρ,st,io,x,s1,E,S,e1,fun H1 k1 X1 S1=>?_⟩
 cases x with
 | false=>rw[if_neg (by decide)];exact ZF E S X1 S1 e k
 | true =>
   rw[if_pos rfl];have e':some (true,s1)=some (v,st'):=e;cases e';exact k H1 k1 X1 S1
def LN(m n:ME):ME:=fun ρ st=>(mT m ρ st).bind fun (b,s)=>if b=true then n ρ s else some (.bl false,s)
def Sq(m:ME):ME:=fun ρ st=>(mT m ρ st).map fun (b,s)=>(.bl !b,s)
def Vi{n:ME}(E:HQ K H io σ ρ)(S:HN K H io st)(X1:Ext io ka H H1)(S1:HN K H1 (io++ka) s1)(e:n ρ s1=some (d,st'))(k:Bh K io H st' d Q):tE K n σ H1 Q :=
 ⟨ρ,s1,io++ka,d,st',E.ext S X1,S1,e,k.on S1 X1⟩
def TC(ha:SE X a ma):SE X (.BoolOp .And [a] pos) ma:=lA ha
def O1(ha:SE X a ma)(hb:SE X (.BoolOp .And (b::rs) pos) mb):SE X (.BoolOp .And (a::b::rs) pos) (LN ma mb):=PE.imp (kS ha hb) <| by
 rintro σ H Q ⟨ρ,st,io,v,st',E,S,e,k⟩;obtain⟨⟨x,s1⟩,e1,e⟩:=HK e;refine⟨ρ,st,io,.bl x,s1,E,S,Tc e1,fun v1 H1 k1 X1 S1 R1=>⟨x,R1,?_⟩⟩
 cases x with
 | true=>rw[if_pos rfl];exact Vi E S X1 S1 e k
 | false =>
   rw[if_neg (by decide)];have e':some (D.bl false,s1)=some (v,st'):=e;cases e';exact k _ H1 k1 X1 S1 rfl
def jW(ha:SE X a ma):SE X (.UnaryOp .Not a pos) (Sq ma):=PE.imp (kZ ha) <| by
 rintro σ H Q ⟨ρ,st,io,v,st',E,S,e,k⟩;unfold Sq at e
 cases e1:mT ma ρ st with
 | none=>rw[e1] at e;cases e
 | some p =>
   rw[e1] at e;cases e;exact⟨ρ,st,io,_,_,E,S,Tc e1,fun v1 H1 k1 X1 S1 R1=>⟨_,R1,k _ H1 k1 X1 S1 rfl⟩⟩
def MH(c:MT)(m n:ME):ME:=fun ρ st=>(c ρ st).bind fun (b,s)=>if b=true then m ρ s else n ρ s
def YI(hc:SB X c mt)(ha:SE X a ma)(hb:SE X b mb):SE X (.IfExp c a b pos) (MH mt ma mb):=PE.imp (rX hc ha hb) <| by
 rintro σ H Q ⟨ρ,st,io,v,st',E,S,e,k⟩;obtain⟨⟨x,s1⟩,e1,e⟩:=HK e;refine⟨ρ,st,io,x,s1,E,S,e1,fun H1 k1 X1 S1=>?_⟩
 cases x with
 | true=>rw[if_pos rfl];exact Vi E S X1 S1 e k
 | false=>rw[if_neg (by decide)];exact Vi E S X1 S1 e k
end
end L2.MP
set_option linter.unusedVariables false
namespace L2.MP
open PySem PySem.Spec PyProof.Rows
variable {X:Cx}{e a b c i o tg iter:Os}{es:List Os}{st1 st2:Wp}{rest body orelse:List Wp}{pos pos':Pos}{m ma mb mc:ME}{mt mu:MT}{mm:MA}{ms mq mr:MS}{mg:MG}{mgs:Oe}{K:Ac}{H H1 H2:Hp}{io ka kb:List Addr}{st st' s1:HB}{α:Type}{x:Str}{ds:List D}{vs:List V}{Q:VK}{p:Addr}{σ:L2.St}{T:String}{k n:Nat}{f:Fl}{fd:FuncData}{ρ:Ie}{N:Ends}
def mZ:MA:=fun _ st=>some ([],st)
def Hz(m:ME)(mm:MA):MA:=fun ρ st=>(m ρ st).bind fun (x,s1)=>(mm ρ s1).bind fun (xs,s2)=>some (x::xs,s2)
def HJ:SA X [] mZ:=PA.imp QT <| by
 rintro σ H Q ⟨ρ,st,io,ds,st',E,S,e,k⟩
 cases e;exact k [] H [] Ext.refl S.nil HC.nil
def HD(ha:SE X e m)(hr:SA X es mm)(hs:Qqb X.env e es:=by rfl):SA X (e::es) (Hz m mm):=PA.imp (Pd ha hr hs) <| by rintro σ H Q ⟨ρ,st,io,ds,st',E,S,e,k⟩;obtain⟨⟨x,s1⟩,e1,e⟩:=HK e;obtain⟨⟨xs,s2⟩,e2,e⟩:=HK e;cases e;refine⟨ρ,st,io,x,s1,E,S,e1,fun v1 H1 k1 X1 S1 R1=>⟨ρ,s1,io++k1,xs,_,E.ext S X1,S1,e2,fun vs H2 k2 X2 S2 R2=>?_⟩⟩;exact k _ H2 (k1++k2) (X1.trans S1 X2) (by rw[<-Aq];exact S2) (by rw[<-Aq];exact HC.cons (R1.ext S1 X2) R2)
def fits(n:Nat):Bool:=decide (n<=sizeLine)
def mU(mm:MA):ME:=fun ρ st=>(mm ρ st).bind fun (xs,s)=>if fits xs.length=true then some (.tup xs,s) else none
def mL(mm:MA):ME:=fun ρ st=>(mm ρ st).bind fun (xs,s)=>if fits xs.length=true then some (.ref s.length,s++[.lst xs]) else none
def IJ{c:Prop}[Decidable c]{x:Option α}{y:α}(h:(if c then x else none)=some y):c/\x=some y:=by
 by_cases hc:c
 . rw[if_pos hc] at h;exact⟨hc,h⟩
 rw[if_neg hc] at h;cases h
def Bh.tup{ds:List D}{vs:List V}{Q:VK}{p:Addr}(k:Bh K io H st (.tup ds) Q)(S:HN K H io st)(R:HC K H io vs ds)(hp:H p=none):Q (.ref p) (upd H p<|.tup vs):=by obtain⟨E,S'⟩:=Q3 (o:=.tup vs) S hp;refine k _ _ [] E S' ⟨p,vs,rfl,JP,R.ext S E⟩
def getElem?_len(l:List α)(x:α):(l++[x])[l.length]?=some x:=by rw[AV (Ag _),CN];rfl
def Bh.lst{ds:List D}{vs:List V}{Q:VK}{p:Addr}(k:Bh K io H (st++[.lst ds]) (.ref st.length) Q)(S:HN K H io st)(R:HC K H io vs ds)(hp:H p=none):Q (.ref p) (upd H p<|.lst vs):=by
 obtain⟨E,S'⟩:=O4 (o:=.lst vs) (ob:=.lst ds) S hp fun H' T e=>⟨vs,e,HC.mono T R⟩
 exact k _ _ [p] E S' ⟨p,rfl,by rw[<-S.len];exact getElem?_len io p⟩
def IH{x1}(h:SA X es mm):SE X (.Tuple es x1 pos) (mU mm):=PE.imp (lC h) <| by rintro σ H Q ⟨ρ,st,io,d,st',E,S,e,k⟩;obtain⟨⟨xs,s1⟩,e1,e⟩:=HK e;obtain⟨hf,e⟩:=IJ e;cases e;refine⟨ρ,st,io,xs,_,E,S,e1,fun vs H1 k1 X1 S1 R1=>⟨by rw[R1.length];exact of_decide_eq_true hf,fun p hp=>(k.on S1 X1).tup S1 R1 hp⟩⟩
def Kq(h:SA X es mm):SE X (.List es pos) (mL mm):=PE.imp (kX h) <| by rintro σ H Q ⟨ρ,st,io,d,st',E,S,e,k⟩;obtain⟨⟨xs,s1⟩,e1,e⟩:=HK e;obtain⟨hf,e⟩:=IJ e;cases e;refine⟨ρ,st,io,xs,_,E,S,e1,fun vs H1 k1 X1 S1 R1=>⟨by rw[R1.length];exact of_decide_eq_true hf,fun p hp=>(k.on S1 X1).lst S1 R1 hp⟩⟩
noncomputable abbrev GN:=List D->HB->Option (D×HB)
inductive dX (K:Ac) (g:GN) (xs:List V) (H:Hp) (Q:VK):Prop
 | mk (ds:List D) (st:HB) (io:List Addr) (d:D) (st':HB) (h1:HC K H io xs ds) (h2:HN K H io st) (h3:g ds st=some (d,st')) (h4:Bh K io H st' d Q)
def J4(X:Cx)(f:IR)(g:GN):Prop:=Mj X f<|dX X.K g
def HM(g:GN)(mm:MA):ME:=fun ρ st=>(mm ρ st).bind fun (xs,s)=>g xs s
def bM{g:GN}(h:tE K (HM g mm) σ H Q):Xe (dX K g) (tA K mm) σ H Q:=by obtain⟨ρ,st,io,d,st',E,S,e,k⟩:=h;obtain⟨⟨xs,s1⟩,e1,e⟩:=HK e;exact⟨ρ,st,io,xs,s1,E,S,e1,fun vs H1 k1 X1 S1 R1=>⟨xs,s1,io++k1,d,st',R1,S1,e,k.on S1 X1⟩⟩
def aB{p:Pos}{id:String}{g:GN}(hc:J4 X (.builtin id) g)(hg:Gl X x)(hm:X.mg x=none)(hv:UV x=some (.builtin id))(ha:SA X (e::es) mm)(hn:x≠"__name__":=by decide)(hdb:(x==("__debug__":Str))=false:=by decide)
   (he:Qqb X.env e es:=by rfl) (hpl:Qqc pos es X.env:=by rfl):SE X (.Call (.Name x p) (e::es) [] pos) (HM g mm) :=
 PE.imp (TV hc hg hm hv ha hn hdb he hpl) fun _ _ _ h=>bM h
def xD{p:Pos}{g:GN}(hc:J4 X (.type T) g)(hg:Gl X x)(hm:X.mg x=none)(hv:UV x=some (.type T))(ha:SA X (e::es) mm)(hn:x≠"__name__":=by decide)(hdb:(x==("__debug__":Str))=false:=by decide)
   (he:Qqb X.env e es:=by rfl) (hpl:Qqc pos es X.env:=by rfl):SE X (.Call (.Name x p) (e::es) [] pos) (HM g mm) :=
 PE.imp (aY hc hg hm hv ha hn hdb he hpl) fun _ _ _ h=>bM h
def Pr(K:Ac)(n:Nat)(g:GN):Sp:=fun vs H Q _=>∃ ds st io d st',vs.length=n/\HC K H io vs ds/\HN K H io st/\g ds st=some (d,st')/\Bh K io H st' d Q
def oQ{p:Pos}{f:Addr}{ps:List Str}{g:GN}(F:II X.prog X.w X.K X.mg X.base KL k f fd ps (Pr X.K n g))(hr:Ia k X.A)(hg:Gl X x)(hm:X.mg x=some (.ref f))(hk:BV X.K (.ref f)=true)(hb:Binds X.K fd ps [])
   (ha:SA X (e::es) mm) (hdb:(x==("__debug__":Str))=false:=by decide) (he:Qqb X.env e es:=by rfl) (hpl:Qqc pos es X.env:=by rfl) (hn:(e::es).length=n:=by rfl)
   (hl:∀ ρ st xs s,mm ρ st=some (xs,s)->xs.length=n) :
   SE X (.Call (.Name x p) (e::es) [] pos) (HM g mm):=PE.imp (Zs F hr hg hm hk hb .nil fV ha hdb he hpl) <| by
 rintro σ H Q ⟨ρ,st,io,d,st',E,S,e,k⟩;obtain⟨⟨xs,s1⟩,e1,e⟩:=HK e;refine⟨ρ,st,io,xs,s1,E,S,e1,fun vs H1 k1 X1 S1 R1=>⟨xs,s1,io++k1,d,st',?_,?_,S1,e,k.on S1 X1⟩⟩
 . rw[Al,R1.length];exact hl _ _ _ _ e1
 rw[Al];exact R1
def tH{xs:List D}{s:HB}(h:mZ ρ st=some (xs,s)):xs.length=0:=by cases h;rfl
def vU{ρ:Ie}{st:HB}{xs:List D}{s:HB}(hr:∀ ρ st xs s,mm ρ st=some (xs,s)->xs.length=n)(h:Hz m mm ρ st=some (xs,s)):xs.length=n+1:=by obtain⟨⟨x,s1⟩,e1,e⟩:=HK h;obtain⟨⟨ys,s2⟩,e2,e⟩:=HK e;cases e;rw[AC,hr _ _ _ _ e2]
def Wn(K:Ac)(io:List Addr)(H:Hp)(st':HB)(N:Ends):Fl->Prop
 | .nx ρ'=>∀ σ' H' ka,Ext io ka H H'->HN K H' (io++ka) st'->HQ K H' (io++ka) σ' ρ'->N.nx σ' H'
 | .bk ρ'=>∀ σ' H' ka,Ext io ka H H'->HN K H' (io++ka) st'->HQ K H' (io++ka) σ' ρ'->N.bk σ' H'
 | .ct ρ'=>∀ σ' H' ka,Ext io ka H H'->HN K H' (io++ka) st'->HQ K H' (io++ka) σ' ρ'->N.ct σ' H'
 | .rt d=>Bh K io H st' d N.rt
inductive tSi (K:Ac) (m:MS) (N:Ends) (σ:L2.St) (H:Hp):Prop
 | mk (ρ:Ie) (st:HB) (io:List Addr) (f:Fl) (st':HB) (h1:HQ K H io σ ρ) (h2:HN K H io st) (h3:m ρ st=some (f,st')) (h4:Wn K io H st' N f)
def Lf:tS K ms N σ H ↔ tSi K ms N σ H:=by
 constructor
 . rintro ⟨ρ,st,io,f,st',E,S,e,k⟩;exact⟨ρ,st,io,f,st',E,S,e,by cases f <;> exact k⟩
 rintro ⟨ρ,st,io,f,st',E,S,e,k⟩;exact⟨ρ,st,io,f,st',E,S,e,by cases f <;> exact k⟩
def Ou{P:L2.St->Hp->Prop}{ρ':Ie}(h:∀ σ' H' ka,Ext io ka H H'->HN K H' (io++ka) st'->HQ K H' (io++ka) σ' ρ'->P σ' H')(X1:Ext io ka H H1)(S1:HN K H1 (io++ka) st) :
   ∀ σ' H' kb,Ext (io++ka) kb H1 H'->HN K H' ((io++ka)++kb) st'->HQ K H' ((io++ka)++kb) σ' ρ'->P σ' H':=fun σ' H' kb E' S' R' =>
 h σ' H' (ka++kb) (X1.trans S1 E') (by rw[<-Aq];exact S') (by rw[<-Aq];exact R')
def Wn.on{N:Ends}{f:Fl}(h:Wn K io H st' N f)(X1:Ext io ka H H1)(S1:HN K H1 (io++ka) st):Wn K (io++ka) H1 st' N f:=by
 cases f with
 | nx ρ'=>exact Ou h X1 S1
 | bk ρ'=>exact Ou h X1 S1
 | ct ρ'=>exact Ou h X1 S1
 | rt d=>exact Bh.on h S1 X1
def M8(E:HQ K H io σ ρ)(S:HN K H io st)(e:ms ρ st=some (f,st'))(w:Wn K io H st' N f):tS K ms N σ H:=Lf.mpr ⟨ρ,st,io,f,st',E,S,e,w⟩
def U5(X1:Ext io ka H H1)(S1:HN K H1 (io++ka) s1)(E:HQ K H1 (io++ka) σ ρ)(e:ms ρ s1=some (f,st'))(w:Wn K io H st' N f):tS K ms N σ H1 :=
 M8 E S1 e (w.on X1 S1)
def Je:MS:=fun ρ st=>some (.nx ρ,st)
def Zm:KJ X [] Je:=J1.imp oC fun N σ H h=>by obtain⟨ρ,st,io,f,st',E,S,e,w⟩:=Lf.mp h;cases e;exact w σ H [] Ext.refl S.nil (by rw[Al];exact E)
def mS(m n:MS):MS:=fun ρ st=>(m ρ st).bind fun (f,s)=>match f with
 | .nx ρ1=>n ρ1 s
 | f=>some (f,s)
def uO(h1:SS X st1 ms)(h2:KJ X rest mq):KJ X (st1::rest) (mS ms mq):=J1.imp (ZI h1 h2) fun N σ H h=>by
 obtain⟨ρ,st,io,f,st',E,S,e,w⟩:=Lf.mp h;obtain⟨⟨f1,s1⟩,e1,e⟩:=HK e;refine M8 E S e1 ?_
 cases f1 with
 | nx ρ1=>exact fun σ' H' ka X' S' R'=>U5 X' S' R' e w
 | bk ρ1=>cases e;exact w
 | ct ρ1=>cases e;exact w
 | rt d=>cases e;exact w
def qU(h1:SS X st1 ms):KJ X [st1] ms:=Vy h1
def Jr(m:ME):MS:=fun ρ st=>(m ρ st).map fun (_,s)=>(.nx ρ,s)
def mR(m:ME):MS:=fun ρ st=>(m ρ st).map fun (d,s)=>(.rt d,s)
def Ip{β:Type}{x:Option α}{f:α->β}{y:β}(h:x.map f=some y):∃ z,x=some z/\f z=y:=by
 cases x with
 | none=>cases h
 | some z=>exact⟨z,rfl,Ap h⟩
def Ny(he:SE X e m)(hs:swapsWith e none pos.line X.env=pure false:=by rfl):SS X (.Expr e pos) (Jr m):=PS.imp (oA he hs) fun N σ H h=>by obtain⟨ρ,st,io,f,st',E,S,e,w⟩:=Lf.mp h;obtain⟨⟨d,s1⟩,e1,e⟩:=Ip e;cases e;exact⟨ρ,st,io,d,_,E,S,e1,fun v H' ka X' S' R'=>w σ H' ka X' S' (E.ext S X')⟩
def Jf(he:SE X e m):SS X (.Return (some e) pos) (mR m):=PS.imp (YE he) fun N σ H h=>by obtain⟨ρ,st,io,f,st',E,S,e,w⟩:=Lf.mp h;obtain⟨⟨d,s1⟩,e1,e⟩:=Ip e;cases e;exact⟨ρ,st,io,d,_,E,S,e1,w⟩
def IY(c:MT)(m n:MS):MS:=fun ρ st=>(c ρ st).bind fun (b,s)=>if b=true then m ρ s else n ρ s
def gO(hc:SB X c mt)(h1:KJ X body ms)(h2:KJ X orelse mq):SS X (.If c body orelse pos) (IY mt ms mq):=PS.imp (Yt hc h1 h2) fun N σ H h=>by
 obtain⟨ρ,st,io,f,st',E,S,e,w⟩:=Lf.mp h;obtain⟨⟨x,s1⟩,e1,e⟩:=HK e;refine⟨ρ,st,io,x,s1,E,S,e1,fun H1 k1 X1 S1=>?_⟩
 cases x with
 | true=>rw[if_pos rfl];exact U5 X1 S1 (E.ext S X1) e w
 | false=>rw[if_neg (by decide)];exact U5 X1 S1 (E.ext S X1) e w
def HG(i:Nat):MG:=fun d ρ st=>some (ρ.set i (some d),st)
def rQ{i:Nat}(hN:X.N.Nodup)(hi:X.N[i]?=some x)(hx:Loc X.env.scope x)(hf:X.fn x=true\/X.env.scope.names.lookup x=some .local:=by first | exact .inl rfl | exact .inr rfl | assumption):SG X (.Name x pos) (HG i) :=
 PG.imp (pN hN hi hx hf) <| by rintro v σ H Q ⟨d,ρ,st,io,ρ',st',R,E,S,e,k⟩;cases e;exact k _ H [] Ext.refl S.nil (by rw[Al];exact E.set i R)
def Jt:Oe:=fun ds ρ st=>match ds with
 | []=>some (ρ,st)
 | _=>none
def gC(g:MG)(h:Oe):Oe:=fun ds ρ st=>match ds with
 | d::r=>(g d ρ st).bind fun (ρ1,s1)=>h r ρ1 s1
 | []=>none
def Ms:UI X [] Jt:=Nn.imp pO <| by
 rintro v σ H Q ⟨ds,ρ,st,io,ρ',st',R,E,S,e,k⟩
 cases ds with
 | nil=>cases e;exact⟨R,k σ H [] Ext.refl S.nil (by rw[Al];exact E)⟩
 | cons d r=>cases e
def JO(h1:SG X e mg)(h2:UI X es mgs)(hs:(assignEach (e::es) X.env).map (·.2)=assign e X.env::(assignEach es X.env).map (·.2):=by rfl):UI X (e::es) (gC mg mgs) :=
 Nn.imp (rY h1 h2 hs) <| by
   rintro v σ H Q ⟨ds,ρ,st,io,ρ',st',R,E,S,e,k⟩
   cases ds with
   | nil=>cases e
   | cons d r =>
     obtain⟨y,ys,rfl,r1,rs⟩:=R;obtain⟨⟨ρ1,s1⟩,e1,e⟩:=HK e;refine⟨y,ys,rfl,d,ρ,st,io,ρ1,s1,r1,E,S,e1,fun σ1 H1 k1 X1 S1 E1=>?_⟩;exact⟨r,ρ1,s1,io++k1,ρ',st',rs.ext S X1,E1,S1,e,Ou k X1 S1⟩
def Js(n:Nat)(h:Oe):MG:=fun d ρ st=>match d with
 | .tup ds=>if ds.length=n then h ds ρ st else none
 | _=>none
def Mq(hc:X.calm=true)(h:UI X es mgs)(hn:(assignEach es X.env).length=n:=by rfl)(hst:(assignEach es X.env).findIdx? (·.1)=none:=by rfl):SG X (.Tuple es k pos) (Js n mgs) :=
 PG.imp (lE hc h hn hst) <| by
   rintro v σ H Q ⟨d,ρ,st,io,ρ',st',R,E,S,e,k⟩
   cases d with
   | tup ds =>
     obtain⟨a,xs,rfl,hq,rs⟩:=R;obtain⟨hl,e⟩:=IJ e;exact⟨a,xs,rfl,IQ.of hq,by rw[rs.length];exact hl,ds,ρ,st,io,ρ',st',rs,E,S,e,k⟩
   | _=>cases e
noncomputable abbrev G3:=D->D->D->HB->Option HB
inductive RA (K:Ac) (g:G3) (o i v:V) (H:Hp) (Q:Hp->Prop):Prop
 | mk (d1 d2 d3:D) (st:HB) (io:List Addr) (st':HB) (h0:Rep K H io o d1) (h1:Rep K H io i d2) (h2:Rep K H io v d3) (h3:HN K H io st) (h4:g d1 d2 d3 st=some st') (h5:∀ H' ka,Ext io ka H H'->HN K H' (io++ka) st'->Q H')
def Se(X:Cx)(g:G3):Prop:=PV X<|RA X.K g
def N6(g:G3)(mo mi:ME):MG:=fun d ρ st=>(mo ρ st).bind fun (o,s1)=>(mi ρ s1).bind fun (i,s2)=>(g o i d s2).map fun s3=>(ρ,s3)
def jY{mo mi:ME}{g:G3}(ho:SE X o mo)(hi:SE X i mi)(hs:Se X g)
   (ha:∀ v,assign (.Subscript o i pos) X.env v=(do
     let ov <-holding [v] (W1 o X.env)
     let iv <-holding [v,ov] (W1 i X.env)
     standAt pos
     holding [v,ov,iv] (setItem ov iv v)
     release [v,ov,iv] []):=by intro _;rfl):SG X (.Subscript o i pos) (N6 g mo mi) :=
 PG.imp (lD ho hi hs ha) <| by rintro v σ H Q ⟨d,ρ,st,io,ρ',st',R,E,S,e,k⟩;obtain⟨⟨x,s1⟩,e1,e⟩:=HK e;obtain⟨⟨y,s2⟩,e2,e⟩:=HK e;obtain⟨s3,e3,e⟩:=Ip e;cases e;refine⟨ρ,st,io,x,s1,E,S,e1,fun v1 H1 k1 X1 S1 R1=>⟨ρ,s1,io++k1,y,s2,E.ext S X1,S1,e2,fun v2 H2 k2 X2 S2 R2=>?_⟩⟩;have X12:=X1.trans S1 X2;refine⟨x,y,d,s2,(io++k1)++k2,_,R1.ext S1 X2,R2,(R.ext S X1).ext S1 X2,S2,e3,fun H3 k3 X3 S3=>?_⟩;rw[Aq] at X3 S2;rw[Aq,Aq] at S3;refine k σ H3 ((k1++k2)++k3) (X12.trans S2 X3) (by simpa using S3) ?_;have E2:HQ X.K H2 (io++(k1++k2)) σ ρ:=E.ext S X12;have:=E2.ext S2 X3;simpa using this
def HL(m:ME)(g:MG):MS:=fun ρ st=>(m ρ st).bind fun (d,s1)=>(g d ρ s1).map fun (ρ',s2)=>(.nx ρ',s2)
def wC(h:tS K (HL m mg) N σ H):Pq (tE K m) (tG K mg) N σ H:=by obtain⟨ρ,st,io,f,st',E,S,e,w⟩:=Lf.mp h;obtain⟨⟨x,s1⟩,e1,e⟩:=HK e;obtain⟨⟨ρ',s2⟩,e2,e⟩:=Ip e;cases e;exact⟨ρ,st,io,x,s1,E,S,e1,fun v1 H1 k1 X1 S1 R1=>⟨x,ρ,s1,io++k1,ρ',_,R1,E.ext S X1,S1,e2,Ou w X1 S1⟩⟩
def Vk(he:SE X e m)(hg:SG X tg mg)(hs:swapsWithSole [tg] e pos.line X.env=pure false:=by rfl)(hw:swappedStores [tg] e X.env=pure none:=by rfl)
   (h1:(assignEach [tg] X.env).map (·.2)=[assign tg X.env]:=by rfl):SS X (.Assign [tg] e pos) (HL m mg):=PS.imp (lH he hg hs hw h1) fun _ _ _ h=>wC h
def kI{i:Nat}(hN:X.N.Nodup)(hi:X.N[i]?=some x)(hx:Loc X.env.scope x)(he:SE X e m)(hs:swapsWith e (some<|.Name x pos') pos.line X.env=pure false:=by rfl)(hf:X.fn x=true\/X.env.scope.names.lookup x=some .local:=by first | exact .inl rfl | exact .inr rfl | assumption) :
   SS X (.Assign [.Name x pos'] e pos) (HL m<|HG i):=PS.imp (lK hN hi hx he hs hf) fun N σ H h=>by
 obtain⟨ρ,st,io,f,st',E,S,e,w⟩:=Lf.mp h;obtain⟨⟨x,s1⟩,e1,e⟩:=HK e;obtain⟨⟨ρ',s2⟩,e2,e⟩:=Ip e;cases e;cases e2;exact⟨ρ,st,io,x,_,E,S,e1,fun v1 H1 k1 X1 S1 R1=>w _ H1 k1 X1 S1 ((E.ext S X1).set i R1)⟩
structure Wk where
 ds:List D
 g:List (Nat×List D)
def stays(W:Wk)(st:HB):Prop:=∀ p,p∈W.g->st[p.1]?=some (.lst p.2)\/st[p.1]?=some (.fz p.2)
structure Lv(K:Ac)(H0:Hp)(io:List Addr)(W:Wk)(J:It):Prop where
 go:∀ i d H ka st,W.ds[i]?=some d->Ext io ka H0 H->HN K H (io++ka) st->stays W st->J.go i H/\∀ x H',J.yld i H x H'->Ext (io++ka) [] H H'/\HN K H' (io++ka) st/\Rep K H' (io++ka) x d
 stop:∀ H ka st,Ext io ka H0 H->HN K H (io++ka) st->stays W st->J.stop W.ds.length H
 stop':∀ H ka st i,W.ds.length<=i->Ext io ka H0 H->HN K H (io++ka) st->stays W st->J.stop i H
noncomputable abbrev MI:=Ie->HB->Option (Wk×HB)
inductive tI (K:Ac) (m:MI) (σ:L2.St) (H:Hp) (R:It->Hp->Prop):Prop
 | mk (ρ:Ie) (st:HB) (io:List Addr) (W:Wk) (st':HB) (h1:HQ K H io σ ρ) (h2:HN K H io st) (h3:m ρ st=some (W,st')) (h4:∀ J H' ka,Ext io ka H H'->HN K H' (io++ka) st'->Lv K H' (io++ka) W J->R J H')
def SI(X:Cx)(tg iter:Os)(m:MI):Prop:=PI X tg iter<|tI X.K m
def PI.imp{t u:TI}(h:PI X tg iter t)(k:∀ σ H R,u σ H R->t σ H R):PI X tg iter u:=fun qp s σ H R I q=>h qp s σ H R I<|k σ H R q
mutual
def D.eqb:D->D->Bool
 | .non,.non=>true
 | .bl a,.bl b=>a==b
 | .int a,.int b=>decide (a=b)
 | .str a,.str b=>decide (a=b)
 | .tup a,.tup b=>D.eqbs a b
 | .ref a,.ref b=>decide (a=b)
 | .kl a,.kl b=>D.eqbs a b
 | .fn a,.fn b=>decide (a=b)
 | .er a b c,.er a2 b2 c2=>decide (a=a2/\b=b2/\c=c2)
 | _,_=>false
def D.eqbs:List D->List D->Bool
 | [],[]=>true
 | a::as,b::bs=>D.eqb a b&&D.eqbs as bs
 | _,_=>false
end
mutual
theorem D.eqb_refl:∀ a:D,D.eqb a a=true
 | .non=>rfl
 | .bl a=>by simp[D.eqb]
 | .int a=>by simp[D.eqb]
 | .str a=>by simp[D.eqb]
 | .tup a=>by rw[D.eqb];exact D.eqbs_refl a
 | .ref a=>by simp[D.eqb]
 | .kl a=>by rw[D.eqb];exact D.eqbs_refl a
 | .fn a=>by simp[D.eqb]
 | .er a b c=>by simp[D.eqb]
theorem D.eqbs_refl:∀ a:List D,D.eqbs a a=true
 | []=>rfl
 | a::as=>by rw[D.eqbs,D.eqb_refl a,D.eqbs_refl as];rfl
end
mutual
theorem D.eq_of:∀ {a b:D},D.eqb a b=true->a=b
 | .non,b,h=>by cases b <;> simp[D.eqb] at h ⊢
 | .bl a,b,h=>by cases b <;> simp[D.eqb] at h ⊢;exact h
 | .int a,b,h=>by cases b <;> simp[D.eqb] at h ⊢;exact h
 | .str a,b,h=>by cases b <;> simp[D.eqb] at h ⊢;exact h
 | .tup a,.tup b,h=>by rw[D.eqb] at h;rw[D.eqs_of h]
 | .tup a,.non,h=>by simp[D.eqb] at h
 | .tup a,.bl _,h=>by simp[D.eqb] at h
 | .tup a,.int _,h=>by simp[D.eqb] at h
 | .tup a,.str _,h=>by simp[D.eqb] at h
 | .tup a,.ref _,h=>by simp[D.eqb] at h
 | .tup a,.kl _,h=>by simp[D.eqb] at h
 | .tup a,.fn _,h=>by simp[D.eqb] at h
 | .tup a,.er _ _ _,h=>by simp[D.eqb] at h
 | .kl a,.kl b,h=>by rw[D.eqb] at h;rw[D.eqs_of h]
 | .kl a,.non,h=>by simp[D.eqb] at h
 | .kl a,.bl _,h=>by simp[D.eqb] at h
 | .kl a,.int _,h=>by simp[D.eqb] at h
 | .kl a,.str _,h=>by simp[D.eqb] at h
 | .kl a,.ref _,h=>by simp[D.eqb] at h
 | .kl a,.tup _,h=>by simp[D.eqb] at h
 | .kl a,.fn _,h=>by simp[D.eqb] at h
 | .kl a,.er _ _ _,h=>by simp[D.eqb] at h
 | .fn a,b,h=>by cases b <;> simp[D.eqb] at h ⊢;exact h
 | .er a b c,d,h=>by cases d <;> simp[D.eqb] at h ⊢;exact h
 | .ref a,b,h=>by cases b <;> simp[D.eqb] at h ⊢;exact h
theorem D.eqs_of:∀ {a b:List D},D.eqbs a b=true->a=b
 | [],[],_=>rfl
 | [],_::_,h=>by simp[D.eqbs] at h
 | _::_,[],h=>by simp[D.eqbs] at h
 | a::as,b::bs,h=>by rw[D.eqbs,Ar] at h;rw[D.eq_of h.1,D.eqs_of h.2]
end
noncomputable instance:DecidableEq D:=fun a b=>if h:D.eqb a b=true then .isTrue (D.eq_of h) else .isFalse fun e=>h (by rw[e];exact D.eqb_refl b)
def QX(st:HB)(n:Nat)(ds:List D):Bool:=match st[n]? with
 | some (.lst xs)=>D.eqbs xs ds
 | some (.fz xs)=>D.eqbs xs ds
 | _=>false
def vN(h:QX st n ds=true):st[n]?=some (.lst ds)\/st[n]?=some (.fz ds):=by
 unfold QX at h
 split at h
 . rename_i xs e;rw[D.eqs_of h] at e;exact .inl e
 . rename_i xs e;rw[D.eqs_of h] at e;exact .inr e
 . cases h
def bO(h:st[n]?=some (.lst ds)):QX st n ds=true:=by unfold QX;rw[h];exact D.eqbs_refl ds
variable {mi:MI}{W:Wk}
def walked(W:Wk)(st:HB):Bool:=W.g.all fun p=>QX st p.1 p.2
def OB(h:walked W st=true):stays W st:=fun p hp=>vN<|List.all_eq_true.mp h p hp
def J5(W:Wk)(g:MG)(m:MS):List D->Ie->HB->Option (Fl×HB)
 | [],ρ,st=>if walked W st=true then some (.nx ρ,st) else none
 | d::ds,ρ,st=>if walked W st=true then (g d ρ st).bind fun (ρ1,s1)=>(m ρ1 s1).bind fun (f,s2)=>match f with
   | .nx ρ2=>J5 W g m ds ρ2 s2
   | .ct ρ2=>J5 W g m ds ρ2 s2
   | .bk ρ2=>some (.nx ρ2,s2)
   | .rt d=>some (.rt d,s2) else none
def mF(mi:MI)(g:MG)(m:MS):MS:=fun ρ st=>(mi ρ st).bind fun (W,s)=>J5 W g m W.ds ρ s
def kH(hp:PassesOwn (KB X.prog X.w) X.A X.env X.xe)(hc:X.calm=true)(hi:SI X tg iter mi)(hg:SG X tg mg)(hb:KJ X body ms)
   (hs:∀ x,foldedSetIterable iter X.env x=pure x:=by intro _;rfl):SS X (.For tg iter body [] pos) (mF mi mg ms):=PS.imp (YD hp hc hi hg hb hs) fun N σ H h=>by
 obtain⟨ρ,st,io,f,st',E,S,e,w⟩:=Lf.mp h;obtain⟨⟨W,s1⟩,e1,e⟩:=HK e;refine⟨ρ,st,io,W,s1,E,S,e1,fun J H1 k1 X1 S1 IO=>?_⟩;refine⟨fun i n σ2 H2=>n=W.ds.length - i/\∃ ρ2 s2 k2,Ext (io++k1) k2 H1 H2/\HN X.K H2 ((io++k1)++k2) s2/\HQ X.K H2 ((io++k1)++k2) σ2 ρ2/\J5 W mg ms (W.ds.drop i) ρ2 s2=some (f,st'),
   ⟨_,rfl,ρ,s1,[],Ext.refl,by rw[Al];exact S1,by rw[Al];exact E.ext S X1,by rw[Fg];exact e⟩,?_⟩
 rintro i n σ2 H2 ⟨rfl,ρ2,s2,k2,X2,S2,E2,e2⟩;have w2:Wn X.K ((io++k1)++k2) H2 st' N f:=(w.on X1 S1).on X2 S2
 cases hd:W.ds[i]? with
 | none =>
   have hl:W.ds.length<=i:=List.getElem?_eq_none_iff.mp hd;rw[Dw hl] at e2;obtain⟨hw,e2⟩:=IJ e2;cases e2;refine .inl ⟨?_,w2 σ2 H2 [] Ext.refl S2.nil (by rw[Al];exact E2)⟩
   -- the end may lie behind
   by_cases hi:i=W.ds.length
   . rw[hi];exact IO.stop H2 k2 _ X2 S2 (OB hw)
   exact IO.stop' H2 k2 _ i hl X2 S2 (OB hw)
 | some d =>
   have hl:i < W.ds.length:=(KF.mp hd).1;have hdr:W.ds.drop i=d::W.ds.drop (i+1):=by rw[C7 hl,(KF.mp hd).2]
   rw[hdr] at e2;obtain⟨hw,e2⟩:=IJ e2;obtain⟨⟨ρ3,s3⟩,e3,e2⟩:=HK e2;obtain⟨⟨f4,s4⟩,e4,e2⟩:=HK e2;obtain⟨go,yl⟩:=IO.go i d H2 k2 s2 hd X2 S2 (OB hw);refine .inr ⟨go,fun σ5 H5=>∃ ρ5 s5 k5,Ext (io++k1) k5 H1 H5/\HN X.K H5 ((io++k1)++k5) s5/\HQ X.K H5 ((io++k1)++k5) σ5 ρ5/\J5 W mg ms (W.ds.drop (i+1)) ρ5 s5=some (f,st'),
     fun σ5 H5 h5=>⟨W.ds.length - (i+1),by omega,rfl,h5⟩,fun x H' y=>?_⟩
   obtain⟨X3,S3,R3⟩:=yl x H' y;have X23:Ext (io++k1) k2 H1 H':=(X2.trans S2 X3).app;refine⟨d,ρ2,s2,(io++k1)++k2,ρ3,s3,R3,?_,S3,e3,fun σ6 H6 k6 X6 S6 E6=>?_⟩
   . have:=E2.ext S2 X3;rw[Al] at this;exact this
   . refine M8 E6 S6 e4 ?_;have X26:=X23.trans S3 X6;have S6':HN X.K H6 ((io++k1)++(k2++k6)) s3:=by rw[<-Aq];exact S6
     have fin:∀ {ρ7:Ie},J5 W mg ms (W.ds.drop (i+1)) ρ7 s4=some (f,st')->∀ σ7 H7 k7,Ext ((io++k1)++k2++k6) k7 H6 H7->HN X.K H7 ((io++k1)++k2++k6++k7) s4->HQ X.K H7 ((io++k1)++k2++k6++k7) σ7 ρ7 ->
         ∃ ρ5 s5 k5,Ext (io++k1) k5 H1 H7/\HN X.K H7 ((io++k1)++k5) s5/\HQ X.K H7 ((io++k1)++k5) σ7 ρ5/\J5 W mg ms (W.ds.drop (i+1)) ρ5 s5=some (f,st'):=by
       intro ρ7 e7 σ7 H7 k7 X7 S7 E7;rw[Aq (io++k1)] at X7;rw[Aq (io++k1),Aq (io++k1)] at S7 E7;exact⟨ρ7,s4,(k2++k6)++k7,X26.trans S6' X7,S7,E7,e7⟩
     cases f4 with
     | nx ρ7=>exact fin e2
     | ct ρ7=>exact fin e2
     | bk ρ7 =>
       cases e2;exact ((w.on X1 S1).on X23 S3).on X6 S6
     | rt dd =>
       cases e2;exact ((w.on X1 S1).on X23 S3).on X6 S6
variable {xs:List V}{l:Os}{d:D}
def TQ{x:D}{xs:List D}{s s2:HB}(h1:m ρ s=some (x,s1))(h2:mm ρ s1=some (xs,s2)):Hz m mm ρ s=some (x::xs,s2):=by unfold Hz;rw[h1];show Hr (mm ρ s1) _=_;rw[h2];rfl
def Ik(st:HB)(n:Nat):Option (List D):=match st[n]? with
 | some (.lst ds)=>some ds
 | some (.fz ds)=>some ds
 | _=>none
def Ky(S:HN K H io st)(hn:io[n]?=some p)(h:Ik st n=some ds):∃ xs,JB K H p xs/\HC K H io xs ds:=by
 unfold Ik at h
 split at h
 . rename_i o he;cases h;obtain⟨xs,e,r⟩:=S.ob n p _ hn he;exact⟨xs,JB.of e,r⟩
 . rename_i o he;cases h;obtain⟨ob,xs,e,r⟩:=S.ob n p _ hn he;exact⟨xs,.inl<|.inr ⟨ob,e⟩,r⟩
 . cases h
def WG(hm:(n,ds)∈W.g)(h:stays W st):Ik st n=some ds:=by
 unfold Ik
 rcases h _ hm with h | h
 . have h:st[n]?=some (.lst ds):=h;rw[h]
 have h:st[n]?=some (.fz ds):=h;rw[h]
def eB(m:ME):MI:=fun ρ st=>(m ρ st).bind fun (d,s)=>match d with
 | .ref n=>(Ik s n).map fun ds=>(⟨ds,[(n,ds)]⟩,s)
 | _=>none
def dY(m:ME):MI:=fun ρ st=>(m ρ st).bind fun (d,s)=>match d with
 | .tup ds=>some (⟨ds,[]⟩,s)
 | _=>none
def Nz(h:io[n]?=some p):(io++ka)[n]?=some p:=by rw[Ai (KF.mp h).1];exact h
def iH(hn:io[n]?=some p):Lv K H io ⟨ds,[(n,ds)]⟩ (XZ K p) where
 go:=fun i d H1 k1 s hd X1 S1 hs=>by obtain⟨xs,hx,r⟩:=Ky S1 (Nz hn)<|WG Ao hs;obtain⟨v,hv,rv⟩:=r.get hd;refine⟨⟨xs,v,hx,hv⟩,fun x H' y=>?_⟩;obtain⟨rfl,y⟩:=y;have e:=y xs hx;rw[hv] at e;cases e;exact⟨Ext.refl,S1,rv⟩
 stop:=fun H1 k1 s X1 S1 hs=>by obtain⟨xs,hx,r⟩:=Ky S1 (Nz hn)<|WG Ao hs;exact⟨xs,hx,by rw[r.length];exact Ag _⟩
 stop':=fun H1 k1 s i hi X1 S1 hs=>by obtain⟨xs,hx,r⟩:=Ky S1 (Nz hn)<|WG Ao hs;exact⟨xs,hx,by rw[r.length];exact hi⟩
def rS(hl:SE X l m):SI X tg l (eB m):=PI.imp (pQ hl) <| by
 rintro σ H R ⟨ρ,st,io,W,st',E,S,e,k⟩;obtain⟨⟨d,s1⟩,e1,e⟩:=HK e;dsimp only at e
 split at e
 . rename_i n;obtain⟨ds,e2,e⟩:=Ip e;cases e;refine⟨ρ,st,io,_,_,E,S,e1,fun v H1 k1 X1 S1 R1=>?_⟩;obtain⟨p,rfl,hn⟩:=R1;obtain⟨xs,hx,r⟩:=Ky S1 hn e2;exact⟨p,rfl,⟨xs,hx⟩,k _ H1 k1 X1 S1<|iH hn⟩
 . cases e
def iJ(S:HN K H io st)(hp:H p=some (.tup xs))(r:HC K H io xs ds):Lv K H io ⟨ds,[]⟩ (XY K p) where
 go:=fun i d H1 k1 s hd X1 S1 hs=>by obtain⟨v,hv,rv⟩:=(r.ext S X1).get hd;have hx:IQ K H1 p xs:=IQ.of<|X1.sqT S p xs hp;refine⟨⟨xs,v,hx,hv⟩,fun x H' y=>?_⟩;obtain⟨rfl,y⟩:=y;have e:=y xs hx;rw[hv] at e;cases e;exact⟨Ext.refl,S1,rv⟩
 stop:=fun H1 k1 s X1 S1 hs=>⟨xs,IQ.of<|X1.sqT S p xs hp,by rw[r.length];exact Ag _⟩
 stop':=fun H1 k1 s i hi X1 S1 hs=>⟨xs,IQ.of<|X1.sqT S p xs hp,by rw[r.length];exact hi⟩
def kA(hl:SE X l m):SI X tg l (dY m):=PI.imp (lG hl) <| by
 rintro σ H R ⟨ρ,st,io,W,st',E,S,e,k⟩;obtain⟨⟨d,s1⟩,e1,e⟩:=HK e;dsimp only at e
 split at e
 . rename_i ds;cases e;refine⟨ρ,st,io,_,_,E,S,e1,fun v H1 k1 X1 S1 R1=>?_⟩;obtain⟨p,xs,rfl,hp,r⟩:=R1;exact⟨p,rfl,⟨xs,IQ.of hp⟩,k _ H1 k1 X1 S1<|iJ S1 hp r⟩
 . cases e
def run(lo:Int)(n:Nat):List D:=(Bo n).map fun (k:Nat)=>D.int<|lo+(k:Int)
def KP(lo:Int)(n:Nat):(run lo n).length=n:=by unfold run;rw[Af,Dr]
def run_get{lo:Int}{i:Nat}(h:(run lo n)[i]?=some d):i < n/\d=.int (lo+(i:Int)):=by
 have hi:i < n:=by
   have q:=(KF.mp h).1
   rwa [KP] at q
 unfold run at h;rw[AD,C1 hi] at h;exact⟨hi,(Ap h).symm⟩
def iI(lo:Int)(n:Nat):Lv K H io ⟨run lo n,[]⟩ (UL lo n) where
 go:=fun i d H1 k1 s hd X1 S1 hs=>by obtain⟨hi,rfl⟩:=run_get hd;refine⟨hi,fun x H' y=>?_⟩;obtain⟨rfl,rfl⟩:=y;exact⟨Ext.refl,S1,rfl⟩
 stop:=fun H1 k1 s X1 S1 hs=>by show n<=_;rw[KP];exact Ag _
 stop':=fun H1 k1 s i hi X1 S1 hs=>by
   show n<=i;have hi:(run lo n).length<=i:=hi
   rwa [KP] at hi
def small(j:Int):Bool:=decide (-(2 ^ 62)<=j)&&decide (j < 2 ^ 62)
def VX{j:Int}(h:small j=true):-(2 ^ 62)<=j/\j < 2 ^ 62:=by unfold small at h;rw[Ar] at h;exact⟨of_decide_eq_true h.1,of_decide_eq_true h.2⟩
def JF(m:ME):MI:=fun ρ st=>(m ρ st).bind fun (d,s)=>match d with
 | .int j=>if small j=true then some (⟨run 0 j.toNat,[]⟩,s) else none
 | _=>none
def Mt{p:Pos}(hg:Gl X "range")(hm:X.mg "range"=none)(ha:SE X a m)(hs:P3 [a] X.env=[(false,W1 a X.env)]:=by rfl):SI X tg (.Call (.Name "range" p) [a] [] pos) (JF m) :=
 PI.imp (yB hg hm (HD ha HJ hs) hs) <| by
   rintro σ H R ⟨ρ,st,io,W,st',E,S,e,k⟩;obtain⟨⟨d,s1⟩,e1,e⟩:=HK e;dsimp only at e
   split at e
   . rename_i j;obtain⟨hj,e⟩:=IJ e;cases e;refine⟨ρ,st,io,[.int j],_,E,S,(TQ e1 rfl),fun vs H1 k1 X1 S1 R1=>?_⟩;obtain⟨v,rfl,rfl⟩:=R1.one;exact⟨j,rfl,(VX hj).1,(VX hj).2,k _ H1 k1 X1 S1<|iI 0 _⟩
   . cases e
def NT(n:Nat)(ds:List D):Ie:=ds.map some++BD (n - ds.length) none
def Jc(n:Nat)(m:MS):GN:=fun ds st=>(m (NT n ds) st).bind fun (f,s)=>match f with
 | .rt d=>some (d,s)
 | .nx _=>some (.non,s)
 | _=>none
def Z5{N:List Str}(R:HC K H io vs ds):HQ K H io (start N vs) (NT N.length ds):=by
 have hl:=R.length;refine⟨by unfold start NT;simp[hl],fun i d h=>?_⟩;unfold NT at h;unfold start
 by_cases hi:i < ds.length
 . rw[Ai (by simpa using hi),AD] at h
   cases e:ds[i]? with
   | none=>rw[e] at h;cases h
   | some d' =>
     rw[e] at h
     cases (Ap<|Ap h)
     obtain⟨v,hv,r⟩:=R.get e;exact⟨v,by rw[Ai (by simpa[hl] using hi),AD,hv];rfl,r⟩
 . rw[AV (by simpa using hi),Cw] at h
   split at h <;> cases h
variable {w:UF}
section
variable {P:Pv} {mg:Str->Option IR} {base:KM}
def R8{qual:Str}{st:Wp}{f:Addr}{N ps:List Str}{m:MS}(F:LJ K x qual st f fd)(S:Iy N ps (IL st))
   (hbody:∀ (cdv:IR) (A:Around) (outer:List Env) (s:Shared) (H:Hp) (E:XK),Ia k (A.deeper<|envOfC qual (IL st) s.heap.objs.size f cdv) ->
     KJ (Ic KL P w K mg base N qual (IL st) f cdv A outer s H E).nox (Ki st) m):II P w K mg base KL (k+1) f fd ps (Pr K ps.length<|Jc N.length m):=by
 refine F.ok S (fun vs H Q E ⟨_,_,_,_,_,h,_⟩=>h) fun cdv A outer s H vs Q E hr h=>?_;obtain⟨ds,st0,io,d,st',hl,R,SR,e,k'⟩:=h;refine⟨_,hbody cdv A outer s H E hr,?_⟩;obtain⟨⟨fl,s1⟩,e1,e⟩:=HK e;refine M8 (Z5 R) SR e1 ?_
 cases fl with
 | rt dd=>cases e;exact k'
 | nx ρ=>cases e;exact fun σ' H' ka X' S' E'=>k' .non H' ka X' S' rfl
 | bk ρ=>cases e
 | ct ρ=>cases e
end
def JU(cells:List (Str×Addr)):List (Str×NameKind)->List (Str×Addr)->List (Str×Addr)
 | [],acc=>acc
 | (n,k)::r,acc=>if k==.free then JU cells r ((n,(cells.lookup n).getD 0)::acc) else JU cells r acc
variable {env:Env}
def Wt{env:Env}(f:Str×NameKind->List (Str×Addr)->Sem (ForInStep<|List<|Str×Addr))
   (hf:∀ n k acc,f (n,k) acc=if k==.free then (do let c <-cellOf env n;pure (.yield ((n,c)::acc))) else pure (.yield acc)) :
   ∀ (names:List (Str×NameKind)) (acc:List (Str×Addr)),(∀ n,(n,AJ)∈names->∃ c,env.cells.lookup n=some c)->(forIn names acc f:Sem (List<|Str×Addr))=pure (JU env.cells names acc)
 | [],acc,_=>by rw[Dm];rfl
 | (n,k)::r,acc,h=>by
   rw[EN,hf];unfold JU
   cases hk:k==AJ with
   | false =>
     rw[if_neg (by simp),if_neg (by simp)];have:=Wt f hf r acc fun m hm=>h m<|Ak _ hm;rw[<-this];rfl
   | true =>
     rw[if_pos rfl,if_pos rfl];have hk':k=AJ:=by simpa using hk
     obtain⟨c,hc⟩:=h n (by rw[hk'];exact Ao);have:=Wt f hf r ((n,c)::acc) fun m hm=>h m<|Ak _ hm;rw[hc,DA,<-this];unfold cellOf;rw[hc];rfl
variable {scope:Scope}
def zD(h:∀ n,(n,AJ)∈scope.names->∃ c,env.cells.lookup n=some c):closureFor scope env=pure (JU env.cells scope.names []):=by unfold closureFor;have:=Wt (env:=env) (fun x acc=>(match x with | (n,k)=>if k==.free then (do let c <-cellOf env n;pure (.yield ((n,c)::acc))) else pure (.yield acc))) (fun _ _ _=>rfl) scope.names [] h;refine Eq.trans ?_ this;simp only[bind_pure]
variable {cells:List (Str×Addr)}
def VN{cells:List (Str×Addr)}:∀ {names:List (Str×NameKind)} {acc:List (Str×Addr)} {p:Str×Addr},p∈JU cells names acc->p∈acc\/((p.1,AJ)∈names/\p.2=(cells.lookup p.1).getD 0)
 | [],acc,p,h=>.inl h
 | (n,k)::r,acc,p,h=>by
   unfold JU at h
   cases hk:k==AJ with
   | false =>
     rw[hk,if_neg (by simp)] at h
     rcases VN h with h | h
     . exact .inl h
     exact .inr ⟨Ak _ h.1,h.2⟩
   | true =>
     rw[hk,if_pos rfl] at h;have hk':k=AJ:=by simpa using hk
     rcases VN h with h | h
     . rcases M2.mp h with h | h
       . subst h;exact .inr ⟨by rw[hk'];exact Ao,rfl⟩
       exact .inl h
     exact .inr ⟨Ak _ h.1,h.2⟩
def TM{cells:List (Str×Addr)}:∀ {names:List (Str×NameKind)} {acc:List (Str×Addr)} {x:Str},((x,AJ)∈names\/(acc.lookup x).isSome=true)->((JU cells names acc).lookup x).isSome=true
 | [],acc,x,h=>by
   rcases h with h | h
   . exact absurd h<|by simp
   exact h
 | (n,k)::r,acc,x,h=>by
   unfold JU
   cases hk:k==AJ with
   | false =>
     rw[if_neg (by simp)];refine TM ?_
     rcases h with h | h
     . rcases M2.mp h with h | h
       . have:k=AJ:=(Bi h).2.symm;rw[this] at hk;exact absurd hk<|by decide
       exact .inl h
     exact .inr h
   | true =>
     rw[if_pos rfl];refine TM ?_
     by_cases hx:x=n
     . subst hx;exact .inr<|by simp
     . rcases h with h | h
       . rcases M2.mp h with h | h
         . exact absurd (Bi h).1 hx
         exact .inl h
       . refine .inr ?_;rw[Bj];have:(x==n)=false:=by simpa using hx
         rw[this];exact h
def Wf:∀ {names:List (Str×NameKind)} {n:Nat} {acc:List (Str×Addr)} {p:Str×Addr},p∈cellsFrom n names acc->p∈acc\/n<=p.2
 | [],_,_,_,h=>.inl h
 | (x,k)::r,n,acc,p,h=>by
   unfold cellsFrom at h
   split at h
   . rcases Wf h with h | h
     . rcases M2.mp h with h | h
       . subst h;exact .inr<|Ag _
       exact .inl h
     exact .inr<|Cj h
   exact Wf h
def Wq:∀ {names:List (Str×NameKind)} {n:Nat} {acc:List (Str×Addr)},(acc.Pairwise fun x y=>x.2≠y.2)->(∀ p∈acc,p.2 < n)->(cellsFrom n names acc).Pairwise fun x y=>x.2≠y.2
 | [],_,_,h,_=>h
 | (x,k)::r,n,acc,h,hl=>by
   unfold cellsFrom
   split
   . refine Wq (List.pairwise_cons.mpr ⟨fun y hy e=>?_,h⟩) fun p hp=>?_
     . have q:=hl y hy;have e':n=y.2:=e;rw[<-e'] at q;exact AZ _ q
     . rcases M2.mp hp with rfl | hp
       . exact DB _
       exact Ck<|hl p hp
   exact Wq h hl
def Vx:∀ {names:List (Str×NameKind)} {n:Nat} {acc:List (Str×Addr)} {x:Str},((x,A5)∈names\/(acc.lookup x).isSome=true)->((cellsFrom n names acc).lookup x).isSome=true
 | [],n,acc,x,h=>by
   rcases h with h | h
   . exact absurd h<|by simp
   exact h
 | (m,k)::r,n,acc,x,h=>by
   unfold cellsFrom
   cases hk:k==A5 with
   | false =>
     rw[if_neg (by simp)];refine Vx ?_
     rcases h with h | h
     . rcases M2.mp h with h | h
       . have:k=A5:=(Bi h).2.symm;rw[this] at hk;exact absurd hk<|by decide
       exact .inl h
     exact .inr h
   | true =>
     rw[if_pos rfl];refine Vx ?_
     by_cases hx:x=m
     . subst hx;exact .inr<|by simp
     . rcases h with h | h
       . rcases M2.mp h with h | h
         . exact absurd (Bi h).1 hx
         exact .inl h
       . refine .inr ?_;rw[Bj];have:(x==m)=false:=by simpa using hx
         rw[this];exact h
def TR:∀ {names:List (Str×NameKind)} {n:Nat} {acc:List (Str×Addr)} {x:Str},(x,A5) ∉ names->(cellsFrom n names acc).lookup x=acc.lookup x
 | [],_,_,_,_=>rfl
 | (m,k)::r,n,acc,x,h=>by
   unfold cellsFrom
   cases hk:k==A5 with
   | false=>rw[if_neg (by simp)];exact TR fun q=>h (Ak _ q)
   | true =>
     rw[if_pos rfl,TR fun q=>h (Ak _ q),Bj];have hk':k=A5:=by simpa using hk
     have:(x==m)=false:=by
       cases e:x==m with
       | false=>rfl
       | true=>exact absurd (by rw[hk',show x=m by simpa using e];exact Ao) h
     rw[this]
def Vw:∀ {names:List (Str×NameKind)} {n:Nat} {acc:List (Str×Addr)} {x:Str} {c:Addr},(x,A5)∈names->(cellsFrom n names acc).lookup x=some c->n<=c
 | [],_,_,_,_,h,_=>absurd h<|by simp
 | (m,k)::r,n,acc,x,c,h,e=>by
   unfold cellsFrom at e
   cases hk:k==A5 with
   | false =>
     rw[hk,if_neg (by simp)] at e
     rcases M2.mp h with h | h
     . have:k=A5:=(Bi h).2.symm;rw[this] at hk;exact absurd hk<|by decide
     exact Vw h e
   | true =>
     rw[hk,if_pos rfl] at e
     by_cases hr:(x,A5)∈r
     . exact Cj<|Vw hr e
     . rw[TR hr] at e
       rcases M2.mp h with h | h
       . have hx:x=m:=(Bi h).1;subst hx;rw[List.lookup_cons_self] at e;exact Eu<|Ap e
       exact absurd h hr
def Wi:∀ {names:List (Str×NameKind)} {h:KM} {acc:List (Str×Addr)} {p:Str×Addr},p∈cellsFrom h.objs.size names acc->p∈acc\/(pushCells h names).IsCell p.2 none
 | [],_,_,_,h=>.inl h
 | (x,k)::r,h,acc,p,e=>by
   unfold cellsFrom at e;unfold pushCells
   split at e
   . rename_i hk;rw[if_pos hk];have sz:(h.push { cls:=.type "cell",data:=.cell none }).objs.size=h.objs.size+1:=Bl ..;rw[<-sz] at e
     rcases Wi e with q | q
     . rcases M2.mp q with q | q
       . subst q;exact .inr ⟨_,DH _ _ _ _<|Am _ rfl,rfl⟩
       exact .inl q
     exact .inr q
   rename_i hk;rw[if_neg hk];exact Wi e
def LB(X:Cx)(scope:Scope)(N':List Str)(cells:List (Str×Addr))(C:Addr)(s0:Shared)(H0:Hp)(ex:List Addr):Cx :=
 { X with N:=N',s₀:=s0,H₀:=H0,env:=compEnvC scope cells C X.env,outer:=X.stack,ex:=ex,fn:=fun x=>scope.names.any fun p=>p.1==x&&p.2==.cell,pn:=[],xe:=fun _ _=>False }
structure JD(X:Cx)(scope:Scope)(N':List Str)(nt:Nat)(fr:List Nat):Prop where
 kind:scope.kind=.function
 nd:(scope.names.map (·.1)).Nodup
 len:N'.length=nt+fr.length
 cap:∀ (i j:Nat) (x:Str),fr[i]?=some j->N'[nt+i]?=some x->X.N[j]?=some x/\(x,AJ)∈scope.names
 out:∀ x,(x,AJ)∈scope.names->X.env.kindOf x=some .cell\/X.env.kindOf x=some .free
def lookup_mem:∀ {l:List (Str×NameKind)} {x:Str} {k:NameKind},(l.map (·.1)).Nodup->(x,k)∈l->l.lookup x=some k
 | [],_,_,_,h=>absurd h<|by simp
 | (n,j)::r,x,k,nd,h=>by
   rw[Ax,GC] at nd;rw[Bj]
   rcases M2.mp h with h | h
   . cases h;simp
   . have:x≠n:=fun e=>nd.1 (by rw[<-e];exact PP.mpr ⟨_,h,rfl⟩);have:(x==n)=false:=by simpa using this
     rw[this];exact lookup_mem nd.2 h
def Uo{env:Env}:∀ {l:List (Str×NameKind)} {x:Str} {k:NameKind},(l.map fun (n,k)=>if (k==AJ&&env.scope.kind==.function&&env.kindOf n==some .cell) then (n,A5) else (n,k)).lookup x=some k ->
   ∃ k',l.lookup x=some k'/\(k'=k\/k'=.free)
 | [],_,_,h=>by simp at h
 | (n,j)::r,x,k,h=>by
   rw[Ax] at h;dsimp only at h
   by_cases hc:(j==AJ&&env.scope.kind==.function&&env.kindOf n==some .cell)=true
   . rw[if_pos hc,Bj] at h;rw[Bj]
     cases hx:x==n with
     | true =>
       have:j=.free:=by rw[Ar,Ar] at hc;simpa using hc.1.1
       exact⟨j,rfl,.inr this⟩
     | false=>rw[hx] at h;exact Uo h
   . rw[if_neg hc,Bj] at h;rw[Bj]
     cases hx:x==n with
     | true=>rw[hx] at h;cases h;exact⟨j,rfl,.inl rfl⟩
     | false=>rw[hx] at h;exact Uo h
def WD{env:Env}:∀ {l:List (Str×NameKind)} {x:Str},l.lookup x=some .free ->
   (l.map fun (n,k)=>if (k==AJ&&env.scope.kind==.function&&env.kindOf n==some .cell) then (n,A5) else (n,k)).lookup x=some .cell \/
   (l.map fun (n,k)=>if (k==AJ&&env.scope.kind==.function&&env.kindOf n==some .cell) then (n,A5) else (n,k)).lookup x=some .free
 | [],_,h=>by simp at h
 | (n,j)::r,x,h=>by
   rw[Ax];dsimp only;rw[Bj] at h
   by_cases hc:(j==AJ&&env.scope.kind==.function&&env.kindOf n==some .cell)=true
   . rw[if_pos hc,Bj]
     cases hx:x==n with
     | true=>exact .inl rfl
     | false=>rw[hx] at h;exact WD h
   . rw[if_neg hc,Bj]
     cases hx:x==n with
     | true=>rw[hx] at h;cases h;exact .inr rfl
     | false=>rw[hx] at h;exact WD h
variable {s:Shared}{N':List Str}{nt:Nat}{fr:List Nat}{qp:List (Addr×Obj)}{A:Around}{E:Qqa}{fp:List Addr}
noncomputable abbrev Qz (X:Cx) (scope:Scope):List (Str×Addr):=JU X.env.cells scope.names []
noncomputable abbrev LA (X:Cx) (scope:Scope) (C:Nat):List (Str×Addr):=cellsFrom (C+1) scope.names (Qz X scope)
def VC(Z:JD X scope N' nt fr)(ok:X.Ok){p:Str×Addr}(h:p∈Qz X scope):(p.1,AJ)∈scope.names/\X.env.cells.lookup p.1=some p.2:=by
 rcases VN h with h | ⟨h1,h2⟩
 . exact absurd h<|by simp
 obtain⟨c,hc⟩:=ok.has p.1<|Z.out p.1 h1;rw[hc,DA] at h2;exact⟨h1,by rw[hc,h2]⟩
def wM(Z:JD X scope N' nt fr)(ok:X.Ok)(h:(x,AJ)∈scope.names):∃ c,X.env.cells.lookup x=some c/\∀ C,(LA X scope C).lookup x=some c:=by
 obtain⟨c,hc⟩:=ok.has x<|Z.out x h;refine⟨c,hc,fun C=>?_⟩;have no:(x,A5) ∉ scope.names:=fun q=>by have a:=lookup_mem Z.nd h;have b:=lookup_mem Z.nd q;rw[a] at b;cases b
 rw[TR no];have q:=TM (cells:=X.env.cells) (acc:=[])<|.inl h;obtain⟨c',e⟩:=Option.isSome_iff_exists.mp q;have:=(VC Z ok<|A4 e).2;have this:X.env.cells.lookup x=some c':=this;rw[hc] at this;rw[e,this]
def qH(Z:JD X scope N' nt fr)(ok:X.Ok):(Qz X scope).Pairwise fun x y=>x.2≠y.2:=by
 have gen:∀ (names:List (Str×NameKind)) (acc:List (Str×Addr)),(∀ n,(n,AJ)∈names->∃ c,X.env.cells.lookup n=some c)->(names.map (·.1)).Nodup->(∀ p∈acc,p.1 ∉ names.map (·.1)/\X.env.cells.lookup p.1=some p.2)->(acc.Pairwise fun x y=>x.2≠y.2) ->
     (JU X.env.cells names acc).Pairwise fun x y=>x.2≠y.2:=by
   intro names
   induction names with
   | nil=>intro acc _ _ _ h;exact h
   | cons p r ih =>
     intro acc hf nd ha hp;obtain⟨n,k⟩:=p;rw[Ax,GC] at nd;unfold JU
     cases hk:k==AJ with
     | false =>
       rw[if_neg (by simp)];exact ih acc (fun m hm=>hf m (Ak _ hm)) nd.2 (fun q hq=>⟨fun z=>(ha q hq).1 (by rw[Ax];exact Ak _ z),(ha q hq).2⟩) hp
     | true =>
       rw[if_pos rfl];have hk':k=AJ:=by simpa using hk
       obtain⟨c,hc⟩:=hf n (by rw[hk'];exact Ao);refine ih _ (fun m hm=>hf m (Ak _ hm)) nd.2 (fun q hq=>?_)<|List.pairwise_cons.mpr ⟨fun y hy e=>?_,hp⟩
       . rcases M2.mp hq with rfl | hq
         . exact⟨nd.1,by rw[hc];rfl⟩
         exact⟨fun z=>(ha q hq).1 (by rw[Ax];exact Ak _ z),(ha q hq).2⟩
       have e1:(X.env.cells.lookup n).getD 0=y.2:=e;rw[hc,DA] at e1;have e2:=(ha y hy).2;rw[<-e1] at e2;have:=ok.inj _ _ _ e2 hc;exact (ha y hy).1 (by rw[this,Ax];exact Ao)
 exact gen scope.names [] (fun n hn=>ok.has n (Z.out n hn)) Z.nd (fun p hp=>absurd hp (by simp)) Dq
def qI{M:Model}{cl:List (Str×Addr)}{Q:Env->Shared->Prop}
   (h:Q { scope:=scope,locals:=s.heap.objs.size,globals:=env.globals,cells:=cellsFrom (s.heap.objs.size+1) scope.names cl,qual:=env.qual,func:=none,code:=env.code,frame:=env.frame,builtins:=env.builtins }
     { s with heap:=pushCells (s.heap.push Qqd) scope.names }) :
   wpAny M A (newFunctionEnv scope env.globals cl [] env.qual none .none<|some env) Q E s:=by
 simp only[newFunctionEnv,FO,if_true];refine Aa<|wpAny_alloc ?_;refine Aa<|wpAny_layCells _ (fun name kind cells=>by cases hkc:kind==A5 <;> simp[hkc]) _ _ _ _ ?_;rw[show ({ s with heap:=s.heap.push Qqd }:Shared).heap.objs.size=s.heap.objs.size+1 from Bl ..];rw[Dm];exact Aa<|Ab<|Ab h
def Nu(σ:L2.St)(nt:Nat)(fr:List Nat):L2.St:=BD nt none++fr.map fun (j:Nat)=>(σ[j]?).join
def sS{fp:List Addr}(Z:JD X scope N' nt fr)(I:Inv X qp σ H s)(hf:∀ b∈fp,J3 X qp H b)(hlt:∀ b∈fp,b < s.heap.objs.size) :
   Inv (LB X scope N' (LA X scope s.heap.objs.size) s.heap.objs.size s H fp) [] (Nu σ nt fr) H { s with heap:=pushCells (s.heap.push Qqd) scope.names }:=by
 have ok:=I.ok;have kp:∀ b o,s.heap.get? b=some o->(pushCells (s.heap.push Qqd) scope.names).get? b=some o:=fun b o e=>DH _ _ b o (Ad _ e);have clt:∀ p∈Qz X scope,p.2 < s.heap.objs.size:=fun p hp=>by obtain⟨_,e⟩:=VC Z ok hp;obtain⟨v,q⟩:=I.cell p.1 p.2 e;exact q.lt
 have sz:(s.heap.push Qqd).objs.size=s.heap.objs.size+1:=Bl ..;have cells:∀ x c,(LA X scope s.heap.objs.size).lookup x=some c->(X.env.cells.lookup x=some c)\/(s.heap.objs.size+1<=c/\(pushCells (s.heap.push Qqd) scope.names).IsCell c none):=fun x c e=>by
   have m:=A4 e
   rcases Wf m with h | h
   . exact .inl (VC Z ok h).2
   . refine .inr ⟨h,?_⟩;have m':(x,c)∈cellsFrom (s.heap.push Qqd).objs.size scope.names (Qz X scope):=by rw[sz];exact m
     rcases Wi m' with q | q
     . have l:=clt _ q;exact absurd (Av l (Cj h)) (AZ _)
     exact q
 refine⟨⟨ok.mod,Z.kind,ok.glob,ok.blt,Ag _,fun x y c h1 h2=>?_,fun x hx=>?_,fun x c h1 h2=>?_,ok.hd,ok.frames,.inl rfl,fun b hb=>?_,I.bs,Az ok.bsz I.sz,fun b o e hb=>?_,fun b hb=>?_,I.stack,I.stkFree⟩,
   rfl,I.bare,Un.kept kp,⟨fun _=>none,?_,fun i x v h1 h2 h3=>?_⟩,fun x c e=>?_,I.hok.fresh (Ag _),fun x c e=>?_,fun p hp=>absurd hp (by simp[LB]),I.hok.kept kp,?_⟩
 . exact name_of_addr (Wq (qH Z ok) fun p hp=>Ck (clt p hp)) (A4 h1) (A4 h2)
 . have hx:(relabel scope X.env).names.lookup x=some .cell\/(relabel scope X.env).names.lookup x=some .free:=hx;have q:(x,A5)∈scope.names\/(x,AJ)∈scope.names:=by
     rcases hx with hx | hx
     . obtain⟨k',e,z | z⟩:=Uo hx
       . subst z;exact .inl (A4 e)
       subst z;exact .inr (A4 e)
     . obtain⟨k',e,z | z⟩:=Uo hx
       . subst z;exact .inr (A4 e)
       subst z;exact .inr (A4 e)
   refine Option.isSome_iff_exists.mp (Vx (n:=s.heap.objs.size+1) (acc:=Qz X scope) ?_)
   rcases q with q | q
   . exact .inl q
   exact .inr (TM (.inl q))
 . have h1:(scope.names.any fun p=>p.1==x&&p.2==A5)=true:=h1;obtain⟨p,hp,e⟩:=List.any_eq_true.mp h1;rw[Ar] at e;have e1:p.1=x:=by simpa using e.1
   have e2:p.2=A5:=by simpa using e.2
   have hm:(x,A5)∈scope.names:=by rw[<-e1,<-e2];exact hp
   exact Cj (Vw hm h2)
 . refine⟨An (hlt b hb),fun x c e z=>?_⟩
   rcases cells x c e with q | ⟨q,_⟩
   . exact (hf b hb).2.2.2.2.1 x c q z
   have l:=hlt b hb;rw[<-z] at l;exact absurd (Av l (Cj q)) (AZ _)
 . rcases (hf b hb).2.2.2.1 with z | z
   . exact ok.noex b o e z
   exact absurd (Av (Aj e) (Az ok.bsz z)) (AZ _)
 . intro hs
   rcases M2.mp (I.stkSub b hs) with e | e
   . exact (hf b hb).2.1 e
   exact (hf b hb).2.2.1 e
 . exact (Heap.Ns.new s.heap (.type "dict")).keeps (DH _ _)
 . -- a captured name
   have hi:nt<=i:=by
     by_cases hi:i < nt
     . unfold Nu at h2;rw[Ai (by simpa using hi),Cw,if_pos hi] at h2;cases h2
     omega
   obtain⟨i',rfl⟩:∃ i',i=nt+i':=⟨i - nt,by omega⟩
   unfold Nu at h2;rw[AV (by simp),CM,Nat.add_sub_cancel_left,AD] at h2
   cases ej:fr[i']? with
   | none=>rw[ej] at h2;cases h2
   | some j =>
     rw[ej] at h2;have h2:(σ[j]?).join=some v:=Ap h2;have h2:σ[j]?=some (some v):=by
       cases q:σ[j]? with
       | none=>rw[q] at h2;cases h2
       | some w=>rw[q] at h2;cases w with
         | none=>cases h2
         | some w=>cases h2;rfl
     obtain⟨hN,hfree⟩:=Z.cap i' j x ej h1;obtain⟨c,hc,hcc⟩:=wM Z ok hfree;have ho:=Z.out x hfree;obtain⟨m,hn,hl⟩:=I.loc;obtain⟨u,r,l⟩:=hl j x v hN h2 (ho.elim (fun z=>.inr (.inl z)) fun z=>.inr (.inr z));refine⟨u,r,.inr ⟨?_,c,hcc _,?_⟩⟩
     . exact WD (lookup_mem Z.nd hfree)
     . rcases l with ⟨k,_⟩ | ⟨_,c',e',z⟩
       . rcases ho with q | q
         . rw[k] at q;cases q
         rw[k] at q;cases q
       rw[hc] at e';cases e';exact z.keeps kp
 . rcases cells x c e with q | ⟨_,q⟩
   . obtain⟨v,z⟩:=I.cell x c q;exact⟨v,z.keeps kp⟩
   exact⟨none,q⟩
 . rcases cells x c e with q | ⟨q,_⟩
   . exact I.freeC x c q
   exact I.hok.fresh (Cj q)
 show _=N'.length;unfold Nu;rw[Z.len,AM,CM,Af]
noncomputable abbrev FF:Qqa:=fun _ _=>False
variable {elt:Os}{ifs:List Os}
def zhG{prog:Pv}{R:Result->Shared->Prop}{s:Shared}{target:Os}{it acc:IR}(I:Nat->Shared->Prop)
   (turn:∀ n s,I n s->wpAny (KB prog w) A (pyNext it) (fun r s1=>match r with
     | none=>R (.ok .next) s1
     | some v=>wpAny (KB prog w) A (letOwnedTupleGo target it v) (fun _ s1=>wpAny (KB prog w) A (assign target env v) (fun _ s2 =>
         wpAny (KB prog w) A (forIn ifs true fun c r=>if r=true then do let ok <-isTrue c env (W1 c env);pure (DI ok) else pure (DI r)) (fun ok s3 =>
           if ok=true then wpAny (KB prog w) A (W1 elt env) (fun x s4 =>
             wpAny (KB prog w) A (call (.builtin "list.append") [acc,x]) (fun _ s5=>∃ m,m < n/\I m s5) FF s4) FF s3
           else ∃ m,m < n/\I m s3) FF s2) FF s1) FF s1) FF s)
   (n:Nat) (h:I n s) :
   codeAny (KB prog w) A (.compLoop (.ListComp elt [⟨target,iter,ifs,0⟩] scope pos) 0 it acc env) R s:=by
 refine codeAny_loop rfl I (fun n s hI=>?_) n h;show wpAny _ A ((compTurn (.ListComp elt [⟨target,iter,ifs,0⟩] scope pos) 0 it acc env).onRaise (fun x=>do noteFrame x env;theTreesLotGoes x)) _ _ s;refine wpAny_noted ?_;rw[compTurn_list];refine Aa<|BU<|Aa<|A8 (turn n s hI) (fun r s₁ h₁=>?_) fun _ _ h'=>False.elim h'
 cases r with
 | none=>exact Ab h₁
 | some v =>
   refine Aa<|A8 h₁ (fun _ s₂ h₂=>?_) fun _ _ h'=>False.elim h';refine Aa<|A8 h₂ (fun _ s₂ h₂=>Aa (A8 h₂ (fun ok s₃ h₃=>?_) fun _ _ h'=>False.elim h')) fun _ _ h'=>False.elim h'
   cases ok with
   | false=>exact Ab ⟨rfl,h₃⟩
   | true =>
     exact Aa<|Aa<|A8 h₃ (fun x s₄ h₄=>Aa (A8 h₄ (fun _ s₅ h₅=>Ab (Ab ⟨rfl,h₅⟩)) fun _ _ h'=>False.elim h')) fun _ _ h'=>False.elim h'
def Kd(W:Wk)(g:MG)(c:MT)(m:ME):List D->Ie->HB->Option (List D×HB)
 | [],ρ,st=>if walked W st=true then some ([],st) else none
 | d::ds,ρ,st=>if walked W st=true then (g d ρ st).bind fun (ρ1,s1)=>(c ρ1 s1).bind fun (b,s2) =>
     if b=true then (m ρ1 s2).bind fun (x,s3)=>(Kd W g c m ds ρ1 s3).map fun (xs,s4)=>(x::xs,s4) else Kd W g c m ds ρ1 s2 else none
def JJ(ρ:Ie)(nt:Nat)(fr:List Nat):Ie:=BD nt none++fr.map fun (j:Nat)=>(ρ[j]?).join
def Jv(mi:MI)(nt:Nat)(fr:List Nat)(g:MG)(c:MT)(m:ME):ME:=fun ρ st=>(mi ρ st).bind fun (W,s1)=>(Kd W g c m W.ds (JJ ρ nt fr) s1).bind fun (xs,s2) =>
 if fits xs.length=true then some (.ref s2.length,s2++[.lst xs]) else none
def JH:MT:=fun _ st=>some (true,st)
def SC(X:Cx)(ifs:List Os)(m:MT):Prop:=∀ (qp:List (Addr×Obj)) (s:Shared) (σ:L2.St) (H:Hp) (Q:Bool->Hp->Prop),Inv X qp σ H s->tT X.K m σ H Q ->
 wpAny (KB X.prog X.w) X.A (forIn ifs true fun c r=>if r=true then do let ok <-isTrue c X.env (W1 c X.env);pure (DI ok) else pure (DI r)) (TP X qp σ Q) X.xe s
def O0:SC X [] JH:=by rintro qp s σ H Q I ⟨ρ,st,io,b,st',E,S,e,k⟩;cases e;rw[Dm];exact Ab ⟨H,I,k H [] Ext.refl S.nil⟩
def YH{m:MT}(h:SB X c m):SC X [c] m:=fun qp s σ H Q I q=>PySem.wpAny_tests_one<|h qp s σ H Q I q
def uB(h:HQ K H io σ ρ):HQ K H io (Nu σ nt fr) (JJ ρ nt fr):=by
 refine⟨by unfold Nu JJ;simp,fun i d e=>?_⟩;unfold JJ at e;unfold Nu
 by_cases hi:i < nt
 . rw[Ai (by simpa using hi),Cw,if_pos hi] at e;cases e
 . rw[AV (by simpa using hi),CM,AD] at e ⊢
   cases ej:fr[i - nt]? with
   | none=>rw[ej] at e;cases e
   | some j =>
     rw[ej] at e;have e:(ρ[j]?).join=some d:=Ap e;have e:ρ[j]?=some (some d):=by
       cases q:ρ[j]? with
       | none=>rw[q] at e;cases e
       | some w=>rw[q] at e;cases w with
         | none=>cases e
         | some w=>cases e;rfl
     obtain⟨v,hv,r⟩:=h.at_ j d e;exact⟨v,by simp[hv],r⟩
def adopt(S:HN K H io st)(hp:H p=some (.lst xs))(np:p ∉ io)(R:HC K H io xs ds):HN K H (io++[p]) (st++[.lst ds]):=by
 refine⟨by simp[S.len],?_,fun n a ob h1 h2=>?_⟩
 . rw[F7];refine⟨S.nd,by simp,fun a ha b hb=>?_⟩;rw[On.mp hb];rintro rfl;exact np ha
 . by_cases hn:n < io.length
   . rw[Ai hn] at h1;rw[Ai (by rw[<-S.len];exact hn)] at h2;exact OR.mono ⟨fun _ _ h=>h,fun _ _ _ h=>h⟩ rfl<|S.ob n a ob h1 h2
   . have hl:n < (io++[p]).length:=(KF.mp h1).1;rw[AM,BH] at hl;have e:n=io.length:=by omega
     subst e;rw[AV (Ag _),CN] at h1;rw[S.len,AV (Ag _),CN] at h2
     cases (Ap h1)
     cases (Ap h2)
     exact⟨xs,hp,HC.mono ⟨fun _ _ h=>h,fun _ _ _ h=>h⟩ R⟩
section
variable {g:MG} {c:MT}
structure CompEnd(X:Cx)(qp:List (Addr×Obj))(σ:L2.St)(H:Hp)(io:List Addr)(d:D)(st':HB)(Dd C:Addr)(H5:Hp)(s6:Shared):Prop where
 inv:Inv X qp σ H5 s6
 ns:∃ m,s6.heap.Ns C m
 free:H5 C=none
 ne:C≠X.env.locals
 young:X.s₀.heap.objs.size<=C
 cells:∀ x c,X.env.cells.lookup x=some c->c≠C
 pin:∀ p∈X.pn++qp,p.1≠C
 val:∃ ka,Ext io ka H H5/\HN X.K H5 (io++ka) st'/\Rep X.K H5 (io++ka) (.ref Dd) d
inductive CompI (X Y:Cx) (W:Wk) (tn:Nat->KM->Prop) (fp io:List Addr) (H1:Hp) (Dd:Addr) (g:MG) (c:MT) (m:ME) (t2:HB) (xs:List D) (n:Nat) (s5:Shared):Prop
 | mk (i:Nat) (σ5:L2.St) (H5:Hp) (ρ5:Ie) (st5:HB) (k5:List Addr) (ac rs:List D) (h0:n=W.ds.length - i) (h1:Inv Y [] σ5 H5 s5) (h2:tn i s5.heap) (h3:∀ b∈fp,H5 b=none) (h4:Ext io k5 H1 H5) (h5:Dd ∉ k5) (h6:HN X.K H5 (io++k5) st5) (h7:HQ X.K H5 (io++k5) σ5 ρ5) (h8:∃ vs,H5 Dd=some (.lst vs)/\HC X.K H5 (io++k5) vs ac) (h9:Kd W g c m (W.ds.drop i) ρ5 st5=some (rs,t2)) (h10:xs=ac++rs)
def ZV(hx:X.xe=FF)(hc:X.calm=true)(Z:JD X scope N' nt fr)(hi:SI X tg iter mi)
   (hg:∀ C s0 H0 fp,SG (LB X scope N' (LA X scope C) C s0 H0 fp) tg g) (ht:∀ C s0 H0 fp,SC (LB X scope N' (LA X scope C) C s0 H0 fp) ifs c) (he:∀ C s0 H0 fp,SE (LB X scope N' (LA X scope C) C s0 H0 fp) elt m)
   (hs:∀ x,foldedSetIterable iter X.env x=pure x)         {use:Option (IR->Sem Unit)} {Qf:Qqa} {ps:Pos}
   (I:Inv X qp σ H s) (E:HQ X.K H io σ ρ) (S:HN X.K H io st) (e:Jv mi nt fr g c m ρ st=some (d,st'))
   (kf:∀ Dd C H5 s6,CompEnd X qp σ H io d st' Dd C H5 s6->compPost (KB X.prog X.w) X.A X.xe use Qf (.ref Dd) C (.ok .next) s6) :
   wpAny (KB X.prog X.w) X.A (comprehension (.ListComp elt [⟨tg,iter,ifs,0⟩] scope pos) scope X.env ps (newList []) false (W1 iter X.env) use) Qf X.xe s:=by
 obtain⟨⟨W,t1⟩,e1,e⟩:=HK e;obtain⟨⟨xs,t2⟩,e2,e⟩:=HK e;obtain⟨hfit,e⟩:=IJ e;cases e;refine wpAny_comprehension_free (use:=use) rfl hs (zD fun n hn=>I.ok.has n (Z.out n hn)) Z.kind (fun x hx hl=>by
   obtain⟨n,k⟩:=x
   cases (show k=.local from hl)
   exact lookup_mem Z.nd hx) ?_
 refine HS (hi qp s σ H (fun J H1=>∃ ka,Ext io ka H H1/\HN X.K H1 (io++ka) t1/\Lv X.K H1 (io++ka) W J) I ⟨ρ,st,io,W,t1,E,S,e1,fun J H' ka X' S' O'=>⟨ka,X',S',O'⟩⟩) fun v sa ha=>?_;refine HS ha ?_;rintro itv s2 ⟨it,fp,tn,J,H1,R9,I1,T,tn0,fpok,k1,X1,S1,IO⟩;subst R9;refine AN ?_
 -- the new list
 have hD:H1 s2.heap.objs.size=none:=I1.hok.fresh (Ag _);have I3:Inv X qp σ (upd H1 s2.heap.objs.size (.lst [])) { s2 with heap:=s2.heap.push { cls:=.type "list",data:=.seq ([]:List IR).toArray },toks:=s2.toks }:=I1.lnew .nil (Bc _);obtain⟨X2,S2a⟩:=Q3 (o:=.lst []) S1 hD;rw[Al] at S2a;have S2:HN X.K (upd H1 s2.heap.objs.size (.lst [])) (io++k1) t1:=S2a;clear S2a;generalize hH3:upd H1 s2.heap.objs.size (.lst [])=H3 at I3 X2 S2;have H3D:H3 s2.heap.objs.size=some (.lst []):=by rw[<-hH3];exact JP
 generalize hD':s2.heap.objs.size=Dd at hD I3 X2 S2 hH3 H3D ⊢;generalize hs3:({ s2 with heap:=s2.heap.push { cls:=.type "list",data:=.seq ([]:List IR).toArray },toks:=s2.toks }:Shared)=s3 at I3;have fplt:∀ b∈fp,b < s3.heap.objs.size:=fun b hb=>by obtain⟨o,ho,_⟩:=T.obj 0 _ tn0 b hb;rw[<-hs3];exact Av (Aj ho) (by show _<=(s2.heap.push _).objs.size;rw[Bl];exact BR _)
 have fpD:∀ b∈fp,b≠Dd:=fun b hb z=>by obtain⟨o,ho,_⟩:=T.obj 0 _ tn0 b hb;have:=Aj ho;rw[z,<-hD'] at this;exact AZ _ this
 have fp3:∀ b∈fp,J3 X qp H3 b:=fun b hb=>⟨by rw[<-hH3,HV (fpD b hb)];exact (fpok b hb).1,(fpok b hb).2⟩
 have tn3:tn 0 s3.heap:=T.keep 0 _ _ tn0 fun b _ o ho=>by rw[<-hs3];exact Ad _ ho
 refine qI ?_;have I4:=sS (fp:=fp) Z I3 fp3 fplt;have tn4:tn 0 (pushCells (s3.heap.push Qqd) scope.names):=T.keep 0 _ _ tn3 fun b _ o ho=>DH _ _ _ _ (Ad _ ho);generalize hs4:({ s3 with heap:=pushCells (s3.heap.push Qqd) scope.names }:Shared)=s4 at I4;have tn4:tn 0 s4.heap:=by rw[<-hs4];exact tn4
 show codeAny (KB X.prog X.w) X.A (.compStart (.ListComp elt [⟨tg,iter,ifs,0⟩] scope pos) 0 (.ref it) (.ref Dd) (LB X scope N' (LA X scope s3.heap.objs.size) s3.heap.objs.size s3 H3 fp).env) _ _;generalize hY:LB X scope N' (LA X scope s3.heap.objs.size) s3.heap.objs.size s3 H3 fp=Y at I4;have yP:Y.prog=X.prog:=by rw[<-hY];rfl
 have yW:Y.w=X.w:=by rw[<-hY];rfl
 have yK:Y.K=X.K:=by rw[<-hY];rfl
 have yC:Y.calm=true:=by rw[<-hY];exact hc
 have yA:Y.A=X.A:=by rw[<-hY];rfl
 have yx:Y.xe=FF:=by rw[<-hY];rfl
 have hg:=hg s3.heap.objs.size s3 H3 fp;have ht:=ht s3.heap.objs.size s3 H3 fp;have he:=he s3.heap.objs.size s3 H3 fp;rw[hY] at hg ht he;have yex:Y.ex=fp:=by rw[<-hY];rfl
 have yfs:∀ b∈fp,b ∉ Y.fs:=fun b hb hs=>by
   rw[<-hY] at hs;have hs:b∈Lp X.stack:=hs
   rcases M2.mp (I3.stkSub b hs) with z | z
   . exact (fp3 b hb).2.1 z
   exact (fp3 b hb).2.2.1 z
 have yL:Y.env.locals=s3.heap.objs.size:=by rw[<-hY];rfl
 -- the loop
 have hio:Dd ∉ io++k1:=fun hm=>by obtain⟨u,hu,_⟩:=S1.mem hm;rw[hD] at hu;cases hu
 have start:∀ {H':Hp} {sx:Shared} {σ':L2.St},Inv Y [] σ' H' sx->(∀ b∈fp,H' b=none)->∀ b∈fp,J3 Y [] H' b:=fun {H' sx σ'} I' hn b hb=>by
   refine⟨hn b hb,fun z=>?_,yfs b hb,.inl (by rw[yex];exact hb),fun x cc e z=>?_,fun p hp=>absurd hp (by rw[<-hY];simp[LB])⟩
   . rw[yL] at z;exact absurd (fplt b hb) (by rw[z];exact AZ _)
   exact (I'.ok.exf b (by rw[yex];exact hb)).2 x cc e z
 have loop:∀ sx:Shared,Inv Y [] (Nu σ nt fr) H3 sx->tn 0 sx.heap->codeAny (KB X.prog X.w) X.A (.compLoop (.ListComp elt [⟨tg,iter,ifs,0⟩] scope pos) 0 (.ref it) (.ref Dd) Y.env) (compPost (KB X.prog X.w) X.A X.xe use Qf (.ref Dd) s3.heap.objs.size) sx:=by
   intro sx Ix tnx;refine zhG (CompI X Y W tn fp (io++k1) H1 Dd g c m t2 xs) ?_ (W.ds.length - 0)
     ⟨0,Nu σ nt fr,H3,JJ ρ nt fr,t1,[],[],xs,rfl,Ix,tnx,fun b hb=>(fp3 b hb).1,X2,by simp,S2.nil,by rw[Al];exact uB (by have:=(E.ext S X1).ext S1 X2;rw[Al] at this;exact this),⟨[],H3D,rfl⟩,by rw[Fg];exact e2,rfl⟩
   rintro n s5 ⟨i,σ5,H5,ρ5,st5,k5,ac,rs,rfl,I5,tn5,fr5,X25,nk5,S5,E5,⟨vs,hvs,Rvs⟩,e5,exs⟩;have nD:∀ {kk:List Addr},Dd ∉ kk->Dd ∉ (io++k1)++kk:=fun {kk} hk hm=>(SL.mp hm).elim hio hk;have nF:∀ {kk jj:List Addr} {Ha Hb:Hp} {vv:List V},Ext jj kk Ha Hb->Ha Dd=some (.lst vv)->Dd ∉ kk:=fun {kk jj Ha Hb vv} Xx hv hm=>by have q:=Xx.fresh Dd hm;rw[hv] at q;cases q
   cases hd:W.ds[i]? with
   | none =>
     have hl:W.ds.length<=i:=List.getElem?_eq_none_iff.mp hd;rw[Dw hl] at e5;obtain⟨hw,e5⟩:=IJ e5;cases e5;have:=T.done Y yP yW yK yC i [] s5 σ5 H5 FF I5 (start I5 fr5) tn5 (IO.stop' H5 k5 _ i hl X25 S5 (OB hw));rw[yA] at this;refine HS this ?_;rintro r s6 ⟨hr,I6⟩;subst hr;obtain⟨mm,hn,_⟩:=id I6.loc;rw[yL] at hn
     -- back in the frame
     have base:Un (Lp X.stack) fp H3 H5 s3.heap s6.heap:=by have b:=I6.base;rw[<-hY] at b;exact b
     have os:s6.os=s3.os:=by have b:=I6.os;rw[<-hY] at b;exact b
     have free:H5 s3.heap.objs.size=none:=by have b:=I6.free;rw[yL] at b;exact b
     have hok:Jn X.prog X.w H5 s6.heap:=by have b:=I6.hok;rw[yP,yW] at b;exact b
     have I7:Inv X qp σ H5 s6:=Inv.call' (s':=s6) (ch:=fp) I3 os base hok I6.bare fun b hb=>⟨(fp3 b hb).2.2.2.1,(fp3 b hb).2.1,(fp3 b hb).2.2.2.2.1,(fp3 b hb).2.2.2.2.2⟩
     have np:Dd ∉ (io++k1)++k5:=nD nk5;rw[Al] at exs;subst exs;have SA:=adopt S5 hvs np Rvs;have X6:Ext io (k1++k5) H H5:=X1.trans S1 X25;have lt3:X.env.locals < s3.heap.objs.size:=I3.lt;refine kf Dd s3.heap.objs.size H5 s6 ⟨I7,⟨mm,hn⟩,free,Br lt3,I3.sz,fun x cc e z=>?_,fun p hp z=>?_,?_⟩
     . obtain⟨vv,q⟩:=I3.cell x cc e;have:=q.lt;rw[z] at this;exact AZ _ this
     . have:=Aj (I3.pin p hp).1;rw[z] at this;exact AZ _ this
     refine⟨(k1++k5)++[Dd],⟨fun b o hb nb=>X6.keep b o hb nb,fun b hb=>?_,X6.frz⟩,(by simpa using SA),⟨Dd,rfl,?_⟩⟩
     . rcases SL.mp hb with hb | hb
       . exact X6.fresh b hb
       . rw[On.mp hb]
         cases q:H Dd with
         | none=>rfl
         | some o =>
           by_cases hb:Dd∈io
           . exact absurd (BX _ hb) hio
           have:=X1.keep Dd o q hb;rw[hD] at this;cases this
     have:=getElem?_len ((io++k1)++k5) Dd;rw[<-S5.len];simpa using this
   | some dd =>
     have hl:i < W.ds.length:=(KF.mp hd).1;have hdr:W.ds.drop i=dd::W.ds.drop (i+1):=by rw[C7 hl,(KF.mp hd).2]
     rw[hdr] at e5;obtain⟨hw,e5⟩:=IJ e5;obtain⟨⟨ρ6,t6⟩,e6,e5⟩:=HK e5;obtain⟨⟨b7,t7⟩,e7,e5⟩:=HK e5;obtain⟨go,yl⟩:=IO.go i dd H5 k5 st5 hd X25 S5 (OB hw);have hit:=T.item Y yP yW yK yC i [] s5 σ5 H5 FF I5 (start I5 fr5) tn5 go;rw[yA] at hit;refine HS hit ?_;rintro r s6 ⟨u,hr,h6⟩;subst hr;refine HS h6 ?_;rintro _ s7 ⟨x,H7,I7,r7,y7,tn7,fr7⟩;obtain⟨X7,S7,R7⟩:=yl x H7 y7;have X57:Ext (io++k1) k5 H1 H7:=(X25.trans S5 X7).app;have hv7:H7 Dd=some (.lst vs):=X7.keep _ _ hvs (nD nk5);have E7:HQ X.K H7 ((io++k1)++k5) σ5 ρ5:=by have:=E5.ext S5 X7;rw[Al] at this;exact this
     have R7v:HC X.K H7 ((io++k1)++k5) vs ac:=by have:=Rvs.ext S5 X7;rw[Al] at this;exact this
     have I7p:=I7.pinned (start I7 fr7) (T.obj _ _ tn7);rw[<-yA,<-yP,<-yW];rw[<-yx];refine HS (hg _ s7 σ5 H7 x u (fun σ8 H8=>∃ k8,Ext ((io++k1)++k5) k8 H7 H8/\HN X.K H8 (((io++k1)++k5)++k8) t6/\HQ X.K H8 (((io++k1)++k5)++k8) σ8 ρ6) I7p r7 (by rw[yK];exact⟨dd,ρ5,st5,(io++k1)++k5,ρ6,t6,R7,E7,S7,e6,fun σ8 H8 k8 X8 S8 E8=>⟨k8,X8,S8,E8⟩⟩)) ?_;rintro _ s8 ⟨σ8,H8,I8,k8,X8,S8,E8⟩;have S8':HN X.K H8 ((io++k1)++(k5++k8)) t6:=by rw[<-Aq];exact S8
     have E8':HQ X.K H8 ((io++k1)++(k5++k8)) σ8 ρ6:=by rw[<-Aq];exact E8
     have X38:Ext (io++k1) (k5++k8) H1 H8:=X57.trans S7 X8;have nk8:Dd ∉ k5++k8:=fun hm=>(SL.mp hm).elim nk5 (nF X8 hv7);refine HS (ht _ s8 σ8 H8 (fun b H9=>b=b7/\∃ k9,Ext ((io++k1)++(k5++k8)) k9 H8 H9/\HN X.K H9 (((io++k1)++(k5++k8))++k9) t7) I8 (by rw[yK];exact⟨ρ6,t6,(io++k1)++(k5++k8),b7,t7,E8',S8',e7,fun H9 k9 X9 S9=>⟨rfl,k9,X9,S9⟩⟩)) ?_;rintro ok s9 ⟨H9,I9,eb,k9,X9,S9⟩;subst eb;have X39:Ext (io++k1) ((k5++k8)++k9) H1 H9:=X38.trans S8' X9;have S9':HN X.K H9 ((io++k1)++((k5++k8)++k9)) t7:=by rw[<-Aq];exact S9
     have E9:HQ X.K H9 ((io++k1)++((k5++k8)++k9)) σ8 ρ6:=by have:=E8'.ext S8' X9;rw[Aq] at this;exact this
     have hv8:H8 Dd=some (.lst vs):=X8.keep _ _ hv7 (nD nk5);have hv9:H9 Dd=some (.lst vs):=X9.keep _ _ hv8 (nD nk8);have nk9:Dd ∉ (k5++k8)++k9:=fun hm=>(SL.mp hm).elim nk8 (nF X9 hv8);have R8v:HC X.K H8 ((io++k1)++(k5++k8)) vs ac:=by have:=R7v.ext S7 X8;rw[Aq] at this;exact this
     have R9v:HC X.K H9 ((io++k1)++((k5++k8)++k9)) vs ac:=by have:=R8v.ext S8' X9;rw[Aq] at this;exact this
     have back:∀ {Hx:Hp} {sx:Shared} {σx:L2.St},Inv Y ([]++QU fp s7.heap) σx Hx sx->Inv Y [] σx Hx sx/\tn (i+1) sx.heap/\∀ b∈fp,Hx b=none:=fun {Hx sx σx} Ix=>by refine⟨Ix.unpinned,T.keep _ _ _ tn7 fun b hb o e=>(Ix.pin (b,o) (A2 _ (A2 _ (T8 hb e)))).1,fun b hb=>?_⟩;obtain⟨o,e,dn⟩:=T.obj _ _ tn7 b hb;exact (Ix.pin (b,o) (A2 _ (A2 _ (T8 hb e)))).2.1
     cases ok with
     | false =>
       rw[if_neg (by decide)];have e5:Kd W g c m (W.ds.drop (i+1)) ρ6 t7=some (rs,t2):=e5;obtain⟨Ib,tnb,frb⟩:=back I9;exact⟨W.ds.length - (i+1),by omega,i+1,σ8,H9,ρ6,t7,(k5++k8)++k9,ac,rs,rfl,Ib,tnb,frb,X39,nk9,S9',E9,⟨vs,hv9,R9v⟩,e5,exs⟩
     | true =>
       rw[if_pos rfl];have e5:((m ρ6 t7).bind fun (x,s3)=>(Kd W g c m (W.ds.drop (i+1)) ρ6 s3).map fun (xs,s4)=>(x::xs,s4))=some (rs,t2):=e5;obtain⟨⟨x10,t10⟩,e10,e5⟩:=HK e5;obtain⟨⟨rs',t11⟩,e11,e5⟩:=Ip e5;cases e5;refine HS (he _ s9 σ8 H9 (fun v H10=>∃ k10,Ext ((io++k1)++((k5++k8)++k9)) k10 H9 H10/\HN X.K H10 (((io++k1)++((k5++k8)++k9))++k10) t10/\Rep X.K H10 (((io++k1)++((k5++k8)++k9))++k10) v x10) I9
         (by rw[yK];exact⟨ρ6,t7,(io++k1)++((k5++k8)++k9),x10,t10,E9,S9',e10,fun v H10 k10 X10 S10 R10=>⟨k10,X10,S10,R10⟩⟩)) fun u10 s10 ⟨v10,H10,I10,r10,k10,X10,S10,R10⟩=>?_
       have X310:Ext (io++k1) (((k5++k8)++k9)++k10) H1 H10:=X39.trans S9' X10;have nk10:Dd ∉ ((k5++k8)++k9)++k10:=fun hm=>(SL.mp hm).elim nk9 (nF X10 hv9);have S10':HN X.K H10 ((io++k1)++(((k5++k8)++k9)++k10)) t10:=by rw[<-Aq];exact S10
       have hv10:H10 Dd=some (.lst vs):=X10.keep _ _ hv9 (nD nk9);have E10:HQ X.K H10 ((io++k1)++(((k5++k8)++k9)++k10)) σ8 ρ6:=by have:=E9.ext S9' X10;rw[Aq] at this;exact this
       have R10v:HC X.K H10 ((io++k1)++(((k5++k8)++k9)++k10)) (vs++[v10]) (ac++[x10]):=by have a:=R9v.ext S9' X10;rw[Aq] at a;rw[Aq] at R10;exact a.append (HC.cons R10 HC.nil)
       have hlen:vs.length < sizeLine:=by rw[R9v.length];have:=of_decide_eq_true hfit;rw[exs] at this;simp at this;omega
       refine HS (aS _ s10 σ8 H10 (.ref Dd) [v10] (.ref Dd) [u10] (fun _ H11=>H11=upd H10 Dd (.lst (vs++[v10]))) I10 rfl (.cons r10 .nil) ⟨Dd,vs,v10,rfl,rfl,hv10,hlen,rfl⟩) ?_;rintro _ s11 ⟨_,H11,I11,_,e11'⟩;subst e11';have nD10:=nD nk10
       -- the new list is written: nothing of the store
       have XU:∀ b o,H10 b=some o->b≠Dd->upd H10 Dd (.lst (vs++[v10])) b=some o:=fun b o hb hn=>by rw[HV hn];exact hb
       have TU:Kp H10 (upd H10 Dd (.lst (vs++[v10]))):=⟨fun a ys hb=>XU a _ hb (M7 hb hv10 (by simp)),fun a o u hb=>XU a _ hb (M7 hb hv10 (by simp))⟩
       have S11:HN X.K (upd H10 Dd (.lst (vs++[v10]))) ((io++k1)++(((k5++k8)++k9)++k10)) t10:=by refine⟨S10'.len,S10'.nd,fun n a ob h1 h2=>?_⟩;have hne:a≠Dd:=fun z=>nD10 (by rw[<-z];exact AI h1);have:=OR.mono (ka:=[]) TU (HV hne) (S10'.ob n a ob h1 h2);rw[Al] at this;exact this
       have mono0:∀ {v:V} {d:D},Rep X.K H10 ((io++k1)++(((k5++k8)++k9)++k10)) v d->Rep X.K (upd H10 Dd (.lst (vs++[v10]))) ((io++k1)++(((k5++k8)++k9)++k10)) v d:=fun {v d} h=>by have:=Rep.mono (ka:=[]) TU h;rw[Al] at this;exact this
       have mono1:∀ {v:List V} {d:List D},HC X.K H10 ((io++k1)++(((k5++k8)++k9)++k10)) v d->HC X.K (upd H10 Dd (.lst (vs++[v10]))) ((io++k1)++(((k5++k8)++k9)++k10)) v d:=fun {v d} h=>by have:=HC.mono (ka:=[]) TU h;rw[Al] at this;exact this
       obtain⟨Ib,tnb,frb⟩:=back I11;refine⟨W.ds.length - (i+1),by omega,i+1,σ8,upd H10 Dd (.lst (vs++[v10])),ρ6,t10,((k5++k8)++k9)++k10,ac++[x10],rs',rfl,Ib,tnb,frb,⟨fun b o hb nb=>XU b o (X310.keep b o hb nb) (fun z=>by rw[z,hD] at hb;cases hb),X310.fresh,fun b o u hb=>XU b _ (X310.frz b o u hb) (fun z=>by rw[z,hD] at hb;cases hb)⟩,nk10,S11,⟨E10.len,fun j dj hj=>?_⟩,⟨_,JP,mono1 R10v⟩,e11,by rw[exs,Aq];rfl⟩;obtain⟨v,q,r⟩:=E10.at_ j dj hj;exact⟨v,q,mono0 r⟩
 have l4:=loop s4 I4 tn4;exact codeAny_compStart_list l4 (T.self _ 0 _ _ _ tn4 l4)
def Pe(hx:X.xe=FF)(hc:X.calm=true)(Z:JD X scope N' nt fr)(hi:SI X tg iter mi)
   (hg:∀ C s0 H0 fp,SG (LB X scope N' (LA X scope C) C s0 H0 fp) tg g) (ht:∀ C s0 H0 fp,SC (LB X scope N' (LA X scope C) C s0 H0 fp) ifs c) (he:∀ C s0 H0 fp,SE (LB X scope N' (LA X scope C) C s0 H0 fp) elt m)
   (hs:∀ x,foldedSetIterable iter X.env x=pure x:=by intro _;rfl):SE X (.ListComp elt [⟨tg,iter,ifs,0⟩] scope pos) (Jv mi nt fr g c m):=by
 rintro qp s σ H Q I ⟨ρ,st,io,d,st',E,S,e,k⟩;rw[eval_ListComp];refine ZV (use:=none) hx hc Z hi hg ht he hs I E S e fun Dd C H5 s6 R=>?_;obtain⟨m5,hn⟩:=R.ns;refine⟨m5,hn,fun h' hsb=>?_⟩;obtain⟨ka,X5,S5,R5⟩:=R.val;exact⟨.ref Dd,H5,R.inv.turned (t':=s6.toks) (it:=C) (fun b o hb q=>(hsb.2 b hb).trans q) R.free R.ne (.inr R.young) R.cells R.pin,rfl,k _ _ ka X5 S5 R5⟩
def cH{i:Nat}{x:Str}{spos:Pos}(hx:X.xe=FF)(hc:X.calm=true)(Z:JD X scope N' nt fr)(hi:SI X tg iter mi)
   (hg:∀ C s0 H0 fp,SG (LB X scope N' (LA X scope C) C s0 H0 fp) tg g) (ht:∀ C s0 H0 fp,SC (LB X scope N' (LA X scope C) C s0 H0 fp) ifs c) (he:∀ C s0 H0 fp,SE (LB X scope N' (LA X scope C) C s0 H0 fp) elt m)
   (hN:X.N.Nodup) (hi':X.N[i]?=some x) (hl:X.env.scope.names.lookup x=some .local)
   (hsw:swapsWith (.ListComp elt [⟨tg,iter,ifs,0⟩] scope pos) (some<|.Name x pos') spos.line X.env=pure true:=by rfl)
   (hs:∀ x,foldedSetIterable iter X.env x=pure x:=by intro _;rfl):SS X (.Assign [.Name x pos'] (.ListComp elt [⟨tg,iter,ifs,0⟩] scope pos) spos) (HL (Jv mi nt fr g c m)<|HG i):=by
 intro qp s σ H N I h;obtain⟨ρ,st,io,f,st',E,S,e,w⟩:=Lf.mp h;obtain⟨⟨d,s1⟩,e1,e⟩:=HK e;obtain⟨⟨ρ',s2⟩,e2,e⟩:=Ip e;cases e;cases e2;rw[exec_Assign_Name_used _ _ _ _ hsw];refine Aa<|BU<|Aa ?_;show wpAny _ X.A (do let _ <-comprehension (.ListComp elt [⟨tg,iter,ifs,0⟩] scope pos) scope X.env _ (newList []) false (W1 iter X.env) (some<|assign (.Name x pos') X.env)) _ _ s;refine Aa<|HS (ZV (use:=some (assign (.Name x pos') X.env)) (Qf:=fun _ s'=>SP X qp N .next s') hx hc Z hi hg ht he hs I E S e1 fun Dd C H5 s6 R=>?_) fun _ s' hq=>Ab (Ab hq);obtain⟨m5,hn⟩:=R.ns;obtain⟨ka,X5,S5,R5⟩:=R.val;show wpAny _ _ (assign (.Name x pos') X.env<|.ref Dd) _ _ _;refine F1<|aG (v:=.ref Dd) R.inv hN hi' (.inl hl) rfl (?_)<|.inr hl;rintro s7 I7 ⟨a,sb,ha⟩;have hCa:C≠a:=fun z=>by
   rcases ha with q | q
   . exact R.ne<|z.trans q
   exact R.cells _ _ q z.symm
 refine⟨m5,hn.sameBut sb hCa,fun h' hsb=>?_⟩;refine⟨_,H5,I7.turned (t':=s7.toks) (it:=C) (fun b o hb q=>(hsb.2 b hb).trans q) R.free R.ne (.inr R.young) R.cells R.pin,?_⟩;exact w _ _ ka X5 S5<|(E.ext S X5).set i R5
end
variable {v:V}
def HP:G2
 | .int i,.int j,st=>some (.int (i+j),st)
 | .str a,.str b,st=>if fits (a.length+b.length)=true then some (.str (a++b),st) else none
 | .tup a,.tup b,st=>if (!a.isEmpty&&fits (a.length+b.length))=true then some (.tup (a++b),st) else none
 | .ref a,.ref b,st=>match st[a]?,st[b]? with
   | some (.lst x),some (.lst y)=>if fits (x.length+y.length)=true then some (.ref st.length,st++[.lst (x++y)]) else none
   | _,_=>none
 | _,_,_=>none
def Jo:IZ X (binaryOp .Add) HP:=by
 rintro qp s σ H x y v u Q I rx ry ⟨dx,dy,st,io,d,st',Rx,Ry,S,e,k⟩
 cases dx with
 | int i =>
   cases dy with
   | int j=>cases e;exact lQ qp s σ H x y v u Q I rx ry ⟨i,j,Rx,Ry,k.now S rfl⟩
   | _=>cases e
 | str i =>
   cases dy with
   | str j =>
     obtain⟨hf,e⟩:=IJ e
     cases e;exact yR qp s σ H x y v u Q I rx ry ⟨i,j,Rx,Ry,of_decide_eq_true hf,k.now S rfl⟩
   | _=>cases e
 | tup i =>
   cases dy with
   | tup j =>
     obtain⟨hf,e⟩:=IJ e;cases e;rw[Ar] at hf;obtain⟨p,xs,ex,hp,r1⟩:=Rx;obtain⟨q,ys,ey,hq,r2⟩:=Ry;refine pD qp s σ H x y v u Q I rx ry ⟨p,q,xs,ys,ex,ey,IQ.of hp,IQ.of hq,fun z=>?_,by rw[r1.length,r2.length];exact of_decide_eq_true hf.2,fun z=>?_,fun z p hp=>k.tup S (r1.append r2) hp⟩
     . have:=r1.length;rw[z] at this;have:i=[]:=B4 this.symm;rw[this] at hf;exact absurd hf.1<|by decide
     have:=r2.length;rw[z] at this;have:j=[]:=B4 this.symm;subst this;rw[Al] at k;exact k.now S ⟨p,xs,rfl,hp,r1⟩
   | _=>cases e
 | ref i =>
   cases dy with
   | ref j =>
     unfold HP at e;dsimp only at e
     split at e
     . rename_i l1 l2 e1 e2;obtain⟨hf,e⟩:=IJ e;cases e;obtain⟨p,ex,hp⟩:=Rx;obtain⟨q,ey,hq⟩:=Ry;obtain⟨xs,h1,r1⟩:=S.ob i p _ hp e1;obtain⟨ys,h2,r2⟩:=S.ob j q _ hq e2;exact lT qp s σ H x y v u Q I rx ry ⟨p,q,xs,ys,ex,ey,h1,h2,by rw[r1.length,r2.length];exact of_decide_eq_true hf,fun p hp=>k.lst S (r1.append r2) hp⟩
     . cases e
   | _=>cases e
 | _=>cases e
def intD(c:Int->Int->Bool)(g:Int->Int->D):G2
 | .int i,.int j,st=>if c i j=true then some (g i j,st) else none
 | _,_,_=>none
def Qn{f:IR->IR->Sem IR}{C:Int->Int->Prop}{c:Int->Int->Bool}{g:Int->Int->Int}(h:JG X f (rI C fun i j=>.int (g i j)))(hc:∀ i j,c i j=true->C i j):IZ X f (intD c fun i j=>.int (g i j)):=by
 rintro qp s σ H x y v u Q I rx ry ⟨dx,dy,st,io,d,st',Rx,Ry,S,e,k⟩
 cases dx with
 | int i =>
   cases dy with
   | int j =>
     obtain⟨hf,e⟩:=IJ e
     cases e;exact h qp s σ H x y v u Q I rx ry ⟨i,j,Rx,Ry,hc i j hf,k.now S rfl⟩
   | _=>cases e
 | _=>cases e
def tt2:Int->Int->Bool:=fun _ _=>true
def LU:G2:=intD tt2 fun i j=>.int<|i - j
def Tw:IZ X (binaryOp .Sub) LU:=Qn (C:=fun _ _=>True) (fun qp s σ H x y v u Q I rx ry ⟨i,j,h1,h2,_,q⟩=>kP qp s σ H x y v u Q I rx ry ⟨i,j,h1,h2,q⟩) fun _ _ _=>trivial
def Ja(i:Int):Bool:=decide (-(2 ^ 64) < i)&&decide (i < 2 ^ 64)
def MD:G2:=intD (fun i j=>Ja i || Ja j) fun i j=>.int<|i*j
def pH:IZ X (binaryOp .Mult) MD:=Qn kN fun i j h=>by
 rw[DJ] at h;unfold Ja at h;rw[Ar,Ar] at h
 rcases h with h | h
 . exact .inl ⟨of_decide_eq_true h.1,of_decide_eq_true h.2⟩
 exact .inr ⟨of_decide_eq_true h.1,of_decide_eq_true h.2⟩
def IA:G2:=intD (fun _ j=>decide (0 < j)) fun i j=>.int<|i % j
def Mr:IZ X (binaryOp .Mod) IA:=Qn kM fun i j h=>of_decide_eq_true h
def K5(g:Int->Int->Bool):G2
 | .int i,.int j,st=>some (.bl (g i j),st)
 | _,_,_=>none
def Tv{f:IR->IR->Sem IR}{g:Int->Int->Bool}(h:JG X f (NV fun i j=>.bl (g i j))):IZ X f (K5 g):=by
 rintro qp s σ H x y v u Q I rx ry ⟨dx,dy,st,io,d,st',Rx,Ry,S,e,k⟩
 cases dx with
 | int i =>
   cases dy with
   | int j=>cases e;exact h qp s σ H x y v u Q I rx ry ⟨i,j,Rx,Ry,k.now S rfl⟩
   | _=>cases e
 | _=>cases e
def Ks:G2:=K5 fun i j=>decide (i < j)
def KC:G2:=K5 fun i j=>decide (i<=j)
def Mh:G2:=K5 fun i j=>decide (j < i)
def N5:G2:=K5 fun i j=>decide (j<=i)
def QR:IZ X (Re .Lt) Ks:=Tv fU
def Qh:IZ X (Re .LtE) KC:=Tv fT
def SQ:IZ X (Re .Gt) Mh:=Tv fS
def YL:IZ X (Re .GtE) N5:=Tv fR
def US:D->Bool
 | .non=>true
 | _=>false
def RV:G2:=fun x y st=>match y with
 | .non=>some (.bl (US x),st)
 | _=>none
def Yq:G2:=fun x y st=>match y with
 | .non=>some (.bl !US x,st)
 | _=>none
def Zz(h:Rep K H io v d):decide (v=.non)=US d:=by
 cases d with
 | non=>cases (show v=.non from h);rfl
 | bl b=>cases (show v=.bl b from h);rfl
 | int b=>cases (show v=.int b from h);rfl
 | str b=>cases (show v=.str b from h);rfl
 | tup b=>obtain⟨a,xs,rfl,_⟩:=h;rfl
 | ref b=>obtain⟨a,rfl,_⟩:=h;rfl
 | kl b=>obtain⟨a,xs,rfl,_⟩:=h;rfl
 | fn b=>obtain⟨a,rfl,_⟩:=h;rfl
 | er b c f=>cases f <;> (obtain⟨_,_,_,_,h⟩:=h;first | (obtain⟨rfl,_⟩:=h;rfl) | (obtain⟨_,rfl,_⟩:=h;rfl) | (obtain⟨_,_,rfl,_⟩:=h;rfl))
def pF:IZ X (Re .Is) RV:=by
 rintro qp s σ H x y v u Q I rx ry ⟨dx,dy,st,io,d,st',Rx,Ry,S,e,k⟩
 cases dy with
 | non =>
   cases e;refine kL qp s σ H x y v u Q I rx ry ⟨Ry,?_⟩;rw[Zz Rx];exact k.now S rfl
 | _=>cases e
def tV:IZ X (Re .IsNot) Yq:=by
 rintro qp s σ H x y v u Q I rx ry ⟨dx,dy,st,io,d,st',Rx,Ry,S,e,k⟩
 cases dy with
 | non =>
   cases e;refine pI qp s σ H x y v u Q I rx ry ⟨Ry,?_⟩;rw[Zz Rx];exact k.now S rfl
 | _=>cases e
def NY:D->HB->Option (D×HB)
 | .int i,st=>some (.int (-i),st)
 | _,_=>none
def IF(m:ME):ME:=fun ρ st=>(m ρ st).bind fun (x,s)=>NY x s
def O2(ha:SE X a ma):SE X (.UnaryOp .USub a pos) (IF ma):=PE.imp (fZ nJ ha) <| by
 rintro σ H Q ⟨ρ,st,io,d,st',E,S,e,k⟩;obtain⟨⟨x,s1⟩,e1,e⟩:=HK e
 cases x with
 | int i =>
   cases e;exact⟨ρ,st,io,.int i,_,E,S,e1,fun v H1 k1 X1 S1 R1=>⟨i,R1,k _ H1 k1 X1 S1 rfl⟩⟩
 | _=>cases e
def JT:G2
 | .tup ds,.int i,st=>(KH ds i).map fun d=>(d,st)
 | .ref n,.int i,st=>(Ik st n).bind fun ds=>(KH ds i).map fun d=>(d,st)
 | .kl ds,.int i,st=>(KH ds i).map fun d=>(d,st)
 | .str z,.int i,st=>if fits z.length=true then (KH z.cps.toList i).map fun c=>(.str ⟨#[c]⟩,st) else none
 | _,_,_=>none
def Vr{i:Int}(r:HC K H io xs ds)(h:KH ds i=some d):∃ v,KH xs i=some v/\Rep K H io v d:=by unfold KH at h ⊢;rw[r.length];obtain⟨j,hj,h⟩:=HK h;obtain⟨v,hv,rv⟩:=r.get h;exact⟨v,by rw[hj];exact hv,rv⟩
def XD:Sh X (RG X.K JT):=by
 rintro value slice qp s σ H x y v u Q I rx ry ⟨dx,dy,st,io,d,st',Rx,Ry,S,e,k⟩ hs
 cases dy with
 | int i =>
   cases dx with
   | tup ds =>
     obtain⟨d',e1,e⟩:=Ip e;cases e;obtain⟨p,xs,ex,hp,r⟩:=Rx;obtain⟨w,hw,rw'⟩:=Vr r e1;exact Jh value slice qp s σ H x y v u Q I rx ry ⟨p,xs,i,w,ex,Ry,IQ.of hp,hw,k.now S rw'⟩ hs
   | ref n =>
     obtain⟨ds,e0,e⟩:=HK e;obtain⟨d',e1,e⟩:=Ip e;cases e;obtain⟨p,ex,hp⟩:=Rx;obtain⟨xs,hx,r⟩:=Ky S hp e0;obtain⟨w,hw,rw'⟩:=Vr r e1;exact Y6 value slice qp s σ H x y v u Q I rx ry ⟨p,xs,i,w,ex,Ry,hx,hw,k.now S rw'⟩ hs
   | kl ds =>
     obtain⟨d',e1,e⟩:=Ip e;cases e;obtain⟨p,xs,ex,hx,r⟩:=Rx;obtain⟨w,hw,rw'⟩:=Vr r e1;exact Y6 value slice qp s σ H x y v u Q I rx ry ⟨p,xs,i,w,ex,Ry,hx.sq,hw,k.now S rw'⟩ hs
   | str z =>
     obtain⟨hf,e⟩:=IJ e;obtain⟨d',e1,e⟩:=Ip e;cases e;exact Vf value slice qp s σ H x y v u Q I rx ry ⟨z,i,d',Rx,Ry,of_decide_eq_true hf,e1,k.now S rfl⟩ hs
   | _=>cases e
 | _=>cases dx <;> cases e
def gL(ha:SE X a ma)(hb:SE X b mb)(hs:Vp b:=by intro _ _;rfl):SE X (.Subscript a b pos) (mB JT ma mb):=PE.imp (fX XD ha hb hs) fun _ _ _ h=>TY h
def HX:GN
 | [.tup ds],st=>some (.int ds.length,st)
 | [.ref n],st=>(Ik st n).map fun ds=>(.int ds.length,st)
 | [.kl ds],st=>some (.int ds.length,st)
 | [.str z],st=>if fits z.length=true then some (.int z.length,st) else none
 | _,_=>none
def Ng:J4 X (.builtin "len") HX:=by
 rintro qp s σ H xs us Q I r ⟨ds,st,io,d,st',R,S,e,k⟩
 cases ds with
 | nil=>cases e
 | cons d0 r0 =>
 cases r0 with
 | cons d1 r1=>cases d0 <;> cases e
 | nil =>
 cases d0 with
 | tup ts =>
   cases e;obtain⟨v,rfl,p,ys,rfl,hp,r1⟩:=R.one;refine WC qp s σ H _ us Q I r ⟨p,ys,rfl,.inr<|IQ.of hp,?_⟩;rw[r1.length];exact k.now S rfl
 | ref n =>
   obtain⟨ts,e0,e⟩:=Ip e;cases e;obtain⟨v,rfl,p,rfl,hp⟩:=R.one;obtain⟨ys,hx,r1⟩:=Ky S hp e0;refine WC qp s σ H _ us Q I r ⟨p,ys,rfl,.inl hx,?_⟩;rw[r1.length];exact k.now S rfl
 | kl ts =>
   cases e;obtain⟨v,rfl,p,ys,rfl,hx,r1⟩:=R.one;refine WC qp s σ H _ us Q I r ⟨p,ys,rfl,.inl hx.sq,?_⟩;rw[r1.length];exact k.now S rfl
 | str z =>
   obtain⟨hf,e⟩:=IJ e;cases e;obtain⟨v,rfl,rfl⟩:=R.one;exact zgm qp s σ H _ us Q I r ⟨z,rfl,of_decide_eq_true hf,k.now S rfl⟩
 | _=>cases e
def RZ:GN
 | [.int i],st=>some (.int i,st)
 | [.bl b],st=>some (.int (if b then 1 else 0),st)
 | _,_=>none
def Oc:GN
 | [.int i],st=>some (.int (if i < 0 then -i else i),st)
 | _,_=>none
def wD:J4 X (.builtin "abs") Oc:=by
 rintro qp s σ H xs us Q I r ⟨ds,st,io,d,st',R,S,e,k⟩
 cases ds with
 | nil=>cases e
 | cons d0 r0 =>
 cases r0 with
 | cons d1 r1=>cases d0 <;> cases e
 | nil =>
 cases d0 with
 | int i =>
   cases e;obtain⟨v,rfl,rfl⟩:=R.one;exact qC qp s σ H _ us Q I r ⟨i,rfl,k.now S rfl⟩
 | _=>cases e
def LD:GN
 | [.tup ds],st=>some (.tup ds,st)
 | [.ref n],st=>(Ik st n).map fun ds=>(.tup ds,st)
 | _,_=>none
def Pk:J4 X (.type "tuple") LD:=by
 rintro qp s σ H xs us Q I r ⟨ds,st,io,d,st',R,S,e,k⟩
 cases ds with
 | nil=>cases e
 | cons d0 r0 =>
 cases r0 with
 | cons d1 r1=>cases d0 <;> cases e
 | nil =>
 cases d0 with
 | tup ts =>
   cases e;obtain⟨v,rfl,p,ys,rfl,hp,r1⟩:=R.one;exact cW qp s σ H _ us Q I r ⟨p,ys,rfl,.inr ⟨IQ.of hp,k.now S ⟨p,ys,rfl,hp,r1⟩⟩⟩
 | ref n =>
   obtain⟨ts,e0,e⟩:=Ip e;cases e;obtain⟨v,rfl,p,rfl,hp⟩:=R.one;obtain⟨ys,hx,r1⟩:=Ky S hp e0;exact cW qp s σ H _ us Q I r ⟨p,ys,rfl,.inl ⟨hx,fun l hl=>k.tup S r1 hl⟩⟩
 | _=>cases e
def JQ(f:D->Option PyData):List D->Option (List PyData)
 | []=>some []
 | d::ds=>(f d).bind fun p=>(JQ f ds).map fun ps=>p::ps
def IT:Nat->HB->D->Option PyData
 | 0,_,_=>none
 | n+1,st,d=>match d with
   | .non=>some .none
   | .bl b=>some<|.bool b
   | .int i=>some<|.int i
   | .str x=>if BC x=true then some (.str x) else none
   | .tup ds=>(JQ (IT n st) ds).map .tuple
   | .ref k=>(Ik st k).bind fun ds=>(JQ (IT n st) ds).map .list
   | .kl _=>none
   | .fn _=>none
   | .er _ _ _=>none
def Wr{n:Nat}:∀ {ps:List PyData},(∀ p∈ps,p.depth<=n)->EO ps<=n
 | [],_=>by rw[EO];exact Bc _
 | p::ps,h=>by rw[EO];exact Nat.max_le.mpr ⟨h p Ao,Wr fun q hq=>h q (Ak _ hq)⟩
def dB{ps:List PyData}:(∀ p∈ps,p.canLay0=true)->BM ps=true:=by
 induction ps with
 | nil=>intro _;simp only[BM]
 | cons p ps ih =>
   intro h;simp only[BM];rw[h p Ao,ih fun q hq=>h q (Ak _ hq)];rfl
def V0{f:D->Option PyData}:∀ {ds:List D} {ps:List PyData},JQ f ds=some ps->∀ p∈ps,∃ d,f d=some p
 | [],ps,h,p,hp=>by cases h;exact absurd hp<|by simp
 | d::ds,ps,h,p,hp=>by
   obtain⟨q,e1,h⟩:=HK h;obtain⟨qs,e2,h⟩:=Ip h;subst h
   rcases M2.mp hp with rfl | hp
   . exact⟨d,e1⟩
   exact V0 e2 p hp
def Mo:∀ {n:Nat} {st:HB} {d:D} {p:PyData},IT n st d=some p->p.canLay0=true/\p.depth<=n
 | 0,_,_,_,h=>by cases h
 | n+1,st,d,p,h=>by
   cases d with
   | non=>cases h;exact⟨by simp only[Bm],by simp only[Dg];exact Bc _⟩
   | bl b=>cases h;exact⟨by simp only[Bm],by simp only[Dg];exact Bc _⟩
   | int b=>cases h;exact⟨by simp only[Bm],by simp only[Dg];exact Bc _⟩
   | str b =>
     obtain⟨hs,h⟩:=IJ h
     cases h;exact⟨by simp only[Bm];exact hs,by simp only[Dg];exact Bc _⟩
   | tup ds =>
     obtain⟨ps,e,h⟩:=Ip h;subst h;have q:∀ p∈ps,p.canLay0=true/\p.depth<=n:=fun p hp=>let ⟨d,hd⟩:=V0 e p hp;Mo hd
     exact⟨by simp only[Bm];exact dB fun p hp=>(q p hp).1,by simp only[Dg];exact CS (Wr fun p hp=>(q p hp).2)⟩
   | kl ds=>cases h
   | fn ds=>cases h
   | er _ _ _=>cases h
   | ref k =>
     obtain⟨ds,e0,h⟩:=HK h;obtain⟨ps,e,h⟩:=Ip h;subst h;have q:∀ p∈ps,p.canLay0=true/\p.depth<=n:=fun p hp=>let ⟨d,hd⟩:=V0 e p hp;Mo hd
     exact⟨by simp only[Bm];exact dB fun p hp=>(q p hp).1,by simp only[Dg];exact CS (Wr fun p hp=>(q p hp).2)⟩
def WJ{f:D->Option PyData}(hf:∀ {v:V} {u:IR} {d:D} {p:PyData},Rep X.K H io v d->RelV v u->f d=some p->∃ as,Reads s.heap u p as) :
   ∀ {xs:List V} {us:List IR} {ds:List D} {ps:List PyData},HC X.K H io xs ds->Vals xs us->JQ f ds=some ps->∃ as,ReadsAll s.heap us ps as
 | _,_,[],ps,h,r,e=>by
   cases (show _=[] from h)
   cases r;cases e;exact⟨_,.nil⟩
 | _,_,d::ds,ps,h,r,e=>by
   obtain⟨y,ys,rfl,h1,h2⟩:=h
   cases r with
   | cons r1 r2 =>
     obtain⟨q,e1,e⟩:=HK e;obtain⟨qs,e2,e⟩:=Ip e;subst e;obtain⟨as,ra⟩:=hf h1 r1 e1;obtain⟨bs,rb⟩:=WJ hf h2 r2 e2;exact⟨_,.cons ra rb⟩
def Mu(I:Inv X qp σ H s)(S:HN X.K H io st):∀ {n:Nat} {v:V} {u:IR} {d:D} {p:PyData},Rep X.K H io v d->RelV v u->IT n st d=some p->∃ as,Reads s.heap u p as
 | 0,_,_,_,_,_,_,h=>by cases h
 | n+1,v,u,d,p,h,r,e=>by
   cases d with
   | non=>cases e;cases (show v=.non from h);cases r;exact⟨_,.none⟩
   | bl b=>cases e;cases (show v=.bl b from h);cases r;exact⟨_,.bool _⟩
   | int b=>cases e;cases (show v=.int b from h);obtain⟨t,rfl⟩:=r;exact⟨_,.int _ _⟩
   | str b =>
     obtain⟨hs,e⟩:=IJ e
     cases e;cases (show v=.str b from h);obtain⟨t,rfl⟩:=r;exact⟨_,.str _ _⟩
   | tup ds =>
     obtain⟨ps,e',q⟩:=Ip e;subst q;obtain⟨a,xs,rfl,ha,rs⟩:=h;cases r;obtain⟨its,rv,⟨o,ho,hc,k,hd⟩,hz⟩:=I.tuple<|IQ.of ha;obtain⟨as,ra⟩:=WJ (f:=IT n st) (fun h r e=>Mu I S h r e) rs rv e';exact⟨_,.tuple ho hc hd<|by simpa using ra⟩
   | kl ds=>cases e
   | fn ds=>cases e
   | er _ _ _=>cases e
   | ref k =>
     obtain⟨ds,e0,e⟩:=HK e;obtain⟨ps,e',q⟩:=Ip e;subst q;obtain⟨a,rfl,ha⟩:=h;cases r;obtain⟨xs,hx,rs⟩:=Ky S ha e0;obtain⟨its,rv,⟨o,k,ho,hc,_,hd⟩,hz⟩:=I.list hx;obtain⟨as,ra⟩:=WJ (f:=IT n st) (fun h r e=>Mu I S h r e) rs rv e';exact⟨_,.list ho hc hd<|by simpa using ra⟩
def Ku:G2:=fun x y st=>(IT 100 st x).bind fun p=>(IT 100 st y).map fun q=>(.bl (DK p q),st)
def Kk:G2:=fun x y st=>(IT 100 st x).bind fun p=>(IT 100 st y).map fun q=>(.bl !PyData.eqv p q,st)
def Ov(hu:X.A.units+100 < cLine):IZ X (Re .Eq) Ku:=by rintro qp s σ H x y v u Q I rx ry ⟨dx,dy,st,io,d,st',Rx,Ry,S,e,k⟩;obtain⟨p,e1,e⟩:=HK e;obtain⟨q,e2,e⟩:=Ip e;cases e;obtain⟨as,ra⟩:=Mu I S Rx rx e1;obtain⟨bs,rb⟩:=Mu I S Ry ry e2;have h1:=Mo e1;have h2:=Mo e2;exact PySem.SeqAt.compareEq_reads ra rb h1.1 h2.1 (Cb (DQ (Az (GD _ _) h1.2) _) hu) ⟨.bl _,H,I,rfl,k.now S rfl⟩
def QS(hu:X.A.units+100 < cLine):IZ X (Re .NotEq) Kk:=by rintro qp s σ H x y v u Q I rx ry ⟨dx,dy,st,io,d,st',Rx,Ry,S,e,k⟩;obtain⟨p,e1,e⟩:=HK e;obtain⟨q,e2,e⟩:=Ip e;cases e;obtain⟨as,ra⟩:=Mu I S Rx rx e1;obtain⟨bs,rb⟩:=Mu I S Ry ry e2;have h1:=Mo e1;have h2:=Mo e2;exact PySem.SeqAt.compareNe_reads ra rb h1.1 h2.1 (Cb (DQ (Az (GD _ _) h1.2) _) hu) ⟨.bl _,H,I,rfl,k.now S rfl⟩
def Kx(hr:Ia k A):A.units+100 < cLine:=by have:=hr.un;omega
variable {t':Nat}
section
variable {h':KM}
def Inv.turnNew{fp:List Addr}{o:HO}(I:Inv X qp σ H s)(hf:∀ b∈fp,J3 X qp H b)(k:∀ b ob,b ∉ fp->s.heap.get? b=some ob->h'.get? b=some ob)(hp:s.heap.objs.size<=p)
   (hfp:∀ b∈fp,∀ ob,s.heap.get? b=some ob->∃ ob',h'.get? b=some ob') (new:Ju X.prog X.w (upd H p o) h' p o):Inv X qp σ (upd H p o) { s with heap:=h',toks:=t' }:=by
 have hpn:=I.hok.fresh hp;have nlt:∀ b ob,s.heap.get? b=some ob->b≠p:=fun b ob e=>An<|Av (Aj e) hp;refine Inv.step (ch:=fp) (g':=s.gens) (d':=s.drawn) I (fun b hb=>⟨(hf b hb).2.2.2.1,(hf b hb).2.1,(hf b hb).2.2.2.2.1,(hf b hb).2.2.2.2.2⟩) (fun b ob _ _ hc e _=>k b ob hc e) (fun b ob _ _ hc e _=>⟨ob.slots,k b ob hc e⟩)
   (fun b ob hc e n=>by rw[HV (nlt b ob e)];exact n) (fun b ob hc e=>⟨ob,k b ob hc e⟩) (fun b xs e=>by rw[HV (Jw e hpn)];exact e) (fun b ob u e=>by rw[HV (Jw e hpn)];exact e)
   (fun b ps e=>⟨#[],by rw[HV (Jw e hpn),e];simp⟩) (fun m hm=>?_) (fun b u e=>?_) I.bare
 . obtain⟨ob,es,ep,ho,r⟩:=hm;exact⟨ob,es,ep,k _ ob (fun z=>(hf _ z).2.1 rfl) ho,r⟩
 . by_cases hb:b=p
   . subst hb;rw[JP] at e;cases e;exact new
   . rw[HV hb] at e;refine (I.hok b u e).stay (fun c v hc q=>k c v (fun z=>?_) q) (fun c q=>by rw[HV (Jw q hpn)];exact q) fun c xs q=>by rw[HV (Jw q hpn)];exact q
     have hz:=(hf c z).1
     rcases hc with rfl | hc
     . rw[hz] at e;cases e
     rw[hz] at hc;cases hc
def Inv.turnAll{fp:List Addr}(I:Inv X qp σ H s)(hf:∀ b∈fp,J3 X qp H b)(k:∀ b ob,b ∉ fp->s.heap.get? b=some ob->h'.get? b=some ob):Inv X qp σ H { s with heap:=h',toks:=t' }:=by
 refine Inv.step (ch:=fp) (g':=s.gens) (d':=s.drawn) I (fun b hb=>⟨(hf b hb).2.2.2.1,(hf b hb).2.1,(hf b hb).2.2.2.2.1,(hf b hb).2.2.2.2.2⟩) (fun b ob _ _ hc e _=>k b ob hc e) (fun b ob _ _ hc e _=>⟨ob.slots,k b ob hc e⟩)
   (fun b ob hc e n=>n) (fun b ob hc e=>⟨ob,k b ob hc e⟩) (fun b xs e=>e) (fun b ob u e=>e)
   (fun b ps e=>⟨#[],by rw[e];simp⟩) (fun m hm=>?_) (fun b u e=>?_) I.bare
 . obtain⟨ob,es,ep,ho,r⟩:=hm;exact⟨ob,es,ep,k _ ob (fun z=>(hf _ z).2.1 rfl) ho,r⟩
 . refine (I.hok b u e).stay (fun c v hc q=>k c v (fun z=>?_) q) (fun c q=>q) fun c xs q=>q;have hz:=(hf c z).1
   rcases hc with rfl | hc
   . rw[hz] at e;cases e
   rw[hz] at hc;cases hc
end
def boot_enumerate:UV "enumerate"=some (.type "enumerate"):=by decide +kernel
def pairs(ds:List D):List D:=(ds.zipIdx).map fun (d,k)=>.tup [.int (k:Nat),d]
def aW{i:Nat}(h:(pairs ds)[i]?=some d):∃ e,ds[i]?=some e/\d=.tup [.int (i:Nat),e]:=by
 unfold pairs at h;rw[AD,List.getElem?_zipIdx] at h
 cases e:ds[i]? with
 | none=>rw[e] at h;cases h
 | some x =>
   rw[e] at h;simp at h;exact⟨x,rfl,h.symm⟩
def pairs_len(ds:List D):(pairs ds).length=ds.length:=by unfold pairs;simp
section
variable {κ:Type} [DecidableEq κ]
def Ir(kvs:List (κ×D))(k:κ):Option D:=(kvs.find? fun kv=>decide (kv.1=k)).map (·.2)
def putD(kvs:List (κ×D))(k:κ)(d:D):List (κ×D) :=
 if (kvs.any fun kv=>decide (kv.1=k))=true then kvs.map (fun kv=>if kv.1=k then (kv.1,d) else kv) else kvs++[(k,d)]
def KR.any{ps:List (κ×V)}{kvs:List (κ×D)}(r:KR κ K H io ps kvs)(k:κ):(ps.any fun kv=>decide (kv.1=k))=(kvs.any fun kv=>decide (kv.1=k)):=by
 induction r with
 | nil=>rfl
 | cons z t ih=>rw[CV,CV,ih,z.1]
def KR.length{ps:List (κ×V)}{kvs:List (κ×D)}(r:KR κ K H io ps kvs):ps.length=kvs.length:=By r
def KR.val{ps:List (κ×V)}{kvs:List (κ×D)}(r:KR κ K H io ps kvs)(k:κ):(Ir kvs k=none/\Jp ps k=none)\/∃ d v,Ir kvs k=some d/\Jp ps k=some v/\Rep K H io v d:=by
 induction r with
 | nil=>exact .inl ⟨rfl,rfl⟩
 | @cons p q l1 l2 z t ih =>
   unfold Ir Jp at *;rw[Ba,Ba,z.1]
   by_cases e:q.1=k
   . rw[decide_eq_true e];exact .inr ⟨q.2,p.2,rfl,rfl,z.2⟩
   rw[decide_eq_false e];exact ih
def KR.append{ps qs:List (κ×V)}{kvs lvs:List (κ×D)}(r:KR κ K H io ps kvs)(r':KR κ K H io qs lvs):KR κ K H io (ps++qs) (kvs++lvs):=by
 induction r with
 | nil=>exact r'
 | cons z t ih=>exact .cons z ih
def KR.put{ps:List (κ×V)}{kvs:List (κ×D)}(r:KR κ K H io ps kvs)(k:κ)(rv:Rep K H io v d):KR κ K H io (putK ps k v) (putD kvs k d):=by
 unfold putK putD;rw[KR.any r k]
 by_cases e:(kvs.any fun kv=>decide (kv.1=k))=true
 . rw[if_pos e,if_pos e]
   induction r with
   | nil=>exact .nil
   | @cons p q l1 l2 z t ih =>
     rw[Ax,Ax];have hrest:KR κ K H io (l1.map fun kv=>if kv.1=k then (kv.1,v) else kv) (l2.map fun kv=>if kv.1=k then (kv.1,d) else kv):=by
       clear ih e
       induction t with
       | nil=>exact .nil
       | @cons p q l1 l2 z t ih =>
         rw[Ax,Ax];refine .cons ?_ ih;rw[z.1]
         by_cases e:q.1=k
         . rw[if_pos e,if_pos e];exact⟨rfl,rv⟩
         rw[if_neg e,if_neg e];exact z
     refine .cons ?_ hrest;rw[z.1]
     by_cases e:q.1=k
     . rw[if_pos e,if_pos e];exact⟨rfl,rv⟩
     rw[if_neg e,if_neg e];exact z
 rw[if_neg e,if_neg e];exact KR.append r<|.cons ⟨rfl,rv⟩ .nil
end
def keyOf:D->Option Key
 | .int i=>some<|.inl i
 | .str x=>some<|.inr x
 | _=>none
def keysOf:List D->Option (List Key)
 | []=>some []
 | d::ds=>(keyOf d).bind fun k=>(keysOf ds).map fun ks=>k::ks
variable {y:V}{md mk:ME}
def TZ{k:Key}(h:Rep K H io v d)(e:keyOf d=some k):v=kV k:=by
 cases d with
 | int i=>cases e;exact h
 | str i=>cases e;exact h
 | _=>cases e
def Rc:∀ {xs:List V} {ds:List D} {ks:List Key},HC K H io xs ds->keysOf ds=some ks->xs=ks.map kV
 | _,[],ks,h,e=>by cases e;exact h
 | _,d::ds,ks,h,e=>by obtain⟨y,ys,rfl,h1,h2⟩:=h;obtain⟨k,e1,e⟩:=HK e;obtain⟨ks',e2,e⟩:=Ip e;subst e;rw[TZ h1 e1,Rc h2 e2];rfl
def look(st:HB)(n:Nat)(k:D):Option (Option D):=match st[n]? with
 | some (.dk kvs)=>(keyOf k).map fun q=>Ir kvs q
 | some (.dt kvs)=>match k with
   | .tup ds=>(keysOf ds).map fun q=>Ir kvs q
   | _=>none
 | _=>none
def V5{k:D}{r:Option D}(S:HN K H io st)(hp:io[n]?=some p)(ry:Rep K H io y k)(h:look st n k=some r):∃ o,IU H p y o/\((r=none/\o=none)\/∃ d v,r=some d/\o=some v/\Rep K H io v d):=by
 unfold look at h
 split at h
 . rename_i kvs e;obtain⟨q,e1,h⟩:=Ip h;subst h;obtain⟨ps,hH,r⟩:=S.ob n p _ hp e;have ey:=TZ ry e1;subst ey;refine⟨_,IU.k hH,?_⟩
   rcases KR.val r q with ⟨h1,h2⟩ | ⟨d,v,h1,h2,h3⟩
   . exact .inl ⟨h1,h2⟩
   exact .inr ⟨d,v,h1,h2,h3⟩
 . rename_i kvs e
   split at h
   . rename_i ds;obtain⟨q,e1,h⟩:=Ip h;subst h;obtain⟨ps,hH,r⟩:=S.ob n p _ hp e;obtain⟨b,xs,rfl,hb,rs⟩:=ry;have ex:=Rc rs e1;subst ex;refine⟨_,IU.t hH hb,?_⟩
     rcases KR.val r q with ⟨h1,h2⟩ | ⟨d,v,h1,h2,h3⟩
     . exact .inl ⟨h1,h2⟩
     exact .inr ⟨d,v,h1,h2,h3⟩
   . cases h
 . cases h
def Ym(md mk:ME):ME:=fun ρ st=>(md ρ st).bind fun (d,s1)=>(mk ρ s1).bind fun (k,s2)=>match d with
 | .ref n=>(look s2 n k).bind fun r=>r.map fun v=>(v,s2)
 | _=>none
def oR(hu:X.A.units+1 < cLine)(ho:SE X o md)(hi:SE X i mk)(hs:MY i:=by intro _ _;rfl):SE X (.Subscript o i pos) (Ym md mk):=PE.imp (Zt hu ho hi hs) <| by
 rintro σ H Q ⟨ρ,st,io,d,st',E,S,e,k⟩;obtain⟨⟨x,s1⟩,e1,e⟩:=HK e;obtain⟨⟨y,s2⟩,e2,e⟩:=HK e
 cases x with
 | ref n =>
   obtain⟨r,e3,e⟩:=HK e;obtain⟨w,e4,e⟩:=Ip e;cases e;subst e4;refine⟨ρ,st,io,_,s1,E,S,e1,fun v1 H1 k1 X1 S1 R1=>⟨ρ,s1,io++k1,y,_,E.ext S X1,S1,e2,fun v2 H2 k2 X2 S2 R2=>?_⟩⟩;obtain⟨p,rfl,hp⟩:=R1;obtain⟨o,g,⟨z,_⟩ | ⟨d',v,hd,hv,rv⟩⟩:=V5 S2 (Nz hp) R2 e3
   . cases z
   . cases hd;subst hv;exact⟨p,v,rfl,g,((k.on S1 X1).on S2 X2).now S2 rv⟩
 | _=>cases e
def Ln(neg:Bool)(mk md:ME):ME:=fun ρ st=>(mk ρ st).bind fun (k,s1)=>(md ρ s1).bind fun (d,s2)=>match d with
 | .ref n=>(look s2 n k).map fun r=>(.bl (if neg then !r.isSome else r.isSome),s2)
 | _=>none
def Wc{neg:Bool}(h:tE K (Ln neg mk md) σ H Q):tE K mk σ H fun y H1=>tE K md σ H1 fun x H2=>∃ a o,x=.ref a/\IU H2 a y o/\Q (.bl<|if neg then !o.isSome else o.isSome) H2:=by
 obtain⟨ρ,st,io,d,st',E,S,e,k⟩:=h;obtain⟨⟨y,s1⟩,e1,e⟩:=HK e;obtain⟨⟨x,s2⟩,e2,e⟩:=HK e
 cases x with
 | ref n =>
   obtain⟨r,e3,e⟩:=Ip e;cases e;refine⟨ρ,st,io,y,s1,E,S,e1,fun v1 H1 k1 X1 S1 R1=>⟨ρ,s1,io++k1,_,_,E.ext S X1,S1,e2,fun v2 H2 k2 X2 S2 R2=>?_⟩⟩;obtain⟨p,rfl,hp⟩:=R2;obtain⟨o,g,z⟩:=V5 S2 hp (R1.ext S1 X2) e3;have:o.isSome=r.isSome:=by
     rcases z with ⟨a,b⟩ | ⟨d',v,a,b,_⟩
     . rw[a,b];rfl
     rw[a,b];rfl
   exact⟨p,o,rfl,g,by rw[this];exact ((k.on S1 X1).on S2 X2).now S2 rfl⟩
 | _=>cases e
def xE(hu:X.A.units+1 < cLine)(hi:SE X i mk)(ho:SE X o md)(hm:behindInMarks .NotIn o=false:=by rfl):SE X (.Compare i [.NotIn] [o] pos) (Ln true mk md):=PE.imp (kT (aX hu hi ho) hm) fun σ H Q h=>Wc h
variable {lo hi:Option Os}{apos cpos p2:Pos}
def jR(hu:X.A.units+1 < cLine)(hi:SE X i mk)(ho:SE X o md)(hm:behindInMarks .In o=false:=by rfl):SB X (.Compare i [.In] [o] pos) (mT<|Ln false mk md) :=
 PT.imp (YF (kR hu hi ho) hm) fun σ H Q h=>Wc (Rh h)
def yH(hu:X.A.units+1 < cLine)(hi:SE X i mk)(ho:SE X o md)(hm:behindInMarks .NotIn o=false:=by rfl):SB X (.Compare i [.NotIn] [o] pos) (mT<|Ln true mk md) :=
 PT.imp (YF (aX hu hi ho) hm) fun σ H Q h=>Wc (Rh h)
def dput(st:HB)(n:Nat)(k d:D):Option HB:=match st[n]? with
 | some (.dk kvs)=>(keyOf k).bind fun q=>if decide (kvs.length < sizeLine)=true then some (st.set n<|.dk<|putD kvs q d) else none
 | some (.dt kvs)=>match k with
   | .tup ds=>(keysOf ds).bind fun q=>if decide (kvs.length < sizeLine)=true then some (st.set n<|.dt<|putD kvs q d) else none
   | _=>none
 | _=>none
def qL{k:D}(S:HN K H io st)(hp:io[n]?=some p)(ry:Rep K H io y k)(rv:Rep K H io v d)(h:dput st n k d=some st'):∃ H',Kv H p y v H'/\Ext io [] H H'/\HN K H' (io++[]) st':=by
 unfold dput at h
 split at h
 . rename_i kvs e;obtain⟨q,e1,h⟩:=HK h;obtain⟨hl,h⟩:=IJ h;cases h;obtain⟨ps,hH,r⟩:=S.ob n p _ hp e;have ey:=TZ ry e1;subst ey;have:=KR.length r;refine⟨_,Kv.k hH (by rw[this];exact of_decide_eq_true hl),?_⟩;exact Ow S hp e (fun o u z=>by rw[hH] at z;cases z) fun H' T e'=>⟨_,e',KR.put (KR.mono T r) q<|Rep.mono T rv⟩
 . rename_i kvs e
   split at h
   . rename_i ds;obtain⟨q,e1,h⟩:=HK h;obtain⟨hl,h⟩:=IJ h;cases h;obtain⟨ps,hH,r⟩:=S.ob n p _ hp e;obtain⟨b,xs,rfl,hb,rs⟩:=ry;have ex:=Rc rs e1;subst ex;have:=KR.length r;refine⟨_,Kv.t hH hb (by rw[this];exact of_decide_eq_true hl),?_⟩;exact Ow S hp e (fun o u z=>by rw[hH] at z;cases z) fun H' T e'=>⟨_,e',KR.put (KR.mono T r) q<|Rep.mono T rv⟩
   . cases h
 . cases h
def Nr(md mk mv:ME):MS:=fun ρ st=>(mv ρ st).bind fun (v,s1)=>(md ρ s1).bind fun (d,s2)=>(mk ρ s2).bind fun (k,s3)=>match d with
 | .ref n=>(dput s3 n k v).map fun s4=>(.nx ρ,s4)
 | _=>none
def qR{value:Os}{mv:ME}(hu:X.A.units+1 < cLine)(ho:SE X o md)(hi:SE X i mk)(hv:SE X value mv)(hs:swapsWith value (some<|.Subscript o i pos') pos.line X.env=pure false:=by rfl) :
   SS X (.Assign [.Subscript o i pos'] value pos) (Nr md mk mv):=PS.imp (nZ hu ho hi hv hs) fun N σ H h=>by
 obtain⟨ρ,st,io,f,st',E,S,e,w⟩:=Lf.mp h;obtain⟨⟨v,s1⟩,e1,e⟩:=HK e;obtain⟨⟨d,s2⟩,e2,e⟩:=HK e;obtain⟨⟨k,s3⟩,e3,e⟩:=HK e
 cases d with
 | ref n =>
   obtain⟨s4,e4,e⟩:=Ip e;cases e;refine⟨ρ,st,io,v,s1,E,S,e1,fun v1 H1 k1 X1 S1 R1=>⟨ρ,s1,io++k1,_,s2,E.ext S X1,S1,e2,fun v2 H2 k2 X2 S2 R2=>⟨ρ,s2,(io++k1)++k2,k,s3,(E.ext S X1).ext S1 X2,S2,e3,fun v3 H3 k3 X3 S3 R3=>?_⟩⟩⟩;obtain⟨p,rfl,hp⟩:=R2;obtain⟨H4,g,X4,S4⟩:=qL S3 (Nz hp) R3 ((R1.ext S1 X2).ext S2 X3) e4;refine⟨p,H4,rfl,g,?_⟩;have w3:∀ σ' H' kb,Ext (((io++k1)++k2)++k3) kb H3 H'->_:=Ou (Ou (Ou w X1 S1) X2 S2) X3 S3;exact w3 σ H4 [] X4 S4<|(((E.ext S X1).ext S1 X2).ext S2 X3).ext S3 X4
 | _=>cases e
def Nq(t:Bool):ME:=fun _ st=>some (.ref st.length,st++[if t then .dt [] else .dk []])
def vD:SE X (.Dict [] [] pos) (Nq false):=PE.imp rV <| by
 rintro σ H Q ⟨ρ,st,io,d,st',E,S,e,k⟩;cases e;intro p hp;obtain⟨E',S'⟩:=O4 (o:=.dK []) (ob:=.dk []) S hp fun H' T e=>⟨[],e,.nil⟩
 exact k _ _ [p] E' S' ⟨p,rfl,by rw[<-S.len];exact getElem?_len io p⟩
def aC:SE X (.Dict [] [] pos) (Nq true):=PE.imp rW <| by
 rintro σ H Q ⟨ρ,st,io,d,st',E,S,e,k⟩;cases e;intro p hp;obtain⟨E',S'⟩:=O4 (o:=.dT []) (ob:=.dt []) S hp fun H' T e=>⟨[],e,.nil⟩
 exact k _ _ [p] E' S' ⟨p,rfl,by rw[<-S.len];exact getElem?_len io p⟩
inductive UD (K:Ac) (g:D->List D->HB->Option (D×HB)) (x:V) (xs:List V) (H:Hp) (Q:VK):Prop
 | mk (dx:D) (ds:List D) (st:HB) (io:List Addr) (d:D) (st':HB) (h0:Rep K H io x dx) (h1:HC K H io xs ds) (h2:HN K H io st) (h3:g dx ds st=some (d,st')) (h4:Bh K io H st' d Q)
def Nc:D->List D->HB->Option (D×HB):=fun x xs st=>match x,xs with
 | .ref n,[d]=>match st[n]? with
   | some (.lst ds)=>if decide (ds.length < sizeLine)=true then some (.non,st.set n (.lst<|ds++[d])) else none
   | _=>none
 | _,_=>none
def append_in{ds:List D}{xs:List D}(h:Nc (.ref n) xs st=some (d,st')):∃ ds x,st[n]?=some (.lst ds)/\xs=[x]/\ds.length < sizeLine/\d=.non/\st'=st.set n (.lst<|ds++[x]):=by
 unfold Nc at h
 match xs,h with
 | [x],h =>
   dsimp only at h
   split at h
   . rename_i ds e;obtain⟨hl,h⟩:=IJ h;cases h;exact⟨ds,x,e,rfl,of_decide_eq_true hl,rfl,rfl⟩
   . cases h
 | [],h=>cases h
 | _::_::_,h=>cases h
def yN:Sg X "list.append" (UD X.K Nc):=by
 rintro qp s σ H x xs v us Q I rx rs ⟨dx,ds,st,io,d,st',Rx,Rs,S,e,k⟩
 cases dx with
 | ref n =>
   obtain⟨l,y,e1,rfl,hl,rfl,rfl⟩:=append_in (ds:=[]) e;obtain⟨p,rfl,hp⟩:=Rx;obtain⟨w,rfl,Rw⟩:=Rs.one;obtain⟨ys,hH,r⟩:=S.ob n p _ hp e1;refine aS qp s σ H _ _ v us Q I rx rs ⟨p,ys,w,rfl,rfl,hH,by rw[r.length];exact hl,?_⟩;obtain⟨E',S'⟩:=Ow (o:=.lst (ys++[w])) (ob:=.lst (l++[y])) S hp e1 (fun o u z=>by rw[hH] at z;cases z) fun H' T e'=>⟨_,e',(HC.mono T r).append<|HC.cons (Rep.mono T Rw) HC.nil⟩
   exact k _ _ [] E' S' rfl
 | _=>unfold Nc at e;cases ds <;> cases e
def V2{l:List D}(R:Rep K H io v (.ref n))(S:HN K H io st)(h:Ik st n=some l):W2 K "list" v H:=by obtain⟨p,rfl,hp⟩:=R;obtain⟨xs,hx,_⟩:=Ky S hp h;exact .inl ⟨rfl,xs,hx⟩
def JL(m:ME)(mm:MA):ME:=fun ρ st=>(m ρ st).bind fun (x,s1)=>match x with
 | .ref n=>(Ik s1 n).bind fun _=>(mm ρ s1).bind fun (xs,s2)=>Nc x xs s2
 | _=>none
def Pn(ho:SE X o m)(ha:SA X (e::es) mm)
   (hbase:attributeBase o "append" X.env (W1 o X.env)=W1 o X.env:=by rfl)
   (hfew:((backTo cpos<|P3 (e::es) X.env).all (fun x=>!x.1)&&(backToKw cpos<|keywordEach [] X.env).all (fun x=>x.1.isSome)
    &&decide ((e::es).length+([]:List Keyword).length+(if ([]:List Keyword).isEmpty then 0 else 1) < 30))=true:=by rfl)
   (hline:(apos.endLine==cpos.line)=true:=by rfl) (hs:Qqb X.env e es:=by rfl) (hplain:Qqc cpos es X.env:=by rfl) :
   SE X (.Call (.Attribute o "append" apos) (e::es) [] cpos) (JL m mm) :=
 PE.imp (Sv Do PySem.F.slot_list_append PySem.F.type_list_append yN ho ha hbase hfew hline hs hplain) <| by
   rintro σ H Q ⟨ρ,st,io,d,st',E,S,e,k⟩;obtain⟨⟨x,s1⟩,e1,e⟩:=HK e
   cases x with
   | ref n =>
     obtain⟨l,e0,e⟩:=HK e;obtain⟨⟨xs,s2⟩,e2,e⟩:=HK e;refine⟨ρ,st,io,_,s1,E,S,e1,fun v1 H1 k1 X1 S1 R1=>⟨V2 R1 S1 e0,ρ,s1,io++k1,xs,s2,E.ext S X1,S1,e2,fun vs H2 k2 X2 S2 R2=>?_⟩⟩;exact⟨_,xs,s2,(io++k1)++k2,d,st',R1.ext S1 X2,R2,S2,e,(k.on S1 X1).on S2 X2⟩
   | _=>cases e
noncomputable abbrev MO:=Ie->HB->Option (Option Int×HB)
inductive tOm (K:Ac) (m:MO) (σ:L2.St) (H:Hp) (Q:Option Int->Hp->Prop):Prop
 | mk (ρ:Ie) (st:HB) (io:List Addr) (d:Option Int) (st':HB) (h1:HQ K H io σ ρ) (h2:HN K H io st) (h3:m ρ st=some (d,st')) (h4:∀ H' ka,Ext io ka H H'->HN K H' (io++ka) st'->Q d H')
def SO(X:Cx)(e:Option Os)(m:MO):Prop:=PO X e<|tOm X.K m
def Lb:MO:=fun _ st=>some (none,st)
def Lc(m:ME):MO:=fun ρ st=>(m ρ st).bind fun (d,s)=>match d with
 | .int i=>some (some i,s)
 | _=>none
def Pf:SO X none Lb:=fun qp s σ H Q I ⟨ρ,st,io,d,st',E,S,e,k⟩=>nW qp s σ H Q I (by cases e;exact k H [] Ext.refl S.nil)
def Pg(h:SE X e m):SO X (some e) (Lc m):=fun qp s σ H Q I ⟨ρ,st,io,d,st',E,S,e,k⟩=>nX h qp s σ H Q I (by
 obtain⟨⟨x,s1⟩,e1,e⟩:=HK e
 cases x with
 | int i =>
   cases e;exact⟨ρ,st,io,_,_,E,S,e1,fun v1 H1 k1 X1 S1 R1=>⟨i,R1,k H1 k1 X1 S1⟩⟩
 | _=>cases e)
def cutD(xs:List D)(lo hi:Option Int):List D:=(xs.drop<|HT.Ih xs.length 0 lo).take<|HT.Ih xs.length xs.length hi - HT.Ih xs.length 0 lo
def VD(r:HC K H io xs ds)(lo hi:Option Int):HC K H io (K4 xs lo hi) (cutD ds lo hi):=by unfold K4 cutD;rw[r.length];exact (r.drop _).take _
def Pt:D->Option Int->Option Int->HB->Option (D×HB):=fun x lo hi st=>match x with
 | .tup ds=>if (decide (HT.Ih ds.length 0 lo=0)&&decide (HT.Ih ds.length ds.length hi=ds.length))=true then none else some (.tup (cutD ds lo hi),st)
 | .ref n=>(Ik st n).map fun ds=>(.ref st.length,st++[.lst (cutD ds lo hi)])
 | _=>none
def eE(m:ME)(l h:MO):ME:=fun ρ st=>(m ρ st).bind fun (x,s1)=>(l ρ s1).bind fun (lo,s2)=>(h ρ s2).bind fun (hi,s3)=>Pt x lo hi s3
def Xo(K:Ac):V->Option Int->Option Int->Hp->VK->Prop:=fun x lo hi H Q=>RE K x lo hi H Q\/RF K x lo hi H Q
def Xh:QB X (Xo X.K):=by
 intro qp s σ H x v vl vu lo hi sl Q I rx hs pl pu h
 rcases h with h | h
 . exact kG qp s σ H x v vl vu lo hi sl Q I rx hs pl pu h
 exact Zl qp s σ H x v vl vu lo hi sl Q I rx hs pl pu h
def vE{ml mh:MO}(he:SE X e m)(hl:SO X lo ml)(hu:SO X hi mh):SE X (.Subscript e (.Slice lo hi none p2) pos) (eE m ml mh):=PE.imp (TX Xh he hl hu) <| by
 rintro σ H Q ⟨ρ,st,io,d,st',E,S,e,k⟩;obtain⟨⟨x,s1⟩,e1,e⟩:=HK e;obtain⟨⟨lo',s2⟩,e2,e⟩:=HK e;obtain⟨⟨hi',s3⟩,e3,e⟩:=HK e;refine⟨ρ,st,io,x,s1,E,S,e1,fun v1 H1 k1 X1 S1 R1=>⟨ρ,s1,io++k1,lo',s2,E.ext S X1,S1,e2,fun H2 k2 X2 S2=>⟨ρ,s2,(io++k1)++k2,hi',s3,(E.ext S X1).ext S1 X2,S2,e3,fun H3 k3 X3 S3=>?_⟩⟩⟩;have R3:=(R1.ext S1 X2).ext S2 X3;have k':=((k.on S1 X1).on S2 X2).on S3 X3
 cases x with
 | tup ds =>
   have e:(if (decide (HT.Ih ds.length 0 lo'=0)&&decide (HT.Ih ds.length ds.length hi'=ds.length))=true then none else some (D.tup (cutD ds lo' hi'),s3))=some (d,st'):=e
   by_cases hw:(decide (HT.Ih ds.length 0 lo'=0)&&decide (HT.Ih ds.length ds.length hi'=ds.length))=true
   . rw[if_pos hw] at e;cases e
   rw[if_neg hw] at e;cases e;obtain⟨p,xs,rfl,hp,r⟩:=R3;refine .inl ⟨p,xs,rfl,IQ.of hp,fun z=>hw ?_,fun q hq=>k'.tup S3 (VD r _ _) hq⟩;rw[r.length] at z;rw[Ar];exact⟨decide_eq_true z.1,decide_eq_true z.2⟩
 | ref n =>
   obtain⟨ds,e0,e⟩:=Ip e;cases e;obtain⟨p,rfl,hp⟩:=R3;obtain⟨xs,hx,r⟩:=Ky S3 hp e0;exact .inr ⟨p,xs,rfl,hx,fun q hq=>k'.lst S3 (VD r _ _) hq⟩
 | _=>cases e
def Mn:G2:=intD (fun _ j=>decide (0 < j)&&decide (j < 2 ^ 128)) fun i j=>.int<|i / j
def Q9:IZ X (binaryOp .FloorDiv) Mn:=Qn (C:=fun i j=>0 < j/\j < 2 ^ 128) (RM fun i j _ _ _ _ _ hc q=>by
 refine floordiv_int (by omega) (by rw[Int.fdiv_eq_ediv_of_nonneg i (by omega)];exact q)<|.inl<|PyProof.noPylong_of_log2 ?_;have h0:j.natAbs≠0:=by omega
 have h1:j.natAbs < 2 ^ 128:=by omega
 exact B9 ((Gk h0).mpr h1) (by decide)) fun i j h=>by rw[Ar] at h;exact⟨of_decide_eq_true h.1,of_decide_eq_true h.2⟩
def IP:G2:=intD (fun i j=>decide (0<=j)&&decide ((Bw i:Int)*j<=2 ^ 27)) fun i j=>.int<|i ^ j.toNat
def Q4:IZ X (binaryOp .Pow) IP:=Qn (C:=fun i j=>0<=j/\(Bw i:Int)*j<=2 ^ 27) (RM fun i j _ _ _ _ _ hc q=>pow_int hc.1 hc.2 q) fun i j h=>by rw[Ar] at h;exact⟨of_decide_eq_true h.1,of_decide_eq_true h.2⟩
def JZ(t T:String):Bool:=t==T || (t=="bool"&&T=="int")
def sorts:List String:=["NoneType","bool","int","str","tuple","list","dict"]
def kinds:List String:=["bool","int","str","tuple","list","dict"]
variable {t:String}
def pT(ht:t∈sorts)(hT:T∈kinds):GU K (.type t) (.type T)=some (JZ t T):=by
 have all:∀ t∈sorts,∀ T∈kinds,GU K (.type t) (.type T)=some (JZ t T):=by
   intro t ht T hT;simp only[sorts,kinds,AW,AS,or_false] at ht hT
   rcases ht with rfl | rfl | rfl | rfl | rfl | rfl | rfl <;> rcases hT with rfl | rfl | rfl | rfl | rfl | rfl <;> rfl
 exact all t ht T hT
def tyName(st:HB):D->Option String
 | .non=>some "NoneType"
 | .bl _=>some "bool"
 | .int _=>some "int"
 | .str _=>some "str"
 | .tup _=>some "tuple"
 | .ref n=>match st[n]? with
   | some (.lst _)=>some "list"
   | some (.fz _)=>some "list"
   | some (.dk _)=>some "dict"
   | some (.dt _)=>some "dict"
   | some .dz=>some "dict"
   | _=>none
 | .kl _=>none
 | .fn _=>none
 | .er _ _ _=>none
def ZR(I:Inv X qp σ H s)(h:JB X.K H p xs):Ea p "list" s.heap:=by obtain⟨its,_,⟨o,n,e,c,_,_⟩,_⟩:=I.list h;exact⟨o,e,c⟩
def vR{ps:List (Key×V)}(I:Inv X qp σ H s)(h:H p=some (.dK ps)):Ea p "dict" s.heap:=by obtain⟨_,_,_,_,o,_,_,e,ex,_⟩:=I.hok p _ h;exact⟨o,e,ex.1⟩
def vS{ps:List (List Key×V)}(I:Inv X qp σ H s)(h:H p=some (.dT ps)):Ea p "dict" s.heap:=by obtain⟨_,_,_,_,o,_,_,e,ex,_⟩:=I.hok p _ h;exact⟨o,e,ex.1⟩
def iQ(I:Inv X qp σ H s)(h:H p=some (.ext<|eM p)):Ea p "dict" s.heap:=by obtain⟨⟨o,_,_,e,ex,_⟩,_⟩:=I.hok p _ h;exact⟨o,e,ex.1⟩
def mQ{u:IR}{Q:Qqa}(I:Inv X qp σ H s)(S:HN X.K H io st)(R:Rep X.K H io v d)(r:RelV v u)(ht:tyName st d=some t)(hT:T∈kinds)
   (q:∀ tk,Q (.bool<|JZ t T) { s with toks:=tk }):wpAny (KB X.prog X.w) X.A (call (.builtin "isinstance") [u,.type T]) Q E s:=by
 have k:=fun {x:IR} {HH:KM->Prop} (hs:t∈sorts) (Z:PySem.W.KitX X.K x (.type t) HH) (p:HH s.heap) (hx:x≠.builtin "__main__.__loader__#opaque")=>PySem.W.kia_one (prog:=X.prog) (w:=X.w) (A:=X.A) (E:=E) Z I.kIn p (pT hs hT) hx q
 cases d with
 | non=>cases ht;cases (show v=.non from R);cases r;exact k (by decide) PySem.W.kitx_none trivial (by intro e;cases e)
 | bl b=>cases ht;cases (show v=.bl b from R);cases r;exact k (by decide) PySem.W.kitx_bool trivial (by intro e;cases e)
 | int b=>cases ht;cases (show v=.int b from R);obtain⟨t,rfl⟩:=r;exact k (by decide) PySem.W.kitx_int trivial (by intro e;cases e)
 | str b=>cases ht;cases (show v=.str b from R);obtain⟨t,rfl⟩:=r;exact k (by decide) PySem.W.kitx_str trivial (by intro e;cases e)
 | tup ds =>
   cases ht;obtain⟨p,xs,rfl,hp,_⟩:=R;cases r;obtain⟨its,_,⟨o,e,c,_⟩,_⟩:=I.tuple<|IQ.of hp;exact k (by decide) PySem.W.kitx_tuple ⟨o,e,c⟩ (by intro e;cases e)
 | ref n =>
   obtain⟨p,rfl,hp⟩:=R;cases r;unfold tyName at ht;dsimp only at ht
   split at ht
   . rename_i o e;cases ht;obtain⟨xs,hH,_⟩:=S.ob n p _ hp e;exact k (by decide) F9 (ZR I<|JB.of hH) (by intro e;cases e)
   . rename_i o e;cases ht;obtain⟨ob,xs,hH,_⟩:=S.ob n p _ hp e;exact k (by decide) F9 (ZR I<|.inl<|.inr ⟨ob,hH⟩) (by intro e;cases e)
   . rename_i o e;cases ht;obtain⟨xs,hH,_⟩:=S.ob n p _ hp e;exact k (by decide) Ei (vR I hH) (by intro e;cases e)
   . rename_i o e;cases ht;obtain⟨xs,hH,_⟩:=S.ob n p _ hp e;exact k (by decide) Ei (vS I hH) (by intro e;cases e)
   . rename_i e;cases ht;exact k (by decide) Ei (iQ I<|S.ob n p _ hp e) (by intro e;cases e)
   . cases ht
 | kl ds=>cases ht
 | fn ds=>cases ht
 | er _ _ _=>cases ht
def Xs(K:Ac)(T:String):List V->Hp->VK->Prop:=fun xs H Q=>∃ x d st io t,xs=[x,.ty T]/\Rep K H io x d/\HN K H io st/\tyName st d=some t/\Q (.bl<|JZ t T) H
def qF(hT:T∈kinds):Mj X (.builtin "isinstance") (Xs X.K T):=by rintro qp s σ H xs us Q I r ⟨x,d,st,io,t,e,R,S,ht,q⟩;subst e;obtain⟨u,w,rfl,ru,rw'⟩:=r.two;cases rw';exact mQ I S R ru ht hT fun tk=>⟨.bl _,H,I.tok tk,rfl,q⟩
def KZ(T:String)(m:ME):ME:=fun ρ st=>(m ρ st).bind fun (x,s)=>(tyName s x).map fun t=>(.bl (JZ t T),s)
def jV{x y:Str}{p:Pos}(hT:T∈kinds)(hg:Gl X "isinstance")(hm:X.mg "isinstance"=none)(ha:SE X a m)(hgy:Gl X y)(hmy:X.mg y=none)(hvy:UV y=some (.type T))(hny:y≠"__name__":=by decide)(hdy:(y==("__debug__":Str))=false:=by decide)
   (hs:P3 [a,.Name y p2] X.env=(false,W1 a X.env)::P3 [.Name y p2] X.env:=by rfl) (hs2:P3 [.Name y p2] X.env=[(false,W1 (.Name y p2) X.env)]:=by rfl) (hpl:(backTo pos<|P3 [.Name y p2] X.env).any (·.1)=false:=by rfl) :
   SE X (.Call (.Name "isinstance" p) [a,.Name y p2] [] pos) (KZ T m) :=
 PE.imp (TV (qF hT) hg hm (by decide +kernel) (Pd ha (Pd (Zi (v:=.ty T) hgy hmy hvy rfl hny hdy) QT hs2) hs) (by decide) (by decide) hs hpl) <| by rintro σ H Q ⟨ρ,st,io,d,st',E,S,e,k⟩;obtain⟨⟨x,s1⟩,e1,e⟩:=HK e;obtain⟨t,e2,e⟩:=Ip e;cases e;exact⟨ρ,st,io,x,_,E,S,e1,fun v1 H1 k1 X1 S1 R1=>⟨v1,x,_,io++k1,t,rfl,R1,S1,e2,k _ H1 k1 X1 S1 rfl⟩⟩
def Wo{α:Type}{le:α->α->Prop}:∀ {l1 l2:List α},l1.Perm l2->l1.Pairwise le->l2.Pairwise le->(∀ a∈l1,∀ b∈l1,le a b->le b a->a=b)->l1=l2
 | [],l2,p,_,_,_=>(List.Perm.nil_eq p)
 | a::l1,[],p,_,_,_=>absurd p.symm (by intro h;have:=h.length_eq;simp at this)
 | a::l1,b::l2,p,h1,h2,an=>by
   obtain⟨ha,h1'⟩:=List.pairwise_cons.mp h1;obtain⟨hb,h2'⟩:=List.pairwise_cons.mp h2;have e:a=b:=by
     have m1:a∈b::l2:=p.mem_iff.mp Ao;have m2:b∈a::l1:=p.mem_iff.mpr Ao
     rcases M2.mp m1 with q | q
     . exact q
     . rcases M2.mp m2 with r | r
       . exact r.symm
       exact an a Ao b (Ak _ r) (ha b r)<|hb a q
   subst e;rw[Wo ((List.perm_cons a).mp p) h1' h2' fun x hx y hy=>an x (Ak _ hx) y (Ak _ hy)]
def sle(a b:Str):Bool:=!decide (b.cps.toList < a.cps.toList)
def OA(ss:List Str):List Str:=ss.mergeSort sle
def qV{a b:Str}(h:a.cps.toList=b.cps.toList):a=b:=by
 obtain⟨x⟩:=a;obtain⟨y⟩:=b;have:x=y:=by have h':x.toList=y.toList:=h;exact Array.toList_inj.mp h'
 rw[this]
def xQ(a b:Str):(sle a b || sle b a)=true:=by
 unfold sle;rw[DJ,BN,BN,decide_eq_false_iff_not,decide_eq_false_iff_not]
 by_cases h:b.cps.toList < a.cps.toList
 . exact .inr<|List.lt_asymm h
 exact .inl h
def aD(a b c:Str)(h1:sle a b=true)(h2:sle b c=true):sle a c=true:=by unfold sle at *;rw[BN,decide_eq_false_iff_not] at *;have h1:a.cps.toList<=b.cps.toList:=h1;have h2:b.cps.toList<=c.cps.toList:=h2;exact List.le_trans h1 h2
def vJ{a b:Str}(h1:sle a b=true)(h2:sle b a=true):a=b:=by unfold sle at *;rw[BN,decide_eq_false_iff_not] at *;exact qV<|List.le_antisymm h1 h2
def cE:∀ {ss:List Str} {p:Str},risingS p ss=true->(p::ss).Pairwise fun a b=>sle a b=true
 | [],p,_=>by simp
 | s::ss,p,h=>by
   have h':(!ltCps s.cps.toList p.cps.toList&&risingS s ss)=true:=h;rw[Ar] at h';have ih:=cE h'.2;have hps:sle p s=true:=by have:=h'.1;rw[ltCps_eq] at this;exact this
   refine List.pairwise_cons.mpr ⟨fun x hx=>?_,ih⟩
   rcases M2.mp hx with rfl | hx
   . exact hps
   exact aD _ _ _ hps<|(List.pairwise_cons.mp ih).1 x hx
variable {ss:List Str}
def dA{ss':List Str}(p:ss'.Perm ss)(h:sortedS ss'=true):ss'=OA ss:=by
 have hp:ss'.Pairwise fun a b=>sle a b=true:=by
   cases ss' with
   | nil=>exact Dq
   | cons x r=>exact cE h
 refine Wo (p.trans (C2 ss sle).symm) hp (EK (fun a b c=>aD a b c) xQ ss) fun a _ b _=>vJ
def strsOf:List D->Option (List Str)
 | []=>some []
 | .str x::r=>(strsOf r).map fun xs=>x::xs
 | _=>none
def cJ{r:List D}(h:strsOf (d::r)=some ss):∃ x xs,d=.str x/\strsOf r=some xs/\ss=x::xs:=by
 cases d with
 | str x =>
   obtain⟨xs,e,h⟩:=Ip h;exact⟨x,xs,rfl,e,h.symm⟩
 | _=>cases h
def cP(ss:List Str):strsOf (ss.map D.str)=some ss:=by
 induction ss with
 | nil=>rfl
 | cons x r ih=>show (strsOf<|r.map D.str).map _=_;rw[ih];rfl
def VY:∀ {xs:List V} {us:List IR} {ds:List D} {ss:List Str},HC K H io xs ds->Vals xs us->strsOf ds=some ss->StrsAre us ss
 | _,_,[],ss,h,r,e=>by cases (show _=[] from h);cases r;cases e;exact .nil
 | _,_,d::ds,ss,h,r,e=>by
   obtain⟨y,ys,rfl,h1,h2⟩:=h;obtain⟨x,rest,rfl,e2,rfl⟩:=cJ e
   cases r with
   | cons r1 r2 =>
     cases (show y=.str x from h1)
     obtain⟨t,rfl⟩:=r1;exact .cons x t<|VY h2 r2 e2
def T3:∀ {us:List IR} {ss:List Str},StrsAre us ss->Vals (ss.map V.str) us
 | _,_,.nil=>.nil
 | _,_,.cons y t r=>.cons ⟨t,rfl⟩<|T3 r
def aH(ss:List Str):HC K H io (ss.map V.str) (ss.map D.str):=by
 induction ss with
 | nil=>exact rfl
 | cons x r ih=>exact HC.cons rfl ih
def MJ(h:n < 64):n<=sizeLine:=Az (BQ h)<|by decide
def Qp:GN
 | [.ref n],st=>(Ik st n).bind fun ds=>(strsOf ds).bind fun ss=>if decide (ss.length < 64)=true then some (.ref st.length,st++[.lst ((OA ss).map D.str)]) else none
 | _,_=>none
def zfs:J4 X (.builtin "sorted") Qp:=by
 rintro qp s σ H xs us Q I r ⟨ds,st,io,d,st',R,S,e,k⟩;unfold Qp at e
 split at e
 . rename_i n;obtain⟨ts,e0,e⟩:=HK e;obtain⟨ss,e1,e⟩:=HK e;obtain⟨hl,e⟩:=IJ e;cases e;have hl:=of_decide_eq_true hl;obtain⟨v,rfl,p,rfl,hp⟩:=R.one;obtain⟨u,rfl,ru⟩:=r.one;cases ru;obtain⟨ys,hx,r1⟩:=Ky S hp e0;obtain⟨its,rv,pl,hz⟩:=I.list hx;have hS:=VY r1 rv e1;have hlen:its.length=ss.length:=by
     have h1:=rv.length;have h2:=(T3 hS).length;rw[Af] at h2;omega
   refine sorted_strs pl.isList hS (by omega) fun out ss' a1 a2 a3=>?_;have es:=dA a2 a3;obtain⟨ep,hat⟩:=sortedAll_at s.heap its out;have hv:=T3 a1;have hfree:H (s.heap.objs.size+1)=none:=I.hok.fresh<|BR _;have hlen':(ss'.map V.str).length<=sizeLine:=by rw[Af,a2.length_eq];exact MJ hl
   refine⟨.ref<|s.heap.objs.size+1,upd H (s.heap.objs.size+1)<|.lst<|ss'.map V.str,I.laid (t':=s.toks) (a:=s.heap.objs.size+1) (fun b o q=>sortedAll_old q) (BR _) ⟨hlen',out.toList,ep,hv,by simpa using hat⟩,rfl,?_⟩;rw[es] at *;exact k.lst S (aH _) hfree
 . cases e
def P5:D->List D->HB->Option (D×HB):=fun x xs st=>match x,xs with
 | .str z,[.ref n]=>(Ik st n).bind fun ds=>(strsOf ds).bind fun ss=>if decide ((ss.map (·.length)).sum+ss.length*z.length<=16777216)=true then some (.str (Txt.join z ss),st) else none
 | _,_=>none
def tL:Sg X "str.join" (UD X.K P5):=by
 rintro qp s σ H x xs v us Q I rx rs ⟨dx,ds,st,io,d,st',Rx,Rs,S,e,k⟩;unfold P5 at e
 split at e
 . rename_i z n;obtain⟨ts,e0,e⟩:=HK e;obtain⟨ss,e1,e⟩:=HK e;obtain⟨hl,e⟩:=IJ e;cases e
   cases (show x=.str z from Rx)
   obtain⟨t,rfl⟩:=rx;obtain⟨w,rfl,p,rfl,hp⟩:=Rs.one;obtain⟨u,rfl,ru⟩:=rs.one;cases ru;obtain⟨ys,hx,r1⟩:=Ky S hp e0;obtain⟨its,rv,pl,hz⟩:=I.list hx;exact join_list pl.isList (VY r1 rv e1) (of_decide_eq_true hl) fun t' k'=>⟨.str _,H,I.tok k',⟨t',rfl⟩,k.now S rfl⟩
 . cases e
def UT(m:ME)(mm:MA):ME:=fun ρ st=>(m ρ st).bind fun (x,s1)=>match x with
 | .str _=>(mm ρ s1).bind fun (xs,s2)=>P5 x xs s2
 | _=>none
def oV(ho:SE X o m)(ha:SA X (e::es) mm)
   (hbase:attributeBase o "join" X.env (W1 o X.env)=W1 o X.env:=by rfl)
   (hfew:((backTo cpos<|P3 (e::es) X.env).all (fun x=>!x.1)&&(backToKw cpos<|keywordEach [] X.env).all (fun x=>x.1.isSome)
    &&decide ((e::es).length+([]:List Keyword).length+(if ([]:List Keyword).isEmpty then 0 else 1) < 30))=true:=by rfl)
   (hline:(apos.endLine==cpos.line)=true:=by rfl) (hs:Qqb X.env e es:=by rfl) (hplain:Qqc cpos es X.env:=by rfl) :
   SE X (.Call (.Attribute o "join" apos) (e::es) [] cpos) (UT m mm) :=
 PE.imp (Sv PySem.F.plainAttrs_str PySem.F.slot_str_join PySem.F.type_str_join tL ho ha hbase hfew hline hs hplain) <| by
   rintro σ H Q ⟨ρ,st,io,d,st',E,S,e,k⟩;obtain⟨⟨x,s1⟩,e1,e⟩:=HK e
   cases x with
   | str z =>
     obtain⟨⟨xs,s2⟩,e2,e⟩:=HK e;refine⟨ρ,st,io,_,s1,E,S,e1,fun v1 H1 k1 X1 S1 R1=>⟨by cases (show v1=.str z from R1);rfl,ρ,s1,io++k1,xs,s2,E.ext S X1,S1,e2,fun vs H2 k2 X2 S2 R2=>?_⟩⟩;exact⟨_,xs,s2,(io++k1)++k2,d,st',R1.ext S1 X2,R2,S2,e,(k.on S1 X1).on S2 X2⟩
   | _=>cases e
def Xn:V->Option Int->Option Int->Hp->VK->Prop:=fun x lo hi H Q=>∃ z,x=.str z/\z.length<=sizeLine/\Q (.str<|Txt.slice z lo hi) H
def kF:QB X Xn:=by
 rintro qp s σ H x v vl vu lo hi sl Q I rx hs pl pu ⟨z,e,hz,q⟩;subst e;obtain⟨t,rfl⟩:=rx;refine⟨"str",_,F.slot_str_getitem.lookup,GA _ _ _,?_⟩;have fin:∀ t' k,EP X qp σ Q (.str (Txt.slice z lo hi) t') { s with toks:=k }:=fun t' k=>⟨.str _,H,I.tok k,⟨t',rfl⟩,q⟩
 cases pl with
 | none =>
   cases pu with
   | none=>exact Cy (l:=none) (u:=none) (st:=none) hs rfl<|C8 ⟨Az (Txt.slice_le z _ _) hz,fin⟩
   | int j tj=>exact Cy (l:=none) (u:=some (j,tj)) (st:=none) hs rfl<|C8 ⟨Az (Txt.slice_le z _ _) hz,fin⟩
 | int i ti =>
   cases pu with
   | none=>exact Cy (l:=some (i,ti)) (u:=none) (st:=none) hs rfl<|C8 ⟨Az (Txt.slice_le z _ _) hz,fin⟩
   | int j tj=>exact Cy (l:=some (i,ti)) (u:=some (j,tj)) (st:=none) hs rfl<|C8 ⟨Az (Txt.slice_le z _ _) hz,fin⟩
def UB:D->Option Int->Option Int->HB->Option (D×HB):=fun x lo hi st=>match x with
 | .str z=>if fits z.length=true then some (.str (Txt.slice z lo hi),st) else none
 | _=>none
def RP(m:ME)(l h:MO):ME:=fun ρ st=>(m ρ st).bind fun (x,s1)=>(l ρ s1).bind fun (lo,s2)=>(h ρ s2).bind fun (hi,s3)=>UB x lo hi s3
def xJ{ml mh:MO}(he:SE X e m)(hl:SO X lo ml)(hu:SO X hi mh):SE X (.Subscript e (.Slice lo hi none p2) pos) (RP m ml mh):=PE.imp (TX kF he hl hu) <| by
 rintro σ H Q ⟨ρ,st,io,d,st',E,S,e,k⟩;obtain⟨⟨x,s1⟩,e1,e⟩:=HK e;obtain⟨⟨lo',s2⟩,e2,e⟩:=HK e;obtain⟨⟨hi',s3⟩,e3,e⟩:=HK e;refine⟨ρ,st,io,x,s1,E,S,e1,fun v1 H1 k1 X1 S1 R1=>⟨ρ,s1,io++k1,lo',s2,E.ext S X1,S1,e2,fun H2 k2 X2 S2=>⟨ρ,s2,(io++k1)++k2,hi',s3,(E.ext S X1).ext S1 X2,S2,e3,fun H3 k3 X3 S3=>?_⟩⟩⟩;have k':=((k.on S1 X1).on S2 X2).on S3 X3
 cases x with
 | str z =>
   obtain⟨hf,e⟩:=IJ e;cases e;exact⟨z,R1,of_decide_eq_true hf,k'.now S3 rfl⟩
 | _=>cases e
def NU(x:Str)(n:Int):Str:=if n < 1 then G4 else if (n==1 || x.length==0)=true then x else ⟨(BD n.toNat x.cps).foldl (·++·) #[]⟩
def U3:G2
 | .str x,.int n,st=>if (decide (-(2 ^ 62)<=n)&&decide (n < 2 ^ 20)&&decide (x.length*n.toNat<=sizeLine)&&decide ((NU x n).length<=sizeLine))=true then some (.str (NU x n),st) else none
 | _,_,_=>none
def tR:IZ X (binaryOp .Mult) U3:=by
 rintro qp s σ H x y v u Q I rx ry ⟨dx,dy,st,io,d,st',Rx,Ry,S,e,k⟩;unfold U3 at e
 split at e
 . rename_i z n;obtain⟨hc,e⟩:=IJ e;cases e;rw[Ar,Ar,Ar] at hc;obtain⟨⟨⟨h1,h2⟩,h3⟩,h4⟩:=hc;have h1:=of_decide_eq_true h1;have h2:=of_decide_eq_true h2;have h3:=of_decide_eq_true h3;have h4:=of_decide_eq_true h4
   cases (show x=.str z from Rx)
   cases (show y=.int n from Ry)
   obtain⟨t,rfl⟩:=rx;obtain⟨t2,rfl⟩:=ry;have fin:∀ t' k',EP X qp σ Q (.str (NU z n) t') { s with toks:=k' }:=fun t' k'=>⟨.str _,H,I.tok k',⟨t',rfl⟩,k.now S rfl⟩
   refine PySem.P.mul_str (by rw[decide_eq_false (by omega),decide_eq_false (by omega)];rfl) (fun hn _=>?_) (fun hn _=>?_) ?_
   . have hs:sizeLine=16777216:=Dv;have hnn:((n.toNat:Nat):Int)=n:=Int.toNat_of_nonneg (by omega);have hm:(z.length:Int)*n<=2 ^ 63 - 1:=by
       rw[<-hnn,<-Int.natCast_mul];omega
     have:=Int.le_ediv_of_mul_le (by omega:0 < n) hm;omega
   . unfold Builtin.Str.tooLong;exact decide_eq_false<|by omega
   . unfold NU at fin h4
     by_cases hn:n < 1
     . rw[if_pos hn] at fin h4 ⊢;exact⟨h4,fin s.toks<|s.toks+1⟩
     rw[if_neg hn] at fin h4 ⊢;exact C8 ⟨h4,fin⟩
 . cases e
def XB(p:PyData):PyData->Option Bool
 | .list xs=>some<|xs.any fun y=>DK y p
 | .tuple xs=>some<|xs.any fun y=>DK y p
 | _=>none
def inD(neg:Bool):G2:=fun x y st=>(IT 50 st x).bind fun p=>(IT 50 st y).bind fun q=>(XB p q).map fun b=>(.bl (if neg then !b else b),st)
def bW{xs:List PyData}(h:(PyData.list xs).canLay0=true):BM xs=true:=by simpa only [Bm] using h
def dC{xs:List PyData}(h:(PyData.tuple xs).canLay0=true):BM xs=true:=by simpa only [Bm] using h
def kK(hu:X.A.units+100 < cLine):IZ X (Re .In) (inD false):=by
 rintro qp s σ H x y v u Q I rx ry ⟨dx,dy,st,io,d,st',Rx,Ry,S,e,k⟩;obtain⟨p,e1,e⟩:=HK e;obtain⟨q,e2,e⟩:=HK e;obtain⟨r,e3,e⟩:=Ip e;cases e;obtain⟨as,ra⟩:=Mu I S Rx rx e1;obtain⟨bs,rb⟩:=Mu I S Ry ry e2;have h1:=Mo e1;have h2:=Mo e2;have hb:∀ n,X.A.units+1+min n p.depth < cLine:=fun n=>by have:=Es n p.depth;omega
 cases q with
 | list xs=>cases e3;exact PySem.SeqAt.in_list_reads rb ra (bW h2.1) h1.1 (hb _) ⟨.bl _,H,I,rfl,k.now S rfl⟩
 | tuple xs=>cases e3;exact PySem.SeqAt.in_tuple_reads rb ra (dC h2.1) h1.1 (hb _) ⟨.bl _,H,I,rfl,k.now S rfl⟩
 | _=>cases e3
def aV(hu:X.A.units+100 < cLine):IZ X (Re .NotIn) (inD true):=by
 rintro qp s σ H x y v u Q I rx ry ⟨dx,dy,st,io,d,st',Rx,Ry,S,e,k⟩;obtain⟨p,e1,e⟩:=HK e;obtain⟨q,e2,e⟩:=HK e;obtain⟨r,e3,e⟩:=Ip e;cases e;obtain⟨as,ra⟩:=Mu I S Rx rx e1;obtain⟨bs,rb⟩:=Mu I S Ry ry e2;have h1:=Mo e1;have h2:=Mo e2;have hb:∀ n,X.A.units+1+min n p.depth < cLine:=fun n=>by have:=Es n p.depth;omega
 cases q with
 | list xs=>cases e3;exact PySem.SeqAt.notIn_list_reads rb ra (bW h2.1) h1.1 (hb _) ⟨.bl _,H,I,rfl,k.now S rfl⟩
 | tuple xs=>cases e3;exact PySem.SeqAt.notIn_tuple_reads rb ra (dC h2.1) h1.1 (hb _) ⟨.bl _,H,I,rfl,k.now S rfl⟩
 | _=>cases e3
def MM:G2
 | .str i,.str j,st=>some (.bl (!(Cv j i 0 j.length 1).isEmpty),st)
 | _,_,_=>none
def pE:IZ X (Re .In) MM:=by
 rintro qp s σ H x y v u Q I rx ry ⟨dx,dy,st,io,d,st',Rx,Ry,S,e,k⟩;unfold MM at e
 split at e
 . rename_i i j
   cases e;exact vZ qp s σ H x y v u Q I rx ry ⟨i,j,Rx,Ry,k.now S rfl⟩
 . cases e
end L2.MP
namespace Srt
open PySem PySem.W PyProof.Rows
variable {α:Type}
def Hd(n:Nat)(r:Nat->Int){α:Type}:KasT α->(α->Prop)->Prop
 | .ret a,Q=>Q a
 | .ask i j k,Q=>(i < n/\j < n)/\Hd n r (k<|decide (r i < r j)) Q
variable {n i j src d m N:Nat}{c:Prop}{p:Array Nat}
section
variable {r:Nat->Int} {β:Type}
def Hd.bind{f:α->KasT β}{Q:β->Prop}:∀ {t:KasT α},Hd n r t (fun a=>Hd n r (f a) Q)->Hd n r (t.bind f) Q
 | .ret _,h=>h
 | .ask i j k,h=>⟨h.1,Hd.bind (t:=k _) h.2⟩
def Hd.mono{P Q:α->Prop}(k:∀ a,P a->Q a):∀ {t:KasT α},Hd n r t P->Hd n r t Q
 | .ret a,h=>k a h
 | .ask i j f,h=>⟨h.1,Hd.mono k (t:=f _) h.2⟩
def QW[Decidable c]{A B:KasT α}{Q:α->Prop}(hc:c)(h:Hd n r A Q):Hd n r (if decide c=true then A else B) Q:=by rw[decide_eq_true hc,if_pos rfl];exact h
def QV[Decidable c]{A B:KasT α}{Q:α->Prop}(hc:¬ c)(h:Hd n r B Q):Hd n r (if decide c=true then A else B) Q:=by rw[decide_eq_false hc,if_neg Bk];exact h
def LK(n:Nat)(p:Array Nat):Prop:=∀ k,p.getD k 0 < n
def R(r:Nat->Int)(p:Array Nat)(k:Nat):Int:=r<|p.getD k 0
def Up(r:Nat->Int)(p:Array Nat)(m:Nat):Prop:=∀ i j,i<=j->j < m->R r p i<=R r p j
def Dn(r:Nat->Int)(p:Array Nat)(m:Nat):Prop:=∀ i j,i<=j->j < m->R r p j<=R r p i
def getD_eq{q:Array Nat}(h:p[i]?=q[j]?):p.getD i 0=q.getD j 0:=by rw[BO,BO,h]
def Tz(hj:j<=p.size)(k:Nat):(kas_rev p i j).getD k 0=if i<=k/\k < j then p.getD (i+j - 1 - k) 0 else p.getD k 0:=by
 have e:=getElem?_mirror_all (i:=i) hj k;unfold kas_rev
 by_cases h:i<=k/\k < j
 . rw[if_pos h] at e ⊢;exact getD_eq e
 rw[if_neg h] at e ⊢;exact getD_eq e
def YV(hs:src < p.size)(hd:d<=src)(k:Nat):(bubble p src d).getD k 0=if k=src - d then p.getD src 0 else if src - d < k/\k<=src then p.getD (k - 1) 0 else p.getD k 0:=by
 have e:=getElem?_bubble hs d hd k
 by_cases h1:k=src - d
 . rw[if_pos h1] at e ⊢;exact getD_eq e
 . rw[if_neg h1] at e ⊢
   by_cases h2:src - d < k/\k<=src
   . rw[if_pos h2] at e ⊢;exact getD_eq e
   rw[if_neg h2] at e ⊢;exact getD_eq e
def Q7(hj:j<=p.size)(h:LK n p):LK n (kas_rev p i j):=fun k=>by
 rw[Tz hj];split
 . exact h _
 exact h _
def lV(hs:src < p.size)(hd:d<=src)(h:LK n p):LK n (bubble p src d):=fun k=>by
 rw[YV hs hd]
 by_cases h1:k=src - d
 . rw[if_pos h1];exact h _
 . rw[if_neg h1]
   by_cases h2:src - d < k/\k<=src
   . rw[if_pos h2];exact h _
   rw[if_neg h2];exact h _
def Vb(p:Array Nat)(i j:Nat):(kas_rev p i j).size=p.size:=mirror_size _ _ _ _
def Td(p:Array Nat)(i j:Nat):(kas_rev p i j).Perm p:=mirror_perm _ _ _ _
def Up.more(h:Up r p m)(hl:m=0\/R r p (m - 1)<=R r p m):Up r p (m+1):=fun i j hij hj=>by
 by_cases hm:j < m
 . exact h i j hij hm
 . have e:j=m:=by omega
   subst e
   by_cases hi:i=j
   . rw[hi];exact Dx _
   . rcases hl with hl | hl
     . omega
     exact DL (h i (j - 1) (by omega)<|by omega) hl
def Dn.more(h:Dn r p m)(hl:m=0\/R r p m<=R r p (m - 1)):Dn r p (m+1):=fun i j hij hj=>by
 by_cases hm:j < m
 . exact h i j hij hm
 . have e:j=m:=by omega
   subst e
   by_cases hi:i=j
   . rw[hi];exact Dx _
   . rcases hl with hl | hl
     . omega
     exact DL hl<|h i (j - 1) (by omega)<|by omega
def U8{p:Array Nat}(hb:LK n p):∀ (f m:Nat),1<=m->Up r p m->Hd n r (kas_asc p f m) fun m'=>m<=m'/\m'<=m+f/\Up r p m'/\(m' < m+f->R r p m' < R r p (m' - 1))
 | 0,m,h1,h=>⟨Ag _,Ag _,h,fun z=>absurd z (AZ _)⟩
 | f+1,m,h1,h=>by
   refine⟨⟨hb _,hb _⟩,?_⟩
   by_cases c:r (p.getD m 0) < r (p.getD (m - 1) 0)
   . refine QW c ?_;exact⟨Ag _,Cr _ _,h,fun _=>c⟩
   refine QV c ?_;refine Hd.mono (fun m' h'=>?_)<|U8 hb f (m+1) (by omega)<|h.more<|.inr<|Int.not_lt.mp c;exact⟨by omega,by omega,h'.2.2.1,fun z=>h'.2.2.2 (by omega)⟩
def UO(r:Nat->Int)(p:Array Nat)(i j:Nat):Prop:=∀ k,i<=k->k < j->R r p k=R r p (j - 1)
def VH(hj:j<=p.size)(h:UO r p i j)(k:Nat):R r (kas_rev p i j) k=R r p k:=by
 unfold R;rw[Tz hj]
 split
 . rename_i hk;have h1:=h (i+j - 1 - k) (by omega) (by omega);have h2:=h k hk.1 hk.2;exact h1.trans h2.symm
 rfl
def Dn.same{p':Array Nat}(h:Dn r p m)(e:∀ k,R r p' k=R r p k):Dn r p' m:=fun i j a b=>by rw[e,e];exact h i j a b
def jN(hm:m<=p.size)(h:Dn r p m):Up r (kas_rev p 0 m) m:=fun i j hij hj=>by unfold R;rw[Tz hm,Tz hm,if_pos (by omega),if_pos (by omega)];exact h (0+m - 1 - j) (0+m - 1 - i) (by omega)<|by omega
def Tn{N:Nat}:∀ (f:Nat) (p:Array Nat) (m q:Nat),LK n p->p.size=N->1<=m->m+f<=N->q+1<=m->Dn r p m->UO r p (m - (q+1)) m ->
   Hd n r (kas_desc f p m q) fun t=>LK n t.1/\t.1.Perm p/\m<=t.2.1/\t.2.1<=m+f/\t.2.2+1<=t.2.1/\Dn r t.1 t.2.1/\UO r t.1 (t.2.1 - (t.2.2+1)) t.2.1
 | 0,p,m,q,hb,hs,h1,h2,h3,hd,he=>⟨hb,C9 _,Ag _,Ag _,h3,hd,he⟩
 | f+1,p,m,q,hb,hs,h1,h2,h3,hd,he=>by
   refine⟨⟨hb _,hb _⟩,?_⟩
   by_cases c:r (p.getD m 0) < r (p.getD (m - 1) 0)
   . refine QW c ?_;have one:∀ p':Array Nat,UO r p' (m+1 - (0+1)) (m+1):=fun p' k h1 h2=>by
       have e:k=m+1 - 1:=by omega
       subst e;rfl
     by_cases hq:q > 0
     . rw[if_pos hq];have hz:m<=p.size:=by omega
       have e:=VH hz he;refine Hd.mono (fun t ht=>?_)<|Tn f (kas_rev p (m - (q+1)) m) (m+1) 0 (Q7 hz hb) ((Vb _ _ _).trans hs) (by omega) (by omega) (by omega) ((hd.more<|.inr<|DM c).same e)<|one _;exact⟨ht.1,ht.2.1.trans<|Td _ _ _,by omega,by omega,ht.2.2.2.2⟩
     rw[if_neg hq];refine Hd.mono (fun t ht=>?_)<|Tn f p (m+1) 0 hb hs (by omega) (by omega) (by omega) (hd.more<|.inr<|DM c)<|one _;exact⟨ht.1,ht.2.1,by omega,by omega,ht.2.2.2.2⟩
   . refine QV c ?_;refine⟨⟨hb _,hb _⟩,?_⟩
     by_cases d:r (p.getD (m - 1) 0) < r (p.getD m 0)
     . refine QW d ?_;exact⟨hb,C9 _,Ag _,Cr _ _,h3,hd,he⟩
     . refine QV d ?_;have eq:R r p m=R r p (m - 1):=GF (Int.not_lt.mp d)<|Int.not_lt.mp c;refine Hd.mono (fun t ht=>?_) (Tn f p (m+1) (q+1) hb hs (by omega) (by omega) (by omega) (hd.more<|.inr<|Int.not_lt.mp d) fun k k1 k2=>?_)
       . exact⟨ht.1,ht.2.1,by omega,by omega,ht.2.2.2.2⟩
       . show R r p k=R r p (m+1 - 1)
         by_cases hk:k=m
         . rw[hk];rfl
         rw[FS,eq];exact he k (by omega)<|by omega
def UU(n N:Nat)(r:Nat->Int)(p:Array Nat)(t:Nat×Array Nat):Prop:=LK n t.2/\t.2.Perm p/\1<=t.1/\t.1<=N/\Up r t.2 t.1
def Z7(hb:LK n p)(hs:p.size=N)(h1:1<=m)(h2:m<=N)(hd:Dn r p m):Hd n r (kas_tail3 m N p) (UU n N r p):=by
 unfold kas_tail3;have hz:m<=p.size:=by omega
 refine Hd.bind<|Hd.mono (fun m' h'=>?_)<|U8 (Q7 hz hb) (N - m) m h1<|jN hz hd;exact⟨Q7 hz hb,Td _ _ _,by omega,by omega,h'.2.2.1⟩
def bZ(hb:LK n p)(hs:p.size=N)(h1:1<=m)(h2:m+1<=N)(hd:Dn r p (m+1)):Hd n r (kas_descPart m N p) (UU n N r p):=by
 unfold kas_descPart;refine Hd.bind (Hd.mono (fun t ht=>?_) (Tn (N:=N) (N - (m+1)) p (m+1) 0 hb hs (by omega) (by omega) (by omega) hd fun k k1 k2=>by
   have:k=m+1 - 1:=by omega
   rw[this]))
 obtain⟨t1,t2,t3,t4,t5,t6,t7⟩:=ht;have hsz:t.1.size=N:=t2.size_eq.trans hs
 by_cases hq:t.2.2 > 0
 . rw[if_pos hq];have hz:t.2.1<=t.1.size:=by omega
   refine Hd.mono (fun u hu=>?_)<|Z7 (Q7 hz t1) ((Vb _ _ _).trans hsz) (by omega) (by omega)<|t6.same<|VH hz t7;exact⟨hu.1,(hu.2.1.trans<|Td _ _ _).trans t2,hu.2.2⟩
 rw[if_neg hq];refine Hd.mono (fun u hu=>?_)<|Z7 t1 hsz (by omega) (by omega) t6;exact⟨hu.1,hu.2.1.trans t2,hu.2.2⟩
def qJ(hb:LK n p)(hs:p.size=N)(hN:1<=N):Hd n r (kas_count N p) (UU n N r p):=by
 unfold kas_count;have up1:Up r p 1:=fun i j a b=>by
   have:i=j:=by omega
   rw[this];exact Dx _
 refine Hd.bind<|Hd.mono (fun m hm=>?_)<|U8 hb (N - 1) 1 (Ag _) up1;obtain⟨m1,m2,m3,m4⟩:=hm
 by_cases e:(m==N)=true
 . rw[if_pos e];exact⟨hb,C9 _,m1,by omega,m3⟩
 . rw[if_neg e];have ne:m≠N:=fun z=>e (by simp[z]);have lt:=m4 (by omega)
   by_cases g:m > 1
   . rw[if_pos g];refine⟨⟨hb _,hb _⟩,?_⟩
     by_cases c:r (p.getD 0 0) < r (p.getD (m - 1) 0)
     . refine QW c ?_;exact⟨hb,C9 _,m1,by omega,m3⟩
     . refine QV c ?_;have hz:m<=p.size:=by omega
       have all:∀ k,k < m->R r p k=R r p (m - 1):=fun k hk=>GF (m3 k (m - 1) (by omega)<|by omega)<|DL (Int.not_lt.mp c)<|m3 0 k (by omega) hk;have e:=VH (i:=0) hz fun k _ hk=>all k hk;have dn:Dn r p m:=fun i j a b=>by rw[all i (by omega),all j b];exact Dx _
       refine Hd.mono (fun u hu=>?_)<|bZ (Q7 (i:=0) hz hb) ((Vb _ _ _).trans hs) m1 (by omega)<|(dn.more<|.inr<|DM lt).same e;exact⟨hu.1,hu.2.1.trans<|Td _ _ _,hu.2.2⟩
   . rw[if_neg g];have m1':m=1:=by omega
     subst m1';have dn:Dn r p 1:=fun i j a b=>by
       have:i=j:=by omega
       rw[this];exact Dx _
     exact bZ hb hs (Ag _) (by omega)<|dn.more<|.inr<|DM lt
def V8{p:Array Nat}{k:Nat}(hb:LK n p)(hu:Up r p k):∀ (f a b:Nat),a<=b->b<=k->b<=a+f->(∀ x,x < a->R r p x<=R r p k)->(∀ x,b<=x->x < k->R r p k<=R r p x) ->
   Hd n r (kas_place p k f a b) fun l=>l<=k/\(∀ x,x < l->R r p x<=R r p k)/\∀ x,l<=x->x < k->R r p k<=R r p x
 | 0,a,b,h1,h2,h3,hl,hr=>by
   have:a=b:=by omega
   subst this;exact⟨h2,hl,hr⟩
 | f+1,a,b,h1,h2,h3,hl,hr=>by
   unfold kas_place
   by_cases g:a ≥ b
   . rw[if_pos g];have:a=b:=by omega
     subst this;exact⟨h2,hl,hr⟩
   . rw[if_neg g];refine⟨⟨hb _,hb _⟩,?_⟩
     by_cases c:r (p.getD k 0) < r (p.getD ((a+b) / 2) 0)
     . refine QW c ?_;refine V8 hb hu f a ((a+b) / 2) (by omega) (by omega) (by omega) hl fun x x1 x2=>?_;exact DL (DM c)<|hu ((a+b) / 2) x x1 x2
     refine QV c ?_;refine V8 hb hu f ((a+b) / 2+1) b (by omega) h2 (by omega) (fun x hx=>?_) hr;exact DL (hu x ((a+b) / 2) (by omega)<|by omega)<|Int.not_lt.mp c
def Yx{N:Nat}:∀ (f:Nat) (p:Array Nat) (k:Nat),LK n p->p.size=N->k+f=N->Up r p k->Hd n r (kas_bin f p k) fun q=>q.Perm p/\Up r q N
 | 0,p,k,hb,hs,hk,hu=>⟨C9 _,by rw[<-hk];exact hu⟩
 | f+1,p,k,hb,hs,hk,hu=>by
   unfold kas_bin;refine Hd.bind<|Hd.mono (fun l hl=>?_)<|V8 hb hu k 0 k (Bc _) (Ag _) (by omega) (fun x hx=>absurd hx (GG _)) fun x a b=>absurd (Av b a) (AZ _);obtain⟨l1,l2,l3⟩:=hl;have hks:k < p.size:=by omega
   refine Hd.mono (fun q hq=>⟨hq.1.trans<|bubble_perm _ _ _,hq.2⟩)<|Yx f (bubble p k<|k - l) (k+1) (lV hks (by omega) hb) ((bubble_size _ _ _).trans hs) (by omega) fun i j hij hj=>?_;have g:∀ x,R r (bubble p k<|k - l) x=if x=l then R r p k else if l < x/\x<=k then R r p (x - 1) else R r p x:=fun x=>by
     unfold R;rw[YV hks (by omega)];have e:k - (k - l)=l:=by omega
     rw[e]
     by_cases a1:x=l
     . rw[if_pos a1,if_pos a1]
     . rw[if_neg a1,if_neg a1]
       by_cases a2:l < x/\x<=k
       . rw[if_pos a2,if_pos a2]
       rw[if_neg a2,if_neg a2]
   rw[g i,g j]
   by_cases h1:i=l
   . rw[if_pos h1]
     by_cases h2:j=l
     . rw[if_pos h2];exact Dx _
     rw[if_neg h2,if_pos (by omega)];exact l3 (j - 1) (by omega)<|by omega
   . rw[if_neg h1]
     by_cases h2:j=l
     . rw[if_pos h2,if_neg (by omega)];exact l2 i<|by omega
     . rw[if_neg h2]
       by_cases h3:l < i/\i<=k
       . rw[if_pos h3,if_pos (by omega)];exact hu (i - 1) (j - 1) (by omega)<|by omega
       . rw[if_neg h3]
         by_cases h4:l < j/\j<=k
         . rw[if_pos h4];exact hu i (j - 1) (by omega)<|by omega
         rw[if_neg h4];exact hu i j hij<|by omega
def yF(hn:1<=n):LK n (Cc<|Bo n):=fun k=>by
 rw[BO,Fh]
 by_cases h:k < n
 . rw[C1 h];exact h
 rw[List.getElem?_eq_none_iff.mpr (by rw[Dr];omega)];exact hn
def LF(hn:1<=n):Hd n r (kas_sort n) fun q=>q.Perm (Cc<|Bo n)/\Up r q n:=by
 unfold kas_sort;have hs:(Cc<|Bo n).size=n:=by simp
 refine Hd.bind<|Hd.mono (fun t ht=>?_)<|qJ (yF hn) hs hn;obtain⟨t1,t2,t3,t4,t5⟩:=ht
 by_cases h:t.1 < n
 . rw[if_pos h];have e:max t.1 1=t.1:=Nat.max_eq_left t3;rw[e];refine Hd.mono (fun q hq=>⟨hq.1.trans t2,hq.2⟩)<|Yx (N:=n) (n - t.1) t.2 t.1 t1 (t2.size_eq.trans hs) (by omega) t5
 . rw[if_neg h];have e:t.1=n:=by omega
   exact⟨t2,by rw[<-e];exact t5⟩
end
end Srt
namespace L2.MP
open PySem PySem.Spec PyProof.Rows
def YO:∀ a:List Int,HT.lexLt a a=false
 | []=>rfl
 | x::r=>by rw[HT.IB,if_pos rfl];exact YO r
def Zb:∀ {a b:List Int},HT.lexLt a b=false->HT.lexLt b a=false->a=b
 | [],[],_,_=>rfl
 | [],_::_,h,_=>by rw[HT.Ij] at h;cases h
 | _::_,[],_,h=>by rw[HT.Ij] at h;cases h
 | x::a,y::b,h1,h2=>by
   rw[HT.IB] at h1 h2
   by_cases e:x=y
   . subst e;rw[if_pos rfl] at h1 h2;rw[Zb h1 h2]
   rw[if_neg e] at h1;rw[if_neg (A6 e)] at h2;have a1:=of_decide_eq_false h1;have a2:=of_decide_eq_false h2;omega
def ZS:∀ {a b c:List Int},HT.lexLt b a=false->HT.lexLt c b=false->HT.lexLt c a=false
 | a,[],c,_,h2=>by
   cases c with
   | nil =>
     cases a with
     | nil=>rfl
     | cons x a=>rename_i h1;rw[HT.Ij] at h1;cases h1
   | cons z c =>
     cases a with
     | nil=>exact HT.Iu _ _
     | cons x a=>rename_i h1;rw[HT.Ij] at h1;cases h1
 | a,y::b,[],_,h2=>by rw[HT.Ij] at h2;cases h2
 | [],y::b,z::c,_,_=>HT.Iu _ _
 | x::a,y::b,z::c,h1,h2=>by
   rw[HT.IB] at h1 h2 ⊢
   by_cases e1:y=x
   . subst e1;rw[if_pos rfl] at h1
     by_cases e2:z=y
     . subst e2;rw[if_pos rfl] at h2 ⊢;exact ZS h1 h2
     rw[if_neg e2] at h2 ⊢;exact h2
   . rw[if_neg e1] at h1;have a1:=of_decide_eq_false h1
     by_cases e2:z=y
     . subst e2;rw[if_neg e1];exact h1
     rw[if_neg e2] at h2;have a2:=of_decide_eq_false h2;rw[if_neg (by omega)];exact decide_eq_false<|by omega
def Zc{a b:List Int}(h:HT.lexLt a b=true):HT.lexLt b a=false:=by
 cases e:HT.lexLt b a with
 | false=>rfl
 | true =>
   -- b < a and a < b: then not (a < a) breaks
   exfalso;have:∀ {a b:List Int},HT.lexLt a b=true->HT.lexLt b a=true->False:=by
     intro a
     induction a with
     | nil=>intro b h1 h2;cases b with
       | nil=>rw[HT.Ke] at h1;cases h1
       | cons y b=>rw[HT.Iu] at h2;cases h2
     | cons x a ih=>intro b h1 h2;cases b with
       | nil=>rw[HT.Iu] at h1;cases h1
       | cons y b =>
         rw[HT.IB] at h1 h2
         by_cases q:x=y
         . subst q;rw[if_pos rfl] at h1 h2;exact ih h1 h2
         rw[if_neg q] at h1;rw[if_neg (A6 q)] at h2;have a1:=of_decide_eq_true h1;have a2:=of_decide_eq_true h2;omega
   exact this h e
def JW(a b:List Int):Bool:=!HT.lexLt b a
def Lj(ts:List (List Int)):List (List Int):=ts.mergeSort JW
def Wa(a b c:List Int)(h1:JW a b=true)(h2:JW b c=true):JW a c=true:=by unfold JW at *;rw[BN] at *;exact ZS h1 h2
def xZ(a b:List Int):(JW a b || JW b a)=true:=by
 unfold JW
 cases e:HT.lexLt b a with
 | false=>rfl
 | true=>rw[Zc e];rfl
def uU{a b:List Int}(h1:JW a b=true)(h2:JW b a=true):a=b:=by unfold JW at *;rw[BN] at *;exact Zb h2 h1
def rank(ts:List (List Int))(i:Nat):Int:=((ts.countP fun t=>HT.lexLt t (ts.getD i [])):Nat)
variable {i j:Nat}
def Zy{ts:List (List Int)}(hi:i < ts.length):(decide (rank ts i < rank ts j))=HT.lexLt (ts.getD i []) (ts.getD j []):=by
 unfold rank
 cases e:HT.lexLt (ts.getD i []) (ts.getD j []) with
 | true =>
   refine decide_eq_true ?_;have le:ts.countP (fun t=>HT.lexLt t (ts.getD i [])) < ts.countP (fun t=>HT.lexLt t (ts.getD j [])):=by
     have hm:ts.getD i []∈ts:=by rw[Ay,Ah hi];exact BI hi
     generalize ha:ts.getD i []=a at *;generalize hb:ts.getD j []=b at *;clear ha hb hi;have sub:∀ t,HT.lexLt t a=true->HT.lexLt t b=true:=fun t ht=>by
       cases q:HT.lexLt t b with
       | true=>rfl
       | false =>
         exfalso
         -- b<=t,t < a,a < b
         have h1:HT.lexLt a t=false:=Zc ht;have:HT.lexLt a b=false:=by
           have h2:JW b t=true:=by unfold JW;rw[q];rfl
           have h3:JW t a=true:=by unfold JW;rw[h1];rfl
           have:=Wa b t a h2 h3;unfold JW at this;rw[BN] at this;exact this
         rw[e] at this;cases this
     induction ts with
     | nil=>exact absurd hm (by simp)
     | cons t r ih =>
       rw[Gq,Gq]
       rcases M2.mp hm with q | q
       . subst q;rw[YO,e];have:r.countP (fun t=>HT.lexLt t a)<=r.countP (fun t=>HT.lexLt t b):=Fi fun t _ ht=>sub t ht;simp only[Bd,if_false,if_true];omega
       . have:=ih q
         by_cases c:HT.lexLt t a=true
         . rw[if_pos c,if_pos (sub t c)];omega
         rw[if_neg c];split <;> omega
   omega
 | false =>
   refine decide_eq_false ?_;have le:ts.countP (fun t=>HT.lexLt t (ts.getD j []))<=ts.countP (fun t=>HT.lexLt t (ts.getD i [])):=Fi fun t _ ht=>by
     cases q:HT.lexLt t (ts.getD i []) with
     | true=>rfl
     | false =>
       exfalso;have h2:JW (ts.getD j []) (ts.getD i [])=true:=by unfold JW;rw[e];rfl
       have h3:JW (ts.getD i []) t=true:=by unfold JW;rw[q];rfl
       have h4:=Wa _ _ _ h2 h3;unfold JW at h4;rw[ht] at h4;cases h4
   omega
variable {n:Nat}{α:Type}{s:Shared}
def UP{n:Nat}{r:Nat->Int}{α:Type}{P:α->Prop}{Q:α->Shared->Prop}{s:Shared}{cmp:Nat->Nat->(Bool->Shared->Prop)->Shared->Prop}(hc:∀ i j,i < n->j < n->∀ C:Bool->Shared->Prop,C (decide (r i < r j)) s->cmp i j C s)(hq:∀ a,P a->Q a s) :
   ∀ {t:PySem.W.KasT α},Srt.Hd n r t P->t.kasWp cmp Q s
 | .ret a,h=>hq a h
 | .ask i j k,h=>hc i j h.1.1 h.1.2 _<|UP hc hq (t:=k _) h.2
variable {prog:Pv}{w:UF}{A:Around}{E:Qqa}
def cA{Q:Bool->Shared->Prop}:∀ {xs ys:List Int} {us ws:List IR} (i:Nat),Vals (xs.map V.int) us->Vals (ys.map V.int) ws->Q (HT.lexLt xs ys) s->PySem.W.KatLex prog w A true (decide (us.length < ws.length)) Q (us.zip ws) i s
 | [],[],_,_,i,.nil,.nil,h=>h
 | [],y::ys,_,_,i,.nil,.cons r t,h=>by show Q (decide (_ < _)) s;rw[decide_eq_true (by simp)];exact h
 | x::xs,[],_,_,i,.cons r t,.nil,h=>by show Q (decide (_ < _)) s;rw[decide_eq_false (by simp)];exact h
 | x::xs,y::ys,_,_,i,.cons r1 t1,.cons r2 t2,h=>by
   obtain⟨a1,rfl⟩:=r1;obtain⟨a2,rfl⟩:=r2;rw[HT.IB] at h;refine SeqAt.EqAt.int_int x a1 y a2 prog w _ _ ?_
   by_cases e:x=y
   . subst e;rw[if_pos rfl] at h;rw[beq_self_eq_true,if_pos rfl];have:=cA (Q:=Q) (i+1) t1 t2 h;rw[AC,AC];have e2:∀ a b:Nat,decide (a+1 < b+1)=decide (a < b):=fun a b=>by
       by_cases q:a < b
       . rw[decide_eq_true q,decide_eq_true (by omega)]
       rw[decide_eq_false q,decide_eq_false (by omega)]
     rw[e2];exact this
   . rw[if_neg e] at h;have hb:(x==y)=false:=by simpa using e
     rw[hb,if_neg Bk]
     by_cases hi:i=0
     . subst hi;exact oneLt_int h
     . have:(true&&i==0)=false:=by simpa using hi
       rw[this];exact PySem.W.kat_one _ _<|lt_int h
variable {X:Cx}{qp:List (Addr×Obj)}{σ:L2.St}{H:Hp}
def Qj(H:Hp):List V->List (List Int)->Prop:=Paired fun v t=>∃ a,v=.ref a/\H a=some (.tup<|t.map V.int)/\t≠[]
def V1:∀ {xs:List V} {ts:List (List Int)} {i:Nat},Qj H xs ts->i < ts.length->∃ a,xs[i]?=some (.ref a)/\H a=some (.tup<|(ts.getD i []).map V.int)/\ts.getD i []≠[]
 | _,[],i,_,hi=>absurd hi<|by simp
 | _,t::ts,0,.cons r q,_=>by obtain⟨a,rfl,ha,hn⟩:=r;exact⟨a,rfl,ha,hn⟩
 | _,t::ts,i+1,.cons r q,hi=>by have:=V1 (i:=i) q (by simpa using hi);simpa using this
def YB{xs:List V}{us:List IR}{ts:List (List Int)}{s':Shared}(I:Inv X qp σ H s)(hk:∀ b o,H b≠none->s.heap.get? b=some o->s'.heap.get? b=some o)(T:Qj H xs ts)(r:Vals xs us)(hi:i < ts.length)(hj:j < ts.length)(C:Bool->Shared->Prop)
   (h:C (decide (rank ts i < rank ts j)) s'):GH X.prog X.w A (PyProof.Rows.tuples' true) us i j C s':=by
 rw[Zy hi] at h;obtain⟨a,ea,ha,_⟩:=V1 T hi;obtain⟨b,eb,hb,_⟩:=V1 T hj;obtain⟨u,eu,ru⟩:=r.get ea;obtain⟨u2,eu2,ru2⟩:=r.get eb;cases ru;cases ru2;obtain⟨ia,va,⟨oa,ga,ca,na,da⟩,_⟩:=I.tuple<|IQ.of (K:=X.K) ha;obtain⟨ib,vb,⟨ob,gb,cb,nb,db⟩,_⟩:=I.tuple<|IQ.of (K:=X.K) hb;unfold GH;rw[Ay,Ay,eu,eu2];refine PySem.W.kat_lt (hk _ _ (by rw[ha];simp) ga) da (hk _ _ (by rw[hb];simp) gb) db ?_;have:=cA (prog:=X.prog) (w:=X.w) (A:=A) (Q:=C) (s:=s') 0 va vb h;simpa using this
variable {h':KM}
def VR{h':KM}(I:Inv X qp σ H s)(hk:∀ b o,H b≠none->s.heap.get? b=some o->h'.get? b=some o):∀ {xs:List V} {us:List IR} {ts:List (List Int)},Qj H xs ts->Vals xs us ->
   ∃ fs:List IR,PySem.W.KatTups h' us fs/\fs.length=us.length/\∀ v∈fs,∃ i t,v=DY i t
 | _,_,[],.nil,.nil=>⟨[],Hw,rfl,fun v hv=>absurd hv (by simp)⟩
 | _,_,t::ts,.cons r q,.cons rv rvs=>by
   obtain⟨a,rfl,ha,hn⟩:=r;cases rv;obtain⟨fs,h1,h2,h3⟩:=VR I hk q rvs;obtain⟨its,va,⟨o,g,c,n,d⟩,_⟩:=I.tuple<|IQ.of (K:=X.K) ha
   cases t with
   | nil=>exact absurd rfl hn
   | cons x t =>
     cases va with
     | @cons _ u _ us' ru rus =>
       obtain⟨tk,rfl⟩:=ru;refine⟨.int x tk::fs,Hs (hk _ _ (by rw[ha];simp) g) c d (by simp) h1,by rw[AC,AC,h2],fun v hv=>?_⟩
       rcases M2.mp hv with rfl | hv
       . exact⟨x,tk,rfl⟩
       exact h3 v hv
variable {a:Addr}{P:Pv}{h:KM}
def aU{o:HO}(x:Ju P w H h a o):∃ u,h.get? a=some u:=by
 cases o with
 | lst xs=>obtain⟨_,_,_,_,e⟩:=x;exact⟨_,e⟩
 | tup xs=>obtain⟨_,_,_,o,e,_⟩:=x;exact⟨_,e⟩
 | dK kvs=>obtain⟨_,_,_,_,o,_,_,e,_⟩:=x;exact⟨_,e⟩
 | dT kvs=>obtain⟨_,_,_,_,o,_,_,e,_⟩:=x;exact⟨_,e⟩
 | set S n=>obtain⟨o,_,_,_,e,_⟩:=x;exact⟨_,e⟩
 | ins C dx fs=>obtain⟨_,_,_,e,_⟩:=x;exact⟨_,e⟩
 | own y=>exact x
 | xd fs=>obtain⟨_,⟨_,_,_,e,_⟩,_⟩:=x;exact⟨_,e⟩
 | rng lo hi=>obtain⟨_,_,_,e⟩:=x;exact⟨_,e⟩
 | frz ob u=>obtain⟨e,_⟩:=x;exact⟨_,e⟩
 | tbl ps=>exact⟨_,x⟩
 | met f y=>exact⟨_,x⟩
 | ext φ=>obtain⟨_,e,_⟩:=x;exact e
variable {m:Str->Option IR}
def YJ{m':Str->Option IR}(x:h.Ns a m)(y:h.Ns a m'):m=m':=by
 obtain⟨o,es,ep,ho,hd,_,hm⟩:=x;obtain⟨o',es',ep',ho',hd',_,hm'⟩:=y;rw[ho] at ho';cases ho';rw[hd] at hd';cases hd'
 funext n
 rw[<-hm n,hm' n]
variable {l:Addr}
def Inv.laidAt{m:Str->Option IR}{o:HO}(I:Inv X qp σ H s)(k:∀ b u,b≠X.env.locals->s.heap.get? b=some u->h'.get? b=some u)(ns:∀ m,s.heap.Ns X.env.locals m->h'.Ns X.env.locals m)(hL:∃ u,h'.get? X.env.locals=some u)
   (ha:s.heap.get? a=none) (hH:H a=none) (haL:a≠X.env.locals) (new:Ju X.prog X.w (upd H a o) h' a o):Inv X qp σ (upd H a o) { s with heap:=h' }:=by
 have na:∀ b u,s.heap.get? b=some u->b≠a:=fun b u e z=>by rw[z,ha] at e;cases e
 refine Inv.step (t':=s.toks) (ch:=[]) (g':=s.gens) (d':=s.drawn) I (fun b hb=>absurd hb (by simp)) (fun b u h1 _ _ e _=>k b u h1 e) (fun b u h1 _ _ e _=>⟨u.slots,k b u h1 e⟩) (fun b u _ e n=>by rw[HV (na b u e)];exact n) (fun b u _ e=>?_)
   (fun b xs e=>by rw[HV (Jw e hH)];exact e) (fun b u v e=>by rw[HV (Jw e hH)];exact e) (fun b ps e=>⟨#[],by rw[HV (Jw e hH),e];simp⟩) ns (fun b u e=>?_) I.bare
 . by_cases hb:b=X.env.locals
   . rw[hb];exact hL
   exact⟨u,k b u hb e⟩
 . by_cases hb:b=a
   . subst hb;rw[JP] at e;cases e;exact new
   . rw[HV hb] at e;refine (I.hok b u e).stay (fun c v hc q=>k c v (fun z=>?_) q) (fun c q=>by rw[HV (Jw q hH)];exact q) fun c xs q=>by rw[HV (Jw q hH)];exact q
     subst z
     rcases hc with rfl | hc
     . rw[I.free] at e;cases e
     rw[I.free] at hc;cases hc
def zO{xs:List V}{ts:List (List Int)}{Q:VK}(I:Inv X qp σ H s)(hl:JB X.K H l xs)(T:Qj H xs ts)(h2:2<=ts.length)(h64:ts.length < 64)
   (h:∀ (q:Array Nat) (p:Addr),q.Perm (Cc<|Bo ts.length)->Srt.Up (rank ts) q ts.length->H p=none->Q (.ref p) (upd H p<|.lst<|q.toList.map fun i=>xs.getD i .non)) :
   wpAny (KB X.prog X.w) X.A (call (.builtin "sorted") [.ref l]) (EP X qp σ Q) X.xe s:=by
 obtain⟨its,rv,pl,hz⟩:=I.list hl;have hlen:its.length=ts.length:=by have a:=rv.length;have b:=By T;omega
 obtain⟨m,F⟩:=I.fr;have trkL:∀ b,H b≠none->b≠X.env.locals:=fun b hb z=>hb (by rw[z];exact I.free);have trkB:∀ b,H b≠none->X.base.get? b=none:=fun b hb=>by
   cases e:X.base.get? b with
   | none=>rfl
   | some o=>exact absurd (I.bs b o e).2 hb
 refine PySem.W.kat_sorted F (V6 (g:=X.base) (h:=s.heap) (L:=X.env.locals)) pl.isList (by omega) (by omega) fun D e1 h' F' N' hlt=>?_;have keep:∀ {h2:KM} {o:Obj},Fr X.base X.env.locals h2 m->News X.base X.env.locals h2 ((D,o)::O8 X.base s.heap X.env.locals)->∀ b u,b≠X.env.locals->s.heap.get? b=some u->h2.get? b=some u:=fun {h2 o} F2 N2 b u hb e=>by
   cases q:X.base.get? b with
   | some v =>
     have z:=(I.bs b v q).1;rw[e] at z;cases z;exact F2.keep b _ q
   | none=>exact (N2 (b,u)<|Ak _<|WH hb q e).1
 have hk:∀ b o,H b≠none->s.heap.get? b=some o->h'.get? b=some o:=fun b o hb e=>keep F' N' b o (trkL b hb) e;have hDD:=N' _ Ao;have hsD:s.heap.get? D=none:=by
   cases e:s.heap.get? D with
   | none=>rfl
   | some u=>exact absurd (hlt _<|WH hDD.2.1 hDD.2.2 e)<|AZ _
 have hHD:H D=none:=by
   cases e:H D with
   | none=>rfl
   | some o =>
     obtain⟨u,hu⟩:=aU<|I.hok D o e;rw[hsD] at hu;cases hu
 obtain⟨fs,k1,k2,k3⟩:=VR (h':=h') I hk T rv;refine Gs (s:={ s with heap:=h' }) (T:=.type "int") k1 (by omega) (fun v hv=>?_) rfl ?_
 . obtain⟨i,t,rfl⟩:=k3 v hv;exact Fj rfl
 have ok:=Srt.LF (n:=its.length) (r:=rank ts) (by omega);refine UP (n:=its.length) (r:=rank ts) (s:={ s with heap:=h' }) (fun i j hi hj C hC=>YB (s':={ s with heap:=h' }) I hk T rv (by omega) (by omega) C hC) (fun q hq=>?_) ok;refine Fw F' N' (Ga fun p hp=>An (hlt p hp)) fun h2 c F2 N2=>?_;have hD2:=(N2 _ Ao).1;rw[hlen] at hq;have vals:Vals (q.toList.map fun i=>xs.getD i .non) (q.toList.map fun i=>its.getD i AE):=by
   have hmem:∀ i∈q.toList,i < xs.length:=fun i hi=>by have:i∈(Cc<|Bo ts.length).toList:=(Array.perm_iff_toList_perm.mp hq.1).mem_iff.mp hi;have hr:=rv.length;simp at this;omega
   generalize q.toList=ql at hmem
   induction ql with
   | nil=>exact .nil
   | cons i r ih =>
     refine .cons ?_<|ih fun j hj=>hmem j (Ak _ hj);have hi:=hmem i Ao;obtain⟨u,eu,ru⟩:=rv.get<|Ah hi;show RelV (xs.getD i V.non) (its.getD i AE);rw[Ay,Ay,Ah hi,eu];exact ru
 have hql:q.toList.length=ts.length:=by have:=(Array.perm_iff_toList_perm.mp hq.1).length_eq;simpa using this
 have J:Inv X qp σ (upd H D<|.lst<|q.toList.map fun i=>xs.getD i .non) { s with heap:=h2 } :=
   Inv.laidAt (m:=m) I (keep F2 N2) (fun m' hm'=>by rw[YJ hm' F.ns];exact F2.ns) (let ⟨o,_,_,e,_⟩:=F2.ns;⟨o,e⟩) hsD hHD hDD.2.1 ⟨by rw[Af,hql];exact MJ h64,_,c,vals,hD2⟩
 exact⟨.ref D,_,J,rfl,h q D hq.1 hq.2 hHD⟩
def zeM(ts:List α)(d:α):(Bo ts.length).map (fun i=>ts.getD i d)=ts:=by
 apply List.ext_getElem
 . simp
 intro i h1 h2;simp[Ay,Ah h2]
def cD{ts:List (List Int)}{q:Array Nat}(hp:q.Perm (Cc<|Bo ts.length))(hu:Srt.Up (rank ts) q ts.length):q.toList.map (fun i=>ts.getD i [])=Lj ts:=by
 have hl:=Array.perm_iff_toList_perm.mp hp;have hl:q.toList.Perm (Bo ts.length):=by simpa using hl
 have hsz:q.toList.length=ts.length:=by rw[hl.length_eq,Dr]
 have p1:(q.toList.map fun i=>ts.getD i []).Perm ts:=by have:=hl.map fun i=>ts.getD i [];rw[zeM] at this;exact this
 refine Wo (le:=fun a b=>JW a b=true) (p1.trans (C2 ts JW).symm) ?_ (EK (fun a b c=>Wa a b c) xZ ts) fun a _ b _=>uU;rw[List.pairwise_iff_getElem];intro i j hi hj hij;rw[Gu,Gu];rw[Af] at hi hj;have hu:=hu i j (BQ hij) (by omega);have gi:∀ (k:Nat) (hk:k < q.toList.length),q.getD k 0=q.toList[k]:=fun k hk=>by rw[BO,<-Bp,Ah hk];rfl
 unfold Srt.R at hu;rw[gi i hi,gi j hj] at hu;have lt:∀ k∈q.toList,k < ts.length:=fun k hk=>List.mem_range.mp<|hl.mem_iff.mp hk;have e:=Zy (ts:=ts) (i:=q.toList[j]) (j:=q.toList[i])<|lt _<|BI hj;rw[decide_eq_false (by omega)] at e;unfold JW;rw[<-e];rfl
def intsOf:List D->Option (List Int)
 | []=>some []
 | .int i::r=>(intsOf r).map fun is=>i::is
 | _=>none
variable {d:D}
def zhE{r:List D}{ss:List Int}(h:intsOf (d::r)=some ss):∃ x xs,d=.int x/\intsOf r=some xs/\ss=x::xs:=by
 cases d with
 | int x =>
   obtain⟨xs,e,h⟩:=Ip h;exact⟨x,xs,rfl,e,h.symm⟩
 | _=>cases h
def rowOf:D->Option (List Int)
 | .tup ds=>(intsOf ds).bind fun t=>if (!t.isEmpty)=true then some t else none
 | _=>none
def rowsOf:List D->Option (List<|List Int)
 | []=>some []
 | d::r=>(rowOf d).bind fun t=>(rowsOf r).map fun ts=>t::ts
def Il(t:List Int):D:=.tup<|t.map D.int
variable {K:Ac}{io:List Addr}{st st':HB}
def ints_rep:∀ {xs:List V} {ds:List D} {t:List Int},HC K H io xs ds->intsOf ds=some t->xs=t.map V.int/\ds=t.map D.int
 | _,[],t,h,e=>by cases e;exact⟨h,rfl⟩
 | _,d::ds,t,h,e=>by
   obtain⟨y,ys,rfl,h1,h2⟩:=h;obtain⟨x,rest,rfl,e2,rfl⟩:=zhE e;obtain⟨a,b⟩:=ints_rep h2 e2
   cases (show y=.int x from h1)
   rw[a,b];exact⟨rfl,rfl⟩
def VI:∀ {xs:List V} {ds:List D} {ts:List (List Int)},HC K H io xs ds->rowsOf ds=some ts->Qj H xs ts/\ds=ts.map Il
 | _,[],ts,h,e=>by cases e;cases (show _=[] from h);exact⟨.nil,rfl⟩
 | _,d::ds,ts,h,e=>by
   obtain⟨y,ys,rfl,h1,h2⟩:=h;obtain⟨t,e1,e⟩:=HK e;obtain⟨us,e2,e⟩:=Ip e;subst e;obtain⟨a,b⟩:=VI h2 e2
   cases d with
   | tup zs =>
     obtain⟨t',f1,f2⟩:=HK e1;obtain⟨hn,f2⟩:=IJ f2;cases f2;obtain⟨p,vs,rfl,hp,rs⟩:=h1;obtain⟨q1,q2⟩:=ints_rep rs f1;subst q1;refine⟨.cons ⟨p,rfl,hp,fun z=>?_⟩ a,?_⟩
     . rw[z] at hn;exact absurd hn<|by decide
     rw[b,q2];rfl
   | _=>cases e1
def TK:GN
 | [.ref n],st=>(Ik st n).bind fun ds=>(rowsOf ds).bind fun ts=>if (decide (2<=ts.length)&&decide (ts.length < 64))=true then some (.ref st.length,st++[.lst ((Lj ts).map Il)]) else none
 | _,_=>none
def Wg{xs:List V}{ts:List (List Int)}(r:HC K H io xs (ts.map Il)):∀ {q:List Nat},(∀ i∈q,i < ts.length)->HC K H io (q.map fun i=>xs.getD i .non) ((q.map fun i=>ts.getD i []).map Il)
 | [],_=>rfl
 | i::q,h=>by
   have hi:=h i Ao;have hg:(ts.map Il)[i]?=some (Il<|ts.getD i []):=by rw[AD,Ah hi,Ay,Ah hi];rfl
   obtain⟨v,hv,rv⟩:=r.get hg;refine⟨_,_,rfl,?_,Wg r fun j hj=>h j (Ak _ hj)⟩;show Rep K H io (xs.getD i .non) _;rw[Ay,hv];exact rv
def zfr:J4 X (.builtin "sorted") TK:=by
 rintro qp s σ H xs us Q I r ⟨ds,st,io,d,st',R,S,e,k⟩;unfold TK at e
 split at e
 . rename_i n;obtain⟨zs,e0,e⟩:=HK e;obtain⟨ts,e1,e⟩:=HK e;obtain⟨hl,e⟩:=IJ e;cases e;rw[Ar] at hl;obtain⟨v,rfl,p,rfl,hp⟩:=R.one;obtain⟨u,rfl,ru⟩:=r.one;cases ru;obtain⟨ys,hx,r1⟩:=Ky S hp e0;obtain⟨T,hd⟩:=VI r1 e1;subst hd;refine zO I hx T (of_decide_eq_true hl.1) (of_decide_eq_true hl.2) fun q p' hq hu hf=>?_;have hm:∀ i∈q.toList,i < ts.length:=fun i hi=>by
     have:=(Array.perm_iff_toList_perm.mp hq).mem_iff.mp hi;simpa using this
   have rr:=Wg r1 hm;rw[cD hq hu] at rr;exact k.lst S rr hf
 . cases e
variable {ma mb:ME}{pos p:Pos}{g:G2}{k:Nat}
section
variable {a b c e:Os} {es:List Os} {mc m:ME} {mm:MA}
def LH:Option α->Option α->Option α
 | some x,_=>some x
 | none,y=>y
def Nh{x y:Option α}{z:α}(h:LH x y=some z):x=some z\/y=some z:=by
 cases x with
 | none=>exact .inr h
 | some w=>exact .inl h
def JX(g h:G2):G2:=fun x y st=>LH (g x y st)<|h x y st
def OD(g h:GN):GN:=fun xs st=>LH (g xs st)<|h xs st
def SU{f:IR->IR->Sem IR}{h:G2}(p:IZ X f g)(q:IZ X f h):IZ X f (JX g h):=by
 rintro qp s σ H x y v u Q I rx ry ⟨dx,dy,st,io,d,st',Rx,Ry,S,e,k⟩
 rcases Nh e with e | e
 . exact p qp s σ H x y v u Q I rx ry ⟨dx,dy,st,io,d,st',Rx,Ry,S,e,k⟩
 exact q qp s σ H x y v u Q I rx ry ⟨dx,dy,st,io,d,st',Rx,Ry,S,e,k⟩
def VM{f:IR}{g h:GN}(p:J4 X f g)(q:J4 X f h):J4 X f (OD g h):=by
 rintro qp s σ H xs us Q I r ⟨ds,st,io,d,st',R,S,e,k⟩
 rcases Nh e with e | e
 . exact p qp s σ H xs us Q I r ⟨ds,st,io,d,st',R,S,e,k⟩
 exact q qp s σ H xs us Q I r ⟨ds,st,io,d,st',R,S,e,k⟩
def Tt{ρ:Ie}{x y:D}{s0 s1 s2:HB}{r:D×HB}(h1:ma ρ s0=some (x,s1))(h2:mb ρ s1=some (y,s2))(h3:g x y s2=some r):mB g ma mb ρ s0=some r:=by unfold mB;rw[h1];show Hr (mb ρ s1) _=_;rw[h2];exact h3
def Vo{h:G2}(p:SE X e (mB g ma mb))(q:SE X e (mB h ma mb)):SE X e (mB (JX g h) ma mb):=by
 rintro qp s σ H Q I ⟨ρ,st,io,d,st',E,S,e,k⟩;obtain⟨⟨x,s1⟩,e1,e⟩:=HK e;obtain⟨⟨y,s2⟩,e2,e⟩:=HK e
 rcases Nh e with e | e
 . exact p qp s σ H Q I ⟨ρ,st,io,d,st',E,S,Tt e1 e2 e,k⟩
 exact q qp s σ H Q I ⟨ρ,st,io,d,st',E,S,Tt e1 e2 e,k⟩
def Vc{h:G2}(p:SB X e (mT<|mB g ma mb))(q:SB X e (mT<|mB h ma mb)):SB X e (mT<|mB (JX g h) ma mb):=by
 rintro qp s σ H Q I ⟨ρ,st,io,d,st',E,S,e,k⟩;have e:=Tc e;obtain⟨⟨x,s1⟩,e1,e⟩:=HK e;obtain⟨⟨y,s2⟩,e2,e⟩:=HK e
 rcases Nh e with e | e
 . exact p qp s σ H Q I ⟨ρ,st,io,d,st',E,S,by unfold mT;rw[Tt e1 e2 e];rfl,k⟩
 exact q qp s σ H Q I ⟨ρ,st,io,d,st',E,S,by unfold mT;rw[Tt e1 e2 e];rfl,k⟩
def U0:G2:=fun d k st=>match d with
 | .ref n=>(look st n k).bind fun r=>r.map fun v=>(v,st)
 | _=>none
def HE:G2:=JX JT U0
def Ig(hu:X.A.units+1 < cLine)(ha:SE X a ma)(hb:SE X b mb)(hs:Vp b:=by intro _ _;rfl)(hs':MY b:=by intro _ _;rfl):SE X (.Subscript a b pos) (mB HE ma mb) :=
 Vo (gL ha hb hs) (show SE X (.Subscript a b pos) (Ym ma mb) from oR hu ha hb hs')
def N8(neg:Bool):G2:=fun k d st=>match d with
 | .ref n=>(look st n k).map fun r=>(.bl (if neg then !r.isSome else r.isSome),st)
 | _=>none
def Nk:G2:=JX (JX (inD false) MM)<|N8 false
def SN:G2:=JX (inD true)<|N8 true
def YG(hu:X.A.units+100 < cLine)(ha:SE X a ma)(hb:SE X b mb)(hm:behindInMarks .In b=false:=by rfl):SB X (.Compare a [.In] [b] pos) (mT<|mB Nk ma mb) :=
 Vc (JE (SU (kK hu) pE) ha hb hm) (show SB X _ (mT<|Ln false ma mb) from jR (by omega) ha hb hm)
def xG(hu:X.A.units+100 < cLine)(ha:SE X a ma)(hb:SE X b mb)(hm:behindInMarks .NotIn b=false:=by rfl):SE X (.Compare a [.NotIn] [b] pos) (mB SN ma mb) :=
 Vo (Vd (aV hu) ha hb hm) (show SE X _ (Ln true ma mb) from xE (by omega) ha hb hm)
def yI(hu:X.A.units+100 < cLine)(ha:SE X a ma)(hb:SE X b mb)(hm:behindInMarks .NotIn b=false:=by rfl):SB X (.Compare a [.NotIn] [b] pos) (mT<|mB SN ma mb) :=
 Vc (JE (aV hu) ha hb hm) (show SB X _ (mT<|Ln true ma mb) from yH (by omega) ha hb hm)
def UC:D->Option Int->Option Int->HB->Option (D×HB):=fun x lo hi st=>LH (Pt x lo hi st)<|UB x lo hi st
def RQ(m:ME)(l h:MO):ME:=fun ρ st=>(m ρ st).bind fun (x,s1)=>(l ρ s1).bind fun (lo,s2)=>(h ρ s2).bind fun (hi,s3)=>UC x lo hi s3
def xI{lo hi:Option Os}{ml mh:MO}{p2:Pos}(he:SE X e m)(hl:SO X lo ml)(hu:SO X hi mh):SE X (.Subscript e (.Slice lo hi none p2) pos) (RQ m ml mh):=by
 rintro qp s σ H Q I ⟨ρ,st,io,d,st',E,S,e0,k⟩;obtain⟨⟨x,s1⟩,e1,e0⟩:=HK e0;obtain⟨⟨lo',s2⟩,e2,e0⟩:=HK e0;obtain⟨⟨hi',s3⟩,e3,e0⟩:=HK e0
 rcases Nh e0 with e0 | e0
 . exact vE he hl hu qp s σ H Q I ⟨ρ,st,io,d,st',E,S,by simp only[eE,e1,e2,e3,Ae];exact e0,k⟩
 exact xJ he hl hu qp s σ H Q I ⟨ρ,st,io,d,st',E,S,by simp only[RP,e1,e2,e3,Ae];exact e0,k⟩
def Nv:D->HB->Option (Wk×HB)
 | .ref n,s=>(Ik s n).map fun ds=>(⟨ds,[(n,ds)]⟩,s)
 | .tup ds,s=>some (⟨ds,[]⟩,s)
 | _,_=>none
def mW(m:ME):MI:=fun ρ st=>(m ρ st).bind fun (d,s)=>Nv d s
def rT{tg l:Os}(hl:SE X l m):SI X tg l (mW m):=by
 rintro qp s σ H R I ⟨ρ,st,io,W,st',E,S,e0,k⟩;obtain⟨⟨d,s1⟩,e1,e0⟩:=HK e0
 cases d with
 | ref n=>exact rS hl qp s σ H R I ⟨ρ,st,io,W,st',E,S,by unfold eB;rw[e1];exact e0,k⟩
 | tup ds=>exact kA hl qp s σ H R I ⟨ρ,st,io,W,st',E,S,by unfold dY;rw[e1];exact e0,k⟩
 | _=>cases e0
def IX:G3:=fun o i v st=>match o,i with
 | .ref n,.int k=>match st[n]? with
   | some (.lst ds)=>(LY ds.length k).map fun j=>st.set n<|.lst<|ds.set j v
   | _=>none
 | _,_=>none
def gM:Se X IX:=by
 rintro qp s σ H o i v ov iv u Q I ro ri rv ⟨d1,d2,d3,st,io,st',R1,R2,R3,S,e,k⟩
 cases d1 with
 | ref n =>
   cases d2 with
   | int j =>
     unfold IX at e;dsimp only at e
     split at e
     . rename_i ds e0;obtain⟨q,e1,e⟩:=Ip e;cases e;obtain⟨p,rfl,hp⟩:=R1;obtain⟨ys,hH,r⟩:=S.ob n p _ hp e0;refine set_list qp s σ H _ _ v ov iv u Q I ro ri rv ⟨p,ys,j,q,rfl,R2,hH,by rw[r.length];exact e1,?_⟩;obtain⟨E',S'⟩:=Ow (o:=.lst (ys.set q v)) (ob:=.lst (ds.set q d3)) S hp e0 (fun o u z=>by rw[hH] at z;cases z) fun H' T e'=>⟨_,e',(HC.mono T r).set q<|Rep.mono T R3⟩
       exact k _ [] E' S'
     . cases e
   | _=>cases e
 | _=>cases d2 <;> cases e
def JR(mo mi mv:ME):MS:=fun ρ st=>LH (HL mv (N6 IX mo mi) ρ st)<|Nr mo mi mv ρ st
def O3{o i value:Os}{mo mi mv:ME}{pos':Pos}(hu:X.A.units+1 < cLine)(ho:SE X o mo)(hi:SE X i mi)(hv:SE X value mv)(hs:swapsWith value (some<|.Subscript o i pos') pos.line X.env=pure false:=by rfl)
   (ha:∀ v,assign (.Subscript o i pos') X.env v=(do
     let ov <-holding [v] (W1 o X.env)
     let iv <-holding [v,ov] (W1 i X.env)
     standAt pos'
     holding [v,ov,iv] (setItem ov iv v)
     release [v,ov,iv] []):=by intro _;rfl)
   (hs2:swapsWithSole [.Subscript o i pos'] value pos.line X.env=pure false:=by rfl) (hw:swappedStores [.Subscript o i pos'] value X.env=pure none:=by rfl)
   (h1:(assignEach [.Subscript o i pos'] X.env).map (·.2)=[assign (.Subscript o i pos') X.env]:=by rfl):SS X (.Assign [.Subscript o i pos'] value pos) (JR mo mi mv):=by
 intro qp s σ H N I h;obtain⟨ρ,st,io,f,st',E,S,e,w⟩:=Lf.mp h
 rcases Nh e with e | e
 . exact Vk hv (jY ho hi gM ha) hs2 hw h1 qp s σ H N I<|M8 E S e w
 exact qR hu ho hi hv hs qp s σ H N I<|M8 E S e w
def KY(i j:Nat)(mm:MA):MS:=fun ρ st=>(mm ρ st).bind fun (xs,s)=>match xs with
 | [x,y]=>some (.nx ((ρ.set i<|some x).set j<|some y),s)
 | _=>none
def Ta{x y:Str}{px py pt:Pos}{kt k2 pt2}(hc:X.calm=true)(hN:X.N.Nodup)(hi:X.N[i]?=some x)(hj:X.N[j]?=some y)(hij:i≠j)
   (hx:X.env.scope.names.lookup x=some .local) (hy:X.env.scope.names.lookup y=some .local) (ha:SA X [a,b] mm)
   (hw:swappedStores [.Tuple [.Name x px,.Name y py] kt pt] (.Tuple [a,b] k2 pt2) X.env=pure (some [x,y]):=by rfl)
   (hs:swapsWithSole [.Tuple [.Name x px,.Name y py] kt pt] (.Tuple [a,b] k2 pt2) pos.line X.env=pure false:=by rfl) :
   SS X (.Assign [.Tuple [.Name x px,.Name y py] kt pt] (.Tuple [a,b] k2 pt2) pos) (KY i j mm):=PS.imp (lJ hc hN hi hj hij hx hy ha hw hs) fun N σ H h=>by
 obtain⟨ρ,st,io,f,st',E,S,e,w⟩:=Lf.mp h;obtain⟨⟨xs,s1⟩,e1,e⟩:=HK e
 match xs,e,e1 with
 | [u,v],e,e1 =>
   cases e;refine⟨ρ,st,io,_,_,E,S,e1,fun vs H1 k1 X1 S1 R1=>?_⟩;obtain⟨p,q,rfl,r1,r2⟩:=R1.two;exact⟨p,q,rfl,w _ H1 k1 X1 S1<|((E.ext S X1).set i r1).set j r2⟩
def JN(P:Pv)(w:UF)(K:Ac)(mg:Str->Option IR)(base:KM)(k:Nat)(x:Str)(n:Nat)(g:GN):Prop :=
 ∃ f fd ps,II P w K mg base KL k f fd ps (Pr K n g)/\mg x=some (.ref f)/\BV K (.ref f)=true/\Binds K fd ps []
def Kn(n:Nat)(mm:MA):Prop:=∀ ρ st xs s,mm ρ st=some (xs,s)->xs.length=n
def Kn.nil:Kn 0 mZ:=fun _ _ _ _ h=>tH h
def Kn.cons(h:Kn n mm):Kn (n+1) (Hz m mm):=fun _ _ _ _ q=>vU h q
def sQ{x:Str}{g:GN}(F:JN X.prog X.w X.K X.mg X.base k x n g)(hr:Ia k X.A)(hg:Gl X x)(ha:SA X (e::es) mm)(hl:Kn n mm)(hdb:(x==("__debug__":Str))=false:=by decide)
   (he:Qqb X.env e es:=by rfl) (hpl:Qqc pos es X.env:=by rfl) (hn:(e::es).length=n:=by rfl) :
   SE X (.Call (.Name x p) (e::es) [] pos) (HM g mm):=by
 obtain⟨f,fd,ps,F,hm,hk,hb⟩:=F;exact oQ F hr hg hm hk hb ha hdb he hpl hn hl
def Laid(K:Ac)(mg:Str->Option IR)(x:Str)(st:Wp)(ps:List Str):Prop:=∃ f fd,LJ K x x st f fd/\mg x=some (.ref f)/\Binds K fd ps []
def jH{mg:Str->Option IR}{base:KM}{x:Str}{st:Wp}{N ps:List Str}{m:MS}(L:Laid K mg x st ps)(S:Iy N ps (IL st))
   (hbody:∀ (f:Addr) (cdv:IR) (A:Around) (outer:List Env) (s:Shared) (H:Hp) (E:XK),Ia k (A.deeper<|envOfC x (IL st) s.heap.objs.size f cdv) ->
     KJ (Ic KL P w K mg base N x (IL st) f cdv A outer s H E).nox (Ki st) m):JN P w K mg base (k+1) x ps.length (Jc N.length m):=by
 obtain⟨f,fd,F,hm,hb⟩:=L;exact⟨f,fd,ps,R8 F S<|hbody f,hm,F.kp,hb⟩
end
variable {v:IR}
def xS{at_:Addr}{R:PySem.Fin->Shared->Prop}(g0:s.heap.get? at_=some (seqObj "list" #[v] k))(fin:R (.done<|.ret .none) { s with heap:=sortedHeap s.heap at_ [v] #[v] }) :
   wpAny (KB prog w) A (Builtin.«list.sort» ⟨[.ref at_],[]⟩) R E s:=by
 have lt0:=Aj g0;obtain⟨ep,g1⟩:∃ ep,(s.heap.update at_<|Bs fun _=>(#[]:Array IR)).get? at_=some (seqObj "list" #[] ep):=⟨_,get?_update_seq g0 fun _=>#[]⟩
 have g2:(((s.heap.update at_<|Bs fun _=>(#[]:Array IR)).push<|seqObj "tuple" #[v] 0).push<|seqObj "list" #[] 0).get? at_=some (seqObj "list" #[] ep):=Ad _<|Ad _ g1;rw[list_sort_plain];refine Aa<|listItems_at g0 rfl<|Aa<|Eb g0 rfl<|Aa<|Fb g1 rfl<|Aa<|Fk<|Aa<|Dz<|A0 ?_;show wpAny (KB prog w) A _ R E { s with heap:=((s.heap.update at_<|Bs fun _=>(#[]:Array IR)).push<|seqObj "tuple" #[v] 0).push (seqObj "list" #[] 0) };have two:(#[v]:Array IR).size < 2:=by show 1 < 2;decide
 have same:(arrOf<|Ht general' ((#[v]:Array IR).zip #[v]) #[] 7 none).map (·.2)=#[v]:=by show (((#[v]:Array IR).zip #[v]).map (·.2))=#[v];simp
 dsimp only;rw[if_pos two,if_pos two];refine Aa<|Ab ?_;rw[GI];refine Aa<|Ab ?_;dsimp only;rw[same];refine Aa<|Fb g2 rfl<|Aa<|Eb g2 rfl ?_;simp only[bne_self_eq_false,Bd,if_false];exact Ab fin
def zN{R:Qqa}(hl:s.heap.IsList l [v].toArray)(fin:R (.ref<|s.heap.objs.size+1) { s with heap:=sortedAll s.heap [v] #[v] }) :
   wpAny (KB prog w) A (call (.builtin "sorted") [.ref l]) R E s:=by
 have sz:((s.heap.push<|seqObj "list" #[] 0).update s.heap.objs.size (Bs (·++[v].toArray))).objs.size=s.heap.objs.size+1:=(Gv ..).trans<|size_push' ..;have g0:(((s.heap.push<|seqObj "list" #[] 0).update s.heap.objs.size (Bs (·++[v].toArray))).push<|seqObj "list" [v].toArray 0).get? (s.heap.objs.size+1)=some (seqObj "list" [v].toArray 0):=by rw[<-sz];exact Am _ rfl
 refine Da kind_sorted plain_sorted entry_sorted (FU _) ?_;unfold Builtin.«sorted»;refine Aa (m:=checkCount "sorted" 1 1 _) (Ab<|Aa<|collect_list hl<|Aa<|Dz ?_);show wpAny _ _ _ _ _ { s with heap:=((s.heap.push<|seqObj "list" #[] 0).update s.heap.objs.size (Bs (·++[v].toArray))).push (seqObj "list" [v].toArray 0) };rw[sz];exact Aa<|A0<|AO Fm ⟨_,g0,rfl⟩ ER (xS g0 ⟨_,rfl,Ab ⟨_,rfl,fin⟩⟩)<|Fn _
def Q8:GN
 | [.ref n],st=>(Ik st n).bind fun ds=>if decide (ds.length=1)=true then some (.ref st.length,st++[.lst ds]) else none
 | _,_=>none
def zfu:J4 X (.builtin "sorted") Q8:=by
 rintro qp s σ H xs us Q I r ⟨ds,st,io,d,st',R,S,e,k⟩;unfold Q8 at e
 split at e
 . rename_i n;obtain⟨zs,e0,e⟩:=HK e;obtain⟨hl,e⟩:=IJ e;cases e;obtain⟨y,rfl⟩:=List.length_eq_one_iff.mp<|of_decide_eq_true hl;obtain⟨v,rfl,p,rfl,hp⟩:=R.one;obtain⟨u,rfl,ru⟩:=r.one;cases ru;obtain⟨ys,hx,r1⟩:=Ky S hp e0;obtain⟨its,rv,pl,hz⟩:=I.list hx;obtain⟨y',rfl,ry⟩:=r1.one;obtain⟨i,rfl,ri⟩:=rv.one;refine zN pl.isList ?_;obtain⟨ep,hat⟩:=sortedAll_at s.heap [i] #[i];have hfree:H (s.heap.objs.size+1)=none:=I.hok.fresh<|BR _;refine⟨.ref<|s.heap.objs.size+1,upd H (s.heap.objs.size+1)<|.lst [y'],I.laid (t':=s.toks) (a:=s.heap.objs.size+1) (fun b o q=>sortedAll_old q) (BR _) ⟨by show 1<=sizeLine;decide,[i],ep,rv,by simpa using hat⟩,rfl,?_⟩;exact k.lst S r1 hfree
 . cases e
def Nf:GN:=OD Qp<|OD Q8 TK
def zgk:J4 X (.builtin "sorted") Nf:=VM zfs<|VM zfu zfr
variable {o:Obj}
def Inv.freeze{d:Addr}{o:Obj}{u:HO}(I:Inv X qp σ H s)(hd:H d=some u)(g:s.heap.get? d=some o)(n1:∀ xs,u≠.tup xs)(n2:∀ x,u≠.own x)(n3:∀ o w,u≠.frz o w)(n4:∀ ps,u≠.tbl ps):Inv X qp σ (upd H d<|.frz o u) s:=by
 have ne:∀ {b:Addr} {v:HO},H b=some v->v≠u->b≠d:=fun {b v} q nv z=>by subst z;rw[hd] at q;exact nv (Ap q).symm
 refine Inv.step (h':=s.heap) (t':=s.toks) (g':=s.gens) (d':=s.drawn) (ch:=[]) I (fun _ z=>nomatch z) (fun b v _ _ _ q _=>q) (fun b v _ _ _ q _=>⟨v.slots,q⟩) (fun b v _ q n=>?_) (fun b v _ q=>⟨v,q⟩) (fun b xs q=>?_) (fun b v w q=>?_) (fun b ps q=>⟨#[],?_⟩) (fun m hm=>hm) (fun b v q=>?_) I.bare
 . have:b≠d:=fun z=>by
     rw[z,hd] at n;cases n
   rw[HV this];exact n
 . rw[HV (ne q fun z=>n1 xs z.symm)];exact q
 . rw[HV (ne q fun z=>n3 v w z.symm)];exact q
 . rw[HV (ne q fun z=>n4 ps z.symm),q];simp
 . by_cases hb:b=d
   . subst hb;rw[JP] at q;cases q;refine⟨g,?_⟩;exact (I.hok b u hd).stay (fun c x _ y=>y) (fun c y=>by rw[HV (ne y fun z=>n2 b z.symm)];exact y) fun c xs y=>by rw[HV (ne y fun z=>n1 xs z.symm)];exact y
   rw[HV hb] at q;exact (I.hok b v q).stay (fun c x _ y=>y) (fun c y=>by rw[HV (ne y fun z=>n2 b z.symm)];exact y) fun c xs y=>by rw[HV (ne y fun z=>n1 xs z.symm)];exact y
def VO{d:Addr}{ps:List (List Key×V)}{es:Array DictEntry}{ep:Nat}(x:Ju P w H h d (.frz o<|.dT ps))(dd:o.data=.dict es ep) :
   h.get? d=some o/\es.size=ps.length/\∀ (i:Nat) (k:List Key) (v:V),ps[i]?=some (k,v)->∃ (en:DictEntry) (b:Addr),es[i]?=some en/\en.key=.ref b/\H b=some (.tup<|k.map kV)/\RelV v en.val:=by
 obtain⟨g,z,y,xs,r,o',es',ep',g',ex,dd',et,nd⟩:=x;rw[g] at g';cases g';rw[dd] at dd';cases dd';have hl:es.size=ps.length:=by have h1:=congrArg List.length et;have h2:=By r;simp at h1;omega
 refine⟨g,hl,fun i k v hi=>?_⟩;have get:∀ {l:List (List Key×V)} {m:List (List Key×Addr×IR)} {i:Nat},Paired (fun (p:List Key×V) (q:List Key×Addr×IR)=>p.1=q.1/\H q.2.1=some (.tup<|p.1.map kV)/\RelV p.2 q.2.2) l m->l[i]?=some (k,v)->∃ q,m[i]?=some q/\H q.2.1=some (.tup<|k.map kV)/\RelV v q.2.2:=by
   intro l m i q
   induction q generalizing i with
   | nil=>intro e;simp at e
   | cons h t ih =>
     cases i with
     | zero =>
       intro e;simp at e;subst e;exact⟨_,rfl,h.2.1,h.2.2⟩
     | succ j=>intro e;exact ih<|by simpa using e
 obtain⟨q,hq,h1,h2⟩:=get r hi;have he:es[i]?=some (entryOfKey (tupleKind<|IS P w) q):=by
   have:es.toList[i]?=some (entryOfKey (tupleKind<|IS P w) q):=by rw[et,AD,hq];rfl
   simpa using this
 exact⟨_,q.2.1,he,rfl,h1,h2⟩
section
variable {m:ME}
def RT:Key->D
 | .inl i=>.int i
 | .inr x=>.str x
def TN:∀ (ks:List Key),HC K H io (ks.map kV) (ks.map RT)
 | []=>rfl
 | .inl i::r=>⟨_,_,rfl,rfl,TN r⟩
 | .inr x::r=>⟨_,_,rfl,rfl,TN r⟩
end
inductive Sr where
 | l (a:Addr) | t (a:Addr)
def Sr.ad:Sr->Addr
 | .l a=>a
 | .t a=>a
def Sr.ob:Sr->Obj
 | .l a=>{ cls:=.type "list_iterator",data:=.fields #[.ref a,.int 0 0] }
 | .t a=>{ cls:=.type "tuple_iterator",data:=.fields #[.ref a,.int 0 0] }
def Sr.is(h:KM)(xs:Array IR):Sr->Prop
 | .l a=>h.IsList a xs
 | .t a=>IsTup h a xs
def Sr.at_(h:KM)(i:Addr)(k:Nat):Sr->Prop
 | .l a=>h.IsListIter i a k
 | .t a=>IsTupIter h i a k
variable {xs:Array IR}{x:Sr}
def Sr.is_keep(q:x.is h xs)(k:∀ u,h.get? x.ad=some u->h'.get? x.ad=some u):x.is h' xs:=by
 cases x with
 | l a=>exact Fo q k
 | t a=>obtain⟨o,g,c⟩:=q;exact⟨o,k o g,c⟩
def Sr.at_keep{i:Addr}(q:x.at_ h i n)(k:∀ u,h.get? i=some u->h'.get? i=some u):x.at_ h' i n:=by
 cases x with
 | l a=>exact FV q k
 | t a=>obtain⟨o,g,c⟩:=q;exact⟨o,k o g,c⟩
def Sr.at_get{i:Addr}(q:x.at_ h i n):∃ o vs,h.get? i=some o/\o.data=.fields vs:=by
 cases x with
 | l a=>obtain⟨o,g,c,d⟩:=q;exact⟨o,_,g,d⟩
 | t a=>obtain⟨o,g,c,d⟩:=q;exact⟨o,_,g,d⟩
variable {it:Addr}
def Sr.iter{R:Qqa}(h:x.is s.heap xs)(k:R (.ref s.heap.objs.size) { s with heap:=s.heap.push x.ob }):wpAny (KB prog w) A (pyIter<|.ref x.ad) R E s:=by
 cases x with
 | l a=>exact Dp h k
 | t a=>exact iter_tuple h k
def yQ{R:Qqa}(hit:IsTupIter s.heap it a i)(ht:IsTup s.heap a xs)(hx:xs[i]?=some v)
   (k:∀ h',IsTupIter h' it a (i+1)->BA it s.heap h'->R v { s with heap:=h' }):wpAny (KB prog w) A (A3<|.ref it) R E s:=by
 obtain⟨ro,rg,rc,rd⟩:=id hit;obtain⟨to,tg,_,tn,td⟩:=ht;unfold A3;refine Aa (AY (name:=BB "__next__") hit.typeIs C3<|AO C3 hit.typeIs Fx ?_<|FE _);show wpAny _ _ (field (.ref it) 0 >>= _) _ _ s;refine Aa<|A7 rg rd (x:=.ref a) rfl ?_;show wpAny _ _ (if (Au a==AE)=true then _ else _) _ _ s;rw[if_neg (show ¬ (Au a==AE)=true from fun z=>Bk z)];show wpAny _ _ (field (.ref it) 1 >>= _) _ _ s;refine Aa<|A7 rg rd (x:=.int i 0) rfl ?_;show wpAny _ _ (seqItems? (.ref a) >>= _) _ _ s;refine Aa<|BJ tg td ?_;simp only[Bb,hx];refine Aa<|A1 rg rd (by simp)<|Ab ⟨v,rfl,Ab<|k _ ⟨_,AG _ rg<|AQ<|AB rd _,(B1 ..).trans rc,?_⟩<|AX ..⟩;rw[AB rd];simp[SZ]
def zeK{R:Qqa}(hh:A.handled=none)(hit:IsTupIter s.heap it a i)(ht:IsTup s.heap a xs)(hx:xs[i]?=none)
   (k:∀ h' e,Co it s.heap h'->(∃ o,h'.get? e=some o/\o.cls=.type "StopIteration")->E (.ref e) { s with heap:=h' }):wpAny (KB prog w) A (A3<|.ref it) R E s:=by
 obtain⟨ro,rg,rc,rd⟩:=id hit;obtain⟨to,tg,_,tn,td⟩:=ht;unfold A3;refine Aa (AY (name:=BB "__next__") hit.typeIs C3<|AO C3 hit.typeIs Fx ?_<|FE _);show wpAny _ _ (field (.ref it) 0 >>= _) _ _ s;refine Aa<|A7 rg rd (x:=.ref a) rfl ?_;show wpAny _ _ (if (Au a==AE)=true then _ else _) _ _ s;rw[if_neg (show ¬ (Au a==AE)=true from fun z=>Bk z)];show wpAny _ _ (field (.ref it) 1 >>= _) _ _ s;refine Aa<|A7 rg rd (x:=.int i 0) rfl ?_;show wpAny _ _ (seqItems? (.ref a) >>= _) _ _ s;refine Aa<|BJ tg td ?_;simp only[Bb,hx];refine Aa<|BY<|Aa<|A1 rg rd (by simp) ?_;show wpAny _ _ (newExc (.type "StopIteration") [] >>= _) _ _ _;simp only[newExc,newTuple];refine Aa (Aa<|AN (Aa (m:=firstArgMember _ _)<|Fc (a:=AE) (by first | rfl | (simp only[firstArgMember];rfl))<|AN ?_<|by size_fits)<|by size_fits);simp only[raiseNew];refine Aa<|FA ?_
 first | rw[show A.in1.handled=none from hh] | rw[hh]
 refine Aa<|Ab<|Gm ?_;exact k _ _ (((AX ..).extBut.push _).push _) ⟨_,Am _ rfl,rfl⟩
def Sr.next{R:Qqa}(hit:x.at_ s.heap it i)(h:x.is s.heap xs)(hx:xs[i]?=some v)(k:∀ h',x.at_ h' it (i+1)->BA it s.heap h'->R v { s with heap:=h' }) :
   wpAny (KB prog w) A (A3<|.ref it) R E s:=by
 cases x with
 | l a=>exact wpAny_nextOf_list_item hit h hx k
 | t a=>exact yQ hit h hx k
def Sr.stop{R:Qqa}(hh:A.handled=none)(hit:x.at_ s.heap it i)(h:x.is s.heap xs)(hx:xs[i]?=none)
   (k:∀ h' e,Co it s.heap h'->(∃ o,h'.get? e=some o/\o.cls=.type "StopIteration")->E (.ref e) { s with heap:=h' }):wpAny (KB prog w) A (A3<|.ref it) R E s:=by
 cases x with
 | l a=>exact wpAny_nextOf_list_end hh hit h hx k
 | t a=>exact zeK hh hit h hx k
def Sr.at_new{i:Addr}(g:h.get? i=some x.ob):x.at_ h i 0:=by
 cases x with
 | l a=>exact⟨_,g,rfl,rfl⟩
 | t a=>exact⟨_,g,rfl,rfl⟩
noncomputable abbrev P4 (h:KM) (x:Sr):KM:=h.push x.ob
noncomputable abbrev QL (h:KM) (x y:Sr):KM:=(P4 h x).push y.ob
noncomputable abbrev QK (h:KM) (x y:Sr):KM:=(QL h x y).push { cls:=.type "tuple",data:=.seq #[.ref h.objs.size,.ref (P4 h x).objs.size] }
noncomputable abbrev Sx (h:KM) (x y:Sr):KM:=(QK h x y).push { cls:=.type "tuple",data:=.seq #[.none,.none] }
noncomputable abbrev OL (h:KM) (x y:Sr):KM:=(Sx h x y).push { cls:=.type "zip",data:=.fields #[.none,.bool false,.bool false,.ref (QL h x y).objs.size,.ref (QK h x y).objs.size] }
def wZ(x y:Sr)(xs ys:Array IR):Meets (Builtin.«zip.__new__» ⟨[.type "zip",.ref x.ad,.ref y.ad],[]⟩) (fun _ R s=>x.is s.heap xs/\y.is s.heap ys/\R (.ok<|.ret<|.ref (Sx s.heap x y).objs.size) { s with heap:=OL s.heap x y }) :=
 .of_wp fun prog w A R s h=>by
   obtain⟨hp,g,d,tk,os⟩:=s;obtain⟨h1,h2,h⟩:=h;have hsub:=sub_zip;have hx:x.is (Shared.heap ⟨hp,g,d,tk,os⟩) xs:=h1;have hy:y.is (Shared.heap ⟨hp.push x.ob,g,d,tk,os⟩) ys:=Sr.is_keep h2 fun u q=>Ad _ q
   wp_walk using Sr.iter hx,Sr.iter hy
   exact⟨_,rfl,h⟩
structure Zp(z TI TO i j:Addr):Prop where
 TIz:TI≠z
 TOz:TO≠z
 iz:i≠z
 jz:j≠z
 TIO:TI≠TO
 TIi:TI≠i
 TIj:TI≠j
 TOi:TO≠i
 TOj:TO≠j
 ij:i≠j
def Nj{a b:Nat}(h:a≠b):(show Addr from a)≠(show Addr from b):=h
def Zp.new(n:Nat):Zp (n+4) (n+2) (n+3) n (n+1):=⟨Nj<|by omega,Nj<|by omega,Nj<|by omega,Nj<|by omega,Nj<|by omega,Nj<|by omega,Nj<|by omega,Nj<|by omega,Nj<|by omega,Nj<|by omega⟩
variable {b:IR}{y:Sr}{z:Addr}{ys:Array IR}
def wJ{R:Qqa}(hx:x.is s.heap xs)(hy:y.is s.heap ys)
   (k:∀ h',IsZip h' (s.heap.objs.size+4) (s.heap.objs.size+2) (s.heap.objs.size+3) .none->IsPair h' (s.heap.objs.size+2) (.ref s.heap.objs.size) (.ref<|s.heap.objs.size+1)->IsPair h' (s.heap.objs.size+3) .none .none ->
     x.at_ h' s.heap.objs.size 0->y.at_ h' (s.heap.objs.size+1) 0->(∀ c u,s.heap.get? c=some u->h'.get? c=some u)->R (.ref<|s.heap.objs.size+4) { s with heap:=h' }):wpAny (KB prog w) A (call (.type "zip") [.ref x.ad,.ref y.ad]) R E s:=by
 refine callType_new F.called_zip (by decide) (F.typeCall_zip_2 _ _) (F.newCall_zip_2 _ _) (fun obj=>F.args_object_init_3 obj _ _) F.entry_zip_new (wZ x y xs ys) ⟨hx,hy,?_⟩;have e1:(P4 s.heap x).objs.size=s.heap.objs.size+1:=Bl ..;have e2:(QL s.heap x y).objs.size=s.heap.objs.size+2:=(Bl ..).trans (by rw[e1]);have e3:(QK s.heap x y).objs.size=s.heap.objs.size+3:=(Bl ..).trans (by rw[e2]);have e4:(Sx s.heap x y).objs.size=s.heap.objs.size+4:=(Bl ..).trans (by rw[e3]);have up:∀ c u,(P4 s.heap x).get? c=some u->(OL s.heap x y).get? c=some u:=fun c u q=>Ad _<|Ad _<|Ad _<|Ad _ q;have f5:(OL s.heap x y).get? (Sx s.heap x y).objs.size=some { cls:=.type "zip",data:=.fields #[.none,.bool false,.bool false,.ref (QL s.heap x y).objs.size,.ref (QK s.heap x y).objs.size] }:=Am _ rfl;have f4:(OL s.heap x y).get? (QK s.heap x y).objs.size=some { cls:=.type "tuple",data:=.seq #[.none,.none] }:=Ad _<|Am _ rfl;have f3:(OL s.heap x y).get? (QL s.heap x y).objs.size=some { cls:=.type "tuple",data:=.seq #[.ref s.heap.objs.size,.ref (P4 s.heap x).objs.size] }:=Ad _<|Ad _<|Am _ rfl;have f2:(OL s.heap x y).get? (P4 s.heap x).objs.size=some y.ob:=Ad _<|Ad _<|Ad _<|Am _ (by cases y <;> rfl);have f1:(OL s.heap x y).get? s.heap.objs.size=some x.ob:=up _ _<|Am _ (by cases x <;> rfl);rw[e2,e3,e4] at f5;rw[e1,e2] at f3;rw[e3] at f4;rw[e1] at f2;show _/\_;rw[e4];exact⟨⟨_,f5,rfl⟩,k _ f5 f3 f4 (Sr.at_new f1) (Sr.at_new f2) fun c u q=>up c u (Ad _ q)⟩
def vB{TI TO i j:Addr}{m:Nat}{u a:IR}{R:Option IR->Shared->Prop}(D:Zp z TI TO i j)(xz:x.ad≠z/\x.ad≠TO/\x.ad≠i/\x.ad≠j)(yz:y.ad≠z/\y.ad≠TO/\y.ad≠i/\y.ad≠j)
   (hz:IsZip s.heap z TI TO .none) (hTI:IsPair s.heap TI (.ref i) (.ref j)) (hTO:IsPair s.heap TO a b) (hi:x.at_ s.heap i n) (hj:y.at_ s.heap j m) (hx:x.is s.heap xs) (hy:y.is s.heap ys) (gx:xs[n]?=some u) (gy:ys[m]?=some v)
   (k:∀ h',IsZip h' z TI TO (SZ s.heap.objs.size)->IsPair h' TI (.ref i) (.ref j)->IsPair h' TO u v->x.at_ h' i (n+1)->y.at_ h' j (m+1)->IsPair h' s.heap.objs.size u v ->
     (∀ c o,c≠z->c≠TO->c≠i->c≠j->s.heap.get? c=some o->h'.get? c=some o)->R (some<|.ref s.heap.objs.size) { s with heap:=h' }):wpAny (KB prog w) A (pyNext<|.ref z) R E s:=by
 have ty:s.TypeIs (.ref z) "zip":=⟨_,hz,rfl⟩
 unfold pyNext;refine Aa (B2<|AY (name:=BB "__next__") ty F.slot_zip_next<|AO F.slot_zip_next ty F.entry_zip_next ?_<|F.args_zip_next_1 _);show wpAny _ _ (field (.ref z) 2 >>= _) _ _ _;refine Aa<|A7 hz rfl (x:=.bool false) rfl ?_;show wpAny _ _ (field (.ref z) 3 >>= _) _ _ _;refine Aa<|A7 hz rfl (x:=.ref TI) rfl<|Aa<|BJ hTI rfl ?_;show wpAny _ _ (BK (.ref z) >>= _) _ _ _;unfold BK;refine Aa<|Aa<|A7 hz rfl (x:=.none) rfl<|Ab ?_;simp only[if_true];refine Aa<|BY<|Aa<|A7 hz rfl (x:=.ref TO) rfl<|Aa<|Cd hz (by simp) fun g1 z1 s1=>?_
 replace z1:IsZip g1 z TI TO .ellipsis:=z1
 have k1:∀ c o,c≠z->s.heap.get? c=some o->g1.get? c=some o:=fun c o nc q=>s1.extBut c o nc q;simp only[Ew,GJ,EN,Dm];refine Aa<|Aa<|Aa<|Ec ?_;show wpAny _ _ (A3 (.ref i) >>= _) _ _ _;refine Aa<|Sr.next (Sr.at_keep hi fun o q=>k1 _ o D.iz q) (Sr.is_keep hx fun o q=>k1 _ o xz.1 q) gx fun g2 i2 s2=>Ab ?_;have k2:∀ c o,c≠z->c≠i->s.heap.get? c=some o->g2.get? c=some o:=fun c o nc ni q=>s2.extBut c o ni<|k1 c o nc q;have o2:IsPair g2 TO a b:=k2 _ _ D.TOz D.TOi hTO;refine Aa<|BJ o2 rfl<|Aa<|DN o2 fun g3 o3 s3=>(Aa<|Gn<|Ab ?_)
 replace o3:IsPair g3 TO u b:=o3
 have k3:∀ c o,c≠z->c≠i->c≠TO->s.heap.get? c=some o->g3.get? c=some o:=fun c o nc ni nt q=>s3.extBut c o nt<|k2 c o nc ni q;refine Aa<|Aa<|Ec ?_;show wpAny _ _ (A3 (.ref j) >>= _) _ _ _;refine Aa<|Sr.next (Sr.at_keep hj fun o q=>k3 _ o D.jz D.ij.symm D.TOj.symm q) (Sr.is_keep hy fun o q=>k3 _ o yz.1 yz.2.2.1 yz.2.1 q) gy fun g4 j4 s4=>Ab ?_;have o4:IsPair g4 TO u b:=s4.extBut _ _ D.TOj o3;refine Aa<|BJ o4 rfl<|Aa<|DN o4 fun g5 o5 s5=>(Aa<|Gn<|Ab<|Ab ?_)
 replace o5:IsPair g5 TO u v:=o5
 refine Aa<|BJ o5 rfl<|Aa<|Fk ?_;have sz:g5.objs.size=s.heap.objs.size:=by rw[s5.1,s4.1,s3.1,s2.1,s1.1]
 have z5:IsZip g5 z TI TO .ellipsis:=s5.extBut _ _ D.TOz.symm<|s4.extBut _ _ D.jz.symm<|s3.extBut _ _ D.TOz.symm<|s2.extBut _ _ D.iz.symm z1;have k5:∀ c o,c≠z->c≠TO->c≠i->c≠j->s.heap.get? c=some o->g5.get? c=some o:=fun c o c1 c2 c3 c4 q=>s5.extBut c o c2<|s4.extBut c o c4<|k3 c o c1 c3 c2 q;have i5:x.at_ g5 i (n+1):=Sr.at_keep i2 fun o q=>s5.extBut _ _ D.TOi.symm<|s4.extBut _ _ D.ij<|s3.extBut _ _ D.TOi.symm q;have j5:y.at_ g5 j (m+1):=Sr.at_keep j4 fun o q=>s5.extBut _ _ D.TOj.symm q;have lz:z < g5.objs.size:=Aj z5;show wpAny _ _ (Dh (.ref z) (.ref g5.objs.size) >>= _) _ _ _;unfold Dh;have z6:IsZip (g5.push { cls:=.type "tuple",data:=.seq #[u,v] }) z TI TO .ellipsis:=Ad _ z5;refine Aa<|Aa<|Cd z6 (by simp) fun g7 z7 s7=>?_
 replace z7:IsZip g7 z TI TO (SZ g5.objs.size):=z7
 refine Cd z7 (by simp) fun g8 z8 s8=>?_
 replace z8:IsZip g8 z TI TO (SZ g5.objs.size):=z8
 have up:∀ c o,c≠z->g5.get? c=some o->g8.get? c=some o:=fun c o nc q=>s8.extBut c o nc<|s7.extBut c o nc<|Ad _ q;have t8:IsPair g8 g5.objs.size u v:=s8.extBut _ _ (Br lz)<|s7.extBut _ _ (Br lz)<|Am _ rfl;rw[sz] at z8 t8;refine Ab ⟨_,rfl,Ab ?_⟩;show R (some<|.ref g5.objs.size) _;rw[sz];exact k g8 z8 (up _ _ D.TIz<|k5 _ _ D.TIz D.TIO D.TIi D.TIj hTI) (up _ _ D.TOz o5) (Sr.at_keep i5 fun o q=>up _ o D.iz q) (Sr.at_keep j5 fun o q=>up _ o D.jz q) t8 fun c o c1 c2 c3 c4 q=>up c o c1 (k5 c o c1 c2 c3 c4 q)
def rJ{TI TO i j:Addr}{m:Nat}{a:IR}{R:Option IR->Shared->Prop}(hh:A.handled=none)(D:Zp z TI TO i j)(xz:x.ad≠z/\x.ad≠TO/\x.ad≠i/\x.ad≠j)(yz:y.ad≠z/\y.ad≠TO/\y.ad≠i/\y.ad≠j)
   (hz:IsZip s.heap z TI TO .none) (hTI:IsPair s.heap TI (.ref i) (.ref j)) (hTO:IsPair s.heap TO a b) (hi:x.at_ s.heap i n) (hj:y.at_ s.heap j m) (hx:x.is s.heap xs) (hy:y.is s.heap ys) (he:xs[n]?=none\/ys[m]?=none)
   (k:∀ h',(∀ c o,c≠z->c≠TO->c≠i->c≠j->s.heap.get? c=some o->h'.get? c=some o)->R none { s with heap:=h' }):wpAny (KB prog w) A (pyNext<|.ref z) R E s:=by
 have ty:s.TypeIs (.ref z) "zip":=⟨_,hz,rfl⟩
 have halt:∀ h' e,(∀ c o,c≠z->c≠TO->c≠i->c≠j->s.heap.get? c=some o->h'.get? c=some o)->(∃ o,h'.get? e=some o/\o.cls=.type "StopIteration") ->
     wpAny (KB prog w) A (do if <-isInstance (.ref e) (.type "StopIteration") then pure none else throw (Au e)) R E { s with heap:=h' }:=fun h' e q ⟨o,g,c⟩ =>
   Aa (CT (T:="StopIteration") (b:=true) ⟨o,g,c⟩ Fp<|Ab<|k h' q)
 unfold pyNext;refine Aa (B2<|AY (name:=BB "__next__") ty F.slot_zip_next<|AO F.slot_zip_next ty F.entry_zip_next ?_<|F.args_zip_next_1 _);show wpAny _ _ (field (.ref z) 2 >>= _) _ _ _;refine Aa<|A7 hz rfl (x:=.bool false) rfl ?_;show wpAny _ _ (field (.ref z) 3 >>= _) _ _ _;refine Aa<|A7 hz rfl (x:=.ref TI) rfl<|Aa<|BJ hTI rfl ?_;show wpAny _ _ (BK (.ref z) >>= _) _ _ _;unfold BK;refine Aa<|Aa<|A7 hz rfl (x:=.none) rfl<|Ab ?_;simp only[if_true];refine Aa<|BY<|Aa<|A7 hz rfl (x:=.ref TO) rfl<|Aa<|Cd hz (by simp) fun g1 z1 s1=>?_
 replace z1:IsZip g1 z TI TO .ellipsis:=z1
 have k1:∀ c o,c≠z->s.heap.get? c=some o->g1.get? c=some o:=fun c o nc q=>s1.extBut c o nc q;have sep:∀ {g:KM} {e:Addr} {o:Obj},IsZip g z TI TO .ellipsis->g.get? e=some o->o.cls=.type "StopIteration"->e≠z:=fun {g e o} q h c r=>by subst r;rw[q] at h;cases h;simp at c
 simp only[Ew,GJ,EN,Dm];refine Aa<|Aa<|Aa<|Ec ?_;show wpAny _ _ (A3 (.ref i) >>= _) _ _ _
 cases gx:xs[n]? with
 | none =>
   refine Aa<|Sr.stop hh (Sr.at_keep hi fun o q=>k1 _ o D.iz q) (Sr.is_keep hx fun o q=>k1 _ o xz.1 q) gx ?_;rintro g2 e s2 ⟨oe,he,ce⟩;have z2:IsZip g2 z TI TO .ellipsis:=s2 _ _ D.iz.symm z1;exact Cd z2 (by simp) fun g3 _ s3=>halt g3 e (fun c o c1 _ c3 _ q=>s3.extBut c o c1 (s2 c o c3<|k1 c o c1 q)) ⟨oe,s3.extBut _ _ (sep z2 he ce) he,ce⟩
 | some u =>
   have gy:ys[m]?=none:=he.resolve_left (by rw[gx];simp);refine Aa<|Sr.next (Sr.at_keep hi fun o q=>k1 _ o D.iz q) (Sr.is_keep hx fun o q=>k1 _ o xz.1 q) gx fun g2 i2 s2=>Ab ?_;have k2:∀ c o,c≠z->c≠i->s.heap.get? c=some o->g2.get? c=some o:=fun c o nc ni q=>s2.extBut c o ni<|k1 c o nc q;have o2:IsPair g2 TO a b:=k2 _ _ D.TOz D.TOi hTO;refine Aa<|BJ o2 rfl<|Aa<|DN o2 fun g3 o3 s3=>(Aa<|Gn<|Ab ?_);have k3:∀ c o,c≠z->c≠i->c≠TO->s.heap.get? c=some o->g3.get? c=some o:=fun c o nc ni nt q=>s3.extBut c o nt<|k2 c o nc ni q;refine Aa<|Aa<|Ec ?_;show wpAny _ _ (A3 (.ref j) >>= _) _ _ _;refine Aa<|Sr.stop hh (Sr.at_keep hj fun o q=>k3 _ o D.jz D.ij.symm D.TOj.symm q) (Sr.is_keep hy fun o q=>k3 _ o yz.1 yz.2.2.1 yz.2.1 q) gy ?_;rintro g4 e s4 ⟨oe,he,ce⟩;have z4:IsZip g4 z TI TO .ellipsis:=s4 _ _ D.jz.symm<|s3.extBut _ _ D.TOz.symm<|s2.extBut _ _ D.iz.symm z1;exact Cd z4 (by simp) fun g5 _ s5=>halt g5 e (fun c o c1 c2 c3 c4 q=>s5.extBut c o c1 (s4 c o c4<|k3 c o c1 c3 c2 q)) ⟨oe,s5.extBut _ _ (sep z4 he ce) he,ce⟩
def Sr.sq(H:Hp)(xs:List V):Sr->Prop
 | .l a=>H a=some (.lst xs)\/∃ o,H a=some (.frz o<|.lst xs)
 | .t a=>H a=some (.tup xs)
def Sr.sq_ne{xs:List V}{b:Addr}(h:x.sq H xs)(hb:H b=none):x.ad≠b:=by
 cases x with
 | l a=>rcases h with h | ⟨o,h⟩ <;> exact Jw h hb
 | t a=>exact Jw (show H a=some (.tup xs) from h) hb
def Sr.sq_inj{xs ys:List V}(h:x.sq H xs)(h':x.sq H ys):xs=ys:=by
 cases x with
 | l a=>rcases h with h | ⟨o,h⟩ <;> rcases h' with h' | ⟨o',h'⟩ <;> rw[h] at h' <;> cases h' <;> rfl
 | t a =>
   have h:H a=some (.tup xs):=h;have h':H a=some (.tup ys):=h';rw[h] at h';cases h';rfl
def Sr.sq_is{xs:List V}(I:Inv X qp σ H s)(h:x.sq H xs):∃ its:List IR,Vals xs its/\x.is s.heap its.toArray:=by
 cases x with
 | l a =>
   obtain⟨its,rv,p,_⟩:=I.list (show JB X.K H a xs from .inl h);exact⟨its,rv,p.isList⟩
 | t a =>
   obtain⟨its,rv,p,_⟩:=I.tuple<|IQ.of (K:=X.K) h;exact⟨its,rv,p⟩
def Itz(x y:Sr):It :=
 ⟨fun i H=>∃ xs ys u v,x.sq H xs/\y.sq H ys/\xs[i]?=some u/\ys[i]?=some v,fun i H r H'=>∃ p u v,H p=none/\H'=upd H p (.tup [u,v])/\r=.ref p/\(∀ xs,x.sq H xs->xs[i]?=some u)/\∀ ys,y.sq H ys->ys[i]?=some v,
   fun i H=>∃ xs ys,x.sq H xs/\y.sq H ys/\(xs.length<=i\/ys.length<=i)⟩
variable {elts:List Os}
def uZ{x1}(x y:Sr){TI TO i j:Addr}(D:Zp z TI TO i j) :
   Turn P w K (.Tuple elts x1 pos) (Itz x y) [z,TI,TO,i,j] z (fun n h=>IsZip h z TI TO .none/\IsPair h TI (.ref i) (.ref j)/\(∃ a b,IsPair h TO a b)/\x.at_ h i n/\y.at_ h j n) where
 mem:=by simp
 obj:=fun n h st b hb=>by
   obtain⟨hz,hTI,⟨a,c,hTO⟩,hi,hj⟩:=st;simp only[AW,AS,or_false] at hb
   rcases hb with rfl | rfl | rfl | rfl | rfl
   . exact⟨_,hz,fun v q=>by cases q⟩
   . exact⟨_,hTI,fun v q=>by cases q⟩
   . exact⟨_,hTO,fun v q=>by cases q⟩
   . obtain⟨o,vs,g,d⟩:=Sr.at_get hi;exact⟨o,g,fun v q=>by rw[d] at q;cases q⟩
   obtain⟨o,vs,g,d⟩:=Sr.at_get hj;exact⟨o,g,fun v q=>by rw[d] at q;cases q⟩
 keep:=fun n h h' st k=>by obtain⟨hz,hTI,⟨a,c,hTO⟩,hi,hj⟩:=st;exact⟨k z (by simp) _ hz,k TI (by simp) _ hTI,⟨a,c,k TO (by simp) _ hTO⟩,Sr.at_keep hi fun o q=>k i (by simp) o q,Sr.at_keep hj fun o q=>k j (by simp) o q⟩
 item:=by
   intro X hP hw hK hc n qp s σ H E I hf st hg;subst hP hw hK;obtain⟨xs,ys,u,v,hx,hy,gu,gv⟩:=hg;obtain⟨hz,hTI,⟨a,c,hTO⟩,hi,hj⟩:=st;obtain⟨its,rx,ix⟩:=Sr.sq_is I hx;obtain⟨jts,ry,iy⟩:=Sr.sq_is I hy;obtain⟨u',gu',ru⟩:=rx.get gu;obtain⟨v',gv',rv⟩:=ry.get gv;have fz:=(hf z<|by simp).1;have fTO:=(hf TO<|by simp).1;have fi:=(hf i<|by simp).1;have fj:=(hf j<|by simp).1;refine vB D ⟨Sr.sq_ne hx fz,Sr.sq_ne hx fTO,Sr.sq_ne hx fi,Sr.sq_ne hx fj⟩ ⟨Sr.sq_ne hy fz,Sr.sq_ne hy fTO,Sr.sq_ne hy fi,Sr.sq_ne hy fj⟩ hz hTI hTO hi hj ix iy (u:=u') (v:=v') (by simpa using gu') (by simpa using gv') fun h1 z1 ti1 to1 i1 j1 t1 k1=>?_;refine⟨_,rfl,wpAny_letOwnedTupleGo_zip (s:={ s with heap:=h1 }) z1 fun h2 z2 b2=>?_⟩;have up:∀ b o,b≠z->h1.get? b=some o->h2.get? b=some o:=fun b o nb q=>(b2.2 b nb).trans q;have k2:∀ b o,b ∉ [z,TI,TO,i,j]->s.heap.get? b=some o->h2.get? b=some o:=fun b o hb q=>by simp only[AW,AS,or_false,not_or] at hb;exact up b o hb.1<|k1 b o hb.1 hb.2.2.1 hb.2.2.2.1 hb.2.2.2.2 q
   have lt:∀ b∈[z,TI,TO,i,j],b < s.heap.objs.size:=fun b hb=>by
     simp only[AW,AS,or_false] at hb
     rcases hb with rfl | rfl | rfl | rfl | rfl
     . exact Aj hz
     . exact Aj hTI
     . exact Aj hTO
     . obtain⟨o,vs,g,d⟩:=Sr.at_get hi;exact Aj g
     obtain⟨o,vs,g,d⟩:=Sr.at_get hj;exact Aj g
   have t2:h2.get? s.heap.objs.size=some { cls:=.type "tuple",data:=.seq #[u',v'] }:=up _ _ (Br<|lt z<|by simp) t1;have st2:IsZip h2 z TI TO .none/\IsPair h2 TI (.ref i) (.ref j)/\(∃ a b,IsPair h2 TO a b)/\x.at_ h2 i (n+1)/\y.at_ h2 j (n+1) :=
     ⟨z2,up _ _ D.TIz ti1,⟨_,_,up _ _ D.TOz to1⟩,Sr.at_keep i1 fun o q=>up _ o D.iz q,Sr.at_keep j1 fun o q=>up _ o D.jz q⟩
   refine⟨.ref s.heap.objs.size,upd H s.heap.objs.size<|.tup [u,v],?_,rfl,⟨_,u,v,I.hok.fresh<|Ag _,rfl,rfl,fun zs h=>by rw[Sr.sq_inj h hx];exact gu,fun zs h=>by rw[Sr.sq_inj h hy];exact gv⟩,st2,fun b hb=>?_⟩
   . refine Inv.turnNew (s:=s) (h':=h2) (t':=s.toks) I hf k2 (Ag _) (fun b hb ob q=>?_) ⟨by show 2<=sizeLine;decide,[u',v'],.cons ru<|.cons rv .nil,⟨_,t2,rfl,rfl,_,rfl⟩⟩;simp only[AW,AS,or_false] at hb
     rcases hb with rfl | rfl | rfl | rfl | rfl
     . exact⟨_,z2⟩
     . exact⟨_,st2.2.1⟩
     . obtain⟨_,_,q⟩:=st2.2.2.1;exact⟨_,q⟩
     . obtain⟨o,vs,g,d⟩:=Sr.at_get st2.2.2.2.1;exact⟨o,g⟩
     obtain⟨o,vs,g,d⟩:=Sr.at_get st2.2.2.2.2;exact⟨o,g⟩
   rw[HV (An<|lt b hb)];exact (hf b hb).1
 done:=by
   intro X hP hw hK hc n qp s σ H E I hf st hg;subst hP hw hK;obtain⟨xs,ys,hx,hy,he⟩:=hg;obtain⟨hz,hTI,⟨a,c,hTO⟩,hi,hj⟩:=st;obtain⟨its,rx,ix⟩:=Sr.sq_is I hx;obtain⟨jts,ry,iy⟩:=Sr.sq_is I hy;have fz:=(hf z<|by simp).1;have fTO:=(hf TO<|by simp).1;have fi:=(hf i<|by simp).1;have fj:=(hf j<|by simp).1;have l1:=rx.length;have l2:=ry.length;exact rJ (I.ok.hd hc) D ⟨Sr.sq_ne hx fz,Sr.sq_ne hx fTO,Sr.sq_ne hx fi,Sr.sq_ne hx fj⟩ ⟨Sr.sq_ne hy fz,Sr.sq_ne hy fTO,Sr.sq_ne hy fi,Sr.sq_ne hy fj⟩ hz hTI hTO hi hj ix iy (by
     rcases he with h | h
     . exact .inl (by simp;omega)
     . exact .inr (by simp;omega)) fun h' k=>⟨rfl,Inv.turnAll (t':=s.toks) I hf fun b o hb q=>by simp only[AW,AS,or_false,not_or] at hb;exact k b o hb.1 hb.2.2.1 hb.2.2.2.1 hb.2.2.2.2 q⟩
 self:=fun _ _ _ _ _ st h=>wpAny_pyIter_zip st.1 h
def LV(s:HB):D->Option (List D×List (Nat×List D))
 | .ref n=>(Ik s n).map fun ds=>(ds,[(n,ds)])
 | .tup ds=>some (ds,[])
 | _=>none
def pairD(a b:List D):List D:=(a.zip b).map fun p=>.tup [p.1,p.2]
def OS(x y:D)(s:HB):Option (Wk×HB):=(LV s x).bind fun (a,f)=>(LV s y).map fun (b,g)=>(⟨pairD a b,f++g⟩,s)
def MF(ma mb:ME):MI:=fun ρ st=>(ma ρ st).bind fun (x,s1)=>(mb ρ s1).bind fun (y,s2)=>OS x y s2
def VJ{v:V}{ds:List D}{g:List (Nat×List D)}(S:HN K H io st)(R:Rep K H io v d)(h:LV st d=some (ds,g)):∃ x:Sr,v=.ref x.ad/\(∃ xs,x.sq H xs) /\
   ∀ H1 ka s1,Ext io ka H H1->HN K H1 (io++ka) s1->(∀ p,p∈g->s1[p.1]?=some (.lst p.2)\/s1[p.1]?=some (.fz p.2))->∃ xs,x.sq H1 xs/\HC K H1 (io++ka) xs ds:=by
 cases d with
 | ref n =>
   obtain⟨l,e,q⟩:=Ip h;cases q;obtain⟨p,rfl,hp⟩:=R;refine⟨.l p,rfl,?_,fun H1 ka s1 X1 S1 hs=>?_⟩
   . unfold Ik at e
     split at e
     . rename_i o he;cases e;obtain⟨xs,q,_⟩:=S.ob n p _ hp he;exact⟨xs,.inl q⟩
     . rename_i o he;cases e;obtain⟨ob,xs,q,_⟩:=S.ob n p _ hp he;exact⟨xs,.inr ⟨ob,q⟩⟩
     . cases e
   . rcases hs (n,ds) Ao with q | q
     . obtain⟨xs,q',r⟩:=S1.ob n p _ (Nz hp) q;exact⟨xs,.inl q',r⟩
     obtain⟨ob,xs,q',r⟩:=S1.ob n p _ (Nz hp) q;exact⟨xs,.inr ⟨ob,q'⟩,r⟩
 | tup ts =>
   cases h;obtain⟨p,xs,rfl,hp,r⟩:=R;exact⟨.t p,rfl,⟨xs,hp⟩,fun H1 ka s1 X1 S1 _=>⟨xs,X1.sqT S p xs hp,r.ext S X1⟩⟩
 | _=>cases h
def wA{a b:List D}(h:(pairD a b)[i]?=some d):∃ x y,a[i]?=some x/\b[i]?=some y/\d=.tup [x,y]:=by unfold pairD at h;rw[AD] at h;obtain⟨⟨x,y⟩,e,q⟩:=Ip h;rw[List.getElem?_zip_eq_some] at e;exact⟨x,y,e.1,e.2,q.symm⟩
def boot_zip:UV "zip"=some (.type "zip"):=by decide +kernel
def kB{x1}{tp:Pos}{a b:Os}(hg:Gl X "zip")(hm:X.mg "zip"=none)(ha:SE X a ma)(hb:SE X b mb)(hs:P3 [a,b] X.env=[(false,W1 a X.env),(false,W1 b X.env)]:=by rfl)
   (hs2:P3 [b] X.env=[(false,W1 b X.env)]:=by rfl) (hpl:(backTo pos<|P3 [b] X.env).any (·.1)=false:=by rfl):SI X (.Tuple elts x1 tp) (.Call (.Name "zip" p) [a,b] [] pos) (MF ma mb):=by
 rintro qp s σ H R I ⟨ρ,st,io,W,st',E,S,e,k⟩;obtain⟨⟨x,s1⟩,e1,e⟩:=HK e;obtain⟨⟨y,s2⟩,e2,e⟩:=HK e;obtain⟨⟨as,f⟩,e3,e⟩:=HK e;obtain⟨⟨bs,g⟩,e4,e⟩:=Ip e;cases e;have hs1:P3 [a,b] X.env=(false,W1 a X.env)::P3 [b] X.env:=by rw[hs,hs2]
 refine Call_<|Qk I hg hm boot_zip<|B7 (HS (HD ha (HD hb HJ hs2) hs1 pos qp s σ H (fun vs H'=>∃ ka,Ext io ka H H'/\HN X.K H' (io++ka) st'/\HC X.K H' (io++ka) vs [x,y]) I ⟨ρ,st,io,[x,y],st',E,S,TQ e1<|TQ e2 rfl,fun vs H1 k1 X1 S1 R1=>⟨k1,X1,S1,R1⟩⟩) ?_) hs1 hpl;rintro us t1 ⟨vs,H1,I1,r1,k1,X1,S1,R1⟩;obtain⟨v,u,rfl,Rx,Ry⟩:=R1.two;obtain⟨v',u',rfl,rv,ru⟩:=r1.two;obtain⟨xx,rfl,⟨xs,hx⟩,kx⟩:=VJ S1 Rx e3;obtain⟨yy,rfl,⟨ys,hy⟩,ky⟩:=VJ S1 Ry e4;cases rv;cases ru;obtain⟨its,vx,ix⟩:=Sr.sq_is I1 hx;obtain⟨jts,vy,iy⟩:=Sr.sq_is I1 hy;refine wJ ix iy fun h' hz hTI hTO hi hj kk=>wpAny_pyIter_zip hz ?_;refine⟨_,_,_,_,H1,rfl,I1.kept (t':=t1.toks) kk,uZ xx yy<|Zp.new t1.heap.objs.size,⟨hz,hTI,⟨_,_,hTO⟩,hi,hj⟩,fun b hb=>?_,?_⟩
 . have hle:t1.heap.objs.size<=b:=by
     simp only[AW,AS,or_false] at hb
     rcases hb with rfl | rfl | rfl | rfl | rfl
     . exact Cr _ 4
     . exact Cr _ 2
     . exact Cr _ 3
     . exact Ag _
     exact Cr _ 1
   exact I1.fpOk hle<|I1.hok.fresh hle
 . refine k _ H1 k1 X1 S1 ?_;have st1:∀ {s3:HB},stays ⟨pairD as bs,f++g⟩ s3->(∀ p,p∈f->s3[p.1]?=some (.lst p.2)\/s3[p.1]?=some (.fz p.2))/\∀ p,p∈g->s3[p.1]?=some (.lst p.2)\/s3[p.1]?=some (.fz p.2):=fun {s3} h=>⟨fun p hp=>h p (BX _ hp),fun p hp=>h p (A2 _ hp)⟩
   have len:∀ {a b:List D},(pairD a b).length=min a.length b.length:=fun {a b}=>by unfold pairD;rw[Af,GK]
   refine⟨fun i d H2 k2 s3 hd X2 S2 hs=>?_,fun H2 k2 s3 X2 S2 hs=>?_,fun H2 k2 s3 i hi X2 S2 hs=>?_⟩
   . obtain⟨xs2,qx,rx⟩:=kx H2 k2 s3 X2 S2 (st1 hs).1;obtain⟨ys2,qy,ry⟩:=ky H2 k2 s3 X2 S2 (st1 hs).2;obtain⟨dx,dy,g1,g2,rfl⟩:=wA hd;obtain⟨u1,gu,ru⟩:=rx.get g1;obtain⟨v1,gv,rv⟩:=ry.get g2;refine⟨⟨xs2,ys2,u1,v1,qx,qy,gu,gv⟩,fun r H' yl=>?_⟩;obtain⟨q,u2,v2,hq,rfl,rfl,yu,yv⟩:=yl;have e5:=yu xs2 qx;have e6:=yv ys2 qy;rw[gu] at e5;rw[gv] at e6;cases e5;cases e6;obtain⟨E',S'⟩:=Q3 (o:=.tup [u1,v1]) S2 hq;rw[Al] at S';refine⟨E',S',⟨q,_,rfl,JP,?_⟩⟩;have r2:=ru.ext S2 E';have r3:=rv.ext S2 E';rw[Al] at r2 r3;exact HC.cons r2<|HC.cons r3 HC.nil
   . obtain⟨xs2,qx,rx⟩:=kx H2 k2 s3 X2 S2 (st1 hs).1;obtain⟨ys2,qy,ry⟩:=ky H2 k2 s3 X2 S2 (st1 hs).2;refine⟨xs2,ys2,qx,qy,?_⟩;show xs2.length<=(pairD as bs).length\/ys2.length<=(pairD as bs).length;rw[len,rx.length,ry.length];omega
   obtain⟨xs2,qx,rx⟩:=kx H2 k2 s3 X2 S2 (st1 hs).1;obtain⟨ys2,qy,ry⟩:=ky H2 k2 s3 X2 S2 (st1 hs).2;refine⟨xs2,ys2,qx,qy,?_⟩;have hi:(pairD as bs).length<=i:=hi;rw[len] at hi;rw[rx.length,ry.length];omega
def Ma(X:Cx)(fs:List Str):List Nat->List Str->Prop
 | [],[]=>True
 | j::js,x::xs=>(X.N[j]?=some x/\x∈fs)/\Ma X fs js xs
 | _,_=>False
def L5(X:Cx):List Str->Prop
 | []=>True
 | x::xs=>(X.env.kindOf x=some .cell\/X.env.kindOf x=some .free)/\L5 X xs
def L5.get{X:Cx}:∀ {fs:List Str} {x:Str},L5 X fs->x∈fs->X.env.kindOf x=some .cell\/X.env.kindOf x=some .free
 | [],_,_,m=>nomatch m
 | y::ys,x,h,m=>by
   rcases M2.mp m with rfl | m
   . exact h.1
   exact L5.get h.2 m
def Ma.get{X:Cx}{fs:List Str}:∀ {fr:List Nat} {xs:List Str} {i j:Nat} {x:Str},Ma X fs fr xs->fr[i]?=some j->xs[i]?=some x->X.N[j]?=some x/\x∈fs
 | [],[],i,j,x,_,h,_=>by simp at h
 | [],_::_,i,j,x,h,_,_=>h.elim
 | _::_,[],i,j,x,h,_,_=>h.elim
 | k::ks,y::ys,0,j,x,h,h1,h2=>by simp at h1 h2;subst h1 h2;exact h.1
 | k::ks,y::ys,i+1,j,x,h,h1,h2=>Ma.get (i:=i) h.2 (by simpa using h1)<|by simpa using h2
def NC{scope:Scope}{N':List Str}{nt:Nat}{fr:List Nat}(fs:List Str)(kind:scope.kind=.function)(nd:(scope.names.map (·.1)).Nodup)(hf:scope.names.all (fun p=>!(p.2==AJ) || fs.contains p.1)=true)
   (hb:fs.all (fun x=>scope.names.contains (x,AJ))=true) (len:N'.length=nt+fr.length) (cap:Ma X fs fr (N'.drop nt)) (out:L5 X fs):JD X scope N' nt fr:=by
 refine⟨kind,nd,len,fun i j x h1 h2=>?_,fun x hx=>?_⟩
 . have h2':(N'.drop nt)[i]?=some x:=by rw[List.getElem?_drop];exact h2
   obtain⟨a,b⟩:=cap.get h1 h2';refine⟨a,?_⟩;have:=List.all_eq_true.mp hb x b;simpa using this
 . have:=List.all_eq_true.mp hf _ hx;have hm:x∈fs:=by simpa using this
   exact out.get hm
def Na:UV "len"=some (.builtin "len"):=by decide +kernel
def jB:UV "abs"=some (.builtin "abs"):=by decide +kernel
def Wb:UV "sorted"=some (.builtin "sorted"):=by decide +kernel
def jC:UV "int"=some (.type "int"):=by decide +kernel
def YU:UV "bool"=some (.type "bool"):=by decide +kernel
def NB:UV "tuple"=some (.type "tuple"):=by decide +kernel
def Vs:UV "dict"=some (.type "dict"):=by decide +kernel
def Jx:G2:=JX MD U3
def Pc:IZ X (binaryOp .Mult) Jx:=SU pH tR
def Y1{K:Ac}{H:Hp}{io:List Addr}:∀ (ns:List Int),HC K H io (ns.map V.int) (ns.map D.int)
 | []=>rfl
 | n::ns=>⟨_,_,rfl,rfl,Y1 ns⟩
def uL{ns:List Int}{g:GN}{E:XK}(hO:MW H)(hS:JB K H a (ns.map V.int))(e:g [.kl (ns.map D.int)] []=some (.bl true,st)):Pr K 1 g [.ref a] H (fun v _=>v=.bl true) E:=by
 have hF:Nm K H a (ns.map V.int):=by
   rcases hS with (h | h) | h
   . rcases hO a with z | ⟨o,xs,z⟩
     . rw[z] at h;cases h
     rw[z] at h;cases h
   . exact .inl h
   exact .inr h
 refine⟨_,[],[],_,_,rfl,HC.cons (show Rep K H [] (.ref a) (.kl<|ns.map D.int) from ⟨a,_,rfl,hF,Y1 ns⟩) HC.nil,⟨rfl,Dl,fun n b o h=>by simp at h⟩,e,fun v H' ka E' S' R'=>R'⟩
end L2.MP
namespace L2.MP
structure Y3(a b c:Prop):Prop where
 h1:a
 h2:b
 h3:c
structure Y4(a b c d:Prop):Prop where
 h1:a
 h2:b
 h3:c
 h4:d
structure Y7(a b c d e f g:Prop):Prop where
 h1:a
 h2:b
 h3:c
 h4:d
 h5:e
 h6:f
 h7:g
open PySem
structure Gr(st st':HB):Prop where
 len:st.length<=st'.length
 old:∀ k,k < st.length->st'[k]?=st[k]?
def Gr.refl(st:HB):Gr st st:=⟨Ag _,fun _ _=>rfl⟩
def Gr.trans{a b c:HB}(h:Gr a b)(h':Gr b c):Gr a c:=⟨Az h.len h'.len,fun k hk=>(h'.old k<|Av hk h.len).trans (h.old k hk)⟩
def Gr.app(st:HB)(l:List O):Gr st (st++l):=⟨by simp,fun k hk=>Ai hk⟩
variable {α:Type}{n:Nat}
def qax{l:List α}{x:α}(h:l[n]?=some x):n < l.length:=(KF.mp h).1
def IK(st:HB)(o:O):(st++[o])[st.length]?=some o:=getElem?_len st o
variable {W:Wk}{g:MG}
def LR{W:Wk}{g:MG}{m:MS}:∀ {ds:List D} {Inv:Nat->Ie->HB->Prop} {ρ:Ie} {st:HB},Inv 0 ρ st->(∀ k ρ s,k<=ds.length->Inv k ρ s->walked W s=true) ->
   (∀ k d ρ s,ds[k]?=some d->Inv k ρ s->∃ ρ1 s1 ρ2 s2,g d ρ s=some (ρ1,s1)/\m ρ1 s1=some (.nx ρ2,s2)/\Inv (k+1) ρ2 s2)->∃ ρ' s',J5 W g m ds ρ st=some (.nx ρ',s')/\Inv ds.length ρ' s'
 | [],Inv,ρ,st,h0,wk,step=>⟨ρ,st,by unfold J5;rw[if_pos (wk 0 ρ st (Ag _) h0)],h0⟩
 | d::ds,Inv,ρ,st,h0,wk,step=>by obtain⟨ρ1,s1,ρ2,s2,e1,e2,h1⟩:=step 0 d ρ st rfl h0;obtain⟨ρ',s',e,h⟩:=LR (W:=W) (g:=g) (m:=m) (ds:=ds) (Inv:=fun k=>Inv (k+1)) h1 (fun k ρ s hk h=>wk (k+1) ρ s (CS hk) h) fun k d ρ s hd h=>step (k+1) d ρ s (by simpa using hd) h;refine⟨ρ',s',?_,h⟩;unfold J5;rw[if_pos (wk 0 ρ st (Bc _) h0),e1];simp only[Ae,e2];exact e
variable {c:MT}{m:ME}
def Sk{W:Wk}{g:MG}{c:MT}{m:ME}:∀ {ds:List D} {Inv:Nat->List D->Ie->HB->Prop} {acc:List D} {ρ:Ie} {st:HB},Inv 0 acc ρ st->(∀ k a ρ s,k<=ds.length->Inv k a ρ s->walked W s=true) ->
   (∀ k d a ρ s,ds[k]?=some d->Inv k a ρ s->∃ ρ1 s1 b s2,g d ρ s=some (ρ1,s1)/\c ρ1 s1=some (b,s2)/\((b=true/\∃ x s3,m ρ1 s2=some (x,s3)/\Inv (k+1) (a++[x]) ρ1 s3)\/(b=false/\Inv (k+1) a ρ1 s2))) ->
   ∃ xs ρ' s',Kd W g c m ds ρ st=some (xs,s')/\Inv ds.length (acc++xs) ρ' s'
 | [],Inv,acc,ρ,st,h0,wk,step=>⟨[],ρ,st,by unfold Kd;rw[if_pos (wk 0 acc ρ st (Ag _) h0)],by rw[Al];exact h0⟩
 | d::ds,Inv,acc,ρ,st,h0,wk,step=>by
   obtain⟨ρ1,s1,b,s2,e1,e2,h1⟩:=step 0 d acc ρ st rfl h0;have wk':∀ k a ρ s,k<=ds.length->Inv (k+1) a ρ s->walked W s=true:=fun k a ρ s hk h=>wk (k+1) a ρ s (CS hk) h;have st':∀ k d a ρ s,ds[k]?=some d->Inv (k+1) a ρ s->∃ ρ1 s1 b s2,g d ρ s=some (ρ1,s1)/\c ρ1 s1=some (b,s2)/\((b=true/\∃ x s3,m ρ1 s2=some (x,s3)/\Inv (k+1+1) (a++[x]) ρ1 s3)\/(b=false/\Inv (k+1+1) a ρ1 s2)):=fun k d a ρ s hd h=>step (k+1) d a ρ s (by simpa using hd) h
   rcases h1 with ⟨rfl,x,s3,e3,h1⟩ | ⟨rfl,h1⟩
   . obtain⟨xs,ρ',s',e,h⟩:=Sk (W:=W) (g:=g) (c:=c) (m:=m) (ds:=ds) (Inv:=fun k=>Inv (k+1)) h1 wk' st';refine⟨x::xs,ρ',s',?_,by simpa using h⟩;unfold Kd;rw[if_pos (wk 0 acc ρ st (Bc _) h0),e1];simp only[Ae,e2,if_true,e3,e,A9]
   obtain⟨xs,ρ',s',e,h⟩:=Sk (W:=W) (g:=g) (c:=c) (m:=m) (ds:=ds) (Inv:=fun k=>Inv (k+1)) h1 wk' st';refine⟨xs,ρ',s',?_,h⟩;unfold Kd;rw[if_pos (wk 0 acc ρ st (Bc _) h0),e1];simp only[Ae,e2,Bd,if_false,e]
def SV{W:Wk}{g:MG}{c:MT}{m:ME}{α:Type}{f h:α->D}{R:Ie->Prop}:∀ {as:List α} {ρ:Ie} {st:HB},R ρ->walked W st=true->(∀ a∈as,∀ ρ,R ρ->∃ ρ1,g (f a) ρ st=some (ρ1,st)/\c ρ1 st=some (true,st)/\m ρ1 st=some (h a,st)/\R ρ1) ->
   Kd W g c m (as.map f) ρ st=some (as.map h,st)
 | [],ρ,st,r,wk,_=>by unfold Kd;rw[Cp];simp only[wk,if_true,Cp]
 | a::as,ρ,st,r,wk,hs=>by obtain⟨ρ1,e1,e2,e3,r1⟩:=hs a Ao ρ r;have e:=SV (W:=W) (g:=g) (c:=c) (m:=m) (f:=f) (h:=h) (R:=R) (as:=as) r1 wk fun b hb=>hs b<|Ak _ hb;rw[Ax];unfold Kd;rw[if_pos wk,e1];simp only[Ae,e2,if_true,e3,e,A9,Ax]
def Rf{ds xs:List D}{s:HB}(h:s[n]?=some (.lst xs)):walked ⟨ds,[(n,xs)]⟩ s=true:=by unfold walked;simp only[G6,List.all_nil,G7];exact bO h
def Ll(h:n<=10000):fits n=true:=by unfold fits;exact decide_eq_true<|Az h<|by decide
@[simp] theorem Kh(x:α)(y:Option α):LH (some x) y=some x:=rfl
@[simp] theorem KN(y:Option α):LH none y=y:=rfl
end L2.MP
namespace L2.MP.Hn
open PySem L2.MP
end L2.MP.Hn
namespace L2.MP
open PySem
variable {n:Nat}{ds:List D}{mi:MI}{k:Int}{s:HB}{x:D}
section
variable {ρ ρ1:Ie} {st s1:HB} {m n ma mb:ME} {mm:MA} {ms mq:MS} {mt mu:MT} {g:G2} {gn:GN} {d:D} {i j:Nat} {mg:MG} {mgs:Oe} {ml mh:MO}
@[simp] theorem Le:mV i ρ st=match ρ[i]? with
 | some (some d)=>some (d,st)
 | _=>none:=rfl
@[simp] theorem Lk:mK d ρ st=some (d,st):=rfl
@[simp] theorem LP:mB g ma mb ρ st=(ma ρ st).bind fun p=>(mb ρ p.2).bind fun q=>g p.1 q.1 q.2:=rfl
@[simp] theorem QQ:mT m ρ st=(m ρ st).bind fun p=>match p.1 with
 | .bl b=>some (b,p.2)
 | _=>none:=rfl
@[simp] theorem zsp:LL mt ρ st=(mt ρ st).map fun p=>(!p.1,p.2):=rfl
@[simp] theorem YT:M6 mt mu ρ st=(mt ρ st).bind fun p=>if p.1=true then mu ρ p.2 else some (false,p.2):=rfl
@[simp] theorem ztt:Kc mt mu ρ st=(mt ρ st).bind fun p=>if p.1=true then some (true,p.2) else mu ρ p.2:=rfl
@[simp] theorem nL:LN m n ρ st=(mT m ρ st).bind fun p=>if p.1=true then n ρ p.2 else some (.bl false,p.2):=rfl
@[simp] theorem zso:Sq m ρ st=(mT m ρ st).map fun p=>(.bl !p.1,p.2):=rfl
@[simp] theorem Ti:HM gn mm ρ st=(mm ρ st).bind fun p=>gn p.1 p.2:=rfl
@[simp] theorem Q2:Hz m mm ρ st=(m ρ st).bind fun p=>(mm ρ p.2).bind fun q=>some (p.1::q.1,q.2):=rfl
@[simp] theorem QP:mZ ρ st=some ([],st):=rfl
@[simp] theorem ztq:mU mm ρ st=(mm ρ st).bind fun p=>if fits p.1.length=true then some (.tup p.1,p.2) else none:=rfl
@[simp] theorem iU:mL mm ρ st=(mm ρ st).bind fun p=>if fits p.1.length=true then some (.ref p.2.length,p.2++[.lst p.1]) else none:=rfl
@[simp] theorem YA:mR m ρ st=(m ρ st).map fun p=>(.rt p.1,p.2):=rfl
@[simp] theorem ztw:Jr m ρ st=(m ρ st).map fun p=>(.nx ρ,p.2):=rfl
@[simp] theorem Lz:HL m mg ρ st=(m ρ st).bind fun p=>(mg p.1 ρ p.2).map fun q=>(.nx q.1,q.2):=rfl
@[simp] theorem ztO:HG i d ρ st=some (ρ.set i (some d),st):=rfl
@[simp] theorem nP:Je ρ st=some (.nx ρ,st):=rfl
@[simp] theorem iV:IF m ρ st=(m ρ st).bind fun p=>NY p.1 p.2:=rfl
@[simp] theorem Nt:IY mt ms mq ρ st=(mt ρ st).bind fun p=>if p.1=true then ms ρ p.2 else mq ρ p.2:=rfl
@[simp] theorem OU:JR ma mb m ρ st=LH (HL m (N6 IX ma mb) ρ st) (Nr ma mb m ρ st):=rfl
@[simp] theorem Ye{g3:G3}:N6 g3 ma mb d ρ st=(ma ρ st).bind fun p=>(mb ρ p.2).bind fun q=>(g3 p.1 q.1 d q.2).map fun s=>(ρ,s):=rfl
@[simp] theorem ztN:Js i mgs d ρ st=match d with
 | .tup ds=>if ds.length=i then mgs ds ρ st else none
 | _=>none:=rfl
@[simp] theorem ztv:Jt [] ρ st=some (ρ,st):=rfl
@[simp] theorem ztP:gC mg mgs (d::ds) ρ st=(mg d ρ st).bind fun p=>mgs ds p.1 p.2:=rfl
@[simp] theorem Yd:JF m ρ st=(m ρ st).bind fun p=>match p.1 with
 | .int j=>if small j=true then some (⟨run 0 j.toNat,[]⟩,p.2) else none
 | _=>none:=rfl
@[simp] theorem zsj:JH ρ st=some (true,st):=rfl
theorem Qm{k:Nat}{fr:List Nat}:Jv mi k fr mg mt m ρ st=(mi ρ st).bind fun p=>(Kd p.1 mg mt m p.1.ds (JJ ρ k fr) p.2).bind fun q=>if fits q.1.length=true then some (.ref q.2.length,q.2++[.lst q.1]) else none:=rfl
@[simp] theorem Ld:mF mi mg ms ρ st=(mi ρ st).bind fun p=>J5 p.1 mg ms p.1.ds ρ p.2:=rfl
@[simp] theorem Yb:Lb ρ st=some (none,st):=rfl
@[simp] theorem Yc:Lc m ρ st=(m ρ st).bind fun p=>match p.1 with
 | .int i=>some (some i,p.2)
 | _=>none:=rfl
@[simp] theorem ztu{T:String}:KZ T m ρ st=(m ρ st).bind fun p=>(tyName p.2 p.1).map fun t=>(.bl (JZ t T),p.2):=rfl
theorem nN:UT m mm ρ st=(m ρ st).bind fun p=>match p.1 with
 | .str _=>(mm ρ p.2).bind fun q=>P5 p.1 q.1 q.2
 | _=>none:=rfl
@[simp] theorem ztx:JL m mm ρ st=(m ρ st).bind fun p=>match p.1 with
 | .ref n=>(Ik p.2 n).bind fun _=>(mm ρ p.2).bind fun q=>Nc p.1 q.1 q.2
 | _=>none:=rfl
@[simp] theorem zts:KY i j mm ρ st=(mm ρ st).bind fun p=>match p.1 with
 | [x,y]=>some (.nx ((ρ.set i<|some x).set j<|some y),p.2)
 | _=>none:=rfl
@[simp] theorem iX:MF ma mb ρ st=(ma ρ st).bind fun p=>(mb ρ p.2).bind fun q=>OS p.1 q.1 q.2:=rfl
@[simp] theorem zrU:Nq true ρ st=some (.ref st.length,st++[.dt []]):=rfl
@[simp] theorem zrV:Nq false ρ st=some (.ref st.length,st++[.dk []]):=rfl
def HU{r:Option (Fl×HB)}(h:ms ρ st=some (.nx ρ1,s1))(k:mq ρ1 s1=r):mS ms mq ρ st=r:=by unfold mS;rw[h];exact k
def Mp(h:ms ρ st=some (.rt d,s)):mS ms mq ρ st=some (.rt d,s):=by unfold mS;rw[h];rfl
def Jk{N:Nat}(h:ms (NT N ds) st=some (.rt d,s)):Jc N ms ds st=some (d,s):=by unfold Jc;rw[h];rfl
def NF{k:Nat}(h:k<=10000:=by decide):fits k=true:=Ll h
@[simp] theorem ztG:fits 0=true:=NF
@[simp] theorem ztF:fits 1=true:=NF
@[simp] theorem ztE:fits 2=true:=NF
@[simp] theorem ztD:fits 3=true:=NF
@[simp] theorem ztC:fits 4=true:=NF
@[simp] theorem ztB:fits 5=true:=NF
@[simp] theorem ztA:fits 6=true:=NF
@[simp] theorem ztz:fits 7=true:=NF
@[simp] theorem zty:fits 8=true:=NF
def aF(h0:0<=k)(h1:k<=1000000):small k=true:=by unfold small;simp;omega
def SJ{n:Nat}(h:st[n]?=some (.lst ds))(h0:0<=k)(hx:ds[k.toNat]?=some x):HE (.ref n) (.int k) st=some (x,st):=by
 have hl:=qax hx;have h1:k < ds.length:=by omega
 simp[HE,JX,JT,Ik,h,KH,LY,h0,h1,Kh];exact (KF.mp hx).2
def Jh(h0:0<=k)(hx:ds[k.toNat]?=some x):HE (.tup ds) (.int k) st=some (x,st):=by
 have hl:=qax hx;have h1:k < ds.length:=by omega
 simp[HE,JX,JT,KH,LY,h0,h1,Kh];exact (KF.mp hx).2
def gW(h0:0<=k)(hx:ds[k.toNat]?=some x):HE (.kl ds) (.int k) st=some (x,st):=by
 have hl:=qax hx;have h1:k < ds.length:=by omega
 simp[HE,JX,JT,KH,LY,h0,h1,Kh];exact (KF.mp hx).2
def Vf{z:Str}{c:Nat}(hz:z.length<=10000)(h0:0<=k)(hx:z.cps[k.toNat]?=some c):HE (.str z) (.int k) st=some (.str ⟨#[c]⟩,st):=by
 have hl:k.toNat < z.cps.size:=(Array.getElem?_eq_some_iff.mp hx).1;have h1:k < z.cps.size:=by omega
 have hf:fits z.length=true:=Ll hz;simp[HE,JX,JT,KH,LY,h0,h1,Kh,hf];exact (Array.getElem?_eq_some_iff.mp hx).2
theorem Oz:HX [.tup ds] st=some (.int ds.length,st):=rfl
theorem iR:HX [.kl ds] st=some (.int ds.length,st):=rfl
def Pl{n:Nat}(h:st[n]?=some (.lst ds)):LD [.ref n] st=some (.tup ds,st):=by simp[LD,Ik,h]
@[simp] theorem add_int(a b:Int):HP (.int a) (.int b) st=some (.int (a+b),st):=rfl
@[simp] theorem sub_int(a b:Int):LU (.int a) (.int b) st=some (.int (a - b),st):=rfl
def Tg{a b:List D}(ha:a≠[])(h:a.length+b.length<=10000):HP (.tup a) (.tup b) st=some (.tup (a++b),st):=by
 have:fits (a.length+b.length)=true:=Ll h
 cases a with
 | nil=>exact absurd rfl ha
 | cons x a=>simp[HP,this] at *
def Zj{a b:Nat}{x y:List D}(ha:st[a]?=some (.lst x))(hb:st[b]?=some (.lst y))(h:x.length+y.length<=10000):HP (.ref a) (.ref b) st=some (.ref st.length,st++[.lst (x++y)]):=by have:fits (x.length+y.length)=true:=Ll h;simp[HP,ha,hb,this]
def append_at{n:Nat}(h:st[n]?=some (.lst ds))(hl:ds.length<=10000):Nc (.ref n) [x] st=some (.non,st.set n (.lst<|ds++[x])):=by have:ds.length < sizeLine:=Cb hl (by decide);simp[Nc,h,this]
end
end L2.MP
set_option linter.unusedSimpArgs false
namespace L2.MP.Hn
open PySem L2.MP
end L2.MP.Hn
namespace L2.MP
open PySem PySem.Builtin PySem.Builtin.Str
theorem len_list(a:Str):a.length=a.cps.toList.length:=rfl
end L2.MP
namespace L2.MP
open PySem
def Q6{n:Nat}{st:HB}{x:Str}(h:BC x=true):IT (n+1) st (.str x)=some (.str x):=by rw[IT];simp[h]
def eq_int(a b:Int)(st:HB):Ku (.int a) (.int b) st=some (.bl (a==b),st):=by unfold Ku;rw[IT,IT];simp[DK]
end L2.MP
namespace L2.MP.Hn
open PySem L2.MP
end L2.MP.Hn
namespace L2.MP
open PySem
def Ko(p:Str×Int):D:=.tup [.str p.1,.int p.2]
def Jl(k:List Str):D:=.tup<|k.map D.str
end L2.MP
namespace L2.MP.Hn
open PySem L2.MP
end L2.MP.Hn
namespace L2.MP
open PySem
def bP:∀ t:List Int,intsOf (t.map D.int)=some t
 | []=>rfl
 | x::t=>by rw[Ax,intsOf,bP t];rfl
def Wx:∀ {rows:List (List Int)},(∀ r∈rows,r≠[])->rowsOf (rows.map Il)=some rows
 | [],_=>rfl
 | r::rows,h=>by
   have hr:rowOf (Il r)=some r:=by
     unfold rowOf Il;simp only[bP,Ae];have:r.isEmpty=false:=by
       cases r with
       | nil=>exact absurd rfl<|h [] Ao
       | cons a b=>rfl
     simp[this]
   rw[Ax,rowsOf,hr,Ae,Wx fun q hq=>h q (Ak _ hq)];rfl
variable {st:HB}
def zh0{l:Nat}{rows:List (List Int)}(hl:st[l]?=some (.lst<|rows.map Il))(h:∀ r∈rows,r≠[])(h64:rows.length < 64):Nf [.ref l] st=some (.ref st.length,st++[.lst ((Lj rows).map Il)]):=by
 match rows,hl,h,h64 with
 | [],hl,h,h64=>simp[Nf,OD,Qp,Ik,hl,strsOf,OA,Lj,Kh]
 | [r],hl,h,h64 =>
   have e:strsOf [Il r]=none:=rfl;simp[Nf,OD,Qp,Q8,Ik,hl,e,Lj,Kh,KN]
 | r::q::rows,hl,h,h64 =>
   have e:strsOf (Il r::Il q::rows.map Il)=none:=rfl;have e2:=Wx h;simp only[Ax] at e2;simp at h64;have h2:rows.length+1+1 < 64:=by omega
   simp[Nf,OD,Qp,Q8,TK,Ik,hl,e,e2,Kh,KN,h2]
def Wm(rows:List (List Int)):(Lj rows).Perm rows:=C2 _ _
noncomputable abbrev Tl:=Int×Int×Int
def HF(t:Tl):List Key×D:=([CY t.1,CY t.2.1],.int t.2.2)
def ID(t:Tl):List Int:=[t.1,t.2.1,t.2.2]
def JI(a b:Tl):Bool:=decide (a.1=b.1)&&decide (a.2.1=b.2.1)
def IE(l:List Tl)(t:Tl):List Tl:=if l.any (fun u=>JI u t)=true then l.map (fun u=>if JI u t=true then t else u) else l++[t]
def QY(u t:Tl):decide ((HF u).1=(HF t).1)=JI u t:=by
 unfold HF JI
 by_cases h1:u.1=t.1 <;> by_cases h2:u.2.1=t.2.1 <;> simp[h1,h2]
def Zx(l:List Tl)(t:Tl):putD (l.map HF) (HF t).1 (HF t).2=(IE l t).map HF:=by
 unfold putD IE;have e:((l.map HF).any fun kv=>decide (kv.1=(HF t).1))=l.any fun u=>JI u t:=by
   rw[List.any_map]
   congr 1
   funext u
   exact QY u t
 rw[e]
 split
 . rw[Be,Be];apply C4;intro u _;show (if (HF u).1=(HF t).1 then _ else _)=HF (if JI u t=true then t else u)
   by_cases h:JI u t=true
   . have h':(HF u).1=(HF t).1:=of_decide_eq_true<|(QY u t).trans h;rw[if_pos h',if_pos h,h']
   have h':¬ (HF u).1=(HF t).1:=fun z=>h<|(QY u t).symm.trans<|decide_eq_true z;rw[if_neg h',if_neg h]
 rw[BP];rfl
def IC(l:List Tl):Prop:=l.Pairwise fun a b=>JI a b=false
def cF(a b:Tl):JI a b=JI b a:=by
 unfold JI
 by_cases h1:a.1=b.1 <;> by_cases h2:a.2.1=b.2.1 <;> simp[h1,h2,eq_comm]
variable {l:List Tl}{t:Tl}
def oG(h:IC l):IC (IE l t):=by
 unfold IE
 split
 . unfold IC at *;rw[List.pairwise_map];refine h.imp fun {a b} hab=>?_;have eqp:∀ {a b c:Tl},JI a b=true->JI a c=JI b c:=fun {a b c} q=>by
     unfold JI at *;simp at q;rw[q.1,q.2]
   by_cases ha:JI a t=true
   . by_cases hb:JI b t=true
     . have h1:JI a b=JI t b:=eqp ha;rw[cF] at hb;rw[h1,hb] at hab;cases hab
     rw[if_pos ha,if_neg hb,cF];simpa using hb
   . by_cases hb:JI b t=true
     . rw[if_neg ha,if_pos hb];simpa using ha
     rw[if_neg ha,if_neg hb];exact hab
 . rename_i hn;unfold IC at *;rw[List.pairwise_append];refine⟨h,List.pairwise_singleton _ _,fun a ha b hb=>?_⟩;rw[On.mp hb]
   cases e:JI a t with
   | false=>rfl
   | true=>exact absurd (List.any_eq_true.mpr ⟨a,ha,e⟩) hn
def ZJ{P:Tl->Prop}{l:List Tl}{t:Tl}(h:∀ u∈l,P u)(ht:P t):∀ u∈IE l t,P u:=by
 unfold IE
 split
 . intro u hu;obtain⟨v,hv,rfl⟩:=PP.mp hu
   split
   . exact ht
   exact h v hv
 . intro u hu
   rcases SL.mp hu with hu | hu
   . exact h u hu
   rw[On.mp hu];exact ht
def VU(l:List Tl)(t:Tl):(IE l t).length<=l.length+1:=by
 unfold IE
 split
 . rw[Af];omega
 simp
def O9{t:Nat}{x y k:Int}(h:st[t]?=some (.dt<|l.map HF))(hl:l.length<=1000):dput st t (.tup [.int x,.int y]) (.int k)=some (st.set t<|.dt<|(IE l (x,y,k)).map HF):=by have h1:(l.map HF).length < sizeLine:=Cb (by rw[Af];exact hl) (by decide);have e:=Zx l (x,y,k);have e1:keysOf [.int x,.int y]=some (HF (x,y,k)).1:=rfl;have e2:D.int k=(HF (x,y,k)).2:=rfl;unfold dput;simp only[h,e1,Ae];rw[e2,e,if_pos (decide_eq_true h1)]
end L2.MP
namespace L2.MP.Hn
open PySem L2.MP
def Jm(ts:List Tl):D:=.tup<|ts.map fun t=>Il (ID t)
def UZ(r:List Int):Tl:=(r.getD 0 0,r.getD 1 0,r.getD 2 0)
def Ji(l:List Tl):List Tl:=(Lj<|l.map ID).map UZ
def Pp(l:List Tl):(Ji l).Perm l:=by
 have:=(Wm<|l.map ID).map UZ;rw[Be] at this;have e:UZ ∘ ID=id:=by funext t;rfl
 rw[e,List.map_id] at this;exact this
def xV(l:List Tl):(Ji l).map ID=Lj (l.map ID):=by
 unfold Ji;rw[Be]
 conv=>rhs;rw[<-List.map_id (Lj<|l.map ID)]
 apply C4;intro r hr;obtain⟨t,_,rfl⟩:=PP.mp<|(Wm _).mem_iff.mp hr;rfl
def Wz{st:HB}{l:Nat}{ts:List Tl}(hl:st[l]?=some (.lst<|ts.map fun t=>Il (ID t)))(h64:ts.length < 64):Nf [.ref l] st=some (.ref st.length,st++[.lst ((Ji ts).map fun t=>Il (ID t))]):=by
 have hl':st[l]?=some (.lst<|(ts.map ID).map Il):=by rw[Be];exact hl
 have e:=zh0 hl' (fun r hr=>by obtain⟨t,_,rfl⟩:=PP.mp hr;simp[ID]) (by rw[Af];exact h64);rw[<-xV,Be] at e;exact e
end L2.MP.Hn
namespace L2.MP
open PySem PySem.Spec PyProof.Rows
section
variable {X:Cx} {K:Ac} {H:Hp} {io:List Addr} {st st':HB} {a b c e:Os} {es:List Os} {ma mb mc m:ME} {mm:MA} {pos:Pos}
def Pa:D->List D->HB->Option (D×HB):=fun x xs st=>match x,xs with
 | .ref n,[.ref k]=>match st[n]?,st[k]? with
   | some (.lst ds),some (.lst zs)=>if fits (ds.length+zs.length)=true then some (.non,st.set n (.lst<|ds++zs)) else none
   | _,_=>none
 | _,_=>none
def extend_in{x:D}{xs:List D}{d:D}(h:Pa x xs st=some (d,st')):∃ n k ds zs,x=.ref n/\xs=[.ref k]/\st[n]?=some (.lst ds)/\st[k]?=some (.lst zs)/\ds.length+zs.length<=sizeLine/\d=.non/\st'=st.set n (.lst<|ds++zs):=by
 unfold Pa at h
 split at h
 . rename_i n k
   split at h
   . rename_i ds zs e1 e2;obtain⟨hf,h⟩:=IJ h;cases h;exact⟨n,k,ds,zs,rfl,rfl,e1,e2,of_decide_eq_true hf,rfl,rfl⟩
   . cases h
 . cases h
def yO:Sg X "list.extend" (UD X.K Pa):=by
 rintro qp s σ H x xs v us Q I rx rs ⟨dx,ds,st,io,d,st',Rx,Rs,S,e,k⟩;obtain⟨n,j,l,zs,rfl,rfl,e1,e2,hl,rfl,rfl⟩:=extend_in e;obtain⟨p,rfl,hp⟩:=Rx;obtain⟨w,rfl,Rw⟩:=Rs.one;obtain⟨q,rfl,hq⟩:=Rw;obtain⟨ys,hH,r⟩:=S.ob n p _ hp e1;obtain⟨ws,hB,r2⟩:=S.ob j q _ hq e2;refine vW qp s σ H _ _ v us Q I rx rs ⟨p,q,ys,ws,rfl,rfl,hH,hB,by rw[r.length,r2.length];exact hl,?_⟩;obtain⟨E',S'⟩:=Ow (o:=.lst (ys++ws)) (ob:=.lst (l++zs)) S hp e1 (fun o u z=>by rw[hH] at z;cases z) fun H' T e'=>⟨_,e',(HC.mono T r).append<|HC.mono T r2⟩
 exact k _ _ [] E' S' rfl
def PH(m:ME)(mm:MA):ME:=fun ρ st=>(m ρ st).bind fun (x,s1)=>match x with
 | .ref n=>(Ik s1 n).bind fun _=>(mm ρ s1).bind fun (xs,s2)=>Pa x xs s2
 | _=>none
def xF{o:Os}{apos cpos:Pos}(ho:SE X o m)(ha:SA X (e::es) mm)
   (hbase:attributeBase o "extend" X.env (W1 o X.env)=W1 o X.env:=by rfl)
   (hfew:((backTo cpos<|P3 (e::es) X.env).all (fun x=>!x.1)&&(backToKw cpos<|keywordEach [] X.env).all (fun x=>x.1.isSome)
    &&decide ((e::es).length+([]:List Keyword).length+(if ([]:List Keyword).isEmpty then 0 else 1) < 30))=true:=by rfl)
   (hline:(apos.endLine==cpos.line)=true:=by rfl) (hs:Qqb X.env e es:=by rfl) (hplain:Qqc cpos es X.env:=by rfl) :
   SE X (.Call (.Attribute o "extend" apos) (e::es) [] cpos) (PH m mm) :=
 PE.imp (Sv Do PySem.F.slot_list_extend PySem.F.type_list_extend yO ho ha hbase hfew hline hs hplain) <| by
   rintro σ H Q ⟨ρ,st,io,d,st',E,S,e,k⟩;obtain⟨⟨x,s1⟩,e1,e⟩:=HK e
   cases x with
   | ref n =>
     obtain⟨l,e0,e⟩:=HK e;obtain⟨⟨xs,s2⟩,e2,e⟩:=HK e;refine⟨ρ,st,io,_,s1,E,S,e1,fun v1 H1 k1 X1 S1 R1=>⟨V2 R1 S1 e0,ρ,s1,io++k1,xs,s2,E.ext S X1,S1,e2,fun vs H2 k2 X2 S2 R2=>?_⟩⟩;exact⟨_,xs,s2,(io++k1)++k2,d,st',R1.ext S1 X2,R2,S2,e,(k.on S1 X1).on S2 X2⟩
   | _=>cases e
theorem iT{ρ:Ie}:PH m mm ρ st=(m ρ st).bind fun p=>match p.1 with
 | .ref n=>(Ik p.2 n).bind fun _=>(mm ρ p.2).bind fun q=>Pa p.1 q.1 q.2
 | _=>none:=rfl
end
end L2.MP
namespace L2.MP
open PySem
def Z4{W:Wk}{g:MG}{c:MT}{m:ME}{α:Type}{f h:α->D}{p:α->Bool}{R:Ie->Prop}:∀ {as:List α} {ρ:Ie} {st:HB},R ρ->walked W st=true->(∀ a∈as,∀ ρ,R ρ->∃ ρ1,g (f a) ρ st=some (ρ1,st)/\c ρ1 st=some (p a,st)/\(p a=true->m ρ1 st=some (h a,st))/\R ρ1) ->
   Kd W g c m (as.map f) ρ st=some ((as.filter p).map h,st)
 | [],ρ,st,r,wk,_=>by unfold Kd;rw[Cp];simp only[wk,if_true,List.filter_nil,Cp]
 | a::as,ρ,st,r,wk,hs=>by
   obtain⟨ρ1,e1,e2,e3,r1⟩:=hs a Ao ρ r;have e:=Z4 (W:=W) (g:=g) (c:=c) (m:=m) (f:=f) (h:=h) (p:=p) (R:=R) (as:=as) r1 wk fun b hb=>hs b<|Ak _ hb;rw[Ax];unfold Kd;rw[if_pos wk,e1]
   cases hp:p a with
   | true =>
     rw[hp] at e2;simp only[Ae,e2,if_true,e3 hp,e,A9,Ex,hp,Ax]
   | false =>
     rw[hp] at e2;simp only[Ae,e2,Bd,if_false,e,Ex,hp]
end L2.MP
namespace L2.MP.Hn
open PySem L2.MP
def bD{st:HB}{n k:Nat}{ds zs:List D}(h:st[n]?=some (.lst ds))(h':st[k]?=some (.lst zs))(hl:ds.length+zs.length<=10000):Pa (.ref n) [.ref k] st=some (.non,st.set n (.lst<|ds++zs)):=by have:fits (ds.length+zs.length)=true:=Ll hl;simp[Pa,h,h',this]
end L2.MP.Hn
namespace L2.MP
open PySem PySem.Spec PyProof.Rows
def zE(x:Sr)(o:Obj)(xs:Array IR):Meets (Builtin.«enumerate.__new__» ⟨[.type "enumerate",.ref x.ad],[]⟩) (fun _ R s=>s.heap.get? x.ad=some o/\x.is s.heap xs /\
     R (.ok<|.ret<|.ref (s.heap.push x.ob).objs.size) { s with heap:=(s.heap.push x.ob).push { cls:=.type "enumerate",data:=.fields #[.none,.bool false,.ref s.heap.objs.size,SZ 0,.none,.none] } }) :=
 .of_wp fun prog w A R s h=>by
   obtain⟨hp,g,d,tk,os⟩:=s;obtain⟨h1,h2,h⟩:=h;have hsub:=sub_enumerate;have hx:x.is (Shared.heap ⟨hp,g,d,tk,os⟩) xs:=h2
   wp_walk using Cs h1
   refine wpAny_stack_any fun sk=>Ab ?_
   split
   . rename_i c _ _ _ _ _
     cases (c==CB "enumerate")
     . wp_walk using Cs h1,Sr.iter hx
       exact⟨_,rfl,h⟩
     . wp_walk using Cs h1,Sr.iter hx
       exact⟨_,rfl,h⟩
   . wp_walk using Cs h1,Sr.iter hx
     exact⟨_,rfl,h⟩
variable {prog:Pv}{w:UF}{A:Around}{E:Qqa}{s:Shared}{h:KM}{xs:Array IR}{x:Sr}
def Sr.is_get(q:x.is h xs):∃ o,h.get? x.ad=some o:=by
 cases x with
 | l a=>obtain⟨o,g,_⟩:=q;exact⟨o,g⟩
 | t a=>obtain⟨o,g,_⟩:=q;exact⟨o,g⟩
def xC{R:Qqa}(hx:x.is s.heap xs)(k:∀ h',IsEnum h' (s.heap.objs.size+1) s.heap.objs.size 0 .none->x.at_ h' s.heap.objs.size 0->(∀ c u,s.heap.get? c=some u->h'.get? c=some u)->R (.ref<|s.heap.objs.size+1) { s with heap:=h' }) :
   wpAny (KB prog w) A (call (.type "enumerate") [.ref x.ad]) R E s:=by
 obtain⟨o,g⟩:=Sr.is_get hx;refine callType_new F.called_enumerate (by decide) (F.typeCall_enumerate_1 _) (F.newCall_enumerate_1 _) (fun obj=>F.args_object_init_2 obj _) F.entry_enumerate_new (zE x o xs) ⟨g,hx,?_⟩;have z1:(s.heap.push x.ob).objs.size=s.heap.objs.size+1:=Bl ..;have f2:((s.heap.push x.ob).push { cls:=.type "enumerate",data:=.fields #[.none,.bool false,.ref s.heap.objs.size,SZ 0,.none,.none] }).get? (s.heap.push x.ob).objs.size=some { cls:=.type "enumerate",data:=.fields #[.none,.bool false,.ref s.heap.objs.size,SZ 0,.none,.none] }:=Am _ rfl;have f1:((s.heap.push x.ob).push { cls:=.type "enumerate",data:=.fields #[.none,.bool false,.ref s.heap.objs.size,SZ 0,.none,.none] }).get? s.heap.objs.size=some x.ob:=Ad _<|Am _ (by cases x <;> rfl);show _/\_;rw[z1] at f2 ⊢;exact⟨⟨_,f2,rfl⟩,k _ f2 (Sr.at_new f1) fun c u q=>Ad _ (Ad _ q)⟩
def Sr.draws(hh:A.handled=none)(it:Addr)(x:Sr)(hne:x.ad≠it)(items:Array IR):Draws prog w A it [it,x.ad] items.size (fun i v=>items[i]?=some v) (fun i h=>x.at_ h it i/\x.is h items) where
 live:=fun _ _ q=>let ⟨o,_,g,_⟩:=Sr.at_get q.1;⟨o,g⟩
 frame:=fun _ _ _ q k=>⟨Sr.at_keep q.1 fun o e=>k it (by simp) o e,Sr.is_keep q.2 fun o e=>k x.ad (by simp) o e⟩
 item:=fun i s Q E hi q k=>by refine Sr.next q.1 q.2 (v:=items[i]) (by simp[hi]) fun h' a b=>?_;exact k _ h' s.toks (by simp[hi]) ⟨a,Sr.is_keep q.2 fun o e=>b.extBut _ _ hne e⟩ b
 done:=fun s Q E q k=>Sr.stop hh q.1 q.2 (by simp) k
def Sr.drawsEnd(hh:A.handled=none)(it:Addr)(x:Sr)(items:Array IR)(n:Nat)(hn:items[n]?=none):Draws prog w A it [it,x.ad] n (fun _ _=>True) (fun j h=>j=n/\x.at_ h it n/\x.is h items) where
 live:=fun _ _ q=>let ⟨o,_,g,_⟩:=Sr.at_get q.2.1;⟨o,g⟩
 frame:=fun _ _ _ q k=>⟨q.1,Sr.at_keep q.2.1 fun o e=>k it (by simp) o e,Sr.is_keep q.2.2 fun o e=>k x.ad (by simp) o e⟩
 item:=fun i s Q E hi q k=>absurd q.1 (An hi)
 done:=fun s Q E q k=>Sr.stop hh q.2.1 q.2.2 hn k
def Itn(x:Sr):It :=
 ⟨fun i H=>∃ xs v,x.sq H xs/\xs[i]?=some v,fun i H r H'=>∃ p v,H p=none/\H'=upd H p (.tup [.int (i:Nat),v])/\r=.ref p/\∀ xs,x.sq H xs->xs[i]?=some v,fun i H=>∃ xs,x.sq H xs/\xs.length<=i⟩
variable {P:Pv}{K:Ac}{elts:List Os}{pos:Pos}
def zU{x1}(x:Sr)(it e:Addr)(hne:e≠it) :
   Turn P w K (.Tuple elts x1 pos) (Itn x) [e,it] e (fun i h=>(∃ old,IsEnum h e it (i:Nat) old)/\x.at_ h it i) where
 mem:=by simp
 obj:=fun i h st b hb=>by
   obtain⟨⟨old,he⟩,hi⟩:=st
   rcases M2.mp hb with rfl | hb
   . exact⟨_,he,fun v z=>by cases z⟩
   rw[On.mp hb];obtain⟨o,vs,g,d⟩:=Sr.at_get hi;exact⟨o,g,fun v z=>by rw[d] at z;cases z⟩
 keep:=fun i h h' st k=>by obtain⟨⟨old,he⟩,hi⟩:=st;exact⟨⟨old,k e (by simp) _ he⟩,Sr.at_keep hi fun o q=>k it (by simp) o q⟩
 item := by
   intro X hP hw hK hc i qp s σ H E I hf st hg;subst hP hw hK;obtain⟨xs,v,hx,hv⟩:=hg;obtain⟨⟨old,he⟩,hi⟩:=st;obtain⟨its,rx,ix⟩:=Sr.sq_is I hx;obtain⟨v',gv,rv⟩:=rx.get hv;have fit:=(hf it<|by simp).1;have fe:=(hf e<|by simp).1;have hlt:i < its.toArray.size:=by have:=(KF.mp gv).1;simpa using this
   refine wpAny_pyNext_enum_itemD (Sr.draws (A:=X.A.in1) (I.ok.hd hc) it x (Sr.sq_ne hx fit) its.toArray) he ⟨hi,ix⟩ hlt hne (by
     simp only[AW,AS,or_false,not_or];exact⟨hne,fun z=>Sr.sq_ne hx fe z.symm⟩) fun y h1 tk hy he1 st1 t1 z1 k1=>?_
   have ey:y=v':=by
     have:its[i]?=some y:=by simpa using hy
     rw[gv] at this;exact (Ap this).symm
   subst ey;refine⟨_,rfl,wpAny_letOwnedTupleGo_enum (s:={ s with heap:=h1,toks:=tk+1 }) he1 fun h2 he2 hb2=>?_⟩;have k2:∀ b o,b ∉ [e,it]->s.heap.get? b=some o->h2.get? b=some o:=fun b o hb q=>by have n1:b≠e:=fun z=>hb (by simp[z]);have n2:b≠it:=fun z=>hb (by simp[z]);exact (hb2.2 b n1).trans<|k1 b o n1 n2 q
   have hsz:e≠s.heap.objs.size:=An<|Aj he;have t2:h2.get? s.heap.objs.size=some { cls:=.type "tuple",data:=.seq #[.int i tk,y] }:=(hb2.2 _ hsz.symm).trans t1;have hi2:x.at_ h2 it (i+1):=Sr.at_keep st1.1 fun o q=>(hb2.2 it hne.symm).trans q;refine⟨.ref s.heap.objs.size,upd H s.heap.objs.size<|.tup [.int (i:Nat),v],?_,rfl,⟨_,v,I.hok.fresh<|Ag _,rfl,rfl,fun ys hy=>by rw[Sr.sq_inj hy hx];exact hv⟩,⟨⟨_,by exact_mod_cast he2⟩,hi2⟩,fun b hb=>?_⟩
   . exact Inv.turnNew (s:=s) (h':=h2) (t':=tk+1) I hf k2 (Ag _) (fun b hb ob q=>by
       rcases M2.mp hb with rfl | hb
       . exact⟨_,he2⟩
       rw[On.mp hb];obtain⟨o,vs,g,d⟩:=Sr.at_get hi2;exact⟨o,g⟩) ⟨by show 2<=sizeLine;decide,[.int i tk,y],.cons ⟨_,rfl⟩<|.cons rv .nil,⟨_,t2,rfl,rfl,_,rfl⟩⟩
   . rw[HV (fun z=>?_)]
     . exact (hf b hb).1
     . rcases M2.mp hb with q | hb
       . exact hsz<|q.symm.trans z
       have q:=On.mp hb;obtain⟨o,vs,g,d⟩:=Sr.at_get hi;exact (An<|Aj g)<|q.symm.trans z
 done:=by intro X hP hw hK hc i qp s σ H E I hf st hg;subst hP hw hK;obtain⟨xs,hx,hl⟩:=hg;obtain⟨⟨old,he⟩,hi⟩:=st;obtain⟨its,rx,ix⟩:=Sr.sq_is I hx;have l1:=rx.length;exact wpAny_pyNext_enum_endD (Sr.drawsEnd (A:=X.A.in1) (I.ok.hd hc) it x its.toArray i (by simp;omega)) he ⟨rfl,hi,ix⟩ fun h' eb=>⟨rfl,Inv.turnAll (t':=s.toks) I hf fun b o hb q=>eb b o (fun z=>hb (by simp[z])) q⟩
 self:=fun _ _ _ _ _ st h=>by obtain⟨⟨old,he⟩,_⟩:=st;exact Gb he h
variable {X:Cx}{H:Hp}{io:List Addr}{m:ME}{st st':HB}{a:Os}
def U1(x:D)(s:HB):Option (Wk×HB):=(LV s x).map fun (a,f)=>(⟨pairs a,f⟩,s)
def LO(m:ME):MI:=fun ρ st=>(m ρ st).bind fun (x,s1)=>U1 x s1
def TF{x1}{tp:Pos}{p:Pos}(hg:Gl X "enumerate")(hm:X.mg "enumerate"=none)(ha:SE X a m)(hs:P3 [a] X.env=[(false,W1 a X.env)]:=by rfl) :
   SI X (.Tuple elts x1 tp) (.Call (.Name "enumerate" p) [a] [] pos) (LO m):=by
 rintro qp s σ H R I ⟨ρ,st,io,W,st',E,S,e,k⟩;obtain⟨⟨x,s1⟩,e1,e⟩:=HK e;obtain⟨⟨as,f⟩,e3,e⟩:=Ip e;cases e;refine Call_<|Qk I hg hm boot_enumerate<|B7 (HS (HD ha HJ hs pos qp s σ H (fun vs H'=>∃ ka,Ext io ka H H'/\HN X.K H' (io++ka) st'/\HC X.K H' (io++ka) vs [x]) I ⟨ρ,st,io,[x],st',E,S,TQ e1 rfl,fun vs H1 k1 X1 S1 R1=>⟨k1,X1,S1,R1⟩⟩) ?_) hs rfl;rintro us t1 ⟨vs,H1,I1,r1,k1,X1,S1,R1⟩;obtain⟨v,rfl,Rx⟩:=R1.one;obtain⟨v',rfl,rv⟩:=r1.one;obtain⟨xx,rfl,⟨xs,hx⟩,kx⟩:=VJ S1 Rx e3;cases rv;obtain⟨its,vx,ix⟩:=Sr.sq_is I1 hx;refine xC ix fun h' he hi kk=>Gb he ?_;refine⟨_,_,_,_,H1,rfl,I1.kept (t':=t1.toks) kk,zU xx t1.heap.objs.size (t1.heap.objs.size+1)<|Nat.succ_ne_self _,⟨⟨_,he⟩,hi⟩,fun b hb=>?_,?_⟩
 . have hle:t1.heap.objs.size<=b:=by
     rcases M2.mp hb with q | hb
     . rw[q];exact BR _
     rw[On.mp hb];exact Ag _
   exact I1.fpOk hle<|I1.hok.fresh hle
 . refine k _ H1 k1 X1 S1 ?_;refine⟨fun i d H2 k2 s3 hd X2 S2 hs=>?_,fun H2 k2 s3 X2 S2 hs=>?_,fun H2 k2 s3 i hi X2 S2 hs=>?_⟩
   . obtain⟨xs2,qx,rx⟩:=kx H2 k2 s3 X2 S2 hs;obtain⟨dx,g1,rfl⟩:=aW hd;obtain⟨u1,gu,ru⟩:=rx.get g1;refine⟨⟨xs2,u1,qx,gu⟩,fun r H' yl=>?_⟩;obtain⟨q,u2,hq,rfl,rfl,yu⟩:=yl;have e5:=yu xs2 qx;rw[gu] at e5;cases e5;obtain⟨E',S'⟩:=Q3 (o:=.tup [.int (i:Nat),u1]) S2 hq;rw[Al] at S';refine⟨E',S',⟨q,_,rfl,JP,?_⟩⟩;have r2:=ru.ext S2 E';rw[Al] at r2;exact HC.cons rfl<|HC.cons r2 HC.nil
   . obtain⟨xs2,qx,rx⟩:=kx H2 k2 s3 X2 S2 hs;exact⟨xs2,qx,by show xs2.length<=(pairs as).length;rw[pairs_len,rx.length];exact Ag _⟩
   obtain⟨xs2,qx,rx⟩:=kx H2 k2 s3 X2 S2 hs;have hi:(pairs as).length<=i:=hi;rw[pairs_len] at hi;exact⟨xs2,qx,by rw[rx.length];exact hi⟩
@[simp] theorem nM{ρ:Ie}:LO m ρ st=(m ρ st).bind fun p=>U1 p.1 p.2:=rfl
variable {ma mb mc:ME}{b c:Os}{g g':G2}{σ:L2.St}{op op':CmpOp}
def JY(g g':G2)(ma mb mc:ME):ME:=fun ρ st=>(ma ρ st).bind fun (x,s1)=>(mb ρ s1).bind fun (y,s2)=>(g x y s2).bind fun (z,s3)=>match z with
 | .bl q=>if q=true then (mc ρ s3).bind fun (w,s4)=>g' y w s4 else some (.bl false,s3)
 | _=>none
def bX{Q:VK}(h:tE K (JY g g' ma mb mc) σ H Q):Vl (RG K g) (RG K g') (tE K ma) (tE K mb) (tE K mc) σ H Q:=by
 obtain⟨ρ,st,io,d,st',E,S,e,k⟩:=h;obtain⟨⟨x,s1⟩,e1,e⟩:=HK e;obtain⟨⟨y,s2⟩,e2,e⟩:=HK e;obtain⟨⟨z,s3⟩,e3,e⟩:=HK e;refine⟨ρ,st,io,x,s1,E,S,e1,fun v1 H1 k1 X1 S1 R1=>?_⟩;refine⟨ρ,s1,io++k1,y,s2,E.ext S X1,S1,e2,fun v2 H2 k2 X2 S2 R2=>?_⟩;refine⟨x,y,s2,(io++k1)++k2,z,s3,R1.ext S1 X2,R2,S2,e3,fun v3 H3 k3 X3 S3 R3=>?_⟩;have k':=((k.on S1 X1).on S2 X2).on S3 X3;dsimp only at e
 split at e
 . rename_i q;refine⟨q,R3,?_⟩
   cases q with
   | true =>
     rw[if_pos rfl] at e ⊢;obtain⟨⟨w,s4⟩,e4,e5⟩:=HK e;refine⟨ρ,s3,((io++k1)++k2)++k3,w,s4,((E.ext S X1).ext S1 X2).ext S2 X3,S3,e4,fun v4 H4 k4 X4 S4 R4=>?_⟩;exact⟨y,w,s4,(((io++k1)++k2)++k3)++k4,d,st',(R2.ext S2 X3).ext S3 X4,R4,S4,e5,k'.on S4 X4⟩
   | false =>
     rw[if_neg Bk] at e ⊢;cases e;exact Bh.now k' S3 rfl
 . cases e
def VW(ho:IZ X (Re op) g)(ho':IZ X (Re op') g')(ha:SE X a ma)(hb:SE X b mb)(hc:SE X c mc)(hm:lastMarks [op,op'] [b,c]=false:=by with_unfolding_all rfl) :
   SE X (.Compare a [op,op'] [b,c] pos) (JY g g' ma mb mc):=PE.imp (tW ho ho' ha hb hc hm) fun _ _ _ h=>bX h
def aA(ho:IZ X (Re op) g)(ho':IZ X (Re op') g')(ha:SE X a ma)(hb:SE X b mb)(hc:SE X c mc)(hm:lastMarks [op,op'] [b,c]=false:=by with_unfolding_all rfl) :
   SB X (.Compare a [op,op'] [b,c] pos) (mT<|JY g g' ma mb mc):=PT.imp (sF ho ho' ha hb hc hm) fun _ _ _ h=>bX (Rh h)
def zf9:typeLookup (.type "list") "keys"=pure none:=by rw[Dc,Ci];kernel_rfl
def T4:entryFor table "dict.update.loop"=some Builtin.«dict.update.loop»:=entryFor_of_fast<|by kernel_rfl
def NL:plainId "dict.update.loop"=true:=by decide +kernel
section
variable {a:Addr}
def bH{Q:Option IR->Shared->Prop}{k:Nat}{sl:Array (Option IR)}(hx:s.heap.get? a=some { cls:=.type "list",dict:=none,data:=.seq xs k,slots:=sl })(hA:A.handled=none)
   (h:∀ h' tk,(∀ b u,s.heap.get? b=some u->h'.get? b=some u)->Q none { s with heap:=h',toks:=tk }):wpAny (KB prog w) A (getAttr? (.ref a) "keys") Q E s:=by
 obtain⟨hp,g,d,tk,os⟩:=s;have hT:∀ tk',(⟨hp,g,d,tk',os⟩:Shared).TypeIs (.ref a) "list":=fun _=>⟨_,hx,rfl⟩
 have f1:=FW;have f3:=F.slot_list_getattribute.lookup;have f4:=F.slot_list_getattribute.bind<|.ref a;have f5:=am_list_getattr_none;unfold getAttr? getAttrBy? getAttrBy
 repeat (any_goals (first | assumption | exact hT _ | ((with_reducible show wpAny _ _ (call (CA "list.__getattribute__") _ _) _ _ _);refine Ek F.slot_list_getattribute (hT _) am_entry_list_getattribute (F.args_list_getattribute_2 _ _) (meets_getattribute_miss_list a xs k sl _ _ zf9<|by decide +kernel) ⟨hx,hA,fun h' tk' e hx'=>?_⟩) | wp_step))
 obtain⟨t',u',he⟩:=hx'.there;show wpAny _ _ (getattributeRaised _ _ _ _ _ _ _) _ _ _;unfold getattributeRaised
 repeat (any_goals (first | assumption | wp_step))
 exact h _ _ hx'.keeps
def Ol(prog:Pv)(w:UF)(h:KM)(v:IR)(kv:Key×IR):Prop:=∃ p kx,v=.ref p/\IsTup h p #[kx,kv.2]/\(IS prog w).is kv.1 kx=true
def Ol.keep{h':KM}{v:IR}{kv:Key×IR}(q:Ol prog w h v kv)(k:∀ b o,v=.ref b->h.get? b=some o->h'.get? b=some o):Ol prog w h' v kv:=by obtain⟨p,kx,rfl,⟨o,g,c⟩,i⟩:=q;exact⟨p,kx,rfl,⟨o,k p o rfl g,c⟩,i⟩
def dD{p:Addr}{Q:List IR->Shared->Prop}(ht:IsTup s.heap p xs)(h:Q xs.toList s):wpAny (KB prog w) A (Fd<|.ref p) Q E s:=by
 obtain⟨hp,g,d,tk,os⟩:=s;obtain⟨o,g0,c,n,dd⟩:=ht;have hT:(⟨hp,g,d,tk,os⟩:Shared).TypeIs (.ref p) "tuple":=⟨_,g0,c⟩
 unfold Fd seqItems?
 repeat (any_goals (first | assumption | wp_step))
 rw[dd];exact Ab<|Ab h
end
variable {its:List IR}{kvs:List (Key×IR)}
section
variable {a:Addr}
def zR{K:Type}[DecidableEq K](kvs:List (K×IR))(k:K)(v:IR):(stored kvs k v).length<=kvs.length+1:=by
 unfold stored
 split <;> simp
def Wv{K:Type}[DecidableEq K]:∀ (more kvs:List (K×IR)),(merged kvs more).length<=kvs.length+more.length
 | [],kvs=>by show kvs.length<=kvs.length+0;omega
 | p::r,kvs=>by have h1:=Wv r<|stored kvs p.1 p.2;have h2:=zR kvs p.1 p.2;show (merged (stored kvs p.1 p.2) r).length<=_;rw[AC];omega
def eR{R:Result->Shared->Prop}{D I l:Addr}{h0:KM}(hh:A.in1.handled=none)(hl:its.length=kvs.length)(hz:kvs.length<=sizeLine)(hDI:D≠I)(hlD:l≠D)(hlI:l≠I) :
   ∀ (k i:Nat) (s:Shared),kvs.length - i=k->i<=kvs.length->s.heap.IsListIter I l i->s.heap.IsList l its.toArray->s.heap.DictOf (IS prog w) D (merged []<|kvs.take i) ->
   (∀ (j:Nat) (v:IR) (kv:Key×IR),its[j]?=some v->kvs[j]?=some kv->Ol prog w s.heap v kv/\v≠.ref D/\v≠.ref I)->(∀ b o,b≠D->b≠I->h0.get? b=some o->s.heap.get? b=some o) ->
   (∀ h' tk,h'.DictOf (IS prog w) D (merged [] kvs)->(∀ b o,b≠D->b≠I->h0.get? b=some o->h'.get? b=some o)->R (.ok<|.ret .none) { s with heap:=h',toks:=tk }) ->
   codeAny (KB prog w) A (.builtin "dict.update.loop" ⟨[.ref D,.ref I,SZ i,.none],[]⟩) R s:=by
 intro k
 induction k with
 | zero =>
   intro i s hk hi hit hlist hd hp h0k hR;have hin:i=kvs.length:=by omega
   subst hin;refine BG T4 ?_;rw[Bt NL _];show wpAny _ A.in1 (pyNext (.ref I) >>= _) _ _ s;refine Aa<|DC hh hit hlist (by simp[hl]) fun h' hx=>?_;show wpAny _ A.in1 (Ey D [] >>= fun _=>ret .none) _ _ _;refine Aa<|Ab<|Ab ?_;rw[Ct] at hd;refine hR h' s.toks ?_ fun b o h1 h2 e=>hx b o h2 (h0k b o h1 h2 e);obtain⟨o,es,ep,ho,r⟩:=hd;exact⟨o,es,ep,hx D o hDI ho,r⟩
 | succ k ih =>
   intro i s hk hi hit hlist hd hp h0k hR;have hlt:i < kvs.length:=by omega
   have hlt':i < its.length:=by omega
   refine BG T4 ?_;rw[Bt NL _];show wpAny _ A.in1 (pyNext (.ref I) >>= _) _ _ s;have hv:its[i]?=some its[i]:=Ah hlt';have hkv:kvs[i]?=some kvs[i]:=Ah hlt;refine Aa<|Du (x:=its[i]) hit hlist (by simp[hlt']) fun h' hit' hx=>?_;obtain⟨pa,nD,nI⟩:=hp i _ _ hv hkv;have pa':Ol prog w h' its[i] kvs[i]:=pa.keep fun b o e g=>hx.extBut b o (fun z=>nI (by rw[e,z])) g;obtain⟨p,kx,ep,tp,ik⟩:=pa';have hd':h'.DictOf (IS prog w) D (merged []<|kvs.take i):=by obtain⟨o,es,ep,ho,r⟩:=hd;exact⟨o,es,ep,hx.extBut D o hDI ho,r⟩
   have hlen:(merged []<|kvs.take i).length<=sizeLine:=by have:=Wv (kvs.take i) [];rw[Bv,Bf] at this;omega
   rw[ep];refine Aa<|A0<|Aa<|wpAny_tryCatch<|dD (s:={ s with heap:=h' }) tp ?_;refine A0<|FG (s:={ s with heap:=h' }) ik hd' (fun h2 hd2 hs2=>?_) hlen;have hI2:∀ b o,b≠D->h'.get? b=some o->h2.get? b=some o:=fun b o hb e=>hs2.extBut b o hb e;have e1:stored (merged []<|kvs.take i) kvs[i].1 kvs[i].2=merged [] (kvs.take<|i+1):=(merged_take_succ [] kvs i _ hkv).symm;refine Ab ⟨B3 NL _,?_⟩;refine ih (i+1) { s with heap:=h2,toks:=s.toks+1 } (by omega) (by omega) ?_ ?_ (by rw[<-e1];exact hd2) (fun j v kv h1 h2'=>?_) (fun b o b1 b2 e=>hI2 b o b1 (hx.extBut b o b2<|h0k b o b1 b2 e)) fun h3 tk3 d3 k3=>hR h3 tk3 d3 k3
   . exact FV hit' fun u e=>hI2 I u (A6 hDI) e
   . exact Fo (Fo hlist fun u e=>hx.extBut l u hlI e) fun u e=>hI2 l u hlD e
   obtain⟨q,q1,q2⟩:=hp j v kv h1 h2';exact⟨(q.keep fun b o e g=>hx.extBut b o (fun z=>q2 (by rw[e,z])) g).keep fun b o e g=>hI2 b o (fun z=>q1 (by rw[e,z])) g,q1,q2⟩
def zfv{l:Addr}{Q:Qqa}(hh:A.handled=none)(hpl:PlainL s.heap l its.toArray)(hl:its.length=kvs.length)(hz:kvs.length<=sizeLine)
   (hp:∀ (j:Nat) (v:IR) (kv:Key×IR),its[j]?=some v->kvs[j]?=some kv->Ol prog w s.heap v kv)
   (h:∀ h' tk,h'.DictOf (IS prog w) s.heap.objs.size (merged [] kvs)->(∀ b o,s.heap.get? b=some o->h'.get? b=some o)->Q (.ref s.heap.objs.size) { s with heap:=h',toks:=tk }) :
   wpAny (KB prog w) A (call (.type "dict") [.ref l]) Q E s:=by
 refine callType_codes (Q₁:=fun obj s₁=>obj=.ref s.heap.objs.size/\s₁={ s with heap:=s.heap.push Qqd }) F.kt_called_dict (F.kt_typeCall_dict_1 _) F.entry_dict_init (kt_code_dict_new _ ⟨rfl,rfl⟩) ?_;rintro obj s₁ ⟨rfl,rfl⟩;have hnew:(s.heap.push Qqd).DictOf (IS prog w) s.heap.objs.size []:=EM s.heap;have k1:∀ b o,s.heap.get? b=some o->(s.heap.push Qqd).get? b=some o:=fun b o e=>Ad _ e;have hpl1:=hpl.keeps k1;obtain⟨⟨cl,di,da,sl⟩,n,g1,c1,c2,c3⟩:=id hpl1;simp only at c1 c2 c3;subst c1 c2 c3;have hlt:∀ b o,s.heap.get? b=some o->b < s.heap.objs.size:=fun b o e=>Aj e;have hll:l < s.heap.objs.size:=by obtain⟨o,_,g,_⟩:=hpl;exact hlt l o g
 refine⟨hnew.typeIs,F.args_dict_init_2 _ _,?_⟩;unfold Builtin.«dict.__init__»;refine Aa ?_;unfold Ez;refine Aa<|CO hnew.typeIs ?_;show wpAny _ _ (pure (s.heap.objs.size,[Au l])) _ _ _;refine Ab ?_;show wpAny _ _ (Cz "dict.__init__" s.heap.objs.size (.ref l) [] .none) _ _ _;unfold Cz;refine Aa (Ca (show Shared.TypeIs { s with heap:=s.heap.push Qqd } (.ref l) "list" from ⟨_,g1,rfl⟩) ?_);rw[if_pos (by decide)];refine Aa<|bH g1 hh fun h2 tk2 k2=>?_;have hpl2:=hpl1.keeps k2;have hd2:h2.DictOf (IS prog w) s.heap.objs.size []:=by obtain⟨o,es,ep,ho,r⟩:=hnew;exact⟨o,es,ep,k2 _ o ho,r⟩
 have hsz:s.heap.objs.size < h2.objs.size:=by obtain⟨o,es,ep,ho,r⟩:=hd2;exact Aj ho
 simp only[DZ,if_true];refine Aa<|BY ?_;refine Aa<|Sr.iter (x:=.l l) (s:={ s with heap:=h2,toks:=tk2 }) (xs:=its.toArray) hpl2.isList ?_;have k3:∀ b o,h2.get? b=some o->(h2.push<|Sr.ob<|.l l).get? b=some o:=fun b o e=>Ad _ e;refine Ab ⟨B3 NL _,?_⟩;have n1:s.heap.objs.size≠h2.objs.size:=An hsz;have n2:l≠s.heap.objs.size:=An hll;have n3:l≠h2.objs.size:=An<|B9 hll hsz;show codeAny (KB prog w) A.in1 (.builtin "dict.update.loop" ⟨[.ref s.heap.objs.size,.ref h2.objs.size,SZ (0:Nat),.none],[]⟩) _ { s with heap:=h2.push (Sr.ob<|.l l),toks:=tk2 };refine eR (A:=A.in1) (h0:=s.heap) (l:=l) (its:=its) (kvs:=kvs) (D:=s.heap.objs.size) (I:=h2.objs.size) hh hl hz n1 n2 n3 kvs.length 0 { s with heap:=h2.push (Sr.ob<|.l l),toks:=tk2 } rfl (Bc _) ?_ (hpl2.keeps k3).isList ?_ (fun j v kv e1 e2=>?_) (fun b o _ _ e=>k3 b o (k2 b o<|k1 b o e)) fun h' tk d' k'=>?_
 . exact Sr.at_new (x:=.l l)<|Am _ rfl
 . obtain⟨o,es,ep,ho,r⟩:=hd2;exact⟨o,es,ep,k3 _ o ho,r⟩
 . have q:=hp j v kv e1 e2;have nn:∀ b,v=.ref b->b < s.heap.objs.size:=fun b e=>by
     obtain⟨p,kx,rfl,⟨o,g,_⟩,_⟩:=q;cases e;exact hlt _ o g
   refine⟨q.keep fun b o _ g=>k3 b o (k2 b o<|k1 b o g),fun e=>?_,fun e=>?_⟩
   . exact absurd (nn _ e)<|AZ _
   exact absurd (nn _ e)<|Nat.not_lt_of_lt hsz
 exact⟨rfl,h h' tk d' fun b o e=>k' b o (An<|hlt b o e) (An<|B9 (hlt b o e) hsz) e⟩
end
def RJ:D->Option (Key×D)
 | .tup [k,v]=>(keyOf k).map fun q=>(q,v)
 | _=>none
def P9:List D->Option (List<|Key×D)
 | []=>some []
 | d::r=>(RJ d).bind fun t=>(P9 r).map fun ts=>t::ts
def Oo(kvs more:List (Key×D)):List (Key×D):=more.foldl (fun acc kv=>putD acc kv.1 kv.2) kvs
section
variable {qp:List (Addr×Obj)}
def ZT:∀ {more:List (Key×V)} {mds:List (Key×D)} {kvs:List (Key×V)} {kds:List (Key×D)},KR Key K H io more mds->KR Key K H io kvs kds->KR Key K H io (LC kvs more) (Oo kds mds):=by
 intro more mds kvs kds r;unfold KR at r
 induction r generalizing kvs kds with
 | nil=>intro q;exact q
 | @cons p q ps qs h t ih =>
   intro r0;have e:KR Key K H io (putK kvs p.1 p.2) (putD kds q.1 q.2):=by rw[<-h.1];exact KR.put r0 p.1 h.2
   exact ih e
def U9(I:Inv X qp σ H s):∀ {ys:List V} {ds:List D} {kds:List (Key×D)} {its:List IR},HC X.K H io ys ds->P9 ds=some kds->Vals ys its ->
   ∃ (kvV:List (Key×V)) (kvs:List (Key×IR)),KR Key X.K H io kvV kds/\KV kvV kvs/\its.length=kvs.length/\kvs.length=kds.length/\∀ (j:Nat) (v:IR) (kv:Key×IR),its[j]?=some v->kvs[j]?=some kv->Ol X.prog X.w s.heap v kv
 | _,[],kds,_,h,e,r=>by
   cases e
   cases (show _=[] from h)
   cases r;exact⟨[],[],.nil,.nil,rfl,rfl,fun j v kv h=>by simp at h⟩
 | _,d::ds,kds,_,h,e,r=>by
   obtain⟨y,ys,rfl,h1,h2⟩:=h;obtain⟨t,e1,e⟩:=HK e;obtain⟨ts,e2,e⟩:=Ip e;subst e
   cases r with
   | @cons _ u _ us ru rus =>
     obtain⟨kvV,kvs,a1,a2,a3,a4,a5⟩:=U9 I h2 e2 rus;unfold RJ at e1
     split at e1
     . rename_i k v;obtain⟨q,eq1,e1⟩:=Ip e1;subst e1;obtain⟨p,vs,rfl,hp,rs⟩:=h1;obtain⟨v1,w1,rfl,q1,rs⟩:=rs;obtain⟨v2,w2,rfl,q2,rs⟩:=rs
       cases (show w2=[] from rs)
       have ek:=TZ q1 eq1;subst ek;cases ru;obtain⟨ia,va,ht,_⟩:=I.tuple<|IQ.of (K:=X.K) hp
       cases va with
       | cons r1 t1 =>
         cases t1 with
         | cons r2 t2 =>
           cases t2;rename_i u1 u2;refine⟨(q,v2)::kvV,(q,u2)::kvs,.cons ⟨rfl,q2⟩ a1,.cons ⟨rfl,r2⟩ a2,by rw[AC,AC,a3],by rw[AC,AC,a4],fun j v kv e1 e2=>?_⟩
           cases j with
           | zero =>
             cases e1;cases e2;exact⟨p,u1,rfl,ht,Oi r1⟩
           | succ j=>exact a5 j v kv e1 e2
     . cases e1
def Sl:GN
 | [.ref n],st=>(Ik st n).bind fun ds=>(P9 ds).bind fun kds=>if fits kds.length=true then some (.ref st.length,st++[.dk (Oo [] kds)]) else none
 | _,_=>none
def xB(hc:X.calm=true):J4 X (.type "dict") Sl:=by
 rintro qp s σ H xs us Q I r ⟨ds,st,io,d,st',R,S,e,k⟩;unfold Sl at e
 split at e
 . rename_i n;obtain⟨zs,e0,e⟩:=HK e;obtain⟨kds,e1,e⟩:=HK e;obtain⟨hf,e⟩:=IJ e;cases e;obtain⟨v,rfl,p,rfl,hp⟩:=R.one;obtain⟨u,rfl,ru⟩:=r.one;cases ru;obtain⟨ys,hx,r1⟩:=Ky S hp e0;obtain⟨its,rv,pl,hz⟩:=I.list hx;obtain⟨kvV,kvs,a1,a2,a3,a4,a5⟩:=U9 I r1 e1 rv;have hzk:kvs.length<=sizeLine:=by
     rw[a4];exact of_decide_eq_true hf
   refine zfv (I.ok.hd hc) pl a3 hzk a5 fun h' tk d' kk=>?_;have hlV:kvV.length=kvs.length:=By a2;have hm:(LC [] kvV).length<=sizeLine:=by have:=Uh kvV [];rw[Bf] at this;omega
   have hd:(s.heap.objs.size==sysModules)=false:=beq_eq_false_iff_ne.mpr<|A6<|An I.big;refine⟨.ref s.heap.objs.size,_,I.laid (a:=s.heap.objs.size) (o:=.dK (LC [] kvV)) (t':=tk) kk (Ag _)<|S0 hm hd (a2.merge .nil) d',rfl,?_⟩;obtain⟨E',S'⟩:=O4 (o:=.dK (LC [] kvV)) (ob:=.dk (Oo [] kds)) S (I.hok.fresh<|Ag _) fun H' T e=>⟨_,e,ZT (KR.mono T a1) .nil⟩
   exact k _ _ [s.heap.objs.size] E' S' ⟨s.heap.objs.size,rfl,by rw[<-S.len];exact getElem?_len io _⟩
 . cases e
end
def UK(n:Nat)(f:Nat->Option V):It:=⟨fun i _=>i < n,fun i H v H'=>H'=H/\f i=some v,fun i _=>n<=i⟩
def yY:List String:=["enumerate","zip","dict_itemiterator","dict_reverseitemiterator","odict_iterator","itertools.zip_longest","itertools.pairwise"]
variable {tg:Os}
def zX(it:Addr)(n:Nat)(f:Nat->Option V){R:Nat->IR->Prop}{T:Nat->KM->Prop}(W:∀ A:Around,A.handled=none->Walks P w A it [it] [it] n R T)
   (hr:∀ i v,R i v->∃ x,f i=some x/\RelV x v) (hob:∀ i h,T i h->∃ o nm vs,h.get? it=some o/\o.cls=.type nm/\o.data=.fields vs/\yY.contains nm=false)
   (hself:∀ (A:Around) (i:Nat) (s:Shared) (Q:Qqa) (E:Qqa),T i s.heap->Q (.ref it) s->wpAny (KB P w) A (pyIter<|.ref it) Q E s) :
   Turn P w K tg (UK n f) [it] it (fun i h=>i<=n/\T i h) where
 mem:=by simp
 obj:=fun i h st b hb=>by
   have e:b=it:=by simpa using hb
   subst e;obtain⟨o,nm,vs,e,c,d,_⟩:=hob i h st.2;exact⟨o,e,fun v z=>by rw[d] at z;cases z⟩
 keep:=fun i h h' st k=>⟨st.1,(W {} rfl).frame i h h' st.2 k⟩
 item:=by intro X hP hw hK hc i qp s σ H E I hf st hg;subst hP hw hK;obtain⟨f0,f1,f2,f3,f4,f5⟩:=hf it (by simp);refine (W X.A<|I.ok.hd hc).item i s _ _ hg st.2 fun v h' tk hv st' kk=>?_;obtain⟨x,hx,rx⟩:=hr i v hv;have I1:Inv X qp σ H { s with heap:=h',toks:=tk }:=I.turned (fun b o hb e=>kk b o (by simpa using hb) e) f0 f1 f3 f4 f5;obtain⟨o,nm,vs,e,c,d,hn⟩:=hob (i+1) h' st';exact⟨_,rfl,QH (s:={ s with heap:=h',toks:=tk }) e c d hn ⟨x,H,I1,rx,⟨rfl,hx⟩,⟨hg,st'⟩,fun b hb=>(hf b hb).1⟩⟩
 done:=by intro X hP hw hK hc i qp s σ H E I hf st hg;subst hP hw hK;obtain⟨f0,f1,f2,f3,f4,f5⟩:=hf it (by simp);have e:i=n:=Nat.le_antisymm st.1 hg;subst e;exact (W X.A<|I.ok.hd hc).done s _ _ st.2 fun h' tk kk=>⟨rfl,I.turned (fun b o hb e=>kk b o (by simpa using hb) e) f0 f1 f3 f4 f5⟩
 self:=fun A i s Q E st h=>hself A i s Q E st.2 h
variable {n:Nat}
def iK{H:Hp}{io:List Addr}{ds:List D}{f:Nat->Option V}(hn:n=ds.length)(hf:∀ i d,ds[i]?=some d->∃ v,f i=some v/\∀ H io,Rep K H io v d):Lv K H io ⟨ds,[]⟩ (UK n f) where
 go:=fun i d H1 k1 s hd X1 S1 hs=>by have hi:i < ds.length:=(KF.mp hd).1;refine⟨by show i < n;omega,fun x H' y=>?_⟩;obtain⟨rfl,y⟩:=y;obtain⟨v,hv,rv⟩:=hf i d hd;rw[hv] at y;cases y;exact⟨Ext.refl,S1,rv _ _⟩
 stop:=fun H1 k1 s X1 S1 hs=>by show n<=ds.length;omega
 stop':=fun H1 k1 s i hi X1 S1 hs=>by show n<=i;have hi:ds.length<=i:=hi;omega
variable {l e:Os}{es:List Os}{mm:MA}{mt:MT}{ms:MS}{body:List Wp}
def signs(z:Str):List D:=z.cps.toList.map fun c=>D.str ⟨#[c]⟩
def Qb(z:Str)(i:Nat):Option V:=z.cps[i]?.map fun c=>V.str ⟨#[c]⟩
def wX(hh:A.handled=none)(I:Addr)(x:Str)(t:Tok):Walks P w A I [I] [I] x.cps.size (SignAt x) (fun i h=>h.IsStrIter I (strIterType x) x t i):=by
 unfold strIterType
 cases x.cps.all (· < 128)
 . exact Walks.strWide hh I x t
 exact Walks.strAscii hh I x t
def uY(it:Addr)(x:Str)(t:Tok):Turn P w K tg (UK x.cps.size<|Qb x) [it] it (fun i h=>i<=x.cps.size/\h.IsStrIter it (strIterType x) x t i) :=
 zX it x.cps.size (Qb x) (fun A hA=>wX hA it x t) (fun i v ⟨c,u,hc,hv⟩=>⟨.str ⟨#[c]⟩,by unfold Qb;rw[hc];rfl,u,hv⟩)
   (fun i h ⟨o,e,c,d⟩=>⟨o,_,_,e,c,d,by unfold strIterType;split <;> decide⟩) fun A i s Q E st h=>by
     unfold strIterType at st
     split at st
     . exact wpAny_pyIter_striter_ascii st h
     exact wpAny_pyIter_striter_wide st h
def XF(tl:TE):TI:=fun σ H R=>tl σ H fun x H1=>∃ z,x=.str z/\R (UK z.cps.size<|Qb z) H1
def lF{tl:TE}(hl:PE X l tl):PI X tg l (XF tl):=by
 intro qp s σ H R I h;refine HS (hl qp s σ H _ I h) ?_;rintro v s1 ⟨x,H1,I1,r1,q1⟩;obtain⟨z,e,q⟩:=q1;subst e;obtain⟨t,rfl⟩:=r1;refine wpAny_pyIter_strU ?_;refine⟨s1.heap.objs.size,[s1.heap.objs.size],_,_,H1,rfl,I1.kept (t':=s1.toks) fun b o e=>Ad _ e,uY _ z t,⟨Bc _,_,Am _ rfl,rfl,rfl⟩,fun b hb=>?_,q⟩;have e:b=s1.heap.objs.size:=by simpa using hb
 subst e;exact I1.fpOk (Ag _)<|I1.hok.fresh<|Ag _
def signs_get{z:Str}{i:Nat}{d:D}(h:(signs z)[i]?=some d):∃ v,Qb z i=some v/\∀ H io,Rep K H io v d:=by unfold signs at h;rw[AD] at h;obtain⟨c,hc,e⟩:=Ip h;subst e;refine⟨.str ⟨#[c]⟩,?_,fun H io=>rfl⟩;unfold Qb;rw[Bp] at hc;rw[hc];rfl
def xP(z:Str):z.cps.size=(signs z).length:=by unfold signs;rw[Af,AK]
def dZ(m:ME):MI:=fun ρ st=>(m ρ st).bind fun (d,s)=>match d with
 | .str z=>some (⟨signs z,[]⟩,s)
 | _=>none
def jZ(hl:SE X l m):SI X tg l (dZ m):=PI.imp (lF hl) <| by
 rintro σ H R ⟨ρ,st,io,W,st',E,S,e,k⟩;obtain⟨⟨d,s1⟩,e1,e⟩:=HK e;dsimp only at e
 split at e
 . rename_i z;cases e;refine⟨ρ,st,io,_,_,E,S,e1,fun v H1 k1 X1 S1 R1=>?_⟩;exact⟨z,R1,k _ H1 k1 X1 S1<|iK (xP z) fun i d h=>signs_get h⟩
 . cases e
def KU(m:ME):MI:=fun ρ st=>(m ρ st).bind fun (d,s)=>LH (Nv d s)<|match d with | .str z=>some (⟨signs z,[]⟩,s) | _=>none
def Qo(hl:SE X l m):SI X tg l (KU m):=by
 rintro qp s σ H R I ⟨ρ,st,io,W,st',E,S,e0,k⟩;obtain⟨⟨d,s1⟩,e1,e0⟩:=HK e0
 rcases Nh e0 with e0 | e0
 . exact rT hl qp s σ H R I ⟨ρ,st,io,W,st',E,S,by unfold mW;rw[e1];exact e0,k⟩
 exact jZ hl qp s σ H R I ⟨ρ,st,io,W,st',E,S,by unfold dZ;rw[e1];exact e0,k⟩
def JK(c:MT)(m:MS):Nat->MS
 | 0=>fun _ _=>none
 | n+1=>fun ρ st=>(c ρ st).bind fun (b,s)=>if b=true then (m ρ s).bind fun (f,s2)=>match f with
     | .nx ρ2=>JK c m n ρ2 s2
     | .ct ρ2=>JK c m n ρ2 s2
     | .bk ρ2=>some (.nx ρ2,s2)
     | .rt d=>some (.rt d,s2)
   else some (.nx ρ,s)
def uN(hp:PassesOwn (KB X.prog X.w) X.A X.env X.xe)(hc:SB X c mt)(hb:KJ X body ms):SS X (.While c body [] pos) (JK mt ms n):=PS.imp (sE hp hc hb) fun N σ H h=>by
 obtain⟨ρ,st,io,f,st',E,S,e,w⟩:=Lf.mp h;refine⟨fun k σ2 H2=>∃ ρ2 s2 k2,Ext io k2 H H2/\HN X.K H2 (io++k2) s2/\HQ X.K H2 (io++k2) σ2 ρ2/\JK mt ms k ρ2 s2=some (f,st'),⟨n,ρ,st,[],Ext.refl,S.nil,by rw[Al];exact E,e⟩,?_⟩;rintro k σ2 H2 ⟨ρ2,s2,k2,X2,S2,E2,e2⟩;have w2:Wn X.K (io++k2) H2 st' N f:=w.on X2 S2
 cases k with
 | zero=>cases e2
 | succ k =>
   obtain⟨⟨b,s3⟩,e3,e2⟩:=HK e2;refine⟨ρ2,s2,io++k2,b,s3,E2,S2,e3,fun H3 k3 X3 S3=>?_⟩;have X23:=X2.trans S2 X3;have S3':HN X.K H3 (io++(k2++k3)) s3:=by rw[<-Aq];exact S3
   dsimp only
   cases b with
   | false =>
     rw[if_neg (by decide)];have e2:some (Fl.nx ρ2,s3)=some (f,st'):=e2;cases e2;exact w2 σ2 H3 k3 X3 S3<|E2.ext S2 X3
   | true =>
     rw[if_pos rfl];obtain⟨⟨f4,s4⟩,e4,e2⟩:=HK (show (ms ρ2 s3).bind _=some (f,st') from e2);refine⟨fun σ5 H5=>∃ ρ5 s5 k5,Ext io k5 H H5/\HN X.K H5 (io++k5) s5/\HQ X.K H5 (io++k5) σ5 ρ5/\JK mt ms k ρ5 s5=some (f,st'),fun σ5 H5 h5=>⟨k,DB k,h5⟩,?_⟩;refine M8 (E2.ext S2 X3) S3 e4 ?_;have fin:∀ {ρ7:Ie},JK mt ms k ρ7 s4=some (f,st')->∀ σ7 H7 k7,Ext (io++k2++k3) k7 H3 H7->HN X.K H7 (io++k2++k3++k7) s4->HQ X.K H7 (io++k2++k3++k7) σ7 ρ7 ->
         ∃ ρ5 s5 k5,Ext io k5 H H7/\HN X.K H7 (io++k5) s5/\HQ X.K H7 (io++k5) σ7 ρ5/\JK mt ms k ρ5 s5=some (f,st'):=by
       intro ρ7 e7 σ7 H7 k7 X7 S7 E7;rw[Aq io] at X7;rw[Aq io,Aq io] at S7 E7;exact⟨ρ7,s4,(k2++k3)++k7,X23.trans S3' X7,S7,E7,e7⟩
     cases f4 with
     | nx ρ7=>exact fin e2
     | ct ρ7=>exact fin e2
     | bk ρ7 =>
       cases e2;exact w2.on X3 S3
     | rt dd =>
       cases e2;exact w2.on X3 S3
def HC.erase:∀ {xs:List V} {ds:List D} (k:Nat),HC K H io xs ds->HC K H io (xs.eraseIdx k) (ds.eraseIdx k)
 | _,[],k,h=>by rw[show _=[] from h];simp[HC]
 | _,d::ds,0,h=>by obtain⟨y,ys,rfl,_,rs⟩:=h;exact rs
 | _,d::ds,k+1,h=>by obtain⟨y,ys,rfl,r,rs⟩:=h;exact⟨y,_,rfl,r,HC.erase k rs⟩
def Mz:D->List D->HB->Option (D×HB):=fun x xs st=>match x,xs with
 | .ref n,[.int i]=>match st[n]? with
   | some (.lst ds)=>if small i=true then (seqIndex? i ds.length).bind fun k=>(ds[k]?).map fun d=>(d,st.set n (.lst<|ds.eraseIdx k)) else none
   | _=>none
 | _,_=>none
def pZ:Sg X "list.pop" (UD X.K Mz):=by
 rintro qp s σ H x xs v us Q I rx rs ⟨dx,ds,st,io,d,st',Rx,Rs,S,e,k⟩;unfold Mz at e
 split at e
 . rename_i n i
   split at e
   . rename_i l e1;obtain⟨hi,e⟩:=IJ e;obtain⟨q,e2,e⟩:=HK e;obtain⟨dd,e3,e⟩:=Ip e;cases e;obtain⟨p,rfl,hp⟩:=Rx;obtain⟨w,rfl,Rw⟩:=Rs.one
     cases (show w=.int i from Rw)
     obtain⟨ys,hH,r⟩:=S.ob n p _ hp e1;obtain⟨y,hy,ry⟩:=r.get e3;have hsm:=VX hi;refine tM qp s σ H _ _ v us Q I rx rs ⟨p,ys,i,q,y,rfl,rfl,hH,by omega,by omega,by rw[r.length];exact e2,hy,?_⟩;obtain⟨E',S'⟩:=Ow (o:=.lst (ys.eraseIdx q)) (ob:=.lst (l.eraseIdx q)) S hp e1 (fun o u z=>by rw[hH] at z;cases z) fun H' T e'=>⟨_,e',(HC.mono T r).erase q⟩
     exact k _ _ [] E' S'<|ry.ext S E'
   . cases e
 . cases e
def PF(m:ME)(mm:MA):ME:=fun ρ st=>(m ρ st).bind fun (x,s1)=>match x with
 | .ref n=>(Ik s1 n).bind fun _=>(mm ρ s1).bind fun (xs,s2)=>Mz x xs s2
 | _=>none
def jX{o:Os}{apos cpos:Pos}(ho:SE X o m)(ha:SA X (e::es) mm)
   (hbase:attributeBase o "pop" X.env (W1 o X.env)=W1 o X.env:=by rfl)
   (hfew:((backTo cpos<|P3 (e::es) X.env).all (fun x=>!x.1)&&(backToKw cpos<|keywordEach [] X.env).all (fun x=>x.1.isSome)
    &&decide ((e::es).length+([]:List Keyword).length+(if ([]:List Keyword).isEmpty then 0 else 1) < 30))=true:=by rfl)
   (hline:(apos.endLine==cpos.line)=true:=by rfl) (hs:Qqb X.env e es:=by rfl) (hplain:Qqc cpos es X.env:=by rfl) :
   SE X (.Call (.Attribute o "pop" apos) (e::es) [] cpos) (PF m mm) :=
 PE.imp (Sv Do PySem.F.slot_list_pop PySem.F.type_list_pop pZ ho ha hbase hfew hline hs hplain) <| by
   rintro σ H Q ⟨ρ,st,io,d,st',E,S,e,k⟩;obtain⟨⟨x,s1⟩,e1,e⟩:=HK e
   cases x with
   | ref n =>
     obtain⟨l,e0,e⟩:=HK e;obtain⟨⟨xs,s2⟩,e2,e⟩:=HK e;refine⟨ρ,st,io,_,s1,E,S,e1,fun v1 H1 k1 X1 S1 R1=>⟨V2 R1 S1 e0,ρ,s1,io++k1,xs,s2,E.ext S X1,S1,e2,fun vs H2 k2 X2 S2 R2=>?_⟩⟩;exact⟨_,xs,s2,(io++k1)++k2,d,st',R1.ext S1 X2,R2,S2,e,(k.on S1 X1).on S2 X2⟩
   | _=>cases e
def Xj:D->Option Int->Option Int->HB->Option (D×HB):=fun x lo hi st=>match x with
 | .kl ds=>some (.ref st.length,st++[.lst (cutD ds lo hi)])
 | _=>none
def My:D->Option Int->Option Int->HB->Option (D×HB):=fun x lo hi st=>LH (UC x lo hi st)<|Xj x lo hi st
def J0(m:ME)(l h:MO):ME:=fun ρ st=>(m ρ st).bind fun (x,s1)=>(l ρ s1).bind fun (lo,s2)=>(h ρ s2).bind fun (hi,s3)=>My x lo hi s3
def Rg{lo hi:Option Os}{ml mh:MO}{p2:Pos}(he:SE X e m)(hl:SO X lo ml)(hu:SO X hi mh):SE X (.Subscript e (.Slice lo hi none p2) pos) (J0 m ml mh):=by
 rintro qp s σ H Q I ⟨ρ,st,io,d,st',E,S,e0,k⟩;obtain⟨⟨x,s1⟩,e1,e0⟩:=HK e0;obtain⟨⟨lo',s2⟩,e2,e0⟩:=HK e0;obtain⟨⟨hi',s3⟩,e3,e0⟩:=HK e0
 rcases Nh e0 with e0 | e0
 . exact xI he hl hu qp s σ H Q I ⟨ρ,st,io,d,st',E,S,by simp only[RQ,e1,e2,e3,Ae];exact e0,k⟩
 . refine TX Zl he hl hu qp s σ H Q I ?_;refine⟨ρ,st,io,x,s1,E,S,e1,fun v1 H1 k1 X1 S1 R1=>⟨ρ,s1,io++k1,lo',s2,E.ext S X1,S1,e2,fun H2 k2 X2 S2=>⟨ρ,s2,(io++k1)++k2,hi',s3,(E.ext S X1).ext S1 X2,S2,e3,fun H3 k3 X3 S3=>?_⟩⟩⟩;have R3:=(R1.ext S1 X2).ext S2 X3;have k':=((k.on S1 X1).on S2 X2).on S3 X3
   cases x with
   | kl ds =>
     cases e0;obtain⟨p,xs,rfl,hx,r⟩:=R3;exact⟨p,xs,rfl,hx.sq,fun q hq=>k'.lst S3 (VD r _ _) hq⟩
   | _=>cases e0
def Zg:G2
 | .str i,.str j,st=>some (.bl (!(!(Cv j i 0 j.length 1).isEmpty)),st)
 | _,_,_=>none
def bR:IZ X (Re .NotIn) Zg:=by
 rintro qp s σ H x y v u Q I rx ry ⟨dx,dy,st,io,d,st',Rx,Ry,S,e,k⟩
 cases dx with
 | str i =>
   cases dy with
   | str j=>cases e;exact zf3 qp s σ H x y v u Q I rx ry ⟨i,j,Rx,Ry,k.now S rfl⟩
   | _=>cases e
 | _=>cases e
def Nb:G2:=JX SN Zg
def xH(hu:X.A.units+100 < cLine)(ha:SE X a ma)(hb:SE X b mb)(hm:behindInMarks .NotIn b=false:=by rfl):SE X (.Compare a [.NotIn] [b] pos) (mB Nb ma mb) :=
 Vo (xG hu ha hb hm) (Vd bR ha hb hm)
def yJ(hu:X.A.units+100 < cLine)(ha:SE X a ma)(hb:SE X b mb)(hm:behindInMarks .NotIn b=false:=by rfl):SB X (.Compare a [.NotIn] [b] pos) (mT<|mB Nb ma mb) :=
 Vc (yI hu ha hb hm) (JE bR ha hb hm)
end L2.MP
namespace PySem.F
end PySem.F
namespace PySem
open Builtin
end PySem
namespace L2.MP
open PySem PySem.Spec PyProof.Rows
variable {st:HB}{m ma mb:ME}{mm:MA}
section
variable {ρ ρ1:Ie} {s1:HB} {n o:ME} {ms mq:MS} {mt mu:MT} {d:D} {ml mh:MO}
@[simp] theorem Yf:KU m ρ st=(m ρ st).bind fun p=>LH (Nv p.1 p.2) (match p.1 with | .str z=>some (⟨signs z,[]⟩,p.2) | _=>none):=rfl
theorem iW:PF m mm ρ st=(m ρ st).bind fun p=>match p.1 with
 | .ref n=>(Ik p.2 n).bind fun _=>(mm ρ p.2).bind fun q=>Mz p.1 q.1 q.2
 | _=>none:=rfl
@[simp] theorem ztr:J0 m ml mh ρ st=(m ρ st).bind fun p=>(ml ρ p.2).bind fun q=>(mh ρ q.2).bind fun r=>My p.1 q.1 r.1 r.2:=rfl
end
def jE:UV "sum"=some (.builtin "sum"):=by decide +kernel
def Tj:UV "repr"=some (.builtin "repr"):=by decide +kernel
variable {X:Cx}{K:Ac}{H:Hp}{io:List Addr}{st':HB}{b c e:Os}{mc:ME}{pos:Pos}{qp:List (Addr×Obj)}{σ:L2.St}{s:Shared}
section
variable {a:Os} {es:List Os}
def QI:List D->Option (List Int)
 | []=>some []
 | .int i::r=>(QI r).map fun is=>i::is
 | _=>none
def ZP:∀ {ys:List V} {its:List IR} {ds:List D} {ns:List Int},HC K H io ys ds->Vals ys its->QI ds=some ns->its.length=ns.length/\∀ (j:Nat) (v:IR),its[j]?=some v->∃ t,v=DY (ns.getD j 0) t
 | _,_,[],ns,h,r,e=>by
   cases e
   cases (show _=[] from h)
   cases r;exact⟨rfl,fun j v h=>by simp at h⟩
 | _,_,d::ds,ns,h,r,e=>by
   obtain⟨y,ys,rfl,h1,h2⟩:=h
   cases d with
   | int i =>
     obtain⟨is,e2,e⟩:=Ip e;subst e
     cases r with
     | cons r1 r2 =>
       cases (show y=.int i from h1)
       obtain⟨t,rfl⟩:=r1;obtain⟨l,q⟩:=ZP h2 r2 e2;refine⟨by simp[l],fun j v hj=>?_⟩
       cases j with
       | zero=>cases hj;exact⟨t,rfl⟩
       | succ j=>simpa using q j v (by simpa using hj)
   | _=>cases e
def Oy(i:Int):Bool:=decide (-1000000<=i)&&decide (i<=1000000)
def Mw:GN
 | [.ref n],st=>(Ik st n).bind fun ds=>(QI ds).bind fun ns=>if (ns.all Oy&&decide (ns.length<=100000))=true then some (.int ns.sum,st) else none
 | _,_=>none
def Wh:∀ (ns:List Int) (j:Nat),j<=ns.length->preSum (fun i=>ns.getD i 0) j=(ns.take j).sum
 | ns,0,_=>by simp[preSum]
 | ns,j+1,h=>by
   have hj:j < ns.length:=h;have e1:(ns.take<|j+1).sum=(ns.take j).sum+ns[j]:=by rw[Ds,Ah hj];simp only[Option.toList_some,List.sum_append,CW,Hg,Int.add_zero]
   rw[preSum,Wh ns j (by omega),e1];simp only[Ay,Ah hj,DA]
def aI:∀ {ns:List Int},ns.all Oy=true->-1000000*(ns.length:Int)<=ns.sum/\ns.sum<=1000000*(ns.length:Int)
 | [],_=>by simp
 | i::ns,h=>by
   rw[G6,Ar] at h;obtain⟨h1,h2⟩:=h;unfold Oy at h1;rw[Ar] at h1;have a1:=of_decide_eq_true h1.1;have a2:=of_decide_eq_true h1.2;have ih:=aI h2;rw[CW,AC]
   push_cast
   omega
def wI(hc:X.calm=true):J4 X (.builtin "sum") Mw:=by
 rintro qp s σ H xs us Q I r ⟨ds,st,io,d,st',R,S,e,k⟩;unfold Mw at e
 split at e
 . rename_i n;obtain⟨ts,e0,e⟩:=HK e;obtain⟨ns,e1,e⟩:=HK e;obtain⟨hf,e⟩:=IJ e;cases e;rw[Ar] at hf;have hall:=hf.1;have hlen:=of_decide_eq_true hf.2;obtain⟨v,rfl,p,rfl,hp⟩:=R.one;obtain⟨u,rfl,ru⟩:=r.one;cases ru;obtain⟨ys,hx,r1⟩:=Ky S hp e0;obtain⟨its,rv,pl,hz⟩:=I.list hx;obtain⟨hl,hval⟩:=ZP r1 rv e1;refine call_sum_walk<|Dp pl.isList ?_;have hlt:p < s.heap.objs.size:=by
     obtain⟨o,_,e,_⟩:=pl;exact Aj e
   refine⟨_,_,_,_,_,_,fun i=>ns.getD i 0,rfl,Walks.list (A:=X.A.in1) (I.ok.hd hc) s.heap.objs.size p (An hlt) its.toArray,⟨⟨_,Am _ rfl,rfl,rfl⟩,?_⟩,?_,?_,?_,fun h' tk t' hk=>?_⟩
   . obtain⟨o,nn,e,c,dd,sq⟩:=pl;exact⟨o,Ad _ e,c,nn,sq⟩
   . intro b hb;rw[Bl];simp at hb
     rcases hb with hb | hb
     . rw[hb];exact DB _
     rw[hb];exact Ck hlt
   . intro i v hv;exact hval i v<|by simpa using hv
   . intro j hj;have hj:j < ns.length:=by simpa[hl] using hj
     have b1:Oy (ns.getD j 0)=true:=by rw[Ay,Ah hj];exact List.all_eq_true.mp hall _<|BI hj
     have b2:(ns.take<|j+1).all Oy=true:=List.all_eq_true.mpr fun x hx=>List.all_eq_true.mp hall x<|Fy hx;have b3:=aI b2;rw[Wh ns (j+1) hj];unfold Oy at b1;rw[Ar] at b1;have a1:=of_decide_eq_true b1.1;have a2:=of_decide_eq_true b1.2;have hl2:(ns.take<|j+1).length<=100000:=by rw[Bv];omega
     unfold InLong;dsimp only;omega
   . refine⟨.int _,H,I.kept (t':=tk) fun b o q=>hk b o ?_ (Ad _ q),⟨t',rfl⟩,?_⟩
     . simp;exact An<|Aj q
     . have e2:preSum (fun i=>ns.getD i 0) its.toArray.size=ns.sum:=by
         rw[Aw,hl,Wh ns ns.length (Ag _),Ct]
       rw[e2];exact k.now S rfl
 . cases e
def Mm:GN
 | [x],st=>(IT 100 st x).bind fun p=>if (De p&&!p.hasDict&&fits p.shown.length)=true then some (.str p.shown,st) else none
 | _,_=>none
def T7(hg:X.A.guards=some [])(hu:X.A.units+110 < cLine):J4 X (.builtin "repr") Mm:=by
 rintro qp s σ H xs us Q I r ⟨ds,st,io,d,st',R,S,e,k⟩;unfold Mm at e
 split at e
 . rename_i x;obtain⟨p,e1,e⟩:=HK e;obtain⟨hf,e⟩:=IJ e;cases e;rw[Ar,Ar] at hf;obtain⟨⟨h1,h2⟩,h3⟩:=hf;have hz:p.shown.length<=sizeLine:=of_decide_eq_true h3;have hnd:p.hasDict=false:=by simpa using h2
   obtain⟨v,rfl,rx⟩:=R.one;obtain⟨u,rfl,ru⟩:=r.one;have hdep:=(Mo e1).2;obtain⟨as,rd⟩:=Mu I S rx ru e1;have fin:∀ h' u tk,(∀ b o,s.heap.get? b=some o->h'.get? b=some o)->EP X qp σ Q (.str p.shown u) { s with heap:=h',toks:=tk }:=fun h' u tk hk=>⟨.str p.shown,H,I.kept (t':=tk) fun b o q=>hk b o q,⟨u,rfl⟩,k.now S rfl⟩
   cases u with
   | ref a=>exact repr_of_reads' rd h1 (fun z=>by rw[hnd] at z;cases z) hg (by omega) (fun b o q=>q) fin hz
   | int i t =>
     cases rd;exact PySem.P.repr_of_int (by simpa[De] using h1)<|fin s.heap s.toks _ fun b o q=>q
   | str z t =>
     cases rd;exact PySem.P.repr_of_str (fin s.heap s.toks _ fun b o q=>q)<|by simpa[PyData.shown] using hz
   | bool b =>
     cases rd;exact PySem.P.repr_of_bool<|fin s.heap s.toks _ fun b o q=>q
   | none =>
     cases rd;exact PySem.P.repr_of_none<|fin s.heap s.toks _ fun b o q=>q
   | _=>cases rd
 . cases e
end
variable {o:Obj}{d it:Addr}{es:Array DictEntry}{prog:Pv}{w:UF}{A:Around}{E:Qqa}{ep i:Nat}
def bG{R:Qqa}(ty:s.TypeIs (.ref d) "dict")(hd:(d==sysModules)=false)(g:s.heap.get? d=some o)(dd:o.data=.dict es ep)
   (k:R (.ref s.heap.objs.size) { s with heap:=s.heap.push { cls:=.type "dict_keyiterator",data:=.fields #[.ref d,.int 0 0,.int es.size 0,.int ep 0] } }):wpAny (KB prog w) A (pyIter<|.ref d) R E s:=by
 refine Dt ty F.slot_dict_iter<|AO F.slot_dict_iter ty F.entry_dict_iter ?go<|F.args_dict_iter_1 _;unfold Builtin.«dict.__iter__»;refine Aa ?_;unfold Builtin.Dict.dictSlotNone;refine Aa<|CO ty ?_;show wpAny _ _ (pure<|Au d) _ _ s;refine Ab ?_;show wpAny _ _ (DE d >>= _) _ _ s;unfold DE;rw[if_neg (by rw[hd];exact Bk)];refine Aa<|Ab<|Aa<|CK g dd<|Aa<|ES g dd ?_;refine Aa (AN<|Ab ⟨_,rfl,"dict_keyiterator",_,⟨_,Am _ rfl,rfl⟩,F.slot_dict_keyiterator_next.lookup,?_⟩);simpa[SZ] using k
def bI{en:DictEntry}{R:Option IR->Shared->Prop}(hit:s.heap.IsKeyIter it d i es.size ep)(g:s.heap.get? d=some o)(dd:o.data=.dict es ep)(hx:es[i]?=some en)
   (k:∀ h',h'.IsKeyIter it d (i+1) es.size ep->BA it s.heap h'->R (some en.key) { s with heap:=h' }):wpAny (KB prog w) A (pyNext<|.ref it) R E s:=by
 obtain⟨io,ig,ic,idt⟩:=id hit;have own:DW "dict_keyiterator"=false:=by decide
 unfold pyNext;refine Aa (B2<|AY (name:=BB "__next__") hit.typeIs F.slot_dict_keyiterator_next<|AO F.slot_dict_keyiterator_next hit.typeIs F.entry_dict_keyiterator_next ?_<|F.args_dict_keyiterator_next_1 _);refine Aa<|Ab<|Aa<|Aa ?_;refine Aa<|B5 hit.typeIs<|Ab<|Aa<|CP ig idt ?_;simp only[own,Bd,if_false];show wpAny _ _ (if (Au d==AE)=true then _ else _) _ _ s;rw[if_neg (show ¬ (Au d==AE)=true from fun z=>Bk z)];refine Aa<|Ab<|Aa<|CK g dd ?_;rw[if_neg (by simp)];refine Aa<|Ab<|Aa<|ES g dd ?_;rw[if_neg (by simp)];refine Ab ?_;have ni:¬ ((i:Int) < 0):=by omega
 simp only[ni,if_false,Bb,hx];refine Aa<|Aa<|B5 hit.typeIs<|Ab<|Aa<|Fq hit.typeIs ?_;show wpAny _ _ (setField (.ref it) 1 (SZ<|(i:Int)+1) >>= _) _ _ s;refine Aa<|A1 ig idt (by simp) ?_;have h2:(s.heap.update it (AR (·.setIfInBounds 1 (SZ<|(i:Int)+1)))).IsKeyIter it d (i+1) es.size ep:=⟨_,AG _ ig<|AQ<|AB idt _,(B1 ..).trans ic,by rw[AB idt];simp[SZ]⟩
 refine Aa (A0 (Aa (Fq (s:={ s with heap:=s.heap.update it (AR (·.setIfInBounds 1 (SZ<|(i:Int)+1))) }) h2.typeIs ?_)));show wpAny _ _ (pure en.key) _ _ _;exact Ab<|Ab ⟨_,rfl,Ab<|k _ h2<|AX ..⟩
def bJ{R:Option IR->Shared->Prop}(hh:A.handled=none)(hit:s.heap.IsKeyIter it d i es.size ep)(g:s.heap.get? d=some o)(dd:o.data=.dict es ep)(hx:es[i]?=none)
   (k:∀ h',Co it s.heap h'->R none { s with heap:=h' }):wpAny (KB prog w) A (pyNext<|.ref it) R E s:=by
 obtain⟨io,ig,ic,idt⟩:=id hit;have own:DW "dict_keyiterator"=false:=by decide
 unfold pyNext;refine Aa (B2<|AY (name:=BB "__next__") hit.typeIs F.slot_dict_keyiterator_next<|AO F.slot_dict_keyiterator_next hit.typeIs F.entry_dict_keyiterator_next ?_<|F.args_dict_keyiterator_next_1 _);refine Aa<|Ab<|Aa<|Aa ?_;refine Aa<|B5 hit.typeIs<|Ab<|Aa<|CP ig idt ?_;simp only[own,Bd,if_false];show wpAny _ _ (if (Au d==AE)=true then _ else _) _ _ s;rw[if_neg (show ¬ (Au d==AE)=true from fun z=>Bk z)];refine Aa<|Ab<|Aa<|CK g dd ?_;rw[if_neg (by simp)];refine Aa<|Ab<|Aa<|ES g dd ?_;rw[if_neg (by simp)];refine Ab ?_;have ni:¬ ((i:Int) < 0):=by omega
 simp only[ni,if_false,Bb,hx];refine Aa<|Aa<|B5 hit.typeIs<|Ab ?_;show wpAny _ _ (setField (.ref it) 0 .none >>= _) _ _ s;refine Aa<|A1 ig idt (by simp) ?_;show wpAny _ _ (newExc (.type "StopIteration") [] >>= _) _ _ _;simp only[newExc,newTuple];refine Aa (Aa<|AN (Aa (m:=firstArgMember _ _)<|Fc (a:=AE) (by first | rfl | (simp only[firstArgMember];rfl))<|AN ?_<|by size_fits)<|by size_fits);simp only[raiseNew];refine Aa<|FA ?_;rw[show A.in1.handled=none from hh];refine Aa<|Ab<|Gm ?_;refine Aa (CT (T:="StopIteration") (b:=true) ⟨_,Am _ rfl,rfl⟩ Fp<|Ab ?_);exact k _<|((AX ..).extBut.push _).push _
def eK(o:Obj)(d:Addr):It :=
 ⟨fun i H=>∃ ps p,H d=some (.frz o<|.dT ps)/\ps[i]?=some p,fun i H x H'=>∃ b ps k v,H'=H/\x=.ref b/\H d=some (.frz o<|.dT ps)/\ps[i]?=some (k,v)/\H b=some (.tup<|k.map kV),
   fun i H=>∃ ps,H d=some (.frz o<|.dT ps)/\ps.length<=i⟩
variable {tg:Os}
def wU{P:Pv}(d it:Addr)(dd:o.data=.dict es ep) :
   Turn P w K tg (eK o d) [it] it (fun i h=>h.IsKeyIter it d i es.size ep) where
 mem:=by simp
 obj:=fun i h st b hb=>by obtain⟨ob,e,c,dt⟩:=st;rw[On.mp hb];exact⟨_,e,fun v z=>by rw[dt] at z;cases z⟩
 keep:=fun i h h' st k=>st.at fun ob e=>k it (by simp) ob e
 item:=by intro X hP hw hK hc i qp s σ H E I hf st hg;subst hP hw hK;obtain⟨ps,⟨k,v⟩,hq,hx⟩:=hg;obtain⟨g,hl,ent⟩:=VO (I.hok d _ hq) dd;obtain⟨en,b,he,hkey,hb,hv⟩:=ent i k v hx;obtain⟨f0,f1,f2,f3,f4,f5⟩:=hf it (by simp);refine bI st g dd he fun h' st' sb=>?_;have I1:Inv X qp σ H { s with heap:=h' }:=I.turned (t':=s.toks) (fun b o hb e=>(sb.2 b hb).trans e) f0 f1 f3 f4 f5;obtain⟨ob,e,c,dt⟩:=id st';exact⟨en.key,rfl,QH (s:={ s with heap:=h' }) e c dt (by decide) ⟨.ref b,H,I1,by rw[hkey];rfl,⟨b,ps,k,v,rfl,rfl,hq,hx,hb⟩,st',fun b hb=>(hf b hb).1⟩⟩
 done:=by intro X hP hw hK hc i qp s σ H E I hf st hg;subst hP hw hK;obtain⟨ps,hq,hx⟩:=hg;obtain⟨g,hl,_⟩:=VO (I.hok d _ hq) dd;obtain⟨f0,f1,f2,f3,f4,f5⟩:=hf it (by simp);exact bJ (I.ok.hd hc) st g dd (by simp;omega) fun h' eb=>⟨rfl,I.turned (t':=s.toks) (fun b o hb e=>eb b o hb e) f0 f1 f3 f4 f5⟩
 self:=fun _ _ _ _ _ st h=>Fz st h
variable {n:Nat}{p:Addr}{y:V}
def J9(kvs:List (List Key×D)):List D:=kvs.map fun p=>.tup<|p.1.map RT
def Sw:D->HB->Option (Wk×HB)
 | .ref n,s=>match s[n]? with
   | some (.dt kvs)=>some (⟨J9 kvs,[]⟩,s.set n (.ft kvs))
   | _=>none
 | _,_=>none
def iG{ps:List (List Key×V)}{kvs:List (List Key×D)}(S:HN K H io st)(hn:io[n]?=some p)(hp:H p=some (.frz o<|.dT ps))(r:KR (List Key) K H io ps kvs):Lv K H io ⟨J9 kvs,[]⟩ (eK o p) where
 go := fun i d H1 k1 s hd X1 S1 hs=>by
   have h1:=X1.frz _ _ _ hp;have hd:(J9 kvs)[i]?=some d:=hd;unfold J9 at hd;rw[AD] at hd;obtain⟨⟨k,y⟩,hk,rfl⟩:=Ip hd;have get:∀ {l:List (List Key×V)} {m:List (List Key×D)} {i:Nat},KR (List Key) K H io l m->m[i]?=some (k,y)->∃ v,l[i]?=some (k,v):=by
     intro l m i q
     induction q generalizing i with
     | nil=>intro e;simp at e
     | @cons a b _ _ h t ih =>
       cases i with
       | zero =>
         intro e;simp at e;subst e;obtain⟨a1,a2⟩:=a;have z:a1=k:=h.1;subst z;exact⟨a2,rfl⟩
       | succ j=>intro e;exact ih<|by simpa using e
   obtain⟨v,hv⟩:=get r hk;refine⟨⟨ps,_,h1,hv⟩,fun x H' y'=>?_⟩;obtain⟨b,ps',k',v',rfl,rfl,h1',hv',hb⟩:=y';rw[h1] at h1';cases h1';rw[hv] at hv';cases hv';exact⟨Ext.refl,S1,⟨b,_,rfl,hb,TN k⟩⟩
 stop:=fun H1 k1 s X1 S1 hs=>⟨ps,X1.frz _ _ _ hp,by show ps.length<=(J9 kvs).length;unfold J9;rw[Af,KR.length r];exact Ag _⟩
 stop':=fun H1 k1 s i hi X1 S1 hs=>⟨ps,X1.frz _ _ _ hp,by have hi:(J9 kvs).length<=i:=hi;unfold J9 at hi;rw[Af,<-KR.length r] at hi;exact hi⟩
def OF(m:ME):MI:=fun ρ st=>(m ρ st).bind fun (d,s)=>Sw d s
def rR{o:Os}(ho:SE X o m):SI X tg o (OF m):=by
 rintro qp s σ H R I ⟨ρ,st,io,W,st',E,S,e,k⟩;obtain⟨⟨d,s1⟩,e1,e⟩:=HK e
 cases d with
 | ref n =>
   unfold Sw at e;dsimp only at e
   split at e
   . rename_i kvs en;cases e;refine HS (ho qp s σ H (fun v H'=>∃ ka,Ext io ka H H'/\HN X.K H' (io++ka) s1/\Rep X.K H' (io++ka) v (.ref n)) I ⟨ρ,st,io,_,s1,E,S,e1,fun v1 H1 k1 X1 S1 R1=>⟨k1,X1,S1,R1⟩⟩) ?_;rintro v s2 ⟨x,H1,I1,r1,k1,X1,S1,R1⟩;obtain⟨p,rfl,hp⟩:=R1;cases r1;obtain⟨ps,hH,r⟩:=S1.ob n p _ hp en;obtain⟨t1,t2,hs⟩:=Ve I1<|.inr ⟨ps,.inl hH⟩;obtain⟨_,_,xs,_,o,es,ep,g,_,dd,_,_⟩:=I1.hok p _ hH;refine bG (o:=o) (es:=es) (ep:=ep) t1 hs g dd ?_;have J:=I1.kept (t':=s2.toks) (h':=s2.heap.push { cls:=.type "dict_keyiterator",data:=.fields #[.ref p,.int 0 0,.int es.size 0,.int ep 0] }) fun b u q=>Ad _ q;have J2:=Inv.freeze J hH (Ad _ g) (by simp) (by simp) (by simp) (by simp);obtain⟨X2,S2⟩:=Ow (o:=.frz o (.dT ps)) (ob:=.ft kvs) S1 hp en (fun o u z=>by rw[hH] at z;cases z) fun H' T e'=>⟨o,ps,e',KR.mono T r⟩
     refine⟨_,[_],_,_,_,rfl,J2,wU p _ dd,⟨_,Am _ rfl,rfl,rfl⟩,fun b hb=>?_,?_⟩
     . rw[On.mp hb];refine I1.fpOk (Ag _) ?_;rw[HV (A6<|An<|Aj g)];exact I1.hok.fresh<|Ag _
     . have hn':((io++k1)++[])[n]?=some p:=by rw[Al];exact hp
       have r2:=KR.mono (ka:=[]) (X2.kp S1) r;have ok:=iG S2 hn' JP r2;refine k _ _ (k1++[]) (X1.trans S1 X2) (by rw[<-Aq];exact S2) (by rw[<-Aq];exact ok)
   . cases e
 | _=>cases e
def P7(st:HB)(n:Nat)(k:D):Option (Option D):=match st[n]? with
 | some (.ft kvs)=>match k with
   | .tup ds=>(keysOf ds).map fun q=>Ir kvs q
   | _=>none
 | _=>none
def aN{k:D}{r:Option D}(S:HN K H io st)(hp:io[n]?=some p)(ry:Rep K H io y k)(h:P7 st n k=some r):∃ o,IU H p y o/\((r=none/\o=none)\/∃ d v,r=some d/\o=some v/\Rep K H io v d):=by
 unfold P7 at h
 split at h
 . rename_i kvs e
   split at h
   . rename_i ds;obtain⟨q,e1,h⟩:=Ip h;subst h;obtain⟨ob,ps,hH,r⟩:=S.ob n p _ hp e;obtain⟨b,xs,rfl,hb,rs⟩:=ry;have ex:=Rc rs e1;subst ex;refine⟨_,.inr ⟨ps,q,b,.inr ⟨ob,hH⟩,rfl,hb,rfl⟩,?_⟩
     rcases KR.val r q with ⟨h1,h2⟩ | ⟨d,v,h1,h2,h3⟩
     . exact .inl ⟨h1,h2⟩
     exact .inr ⟨d,v,h1,h2,h3⟩
   . cases h
 . cases h
variable {mk md:ME}
section
variable {a:Os} {es:List Os}
def So(st:HB)(n:Nat)(k:D):Option (Option D):=LH (look st n k)<|P7 st n k
def vT{k:D}{r:Option D}(S:HN K H io st)(hp:io[n]?=some p)(ry:Rep K H io y k)(h:So st n k=some r):∃ o,IU H p y o/\((r=none/\o=none)\/∃ d v,r=some d/\o=some v/\Rep K H io v d):=by
 rcases Nh h with h | h
 . exact V5 S hp ry h
 exact aN S hp ry h
def Qg(st:HB)(n:Nat):Bool:=match st[n]? with
 | some (.dk _)=>true
 | some (.dt _)=>true
 | some (.fk _)=>true
 | some (.ft _)=>true
 | _=>false
def sV(S:HN K H io st)(hp:io[n]?=some p)(h:Qg st n=true):X0 H p:=by
 unfold Qg at h
 split at h
 . rename_i kvs e;obtain⟨ps,q,_⟩:=S.ob n p _ hp e;exact .inl ⟨ps,.inl q⟩
 . rename_i kvs e;obtain⟨ps,q,_⟩:=S.ob n p _ hp e;exact .inr ⟨ps,.inl q⟩
 . rename_i kvs e;obtain⟨o,ps,q,_⟩:=S.ob n p _ hp e;exact .inl ⟨ps,.inr ⟨o,q⟩⟩
 . rename_i kvs e;obtain⟨o,ps,q,_⟩:=S.ob n p _ hp e;exact .inr ⟨ps,.inr ⟨o,q⟩⟩
 . cases h
def QM(md mk:ME):ME:=fun ρ st=>(md ρ st).bind fun (d,s1)=>match d with
 | .ref n=>if Qg s1 n=true then (mk ρ s1).bind fun (k,s2)=>(So s2 n k).map fun r=>(r.getD .non,s2) else none
 | _=>none
def oU{o:Os}{apos cpos:Pos}(hu:X.A.units+1 < cLine)(ho:SE X o md)(he:SE X e mk)(mm:M1 X o "get" apos e cpos:=by exact⟨rfl,rfl,rfl,rfl⟩):SE X (.Call (.Attribute o "get" apos) [e] [] cpos) (QM md mk) :=
 PE.imp (tY hu ho he mm) <| by
   rintro σ H Q ⟨ρ,st,io,d,st',E,S,e,k⟩;obtain⟨⟨x,s1⟩,e1,e⟩:=HK e
   cases x with
   | ref n =>
     obtain⟨hd,e⟩:=IJ e;obtain⟨⟨y,s2⟩,e2,e⟩:=HK e;obtain⟨r,e3,e⟩:=Ip e;cases e;refine⟨ρ,st,io,_,s1,E,S,e1,fun v1 H1 k1 X1 S1 R1=>?_⟩;obtain⟨p,rfl,hp⟩:=R1;refine⟨p,rfl,sV S1 hp hd,ρ,s1,io++k1,y,_,E.ext S X1,S1,e2,fun v2 H2 k2 X2 S2 R2=>?_⟩;obtain⟨o,g,z⟩:=vT S2 (Nz hp) R2 e3;refine⟨o,g,?_⟩
     rcases z with ⟨rfl,rfl⟩ | ⟨d',v,rfl,rfl,rv⟩
     . exact ((k.on S1 X1).on S2 X2).now S2 rfl
     exact ((k.on S1 X1).on S2 X2).now S2 rv
   | _=>cases e
def QF:G2:=fun d k st=>match d with
 | .ref n=>(P7 st n k).bind fun r=>r.map fun v=>(v,st)
 | _=>none
def sR{o i:Os}(hu:X.A.units+1 < cLine)(ho:SE X o md)(hi:SE X i mk)(hs:MY i:=by intro _ _;rfl):SE X (.Subscript o i pos) (mB QF md mk):=PE.imp (Zt hu ho hi hs) <| by
 rintro σ H Q ⟨ρ,st,io,d,st',E,S,e,k⟩;obtain⟨⟨x,s1⟩,e1,e⟩:=HK e;obtain⟨⟨y,s2⟩,e2,e⟩:=HK e
 cases x with
 | ref n =>
   obtain⟨r,e3,e⟩:=HK (show (P7 s2 n y).bind _=some (d,st') from e);obtain⟨w,e4,e⟩:=Ip e;cases e;subst e4;refine⟨ρ,st,io,_,s1,E,S,e1,fun v1 H1 k1 X1 S1 R1=>⟨ρ,s1,io++k1,y,_,E.ext S X1,S1,e2,fun v2 H2 k2 X2 S2 R2=>?_⟩⟩;obtain⟨p,rfl,hp⟩:=R1;obtain⟨o,g,⟨z,_⟩ | ⟨d',v,hd,hv,rv⟩⟩:=aN S2 (Nz hp) R2 e3
   . cases z
   . cases hd;subst hv;exact⟨p,v,rfl,g,((k.on S1 X1).on S2 X2).now S2 rv⟩
 | _=>cases e
end
def zfk:typeLookup (.type "tuple") "keys"=pure none:=by rw[Dc,Ci];kernel_rfl
structure Og(prog:Pv)(w:UF)(A:Around)(D I:Addr)(n:Nat)(key val:Nat->IR)(T:Nat->KM->Prop):Prop where
 keep:∀ i h h',T i h->(∀ b o,b≠I->h.get? b=some o->h'.get? b=some o)->T i h'
 step:∀ i (s:Shared) (Q:Unit->Shared->Prop) (E:Qqa),i < n->T i s.heap->(∀ h' tk,T (i+1) h'->BA D s.heap h'->Q () { s with heap:=h',toks:=tk })->wpAny (KB prog w) A (dictSet D (key i) (val i)) Q E s
variable {a I:Addr}{k:Nat}{Q:Qqa}{xs:Array IR}{x:Sr}{v:IR}{its:List IR}{key val:Nat->IR}{T:Nat->KM->Prop}{h h':KM}
def yZ{Q:Option IR->Shared->Prop}{sl:Array (Option IR)}(hx:s.heap.get? a=some { cls:=.type "tuple",dict:=none,data:=.seq xs k,slots:=sl })(hA:A.handled=none)
   (h:∀ h' tk,(∀ b u,s.heap.get? b=some u->h'.get? b=some u)->Q none { s with heap:=h',toks:=tk }):wpAny (KB prog w) A (getAttr? (.ref a) "keys") Q E s:=by
 obtain⟨hp,g,d,tk,os⟩:=s;have hT:∀ tk',(⟨hp,g,d,tk',os⟩:Shared).TypeIs (.ref a) "tuple":=fun _=>⟨_,hx,rfl⟩
 have f1:=FW;have f3:=F.slot_tuple_getattribute.lookup;have f4:=F.slot_tuple_getattribute.bind<|.ref a;have f5:=am_tuple_getattr_none;unfold getAttr? getAttrBy? getAttrBy
 repeat (any_goals (first | assumption | exact hT _ | ((with_reducible show wpAny _ _ (call (CA "tuple.__getattribute__") _ _) _ _ _);refine Ek F.slot_tuple_getattribute (hT _) am_entry_tuple_getattribute (F.args_tuple_getattribute_2 _ _) (meets_getattribute_miss_tuple a xs k sl _ _ zfk<|by decide +kernel) ⟨hx,hA,fun h' tk' e hx'=>?_⟩) | wp_step))
 obtain⟨t',u',he⟩:=hx'.there;show wpAny _ _ (getattributeRaised _ _ _ _ _ _ _) _ _ _;unfold getattributeRaised
 repeat (any_goals (first | assumption | wp_step))
 exact h _ _ hx'.keeps
def Sr.nextN{R:Option IR->Shared->Prop}(hit:x.at_ s.heap it i)(h:x.is s.heap xs)(hx:xs[i]?=some v)(k:∀ h',x.at_ h' it (i+1)->BA it s.heap h'->R (some v) { s with heap:=h' }) :
   wpAny (KB prog w) A (pyNext<|.ref it) R E s:=by
 cases x with
 | l a=>exact Du hit h hx k
 | t a=>exact EH (show s.heap.IsTupleIter it a i from hit) (show s.heap.IsTuple a xs from h) hx k
def Sr.stopN{R:Option IR->Shared->Prop}(hh:A.handled=none)(hit:x.at_ s.heap it i)(h:x.is s.heap xs)(hx:xs[i]?=none)(k:∀ h',Co it s.heap h'->R none { s with heap:=h' }) :
   wpAny (KB prog w) A (pyNext<|.ref it) R E s:=by
 cases x with
 | l a=>exact DC hh hit h hx k
 | t a=>exact EV hh (show s.heap.IsTupleIter it a i from hit) (show s.heap.IsTuple a xs from h) hx k
def fB{R:Result->Shared->Prop}{D:Addr}{h0:KM}(F:Og prog w A.in1 D I n key val T)(hh:A.in1.handled=none)(hl:its.length=n)(hDI:D≠I)(hxD:x.ad≠D)(hxI:x.ad≠I) :
   ∀ (k i:Nat) (s:Shared),n - i=k->i<=n->x.at_ s.heap I i->x.is s.heap its.toArray->T i s.heap ->
   (∀ (j:Nat) (v:IR),its[j]?=some v->∃ p,v=.ref p/\IsTup s.heap p #[key j,val j]/\p≠D/\p≠I)->(∀ b o,b≠D->b≠I->h0.get? b=some o->s.heap.get? b=some o) ->
   (∀ h' tk,T n h'->(∀ b o,b≠D->b≠I->h0.get? b=some o->h'.get? b=some o)->R (.ok<|.ret .none) { s with heap:=h',toks:=tk }) ->
   codeAny (KB prog w) A (.builtin "dict.update.loop" ⟨[.ref D,.ref I,SZ i,.none],[]⟩) R s:=by
 intro k
 induction k with
 | zero =>
   intro i s hk hi hit hlist hd hp h0k hR;have hin:i=n:=by omega
   subst hin;refine BG T4 ?_;rw[Bt NL _];show wpAny _ A.in1 (pyNext (.ref I) >>= _) _ _ s;refine Aa<|Sr.stopN hh hit hlist (by simp[hl]) fun h' hx=>?_;show wpAny _ A.in1 (Ey D [] >>= fun _=>ret .none) _ _ _;exact Aa<|Ab<|Ab<|hR h' s.toks (F.keep _ _ _ hd fun b o hb e=>hx b o hb e) fun b o h1 h2 e=>hx b o h2 (h0k b o h1 h2 e)
 | succ k ih =>
   intro i s hk hi hit hlist hd hp h0k hR;have hlt:i < n:=by omega
   have hlt':i < its.length:=by omega
   refine BG T4 ?_;rw[Bt NL _];show wpAny _ A.in1 (pyNext (.ref I) >>= _) _ _ s;have hv:its[i]?=some its[i]:=Ah hlt';refine Aa<|Sr.nextN (v:=its[i]) hit hlist (by simp[hlt']) fun h' hit' hx=>?_;obtain⟨p,ep,tp,nD,nI⟩:=hp i _ hv;have tp':IsTup h' p #[key i,val i]:=by obtain⟨o,g,c⟩:=tp;exact⟨o,hx.extBut p o nI g,c⟩
   have hd':T i h':=F.keep _ _ _ hd fun b o hb e=>hx.extBut b o hb e;rw[ep];refine Aa<|A0<|Aa<|wpAny_tryCatch<|dD (s:={ s with heap:=h' }) tp' ?_;refine A0<|F.step i { s with heap:=h' } _ _ hlt hd' fun h2 tk2 hd2 hs2=>?_;have hI2:∀ b o,b≠D->h'.get? b=some o->h2.get? b=some o:=fun b o hb e=>hs2.extBut b o hb e;refine Ab ⟨B3 NL _,?_⟩;refine ih (i+1) { s with heap:=h2,toks:=tk2 } (by omega) (by omega) ?_ ?_ hd2 (fun j v h1=>?_) (fun b o b1 b2 e=>hI2 b o b1 (hx.extBut b o b2<|h0k b o b1 b2 e)) fun h3 tk3 d3 k3=>hR h3 tk3 d3 k3
   . exact Sr.at_keep hit' fun u e=>hI2 I u (A6 hDI) e
   . exact Sr.is_keep (Sr.is_keep hlist fun u e=>hx.extBut _ u hxI e) fun u e=>hI2 _ u hxD e
   obtain⟨q,e,⟨o,g,c⟩,q1,q2⟩:=hp j v h1;exact⟨q,e,⟨o,hI2 q o q1<|hx.extBut q o q2 g,c⟩,q1,q2⟩
def Sr.pl(h:KM)(xs:Array IR):Sr->Prop
 | .l a=>PlainL h a xs
 | .t a=>Ly h a xs
def Sr.pl_is(q:x.pl h xs):x.is h xs:=by
 cases x with
 | l a=>exact PlainL.isList q
 | t a=>exact Ly.t q
def Sr.pl_keep(q:x.pl h xs)(k:∀ b u,h.get? b=some u->h'.get? b=some u):x.pl h' xs:=by
 cases x with
 | l a=>exact PlainL.keeps q k
 | t a=>exact Ly.keeps q k
def cV(hh:A.handled=none)(hpl:x.pl s.heap its.toArray)(hl:its.length=n)
   (hF:∀ I:Addr,s.heap.objs.size < I->Og prog w A.in1.in1 s.heap.objs.size I n key val T) (h0:T 0 (s.heap.push Qqd))
   (hp:∀ (j:Nat) (v:IR),its[j]?=some v->∃ p,v=.ref p/\IsTup s.heap p #[key j,val j])
   (h:∀ h' tk,T n h'->(∀ b o,s.heap.get? b=some o->h'.get? b=some o)->Q (.ref s.heap.objs.size) { s with heap:=h',toks:=tk }) :
   wpAny (KB prog w) A (call (.type "dict") [.ref x.ad]) Q E s:=by
 refine callType_codes (Q₁:=fun obj s₁=>obj=.ref s.heap.objs.size/\s₁={ s with heap:=s.heap.push Qqd }) F.kt_called_dict (F.kt_typeCall_dict_1 _) F.entry_dict_init (kt_code_dict_new _ ⟨rfl,rfl⟩) ?_;rintro obj s₁ ⟨rfl,rfl⟩;have hnt:Shared.TypeIs { s with heap:=s.heap.push Qqd } (.ref s.heap.objs.size) "dict":=⟨_,Am _ rfl,rfl⟩
 have k1:∀ b o,s.heap.get? b=some o->(s.heap.push Qqd).get? b=some o:=fun b o e=>Ad _ e;have hpl1:=Sr.pl_keep hpl k1;have hlt:∀ b o,s.heap.get? b=some o->b < s.heap.objs.size:=fun b o e=>Aj e;have hll:x.ad < s.heap.objs.size:=by obtain⟨o,g⟩:=Sr.is_get<|Sr.pl_is hpl;exact hlt _ o g
 refine⟨hnt,F.args_dict_init_2 _ _,?_⟩;unfold Builtin.«dict.__init__»;refine Aa ?_;unfold Ez;refine Aa<|CO hnt ?_;show wpAny _ _ (pure (s.heap.objs.size,[Au x.ad])) _ _ _;refine Ab ?_;show wpAny _ _ (Cz "dict.__init__" s.heap.objs.size (.ref x.ad) [] .none) _ _ _;unfold Cz;have rest:∀ (h2:KM) (tk2:Nat),(∀ b u,(s.heap.push Qqd).get? b=some u->h2.get? b=some u) ->
     codeAny (KB prog w) A.in1 (.builtin "dict.update.loop" ⟨[.ref s.heap.objs.size,.ref h2.objs.size,SZ (0:Nat),.none],[]⟩) (wants (fun r s₂=>r=.none/\Q (.ref s.heap.objs.size) s₂) E) { s with heap:=h2.push x.ob,toks:=tk2 }:=by
   intro h2 tk2 k2;have hpl2:=Sr.pl_keep hpl1 k2;have hsz:s.heap.objs.size < h2.objs.size:=by obtain⟨o,ho,_⟩:=hnt;exact Aj<|k2 _ o ho
   have k3:∀ b o,h2.get? b=some o->(h2.push x.ob).get? b=some o:=fun b o e=>Ad _ e;have n1:s.heap.objs.size≠h2.objs.size:=An hsz;have n2:x.ad≠s.heap.objs.size:=An hll;have n3:x.ad≠h2.objs.size:=An<|B9 hll hsz;have FF:=hF h2.objs.size hsz;refine fB (A:=A.in1) (h0:=s.heap) (x:=x) (its:=its) FF hh hl n1 n2 n3 n 0 { s with heap:=h2.push x.ob,toks:=tk2 } rfl (Bc _) ?_ (Sr.pl_is<|Sr.pl_keep hpl2 k3) ?_ (fun j v e1=>?_) (fun b o _ _ e=>k3 b o (k2 b o<|k1 b o e)) fun h' tk d' k'=>?_
   . exact Sr.at_new<|Am _ (by cases x <;> rfl)
   . exact FF.keep _ _ _ h0 fun b o _ e=>k3 b o (k2 b o e)
   . obtain⟨p,e,⟨o,g,c⟩⟩:=hp j v e1;exact⟨p,e,⟨o,k3 p o<|k2 p o<|k1 p o g,c⟩,An<|hlt p o g,An<|B9 (hlt p o g) hsz⟩
   exact⟨rfl,h h' tk d' fun b o e=>k' b o (An<|hlt b o e) (An<|B9 (hlt b o e) hsz) e⟩
 cases x with
 | l a =>
   obtain⟨⟨cl,di,da,sl⟩,nn,g1,c1,c2,c3⟩:=id hpl1;simp only at c1 c2 c3;subst c1 c2 c3;refine Aa (Ca (show Shared.TypeIs { s with heap:=s.heap.push Qqd } (.ref a) "list" from ⟨_,g1,rfl⟩) ?_);rw[if_pos (by decide)];refine Aa<|bH g1 hh fun h2 tk2 k2=>?_;simp only[DZ,if_true];refine Aa<|BY ?_;refine Aa<|Sr.iter (x:=.l a) (s:={ s with heap:=h2,toks:=tk2 }) (xs:=its.toArray) (Sr.pl_is (x:=.l a)<|Sr.pl_keep (x:=.l a) hpl1 k2) ?_;exact Ab ⟨B3 NL _,rest h2 tk2 k2⟩
 | t a =>
   obtain⟨⟨cl,di,da,sl⟩,g1,c1,c2,nn,c3⟩:=id hpl1;simp only at c1 c2 c3;subst c1 c2 c3;refine Aa (Ca (show Shared.TypeIs { s with heap:=s.heap.push Qqd } (.ref a) "tuple" from ⟨_,g1,rfl⟩) ?_);rw[if_pos (by decide)];refine Aa<|yZ g1 hh fun h2 tk2 k2=>?_;simp only[DZ,if_true];refine Aa<|BY ?_;refine Aa<|Sr.iter (x:=.t a) (s:={ s with heap:=h2,toks:=tk2 }) (xs:=its.toArray) (Sr.pl_is (x:=.t a)<|Sr.pl_keep (x:=.t a) hpl1 k2) ?_;exact Ab ⟨B3 NL _,rest h2 tk2 k2⟩
noncomputable abbrev KI:=List Key×Addr×IR
def Ml(acc xs:List KI):List KI:=xs.foldl (fun acc x=>storedH acc x.1 x.2.1 x.2.2) acc
def zQ{acc:List KI}{k:List Key}{x:KI}(h:x∈storedH acc k a v):(∃ y∈acc,y.1=x.1/\y.2.1=x.2.1)\/(x.1=k/\x.2.1=a):=by
 unfold storedH at h
 split at h
 . obtain⟨y,hy,e⟩:=PP.mp h;refine .inl ⟨y,hy,?_⟩;rw[<-e];unfold putAt
   split <;> exact⟨rfl,rfl⟩
 . rcases SL.mp h with h | h
   . exact .inl ⟨x,h,rfl,rfl⟩
   rw[On.mp h];exact .inr ⟨rfl,rfl⟩
def bB:∀ {xs acc:List KI} {x:KI},x∈Ml acc xs->(∃ y∈acc,y.1=x.1/\y.2.1=x.2.1)\/∃ y∈xs,y.1=x.1/\y.2.1=x.2.1
 | [],acc,x,h=>.inl ⟨x,h,rfl,rfl⟩
 | z::zs,acc,x,h=>by
   rcases bB (xs:=zs) (acc:=storedH acc z.1 z.2.1 z.2.2) h with ⟨y,hy,e1,e2⟩ | ⟨y,hy,e⟩
   . rcases zQ hy with ⟨u,hu,f1,f2⟩ | ⟨f1,f2⟩
     . exact .inl ⟨u,hu,f1.trans e1,f2.trans e2⟩
     exact .inr ⟨z,Ao,f1.symm.trans e1,f2.symm.trans e2⟩
   exact .inr ⟨y,Ak _ hy,e⟩
def zP(acc:List KI)(k:List Key)(a:Addr)(v:IR):(storedH acc k a v).length<=acc.length+1:=by
 unfold storedH
 split <;> simp
def Wj:∀ (xs acc:List KI),(Ml acc xs).length<=acc.length+xs.length
 | [],acc=>by show acc.length<=acc.length+0;omega
 | z::zs,acc=>by have h1:=Wj zs<|storedH acc z.1 z.2.1 z.2.2;have h2:=zP acc z.1 z.2.1 z.2.2;show (Ml (storedH acc z.1 z.2.1 z.2.2) zs).length<=_;rw[AC];omega
def yT{xs:List KI}{x:KI}(e:xs[i]?=some x):Ml [] (xs.take<|i+1)=storedH (Ml []<|xs.take i) x.1 x.2.1 x.2.2:=by rw[Ds,e];unfold Ml;rw[Gc];rfl
def RU(xs:List KI)(i:Nat):IR:=match xs[i]? with | some x=>.ref x.2.1 | none=>.none
def Rv(xs:List KI)(i:Nat):IR:=match xs[i]? with | some x=>x.2.2 | none=>.none
def FT(prog:Pv)(w:UF)(D:Addr)(xs:List KI)(i:Nat)(h:KM):Prop :=
 h.DictOfH (tupleKind<|IS prog w) D (Ml []<|xs.take i)/\∀ x∈xs,(tupleKind<|IS prog w).is h x.1 x.2.1
def VS{k:List Key}{b:Addr}(q:(tupleKind<|IS prog w).is h k b)(kk:∀ o,h.get? b=some o->h'.get? b=some o):(tupleKind<|IS prog w).is h' k b:=by obtain⟨o,its,n,h1,r⟩:=q;exact⟨o,its,n,kk o h1,r⟩
def eY{D:Addr}{xs:List KI}(hu:A.units < cLine)(hDI:D≠I)(hI:∀ x∈xs,x.2.1≠I)(hD:∀ x∈xs,x.2.1≠D)(hz:xs.length<=sizeLine):Og prog w A D I xs.length (RU xs) (Rv xs) (FT prog w D xs) where
 keep:=by
   rintro i h h' ⟨⟨o,es,ep,ho,hc,hd,he,his,hn⟩,hk⟩ k;have all:∀ x∈xs,(tupleKind<|IS prog w).is h' x.1 x.2.1:=fun x hx=>VS (hk x hx) fun o e=>k _ o (hI x hx) e;refine⟨⟨o,es,ep,k _ o hDI ho,hc,hd,he,fun x hx=>?_,hn⟩,all⟩
   rcases bB hx with ⟨y,hy,_⟩ | ⟨y,hy,e1,e2⟩
   . exact nomatch hy
   have:=all y<|Fy hy;rw[e1,e2] at this;exact this
 step:=by
   rintro i s Q E hi ⟨hd,hk⟩ h;have e:xs[i]?=some xs[i]:=Ah hi;have ek:RU xs i=.ref xs[i].2.1:=by unfold RU;rw[e]
   have ev:Rv xs i=xs[i].2.2:=by unfold Rv;rw[e]
   rw[ek,ev];have hl:(Ml []<|xs.take i).length<=sizeLine:=by have:=Wj (xs.take i) [];rw[Bv,Bf] at this;omega
   refine wpAny_dictSet_heap (hsz:=hl) hu (hk _<|BI hi) hd fun h' hd' hs=>h h' _ ⟨?_,fun x hx=>?_⟩ hs
   . rw[yT e];exact hd'
   exact VS (hk x hx) fun o g=>hs.extBut _ o (hD x hx) g
def Ot{κ:Type}[DecidableEq κ](kvs more:List (κ×V)):List (κ×V):=more.foldl (fun acc kv=>putK acc kv.1 kv.2) kvs
def Oq(kvs more:List (List Key×D)):List (List Key×D):=more.foldl (fun acc kv=>putD acc kv.1 kv.2) kvs
def Ys:D->Option (List Key×D)
 | .tup [.tup ks,v]=>(keysOf ks).map fun q=>(q,v)
 | _=>none
def O6:List D->Option (List<|List Key×D)
 | []=>some []
 | d::r=>(Ys d).bind fun t=>(O6 r).map fun ts=>t::ts
def tJ:∀ {more:List (List Key×V)} {mx:List KI} {kvs:List (List Key×V)} {xs:List KI},KT H more mx->KT H kvs xs->KT H (Ot kvs more) (Ml xs mx):=by
 intro more mx kvs xs r
 induction r generalizing kvs xs with
 | nil=>intro q;exact q
 | @cons p q ps qs h t ih =>
   intro r0;have e:KT H (putK kvs p.1 p.2) (storedH xs q.1 q.2.1 q.2.2):=by rw[<-h.1];exact KT.put r0 p.1 h.2.1 h.2.2
   exact ih e
def vV:∀ {more:List (List Key×V)} {mds:List (List Key×D)} {kvs:List (List Key×V)} {kds:List (List Key×D)},KR (List Key) K H io more mds->KR (List Key) K H io kvs kds->KR (List Key) K H io (Ot kvs more) (Oq kds mds):=by
 intro more mds kvs kds r;unfold KR at r
 induction r generalizing kvs kds with
 | nil=>intro q;exact q
 | @cons p q ps qs h t ih =>
   intro r0;have e:KR (List Key) K H io (putK kvs p.1 p.2) (putD kds q.1 q.2):=by rw[<-h.1];exact KR.put r0 p.1 h.2
   exact ih e
def Zw(I:Inv X qp σ H s):∀ {ys:List V} {ds:List D} {kds:List (List Key×D)} {its:List IR},HC X.K H io ys ds->O6 ds=some kds->Vals ys its ->
   ∃ (kvV:List (List Key×V)) (xs:List KI),KR (List Key) X.K H io kvV kds/\KT H kvV xs/\its.length=xs.length/\xs.length=kds.length/\∀ (j:Nat) (v:IR) (x:KI),its[j]?=some v->xs[j]?=some x->∃ p,v=.ref p/\IsTup s.heap p #[.ref x.2.1,x.2.2]
 | _,[],kds,_,h,e,r=>by
   cases e
   cases (show _=[] from h)
   cases r;exact⟨[],[],.nil,.nil,rfl,rfl,fun j v kv h=>by simp at h⟩
 | _,d::ds,kds,_,h,e,r=>by
   obtain⟨y,ys,rfl,h1,h2⟩:=h;obtain⟨t,e1,e⟩:=HK e;obtain⟨ts,e2,e⟩:=Ip e;subst e
   cases r with
   | @cons _ u _ us ru rus =>
     obtain⟨kvV,xs,a1,a2,a3,a4,a5⟩:=Zw I h2 e2 rus;unfold Ys at e1
     split at e1
     . rename_i ks v;obtain⟨q,eq1,e1⟩:=Ip e1;subst e1;obtain⟨p,vs,rfl,hp,rs⟩:=h1;obtain⟨v1,w1,rfl,q1,rs⟩:=rs;obtain⟨v2,w2,rfl,q2,rs⟩:=rs
       cases (show w2=[] from rs)
       obtain⟨b,zs,rfl,hb,rz⟩:=q1;have ek:=Rc rz eq1;subst ek;cases ru;obtain⟨ia,va,ht,_⟩:=I.tuple<|IQ.of (K:=X.K) hp
       cases va with
       | cons r1 t1 =>
         cases t1 with
         | cons r2 t2 =>
           cases t2;rename_i u1 u2
           cases (show u1=Au b from r1)
           refine⟨(q,v2)::kvV,(q,b,u2)::xs,.cons ⟨rfl,q2⟩ a1,.cons ⟨rfl,hb,r2⟩ a2,by rw[AC,AC,a3],by rw[AC,AC,a4],fun j v kv e1 e2=>?_⟩
           cases j with
           | zero =>
             cases e1;cases e2;exact⟨p,rfl,ht⟩
           | succ j=>exact a5 j v kv e1 e2
     . cases e1
def gI(hr:Ia k A):A.units+2 < cLine:=by have:=hr.un;omega
def Qe:GN
 | [.ref n],st=>(Ik st n).bind fun ds=>(O6 ds).bind fun kds=>if fits kds.length=true then some (.ref st.length,st++[.dt (Oq [] kds)]) else none
 | [.tup ds],st=>(O6 ds).bind fun kds=>if fits kds.length=true then some (.ref st.length,st++[.dt (Oq [] kds)]) else none
 | _,_=>none
def ZX{ys:List V}{ds:List D}{kds:List (List Key×D)}(I:Inv X qp σ H s)(hh:A.handled=none)(hu:A.units+2 < cLine)(pl:x.pl s.heap its.toArray)(rv:Vals ys its)(r1:HC X.K H io ys ds)(e1:O6 ds=some kds)(hf:kds.length<=sizeLine)
   (h:∀ s' kvV,Inv X qp σ (upd H s.heap.objs.size<|.dT<|Ot [] kvV) s'->KR (List Key) X.K H io kvV kds->Q (.ref s.heap.objs.size) s'):wpAny (KB X.prog X.w) A (call (.type "dict") [.ref x.ad]) Q E s:=by
 obtain⟨kvV,xs,a1,a2,a3,a4,a5⟩:=Zw I r1 e1 rv;have hz:xs.length<=sizeLine:=by rw[a4];exact hf
 have hkey:∀ y∈xs,(tupleKind<|IS X.prog X.w).is s.heap y.1 y.2.1:=by
   clear a5 a4 a3 hz a1
   induction a2 with
   | nil=>intro y hy;exact nomatch hy
   | @cons p q ps qs hq t ih =>
     intro y hy
     rcases M2.mp hy with e | hy
     . subst e;exact OW I.hok (by rw[<-hq.1];exact hq.2.1)
     exact ih y hy
 have hlt:∀ y∈xs,y.2.1 < s.heap.objs.size:=fun y hy=>by obtain⟨o,_,_,g,_⟩:=hkey y hy;exact Aj g
 refine cV (T:=FT X.prog X.w s.heap.objs.size xs) (key:=RU xs) (val:=Rv xs) hh pl a3 (fun i hi=>eY hu (An hi) (fun y hy=>An (B9 (hlt y hy) hi)) (fun y hy=>An (hlt y hy)) hz) ⟨Heap.DictOfH.new s.heap,fun y hy=>VS (hkey y hy) fun o g=>Ad _ g⟩ (fun j v e=>?_) fun h' tk d' kk=>?_
 . have hj:j < xs.length:=by
     rw[<-a3];exact (KF.mp e).1
   have ex:xs[j]?=some xs[j]:=Ah hj;obtain⟨p,ep,tp⟩:=a5 j v _ e ex;refine⟨p,ep,?_⟩;unfold RU Rv;rw[ex];exact tp
 . have hlV:kvV.length=xs.length:=By a2;obtain⟨⟨o,es,ep,ho,hc,hdd,he,his,hn⟩,_⟩:=d';rw[Ct] at he his hn;have km:KT H (Ot [] kvV) (Ml [] xs):=tJ a2 .nil;have hm:(Ot [] kvV).length<=sizeLine:=by
     have:=Wj xs [];rw[By km];rw[Bf] at this;omega
   have hd:(s.heap.objs.size==sysModules)=false:=beq_eq_false_iff_ne.mpr<|A6<|An I.big;refine h _ kvV (I.laid (a:=s.heap.objs.size) (o:=.dT (Ot [] kvV)) (t':=tk) kk (Ag _) ⟨hm,hd,Ml [] xs,?_,o,es,ep,ho,hc,hdd,he,hn⟩) a1;exact KT.keeps km fun b ys e=>by rw[HV (Jw e<|I.hok.fresh<|Ag _)];exact e
def zhH(hc:X.calm=true)(hu:X.A.units+2 < cLine):J4 X (.type "dict") Qe:=by
 rintro qp s σ H xs us Q I r ⟨ds,st,io,d,st',R,S,e,k⟩;have fin:∀ (kds:List (List Key×D)),(d,st')=(D.ref st.length,st++[O.dt (Oq [] kds)])->∀ s' kvV,Inv X qp σ (upd H s.heap.objs.size<|.dT<|Ot [] kvV) s'->KR (List Key) X.K H io kvV kds->∃ v H',Inv X qp σ H' s'/\RelV v (.ref s.heap.objs.size)/\Q v H':=fun kds ed s' kvV I' a1=>by
   cases ed;obtain⟨E',S'⟩:=O4 (o:=.dT (Ot [] kvV)) (ob:=.dt (Oq [] kds)) S (I.hok.fresh<|Ag _) fun H' T e=>⟨_,e,vV (KR.mono T a1) .nil⟩
   exact⟨.ref s.heap.objs.size,_,I',rfl,k _ _ [s.heap.objs.size] E' S' ⟨s.heap.objs.size,rfl,by rw[<-S.len];exact getElem?_len io _⟩⟩
 unfold Qe at e
 split at e
 . rename_i n;obtain⟨zs,e0,e⟩:=HK e;obtain⟨kds,e1,e⟩:=HK e;obtain⟨hf,e⟩:=IJ e;obtain⟨v,rfl,p,rfl,hp⟩:=R.one;obtain⟨u,rfl,ru⟩:=r.one;cases ru;obtain⟨ys,hx,r1⟩:=Ky S hp e0;obtain⟨its,rv,pl,hz⟩:=I.list hx;exact ZX (x:=.l p) I (I.ok.hd hc) hu pl rv r1 e1 (of_decide_eq_true hf)<|fin kds (by cases e;rfl)
 . rename_i zs;obtain⟨kds,e1,e⟩:=HK e;obtain⟨hf,e⟩:=IJ e;obtain⟨v,rfl,p,ys,rfl,hp,r1⟩:=R.one;obtain⟨u,rfl,ru⟩:=r.one;cases ru;obtain⟨hz,its,rv,pl⟩:=(show Ju X.prog X.w H s.heap p (.tup ys) from I.hok p _ hp)
   exact ZX (x:=.t p) I (I.ok.hd hc) hu pl rv r1 e1 (of_decide_eq_true hf)<|fin kds (by cases e;rfl)
 . cases e
def TB(hr:Ia k A):A.units+110 < cLine:=by have:=hr.un;omega
def NZ:G2:=intD (fun i j=>decide (Bw i<=2 ^ 20)&&decide (Bw j<=2 ^ 20)) fun i j=>.int<|i*j
def pG:IZ X (binaryOp .Mult) NZ:=Qn (C:=fun i j=>Bw i<=2 ^ 20/\Bw j<=2 ^ 20) (RM fun i j _ _ _ _ _ hc q=>GZ q (IntMulOk.of_bits hc.1 hc.2)) fun i j h=>by rw[Ar] at h;exact⟨of_decide_eq_true h.1,of_decide_eq_true h.2⟩
def OE:G2
 | .str x,.str y,st=>some (.bl (x != y),st)
 | _,_,_=>none
def YM:IZ X (Re .NotEq) OE:=by
 rintro qp s σ H x y v u Q I rx ry ⟨dx,dy,st,io,d,st',Rx,Ry,S,e,k⟩;unfold OE at e
 split at e
 . cases e
   cases (show x=_ from Rx)
   cases (show y=_ from Ry)
   obtain⟨t,rfl⟩:=rx;obtain⟨t',rfl⟩:=ry;exact PyProof.Rows.ne_str ⟨.bl _,H,I,rfl,k.now S rfl⟩
 . cases e
def FK(prog:Pv)(w:UF)(D:Addr)(kvs:List (Key×IR))(i:Nat)(h:KM):Prop:=h.DictOf (IS prog w) D<|merged []<|kvs.take i
def Qu(xs:List IR)(i:Nat):IR:=match xs[i]? with | some x=>x | none=>.none
def Ru(xs:List (Key×IR))(i:Nat):IR:=match xs[i]? with | some x=>x.2 | none=>.none
def eX{D:Addr}{kvs:List (Key×IR)}{kxs:List IR}(hDI:D≠I)(hz:kvs.length<=sizeLine)(hk:∀ (j:Nat) (kv:Key×IR),kvs[j]?=some kv->(IS prog w).is kv.1 (Qu kxs j)=true):Og prog w A D I kvs.length (Qu kxs) (Ru kvs) (FK prog w D kvs) where
 keep:=fun i h h' ⟨o,es,ep,ho,r⟩ k=>⟨o,es,ep,k D o hDI ho,r⟩
 step:=fun i s Q E hi hd h=>by
   have e:kvs[i]?=some kvs[i]:=Ah hi;have ev:Ru kvs i=kvs[i].2:=by unfold Ru;rw[e]
   rw[ev];have hl:(merged []<|kvs.take i).length<=sizeLine:=by have:=Wv (kvs.take i) [];rw[Bv,Bf] at this;omega
   refine FG (hk i _ e) hd (fun h' hd' hs=>h h' _ ?_ hs) hl;have e1:stored (merged []<|kvs.take i) kvs[i].1 kvs[i].2=merged [] (kvs.take<|i+1):=(merged_take_succ [] kvs i _ e).symm;unfold FK;rw[<-e1];exact hd'
def aZ{h:KM}:∀ {its:List IR} {kvs:List (Key×IR)},its.length=kvs.length->(∀ (j:Nat) (v:IR) (kv:Key×IR),its[j]?=some v->kvs[j]?=some kv->Ol prog w h v kv) ->
   ∃ kxs:List IR,∀ (j:Nat) (v:IR) (kv:Key×IR),its[j]?=some v->kvs[j]?=some kv->∃ p,v=.ref p/\IsTup h p #[Qu kxs j,kv.2]/\(IS prog w).is kv.1 (Qu kxs j)=true
 | [],kvs,_,_=>⟨[],fun j v kv e=>by simp at e⟩
 | v::its,[],e,_=>by cases e
 | v::its,kv::kvs,e,hp=>by
   obtain⟨kxs,hk⟩:=aZ (its:=its) (kvs:=kvs) (by simpa using e) fun j u q e1 e2=>hp (j+1) u q e1 e2;obtain⟨p,kx,e1,e2,e3⟩:=hp 0 v kv rfl rfl;refine⟨kx::kxs,fun j u q f1 f2=>?_⟩
   cases j with
   | zero =>
     cases f1;cases f2;exact⟨p,e1,e2,e3⟩
   | succ j=>exact hk j u q f1 f2
def Sm:GN
 | [.tup ds],st=>(P9 ds).bind fun kds=>if fits kds.length=true then some (.ref st.length,st++[.dk (Oo [] kds)]) else none
 | _,_=>none
def zZ(hc:X.calm=true):J4 X (.type "dict") Sm:=by
 rintro qp s σ H xs us Q I r ⟨ds,st,io,d,st',R,S,e,k⟩;unfold Sm at e
 split at e
 . rename_i zs;obtain⟨kds,e1,e⟩:=HK e;obtain⟨hf,e⟩:=IJ e;cases e;obtain⟨v,rfl,p,ys,rfl,hp,r1⟩:=R.one;obtain⟨u,rfl,ru⟩:=r.one;cases ru;obtain⟨hz,its,rv,pl⟩:=(show Ju X.prog X.w H s.heap p (.tup ys) from I.hok p _ hp)
   obtain⟨kvV,kvs,a1,a2,a3,a4,a5⟩:=U9 I r1 e1 rv;have hzk:kvs.length<=sizeLine:=by rw[a4];exact of_decide_eq_true hf
   obtain⟨kxs,hk⟩:=aZ a3 a5;have hkk:∀ (j:Nat) (kv:Key×IR),kvs[j]?=some kv->(IS X.prog X.w).is kv.1 (Qu kxs j)=true:=fun j kv e=>by
     have hj:j < its.length:=by rw[a3];exact (KF.mp e).1
     obtain⟨_,_,_,q⟩:=hk j _ kv (Ah hj) e;exact q
   refine cV (x:=.t p) (T:=FK X.prog X.w s.heap.objs.size kvs) (key:=Qu kxs) (val:=Ru kvs) (I.ok.hd hc) pl a3 (fun i hi=>eX (An hi) hzk hkk) (EM s.heap) (fun j v e=>?_) fun h' tk d' kk=>?_
   . have hj:j < kvs.length:=by
       rw[<-a3];exact (KF.mp e).1
     have ex:kvs[j]?=some kvs[j]:=Ah hj;obtain⟨p',ep,tp,_⟩:=hk j v _ e ex;refine⟨p',ep,?_⟩;unfold Ru;rw[ex];exact tp
   . have d':h'.DictOf (IS X.prog X.w) s.heap.objs.size (merged [] kvs):=by
       have:FK X.prog X.w s.heap.objs.size kvs kvs.length h':=d';unfold FK at this
       rwa [Ct] at this
     have hlV:kvV.length=kvs.length:=By a2;have hm:(LC [] kvV).length<=sizeLine:=by have:=Uh kvV [];rw[Bf] at this;omega
     have hd:(s.heap.objs.size==sysModules)=false:=beq_eq_false_iff_ne.mpr<|A6<|An I.big;refine⟨.ref s.heap.objs.size,_,I.laid (a:=s.heap.objs.size) (o:=.dK (LC [] kvV)) (t':=tk) kk (Ag _)<|S0 hm hd (a2.merge .nil) d',rfl,?_⟩;obtain⟨E',S'⟩:=O4 (o:=.dK (LC [] kvV)) (ob:=.dk (Oo [] kds)) S (I.hok.fresh<|Ag _) fun H' T e=>⟨_,e,ZT (KR.mono T a1) .nil⟩
     exact k _ _ [s.heap.objs.size] E' S' ⟨s.heap.objs.size,rfl,by rw[<-S.len];exact getElem?_len io _⟩
 . cases e
def Qd:GN:=OD Sl Sm
def bV(hc:X.calm=true):J4 X (.type "dict") Qd:=VM (xB hc)<|zZ hc
end L2.MP
namespace L2.MP
variable {prog:Pv}{w:UF}{A:Around}{E:Qqa}{s:Shared}
section
open PySem PySem.Spec PyProof.Rows PySem.Builtin PySem.Builtin.Str
variable {z y:Str} {t u:Tok} {Q:Qqa}
end
variable {X:Cx}{K:Ac}{H:Hp}{io:List Addr}{st st':HB}{a b c e:Os}{es:List Os}{ma mb mc m:ME}{mm:MA}{pos:Pos}
section
open PySem PySem.Spec PyProof.Rows
end
open PySem
variable {ρ:Ie}
theorem QO{c:MT}{n:ME}:MH c m n ρ st=(c ρ st).bind fun p=>if p.1=true then m ρ p.2 else n ρ p.2:=rfl
variable {W:Wk}{g:MG}{ρ1:Ie}{s1 s2:HB}
def pW{m:MS}{d r:D}{ds:List D}(wk:walked W st=true)(e1:g d ρ st=some (ρ1,s1))(e2:m ρ1 s1=some (.rt r,s2)):J5 W g m (d::ds) ρ st=some (.rt r,s2):=by unfold J5;rw[if_pos wk,e1];simp only[Ae,e2]
def pV{m:MS}{d:D}{ds:List D}{ρ2:Ie}(wk:walked W st=true)(e1:g d ρ st=some (ρ1,s1))(e2:m ρ1 s1=some (.nx ρ2,s2)):J5 W g m (d::ds) ρ st=J5 W g m ds ρ2 s2:=by
 conv=>lhs;unfold J5
 rw[if_pos wk,e1];simp only[Ae,e2]
open PySem.Spec PyProof.Rows
@[irreducible] def IW (X:Cx) (s:List Wp) (m:MS):Prop:=KJ X s m
@[irreducible] def JS (X:Cx) (s:Wp) (m:MS):Prop:=SS X s m
@[irreducible] def JA (X:Cx) (es:List Os) (m:MA):Prop:=SA X es m
variable {n:Nat}{body:List Wp}{ms:MS}
section
variable {st1 st2:Wp} {rest orelse:List Wp} {mt mu:MT} {mq mr:MS} {mg:MG} {mi:MI}
def IW.out(h:IW X body ms):KJ X body ms:=by unfold IW at h;exact h
def IW.mk(h:KJ X body ms):IW X body ms:=by unfold IW;exact h
def JS.out(h:JS X st1 ms):SS X st1 ms:=by unfold JS at h;exact h
def JS.mk(h:SS X st1 ms):JS X st1 ms:=by unfold JS;exact h
def JA.out(h:JA X es mm):SA X es mm:=by unfold JA at h;exact h
def JA.mk(h:SA X es mm):JA X es mm:=by unfold JA;exact h
def KO:IW X [] Je:=.mk Zm
def Iq(h:JS X st1 ms):IW X [st1] ms:=.mk<|qU h.out
def Ii(h:JS X st1 ms)(h2:IW X rest mq):IW X (st1::rest) (mS ms mq):=.mk<|uO h.out h2.out
def Km(hc:SB X c mt)(h1:IW X body ms)(h2:IW X orelse mq):JS X (.If c body orelse pos) (IY mt ms mq):=.mk<|gO hc h1.out h2.out
def LQ{tg iter:Os}(hp:PassesOwn (KB X.prog X.w) X.A X.env X.xe)(hc:X.calm=true)(hi:SI X tg iter mi)(hg:SG X tg mg)(hb:IW X body ms)(hs:∀ x,foldedSetIterable iter X.env x=pure x:=by intro _;rfl):JS X (.For tg iter body [] pos) (mF mi mg ms):=.mk<|kH hp hc hi hg hb.out hs
def sY(hp:PassesOwn (KB X.prog X.w) X.A X.env X.xe)(hc:SB X c mt)(hb:IW X body ms):JS X (.While c body [] pos) (JK mt ms n):=.mk<|uN hp hc hb.out
def Md:JA X [] mZ:=.mk HJ
def Iv(ha:SE X e m)(hr:JA X es mm)(hs:∀ q,Qqb X.env e q:=by intro _;rfl):JA X (e::es) (Hz m mm):=.mk<|HD ha hr.out<|hs _
end
variable {o:Obj}{ep:Nat}
def zY(hh:A.handled=none)(it d:Addr)(hne:d≠it){es:Array DictEntry}(dd:o.data=.dict es ep) :
   Walks prog w A it [it,d] [it] es.size (fun i v=>∃ en,es[i]?=some en/\v=en.key) (fun i h=>h.IsKeyIter it d i es.size ep/\h.get? d=some o) where
 sub:=fun b hb=>by simp at hb;simp[hb]
 frame:=fun _ _ _ st hk=>⟨st.1.at fun o e=>hk it (by simp) o e,hk d (by simp) o st.2⟩
 item:=fun i s Q E hi st hQ=>by have hx:es[i]?=some es[i]:=Cn hi;refine bI st.1 st.2 dd hx fun h' st' sb=>?_;exact hQ _ h' s.toks ⟨_,hx,rfl⟩ ⟨st',(sb.2 d hne).trans st.2⟩ fun b ob hb e=>(sb.2 b fun z=>hb (by simp[z])).trans e
 done:=fun s Q E st hQ=>bJ hh st.1 st.2 dd (by simp) fun h' eb=>hQ h' s.toks fun b ob hb e=>eb b ob (fun z=>hb (by simp[z])) e
 self:=fun _ _ _ _ st hQ=>Fz st.1 hQ
def uM{d:Addr}{es:Array DictEntry}(dd:o.data=.dict es ep)(hd:(d==sysModules)=false)(ty:∀ s:Shared,s.heap.get? d=some o->s.TypeIs (.ref d) "dict") :
   GV prog w "dict" d d es.size (fun i v=>∃ en,es[i]?=some en/\v=en.key) (fun h=>h.get? d=some o) where
 type:=ty
 there:=fun _ g=>⟨Aj g,Aj g⟩
 keep:=fun _ _ g hk=>hk d (.inl rfl) o g
 notList:=by decide
 notTuple:=by decide
 hint:=fun _ _ s _ g hq=>PySem.W.kdl_hint_dict (ty s g) hq
 iter:=fun A' s hh g=>⟨_,_,fun _ _ hq=>bG (ty s g) hd g dd hq,zY hh _ d (An<|Aj g) dd,⟨⟨_,Am _ rfl,rfl,rfl⟩,Ad _ g⟩⟩
def bK{K:Ac}{H:Hp}{io:List Addr}:∀ {vs:List IR} {ps:List (List Key×V)} {kvs:List (List Key×D)},KR (List Key) K H io ps kvs->vs.length=ps.length->(∀ (j:Nat) (v:IR) (p:List Key×V),vs[j]?=some v->ps[j]?=some p->∃ b,v=.ref b/\H b=some (.tup<|p.1.map kV))->∃ ys,Vals ys vs/\HC K H io ys (J9 kvs)
 | [],_,_,.nil,_,_=>⟨[],.nil,rfl⟩
 | [],_::_,_,.cons _ _,hl,_=>by simp at hl
 | v::vs,_,_,.nil,hl,_=>by simp at hl
 | v::vs,p::ps,q::kvs,.cons h t,hl,hv=>by obtain⟨b,rfl,hb⟩:=hv 0 v p rfl rfl;obtain⟨ys,r1,r2⟩:=bK (vs:=vs) t (by simpa using hl) fun j v p e1 e2=>hv (j+1) v p (by simpa using e1) (by simpa using e2);refine⟨.ref b::ys,.cons rfl r1,HC.cons ⟨b,_,rfl,hb,?_⟩ r2⟩;rw[h.1];exact TN _
def Kf:G2:=JX RV fun x y st=>match x,y with
 | .bl a,.bl b=>some (.bl (a==b),st)
 | _,_=>none
def P8:G2:=JX Yq fun x y st=>match x,y with
 | .bl a,.bl b=>some (.bl (a != b),st)
 | _,_=>none
def Zh:IZ X (Re .Is) Kf:=SU pF (by
 rintro qp s σ H x y v u Q I rx ry ⟨dx,dy,st,io,d,st',Rx,Ry,S,e,k⟩
 (try dsimp only at e)
 split at e
 . cases e
   cases (show x=_ from Rx)
   cases (show y=_ from Ry)
   cases rx;cases ry;exact PyProof.Rows.is_bool ⟨.bl _,H,I,rfl,k.now S rfl⟩
 . cases e)
def tU:IZ X (Re .IsNot) P8:=SU tV (by
 rintro qp s σ H x y v u Q I rx ry ⟨dx,dy,st,io,d,st',Rx,Ry,S,e,k⟩
 (try dsimp only at e)
 split at e
 . cases e
   cases (show x=_ from Rx)
   cases (show y=_ from Ry)
   cases rx;cases ry;exact PyProof.Rows.isnot_bool ⟨.bl _,H,I,rfl,k.now S rfl⟩
 . cases e)
structure Kl(H H':Hp):Prop where
 tup:∀ a xs,H a=some (.tup xs)->H' a=some (.tup xs)
 frz:∀ a o u,H a=some (.frz o u)->(∀ ps,u≠.dT ps)->H' a=some (.frz o u)
variable {xs:List V}{K0:Ac}{G0 G1:Hp}{i0:List Addr}
section
variable {H':Hp}
def Nm.kl{a:Addr}(T:Kl H H')(h:Nm K H a xs):Nm K H' a xs:=by
 rcases h with ⟨o,h⟩ | h
 . exact .inl ⟨o,T.frz _ _ _ h<|by simp⟩
 exact .inr h
mutual
theorem Rep.thawn{K0:Ac}{G0 G1:Hp}{i0:List Addr}(T:Kl G0 G1):∀ {v:V} {d:D},Rep K0 G0 i0 v d->Rep K0 G1 i0 v d
 | _,.non,h=>h
 | _,.bl _,h=>h
 | _,.int _,h=>h
 | _,.str _,h=>h
 | _,.tup ds,h=>by obtain⟨a,xs,e,q,r⟩:=h;exact⟨a,xs,e,T.tup a xs q,HC.thawn T r⟩
 | _,.ref n,h=>h
 | _,.kl ds,h=>by obtain⟨a,xs,e,q,r⟩:=h;exact⟨a,xs,e,q.kl T,HC.thawn T r⟩
 | _,.fn _,h=>h
 | _,.er _ _ _,h=>⟨h.1,h.2.kp T.frz⟩
theorem HC.thawn{K0:Ac}{G0 G1:Hp}{i0:List Addr}(T:Kl G0 G1):∀ {xs:List V} {ds:List D},HC K0 G0 i0 xs ds->HC K0 G1 i0 xs ds
 | _,[],h=>h
 | _,d::ds,h=>by obtain⟨y,ys,e,r,rs⟩:=h;exact⟨y,ys,e,Rep.thawn T r,HC.thawn T rs⟩
end
def KR.thawn{κ:Type}{ps:List (κ×V)}{kvs:List (κ×D)}(T:Kl H H')(h:KR κ K H io ps kvs):KR κ K H' io ps kvs:=Paired.mapP h fun _ _ z=>⟨z.1,Rep.thawn T z.2⟩
def OR.thawn{a:Addr}{o:O}(T:Kl H H')(e:H' a=H a)(h:OR K H io a o):OR K H' io a o:=by
 cases o with
 | lst ds=>obtain⟨xs,q,r⟩:=h;exact⟨xs,e.trans q,HC.thawn T r⟩
 | fz ds=>obtain⟨ob,xs,q,r⟩:=h;exact⟨ob,xs,e.trans q,HC.thawn T r⟩
 | dk kvs=>obtain⟨xs,q,r⟩:=h;exact⟨xs,e.trans q,KR.thawn T r⟩
 | dt kvs=>obtain⟨xs,q,r⟩:=h;exact⟨xs,e.trans q,KR.thawn T r⟩
 | fk kvs=>obtain⟨ob,xs,q,r⟩:=h;exact⟨ob,xs,e.trans q,KR.thawn T r⟩
 | ft kvs=>obtain⟨ob,xs,q,r⟩:=h;exact⟨ob,xs,e.trans q,KR.thawn T r⟩
 | ob C fs=>obtain⟨dx,xs,q,r⟩:=h;exact⟨dx,xs,e.trans q,KR.thawn T r⟩
 | sz n=>exact e.trans h
 | dz=>exact e.trans h
end
variable {ps:List (List Key×V)}{qp:List (Addr×Obj)}
section
variable {σ:List (Option V)}
def Inv.thaw{d:Addr}{o:Obj}(I:Inv X qp σ H s)(hd:H d=some (.frz o<|.dT ps))(n0:∀ o u,X.H₀ d≠some (.frz o u)):Inv X qp σ (upd H d<|.dT ps) s:=by
 have ne:∀ {b:Addr} {v:HO},H b=some v->v≠.frz o (.dT ps)->b≠d:=fun {b v} q nv z=>by subst z;rw[hd] at q;exact nv (Ap q).symm
 have nn:∀ {b:Addr},H b=none->b≠d:=fun {b} q z=>by rw[z,hd] at q;cases q
 refine⟨I.ok,I.os,I.bare,⟨I.base.keep,I.base.slot,fun b v q n hx=>?_,I.base.there,fun b xs q=>?_,fun b v u q=>?_,fun b xs q=>?_⟩,I.loc,I.cell,?_,fun x c q=>?_,fun p hp=>?_,fun b v q=>?_,I.len⟩
 . have:=I.base.free b v q n hx;rw[HV (nn this)];exact this
 . have:=I.base.tups b xs q;rw[HV (ne this<|by simp)];exact this
 . have h:=I.base.frzs b v u q;have:b≠d:=fun z=>n0 v u (by rw[<-z];exact q);rw[HV this];exact h
 . obtain⟨m,h⟩:=I.base.tbls b xs q;exact⟨m,by rw[HV (ne h<|by simp)];exact h⟩
 . rw[HV (nn I.free)];exact I.free
 . rw[HV (nn<|I.freeC x c q)];exact I.freeC x c q
 . obtain⟨a,b,c⟩:=I.pin p hp;exact⟨a,by rw[HV (nn b)];exact b,c⟩
 . by_cases hb:b=d
   . subst hb;rw[JP] at q;cases q;exact (I.hok b _ hd).2.stay (fun c x _ y=>y) (fun c y=>by rw[HV (ne y<|by simp)];exact y) fun c xs y=>by rw[HV (ne y<|by simp)];exact y
   rw[HV hb] at q;exact (I.hok b v q).stay (fun c x _ y=>y) (fun c y=>by rw[HV (ne y<|by simp)];exact y) fun c xs y=>by rw[HV (ne y<|by simp)];exact y
end
def Vn(n:Nat)(st0 st:HB):Option HB:=match st0[n]? with
 | some (.dt _)=>match st[n]? with
   | some (.ft kvs)=>some<|st.set n<|.dt kvs
   | _=>none
 | _=>none
def Oj(i:Nat)(m:ME):ME:=fun ρ st=>match ρ[i]? with
 | some (some<|.ref n)=>(m ρ st).bind fun (d,s)=>(Vn n st s).map fun t=>(d,t)
 | _=>none
variable {p:Addr}
section
variable {i:Nat}
def rB{H1:Hp}{ka:List Addr}{ps0:List (List Key×V)}{kvs:List (List Key×D)}(S:HN K H io st)(X1:Ext io ka H H1)(S1:HN K H1 (io++ka) s1)
   (hn:io[n]?=some p) (h0:H p=some (.dT ps0)) (en:s1[n]?=some (.ft kvs)) (hp:H1 p=some (.frz o<|.dT ps)) (r:KR (List Key) K H1 (io++ka) ps kvs) :
   Kl H1 (upd H1 p<|.dT ps)/\Ext io ka H (upd H1 p<|.dT ps)/\HN K (upd H1 p<|.dT ps) (io++ka) (s1.set n<|.dt kvs):=by
 have ne:∀ {b:Addr} {v:HO},H1 b=some v->v≠.frz o (.dT ps)->b≠p:=fun {b v} q nv z=>by subst z;rw[hp] at q;exact nv (Ap q).symm
 have T:Kl H1 (upd H1 p<|.dT ps):=⟨fun a xs q=>by rw[HV (ne q<|by simp)];exact q,fun a v u q nu=>by rw[HV (ne q (fun z=>by cases z;exact nu ps rfl))];exact q⟩
 have hn':(io++ka)[n]?=some p:=by rw[Ai (KF.mp hn).1];exact hn
 refine⟨T,⟨fun b u h nb=>?_,X1.fresh,fun b v u h=>?_⟩,by rw[BZ];exact S1.len,S1.nd,fun k a ob h1 h2=>?_⟩
 . rw[HV (fun z=>nb (by rw[z];exact AI hn))];exact X1.keep b u h nb
 . have:b≠p:=fun z=>by
     rw[z,h0] at h;cases h
   rw[HV this];exact X1.frz b v u h
 . by_cases hk:k=n
   . subst hk;rw[hn'] at h1
     cases (Ap h1)
     rw[CJ,if_pos rfl] at h2
     split at h2
     . cases (Ap h2)
       exact⟨ps,JP,KR.thawn T r⟩
     . cases h2
   . rw[As (fun z=>hk z.symm)] at h2;have hap:a≠p:=fun z=>by
       subst z;exact hk<|(F8 (KF.mp h1).1 S1.nd).mp<|h1.trans hn'.symm
     exact OR.thawn T (HV hap)<|S1.ob k a ob h1 h2
def rL(h:SE X e m):SE X e (Oj i m):=by
 rintro qp s σ H Q I ⟨ρ,st,io,d,st',E,S,e0,k⟩;unfold Oj at e0
 split at e0
 . rename_i n _;obtain⟨⟨d1,s1⟩,e1,e0⟩:=HK e0;obtain⟨t,e2,e0⟩:=Ip e0;cases e0;unfold Vn at e2
   split at e2
   . rename_i kvs0 en0
     split at e2
     . rename_i kvs en;cases e2;refine HS (h qp s σ H (fun v H'=>∃ ka,Ext io ka H H'/\HN X.K H' (io++ka) s1/\Rep X.K H' (io++ka) v d) I ⟨ρ,st,io,d,s1,E,S,e1,fun v1 H1 k1 X1 S1 R1=>⟨k1,X1,S1,R1⟩⟩) ?_;rintro v s2 ⟨x,H1,I1,r1,k1,X1,S1,R1⟩;have hl:n < io.length:=by rw[S.len];exact (KF.mp en0).1
       obtain⟨ps0,h0,_⟩:=S.ob n _ _ (Ah hl) en0;have hn':(io++k1)[n]?=some io[n]:=by rw[Ai hl];exact Ah hl
       obtain⟨o,ps,hp,r⟩:=S1.ob n _ _ hn' en;obtain⟨T,X2,S2⟩:=rB S X1 S1 (Ah hl) h0 en hp r;refine⟨x,_,Inv.thaw I1 hp fun o u z=>?_,r1,k _ _ _ X2 S2<|Rep.thawn T R1⟩;have:=I.base.frzs _ _ _ z;rw[h0] at this;cases this
     . cases e2
   . cases e2
 . cases e0
end
def vK{at_:Addr}{vs:List IR}{k:Nat}{R:PySem.Fin->Shared->Prop}(hv:vs.length < 2)(g0:s.heap.get? at_=some (seqObj "list" vs.toArray k))(fin:R (.done<|.ret .none) { s with heap:=sortedHeap s.heap at_ vs vs.toArray }) :
   wpAny (KB prog w) A (Builtin.«list.sort» ⟨[.ref at_],[]⟩) R E s:=by
 have lt0:=Aj g0;have hz:vs.length<=sizeLine:=Az (BQ hv) (by decide);obtain⟨ep,g1⟩:∃ ep,(s.heap.update at_<|Bs fun _=>(#[]:Array IR)).get? at_=some (seqObj "list" #[] ep):=⟨_,get?_update_seq g0 fun _=>#[]⟩
 have g2:(((s.heap.update at_<|Bs fun _=>(#[]:Array IR)).push<|seqObj "tuple" vs.toArray 0).push<|seqObj "list" #[] 0).get? at_=some (seqObj "list" #[] ep):=Ad _<|Ad _ g1;rw[list_sort_plain];refine Aa (listItems_at g0 rfl<|Aa<|Eb g0 rfl (Aa<|Fb g1 rfl<|Aa<|Fk (Aa<|Dz<|A0 ?_)<|by simpa using hz)<|by simpa using hz);show wpAny (KB prog w) A _ R E { s with heap:=((s.heap.update at_<|Bs fun _=>(#[]:Array IR)).push<|seqObj "tuple" vs.toArray 0).push (seqObj "list" #[] 0) };have two:vs.toArray.size < 2:=by simpa using hv
 have same:(arrOf<|Ht general' (vs.toArray.zip vs.toArray) #[] 7 none).map (·.2)=vs.toArray:=by
   show ((vs.toArray.zip vs.toArray).map (·.2))=vs.toArray;simp;clear two g2 g1 g0 hz fin hv
   induction vs with
   | nil=>rfl
   | cons a r ih=>simpa using ih
 dsimp only;rw[if_pos two,if_pos two];refine Aa<|Ab ?_;rw[GI];refine Aa<|Ab ?_;dsimp only;rw[same];refine Aa<|Fb g2 rfl<|Aa<|Eb g2 rfl ?_ (hsz2:=by simp;omega);simp only[bne_self_eq_false,Bd,if_false];exact Ab fin
variable {Q:VK}{its:List IR}
section
variable {σ:L2.St}
def Inv.notL(I:Inv X qp σ H s){D:Addr}(h:s.heap.get? D=none):D≠X.env.locals/\X.base.get? D=none/\H D=none:=by
 refine⟨fun z=>?_,?_,?_⟩
 . obtain⟨m,⟨o,_,_,e,_⟩,_⟩:=I.loc;rw[<-z,h] at e;cases e
 . cases e:X.base.get? D with
   | none=>rfl
   | some u=>rw[(I.bs D u e).1] at h;cases h
 . cases e:H D with
   | none=>rfl
   | some o =>
     obtain⟨u,hu⟩:=aU<|I.hok D o e;rw[h] at hu;cases hu
def uJ{D:Addr}{h':KM}(I:Inv X qp σ H s)(rv:Vals xs its)(h2:xs.length < 2)(k:∀ b o,s.heap.get? b=some o->h'.get? b=some o)(hD:s.heap.get? D=none)(gD:h'.get? D=some (seqObj "list" its.toArray 0))(h:∀ p,H p=none->Q (.ref p) (upd H p<|.lst xs)) :
   wpAny (KB X.prog X.w) X.A.in1.in1 (Builtin.«list.sort» ⟨[.ref D],[]⟩) (fun f s'=>f=.done (.ret .none)/\EP X qp σ Q (.ref D) s') (fun _ _=>False) { s with heap:=h' }:=by
 have hlen:=rv.length;have hz:xs.length<=sizeLine:=Az (BQ h2) (by decide);refine vK (by omega) gD ⟨rfl,?_⟩;obtain⟨n1,n2,n3⟩:=Inv.notL I hD;obtain⟨ep,e⟩:=sortedHeap_at (out:=its.toArray) gD;have kk:∀ b u,s.heap.get? b=some u->(sortedHeap h' D its its.toArray).get? b=some u:=fun b u q=>by
   have hb:b≠D:=fun z=>by rw[z,hD] at q;cases q
   rw[sortedHeap_old hb (Aj<|k b u q)];exact k b u q
 have J:Inv X qp σ (upd H D<|.lst xs) { s with heap:=sortedHeap h' D its its.toArray }:=by obtain⟨m,F⟩:=I.fr;refine Inv.laidAt (m:=m) I (fun b u _=>kk b u) (fun m' ⟨o,a1,a2,q,a3⟩=>⟨o,a1,a2,kk _ _ q,a3⟩) (let ⟨m',⟨o,_,_,q,_⟩,_⟩:=I.loc;⟨o,kk _ _ q⟩) hD n3 n1 ⟨hz,its,ep,rv,e⟩
 exact⟨.ref D,_,J,rfl,h D n3⟩
def uK{ts:List (List Int)}{D:Addr}{h0:KM}(I:Inv X qp σ H s)(rv:Vals xs its)(T:Qj H xs ts)(h2:2<=ts.length)(h64:ts.length < 64)(k0:∀ b o,s.heap.get? b=some o->h0.get? b=some o)(hsD:s.heap.get? D=none)(gD:h0.get? D=some (seqObj "list" its.toArray 0))
   (h:∀ (q:Array Nat) (p:Addr),q.Perm (Cc<|Bo ts.length)->Srt.Up (rank ts) q ts.length->H p=none->Q (.ref p) (upd H p<|.lst<|q.toList.map fun i=>xs.getD i .non)) :
   wpAny (KB X.prog X.w) X.A.in1.in1 (Builtin.«list.sort» ⟨[.ref D],[]⟩) (fun f s'=>f=.done (.ret .none)/\EP X qp σ Q (.ref D) s') (fun _ _=>False) { s with heap:=h0 }:=by
 have hlen:its.length=ts.length:=by have a:=rv.length;have b:=By T;omega
 obtain⟨m,F⟩:=I.fr;have trkL:∀ b,H b≠none->b≠X.env.locals:=fun b hb z=>hb (by rw[z];exact I.free);obtain⟨n1,n2,hHD⟩:=Inv.notL I hsD;have nD:∀ p∈O8 X.base s.heap X.env.locals,p.1≠D:=fun p hp z=>by have q:=(V6 (g:=X.base) (h:=s.heap) (L:=X.env.locals) p hp).1;rw[z,hsD] at q;cases q
 refine PySem.W.kat_list_sort (s:={ s with heap:=h0 }) (news:=O8 X.base s.heap X.env.locals) (F.kept k0) ((V6 (g:=X.base) (h:=s.heap) (L:=X.env.locals)).grown k0) gD n1 n2 nD (by omega) (by omega) fun e1 h' F' N'=>?_;have keep:∀ {h2:KM} {o:Obj},PyProof.Rows.Fr X.base X.env.locals h2 m->News X.base X.env.locals h2 ((D,o)::O8 X.base s.heap X.env.locals)->∀ b u,b≠X.env.locals->s.heap.get? b=some u->h2.get? b=some u:=fun {h2 o} F2 N2 b u hb e=>by
   cases q:X.base.get? b with
   | some v =>
     have z:=(I.bs b v q).1;rw[e] at z;cases z;exact F2.keep b _ q
   | none=>exact (N2 (b,u)<|Ak _<|WH hb q e).1
 have hk:∀ b o,H b≠none->s.heap.get? b=some o->h'.get? b=some o:=fun b o hb e=>keep F' N' b o (trkL b hb) e;obtain⟨fs,k1,k2,k3⟩:=VR (h':=h') I hk T rv;refine Gs (s:={ s with heap:=h' }) (T:=.type "int") k1 (by omega) (fun v hv=>?_) rfl ?_
 . obtain⟨i,t,rfl⟩:=k3 v hv;exact Fj rfl
 have ok:=Srt.LF (n:=its.length) (r:=rank ts) (by omega);refine UP (n:=its.length) (r:=rank ts) (s:={ s with heap:=h' }) (fun i j hi hj C hC=>YB (s':={ s with heap:=h' }) I hk T rv (by omega) (by omega) C hC) (fun q hq=>?_) ok;refine Fw F' N' (Ga nD) fun h2 c F2 N2=>⟨rfl,?_⟩
 have hD2:=(N2 _ Ao).1;rw[hlen] at hq;have vals:Vals (q.toList.map fun i=>xs.getD i .non) (q.toList.map fun i=>its.getD i AE):=by
   have hmem:∀ i∈q.toList,i < xs.length:=fun i hi=>by have:i∈(Cc<|Bo ts.length).toList:=(Array.perm_iff_toList_perm.mp hq.1).mem_iff.mp hi;have hr:=rv.length;simp at this;omega
   generalize q.toList=ql at hmem
   induction ql with
   | nil=>exact .nil
   | cons i r ih =>
     refine .cons ?_<|ih fun j hj=>hmem j (Ak _ hj);have hi:=hmem i Ao;obtain⟨u,eu,ru⟩:=rv.get<|Ah hi;show RelV (xs.getD i V.non) (its.getD i AE);rw[Ay,Ay,Ah hi,eu];exact ru
 have hql:q.toList.length=ts.length:=by have:=(Array.perm_iff_toList_perm.mp hq.1).length_eq;simpa using this
 have J:Inv X qp σ (upd H D<|.lst<|q.toList.map fun i=>xs.getD i .non) { s with heap:=h2 } :=
   Inv.laidAt (m:=m) I (keep F2 N2) (fun m' hm'=>by rw[YJ hm' F.ns];exact F2.ns) (let ⟨o,_,_,e,_⟩:=F2.ns;⟨o,e⟩) hsD hHD n1 ⟨by rw[Af,hql];exact MJ h64,_,c,vals,hD2⟩
 exact⟨.ref D,_,J,rfl,h q D hq.1 hq.2 hHD⟩
end
def zM{ts:List (List Int)}{q:Array Nat}(S:HN K H io st)(r1:HC K H io xs (ts.map Il))(hq:q.Perm (Cc<|Bo ts.length))(hu:Srt.Up (rank ts) q ts.length)(hf:H p=none)(k:Bh K io H (st++[.lst ((Lj ts).map Il)]) (.ref st.length) Q):Q (.ref p) (upd H p<|.lst<|q.toList.map fun i=>xs.getD i .non):=by
 have hm:∀ i∈q.toList,i < ts.length:=fun i hi=>by have:=(Array.perm_iff_toList_perm.mp hq).mem_iff.mp hi;simpa using this
 have rr:=Wg r1 hm;rw[cD hq hu] at rr;exact k.lst S rr hf
open PySem.SeqAt PySem.MeetsSeq PySem.MeetsSeq2 PySem.MeetsSeq3
def zfo{t sl:Addr}{items:Array IR}{vl vu:IR}{lo hi:Option Int}{Q:Qqa}(ht:IsTup s.heap t items)(hs:s.heap.IsSliceOf sl vl vu .none)(pl:IsPart vl lo)(pu:IsPart vu hi)
   (h0:HT.Ih items.size 0 lo=0) (h1:HT.Ih items.size items.size hi=items.size) (h:Q (.ref t) s):wpAny (KB prog w) A (getItem (.ref t)<|.ref sl) Q E s:=by
 obtain⟨os,hos,hcs,hds⟩:=id hs;have hTs:s.TypeIs (.ref sl) "slice":=⟨os,hos,hcs⟩
 unfold getItem
 try with_reducible refine A0 ?_
 first | refine Aa (Ab ?_) | skip
 refine Aa (F6 ht.typeIs (by decide)<|Aa<|AY (name:=BB "__getitem__") ht.typeIs BW<|AO BW ht.typeIs FD ?_<|FP _ _);show wpAny _ _ (D9 (.ref t) >>= _) _ _ s;refine Aa<|tupleItemsOf_ ht<|Aa<|Ca hTs ?_;rw[if_pos (by decide)];refine Aa<|HT.IM hs pl pu ?_;rw[h0,h1];have yes:((((0:Nat):Int)==0&&(1:Int)==1&&(items.size - 0)==items.size)=true):=by simp
 show wpAny _ _ (if (((0:Nat):Int)==0&&(1:Int)==1&&(items.size - 0)==items.size)=true then _ else _) _ _ s;rw[if_pos yes];refine Aa (m:=Builtin.Tuple.tupleIsExact _)<|Aa<|Ca ht.typeIs<|Ab ?_;rw[if_pos (by decide)];exact Aa (m:=(pure (Hh<|Hi<|Au t):Sem Fin))<|Ab<|Ab ⟨_,rfl,Ab h⟩
def Xm(K:Ac):V->Option Int->Option Int->Hp->VK->Prop:=fun x lo hi H Q=>∃ a xs,x=.ref a/\IQ K H a xs/\HT.Ih xs.length 0 lo=0/\HT.Ih xs.length xs.length hi=xs.length/\Q (.ref a) H
def vI:QB X (Xm X.K):=by
 intro qp s σ H x v vl vu lo hi sl Q I rx hs pl pu h;obtain⟨a,xs,rfl,hx,h0,h1,q⟩:=h;cases rx;obtain⟨its,r,ht,hz⟩:=I.tuple hx;have hlen:its.toArray.size=xs.length:=by rw[Aw];exact r.length.symm
 exact⟨"tuple",_,PyProof.Rows.slot_tuple_getitem.lookup,ht.typeIs,zfo ht hs pl pu (by rw[hlen];exact h0) (by rw[hlen];exact h1) ⟨.ref a,H,I,rfl,q⟩⟩
def Xi:D->Option Int->Option Int->HB->Option (D×HB):=fun x lo hi st=>match x with
 | .tup ds=>if (decide (HT.Ih ds.length 0 lo=0)&&decide (HT.Ih ds.length ds.length hi=ds.length))=true then some (.tup ds,st) else none
 | _=>none
def Pu:D->Option Int->Option Int->HB->Option (D×HB):=fun x lo hi st=>LH (My x lo hi st)<|Xi x lo hi st
def KW(m:ME)(l h:MO):ME:=fun ρ st=>(m ρ st).bind fun (x,s1)=>(l ρ s1).bind fun (lo,s2)=>(h ρ s2).bind fun (hi,s3)=>Pu x lo hi s3
def Wl{lo hi:Option Os}{ml mh:MO}{p2:Pos}(he:SE X e m)(hl:SO X lo ml)(hu:SO X hi mh):SE X (.Subscript e (.Slice lo hi none p2) pos) (KW m ml mh):=by
 rintro qp s σ H Q I ⟨ρ,st,io,d,st',E,S,e0,k⟩;obtain⟨⟨x,s1⟩,e1,e0⟩:=HK e0;obtain⟨⟨lo',s2⟩,e2,e0⟩:=HK e0;obtain⟨⟨hi',s3⟩,e3,e0⟩:=HK e0
 rcases Nh e0 with e0 | e0
 . exact Rg he hl hu qp s σ H Q I ⟨ρ,st,io,d,st',E,S,by simp only[J0,e1,e2,e3,Ae];exact e0,k⟩
 . refine TX vI he hl hu qp s σ H Q I ?_;refine⟨ρ,st,io,x,s1,E,S,e1,fun v1 H1 k1 X1 S1 R1=>⟨ρ,s1,io++k1,lo',s2,E.ext S X1,S1,e2,fun H2 k2 X2 S2=>⟨ρ,s2,(io++k1)++k2,hi',s3,(E.ext S X1).ext S1 X2,S2,e3,fun H3 k3 X3 S3=>?_⟩⟩⟩;have R3:=(R1.ext S1 X2).ext S2 X3;have k':=((k.on S1 X1).on S2 X2).on S3 X3;unfold Xi at e0
   split at e0
   . rename_i ds;obtain⟨hw,e0⟩:=IJ e0;cases e0;rw[Ar] at hw;obtain⟨p,xs,rfl,hp,r⟩:=id R3;exact⟨p,xs,rfl,IQ.of hp,by rw[r.length];exact of_decide_eq_true hw.1,by rw[r.length];exact of_decide_eq_true hw.2,k'.now S3 R3⟩
   . cases e0
end L2.MP
namespace L2.MP
open PySem L2 PySem.Spec PyProof.Rows
section
variable {K:Ac} {x:Str} {st:Wp} {f:Addr}
structure Oh(K:Ac)(x:Str)(st:Wp)(f:Addr):Prop where
 ex:∃ (oc:IR) (od:Option Addr) (kV dc pm:IR) (an:Option Addr) (cd ct:IR) (sl:Array (Option IR)),K.lookup f=some ⟨oc,od,.func (B8 x x (Nd st) (Ki st) (IL st) .none kV dc pm an cd ct),sl⟩/\Dk K cd x=true
 ns:FR K mainGlobals x=some (some (.ref f))
 kp:BV K (.ref f)=true
def eV{oc kV dc pm cd ct:IR}{od an:Option Addr}{sl:Array (Option IR)}(a:FR K mainGlobals x=some (some<|.ref f))(l:K.lookup f=some ⟨oc,od,.func<|B8 x x (Nd st) (Ki st) (IL st) .none kV dc pm an cd ct,sl⟩)(c:Dk K cd x=true)(k:BV K (.ref f)=true):Oh K x st f :=
 ⟨⟨oc,od,kV,dc,pm,an,cd,ct,sl,l,c⟩,a,k⟩
end
variable {α:Type}
def PM{P:List α->Prop}(h:∀ a,P [a])(l:List α)(e:l.length=1):P l:=by
 rcases l with _ | ⟨a,_ | ⟨b,l⟩⟩
 . cases e
 . exact h a
 . cases e
def N1{P:List α->Prop}(h:∀ a b,P [a,b])(l:List α)(e:l.length=2):P l:=by
 rcases l with _ | ⟨a,l⟩
 . cases e
 exact PM (P:=fun l=>P (a::l)) (h a) l<|EA e
def PL{P:List α->Prop}(h:∀ a b c,P [a,b,c])(l:List α)(e:l.length=3):P l:=by
 rcases l with _ | ⟨a,l⟩
 . cases e
 exact N1 (P:=fun l=>P (a::l)) (h a) l<|EA e
def PJ{P:List α->Prop}(h:∀ a b c d,P [a,b,c,d])(l:List α)(e:l.length=4):P l:=by
 rcases l with _ | ⟨a,l⟩
 . cases e
 exact PL (P:=fun l=>P (a::l)) (h a) l<|EA e
def RR{P:List α->Prop}(h:∀ a b c d f,P [a,b,c,d,f])(l:List α)(e:l.length=5):P l:=by
 rcases l with _ | ⟨a,l⟩
 . cases e
 exact PJ (P:=fun l=>P (a::l)) (h a) l<|EA e
end L2.MP
namespace L2.MP
open PySem PySem.Spec PyProof.Rows
variable {s:Shared}
section
variable {prog:Pv} {w:UF} {A:Around} {E:Qqa}
def xT{T:String}{r d:Addr}{n:Nat}{P:Nat->IR->Prop}{OK:KM->Prop}{R:Qqa}(K:GV prog w T r d n P OK)(hh:A.handled=none)(hok:OK s.heap)(hz:n<=sizeLine)
   (go:∀ (D:Addr) (h':KM) (tk:Nat) (vs:List IR),(∀ b o,s.heap.get? b=some o->h'.get? b=some o)->s.heap.get? D=none->h'.get? D=some (seqObj "list" vs.toArray 0)->vs.length=n->(∀ (j:Nat) (v:IR),vs[j]?=some v->P j v)->wpAny (KB prog w) A.in1.in1 (Builtin.«list.sort» ⟨[.ref D],[]⟩) (fun f s'=>f=.done (.ret .none)/\R (.ref D) s') (fun _ _=>False) { s with heap:=h',toks:=tk }) :
   wpAny (KB prog w) A (call (.builtin "sorted") [.ref r]) R E s:=by
 refine Da kind_sorted plain_sorted entry_sorted (FU _) ?_;unfold Builtin.«sorted»;refine Aa (m:=checkCount "sorted" 1 1 _) (Ab<|Aa<|PySem.W.kdu_collect (A:=A.in1) K hh hok hz fun h1 tk acc k1 hacc=>Aa (Dz ?_ (by rw[AK,hacc.1];exact hz)));have g0:(h1.push<|seqObj "list" acc.toList.toArray 0).get? h1.objs.size=some (seqObj "list" acc.toList.toArray 0):=Am _ rfl;have fr:s.heap.get? h1.objs.size=none:=by
   cases e:s.heap.get? h1.objs.size with
   | none=>rfl
   | some u=>exact absurd (Aj<|k1 _ _ e)<|AZ _
 refine Aa<|A0<|AO Fm ⟨_,g0,rfl⟩ ER (A8 (go _ _ tk acc.toList (fun b u e=>Ad _ (k1 b u e)) fr g0 (by rw[AK,hacc.1]) fun j v e=>hacc.2 j v (by rw[<-Bp];exact e)) (fun f s' ⟨e,r⟩=>?_) fun _ _ x=>x.elim)<|Fn _;subst e;exact⟨_,rfl,Ab ⟨_,rfl,r⟩⟩
end
variable {X:Cx}{K:Ac}{H:Hp}{io:List Addr}{st st':HB}
def NH:GN
 | [.ref n],st=>match st[n]? with
   | some (.dt kvs)=>if fits kvs.length=true then (if decide ((J9 kvs).length < 2)=true then some (.ref st.length,st++[.lst (J9 kvs)]) else (rowsOf<|J9 kvs).bind fun ts=>if (decide (2<=ts.length)&&decide (ts.length < 64))=true then some (.ref st.length,st++[.lst ((Lj ts).map Il)]) else none) else none
   | _=>none
 | _,_=>none
def Inv.tk{qp:List (Addr×Obj)}{σ:L2.St}(I:Inv X qp σ H s)(t':Nat):Inv X qp σ H { s with toks:=t' }:=Inv.step (t':=t') (ch:=[]) (g':=s.gens) (d':=s.drawn) I (fun b hb=>absurd hb (by simp)) (fun b u _ _ _ e _=>e) (fun b u _ _ _ e _=>⟨u.slots,e⟩) (fun b u _ e n=>n) (fun b u _ e=>⟨u,e⟩)
   (fun b xs e=>e) (fun b u v e=>e) (fun b ps e=>⟨#[],by rw[e];simp⟩) (fun m h=>h) (fun b u e=>I.hok b u e) I.bare
def zft(hc:X.calm=true):J4 X (.builtin "sorted") NH:=by
 rintro qp s σ H xs us Q I r ⟨ds,st,io,d,st',R,S,e,k⟩;unfold NH at e
 split at e
 . rename_i n
   split at e
   . rename_i kvs en;obtain⟨hf,e⟩:=IJ e;obtain⟨v,rfl,p,rfl,hp⟩:=R.one;obtain⟨u,rfl,ru⟩:=r.one;cases ru;obtain⟨ps,hH,rk⟩:=S.ob n p _ hp en;obtain⟨t1,t2,hs⟩:=Ve I<|.inr ⟨ps,.inl hH⟩;obtain⟨z,y,xs,r0,o,es,ep,g,ex,dd,et,nd⟩:=I.hok p _ hH;have x:=I.hok p _ hH;have fz:Ju X.prog X.w H s.heap p (.frz o<|.dT ps):=⟨g,x⟩
     obtain⟨g',hl,ent⟩:=VO fz dd;have hsz:es.size<=sizeLine:=by rw[hl,KR.length rk];exact of_decide_eq_true hf
     refine xT (uM (prog:=X.prog) (w:=X.w) dd hs fun s' g'=>?_) (I.ok.hd hc) g hsz fun D h' tk vs hk hD gD hvl hvs=>?_
     . obtain⟨o',ho',hc'⟩:=t1;rw[g] at ho';cases ho';exact⟨o,g',hc'⟩
     . obtain⟨ys,rv,rr⟩:=bK (vs:=vs) rk (by rw[hvl,hl]) fun j v q e1 e2=>by
         obtain⟨en',h1,h2⟩:=hvs j v e1;obtain⟨en2,b,h3,h4,h5,_⟩:=ent j q.1 q.2 e2;rw[h1] at h3;cases h3;exact⟨b,by rw[h2,h4],h5⟩
       have hyl:ys.length=(J9 kvs).length:=rr.length
       split at e
       . rename_i h2;cases e;exact uJ (s:={ s with toks:=tk }) (Inv.tk I tk) rv (by rw[hyl];exact of_decide_eq_true h2) hk hD gD fun q hf=>k.lst S rr hf
       obtain⟨ts,e1,e⟩:=HK e;obtain⟨h2,e⟩:=IJ e;cases e;rw[Ar] at h2;obtain⟨T,hd⟩:=VI rr e1;rw[hd] at rr;exact uK (s:={ s with toks:=tk }) (Inv.tk I tk) rv T (of_decide_eq_true h2.1) (of_decide_eq_true h2.2) hk hD gD fun q p' hq hu hf=>zM S rr hq hu hf k
   . cases e
 . cases e
section
variable {o e value:Os} {es:List Os} {m mo mv:ME} {mm:MA} {pos pos' apos:Pos} {C:Addr} {f:Str}
def inClass(st:Wp)(j:Nat):Wp:=match st with
 | .ClassDef _ _ _ body _ _ _ _ _ _ _=>body.getD j<|.Pass ⟨0,0,0,0⟩
 | _=>.Pass ⟨0,0,0,0⟩
end
open L2
end L2.MP
namespace L2.MP
open PySem PySem.Spec PyProof.Rows
end L2.MP
namespace L2.MP
open PySem PySem.Spec
variable {κ:Type}
section
variable [DecidableEq κ]
def met(val:Nat->κ):Nat->List κ
 | 0=>[]
 | i+1=>if val i∈met val i then met val i else met val i++[val i]
def Vv(val:Nat->κ):∀ i,(met val i).length<=i
 | 0=>Ag _
 | i+1=>by
   have ih:=Vv val i;unfold met
   split
   . omega
   rw[AM,BH];omega
def pX(val:Nat->κ)(i:Nat)(x:κ):decide (x∈met val (i+1))=(decide (x∈met val i) || decide (x=val i)):=by
 rw[Bool.eq_iff_iff,DJ,decide_eq_true_iff,decide_eq_true_iff,decide_eq_true_iff];rw[met]
 split
 . rename_i h
   constructor
   . exact .inl
   . rintro (z | z)
     . exact z
     rw[z];exact h
 rw[List.mem_append,D0]
def tK(val:Nat->κ)(i:Nat):(met val<|i+1).length=if decide (val i∈met val i)=true then (met val i).length else (met val i).length+1:=by
 rw[met]
 by_cases h:val i∈met val i
 . rw[if_pos h,if_pos (decide_eq_true h)]
 rw[if_neg h,if_neg (by simpa using h),AM];rfl
end
section
variable {prog:Pv} {w:UF} {A:Around} {E:Qqa} {s:Shared} [DecidableEq κ] {knd:KeyKind prog w κ}
def Mk(led:Bool):Obj:={ cls:=.type "set",dict:=none,data:=.set #[] 0 (.fresh 0 0 led) }
end
open PyProof.Rows
section
variable {X:Cx} {K:Ac} {H:Hp} {io:List Addr} {st st':HB}
def jD:UV "set"=some (.type "set"):=by decide +kernel
end
end L2.MP
namespace L2.MP
open PySem PySem.Spec
open PyProof.Rows
variable {X:Cx}{K:Ac}{H:Hp}{io:List Addr}{st st':HB}{a b c:Str}
section
variable {pos:Pos}
def Vg(a b c:Str)(m1 m2 m3:ME):ME:=fun ρ st=>(m1 ρ<|st++[.dk []]).bind fun (x,s1)=>(m2 ρ s1).bind fun (y,s2)=>(m3 ρ s2).bind fun (z,s3)=>match s3[st.length]? with
 | some (.dk [])=>some (.ref st.length,s3.set st.length (.dk [(.inr a,x),(.inr b,y),(.inr c,z)]))
 | _=>none
def lL(h:(a≠b/\a≠c)/\b≠c)(x y z:V):LC [] [(.inr a,x),(.inr b,y),(.inr c,z)]=[(.inr a,x),(.inr b,y),(.inr c,z)]:=by obtain⟨⟨h1,h2⟩,h3⟩:=h;simp[LC,putK,h1,h2,h3]
def vC{e1 e2 e3 k1 k2 k3:Os}{m1 m2 m3:ME}(q1:SE X k1 (mK<|.str a))(h1:SE X e1 m1)(q2:SE X k2 (mK<|.str b))(h2:SE X e2 m2)(q3:SE X k3 (mK<|.str c))(h3:SE X e3 m3)(hd:(a≠b/\a≠c)/\b≠c) :
   SE X (.Dict [some k1,some k2,some k3] [e1,e2,e3] pos) (Vg a b c m1 m2 m3) :=
 PE.imp (pL (V9 q1 h1<|V9 q2 h2<|V9 q3 h3 nY) rfl rfl (by simp)<|by simp) <| by
   rintro σ H Q ⟨ρ,st,io,d,st',E,S,e,k⟩;obtain⟨⟨x,s1⟩,e1,e⟩:=HK e;obtain⟨⟨y,s2⟩,e2,e⟩:=HK e;obtain⟨⟨z,s3⟩,e3,e⟩:=HK e;intro p hp;obtain⟨E',S'⟩:=O4 (o:=.dK []) (ob:=.dk []) S hp fun H' T e=>⟨[],e,.nil⟩
   have E0:=E.ext S E';refine⟨ρ,_,_,_,_,E0,S',rfl,fun w1 H1 j1 X1 S1 R1=>?_⟩;refine⟨ρ,_,_,x,s1,E0.ext S' X1,S1,e1,fun v1 H2 j2 X2 S2 R2=>?_⟩;have E2:=(E0.ext S' X1).ext S1 X2;refine⟨ρ,_,_,_,_,E2,S2,rfl,fun w2 H3 j3 X3 S3 R3=>?_⟩;refine⟨ρ,_,_,y,s2,E2.ext S2 X3,S3,e2,fun v2 H4 j4 X4 S4 R4=>?_⟩;have E4:=(E2.ext S2 X3).ext S3 X4;refine⟨ρ,_,_,_,_,E4,S4,rfl,fun w3 H5 j5 X5 S5 R5=>?_⟩;refine⟨ρ,_,_,z,s3,E4.ext S4 X5,S5,e3,fun v3 H6 j6 X6 S6 R6=>?_⟩;dsimp only at e
   split at e
   . rename_i eq2;cases e;have hlen:io.length=st.length:=S.len;have hp0:(((((((io++[p])++j1)++j2)++j3)++j4)++j5)++j6)[st.length]?=some p:=by
       simp only[Aq];rw[AV (by omega),hlen,CN];rfl
     obtain⟨ps,hH,r⟩:=S6.ob st.length p _ hp0 eq2;cases r
     cases (show w1=.str a from R1)
     cases (show w2=.str b from R3)
     cases (show w3=.str c from R5)
     refine⟨hH,[(.inr a,v1),(.inr b,v2),(.inr c,v3)],rfl,by simp,?_⟩;rw[lL hd];have r1:=(((R2.ext S2 X3).ext S3 X4).ext S4 X5).ext S5 X6;have r2:=(R4.ext S4 X5).ext S5 X6;obtain⟨E7,S7⟩:=Ow (o:=.dK [(.inr a,v1),(.inr b,v2),(.inr c,v3)]) (ob:=.dk [(.inr a,x),(.inr b,y),(.inr c,z)]) S6 hp0 eq2 (fun o u z=>by rw[hH] at z;cases z) fun H' T e'=>⟨_,e',.cons ⟨rfl,Rep.mono T r1⟩<|.cons ⟨rfl,Rep.mono T r2⟩<|.cons ⟨rfl,Rep.mono T R6⟩ .nil⟩
     have k':=((((((k.on S' E').on S1 X1).on S2 X2).on S3 X3).on S4 X4).on S5 X5).on S6 X6;exact k' _ _ [] E7 S7 ⟨p,rfl,by rw[Al];exact hp0⟩
   . cases e
end
section
variable {m:ME} {tg:Os}
end
end L2.MP
namespace L2.MP
open PySem PySem.Spec
variable {t:SetTable}{es:Array (Int×IR)}{n:Nat}
def zL(hp:t.plain=false):(relayAll t es n).2.1.plain=false:=by
 unfold relayAll
 split
 . rename_i t1 od e1;have q:t1.plain=false:=by
     unfold GL G8 at e1
     cases hc:Gd (FX n - 1) (es.map (·.1)) with
     | none=>rw[hc] at e1;cases e1
     | some ow =>
       rw[hc] at e1;cases e1;exact hp
   dsimp only
   split
   . exact q
   rfl
 rfl
def yG:(relayAll t es n).2.1.led=t.led:=by
 unfold relayAll
 split
 . rename_i t1 od e1;have q:t1.led=t.led:=by
     unfold GL G8 at e1
     cases hc:Gd (FX n - 1) (es.map (·.1)) with
     | none=>rw[hc] at e1;cases e1
     | some ow=>rw[hc] at e1;cases e1;rfl
   dsimp only
   split
   . exact q
   rfl
 rfl
variable {x:IR}
def pU{h:Int}:(layNew t es h x).2.1.led=t.led:=by
 unfold layNew
 split
 . dsimp only;unfold SetTable.orStandIn
   split <;> rfl
 rfl
variable {h:KM}{prog:Pv}{w:UF}{A:Around}{E:Qqa}{s:Shared}{a:Addr}{o:Obj}{ep:Nat}
section
variable {κ:Type} [DecidableEq κ] {knd:KeyKind prog w κ}
def Jd(knd:KeyKind prog w κ)(h:KM)(a:Addr)(S:κ->Bool)(n:Nat):Prop :=
 ∃ o es ep t,h.get? a=some o/\o.ExactSet/\o.data=.set es ep t/\ElemsOf knd es.toList/\(∀ k,S k=true ↔ ∃ e∈es.toList,knd.is k e.2=true)/\es.size < scanBound/\t.fits es.size=true/\es.size=n/\(n=0\/t.plain=false)/\(w.params.followText "set-order"=true\/t.led=true)
def Jd.as{S S':κ->Bool}{n':Nat}(x:Jd knd h a S n)(e:∀ k,S k=S' k)(en:n=n'):Jd knd h a S' n':=by have:S=S':=funext e;subst this;subst en;exact x
def cO{es2:Array (Int×IR)}{t2:SetTable}{S:κ->Bool}(g:h.get? a=some o)(gx:o.ExactSet)(gd:o.data=.set es ep t)(k1:ElemsOf knd es2.toList)(k2:∀ k,S k=true ↔ ∃ e∈es2.toList,knd.is k e.2=true)(k3:es2.size < scanBound)(k4:t2.fits es2.size=true)(k5:es2.size=n)(k6:t2.plain=false)(k7:w.params.followText "set-order"=true\/t2.led=true) :
   (h.update a<|GM es2 t2).get? a=some { o with data:=.set es2 (ep+1) t2 }/\Jd knd (h.update a<|GM es2 t2) a S n:=by
 obtain⟨y,_⟩:=SetOf_store (knd:=knd) g gx gd k1 k2 k3 k4;exact⟨y,_,es2,ep+1,t2,y,gx,rfl,k1,k2,k3,k4,k5,.inr k6,k7⟩
def qA{S:Str->Bool}{z:Str}{tk:Tok}{Q:Bool->Shared->Prop}(x:Jd (strKind prog w) s.heap a S n)(room:n+1 < scanBound)
   (q:∀ h',BA a s.heap h'->Jd (strKind prog w) h' a (fun y=>S y || decide (y=z)) (if S z then n else n+1)->Q (!S z) { s with heap:=h' }) :
   wpAny (KB prog w) A (setAddHashed a (.str z tk)<|(strKind prog w).hash z) Q E s:=by
 have key:(strKind prog w).is z (.str z tk)=true:=by show D6 z (.str z tk)=true;simp[D6]
 obtain⟨o,es,ep,t,g,gx,gd,k1,k2,k3,k4,k5,k6,k7⟩:=x;have r1:es.size+1 < scanBound:=by omega
 have sc:(FI z tk).scannable=true:=rfl;unfold setAddHashed setAddHashedIn;refine A0<|Aa<|Bx g gd k4 ?_;dsimp only;rw[byScan_of sc k3 k1];simp only[if_true];unfold setAddByScan;refine Aa<|Aa<|BY<|Aa<|wpAny_setScan_of key g gd k4 k1 ?_
 cases hr:List.findIdx? (fun e=>(strKind prog w).is z e.2) es.toList with
 | some j =>
   dsimp only;obtain⟨hj,hp,_⟩:=List.findIdx?_eq_some_iff_getElem.mp hr;have hS:S z=true:=(k2 z).mpr ⟨es.toList[j],BI hj,hp⟩;refine Ab<|Ab ?_;have es0:s={ s with heap:=s.heap }:=by cases s;rfl
   have:=q s.heap (Heap.SameBut.refl a s.heap) ⟨o,es,ep,t,g,gx,gd,k1,fun y=>by rw[DJ,decide_eq_true_eq,<-k2 y];exact⟨fun hk=>hk.elim id (fun e=>e ▸ hS),.inl⟩,k3,k4,by rw[hS];exact k5,by rw[hS];exact k6,k7⟩
   rw[hS] at this;rw[es0];exact this
 | none =>
   dsimp only;have hS:S z=false:=by
     cases hk:S z with
     | false=>rfl
     | true =>
       obtain⟨e,he,hp⟩:=(k2 z).mp hk;have:=List.findIdx?_eq_none_iff.mp hr e he;rw[hp] at this;cases this
   have lp:=layNew_perm t es ((strKind prog w).hash z)<|.str z tk;have lf:=layNew_fits t es ((strKind prog w).hash z)<|.str z tk;have ll:=pU (t:=t) (es:=es) (h:=(strKind prog w).hash z) (x:=.str z tk);generalize layNew t es ((strKind prog w).hash z) (.str z tk)=L at lp lf ll ⊢;obtain⟨es1,t1,wd,gv⟩:=L;dsimp only at lp lf ll ⊢;rw[Ge] at lp;rw[<-ll] at k7;have m1:ElemsOf (strKind prog w) es1.toList:=(k1.push key sc).perm lp;have m2:=mem_push_iff key k2 lp;have sz:es1.size=n+1:=by rw[<-AK,lp.length_eq,AM,AK,k5];rfl
   have m3:es1.size < scanBound:=by rw[sz];exact room
   have fin:∀ h',BA a s.heap h'->Jd (strKind prog w) h' a (fun y=>S y || decide (y=z)) (n+1)->Q true { s with heap:=h' }:=fun h' sb y=>by have:=q h' sb;rw[hS] at this;exact this y
   have gw:∀ (b:Bool) {s1:Shared} {Q1:Unit->Shared->Prop},Q1 () s1->wpAny (KB prog w) A (match b with | true=>rule "set.scan.the-table-gave-way" | false=>pure ()) Q1 E s1:=fun b s1 Q1 y=>by
     cases b
     . exact Ab y
     exact BY y
   have tail:∀ t2:SetTable,t2.fits es1.size=true->t2.plain=false->t2.led=t1.led->wpAny (KB prog w) A (do
       storeSet a es1 t2
       if (!wd&&t2.tooFull)=true then do
           (match (relayAll t2 es1<|BE es1.size).2.2 with | true=>rule "set.scan.the-table-gave-way" | false=>pure ())
           storeSet a (relayAll t2 es1<|BE es1.size).1 (relayAll t2 es1<|BE es1.size).2.1
           pure (some true)
         else pure (some true)) (fun r s1=>r=some true/\∃ h',s1={ s with heap:=h' }/\BA a s.heap h'/\Jd (strKind prog w) h' a (fun y=>S y || decide (y=z)) (n+1)) E s:=fun t2 f2 p2 l2=>by
     rw[<-l2] at k7;refine Aa<|Gf g gd ?_<|Gg m3;obtain⟨g1,x1⟩:=cO (knd:=strKind prog w) g gx gd m1 m2 m3 f2 sz p2 k7;have b1:=AX s.heap a<|GM es1 t2
     split
     . have rp:=relayAll_perm t2 es1<|BE es1.size;have rf:=relayAll_fits t2 es1<|BE es1.size;have rq:=zL (es:=es1) (n:=BE es1.size) p2;have rl:=yG (t:=t2) (es:=es1) (n:=BE es1.size);rw[<-rl] at k7;generalize relayAll t2 es1 (BE es1.size)=Rl at rp rf rq k7 ⊢;obtain⟨es2,t3,gv2⟩:=Rl;dsimp only at rp rf rq k7 ⊢;have s2:es2.size=es1.size:=by rw[<-AK,rp.length_eq,AK]
       have n2:∀ y,(S y || decide (y=z))=true ↔ ∃ e∈es2.toList,(strKind prog w).is y e.2=true:=fun y=>(m2 y).trans ⟨fun⟨e,he,u⟩=>⟨e,rp.mem_iff.mpr he,u⟩,fun⟨e,he,u⟩=>⟨e,rp.mem_iff.mp he,u⟩⟩;refine Aa<|gw _<|Aa<|Gf g1 rfl ?_<|Gg (by rw[s2];exact m3);obtain⟨_,x2⟩:=cO (knd:=strKind prog w) (n:=n+1) g1 gx rfl (m1.perm rp) n2 (s2 ▸ m3) rf (s2.trans sz) rq k7;exact Ab ⟨rfl,_,rfl,b1.trans<|AX _ a _,x2⟩
     exact Ab ⟨rfl,_,rfl,b1,x1⟩
   have go:∀ t2:SetTable,t2.fits es1.size=true->t2.plain=false->t2.led=t1.led->wpAny (KB prog w) A ((do
       storeSet a es1 t2
       if (!wd&&t2.tooFull)=true then do
           (match (relayAll t2 es1<|BE es1.size).2.2 with | true=>rule "set.scan.the-table-gave-way" | false=>pure ())
           storeSet a (relayAll t2 es1<|BE es1.size).1 (relayAll t2 es1<|BE es1.size).2.1
           pure (some true)
         else pure (some true))) (fun r s1=>wpAny (KB prog w) A (match r with | some added=>pure added | none=>setAddHashedIn a (.str z tk) ((strKind prog w).hash z) 99999) Q E s1) E s:=fun t2 f2 p2 l2=>A8 (tail t2 f2 p2 l2) (fun r s1 ⟨e,h',e1,b,y⟩=>by subst e e1;exact Ab (fin h' b y)) fun _ _ e=>e
   refine Aa<|gw _ ?_
   split
   . refine Aa<|Ab ?_;exact go _ (SetTable.fits_plain_off lf) rfl rfl
   rename_i np;refine Aa<|Ab ?_;exact go _ lf (by simpa using np) rfl
end
open PyProof.Rows
variable {α:Type}
def Wu{α:Type}:∀ {l:List α} {i:Nat} (h:i < l.length),(l[i]::l.eraseIdx i).Perm l
 | x::l,0,h=>Fs _
 | x::l,i+1,h=>by rw[List.eraseIdx_cons_succ,List.getElem_cons_succ];exact (List.Perm.swap _ _ _).trans<|Ft _<|Wu<|by simpa using h
def Zu{α:Type}(next:Nat->Nat):∀ (f k:Nat) (left:List α) (out:Array α),f=left.length->(FY next f k left out).toList.Perm (out.toList++left)
 | 0,k,left,out,e=>by have:left=[]:=List.length_eq_zero_iff.mp e.symm;subst this;unfold FY;simp
 | f+1,k,left,out,e=>by have hl:next k % left.length < left.length:=Nat.mod_lt _ (by omega);unfold FY;rw[Ah hl];dsimp only;refine (Zu next f (k+1) _ _ (by rw[Ed hl];omega)).trans ?_;rw[Ge,Aq];exact List.Perm.append_left _<|Wu hl
def bA(next:Nat->Nat)(xs:Array α):(pickOrder next xs).toList.Perm xs.toList:=by have:=Zu next xs.size 0 xs.toList #[] (by simp);simpa[pickOrder] using this
def YY{α:Type}{M:Model}{A:Around}{E:Qqa}:∀ (n:Nat) (xs:List α) (s:Shared) (Q:List α->Shared->Prop),n=xs.length->(∀ ys d,ys.Perm xs->Q ys { s with drawn:=d })->wpAny M A (drawOrder n xs) Q E s
 | 0,xs,s,Q,e,h=>by have:xs=[]:=List.length_eq_zero_iff.mp e.symm;subst this;exact Ab<|h [] s.drawn<|Fs _
 | n+1,[],s,Q,e,h=>by cases e
 | n+1,x::xs,s,Q,e,h=>by
   unfold drawOrder;refine Aa fun Γ p hΓ=>⟨by simp,?_⟩
   generalize hi:M.w.draws .order (s.drawn.get .order) % (x::xs).length=i;have hl:i < (x::xs).length:=by rw[<-hi];exact Nat.mod_lt _<|by simp
   show wpAny M A (match (x::xs)[i]? with | some y=>(do return y::(<-drawOrder n ((x::xs).eraseIdx i))) | none=>unsupported "internal:drawOrder") Q E { s with drawn:=s.drawn.bump .order };rw[Ah hl];dsimp only;refine Aa<|YY n _ _ _ (by rw[Ed hl];simp at e ⊢;omega) fun ys d hp=>Ab (h _ d ?_);exact (Ft _ hp).trans<|Wu hl
def Mv:Slot "set_iterator" "__next__" "set_iterator.__next__":=.of (owner:="set_iterator") (n:="__next__") (by rw[Dc,Ci];kernel_rfl) (by decide +kernel) (by decide +kernel) (by decide +kernel) (by first | exact .inl (by decide +kernel) | exact .inr (by decide +kernel)) (by rw[Fu];kernel_rfl)
def Ui:Slot "set_iterator" "__iter__" "set_iterator.__iter__":=.of (owner:="set_iterator") (n:="__iter__") (by rw[Dc,Ci];kernel_rfl) (by decide +kernel) (by decide +kernel) (by decide +kernel) (by first | exact .inl (by decide +kernel) | exact .inr (by decide +kernel)) (by rw[Fu];kernel_rfl)
def Um:entryFor table "set_iterator.__next__"=some Builtin.«set_iterator.__next__»:=entryFor_of_tree<|by kernel_rfl
def Ug(a:IR):argsOk "set_iterator.__next__" ⟨[a],[]⟩:=by unfold argsOk;kernel_rfl
def zeR:entryFor table "set.__iter__"=some Builtin.«frozenset.__iter__»:=entryFor_alias (id':="frozenset.__iter__") (by kernel_rfl) rfl (by decide +kernel) (by kernel_rfl)
variable {I:Addr}{first:IR}{i:Nat}
def Mb(I a:Addr)(first:IR)(n ep i:Nat)(h:KM):Prop:=∃ o,h.get? I=some o/\o.cls=.type "set_iterator"/\o.data=.fields #[first,.int i 0,.ref a,.int n 0,.int ep 0]
def Mb.ty(x:Mb I a first n ep i s.heap):s.TypeIs (.ref I) "set_iterator":=let ⟨o,e,c,_⟩:=x;⟨o,e,c⟩
inductive WalkAt (w:UF) (a:Addr) (es:Array (Int×IR)) (ep:Nat) (vs:List IR):IR->KM->Prop
 | text {h:KM} (hb:w.params.followText "set-order"=true) (e:vs=(pickOrder (w.params.setOrder a ep) es).toList.map (·.2)):WalkAt w a es ep vs (.int 0 0) h
 | drawn {h:KM} {T:Addr} {ps:List Nat} (hT:IsTup h T (ps.map fun (i:Nat)=>SZ i).toArray) (hl:ps.length=vs.length) (e:∀ (i p:Nat),ps[i]?=some p->∃ q:Int×IR,es[p]?=some q/\vs[i]?=some q.2):WalkAt w a es ep vs (.ref T) h
variable {Q:Option IR->Shared->Prop}{vs:List IR}{h':KM}
def vH(hI:Mb I a first n ep i s.heap)(ho:s.heap.get? a=some o)(hd:o.data=.set es ep t)(hf:t.fits es.size=true)(hn:es.size=n)
   (hw:WalkAt w a es ep vs first s.heap) (hx:vs[i]?=some x) (hQ:∀ h',Mb I a first n ep (i+1) h'->BA I s.heap h'->Q (some x) { s with heap:=h' }):wpAny (KB prog w) A (pyNext<|.ref I) Q E s:=by
 obtain⟨oI,eI,cI,dI⟩:=id hI;unfold pyNext;refine Aa (B2<|AY (name:=BB "__next__") hI.ty Mv<|AO Mv hI.ty Um ?_<|Ug _);unfold Builtin.«set_iterator.__next__»;refine Aa<|Ab ?_;refine Aa<|CP eI dI ?_;dsimp only;refine Aa<|Cu ho hd hf ?_;rw[if_neg (by rw[hn];simp)];have hIa:a≠I:=fun z=>by subst z;rw[ho] at eI;cases eI;rw[hd] at dI;cases dI
 cases hw with
 | text hb e =>
   dsimp only;subst e;rw[AD] at hx;obtain⟨q,hq,rfl⟩:=Ip hx;unfold setNext;refine Aa<|Aa<|Bx ho hd hf ?_;unfold setsByText;refine Aa<|Aa<|Bz<|Ab ?_;refine Bu (fun _=>?_) fun z=>absurd hb z;dsimp only;rw[if_neg (by simp)];unfold setWalk;refine Aa<|Aa<|Bx ho hd hf ?_;unfold setsByText;refine Aa<|Aa<|Bz<|Ab ?_;refine Bu (fun _=>?_) fun z=>absurd hb z;refine Aa<|Bz<|Ab<|Ab ?_;have:(pickOrder (w.params.setOrder a ep) es)[(i:Int).toNat]?=some q:=by rw[Bb,<-Bp];exact hq
   show wpAny _ _ (match ((pickOrder (w.params.setOrder a ep) es)[(i:Int).toNat]?).map fun e=>(e.2,(0:Int).toNat) with | some (x,next)=>_ | none=>_) _ _ _;rw[this];show wpAny _ _ (setField (Au I) 0 (SZ 0) >>= _) _ _ _;refine Aa<|A1 eI dI (by simp) ?_;have e2:=AG (AR (·.setIfInBounds 0 (SZ 0))) eI<|AQ<|AB dI _;refine Aa<|A1 e2 (AB dI _) (by simp)<|Ab ⟨q.2,rfl,Ab<|hQ _ ?_<|(AX ..).trans<|AX ..⟩;refine⟨_,AG _ e2<|AQ<|AB (AB dI _) _,?_,?_⟩
   . rw[B1,B1];exact cI
   rw[AB (AB dI _)];simp[SZ]
 | drawn hT hl e =>
   rename_i T ps;dsimp only;obtain⟨oT,eT,cT,m,dT⟩:=hT;refine Aa<|BJ eT dT ?_;have hi:i < ps.length:=by rw[hl];exact (KF.mp hx).1
   obtain⟨q,h1,h2⟩:=e i _<|Ah hi;rw[h2] at hx;cases hx;have:((ps.map fun (i:Nat)=>SZ i).toArray)[(i:Int).toNat]?=some (SZ (ps[i]:Nat)):=by simp[hi]
   dsimp only;rw[this];show wpAny _ _ (setNextDrawn a ((ps[i]:Nat):Int).toNat _ >>= _) _ _ _;unfold setNextDrawn;refine Aa<|Aa<|Bx ho hd hf ?_;dsimp only;rw[if_neg (by simp),Bb,h1];refine Ab ?_;refine Aa<|A1 eI dI (by simp)<|Ab ⟨q.2,rfl,Ab<|hQ _ ?_<|AX ..⟩;refine⟨_,AG _ eI<|AQ<|AB dI _,(B1 ..).trans cI,?_⟩;rw[AB dI];simp[SZ]
def Zn{h':KM}(hh:A.handled=none)(hQ:∀ h',Co I s.heap h'->Q none { s with heap:=h' })(hk:Co I s.heap h') :
   wpAny (KB prog w) A.in1 (newExc (.type "StopIteration") [] >>= fun e=>(raiseNew e:Sem Fin)) (fun fin s'=>∃ v,fin=Hh (Hi v)/\wpAny (KB prog w) A (pure<|some v) Q E s') (fun e s'=>wpAny (KB prog w) A (isInstance e (CB "StopIteration") >>= fun b=>if b=true then pure none else throw e) Q E s') { s with heap:=h' }:=by
 refine Aa ?_;simp only[newExc,newTuple];refine Aa (AN (Aa (m:=firstArgMember _ _)<|Fc (a:=AE) (by first | rfl | (simp only[firstArgMember];rfl))<|AN ?_<|by size_fits)<|by size_fits);simp only[raiseNew];refine Aa<|FA ?_;rw[show A.in1.handled=none from hh];refine Aa<|Ab<|Gm ?_;refine Aa (CT (T:="StopIteration") (b:=true) ⟨_,Am _ rfl,rfl⟩ Fp ?_);exact Ab<|hQ _<|(hk.push _).push _
def qO(hh:A.handled=none)(hI:Mb I a first n ep i s.heap)(ho:s.heap.get? a=some o)(hd:o.data=.set es ep t)(hf:t.fits es.size=true)(hn:es.size=n)
   (hw:WalkAt w a es ep vs first s.heap) (hx:vs[i]?=none) (hQ:∀ h',Co I s.heap h'->Q none { s with heap:=h' }):wpAny (KB prog w) A (pyNext<|.ref I) Q E s:=by
 obtain⟨oI,eI,cI,dI⟩:=id hI;unfold pyNext;refine Aa (B2<|AY (name:=BB "__next__") hI.ty Mv<|AO Mv hI.ty Um ?_<|Ug _);unfold Builtin.«set_iterator.__next__»;refine Aa<|Ab ?_;refine Aa<|CP eI dI ?_;dsimp only;refine Aa<|Cu ho hd hf ?_;rw[if_neg (by rw[hn];simp)];have fin:=fun (h':KM) (hk:Co I s.heap h')=>Zn (prog:=prog) (w:=w) (E:=E) hh hQ hk
 cases hw with
 | text hb e =>
   dsimp only;subst e;rw[AD] at hx;have hq:(pickOrder (w.params.setOrder a ep) es).toList[i]?=none:=by
     cases hz:(pickOrder (w.params.setOrder a ep) es).toList[i]? with
     | none=>rfl
     | some z=>rw[hz] at hx;cases hx
   unfold setNext;refine Aa<|Aa<|Bx ho hd hf ?_;unfold setsByText;refine Aa<|Aa<|Bz<|Ab ?_;refine Bu (fun _=>?_) fun z=>absurd hb z;dsimp only;rw[if_neg (by simp)];unfold setWalk;refine Aa<|Aa<|Bx ho hd hf ?_;unfold setsByText;refine Aa<|Aa<|Bz<|Ab ?_;refine Bu (fun _=>?_) fun z=>absurd hb z;refine Aa<|Bz<|Ab<|Ab ?_;have:(pickOrder (w.params.setOrder a ep) es)[(i:Int).toNat]?=none:=by rw[Bb,<-Bp];exact hq
   show wpAny _ _ (match ((pickOrder (w.params.setOrder a ep) es)[(i:Int).toNat]?).map fun e=>(e.2,(0:Int).toNat) with | some (x,next)=>_ | none=>_) _ _ _;rw[this];show wpAny _ _ (setField (Au I) 2 AE >>= _) _ _ _;exact Aa<|A1 eI dI (by simp)<|fin _ (AX ..).extBut
 | drawn hT hl e =>
   rename_i T ps;dsimp only;obtain⟨oT,eT,cT,m,dT⟩:=hT;refine Aa<|BJ eT dT ?_;have hi:ps.length<=i:=by rw[hl];exact List.getElem?_eq_none_iff.mp hx
   have:((ps.map fun (i:Nat)=>SZ i).toArray)[(i:Int).toNat]?=none:=by simp[hi]
   dsimp only;rw[this];show wpAny _ _ (setField (Au I) 0 (SZ 0) >>= _) _ _ _;refine Aa<|A1 eI dI (by simp) ?_;have e2:=AG (AR (·.setIfInBounds 0 (SZ 0))) eI<|AQ<|AB dI _;exact Aa<|A1 e2 (AB dI _) (by simp)<|fin _ ((AX ..).trans<|AX ..).extBut
def yV{ps:List Nat}(h:ps.Perm (Bo es.size)):∃ vs:List IR,vs.Perm (es.toList.map (·.2))/\ps.length=vs.length/\∀ (i p:Nat),ps[i]?=some p->∃ q:Int×IR,es[p]?=some q/\vs[i]?=some q.2:=by
 refine⟨ps.map fun p=>(es.getD p (0,.none)).2,?_,by simp,fun i p hp=>?_⟩
 . refine (h.map _).trans<|List.Perm.of_eq ?_;apply Ej;intro i;rw[AD,AD]
   by_cases hi:i < es.size
   . rw[C1 hi];simp[hi]
   rw[CQ (by simp;omega)];simp[hi]
 . have hm:p < es.size:=by
     have:=h.mem_iff.mp<|AI hp;simpa using this
   refine⟨es[p],by simp[hm],?_⟩;rw[AD,hp];simp[hm]
def dR:entryFor table "set_iterator.__iter__"=some Builtin.«dict_keyiterator.__iter__»:=entryFor_alias (id':="dict_keyiterator.__iter__") (by kernel_rfl) rfl (by decide +kernel) (by kernel_rfl)
def cU(a:IR):argsOk "set_iterator.__iter__" ⟨[a],[]⟩:=by unfold argsOk;kernel_rfl
def M9(I a:Addr):IR->List Addr
 | .ref T=>[I,a,T]
 | _=>[I,a]
def UY(a:Addr)(es:Array (Int×IR))(ep:Nat)(t:SetTable)(h:KM):Prop:=∃ o,h.get? a=some o/\o.data=.set es ep t
def WalkAt.on{a:Addr}{first:IR}{I:Addr}(x:WalkAt w a es ep vs first h)(k:∀ b∈M9 I a first,∀ o,h.get? b=some o->h'.get? b=some o):WalkAt w a es ep vs first h':=by
 cases x with
 | text hb e=>exact .text hb e
 | drawn hT hl e =>
   obtain⟨o,e1,r⟩:=hT;exact .drawn ⟨o,k _ (by simp[M9]) o e1,r⟩ hl e
def WalkAt.apart(x:WalkAt w a es ep vs first h)(y:Mb I a first n ep i h)(k:∀ b o,b ∉ [I]->h.get? b=some o->h'.get? b=some o):WalkAt w a es ep vs first h':=by
 cases x with
 | text hb e=>exact .text hb e
 | drawn hT hl e =>
   obtain⟨o,e1,c1,r⟩:=hT;obtain⟨o2,e2,c2,_⟩:=y;refine .drawn ⟨o,k _ o (fun z=>?_) e1,c1,r⟩ hl e;rw[On.mp z,e2] at e1;cases e1;rw[c2] at c1;exact absurd (Value.type.inj c1)<|by decide
def aL(hh:A.handled=none)(hf:t.fits es.size=true)(hn:es.size=n)(hv:vs.length=n)(hne:a≠I) :
   Walks prog w A I (M9 I a first) [I] n (fun i v=>vs[i]?=some v) (fun i h=>Mb I a first n ep i h/\UY a es ep t h/\WalkAt w a es ep vs first h) where
 sub:=fun b hb=>by
   rw[On.mp hb];unfold M9
   split <;> simp
 frame:=fun i h h' ⟨⟨o,e,r⟩,⟨o2,e2,r2⟩,x⟩ k=>⟨⟨o,k I (by unfold M9;split <;> simp) o e,r⟩,⟨o2,k a (by unfold M9;split <;> simp) o2 e2,r2⟩,x.on k⟩
 item:=fun i s Q E hi ⟨st,⟨o,e,d⟩,x⟩ hQ=>by have hx:vs[i]?=some vs[i]:=Ah (by omega);refine vH st e d hf hn x hx fun h' st' sb=>?_;have k:∀ b o,b ∉ [I]->s.heap.get? b=some o->h'.get? b=some o:=fun b o hb e=>sb.extBut b o (fun z=>hb (by simp[z])) e;exact hQ _ h' s.toks hx ⟨st',⟨o,k _ _ (by simpa using hne) e,d⟩,x.apart st k⟩ k
 done:=fun s Q E ⟨st,⟨o,e,d⟩,x⟩ hQ=>qO hh st e d hf hn x (CQ<|by omega) fun h' he=>hQ h' s.toks fun b o hb e=>he b o (fun z=>hb (by simp[z])) e
 self:=fun i s Q E ⟨st,_,_⟩ hQ=>by refine Dt st.ty Ui<|AO Ui st.ty dR ?_<|cU _;show wpAny _ _ (ret<|.ref I) _ _ s;exact Ab ⟨_,rfl,"set_iterator",_,st.ty,Mv.lookup,hQ⟩
inductive M0 (prog:Pv) (w:UF) (s:Shared) (a:Addr) (es:Array (Int×IR)) (n:Nat) (h':KM) (I:Addr) (vs:List IR):Prop
 | mk (fp:List Addr) (St:Nat->KM->Prop) (k:∀ b u,s.heap.get? b=some u->h'.get? b=some u) (hI:s.heap.objs.size<=I) (W:∀ A:Around,A.handled=none->Walks prog w A I fp [I] n (fun i v=>vs[i]?=some v) St) (st:St 0 h') (hfp:∀ b∈fp,b=a\/s.heap.objs.size<=b) (pv:vs.Perm (es.toList.map (·.2)))
def uF{r:Addr}{Q:Bool->Shared->Prop}(hT:s.TypeIs (.ref r) "set")(h:Q false s):wpAny (KB prog w) A (D1<|.ref r) Q E s:=by
 unfold D1;refine Aa<|wpAny_specialOf hT F.slot_set_len.lookup ?_;generalize hid:("set.__len__":String)=id0
 wp_delta
 rw[show splitId id0=some ("set","__len__") from by subst hid;decide +kernel];subst hid;refine Aa (CT (T:="set") (b:=true) hT (by rw[Fu];kernel_rfl)<|Bu (fun z=>absurd z (by decide)) fun _=>Bu (fun _=>?_) fun z=>absurd (by decide +kernel) z);exact Aa<|Ca hT<|Ab h
end L2.MP
namespace L2.MP.ST
open PySem PySem.SetTable
def K7(xs:Array Nat):Prop:=∀ i j,i < j->j < xs.size->xs.getD i 0 < xs.getD j 0
def getD_in{xs:Array Nat}{i a b:Nat}(h:i < xs.size):xs.getD i a=xs.getD i b:=by simp[Array.getD,h]
def VL{xs:Array Nat}{j:Nat}(R:K7 xs):∀ (f lo hi:Nat),hi - lo<=f->lo<=hi->hi<=xs.size->(∀ i,i < lo->xs.getD i 0 < j)->(∀ i,hi<=i->i < xs.size->j<=xs.getD i 0) ->
   below.go xs j f lo hi<=xs.size/\(∀ i,i < below.go xs j f lo hi->xs.getD i 0 < j)/\∀ i,below.go xs j f lo hi<=i->i < xs.size->j<=xs.getD i 0
 | 0,lo,hi,hf,h1,h2,h3,h4=>by
   have:lo=hi:=by omega
   subst this;exact⟨h2,h3,h4⟩
 | f+1,lo,hi,hf,h1,h2,h3,h4=>by
   unfold below.go
   by_cases c:lo < hi
   . rw[if_pos c];dsimp only;have hm:(lo+hi) / 2 < xs.size:=by omega
     rw[getD_in (b:=0) hm]
     by_cases d:xs.getD ((lo+hi) / 2) 0 < j
     . rw[if_pos d];refine VL R f _ hi (by omega) (by omega) h2 (fun i hi'=>?_) h4
       by_cases e:i=(lo+hi) / 2
       . rw[e];exact d
       exact B9 (R i ((lo+hi) / 2) (by omega) hm) d
     . rw[if_neg d];refine VL R f lo _ (by omega) (by omega) (by omega) h3 fun i hi' hs=>?_
       by_cases e:i=(lo+hi) / 2
       . rw[e];omega
       have:=R ((lo+hi) / 2) i (by omega) hs;omega
   . rw[if_neg c];have:lo=hi:=by omega
     subst this;exact⟨h2,h3,h4⟩
def Ls{xs:Array Nat}{j:Nat}(R:K7 xs):below xs j<=xs.size/\(∀ i,i < below xs j->xs.getD i 0 < j)/\∀ i,below xs j<=i->i < xs.size->j<=xs.getD i 0 :=
 VL R xs.size 0 xs.size (by omega) (Bc _) (Ag _) (fun i h=>by omega) fun i h1 h2=>by omega
end L2.MP.ST
namespace L2.MP
open PySem PySem.Spec PyProof.Rows
variable {I a:Addr}{ep n i sl:Nat}{o:Obj}{es:Array (Int×IR)}{t:SetTable}{Q:Option IR->Shared->Prop}
section
variable {prog:Pv} {w:UF} {A:Around} {E:Qqa} {s:Shared}
def sM{x:Int×IR}{k:Nat}(hb:w.params.followText "set-order"=false)(hl:t.led=true)(hI:Mb I a (.int (sl:Int) 0) n ep i s.heap)(ho:s.heap.get? a=some o)(hd:o.data=.set es ep t)(hf:t.fits es.size=true)(hn:es.size=n)(hdr:(!t.plain&&decide (es.size > 1))=false)(hs:DX t.place sl=i)
   (hx:es[i]?=some x) (hk:t.place[i]?=some k) (hQ:∀ h',Mb I a (.int ((k+1:Nat):Int) 0) n ep (i+1) h'->BA I s.heap h'->Q (some x.2) { s with heap:=h' }):wpAny (KB prog w) A (pyNext<|.ref I) Q E s:=by
 obtain⟨oI,eI,cI,dI⟩:=id hI;unfold pyNext;refine Aa (B2<|AY (name:=BB "__next__") hI.ty Mv<|AO Mv hI.ty Um ?_<|Ug _);unfold Builtin.«set_iterator.__next__»;refine Aa<|Ab ?_;refine Aa<|CP eI dI ?_;dsimp only;refine Aa<|Cu ho hd hf ?_;rw[if_neg (by rw[hn];simp)];unfold setNext;refine Aa<|Aa<|Bx ho hd hf ?_;unfold setsByText;refine Aa<|Aa<|Bz<|Ab ?_;refine Bu (fun z=>absurd (show w.params.followText "set-order"=true from z) (by rw[hb];simp)) (fun _=>?_);dsimp only;refine Bu (fun z=>?_) fun _=>?_
 . have z':(!t.plain&&decide (es.size > 1))=true:=z;rw[hdr] at z';cases z'
 refine Aa (show wpAny _ _ (if (!t.led&&!es.isEmpty)=true then unsupported "set:maker-not-led" else pure ()) _ _ _ from ?_);rw[hl];refine Ab<|Ab ?_;rw[Bb,hs,hx,hk];show wpAny _ _ (setField (Au I) 0 (SZ ((k+1:Nat):Int)) >>= _) _ _ _;refine Aa<|A1 eI dI (by simp) ?_;have e2:=AG (AR (·.setIfInBounds 0 (SZ ((k+1:Nat):Int)))) eI<|AQ<|AB dI _;refine Aa<|A1 e2 (AB dI _) (by simp)<|Ab ⟨x.2,rfl,Ab<|hQ _ ?_<|(AX ..).trans<|AX ..⟩;refine⟨_,AG _ e2<|AQ<|AB (AB dI _) _,?_,?_⟩
 . rw[B1,B1];exact cI
 rw[AB (AB dI _)];simp[SZ]
def oK(hh:A.handled=none)(hb:w.params.followText "set-order"=false)(hl:t.led=true)(hI:Mb I a (.int (sl:Int) 0) n ep i s.heap)(ho:s.heap.get? a=some o)(hd:o.data=.set es ep t)(hf:t.fits es.size=true)(hn:es.size=n)(hdr:(!t.plain&&decide (es.size > 1))=false)
   (hx:es[DX t.place sl]?=none) (hQ:∀ h',Co I s.heap h'->Q none { s with heap:=h' }):wpAny (KB prog w) A (pyNext<|.ref I) Q E s:=by
 obtain⟨oI,eI,cI,dI⟩:=id hI;unfold pyNext;refine Aa (B2<|AY (name:=BB "__next__") hI.ty Mv<|AO Mv hI.ty Um ?_<|Ug _);unfold Builtin.«set_iterator.__next__»;refine Aa<|Ab ?_;refine Aa<|CP eI dI ?_;dsimp only;refine Aa<|Cu ho hd hf ?_;rw[if_neg (by rw[hn];simp)];unfold setNext;refine Aa<|Aa<|Bx ho hd hf ?_;unfold setsByText;refine Aa<|Aa<|Bz<|Ab ?_;refine Bu (fun z=>absurd (show w.params.followText "set-order"=true from z) (by rw[hb];simp)) (fun _=>?_);dsimp only;refine Bu (fun z=>?_) fun _=>?_
 . have z':(!t.plain&&decide (es.size > 1))=true:=z;rw[hdr] at z';cases z'
 refine Aa (show wpAny _ _ (if (!t.led&&!es.isEmpty)=true then unsupported "set:maker-not-led" else pure ()) _ _ _ from ?_);rw[hl];refine Ab<|Ab ?_;rw[Bb,hx];show wpAny _ _ (setField (Au I) 2 AE >>= _) _ _ _;exact Aa<|A1 eI dI (by simp)<|Zn hh (hQ:=hQ) (AX ..).extBut
def Nw(t:SetTable)(i:Nat):Nat:=if i=0 then 0 else t.place.getD (i - 1) 0+1
def bL(R:ST.K7 t.place)(hi:i<=t.place.size):DX t.place (Nw t i)=i:=by
 obtain⟨b1,b2,b3⟩:=ST.Ls (j:=Nw t i) R;generalize hr:DX t.place (Nw t i)=r at *
 cases i with
 | zero =>
   by_cases c:0 < r
   . have:=b2 0 c;simp[Nw] at this
   omega
 | succ i =>
   have e:Nw t (i+1)=t.place.getD i 0+1:=by simp[Nw]
   rw[e] at b2 b3
   by_cases c:r<=i
   . have:=b3 i c (by omega);omega
   . by_cases d:i+1 < r
     . have h1:=b2 (i+1) d;have h2:=R i (i+1) (by omega) (by omega);omega
     omega
def wW(hh:A.handled=none){vs:List IR}(R:ST.K7 t.place)(hb:w.params.followText "set-order"=false)(hl:t.led=true)(hdr:(!t.plain&&decide (es.size > 1))=false)(hf:t.fits es.size=true)(hn:es.size=n)(hv:vs=es.toList.map (·.2))(hne:a≠I) :
   Walks prog w A I [I,a] [I] n (fun i v=>vs[i]?=some v) (fun i h=>Mb I a (.int (Nw t i:Int) 0) n ep i h/\UY a es ep t h) where
 sub:=fun b hb=>by rw[On.mp hb];simp
 frame:=fun i h h' ⟨⟨o,e,r⟩,o2,e2,r2⟩ k=>⟨⟨o,k I (by simp) o e,r⟩,o2,k a (by simp) o2 e2,r2⟩
 item:=fun i s Q E hi ⟨st,o,e,d⟩ hQ=>by
   have hp:t.place.size=n:=by have:=hf;unfold Ee at this;rw[Ar] at this;rw[<-hn];simpa using this.1
   have hx:es[i]?=some es[i]:=Cn (by omega);have hk:t.place[i]?=some t.place[i]:=Cn (by omega);refine sM hb hl st e d hf hn hdr (bL R<|by omega) hx hk fun h' st' sb=>?_;have k:∀ b o,b ∉ [I]->s.heap.get? b=some o->h'.get? b=some o:=fun b o hb e=>sb.extBut b o (fun z=>hb (by simp[z])) e;refine hQ _ h' s.toks ?_ ⟨?_,o,k _ _ (by simpa using hne) e,d⟩ k
   . rw[hv,AD,Bp,hx];rfl
   . have:Nw t (i+1)=t.place[i]+1:=by unfold Nw;simp[BO,hk]
     rw[this];exact st'
 done:=fun s Q E ⟨st,o,e,d⟩ hQ=>by
   have hp:t.place.size=n:=by have:=hf;unfold Ee at this;rw[Ar] at this;rw[<-hn];simpa using this.1
   refine oK hh hb hl st e d hf hn hdr ?_ fun h' he=>hQ h' s.toks fun b o hb e=>he b o (fun z=>hb (by simp[z])) e;rw[bL R (by omega)];exact Array.getElem?_eq_none<|by omega
 self:=fun i s Q E ⟨st,_⟩ hQ=>by refine Dt st.ty Ui<|AO Ui st.ty dR ?_<|cU _;show wpAny _ _ (ret<|.ref I) _ _ s;exact Ab ⟨_,rfl,"set_iterator",_,st.ty,Mv.lookup,hQ⟩
def xK{Q:Qqa}(ho:s.heap.get? a=some o)(hx:o.ExactSet)(hd:o.data=.set es ep t)(hf:t.fits es.size=true)(hn:es.size=n)(h3:n < 4096)(hp:t.plain=false\/ST.K7 t.place)(hled:w.params.followText "set-order"=true\/t.led=true)
   (hQ:∀ h' d I vs,M0 prog w s a es n h' I vs->Q (.ref I) { s with heap:=h',drawn:=d }):wpAny (KB prog w) A (pyIter<|.ref a) Q E s:=by
 have ty:s.TypeIs (.ref a) "set":=⟨o,ho,hx.1⟩
 refine Dt ty F.slot_set_iter<|AO F.slot_set_iter ty zeR ?_<|F.args_set_iter_1 _;unfold Builtin.«frozenset.__iter__» Hm slotArgs;simp only[List.isEmpty_nil,G9,Bd,↓reduceIte,bind_assoc,Bf,bne_self_eq_false];unfold Hj Hk;refine Aa<|Ab ?_;dsimp only;refine Aa<|Ab ?_;refine Aa<|Aa<|Cu ho hd hf<|Ab ?_;unfold setDrawn;refine Aa<|Aa<|Bx ho hd hf ?_;dsimp only;unfold setsByText;refine Aa<|Aa<|Bz<|Ab<|Ab ?_;have lay:∀ (first:IR) (vs:List IR) (h':KM) (d:Drawn),(∀ b u,s.heap.get? b=some u->h'.get? b=some u)->(∀ h2:KM,(∀ b u,h'.get? b=some u->h2.get? b=some u)->Mb h'.objs.size a first n ep 0 h2->UY a es ep t h2->M0 prog w s a es n h2 h'.objs.size vs) ->
     wpAny (KB prog w) A.in1 (setEpoch a >>= fun e=>newFields "set_iterator" [first,SZ 0,.ref a,SZ es.size,SZ e] >>= fun v=>(ret v:Sem Fin)) (fun fin s'=>∃ v,fin=Hh (Hi v)/\∃ T' r,s'.TypeIs v T'/\typeLookup (.type T') (BB "__next__")=pure (some r)/\Q v s') E { s with heap:=h',drawn:=d }:=fun first vs h' d hk hw=>by
   unfold setEpoch;refine Aa<|Aa<|Bx (hk _ _ ho) hd hf<|Ab ?_;refine Aa (AN<|Ab ⟨_,rfl,"set_iterator",_,⟨_,Am _ rfl,rfl⟩,Mv.lookup,?_⟩);subst hn;exact hQ _ d _ vs<|hw _ (fun b u e=>Ad _ e) ⟨_,Am _ rfl,rfl,rfl⟩ ⟨o,Ad _<|hk _ _ ho,hd⟩
 have hlt:a < s.heap.objs.size:=Aj ho;have lenP:∀ {vs:List IR},vs.Perm (es.toList.map (·.2))->vs.length=n:=fun pv=>by rw[pv.length_eq,Af,AK];exact hn
 refine Bu (fun z=>?_) fun z=>?_
 . refine Aa<|YY _ _ _ _ (by simp) fun ps d hps=>?_;obtain⟨vs,v1,v2,v3⟩:=yV hps;have hl:ps.length=n:=by rw[hps.length_eq,Dr,hn]
   refine Aa<|AN ?_ (by show _<=_;simp[hl];unfold sizeLine;omega);have sz:(s.heap.push { cls:=.type "tuple",data:=.seq (ps.map fun (i:Nat)=>SZ i).toArray }).objs.size=s.heap.objs.size+1:=Bl ..;refine lay _ vs _ d (fun b u e=>Ad _ e) fun h2 k si sa=>?_;have hI:s.heap.objs.size<=(s.heap.push { cls:=.type "tuple",data:=.seq (ps.map fun (i:Nat)=>SZ i).toArray }).objs.size:=by rw[sz];exact BR _
   refine .mk (M9 _ a<|.ref s.heap.objs.size) _ (fun b u e=>k b u (Ad _ e)) hI (fun A hA=>aL hA hf hn (lenP v1) (An<|Av hlt hI)) ⟨si,sa,.drawn ⟨_,k _ _<|Am _ rfl,rfl,_,rfl⟩ v2 v3⟩ (fun b hb=>?_) v1;unfold M9 at hb;simp only[AW,AS,or_false] at hb
   rcases hb with rfl | rfl | rfl
   . exact .inr hI
   . exact .inl rfl
   exact .inr<|Ag _
 . refine Aa (Ab ?_)
   cases hb:w.params.followText "set-order" with
   | true =>
     refine lay _ ((pickOrder (w.params.setOrder a ep) es).toList.map (·.2)) s.heap s.drawn (fun _ _ e=>e) fun h2 k si sa=>?_;refine .mk (M9 _ a<|.int 0 0) _ k (Ag _) (fun A hA=>aL hA hf hn (lenP<|(bA _ es).map _) (An hlt)) ⟨si,sa,.text hb rfl⟩ (fun b hm=>?_)<|(bA (w.params.setOrder a ep) es).map _;unfold M9 at hm;simp only[AW,AS,or_false] at hm
     rcases hm with rfl | rfl
     . exact .inr<|Ag _
     exact .inl rfl
   | false =>
     have hdr:(!t.plain&&decide (es.size > 1))=false:=by
       cases q:(!t.plain&&decide (es.size > 1)) with
       | false=>rfl
       | true =>
         refine absurd ?_ z;show (!(w.params.followText "set-order")&&(!t.plain&&decide (es.size > 1)))=true;rw[hb,q];rfl
     have hl:t.led=true:=hled.resolve_left (by rw[hb];simp);have hp:ST.K7 t.place:=by
       rcases hp with hp | hp
       . rw[hp] at hdr;have hf2:=hf;unfold Ee at hf2;rw[Ar] at hf2;have h2:t.place.size=es.size:=by simpa using hf2.1
         have h3:¬ es.size > 1:=by simpa using hdr
         exact fun i j a b=>absurd b (by omega)
       exact hp
     refine lay _ (es.toList.map (·.2)) s.heap s.drawn (fun _ _ e=>e) fun h2 k si sa=>?_;refine .mk [s.heap.objs.size,a] _ k (Ag _) (fun A hA=>wW hA hp hb hl hdr hf hn rfl (An hlt)) ⟨si,sa⟩ (fun b hm=>?_)<|Fs _;simp only[AW,AS,or_false] at hm
     rcases hm with rfl | rfl
     . exact .inr<|Ag _
     exact .inl rfl
def zfS{R:List IR->Shared->Prop}(hh:A.handled=none)(ho:s.heap.get? a=some o)(hx:o.ExactSet)(hd:o.data=.set es ep t)(hf:t.fits es.size=true)(hn:es.size=n)(h3:n < 4096)(hp:t.plain=false\/ST.K7 t.place)(hled:w.params.followText "set-order"=true\/t.led=true)
   (h:∀ h' d tk vs,(∀ b u,s.heap.get? b=some u->h'.get? b=some u)->s.heap.objs.size < h'.objs.size->vs.Perm (es.toList.map (·.2))->R vs { s with heap:=h',drawn:=d,toks:=tk }):wpAny (KB prog w) A (collect<|.ref a) R E s:=by
 have hlt:a < s.heap.objs.size:=Aj ho;have hnl:n<=sizeLine:=by unfold sizeLine;omega
 unfold collect;refine Aa<|wpAny_runValue<|BG PyProof.Rows.entry_proto_collect' ?_;rw[Bt F.plain_proto_collect _];show wpAny _ A.in1 (newList [] >>= fun l=>again (.builtin "list.__iadd__" ⟨[l,.ref a],[]⟩)) _ _ s;refine Aa<|AN<|Ab ⟨B3 F.plain_list_iadd _,BG entry_list_iadd' ?_⟩;rw[Bt F.plain_list_iadd _];generalize hl:s.heap.objs.size=l at *;have g1:(s.heap.push { cls:=.type "list",data:=.seq ([]:List IR).toArray }).get? l=some { cls:=.type "list",data:=.seq #[] }:=by subst hl;exact Am _ rfl
 have oa:(s.heap.push { cls:=.type "list",data:=.seq ([]:List IR).toArray }).get? a=some o:=Ad _ ho;have k1:∀ b u,s.heap.get? b=some u->(s.heap.push { cls:=.type "list",data:=.seq ([]:List IR).toArray }).get? b=some u:=fun b u e=>Ad _ e;generalize s.heap.push { cls:=.type "list",data:=.seq ([]:List IR).toArray }=h1 at *;show wpAny _ A.in1 (D2 (.ref l) (.ref a)<|.ref l) _ _ _;unfold D2;have ty:({ s with heap:=h1 }:Shared).TypeIs (.ref a) "set":=⟨o,oa,hx.1⟩
 refine Aa (Ca (T:="set") ty ?_);have q1:EB (.ref l) (.ref a)=false:=by simp[EB,Br hlt]
 have q2:(CB "set"==CB "list")=false:=by decide
 have q3:(CB "set"==CB "tuple")=false:=by decide
 simp only[q1,q2,q3,G5,Bd,if_false];refine Aa<|xK oa hx hd hf hn h3 hp hled fun h4 d I vs it=>?_;obtain⟨fp,St,k4,hI,WW,st,hfp,pv⟩:=it;refine Aa<|A0<|uF ⟨o,k4 _ _ oa,hx.1⟩ ?_;refine Bu (fun _=>?_) fun z=>absurd (by decide +kernel) z;refine Aa<|BY<|Aa ?_;have g4:=k4 _ _ g1;show wpAny _ _ (updateSeq l (·.push .none) >>= fun _=>updateSeq l (·.pop)) _ _ _;refine Aa<|wpAny_updateSeq g4 rfl ?_;have g5:=AG (Bs (·.push AE)) g4 rfl;refine wpAny_updateSeq (hz:=by seq_fits) g5 rfl ?_;have g6:=AG (Bs (·.pop)) g5 rfl;have k6:∀ b u,b≠l->h4.get? b=some u->((h4.update l (Bs (·.push AE))).update l (Bs (·.pop))).get? b=some u:=fun b u hb e=>(AL _ _<|A6 hb).trans<|(AL _ _<|A6 hb).trans e;have hlf:l ∉ fp:=fun z=>by
   rcases hfp l z with z | z
   . exact absurd z<|Br hlt
   exact absurd (Aj g1)<|Nat.not_lt.mpr z
 have W:=WW A.in1 hh;refine Ab ⟨B3 F.plain_extend_loop _,codeAny_extend_loopS W.toS hnl l hlf _ n 0 _ #[] _ rfl (Bc _) (W.frame 0 h4 _ st fun b hb u e=>k6 b u (fun z=>hlf (z ▸ hb)) e) g6 (ItemsOf.nil _) fun s' acc c hm hS hacc=>?_⟩;rw[Moved.eq_with hm];show wpAny _ A (load l >>= _) _ _ _;refine Aa<|wpAny_load hS<|Ab ?_;have ev:acc.toList=vs:=by
   apply Ej;intro i
   by_cases hi:i < n
   . obtain⟨e1,e2⟩:=hacc;have h4:acc[i]?=some acc[i]:=Cn (by omega);rw[Bp,h4];exact (e2 i _ h4).symm
   rw[CQ (by rw[AK,hacc.1];omega),CQ (by rw[pv.length_eq,Af,AK];omega)]
 rw[ev];refine h s'.heap d s'.toks vs (fun b u e=>hm.heap b u (fun z=>?_) (k6 b u ?_<|k4 b u<|k1 b u e)) (Aj hS) pv
 . rcases M2.mp z with z | z
   . exact absurd (Aj e) (by rw[z,hl];exact AZ _)
   exact absurd (Av (Aj<|k1 b u e) hI) (by rw[On.mp z];exact AZ _)
 exact fun z=>absurd (Aj e) (by rw[z,hl];exact AZ _)
end
end L2.MP
namespace L2.MP
open PySem PySem.Spec
variable {prog:Pv}{w:UF}{A:Around}
section
variable {R:Result->Shared->Prop} {I:Addr} {fp wr:List Addr} {G:Array GenState->Array GenState->Prop} {n:Nat} {P:Nat->IR->Prop} {St:Nat->Shared->Prop}
def xN(W:WalksS prog w A.in1 I fp wr G n P St)(Z:Addr)(hZ:Z ∉ fp)(val:Nat->Str)(hv:∀ i v,P i v->∃ t,v=.str (val i) t)(hb:n+1 < scanBound) :
   ∀ (k i:Nat) (s:Shared),n - i=k->i<=n->St i s->Jd (strKind prog w) s.heap Z (fun x=>decide (x∈met val i)) (met val i).length ->
     (∀ s',Moved (Z::wr) G s s'->Jd (strKind prog w) s'.heap Z (fun x=>decide (x∈met val n)) (met val n).length->R (.ok<|.ret .none) s') ->
     codeAny (KB prog w) A (.builtin "set.update.loop" ⟨[.ref Z,.ref I],[]⟩) R s:=by
 have hw:Z ∉ wr:=fun q=>hZ<|W.sub _ q;have up:∀ b∈wr,b∈Z::wr:=fun b q=>Ak _ q;have keep:∀ {s s':Shared} {S:Str->Bool} {m:Nat},Moved wr G s s'->Jd (strKind prog w) s.heap Z S m->Jd (strKind prog w) s'.heap Z S m:=fun hm x=>by obtain⟨o,es,ep,t,ho,r⟩:=x;exact⟨o,es,ep,t,hm.heap Z _ hw ho,r⟩
 intro k
 induction k with
 | zero =>
   intro i s hk hi hs x go;have e:i=n:=by omega
   subst e;refine BG Di ?_;rw[Bt Cf _];show wpAny _ A.in1 (pyNext (.ref I) >>= _) _ _ s;refine Aa<|W.done s _ _ hs fun s' hm=>?_;exact Ab<|go s' (hm.mono up)<|keep hm x
 | succ k ih =>
   intro i s hk hi hs x go;have lt:i < n:=by omega
   refine BG Di ?_;rw[Bt Cf _];show wpAny _ A.in1 (pyNext (.ref I) >>= _) _ _ s;refine Aa<|W.item i s _ _ lt hs fun v s1 hP hs1 hm=>?_;obtain⟨vt,rfl⟩:=hv i v hP;have v1:=strKind_is prog w (val i) vt;have x1:=keep hm x;show wpAny _ A.in1 (holding [_] (setAdd Z _) >>= _) _ _ s1;refine Aa<|A0 ?_;unfold setAdd;refine A0<|Aa<|(strKind prog w).pyHash (k:=val i) v1 ?_;have room:(met val i).length+1 < scanBound:=by have:=Vv val i;omega
   refine qA (s:={ s1 with toks:=s1.toks+1 }) x1 room fun h' sb x2=>?_;have x3:Jd (strKind prog w) h' Z (fun y=>decide (y∈met val (i+1))) (met val<|i+1).length:=Jd.as x2 (fun y=>(pX val i y).symm) (tK val i).symm;refine Ab ⟨B3 Cf _,ih (i+1) _ (by omega) lt (W.frame _ s1 _ _ hs1 (BR _) fun b hb o e=>?_) x3 fun s2 hm2 x4=>?_⟩
   . rw[sb.2 b (fun q:b=Z=>hZ (by rw[<-q];exact hb))];exact e
   refine go s2 (Moved.trans W.gtrans ((hm.mono up).then_heap (BR _) fun b o hb e=>?_) hm2) x4;rw[sb.2 b (fun q:b=Z=>hb (by rw[q];exact Ao))];exact e
end
variable {s:Shared}
section
variable {E:Qqa}
def vF(a:IR){Q₁:Qqa}(h:Q₁ (.ref s.heap.objs.size) { s with heap:=s.heap.push (Mk<|!w.params.followText "set-order") }):codeAny (KB prog w) A (.call (.builtin "set.__new__") ⟨[.type "set",a],[]⟩) (wants Q₁ E) s:=by
 refine ET ?_;show wpAny _ A.in1 (checkBuiltinCall "set.__new__" ⟨[.type "set",a],[]⟩ >>= fun _=>again (.builtin "set.__new__" ⟨[.type "set",a],[]⟩)) _ _ s;refine Aa<|Fc (F.newCall_set_1 a)<|Ab ⟨B3 F.plain_set_new _,BG F.entry_set_new ?_⟩;rw[Bt F.plain_set_new _];unfold Builtin.«set.__new__» Hc;have hsub:=sub_set_self;obtain⟨hp,g,d,tk,os⟩:=s;dsimp only at h ⊢
 wp_walk
 refine Bz<|Ab ?_;dsimp only;simp only[newObj];exact Aa<|wpAny_alloc<|Ab<|Ab h
def xM{l:Addr}{its:Array IR}{val:Nat->Str}{Q:Qqa}(hh:A.handled=none)(hl:s.heap.IsList l its)(hv:∀ (i:Nat) (v:IR),its[i]?=some v->∃ t,v=.str (val i) t)(hb:its.size+1 < scanBound)
   (go:∀ (h':KM) (tk:Nat),Jd (strKind prog w) h' s.heap.objs.size (fun x=>decide (x∈met val its.size)) (met val its.size).length->(∀ b o,b < s.heap.objs.size->s.heap.get? b=some o->h'.get? b=some o)->Q (.ref s.heap.objs.size) { s with heap:=h',toks:=tk }) :
   wpAny (KB prog w) A (call (.type "set") [.ref l]) Q E s:=by
 obtain⟨c,tl,hmro⟩:=F.called_set.mro;have q1:=F.called_set.made;have q2:=F.called_set.sub;refine DG<|ET ?_;show wpAny _ _ (callAny (.type "set") _) _ _ _;refine Ab ⟨D3 _<|by decide +kernel,BG F.entry_type_call ?_⟩;rw[Around.under_plain (weight_type_call_type "set" [.ref l] []) rfl];have q3:=F.called_set.notType;have q4:=F.called_set.canCreate;have q5:=F.typeCall_set_1<|.ref l
 repeat (any_goals (first | assumption | wp_step))
 refine CL (vF (.ref l) (E:=E) (Q₁:=fun obj s₁=>∃ led:Bool,led=(!w.params.followText "set-order")/\obj=.ref s.heap.objs.size/\s₁={ s with heap:=s.heap.push (Mk led) }) ⟨_,rfl,rfl,rfl⟩) fun r s1 hr=>?_
 cases r with
 | error e=>exact hr
 | ok fl =>
   cases fl with
   | ret obj =>
     obtain⟨led,hled,rfl,rfl⟩:=hr;have at0:(s.heap.push<|Mk led).get? s.heap.objs.size=some (Mk led):=Am _ rfl;have ty:Shared.TypeIs { s with heap:=s.heap.push (Mk led) } (.ref s.heap.objs.size) "set":=⟨_,at0,rfl⟩
     have q6:=F.called_set.init.lookup;have q7:=F.called_set.init.bind<|.ref s.heap.objs.size
     repeat (any_goals (first | assumption | wp_step))
     refine CL (DO (R:=wants (fun r s₂=>r=.none/\∃ h' tk,s₂={ s with heap:=h',toks:=tk }/\Jd (strKind prog w) h' s.heap.objs.size (fun x=>decide (x∈met val its.size)) (met val its.size).length/\(∀ b o,b < s.heap.objs.size->s.heap.get? b=some o->h'.get? b=some o)) E) F.called_set.init.plain F.entry_set_init<|check_set_init_1 ty ?_) fun r2 s2 hr2=>?_
     . obtain⟨u,hu,hc,m,hd⟩:=hl;obtain⟨uc,ud,ux,us⟩:=u;simp only at hc hd;subst hc;subst hd;have at1:(s.heap.push<|Mk led).get? l=some { cls:=.type "list",dict:=ud,data:=.seq its m,slots:=us }:=Ad _ hu;have l1:(s.heap.push<|Mk led).IsList l its:=⟨_,at1,rfl,m,rfl⟩
       have z1:=F.sub_list_set;have z2:=F.sub_list_frozenset;have z3:(CB "list"==CB "dict")=false:=by decide
       unfold Builtin.«set.__init__» noKeywords GW;generalize hPI:pyIter=PI
       wp_walk
       subst hPI;refine Dp l1<|Aa<|wpAny_runValue ?_;have ll:l < s.heap.objs.size:=Aj hu;have h3:A.in1.in1.in1.handled=none:=by simp[hh]
       have n1:l≠(s.heap.push<|Mk led).objs.size:=by rw[Bl];exact An<|Ck ll
       have n2:s.heap.objs.size ∉ [(s.heap.push<|Mk led).objs.size,l]:=by
         rw[Bl,AW,D0];rintro (z | z)
         . exact absurd z<|An<|DB _
         exact absurd z<|Br ll
       refine xN ((Walks.list h3 _ l n1 its).toS) s.heap.objs.size n2 val hv hb (its.size - 0) 0 _ (by omega) (Bc _) ⟨⟨_,Am _ rfl,rfl,rfl⟩,(l1.push _)⟩ ?first ?rest
       case first =>
         have g:((s.heap.push<|Mk led).push { cls:=.type "list_iterator",data:=.fields #[.ref l,.int 0 0] }).get? s.heap.objs.size=some (Mk led):=Ad _ at0;exact⟨_,#[],0,_,g,⟨rfl,rfl,rfl⟩,rfl,fun e he=>(by simp at he),fun k=>(by simp[met]),(by decide),rfl,rfl,.inl rfl,(by rw[hled];cases w.params.followText "set-order";exact .inr rfl;exact .inl rfl)⟩
       case rest =>
         intro s' hm x;obtain⟨h',g',d',tk',os'⟩:=s';have eg:g'=s.gens:=hm.gens;have ed:d'=s.drawn:=hm.drawn;have eo:os'=s.os:=hm.os;subst eg;subst ed;subst eo;show wpAny _ _ _ _ _ _;refine Ab ?_;show wpAny _ _ (ret AE) _ _ _;refine Ab ⟨rfl,h',tk',rfl,x,fun b o hb e=>?_⟩;refine hm.heap b o ?_<|Ad _<|Ad _ e;rw[Bl,AW,D0];rintro (z | z)
         . exact absurd z<|An hb
         exact absurd z<|An<|Ck hb
     . cases r2 with
       | error e=>exact hr2
       | ok fl2 =>
         cases fl2 with
         | ret r =>
           obtain⟨rfl,h',tk,rfl,x,k⟩:=hr2
           repeat (any_goals (first | assumption | wp_step))
           exact go _ _ x k
         | _=>exact hr2.elim
   | _=>exact hr.elim
end
open PyProof.Rows
def ZG{α:Type}[DecidableEq α]:∀ {m l:List α},m.Nodup->(∀ x∈m,x∈l)->l.length=m.length->l.Perm m
 | [],l,_,_,e=>by have:l=[]:=List.length_eq_zero_iff.mp e;rw[this]
 | x::r,l,nd,h,e=>by have hx:=h x Ao;obtain⟨n1,n2⟩:=List.nodup_cons.mp nd;refine (List.perm_cons_erase hx).trans<|Ft x<|ZG n2 (fun y hy=>(List.mem_erase_of_ne (fun z:y=x=>n1 (z ▸ hy))).mpr (h y<|Ak _ hy)) ?_;rw[List.length_erase_of_mem hx,e];rfl
def We{κ:Type}[DecidableEq κ](val:Nat->κ):∀ i,(met val i).Nodup
 | 0=>Dl
 | i+1=>by
   rw[met]
   split
   . exact We val i
   rename_i h;refine List.nodup_append.mpr ⟨We val i,by simp,?_⟩;intro a ha b hb e;rw[On.mp hb] at e;exact h<|e ▸ ha
def once(ss:List Str):List Str:=met (fun i=>ss.getD i G4) ss.length
inductive L4 (w:UF) (a:Addr) (ms:List Str) (h:KM):Prop
 | mk (o:Obj) (es:Array (Int×IR)) (ep:Nat) (t:SetTable) (h1:h.get? a=some o) (h2:o.ExactSet) (h3:o.data=.set es ep t) (h4:StrsAre (es.toList.map (·.2)) (es.toList.map fun e=>strOf e.2)) (h5:(es.toList.map fun e=>strOf e.2).Perm ms) (h6:es.size < 4096) (h7:t.fits es.size=true) (h8:es.size=ms.length) (h9:ms.length=0\/t.plain=false) (h10:∃ b:Bool,w.params.followText "set-order"=b/\(b=true\/t.led=true))
variable {h:KM}{a:Addr}{ms:List Str}
def rO(nd:ms.Nodup)(x:Jd (strKind prog w) h a (fun x=>decide (x∈ms)) ms.length):L4 w a ms h:=by
 obtain⟨o,es,ep,t,g,gx,gd,k1,k2,k3,k4,k5,k6,k7⟩:=x;have all:∀ e∈es.toList,∃ z tk,e.2=.str z tk:=fun e he=>by obtain⟨⟨k,hk,_⟩,_⟩:=k1 e he;obtain⟨t,ht⟩:=DP hk;exact⟨k,t,ht⟩
 refine⟨o,es,ep,t,g,gx,gd,?_,ZG nd (fun z hz=>?_)<|by simpa using k5,k3,k4,k5,k6,⟨_,rfl,k7⟩⟩
 . have:=strsAre_map (es.toList.map (·.2)) fun v hv=>by
     obtain⟨e,he,rfl⟩:=PP.mp hv;exact all e he
   rwa [Be] at this
 obtain⟨e,he,u⟩:=(k2 z).mp<|decide_eq_true hz;obtain⟨t,ht⟩:=DP u;exact PP.mpr ⟨e,he,by rw[ht];rfl⟩
variable {X:Cx}{H:Hp}
def sU{qp:List (Addr×Obj)}{σ:List (Option V)}(I:Inv X qp σ H s)(d:Drawn):Inv X qp σ H { s with drawn:=d }:=⟨I.ok,I.os,I.bare,I.base,I.loc,I.cell,I.free,I.freeC,I.pin,I.hok,I.len⟩
def rP{P:Pv}{w':UF}(x:L4 w' a ms h):Ju P w H h a (.ext<|L4 w' a ms):=by have y:=x;obtain⟨o,es,ep,t,h1⟩:=y;refine⟨x,⟨o,h1⟩,?_⟩;rintro g1 g2 ⟨o,es,ep,t,h1,h2,h3,h4,h5,h6,h7,h8,h9,h10⟩ k;exact⟨o,es,ep,t,k o h1,h2,h3,h4,h5,h6,h7,h8,h9,h10⟩
inductive Sf (w:UF) (K:Ac) (H:Hp) (Q:VK):List V->Prop
 | mk (a:Addr) (ss:List Str) (h1:JB K H a (ss.map V.str)) (h2:ss.length<=4000) (h3:∀ p,H p=none->Q (.ref p) (upd H p (.ext (L4 w p (once ss))))):Sf w K H Q [.ref a]
def wG(hc:X.calm=true):Mj X (.type "set") (fun xs H Q=>Sf X.w X.K H Q xs):=by
 rintro qp s σ H xs us Q I r ⟨a,ss,h1,h2,h3⟩;obtain⟨u,rfl,ru⟩:=r.one;cases ru;obtain⟨its,rv,pl,hz⟩:=I.list h1;have hl:its.length=ss.length:=by have:=rv.length;rw[Af] at this;exact this.symm
 have sz:its.toArray.size=ss.length:=by rw[Aw];exact hl
 refine xM (val:=fun i=>ss.getD i G4) (I.ok.hd hc) pl.isList (fun i v e=>?_) (by rw[sz];unfold scanBound;omega) fun h' tk hs hk=>?_
 . rw[Fh] at e;have hi:i < ss.length:=by rw[<-hl];exact (KF.mp e).1
   obtain⟨y,hy,ry⟩:=rv.get (i:=i) (x:=V.str ss[i]) (by rw[AD,Ah hi];rfl);rw[e] at hy;cases hy;obtain⟨t,rfl⟩:=ry;refine⟨t,?_⟩;rw[Ay,Ah hi];rfl
 rw[sz] at hs;refine⟨.ref s.heap.objs.size,_,I.laid (t':=tk) (fun b o q=>hk b o (Aj q) q) (Ag _)<|rP<|rO (We _ _) hs,rfl,?_⟩;exact h3 _<|I.hok.fresh<|Ag _
inductive Sd (w:UF) (H:Hp) (Q:VK):List V->Prop
 | mk (a:Addr) (ms:List Str) (h1:H a=some (.ext (L4 w a ms))) (h3:ms.length < 64) (h4:∀ l,H l=none->Q (.ref l) (upd H l (.lst ((OA ms).map V.str)))):Sd w H Q [.ref a]
def wH(hc:X.calm=true):Mj X (.builtin "sorted") (fun xs H Q=>Sd X.w H Q xs):=by
 rintro qp s σ H xs us Q I r ⟨a,ms,hH,h3,h4⟩;obtain⟨u,rfl,ru⟩:=r.one;cases ru;obtain⟨⟨o,es,ep,t,e1,e2,e3,e4,e5,e6,e7,e8,e9,⟨_,rfl,e10⟩⟩,_,_⟩:=I.hok a _ hH;have hp:t.plain=false\/ST.K7 t.place:=e9.elim (fun z=>.inr fun i j a b=>absurd b (by
   have hf2:=e7;unfold Ee at hf2;rw[Ar] at hf2;have h2:t.place.size=es.size:=by simpa using hf2.1
   omega)) .inl
 refine Da kind_sorted plain_sorted entry_sorted (FU _) ?_;unfold Builtin.«sorted»;refine Aa (m:=checkCount "sorted" 1 1 _) (Ab<|Aa<|zfS (A:=X.A.in1) (I.ok.hd hc) e1 e2 e3 e7 e8 (by omega) hp e10 fun h' d tk vs hk hsz hv=>?_);have hvs:StrsAre vs (vs.map strOf):=strsAre_map vs fun v hm=>e4.all v<|hv.mem_iff.mp hm;have hvp:(vs.map strOf).Perm ms:=by have:=hv.map strOf;rw[Be] at this;exact this.trans e5
 have hlen:vs.length=ms.length:=by rw[hv.length_eq,Af,AK,e8]
 refine Aa<|Dz ?_ (by rw[hlen];exact MJ h3);have g0:(h'.push<|seqObj "list" vs.toArray 0).get? h'.objs.size=some (seqObj "list" vs.toArray 0):=Am _ rfl;refine Aa<|A0<|AO Fm ⟨_,g0,rfl⟩ ER (list_sort_treeK strKind_oneLt g0 hvs.keysOf (fun v₁ v₂ rest e=>keyKind_strs (by rw[<-e];exact hvs)) (by omega) fun st' a1 a2=>⟨_,rfl,Ab ⟨_,rfl,?_⟩⟩)<|Fn _;obtain⟨ss',b1,b2,b3⟩:=sorted_out_str hvs a1 a2;have es:=dA (b2.trans hvp) b3;have hs:s.heap.objs.size<=h'.objs.size:=BQ hsz;obtain⟨c,hat⟩:=sortedHeap_at (vs:=vs) (out:=(arrOf st').map (·.2)) (n:=0) g0;have hlen':(ss'.map V.str).length<=sizeLine:=by rw[Af,(b2.trans hvp).length_eq];exact MJ h3
 refine⟨.ref h'.objs.size,upd H h'.objs.size<|.lst<|ss'.map V.str,((sU I d).laid (t':=tk) (a:=h'.objs.size) (fun b u q=>?_) hs ⟨hlen',((arrOf st').map (·.2)).toList,c,T3 b1,by rw[Array.toArray_toList];exact hat⟩),rfl,?_⟩
 . have q1:=hk b u q;have hb:=Aj q1;rw[sortedHeap_old (An hb) (by rw[size_push'];exact Ck hb)];exact Ad _ q1
 rw[es];exact h4 _<|I.hok.fresh hs
def Ss(m:ME):ME:=fun ρ st=>(m ρ st).bind fun (d,s)=>match d with
 | .ref n=>(Ik s n).bind fun ds=>(strsOf ds).bind fun ss=>if (decide (ss.length<=4000)&&decide ((once ss).length < 64))=true then some (.ref s.length,s++[.lst ((OA<|once ss).map D.str)]) else none
 | _=>none
variable {pos:Pos}
section
variable {K:Ac} {io:List Addr} {st st':HB} {m:ME}
def bC:∀ {xs:List V} {ds:List D} {ss:List Str},HC K H io xs ds->strsOf ds=some ss->xs=ss.map V.str
 | xs,[],ss,r,e=>by cases e;exact r
 | xs,d::ds,ss,r,e=>by obtain⟨x,zs,rfl,e1,rfl⟩:=cJ e;obtain⟨v,vs,rfl,r1,r2⟩:=r;cases r1;rw[bC r2 e1];rfl
def rK{o:Os}{p p2 pos2:Pos}(hc:X.calm=true)(hg:Gl X "sorted")(hm:X.mg "sorted"=none)(hg2:Gl X "set")(hm2:X.mg "set"=none)(ho:SE X o m)
   (ho2:P3 [o] X.env=(false,W1 o X.env)::P3 [] X.env:=by rfl) (hp2:(backTo pos2<|P3 [] X.env).any (·.1)=false:=by rfl)
   (he:P3 [Expr.Call (.Name "set" p2) [o] [] pos2] X.env=(false,W1 (.Call (.Name "set" p2) [o] [] pos2) X.env)::P3 [] X.env:=by rfl) (hpl:(backTo pos<|P3 [] X.env).any (·.1)=false:=by rfl) :
   SE X (.Call (.Name "sorted" p) [.Call (.Name "set" p2) [o] [] pos2] [] pos) (Ss m) :=
 PE.imp (TV (wH hc) hg hm Wb (Pd (aY (wG hc) hg2 hm2 jD (Pd ho QT ho2) (by decide) (by decide) ho2 hp2) QT he) (by decide) (by decide) he hpl) <| by
   rintro σ H Q ⟨ρ,st,io,d,st',E,S,e,k⟩;obtain⟨⟨x,s1⟩,e1,f1⟩:=HK e;clear e;refine⟨ρ,st,io,x,s1,E,S,e1,fun v H1 k1 X1 S1 R1=>?_⟩
   cases x with
   | ref n =>
     dsimp only at f1;obtain⟨ds,e2,f2⟩:=HK f1;obtain⟨ss,e3,f3⟩:=HK f2;obtain⟨hl,e⟩:=IJ f3;cases e;rw[Ar] at hl;obtain⟨a,rfl,ha⟩:=R1;obtain⟨xs,hq,r⟩:=Ky S1 ha e2;rw[bC r e3] at hq;refine⟨a,ss,hq,of_decide_eq_true hl.1,fun p hp=>?_⟩;obtain⟨E2,S2⟩:=Q3 (o:=.ext (L4 X.w p<|once ss)) S1 hp;refine⟨p,once ss,JP,of_decide_eq_true hl.2,fun l hf=>?_⟩;exact ((k.on S1 X1).on S2 E2).lst S2 (aH _) hf
   | _=>cases f1
end
end L2.MP
namespace L2.MP.ST
open PySem PySem.SetTable
end L2.MP.ST
namespace L2.MP
open PySem PySem.Spec PyProof.Rows
end L2.MP
namespace L2.MP
open PySem PySem.Spec
open PyProof.Rows
variable {X:Cx}{K:Ac}{H:Hp}{io:List Addr}{st st':HB}{mm:MA}{pos px py pz pt:Pos}{i j l:Nat}{x y z:Str}
section
variable {a b c:Os}
def fL(i j l:Nat)(ta:TA):TS:=fun D σ H=>ta σ H fun vs H1=>∃ u v w,vs=[u,v,w]/\D.nx (((σ.set i<|some u).set j<|some v).set l<|some w) H1
def oB{ta:TA}{kt k2 pt2}(hc:X.calm=true)(hN:X.N.Nodup)(hi:X.N[i]?=some x)(hj:X.N[j]?=some y)(hl:X.N[l]?=some z)(hij:i≠j)(hil:i≠l)(hjl:j≠l)
   (hx:X.env.scope.names.lookup x=some .local) (hy:X.env.scope.names.lookup y=some .local) (hz:X.env.scope.names.lookup z=some .local) (ha:PA X [a,b,c] ta)
   (hw:swappedStores [.Tuple [.Name x px,.Name y py,.Name z pz] kt pt] (.Tuple [a,b,c] k2 pt2) X.env=pure (some [x,y,z]))
   (hs:swapsWithSole [.Tuple [.Name x px,.Name y py,.Name z pz] kt pt] (.Tuple [a,b,c] k2 pt2) pos.line X.env=pure false:=by rfl) :
   PS X (.Assign [.Tuple [.Name x px,.Name y py,.Name z pz] kt pt] (.Tuple [a,b,c] k2 pt2) pos) (fL i j l ta):=by
 intro qp s σ H D I h;rw[exec_Assign_arm];refine Aa<|BU ?_;rw[hs];refine Aa<|Ab ?_;rw[if_neg (by decide)];refine Aa<|Tuple_<|HS (ha _ qp s σ H _ I h) ?_;rintro us s1 ⟨vs,H1,I1,r1,u,v,w,rfl,q1⟩;obtain⟨u1,u2,u3,rfl,ru,rv,rw'⟩:∃ u1 u2 u3,us=[u1,u2,u3]/\RelV u u1/\RelV v u2/\RelV w u3:=by
   cases r1 with
   | cons p q =>
     cases q with
     | cons p' q' =>
       cases q' with
       | cons p'' q'' =>
         cases q'';exact⟨_,_,_,rfl,p,p',p''⟩
 refine AN ?_ (by show 3<=sizeLine;decide);have I2:Inv X qp σ H1 { s1 with heap:=s1.heap.push { cls:=.type "tuple",data:=.seq [u1,u2,u3].toArray } }:=I1.kept (t':=s1.toks) fun b o e=>Ad _ e;rw[hw];refine Aa<|Ab ?_;show wpAny (KB X.prog X.w) X.A (do rule "assign.swapped-stores";let items <-unpackItems (.ref s1.heap.objs.size) 3 none;assignInOrder [fun v=>bindName X.env z v,fun v=>bindName X.env y v,fun v=>bindName X.env x v] items.reverse;pure FJ) _ _ _;refine Aa<|BY<|Aa<|F4 (items:=#[u1,u2,u3]) (I.ok.hd hc) (IsTup.new s1.heap _) fun h' hx'=>?_;have I3:=I2.kept (h':=h') (t':=s1.toks) fun b o e=>hx' b o (An<|Aj e) e;show wpAny _ _ (assignInOrder [fun v=>bindName X.env z v,fun v=>bindName X.env y v,fun v=>bindName X.env x v] [u3,u2,u1] >>= fun _=>pure FJ) _ _ _;refine Aa<|B6<|Dj<|NA I3 hN hl (.inl hz) rw' (fun s2 I4=>?_)<|.inr hz;refine B6<|Dj<|NA I4 hN hj (.inl hy) rv (fun s3 I5=>?_)<|.inr hy;refine B6<|Dj<|NA I5 hN hi (.inl hx) ru (fun s4 I6=>Eg (Ab ?_))<|.inr hx;rw[D7 _ _ (A6 hij),D7 _ _ (A6 hil),D7 _ _ (A6 hjl)] at I6;exact⟨_,H1,I6,q1⟩
def U2(i j l:Nat)(mm:MA):MS:=fun ρ st=>(mm ρ st).bind fun (xs,s)=>match xs with
 | [x,y,z]=>some (.nx (((ρ.set i<|some x).set j<|some y).set l<|some z),s)
 | _=>none
theorem nO{ρ:Ie}:U2 i j l mm ρ st=(mm ρ st).bind fun p=>match p.1 with
 | [x,y,z]=>some (.nx (((ρ.set i<|some x).set j<|some y).set l<|some z),p.2)
 | _=>none:=rfl
def qS{kt k2 pt2}(hc:X.calm=true)(hN:X.N.Nodup)(hi:X.N[i]?=some x)(hj:X.N[j]?=some y)(hl:X.N[l]?=some z)(hij:i≠j)(hil:i≠l)(hjl:j≠l)
   (hx:X.env.scope.names.lookup x=some .local) (hy:X.env.scope.names.lookup y=some .local) (hz:X.env.scope.names.lookup z=some .local) (ha:SA X [a,b,c] mm)
   (hw:swappedStores [.Tuple [.Name x px,.Name y py,.Name z pz] kt pt] (.Tuple [a,b,c] k2 pt2) X.env=pure (some [x,y,z]):=by rfl)
   (hs:swapsWithSole [.Tuple [.Name x px,.Name y py,.Name z pz] kt pt] (.Tuple [a,b,c] k2 pt2) pos.line X.env=pure false:=by rfl) :
   SS X (.Assign [.Tuple [.Name x px,.Name y py,.Name z pz] kt pt] (.Tuple [a,b,c] k2 pt2) pos) (U2 i j l mm):=PS.imp (oB hc hN hi hj hl hij hil hjl hx hy hz ha hw hs) fun N σ H h=>by
 obtain⟨ρ,st,io,f,st',E,S,e,w⟩:=Lf.mp h;obtain⟨⟨xs,s1⟩,e1,e⟩:=HK e
 match xs,e,e1 with
 | [u,v,t],e,e1 =>
   cases e;refine⟨ρ,st,io,_,_,E,S,e1,fun vs H1 k1 X1 S1 R1=>?_⟩;obtain⟨p,r,rfl,r1,R2⟩:=R1;obtain⟨q,o,rfl,r2,r3⟩:=R2.two;exact⟨p,q,o,rfl,w _ H1 k1 X1 S1<|(((E.ext S X1).set i r1).set j r2).set l r3⟩
end
section
variable {e:Os} {es:List Os} {m:ME}
def gK{p:Pos}{f:Addr}(hg:Gl X x)(hm:X.mg x=some (.ref f))(hn:JV X.K x f)(hd:(x==("__debug__":Str))=false:=by decide):SE X (.Name x p) (mK<|.fn x) :=
 PE.imp (pM hg hm (v:=.ref f) rfl hd) <| by
   rintro σ H Q ⟨ρ,st,io,d,st',E,S,e,k⟩
   cases e;exact k.now S ⟨f,rfl,hn⟩
end
end L2.MP
namespace L2.MP
open PySem PyProof.Rows
section
open PySem.SeqAt
open PySem.MeetsSeq PySem.MeetsSeq2 PySem.MeetsSeq3
end
open PySem.Spec
open PySem.SeqAt
end L2.MP
namespace L2.MP
open PySem PySem.Spec PyProof.Rows
end L2.MP
namespace L2.MP
open PySem
variable {prog:Pv}{w:UF}{A:Around}{E:Qqa}{hp:KM}{gs:Array GenState}{dr:Drawn}{tk:Nat}{nm ql:Str}{C N f:Addr}{bs bm sub xs:List IR}{b1 b2:Bool}{sn:List Str}{b3:Option Bool}{dd:Option Addr}{k0 k1 k2 k3 k5:Option IR}{B newId:String}{mN:Str->Option IR}{oF:Obj}
section
variable {os:OsState}
variable {bmB bmN:List IR} {Bn nid initId inN:String}
noncomputable abbrev NR (xs:List IR):Obj:={ cls:=.type "tuple",data:=.seq xs.toArray }
noncomputable abbrev MN (C n:Addr):Obj:={ cls:=.ref C,data:=.fields #[.ref n,.none,.none,.none,.bool false,.none] }
def zeW(X1:ExcBaseFacts Bn newId inN bmN)(X2:bmB.contains (.type Bn)=true)(X3:ExcBaseFacts B nid initId bmB)(T:OwnTail hp bmB bm){Q:Fin->Shared->Prop}
   (at_:hp.get? C=some (excClassObj nm ql C N bs bm b1 sn sub b2 b3 dd k0 k1 k2 k3 k5 newId)) (ns:hp.Ns N mN) (own:mN "__init__"=some (.ref f)) (fat:hp.get? f=some oF) (fcl:oF.cls=.type "function")
   (k:∀ h' e,hp.objs.size<=e->GX hp h' e (.ref C) xs->wpAny (KB prog w) A (call (.ref f) (.ref e::xs)) (fun r s'=>r=.none/\Q (.done<|.ret<|.ref e) s') E ⟨h',gs,dr,tk,os⟩) (few:xs.length<=sizeLine) :
   wpAny (KB prog w) A (Builtin.«type.__call__» ⟨.ref C::xs,[]⟩) Q E ⟨hp,gs,dr,tk,os⟩:=by
 repeat (first | with_reducible refine BF at_ ?_ | with_reducible refine wpAny_madeBy_exc at_ ?_ | wp_step)
 refine codeAny_call_builtin_code (D3 _ X1.quiet)<|wpAny_check_new_subU X1 X2 T at_<|codeAny_exc_new_subU X1 X2 X3 T at_ ?_ few;show wpAny _ _ _ _ _ _;have up:∀ {b:Addr} {o:Obj},hp.get? b=some o->((hp.push<|NR xs).push<|MN C hp.objs.size).get? b=some o:=fun e=>Ad _<|Ad _ e;have at1:=up at_;have f1:=up fat;have ns1:((hp.push<|NR xs).push<|MN C hp.objs.size).Ns N mN:=by obtain⟨o,es,ep,e,r⟩:=ns;exact⟨o,es,ep,up e,r⟩
 have new:((hp.push<|NR xs).push<|MN C hp.objs.size).get? (hp.objs.size+1)=some (MN C hp.objs.size):=by heap_get
 have self:(Au C::bm).contains (.ref C)=true:=by simp
 have T1:=T.keeps (h':=(hp.push<|NR xs).push (MN C hp.objs.size)) fun b o e=>up e;unfold isInstance
 repeat (first | with_reducible refine BF new ?_ | (with_reducible refine DS at1 ?_;rw[self]) | wp_step)
 show wpAny _ _ (typeLookup (.ref C) _) _ _ _;refine wpAny_typeLookup_tail at1 ns1 T1 X3.mroIs X3.init.lookup ?_;rw[own];refine A0<|Aa ?_;unfold bindSpecial;refine Aa (Ca (T:="function") ⟨_,f1,fcl⟩ ?_);rw[if_pos (by decide)];refine Ab<|Aa<|A8 (k _ (hp.objs.size+1) (BR _) ⟨fun b o e=>up e,DF<|BR _,hp.objs.size,new,DF<|Ag _,Ad _<|Gh rfl rfl⟩) (fun r s' z=>?_) fun _ _ z=>z;obtain⟨rfl,z⟩:=z
 wp_walk
 exact z
def wF(X1:ExcBaseFacts Bn newId inN bmN)(X2:bmB.contains (.type Bn)=true)(X3:ExcBaseFacts B nid initId bmB)(T:OwnTail hp bmB bm){Q:Qqa}
   (at_:hp.get? C=some (excClassObj nm ql C N bs bm b1 sn sub b2 b3 dd k0 k1 k2 k3 k5 newId)) (ns:hp.Ns N mN) (own:mN "__init__"=some (.ref f)) (fat:hp.get? f=some oF) (fcl:oF.cls=.type "function")
   (k:∀ h' e,hp.objs.size<=e->GX hp h' e (.ref C) xs->wpAny (KB prog w) (A.under<|.builtin "type.__call__" ⟨.ref C::xs,[]⟩) (call (.ref f) (.ref e::xs)) (fun r s'=>r=.none/\Q (.ref e) s') E ⟨h',gs,dr,tk,os⟩) (few:xs.length<=sizeLine) :
   wpAny (KB prog w) A (call (.ref C) xs) Q E ⟨hp,gs,dr,tk,os⟩:=by
 have z1:=tc_lookup;have z2:=tc_bind<|.ref C;have ty:(⟨hp,gs,dr,tk,os⟩:Shared).TypeIs (.ref C) "type":=⟨_,at_,rfl⟩
 refine DG<|ET ?_;show wpAny _ _ (callAny (.ref C) _) _ _ _
 repeat (any_goals (first | assumption | with_reducible refine BF at_ ?_ | wp_step))
 exact⟨rfl,codeAny_call_builtin_at (D3 _<|by decide +kernel) entry_typeCall<|wpAny_check_type_call_sub at_<|zeW X1 X2 X3 T at_ ns own fat fcl k few⟩
end
inductive OT (hp:KM) (nn:List Str) (top:List IR):List IR->Prop
 | base:OT hp nn top top
 | own {a:Addr} {c0:IR} {dd:Option Addr} {cd:ClassData} {sl:Array (Option IR)} {mA:Str->Option IR} {tl:List IR}
     (at_:hp.get? a=some { cls:=c0,dict:=dd,data:=.cls cd,slots:=sl }) (ns:hp.Ns cd.ns mA) (no:∀ n∈nn,mA n=none) (more:OT hp nn top tl):OT hp nn top (.ref a::tl)
variable {nn:List Str}{tl:List IR}
section
variable {hp':KM} {top:List IR}
def OT.tail(T:OT hp nn top tl)(h:("__init__":Str)∈nn):OwnTail hp top tl:=by
 induction T with
 | base=>exact .base
 | own at_ ns no _ ih=>exact .own at_ ns (no _ h) ih
def OT.has(T:OT hp nn top tl){z:String}{b:Bool}(h:top.contains (.type z)=b):tl.contains (.type z)=b:=by
 induction T with
 | base=>exact h
 | own _ _ _ _ ih=>rw[D4,ih];rfl
def OT.pass(T:OT hp nn top tl)(self:IR)(what:Str):refuseLoop self what tl=refuseLoop self what top:=by
 induction T with
 | base=>rfl
 | own _ _ _ _ ih=>rw[refuseLoop_ref,ih]
end
variable {Q:Unit->Shared->Prop}{M:Model}{x:Addr}{sa owner:String}{name:Str}{v:IR}{y:Option IR}{o:Obj}
section
variable {os:OsState}
variable {top:List IR}
def qB{Q:Option IR->Shared->Prop}(T:OT hp nn top tl)(hm:name∈nn)(e:lookupAlong top name=pure y)(k:Q y ⟨hp,gs,dr,tk,os⟩):wpAny M A (lookupAlong tl name) Q E ⟨hp,gs,dr,tk,os⟩:=by
 induction T with
 | base=>rw[e];exact Ab k
 | own at_ ns no _ ih =>
   rw[lookupAlong_cons];refine Aa<|wpAny_classOwn_cls at_ ns ?_;rw[no _ hm];exact ih
def aP{Q:Option IR->Shared->Prop}(at_:hp.get? C=some (excClassObj nm ql C N bs bm b1 sn sub b2 b3 dd k0 k1 k2 k3 k5 newId))(ns:hp.Ns N mN)(T:OT hp nn top bm)(hm:name∈nn)(mro:mroOf (.type B)=pure top)
   (e:typeLookup (.type B) name=pure y) (no:mN name=none) (k:Q y ⟨hp,gs,dr,tk,os⟩):wpAny M A (typeLookup (.ref C) name) Q E ⟨hp,gs,dr,tk,os⟩:=by
 rw[typeLookup_eq,mro] at e;rw[typeLookup_eq];refine Aa<|wpAny_mroOf_exc at_ ?_;rw[lookupAlong_cons];refine Aa<|wpAny_classOwn_exc at_ ns ?_;rw[no];exact qB T hm e k
def qG{u:IR}(SF:StoreFacts B top sa owner)(T:OT hp nn top bm)(at_:hp.get? C=some (excClassObj nm ql C N bs bm true sn sub b2 b3 dd k0 k1 k2 k3 k5 newId))(hx:hp.get? x=some o)(hc:o.cls=.ref C)(k:Q () ⟨hp,gs,dr,tk,os⟩) :
   wpAny M A (checkBuiltinCall sa ⟨[.ref x,u,v],[]⟩) Q E ⟨hp,gs,dr,tk,os⟩:=by
 have own:(Au C::bm).contains (.type owner)=true:=by rw[D4,T.has SF.hasOwner];simp
 have ok:=SF.args (.ref x) u v;simp only[checkBuiltinCall,SF.kind,SF.split];refine Aa ?_;unfold isInstance
 repeat (first | (with_reducible refine BF hx ?_;rw[hc]) | (with_reducible refine DS at_ ?_;rw[own]) | wp_step)
 cases sg:Manifest.signature? sa with
 | none=>exact Ab k
 | some g =>
   simp only[argsOk,sg] at ok;show wpAny M A (Bind.checkArgs sa g ⟨[.ref x,u,v],[]⟩) Q E _;rw[show Bind.checkArgs sa g ⟨[.ref x,u,v],[]⟩=pure () from ok];exact Ab k
end
section
variable {os:OsState}
variable {top:List IR}
open Builtin Builtin.ObjectAttr in
def uA{tok:Tok}{Q:Fin->Shared->Prop}(SF:StoreFacts B top sa owner)(T:OT hp nn top bm)(hm:name∈nn)(at_:hp.get? C=some (excClassObj nm ql C N bs bm true sn sub b2 b3 dd k0 k1 k2 k3 k5 newId))(ns:hp.Ns N mN)(no:mN name=none)
   (e:typeLookup (.type B) name=pure none) (hx:hp.get? x=some o) (hc:o.cls=.ref C) (hnc:∀ c,o.data≠.cls c) (hd:o.dict=none)
   (k:∀ h' tk',h'.get? x=some { o with dict:=some hp.objs.size }->h'.Ns1 hp.objs.size (fun y=>if y=name then some v else none)->(∀ b ob,b≠x->hp.get? b=some ob->h'.get? b=some ob)->Q (.done<|.ret .none) ⟨h',gs,dr,tk',os⟩) :
   wpAny (KB prog w) A (Builtin.«object.__setattr__» ⟨[.ref x,.str name tok,v],[]⟩) Q E ⟨hp,gs,dr,tk,os⟩:=by
 have pass:=(T.pass (.ref x) "__setattr__").trans (SF.passes<|.ref x);have hxs:x≠hp.objs.size:=An<|Aj hx;unfold Builtin.«object.__setattr__»
 repeat (first | rw[refuse_eq] | (rw[refuseLoop_ref,pass]) | (with_reducible refine BF hx ?_;rw[hc]) | with_reducible refine wpAny_mroOf_exc at_ ?_ | with_reducible refine aP at_ ns T hm SF.mro e no ?_ | wp_step)
 rw[hd,if_neg (by simp[typeHasDict])]
 split
 . rename_i z;cases z
 split
 . rename_i c z;exact absurd z<|hnc c
 . have hx1:(hp.push Qqd).get? x=some o:=Ad _ hx;refine Aa<|wpAny_alloc'<|Aa<|wpAny_update' hx1<|Ab ?_;have hD:((hp.push Qqd).update x fun o=>{ cls:=o.cls,dict:=some hp.objs.size,data:=o.data,slots:=o.slots }).get? hp.objs.size=some Qqd:=by
     rw[FH _ _ _ _ hxs.symm];exact Gh rfl rfl
   have hX:((hp.push Qqd).update x fun o=>{ cls:=o.cls,dict:=some hp.objs.size,data:=o.data,slots:=o.slots }).get? x=some { o with dict:=some hp.objs.size }:=by
     refine AG _ hx1 ?_;have fr:=(Heap.get?_some_iff.mp hx).2;obtain⟨oc,od,odt,osl⟩:=o
     cases odt <;> first | rfl | exact fr
   have hO:∀ b ob,b≠x->hp.get? b=some ob->((hp.push Qqd).update x fun o=>{ cls:=o.cls,dict:=some hp.objs.size,data:=o.data,slots:=o.slots }).get? b=some ob:=fun b ob hb z=>by rw[FH _ _ _ _ hb];exact Ad _ z
   generalize ((hp.push Qqd).update x fun o=>{ cls:=o.cls,dict:=some hp.objs.size,data:=o.data,slots:=o.slots })=h2 at *;have hE:h2.Ns hp.objs.size (fun _=>none):=⟨_,#[],_,hD,rfl,fun z hz=>absurd hz (by simp),fun _=>rfl⟩
   show wpAny _ _ (storeInDict hp.objs.size (.str name tok) name v) _ _ _;unfold storeInDict newKeyGuard;refine Aa<|Ab<|Aa<|wpAny_nsSet1 (Heap.Ns1.of_empty hE) fun h3 n3 sb=>?_;obtain⟨oD,esD,epD,q1,q2,q3⟩:=n3.count<|Within.cons name v Within.nil;refine Aa<|wpAny_lookBehind q1 (by rw[q2];exact pastItsLine_dict (Az q3 (by rw[AC,Bf,Dv];omega))) ?_
   wp_walk
   exact k h3 _ ((sb.2 x hxs).trans hX) n3 fun b ob hb z=>(sb.2 b<|An<|Aj z).trans (hO b ob hb z)
def uQ(SF:StoreFacts B top sa owner)(T:OT hp nn top bm)(hm:name∈nn)(hms:("__setattr__":Str)∈nn)(at_:hp.get? C=some (excClassObj nm ql C N bs bm true sn sub b2 b3 dd k0 k1 k2 k3 k5 newId))(ns:hp.Ns N mN)(no:mN name=none)(nos:mN "__setattr__"=none)
   (e:typeLookup (.type B) name=pure none) (hx:hp.get? x=some o) (hc:o.cls=.ref C) (hnc:∀ c,o.data≠.cls c) (hd:o.dict=none)
   (k:∀ h' tk',h'.get? x=some { o with dict:=some hp.objs.size }->h'.Ns1 hp.objs.size (fun y=>if y=name then some v else none)->(∀ b ob,b≠x->hp.get? b=some ob->h'.get? b=some ob)->Q () ⟨h',gs,dr,tk',os⟩) :
   wpAny (KB prog w) A (setAttr (.ref x) name v) Q E ⟨hp,gs,dr,tk,os⟩:=by
 have bd:=SF.slot.bind<|.ref x;unfold setAttr callSpecial? specialOf
 repeat (any_goals (first | assumption | (with_reducible refine BF hx ?_;rw[hc]) | with_reducible refine aP at_ ns T hms SF.mro SF.slot.lookup nos ?_ | wp_step))
 refine DO SF.slot.plain SF.entry<|qG SF T at_ hx hc<|uA SF T hm at_ ns no e hx hc hnc hd fun h' tk' z1 z2 z3=>?_
 repeat (any_goals (first | assumption | wp_step))
 exact k h' tk' z1 z2 z3
end
variable {pos:Pos}
section
variable {s:Shared} {env:Env}
def Ww{x:Sem IR}{Q:Flow->Shared->Prop}(hb:bm.contains (.type "BaseException")=true)(hh:A.handled=none)
   (h:wpAny M A x (fun v s1=>∃ e t D,v=.ref e/\s1.heap.get? C=some (excClassObj nm ql C N bs bm b1 sn sub b2 b3 dd k0 k1 k2 k3 k5 newId) /\
     s1.heap.get? e=some { cls:=.ref C,dict:=D,data:=.fields #[.ref t,.none,.none,.none,.bool false,.none] }/\E (.ref e) s1) E s):wpAny M A (raiseStmt env (some x) none) Q E s:=by
 have top:(Au C::bm).contains (.type "BaseException")=true:=by rw[D4,hb];simp
 unfold raiseStmt;refine Aa<|A8 h (fun v s1 z=>?_) fun _ _ z=>z;obtain⟨e,t,D,rfl,at_,he,k⟩:=z;obtain⟨hp,gs,dr,tk,os⟩:=s1
 repeat (first | with_reducible refine BF he ?_ | with_reducible refine BF at_ ?_ | (with_reducible refine DS at_ ?_;rw[top]) | wp_step)
 exact wpAny_raiseNew_none hh k
def yU{ex:Os}{Q:Flow->Shared->Prop}(hb:bm.contains (.type "BaseException")=true)(hh:A.handled=none)
   (h:wpAny M A (W1 ex env) (fun v s1=>∃ e t D,v=.ref e/\s1.heap.get? C=some (excClassObj nm ql C N bs bm b1 sn sub b2 b3 dd k0 k1 k2 k3 k5 newId) /\
     s1.heap.get? e=some { cls:=.ref C,dict:=D,data:=.fields #[.ref t,.none,.none,.none,.bool false,.none] }/\E (.ref e) s1) E s):wpAny M A (exec (.Raise (some ex) none pos) env) Q E s:=by
 rw[arm_exec_Raise]
 first
   | exact Aa (BU<|Ww hb hh h)
   | (simp only[evalOpt,Hu];exact Aa (BU<|Ww hb hh<|Aa<|A8 h (fun v s3 z=>Aa (BU<|Ab z)) fun _ _ z=>z))
   | exact Aa (BU<|Ww hb hh<|Aa<|A8 h (fun v s3 z=>Aa (BU<|Ab z)) fun _ _ z=>z)
end
open PySem.Spec PyProof.Rows
structure WX(K:Ac)(er:Int->D)(z:Int->Hp->Prop)(io:List Addr)(H:Hp)(st':HB)(N:Ends)(f:Fl):Prop where
 x:∀ n,f=.rt (er n)->∀ H' ka,Ext io ka H H'->HN K H' (io++ka) st'->z n H'
 w:Wn K io H st' N f
inductive tX (K:Ac) (er:Int->D) (z:Int->Hp->Prop) (m:MS) (N:Ends) (σ:L2.St) (H:Hp):Prop
 | mk (ρ:Ie) (st:HB) (io:List Addr) (f:Fl) (st':HB) (h1:HQ K H io σ ρ) (h2:HN K H io st) (h3:m ρ st=some (f,st')) (h4:WX K er z io H st' N f)
def SX(X:Cx)(er:Int->D)(z:Int->Hp->Prop)(s:Wp)(m:MS):Prop:=PS X s<|tX X.K er z m
def Od(X:Cx)(er:Int->D)(z:Int->Hp->Prop)(s:List Wp)(m:MS):Prop:=J1 X s<|tX X.K er z m
variable {X:Cx}{K:Ac}{H:Hp}{er:Int->D}
section
variable {e a b c:Os} {st1 st2:Wp} {rest body orelse:List Wp} {m:ME} {mt:MT} {ms mq:MS} {mg:MG} {mi:MI}
variable {H1 H2:Hp} {io ka kb:List Addr} {st st':HB} {z:Int->Hp->Prop} {N:Ends} {f:Fl}
def WX.on(h:WX K er z io H st' N f)(X1:Ext io ka H H1)(S1:HN K H1 (io++ka) st):WX K er z (io++ka) H1 st' N f :=
 ⟨fun n e H' kb E' S'=>h.x n e H' (ka++kb) (X1.trans S1 E') (by rw[<-Aq];exact S'),h.w.on X1 S1⟩
def OQ(h:SS X st1 ms):SX X er z st1 ms:=PS.imp h fun N σ H ⟨ρ,st,io,f,st',E,S,e,w⟩=>M8 E S e w.w
def nU(h:KJ X rest ms):Od X er z rest ms:=J1.imp h fun N σ H ⟨ρ,st,io,f,st',E,S,e,w⟩=>M8 E S e w.w
def Tp(h1:SX X er z st1 ms):Od X er z [st1] ms:=Vy h1
def Ph(h1:SX X er z st1 ms)(h2:Od X er z rest mq):Od X er z (st1::rest) (mS ms mq):=J1.imp (ZI h1 h2) fun N σ H h=>by
 obtain⟨ρ,st,io,f,st',E,S,e,w⟩:=h;obtain⟨⟨f1,s1⟩,e1,e⟩:=HK e
 cases f1 with
 | nx ρ1=>exact⟨ρ,st,io,_,s1,E,S,e1,fun n q=>(by cases q),fun σ' H' ka X' S' R'=>⟨ρ1,s1,io++ka,f,st',R',S',e,w.on X' S'⟩⟩
 | bk ρ1=>cases e;exact⟨ρ,st,io,_,_,E,S,e1,fun n q=>(by cases q),w.w⟩
 | ct ρ1=>cases e;exact⟨ρ,st,io,_,_,E,S,e1,fun n q=>(by cases q),w.w⟩
 | rt d=>cases e;exact⟨ρ,st,io,_,_,E,S,e1,w.x,w.w⟩
def gP(hc:SB X c mt)(h1:Od X er z body ms)(h2:Od X er z orelse mq):SX X er z (.If c body orelse pos) (IY mt ms mq):=PS.imp (Yt hc h1 h2) fun N σ H h=>by
 obtain⟨ρ,st,io,f,st',E,S,e,w⟩:=h;obtain⟨⟨x,s1⟩,e1,e⟩:=HK e;refine⟨ρ,st,io,x,s1,E,S,e1,fun H1 k1 X1 S1=>?_⟩
 cases x with
 | true=>rw[if_pos rfl];exact⟨ρ,s1,io++k1,f,st',E.ext S X1,S1,e,w.on X1 S1⟩
 | false=>rw[if_neg (by decide)];exact⟨ρ,s1,io++k1,f,st',E.ext S X1,S1,e,w.on X1 S1⟩
def nS{tg iter:Os}(hp:PassesOwn (KB X.prog X.w) X.A X.env X.xe)(hc:X.calm=true)(hi:SI X tg iter mi)(hg:SG X tg mg)(hb:Od X er z body ms)
   (hs:∀ x,foldedSetIterable iter X.env x=pure x:=by intro _;rfl):SX X er z (.For tg iter body [] pos) (mF mi mg ms):=PS.imp (YD hp hc hi hg hb hs) fun N σ H h=>by
 obtain⟨ρ,st,io,f,st',E,S,e,w⟩:=h;obtain⟨⟨W,s1⟩,e1,e⟩:=HK e;refine⟨ρ,st,io,W,s1,E,S,e1,fun J H1 k1 X1 S1 IO=>?_⟩;refine⟨fun i n σ2 H2=>n=W.ds.length - i/\∃ ρ2 s2 k2,Ext (io++k1) k2 H1 H2/\HN X.K H2 ((io++k1)++k2) s2/\HQ X.K H2 ((io++k1)++k2) σ2 ρ2/\J5 W mg ms (W.ds.drop i) ρ2 s2=some (f,st'),
   ⟨_,rfl,ρ,s1,[],Ext.refl,by rw[Al];exact S1,by rw[Al];exact E.ext S X1,by rw[Fg];exact e⟩,?_⟩
 rintro i n σ2 H2 ⟨rfl,ρ2,s2,k2,X2,S2,E2,e2⟩;have w2:WX X.K er z ((io++k1)++k2) H2 st' N f:=(w.on X1 S1).on X2 S2
 cases hd:W.ds[i]? with
 | none =>
   have hl:W.ds.length<=i:=List.getElem?_eq_none_iff.mp hd;rw[Dw hl] at e2;obtain⟨hw,e2⟩:=IJ e2;cases e2;refine .inl ⟨?_,w2.w σ2 H2 [] Ext.refl S2.nil (by rw[Al];exact E2)⟩
   by_cases hi:i=W.ds.length
   . rw[hi];exact IO.stop H2 k2 _ X2 S2<|OB hw
   exact IO.stop' H2 k2 _ i hl X2 S2<|OB hw
 | some d =>
   have hl:i < W.ds.length:=(KF.mp hd).1;have hdr:W.ds.drop i=d::W.ds.drop (i+1):=by rw[C7 hl,(KF.mp hd).2]
   rw[hdr] at e2;obtain⟨hw,e2⟩:=IJ e2;obtain⟨⟨ρ3,s3⟩,e3,e2⟩:=HK e2;obtain⟨⟨f4,s4⟩,e4,e2⟩:=HK e2;obtain⟨go,yl⟩:=IO.go i d H2 k2 s2 hd X2 S2 (OB hw);refine .inr ⟨go,fun σ5 H5=>∃ ρ5 s5 k5,Ext (io++k1) k5 H1 H5/\HN X.K H5 ((io++k1)++k5) s5/\HQ X.K H5 ((io++k1)++k5) σ5 ρ5/\J5 W mg ms (W.ds.drop<|i+1) ρ5 s5=some (f,st'),
     fun σ5 H5 h5=>⟨W.ds.length - (i+1),by omega,rfl,h5⟩,fun x H' y=>?_⟩
   obtain⟨X3,S3,R3⟩:=yl x H' y;have X23:Ext (io++k1) k2 H1 H':=(X2.trans S2 X3).app;refine⟨d,ρ2,s2,(io++k1)++k2,ρ3,s3,R3,?_,S3,e3,fun σ6 H6 k6 X6 S6 E6=>?_⟩
   . have:=E2.ext S2 X3;rw[Al] at this;exact this
   . have X26:=X23.trans S3 X6;have S6':HN X.K H6 ((io++k1)++(k2++k6)) s3:=by rw[<-Aq];exact S6
     have fin:∀ {ρ7:Ie},J5 W mg ms (W.ds.drop<|i+1) ρ7 s4=some (f,st')->∀ σ7 H7 k7,Ext ((io++k1)++k2++k6) k7 H6 H7->HN X.K H7 ((io++k1)++k2++k6++k7) s4->HQ X.K H7 ((io++k1)++k2++k6++k7) σ7 ρ7 ->
         ∃ ρ5 s5 k5,Ext (io++k1) k5 H1 H7/\HN X.K H7 ((io++k1)++k5) s5/\HQ X.K H7 ((io++k1)++k5) σ7 ρ5/\J5 W mg ms (W.ds.drop<|i+1) ρ5 s5=some (f,st'):=by
       intro ρ7 e7 σ7 H7 k7 X7 S7 E7;rw[Aq (io++k1)] at X7;rw[Aq (io++k1),Aq (io++k1)] at S7 E7;exact⟨ρ7,s4,(k2++k6)++k7,X26.trans S6' X7,S7,E7,e7⟩
     refine⟨ρ3,s3,_,f4,s4,E6,S6,e4,?_⟩
     cases f4 with
     | nx ρ7=>exact⟨fun n q=>(by cases q),fin e2⟩
     | ct ρ7=>exact⟨fun n q=>(by cases q),fin e2⟩
     | bk ρ7 =>
       cases e2;exact⟨fun n q=>(by cases q),(((w.w).on X1 S1).on X23 S3).on X6 S6⟩
     | rt dd =>
       cases e2;have w9:=((w.on X1 S1).on X23 S3).on X6 S6;exact⟨w9.x,w9.w⟩
end
def Xg(K:Ac)(er:Int->D)(n:Nat)(g:GN):Sp:=fun vs H Q E=>∃ ds st io d st',vs.length=n/\HC K H io vs ds/\HN K H io st/\g ds st=some (d,st')/\Bh K io H st' d Q/\∀ i,d=er i->∀ H' ka,Ext io ka H H'->HN K H' (io++ka) st'->E (.int i 0) none H'
section
variable {P:Pv} {mg:Str->Option IR} {base:KM}
def jA{X:Cx}{n:Nat}{m:MS}{vs:List V}{Q:VK}{E:XK}{N:List Str}(hne:∀ i,er i≠.non)(h:Xg K er n (Jc N.length m) vs H Q E) :
   tX K er (fun i H'=>E (.int i 0) none H') m { nx:=fun _ H'=>Q .non H',rt:=Q } (start N vs) H:=by
 obtain⟨ds,st0,io,d,st',hl,R,SR,e,k,kx⟩:=h;obtain⟨⟨fl,s1⟩,e1,e⟩:=HK e;refine⟨_,st0,io,fl,s1,Z5 R,SR,e1,?_⟩
 cases fl with
 | rt dd=>cases e;exact⟨fun i q=>kx i (by cases q;rfl),k⟩
 | nx ρ=>cases e;exact⟨fun i q=>(by cases q),fun σ' H' ka X' S' E'=>k .non H' ka X' S' rfl⟩
 | bk ρ=>cases e
 | ct ρ=>cases e
end
end L2.MP
namespace L2.MP
open PySem
variable {M:Model}{A:Around}{E:Qqa}{s:Shared}{base:KM}{env:Env}{outer:List Env}{L x:Addr}{o:Obj}{vs:Array IR}{Q:Unit->Shared->Prop}
structure M4(base:KM)(l:List Env)(x:Addr)(o:Obj)(h h':KM):Prop where
 stays:base.StaysIn h'
 frames:h'.FunFrames base l
 err:∃ ws T oT ts,h'.get? x=some { o with data:=.fields ws }/\ws[1]?=some (.ref T)/\(base.get? T=none/\(h.get? T=none->h.objs.size<=T))/\T≠x/\h'.get? T=some oT/\oT.data=.fields ts/\ts[3]?=some .none
 rest:∀ b ob,h.get? b=some ob->(∀ ws,ob.data≠.fields ws)->∃ sl,h'.get? b=some { ob with slots:=sl }
def Zd(hd:o.data=.fields vs)(g:Array IR->Array IR):AR g o={ o with data:=.fields (g vs) }:=by obtain⟨oc,od,odt,osl⟩:=o;cases hd;rfl
def zhC(fr:A.frames=some (env::outer))(fl:s.heap.FunFrames base (env::outer))(hf:env.frame=some L)(hx:s.heap.get? x=some o)(st:base.StaysIn s.heap)(no:base.get? x=none)(hd:o.data=.fields vs)(h1:vs[1]?=some .none)
   (k:∀ h',M4 base (env::outer) x o s.heap h'->Q () { s with heap:=h' }):wpAny M A (leaving env<|.ref x) Q E s:=by
 have big:1 < vs.size:=(Array.getElem?_eq_some_iff.mp h1).1;have xf:x ∉ (env::outer).filterMap (·.frame):=fun z=>by obtain⟨_,ob,hb,nf⟩:=fl.mem z;rw[hx] at hb;cases hb;exact nf vs hd
 unfold leaving noteFrame;simp only[hf];refine Aa<|Aa<|A7 hx hd h1 ?_;rw[if_neg (by decide)];refine Aa<|Gi fr fl hf fun g1 sm=>Aa (FZ fun pl hpl=>?_);unfold DT newFields;refine Aa<|AN ?_<|hpl.sizeOk5 _ _ _ _ _;have x1:g1.get? x=some o:=(sm.2.1 x xf).trans hx;have st1:base.StaysIn g1:=fun b ob hb=>(sm.2.1 b fun z=>by rw[(fl.mem z).1] at hb;cases hb).trans<|st b ob hb;have tx:g1.objs.size≠x:=Br<|Aj x1;generalize hN:({ cls:=.type "traceback",dict:=none,data:=.fields ([AE,.ref L,.none,SZ L,.none]++(if pl.isEmpty then BD 6 AE else pl)).toArray }:Obj)=nw;have nd:nw.data=.fields ([AE,.ref L,.none,SZ L,.none]++(if pl.isEmpty then BD 6 AE else pl)).toArray:=by rw[<-hN]
 have nfr:nw.isFreed=false:=AQ nd;have x2:(g1.push nw).get? x=some o:=Ad nw x1;refine A1 x2 hd big ?_;have e3:=AB hd (·.setIfInBounds 1 (Au g1.objs.size));have x3:=AG (AR (·.setIfInBounds 1 (Au g1.objs.size))) x2<|AQ e3;have t3:((g1.push nw).update x (AR (·.setIfInBounds 1 (Au g1.objs.size)))).get? g1.objs.size=some nw:=(AL _ _<|A6 tx).trans<|Am g1 nfr;unfold setFlight;refine Aa<|A7 x3 e3 (x:=.ref g1.objs.size) (by simp[big]) ?_;rw[if_pos (show (Au g1.objs.size != AE)=true from by simp)];refine A1 t3 nd (by simp only[Aw,AM,AC,Bf] <;> omega)<|k _ ?_;have e4:=AB nd (·.setIfInBounds 3 ((none:Option Addr).elim AE fun f=>SZ f));have t4:=AG (AR (·.setIfInBounds 3 ((none:Option Addr).elim AE fun f=>SZ f))) t3<|AQ e4;have x4:(((g1.push nw).update x (AR (·.setIfInBounds 1 (Au g1.objs.size)))).update g1.objs.size (AR (·.setIfInBounds 3 ((none:Option Addr).elim AE fun f=>SZ f)))).get? x=some (AR (·.setIfInBounds 1 (Au g1.objs.size)) o):=by rw[AL _ _ tx];exact x3
 have old:∀ b ob,b≠x->g1.get? b=some ob->(((g1.push nw).update x (AR (·.setIfInBounds 1 (Au g1.objs.size)))).update g1.objs.size (AR (·.setIfInBounds 3 ((none:Option Addr).elim AE fun f=>SZ f)))).get? b=some ob:=fun b ob hb z=>by rw[AL _ _ (Br<|Aj z),AL _ _ (A6 hb)];exact Ad _ z
 have nrec:∀ b ob,s.heap.get? b=some ob->(∀ ws,ob.data≠.fields ws)->b≠x:=fun b ob z nf q=>by rw[q,hx] at z;cases z;exact nf vs hd
 rw[Zd hd] at x4;refine⟨fun b ob hb=>old b ob (fun q=>by rw[q,no] at hb;cases hb) (st1 b ob hb),fl.of_keeps fun b ob z nf=>?_,⟨_,g1.objs.size,_,_,x4,by simp[big],⟨st1.fresh,fun _=>Eu sm.1.symm⟩,tx,t4,e4,?_⟩,fun b ob z nf=>?_⟩
 . obtain⟨sl,q⟩:=sm.2.2 b ob z;exact⟨_,old b _ (nrec b ob z nf) q,rfl⟩
 . first | (simp;done) | (rcases hpl with rfl | ⟨_,_,_,_,_,_,_,rfl⟩ <;> simp)
 obtain⟨sl,q⟩:=sm.2.2 b ob z;exact⟨sl,old b _ (nrec b ob z nf) q⟩
variable {T:Addr}{oT:Obj}
def entry_any{hd0:IR}{nx:Bool}(fr:A.frames=some (env::outer))(fl:s.heap.FunFrames base (env::outer))(hf:env.frame=some L)(hx:s.heap.get? x=some o)(st:base.StaysIn s.heap)(no:base.get? x=none)(hd:o.data=.fields vs)(big:1 < vs.size)
   (k:∀ h',M4 base (env::outer) x o s.heap h'->Q () { s with heap:=h' }) :
   wpAny M A (do let a <-frameOf env;let pl <-entryPlaceOf L nx;let b <-DT hd0 a .none (SZ L) .none pl;setField (.ref x) 1 b) (fun _ s'=>wpAny M A (setFlight (.ref x) none) Q E s') E s:=by
 have xf:x ∉ (env::outer).filterMap (·.frame):=fun z=>by obtain⟨_,ob,hb,nf⟩:=fl.mem z;rw[hx] at hb;cases hb;exact nf vs hd
 refine Aa<|Gi fr fl hf fun g1 sm=>Aa (FZ fun pl hpl=>?_);unfold DT newFields;refine Aa<|AN ?_<|hpl.sizeOk5 _ _ _ _ _;have x1:g1.get? x=some o:=(sm.2.1 x xf).trans hx;have st1:base.StaysIn g1:=fun b ob hb=>(sm.2.1 b fun z=>by rw[(fl.mem z).1] at hb;cases hb).trans<|st b ob hb;have tx:g1.objs.size≠x:=Br<|Aj x1;generalize hN:({ cls:=.type "traceback",dict:=none,data:=.fields ([hd0,.ref L,.none,SZ L,.none]++(if pl.isEmpty then BD 6 AE else pl)).toArray }:Obj)=nw;have nd:nw.data=.fields ([hd0,.ref L,.none,SZ L,.none]++(if pl.isEmpty then BD 6 AE else pl)).toArray:=by rw[<-hN]
 have nfr:nw.isFreed=false:=AQ nd;have x2:(g1.push nw).get? x=some o:=Ad nw x1;refine A1 x2 hd big ?_;have e3:=AB hd (·.setIfInBounds 1 (Au g1.objs.size));have x3:=AG (AR (·.setIfInBounds 1 (Au g1.objs.size))) x2<|AQ e3;have t3:((g1.push nw).update x (AR (·.setIfInBounds 1 (Au g1.objs.size)))).get? g1.objs.size=some nw:=(AL _ _<|A6 tx).trans<|Am g1 nfr;unfold setFlight;refine Aa<|A7 x3 e3 (x:=.ref g1.objs.size) (by simp[big]) ?_;rw[if_pos (show (Au g1.objs.size != AE)=true from by simp)];refine A1 t3 nd (by simp only[Aw,AM,AC,Bf] <;> omega)<|k _ ?_;have e4:=AB nd (·.setIfInBounds 3 ((none:Option Addr).elim AE fun f=>SZ f));have t4:=AG (AR (·.setIfInBounds 3 ((none:Option Addr).elim AE fun f=>SZ f))) t3<|AQ e4;have x4:(((g1.push nw).update x (AR (·.setIfInBounds 1 (Au g1.objs.size)))).update g1.objs.size (AR (·.setIfInBounds 3 ((none:Option Addr).elim AE fun f=>SZ f)))).get? x=some (AR (·.setIfInBounds 1 (Au g1.objs.size)) o):=by rw[AL _ _ tx];exact x3
 have old:∀ b ob,b≠x->g1.get? b=some ob->(((g1.push nw).update x (AR (·.setIfInBounds 1 (Au g1.objs.size)))).update g1.objs.size (AR (·.setIfInBounds 3 ((none:Option Addr).elim AE fun f=>SZ f)))).get? b=some ob:=fun b ob hb z=>by rw[AL _ _ (Br<|Aj z),AL _ _ (A6 hb)];exact Ad _ z
 have nrec:∀ b ob,s.heap.get? b=some ob->(∀ ws,ob.data≠.fields ws)->b≠x:=fun b ob z nf q=>by rw[q,hx] at z;cases z;exact nf vs hd
 rw[Zd hd] at x4;refine⟨fun b ob hb=>old b ob (fun q=>by rw[q,no] at hb;cases hb) (st1 b ob hb),fl.of_keeps fun b ob z nf=>?_,⟨_,g1.objs.size,_,_,x4,by simp[big],⟨st1.fresh,fun _=>Eu sm.1.symm⟩,tx,t4,e4,?_⟩,fun b ob z nf=>?_⟩
 . obtain⟨sl,q⟩:=sm.2.2 b ob z;exact⟨_,old b _ (nrec b ob z nf) q,rfl⟩
 . first | (simp;done) | (rcases hpl with rfl | ⟨_,_,_,_,_,_,_,rfl⟩ <;> simp)
 obtain⟨sl,q⟩:=sm.2.2 b ob z;exact⟨sl,old b _ (nrec b ob z nf) q⟩
def vX(fr:A.frames=some (env::outer))(fl:s.heap.FunFrames base (env::outer))(hf:env.frame=some L)(hx:s.heap.get? x=some o)(st:base.StaysIn s.heap)(no:base.get? x=none)(hd:o.data=.fields vs){ts:Array IR}
   (h1:vs[1]?=some (.ref T)) (nT:base.get? T=none) (Tx:T≠x) (hT:s.heap.get? T=some oT) (dT:oT.data=.fields ts) (h3:ts[3]?=some .none) 
   (k:∀ h',M4 base (env::outer) x o s.heap h'->Q () { s with heap:=h' }):wpAny M A (noteFrame (.ref x) env) (fun _ s'=>wpAny M A (setFlight (.ref x) none) Q E s') E s:=by
 unfold noteFrame;simp only[hf];refine Aa<|A7 hx hd h1 ?_;rw[if_pos (show (Au T != AE)=true from by simp)];refine Aa<|A7 hT dT h3 ?_;rw[if_neg (show ¬ ((AE==SZ L)=true) from by simp[SZ])];refine Aa<|A1 hT dT (Array.getElem?_eq_some_iff.mp h3).1 ?_;have oth:∀ b,b≠T->(s.heap.update T (AR (·.setIfInBounds 3 AE))).get? b=s.heap.get? b:=fun b hb=>AL _ _<|A6 hb;have nrec:∀ b ob,s.heap.get? b=some ob->(∀ ws,ob.data≠.fields ws)->b≠T:=fun b ob z nf q=>by rw[q,hT] at z;cases z;exact nf ts dT
 refine entry_any fr (fl.of_keeps fun b ob z nf=>⟨ob,(oth b<|nrec b ob z nf).trans z,rfl⟩) hf ((oth x<|A6 Tx).trans hx) (fun b ob z=>(oth b fun q=>by rw[q,nT] at z;cases z).trans (st b ob z)) no hd (Array.getElem?_eq_some_iff.mp h1).1 fun h' g=>?_;obtain⟨ws,T2,oT2,ts2,y1,y2,y3,y4⟩:=g.err;exact k h' ⟨g.stays,g.frames,⟨ws,T2,oT2,ts2,y1,y2,⟨y3.1,fun z=>by
   have:=y3.2 (by
     by_cases q:T2=T
     . rw[q,hT] at z;cases z
     rw[oth T2 q];exact z)
   rwa [Gv] at this⟩,y4⟩,fun b ob z nf=>g.rest b ob ((oth b<|nrec b ob z nf).trans z) nf⟩
variable {w:UF}{C:Addr}
section
variable {prog:Pv}
variable {nm ql:Str} {N:Addr} {bs bm:List IR} {b1:Bool} {sn:List Str} {sub:List IR} {b2:Bool} {b3:Option Bool} {dd:Option Addr} {k0 k1 k2 k3 k5:Option IR} {newId:String}
noncomputable abbrev N4 (prog:Pv) (w:UF) (A:Around) (env:Env) (x:Addr) (E:Qqa):Qqa:=notedBy (KB prog w) (A.mark<|some<|.ref x) env (cameBackBy (KB prog w) A env E)
end
section
variable {l:List Env}
def zh8(st:base.StaysIn s.heap)(fl:s.heap.FunFrames base l)(hx:s.heap.get? x=some o)(hd:o.data=.fields vs){ts:Array IR}(h1:vs[1]?=some (.ref T))(nT:base.get? T=none)(Tx:T≠x)(hT:s.heap.get? T=some oT)(dT:oT.data=.fields ts)(h3:ts[3]?=some .none)
   (k:∀ h',M4 base l x o s.heap h'->Q () { s with heap:=h' }):wpAny M A (setFlight (.ref x) none) Q E s:=by
 have big:3 < ts.size:=(Array.getElem?_eq_some_iff.mp h3).1;unfold setFlight;refine Aa<|A7 hx hd h1 ?_;rw[if_pos (show (Au T != AE)=true from by simp)];refine A1 hT dT big<|k _ ?_;have oth:∀ b,b≠T->(s.heap.update T (AR (·.setIfInBounds 3 ((none:Option Addr).elim AE fun f=>SZ f)))).get? b=s.heap.get? b:=fun b hb=>AL _ _<|A6 hb;have nrec:∀ b ob,s.heap.get? b=some ob->(∀ ws,ob.data≠.fields ws)->b≠T:=fun b ob z nf q=>by rw[q,hT] at z;cases z;exact nf ts dT
 have e4:=AB dT (·.setIfInBounds 3 ((none:Option Addr).elim AE fun f=>SZ f));have eo:({ o with data:=.fields vs }:Obj)=o:=by obtain⟨oc,od,odt,osl⟩:=o;cases hd;rfl
 refine⟨fun b ob z=>(oth b fun q=>by rw[q,nT] at z;cases z).trans (st b ob z),fl.of_keeps fun b ob z nf=>⟨ob,(oth b<|nrec b ob z nf).trans z,rfl⟩,⟨vs,T,_,_,?_,h1,⟨nT,fun z=>by rw[hT] at z;cases z⟩,Tx,AG _ hT<|AQ e4,e4,?_⟩,fun b ob z nf=>⟨ob.slots,(oth b<|nrec b ob z nf).trans z⟩⟩
 . rw[oth x (A6 Tx),eo];exact hx
 simp[big]
end
open PySem.Spec PyProof.Rows
structure K8(hp:KM)(C:Addr)(f:Str):Prop where
 ex:∃ (nm ql:Str) (N:Addr) (bs bm top:List IR) (sn:List Str) (sub:List IR) (b2:Bool) (b3:Option Bool) (dd:Option Addr) (k0 k1 k2 k3 k5:Option IR) (newId B sa owner:String) (mN:Str->Option IR) (nn:List Str),
   hp.get? C=some (excClassObj nm ql C N bs bm true sn sub b2 b3 dd k0 k1 k2 k3 k5 newId)/\hp.Ns N mN/\mN f=none/\mN "__setattr__"=none/\OT hp nn top bm/\f∈nn/\("__setattr__":Str)∈nn/\StoreFacts B top sa owner/\typeLookup (.type B) f=pure none
def Lm(C x:Addr)(h:KM):Prop:=∃ t,h.get? x=some { cls:=.ref C,data:=.fields #[.ref t,.none,.none,.none,.bool false,.none] }
def LZ(C x dx:Addr)(h:KM):Prop:=∃ t,h.get? x=some { cls:=.ref C,dict:=some dx,data:=.fields #[.ref t,.none,.none,.none,.bool false,.none] }
def Xk(C:Addr)(ta tv:TE)(f:Str):TS:=fun D σ H=>tv σ H fun y H1=>ta σ H1 fun v H2=>∃ x,v=.ref x/\H2 x=some (.ext<|Lm C x) /\
 ∀ dx,H2 dx=none->x < dx->D.nx σ (upd (upd H2 dx<|.xd [(f,y)]) x<|.ext<|LZ C x dx)
variable {X:Cx}{f:Str}{pos pos':Pos}{qp:List (Addr×Obj)}{σ:L2.St}{H:Hp}
section
variable {o value:Os} {ta tv:TE}
def lZ{y:V}{u:IR}(I:Inv X qp σ H s)(hx:H x=some (.ext (Lm C x)))(K:K8 s.heap C f)(ry:RelV y u)
   (k:∀ dx s',H dx=none->x < dx->Inv X qp σ (upd (upd H dx (.xd [(f,y)])) x (.ext (LZ C x dx))) s'->Q () s'):wpAny (KB X.prog X.w) A (setAttr (.ref x) f u) Q E s:=by
 obtain⟨nm,ql,N,bs,bm,top,sn,sub,b2,b3,dd,k0,k1,k2,k3,k5,newId,B,sa,owner,mN,nn,at_,ns,no,nos,T,hm,hms,SF,e⟩:=K.ex;obtain⟨⟨t,ox⟩,_,_⟩:=I.hok x _ hx;have lx:=Aj ox;have xs:s.heap.objs.size≠x:=Br lx;have hdx:H s.heap.objs.size=none:=I.hok.fresh (Ag _);obtain⟨hp,gs,dr,tk,os⟩:=s;refine uQ SF T hm hms at_ ns no nos e ox rfl (by intro c z;cases z) rfl fun h' tk' z1 z2 z3=>?_;refine k hp.objs.size _ hdx lx ?_
 -- the dict is laid,then the instance is written
 have nf:({ cls:=.ref C,data:=.fields #[.ref t,.none,.none,.none,.bool false,.none] }:Obj).isFreed=false:=rfl;have u1:(h'.update x fun _=>{ cls:=.ref C,data:=.fields #[.ref t,.none,.none,.none,.bool false,.none] }).get? x=some { cls:=.ref C,data:=.fields #[.ref t,.none,.none,.none,.bool false,.none] }:=AG _ z1 nf;have u2:∀ b,b≠x->(h'.update x fun _=>{ cls:=.ref C,data:=.fields #[.ref t,.none,.none,.none,.bool false,.none] }).get? b=h'.get? b:=fun b hb=>AL _ _ (A6 hb);generalize (h'.update x fun _=>{ cls:=.ref C,data:=.fields #[.ref t,.none,.none,.none,.bool false,.none] })=h1 at *;have kp:∀ b q,hp.get? b=some q->h1.get? b=some q:=fun b q z=>by
   by_cases hb:b=x
   . rw[hb] at z ⊢;rw[u1];exact ox.symm.trans z
   rw[u2 b hb];exact z3 b q hb z
 have I1:Inv X qp σ (upd H hp.objs.size (.xd [(f,y)])) ⟨h1,gs,dr,tk',os⟩:=I.laid (t':=tk') kp (Ag _) ⟨_,z2.at fun q z=>(u2 _ xs).trans z,fun g=>by
   show JC (Fe g [(f,y)]) _
   by_cases q:g=f
   . rw[if_pos q,q];simp[Fe];exact ry
   . rw[if_neg q];have:(g==f)=false:=by simpa using q
     simp[Fe,this]
     trivial⟩
 have mu:QC (upd H hp.objs.size (.xd [(f,y)]) x):=by rw[HV (A6 xs),hx];exact CF
 exact I1.write (x:=x) (e:=x) (t':=tk') mu (.inl rfl) (fun b q hb z=>(u2 b hb).symm.trans z) ⟨_,z1⟩ ⟨⟨t,z1⟩,⟨_,z1⟩,fun g1 g2 z kk=>by obtain⟨t',z⟩:=z;exact⟨t',kk _ z⟩⟩
def lI(hC:∀ h:KM,X.K.In h->K8 h C f)(ha:PE X o ta)(hv:PE X value tv)(hs:swapsWith value (some<|.Attribute o f pos') pos.line X.env=pure false):PS X (.Assign [.Attribute o f pos'] value pos) (Xk C ta tv f):=by intro qp s σ H D I h;refine plainObj_wpAny_Assign_Attribute (HS (hv qp s σ H _ I h) fun u s1 ⟨y,H1,I1,ry,q⟩=>HS (ha qp s1 σ H1 _ I1 q) ?_) hs;rintro ov s2 ⟨v,H2,I2,rx,x,ex,hx,q2⟩;subst ex;obtain rfl:ov=Au x:=rx;exact lZ I2 hx (hC _ I2.kIn) ry fun dx s3 d1 d2 I3=>⟨σ,_,I3,q2 dx d1 d2⟩
end
structure JM(hp:KM)(C f:Addr):Prop where
 ex:∃ (nm ql:Str) (N:Addr) (bs bm bmB bmN:List IR) (b1:Bool) (sn:List Str) (sub:List IR) (b2:Bool) (b3:Option Bool) (dd:Option Addr) (k0 k1 k2 k3 k5:Option IR) (newId B Bn nid initId inN:String) (mN:Str->Option IR) (oF:Obj),
   ExcBaseFacts Bn newId inN bmN/\bmB.contains (.type Bn)=true/\ExcBaseFacts B nid initId bmB/\OwnTail hp bmB bm/\hp.get? C=some (excClassObj nm ql C N bs bm b1 sn sub b2 b3 dd k0 k1 k2 k3 k5 newId)/\hp.Ns N mN/\mN "__init__"=some (.ref f)/\hp.get? f=some oF/\oF.cls=.type "function"
def Xc(b:Nat)(C:Addr)(sp:Sp)(t:TA):TE:=fun σ H Q=>t σ H fun vs H1=>vs.length<=1000/\∀ x,H1 x=none->b<=x->sp (.ref x::vs) (upd H1 x<|.ext<|Lm C x) (fun v H2=>v=.non/\Q (.ref x) H2) E0
variable {y:Str}{fd:FuncData}{ps:List Str}{sp:Sp}{k:Nat}{us:List IR}{p:Pos}{e:Os}
section
variable {f:Addr} {Q:VK} {vs:List V} {es:List Os} {t:TA}
def oO(hC:∀ h:KM,X.K.In h->JM h C f)(F:II X.prog X.w X.K X.mg X.base KL k f fd ps sp)(hr:Ia (k+1) X.A)(hb:Binds X.K fd ps [])(I:Inv X qp σ H s)(r:Vals vs us)(few:vs.length<=1000)
   (h:∀ x,H x=none->X.s₀.heap.objs.size<=x->sp (.ref x::vs) (upd H x<|.ext<|Lm C x) (fun v H2=>v=.non/\Q (.ref x) H2) E0):wpAny (KB X.prog X.w) X.A (call (.ref C) us) (EP X qp σ Q) X.xe s:=by
 obtain⟨nm,ql,N,bs,bm,bmB,bmN,b1,sn,sub,b2,b3,dd,k0,k1,k2,k3,k5,newId,B,Bn,nid,initId,inN,mN,oF,X1,X2,X3,T,at_,ns,own,fat,fcl⟩:=(hC _ I.kIn).ex;obtain⟨hp,gs,dr,tk,os⟩:=s;have lu:us.length=vs.length:=r.length.symm;refine wF X1 X2 X3 T at_ ns own fat fcl (fun h' x hle m=>?_) (by rw[lu];exact BQ (xR few));have hx:H x=none:=I.hok.fresh hle;obtain⟨t',ht,_,_⟩:=m.there;have I2:Inv X qp σ (upd H x<|.ext<|Lm C x) ⟨h',gs,dr,tk,os⟩:=I.laid (t':=tk) m.keeps hle ⟨⟨t',ht⟩,⟨_,ht⟩,fun g1 g2 z kk=>by obtain⟨t2,z⟩:=z;exact⟨t2,kk _ z⟩⟩
 have hq:=h x hx<|Az I.sz hle;have r2:Vals (V.ref x::vs) (Au x::us):=.cons rfl r;have hl:(Au x::us).length=ps.length:=by have q:=r2.length;rw[F.len _ _ _ _ hq] at q;exact q.symm
 have r3:Vals (V.ref x::vs) (Au x::us++[]):=by rw[Al];exact r2
 refine DG<|CL (F.run _ X.stack _ _ ⟨Au x::us,[]⟩ (Au x::us++[]) _ _ E0 (hr.make C us []) (I2.env0.make C us []) (hb _ (Au x::us) I2.kIn (by rw[Al];exact hl)) r3 hq) fun rr s' z=>?_
 cases rr with
 | error e=>exact False.elim z
 | ok fl =>
   cases fl with
   | ret u =>
     obtain⟨v,H',I3,rv,ev,q3⟩:=I2.after z;subst ev;exact⟨rv,⟨V.ref x,H',I3,rfl,q3⟩⟩
   | next=>exact False.elim z
   | brk=>exact False.elim z
   | cont=>exact False.elim z
def kU(hC:∀ h:KM,X.K.In h->JM h C f)(hkp:BV X.K (.ref C)=true)(F:II X.prog X.w X.K X.mg X.base KL k f fd ps sp)(hr:Ia (k+1) X.A)(hg:Gl X y)(hm:X.mg y=some (.ref C))(hb:Binds X.K fd ps [])
   (ha:PA X (e::es) t) (hdb:(y==("__debug__":Str))=false:=by decide) (he:Qqb X.env e es:=by rfl) (hpl:Qqc pos es X.env:=by rfl) :
   PE X (.Call (.Name y p) (e::es) [] pos) (Xc X.s₀.heap.objs.size C sp t):=by
 intro qp s σ H Q I h;refine CD<|Tq I hg hm ?_ hdb;refine FN (h₀:=X.base) I.ok.mod.kin hkp (HS (ha pos qp s σ H _ I h) fun us s1 ⟨vs,H1,I1,r,few,q⟩=>⟨I1.kIn,?_⟩) he hpl;exact oO hC F hr hb I1 r few q
end
structure Jg(hp:KM)(C:Addr):Prop where
 ex:∃ (nm ql:Str) (N:Addr) (bs bm:List IR) (b1:Bool) (sn:List Str) (sub:List IR) (b2:Bool) (b3:Option Bool) (dd:Option Addr) (k0 k1 k2 k3 k5:Option IR) (newId:String),
   hp.get? C=some (excClassObj nm ql C N bs bm b1 sn sub b2 b3 dd k0 k1 k2 k3 k5 newId)/\bm.contains (.type "BaseException")=true
def nC(C:Addr)(X:Cx)(te:TE):TS:=fun _ σ H=>te σ H fun v H1=>∃ x dx,v=.ref x/\H1 x=some (.ext<|LZ C x dx)/\∀ qp s',Inv X qp σ H1 s'->X.xe (.ref x) s'
def Vj(C:Addr)(f:Str):Sp:=fun vs H Q _=>∃ x y,vs=[.ref x,y]/\H x=some (.ext<|Lm C x)/\∀ dx,H dx=none->x < dx->Q .non (upd (upd H dx<|.xd [(f,y)]) x<|.ext<|LZ C x dx)
section
variable {ex:Os} {te:TE}
def sD(hC:∀ h:KM,X.K.In h->Jg h C)(hc:X.calm=true)(he:PE X ex te):PS X (.Raise (some ex) none pos) (nC C X te):=by intro qp s σ H D I h;obtain⟨nm,ql,N,bs,bm,b1,sn,sub,b2,b3,dd,k0,k1,k2,k3,k5,newId,at_,hb⟩:=(hC _ I.ok.mod.kin).ex;refine yU (nm:=nm) (ql:=ql) (C:=C) (N:=N) (bs:=bs) (bm:=bm) (b1:=b1) (sn:=sn) (sub:=sub) (b2:=b2) (b3:=b3) (dd:=dd) (k0:=k0) (k1:=k1) (k2:=k2) (k3:=k3) (k5:=k5) (newId:=newId) hb (I.ok.hd hc)<|HS (he qp s σ H _ I h) ?_;rintro u s1 ⟨v,H1,I1,rv,x,dx,rfl,hx,q⟩;obtain rfl:u=Au x:=rv;obtain⟨⟨t,ox⟩,_,_⟩:=I1.hok x _ hx;exact⟨x,t,some dx,rfl,I1.bk _ _ at_,ox,q qp s1 I1⟩
end
variable {P:Pv}{K:Ac}{mg:Str->Option IR}{qual:Str}{st:Wp}{fa:Addr}
def mO{x n0 n1:Str}{p0 p1:Pos}(F:LJ K x qual st fa fd)(S:Iy [n0,n1] [n0,n1] (IL st))(hb:Ki st=[.Assign [.Attribute (.Name n0 p0) f pos'] (.Name n1 p1) pos])
   (hC:∀ h:KM,K.In h->K8 h C f) (v0:(IL st).names.lookup n0=some .local) (v1:(IL st).names.lookup n1=some .local) (d0:(n0==("__debug__":Str))=false) (d1:(n1==("__debug__":Str))=false) (c0:(n0==("__classdict__":Str))=false) (c1:(n1==("__classdict__":Str))=false)
   (hs:∀ env,swapsWith (.Name n1 p1) (some<|.Attribute (.Name n0 p0) f pos') pos.line env=pure false):II P w K mg base KL (k+1) fa fd [n0,n1] (Vj C f):=by
 refine F.ok S (fun vs H Q E ⟨x,y,e,_⟩=>by rw[e];rfl) fun cdv A outer s H vs Q E hr h=>?_;rw[hb];refine⟨_,Vy<|lI (C:=C) hC (pv 0 rfl (.inl v0) d0 c0) (pv 1 rfl (.inl v1) d1 c1)<|hs _,?_⟩;obtain⟨a,y,rfl,ha,q⟩:=h;exact⟨y,rfl,.ref a,rfl,a,rfl,ha,fun dx h1 h2=>q dx h1 h2⟩
open PySem.W
def K3(C x dx:Addr)(h:KM):Prop:=∃ ws,h.get? x=some { cls:=.ref C,dict:=some dx,data:=.fields ws }
structure Lu(P:Pv)(w:UF)(C:Addr)(f:Str)(outer:List Env)(H:Hp)(s:Shared)(E:XK)(x dx T:Addr)(n:Int)(H':Hp)(s':Shared):Prop where
 at_:H' x=some (.ext (K3 C x dx))
 dict:H' dx=some (.xd [(f,.int n)])
 tr:∃ ws oT ts,s'.heap.get? x=some { cls:=.ref C,dict:=some dx,data:=.fields ws }/\ws[1]?=some (.ref T)/\T≠x/\s'.heap.get? T=some oT/\oT.data=.fields ts/\ts[3]?=some .none
 free:H' T=none
 new:s.heap.objs.size<=x/\s.heap.objs.size<=T/\s.heap.objs.size<=dx
 os:s'.os=s.os
 bare:AllBare s'.gens
 un:Un (Lp outer) [] H H' s.heap s'.heap
 hok:Jn P w H' s'.heap
 wish:E (.int n 0) none H'
def Jj(P:Pv)(w:UF)(C:Addr)(f:Str):M5:=fun outer H s E e s'=>∃ x dx T n H',e=.ref x/\Lu P w C f outer H s E x dx T n H' s'
variable {N:List Str}{scope:Scope}{cd:IR}{s0:Shared}{H0:Hp}{dx:Addr}{n:Int}
section
variable {s1:Shared} {H1:Hp} {E:XK}
def wY(I:Inv (Ic (Jj P w C f) P w K mg base N qual scope fa cd A outer s0 H0 E) qp σ H1 s1)(hx:H1 x=some (.ext<|LZ C x dx))(hdx:H1 dx=some (.xd [(f,.int n)]))(old:s0.heap.objs.size<=x)(oldd:s0.heap.objs.size<=dx)
   (k:E (.int n 0) none (upd H1 x<|.ext<|K3 C x dx)):(Ic (Jj P w C f) P w K mg base N qual scope fa cd A outer s0 H0 E).xe (.ref x) s1:=by
 obtain⟨⟨t,ox⟩,_,_⟩:=I.hok x _ hx;have nex:dx≠x:=M7 hdx hx (by intro z;cases z);have fr:=I.ok.frames;have fun0:s1.heap.FunFrames base (envOfC qual scope s0.heap.objs.size fa cd::outer):=I.env0.funs;have stf:∀ b∈(envOfC qual scope s0.heap.objs.size fa cd::outer).filterMap (·.frame),H1 b=none:=I.env0.frf;have fun1:s1.heap.FunFrames (hideAll s1.heap (x::(envOfC qual scope s0.heap.objs.size fa cd::outer).filterMap (·.frame))) (envOfC qual scope s0.heap.objs.size fa cd::outer) :=
   funFrames_hide fun0 fun env he a hf=>Ak _ (List.mem_filterMap.mpr ⟨env,he,hf⟩)
 refine zhC (L:=s0.heap.objs.size) fr fun1 rfl ox (fun b o e=>of_hideAll _ e) (hideAll_none _ Ao) rfl rfl fun h' g=>?_;obtain⟨ws,T,oT,ts,g1,g2,⟨g3,g3'⟩,g4,g5,g6,g7⟩:=g.err;have Tf:T ∉ (envOfC qual scope s0.heap.objs.size fa cd::outer).filterMap (·.frame):=fun z=>by obtain⟨_,o,ho,nf⟩:=g.frames.mem z;rw[g5] at ho;cases ho;exact nf _ g6
 have T1:s1.heap.get? T=none:=by
   cases q:s1.heap.get? T with
   | none=>rfl
   | some o =>
     have:=hideAll_get (x::(envOfC qual scope s0.heap.objs.size fa cd::outer).filterMap (·.frame)) q (fun z=>by
       rcases M2.mp z with z | z
       . exact g4 z
       exact Tf z)
     rw[g3] at this;cases this
 have szT:s1.heap.objs.size<=T:=g3' T1;have stay:∀ b o,b≠x->b ∉ (envOfC qual scope s0.heap.objs.size fa cd::outer).filterMap (·.frame)->s1.heap.get? b=some o->h'.get? b=some o:=fun b o hb hf z =>
   g.stays b o (hideAll_get _ z fun q=>by
     rcases M2.mp q with q | q
     . exact hb q
     exact hf q)
 have U:=I.base;have sz:s0.heap.objs.size<=s1.heap.objs.size:=I.sz;have own:∀ b o,s0.heap.get? b=some o->b≠x/\b≠s0.heap.objs.size:=fun b o z=>⟨fun q=>by have l:=Aj z;rw[q] at l;exact absurd l (Nat.not_lt.mpr old),An (Aj z)⟩
 have mem:∀ b,b≠s0.heap.objs.size->b ∉ Lp outer->b ∉ (envOfC qual scope s0.heap.objs.size fa cd::outer).filterMap (·.frame):=fun b h1 h2 z=>by
   obtain⟨env,he,hf⟩:=List.mem_filterMap.mp z
   rcases M2.mp he with rfl | he
   . exact h1 (Ap hf).symm
   exact h2<|List.mem_filterMap.mpr ⟨env,he,hf⟩
 have nx:∀ b,H1 b=none->b≠x:=fun b h1 q=>by rw[q,hx] at h1;cases h1
 have nofr:∀ b o,H1 b=some o->b ∉ (envOfC qual scope s0.heap.objs.size fa cd::outer).filterMap (·.frame):=fun b o h1 z=>by rw[stf b z] at h1;cases h1
 refine⟨x,dx,T,n,upd H1 x<|.ext<|K3 C x dx,rfl,JP,by rw[HV nex];exact hdx,⟨ws,oT,ts,g1,g2,g4,g5,g6,g7⟩,by rw[HV g4];exact I.hok.fresh szT,⟨old,Az sz szT,oldd⟩,I.os,I.bare,?_,?_,k⟩
 . refine⟨fun b o z h1 h2 h3=>?_,fun b o z h1 h2 h3=>?_,fun b o z h1 h3=>?_,fun b o z h3=>?_,fun b xs h1=>?_,fun b o u h1=>?_,fun b ps h1=>?_⟩
   . exact stay b o (own b o z).1 (mem b (own b o z).2 h2)<|U.keep b o z h1 h2 h3
   . obtain⟨sl,q⟩:=U.slot b o z h1 h2 h3;obtain⟨_,o2,q2,nf⟩:=fun0.mem (b:=b) (by
       obtain⟨env,he,hf⟩:=List.mem_filterMap.mp h2;exact List.mem_filterMap.mpr ⟨env,Ak _ he,hf⟩)
     rw[q] at q2;cases q2;obtain⟨sl2,q3⟩:=g.rest b _ q nf;exact⟨sl2,q3⟩
   . rw[HV (own b o z).1];exact U.free b o z h1 h3
   . obtain⟨o2,q⟩:=U.there b o z h3
     by_cases hb:b∈(envOfC qual scope s0.heap.objs.size fa cd::outer).filterMap (·.frame)
     . obtain⟨_,o3,q3,nf⟩:=fun0.mem hb;obtain⟨sl,q4⟩:=g.rest b o3 q3 nf;exact⟨_,q4⟩
     exact⟨o2,stay b o2 (own b o z).1 hb q⟩
   . have h2:=U.tups b xs h1;rw[HV (M7 h2 hx (by intro z;cases z))];exact h2
   . have h2:=U.frzs b o u h1;rw[HV (M7 h2 hx (by intro z;cases z))];exact h2
   obtain⟨m,h2⟩:=U.tbls b ps h1;exact⟨m,by rw[HV (M7 h2 hx (by intro z;cases z))];exact h2⟩
 . intro b o z
   by_cases hb:b=x
   . subst hb;rw[JP] at z;cases z;exact⟨⟨ws,g1⟩,⟨_,g1⟩,fun a1 a2 q kk=>by obtain⟨ws2,q⟩:=q;exact⟨ws2,kk _ q⟩⟩
   . rw[HV hb] at z;refine (I.hok b o z).stay (fun c u hc q=>?_) (fun c hc=>?_) (fun c xs hc=>?_)
     . have h1:∃ o',H1 c=some o':=by
         rcases hc with rfl | hc
         . exact⟨_,z⟩
         exact⟨_,hc⟩
       obtain⟨o',h1⟩:=h1;refine stay c u (fun e=>?_) (nofr c o' h1) q
       rcases hc with rfl | hc
       . exact hb e
       rw[e,hx] at hc;cases hc
     . rw[HV (M7 hc hx (by intro z;cases z))];exact hc
     rw[HV (M7 hc hx (by intro z;cases z))];exact hc
end
variable {CX:M5}{er:Int->D}{fld:Str}
def mG{x:Str}{f:Addr}(F:LJ K x qual st f fd)(S:Iy N ps (IL st))(len:∀ vs H Q E,sp vs H Q E->vs.length=ps.length)
   (hbody:∀ (cdv:IR) (A:Around) (outer:List Env) (s:Shared) (H:Hp) (vs:List V) (Q:VK) (E:XK),Ia k (A.deeper<|envOfC qual (IL st) s.heap.objs.size f cdv)->sp vs H Q E ->
     ∃ t,J1 (Ic CX P w K mg base N qual (IL st) f cdv A outer s H E) (Ki st) t/\t { nx:=fun _ H'=>Q .non H',rt:=Q } (start N vs) H):II P w K mg base CX (k+1) f fd ps sp:=by
 obtain⟨oc,od,kV,doc,pm,an,cdv,ct,osl,rfl,lk,hcd⟩:=F.ex;exact Yh lk hcd S len fun A outer s H vs Q E hr hsp=>hbody cdv A outer s H vs Q E hr hsp
def XJ{x:Str}{f:Addr}{m:MS}(hne:∀ i,er i≠.non)(F:LJ K x qual st f fd)(S:Iy N ps (IL st))
   (hbody:∀ (cdv:IR) (A:Around) (outer:List Env) (s:Shared) (H:Hp) (E:XK),Ia k (A.deeper<|envOfC qual (IL st) s.heap.objs.size f cdv) ->
     Od (Ic (Jj P w C fld) P w K mg base N qual (IL st) f cdv A outer s H E) er (fun i H'=>E (.int i 0) none H') (Ki st) m):II P w K mg base (Jj P w C fld) (k+1) f fd ps (Xg K er ps.length<|Jc N.length m):=by
 refine mG F S (fun vs H Q E ⟨_,_,_,_,_,h,_⟩=>h) fun cdv A outer s H vs Q E hr h=>⟨_,hbody cdv A outer s H E hr,?_⟩
 exact jA (X:=Ic (Jj P w C fld) P w K mg base N qual (IL st) f cdv A outer s H E) hne h
def ZA{io:List Addr}{st:HB}{p:Addr}{o:HO}(S:HN K H io st)(hp:H p=none):Ext io [] H (upd H p o)/\HN K (upd H p o) (io++[]) st:=by
 have E:Ext io [] H (upd H p o):=⟨fun b u h _=>by rw[HV (Jw h hp)];exact h,fun b h=>absurd h (by simp),fun b u v h=>by rw[HV (Jw h hp)];exact h⟩
 refine⟨E,by rw[Al];exact S.len,by rw[Al];exact S.nd,fun n a ob h1 h2=>?_⟩;rw[Al] at h1;obtain⟨u,hu,_⟩:=(S.ob n a ob h1 h2).stands;exact OR.mono (E.kp S) (by rw[HV (Jw hu hp)])<|S.ob n a ob h1 h2
def QZ(er:Int->D)(m:ME):MS:=fun ρ st=>(m ρ st).bind fun (d,s)=>match d with
 | .int n=>some (.rt (er n),s)
 | _=>none
section
variable {E:XK} {f:Addr} {m:ME} {cpos:Pos}
def uR(hinj:∀ i j,er i=er j->i=j)(hM:∀ h:KM,K.In h->JM h C f)(hR:∀ h:KM,K.In h->Jg h C)(hkp:BV K (.ref C)=true)
   (F:II P w K mg base KL k f fd ps (Vj C fld)) (hr:Ia (k+1) (Ic (Jj P w C fld) P w K mg base N qual scope fa cd A outer s0 H0 E).A) (hg:Gl (Ic (Jj P w C fld) P w K mg base N qual scope fa cd A outer s0 H0 E) y) (hm:mg y=some (.ref C)) (hb:Binds K fd ps [])
   (he:SE (Ic (Jj P w C fld) P w K mg base N qual scope fa cd A outer s0 H0 E) e m) (ha:SA (Ic (Jj P w C fld) P w K mg base N qual scope fa cd A outer s0 H0 E) [e] (Hz m mZ)) (hdb:(y==("__debug__":Str))=false)
   (hst:P3 [e] (Ic (Jj P w C fld) P w K mg base N qual scope fa cd A outer s0 H0 E).env=(false,W1 e (Ic (Jj P w C fld) P w K mg base N qual scope fa cd A outer s0 H0 E).env)::P3 [] (Ic (Jj P w C fld) P w K mg base N qual scope fa cd A outer s0 H0 E).env) :
   SX (Ic (Jj P w C fld) P w K mg base N qual scope fa cd A outer s0 H0 E) er (fun i H'=>E (.int i 0) none H') (.Raise (some<|.Call (.Name y p) [e] [] cpos) none pos) (QZ er m):=by
 refine PS.imp (sD (C:=C) hR rfl<|kU (pos:=cpos) hM hkp F hr hg hm hb ha hdb hst rfl) fun D σ H h=>?_;obtain⟨ρ,st,io,fl,st',En,S,e0,wx⟩:=h;obtain⟨⟨d,s1⟩,e1,e0⟩:=HK e0
 cases d with
 | int n =>
   cases e0;have e2:Hz m mZ ρ st=some ([.int n],st'):=by show (m ρ st).bind _=_;rw[e1];rfl
   refine⟨ρ,st,io,_,st',En,S,e2,fun vs H1 ka X1 S1 R1=>?_⟩;obtain⟨v,vs',rfl,hv,h2⟩:=R1
   cases (show vs'=[] from h2)
   cases (show v=.int n from hv)
   refine⟨by simp,fun x hx hle=>⟨x,.int n,rfl,JP,fun dx h1 h2=>⟨rfl,x,dx,rfl,JP,fun qp s' I=>?_⟩⟩⟩;have nd:dx≠x:=Br h2;have hdx:H1 dx=none:=by rw[HV nd] at h1;exact h1
   refine wY I JP (by rw[HV nd,JP]) hle (Az hle<|BQ h2) ?_;have q:upd (upd (upd (upd H1 x<|.ext<|Lm C x) dx<|.xd [(fld,.int n)]) x<|.ext<|LZ C x dx) x (.ext<|K3 C x dx)=upd (upd H1 dx<|.xd [(fld,.int n)]) x (.ext<|K3 C x dx):=by
     funext b
     unfold upd
     by_cases hb:b=x
     . simp[hb]
     simp[hb]
   rw[q];obtain⟨X2,S2⟩:=ZA (o:=.xd [(fld,.int n)]) S1 hdx;obtain⟨X3,S3⟩:=ZA (p:=x) (o:=.ext (K3 C x dx)) S2 (by rw[HV (A6 nd)];exact hx);have X4:=(X1.trans S1 X2).trans (by rw[<-Aq];exact S2) (by rw[<-Aq];exact X3);refine wx.x n rfl _ _ X4 ?_;rw[<-Aq,<-Aq];exact S3
 | _=>cases e0
end
section
variable {h':KM}
def ZM(I:Inv X qp σ H s)(hx:H x=some (.ext<|K3 C x dx))(hT:H T=none)(new:X.s₀.heap.objs.size<=T)(nl:T≠X.env.locals)(nc:∀ y c,X.env.cells.lookup y=some c->c≠T)(np:∀ p∈X.pn++qp,p.1≠T)
   (g:M4 (hideAll s.heap (x::T::X.stack.filterMap (·.frame))) X.stack x o s.heap h') (ox:s.heap.get? x=some o):Inv X qp σ H { s with heap:=h' }:=by
 obtain⟨ws0,oo⟩:=(I.hok x _ hx).1;have eo:o={ cls:=.ref C,dict:=some dx,data:=.fields ws0 }:=Ap<|ox.symm.trans oo;obtain⟨ws,T2,oT,ts,g1,_⟩:=g.err;have stay:∀ b q,b≠x->b≠T->b ∉ X.stack.filterMap (·.frame)->s.heap.get? b=some q->h'.get? b=some q:=fun b q h1 h2 h3 z =>
   g.stays b q (hideAll_get _ z fun m=>by
     rcases M2.mp m with m | m
     . exact h1 m
     . rcases M2.mp m with m | m
       . exact h2 m
       exact h3 m)
 have stf:∀ b∈X.stack.filterMap (·.frame),H b=none:=I.env0.frf;have nx:∀ b,H b=none->b≠x:=fun b h1 q=>by rw[q,hx] at h1;cases h1
 have nT:∀ b q,H b=some q->b≠T:=fun b q h1 z=>by rw[z,hT] at h1;cases h1
 refine I.call (h':=h') (g':=s.gens) (d':=s.drawn) (t':=s.toks) (ch:=[T]) ⟨fun b q z h1 h2 h3=>?_,fun b q z h1 h2 h3=>?_,fun b q z h1 h3=>h1,fun b q z h3=>?_,fun b xs h1=>h1,fun b q u h1=>h1,fun b ps h1=>⟨#[],by rw[h1];simp⟩⟩ ?_ I.bare fun b z=>?_
 . exact stay b q (nx b h1) (fun e=>h3 (by rw[e];exact On.mpr rfl)) h2 z
 . obtain⟨_,o2,q2,nf⟩:=I.env0.funs.mem h2;rw[z] at q2;cases q2;exact g.rest b _ z nf
 . by_cases hb:b∈X.stack.filterMap (·.frame)
   . obtain⟨_,o2,q2,nf⟩:=I.env0.funs.mem hb;obtain⟨sl,q3⟩:=g.rest b _ q2 nf;exact⟨_,q3⟩
   . by_cases e:b=x
     . rw[e];exact⟨_,g1⟩
     exact⟨q,stay b q e (fun e=>h3 (by rw[e];exact On.mpr rfl)) hb z⟩
 . intro b q z
   by_cases e:b=x
   . subst e;rw[hx] at z;cases z;rw[eo] at g1;exact⟨⟨ws,g1⟩,⟨_,g1⟩,fun a1 a2 q kk=>by obtain⟨ws2,q⟩:=q;exact⟨ws2,kk _ q⟩⟩
   . refine (I.hok b q z).stay (fun c u hc q2=>?_) (fun c hc=>hc) fun c xs hc=>hc;have h1:∃ o',H c=some o':=by
       rcases hc with rfl | hc
       . exact⟨_,z⟩
       exact⟨_,hc⟩
     obtain⟨o',h1⟩:=h1;refine stay c u (fun e2=>?_) (nT c o' h1) (fun m=>by rw[stf c m] at h1;cases h1) q2
     rcases hc with rfl | hc
     . exact e e2
     rw[e2,hx] at hc;cases hc
 rw[On.mp z];exact⟨.inr new,nl,nc,np⟩
end
variable {W:Qqa}
section
variable {H':Hp} {s':Shared} {E:XK} {np hpos:Pos} {st0:Wp} {more:List Wp} {rest:List ExceptHandler} {Q:Flow->Shared->Prop}
def landed{R:Shared->Prop}(hs:X.stack=X.env::X.outer)(hf:X.env.frame=some X.env.locals)(I:Inv X qp σ H s)(Th:Lu X.prog X.w C f X.stack H s E x dx T n H' s')
   (k:∀ s2,Inv X qp σ H' s2->(∀ (M:Model) (A:Around) (E:Qqa) (Q:Unit->Shared->Prop),(∀ s3,Inv X qp σ H' s3->Q () s3)->wpAny M A (setFlight (.ref x) none) Q E s2) ->
     (∃ T2 ws oT ts,(s2.heap.get? x=some { cls:=.ref C,dict:=some dx,data:=.fields ws }/\ws[1]?=some (.ref T2)/\T2≠x/\s2.heap.get? T2=some oT/\oT.data=.fields ts/\ts[3]?=some .none)/\H' T2=none/\s.heap.objs.size<=T2)->R s2) :
   wpAny (KB X.prog X.w) X.A (noteFrame (.ref x) X.env) (fun _ s2=>wpAny (KB X.prog X.w) X.A (setFlight (.ref x) none) (fun _ s3=>R s3) W s2) W s':=by
 have I1:Inv X qp σ H' s':=I.call' Th.os Th.un Th.hok Th.bare fun b z=>absurd z (by simp);obtain⟨ws,oT,ts,ox,w1,Tx,hT,dT,t3⟩:=Th.tr;have fr:=I.ok.frames;rw[hs] at fr;have s01:X.s₀.heap.objs.size<=s.heap.objs.size:=I.sz;obtain⟨m0,ns0,_⟩:=I.loc;have ll:X.env.locals < s.heap.objs.size:=ns0.lt;have lc:∀ z c,X.env.cells.lookup z=some c->c < s.heap.objs.size:=fun z c h=>by obtain⟨v,q⟩:=I.cell z c h;exact q.lt
 have lp:∀ p∈X.pn++qp,p.1 < s.heap.objs.size:=fun p hp=>Aj (I.pin p hp).1;have far:∀ T2:Addr,s.heap.objs.size<=T2->X.s₀.heap.objs.size<=T2/\T2≠X.env.locals/\(∀ z c,X.env.cells.lookup z=some c->c≠T2)/\∀ p∈X.pn++qp,p.1≠T2:=fun T2 h =>
   ⟨Az s01 h,Br<|Av ll h,fun z c q=>An (Av (lc z c q) h),fun p hp=>An (Av (lp p hp) h)⟩
 have hide:∀ {hp:KM} {T2:Addr},hp.FunFrames X.base X.stack->hp.FunFrames (hideAll hp (x::T2::X.stack.filterMap (·.frame))) X.stack:=fun h=>funFrames_hide h fun env he a hf=>Ak _<|Ak _<|List.mem_filterMap.mpr ⟨env,he,hf⟩;have fl1:=hide (T2:=T) I1.env0.funs;obtain⟨c1,c2,c3,c4⟩:=far T Th.new.2.1;refine vX (base:=hideAll s'.heap (x::T::X.stack.filterMap (·.frame))) (outer:=X.outer) fr (by rw[hs] at fl1 ⊢;exact fl1) hf ox (fun b o e=>of_hideAll _ e) (hideAll_none _ Ao) rfl w1 (hideAll_none _<|Ak _ Ao) Tx hT dT t3 fun h2 g=>?_;rw[<-hs] at g;have I2:=ZM I1 Th.at_ Th.free c1 c2 c3 c4 g ox;obtain⟨ws2,T2,oT2,ts2,g1,g2,⟨g3,g3'⟩,g4,g5,g6,g7⟩:=g.err;have Tf:T2 ∉ X.stack.filterMap (·.frame):=fun z=>by obtain⟨_,o,ho,nf⟩:=g.frames.mem z;rw[g5] at ho;cases ho;exact nf _ g6
 have T2ok:s.heap.objs.size<=T2/\H' T2=none:=by
   by_cases e:T2=T
   . rw[e];exact⟨Th.new.2.1,Th.free⟩
   . have z:s'.heap.get? T2=none:=by
       cases q:s'.heap.get? T2 with
       | none=>rfl
       | some o =>
         have:=hideAll_get (x::T::X.stack.filterMap (·.frame)) q (fun z=>by
           rcases M2.mp z with z | z
           . exact g4 z
           . rcases M2.mp z with z | z
             . exact e z
             exact Tf z)
         rw[g3] at this;cases this
     have sz:s.heap.objs.size<=s'.heap.objs.size:=by have:=Aj hT;exact Az Th.new.2.1<|BQ this
     exact⟨Az sz<|g3' z,I1.hok.fresh<|g3' z⟩
 obtain⟨e1,e2,e3,e4⟩:=far T2 T2ok.1;have fl2:=hide (T2:=T2) I2.env0.funs;refine k _ I2 (fun M A E Q q=>?_) ⟨T2,ws2,oT2,ts2,⟨g1,g2,g4,g5,g6,g7⟩,T2ok.2,T2ok.1⟩;refine zh8 (base:=hideAll h2 (x::T2::X.stack.filterMap (·.frame))) (l:=X.stack) (fun b o e=>of_hideAll _ e) fl2 g1 rfl g2 (hideAll_none _<|Ak _ Ao) g4 g5 g6 g7 fun h3 g'=>?_;exact q _<|ZM I2 Th.at_ T2ok.2 e1 e2 e3 e4 g' g1
end
section
variable {E:XK} {Q:VK} {vs:List V}
def sP(F:II X.prog X.w X.K X.mg X.base CX k fa fd ps sp)(hr:Ia k X.A)(hb:Binds X.K fd ps [])(I:Inv X qp σ H s)(r:Vals vs us)(h:sp vs H Q E)(hx:∀ e s',CX X.stack H s E e s'->W e s') :
   wpAny (KB X.prog X.w) X.A (call (.ref fa) us) (EP X qp σ Q) W s:=by
 have hl:(us++[]).length=ps.length:=by rw[Al,<-r.length];exact F.len _ _ _ _ h
 have r2:Vals vs (us++[]):=by rw[Al];exact r
 refine DG<|CL (F.run X.A X.stack s H ⟨us,[]⟩ (us++[]) vs Q E hr I.env0 (hb s us I.kIn hl) r2 h) fun rr s' z=>?_
 cases rr with
 | error e=>exact hx e s' z
 | ok fl =>
   cases fl with
   | ret u=>exact I.after z
   | next=>exact False.elim z
   | brk=>exact False.elim z
   | cont=>exact False.elim z
end
end L2.MP
namespace L2.MP
open PySem PySem.W PyProof.Rows Builtin.ObjectAttr
structure Np(K:Frag)(C:Addr):Prop where
 ga:findIn K (.ref C) "__getattribute__"=some (some (.builtin "BaseException.__getattribute__"))
 hk:findIn K (.ref C) "__getattr__"=some none
 cl:findIn K (.ref C) "__class__"=some (some (.builtin "object.__class__"))
 gs:specialIn K (.builtin "object.__class__") "__get__"=some (some (.builtin "getset_descriptor.__get__"))
 tk:takesIn K (.builtin "object.__class__")=some true
 mo:mroIn K C (.type "object")=some true
 mb:mroIn K C (.type "BaseException")=some true
variable {expr:Bool}{Q:Qqa}{v:IR}
section
variable {prog:Pv} {w:UF} {A:Around} {E:Qqa} {s:Shared} {K:Frag} {x C:Addr} {ox:Obj} {od:Option Obj} {name:Str} {tk:Tok}
def Yz{fill:Bool}(Z:Np K C)(X:K.In s.heap)(I:InstAt s.heap x ox C od)
   (h:wpAny (KB prog w) A.in1 (Builtin.«object.__getattribute__» ⟨[.ref x,.str name tk],[]⟩) (fun fin s'=>match fin with | .done (.ret v)=>handedIn v=true/\Q v s' | _=>False) (fun _ _=>False) s) :
   wpAny (KB prog w) A (getAttrBy (.ref x) (.str name tk) fill expr) Q E s:=by
 obtain⟨hh,g,d,t,os⟩:=s;have L0:=I.type (M:=KB prog w);have L1:=looks_findIn (M:=KB prog w) X Z.ga;have L2:=looks_findIn (M:=KB prog w) X Z.hk;have L3:Looks (KB prog w) hh (isInstance (.ref x)<|.type "BaseException") true:=L0.andThen<|looks_mroIn X Z.mb;have bd:=F.excAttr_ValueError.ga.bind<|.ref x;have n1:(expr&&onTheHeap (CA "BaseException.__getattribute__"))=false:=by cases expr <;> rfl
 have n2:(CA "BaseException.__getattribute__"==CA "object.__getattribute__")=false:=by decide +kernel
 have n3:(onTheHeap (Au C)&&CA "BaseException.__getattribute__"==CA "object.__getattribute__")=false:=by rw[n2];rfl
 repeat (any_goals (first | assumption | (with_reducible refine BF I.at_ ?_;rw[I.cls]) | with_reducible refine L1.here ?_ | with_reducible refine L2.here ?_ | wp_step))
 have kd:builtinKind "BaseException.__getattribute__"=some .slot:=by decide +kernel
 have sp:splitId "BaseException.__getattribute__"=some ("BaseException","__getattribute__"):=by decide +kernel
 refine DO F.excAttr_ValueError.ga.plain F.entry_bexc_ga ?_;have ak:=F.args_bexc_ga (.ref x)<|.str name tk;show wpAny _ _ (checkBuiltinCall "BaseException.__getattribute__" ⟨.ref x::[.str name tk],[]⟩) _ _ _;refine check_slot (s:=⟨hh,g,d,t,os⟩) (i:="BaseException.__getattribute__") (owner:="BaseException") (n:="__getattribute__") (self:=.ref x) (rest:=[.str name tk]) (kw:=[]) kd sp L3 ak ?_;refine A8 h (fun fin s' z=>?_) fun _ _ z=>z.elim
 rcases fin with (_ | _ | _ | v) | _ <;> first | exact z.elim | skip
 obtain⟨z1,z2⟩:=z;show wpAny _ _ (handedOut _) _ _ _;rw[handedOut_of z1];exact Ab z2
def uD{Q:Fin->Shared->Prop}(X:K.In s.heap)(I:InstAt s.heap x ox C od)(hf:findObj K C od name=some (.value v))(h:Q (.done<|.ret v) s) :
   wpAny (KB prog w) A (Builtin.«object.__getattribute__» ⟨[.ref x,.str name tk],[]⟩) Q E s:=by
 obtain⟨hh,g,d,t,os⟩:=s;have L0:=I.type (M:=KB prog w);have L1:=looks_find (M:=KB prog w) X I hf;refine Aa<|Ab<|Aa<|Ab<|Aa<|L0.at<|Aa<|L1.at ?_;exact Ab h
def mH{ge a:IR}{Q:Fin->Shared->Prop}(X:K.In s.heap)(I:InstAt s.heap x ox C od)(hf:findObj K C od name=some (.bind ge a))(h:wpAny (KB prog w) A (call ge [a,.ref x,.ref C]) (fun v s'=>Q (.done<|.ret v) s') E s) :
   wpAny (KB prog w) A (Builtin.«object.__getattribute__» ⟨[.ref x,.str name tk],[]⟩) Q E s:=by
 obtain⟨hh,g,d,t,os⟩:=s;have L0:=I.type (M:=KB prog w);have L1:=looks_find (M:=KB prog w) X I hf;refine Aa<|Ab<|Aa<|Ab<|Aa<|L0.at<|Aa<|L1.at ?_;show wpAny _ _ (holding [a] (call ge [a,.ref x,.ref C]) >>= ret) _ _ _;exact Aa<|A0<|A8 h (fun v s' z=>Ab z) fun _ _ z=>z
def wQ{Q:Option IR->Shared->Prop}(Z:Np K C)(X:K.In s.heap)(I:InstAt s.heap x ox C od)(h:Q (some<|.ref C) { s with toks:=s.toks+1 }):wpAny (KB prog w) A (getAttr? (.ref x) "__class__") Q E s:=by
 have hc:(clsIn K C).isSome=true:=by
   have:=Z.mo;unfold mroIn at this
   cases hh:clsIn K C with
   | none=>rw[hh] at this;cases this
   | some _=>rfl
 have hf:findObj K C od "__class__"=some (.bind (.builtin "getset_descriptor.__get__")<|.builtin "object.__class__"):=by obtain⟨cd,hc⟩:=Option.isSome_iff_exists.mp hc;unfold findObj;rw[hc,Ae,Z.cl,Ae];simp[Z.gs,Z.tk]
 unfold getAttr? getAttrBy?;refine Aa<|wpAny_mkText<|Aa<|B2<|Yz (s:={ s with toks:=s.toks+1 }) Z X I<|mH (s:={ s with toks:=s.toks+1 }) X I hf<|DG<|class_get (s:={ s with toks:=s.toks+1 }) X I Z.mo ?_;exact⟨rfl,Ab h⟩
def uC(Z:Np K C)(X:K.In s.heap)(I:InstAt s.heap x ox C od)(hf:findObj K C od name=some (.value v))(hv:handedIn v=true)(h:Q v { s with toks:=s.toks+1 }):wpAny (KB prog w) A (getAttr (.ref x) name expr) Q E s:=by unfold getAttr;exact Aa<|wpAny_mkText<|Yz (s:={ s with toks:=s.toks+1 }) Z X I<|uD (s:={ s with toks:=s.toks+1 }) X I hf ⟨hv,h⟩
def VT(Z:Np K C):KitX K (.ref x) (.ref C) (fun h=>∃ ox od,InstAt h x ox C od) where
 ty:=fun _ _ _ ⟨_,_,I⟩=>I.type
 it:=fun _ _ X _=>by
   have:=Z.mo;unfold mroIn clsIn at this
   split at this
   . rename_i ho;intro A' Q' E' s' k q;unfold isType loadHead;exact Aa<|wpAny_loadPart (k _ _<|X _ _ ho)<|Ab q
   . cases this
 ne:=fun h tp dd its n sl X htp=>by
   have:=Z.mo;refine Bool.eq_false_iff.mpr fun q=>?_;have e:C=tp:=Value.ref.inj<|beq_iff_eq.mp q;subst e;unfold mroIn clsIn at this
   split at this
   . rename_i ho;have z:=(X _ _ ho).symm.trans htp;cases z
   . cases this
 ca:=fun X ⟨_,_,I⟩ k=>wQ Z X I k
end
end L2.MP
namespace L2.MP
open PySem PySem.W
open PySem.Spec PyProof.Rows
structure PlainAt(hp:KM)(C:Addr):Prop where
 ex:∃ (nm ql:Str) (N:Addr) (bs bm bmB bmN:List IR) (b1:Bool) (sn:List Str) (sub:List IR) (b2:Bool) (b3:Option Bool) (dd:Option Addr) (k0 k1 k2 k3 k5:Option IR) (newId B Bn nid initId inN:String) (mN:Str->Option IR),
   ExcBaseFacts Bn newId inN bmN/\bmB.contains (.type Bn)=true/\ExcBaseFacts B nid initId bmB/\OwnTail hp bmB bm/\hp.get? C=some (excClassObj nm ql C N bs bm b1 sn sub b2 b3 dd k0 k1 k2 k3 k5 newId)/\hp.Ns N mN/\mN "__init__"=none
def Ob(t:Str->Str->Option Bool)(c:Str):List D->Option Bool
 | []=>some false
 | d::ds=>match d with
   | .fn y=>(t c y).bind fun b=>if b=true then some true else Ob t c ds
   | _=>none
def RY(t:Str->Str->Option Bool):GN:=fun ds st=>match ds with
 | [.er true c _,.fn y]=>(t c y).map fun b=>(.bl b,st)
 | [.er true c _,.tup (.fn y::ys)]=>(Ob t c (.fn y::ys)).map fun b=>(.bl b,st)
 | _=>none
def LX(t:Str->Option Bool)(m:ME):ME:=fun ρ st=>(m ρ st).bind fun (d,s)=>match d with
 | .er true c _=>(t c).map fun b=>(.bl b,s)
 | _=>none
def Lo(ok:Str->Bool)(f:Str)(m:ME):ME:=fun ρ st=>(m ρ st).bind fun (d,s)=>match d with
 | .er true c (some (g,n))=>if g=f/\ok c=true then some (.int n,s) else none
 | _=>none
def PX(K:Frag)(t:Str->Str->Option Bool):Prop:=∀ c y b C D,t c y=some b->JV K c C->JV K y D->Np K C/\kitOne K (.ref C) (.ref D)=some b
def UX(K:Frag)(T:String)(t:Str->Option Bool):Prop:=∀ c b C,t c=some b->JV K c C->Np K C/\kitOne K (.ref C) (.type T)=some b
def Sj(K:Frag)(f:Str)(ok:Str->Bool):Prop:=∀ c C,ok c=true->JV K c C->Np K C/\findIn K (.ref C) f=some none/\hasDictIn K C=true
variable {X:Cx}{qp:List (Addr×Obj)}{σ:L2.St}{H:Hp}{s:Shared}{io:List Addr}{st:HB}{x C:Addr}{c:Str}{K:Frag}{t:Str->Str->Option Bool}
def Inv.er{od:Option Addr}{φ:KM->Prop}{o:Obj}{fs:Array IR}(I:Inv X qp σ H s)(hx:H x=some (.ext φ))(g:s.heap.get? x=some o)(c:o.cls=.ref C)(d:o.dict=od)(e:o.data=.fields fs):Inv X qp σ (upd H x<|.frz o<|.ext<|QD C x od) s:=by
 have I1:Inv X qp σ (upd H x<|.ext<|QD C x od) s:=I.write (x:=x) (e:=x) (h':=s.heap) (t':=s.toks) (by rw[hx];exact CF) (.inl rfl) (fun b u _ q=>q) ⟨_,g⟩ ⟨⟨o,fs,g,c,d,e⟩,⟨_,g⟩,fun h1 h2 ⟨o',fs',g',r⟩ kk=>⟨o',fs',kk _ g',r⟩⟩;have:=Inv.freeze I1 (d:=x) (o:=o) JP g (by simp) (by simp) (by simp)<|by simp
 rwa [rF] at this
def Vz{v:V}{f:Option (Str×Int)}(I:Inv X qp σ H s)(h:QE X.K H v c f):∃ a C ox od,v=.ref a/\JV X.K c C/\InstAt s.heap a ox C od:=by
 cases f with
 | none =>
   obtain⟨a,C,o,rfl,q,r⟩:=h;obtain⟨g,⟨o1,fs,g1,c1,d1,e1⟩,_⟩:=I.hok _ _ r;refine⟨a,C,o1,none,rfl,q,g1,c1,by unfold notCls;rw[e1],?_⟩;rw[d1];exact CF
 | some p =>
   obtain⟨a,C,o,dx,o',rfl,q,r,z⟩:=h;obtain⟨g,⟨o1,fs,g1,c1,d1,e1⟩,_⟩:=I.hok _ _ r;obtain⟨g2,_⟩:=I.hok _ _ z;refine⟨a,C,o1,some o',rfl,q,g1,c1,by unfold notCls;rw[e1],?_⟩;rw[d1];exact g2
def YS{K:Frag}{c:Str}{C:Addr}{t:Str->Str->Option Bool}(T:PX K t)(hc:JV K c C){io:List Addr}:∀ {ds:List D} {xs:List V} {us:List IR} {b:Bool},Ob t c ds=some b->HC K H io xs ds->Vals xs us->kitAny K (.ref C) us=some b
 | [],xs,us,b,e,R,r=>by
   cases e
   cases (show xs=[] from R)
   cases r;rfl
 | d::ds,xs,us,b,e,R,r=>by
   obtain⟨x,xs,rfl,r1,R⟩:=R
   cases r with
   | cons q r =>
     unfold Ob at e
     split at e
     . rename_i y;obtain⟨b1,e1,e⟩:=HK e;obtain⟨D,rfl,hD⟩:=r1;obtain rfl:=(show _=Au D from q)
       have hk:=(T c y b1 C D e1 hc hD).2;unfold kitAny;rw[hk]
       cases b1 with
       | true=>cases e;rfl
       | false=>exact YS T hc e R r
     . cases e
def qD(T:PX X.K t):J4 X (.builtin "isinstance") (RY t):=by
 rintro qp s σ H xs us Q I r ⟨ds,st,io,d,st',R,S,e,k⟩;unfold RY at e
 split at e
 . rename_i c f y;obtain⟨b,e1,e⟩:=Ip e;cases e;obtain⟨v1,v2,rfl,r1,r2⟩:=R.two;obtain⟨u1,u2,rfl,q1,q2⟩:=r.two;obtain⟨a,C,ox,od,rfl,hC,J⟩:=Vz I r1.2;obtain⟨D,rfl,hD⟩:=r2;obtain rfl:=(show u1=Au a from q1)
   obtain rfl:=(show u2=Au D from q2)
   obtain⟨Z,hk⟩:=T c y b C D e1 hC hD;exact kia_one (VT Z) I.kIn ⟨ox,od,J⟩ hk (by intro z;cases z) fun tk=>⟨.bl b,H,I.tok tk,rfl,k.now S rfl⟩
 . rename_i c f y ys;obtain⟨b,e1,e⟩:=Ip e;cases e;obtain⟨v1,v2,rfl,r1,r2⟩:=R.two;obtain⟨u1,u2,rfl,q1,q2⟩:=r.two;obtain⟨a,C,ox,od,rfl,hC,J⟩:=Vz I r1.2;obtain⟨p,zs,rfl,hp,r3⟩:=r2;obtain rfl:=(show u1=Au a from q1)
   obtain rfl:=(show u2=Au p from q2)
   obtain⟨its,vs,⟨o,g,hc,n,hd⟩,_⟩:=I.tuple<|IQ.of hp;obtain⟨oc,od2,da,sl⟩:=o;dsimp only at hc hd;subst hc hd;have Z:Np X.K C:=by obtain⟨b1,h1,_⟩:=HK (show (t c y).bind _=_ from e1);obtain⟨z,zs',rfl,hz,_⟩:=r3;obtain⟨D,_,hD⟩:=hz;exact (T c y b1 C D h1 hC hD).1
   exact kia_tup (VT Z) I.kIn ⟨ox,od,J⟩ g (YS T hC e1 r3 vs) (by intro z;cases z) fun tk=>⟨.bl b,H,I.tok tk,rfl,k.now S rfl⟩
 . cases e
variable {fld y:Str}{k:Nat}{e:Os}{pos:Pos}{T:String}
section
variable {f:Addr} {fd:FuncData} {ps:List Str} {m:ME} {p:Pos}
def jT{ok:Str->Bool}(A:Sj X.K fld ok)(he:SE X e m)(hb:attributeBase e fld X.env (W1 e X.env)=W1 e X.env:=by rfl):SE X (.Attribute e fld pos) (Lo ok fld m):=by
 rintro qp s σ H Q I ⟨ρ,st,io,d,st',En,S,e0,kk⟩;obtain⟨⟨d0,s1⟩,e1,e5⟩:=HK e0;clear e0;dsimp only at e5
 split at e5
 . rename_i c g n
   split at e5
   . rename_i q;obtain⟨rfl,q⟩:=q;cases e5;refine nQ hb<|HS (he qp s σ H (fun v H1=>∃ ka,Ext io ka H H1/\HN X.K H1 (io++ka) st'/\Rep X.K H1 (io++ka) v (.er true c<|some (g,n))) I ⟨ρ,st,io,_,st',En,S,e1,fun v H1 ka X1 S1 R1=>⟨ka,X1,S1,R1⟩⟩) ?_;rintro u s2 ⟨v,H1,I1,rv,ka,X1,S1,_,a,C,o,dx,o',rfl,hC,hx,hd⟩;obtain rfl:=(show u=Au a from rv)
     obtain⟨Z,h1,h2⟩:=A c C q hC;obtain⟨g0,⟨o1,fs,g1,c1,d1,e1⟩,_⟩:=I1.hok _ _ hx;obtain⟨g2,mA,ns,rl⟩:=I1.hok _ _ hd;obtain⟨od,god,lk⟩:=aO ns;have J:InstAt s2.heap a o1 C (some od):=⟨g1,c1,by unfold notCls;rw[e1],by rw[d1];exact god⟩
     obtain⟨w,hw,rw'⟩:=JC.some_of (v:=.int n) (o:=mA g) (by have:=rl g;simpa[Fe] using this);obtain⟨t,rfl⟩:=(show ∃ t,w=DY n t from rw')
     obtain⟨cd,hc,hdd⟩:=any_some h2;have hf:findObj X.K C (some od) g=some (.value<|.int n t):=by unfold findObj;rw[hc,Ae,h1];simp only[Ae,PySem.W.ownOf];rw[if_pos hdd,lk,hw];rfl
     exact uC Z I1.kIn J hf rfl ⟨.int n,H1,I1.tok _,⟨t,rfl⟩,kk _ _ _ X1 S1 rfl⟩
   . cases e5
 . cases e5
def Xt(K:Frag)(T:String)(t:Str->Option Bool):List V->Hp->VK->Prop:=fun xs H Q=>∃ x c f b,xs=[x,.ty T]/\QE K H x c f/\t c=some b/\Q (.bl b) H
def qE{t:Str->Option Bool}(O:UX X.K T t):Mj X (.builtin "isinstance") (Xt X.K T t):=by
 rintro qp s σ H xs us Q I r ⟨x,c,f,b,rfl,R,e,q⟩;obtain⟨u,w,rfl,ru,rw'⟩:=r.two;cases rw';obtain⟨a,C,ox,od,rfl,hC,J⟩:=Vz I R;obtain rfl:=(show u=Au a from ru)
 obtain⟨Z,hk⟩:=O c b C e hC;exact kia_one (VT Z) I.kIn ⟨ox,od,J⟩ hk (by intro z;cases z) fun tk=>⟨.bl b,H,I.tok tk,rfl,q⟩
def jU{t:Str->Option Bool}{p2:Pos}(O:UX X.K T t)(hg:Gl X "isinstance")(hm:X.mg "isinstance"=none)(ha:SE X e m)(hgy:Gl X y)(hmy:X.mg y=none)(hvy:UV y=some (.type T))(hny:y≠"__name__":=by decide)(hdy:(y==("__debug__":Str))=false:=by decide)
   (hs:P3 [e,.Name y p2] X.env=(false,W1 e X.env)::P3 [.Name y p2] X.env:=by rfl) (hs2:P3 [.Name y p2] X.env=[(false,W1 (.Name y p2) X.env)]:=by rfl) (hpl:(backTo pos<|P3 [.Name y p2] X.env).any (·.1)=false:=by rfl) :
   SE X (.Call (.Name "isinstance" p) [e,.Name y p2] [] pos) (LX t m) :=
 PE.imp (TV (qE O) hg hm (by decide +kernel) (Pd ha (Pd (Zi (v:=.ty T) hgy hmy hvy rfl hny hdy) QT hs2) hs) (by decide) (by decide) hs hpl) <| by
   rintro σ H Q ⟨ρ,st,io,d,st',E,S,e0,k⟩;obtain⟨⟨x,s1⟩,e1,e0⟩:=HK e0;dsimp only at e0
   split at e0
   . rename_i c f;obtain⟨b,e2,e0⟩:=Ip e0;cases e0;exact⟨ρ,st,io,_,_,E,S,e1,fun v1 H1 k1 X1 S1 R1=>⟨v1,c,f,b,rfl,R1.2,e2,k _ H1 k1 X1 S1 rfl⟩⟩
   . cases e0
end
variable {A:Around}{E W:Qqa}{i:Nat}
def TJ{M:Model}{x:Str}{Q:Unit->Shared->Prop}(I:Inv X qp σ H s)(hN:X.N.Nodup)(hi:X.N[i]?=some x)(hk:X.env.scope.names.lookup x=some .local)(h:∀ s',Inv X qp (σ.set i none) H s'->Q () s') :
   wpAny M A (do bindName X.env x .none;unbindBehindTheSuite X.env x pos) Q E s:=by
 obtain⟨m,hn,hl⟩:=id I.loc;have hcls:(X.env.scope.kind==.class || (X.env.scope.kind==.module&&X.env.locals != X.env.globals))=false:=by rw[I.ok.kind];rfl
 have hiσ:i < σ.length:=by rw[I.len];exact (KF.mp hi).1
 have cne:=I.cne;obtain⟨oL,_,_,hoL,_⟩:=id hn;refine wpAny_nameGoes_keeps hk hn hcls fun h' v hn' hs=>?_;have far:∀ {b:Addr} {o:Obj},X.s₀.heap.get? b=some o->b≠X.env.locals:=fun e=>An<|Av (Aj e) I.ok.above;have J:Inv X qp (σ.set i none) H { s with heap:=h' }:=by
   refine⟨I.ok,I.os,I.bare,⟨fun b o e n hb hx=>(hs.2 b<|far e).trans (I.base.keep b o e n hb hx),fun b o e n hb hx=>?_,I.base.free,fun b o e hx=>?_,I.base.tups,I.base.frzs,I.base.tbls⟩,⟨_,hn',fun j y v' e1 e2 e3=>?_⟩,fun y c e=>?_,I.free,I.freeC,fun p hp=>?_,fun b ob e=>?_,by simpa using I.len⟩
   . obtain⟨sl,e1⟩:=I.base.slot b o e n hb hx;exact⟨sl,(hs.2 b<|far e).trans e1⟩
   . obtain⟨o',e1⟩:=I.base.there b o e hx;exact⟨o',(hs.2 b<|far e).trans e1⟩
   . by_cases hj:j=i
     . subst hj;rw[AF hiσ] at e2;cases e2
     . rw[As (A6 hj)] at e2;obtain⟨u',r',q⟩:=hl j y v' e1 e2 e3;refine⟨u',r',?_⟩
       rcases q with ⟨k,e⟩ | ⟨k,c,e,z⟩
       . refine .inl ⟨k,?_⟩;have ny:y≠x:=fun e=>hj<|V7 hN e1<|e ▸ hi;simp[ny,e]
       exact .inr ⟨k,c,e,z.sameBut hs<|cne y c e⟩
   . obtain⟨w',z⟩:=I.cell y c e;exact⟨w',z.sameBut hs<|cne y c e⟩
   . obtain⟨e,n,ne,nf,d⟩:=I.pin p hp;exact⟨(hs.2 p.1 ne).trans e,n,ne,nf,d⟩
   . refine (I.hok b ob e).stay (fun c w' hc q=>(hs.2 c ?_).trans q) (fun _ q=>q) fun _ _ q=>q;rintro rfl
     rcases hc with rfl | hc
     . rw[I.free] at e;cases e
     rw[I.free] at hc;cases hc
 exact h _<|J.tok _
def UE(X:Cx)(x:Addr)(W:Qqa):Cx:={ X with A:=X.A.mark (some<|.ref x),calm:=false,xe:=W }
def gS(I:Inv X qp σ H s):Inv (UE X x W) qp σ H s :=
 ⟨⟨I.ok.mod,I.ok.kind,I.ok.glob,I.ok.blt,I.ok.above,I.ok.inj,I.ok.has,I.ok.cab,fun z=>(by cases z),I.ok.frames,I.ok.stk,I.ok.exf,I.ok.bs,I.ok.bsz,I.ok.noex,I.ok.exfs,I.ok.funs,I.ok.frf⟩,I.os,I.bare,I.base,I.loc,I.cell,I.free,I.freeC,I.pin,I.hok,I.len⟩
def SH(ok:X.Ok)(I:Inv (UE X x W) qp σ H s):Inv X qp σ H s :=
 ⟨ok,I.os,I.bare,I.base,I.loc,I.cell,I.free,I.freeC,I.pin,I.hok,I.len⟩
variable {prog:Pv}{w:UF}{st0:Wp}{more:List Wp}
section
variable {env:Env}
def wR{t:Os}{n:Str}{rest:List ExceptHandler}{Q:Flow->Shared->Prop}
   (h:wpAny (KB prog w) (A.mark<|some<|.ref x) (W1 t env) (fun c s1=>c=.ref C/\Looks (KB prog w) s1.heap (excMatches (.ref x)<|.ref C) true/\wpAny (KB prog w) (A.mark<|some<|.ref x) (setFlight (.ref x) none) (fun _ s2 =>
         wpAny (KB prog w) (A.mark<|some<|.ref x) (storeName env n<|.ref x) (fun _ s3 =>
           wpAny (KB prog w) (A.mark<|some<|.ref x) (execs (st0::more) env) (fun f s4=>wpAny (KB prog w) A (do bindName env n .none;unbindBehindTheSuite env n pos) (fun _ s5=>Q f s5) E s4)
             (AsSuiteRaised (KB prog w) (A.mark<|some<|.ref x) env n pos<|N4 prog w A env x E) s3) (N4 prog w A env x E) s2) (N4 prog w A env x E) s1) (N4 prog w A env x E) s) :
   wpAny (KB prog w) A (handleBy (.ref x) env (.ExceptHandler (some t) (some n) (st0::more) pos::rest)) Q E s:=by
 refine wpAny_handleBy_cons (codeAny_handlers_test<|A8 h (fun c s1 z=>?_) fun _ _ z=>z) (by intro q;cases q);obtain⟨rfl,L,k⟩:=z;exact L.here<|codeAny_handlers_suite_as k
end
def LI(n:Int):D:=.er false "" (some ("",n))
def L9(P:Pv)(w:UF)(K:Frag)(mg:Str->Option IR)(base:KM)(k:Nat)(x:Str)(n:Nat)(c fld:Str)(g:GN):Prop :=
 ∃ C fa fd ps,JV K c C/\mg c=some (.ref C)/\(∀ h:KM,K.In h->Jg h C)/\II P w K mg base (Jj P w C fld) k fa fd ps (Xg K LI n g)/\mg x=some (.ref fa)/\keepIn K (.ref fa)=true/\Binds K fd ps []
def Yj(j:Nat):Fl->Fl
 | .nx ρ=>.nx<|ρ.set j none
 | .bk ρ=>.bk<|ρ.set j none
 | .ct ρ=>.ct<|ρ.set j none
 | .rt d=>.rt d
variable {o:HO}{p dx:Addr}{kb:List Addr}{st':HB}{P:Pv}
section
variable {H' H1:Hp} {ka:List Addr}
def HQ.unset{ρ:Ie}(i:Nat)(h:HQ K H io σ ρ):HQ K H io (σ.set i none) (ρ.set i none):=by
 refine⟨by rw[BZ,BZ];exact h.len,fun j e q=>?_⟩
 by_cases hij:i=j
 . subst hij;rw[CJ] at q
   split at q
   . split at q
     . cases q
     . cases q
   exact absurd rfl ‹_›
 rw[As hij] at q;obtain⟨v,e1,r⟩:=h.at_ j e q;exact⟨v,by rw[As hij];exact e1,r⟩
def ZZ(E:Ext io ka H H')(hp:H p=none):Ext io ka H (upd H' p o) :=
 ⟨fun b u h n=>by rw[HV (Jw h hp)];exact E.keep b u h n,E.fresh,fun b u v h=>by rw[HV (Jw h hp)];exact E.frz b u v h⟩
def Z6{o u:HO}(S:HN K H io st)(hp:p ∉ io)(hu:H p=some u)(n1:∀ xs,u≠.tup xs)(n2:∀ o w,u≠.frz o w):HN K (upd H p o) io st:=by
 have ne:∀ {b:Addr} {v:HO},H b=some v->v≠u->b≠p:=fun {b v} q nv z=>by subst z;rw[hu] at q;exact nv (Ap q).symm
 have T:Kp H (upd H p o):=⟨fun a xs q=>by rw[HV (ne q fun z=>n1 xs z.symm)];exact q,fun a v w q=>by rw[HV (ne q fun z=>n2 v w z.symm)];exact q⟩
 refine⟨S.len,S.nd,fun n a ob h1 h2=>?_⟩;have:=OR.mono (ka:=[]) T (HV fun z=>hp (by rw[<-z];exact AI h1))<|S.ob n a ob h1 h2
 rwa [Al] at this
def lN{fs:List (Str×V)}(S:HN K H io st)(hp:H p=some (.xd fs)):p ∉ io:=fun hm=>by
 obtain⟨n,hn,e⟩:=DR hm;have e1:io[n]?=some p:=by rw[Ah hn,e]
 have h2:n < st.length:=by rw[<-S.len];exact hn
 have:=S.ob n p _ e1<|Ah h2;generalize st[n]=o at this
 cases o with
 | lst ds=>obtain⟨xs,q,_⟩:=this;rw[hp] at q;cases q
 | fz ds=>obtain⟨ob,xs,q,_⟩:=this;rw[hp] at q;cases q
 | dk ds=>obtain⟨xs,q,_⟩:=this;rw[hp] at q;cases q
 | dt ds=>obtain⟨xs,q,_⟩:=this;rw[hp] at q;cases q
 | fk ds=>obtain⟨ob,xs,q,_⟩:=this;rw[hp] at q;cases q
 | ft ds=>obtain⟨ob,xs,q,_⟩:=this;rw[hp] at q;cases q
 | ob C fs=>obtain⟨dx,xs,q,_⟩:=this;rw[hp] at q;cases q
 | sz n=>have q:H p=_:=this;rw[hp] at q;cases q
 | dz=>have q:H p=_:=this;rw[hp] at q;cases q
def oZ{h:KM}(S:HN K H io st)(A:Jn P w H h)(hp:H p=some (.ext<|K3 C p dx)):p ∉ io:=fun hm=>by
 obtain⟨n,hn,e⟩:=DR hm;have e1:io[n]?=some p:=by rw[Ah hn,e]
 have h2:n < st.length:=by rw[<-S.len];exact hn
 have:=S.ob n p _ e1<|Ah h2;obtain⟨⟨ws,g⟩,_,_⟩:=A p _ hp;generalize st[n]=o at this
 cases o with
 | lst ds=>obtain⟨xs,q,_⟩:=this;rw[hp] at q;cases q
 | fz ds=>obtain⟨ob,xs,q,_⟩:=this;rw[hp] at q;cases q
 | dk ds=>obtain⟨xs,q,_⟩:=this;rw[hp] at q;cases q
 | dt ds=>obtain⟨xs,q,_⟩:=this;rw[hp] at q;cases q
 | fk ds=>obtain⟨ob,xs,q,_⟩:=this;rw[hp] at q;cases q
 | ft ds=>obtain⟨ob,xs,q,_⟩:=this;rw[hp] at q;cases q
 | ob C fs=>obtain⟨dx,xs,q,_⟩:=this;rw[hp] at q;cases q
 | sz n =>
   obtain⟨⟨o,es,ep,t,g2,x,_⟩,_,_⟩:=A p _ this;rw[g] at g2;cases g2;cases x.1
 | dz =>
   obtain⟨⟨o,es,ep,g2,x,_⟩,_,_⟩:=A p _ this;rw[g] at g2;cases g2;cases x.1
end
variable {j:Nat}
def rH{H:Hp}{N:Ends}{f:Fl}(w:Wn K io H st' N (Yj j f)):Wn K io H st' { nx:=fun σ H=>N.nx (σ.set j none) H,rt:=N.rt,bk:=fun σ H=>N.bk (σ.set j none) H,ct:=fun σ H=>N.ct (σ.set j none) H } f:=by
 cases f with
 | nx ρ=>exact fun σ' H' ka X' S' E'=>w (σ'.set j none) H' ka X' S'<|E'.unset j
 | bk ρ=>exact fun σ' H' ka X' S' E'=>w (σ'.set j none) H' ka X' S'<|E'.unset j
 | ct ρ=>exact fun σ' H' ka X' S' E'=>w (σ'.set j none) H' ka X' S'<|E'.unset j
 | rt d=>exact w
variable {n:Nat}{g xn nm:Str}{gg:GN}{es:List Os}{mm:MA}{mh:MS}{cpos np hpos px apos:Pos}
section
variable {c0:Str} {p epos cp tp:Pos} {kk:Nat} {T:Addr}
def wL{T':Addr}{s' s7:Shared}{H2 H3:Hp}{E:XK}{s2:HB}{m:Int}(Th:Lu X.prog X.w C fld X.stack H2 s E x dx T' m H3 s')(I2:Inv X qp σ H2 s)(I7:Inv X qp σ H3 s7)(X3:Ext io kb H2 H3)(S3:HN X.K H3 (io++kb) s2)(hC:JV X.K c C) :
   ∃ H4,Inv X qp σ H4 s7/\Ext io kb H2 H4/\HN X.K H4 (io++kb) s2/\Rep X.K H4 (io++kb) (.ref x) (.er true c<|some (fld,m)):=by
 have hx:=Th.at_;have hd:=Th.dict;have nd:dx≠x:=M7 hd hx (by intro z;cases z);obtain⟨⟨ws,ox⟩,_,_⟩:=I7.hok x _ hx;obtain⟨mA,ns,_⟩:=I7.hok dx _ hd;obtain⟨od,god,_⟩:=aO ns;have x2:H2 x=none:=I2.hok.fresh Th.new.1;have d2:H2 dx=none:=I2.hok.fresh Th.new.2.2;have I8:=Inv.er I7 hx ox rfl rfl rfl;have I9:=Inv.freeze I8 (d:=dx) (o:=od) (by rw[HV nd];exact hd) god (by simp) (by simp) (by simp) (by simp);have S4:=Z6 (p:=x) (o:=.frz { cls:=.ref C,dict:=some dx,data:=.fields ws } (.ext<|QD C x<|some dx)) S3 (oZ S3 I7.hok hx) hx (by simp) (by simp);have hd4:upd H3 x (.frz { cls:=.ref C,dict:=some dx,data:=.fields ws }<|.ext<|QD C x<|some dx) dx=some (.xd [(fld,.int m)]):=by rw[HV nd];exact hd
 have S5:=Z6 (p:=dx) (o:=.frz od (.xd [(fld,.int m)])) S4 (lN S4 hd4) hd4 (by simp) (by simp);refine⟨_,I9,ZZ (ZZ X3 x2) d2,S5,rfl,x,C,{ cls:=.ref C,dict:=some dx,data:=.fields ws },dx,od,rfl,hC,?_,JP⟩;rw[HV (A6 nd),JP]
end
section
variable {mg:Str->Option IR} {base:KM} {N:List Str} {qual:Str} {scope:Scope} {fa:Addr} {cd:IR} {outer:List Env} {s0:Shared} {H0:Hp} {E:XK} {f:Str}
def pJ:Passes (Jj P w C f) (Ic (Jj P w C f) P w K mg base N qual scope fa cd A outer s0 H0 E) E:=by intro qp σ H s e s' I z;obtain⟨x,dx,T,n,H',rfl,Th⟩:=z;show wpAny (KB P w) _ (leaving _<|.ref x) _ _ s';unfold leaving;refine Aa<|landed (X:=Ic (Jj P w C f) P w K mg base N qual scope fa cd A outer s0 H0 E) rfl rfl I Th fun s2 I2 ra tr=>?_;obtain⟨T2,ws,oT,ts,tr,hT,sT⟩:=tr;have sz:s0.heap.objs.size<=s.heap.objs.size:=I.sz;exact⟨x,dx,T2,n,H',rfl,⟨Th.at_,Th.dict,⟨ws,oT,ts,tr⟩,hT,⟨Az sz Th.new.1,Az sz sT,Az sz Th.new.2.2⟩,I2.os,I2.bare,I2.base,I2.hok,Th.wish⟩⟩
variable {p:Pos}
def qX(D:L9 P w K mg base k g n c f gg)(hC:JV K c C)(hr:Ia k (Ic (Jj P w C f) P w K mg base N qual scope fa cd A outer s0 H0 E).A)(ha:SA (Ic (Jj P w C f) P w K mg base N qual scope fa cd A outer s0 H0 E) (e::es) mm)(hl:Kn n mm)
   (hg:Gl (Ic (Jj P w C f) P w K mg base N qual scope fa cd A outer s0 H0 E) g:=by rfl) (hdb:(g==("__debug__":Str))=false:=by decide)
   (he:P3 (e::es) (Ic (Jj P w C f) P w K mg base N qual scope fa cd A outer s0 H0 E).env=(false,W1 e (Ic (Jj P w C f) P w K mg base N qual scope fa cd A outer s0 H0 E).env)::P3 es (Ic (Jj P w C f) P w K mg base N qual scope fa cd A outer s0 H0 E).env:=by rfl) (hpl:(backTo cpos<|P3 es (Ic (Jj P w C f) P w K mg base N qual scope fa cd A outer s0 H0 E).env).any (·.1)=false:=by rfl) :
   SX (Ic (Jj P w C f) P w K mg base N qual scope fa cd A outer s0 H0 E) LI (fun i H'=>E (.int i 0) none H') (.Return (some<|.Call (.Name g p) (e::es) [] cpos) pos) (mR<|HM gg mm):=by
 obtain⟨C',ga,fd,ps,hC',_,_,F,hm,hk,hb⟩:=D;have eC:C'=C:=by unfold JV at hC hC';rw[hC] at hC';cases hC';rfl
 subst eC;refine PS.imp (YE<|Zs F hr hg hm hk hb .nil pJ ha hdb he hpl) fun M σ H h=>?_;obtain⟨ρ,st,io,fl,st',En,S,e0,wx⟩:=h;obtain⟨⟨d,s2⟩,e1,e0⟩:=Ip e0;cases e0;obtain⟨⟨ds,s1⟩,e2,e3⟩:=HK e1;refine⟨ρ,st,io,ds,s1,En,S,e2,fun vs H1 ka X1 S1 R1=>⟨ds,s1,io++ka,d,_,by rw[Al,R1.length];exact hl _ _ _ _ e2,by rw[Al];exact R1,S1,e3,?_,fun i ed H' kb X' S'=>(wx.on X1 S1).x i (by rw[ed]) H' kb X' S'⟩⟩;exact (wx.on X1 S1).w
end
def OP(g:GN)(mm:MA)(i j:Nat)(c fld:Str)(mh:MS):MS:=fun ρ st=>(mm ρ st).bind fun (ds,s1)=>(g ds s1).bind fun (d,s2)=>match d with
 | .er false _ (some (_,n))=>(mh (ρ.set j<|some<|.er true c<|some (fld,n)) s2).map fun (f,s3)=>(Yj j f,s3)
 | .er false _ none=>none
 | _=>some (.nx (ρ.set i<|some d),s2)
section
variable {p:Pos} {T:Addr}
def qT(D:L9 X.prog X.w X.K X.mg X.base k g n c fld gg)(hs:X.stack=X.env::X.outer)(hf:X.env.frame=some X.env.locals)(hr:Ia k X.A)(hg:Gl X g)(ha:SA X.nox (e::es) mm)(hl:Kn n mm)
   (hgy:Gl X y) (hmy:X.mg y=some (.ref T)) (hx:∀ C,JV X.K c C->exmOne X.K (.ref C) (.ref T)=some true) (hN:X.N.Nodup) (hi:X.N[i]?=some xn) (hj:X.N[j]?=some nm) (hil:X.env.scope.names.lookup xn=some .local) (hjl:X.env.scope.names.lookup nm=some .local) (hh:∀ x W,KJ (UE X x W) (st0::more) mh)
   (hdy:(y==("__debug__":Str))=false:=by decide) (hdb:(g==("__debug__":Str))=false:=by decide) (he:Qqb X.env e es:=by rfl) (hpl:Qqc cpos es X.env:=by rfl)
   (hsw:swapsWith (.Call (.Name g p) (e::es) [] cpos) (some<|.Name xn px) apos.line X.env=pure false:=by rfl) :
   SS X (.Try [.Assign [.Name xn px] (.Call (.Name g p) (e::es) [] cpos) apos] [.ExceptHandler (some<|.Name y np) (some nm) (st0::more) hpos] [] [] pos) (OP gg mm i j c fld mh):=by
 obtain⟨C,fa,fd,ps,hC,hmC,hR,F,hm,hk,hb⟩:=D;intro qp s σ H N I h;obtain⟨ρ,st,io,f,st',En,S,e0,w⟩:=Lf.mp h;obtain⟨⟨ds,s1⟩,e1,e3⟩:=HK e0;obtain⟨⟨d,s2⟩,e2,e4⟩:=HK e3;clear e0 e3;dsimp only at e4;refine wpAny_Try_except (Eo<|F3 (CD<|Tq I hg hm ?_ hdb) hsw);refine callWith_K (h₀:=X.base) I.ok.mod.kin hk (A8 (ha cpos qp s σ H (fun vs H2=>∃ ka,Ext io ka H H2/\HN X.K H2 (io++ka) s1/\HC X.K H2 (io++ka) vs ds) (I.wish _) ⟨ρ,st,io,ds,s1,En,S,e1,fun vs H2 ka X2 S2 R2=>⟨ka,X2,S2,R2⟩⟩) (fun us s4 z=>?_) fun _ _ z=>z.elim) he hpl;obtain⟨vs,H2,I2,r,ka,X2,S2,R2⟩:=z;refine⟨I2.unwish.kIn,A8 (sP (W:=fun e s₁=>wpAny (KB X.prog X.w) X.A (noteFrame e X.env) (fun _ s₂=>wpAny (KB X.prog X.w) X.A (setFlight e none) (fun _ s₃=>wpAny (KB X.prog X.w) X.A (handleBy e X.env [.ExceptHandler (some<|.Name y np) (some nm) (st0::more) hpos]) (SP X qp N) X.xe s₃) X.xe s₂) X.xe s₁) (Q:=fun v H3=>∃ kb,Ext (io++ka) kb H2 H3/\HN X.K H3 (io++ka++kb) s2/\Rep X.K H3 (io++ka++kb) v d) (E:=fun v _ H3=>∃ n,v=.int n 0/\d=LI n/\∃ kb,Ext (io++ka) kb H2 H3/\HN X.K H3 (io++ka++kb) s2) F hr hb I2.unwish r
   ⟨ds,s1,io++ka,d,s2,by rw[R2.length];exact hl _ _ _ _ e1,R2,S2,e2,fun v H3 kb X3 S3 R3=>⟨kb,X3,S3,R3⟩,fun i ed H3 kb X3 S3=>⟨i,rfl,ed,kb,X3,S3⟩⟩ fun e s' z=>?_) (fun u2 s5 z=>?_) fun _ _ z=>z⟩
 . obtain⟨x,dx,T',m,H3,rfl,Th⟩:=z;obtain⟨m',em,ed,kb,X3,S3⟩:=Th.wish;cases em;subst ed;obtain⟨⟨f1,s8⟩,e5,e6⟩:=Ip e4;cases e6;refine landed hs hf I2.unwish Th fun s6 I6 ra _=>wR (C:=T) ?_;refine CU I6.ok.kind hgy (EG (by rw[I6.ok.glob];exact I6.mod.glob.keeps I6.bk) hmy ?_) hdy;obtain⟨⟨ws,g1⟩,_,_⟩:=I6.hok x _ Th.at_;refine⟨rfl,exm_one I6.kIn ((Looks.ld g1).andThen .now)<|hx C hC,ra _ _ _ _ fun s7 I7=>?_⟩;obtain⟨H4,I8,X4,S4,R4⟩:=wL Th I2.unwish I7 X3 S3 hC;refine NA I8 hN hj (.inl hjl) (v:=.ref x) rfl (fun s9 I9=>?_)<|.inr hjl;have E4:HQ X.K H4 (io++ka++kb) (σ.set j<|some<|.ref x) (ρ.set j<|some<|.er true c<|some (fld,m)):=((En.ext S X2).ext S2 X4).set j R4;refine HS (hh x _ qp s9 _ H4 { nx:=fun σ H=>N.nx (σ.set j none) H,rt:=N.rt,bk:=fun σ H=>N.bk (σ.set j none) H,ct:=fun σ H=>N.ct (σ.set j none) H } (gS I9)<|M8 E4 S4 e5<|rH<|(w.on X2 S2).on X4 S4) fun f s' z=>?_
   cases f with
   | next=>obtain⟨σ',H',I',q⟩:=z;exact TJ (SH I.ok I') hN hj hjl fun s'' J=>⟨_,H',J,q⟩
   | brk=>obtain⟨σ',H',I',q⟩:=z;exact TJ (SH I.ok I') hN hj hjl fun s'' J=>⟨_,H',J,q⟩
   | cont=>obtain⟨σ',H',I',q⟩:=z;exact TJ (SH I.ok I') hN hj hjl fun s'' J=>⟨_,H',J,q⟩
   | ret u=>obtain⟨v,σ',H',I',r,q⟩:=z;exact TJ (SH I.ok I') hN hj hjl fun s'' J=>⟨v,_,H',J,r,q⟩
 . obtain⟨v,H3,I3,rv2,kb,X3,S3,R3⟩:=z;refine NA I3 hN hi (.inl hil) (v:=v) rv2 (fun s6 I6=>?_)<|.inr hil;refine CC<|CC ⟨_,_,I6,?_⟩;have e7:f=.nx (ρ.set i<|some d)/\st'=s2:=by
     split at e4
     . exact absurd R3.1<|by decide
     . cases e4
     . cases e4;exact⟨rfl,rfl⟩
   obtain⟨rfl,rfl⟩:=e7;have w2:=(w.on X2 S2).on X3 S3;exact w2 _ _ [] Ext.refl S3.nil (by rw[Al];exact ((En.ext S X2).ext S2 X3).set i R3)
end
section
variable {a b:Addr} {oa ob:Obj} {es es':Array DictEntry} {ep ep':Nat}
def lY{Q:Qqa}(sa:(a==sysModules)=false)(sb:(b==sysModules)=false)(ga:s.heap.get? a=some oa)(ea:oa.ExactDict)(da:oa.data=.dict es ep)(gb:s.heap.get? b=some ob)(eb:ob.ExactDict)(db:ob.data=.dict es' ep')(ne:es.size≠es'.size)(hu:A.units < cLine)(h:Q (.bool true) s) :
   wpAny (KB prog w) A (Re .NotEq (.ref a)<|.ref b) Q E s:=by
 have ta:s.TypeIs (.ref a) "dict":=⟨oa,ga,ea.1⟩
 have tb:s.TypeIs (.ref b) "dict":=⟨ob,gb,eb.1⟩
 refine wpAny_richCompare_same_room (op:=.NotEq) ta tb F.slot_dict_ne (AO F.slot_dict_ne ta F.entry_dict_ne ?_<|F.args_dict_ne_2 _ _) hu;show wpAny _ _ (El "__ne__" ⟨[.ref a,.ref b],[]⟩ >>= _) _ _ s;unfold El;refine Aa<|Aa<|CO ta<|Ab ?_;refine Aa (CT (T:="dict") tb F.sub_dict_dict ?_);simp only[G9,Bd,if_false];refine Aa<|Ab<|Aa<|Ab<|Aa ?_;unfold Builtin.Dict.samePairs DE;rw[if_neg (by rw[sa];decide),if_neg (by rw[sb];decide)];refine Aa<|Ab<|Aa<|Ab<|Aa<|CK ga da ?_;dsimp only;refine Aa<|CK gb db ?_;rw[if_pos (by simpa using ne)];exact Aa<|BY<|Ab<|Ab ⟨_,rfl,(by intro z;cases z),by simpa using h⟩
end
def PD:G2:=fun x y st=>match x,y with
 | .ref a,.ref b=>match st[a]?,st[b]? with
   | some (.dt kvs),some (.dk [])=>some (.bl (!kvs.isEmpty),st)
   | some (.dt kvs),some (.dt [])=>some (.bl (!kvs.isEmpty),st)
   | _,_=>none
 | _,_=>none
def Yo{q:Addr}{ps:List (List Key×V)}{kvs:List (List Key×D)}{Q:VK}(hu:X.A.units < cLine)(I:Inv X qp σ H s)(hp:H p=some (.dT ps))(r:KR (List Key) X.K H io ps kvs)(hq:H q=some (.dT [])\/H q=some (.dK []))(k:Q (.bl<|!kvs.isEmpty) H) :
   wpAny (KB X.prog X.w) X.A (Re .NotEq (.ref p)<|.ref q) (EP X qp σ Q) X.xe s:=by
 have hl:ps.length=kvs.length:=By r;obtain⟨z1,m1,xs,P1,o1,es1,ep1,g1,x1,d1,l1,n1⟩:=I.hok p _ hp;have hs1:es1.size=kvs.length:=by rw[<-hl,P1.length,<-AK,l1,Af]
 have q2:∃ o2 ep2,s.heap.get? q=some o2/\o2.ExactDict/\o2.data=.dict #[] ep2/\(q==sysModules)=false:=by
   rcases hq with hq | hq
   . obtain⟨_,m2,ys,P2,o2,es2,ep2,g2,x2,d2,l2,_⟩:=I.hok q _ hq;cases P2;have:es2=#[]:=Array.toList_inj.mp (by rw[l2];rfl);subst this;exact⟨o2,ep2,g2,x2,d2,m2⟩
   obtain⟨_,m2,vs,P2,o2,es2,ep2,g2,x2,d2,_,l2,_⟩:=I.hok q _ hq;cases P2;have hl2:=l2.length;have:es2=#[]:=Array.toList_inj.mp<|B4 (by rw[hl2];rfl);subst this;exact⟨o2,ep2,g2,x2,d2,m2⟩
 obtain⟨o2,ep2,g2,x2,d2,m2⟩:=q2
 cases kvs with
 | cons kv kvs=>exact lY m1 m2 g1 x1 d1 g2 x2 d2 (by rw[hs1];simp) hu ⟨.bl true,H,I,rfl,k⟩
 | nil =>
   have:es1=#[]:=Array.toList_inj.mp<|B4 (by rw[AK,hs1];rfl);subst this;have e1:s.heap.DictOf (IS X.prog X.w) p []:=⟨o1,#[],ep1,g1,x1,d1,fun e he=>absurd he (by simp),.nil,Dl⟩
   have e2:s.heap.DictOf (IS X.prog X.w) q []:=⟨o2,#[],ep2,g2,x2,d2,fun e he=>absurd he (by simp),.nil,Dl⟩
   exact keq_ne (r:=true) m1 m2 e1 e2 hu (fun _=>.nil) ⟨.bl false,H,I,rfl,k⟩
def kO(hu:X.A.units+100 < cLine):IZ X (Re .NotEq) PD:=by
 rintro qp s σ H x y v u Q I rx ry ⟨dx,dy,st,io,d,st',Rx,Ry,S,e,k⟩;unfold PD at e
 split at e
 . rename_i a b;obtain⟨p,rfl,hp⟩:=Rx;obtain⟨q,rfl,hq⟩:=Ry;cases rx;cases ry
   split at e
   . rename_i kvs e1 e2;cases e;obtain⟨ps,h1,r1⟩:=S.ob a p _ hp e1;obtain⟨qs,h2,r2⟩:=S.ob b q _ hq e2;cases r2;exact Yo (by omega) I h1 r1 (.inr h2)<|k.now S rfl
   . rename_i kvs e1 e2;cases e;obtain⟨ps,h1,r1⟩:=S.ob a p _ hp e1;obtain⟨qs,h2,r2⟩:=S.ob b q _ hq e2;cases r2;exact Yo (by omega) I h1 r1 (.inl h2)<|k.now S rfl
   . cases e
 . cases e
end L2.MP
namespace L2.MP.Hb
open PySem L2.MP
end L2.MP.Hb
namespace L2.MP
open PySem
def aJ{f:D->Option PyData}(hf:∀ x:Int,f (.int x)=some (.int x)):∀ as:List Int,JQ f (as.map D.int)=some (as.map Hv)
 | []=>rfl
 | x::as=>by rw[Ax,JQ,hf x,Ae,aJ hf as];rfl
def VZ{n:Nat}{st:HB}{k:Nat}{as:List Int}(hk:st[k]?=some (.lst<|as.map D.int)):IT (n+2) st (.ref k)=some (.list<|as.map Hv):=by rw[IT];simp only[Ik,hk,Ae];rw[aJ (fun x=>by rw[IT])];rfl
def Ze{st:HB}{f g:Nat}{as:List Int}(hf:st[f]?=some (.lst<|as.map D.int))(hg:st[g]?=some (.lst [])):Kk (.ref f) (.ref g) st=some (.bl (!as.isEmpty),st):=by
 unfold Kk;rw[VZ (n:=98) hf,VZ (n:=98) (as:=[]) hg]
 cases as <;> rfl
end L2.MP
namespace L2.MP.Hb
open PySem L2.MP
structure HW(n q:Nat)(st st':HB):Prop where
 len:st.length<=st'.length
 old:∀ k,k < st.length->k≠n->k≠q->st'[k]?=st[k]?
def HW.refl(n q:Nat)(st:HB):HW n q st st:=⟨Ag _,fun _ _ _ _=>rfl⟩
variable {n q:Nat}{a b:HB}
def HW.trans{n q:Nat}{a b c:HB}(h:HW n q a b)(h':HW n q b c):HW n q a c:=⟨Az h.len h'.len,fun k hk n1 n2=>(h'.old k (Av hk h.len) n1 n2).trans (h.old k hk n1 n2)⟩
def HW.app(n q:Nat)(st:HB)(l:List O):HW n q st (st++l):=⟨by simp,fun k hk _ _=>Ai hk⟩
def HW.setN(n q:Nat)(st:HB)(o:O):HW n q st (st.set n o):=⟨by simp,fun k _ h1 h2=>by rw[As (fun h=>h1 h.symm)]⟩
def HW.setQ(n q:Nat)(st:HB)(o:O):HW n q st (st.set q o):=⟨by simp,fun k _ h1 h2=>by rw[As (fun h=>h2 h.symm)]⟩
def HW.of(h:Gr a b):HW n q a b:=⟨h.len,fun k hk _ _=>h.old k hk⟩
def qK(ns:List Int)(lo hi:Option Int):∃ ms:List Int,cutD (ns.map D.int) lo hi=ms.map D.int/\ms.length<=ns.length:=by unfold cutD;refine⟨(ns.drop<|HT.Ih (ns.map D.int).length 0 lo).take<|HT.Ih (ns.map D.int).length (ns.map D.int).length hi - HT.Ih (ns.map D.int).length 0 lo,by simp,?_⟩;rw[Bv,Et];omega
variable {st:HB}
def kD{ds:List D}{lo hi:Option Int}:My (.kl ds) lo hi st=some (.ref st.length,st++[.lst (cutD ds lo hi)]):=by simp[My,UC,Pt,UB,Xj,KN]
noncomputable abbrev NP (c:Nat):D:=.str ⟨#[c]⟩
def len_str{z:Str}(h:z.cps.toList.length<=1000):HX [.str z] st=some (.int (z.cps.toList.length:Int),st):=by have hf:fits z.length=true:=Ll (by rw[len_list];omega);unfold HX;dsimp only;rw[if_pos hf,len_list]
end L2.MP.Hb
namespace L2.MP.Hd
open PySem L2.MP
def dG:MS:=mS (HL (mB HE (mV 0)<|mK<|.int 0)<|HG 1)<|mS (HL (mB HE (mV 0)<|mK<|.int 1)<|HG 2)<|mR<|mU<|Hz (mU<|Hz (mV 1)<|Hz (mB HP (mV 2)<|mK<|.int 1)<|mZ)<|Hz (mU<|Hz (mB HP (mV 1)<|mK<|.int 1)<|Hz (mV 2)<|mZ)<|Hz (mU<|Hz (mV 1)<|Hz (mB LU (mV 2)<|mK<|.int 1)<|mZ)<|Hz (mU<|Hz (mB LU (mV 1)<|mK<|.int 1)<|Hz (mV 2)<|mZ)<|mZ
def T9:GN:=Jc 3 dG
def T5:MS:=mS (HL (mB HE (mB HE (mV 0)<|mK<|.int 0)<|mK<|.int 2)<|HG 2) (mS (IY (mT<|JY KC Ks (mK<|.int 0) (mV 1)<|HM HX<|Hz (mV 2)<|mZ) (mR<|J0 (mB HE (mV 2)<|mV 1) (Lc<|mK<|.int 1)<|Lb)<|Je)<|mR<|mU<|Hz (mK<|.str "")<|Hz (mK<|.str "")<|Hz (mK<|.str "")<|Hz (mK<|.str "")<|mZ)
def Pm:GN:=Jc 3 T5
def Uy:MS:=JR (mV 1) (mU<|Hz (mV 2)<|Hz (mV 3)<|mZ)<|mV 4
def dJ:MS:=mS (HL (Nq true)<|HG 1)<|mS (mF (KU<|mV 0) (Js 3<|gC (HG 2)<|gC (HG 3)<|gC (HG 4)<|Jt)<|Uy)<|mR<|mV 1
def WU:GN:=Jc 5 dJ
def Po:MS:=IY (mT<|mB Nk (mV 5)<|mV 1) (Jr<|JL (mV 3)<|Hz (mB HE (HM Pm<|Hz (mV 0)<|Hz (mB HE (mV 1)<|mV 5)<|mZ)<|mB IA (mB HP (mV 4)<|mK<|.int 2)<|mK<|.int 4)<|mZ) (Jr<|JL (mV 3)<|Hz (mK<|.str "")<|mZ)
def dO:MS:=mS (HL (mL<|mZ)<|HG 3)<|mS (mF (LO<|HM T9<|Hz (mV 2)<|mZ) (Js 2<|gC (HG 4)<|gC (HG 5)<|Jt)<|Po)<|mR<|mV 3
def Uj:GN:=Jc 6 dO
def Rq:ME:=mB HE (mV 2)<|mV 0
def Rr:MT:=M6 (mT<|mB Ku (mV 0)<|mV 1) (mT<|mB Kk (mV 0)<|mK<|.str "")
def dU:MS:=mR<|HM Mw<|Hz (Jv (MF (mV 1)<|mV 2) 2 [0] (Js 2<|gC (HG 0)<|gC (HG 1)<|Jt) Rr<|Rq)<|mZ
def Ur:GN:=Jc 3 dU
def Rt:ME:=mU<|Hz (mU<|Hz (mV 0)<|Hz (mV 1)<|mZ)<|Hz (mV 2)<|mZ
def cQ:MS:=mR<|HM Qe<|Hz (Jv (KU<|mV 0) 3 [] (Js 3<|gC (HG 0)<|gC (HG 1)<|gC (HG 2)<|Jt) JH<|Rt)<|mZ
def cR:GN:=Jc 1 cQ
end L2.MP.Hd
namespace L2.MP
open PySem
@[simp] theorem ztj(n:Nat)(ds:List D):NT n ds=ds.map some++BD (n - ds.length) none:=rfl
@[simp] theorem zsg(ρ:Ie)(n:Nat)(l:List Nat):JJ ρ n l=BD n none++l.map fun (j:Nat)=>(ρ[j]?).join:=rfl
variable {a b:Int}{st:HB}
@[simp] theorem ztH:Ks (.int a) (.int b) st=some (.bl (decide (a < b)),st):=rfl
@[simp] theorem ztI:KC (.int a) (.int b) st=some (.bl (decide (a<=b)),st):=rfl
@[simp] theorem ztL:Mh (.int a) (.int b) st=some (.bl (decide (b < a)),st):=rfl
@[simp] theorem ztM:N5 (.int a) (.int b) st=some (.bl (decide (b<=a)),st):=rfl
@[simp] theorem ztK:RZ [.int a] st=some (.int a,st):=rfl
@[simp] theorem ztJ{b:Bool}:RZ [.bl b] st=some (.int (if b then 1 else 0),st):=rfl
end L2.MP
namespace L2.MP.Hd
open PySem L2.MP
variable {st:HB}
def Yn{a b:Int}(h:0 < b):IA (.int a) (.int b) st=some (.int (a % b),st):=by simp[IA,intD,h]
variable {m:ME}{ρ:Ie}
theorem QO{c:MT}{n:ME}:MH c m n ρ st=(c ρ st).bind fun p=>if p.1=true then m ρ p.2 else n ρ p.2:=rfl
open L2.MP.Hb (NP)
structure Iz(x:Str):Prop where
 len:x.cps.toList.length<=8
 ab:∀ c∈x.cps.toList,48<=c/\c<=122
def Om{x:Str}(h:∀ c∈x.cps.toList,48<=c/\c<=122):BC x=true:=by unfold BC;rw[Array.all_eq_true'];intro c hc;have:=h c (by simpa using hc);simp;omega
def NG:Iz "":=⟨by decide,by decide⟩
variable {k:Nat}
def Va(e:m ρ st=some (.int (k:Int),st))(hk:k<=1000):JF m ρ st=some (⟨run 0 k,[]⟩,st):=by have sm:small (k:Int)=true:=aF (by omega) (by omega);rw[Yd,e,Ae];simp only[sm,if_true];rw[Bb]
def OY{s1:HB}{M:Int}(hM:M=(k:Int))(e:m ρ st=some (.int M,s1))(hk:k<=1000):JF m ρ st=some (⟨run 0 k,[]⟩,s1):=by have sm:small M=true:=aF (by omega) (by omega);rw[Yd,e,Ae];simp only[sm,if_true];rw[hM,Bb]
def run_map(k:Nat):run 0 k=(Bo k).map fun (i:Nat)=>D.int (i:Int):=by unfold run;apply C4;intro i _;rw[F0]
def OZ{j:Nat}{d:D}(h:(run 0 j)[k]?=some d):k < j/\d=.int (k:Int):=by have hk:=qax h;rw[KP] at hk;rw[run_map,AD,C1 hk] at h;exact⟨hk,by cases h;rfl⟩
structure MZ(ss:List Str)(k:List Str):Prop where
 ex:∃ f ds,k=f::ds/\Iz f/\ds.length=4/\∀ x∈ds,Iz x/\(x=""\/x∈ss)
def OV(e:Int)(stk:List (Str×Int))(ks:List (List Str)):D:=.tup [.int e,.tup (stk.map Ko),.tup (ks.map Jl)]
structure L7(e:Int)(stk:List (Str×Int))(ks:List (List Str)):Prop where
 e0:1<=e
 e1:e<=4
 sl:stk.length<=8
 nm:∀ p∈stk,Iz p.1/\1<=p.2/\p.2<=4
 lo:1<=ks.length
 hi:ks.length<=13
 kd:∀ k∈ks,MZ (stk.map (·.1)) k
end L2.MP.Hd
namespace L2.MP.Hd
open PySem L2.MP
open L2.MP.Hn (Jm Wz Ji Pp)
def Kw(w h kn:Int)(t:Tl):Prop:=0<=t.1/\t.1 < w/\0<=t.2.1/\t.2.1 < h/\0<=t.2.2/\t.2.2 < kn
def YR:∀ {l:List Tl} {t:Tl},IC l->t∈l->Ir (l.map HF) (HF t).1=some (.int t.2.2)
 | [],t,_,h=>by cases h
 | u::l,t,nd,h=>by
   have nd':(∀ b∈l,JI u b=false)/\IC l:=List.pairwise_cons.mp nd;unfold Ir;rw[Ax,Ba,QY]
   rcases M2.mp h with rfl | h
   . have:JI t t=true:=by unfold JI;simp
     rw[this];rfl
   rw[nd'.1 t h];exact YR nd'.2 h
def HZ(e:Int)(stk:List (Str×Int))(ks:List (List Str))(w h:Int)(sd:List Tl):D:=.tup [OV e stk ks,.tup [.int w,.int h],Jm sd]
end L2.MP.Hd
namespace L2.MP.Hd
open PySem L2.MP
open L2.MP.Hn (Jm)
variable {x y:Int}{d:Nat}{kvs:List (List Key×D)}{st:HB}
def Yk(h:st[d]?=some (.dt kvs)):Nk (.tup [.int x,.int y]) (.ref d) st=some (.bl (Ir kvs [.inl x,.inl y]).isSome,st):=by
 have e0:IT 50 st (.ref d)=none:=by rw[IT];simp[Ik,h]
 have e1:inD false (.tup [.int x,.int y]) (.ref d) st=none:=by
   unfold inD;rw[e0]
   cases IT 50 st (.tup [.int x,.int y]) <;> rfl
 have e2:MM (.tup [.int x,.int y]) (.ref d) st=none:=rfl;unfold Nk JX;rw[show LH (inD false (.tup [.int x,.int y]) (.ref d) st) (MM (.tup [.int x,.int y]) (.ref d) st)=none by rw[e1,e2];rfl,KN];simp[N8,look,h,keysOf,keyOf]
variable {v:D}
def Yl(h:st[d]?=some (.dt kvs))(hv:Ir kvs [.inl x,.inl y]=some v):HE (.ref d) (.tup [.int x,.int y]) st=some (v,st):=by
 have e1:JT (.ref d) (.tup [.int x,.int y]) st=none:=by simp[JT,Ik,h]
 unfold HE JX;rw[e1,KN];simp[U0,look,h,keysOf,keyOf,hv]
variable {a b:Str}
def eq_str(ha:BC a=true)(hb:BC b=true):Ku (.str a) (.str b) st=some (.bl (a==b),st):=by unfold Ku;rw[Q6 ha,Q6 hb];simp[DK]
def ne_str(ha:BC a=true)(hb:BC b=true):Kk (.str a) (.str b) st=some (.bl (a != b),st):=by unfold Kk;rw[Q6 ha,Q6 hb];simp[DK,bne]
def Lr(ts:List Tl):List Tl:=ts.foldl IE []
def ZU:∀ (ts acc:List Tl),Oq (acc.map HF) (ts.map HF)=(ts.foldl IE acc).map HF
 | [],acc=>rfl
 | t::ts,acc=>by show Oq (putD (acc.map HF) (HF t).1 (HF t).2) (ts.map HF)=_;rw[Zx];exact ZU ts<|IE acc t
def ZK:∀ (ts acc:List Tl),(ts.foldl IE acc).length<=acc.length+ts.length
 | [],acc=>by simp
 | t::ts,acc=>by have h1:=ZK ts<|IE acc t;have h2:=VU acc t;simp only[GO,AC];omega
def Jb(P:List Tl)(x y:Int):Option Int:=(P.find? fun t=>decide (t.1=x)&&decide (t.2.1=y)).map fun t=>t.2.2
def O7(x y:Int):∀ P:List Tl,Ir (P.map HF) [.inl x,.inl y]=(Jb P x y).map D.int
 | []=>rfl
 | t::P=>by
   have ih:=O7 x y P;have hk:decide ((HF t).1=[CY x,CY y])=(decide (t.1=x)&&decide (t.2.1=y)):=QY t (x,y,0);unfold Ir Jb at *;rw[Ax,Ba,Ba,hk]
   cases decide (t.1=x)&&decide (t.2.1=y) with
   | true=>rfl
   | false=>exact ih
variable {P:List Tl}{k:Int}
def TH{P:List Tl}(h:Jb P x y=some k):∃ t∈P,t.2.2=k:=by unfold Jb at h;obtain⟨t,e,h⟩:=Ip h;exact⟨t,List.mem_of_find?_eq_some e,h⟩
variable {t:Tl}{s:HB}
theorem iS:Rt [some (.int t.1),some (.int t.2.1),some (.int t.2.2)] s=some (.tup [.tup [.int t.1,.int t.2.1],.int t.2.2],s):=rfl
def YC:∀ ts:List Tl,O6 (ts.map fun t=>.tup [.tup [.int t.1,.int t.2.1],.int t.2.2])=some (ts.map HF)
 | []=>rfl
 | t::ts=>by have ih:=YC ts;rw[Ax,O6,ih];rfl
theorem uT{a b c:Option D}{r:Ie}:Js 3 (gC (HG 0)<|gC (HG 1)<|gC (HG 2)<|Jt) (Il<|ID t) (a::b::c::r) st=some (some (.int t.1)::some (.int t.2.1)::some (.int t.2.2)::r,st):=rfl
def aQ{ts:List Tl}(hl:ts.length<=1000):∃ (l:Nat) (st':HB),Y4 (cR [Jm ts] st=some (.ref l,st')) (st'[l]?=some (.dt<|(Lr ts).map HF)) (st.length<=l) (Gr st st'):=by
 have ec:Kd ⟨ts.map fun t=>Il (ID t),[]⟩ (Js 3<|gC (HG 0)<|gC (HG 1)<|gC (HG 2)<|Jt) JH Rt (ts.map fun t=>Il (ID t)) [none,none,none] st=some (ts.map fun t=>.tup [.tup [.int t.1,.int t.2.1],.int t.2.2],st):=by
   have:∀ W:Wk,walked W st=true->Kd W (Js 3<|gC (HG 0)<|gC (HG 1)<|gC (HG 2)<|Jt) JH Rt (ts.map fun t=>Il (ID t)) [none,none,none] st=some (ts.map fun t=>.tup [.tup [.int t.1,.int t.2.1],.int t.2.2],st):=by intro W hW;refine SV (R:=fun ρ=>∃ x y z,ρ=[x,y,z]) ⟨none,none,none,rfl⟩ hW fun t ht ρ hρ=>?_;obtain⟨x,y,z,rfl⟩:=hρ;exact⟨_,uT,rfl,iS,_,_,_,rfl⟩
   exact this _ rfl
 have fl:fits (ts.map fun t=>D.tup [.tup [.int t.1,.int t.2.1],.int t.2.2]).length=true:=Ll (by rw[Af];omega);have a1:=IK st<|.lst<|ts.map fun t=>.tup [.tup [.int t.1,.int t.2.1],.int t.2.2];have fk:fits (ts.map HF).length=true:=Ll (by rw[Af];omega);have g1:=Gr.app st [.lst (ts.map fun t=>.tup [.tup [.int t.1,.int t.2.1],.int t.2.2])];generalize hs1:st++[O.lst (ts.map fun t=>.tup [.tup [.int t.1,.int t.2.1],.int t.2.2])]=s1 at a1 g1;have ed:Qe [.ref st.length] s1=some (.ref s1.length,s1++[.dt ((Lr ts).map HF)]):=by unfold Qe;have hm:Oq [] (ts.map HF)=(Lr ts).map HF:=ZU ts [];simp only[Ik,a1,Ae,YC,fk,if_true,hm]
 refine⟨s1.length,s1++[.dt ((Lr ts).map HF)],Jk ?_,IK _ _,g1.len,g1.trans<|Gr.app _ _⟩;unfold cQ Jm;generalize (ts.map fun t=>Il (ID t))=T at *;generalize (ts.map fun t=>D.tup [.tup [.int t.1,.int t.2.1],.int t.2.2])=A at *;have ecm:Jv (KU<|mV 0) 3 [] (Js 3<|gC (HG 0)<|gC (HG 1)<|gC (HG 2)<|Jt) JH Rt (NT 1 [.tup T]) st=some (.ref st.length,s1):=by
   have:KU (mV 0) (NT 1 [.tup T]) st=some (⟨T,[]⟩,st):=by simp[Nv]
   rw[Qm,this];simp only[Ae];rw[show JJ (NT 1 [.tup T]) 3 []=[none,none,none] from rfl,ec];simp only[Ae,fl,if_true,hs1]
 simp at ecm ⊢;simp[ecm,ed]
def jL{n:Nat}{T:D}{s':HB}(ed:dput s n (.tup [.int x,.int y]) (.int k)=some s'):Uy [some T,some (.ref n),some (.int x),some (.int y),some (.int k)] s=some (.nx [some T,some (.ref n),some (.int x),some (.int y),some (.int k)],s'):=by
 unfold Uy;rw[OU];have c1:HL (mV 4) (N6 IX (mV 1)<|mU<|Hz (mV 2)<|Hz (mV 3)<|mZ) [some T,some (.ref n),some (.int x),some (.int y),some (.int k)] s=none:=by simp[IX]
 rw[c1,KN];unfold Nr;simp[ed]
def iL{ts:List Tl}(hl:ts.length<=500):∃ (st':HB),Y3 (WU [Jm ts] st=some (.ref st.length,st')) (st'[st.length]?=some (.dt<|(Lr ts).map HF)) (Gr st st'):=by
 have key:=LR (W:=⟨ts.map fun t=>Il (ID t),[]⟩) (g:=Js 3 (gC (HG 2)<|gC (HG 3)<|gC (HG 4)<|Jt)) (m:=Uy) (ds:=ts.map fun t=>Il (ID t)) (ρ:=[some (Jm ts),some (.ref st.length),none,none,none]) (st:=st++[.dt []])
   (Inv:=fun k ρ s=>Y3 ((∃ a b c,ρ=[some (Jm ts),some (.ref st.length),a,b,c])) (s[st.length]?=some (.dt<|((ts.take k).foldl IE []).map HF)) (Gr st s))
   ⟨⟨_,_,_,rfl⟩,IK _ _,Gr.app _ _⟩ (fun _ _ _ _ _=>rfl) (fun k d ρ s hd hI=>by
     obtain⟨⟨a,b,c,rfl⟩,hat,hg⟩:=hI;rw[AD] at hd;obtain⟨t,ht,rfl⟩:=Ip hd;have hl2:((ts.take k).foldl IE []).length<=1000:=by have:=ZK (ts.take k) [];rw[Bv,Bf] at this;omega
     have ed:=O9 (x:=t.1) (y:=t.2.1) (k:=t.2.2) hat hl2;refine⟨[some (Jm ts),some (.ref st.length),some (.int t.1),some (.int t.2.1),some (.int t.2.2)],s,_,_,rfl,jL ed,⟨_,_,_,rfl⟩,?_,?_⟩
     . rw[AF (qax hat),Ds,ht,Gc];rfl
     exact⟨by rw[BZ];exact hg.len,fun j hj=>by rw[As (by omega)];exact hg.old j hj⟩)
 obtain⟨ρ',s',el,⟨a,b,c,rfl⟩,hat,hg⟩:=key;rw[Af,Ct] at hat;refine⟨s',Jk ?_,hat,hg⟩;unfold dJ;refine HU (ρ1:=[some (Jm ts),some (.ref st.length),none,none,none]) (s1:=st++[.dt []]) (by simp) ?_;refine HU (ρ1:=[some (Jm ts),some (.ref st.length),a,b,c]) (s1:=s') (by
   have:KU (mV 0) [some (Jm ts),some (.ref st.length),none,none,none] (st++[.dt []])=some (⟨ts.map fun t=>Il (ID t),[]⟩,st++[.dt []]):=by unfold Jm;simp[Nv]
   rw[Ld,this];exact el) ?_
 simp
def Lg(ks:List (List Str))(k:Int):List Str:=(ks.getD k.toNat []).tail
structure K9(bed:D)(stk:List (Str×Int))(ks:List (List Str)):Prop where
 h:∃ hs:D,(∀ s:HB,HE bed (.int 0) s=some (hs,s))/\(∀ s:HB,HE hs (.int 1) s=some (.tup (stk.map Ko),s))/\∀ s:HB,HE hs (.int 2) s=some (.tup (ks.map Jl),s)
structure L6(ss:List Str)(ks:List (List Str)):Prop where
 hi:ks.length<=100
 kd:∀ k∈ks,MZ ss k
variable {ss:List Str}{ks:List (List Str)}
def Pb(h:L6 ss ks)(h0:0<=k)(h1:k < (ks.length:Int)):∃ f a b c d:Str,Y3 (ks[k.toNat]?=some [f,a,b,c,d]) (Lg ks k=[a,b,c,d]) (∀ x∈[a,b,c,d],Iz x/\(x=""\/x∈ss)):=by
 have hk:k.toNat < ks.length:=by omega
 obtain⟨f,ds,e,hf,hl,hok⟩:=(h.kd _<|BI hk).ex;have e':ks[k.toNat]?=some (f::ds):=by rw[Ah hk,e]
 have es:Lg ks k=ds:=by unfold Lg;rw[Ay,e'];rfl
 match ds,hl,hok,e',es with
 | [a,b,c,d],_,hok,e',es=>exact⟨f,a,b,c,d,e',es,hok⟩
variable {bed sl:D}
def vG{hs KK kd:D}{K:Int}(i0:HE bed (.int 0) st=some (hs,st))(i2:HE hs (.int 2) st=some (KK,st))(el:HX [KK] st=some (.int K,st))(h0:0<=k)(h1:k < K)(ik:HE KK (.int k) st=some (kd,st))(es:My kd (some 1) none st=some (sl,st)):T5 [some bed,some (.int k),none] st=some (.rt sl,st):=by
 unfold T5;refine HU (ρ1:=[some bed,some (.int k),some KK]) (s1:=st) (by simp[i0,i2])<|Mp ?_;have et:mT (JY KC Ks (mK<|.int 0) (mV 1)<|HM HX<|Hz (mV 2)<|mZ) [some bed,some (.int k),some KK] st=some (true,st):=by rw[QQ];unfold JY;simp[el,h0,h1]
 rw[Nt,et];simp[ik,es]
variable {stk:List (Str×Int)}
def cG(hb:K9 bed stk ks)(h:L6 ss ks)(h0:0<=k)(h1:k < (ks.length:Int)):Pm [bed,.int k] st=some (.tup ((Lg ks k).map D.str),st):=by obtain⟨hs,i0,_,i2⟩:=hb.h;obtain⟨f,a,b,c,d,e,es,_⟩:=Pb h h0 h1;rw[es];refine Jk<|vG (i0 st) (i2 st) Oz h0 (by rw[Af];exact h1) (Jh h0 (by rw[AD,e];rfl)) ?_;rfl
def wB:T9 [.tup [.int x,.int y]] st=some (.tup [.tup [.int x,.int (y+1)],.tup [.int (x+1),.int y],.tup [.int x,.int (y - 1)],.tup [.int (x - 1),.int y]],st):=by have i0:HE (.tup [.int x,.int y]) (.int 0) st=some (.int x,st):=Jh (by decide) rfl;have i1:HE (.tup [.int x,.int y]) (.int 1) st=some (.int y,st):=Jh (by decide) rfl;refine Jk ?_;unfold dG;refine HU (ρ1:=[some (.tup [.int x,.int y]),some (.int x),none]) (s1:=st) (by simp[i0]) ?_;refine HU (ρ1:=[some (.tup [.int x,.int y]),some (.int x),some (.int y)]) (s1:=st) (by simp[i1]) ?_;simp
def Ni(ks:List (List Str))(P:List Tl)(p:Int×Int)(j:Nat):Str:=match Jb P p.1 p.2 with
 | some k=>(Lg ks k).getD j ""
 | none=>""
variable {pl nr:D}{l:Nat}{J I:Int}{L:List D}
def gV{L0:D}{y:D}(h1:Nk nr (.ref d) s=some (.bl true,s))(hl:s[l]?=some (.lst L))(hx:HE (.ref d) nr s=some (.int k,s))(hs:Pm [bed,.int k] s=some (sl,s))(hm:IA (.int<|J+2) (.int 4) s=some (.int I,s))(hy:HE sl (.int I) s=some (y,s))(ha:Nc (.ref l) [y] s=some (.non,s.set l (.lst<|L++[y]))) :
   Po [some bed,some (.ref d),some pl,some (.ref l),some (.int J),some nr] s=some (.nx [some bed,some (.ref d),some pl,some (.ref l),some (.int J),some nr],s.set l (.lst<|L++[y])):=by
 unfold Po;simp[h1,Ik,hl,hx,hs,hm,hy,ha]
def kQ(h1:Nk nr (.ref d) s=some (.bl false,s))(hl:s[l]?=some (.lst L))(ha:Nc (.ref l) [.str ""] s=some (.non,s.set l (.lst<|L++[.str ""]))) :
   Po [some bed,some (.ref d),some pl,some (.ref l),some (.int J),some nr] s=some (.nx [some bed,some (.ref d),some pl,some (.ref l),some (.int J),some nr],s.set l (.lst<|L++[.str ""])):=by
 unfold Po;simp[h1,Ik,hl,ha]
def Tu{P:List Tl}{a b:Int}{j:Nat}(hb:K9 bed stk ks)(h:L6 ss ks)(hP:∀ t∈P,0<=t.2.2/\t.2.2 < (ks.length:Int))(hd:s[d]?=some (.dt<|P.map HF))(hl:s[l]?=some (.lst L))(hL:L.length<=10)(hI:(J+2) % 4=I)(hj:I=(j:Int))(hj4:j < 4) :
   Po [some bed,some (.ref d),some pl,some (.ref l),some (.int J),some (.tup [.int a,.int b])] s=some (.nx [some bed,some (.ref d),some pl,some (.ref l),some (.int J),some (.tup [.int a,.int b])],s.set l (.lst<|L++[.str (Ni ks P (a,b) j)])):=by
 have hin:=Yk (x:=a) (y:=b) hd;have hv:=O7 a b P;unfold Ni
 cases hf:Jb P a b with
 | none =>
   rw[hf] at hv;rw[hv] at hin;exact kQ hin hl<|append_at hl<|by omega
 | some k =>
   rw[hf] at hv;have hv:Ir (P.map HF) [.inl a,.inl b]=some (.int k):=hv;rw[hv] at hin;obtain⟨t,ht,rfl⟩:=TH hf;obtain⟨k0,k1⟩:=hP t ht;obtain⟨f,x0,x1,x2,x3,e,es,_⟩:=Pb h k0 k1;refine gV (L0:=.non) hin hl (Yl hd hv) (cG hb h k0 k1) (by rw[Yn (by decide),hI]) (Jh (by omega) ?_) (append_at hl<|by omega);show ((Lg ks t.2.2).map D.str)[I.toNat]?=some (D.str<|(Lg ks t.2.2).getD j "");rw[es,hj,Bb]
   match j,hj4 with
   | 0,_=>rfl
   | 1,_=>rfl
   | 2,_=>rfl
   | 3,_=>rfl
def names4(ks:List (List Str))(P:List Tl)(x y:Int):List Str:=[Ni ks P (x,y+1) 2,Ni ks P (x+1,y) 3,Ni ks P (x,y - 1) 0,Ni ks P (x - 1,y) 1]
def VP{e:ME}{ρ:Ie}{ds:List D}(h:e ρ st=some (.tup ds,s)):LO e ρ st=some (⟨pairs ds,[]⟩,s):=by unfold LO;rw[h];rfl
def vL{P:List Tl}(hb:K9 bed stk ks)(h:L6 ss ks)(hP:∀ t∈P,0<=t.2.2/\t.2.2 < (ks.length:Int))(hd:st[d]?=some (.dt<|P.map HF)) :
   ∃ st',Y3 (Uj [bed,.ref d,.tup [.int x,.int y]] st=some (.ref st.length,st')) (st'[st.length]?=some (.lst<|(names4 ks P x y).map D.str)) (Gr st st'):=by
 have hdl:=qax hd;have key:=LR (W:=⟨pairs [.tup [.int x,.int (y+1)],.tup [.int (x+1),.int y],.tup [.int x,.int (y - 1)],.tup [.int (x - 1),.int y]],[]⟩) (g:=Js 2 (gC (HG 4)<|gC (HG 5)<|Jt)) (m:=Po) (ds:=[D.tup [.int 0,.tup [.int x,.int (y+1)]],.tup [.int 1,.tup [.int (x+1),.int y]],.tup [.int 2,.tup [.int x,.int (y - 1)]],.tup [.int 3,.tup [.int (x - 1),.int y]]]) (ρ:=[some bed,some (.ref d),some (.tup [.int x,.int y]),some (.ref st.length),none,none]) (st:=st++[.lst []])
   (Inv:=fun k ρ s=>Y3 ((∃ a b,ρ=[some bed,some (.ref d),some (.tup [.int x,.int y]),some (.ref st.length),a,b])) (s[st.length]?=some (.lst<|((names4 ks P x y).take k).map D.str)) (Gr st s))
   ⟨⟨_,_,rfl⟩,IK _ _,Gr.app _ _⟩ (fun _ _ _ _ _=>rfl) (fun k dd ρ s hdd hI=>by
     obtain⟨⟨u,v,rfl⟩,hat,hg⟩:=hI;have hd':=(hg.old _ hdl).trans hd;have hL:(((names4 ks P x y).take k).map D.str).length<=10:=by rw[Af,Bv];simp[names4];omega
     have gr:∀ o:O,Gr st (s.set st.length o):=fun o=>⟨by rw[BZ];exact hg.len,fun j hj=>by rw[As (by omega)];exact hg.old j hj⟩
     have at':∀ o:O,(s.set st.length o)[st.length]?=some o:=fun o=>AF<|qax hat
     match k,hdd with
     | 0,hdd =>
       cases hdd;exact⟨_,s,_,_,rfl,Tu (pl:=.tup [.int x,.int y]) (I:=2) (j:=2) hb h hP hd' hat hL (by decide) rfl<|by decide,⟨_,_,rfl⟩,at' _,gr _⟩
     | 1,hdd =>
       cases hdd;exact⟨_,s,_,_,rfl,Tu (pl:=.tup [.int x,.int y]) (I:=3) (j:=3) hb h hP hd' hat hL (by decide) rfl<|by decide,⟨_,_,rfl⟩,at' _,gr _⟩
     | 2,hdd =>
       cases hdd;exact⟨_,s,_,_,rfl,Tu (pl:=.tup [.int x,.int y]) (I:=0) (j:=0) hb h hP hd' hat hL (by decide) rfl<|by decide,⟨_,_,rfl⟩,at' _,gr _⟩
     | 3,hdd =>
       cases hdd;exact⟨_,s,_,_,rfl,Tu (pl:=.tup [.int x,.int y]) (I:=1) (j:=1) hb h hP hd' hat hL (by decide) rfl<|by decide,⟨_,_,rfl⟩,at' _,gr _⟩
     | k+4,hdd=>exact absurd hdd (by simp))
 obtain⟨ρ',s',el,⟨u,v,rfl⟩,hat,hg⟩:=key;refine⟨s',Jk ?_,hat,hg⟩;unfold dO;refine HU (ρ1:=[some bed,some (.ref d),some (.tup [.int x,.int y]),some (.ref st.length),none,none]) (s1:=st++[.lst []]) (by simp) ?_;refine HU (ρ1:=[some bed,some (.ref d),some (.tup [.int x,.int y]),some (.ref st.length),u,v]) (s1:=s') (by
   have ec:HM T9 (Hz (mV 2)<|mZ) [some bed,some (.ref d),some (.tup [.int x,.int y]),some (.ref st.length),none,none] (st++[.lst []])=some (.tup [.tup [.int x,.int (y+1)],.tup [.int (x+1),.int y],.tup [.int x,.int (y - 1)],.tup [.int (x - 1),.int y]],st++[.lst []]):=by have:=wB (x:=x) (y:=y) (st:=st++[.lst []]);simp[this]
   rw[Ld,VP ec];exact el) ?_
 simp
def tZ:BC ("":Str)=true:=by decide +kernel
def Xy{P:List Tl}(h:L6 ss ks)(hP:∀ t∈P,0<=t.2.2/\t.2.2 < (ks.length:Int))(p:Int×Int)(j:Nat):Iz (Ni ks P p j):=by
 unfold Ni
 split
 . rename_i k hf;obtain⟨t,ht,rfl⟩:=TH hf;obtain⟨k0,k1⟩:=hP t ht;obtain⟨f,a,b,c,d,e,es,hok⟩:=Pb h k0 k1;rw[es,Ay]
   cases hg:[a,b,c,d][j]? with
   | none=>exact NG
   | some x=>exact (hok x<|AI hg).1
 exact NG
def RS(p:Str×Int):Key×D:=(.inr p.1,.int p.2)
def KA(stk:List (Str×Int)):List (Key×D):=Oo []<|stk.map RS
def rG{κ:Type}[DecidableEq κ]:∀ (kvs:List (κ×D)) (k q:κ) (d:D),Ir (putD kvs k d) q=if q=k then some d else Ir kvs q:=by
 intro kvs k q d;unfold putD
 by_cases h:(kvs.any fun kv=>decide (kv.1=k))=true
 . rw[if_pos h]
   induction kvs with
   | nil=>simp at h
   | cons p r ih =>
     unfold Ir at *;rw[Ax,Ba,Ba]
     by_cases hp:p.1=k
     . simp only[hp,if_true]
       by_cases hq:q=k
       . simp[hq]
       . have:¬ k=q:=fun e=>hq e.symm;simp only[this,decide_false,hq,if_false];clear h ih
         induction r with
         | nil=>rfl
         | cons u r ih2 =>
           rw[Ax,Ba,Ba]
           by_cases hu:u.1=k
           . simp only[hu,if_true,this,decide_false];exact ih2
           . simp only[hu,if_false]
             by_cases huq:u.1=q
             . simp[huq]
             simp only[huq,decide_false];exact ih2
     . simp only[hp,if_false]
       by_cases hpq:p.1=q
       . have:¬ q=k:=fun e=>hp<|hpq.trans e;simp[hpq,this]
       simp only[hpq,decide_false];refine ih ?_;rw[CV] at h;simpa[hp] using h
 . rw[if_neg h];unfold Ir;rw[List.find?_append]
   by_cases hq:q=k
   . subst hq;have:kvs.find? (fun kv=>decide (kv.1=q))=none:=by
       rw[List.find?_eq_none];intro x hx hx2;exact h<|List.any_eq_true.mpr ⟨x,hx,hx2⟩
     simp[this]
   have:¬ k=q:=fun e=>hq e.symm;simp[hq,this]
def Xw(d:Option D):Prop:=∃ v:Int,d=some (.int v)/\1<=v/\v<=4
def aR{q:Str}:∀ {more:List (Str×Int)} {acc:List (Key×D)},(∀ p∈more,1<=p.2/\p.2<=4)->(Xw (Ir acc<|.inr q)\/q∈more.map (·.1))->Xw (Ir (Oo acc<|more.map RS)<|.inr q)
 | [],acc,_,h=>by
   rcases h with h | h
   . exact h
   . cases h
 | p::r,acc,hv,h=>by
   show Xw (Ir (Oo (putD acc (.inr p.1)<|.int p.2)<|r.map RS)<|.inr q);refine aR (fun u hu=>hv u (Ak _ hu)) ?_;rw[rG]
   by_cases e:q=p.1
   . subst e;rw[if_pos rfl];have:=hv p Ao;exact .inl ⟨p.2,rfl,this.1,this.2⟩
   . have e':¬ (DV q:Key)=.inr p.1:=fun z=>e (by injection z);rw[if_neg e']
     rcases h with h | h
     . exact .inl h
     . rcases M2.mp h with h | h
       . exact absurd h e
       exact .inr h
def sv(stk:List (Str×Int))(a:Str):Int:=match Ir (KA stk) (.inr a) with | some (.int v)=>v | _=>0
def U6{stk:List (Str×Int)}(h:∀ p∈stk,1<=p.2/\p.2<=4)(ha:a∈stk.map (·.1)):Ir (KA stk) (.inr a)=some (.int<|sv stk a)/\1<=sv stk a/\sv stk a<=4:=by
 obtain⟨v,e,h1,h2⟩:=aR (acc:=[]) h<|.inr ha;have e:Ir (KA stk) (.inr a)=some (.int v):=e;have:sv stk a=v:=by unfold sv;rw[e]
 rw[this];exact⟨e,h1,h2⟩
def Zv:∀ stk:List (Str×Int),P9 (stk.map Ko)=some (stk.map RS)
 | []=>rfl
 | p::r=>by have ih:=Zv r;rw[Ax,P9,ih];rfl
def YX(hl:stk.length<=1000):Qd [.tup (stk.map Ko)] st=some (.ref st.length,st++[.dk (KA stk)]):=by have fk:fits (stk.map RS).length=true:=Ll (by rw[Af];omega);have e1:Sl [.tup (stk.map Ko)] st=none:=rfl;unfold Qd OD;rw[e1,KN];unfold Sm;simp only[Zv,Ae,fk,if_true];rfl
def QJ{kvs:List (Key×D)}(h:st[d]?=some (.dk kvs))(hv:Ir kvs (.inr a)=some v):HE (.ref d) (.str a) st=some (v,st):=by
 have e1:JT (.ref d) (.str a) st=none:=by simp[JT,Ik,h]
 unfold HE JX;rw[e1,KN];simp[U0,look,h,keyOf,hv]
def Y2:∀ ns:List Int,QI (ns.map D.int)=some ns
 | []=>rfl
 | n::r=>by have ih:=Y2 r;rw[Ax,QI,ih];rfl
def nR{ns:List Int}(hl:st[l]?=some (.lst<|ns.map D.int))(h:∀ n∈ns,0<=n/\n<=100)(hn:ns.length<=100):Mw [.ref l] st=some (.int ns.sum,st):=by
 have h1:(ns.all Oy&&decide (ns.length<=100000))=true:=by rw[Ar];refine⟨List.all_eq_true.mpr fun n hn=>?_,decide_eq_true<|by omega⟩;have:=h n hn;unfold Oy;simp;omega
 unfold Mw;simp only[Ik,hl,Ae,Y2,h1,if_true]
def nK{K:Option D}(ha:BC a=true)(hb:BC b=true):Rr [some (.str a),some (.str b),K] s=some (a==b&&a != "",s):=by
 have e1:=eq_str (st:=s) ha hb;have e2:=ne_str (st:=s) ha tZ;unfold Rr
 cases h:a==b with
 | true=>simp[e1,e2,h]
 | false=>simp[e1,e2,h]
def kJ(h:HE (.ref d) (.str a) s=some (v,s)):Rq [some (.str a),some (.str b),some (.ref d)] s=some (v,s):=by unfold Rq;simp[h]
def Jq(S N:List Str):List (Str×Str):=(S.zip N).filter fun p=>p.1==p.2&&p.1 != ""
def cK{stk:List (Str×Int)}{S N:List Str}(hstk:∀ p∈stk,1<=p.2/\p.2<=4)(hS:S.length<=4)(oS:∀ x∈S,Iz x/\(x=""\/x∈stk.map (·.1)))(oN:∀ x∈N,BC x=true)(hd:st[d]?=some (.dk<|KA stk))(hl:st[l]?=some (.lst<|N.map D.str)) :
   ∃ st',Ur [.ref d,.tup (S.map D.str),.ref l] st=some (.int ((Jq S N).map fun p=>sv stk p.1).sum,st')/\Gr st st':=by
 have hz:pairD (S.map D.str) (N.map D.str)=(S.zip N).map fun p=>D.tup [.str p.1,.str p.2]:=by unfold pairD;rw[List.zip_map,Be];rfl
 have hmem:∀ p∈S.zip N,p.1∈S/\p.2∈N:=fun p hp=>by obtain⟨a,b⟩:=p;exact C5 hp
 have hw:walked ⟨(S.zip N).map fun p=>D.tup [.str p.1,.str p.2],[(l,N.map D.str)]⟩ st=true:=Rf hl;have ec:Kd ⟨(S.zip N).map fun p=>D.tup [.str p.1,.str p.2],[(l,N.map D.str)]⟩ (Js 2<|gC (HG 0)<|gC (HG 1)<|Jt) Rr Rq ((S.zip N).map fun p=>D.tup [.str p.1,.str p.2]) [none,none,some (.ref d)] st=some ((Jq S N).map fun p=>D.int (sv stk p.1),st):=by
   refine Z4 (R:=fun ρ=>∃ x y,ρ=[x,y,some (.ref d)]) ⟨none,none,rfl⟩ hw fun p hp ρ hρ=>?_;obtain⟨x,y,rfl⟩:=hρ;obtain⟨h1,h2⟩:=hmem p hp;refine⟨[some (.str p.1),some (.str p.2),some (.ref d)],rfl,nK (Om (oS _ h1).1.ab)<|oN _ h2,fun hc=>?_,_,_,rfl⟩;have hne:p.1≠"":=by rw[Ar] at hc;simpa using hc.2
   have hin:p.1∈stk.map (·.1):=by
     rcases (oS _ h1).2 with h | h
     . exact absurd h hne
     exact h
   exact kJ<|QJ hd (U6 hstk hin).1
 have hm:((Jq S N).map fun p=>D.int (sv stk p.1))=((Jq S N).map fun p=>sv stk p.1).map D.int:=by rw[Be];rfl
 rw[hm] at ec;have hlen:(Jq S N).length<=4:=by refine Az (List.length_filter_le _ _) ?_;rw[GK];omega
 have hall:∀ n∈(Jq S N).map (fun p=>sv stk p.1),0<=n/\n<=100:=fun n hn=>by
   obtain⟨p,hp,rfl⟩:=PP.mp hn;obtain⟨hp1,hc⟩:=List.mem_filter.mp hp;obtain⟨h1,h2⟩:=hmem p hp1;have hne:p.1≠"":=by rw[Ar] at hc;simpa using hc.2
   have hin:p.1∈stk.map (·.1):=by
     rcases (oS _ h1).2 with h | h
     . exact absurd h hne
     exact h
   have:=U6 hstk hin;omega
 have es:=nR (IK st<|.lst<|((Jq S N).map fun p=>sv stk p.1).map D.int) hall (by rw[Af];omega);have fl:fits (((Jq S N).map fun p=>sv stk p.1).map D.int).length=true:=Ll (by rw[Af,Af];omega);generalize ((Jq S N).map fun p=>sv stk p.1).sum=R at *;generalize ((Jq S N).map fun p=>sv stk p.1).map D.int=A at *;refine⟨st++[.lst A],Jk ?_,Gr.app _ _⟩;rw[<-hz] at ec;generalize S.map D.str=SS at *;generalize hNN:N.map D.str=NN at *;unfold dU;have ecm:Jv (MF (mV 1)<|mV 2) 2 [0] (Js 2<|gC (HG 0)<|gC (HG 1)<|Jt) Rr Rq [some (.ref d),some (.tup SS),some (.ref l)] st=some (.ref st.length,st++[.lst A]):=by
   have:MF (mV 1) (mV 2) [some (.ref d),some (.tup SS),some (.ref l)] st=some (⟨pairD SS NN,[(l,NN)]⟩,st):=by rw[iX];simp[Le,OS,LV,Ik,hl]
   rw[Qm,this];simp only[Ae];rw[show JJ [some (.ref d),some (.tup SS),some (.ref l)] 2 [0]=[none,none,some (.ref d)] from rfl,ec];simp only[Ae,fl,if_true]
 simp[ecm,es]
def fl(p:Nat->Bool)(k:Nat):List D:=((Bo k).filter p).map fun (i:Nat)=>D.int (i:Int)
def Zf{z:Str}:OE (.str z) (.str z) st=some (.bl false,st):=by unfold OE;simp
def Mg(p:Int×Int):D:=.tup [.int p.1,.int p.2]
end L2.MP.Hd
namespace L2.MP
open PySem
def pS{st:HB}{l:Nat}{z:Str}{ss:List Str}(hl:st[l]?=some (.lst<|ss.map D.str))(hb:(ss.map (·.length)).sum+ss.length*z.length<=16777216):P5 (.str z) [.ref l] st=some (.str (Txt.join z ss),st):=by unfold P5;simp only[Ik,hl,Ae];rw[cP];simp only[Ae];rw[if_pos (decide_eq_true hb)]
end L2.MP
namespace L2.MP.Ce
open PySem L2.MP
def eF{t:MT}{a:MS}{ρ:Ie}{st s1:HB}{b:Bool}(h:t ρ st=some (b,s1)):IY t a Je ρ st=if b=true then a ρ s1 else some (.nx ρ,s1):=by simp only[Nt,h,Ae,nP]
def Li{t:MT}{a:MS}{ρ:Ie}{st s1:HB}{r:Option (Fl×HB)}(h:t ρ st=some (true,s1))(k:a ρ s1=r):IY t a Je ρ st=r:=by rw[eF h,if_pos rfl];exact k
def Kg{t:MT}{a:MS}{ρ:Ie}{st s1:HB}(h:t ρ st=some (false,s1)):IY t a Je ρ st=some (.nx ρ,s1):=by rw[eF h,if_neg (by decide)]
theorem LW{s:HB}:NY (.int 1) s=some (.int (-1),s):=rfl
end L2.MP.Ce
namespace L2.MP.Hx
open PySem L2 L2.MP PySem.W PyProof.Rows
def VA{g:Addr->Option Obj}(a:Addr):∀ l:List Addr,(l.filterMap fun b=>(g b).map fun o=>(b,o)).lookup a=if a∈l then g a else none
 | []=>rfl
 | b::l=>by
   rw[C0]
   by_cases h:a=b
   . subst h;rw[if_pos Ao]
     cases hg:g a with
     | none =>
       simp only[EU];rw[VA a l,hg]
       split <;> rfl
     | some o=>simp only[A9,Bj,beq_self_eq_true]
   . have e:(a==b)=false:=beq_false_of_ne h;have e2:(if a∈b::l then g a else none)=if a∈l then g a else none:=by simp only[AW,h,false_or]
     rw[e2,<-VA a l]
     cases hg:g b with
     | none=>simp only[EU]
     | some o=>simp only[A9,Bj,e]
def bE(h:KM)(a:Addr):(Lq h).lookup a=h.get? a:=by
 unfold Lq;rw[VA]
 split
 . rfl
 . rename_i hn
   cases hg:h.get? a with
   | none=>rfl
   | some o=>exact absurd (List.mem_range.mpr<|Aj hg) hn
def mE(h:KM):(Lq h).In h:=fun a o e=>(bE h a).symm.trans e
def Si(K:Frag)(x:Str):Str ⊕ Int->Prop
 | .inl s=>∃ t,nsIn K mainGlobals x=some (some<|.str s t)
 | .inr i=>∃ t,nsIn K mainGlobals x=some (some<|.int i t)
variable {K:Frag}
def Y9{f:Addr}{oc:IR}{od:Option Addr}{fd:FuncData}{sl:Array (Option IR)}(h:K.lookup f=some ⟨oc,od,.func fd,sl⟩):keepIn K (.ref f)=true:=by unfold keepIn;dsimp only;rw[h]
variable {x:Str}
def eW{st:Wp}(e:XM (K.lookup ·) x=XN x st):∃ f,Oh K x st f:=by
 unfold XM XN at e
 cases hn:Qx (K.lookup ·) mainGlobals x with
 | none=>rw[hn] at e;cases e
 | some v =>
   cases v with
   | none=>rw[hn] at e;cases e
   | some v =>
     cases v with
     | ref f =>
       rw[hn] at e;dsimp only at e
       cases hg:K.lookup f with
       | none=>rw[hg] at e;cases e
       | some o =>
         rw[hg] at e;obtain⟨oc,od,da,sl⟩:=o
         cases da with
         | func fd =>
           dsimp only at e;obtain⟨a1,a2⟩:=Bi<|Ap e;obtain⟨n,q,p,b,sc,gl,cl,df,kd,dc,pm,an,cd,ct,bu⟩:=fd;cases a1;exact⟨f,eV hn hg a2<|Y9 hg⟩
         | _=>cases e
     | _=>rw[hn] at e;cases e
def eP{c:Str ⊕ Int}(e:XQ (Qx (K.lookup ·) mainGlobals x)=some c):Si K x c:=by
 unfold XQ at e
 cases hn:Qx (K.lookup ·) mainGlobals x with
 | none=>rw[hn] at e;cases e
 | some v =>
   cases v with
   | none=>rw[hn] at e;cases e
   | some v =>
     rw[hn] at e
     cases v with
     | str s t=>cases e;exact⟨t,hn⟩
     | int i t=>cases e;exact⟨t,hn⟩
     | _=>cases e
structure UM(K:Frag)(fns:List (Str×Wp))(bl:List Str)(co:List (Str×(Str ⊕ Int))):Prop where
 fn:∀ p∈fns,∃ f,Oh K p.1 p.2 f
 bl:∀ x∈bl,nsIn K mainGlobals x=some none
 co:∀ c∈co,Si K c.1 c.2
def QN{α β:Type}{f g:α->β}:∀ {l:List α},l.map f=l.map g->∀ a∈l,f a=g a
 | [],_,a,h=>by cases h
 | b::l,e,a,h=>by
   obtain⟨e1,e2⟩:=List.cons.inj e
   rcases M2.mp h with rfl | h
   . exact e1
   exact QN e2 a h
def iE{fns:List (Str×Wp)}{bl:List Str}{co:List (Str×(Str ⊕ Int))}(e:LG (K.lookup ·) fns bl co=N7 fns bl co):UM K fns bl co:=by obtain⟨e1,e2⟩:=Bi e;obtain⟨e2,e3⟩:=Bi e2;exact⟨fun p hp=>eW (QN e1 p hp),fun x hx=>QN e2 x hx,fun c hc=>eP (QN e3 c hc)⟩
end L2.MP.Hx
namespace L2.MP
open PySem L2 PySem.W PyProof.Rows
variable {bl ps:List Str}{co:List (Str×(Str ⊕ Int))}{x:Str}{st:Wp}{P:Pv}{w:UF}{base:KM}{k:Nat}{m:MS}
section
variable {K:Frag} {mg:Str->Option IR} {fns:List (Str×Wp)}
structure En(K:Frag)(mg:Str->Option IR)(fns:List (Str×Wp))(bl:List Str)(co:List (Str×(Str ⊕ Int))):Prop where
 b:∀ x∈bl,mg x=none
 c:∀ c∈co,match c.2 with
   | .inl s=>∃ t,mg c.1=some (.str s t)
   | .inr i=>∃ t,mg c.1=some (.int i t)
 l:∀ p∈fns,∃ f,Oh K p.1 p.2 f/\mg p.1=some (.ref f)
def En.of{h:KM}(A:Hx.UM K fns bl co)(X:K.In h)(G:h.Ns mainGlobals mg):En K mg fns bl co:=by
 refine⟨fun x hx=>mg_none_of X G (A.bl x hx),fun c hc=>?_,fun p hp=>?_⟩
 . have q:=A.co c hc;obtain⟨x,c⟩:=c
   cases c with
   | inl s=>obtain⟨t,q⟩:=q;exact⟨t,mg_of X G q⟩
   | inr i=>obtain⟨t,q⟩:=q;exact⟨t,mg_of X G q⟩
 obtain⟨f,q⟩:=A.fn p hp;exact⟨f,q,mg_of X G q.ns⟩
def En.b1(Z:En K mg fns bl co)(h:x∈bl:=by decide +kernel):mg x=none:=Z.b x h
def RC(N ps:List Str)(sc:Scope):Bool:=decide (sc.kind=.function)&&decide (sc.isCoroutine=false)&&decide (sc.isGenerator=false)&&decide N.Nodup&&decide (N.take ps.length=ps)&&ps.all (fun x=>decide (sc.names.lookup x=some .local\/sc.names.lookup x=some .cell))&&sc.names.all fun y=>decide (y.2≠.free)
def OO{N:List Str}{sc:Scope}(h:RC N ps sc=true):Iy N ps sc:=by unfold RC at h;simp only[Ar,decide_eq_true_eq,Gw] at h;obtain⟨⟨⟨⟨⟨⟨a,b⟩,c⟩,d⟩,e⟩,f⟩,g⟩:=h;exact⟨a,b,c,d,e,f,g⟩
noncomputable abbrev PZ (x:Str) (st:Wp) (ps:List Str):Prop:=∀ (kV doc pm:IR) (an:Option Addr) (cdv ct:IR) (us:List IR),us.length=ps.length->bindArgs (B8 x x (Nd st) (Ki st) (IL st) .none kV doc pm an cdv ct) ⟨us,[]⟩=pure (ps.zip us)
def En.laid{i:Nat}(Z:En K mg fns bl co)(hi:fns[i]?=some (x,st))(b:PZ x st ps):Laid K mg x st ps:=by obtain⟨f,F,hm⟩:=Z.l _<|AI hi;obtain⟨⟨oc,od,kV,dc,pm,an,cd,ct,sl,l,c⟩,a,k⟩:=F;exact⟨_,_,Sz l c k,hm,(Sz l c k).binds b⟩
def J6(Z:En K mg fns bl co)(st:Wp)(i:Nat)(N ps:List Str)
   (hbody:N.Nodup->∀ (f:Addr) (cdv:IR) (A:Around) (outer:List Env) (s:Shared) (H:Hp) (E:XK),Ia k (A.deeper<|envOfC x (IL st) s.heap.objs.size f cdv) ->
     KJ (Ic KL P w K mg base N x (IL st) f cdv A outer s H E).nox (Ki st) m) (hi:fns[i]?=some (x,st):=by rfl)
   (S:RC N ps (IL st)=true:=by decide +kernel) (b:PZ x st ps:=by intro _ _ _ _ _ _;first | exact PM fun _=>rfl | exact N1 fun _ _=>rfl | exact PL fun _ _ _=>rfl | exact PJ fun _ _ _ _=>rfl | exact RR fun _ _ _ _ _=>rfl):JN P w K mg base (k+1) x ps.length (Jc N.length m) :=
 jH (Z.laid hi b) (OO S) (hbody (OO S).nd)
def eZ{qual:Str}{f:Addr}{fd:FuncData}(F:LJ K x qual st f fd)(N ps:List Str)
   (hbody:N.Nodup->∀ (cdv:IR) (A:Around) (outer:List Env) (s:Shared) (H:Hp) (E:XK),Ia k (A.deeper<|envOfC qual (IL st) s.heap.objs.size f cdv) ->
     KJ (Ic KL P w K mg base N qual (IL st) f cdv A outer s H E).nox (Ki st) m) (S:RC N ps (IL st)=true:=by decide +kernel):II P w K mg base KL (k+1) f fd ps (Pr K ps.length<|Jc N.length m):=R8 F (OO S) (hbody (OO S).nd)
end
variable {g:GN}{T:String}
section
variable {X:Cx} {e:Os} {es:List Os} {m:ME} {mm:MA} {pos pos' p p2:Pos} {y:Str}
def sgn(i:Nat)(hN:X.N.Nodup)(hi:X.N[i]?=some x:=by rfl)(hx:Loc X.env.scope x:=by first | exact B0 rfl | exact BS rfl)(hf:X.fn x=true\/X.env.scope.names.lookup x=some .local:=by first | exact .inl rfl | exact .inr rfl | assumption):SG X (.Name x pos) (HG i):=rQ hN hi hx hf
def IG(i:Nat)(hN:X.N.Nodup)(he:SE X e m)(hi:X.N[i]?=some x:=by rfl)(hx:Loc X.env.scope x:=by first | exact B0 rfl | exact BS rfl)(hs:swapsWith e (some<|.Name x pos') pos.line X.env=pure false:=by rfl)(hf:X.fn x=true\/X.env.scope.names.lookup x=some .local:=by first | exact .inl rfl | exact .inr rfl | assumption):SS X (.Assign [.Name x pos'] e pos) (HL m<|HG i):=kI hN hi hx he hs hf
def Iw{j n:Nat}(F:JN X.prog X.w X.K X.mg X.base k x n g)(hr:Ia j X.A)(ha:SA X (e::es) mm)(hj:k<=j:=by decide)(hg:Gl X x:=by rfl)(hl:Kn n mm:=by repeat (first | exact Kn.nil | refine Kn.cons ?_))(hdb:(x==("__debug__":Str))=false:=by decide)
   (he:Qqb X.env e es:=by rfl) (hpl:Qqc pos es X.env:=by rfl) (hn:(e::es).length=n:=by rfl):SE X (.Call (.Name x p) (e::es) [] pos) (HM g mm):=sQ F (hr.mono hj) hg ha hl hdb he hpl hn
variable {fns:List (Str×Wp)}
def MK(Z:En X.K X.mg fns bl co)(ha:SE X e m)(hv:UV y=some (.type T))(hT:T∈kinds:=by decide)(hg:Gl X "isinstance":=by rfl)(hm:("isinstance":Str)∈bl:=by decide +kernel)(hgy:Gl X y:=by rfl)(hmy:y∈bl:=by decide +kernel)(hny:y≠"__name__":=by decide)(hdy:(y==("__debug__":Str))=false:=by decide)
   (hs:P3 [e,.Name y p2] X.env=(false,W1 e X.env)::P3 [.Name y p2] X.env:=by rfl) (hs2:P3 [.Name y p2] X.env=[(false,W1 (.Name y p2) X.env)]:=by rfl) (hpl:(backTo pos<|P3 [.Name y p2] X.env).any (·.1)=false:=by rfl):SE X (.Call (.Name "isinstance" p) [e,.Name y p2] [] pos) (KZ T m) :=
 jV (x:="isinstance") hT hg (Z.b _ hm) ha hgy (Z.b _ hmy) hv hny hdy hs hs2 hpl
def KG{id:String}(Z:En X.K X.mg fns bl co)(hc:J4 X (.builtin id) g)(hv:UV x=some (.builtin id))(ha:SA X (e::es) mm)(hg:Gl X x:=by rfl)(hm:x∈bl:=by decide +kernel)(hn:x≠"__name__":=by decide)(hdb:(x==("__debug__":Str))=false:=by decide)
   (he:Qqb X.env e es:=by rfl) (hpl:Qqc pos es X.env:=by rfl):SE X (.Call (.Name x p) (e::es) [] pos) (HM g mm):=aB hc hg (Z.b _ hm) hv ha hn hdb he hpl
def Nl(Z:En X.K X.mg fns bl co)(hc:J4 X (.type T) g)(hv:UV x=some (.type T))(ha:SA X (e::es) mm)(hg:Gl X x:=by rfl)(hm:x∈bl:=by decide +kernel)(hn:x≠"__name__":=by decide)(hdb:(x==("__debug__":Str))=false:=by decide)
   (he:Qqb X.env e es:=by rfl) (hpl:Qqc pos es X.env:=by rfl):SE X (.Call (.Name x p) (e::es) [] pos) (HM g mm):=xD hc hg (Z.b _ hm) hv ha hn hdb he hpl
def cS{scope:Scope}(N':List Str)(nt:Nat)(fr:List Nat)(fs:List Str)(kind:scope.kind=.function:=by rfl)(nd:(scope.names.map (·.1)).Nodup:=by decide +kernel)(hf:scope.names.all (fun p=>!(p.2==AJ) || fs.contains p.1)=true:=by decide +kernel)
   (hb:fs.all (fun x=>scope.names.contains (x,AJ))=true:=by decide +kernel) (len:N'.length=nt+fr.length:=by rfl) (cap:Ma X fs fr (N'.drop nt):=by trivial) (out:L5 X fs:=by trivial):JD X scope N' nt fr:=NC fs kind nd hf hb len cap out
end
end L2.MP
namespace L2.MP.Hx
open PySem L2 L2.MP PySem.W PyProof.Rows
structure eN(K:Frag)(C:Addr)(cd:ClassData)(es:Array DictEntry):Prop where
 at_:∀ bm,cd.mro=.ref C::bm->∃ nm ql bs sn sub b2 b3 dd k0 k1 k2 k3 k5,K.lookup C=some (excClassObj nm ql C cd.ns bs bm true sn sub b2 b3 dd k0 k1 k2 k3 k5 "ValueError.__new__")
 ns:∀ h:KM,K.In h->h.Ns cd.ns (nsFind es)
variable {K:Frag}{C:Addr}{cd:ClassData}{es:Array DictEntry}
def lW{a:Addr}(h:N9 K C=some (cd,a,es)):eN K C cd es:=by
 unfold N9 at h
 split at h
 . rename_i t dd cd' k0 k1 k2 k3 n k5 hl
   split at h
   . rename_i q;obtain⟨rfl,rfl,q3,q4⟩:=q
     split at h
     . rename_i c2 d2 es2 ep2 sl2 hn
       split at h
       . rename_i ha;cases h;refine⟨fun bm e=>?_,fun h X=>⟨_,_,_,X _ _ hn,rfl,fun e he=>?_,fun _=>rfl⟩⟩
         . obtain⟨nm,bs,mro,ns,ql,hd,sn,sub,ab,col,del⟩:=cd;dsimp only at e q3 q4;subst e q3 q4;exact⟨nm,ql,bs,sn,sub,ab,col,dd,k0,k1,k2,k3,k5,hl⟩
         . have:=List.all_eq_true.mp ha e (Array.mem_toList_iff.mpr he)
           split at this
           . rename_i x t' hk;exact⟨x,t',hk⟩
           . cases this
       . cases h
     . cases h
   . cases h
 . cases h
def hV(a:PQ K C=true)(b:UG K=true):Np K C/\keepIn K (.ref C)=true/\kitOne K (.ref C) (.type "ValueError")=some true/\hasDictIn K C=true:=by unfold PQ at a;unfold UG at b;simp only[Ar,beq_iff_eq] at a b;obtain⟨⟨⟨⟨⟨⟨⟨a1,a2⟩,a3⟩,a4⟩,a5⟩,a6⟩,a7⟩,a8⟩:=a;exact⟨⟨a1,a2,a3,b.1,b.2,a4,a5⟩,a6,a7,a8⟩
variable {c:Str}
def Nx(h:La K c=some C):JV K c C:=by
 unfold La at h
 split at h
 . rename_i D e;cases h;exact e
 . cases h
def Ql{D:Addr}(h:La K c=some C)(g:JV K c D):D=C:=by have:=Nx h;unfold JV at this g;rw[g] at this;cases this;rfl
structure Mi(K:Frag)(T:Addr)(d:ED)(C:Addr)(bm:List IR)(cd:ClassData)(es:Array DictEntry):Prop where
 a:La K d.c=some C
 k:Np K C
 kp:keepIn K (.ref C)=true
 v:kitOne K (.ref C) (.type "ValueError")=some true
 hd:hasDictIn K C=true
 cl:eN K C cd es
 m:cd.mro=.ref C::bm
 b:bm=if d.c="TileError" then Mc else .ref T::Mc
 no:∀ n∈(if d.f.isSome then MB.tail else MB),nsFind es n=none
 ini:∀ f st,d.f=some (f,st)->findIn K (.ref C) f=some none/\fastLookup "ValueError" f=some none/\UR K (d.c++".__init__") (nsFind es "__init__")=UQ (d.c++".__init__") st
variable {T:Addr}{d:ED}
def lO(g:UG K=true)(h:Py K T d=Pz d):∃ C bm cd es,Mi K T d C bm cd es:=by
 unfold Py Pz at h
 cases ha:La K d.c with
 | none=>rw[ha] at h;cases (Bi h).1
 | some C =>
   rw[ha] at h;dsimp only at h
   cases hc:N9 K C with
   | none=>rw[hc] at h;cases (Bi h).1
   | some p =>
     obtain⟨cd,a0,es⟩:=p;rw[hc] at h;dsimp only at h;obtain⟨h1,h2⟩:=Bi h;simp only[Ar,beq_iff_eq,Gw,Option.isNone_iff_eq_none] at h1;obtain⟨⟨⟨b1,b2⟩,b3⟩,b4⟩:=h1;obtain⟨e1,e2,e3,e4⟩:=hV b1 g;refine⟨C,_,cd,es,ha,e1,e2,e3,e4,lW hc,b2,rfl,b3,fun f st e=>?_⟩;rw[e] at h2 b4;dsimp only at h2 b4;simp only[Ar,beq_iff_eq] at b4;exact⟨b4.1,b4.2,h2⟩
structure Of(K:Frag)(ds:List ED):Prop where
 ex:∃ T,La K "TileError"=some T/\∀ d∈ds,∃ C bm cd es,Mi K T d C bm cd es
 pr:∀ d∈ds,∀ e∈ds,∀ C D,JV K d.c C->JV K e.c D->kitOne K (.ref C) (.ref D)=some (Mx d.c e.c)
def mI{ds:List ED}(h:MQ K ds=MR ds):Of K ds:=by
 unfold MQ MR at h
 cases hT:La K "TileError" with
 | none=>rw[hT] at h;cases (Bi h).1
 | some T =>
   rw[hT] at h;dsimp only at h;obtain⟨h1,h2⟩:=Bi h;rw[Ar] at h1;obtain⟨g,h1⟩:=h1;refine⟨⟨T,hT,fun d hd=>lO g (QN h2 d hd)⟩,fun d hd e he C D hC hD=>?_⟩;have:=List.all_eq_true.mp (List.all_eq_true.mp h1 d hd) e he;unfold Yr at this
   split at this
   . rename_i C' D' a1 a2
     cases Ql a1 hC
     cases Ql a2 hD
     exact beq_iff_eq.mp this
   . cases this
variable {bm b2:List IR}{cd2:ClassData}{es2:Array DictEntry}{h:KM}
def Su{D:Addr}(X:K.In h)(U:Mi K T ⟨"TileError",none⟩ D b2 cd2 es2)(hT:La K "TileError"=some T)(E:Mi K T d C bm cd es):OT h MB Mc bm:=by
 rw[E.b]
 split
 . exact .base
 have e:D=T:=Ap<|U.a.symm.trans hT;subst e;obtain⟨nm,ql,bs,sn,sub,b2',b3,dd,k0,k1,k2,k3,k5,at_⟩:=U.cl.at_ b2 U.m;exact .own (X _ _ at_) (U.cl.ns h X) (fun n hn=>U.no n hn) .base
def ZN:Mc.contains (.type "ValueError")=true:=by decide +kernel
def sA{D:Addr}(X:K.In h)(U:Mi K T ⟨"TileError",none⟩ D b2 cd2 es2)(hT:La K "TileError"=some T)(E:Mi K T d C bm cd es)(hf:d.f=none):PlainAt h C:=by obtain⟨nm,ql,bs,sn,sub,b2',b3,dd,k0,k1,k2,k3,k5,at_⟩:=E.cl.at_ bm E.m;exact⟨nm,ql,cd.ns,bs,bm,Mc,Mc,true,sn,sub,b2',b3,dd,k0,k1,k2,k3,k5,"ValueError.__new__","ValueError","ValueError","ValueError.__new__","ValueError.__init__","ValueError.__init__",nsFind es,F.excBase_ValueError,ZN,F.excBase_ValueError,(Su X U hT E).tail<|by decide,X _ _ at_,E.cl.ns h X,E.no _ (by rw[hf];exact Ao)⟩
def sI{D:Addr}(X:K.In h)(U:Mi K T ⟨"TileError",none⟩ D b2 cd2 es2)(hT:La K "TileError"=some T)(E:Mi K T d C bm cd es):Jg h C:=by obtain⟨nm,ql,bs,sn,sub,b2',b3,dd,k0,k1,k2,k3,k5,at_⟩:=E.cl.at_ bm E.m;exact⟨nm,ql,cd.ns,bs,bm,true,sn,sub,b2',b3,dd,k0,k1,k2,k3,k5,"ValueError.__new__",X _ _ at_,(Su X U hT E).has<|by decide +kernel⟩
variable {f:Str}{st:Wp}
def hU{D:Addr}(X:K.In h)(U:Mi K T ⟨"TileError",none⟩ D b2 cd2 es2)(hT:La K "TileError"=some T)(E:Mi K T d C bm cd es)(hf:d.f=some (f,st))(hn:f∈MB.tail):K8 h C f:=by
 obtain⟨nm,ql,bs,sn,sub,b2',b3,dd,k0,k1,k2,k3,k5,at_⟩:=E.cl.at_ bm E.m;have no:=E.no;rw[hf] at no;have e2:typeLookup (.type "ValueError") f=pure none:=by rw[Dc,Ci,(E.ini f st hf).2.1]
 exact⟨nm,ql,cd.ns,bs,bm,Mc,sn,sub,b2',b3,dd,k0,k1,k2,k3,k5,"ValueError.__new__","ValueError","object.__setattr__","object",nsFind es,MB,X _ _ at_,E.cl.ns h X,no f hn,no _ (show ("__setattr__":Str)∈MB.tail by decide),Su X U hT E,List.mem_of_mem_tail hn,by decide,F.store_ValueError,e2⟩
def mM{D:Addr}(U:Mi K T ⟨"TileError",none⟩ D b2 cd2 es2)(hT:La K "TileError"=some T)(E:Mi K T d C bm cd es)(hf:d.f=some (f,st)) :
   ∃ fa fd,LJ K "__init__" (d.c++".__init__") st fa fd/\∀ h:KM,K.In h->JM h C fa:=by
 have e:=(E.ini f st hf).2.2;unfold UR UQ at e
 split at e
 . rename_i fa hv
   split at e
   . rename_i t od fd sl hl
     split at e
     . rename_i ht;subst ht;obtain⟨a1,a2⟩:=Bi<|Ap e;obtain⟨n,q,p,b,sc,gl,cl,df,kd,dc,pm,an,cdv,ct,bu⟩:=fd;cases a1;refine⟨fa,_,Sz hl a2<|Y9 hl,fun h X=>?_⟩;obtain⟨nm,ql,bs,sn,sub,b2',b3,dd,k0,k1,k2,k3,k5,at_⟩:=E.cl.at_ bm E.m;exact⟨nm,ql,cd.ns,bs,bm,Mc,Mc,true,sn,sub,b2',b3,dd,k0,k1,k2,k3,k5,"ValueError.__new__","ValueError","ValueError","ValueError.__new__","ValueError.__init__","ValueError.__init__",nsFind es,_,F.excBase_ValueError,ZN,F.excBase_ValueError,(Su X U hT E).tail<|by decide,X _ _ at_,E.cl.ns h X,hv,X _ _ hl,rfl⟩
     . cases e
   . cases e
 . cases e
end L2.MP.Hx
namespace L2.MP
open PySem L2 PySem.W PyProof.Rows Hx
def KS(ns:List Str)(c y:Str):Option Bool:=if c∈ns/\y∈ns then some (Mx c y) else none
def Kr(ns:List Str)(c:Str):Option Bool:=if c∈ns then some true else none
structure EE(K:Frag)(mg:Str->Option IR)(ds:List ED):Prop where
 e0:∀ d∈ds,d.f=none->∃ C,JV K d.c C/\mg d.c=some (.ref C)/\keepIn K (.ref C)=true/\∀ h:KM,K.In h->PlainAt h C
 e1:∀ d∈ds,∀ f st,d.f=some (f,st)->f∈MB.tail->∃ C fa fd,JV K d.c C/\mg d.c=some (.ref C)/\keepIn K (.ref C)=true/\LJ K "__init__" (d.c++".__init__") st fa fd/\(∀ h:KM,K.In h->JM h C fa)/\(∀ h:KM,K.In h->K8 h C f)/\∀ h:KM,K.In h->Jg h C
 is:PX K (KS (ds.map (·.c)))
 it:UX K "ValueError" (Kr (ds.map (·.c)))
 at_:∀ d∈ds,∀ f st,d.f=some (f,st)->Sj K f fun c=>decide (c=d.c)
 fn:∀ d∈ds,∃ C,JV K d.c C/\mg d.c=some (.ref C)
 ex:∀ d∈ds,d.c≠"TileError"->∃ T,mg "TileError"=some (.ref T)/\∀ C,JV K d.c C->exmOne K (.ref C) (.ref T)=some true
variable {K:Frag}{mg:Str->Option IR}{ds:List ED}
def EE.of{h:KM}(A:Of K ds)(hT:⟨"TileError",none⟩∈ds)(X:K.In h)(G:h.Ns mainGlobals mg):EE K mg ds:=by
 obtain⟨T,aT,all⟩:=A.ex;obtain⟨D,b2,cd2,es2,U⟩:=all _ hT;refine⟨fun d hd hf=>?_,fun d hd f st hf hn=>?_,fun c y b C D e hC hD=>?_,fun c b C e hC=>?_,fun d hd f st hf c C hc hC=>?_,fun d hd=>?_,fun d hd hne=>⟨T,mg_of X G<|Nx aT,fun C hC=>?_⟩⟩
 . obtain⟨C,bm,cd,es,E⟩:=all d hd;exact⟨C,Nx E.a,mg_of X G<|Nx E.a,E.kp,fun h' X'=>sA X' U aT E hf⟩
 . obtain⟨C,bm,cd,es,E⟩:=all d hd;obtain⟨fa,fd,F,M⟩:=mM U aT E hf;exact⟨C,fa,fd,Nx E.a,mg_of X G<|Nx E.a,E.kp,F,M,fun h' X'=>hU X' U aT E hf hn,fun h' X'=>sI X' U aT E⟩
 . unfold KS at e
   split at e
   . rename_i q;cases e;obtain⟨d,hd,rfl⟩:=PP.mp q.1;obtain⟨d',hd',rfl⟩:=PP.mp q.2;obtain⟨C',bm,cd,es,E⟩:=all d hd
     cases Ql E.a hC
     exact⟨E.k,A.pr d hd d' hd' _ _ hC hD⟩
   . cases e
 . unfold Kr at e
   split at e
   . rename_i q;cases e;obtain⟨d,hd,rfl⟩:=PP.mp q;obtain⟨C',bm,cd,es,E⟩:=all d hd
     cases Ql E.a hC
     exact⟨E.k,E.v⟩
   . cases e
 . have hc':=of_decide_eq_true hc;subst hc';obtain⟨C',bm,cd,es,E⟩:=all d hd
   cases Ql E.a hC
   exact⟨E.k,(E.ini f st hf).1,E.hd⟩
 . obtain⟨C,bm,cd,es,E⟩:=all d hd;exact⟨C,Nx E.a,mg_of X G<|Nx E.a⟩
 . obtain⟨C',bm,cd,es,E⟩:=all d hd
   cases Ql E.a hC
   have eD:D=T:=Ap<|U.a.symm.trans aT;subst eD;have ne:C≠D:=fun z=>by subst z;obtain⟨_,_,_,_,_,_,_,_,_,_,_,_,_,h1⟩:=E.cl.at_ bm E.m;obtain⟨_,_,_,_,_,_,_,_,_,_,_,_,_,h2⟩:=U.cl.at_ b2 U.m;rw[h1] at h2;have e2:=E.b;rw[if_neg hne] at e2;have e3:=U.b;rw[if_pos rfl] at e3;subst e2 e3;simp[excClassObj,Mc] at h2
   have hk:=A.pr d hd _ hT C D hC<|Nx aT;have hs:Mx d.c "TileError"=true:=by simp[Mx]
   rw[show (ED.mk "TileError" none).c="TileError" from rfl,hs] at hk;unfold kitOne at hk;rw[if_neg (by simp[ne])] at hk;unfold exmOne;have mb:subIn K (.ref D) (.type "BaseException")=some true:=U.k.mb;rw[if_pos (by rw[mb];rfl)];exact hk
def Qw(c:Str):Str->Bool:=fun x=>decide (x=c)
structure Lw(c f n1:Str)(st:Wp):Prop where
 S:Iy ["self",n1] ["self",n1] (IL st)
 hb:∃ p0 p1 pos' pos,Ki st=[.Assign [.Attribute (.Name "self" p0) f pos'] (.Name n1 p1) pos]/\∀ env,swapsWith (.Name n1 p1) (some (.Attribute (.Name "self" p0) f pos')) pos.line env=pure false
 v0:(IL st).names.lookup ("self":Str)=some .local
 v1:(IL st).names.lookup n1=some .local
 d1:(n1==("__debug__":Str))=false
 c1:(n1==("__classdict__":Str))=false
 bd:∀ (kV doc pm:IR) (an:Option Addr) (cdv ct:IR) (us:List IR),us.length=2->bindArgs (fnOf "__init__" (c++".__init__") (Nd st) (Ki st) (IL st) .none kV doc pm an cdv ct) ⟨us,[]⟩=pure ((["self",n1]:List Str).zip us)
variable {X:Cx}{c f n1:Str}{st:Wp}{m:ME}{mm:MA}{e:Os}{es:List Os}{p pos:Pos}{ns:List Str}
section
variable {p2:Pos} {d:ED}
def efn(Y:EE X.K X.mg ds)(i:Nat)(hi:ds[i]?.map (·.c)=some c:=by rfl)(hg:Gl X c:=by rfl)(hdb:(c==("__debug__":Str))=false:=by decide):SE X (.Name c p) (mK<|.fn c):=by obtain⟨d,hd,rfl⟩:=Option.map_eq_some_iff.mp hi;obtain⟨C,hn,hm⟩:=Y.fn _<|AI hd;exact gK hg hm hn hdb
def eis(Y:EE X.K X.mg ds)(hb:X.mg "isinstance"=none)(ha:SA X (e::es) mm)(hn:ds.map (·.c)=ns:=by rfl)(hg:Gl X "isinstance":=by rfl)(he:Qqb X.env e es:=by rfl)(hpl:Qqc pos es X.env:=by rfl) :
   SE X (.Call (.Name "isinstance" p) (e::es) [] pos) (HM (RY<|KS ns) mm):=by
 subst hn;exact aB (qD Y.is) hg hb (by decide +kernel) ha (by decide) (by decide) he hpl
def R9(Y:EE X.K X.mg ds)(hb:X.mg "isinstance"=none)(hv:X.mg "ValueError"=none)(ha:SE X e m)(hn:ds.map (·.c)=ns:=by rfl)(hg:Gl X "isinstance":=by rfl)(hgv:Gl X "ValueError":=by rfl)
   (hs:P3 [e,.Name "ValueError" p2] X.env=(false,W1 e X.env)::P3 [.Name "ValueError" p2] X.env:=by rfl) (hs2:P3 [.Name "ValueError" p2] X.env=[(false,W1 (.Name "ValueError" p2) X.env)]:=by rfl) (hpl:(backTo pos<|P3 [.Name "ValueError" p2] X.env).any (·.1)=false:=by rfl) :
   SE X (.Call (.Name "isinstance" p) [e,.Name "ValueError" p2] [] pos) (LX (Kr ns) m):=by
 subst hn;exact jU Y.it hg hb ha hgv hv (by decide +kernel) (by decide) (by decide) hs hs2 hpl
def eG(Y:EE X.K X.mg ds)(i:Nat)(he:SE X e m)(hi:ds[i]?=some ⟨c,some (f,st)⟩:=by rfl)(hb:attributeBase e f X.env (W1 e X.env)=W1 e X.env:=by rfl):SE X (.Attribute e f pos) (Lo (Qw c) f m) :=
 jT (Y.at_ _ (AI hi) f st rfl) he hb
end
structure RX(P:Pv)(w:UF)(K:Frag)(mg:Str->Option IR)(base:KM)(c fld:Str)(C:Addr):Prop where
 fn:JV K c C
 at_:mg c=some (.ref C)
 kp:keepIn K (.ref C)=true
 ex:∃ fa fd ps,(∀ h:KM,K.In h->JM h C fa)/\II P w K mg base KL 1 fa fd ps (Vj C fld)/\Binds K fd ps []
 ra:∀ h:KM,K.In h->Jg h C
variable {k j:Nat}{cpos:Pos}
section
variable {P:Pv} {w:UF} {base:KM}
def EE.rx(Y:EE K mg ds)(J:Lw c f n1 st)(i:Nat)(hi:ds[i]?=some ⟨c,some (f,st)⟩)(hf:f∈MB.tail):∃ C,RX P w K mg base c f C:=by obtain⟨C,fa,fd,hn,hm,hk,F,hM,hE,hR⟩:=Y.e1 _ (AI hi) f st rfl hf;obtain⟨p0,p1,pos',pos2,hb,hs⟩:=J.hb;exact⟨C,hn,hm,hk,⟨fa,fd,_,hM,mO (k:=0) F J.S hb hE J.v0 J.v1 (by decide) J.d1 (by decide) J.c1 hs,F.binds J.bd⟩,hR⟩
def ZW{fns:List (Str×Wp)}{bl:List Str}{co:List (Str×(Str ⊕ Int))}{x:Str}{m:MS}(Z:En K mg fns bl co)(Y:EE K mg ds)(J:Lw c f n1 st)(q:Nat)(s0:Wp)(i:Nat)(N ps:List Str)
   (hbody:N.Nodup->∀ (C:Addr),RX P w K mg base c f C->∀ (fa:Addr) (cdv:IR) (A:Around) (outer:List Env) (s:Shared) (H:Hp) (E:XK),Ia k (A.deeper<|envOfC x (IL s0) s.heap.objs.size fa cdv) ->
     Od (Ic (Jj P w C f) P w K mg base N x (IL s0) fa cdv A outer s H E) LI (fun i H'=>E (.int i 0) none H') (Ki s0) m) (hq:ds[q]?=some ⟨c,some (f,st)⟩:=by rfl) (hf:f∈MB.tail:=by decide) (hi:fns[i]?=some (x,s0):=by rfl)
   (S:RC N ps (IL s0)=true:=by decide +kernel) (b:PZ x s0 ps:=by intro _ _ _ _ _ _;first | exact PM fun _=>rfl | exact N1 fun _ _=>rfl | exact PL fun _ _ _=>rfl | exact PJ fun _ _ _ _=>rfl | exact RR fun _ _ _ _ _=>rfl):L9 P w K mg base (k+1) x ps.length c f (Jc N.length m):=by
 obtain⟨C,R⟩:=Y.rx (P:=P) (w:=w) (base:=base) J q hq hf;obtain⟨fa,fd,F,hm,hb⟩:=Z.laid hi b;exact⟨C,fa,fd,ps,R.fn,R.at_,R.ra,XJ (by intro i z;cases z) F (OO S) fun cdv A outer s H E hr=>hbody (OO S).nd C R fa cdv A outer s H E hr,hm,F.kp,hb⟩
variable {N:List Str} {qual:Str} {scope:Scope} {fa:Addr} {cd:IR} {A:Around} {outer:List Env} {s0:Shared} {H0:Hp} {E:XK} {C:Addr}
def exr(R:RX P w K mg base c f C)(hr:Ia j (Ic (Jj P w C f) P w K mg base N qual scope fa cd A outer s0 H0 E).A)(he:SE (Ic (Jj P w C f) P w K mg base N qual scope fa cd A outer s0 H0 E) e m)(hj:2<=j:=by decide)(hg:Gl (Ic (Jj P w C f) P w K mg base N qual scope fa cd A outer s0 H0 E) c:=by rfl)(hdb:(c==("__debug__":Str))=false:=by decide)
   (hst:P3 [e] (Ic (Jj P w C f) P w K mg base N qual scope fa cd A outer s0 H0 E).env=(false,W1 e (Ic (Jj P w C f) P w K mg base N qual scope fa cd A outer s0 H0 E).env)::P3 [] (Ic (Jj P w C f) P w K mg base N qual scope fa cd A outer s0 H0 E).env:=by rfl) :
   SX (Ic (Jj P w C f) P w K mg base N qual scope fa cd A outer s0 H0 E) LI (fun i H'=>E (.int i 0) none H') (.Raise (some<|.Call (.Name c p) [e] [] cpos) none pos) (QZ LI m):=by
 obtain⟨ga,fd,ps,hM,F,hb⟩:=R.ex;exact uR (fun i j z=>by cases z;rfl) hM R.ra R.kp F (hr.mono hj) hg R.at_ hb he (HD he HJ hst) hdb hst
end
section
variable {n i:Nat} {g fld xn nm c0:Str} {gg:GN} {mh:MS} {epos np hpos px cp tp apos:Pos} {st0:Wp} {more:List Wp} {kk x1:Nat} {fs:Option (Str×Wp)}
def etB(Y:EE X.K X.mg ds)(q i j:Nat)(D:L9 X.prog X.w X.K X.mg X.base k g n c fld gg)(hr:Ia k X.A)(ha:SA X.nox (e::es) mm)(hl:Kn n mm)(hN:X.N.Nodup)(hh:∀ x W,KJ (UE X x W) (st0::more) mh)
   (hq:ds[q]?=some ⟨c,fs⟩:=by rfl) (hne:c≠"TileError":=by decide) (hs:X.stack=X.env::X.outer:=by rfl) (hf:X.env.frame=some X.env.locals:=by rfl) (hg:Gl X g:=by rfl) (hgy:Gl X "TileError":=by rfl) (hi:X.N[i]?=some xn:=by rfl) (hj:X.N[j]?=some nm:=by rfl)
   (hil:X.env.scope.names.lookup xn=some .local:=by rfl) (hjl:X.env.scope.names.lookup nm=some .local:=by rfl) (hdb:(g==("__debug__":Str))=false:=by decide) (he:Qqb X.env e es:=by rfl) (hpl:Qqc cpos es X.env:=by rfl)
   (hsw:swapsWith (.Call (.Name g p) (e::es) [] cpos) (some<|.Name xn px) apos.line X.env=pure false:=by rfl) :
   SS X (.Try [.Assign [.Name xn px] (.Call (.Name g p) (e::es) [] cpos) apos] [.ExceptHandler (some<|.Name "TileError" np) (some nm) (st0::more) hpos] [] [] pos) (OP gg mm i j c fld mh):=by
 obtain⟨T,hm,hx⟩:=Y.ex _ (AI hq) hne;exact qT D hs hf hr hg ha hl hgy hm hx hN hi hj hil hjl hh (by decide) hdb he hpl hsw
end
end L2.MP
namespace L2.MP.Hx
open PySem L2 L2.MP PySem.W PyProof.Rows
def OG(fns:List (Str×Wp))(bl:List Str)(co:List (Str×(Str ⊕ Int)))(ds:List ED):Hook where
 α:=(List (Option<|FuncData×Bool)×List (Option<|Option IR)×List (Option<|Str ⊕ Int))×Bool×List MX
 obs s:=(LG s.heap.get? fns bl co,MQ (Lq s.heap) ds)
 val _:=(N7 fns bl co,MR ds)
 says _ h:=∃ K:Frag,K.In h/\UM K fns bl co/\Of K ds
 of w s e:=by obtain⟨e1,e2⟩:=Bi e;exact⟨Lq s.heap,mE _,iE (by rw[funext (bE s.heap)];exact e1),mI e2⟩
 keeps w h h':=fun⟨K,a,b⟩ k=>⟨K,a.keeps k,b⟩
def LS{l:OpenLaw}{n k:Nat}{q:Pv}{loose:List Str}{XP:(Str->Option IR)->KM->Prop}{fns:List (Str×Wp)}{bl:List Str}{co:List (Str×(Str ⊕ Int))}{ds:List ED}{d:DefRec}{CX:M5}{sp:Frag->Sp}{x:Str}
   (hn:l.most=some n) (hn2:n<=sizeLine) (hdf:d.params.defaults=[]) (hr:Ia k callerA)
   (F:∀ (K:Frag) (w:UF) (mg:Str->Option IR) (fa:Addr) (h:KM),UM K fns bl co->Of K ds->K.In h->h.Ns mainGlobals mg->mg d.name=some (.ref fa) ->
     ∃ fd:FuncData,(∀ (s:Shared) (u:IR),BindsTo s fd ⟨[u],[]⟩ [(x,u)])/\∀ base:KM,K.In base->base.Ns mainGlobals mg->II l.prog w K mg base CX k fa fd [x] (sp K))
   (hsp:∀ (K:Frag) (H:Hp) (a:Addr) (ns:List Int),ns.length<=n->MW H->JB K H a (ns.map V.int)->sp K [.ref a] H (fun v _=>v=.bl true) fun _ _ _=>False)
   (hCX:∀ (H:Hp) (s:Shared) (e:IR) (s':Shared),CX [] H s (fun _ _ _=>False) e s'->False) :
   WalkO q loose XP (OG fns bl co ds).says l.row.toRowW d [] (fun f vs=>GB f vs):=by
 intro w s₀ s₁ mg mb G Y;obtain⟨K,hK,hH,hC⟩:=Y;exact L2.NM (K:=fun _=>K) (CX:=fun _=>CX) (sp:=fun _=>sp K) (YP:=fun _ h=>K.In h) hn hn2 hdf hr (fun _ _ y=>y) (fun w mg fa h a b c=>F K w mg fa h hH hC a b c) (fun _ H a ns h1 h2 h3=>hsp K H a ns h1 h2 h3) (fun _ H s e s'=>hCX H s e s') w s₀ s₁ mg mb G hK
end L2.MP.Hx
namespace L2.MP.T0
open PySem L2.MP L2.MP.Hd
def MU:List Str:=["TileError","NoGrowing"]
def bU:MS:=mR (LN (KZ "int"<|mV 0)<|LN (Sq<|KZ "bool"<|mV 0)<|JY KC KC (mV 1) (mV 0)<|mV 2)
def T6:GN:=Jc 3 bU
def bT:MS:=mR (LN (KZ "tuple"<|mV 0)<|mB Ku (HM HX<|Hz (mV 0)<|mZ)<|mV 1)
def Ws:GN:=Jc 2 bT
def bS:MS:=mS (HL (mB HE (mV 0)<|mK<|.int 1)<|HG 2)<|mR<|LN (HM Ws<|Hz (mV 1)<|Hz (mK<|.int 2)<|mZ)<|LN (HM T6<|Hz (mB HE (mV 1)<|mK<|.int 0)<|Hz (mK<|.int 0)<|Hz (mB LU (mB HE (mV 2)<|mK<|.int 0)<|mK<|.int 1)<|mZ)<|HM T6<|Hz (mB HE (mV 1)<|mK<|.int 1)<|Hz (mK<|.int 0)<|Hz (mB LU (mB HE (mV 2)<|mK<|.int 1)<|mK<|.int 1)<|mZ
def Rb:GN:=Jc 3 bS
def WB:MS:=mS (HL (J0 (mV 3) Lb<|Lc<|mK<|.int 2)<|HG 4)<|mS (IY (Kc (mT<|mB Nk (mV 4)<|mV 2)<|LL<|mT<|HM Rb<|Hz (mV 0)<|Hz (mV 4)<|mZ) (mR<|mK .non)<|Je)<|mS (HL (HM Uj<|Hz (mV 0)<|Hz (mV 2)<|Hz (mV 4)<|mZ)<|HG 5)<|mS (HL (HM Ur<|Hz (mV 1)<|Hz (HM Pm<|Hz (mV 0)<|Hz (mB HE (mV 3)<|mK<|.int 2)<|mZ)<|Hz (mV 5)<|mZ)<|HG 6)<|mS (IY (mT<|mB Ku (mV 6)<|mK<|.int 0) (mR<|mK .non)<|Je)<|mR<|MH (mT<|mB N5 (mV 6)<|mB HE (mB HE (mV 0)<|mK<|.int 0)<|mK<|.int 0) (mK<|.int 0)<|mK<|.int 1
def Qs:GN:=Jc 7 WB
def Ro:MS:=mS (HL (HM Qs<|Hz (mV 0)<|Hz (mV 3)<|Hz (mV 4)<|Hz (mV 7)<|mZ)<|HG 8)<|mS (IY (mT<|mB Kf (mV 8)<|mK .non) (QZ LI<|mV 6)<|Je)<|mS (IY (mT<|mB Ku (mV 8)<|mK<|.int 1) (Jr<|JL (mV 5)<|Hz (mV 6)<|mZ)<|Je)<|JR (mV 4) (J0 (mV 7) Lb<|Lc<|mK<|.int 2)<|mB HE (mV 7)<|mK<|.int 2
def dN:MS:=mS (HL (HM Qd<|Hz (mB HE (mB HE (mV 0)<|mK<|.int 0)<|mK<|.int 1)<|mZ)<|HG 3)<|mS (HL (HM WU<|Hz (mV 1)<|mZ)<|HG 4)<|mS (HL (mL<|mZ)<|HG 5)<|mS (mF (LO<|mV 2) (Js 2<|gC (HG 6)<|gC (HG 7)<|Jt)<|Ro)<|mR<|HM LD<|Hz (mV 5)<|mZ
def Ue:GN:=Jc 9 dN
def dF:MS:=mR<|HM Ue<|Hz (mV 0)<|Hz (mB HE (mV 0)<|mK<|.int 2)<|Hz (mV 1)<|mZ
def Uq:GN:=Jc 2 dF
def WM:MS:=HL (mB NZ (mV 3)<|mB IP (mK<|.int 10)<|mK<|.int 60)<|HG 3
def WN:MS:=mS (HL (mB IA (mV 5)<|mK<|.int 1000003)<|HG 6)<|HL (mB IA (mB HP (mB HP (mB HP (mB Jx (mV 2)<|mK<|.int 69069)<|mB Jx (mV 6)<|mV 6)<|mV 5)<|mK<|.int 5)<|mK<|.int 2305843009213693951)<|HG 2
def Rm:ME:=mB IA (HM Oc<|Hz (mV 0)<|mZ)<|mV 1
def WK:MS:=mS (HL (mU<|Hz (mL<|mZ)<|Hz (mK<|.int 4099)<|Hz (mB IP (mK<|.int 10)<|mK<|.int 60)<|mZ)<|Js 3<|gC (HG 1)<|gC (HG 2)<|gC (HG 3)<|Jt) (mS (mF (JF<|mK<|.int 6) (HG 4)<|WM)<|mS (mF (KU<|KW (mV 0) Lb<|Lc<|mK<|.int 63) (HG 5)<|WN)<|mS (IY (M6 (mT<|mB Mh (HM HX<|Hz (mV 0)<|mZ)<|mK<|.int 0)<|mT<|mB N5 (mB HE (mV 0)<|mK<|.int 0)<|mB IP (mK<|.int 10)<|mK<|.int 18) (HL (Jv (KU<|KW (mV 0) Lb<|Lc<|mK<|.int 63) 1 [3] (HG 0) JH<|Rm)<|HG 1)<|Je)<|mR<|Vg "own" "seed" "turn" (mV 1) (mV 2)<|mK<|.int 0)
def WL:GN:=Jc 7 WK
def OC:MT:=M6 (mT<|mB Kk (mB HE (mV 0)<|mK<|.str "own")<|mL<|mZ) (mT<|mB Ku (mB HE (mB HE (mV 0)<|mK<|.str "own")<|mK<|.int 0)<|mK<|.int 0)
def Ul:MS:=Jr (PF (mB HE (mV 0)<|mK<|.str "own")<|Hz (mK<|.int 0)<|mZ)
def Rj:MS:=mS (JK OC Ul 100) (mS (IY (mT<|mB Kk (mB HE (mV 0)<|mK<|.str "own")<|mL<|mZ) (mS (HL (mB IA (mB HE (mB HE (mV 0)<|mK<|.str "own")<|mK<|.int 0)<|mV 1)<|HG 2)<|mS (JR (mB HE (mV 0)<|mK<|.str "own") (mK<|.int 0)<|mB Mn (mB HE (mB HE (mV 0)<|mK<|.str "own")<|mK<|.int 0)<|mV 1)<|mR<|mV 2)<|Je)<|mS (JR (mV 0) (mK<|.str "turn")<|mB HP (mB HE (mV 0)<|mK<|.str "turn")<|mK<|.int 1)<|mS (HL (mB IA (mB Jx (mB HP (mB HE (mV 0)<|mK<|.str "seed")<|mB Jx (mB Jx (mK<|.int 7919)<|mB HE (mV 0)<|mK<|.str "turn")<|mB HE (mV 0)<|mK<|.str "turn")<|mK<|.int 48271)<|mK<|.int 2305843009213693907)<|HG 3)<|mS (HL (mB IA (mB Jx (mV 3)<|mB HP (mB HP (mB IA (mV 3)<|mK<|.int 999983)<|mB Jx (mK<|.int 131)<|mB HE (mV 0)<|mK<|.str "turn")<|mK<|.int 3)<|mK<|.int 2305843009213693921)<|HG 3)<|mR<|mB IA (mB HP (mB Mn (mV 3)<|mK<|.int 89)<|mB Mn (mV 3)<|mK<|.int 1000033)<|mV 1)
def IV:GN:=Jc 4 Rj
def Wy:MS:=mR<|mB HE (mV 1)<|HM IV<|Hz (mV 0)<|Hz (HM HX<|Hz (mV 1)<|mZ)<|mZ
def KQ:GN:=Jc 2 Wy
def Ri:MS:=mS (HL (QM (mV 1)<|mU<|Hz (mB HP (mB HE (mV 2)<|mK<|.int 0)<|mV 8)<|Hz (mB HP (mB HE (mV 2)<|mK<|.int 1)<|mV 9)<|mZ)<|HG 10) (mS (HL (mB HE (mB HE (mV 5)<|mV 3)<|mB HP (mK<|.int 1)<|mV 7)<|HG 11)<|IY (M6 (mT<|mB P8 (mV 10)<|mK .non)<|M6 (mT<|mB Kk (mV 11)<|mK<|.str "")<|mT<|mB Ku (mV 11)<|mB HE (mB HE (mV 5)<|mV 10)<|mB HP (mK<|.int 1)<|mB IA (mB HP (mV 7)<|mK<|.int 2)<|mK<|.int 4) (HL (mB HP (mV 6)<|mB HE (mV 4)<|mV 11)<|HG 6)<|Je)
def dE:MS:=mS (KY 4 5<|Hz (HM Qd<|Hz (mB HE (mB HE (mV 0)<|mK<|.int 0)<|mK<|.int 1)<|mZ)<|Hz (mB HE (mB HE (mV 0)<|mK<|.int 0)<|mK<|.int 2)<|mZ)<|mS (HL (mK<|.int 0)<|HG 6)<|mS (mF (LO<|mL<|Hz (mU<|Hz (mK<|.int 0)<|Hz (mK<|.int 1)<|mZ)<|Hz (mU<|Hz (mK<|.int 1)<|Hz (mK<|.int 0)<|mZ)<|Hz (mU<|Hz (mK<|.int 0)<|Hz (IF<|mK<|.int 1)<|mZ)<|Hz (mU<|Hz (IF<|mK<|.int 1)<|Hz (mK<|.int 0)<|mZ)<|mZ) (Js 2<|gC (HG 7)<|gC (Js 2<|gC (HG 8)<|gC (HG 9)<|Jt)<|Jt)<|Ri)<|mR<|mV 6
def Qq:GN:=Jc 12 dE
def zeV:ME:=mU<|Hz (mU<|Hz (mV 0)<|Hz (mV 1)<|mZ)<|Hz (mV 2)<|mZ
def zgp:MS:=mR<|HM Qe<|Hz (Jv (KU<|mV 0) 3 [] (Js 3<|gC (HG 0)<|gC (HG 1)<|gC (HG 2)<|Jt) JH<|zeV)<|mZ
def Qr:GN:=Jc 1 zgp
def Ud:ME:=HM KQ<|Hz (mV 1)<|Hz (mV 2)<|mZ
def WO:MS:=mS (HL (mK<|.str "abcdefghijklmnopqrstuvwxyz")<|HG 1) (mS (IY (mT<|mB Mh (HM IV<|Hz (mV 0)<|Hz (mK<|.int 3)<|mZ)<|mK<|.int 0) (mR<|HM KQ<|Hz (mV 0)<|Hz (mK<|.str "abc")<|mZ)<|Je)<|mR<|UT (mK<|.str "")<|Hz (Jv (JF<|mB HP (mK<|.int 1)<|HM IV<|Hz (mV 0)<|Hz (mK<|.int 8)<|mZ) 1 [0,1] (HG 0) JH<|Ud)<|mZ)
def WS:GN:=Jc 2 WO
def Uv:ME:=HM WS<|Hz (mV 1)<|mZ
def Uw:ME:=mU<|Hz (mV 0)<|Hz (HM KQ<|Hz (mV 1)<|Hz (mL<|Hz (mK<|.int 1)<|Hz (mK<|.int 1)<|Hz (mK<|.int 2)<|Hz (mV 2)<|Hz (mK<|.int 4)<|mZ)<|mZ)<|mZ
def Rk:ME:=MH (mT<|mB Mh (HM IV<|Hz (mV 1)<|Hz (mK<|.int 4)<|mZ)<|mK<|.int 0) (HM KQ<|Hz (mV 1)<|Hz (mB HP (mV 2)<|mL<|Hz (mK<|.str "")<|mZ)<|mZ) (mK<|.str "")
def Uz:MS:=mS (HL (Jv (JF<|mK<|.int 4) 1 [0,2] (HG 0) JH<|Rk)<|HG 7) (Jr<|JL (mV 5)<|Hz (mB HP (mU<|Hz (HM KQ<|Hz (mV 0)<|Hz (mL<|Hz (mK<|.str "")<|Hz (mK<|.str "")<|Hz (mK<|.str "a")<|Hz (mK<|.str "7")<|Hz (mK<|.str "z")<|mZ)<|mZ)<|mZ)<|HM LD<|Hz (mV 7)<|mZ)<|mZ)
def dM:MS:=mS (HL (Ss<|Jv (JF<|mB HP (mK<|.int 1)<|HM IV<|Hz (mV 0)<|Hz (mK<|.int 4)<|mZ) 1 [0] (HG 0) JH<|Uv)<|HG 2)<|mS (HL (mB HP (mB HP (mK<|.int 1)<|mB IA (mB Mn (HM IV<|Hz (mV 0)<|Hz (mK<|.int 4)<|mZ)<|mK<|.int 2)<|mK<|.int 2)<|mB Mn (HM IV<|Hz (mV 0)<|Hz (mK<|.int 8)<|mZ)<|mK<|.int 7)<|HG 3)<|mS (HL (HM LD<|Hz (Jv (KU<|mV 2) 1 [0,3] (HG 0) JH<|Uw)<|mZ)<|HG 4)<|mS (HL (mL<|mZ)<|HG 5)<|mS (mF (JF<|mB HP (mK<|.int 1)<|HM IV<|Hz (mV 0)<|Hz (mV 1)<|mZ) (HG 6)<|Uz)<|mR<|mU<|Hz (mV 3)<|Hz (mV 4)<|Hz (HM LD<|Hz (mV 5)<|mZ)<|mZ
def WV:GN:=Jc 8 dM
def Ub:MS:=JR (mV 5) (mU<|Hz (HM IV<|Hz (mV 0)<|Hz (mV 2)<|mZ)<|Hz (HM IV<|Hz (mV 0)<|Hz (mV 3)<|mZ)<|mZ)<|HM IV<|Hz (mV 0)<|Hz (HM HX<|Hz (mB HE (mV 4)<|mK<|.int 2)<|mZ)<|mZ
def NI:ME:=mB HP (mV 0)<|mU<|Hz (mB QF (mV 1)<|mV 0)<|mZ
def dP:MS:=mS (KY 2 3<|Hz (mB HP (mK<|.int 1)<|HM IV<|Hz (mV 0)<|Hz (mV 1)<|mZ)<|Hz (mB HP (mK<|.int 1)<|HM IV<|Hz (mV 0)<|Hz (mV 1)<|mZ)<|mZ)<|mS (HL (HM WV<|Hz (mV 0)<|Hz (mK<|.int 5)<|mZ)<|HG 4)<|mS (HL (Nq true)<|HG 5)<|mS (mF (JF<|HM IV<|Hz (mV 0)<|Hz (mK<|.int 7)<|mZ) (HG 6)<|Ub)<|mR<|mU<|Hz (mV 4)<|Hz (mU<|Hz (mV 2)<|Hz (mV 3)<|mZ)<|Hz (HM LD<|Hz (HM Nf<|Hz (Oj 5<|Jv (OF<|mV 5) 1 [5] (HG 0) JH<|NI)<|mZ)<|mZ)<|mZ
def WY:GN:=Jc 7 dP
def Us:ME:=mU<|Hz (mV 1)<|Hz (mV 2)<|Hz (mV 0)<|mZ
def Rp:MT:=mT<|mB Mh (HM Qq<|Hz (mV 3)<|Hz (mV 4)<|Hz (mU<|Hz (mV 1)<|Hz (mV 2)<|mZ)<|Hz (mV 0)<|mZ)<|mK<|.int 0
def Ut:MS:=IY (mT<|mB Nb (mU<|Hz (mV 3)<|Hz (mV 4)<|mZ)<|mV 1) (Jr<|PH (mV 2)<|Hz (Jv (JF<|HM HX<|Hz (mB HE (mB HE (mV 0)<|mK<|.int 0)<|mK<|.int 2)<|mZ) 1 [3,4,0,1] (HG 0) Rp<|Us)<|mZ)<|Je
def Uu:MS:=mF (JF<|mB HE (mB HE (mV 0)<|mK<|.int 1)<|mK<|.int 1) (HG 4)<|Ut
def dS:MS:=mS (HL (mL<|mZ)<|HG 2)<|mS (mF (JF<|mB HE (mB HE (mV 0)<|mK<|.int 1)<|mK<|.int 0) (HG 3)<|Uu)<|mR<|mV 2
def Ux:GN:=Jc 5 dS
def dH:MS:=mS (HL (HM KQ<|Hz (mV 0)<|Hz (mL<|Hz (IF<|mK<|.int 1)<|Hz (mK<|.int 12)<|Hz (mB IP (mK<|.int 10)<|mK<|.int 30)<|Hz (IF<|mB IP (mK<|.int 10)<|mK<|.int 20)<|mZ)<|mZ)<|HG 3)<|mS (U2 4 5 6<|Hz (HM IV<|Hz (mV 0)<|Hz (mB HE (mB HE (mV 1)<|mK<|.int 1)<|mK<|.int 0)<|mZ)<|Hz (HM IV<|Hz (mV 0)<|Hz (mB HE (mB HE (mV 1)<|mK<|.int 1)<|mK<|.int 1)<|mZ)<|Hz (HM IV<|Hz (mV 0)<|Hz (HM HX<|Hz (mB HE (mB HE (mV 1)<|mK<|.int 0)<|mK<|.int 2)<|mZ)<|mZ)<|mZ)<|mS (HL (mL<|Hz (mU<|Hz (mV 3)<|Hz (mV 5)<|Hz (mV 6)<|mZ)<|Hz (mU<|Hz (mV 4)<|Hz (mV 3)<|Hz (mV 6)<|mZ)<|Hz (mU<|Hz (mV 4)<|Hz (mV 5)<|Hz (HM HX<|Hz (mB HE (mB HE (mV 1)<|mK<|.int 0)<|mK<|.int 2)<|mZ)<|mZ)<|Hz (mU<|Hz (mV 4)<|Hz (mV 5)<|Hz (IF<|mK<|.int 1)<|mZ)<|Hz (mU<|Hz (mV 4)<|Hz (mV 5)<|Hz (mV 3)<|mZ)<|Hz (mU<|Hz (mV 4)<|Hz (mV 5)<|Hz (mV 6)<|mZ)<|mZ)<|HG 7)<|mS (IY (mT<|mB PD (mV 2)<|Nq false) (mS (HL (HM KQ<|Hz (mV 0)<|Hz (HM NH<|Hz (mV 2)<|mZ)<|mZ)<|HG 8)<|HL (mB HP (mV 7)<|mL<|Hz (mB HP (mV 8)<|mU<|Hz (mB HE (mV 2)<|mV 8)<|mZ)<|Hz (mB HP (mV 8)<|mU<|Hz (mV 6)<|mZ)<|mZ)<|HG 7)<|Je)<|mR<|HM KQ<|Hz (mV 0)<|Hz (mV 7)<|mZ
def WT:GN:=Jc 9 dH
def Qt:MS:=mS (HL (HM Ux<|Hz (mV 1)<|Hz (mV 2)<|mZ)<|HG 5)<|IY (mT<|mB Ku (HM IV<|Hz (mV 0)<|Hz (mK<|.int 9)<|mZ)<|mK<|.int 0) (Jr<|JL (mV 3)<|Hz (HM WT<|Hz (mV 0)<|Hz (mV 1)<|Hz (mV 2)<|mZ)<|mZ)<|IY (mT<|mB Kk (mV 5)<|mL<|mZ) (mS (Jr<|JL (mV 3)<|Hz (HM KQ<|Hz (mV 0)<|Hz (mV 5)<|mZ)<|mZ)<|JR (mV 2) (J0 (mB HE (mV 3)<|IF<|mK<|.int 1) Lb<|Lc<|mK<|.int 2)<|mB HE (mB HE (mV 3)<|IF<|mK<|.int 1)<|mK<|.int 2)<|Je
def dQ:MS:=mS (KY 2 3<|Hz (HM Qr<|Hz (mB HE (mV 1)<|mK<|.int 2)<|mZ)<|Hz (mL<|mZ)<|mZ)<|mS (mF (JF<|HM IV<|Hz (mV 0)<|Hz (mK<|.int 13)<|mZ) (HG 4)<|Qt)<|mR<|HM LD<|Hz (mV 3)<|mZ
def WZ:GN:=Jc 6 dQ
def Uc:MS:=mS (HL (LN (JY KC Ks (mK<|.int 0) (mV 5)<|mB HE (mB HE (mV 0)<|mK<|.int 1)<|mK<|.int 0)<|LN (JY KC Ks (mK<|.int 0) (mV 6)<|mB HE (mB HE (mV 0)<|mK<|.int 1)<|mK<|.int 1)<|mB Nb (mU<|Hz (mV 5)<|Hz (mV 6)<|mZ)<|mV 2)<|HG 8) (mS (IY (Kc (LL<|mT<|mV 8)<|LL<|mT<|JY KC Ks (mK<|.int 0) (mV 7)<|HM HX<|Hz (mB HE (mB HE (mV 0)<|mK<|.int 0)<|mK<|.int 2)<|mZ) (mR<|mU<|Hz (mK<|.str "no")<|Hz (mV 4)<|mZ)<|Je)<|mS (HL (HM Qq<|Hz (mV 0)<|Hz (mV 2)<|Hz (mU<|Hz (mV 5)<|Hz (mV 6)<|mZ)<|Hz (mV 7)<|mZ)<|HG 9)<|mS (IY (mT<|mB Ku (mV 9)<|mK<|.int 0) (mR<|mU<|Hz (mK<|.str "no")<|Hz (mV 4)<|mZ)<|Je)<|mS (IY (mT<|mB Ks (mV 9)<|mB HE (mB HE (mV 0)<|mK<|.int 0)<|mK<|.int 0) (Jr<|JL (mV 3)<|Hz (mV 4)<|mZ)<|Je)<|JR (mV 2) (mU<|Hz (mV 5)<|Hz (mV 6)<|mZ)<|mV 7)
def WA:MS:=mS (KY 2 3<|Hz (HM Qr<|Hz (mB HE (mV 0)<|mK<|.int 2)<|mZ)<|Hz (mL<|mZ)<|mZ)<|mS (mF (LO<|mV 1) (Js 2<|gC (HG 4)<|gC (Js 3<|gC (HG 5)<|gC (HG 6)<|gC (HG 7)<|Jt)<|Jt)<|Uc)<|mR<|HM LD<|Hz (mV 3)<|mZ
def Uk:GN:=Jc 10 WA
def WQ:MS:=mS (HL (mU<|Hz (mK .non)<|Hz (mK .non)<|mZ)<|Js 2<|gC (HG 2)<|gC (HG 3)<|Jt) (mS (OP Uq (Hz (mV 0)<|Hz (mV 1)<|mZ) 3 4 "NoGrowing" "number"<|HL (mV 4)<|HG 2)<|mS (IY (mT<|mB Kf (mV 2)<|mK .non) (mR<|mV 3)<|Je)<|mS (IY (Kc (LL<|mT<|HM (RY<|KS MU)<|Hz (mV 2)<|Hz (mK<|.fn "NoGrowing")<|mZ)<|Kc (LL<|mT<|LX (Kr MU)<|mV 2)<|mT<|KZ "bool"<|Lo (Qw "NoGrowing") "number"<|mV 2) (mR<|mK .non)<|Je)<|mR<|mU<|Hz (mK<|.str "no")<|Hz (Lo (Qw "NoGrowing") "number"<|mV 2)<|mZ)
def Ua:GN:=Jc 5 WQ
def Q5:MS:=mS (HL (HM Ua<|Hz (mV 3)<|Hz (mV 6)<|mZ)<|HG 7) (IY (Kc (LL<|mT<|KZ "tuple"<|mV 7)<|Kc (mT<|mB OE (HM Mm<|Hz (mV 7)<|mZ)<|HM Mm<|Hz (HM Uk<|Hz (mV 3)<|Hz (mV 6)<|mZ)<|mZ)<|mT<|mB OE (HM Mm<|Hz (mU<|Hz (mV 3)<|Hz (mV 4)<|mZ)<|mZ)<|mV 5) (mR<|mK<|.bl false)<|Je)
def Te:MS:=mS (HL (HM WY<|Hz (mV 1)<|Hz (mB HE (mL<|Hz (mK<|.int 5)<|Hz (mK<|.int 5)<|Hz (mK<|.int 5)<|Hz (mK<|.int 5)<|Hz (mK<|.int 5)<|Hz (mK<|.int 5)<|Hz (mK<|.int 5)<|Hz (mK<|.int 12)<|mZ)<|HM IV<|Hz (mV 1)<|Hz (mK<|.int 8)<|mZ)<|mZ)<|HG 3)<|mS (HL (HM WZ<|Hz (mV 1)<|Hz (mV 3)<|mZ)<|HG 4)<|mS (HL (HM Mm<|Hz (mU<|Hz (mV 3)<|Hz (mV 4)<|mZ)<|mZ)<|HG 5)<|mF (KU<|mL<|Hz (mV 4)<|Hz (KW (mV 4) Lb<|Lc<|HM IV<|Hz (mV 1)<|Hz (mB HP (HM HX<|Hz (mV 4)<|mZ)<|mK<|.int 1)<|mZ)<|Hz (mU<|mZ)<|Hz (mV 4)<|mZ) (HG 6)<|Q5
def Ya:MS:=mS (HL (HM WL<|Hz (mV 0)<|mZ)<|HG 1)<|mS (mF (JF<|mK<|.int 3) (HG 2)<|Te)<|mR<|mK<|.bl true
def UW:GN:=Jc 8 Ya
open L2 PySem.Spec PyProof.Rows
def cX:Lw "NoGrowing" "number" "number" (Hx.inClass (top 6) 0):=⟨OO<|by decide +kernel,⟨_,_,_,_,rfl,fun _=>rfl⟩,rfl,rfl,rfl,rfl,fun _ _ _ _ _ _=>N1 fun _ _=>rfl⟩
section
variable {P:Pv} {w:UF} {K:Ac} {mg:Str->Option IR} {base:KM} (Z:En K mg fns QA cos) (Y:EE K mg Qy)
def RO:(["side","name","strengths"]:List Str).Nodup:=by decide +kernel
def Xz:(["_law_cell","_law_far"]:List Str).Nodup:=by decide +kernel
def U4:(["_law_x","_law_y","_law_kind"]:List Str).Nodup:=by decide +kernel
def gY:(["_law_k","_law_spring","_law_letters"]:List Str).Nodup:=by decide +kernel
def gZ:(["_law_k","_law_spring"]:List Str).Nodup:=by decide +kernel
def hG:(["_law_name","_law_spring","_law_enough"]:List Str).Nodup:=by decide +kernel
def hJ:(["_law_side","_law_spring","_law_names"]:List Str).Nodup:=by decide +kernel
def fO:(["_law_spot","_law_seed"]:List Str).Nodup:=by decide +kernel
def fP:(["_law_k","_law_x","_law_y","_law_bed","_law_there"]:List Str).Nodup:=by decide +kernel
include Z Y
theorem cB:JN P w K mg base 1 "is_whole" 3 T6 :=
 J6 (k:=0) Z (top 1) 0 ["thing","least","most"] ["thing","least","most"] fun nd f cdv A outer s H E hr=>IW.out (Iq<|JS.mk<|Jf<|O1 (MK Z (HA 0) jC)<|O1 (jW<|MK Z (HA 0) YU)<|TC<|VW Qh Qh (HA 1) (HA 0)<|HA 2)
theorem zJ:JN P w K mg base 1 "is_tuple" 2 Ws :=
 J6 (k:=0) Z (top 2) 1 ["thing","size"] ["thing","size"] fun nd f cdv A outer s H E hr=>IW.out (Iq<|JS.mk<|Jf<|O1 (MK Z (HA 0) NB)<|TC<|Vd (Ov<|Kx hr) (KG Z Ng Na<|HD (HA 0)<|HJ) (HA 1) rfl)
theorem zI:JN P w K mg base 2 "is_place" 2 Rb :=
 J6 (k:=1) Z (top 3) 2 ["bed","thing","floor"] ["bed","thing"] fun nd f cdv A outer s H E hr=>IW.out (Ii (JS.mk<|IG 2 nd<|Ig (HY hr) (HA 0)<|HI)<|Iq<|JS.mk<|Jf<|O1 (Iw (zJ Z Y) hr<|HD (HA 1)<|HD HI<|HJ)<|O1 (Iw (cB Z Y) hr<|HD (Ig (HY hr) (HA 1)<|HI)<|HD HI<|HD (Im Tw (Ig (HY hr) (HA 2)<|HI)<|HI)<|HJ)<|TC<|Iw (cB Z Y) hr<|HD (Ig (HY hr) (HA 1)<|HI)<|HD HI<|HD (Im Tw (Ig (HY hr) (HA 2)<|HI)<|HI)<|HJ)
theorem zdP:JN P w K mg base 1 "places_around" 1 T9 :=
 J6 (k:=0) Z (top 8) 3 ["place","x","y"] ["place"] fun nd f cdv A outer s H E hr=>IW.out (Ii (JS.mk<|IG 1 nd<|Ig (HY hr) (HA 0)<|HI)<|Ii (JS.mk<|IG 2 nd<|Ig (HY hr) (HA 0)<|HI)<|Iq<|JS.mk<|Jf<|IH<|JA.out<|Iv (IH<|HD (HA 1)<|HD (Im Jo (HA 2)<|HI)<|HJ)<|Iv (IH<|HD (Im Jo (HA 1)<|HI)<|HD (HA 2)<|HJ)<|Iv (IH<|HD (HA 1)<|HD (Im Tw (HA 2)<|HI)<|HJ)<|Iv (IH<|HD (Im Tw (HA 1)<|HI)<|HD (HA 2)<|HJ)<|Md)
theorem cC:JN P w K mg base 1 "sides_of" 2 Pm :=
 J6 (k:=0) Z (top 9) 4 ["bed","kind","kinds"] ["bed","kind"] fun nd f cdv A outer s H E hr=>IW.out (Ii (JS.mk<|IG 2 nd<|Ig (HY hr) (Ig (HY hr) (HA 0)<|HI)<|HI)<|Ii (Km (aA Qh QR HI (HA 1)<|KG Z Ng Na<|HD (HA 2)<|HJ) (Iq<|JS.mk<|Jf<|Rg (Ig (HY hr) (HA 2)<|HA 1) (Pg<|HI)<|Pf)<|KO)<|Iq<|JS.mk<|Jf<|IH<|JA.out<|Iv I0<|Iv I0<|Iv I0<|Iv I0<|Md)
theorem zdq:JN P w K mg base 1 "kinds_by_place" 1 WU :=
 J6 (k:=0) Z (top 10) 5 ["standing","kinds","x","y","kind"] ["standing"] fun nd f cdv A outer s H E hr=>IW.out (Ii (JS.mk<|IG 1 nd<|aC)<|Ii (LQ Bg rfl (Qo<|HA 0) (Mq rfl<|JO (sgn 2 nd)<|JO (sgn 3 nd)<|JO (sgn 4 nd)<|Ms)<|Iq<|JS.mk<|O3 (HY hr) (HA 1) (IH<|HD (HA 2)<|HD (HA 3)<|HJ)<|HA 4)<|Iq<|JS.mk<|Jf<|HA 1)
theorem zd8:JN P w K mg base 2 "names_facing" 3 Uj :=
 J6 (k:=1) Z (top 11) 6 ["bed","standing_kinds","place","names","side","near"] ["bed","standing_kinds","place"] fun nd f cdv A outer s H E hr=>IW.out (Ii (JS.mk<|IG 3 nd<|Kq<|HJ)<|Ii (LQ Bg rfl (TF rfl Z.b1<|Iw (zdP Z Y) hr<|HD (HA 2)<|HJ) (Mq rfl<|JO (sgn 4 nd)<|JO (sgn 5 nd)<|Ms)<|Iq<|Km (YG (Kx hr) (HA 5)<|HA 1) (Iq<|JS.mk<|Ny<|Pn (HA 3)<|HD (Ig (HY hr) (Iw (cC Z Y) hr<|HD (HA 0)<|HD (Ig (HY hr) (HA 1)<|HA 5)<|HJ)<|Im Mr (Im Jo (HA 4)<|HI)<|HI)<|HJ)<|Iq<|JS.mk<|Ny<|Pn (HA 3)<|HD I0<|HJ)<|Iq<|JS.mk<|Jf<|HA 3)
theorem zcB:JN P w K mg base 1 "strength_together" 3 Ur :=
 J6 (k:=0) Z (top 12) 7 ["strengths","sides","names"] ["strengths","sides","names"] fun nd f cdv A outer s H E hr=>IW.out (Iq<|JS.mk<|Jf<|KG Z (wI rfl) jE<|HD (Pe rfl rfl (NC (N':=["side","name","strengths"]) (nt:=2) (fr:=[0]) ["strengths"] rfl (by decide +kernel) (by decide +kernel) (by decide +kernel) rfl ⟨⟨rfl,by decide⟩,trivial⟩ ⟨by first | exact B0 rfl | exact BS rfl,trivial⟩) (kB rfl Z.b1 (HA 1)<|HA 2) (fun C s0 H0 fp=>Mq rfl (JO (sgn 0 RO)<|JO (sgn 1 RO)<|Ms)) (fun C s0 H0 fp=>YH (SW.sb<|Q0 (JE (Ov<|Kx hr) (HA 0) (HA 1) rfl)<|To<|JE (QS<|Kx hr) (HA 0) I0 rfl)) fun C s0 H0 fp=>Ig (HY hr) (HA 2) (HA 0))<|HJ)
theorem zff:JN P w K mg base 3 "step_price" 4 Qs :=
 J6 (k:=2) Z (top 14) 8 ["bed","strengths","standing_kinds","tile","place","names","strength"] ["bed","strengths","standing_kinds","tile"] fun nd f cdv A outer s H E hr=>IW.out (Ii (JS.mk<|IG 4 nd<|Rg (HA 3) Pf<|Pg<|HI)<|Ii (Km (SW.sb<|Qc (YG (Kx hr) (HA 4)<|HA 2)<|Tb<|Qi<|Qa<|Iw (zI Z Y) hr<|HD (HA 0)<|HD (HA 4)<|HJ) (Iq<|JS.mk<|Jf<|Ox)<|KO)<|Ii (JS.mk<|IG 5 nd<|Iw (zd8 Z Y) hr<|HD (HA 0)<|HD (HA 2)<|HD (HA 4)<|HJ)<|Ii (JS.mk<|IG 6 nd<|Iw (zcB Z Y) hr<|HD (HA 1)<|HD (Iw (cC Z Y) hr<|HD (HA 0)<|HD (Ig (HY hr) (HA 3)<|HI)<|HJ)<|HD (HA 5)<|HJ)<|Ii (Km (JE (Ov<|Kx hr) (HA 6) HI rfl) (Iq<|JS.mk<|Jf<|Ox)<|KO)<|Iq<|JS.mk<|Jf<|YI (JE YL (HA 6) (Ig (HY hr) (Ig (HY hr) (HA 0)<|HI)<|HI) rfl) HI<|HI)
theorem zc3:L9 P w K mg base 4 "wrong_ones_from" 3 "NoGrowing" "number" Ue :=
 ZW (k:=3) Z Y cX 1 (top 15) 9 ["bed","base","row","strengths","standing_kinds","found","number","tile","price"] ["bed","base","row"] fun nd C R f cdv A outer s H E hr=>Ph (OQ<|IG 3 nd<|Nl Z (bV rfl) Vs<|HD (Ig (HY hr) (Ig (HY hr) (HA 0)<|HI)<|HI)<|HJ) (Ph (OQ<|IG 4 nd<|Iw (zdq Z Y) hr<|HD (HA 1)<|HJ)<|Ph (OQ<|IG 5 nd<|Kq<|HJ)<|Ph (nS PassesOwn.leaving rfl (TF rfl Z.b1<|HA 2) (Mq rfl<|JO (sgn 6 nd)<|JO (sgn 7 nd)<|Ms)<|Ph (OQ<|IG 8 nd<|Iw (zff Z Y) hr<|JA.out<|Iv (HA 0)<|Iv (HA 3)<|Iv (HA 4)<|Iv (HA 7)<|Md)<|Ph (gP (JE Zh (HA 8) Ox rfl) (Tp<|exr R hr<|HA 6)<|nU Zm)<|Ph (OQ<|JS.out<|Km (JE (Ov<|Kx hr) (HA 8) HI rfl) (Iq<|JS.mk<|Ny<|Pn (HA 5)<|HD (HA 6)<|HJ)<|KO)<|Tp<|OQ<|O3 (HY hr) (HA 4) (Rg (HA 7) Pf<|Pg<|HI)<|Ig (HY hr) (HA 7)<|HI)<|Tp<|OQ<|Jf<|Nl Z Pk NB<|HD (HA 5)<|HJ)
theorem zfe:L9 P w K mg base 5 "wrong_ones" 2 "NoGrowing" "number" Uq :=
 ZW (k:=4) Z Y cX 1 (top 16) 10 ["bed","row"] ["bed","row"] fun nd C R f cdv A outer s H E hr=>Tp (qX (zc3 Z Y) R.fn (hr.mono<|by decide) (HD (HA 0)<|HD (Ig (HY hr) (HA 0)<|HI)<|HD (HA 1)<|HJ)<|Kn.cons<|Kn.cons<|Kn.cons Kn.nil)
theorem zc4:JN P w K mg base 1 "_law_spring_of" 1 WL :=
 J6 (k:=0) Z (top 18) 11 ["_law_script","_law_own","_law_seed","_law_far","_law_k","_law_cell","_law_part"] ["_law_script"] fun nd f cdv A outer s H E hr=>IW.out (Ii (JS.mk<|Vk (IH<|HD (Kq<|HJ)<|HD HI<|HD (Im Q4 HI<|HI)<|HJ)<|Mq rfl<|JO (sgn 1 nd)<|JO (sgn 2 nd)<|JO (sgn 3 nd)<|Ms)<|Ii (LQ Bg rfl (Mt rfl Z.b1<|HI) (sgn 4 nd)<|Iq<|JS.mk<|IG 3 nd<|Im pG (HA 3)<|Im Q4 HI<|HI)<|Ii (LQ Bg rfl (Qo<|Wl (HA 0) Pf<|Pg<|HI) (sgn 5 nd)<|Ii (JS.mk<|IG 6 nd<|Im Mr (HA 5)<|HI)<|Iq<|JS.mk<|IG 2 nd<|Im Mr (Im Jo (Im Jo (Im Jo (Im Pc (HA 2)<|HI)<|Im Pc (HA 6)<|HA 6)<|HA 5)<|HI)<|HI)<|Ii (Km (SW.sb<|Q0 (JE SQ (KG Z Ng Na<|HD (HA 0)<|HJ) HI rfl)<|To<|JE YL (Ig (HY hr) (HA 0)<|HI) (Im Q4 HI<|HI) rfl) (Iq<|JS.mk<|cH (i:=1) rfl rfl (NC (N':=["_law_cell","_law_far"]) (nt:=1) (fr:=[3]) ["_law_far"] rfl (by decide +kernel) (by decide +kernel) (by decide +kernel) rfl ⟨⟨rfl,by decide⟩,trivial⟩ ⟨by first | exact B0 rfl | exact BS rfl,trivial⟩) (Qo<|Wl (HA 0) Pf<|Pg<|HI) (fun C s0 H0 fp=>sgn 0 Xz) (fun C s0 H0 fp=>O0) (fun C s0 H0 fp=>Im Mr (KG Z wD jB<|HD (HA 0)<|HJ) (HA 1)) nd rfl rfl)<|KO)<|Iq<|JS.mk<|Jf<|vC I0 (HA 1) I0 (HA 2) I0 HI<|by decide)
theorem Ka:JN P w K mg base 1 "_law_take" 2 IV :=
 J6 (k:=0) Z (top 19) 12 ["_law_spring","_law_many","_law_digit","_law_once"] ["_law_spring","_law_many"] fun nd f cdv A outer s H E hr=>IW.out (Ii (sY Bg (SW.sb<|Q0 (JE (QS<|Kx hr) (Ig (HY hr) (HA 0)<|I0) (Kq<|HJ) rfl)<|To<|JE (Ov<|Kx hr) (Ig (HY hr) (Ig (HY hr) (HA 0)<|I0)<|HI) HI rfl)<|Iq<|JS.mk<|Ny<|jX (Ig (HY hr) (HA 0)<|I0)<|HD HI<|HJ)<|Ii (Km (JE (QS<|Kx hr) (Ig (HY hr) (HA 0)<|I0) (Kq<|HJ) rfl) (Ii (JS.mk<|IG 2 nd<|Im Mr (Ig (HY hr) (Ig (HY hr) (HA 0)<|I0)<|HI)<|HA 1)<|Ii (JS.mk<|O3 (HY hr) (Ig (HY hr) (HA 0)<|I0) HI<|Im Q9 (Ig (HY hr) (Ig (HY hr) (HA 0)<|I0)<|HI)<|HA 1)<|Iq<|JS.mk<|Jf<|HA 2)<|KO)<|Ii (JS.mk<|O3 (HY hr) (HA 0) I0<|Im Jo (Ig (HY hr) (HA 0)<|I0)<|HI)<|Ii (JS.mk<|IG 3 nd<|Im Mr (Im Pc (Im Jo (Ig (HY hr) (HA 0)<|I0)<|Im Pc (Im Pc HI<|Ig (HY hr) (HA 0)<|I0)<|Ig (HY hr) (HA 0)<|I0)<|HI)<|HI)<|Ii (JS.mk<|IG 3 nd<|Im Mr (Im Pc (HA 3)<|Im Jo (Im Jo (Im Mr (HA 3)<|HI)<|Im Pc HI<|Ig (HY hr) (HA 0)<|I0)<|HI)<|HI)<|Iq<|JS.mk<|Jf<|Im Mr (Im Jo (Im Q9 (HA 3)<|HI)<|Im Q9 (HA 3)<|HI)<|HA 1)
theorem NK:JN P w K mg base 2 "_law_of" 2 KQ :=
 J6 (k:=1) Z (top 20) 13 ["_law_spring","_law_some"] ["_law_spring","_law_some"] fun nd f cdv A outer s H E hr=>IW.out (Iq<|JS.mk<|Jf<|Ig (HY hr) (HA 1)<|Iw (Ka Z Y) hr<|HD (HA 0)<|HD (KG Z Ng Na<|HD (HA 1)<|HJ)<|HJ)
theorem cY:JN P w K mg base 1 "_law_hold" 4 Qq :=
 J6 (k:=0) Z (top 21) 14 ["_law_bed","_law_there","_law_place","_law_kind","_law_strengths","_law_kinds","_law_many","_law_side","_law_x","_law_y","_law_other","_law_name"] ["_law_bed","_law_there","_law_place","_law_kind"] fun nd f cdv A outer s H E hr=>IW.out (Ii (JS.mk<|Ta (i:=4) (j:=5) rfl nd rfl rfl (by decide) rfl rfl<|HD (Nl Z (bV rfl) Vs<|HD (Ig (HY hr) (Ig (HY hr) (HA 0)<|HI)<|HI)<|HJ)<|HD (Ig (HY hr) (Ig (HY hr) (HA 0)<|HI)<|HI)<|HJ)<|Ii (JS.mk<|IG 6 nd<|HI)<|Ii (LQ Bg rfl (TF rfl Z.b1<|Kq<|JA.out<|Iv (IH<|HD HI<|HD HI<|HJ)<|Iv (IH<|HD HI<|HD HI<|HJ)<|Iv (IH<|HD HI<|HD (O2<|HI)<|HJ)<|Iv (IH<|HD (O2<|HI)<|HD HI<|HJ)<|Md) (Mq rfl<|JO (sgn 7 nd)<|JO (Mq rfl<|JO (sgn 8 nd)<|JO (sgn 9 nd)<|Ms)<|Ms)<|Ii (JS.mk<|IG 10 nd<|oU (HY hr) (HA 1)<|IH<|HD (Im Jo (Ig (HY hr) (HA 2)<|HI)<|HA 8)<|HD (Im Jo (Ig (HY hr) (HA 2)<|HI)<|HA 9)<|HJ)<|Ii (JS.mk<|IG 11 nd<|Ig (HY hr) (Ig (HY hr) (HA 5)<|HA 3)<|Im Jo HI<|HA 7)<|Iq<|Km (SW.sb<|Q0 (JE tU (HA 10) Ox rfl)<|Q0 (JE (QS<|Kx hr) (HA 11) I0 rfl)<|To<|JE (Ov<|Kx hr) (HA 11) (Ig (HY hr) (Ig (HY hr) (HA 5)<|HA 10)<|Im Jo HI<|Im Mr (Im Jo (HA 7)<|HI)<|HI) rfl) (Iq<|JS.mk<|IG 6 nd<|Im Jo (HA 6)<|Ig (HY hr) (HA 4)<|HA 11)<|KO)<|Iq<|JS.mk<|Jf<|HA 6)
theorem cZ:JN P w K mg base 1 "_law_lain" 1 Qr :=
 J6 (k:=0) Z (top 22) 15 ["_law_tiles"] ["_law_tiles"] fun nd f cdv A outer s H E hr=>IW.out (Iq<|JS.mk<|Jf<|Nl Z (zhH rfl<|gI hr) Vs<|HD (Pe rfl rfl (cS ["_law_x","_law_y","_law_kind"] 3 [] []) (Qo<|HA 0) (fun C s0 H0 fp=>Mq rfl (JO (sgn 0 U4)<|JO (sgn 1 U4)<|JO (sgn 2 U4)<|Ms)) (fun C s0 H0 fp=>O0) fun C s0 H0 fp=>IH (HD (IH<|HD (HA 0)<|HD (HA 1)<|HJ)<|HD (HA 2)<|HJ))<|HJ)
theorem zdO:JN P w K mg base 3 "_law_name_of" 1 WS :=
 J6 (k:=2) Z (top 23) 16 ["_law_spring","_law_letters"] ["_law_spring"] fun nd f cdv A outer s H E hr=>IW.out (Ii (JS.mk<|IG 1 nd<|I0)<|Ii (Km (JE SQ (Iw (Ka Z Y) hr<|HD (HA 0)<|HD HI<|HJ) HI rfl) (Iq<|JS.mk<|Jf<|Iw (NK Z Y) hr<|HD (HA 0)<|HD I0<|HJ)<|KO)<|Iq<|JS.mk<|Jf<|oV I0<|HD (Pe rfl rfl (NC (N':=["_law_k","_law_spring","_law_letters"]) (nt:=1) (fr:=[0,1]) ["_law_spring","_law_letters"] rfl (by decide +kernel) (by decide +kernel) (by decide +kernel) rfl ⟨⟨rfl,by decide⟩,⟨⟨rfl,by decide⟩,trivial⟩⟩ ⟨by first | exact B0 rfl | exact BS rfl,⟨by first | exact B0 rfl | exact BS rfl,trivial⟩⟩) (Mt rfl Z.b1<|Im Jo HI<|Iw (Ka Z Y) hr<|HD (HA 0)<|HD HI<|HJ) (fun C s0 H0 fp=>sgn 0 gY) (fun C s0 H0 fp=>O0) fun C s0 H0 fp=>Iw (NK Z Y) hr (HD (HA 1)<|HD (HA 2)<|HJ))<|HJ)
theorem zdp:JN P w K mg base 4 "_law_house_of" 2 WV :=
 J6 (k:=3) Z (top 24) 17 ["_law_spring","_law_most","_law_names","_law_enough","_law_sticks","_law_kinds","_law_k","_law_sides"] ["_law_spring","_law_most"] fun nd f cdv A outer s H E hr=>IW.out (Ii (JS.mk<|IG 2 nd<|rK rfl rfl Z.b1 rfl Z.b1<|Pe rfl rfl (NC (N':=["_law_k","_law_spring"]) (nt:=1) (fr:=[0]) ["_law_spring"] rfl (by decide +kernel) (by decide +kernel) (by decide +kernel) rfl ⟨⟨rfl,by decide⟩,trivial⟩ ⟨by first | exact B0 rfl | exact BS rfl,trivial⟩) (Mt rfl Z.b1<|Im Jo HI<|Iw (Ka Z Y) hr<|HD (HA 0)<|HD HI<|HJ) (fun C s0 H0 fp=>sgn 0 gZ) (fun C s0 H0 fp=>O0) fun C s0 H0 fp=>Iw (zdO Z Y) hr (HD (HA 1)<|HJ))<|Ii (JS.mk<|IG 3 nd<|Im Jo (Im Jo HI<|Im Mr (Im Q9 (Iw (Ka Z Y) hr<|HD (HA 0)<|HD HI<|HJ)<|HI)<|HI)<|Im Q9 (Iw (Ka Z Y) hr<|HD (HA 0)<|HD HI<|HJ)<|HI)<|Ii (JS.mk<|IG 4 nd<|Nl Z Pk NB<|HD (Pe rfl rfl (NC (N':=["_law_name","_law_spring","_law_enough"]) (nt:=1) (fr:=[0,3]) ["_law_spring","_law_enough"] rfl (by decide +kernel) (by decide +kernel) (by decide +kernel) rfl ⟨⟨rfl,by decide⟩,⟨⟨rfl,by decide⟩,trivial⟩⟩ ⟨by first | exact B0 rfl | exact BS rfl,⟨by first | exact B0 rfl | exact BS rfl,trivial⟩⟩) (Qo<|HA 2) (fun C s0 H0 fp=>sgn 0 hG) (fun C s0 H0 fp=>O0) fun C s0 H0 fp=>IH (HD (HA 0)<|HD (Iw (NK Z Y) hr<|HD (HA 1)<|HD (Kq<|JA.out<|Iv HI<|Iv HI<|Iv HI<|Iv (HA 2)<|Iv HI<|Md)<|HJ)<|HJ))<|HJ)<|Ii (JS.mk<|IG 5 nd<|Kq<|HJ)<|Ii (LQ Bg rfl (Mt rfl Z.b1<|Im Jo HI<|Iw (Ka Z Y) hr<|HD (HA 0)<|HD (HA 1)<|HJ) (sgn 6 nd)<|Ii (JS.mk<|cH (i:=7) rfl rfl (NC (N':=["_law_side","_law_spring","_law_names"]) (nt:=1) (fr:=[0,2]) ["_law_spring","_law_names"] rfl (by decide +kernel) (by decide +kernel) (by decide +kernel) rfl ⟨⟨rfl,by decide⟩,⟨⟨rfl,by decide⟩,trivial⟩⟩ ⟨by first | exact B0 rfl | exact BS rfl,⟨by first | exact B0 rfl | exact BS rfl,trivial⟩⟩) (Mt rfl Z.b1<|HI) (fun C s0 H0 fp=>sgn 0 hJ) (fun C s0 H0 fp=>O0) (fun C s0 H0 fp=>YI (JE SQ (Iw (Ka Z Y) hr<|HD (HA 1)<|HD HI<|HJ) HI rfl) (Iw (NK Z Y) hr<|HD (HA 1)<|HD (Im Jo (HA 2)<|Kq<|HD I0<|HJ)<|HJ) I0) nd rfl rfl)<|Iq<|JS.mk<|Ny<|Pn (HA 5)<|HD (Im Jo (IH<|HD (Iw (NK Z Y) hr<|HD (HA 0)<|HD (Kq<|JA.out<|Iv I0<|Iv I0<|Iv I0<|Iv I0<|Iv I0<|Md)<|HJ)<|HJ)<|Nl Z Pk NB<|HD (HA 7)<|HJ)<|HJ)<|Iq<|JS.mk<|Jf<|IH<|HD (HA 3)<|HD (HA 4)<|HD (Nl Z Pk NB<|HD (HA 5)<|HJ)<|HJ)
theorem zd7:JN P w K mg base 5 "_law_bed_of" 2 WY :=
 J6 (k:=4) Z (top 25) 18 ["_law_spring","_law_most","_law_wide","_law_high","_law_house","_law_seed","_law_k"] ["_law_spring","_law_most"] fun nd f cdv A outer s H E hr=>IW.out (Ii (JS.mk<|Ta (i:=2) (j:=3) rfl nd rfl rfl (by decide) rfl rfl<|HD (Im Jo HI<|Iw (Ka Z Y) hr<|HD (HA 0)<|HD (HA 1)<|HJ)<|HD (Im Jo HI<|Iw (Ka Z Y) hr<|HD (HA 0)<|HD (HA 1)<|HJ)<|HJ)<|Ii (JS.mk<|IG 4 nd<|Iw (zdp Z Y) hr<|HD (HA 0)<|HD HI<|HJ)<|Ii (JS.mk<|IG 5 nd<|aC)<|Ii (LQ Bg rfl (Mt rfl Z.b1<|Iw (Ka Z Y) hr<|HD (HA 0)<|HD HI<|HJ) (sgn 6 nd)<|Iq<|JS.mk<|O3 (HY hr) (HA 5) (IH<|HD (Iw (Ka Z Y) hr<|HD (HA 0)<|HD (HA 2)<|HJ)<|HD (Iw (Ka Z Y) hr<|HD (HA 0)<|HD (HA 3)<|HJ)<|HJ)<|Iw (Ka Z Y) hr<|HD (HA 0)<|HD (KG Z Ng Na<|HD (Ig (HY hr) (HA 4)<|HI)<|HJ)<|HJ)<|Iq<|JS.mk<|Jf<|IH<|HD (HA 4)<|HD (IH<|HD (HA 2)<|HD (HA 3)<|HJ)<|HD (Nl Z Pk NB<|HD (KG Z zgk Wb<|HD (rL<|Pe rfl rfl (NC (N':=["_law_spot","_law_seed"]) (nt:=1) (fr:=[5]) ["_law_seed"] rfl (by decide +kernel) (by decide +kernel) (by decide +kernel) rfl ⟨⟨rfl,by decide⟩,trivial⟩ ⟨by first | exact B0 rfl | exact BS rfl,trivial⟩) (rR<|HA 5) (fun C s0 H0 fp=>sgn 0 fO) (fun C s0 H0 fp=>O0) fun C s0 H0 fp=>Im Jo (HA 0) (IH<|HD (sR (HY hr) (HA 1)<|HA 0)<|HJ))<|HJ)<|HJ)<|HJ)
theorem zcJ:JN P w K mg base 2 "_law_rough_ones" 2 Ux :=
 J6 (k:=1) Z (top 26) 19 ["_law_bed","_law_there","_law_found","_law_x","_law_y"] ["_law_bed","_law_there"] fun nd f cdv A outer s H E hr=>IW.out (Ii (JS.mk<|IG 2 nd<|Kq<|HJ)<|Ii (LQ Bg rfl (Mt rfl Z.b1<|Ig (HY hr) (Ig (HY hr) (HA 0)<|HI)<|HI) (sgn 3 nd)<|Iq<|LQ Bg rfl (Mt rfl Z.b1<|Ig (HY hr) (Ig (HY hr) (HA 0)<|HI)<|HI) (sgn 4 nd)<|Iq<|Km (yJ (Kx hr) (IH<|HD (HA 3)<|HD (HA 4)<|HJ)<|HA 1) (Iq<|JS.mk<|Ny<|xF (HA 2)<|HD (Pe rfl rfl (NC (N':=["_law_k","_law_x","_law_y","_law_bed","_law_there"]) (nt:=1) (fr:=[3,4,0,1]) ["_law_x","_law_y","_law_bed","_law_there"] rfl (by decide +kernel) (by decide +kernel) (by decide +kernel) rfl ⟨⟨rfl,by decide⟩,⟨⟨rfl,by decide⟩,⟨⟨rfl,by decide⟩,⟨⟨rfl,by decide⟩,trivial⟩⟩⟩⟩ ⟨by first | exact B0 rfl | exact BS rfl,⟨by first | exact B0 rfl | exact BS rfl,⟨by first | exact B0 rfl | exact BS rfl,⟨by first | exact B0 rfl | exact BS rfl,trivial⟩⟩⟩⟩) (Mt rfl Z.b1<|KG Z Ng Na<|HD (Ig (HY hr) (Ig (HY hr) (HA 0)<|HI)<|HI)<|HJ) (fun C s0 H0 fp=>sgn 0 fP) (fun C s0 H0 fp=>YH (JE SQ (Iw (cY Z Y) hr<|JA.out<|Iv (HA 3)<|Iv (HA 4)<|Iv (IH<|HD (HA 1)<|HD (HA 2)<|HJ)<|Iv (HA 0)<|Md) HI rfl)) fun C s0 H0 fp=>IH (HD (HA 1)<|HD (HA 2)<|HD (HA 0)<|HJ))<|HJ)<|KO)<|Iq<|JS.mk<|Jf<|HA 2)
theorem zdN:JN P w K mg base 3 "_law_strange" 3 WT :=
 J6 (k:=2) Z (top 27) 20 ["_law_spring","_law_bed","_law_there","_law_far","_law_x","_law_y","_law_kind","_law_some","_law_spot"] ["_law_spring","_law_bed","_law_there"] fun nd f cdv A outer s H E hr=>IW.out (Ii (JS.mk<|IG 3 nd<|Iw (NK Z Y) hr<|HD (HA 0)<|HD (Kq<|JA.out<|Iv (O2<|HI)<|Iv HI<|Iv (Im Q4 HI<|HI)<|Iv (O2<|Im Q4 HI<|HI)<|Md)<|HJ)<|Ii (JS.mk<|qS (i:=4) (j:=5) (l:=6) rfl nd rfl rfl rfl (by decide) (by decide) (by decide) rfl rfl rfl<|HD (Iw (Ka Z Y) hr<|HD (HA 0)<|HD (Ig (HY hr) (Ig (HY hr) (HA 1)<|HI)<|HI)<|HJ)<|HD (Iw (Ka Z Y) hr<|HD (HA 0)<|HD (Ig (HY hr) (Ig (HY hr) (HA 1)<|HI)<|HI)<|HJ)<|HD (Iw (Ka Z Y) hr<|HD (HA 0)<|HD (KG Z Ng Na<|HD (Ig (HY hr) (Ig (HY hr) (HA 1)<|HI)<|HI)<|HJ)<|HJ)<|HJ)<|Ii (JS.mk<|IG 7 nd<|Kq<|JA.out<|Iv (IH<|HD (HA 3)<|HD (HA 5)<|HD (HA 6)<|HJ)<|Iv (IH<|HD (HA 4)<|HD (HA 3)<|HD (HA 6)<|HJ)<|Iv (IH<|HD (HA 4)<|HD (HA 5)<|HD (KG Z Ng Na<|HD (Ig (HY hr) (Ig (HY hr) (HA 1)<|HI)<|HI)<|HJ)<|HJ)<|Iv (IH<|HD (HA 4)<|HD (HA 5)<|HD (O2<|HI)<|HJ)<|Iv (IH<|HD (HA 4)<|HD (HA 5)<|HD (HA 3)<|HJ)<|Iv (IH<|HD (HA 4)<|HD (HA 5)<|HD (HA 6)<|HJ)<|Md)<|Ii (Km (JE (kO<|Kx hr) (HA 2) vD rfl) (Ii (JS.mk<|IG 8 nd<|Iw (NK Z Y) hr<|HD (HA 0)<|HD (KG Z (zft rfl) Wb<|HD (HA 2)<|HJ)<|HJ)<|Iq<|JS.mk<|IG 7 nd<|Im Jo (HA 7)<|Kq<|HD (Im Jo (HA 8)<|IH<|HD (Ig (HY hr) (HA 2)<|HA 8)<|HJ)<|HD (Im Jo (HA 8)<|IH<|HD (HA 6)<|HJ)<|HJ)<|KO)<|Iq<|JS.mk<|Jf<|Iw (NK Z Y) hr<|HD (HA 0)<|HD (HA 7)<|HJ)
theorem zd5:JN P w K mg base 4 "_law_row_of" 2 WZ :=
 J6 (k:=3) Z (top 28) 21 ["_law_spring","_law_bed","_law_there","_law_row","_law_k","_law_some"] ["_law_spring","_law_bed"] fun nd f cdv A outer s H E hr=>IW.out (Ii (JS.mk<|Ta (i:=2) (j:=3) rfl nd rfl rfl (by decide) rfl rfl<|HD (Iw (cZ Z Y) hr<|HD (Ig (HY hr) (HA 1)<|HI)<|HJ)<|HD (Kq<|HJ)<|HJ)<|Ii (LQ Bg rfl (Mt rfl Z.b1<|Iw (Ka Z Y) hr<|HD (HA 0)<|HD HI<|HJ) (sgn 4 nd)<|Ii (JS.mk<|IG 5 nd<|Iw (zcJ Z Y) hr<|HD (HA 1)<|HD (HA 2)<|HJ)<|Iq<|Km (JE (Ov<|Kx hr) (Iw (Ka Z Y) hr<|HD (HA 0)<|HD HI<|HJ) HI rfl) (Iq<|JS.mk<|Ny<|Pn (HA 3)<|HD (Iw (zdN Z Y) hr<|HD (HA 0)<|HD (HA 1)<|HD (HA 2)<|HJ)<|HJ)<|Iq<|Km (JE (QS<|Kx hr) (HA 5) (Kq<|HJ) rfl) (Ii (JS.mk<|Ny<|Pn (HA 3)<|HD (Iw (NK Z Y) hr<|HD (HA 0)<|HD (HA 5)<|HJ)<|HJ)<|Iq<|JS.mk<|O3 (HY hr) (HA 2) (Rg (Ig (HY hr) (HA 3)<|O2<|HI) Pf<|Pg<|HI)<|Ig (HY hr) (Ig (HY hr) (HA 3)<|O2<|HI)<|HI)<|KO)<|Iq<|JS.mk<|Jf<|Nl Z Pk NB<|HD (HA 3)<|HJ)
theorem zd6:JN P w K mg base 2 "_law_due_of" 2 Uk :=
 J6 (k:=1) Z (top 29) 22 ["_law_bed","_law_row","_law_there","_law_found","_law_number","_law_x","_law_y","_law_kind","_law_inside","_law_strength"] ["_law_bed","_law_row"] fun nd f cdv A outer s H E hr=>IW.out (Ii (JS.mk<|Ta (i:=2) (j:=3) rfl nd rfl rfl (by decide) rfl rfl<|HD (Iw (cZ Z Y) hr<|HD (Ig (HY hr) (HA 0)<|HI)<|HJ)<|HD (Kq<|HJ)<|HJ)<|Ii (LQ Bg rfl (TF rfl Z.b1<|HA 1) (Mq rfl<|JO (sgn 4 nd)<|JO (Mq rfl<|JO (sgn 5 nd)<|JO (sgn 6 nd)<|JO (sgn 7 nd)<|Ms)<|Ms)<|Ii (JS.mk<|IG 8 nd<|O1 (VW Qh QR HI (HA 5)<|Ig (HY hr) (Ig (HY hr) (HA 0)<|HI)<|HI)<|O1 (VW Qh QR HI (HA 6)<|Ig (HY hr) (Ig (HY hr) (HA 0)<|HI)<|HI)<|TC<|xH (Kx hr) (IH<|HD (HA 5)<|HD (HA 6)<|HJ)<|HA 2)<|Ii (Km (SW.sb<|Qc (Qi<|Qa<|HA 8)<|Tb<|Qi<|aA Qh QR HI (HA 7)<|KG Z Ng Na<|HD (Ig (HY hr) (Ig (HY hr) (HA 0)<|HI)<|HI)<|HJ) (Iq<|JS.mk<|Jf<|IH<|HD I0<|HD (HA 4)<|HJ)<|KO)<|Ii (JS.mk<|IG 9 nd<|Iw (cY Z Y) hr<|JA.out<|Iv (HA 0)<|Iv (HA 2)<|Iv (IH<|HD (HA 5)<|HD (HA 6)<|HJ)<|Iv (HA 7)<|Md)<|Ii (Km (JE (Ov<|Kx hr) (HA 9) HI rfl) (Iq<|JS.mk<|Jf<|IH<|HD I0<|HD (HA 4)<|HJ)<|KO)<|Ii (Km (JE QR (HA 9) (Ig (HY hr) (Ig (HY hr) (HA 0)<|HI)<|HI) rfl) (Iq<|JS.mk<|Ny<|Pn (HA 3)<|HD (HA 4)<|HJ)<|KO)<|Iq<|JS.mk<|O3 (HY hr) (HA 2) (IH<|HD (HA 5)<|HD (HA 6)<|HJ)<|HA 7)<|Iq<|JS.mk<|Jf<|Nl Z Pk NB<|HD (HA 3)<|HJ)
theorem zdM:JN P w K mg base 6 "_law_told_of" 2 Ua :=
 J6 (k:=5) Z (top 30) 23 ["_law_bed","_law_row","_law_caught","_law_found","e"] ["_law_bed","_law_row"] fun nd f cdv A outer s H E hr=>IW.out (Ii (JS.mk<|Vk (IH<|HD Ox<|HD Ox<|HJ)<|Mq rfl<|JO (sgn 2 nd)<|JO (sgn 3 nd)<|Ms)<|Ii (JS.mk<|etB Y 1 3 4 (zfe Z Y) (hr.mono<|by decide) (HD (HA 0)<|HD (HA 1)<|HJ) (Kn.cons<|Kn.cons Kn.nil) nd fun x W=>IW.out (Iq<|JS.mk<|IG 2 nd<|HA 4))<|Ii (Km (JE Zh (HA 2) Ox rfl) (Iq<|JS.mk<|Jf<|HA 3)<|KO)<|Ii (Km (SW.sb<|Qc (Qi<|Qa<|eis Y Z.b1<|HD (HA 2)<|HD (efn Y 1)<|HJ)<|Qc (Qi<|Qa<|R9 Y Z.b1 Z.b1<|HA 2)<|Tb<|Qa<|MK Z (eG Y 1<|HA 2) YU) (Iq<|JS.mk<|Jf<|Ox)<|KO)<|Iq<|JS.mk<|Jf<|IH<|HD I0<|HD (eG Y 1<|HA 2)<|HJ)
theorem iB{f:Addr}{fd:FuncData}(F:LJ K "law" "law" (top 31) f fd):II P w K mg base KL 7 f fd ["_law_script"] (Pr K 1 UW) :=
 eZ (k:=6) F ["_law_script","_law_spring","_law_turn","_law_bed","_law_row","_law_kept","_law_some","_law_told"] ["_law_script"] fun nd cdv A outer s H E hr=>IW.out (Ii (JS.mk<|IG 1 nd<|Iw (zc4 Z Y) hr<|HD (HA 0)<|HJ)<|Ii (LQ Bg rfl (Mt rfl Z.b1<|HI) (sgn 2 nd)<|Ii (JS.mk<|IG 3 nd<|Iw (zd7 Z Y) hr<|HD (HA 1)<|HD (Ig (HY hr) (Kq<|JA.out<|Iv HI<|Iv HI<|Iv HI<|Iv HI<|Iv HI<|Iv HI<|Iv HI<|Iv HI<|Md)<|Iw (Ka Z Y) hr<|HD (HA 1)<|HD HI<|HJ)<|HJ)<|Ii (JS.mk<|IG 4 nd<|Iw (zd5 Z Y) hr<|HD (HA 1)<|HD (HA 3)<|HJ)<|Ii (JS.mk<|IG 5 nd<|KG Z (T7 hr.gd<|TB hr) Tj<|HD (IH<|HD (HA 3)<|HD (HA 4)<|HJ)<|HJ)<|Iq<|LQ Bg rfl (Qo<|Kq<|JA.out<|Iv (HA 4)<|Iv (Wl (HA 4) Pf<|Pg<|Iw (Ka Z Y) hr<|HD (HA 1)<|HD (Im Jo (KG Z Ng Na<|HD (HA 4)<|HJ)<|HI)<|HJ)<|Iv (IH<|HJ)<|Iv (HA 4)<|Md) (sgn 6 nd)<|Ii (JS.mk<|IG 7 nd<|Iw (zdM Z Y) hr<|HD (HA 3)<|HD (HA 6)<|HJ)<|Iq<|Km (SW.sb<|Qc (Qi<|Qa<|MK Z (HA 7) NB)<|Qc (JE YM (KG Z (T7 hr.gd<|TB hr) Tj<|HD (HA 7)<|HJ) (KG Z (T7 hr.gd<|TB hr) Tj<|HD (Iw (zd6 Z Y) hr<|HD (HA 3)<|HD (HA 6)<|HJ)<|HJ) rfl)<|Tb<|JE YM (KG Z (T7 hr.gd<|TB hr) Tj<|HD (IH<|HD (HA 3)<|HD (HA 4)<|HJ)<|HJ) (HA 5) rfl) (Iq<|JS.mk<|Jf<|Yv)<|KO)<|Iq<|JS.mk<|Jf<|Yv)
end
end L2.MP.T0
namespace L2.MP.T0
open PySem L2.MP L2.MP.Hd
open L2.MP.Hb (HW)
def Kj(q:Nat)(b t:Int):List (Key×D):=[(.inr "own",.ref q),(.inr "seed",.int b),(.inr "turn",.int t)]
def os:(("own":Str)="seed")=False:=by decide
def ot:(("own":Str)="turn")=False:=by decide
def dW:(("seed":Str)="turn")=False:=by decide
def ts:(("turn":Str)="seed")=False:=by decide
variable {st:HB}{m k:Nat}{many:Int}
section
variable {n q:Nat} {b t:Int}
def SM(h:st[n]?=some (.dk<|Kj q b t)):HE (.ref n) (.str "own") st=some (.ref q,st):=Hd.QJ h<|by simp[Ir,Kj]
def mY(h:st[n]?=some (.dk<|Kj q b t)):HE (.ref n) (.str "seed") st=some (.int b,st):=Hd.QJ h<|by simp[Ir,Kj,os]
def Y8(h:st[n]?=some (.dk<|Kj q b t)):HE (.ref n) (.str "turn") st=some (.int t,st):=Hd.QJ h<|by simp[Ir,Kj,ot,dW]
def sH(c:Int)(h:st[n]?=some (.dk<|Kj q b t)):dput st n (.str "turn") (.int c)=some (st.set n<|.dk<|Kj q b c):=by
 unfold dput;simp only[h];have:3 < sizeLine:=by decide
 simp[keyOf,this,putD,Kj,ot,dW]
def HR(n q m:Nat)(st:HB):Prop:=∃ (as:List Int) (b t:Int),st[n]?=some (.dk<|Kj q b t)/\st[q]?=some (.lst<|as.map D.int)/\q≠n/\(∀ a∈as,0<=a)/\as.length<=63/\(0<=b/\b < 2305843009213693951)/\0<=t/\t<=m
def HR.gr{st':HB}(h:HR n q m st)(g:Gr st st'):HR n q m st':=by obtain⟨as,b,t,e1,e2,r⟩:=h;exact⟨as,b,t,by rw[g.old n (qax e1)];exact e1,by rw[g.old q (qax e2)];exact e2,r⟩
def HR.up(h:HR n q m st)(hk:m<=k):HR n q k st:=by obtain⟨as,b,t,e1,e2,e3,e4,e5,e6,e7,e8⟩:=h;exact⟨as,b,t,e1,e2,e3,e4,e5,e6,e7,by omega⟩
def HR.ne(h:HR n q m st):n≠st.length/\q≠st.length:=by obtain⟨as,b,t,e1,e2,r⟩:=h;exact⟨An<|qax e1,An<|qax e2⟩
def HR.set{m l:Nat}{o:O}(h:HR n q m st)(h1:l≠n)(h2:l≠q):HR n q m (st.set l o):=by obtain⟨as,b,t,e1,e2,r⟩:=h;exact⟨as,b,t,by rw[As h1];exact e1,by rw[As h2];exact e2,r⟩
def Zk{many:Int}{v w:Option D}(hqn:q≠n):∀ (as:List Int) (st:HB) (k:Nat),st[n]?=some (.dk<|Kj q b t)->st[q]?=some (.lst<|as.map D.int)->as.length < k ->
   ∃ (as':List Int) (st':HB),JK OC Ul k [some (.ref n),some (.int many),v,w] st=some (.nx [some (.ref n),some (.int many),v,w],st')/\st'[n]?=some (.dk<|Kj q b t)/\st'[q]?=some (.lst<|as'.map D.int)/\(∀ a∈as',a∈as)/\as'.length<=as.length/\HW n q st st'
 | as,st,0,_,_,h=>absurd h<|GG _
 | as,st,k+1,h1,h2,hk=>by
   have i0:=SM h1;have e1:=Ze (st:=st++[.lst []]) (f:=q) (g:=st.length) (as:=as) (by rw[Ai (qax h2)];exact h2)<|IK st _;have h1':(st++[O.lst []])[n]?=some (.dk<|Kj q b t):=by rw[Ai (qax h1)];exact h1
   have h2':(st++[O.lst []])[q]?=some (.lst<|as.map D.int):=by rw[Ai (qax h2)];exact h2
   have i0':=SM h1';generalize hs:st++[O.lst []]=s1 at e1 h1' h2' i0';have f1:HW n q st s1:=by rw[<-hs];exact Hb.HW.app _ _ _ _
   cases as with
   | nil =>
     refine⟨[],s1,?_,h1',h2',by simp,by simp,f1⟩;have et:OC [some (.ref n),some (.int many),v,w] st=some (false,s1):=by unfold OC;simp[i0,hs,e1]
     rw[JK];simp[et]
   | cons a as =>
     have i1:HE (.ref q) (.int 0) s1=some (.int a,s1):=SJ h2' (by decide) rfl
     by_cases ha:a=0
     . subst ha;have et:OC [some (.ref n),some (.int many),v,w] st=some (true,s1):=by
         unfold OC;simp[i0,hs,e1,i0',i1,eq_int]
       have hl:Ul [some (.ref n),some (.int many),v,w] s1=some (.nx [some (.ref n),some (.int many),v,w],s1.set q (.lst<|as.map D.int)):=by
         unfold Ul;have:seqIndex? 0 ((0:Int)::as).length=some 0:=by unfold seqIndex?;simp
         simp[iW,i0',Ik,h2',Mz,show small 0=true by decide];simp at this;rw[this];simp
       obtain⟨as',s',e,g1,g2,g3,g4,g5⟩:=Zk (many:=many) (v:=v) (w:=w) hqn as (s1.set q<|.lst<|as.map D.int) k (by rw[As hqn];exact h1') (by simp[qax h2']) (by simp at hk;omega);refine⟨as',s',?_,g1,g2,fun x hx=>Ak _ (g3 x hx),by simp;omega,(f1.trans<|Hb.HW.setQ _ _ _ _).trans g5⟩;rw[JK];simp[et,hl,e]
     . refine⟨a::as,s1,?_,h1',h2',by simp,by simp,f1⟩;have et:OC [some (.ref n),some (.int many),v,w] st=some (false,s1):=by
         unfold OC;simp[i0,hs,e1,i0',i1,eq_int,ha]
       rw[JK];simp[et]
def J7(h:HR n q m st)(h1:0 < many)(h2:many < 18446744073709551616)(hm:m<=1000000):∃ (r:Int) (st':HB),IV [.ref n,.int many] st=some (.int r,st')/\0<=r/\r < many/\HR n q (m+1) st'/\HW n q st st':=by
 obtain⟨as0,b,t,en,eq0,hqn,hpos0,hlen0,⟨hb,hb2⟩,ht,ht2⟩:=h;have hm2:many < 340282366920938463463374607431768211456:=by omega
 obtain⟨as,s1,ew,en1,eq1,hsub,hlen,f1⟩:=Zk (many:=many) (v:=none) (w:=none) hqn as0 st 100 en eq0 (by omega);have hpos:∀ a∈as,0<=a:=fun a ha=>hpos0 a<|hsub a ha;have i0:=SM en1;have e1:=Ze (st:=s1++[.lst []]) (f:=q) (g:=s1.length) (as:=as) (by rw[Ai (qax eq1)];exact eq1)<|IK s1 _;have en2:(s1++[O.lst []])[n]?=some (.dk<|Kj q b t):=by rw[Ai (qax en1)];exact en1
 have eq2:(s1++[O.lst []])[q]?=some (.lst<|as.map D.int):=by rw[Ai (qax eq1)];exact eq1
 generalize hs:s1++[O.lst []]=s2 at e1 en2 eq2;have f2:HW n q st s2:=f1.trans (by rw[<-hs];exact Hb.HW.app _ _ _ _);have j0:=SM en2;have hn2:=qax en2;have hq2:=qax eq2
 cases as with
 | cons a as =>
   have j1:HE (.ref q) (.int 0) s2=some (.int a,s2):=SJ eq2 (by decide) rfl;have ha:=hpos a Ao;refine⟨a % many,s2.set q<|.lst<|(a / many::as).map D.int,Jk ?_,CH _<|by omega,CI _ h1,⟨a / many::as,b,t,by rw[As hqn];exact en2,by simp[hq2],hqn,?_,by simp at hlen ⊢;omega,⟨hb,hb2⟩,ht,by omega⟩,f2.trans<|Hb.HW.setQ _ _ _ _⟩
   . show Rj [some (.ref n),some (.int many),none,none] st=_;unfold Rj;refine HU ew ?_;refine Mp ?_;have hset:IX (.ref q) (.int 0) (.int<|a / many) s2=some (s2.set q<|.lst<|(a / many::as).map D.int):=by
       simp[IX,eq2,LY]
     have et:mT (mB Kk (mB HE (mV 0)<|mK<|.str "own")<|mL<|mZ) [some (.ref n),some (.int many),none,none] s1=some (true,s2):=by simp[i0,hs,e1]
     rw[Nt,et];show mS _ _ [some (.ref n),some (.int many),none,none] s2=_;refine HU (ρ1:=[some (.ref n),some (.int many),some (.int<|a % many),none]) (s1:=s2) (by simp[j0,j1,IA,intD,h1]) ?_;refine HU (ρ1:=[some (.ref n),some (.int many),some (.int<|a % many),none]) (s1:=s2.set q (.lst<|(a / many::as).map D.int)) (by
       simp only[OU,Lz,LP,Ye,Le,Lk,AH,AU,Ae,j0,j1,Mn,intD,h1];simp[j0,j1,h1,hm2,hset,Kh]) ?_
     simp
   . intro x hx
     rcases M2.mp hx with rfl | hx
     . exact Int.ediv_nonneg ha<|by omega
     exact hpos x<|Ak _ hx
 | nil =>
   have ep:=sH (t+1) en2;have en3:(s2.set n<|.dk<|Kj q b<|t+1)[n]?=some (.dk<|Kj q b<|t+1):=by simp[hn2]
   have eq3:(s2.set n<|.dk<|Kj q b<|t+1)[q]?=some (.lst<|([]:List Int).map D.int):=by rw[As (fun h=>hqn h.symm)];exact eq2
   have f3:HW n q st (s2.set n<|.dk<|Kj q b<|t+1):=f2.trans<|Hb.HW.setN _ _ _ _;have jt:=Y8 en2;generalize hs3:s2.set n (.dk<|Kj q b<|t+1)=s3 at ep en3 eq3 f3;have k1:=mY en3;have k2:=Y8 en3;have c1:Ja (t+1)=true:=by unfold Ja;simp;omega
   generalize hx1:(b+7919*(t+1)*(t+1))*48271 % 2305843009213693907=x1;have x10:0<=x1:=by rw[<-hx1];exact CH _<|by decide
   have x11:x1 < 2305843009213693907:=by rw[<-hx1];exact CI _<|by decide
   have c2:Ja x1=true:=by unfold Ja;simp;omega
   generalize hx2:x1*(x1 % 999983+131*(t+1)+3) % 2305843009213693921=x2;generalize hx3:x2 / 89+x2 / 1000033=x3;have c3:Ja 48271=true:=by decide
   have c4:Ja 7919=true:=by decide
   have c5:Ja 131=true:=by decide
   refine⟨x3 % many,s3,Jk ?_,CH _<|by omega,CI _ h1,⟨[],b,t+1,en3,eq3,hqn,by simp,by simp,⟨hb,hb2⟩,by omega,by push_cast;omega⟩,f3⟩;show Rj [some (.ref n),some (.int many),none,none] st=_;unfold Rj;refine HU ew ?_;have et:mT (mB Kk (mB HE (mV 0)<|mK<|.str "own")<|mL<|mZ) [some (.ref n),some (.int many),none,none] s1=some (false,s2):=by simp[i0,hs,e1]
   refine HU (ρ1:=[some (.ref n),some (.int many),none,none]) (s1:=s2) (by rw[Nt,et];rfl) ?_;have aE:∀ (u v:Int) (s:HB),HP (.int u) (.int v) s=some (.int (u+v),s):=fun u v s=>rfl;have mA:∀ (u v:Int) (s:HB),Ja u=true\/Ja v=true->Jx (.int u) (.int v) s=some (.int (u*v),s):=fun u v s h=>by
     have:(Ja u || Ja v)=true:=by rcases h with h | h <;> simp[h]
     simp[Jx,JX,MD,intD,this,Kh]
   have mD:∀ (u v:Int) (s:HB),0 < v->IA (.int u) (.int v) s=some (.int (u % v),s):=fun u v s h=>by simp[IA,intD,h]
   have fD:∀ (u v:Int) (s:HB),0 < v->v < 1000000000->Mn (.int u) (.int v) s=some (.int (u / v),s):=fun u v s h h'=>by
     have:v < 340282366920938463463374607431768211456:=by omega
     simp[Mn,intD,h,this]
   refine HU (ρ1:=[some (.ref n),some (.int many),none,none]) (s1:=s3) (by
     have en:∀ d k,IX (.ref n) (.str k) d s2=none:=fun d k=>by simp[IX,en2]
     simp only[OU,Lz,LP,Ye,Le,Lk,AH,AU,Ae,jt,aE,en,EU,KN];unfold Nr;simp only[LP,Le,Lk,AH,AU,Ae,jt,aE,ep,A9]) ?_
   refine HU (ρ1:=[some (.ref n),some (.int many),none,some (.int x1)]) (s1:=s3) (by
     simp only[Lz,LP,Le,Lk,AH,AU,Ae,k1,k2,mA 7919 _ _ (.inl c4),mA _ _ _ (.inr c1),aE,mA _ _ _ (.inr c3),mD _ _ _ (show (0:Int) < 2305843009213693907 by decide),hx1]
     rfl) ?_
   refine HU (ρ1:=[some (.ref n),some (.int many),none,some (.int x2)]) (s1:=s3) (by
     simp only[Lz,LP,Le,Lk,AH,AU,Ae,k2,mD _ _ _ (show (0:Int) < 999983 by decide),mA 131 _ _ (.inl c5),add_int,mA _ _ _ (.inl c2),mD _ _ _ (show (0:Int) < 2305843009213693921 by decide),hx2]
     rfl) ?_
   simp only[YA,LP,Le,Lk,AH,AU,Ae,fD _ _ _ (show (0:Int) < 89 by decide) (by decide),fD _ _ _ (show (0:Int) < 1000033 by decide) (by decide),add_int,hx3,mD _ _ _ h1];rfl
end
def YQ{ds:List D}{lo hi:Option Int}:Pu (.kl ds) lo hi st=some (.ref st.length,st++[.lst (cutD ds lo hi)]):=by unfold Pu;rw[Hb.kD,Kh]
theorem U7{m:ME}{ml mh:MO}{ρ:Ie}:KW m ml mh ρ st=(m ρ st).bind fun p=>(ml ρ p.2).bind fun q=>(mh ρ q.2).bind fun r=>Pu p.1 q.1 r.1 r.2:=rfl
def p60(st:HB):IP (.int 10) (.int 60) st=some (.int (10 ^ 60),st):=by
 have:(decide ((0:Int)<=60)&&decide ((Bw 10:Int)*60<=2 ^ 27))=true:=by decide +kernel
 unfold IP intD;dsimp only;rw[if_pos this];rfl
def XA{F P:Int}(h0:0 < F)(hF:F.natAbs < 2 ^ (200*k))(hk:k<=10)(p0:0 < P)(hP:P.natAbs < 2 ^ 200):NZ (.int F) (.int P) st=some (.int (F*P),st)/\0 < F*P/\(F*P).natAbs < 2 ^ (200*(k+1)):=by
 have b1:Bw F<=2 ^ 20:=Az (EL hF) (by omega);have b2:Bw P<=2 ^ 20:=Az (EL hP) (by decide);refine⟨?_,Int.mul_pos h0 p0,?_⟩
 . unfold NZ intD;dsimp only;rw[if_pos (by rw[decide_eq_true b1,decide_eq_true b2];rfl)]
 rw[Int.natAbs_mul,CZ,Dy,Nat.pow_add];exact Nat.mul_lt_mul'' hF hP
def pP:(0:Int) < 10 ^ 60/\((10:Int) ^ 60).natAbs < 2 ^ 200:=by decide +kernel
def xU{ns:List Int}(st:HB)(hl:ns.length<=63):∃ (n q:Nat) (st':HB),WL [.kl (ns.map D.int)] st=some (.ref n,st')/\HR n q 0 st'/\Gr st st':=by
 obtain⟨ms,hms,hml⟩:=Hb.qK ns none (some 63);have hp:=p60;obtain⟨p0,p1⟩:=pP;generalize hP:(10:Int) ^ 60=P at hp p0 p1;have hp18:∀ s:HB,IP (.int 10) (.int 18) s=some (.int 1000000000000000000,s):=fun s=>rfl;have a1:=IK st (.lst []);have g1:=Gr.app st [.lst []];generalize hs1:st++[O.lst []]=s1 at a1 g1
 -- the far number
 have key1:=LR (W:=⟨run 0 6,[]⟩) (g:=HG 4) (m:=WM) (ds:=run 0 6) (ρ:=[some (.kl (ns.map D.int)),some (.ref st.length),some (.int 4099),some (.int P),none,none,none]) (st:=s1)
   (Inv:=fun i ρ s=>∃ (F:Int) (x:Option D),ρ=[some (.kl (ns.map D.int)),some (.ref st.length),some (.int 4099),some (.int F),x,none,none]/\0 < F/\F.natAbs < 2 ^ (200*(i+1))/\s=s1)
   ⟨P,none,rfl,p0,p1,rfl⟩ (fun _ _ _ _ _=>rfl) (fun i d ρ s hd hI=>by
     obtain⟨F,x,rfl,hF0,hF,rfl⟩:=hI;have hi:i < 6:=by have:=qax hd;rwa [KP] at this
     obtain⟨e,q1,q2⟩:=XA (k:=i+1) (st:=s) hF0 hF (by omega) p0 p1;refine⟨[some (.kl (ns.map D.int)),some (.ref st.length),some (.int 4099),some (.int F),some d,none,none],s,[some (.kl (ns.map D.int)),some (.ref st.length),some (.int 4099),some (.int (F*P)),some d,none,none],s,rfl,?_,F*P,_,rfl,q1,q2,rfl⟩;unfold WM;simp only[Lz,LP,Le,Lk,AH,AU,Ae,hp,e]
     rfl)
 obtain⟨ρ',s',el1,F,x4,rfl,hF0,_,rfl⟩:=key1
 -- the seed
 have e2:=YQ (ds:=ns.map D.int) (lo:=none) (hi:=some 63) (st:=s');rw[hms] at e2;have a2:=IK s' (.lst (ms.map D.int));have g2:=Gr.app s' [.lst (ms.map D.int)];generalize hs2:s'++[O.lst (ms.map D.int)]=s2 at e2 a2 g2;have key2:=LR (W:=⟨ms.map D.int,[(s'.length,ms.map D.int)]⟩) (g:=HG 5) (m:=WN) (ds:=ms.map D.int) (ρ:=[some (.kl (ns.map D.int)),some (.ref st.length),some (.int 4099),some (.int F),x4,none,none]) (st:=s2)
   (Inv:=fun i ρ s=>∃ (b:Int) (x y:Option D),ρ=[some (.kl (ns.map D.int)),some (.ref st.length),some (.int b),some (.int F),x4,x,y]/\(0<=b/\b < 2305843009213693951)/\s=s2)
   ⟨4099,none,none,rfl,by decide,rfl⟩ (fun k ρ s hk hI=>by obtain⟨b,x,y,_,_,rfl⟩:=hI;exact Rf a2) (fun i d ρ s hd hI=>by
     obtain⟨b,x,y,rfl,hb,rfl⟩:=hI;rw[AD] at hd;obtain⟨c,hc,rfl⟩:=Ip hd;have c0:0<=c % 1000003:=CH _ (by decide);have c1:c % 1000003 < 1000003:=CI _ (by decide);have mD:∀ (u v:Int) (s:HB),0 < v->IA (.int u) (.int v) s=some (.int (u % v),s):=fun u v s h=>by simp[IA,intD,h]
     have mm:∀ s,Jx (.int (c % 1000003)) (.int (c % 1000003)) s=some (.int (c % 1000003*(c % 1000003)),s):=fun s=>by
       have:Ja (c % 1000003)=true:=by unfold Ja;simp;omega
       simp[Jx,JX,MD,intD,this,Kh]
     have mb:∀ s,Jx (.int b) (.int 69069) s=some (.int (b*69069),s):=fun s=>by
       have:Ja 69069=true:=by decide
       simp[Jx,JX,MD,intD,this,Kh]
     refine⟨[some (.kl (ns.map D.int)),some (.ref st.length),some (.int b),some (.int F),x4,some (.int c),y],s,[some (.kl (ns.map D.int)),some (.ref st.length),some (.int ((b*69069+c % 1000003*(c % 1000003)+c+5) % 2305843009213693951)),some (.int F),x4,some (.int c),some (.int (c % 1000003))],s,rfl,?_,_,_,_,rfl,⟨CH _ (by decide),CI _ (by decide)⟩,rfl⟩;unfold WN;refine HU (ρ1:=[some (.kl (ns.map D.int)),some (.ref st.length),some (.int b),some (.int F),x4,some (.int c),some (.int (c % 1000003))]) (s1:=s) (by
       simp only[Lz,LP,Le,Lk,AH,AU,Ae,mD _ _ _ (show (0:Int) < 1000003 by decide)]
       rfl) ?_
     generalize c % 1000003=p at *;simp only[Lz,LP,Le,Lk,AH,AU,Ae,mb,mm,add_int,mD _ _ _ (show (0:Int) < 2305843009213693951 by decide)]
     rfl)
 obtain⟨ρ',s3,el2,b,x5,x6,rfl,hb,rfl⟩:=key2
 -- the script's own numbers
 have hif:∃ (q:Nat) (as:List Int) (s4:HB),IY (M6 (mT (mB Mh (HM HX (Hz (mV 0) mZ)) (mK (.int 0)))) (mT (mB N5 (mB HE (mV 0) (mK (.int 0))) (mB IP (mK (.int 10)) (mK (.int 18)))))) (HL (Jv (KU (KW (mV 0) Lb (Lc (mK (.int 63))))) 1 [3] (HG 0) JH Rm) (HG 1)) Je [some (.kl (ns.map D.int)),some (.ref st.length),some (.int b),some (.int F),x4,x5,x6] s3
    =some (.nx [some (.kl (ns.map D.int)),some (.ref q),some (.int b),some (.int F),x4,x5,x6],s4)/\s4[q]?=some (.lst (as.map D.int))/\(∀ a∈as,0<=a)/\as.length<=63/\Gr s3 s4:=by
   have eL:HX [.kl (ns.map D.int)] s3=some (.int (ns.length:Int),s3):=by rw[iR,Af]
   have own0:s3[st.length]?=some (.lst (([]:List Int).map D.int)):=(g2.old _ (qax a1)).trans a1
   cases ns with
   | nil =>
     refine⟨st.length,[],s3,?_,own0,by simp,by simp,Gr.refl _⟩;have eL0:HX [.kl []] s3=some (.int 0,s3):=rfl;simp[eL0,Mh,K5]
   | cons c0 cs =>
     have i0:HE (.kl ((c0::cs).map D.int)) (.int 0) s3=some (.int c0,s3):=gW (by decide) rfl;have cl:(0:Int) < ((c0::cs).length:Int):=by simp
     by_cases hc:1000000000000000000<=c0
     . have e3:=YQ (ds:=(c0::cs).map D.int) (lo:=none) (hi:=some 63) (st:=s3);rw[hms] at e3;have a3:=IK s3 (.lst (ms.map D.int));have g3:=Gr.app s3 [.lst (ms.map D.int)];generalize hs4:s3++[O.lst (ms.map D.int)]=s4 at e3 a3 g3;have ec:=SV (W:=⟨ms.map D.int,[(s3.length,ms.map D.int)]⟩) (g:=HG 0) (c:=JH) (m:=Rm) (f:=D.int) (h:=fun c:Int=>D.int ((if c < 0 then -c else c) % F)) (R:=fun r=>∃ x,r=[x,some (.int F)]) (as:=ms) (ρ:=[none,some (.int F)]) (st:=s4) ⟨none,rfl⟩ (Rf a3) (fun c hc r hr=>by
         obtain⟨x,rfl⟩:=hr;refine⟨[some (.int c),some (.int F)],rfl,rfl,?_,_,rfl⟩;have mD:IA (.int (if c < 0 then -c else c)) (.int F) s4=some (.int ((if c < 0 then -c else c) % F),s4):=by simp[IA,intD,hF0]
         have eA:Oc [.int c] s4=some (.int (if c < 0 then -c else c),s4):=by simp[Oc]
         unfold Rm;simp only[LP,Ti,Q2,QP,Le,AH,AU,Ae,eA,mD])
       have em:(ms.map fun c:Int=>D.int ((if c < 0 then -c else c) % F))=(ms.map fun c:Int=>(if c < 0 then -c else c) % F).map D.int:=by rw[Be];rfl
       rw[em] at ec;have fl:fits ((ms.map fun c:Int=>(if c < 0 then -c else c) % F).map D.int).length=true:=Ll (by rw[Af,Af];omega);refine⟨s4.length,ms.map fun c:Int=>(if c < 0 then -c else c) % F,s4++[.lst ((ms.map fun c:Int=>(if c < 0 then -c else c) % F).map D.int)],?_,IK _ _,?_,by rw[Af];omega,g3.trans (Gr.app _ _)⟩
       . have ecm:Jv (KU (KW (mV 0) Lb (Lc (mK (.int 63))))) 1 [3] (HG 0) JH Rm [some (.kl ((c0::cs).map D.int)),some (.ref st.length),some (.int b),some (.int F),x4,x5,x6] s3=some (.ref s4.length,s4++[.lst ((ms.map fun c:Int=>(if c < 0 then -c else c) % F).map D.int)]):=by
           rw[Qm,Yf,U7];simp only[Le,Yb,Yc,Lk,Ae,AH,e3,Nv,Ik,a3,A9,Kh];rw[show JJ [some (.kl ((c0::cs).map D.int)),some (.ref st.length),some (.int b),some (.int F),x4,x5,x6] 1 [3]=[none,some (.int F)] from rfl,ec];simp only[Ae,fl,if_true]
         have et:M6 (mT (mB Mh (HM HX (Hz (mV 0) mZ)) (mK (.int 0)))) (mT (mB N5 (mB HE (mV 0) (mK (.int 0))) (mB IP (mK (.int 10)) (mK (.int 18))))) [some (.kl ((c0::cs).map D.int)),some (.ref st.length),some (.int b),some (.int F),x4,x5,x6] s3=some (true,s3):=by generalize ((c0::cs).length:Int)=L at eL cl;simp only[YT,QQ,LP,Ti,Q2,QP,Le,Lk,AH,Ae,eL,i0,hp18,Mh,N5,K5,decide_eq_true cl,decide_eq_true hc,if_true]
         rw[Nt,et];simp only[Ae,if_true,Lz,ecm];rfl
       intro a ha;obtain⟨c,_,rfl⟩:=PP.mp ha;exact CH _ (by omega)
     . refine⟨st.length,[],s3,?_,own0,by simp,by simp,Gr.refl _⟩;have et:M6 (mT (mB Mh (HM HX (Hz (mV 0) mZ)) (mK (.int 0)))) (mT (mB N5 (mB HE (mV 0) (mK (.int 0))) (mB IP (mK (.int 10)) (mK (.int 18))))) [some (.kl ((c0::cs).map D.int)),some (.ref st.length),some (.int b),some (.int F),x4,x5,x6] s3=some (false,s3):=by
         generalize ((c0::cs).length:Int)=L at eL cl;simp only[YT,QQ,LP,Ti,Q2,QP,Le,Lk,AH,Ae,eL,i0,hp18,Mh,N5,K5,decide_eq_true cl,decide_eq_false hc,if_true]
       rw[Nt,et];rfl
 obtain⟨q,as,s4,eif,aq,hpos,hal,g4⟩:=hif;have a5:=IK s4 (.dk []);have hq:=qax aq;refine⟨s4.length,q,(s4++[O.dk []]).set s4.length (.dk (Kj q b 0)),Jk ?_,⟨as,b,0,by simp,by rw[As (by omega),Ai hq];exact aq,by omega,hpos,hal,hb,by decide,by decide⟩,?_⟩
 . show WK [some (.kl (ns.map D.int)),none,none,none,none,none,none] st=_;unfold WK;refine HU (ρ1:=[some (.kl (ns.map D.int)),some (.ref st.length),some (.int 4099),some (.int P),none,none,none]) (s1:=s') (by simp[hs1,hp]) ?_;refine HU (ρ1:=[some (.kl (ns.map D.int)),some (.ref st.length),some (.int 4099),some (.int F),x4,none,none]) (s1:=s') (by
     have e6:JF (mK (.int 6)) [some (.kl (ns.map D.int)),some (.ref st.length),some (.int 4099),some (.int P),none,none,none] s'=some (⟨run 0 6,[]⟩,s'):=rfl;rw[Ld,e6];exact el1) ?_
   refine HU (ρ1:=[some (.kl (ns.map D.int)),some (.ref st.length),some (.int b),some (.int F),x4,x5,x6]) (s1:=s3) (by
     rw[Ld,Yf,U7];simp only[Le,Yb,Yc,Lk,Ae,AH,e2,Nv,Ik,a2,A9,Kh];exact el2) ?_
   refine HU eif ?_;rw[YA];unfold Vg;simp only[Le,Lk,AH,AU,Ae,a5,A9];rfl
 refine⟨by simp;have:=((g1.trans g2).trans g4).len;omega,fun k hk=>?_⟩;have hk4:k < s4.length:=Av hk ((g1.trans g2).trans g4).len;rw[As (by omega),Ai hk4];exact ((g1.trans g2).trans g4).old k hk
end L2.MP.T0
namespace L2.MP.T0
open PySem L2.MP L2.MP.Hd
open L2.MP.Hb (HW NP len_str)
open L2.MP.Ce (Li Kg)
variable {ds:List D}{c:Nat}
section
variable {n q m:Nat} {st:HB}
def HR.lt(h:HR n q m st):n < st.length/\q < st.length:=by obtain⟨as,b,t,h1,h2,_⟩:=h;exact⟨qax h1,qax h2⟩
def O5{l:Nat}(hp:HR n q m st)(hl:st[l]?=some (.lst ds))(h1:l≠n)(h2:l≠q)(h0:0 < ds.length)(hb:ds.length<=10000)(hm:m<=900000) :
   ∃ d st',KQ [.ref n,.ref l] st=some (d,st')/\d∈ds/\HR n q (m+1) st'/\HW n q st st':=by
 obtain⟨r,s1,e1,r0,r1,p1,f1⟩:=J7 (many:=(ds.length:Int)) hp (by omega) (by omega) (by omega);have l1:=(f1.old _ (qax hl) h1 h2).trans hl;obtain⟨d,hd⟩:∃ d,ds[r.toNat]?=some d:=⟨_,Ah<|by omega⟩
 have ix:=SJ l1 r0 hd;have el:HX [.ref l] st=some (.int (ds.length:Int),st):=by
   have:Ik st l=some ds:=by simp only[Ik,hl]
   unfold HX;simp only[this];rfl
 refine⟨d,s1,Jk ?_,AI hd,p1,f1⟩;unfold Wy;generalize (ds.length:Int)=L at *;simp[el,e1,ix]
def YK{z:Str}(hp:HR n q m st)(h0:0 < z.cps.toList.length)(hb:z.cps.toList.length<=1000)(hm:m<=900000) :
   ∃ c st',KQ [.ref n,.str z] st=some (NP c,st')/\c∈z.cps.toList/\HR n q (m+1) st'/\HW n q st st':=by
 obtain⟨r,s1,e1,r0,r1,p1,f1⟩:=J7 (many:=(z.cps.toList.length:Int)) hp (by omega) (by omega) (by omega);obtain⟨c,hc⟩:∃ c,z.cps.toList[r.toNat]?=some c:=⟨_,Ah<|by omega⟩
 have ix:HE (.str z) (.int r) s1=some (NP c,s1):=Vf (by show z.cps.size<=10000;rw[<-AK];omega) r0 (by rw[<-Bp];exact hc);have el:=len_str (z:=z) (st:=st) hb;refine⟨c,s1,Jk ?_,AI hc,p1,f1⟩;unfold Wy;generalize (z.cps.toList.length:Int)=L at *;simp[el,e1,ix]
def SY{mi:MI}{ds:List D}{gd:List (Nat×List D)}{fr:List Nat}{mb:ME}{ρ0 ρ:Ie}{P:D->D->Prop}{s0:HB}(hw:mi ρ s0=some (⟨ds,gd⟩,st))(hg:∀ s,HW n q st s->walked ⟨ds,gd⟩ s=true)(hρ:JJ ρ 1 fr=none::ρ0)(hl:ds.length<=100)(hp:HR n q m st)(hm:m<=800000)(hc:c<=100)
   (H:∀ a∈ds,∀ s m',HR n q m' s->m'<=m+10000->HW n q st s->∃ v s',mb (some a::ρ0) s=some (v,s')/\P a v/\HR n q (m'+c) s'/\HW n q s s') :
   ∃ vs s',Jv mi 1 fr (HG 0) JH mb ρ s0=some (.ref s'.length,s'++[.lst vs])/\vs.length=ds.length/\((∀ v∈vs,∃ a∈ds,P a v)/\∀ a∈ds,∃ v∈vs,P a v)/\HR n q (m+c*ds.length) s'/\HW n q st s':=by
 have cb:∀ k,k<=ds.length->c*k<=10000:=fun k hk=>by have h1:c*k<=100*100:=GY hc (by omega);omega
 have key:=Sk (W:=⟨ds,gd⟩) (g:=HG 0) (c:=JH) (m:=mb) (ds:=ds) (Inv:=fun k acc ρ s=>(∃ x,ρ=x::ρ0)/\acc.length=k/\((∀ v∈acc,∃ a∈ds,P a v)/\∀ a∈ds.take k,∃ v∈acc,P a v)/\HR n q (m+c*k) s/\HW n q st s) (acc:=[]) (ρ:=none::ρ0) (st:=st) ⟨⟨_,rfl⟩,rfl,⟨fun v hv=>absurd hv (by simp),fun v hv=>absurd hv (by simp)⟩,hp,HW.refl _ _ _⟩ (fun k a ρ s _ hI=>hg s hI.2.2.2.2) (fun k d acc ρ s hd hI=>by
   obtain⟨⟨x,rfl⟩,hl1,hP,hpot,hf⟩:=hI;have hk:=qax hd;have:=cb k (by omega);obtain⟨v,s',e,hv,p',f'⟩:=H d (AI hd) s _ hpot (by omega) hf;refine⟨some d::ρ0,s,true,s,rfl,rfl,.inl ⟨rfl,v,s',e,⟨_,rfl⟩,by simp[hl1],⟨fun u hu=>?_,fun b hb=>?_⟩,?_,hf.trans f'⟩⟩
   . rcases SL.mp hu with hu | hu
     . exact hP.1 u hu
     . cases On.mp hu;exact⟨d,AI hd,hv⟩
   . rw[Ds,hd] at hb
     rcases SL.mp hb with hb | hb
     . obtain⟨u,hu,hq⟩:=hP.2 b hb;exact⟨u,BX _ hu,hq⟩
     . cases On.mp hb
       exact⟨v,A2 _<|List.mem_singleton_self _,hv⟩
   rw[CZ,Dy,<-FB];exact p')
 obtain⟨vs,ρ',s',e,_,hl2,hP,hpot,hf⟩:=key;rw[GP] at hl2 hP;rw[Ct] at hP;refine⟨vs,s',?_,hl2,hP,hpot,hf⟩;rw[Qm,hw];simp only[Ae];rw[hρ,e];simp only[Ae];rw[if_pos (Ll<|by omega)]
def Me:Str:="abcdefghijklmnopqrstuvwxyz"
def Yp(h:c∈Me.cps.toList):48<=c/\c<=122:=by
 have:∀ c∈Me.cps.toList,48<=c/\c<=122:=by decide
 exact this c h
def lM(h:48<=c/\c<=122):Iz ⟨#[c]⟩:=⟨by simp,fun x hx=>by simp at hx;subst hx;exact h⟩
def ZQ:∀ cs:List Nat,(Hl ("":Str)<|cs.map fun c=>(⟨#[c]⟩:Str)).cps.toList=cs
 | []=>rfl
 | [c]=>rfl
 | c::d::cs=>by have ih:=ZQ (d::cs);show ((#[c]++("":Str).cps)++(Hl ("":Str)<|(d::cs).map fun c=>(⟨#[c]⟩:Str)).cps).toList=_;rw[Array.toList_append,ih];rfl
def sW(cs:List Nat):(Txt.join ("":Str)<|cs.map fun c=>(⟨#[c]⟩:Str)).cps.toList=cs:=by rw[show Txt.join ("":Str) (cs.map fun c=>(⟨#[c]⟩:Str))=Hl "" (cs.map fun c=>(⟨#[c]⟩:Str)) from StrLaws.glued_eq_join _ _];exact ZQ cs
def oW(hp:HR n q m st)(hm:m<=700000):∃ z st',WS [.ref n] st=some (.str z,st')/\Iz z/\HR n q (m+11) st'/\HW n q st st':=by
 obtain⟨r,s1,e1,r0,r1,p1,f1⟩:=J7 (many:=3) hp (by omega) (by omega)<|by omega
 by_cases hr:0 < r
 . obtain⟨c,s2,e2,hc,p2,f2⟩:=YK (z:="abc") p1 (by decide) (by decide) (by omega);have hc':c∈Me.cps.toList:=by
     have:∀ c∈("abc":Str).cps.toList,c∈Me.cps.toList:=by decide
     exact this c hc
   refine⟨⟨#[c]⟩,s2,Jk ?_,lM<|Yp hc',p2.up<|by omega,f1.trans f2⟩;unfold WO;refine HU (ρ1:=[some (.ref n),some (.str Me)]) (s1:=st) rfl<|Mp ?_;have e2':KQ [.ref n,.str "abc"] s1=some (.str ⟨#[c]⟩,s2):=e2;simp[e1,hr,e2']
 . obtain⟨k,s2,e2,k0,k1,p2,f2⟩:=J7 (many:=8) p1 (by omega) (by omega) (by omega);obtain⟨K,rfl⟩:=Bq k0;have hr1:JF (mB HP (mK<|.int 1)<|HM IV<|Hz (mV 0)<|Hz (mK<|.int 8)<|mZ) [some (.ref n),some (.str Me)] s1=some (⟨run 0<|1+K,[]⟩,s2):=by
     refine OY (M:=1+(K:Int)) (by omega) ?_ (by omega);generalize (K:Int)=KK at *;simp[e2]
   obtain⟨vs,s3,e3,l3,h3,p3,f3⟩:=SY (P:=fun _ d=>∃ c,d=NP c/\48<=c/\c<=122) (c:=1) (fr:=[0,1]) (ρ0:=[some (.ref n),some (.str Me)]) (mb:=Ud) hr1 (fun _ _=>rfl) rfl (by rw[KP];omega) p2 (by omega) (by omega) (fun a _ s m' p' hm' _=>by obtain⟨c,s',e,hc,p,f⟩:=YK (z:=Me) p' (by decide) (by decide) (by omega);refine⟨NP c,s',?_,⟨c,rfl,Yp hc⟩,p,f⟩;unfold Ud;simp[e])
   rw[KP] at l3 p3;obtain⟨cs,hcs,hcr⟩:∃ cs:List Nat,vs=cs.map NP/\∀ c∈cs,48<=c/\c<=122:=by
     have h4:∀ v∈vs,∃ c,v=NP c/\48<=c/\c<=122:=fun v hv=>let ⟨_,_,h⟩:=h3.1 v hv;h
     clear e3 l3 p3 f3 h3
     induction vs with
     | nil=>exact⟨[],rfl,fun _ h=>absurd h (by simp)⟩
     | cons v vs ih =>
       obtain⟨cs,hcs,hcr⟩:=ih fun u hu=>h4 u (Ak _ hu);obtain⟨c,rfl,hc⟩:=h4 v Ao;exact⟨c::cs,by rw[Ax,hcs],fun x hx=>by
         rcases M2.mp hx with rfl | hx
         . exact hc
         exact hcr x hx⟩
   have a3:(s3++[O.lst vs])[s3.length]?=some (.lst<|(cs.map fun c=>(⟨#[c]⟩:Str)).map D.str):=by rw[IK,hcs,Be];rfl
   have ej:=pS (z:="") (ss:=cs.map fun c=>(⟨#[c]⟩:Str)) a3 (by
     have hz:("":Str).length=0:=rfl;have:((cs.map fun c=>(⟨#[c]⟩:Str)).map (·.length)).sum<=10*(cs.map fun c=>(⟨#[c]⟩:Str)).length:=by
       clear a3 hcs hcr
       induction cs with
       | nil=>simp
       | cons c cs ih=>simp only[Ax,CW,AC] at ih ⊢;have:(⟨#[c]⟩:Str).length=1:=rfl;omega
     have lc:cs.length=1+K:=by rw[<-l3,hcs,Af]
     rw[hz,Af] at *
     omega)
   have lc:cs.length=1+K:=by rw[<-l3,hcs,Af]
   have ejc:(Txt.join ("":Str)<|cs.map fun c=>(⟨#[c]⟩:Str)).cps.toList=cs:=sW cs;refine⟨Txt.join ""<|cs.map fun c=>(⟨#[c]⟩:Str),s3++[.lst vs],Jk ?_,⟨by rw[ejc];omega,by rw[ejc];exact hcr⟩,(p3.gr<|Gr.app _ _).up<|by omega,((f1.trans f2).trans f3).trans<|HW.app _ _ _ _⟩;unfold WO;refine HU (ρ1:=[some (.ref n),some (.str Me)]) (s1:=st) rfl ?_;refine HU (ρ1:=[some (.ref n),some (.str Me)]) (s1:=s1) (Kg<|by simp[e1,hr]) ?_;generalize Jv (JF<|mB HP (mK<|.int 1)<|HM IV<|Hz (mV 0)<|Hz (mK<|.int 8)<|mZ) 1 [0,1] (HG 0) JH Ud=MC at *;simp[nN,e3,ej]
end
end L2.MP.T0
namespace L2.MP.T0
open PySem L2.MP L2.MP.Hd
open L2.MP.Hb (HW NP)
open L2.MP.Ce (Li Kg)
def Vh{val:Nat->Str}{x:Str}:∀ {i:Nat},x∈met val i->∃ j,j < i/\x=val j
 | 0,h=>absurd h<|by simp[met]
 | i+1,h=>by
   unfold met at h
   split at h
   . obtain⟨j,hj,e⟩:=Vh h;exact⟨j,by omega,e⟩
   . rcases SL.mp h with h | h
     . obtain⟨j,hj,e⟩:=Vh h;exact⟨j,by omega,e⟩
     exact⟨i,by omega,On.mp h⟩
def pC{ss:List Str}{x:Str}(h:x∈once ss):x∈ss:=by obtain⟨j,hj,e⟩:=Vh h;rw[Ay,Ah hj] at e;rw[e];exact BI hj
def NG:Iz ("":Str):=⟨by decide,fun z hz=>by rw[show ("":Str).cps.toList=[] from by decide] at hz;cases hz⟩
def Tr{α:Type}{f:α->D}:∀ {vs:List D},(∀ v∈vs,∃ a,v=f a)->∃ as:List α,vs=as.map f
 | [],_=>⟨[],rfl⟩
 | v::vs,h=>by obtain⟨as,e⟩:=Tr fun u hu=>h u<|Ak _ hu;obtain⟨a,rfl⟩:=h v Ao;exact⟨a::as,by rw[Ax,e]⟩
variable {n q m l:Nat}{st:HB}{a1 a4 a5 a6 a7:Option D}{NN:List Str}{E:Int}
def tN(hp:HR n q m st)(hm:m<=600000){a2 a3:Option D}:∃ (NN:List Str) (l:Nat) (st':HB),Ss (Jv (JF<|mB HP (mK<|.int 1)<|HM IV<|Hz (mV 0)<|Hz (mK<|.int 4)<|mZ) 1 [0] (HG 0) JH<|Uv) [some (.ref n),a1,a2,a3,a4,a5,a6,a7] st=some (.ref l,st')/\st'[l]?=some (.lst<|NN.map D.str)/\NN.length<=4/\(∀ x∈NN,Iz x)/\l≠n/\l≠q/\HR n q (m+45) st'/\HW n q st st':=by
 obtain⟨k,s1,e1,k0,k1,p1,f1⟩:=J7 (many:=4) hp (by omega) (by omega) (by omega);obtain⟨K,rfl⟩:=Bq k0;have hr1:JF (mB HP (mK<|.int 1)<|HM IV<|Hz (mV 0)<|Hz (mK<|.int 4)<|mZ) [some (.ref n),a1,a2,a3,a4,a5,a6,a7] st=some (⟨run 0<|1+K,[]⟩,s1):=by refine OY (M:=1+(K:Int)) (by omega) ?_ (by omega);generalize (K:Int)=KK at *;simp[e1]
 obtain⟨vs,s2,e2,l2,h2,p2,f2⟩:=SY (P:=fun _ d=>∃ z,d=.str z/\Iz z) (c:=11) (fr:=[0]) (ρ0:=[some (.ref n)]) (mb:=Uv) hr1 (fun _ _=>rfl) rfl (by rw[KP];omega) p1 (by omega) (by omega) (fun a _ s m' p' hm' _=>by obtain⟨z,s',e,hz,p,f⟩:=oW p' (by omega);refine⟨.str z,s',?_,⟨z,rfl,hz⟩,p,f⟩;unfold Uv;simp[e])
 rw[KP] at l2 p2;obtain⟨ss,rfl⟩:=Tr (f:=D.str) fun v hv=>let ⟨_,_,z,e,_⟩:=h2.1 v hv;⟨z,e⟩
 have hss:∀ x∈ss,Iz x:=fun x hx=>by obtain⟨_,_,z,e,hz⟩:=h2.1 (.str x)<|PP.mpr ⟨x,hx,rfl⟩;cases e;exact hz
 rw[Af] at l2;have a2':=IK s2<|.lst<|ss.map D.str;have lo:(once ss).length<=ss.length:=Vv _ _;have pm:(OA<|once ss).Perm (once ss):=C2 _ _;have p3:=p2.gr<|Gr.app s2 [.lst (ss.map D.str)];obtain⟨s3,h3⟩:∃ s3,s3=s2++[O.lst (ss.map D.str)]:=⟨_,rfl⟩
 rw[<-h3] at p3 a2' e2;have ne:=p3.lt;refine⟨OA<|once ss,s3.length,s3++[.lst ((OA<|once ss).map D.str)],?_,IK _ _,by rw[pm.length_eq];omega,fun x hx=>hss x (pC<|pm.mem_iff.mp hx),by omega,by omega,(p3.gr<|Gr.app _ _).up<|by omega,((f1.trans f2).trans (by rw[h3];exact HW.app _ _ _ _)).trans<|HW.app _ _ _ _⟩;have d1:ss.length<=4000:=by omega
 have d2:(once ss).length < 64:=by omega
 unfold Ss;simp only[e2,Ae,Ik,a2',cP,decide_eq_true d1,decide_eq_true d2,Bool.and_self,if_true]
def xW{NN:List Str}(hp:HR n q m st)(hm:m<=600000)(hl:st[l]?=some (.lst<|NN.map D.str))(h1:l≠n)(h2:l≠q)(hN:NN.length<=4)(hn:∀ x∈NN,Iz x)(e0:1<=E)(e1:E<=4) :
   ∃ (stk:List (Str×Int)) (st':HB),HM LD (Hz (Jv (KU<|mV 2) 1 [0,3] (HG 0) JH<|Uw)<|mZ) [some (.ref n),a1,some (.ref l),some (.int E),a4,a5,a6,a7] st=some (.tup (stk.map Ko),st')/\stk.length<=4/\(∀ p∈stk,Iz p.1/\1<=p.2/\p.2<=4)/\(∀ x∈NN,x∈stk.map (·.1))/\HR n q (m+4) st'/\HW n q st st':=by
 have hw:KU (mV 2) [some (.ref n),a1,some (.ref l),some (.int E),a4,a5,a6,a7] st=some (⟨NN.map D.str,[(l,NN.map D.str)]⟩,st):=by generalize NN.map D.str=ND at *;simp[Nv,Ik,hl]
 obtain⟨vs,s2,e2,l2,h3,p2,f2⟩:=SY (P:=fun a d=>∃ x k,a=.str x/\d=Ko (x,k)/\1<=k/\k<=4) (c:=1) (fr:=[0,3]) (ρ0:=[some (.ref n),some (.int E)]) (mb:=Uw) hw (fun s f=>by
     have:=bO<|(f.old _ (qax hl) h1 h2).trans hl;simp[walked,this]) rfl (by rw[Af];omega) hp (by omega) (by omega) (fun a ha s m' p' hm' _=>by
   obtain⟨x,hx,rfl⟩:=PP.mp ha;have pp:=p'.gr<|Gr.app s [.lst [.int 1,.int 1,.int 2,.int E,.int 4]];have ne:=p'.lt;obtain⟨d,s',e,hd,p,f⟩:=O5 (l:=s.length) pp (IK s _) (by omega) (by omega) (by simp) (by simp) (by omega);obtain⟨k,rfl,hk⟩:∃ k,d=.int k/\1<=k/\k<=4:=by
     simp only[AW,AS,or_false] at hd
     rcases hd with rfl | rfl | rfl | rfl | rfl
     . exact⟨1,rfl,by omega⟩
     . exact⟨1,rfl,by omega⟩
     . exact⟨2,rfl,by omega⟩
     . exact⟨E,rfl,e0,e1⟩
     exact⟨4,rfl,by omega⟩
   refine⟨Ko (x,k),s',?_,⟨x,k,rfl,rfl,hk⟩,p,(HW.app _ _ _ _).trans f⟩;unfold Uw Ko;simp[e])
 rw[Af] at l2 p2;obtain⟨stk,rfl⟩:=Tr (f:=Ko) fun v hv=>let ⟨_,_,x,k,_,e,_⟩:=h3.1 v hv;⟨(x,k),e⟩
 rw[Af] at l2;have et:=Pl<|IK s2<|.lst<|stk.map Ko;refine⟨stk,s2++[.lst (stk.map Ko)],?_,by omega,fun p hp'=>?_,fun x hx=>?_,(p2.gr<|Gr.app _ _).up<|by omega,f2.trans<|HW.app _ _ _ _⟩
 . simp only[Ti,Q2,QP,e2,Ae];exact et
 . obtain⟨a,ha,x,k,rfl,e,hk⟩:=h3.1 (Ko p)<|PP.mpr ⟨p,hp',rfl⟩;obtain⟨y,hy,e'⟩:=PP.mp ha;cases e';unfold Ko at e;obtain⟨p1,p2⟩:=p;simp only[D.tup.injEq,GQ,D.str.injEq,D.int.injEq,and_true] at e;obtain⟨rfl,rfl⟩:=e;exact⟨hn _ hy,hk⟩
 obtain⟨v,hv,y,k,e,e',_⟩:=h3.2 (.str x)<|PP.mpr ⟨x,hx,rfl⟩;cases e;obtain⟨p,hp',rfl⟩:=PP.mp hv;unfold Ko at e';obtain⟨p1,p2⟩:=p;simp only[D.tup.injEq,GQ,D.str.injEq,D.int.injEq,and_true] at e';obtain⟨rfl,rfl⟩:=e';exact PP.mpr ⟨_,hp',rfl⟩
variable {s:HB}
def QG{o:O}(f:HW n q st s)(h:st.length<=l):HW n q st (s.set l o) :=
 ⟨by simpa using f.len,fun k hk h1 h2=>by rw[As (by omega)];exact f.old k hk h1 h2⟩
variable {M:Int}
def gN{a:D}{NN:List Str}(hp:HR n q m st)(hm:m<=800000)(hl:st[l]?=some (.lst<|NN.map D.str))(h1:l≠n)(h2:l≠q)(hN:NN.length<=4)(hn:∀ x∈NN,Iz x) :
   ∃ z s',Rk [some a,some (.ref n),some (.ref l)] st=some (.str z,s')/\(Iz z/\(z=""\/z∈NN))/\HR n q (m+2) s'/\HW n q st s':=by
 obtain⟨r,s1,e1,r0,r1,p1,f1⟩:=J7 (many:=4) hp (by omega) (by omega)<|by omega
 by_cases hr:0 < r
 . have l1:=(f1.old _ (qax hl) h1 h2).trans hl;have p2:=p1.gr (Gr.app s1 [.lst [.str ""]]);have a2:=IK s1 (.lst [.str ""]);have l2:(s1++[O.lst [.str ""]])[l]?=some (.lst<|NN.map D.str):=(Ai<|qax l1).trans l1;have f2:=f1.trans (HW.app n q s1 [.lst [.str ""]]);generalize hs2:s1++[O.lst [.str ""]]=s2 at *;have ea:=Zj l2 a2 (by simp;omega);have p3:=p2.gr (Gr.app s2 [.lst (NN.map D.str++[.str ""])]);have f3:=f2.trans (HW.app n q s2 [.lst (NN.map D.str++[.str ""])]);have a3:=IK s2 (.lst<|NN.map D.str++[.str ""]);have ne:=p2.ne;obtain⟨d,s4,e4,hd,p4,f4⟩:=O5 p3 a3 (by omega) (by omega) (by simp) (by simp;omega) (by omega);generalize hs3:s2++[O.lst (NN.map D.str++[.str ""])]=s3 at *;obtain⟨z,rfl,hz⟩:∃ z,d=.str z/\(Iz z/\(z=""\/z∈NN)):=by
     rcases SL.mp hd with hd | hd
     . obtain⟨z,hz,rfl⟩:=PP.mp hd;exact⟨z,rfl,hn z hz,.inr hz⟩
     rw[On.mp hd];exact⟨"",rfl,NG,.inl rfl⟩
   refine⟨z,s4,?_,hz,p4.up<|by omega,f3.trans f4⟩;unfold Rk;simp[Hd.QO,e1,hr,hs2,ea,e4]
 refine⟨"",s1,?_,⟨NG,.inl rfl⟩,p1.up<|by omega,f1⟩;unfold Rk;simp[Hd.QO,e1,hr]
def gX{NN:List Str}{kl:Nat}{SK:D}{L:List D}(hp:HR n q m st)(hm:m<=700000)(hl:st[l]?=some (.lst<|NN.map D.str))(h1:l≠n)(h2:l≠q)(hN:NN.length<=4)(hn:∀ x∈NN,Iz x)(hk:st[kl]?=some (.lst L))(h3:kl≠n)(h4:kl≠q)(hL:L.length<=1000) :
   ∃ k l2 s',Uz [some (.ref n),some (.int M),some (.ref l),some (.int E),some SK,some (.ref kl),a6,a7] st=some (.nx [some (.ref n),some (.int M),some (.ref l),some (.int E),some SK,some (.ref kl),a6,some (.ref l2)],s'.set kl (.lst<|L++[Jl k]))/\MZ NN k/\HR n q (m+10) s'/\HW n q st s':=by
 obtain⟨vs,s2,e2,l2,h5,p2,f2⟩:=SY (P:=fun _ d=>∃ z,d=.str z/\(Iz z/\(z=""\/z∈NN))) (c:=2) (fr:=[0,2]) (ρ0:=[some (.ref n),some (.ref l)]) (mb:=Rk) (Va (m:=mK (.int 4)) (ρ:=[some (.ref n),some (.int M),some (.ref l),some (.int E),some SK,some (.ref kl),a6,a7]) (st:=st) (k:=4) rfl<|by omega) (fun _ _=>rfl) rfl (by rw[KP];omega) hp (by omega) (by omega) (fun a _ s m' p' hm' f'=>by obtain⟨z,s',e,hz,p,f⟩:=gN (a:=a) p' (by omega) ((f'.old _ (qax hl) h1 h2).trans hl) h1 h2 hN hn;exact⟨.str z,s',e,⟨z,rfl,hz⟩,p,f⟩)
 rw[KP] at l2 p2;obtain⟨ss,rfl⟩:=Tr (f:=D.str) fun v hv=>let ⟨_,_,z,e,_⟩:=h5.1 v hv;⟨z,e⟩
 have hss:∀ x∈ss,Iz x/\(x=""\/x∈NN):=fun x hx=>by obtain⟨_,_,z,e,hz⟩:=h5.1 (.str x)<|PP.mpr ⟨x,hx,rfl⟩;cases e;exact hz
 rw[Af] at l2;have a3:=IK s2<|.lst<|ss.map D.str;have p3:=p2.gr<|Gr.app s2 [.lst (ss.map D.str)];have f3:=f2.trans<|HW.app n q s2 [.lst (ss.map D.str)];have ne2:=p2.ne;generalize hs3:s2++[O.lst (ss.map D.str)]=s3 at *;have a4:=IK s3 (.lst [.str "",.str "",.str "a",.str "7",.str "z"]);have p4:=p3.gr (Gr.app s3 [.lst [.str "",.str "",.str "a",.str "7",.str "z"]]);have f4:=f3.trans (HW.app n q s3 [.lst [.str "",.str "",.str "a",.str "7",.str "z"]]);have ne3:=p3.ne;have b4:(s3++[O.lst [.str "",.str "",.str "a",.str "7",.str "z"]])[s2.length]?=some (.lst<|ss.map D.str):=(Ai<|qax a3).trans a3;obtain⟨d,s5,e5,hd,p5,f5⟩:=O5 p4 a4 (by omega) (by omega) (by simp) (by simp) (by omega);have b5:=(f5.old _ (qax b4) (by omega)<|by omega).trans b4;generalize hs4:s3++[O.lst [.str "",.str "",.str "a",.str "7",.str "z"]]=s4 at *;obtain⟨z,rfl,hz⟩:∃ z,d=.str z/\Iz z:=by
   simp only[AW,AS,or_false] at hd
   rcases hd with rfl | rfl | rfl | rfl | rfl
   . exact⟨"",rfl,NG⟩
   . exact⟨"",rfl,NG⟩
   . exact⟨"a",rfl,⟨by decide,by decide⟩⟩
   . exact⟨"7",rfl,⟨by decide,by decide⟩⟩
   exact⟨"z",rfl,⟨by decide,by decide⟩⟩
 have fAll:=f4.trans f5;have k5:=(fAll.old _ (qax hk) h3 h4).trans hk;have k3:Ik s3 kl=some L:=by simp only[Ik,(f3.old _ (qax hk) h3 h4).trans hk]
 have et:=Pl b5;have ead:=Tg (st:=s5) (a:=[.str z]) (b:=ss.map D.str) (by simp) (by simp;omega);have eap:=append_at (x:=Jl (z::ss)) k5 (by omega);refine⟨z::ss,s2.length,s5,?_,⟨z,ss,rfl,hz,l2,hss⟩,p5.up<|by omega,fAll⟩;unfold Uz;refine HU (ρ1:=[some (.ref n),some (.int M),some (.ref l),some (.int E),some SK,some (.ref kl),a6,some (.ref s2.length)]) (s1:=s3) (by rw[Lz,e2];rfl) ?_;have ek:D.tup ([D.str z]++ss.map D.str)=Jl (z::ss):=rfl;rw[ek] at ead;generalize Jl (z::ss)=KD at *;generalize ss.map D.str=SD at *;simp[k3,hs4,e5,et,ead,eap]
def fdi(u v:Int)(s:HB)(h:0 < v)(h':v < 1000000000):Mn (.int u) (.int v) s=some (.int (u / v),s):=by
 have:v < 340282366920938463463374607431768211456:=by omega
 simp[Mn,intD,h,this]
def mdi(u v:Int)(s:HB)(h:0 < v):IA (.int u) (.int v) s=some (.int (u % v),s):=by simp[IA,intD,h]
def uH(hp:HR n q m st)(hm:m<=500000)(m0:0 < M)(m1:M<=12):∃ (e:Int) (stk:List (Str×Int)) (ks:List (List Str)) (st':HB),WV [.ref n,.int M] st=some (OV e stk ks,st')/\L7 e stk ks/\HR n q (m+200) st'/\HW n q st st':=by
 obtain⟨NN,l,s1,e1,l1,hN,hn,ln,lq,p1,f1⟩:=tN (a1:=some (.int M)) (a2:=none) (a3:=none) (a4:=none) (a5:=none) (a6:=none) (a7:=none) hp (by omega);obtain⟨r2,s2,e2,r20,r21,p2,f2⟩:=J7 (many:=4) p1 (by omega) (by omega) (by omega);obtain⟨r3,s3,e3,r30,r31,p3,f3⟩:=J7 (many:=8) p2 (by omega) (by omega) (by omega);have l3:=((f2.trans f3).old _ (qax l1) ln lq).trans l1;obtain⟨E,hE⟩:∃ E:Int,E=1+r2 / 2 % 2+r3 / 7:=⟨_,rfl⟩
 obtain⟨stk,s4,e4,hsl,hst,hsn,p4,f4⟩:=xW (E:=E) (a1:=some (.int M)) (a4:=none) (a5:=none) (a6:=none) (a7:=none) p3 (by omega) l3 ln lq hN hn (by omega) (by omega);have l4:=(f4.old _ (qax l3) ln lq).trans l3;have a5:=IK s4<|.lst [];have p5:=p4.gr<|Gr.app s4 [.lst []];have f5:=(((f1.trans f2).trans f3).trans f4).trans<|HW.app n q s4 [.lst []];have ne4:=p4.ne;have l5:(s4++[O.lst []])[l]?=some (.lst<|NN.map D.str):=(Ai<|qax l4).trans l4;have lt5:l < s4.length:=qax l4;have g4:st.length<=s4.length:=(((f1.trans f2).trans f3).trans f4).len;generalize hs5:s4++[O.lst []]=s5 at *;obtain⟨r6,s6,e6,r60,r61,p6,f6⟩:=J7 (many:=M) p5 (by omega) (by omega) (by omega);obtain⟨K,rfl⟩:=Bq r60;have l6:=(f6.old _ (qax l5) ln lq).trans l5;have k6:=(f6.old _ (qax a5) (by omega)<|by omega).trans a5;obtain⟨SK,hSK⟩:∃ SK:D,SK=.tup (stk.map Ko):=⟨_,rfl⟩
 have hr1:JF (mB HP (mK<|.int 1)<|HM IV<|Hz (mV 0)<|Hz (mV 1)<|mZ) [some (.ref n),some (.int M),some (.ref l),some (.int E),some SK,some (.ref s4.length),none,none] s5=some (⟨run 0<|1+K,[]⟩,s6):=by refine OY (M:=1+(K:Int)) (by omega) ?_ (by omega);generalize (K:Int)=KK at *;simp[e6]
 have key:=LR (W:=⟨run 0<|1+K,[]⟩) (g:=HG 6) (m:=Uz) (ds:=run 0 (1+K)) (ρ:=[some (.ref n),some (.int M),some (.ref l),some (.int E),some SK,some (.ref s4.length),none,none]) (st:=s6)
   (Inv:=fun k ρ s=>(∃ a6 a7,ρ=[some (.ref n),some (.int M),some (.ref l),some (.int E),some SK,some (.ref s4.length),a6,a7])/\HR n q (m+60+10*k) s/\HW n q st s/\s[l]?=some (.lst<|NN.map D.str)/\∃ ks:List (List Str),ks.length=k/\(∀ x∈ks,MZ NN x)/\s[s4.length]?=some (.lst<|ks.map Jl))
   ⟨⟨_,_,rfl⟩,p6.up<|by omega,f5.trans f6,l6,[],rfl,fun _ h=>absurd h (by simp),k6⟩ (fun _ _ _ _ _=>rfl) (fun k d ρ s hd hI=>by
     obtain⟨⟨a6,a7,rfl⟩,pk,fk,lk,ks,hkl,hks,hk⟩:=hI;obtain⟨hi,rfl⟩:=OZ hd;obtain⟨kd,l2,s',e,hkd,p',f'⟩:=gX (M:=M) (E:=E) (SK:=SK) (a6:=some (.int (k:Int))) (a7:=a7) pk (by omega) lk ln lq hN hn hk (by omega) (by omega) (by rw[Af];omega);have lt':s4.length < s'.length:=Av (qax hk) f'.len;refine⟨_,s,_,_,rfl,e,⟨_,_,rfl⟩,(p'.set (by omega)<|by omega).up<|by omega,QG (fk.trans f') g4,?_,ks++[kd],by simp[hkl],fun x hx=>?_,?_⟩
     . rw[As (by omega)];exact (f'.old _ (qax lk) ln lq).trans lk
     . rcases SL.mp hx with hx | hx
       . exact hks x hx
       rw[On.mp hx];exact hkd
     rw[AF lt',BP];rfl)
 obtain⟨ρ',s7,el,⟨b6,b7,rfl⟩,p7,f7,l7,ks,hkl,hks,k7⟩:=key;rw[KP] at p7 hkl;have et:=Pl k7;refine⟨E,stk,ks,s7,Jk ?_,⟨by omega,by omega,by omega,hst,by omega,by omega,fun k hk=>?_⟩,p7.up<|by omega,f7⟩
 . unfold dM;refine HU (ρ1:=[some (.ref n),some (.int M),some (.ref l),none,none,none,none,none]) (s1:=s1) (by
     show HL _ _ [some (.ref n),some (.int M),none,none,none,none,none,none] st=_;rw[Lz,e1];rfl) ?_
   refine HU (ρ1:=[some (.ref n),some (.int M),some (.ref l),some (.int E),none,none,none,none]) (s1:=s3) (by
     rw[hE];simp[e2,e3,fdi,mdi]) ?_
   refine HU (ρ1:=[some (.ref n),some (.int M),some (.ref l),some (.int E),some SK,none,none,none]) (s1:=s4) (by
     rw[Lz,e4,hSK];rfl) ?_
   refine HU (ρ1:=[some (.ref n),some (.int M),some (.ref l),some (.int E),some SK,some (.ref s4.length),none,none]) (s1:=s5) (by
     simp[hs5]) ?_
   refine HU (ρ1:=[some (.ref n),some (.int M),some (.ref l),some (.int E),some SK,some (.ref s4.length),b6,b7]) (s1:=s7) (by
     rw[Ld,hr1];exact el) ?_
   unfold OV;rw[<-hSK];generalize ks.map Jl=KD at *;simp[et]
 obtain⟨f,ds,ek,hf,hl,hok⟩:=(hks k hk).ex;exact⟨f,ds,ek,hf,hl,fun x hx=>⟨(hok x hx).1,(hok x hx).2.imp id<|hsn x⟩⟩
open L2.MP.Hn (Jm Wz Ji Pp)
def tD(t:Tl):D:=Il<|ID t
theorem uP(ts:List Tl):Jm ts=.tup (ts.map tD):=rfl
def ze2{ts:List Tl}(hl:st[l]?=some (.lst<|ts.map tD))(h64:ts.length < 64):Nf [.ref l] st=some (.ref st.length,st++[.lst ((Ji ts).map tD)]):=by exact Wz hl h64
variable {x y k:Int}
def qQ{t:Nat}(hk:QF (.ref t) (.tup [.int x,.int y]) s=some (.int k,s)):NI [some (.tup [.int x,.int y]),some (.ref t)] s=some (.tup [.int x,.int y,.int k],s):=by have ea:HP (.tup [.int x,.int y]) (.tup [.int k]) s=some (.tup [.int x,.int y,.int k],s):=Tg (by simp) (by simp);unfold NI;simp[hk,ea]
noncomputable abbrev Jz (n:Nat) (M w h:Int) (hd:D) (t:Nat) (v:Option D):Ie:=[some (.ref n),some (.int M),some (.int w),some (.int h),some hd,some (.ref t),v]
variable {P:List Tl}{w h:Int}{v:Option D}
def rM{d:Nat}{hd0:D}(hd:st[d]?=some (.dt<|P.map HF))(nd:IC P)(h64:P.length < 64):∃ st',HM LD (Hz (HM Nf<|Hz (Oj 5<|Jv (OF<|mV 5) 1 [5] (HG 0) JH<|NI)<|mZ)<|mZ) (Jz n M w h hd0 d v) st=some (Jm (Ji P),st')/\Gr st st':=by
 have hlt:=qax hd;have ewk:Sw (.ref d) st=some (⟨J9<|P.map HF,[]⟩,st.set d (.ft<|P.map HF)):=by unfold Sw;simp only[hd]
 have a3:(st.set d<|.ft<|P.map HF)[d]?=some (.ft<|P.map HF):=by simp[hlt]
 have back:(st.set d (.ft<|P.map HF)++[O.lst (P.map tD)]).set d (.dt<|P.map HF)=st++[.lst (P.map tD)]:=by
   rw[List.set_append_left _ _ (by simpa using hlt),List.set_set]
   congr 1
   apply Ej;intro i
   by_cases hi:i=d
   . subst hi;rw[AF hlt,hd]
   rw[As (fun z=>hi z.symm)]
 have a4:(st.set d (.ft<|P.map HF)++[O.lst (P.map tD)])[d]?=some (.ft<|P.map HF):=by rw[Ai (by simpa using hlt)];exact a3
 have ls:(st.set d<|.ft<|P.map HF).length=st.length:=by simp
 generalize hs3:st.set d (.ft<|P.map HF)=s3 at ewk a3 back a4 ls;have R9:J9 (P.map HF)=P.map fun t=>D.tup [.int t.1,.int t.2.1]:=by unfold J9;rw[Be];rfl
 have ec:Kd ⟨J9<|P.map HF,[]⟩ (HG 0) JH NI (J9<|P.map HF) [none,some (.ref d)] s3=some (P.map tD,s3):=by
   rw[R9];refine SV (R:=fun ρ=>∃ x,ρ=[x,some (.ref d)]) ⟨none,rfl⟩ rfl fun t ht ρ hρ=>?_;obtain⟨x,rfl⟩:=hρ;have hv:=YR nd ht;have hk:QF (.ref d) (.tup [.int t.1,.int t.2.1]) s3=some (.int t.2.2,s3):=by have e1:keysOf [.int t.1,.int t.2.1]=some (HF t).1:=rfl;simp only[QF,P7,a3,e1,A9,Ae,hv]
   exact⟨[some (.tup [.int t.1,.int t.2.1]),some (.ref d)],rfl,rfl,qQ hk,⟨_,rfl⟩⟩
 have fl:fits (P.map tD).length=true:=Ll (by rw[Af];omega);have es:=ze2 (IK st<|.lst<|P.map tD) h64;have et:=Pl<|IK (st++[.lst (P.map tD)])<|.lst<|(Ji P).map tD;refine⟨st++[.lst (P.map tD)]++[.lst ((Ji P).map tD)],?_,(Gr.app _ _).trans<|Gr.app _ _⟩;have ecm:Jv (OF<|mV 5) 1 [5] (HG 0) JH NI (Jz n M w h hd0 d v) st=some (.ref st.length,s3++[.lst (P.map tD)]):=by have:OF (mV 5) (Jz n M w h hd0 d v) st=some (⟨J9<|P.map HF,[]⟩,s3):=ewk;rw[Qm,this];simp only[Ae];rw[show JJ (Jz n M w h hd0 d v) 1 [5]=[none,some (.ref d)] from rfl,ec];simp only[Ae,fl,if_true,ls]
 have eth:Oj 5 (Jv (OF<|mV 5) 1 [5] (HG 0) JH<|NI) (Jz n M w h hd0 d v) st=some (.ref st.length,st++[.lst (P.map tD)]):=by unfold Oj;simp only[AH,AU,ecm,Ae];unfold Vn;rw[hd,a4];show Hu _ (some<|List.set _ _ _)=_;rw[back];rfl
 rw[uP];generalize (Ji P).map tD=B at *;generalize P.map tD=A at *;generalize st++[O.lst A]=s4 at *;generalize s4++[O.lst B]=s5 at *;generalize Oj 5 (Jv (OF<|mV 5) 1 [5] (HG 0) JH<|NI)=MT at *;simp[eth,es,et]
def lU{t:Nat}{L:Int}{hd KK:D}{s1 s2 s3 s4:HB}(i2:HE hd (.int 2) s=some (KK,s))(el:HX [KK] s=some (.int L,s))(e1:IV [.ref n,.int L] s=some (.int k,s1))(e2:IV [.ref n,.int w] s1=some (.int x,s2))(e3:IV [.ref n,.int h] s2=some (.int y,s3))(ed:dput s3 t (.tup [.int x,.int y]) (.int k)=some s4) :
   Ub (Jz n M w h hd t v) s=some (.nx (Jz n M w h hd t v),s4):=by
 unfold Ub;rw[OU];have c1:HL (HM IV<|Hz (mV 0)<|Hz (HM HX<|Hz (mB HE (mV 4)<|mK<|.int 2)<|mZ)<|mZ) (N6 IX (mV 5)<|mU<|Hz (HM IV<|Hz (mV 0)<|Hz (mV 2)<|mZ)<|Hz (HM IV<|Hz (mV 0)<|Hz (mV 3)<|mZ)<|mZ) (Jz n M w h hd t v) s=none:=by simp[i2,el,e1,e2,e3,IX]
 rw[c1,KN];unfold Nr;simp[i2,el,e1,e2,e3,ed]
def VQ{P:List Tl}:Jb P x y=none ↔ ∀ t∈P,¬ (t.1=x/\t.2.1=y):=by unfold Jb;simp
variable {t:Tl}
def Ra(hn:Jb P t.1 t.2.1=none):IE P t=P++[t]:=by have h1:=VQ.mp hn;unfold IE;rw[if_neg];intro z;obtain⟨u,hu,z⟩:=List.any_eq_true.mp z;unfold JI at z;rw[Ar] at z;exact h1 u hu ⟨of_decide_eq_true z.1,of_decide_eq_true z.2⟩
def oX(nd:IC (P++[t])):Jb P t.1 t.2.1=none:=by refine VQ.mpr fun u hu z=>?_;have:=(List.pairwise_append.mp nd).2.2 u hu t (by simp);unfold JI at this;simp[z.1,z.2] at this
def ZL:∀ {ts acc:List Tl},IC (acc++ts)->ts.foldl IE acc=acc++ts
 | [],acc,_=>by simp
 | t::ts,acc,nd=>by
   have nd':IC ((acc++[t])++ts):=by simpa using nd
   have n1:IC (acc++[t]):=(List.pairwise_append.mp nd').1;rw[GO,Ra (oX n1),ZL nd'];simp
def Vt{ts:List Tl}(nd:IC ts):Lr ts=ts:=by have:=ZL (ts:=ts) (acc:=[]) (by simpa using nd);simpa[Lr] using this
def oY{a b:List Tl}(h:a.Perm b)(nd:IC b):IC a:=by
 refine (List.Perm.pairwise_iff (fun {x y} z=>?_) h).mpr nd;unfold JI at *;rw[Bool.and_eq_false_iff] at *
 rcases z with z | z
 . exact .inl<|by simpa using fun q=>(of_decide_eq_false z) q.symm
 exact .inr<|by simpa using fun q=>(of_decide_eq_false z) q.symm
structure UN(w h:Int):Prop where
 w0:1<=w
 w1:w<=12
 h0:1<=h
 h1:h<=12
def iY(hp:HR n q m st)(hm:m<=400000)(m0:1<=M)(m1:M<=12):∃ (e:Int) (stk:List (Str×Int)) (ks:List (List Str)) (w h:Int) (sd:List Tl) (st':HB),Y7 (WY [.ref n,.int M] st=some (HZ e stk ks w h sd,st')) (L7 e stk ks) (UN w h) ((∀ t∈sd,Kw w h ks.length t)/\IC sd) (sd.length<=6) (HR n q (m+300) st') (HW n q st st'):=by
 obtain⟨r1,s1,e1,r10,r11,p1,f1⟩:=J7 (many:=M) hp (by omega) (by omega) (by omega);obtain⟨r2,s2,e2,r20,r21,p2,f2⟩:=J7 (many:=M) p1 (by omega) (by omega) (by omega);obtain⟨e,stk,ks,s3,e3,hs,p3,f3⟩:=uH (M:=5) p2 (by omega) (by omega) (by omega);have a4:=IK s3<|.dt [];have p4:=p3.gr<|Gr.app s3 [.dt []];have f4:=((f1.trans f2).trans f3).trans<|HW.app n q s3 [.dt []];have ne3:=p3.ne;have g3:st.length<=s3.length:=((f1.trans f2).trans f3).len;generalize hs4:s3++[O.dt []]=s4 at *;obtain⟨r5,s5,e5,r50,r51,p5,f5⟩:=J7 (many:=7) p4 (by omega) (by omega) (by omega);obtain⟨K,rfl⟩:=Bq r50;have a5:=(f5.old _ (qax a4) (by omega)<|by omega).trans a4;obtain⟨hd,hhd⟩:∃ hd,hd=OV e stk ks:=⟨_,rfl⟩
 have i2:∀ s,HE hd (.int 2) s=some (.tup (ks.map Jl),s):=fun s=>by rw[hhd];exact Jh (by decide) rfl
 have el:∀ s,HX [.tup (ks.map Jl)] s=some (.int (ks.length:Int),s):=fun s=>by rw[Oz,Af]
 have hlo:=hs.lo;have hhi:=hs.hi;have hr1:JF (HM IV<|Hz (mV 0)<|Hz (mK<|.int 7)<|mZ) (Jz n M (1+r1) (1+r2) hd s3.length none) s4=some (⟨run 0 K,[]⟩,s5):=by refine OY (M:=(K:Int)) rfl ?_ (by omega);generalize (K:Int)=KK at *;simp[e5]
 have key:=LR (W:=⟨run 0 K,[]⟩) (g:=HG 6) (m:=Ub) (ds:=run 0 K) (ρ:=Jz n M (1+r1) (1+r2) hd s3.length none) (st:=s5)
   (Inv:=fun k ρ s=>(∃ v,ρ=Jz n M (1+r1) (1+r2) hd s3.length v)/\HR n q (m+210+3*k) s/\HW n q st s/\∃ l:List Tl,l.length<=k/\(∀ t∈l,Kw (1+r1) (1+r2) ks.length t)/\IC l/\s[s3.length]?=some (.dt<|l.map HF))
   ⟨⟨_,rfl⟩,p5.up<|by omega,f4.trans f5,[],Ag _,by simp,Dq,a5⟩ (fun _ _ _ _ _=>rfl) (fun k d ρ s hd' hI=>by
     obtain⟨⟨v,rfl⟩,pk,fk,l,hl,hT,nd,hk⟩:=hI;obtain⟨hi,rfl⟩:=OZ hd';obtain⟨c,t1,g1,c0,c1,q1,h1⟩:=J7 (many:=(ks.length:Int)) pk (by omega) (by omega) (by omega);obtain⟨x,t2,g2,x0,x1,q2,h2⟩:=J7 (many:=1+r1) q1 (by omega) (by omega) (by omega);obtain⟨y,t3,g3',y0,y1,q3,h3⟩:=J7 (many:=1+r2) q2 (by omega) (by omega) (by omega);have f13:=(h1.trans h2).trans h3;have at3:=(f13.old _ (qax hk) (by omega)<|by omega).trans hk;have ed:=O9 (x:=x) (y:=y) (k:=c) at3 (by omega);have hlt:=qax at3;refine⟨Jz n M (1+r1) (1+r2) hd s3.length<|some<|.int (k:Int),s,_,_,rfl,lU (i2 s) (el s) g1 g2 g3' ed,⟨_,rfl⟩,(q3.set (by omega)<|by omega).up<|by omega,QG (fk.trans f13) g3,IE l (x,y,c),?_,ZJ hT ⟨x0,x1,y0,y1,c0,c1⟩,oG nd,by rw[AF hlt]⟩;have:=VU l (x,y,c)
     omega)
 obtain⟨ρ',s6,e6,⟨v,rfl⟩,p6,f6,l,hl,hT,nd,a6⟩:=key;rw[KP] at p6 hl;obtain⟨s7,e7,g7⟩:=rM (n:=n) (M:=M) (w:=1+r1) (h:=1+r2) (hd0:=hd) (v:=v) a6 nd (by omega);have hperm:=Pp l;refine⟨e,stk,ks,1+r1,1+r2,Ji l,s7,Jk ?_,hs,⟨by omega,by omega,by omega,by omega⟩,⟨fun t ht=>hT t (hperm.mem_iff.mp ht),oY hperm nd⟩,by rw[hperm.length_eq];omega,(p6.gr g7).up<|by omega,f6.trans<|HW.of g7⟩;unfold dP;refine HU (ρ1:=[some (.ref n),some (.int M),some (.int<|1+r1),some (.int<|1+r2),none,none,none]) (s1:=s2) (by simp[e1,e2]) ?_;refine HU (ρ1:=[some (.ref n),some (.int M),some (.int<|1+r1),some (.int<|1+r2),some hd,none,none]) (s1:=s3) (by rw[<-hhd] at e3;simp[e3]) ?_;refine HU (ρ1:=Jz n M (1+r1) (1+r2) hd s3.length none) (s1:=s4) (by simp[hs4]) ?_;refine HU (ρ1:=Jz n M (1+r1) (1+r2) hd s3.length v) (s1:=s6) (by rw[Ld,hr1];exact e6) ?_;unfold HZ;rw[<-hhd];generalize HM LD (Hz (HM Nf<|Hz (Oj 5<|Jv (OF<|mV 5) 1 [5] (HG 0) JH<|NI)<|mZ)<|mZ)=MT at *;simp[e7]
end L2.MP.T0
namespace L2.MP.T0
open PySem L2.MP L2.MP.Hd
open L2.MP.Hn (Jm Ji Pp)
open L2.MP.Ce (Li Kg)
def Kz(stk:List (Str×Int))(ks:List (List Str))(P:List Tl)(x y k:Int):Int:=((Jq (Lg ks k)<|names4 ks P x y).map fun p=>sv stk p.1).sum
structure Ctx(bed:D)(e:Int)(stk:List (Str×Int))(ks:List (List Str))(w h:Int):Prop where
 at_:∃ hs:D,(∀ s:HB,HE bed (.int 0) s=some (hs,s))/\(∀ s:HB,HE hs (.int 0) s=some (.int e,s))/\(∀ s:HB,HE hs (.int 1) s=some (.tup (stk.map Ko),s))/\∀ s:HB,HE hs (.int 2) s=some (.tup (ks.map Jl),s)
 fl:∀ s:HB,HE bed (.int 1) s=some (.tup [.int w,.int h],s)
 hs:L7 e stk ks
 fo:UN w h
variable {e w h:Int}
def Ctx.bed{bed:D}{e w h:Int}{stk:List (Str×Int)}{ks:List (List Str)}(c:Ctx bed e stk ks w h):K9 bed stk ks:=let ⟨hs,i0,_,i1,i2⟩:=c.at_;⟨hs,i0,i1,i2⟩
def Ctx.ks{bed:D}{e w h:Int}{stk:List (Str×Int)}{ks:List (List Str)}(c:Ctx bed e stk ks w h):L6 (stk.map (·.1)) ks:=⟨by have:=c.hs.hi;omega,c.hs.kd⟩
def Ctx.stk{bed:D}{e w h:Int}{stk:List (Str×Int)}{ks:List (List Str)}(c:Ctx bed e stk ks w h):∀ p∈stk,1<=p.2/\p.2<=4:=fun p hp=>(c.hs.nm p hp).2
def jF{stk:List (Str×Int)}{ks:List (List Str)}{sd:List Tl}(hs:L7 e stk ks)(hf:UN w h):Ctx (HZ e stk ks w h sd) e stk ks w h :=
 ⟨⟨OV e stk ks,fun _=>Jh (by decide) rfl,fun _=>Jh (by decide) rfl,fun _=>Jh (by decide) rfl,fun _=>Jh (by decide) rfl⟩,fun _=>Jh (by decide) rfl,hs,hf⟩
variable {B KD:D}{t d:Nat}{k m X Y:Int}{a10 a11:Option D}{st:HB}
def iD{a b:Int}{S:Int}{r:Option D}(hd:Qg st t=true)(hl:look st t (.tup [.int (a+X),.int (b+Y)])=some r) :
   QM (mV 1) (mU<|Hz (mB HP (mB HE (mV 2)<|mK<|.int 0)<|mV 8)<|Hz (mB HP (mB HE (mV 2)<|mK<|.int 1)<|mV 9)<|mZ) [some B,some (.ref t),some (.tup [.int a,.int b]),some (.int k),some (.ref d),some KD,some (.int m),some (.int S),some (.int X),some (.int Y),a10,a11] st=some (r.getD .non,st):=by
 have x0:HE (.tup [.int a,.int b]) (.int 0) st=some (.int a,st):=Jh (by decide) rfl;have x1:HE (.tup [.int a,.int b]) (.int 1) st=some (.int b,st):=Jh (by decide) rfl;have f2:fits 2=true:=by decide
 have hb:So st t (.tup [.int (a+X),.int (b+Y)])=some r:=by unfold So;rw[hl,Kh]
 unfold QM;simp[hd,x0,x1,f2,hb]
inductive PZ (KD:D) (d:Nat) (S:Int) (z:Str) (o:D) (v:Int) (st:HB):Prop
 | no (h1:o=.non) (h2:v=0)
 | em (j:Int) (h1:o=.int j) (h2:Kk (.str z) (.str "") st=some (.bl false,st)) (h3:v=0)
 | ne (j:Int) (K2:D) (z2:Str) (h1:o=.int j) (h2:Kk (.str z) (.str "") st=some (.bl true,st)) (h3:HE KD (.int j) st=some (K2,st)) (h4:HE K2 (.int (1+(S+2) % 4)) st=some (.str z2,st)) (h5:Ku (.str z) (.str z2) st=some (.bl false,st)) (h6:v=0)
 | eq (j:Int) (K2:D) (z2:Str) (h1:o=.int j) (h2:Kk (.str z) (.str "") st=some (.bl true,st)) (h3:HE KD (.int j) st=some (K2,st)) (h4:HE K2 (.int (1+(S+2) % 4)) st=some (.str z2,st)) (h5:Ku (.str z) (.str z2) st=some (.bl true,st)) (h6:HE (.ref d) (.str z) st=some (.int v,st))
variable {T:D}
def mJ{P K1 o:D}{S v:Int}{z:Str}
   (eg:QM (mV 1) (mU<|Hz (mB HP (mB HE (mV 2)<|mK<|.int 0)<|mV 8)<|Hz (mB HP (mB HE (mV 2)<|mK<|.int 1)<|mV 9)<|mZ) [some B,some T,some P,some (.int k),some (.ref d),some KD,some (.int m),some (.int S),some (.int X),some (.int Y),a10,a11] st=some (o,st))
   (e1:HE KD (.int k) st=some (K1,st)) (e2:HE K1 (.int<|1+S) st=some (.str z,st)) (r:PZ KD d S z o v st) :
   ∃ y10 y11,Ri [some B,some T,some P,some (.int k),some (.ref d),some KD,some (.int m),some (.int S),some (.int X),some (.int Y),a10,a11] st=some (.nx [some B,some T,some P,some (.int k),some (.ref d),some KD,some (.int<|m+v),some (.int S),some (.int X),some (.int Y),y10,y11],st):=by
 have m4:IA (.int<|S+2) (.int 4) st=some (.int ((S+2) % 4),st):=Yn (by decide);unfold Ri;refine⟨some o,some<|.str z,HU (ρ1:=[some B,some T,some P,some (.int k),some (.ref d),some KD,some (.int m),some (.int S),some (.int X),some (.int Y),some o,a11]) (s1:=st) (by rw[Lz,eg];rfl) ?_⟩;refine HU (ρ1:=[some B,some T,some P,some (.int k),some (.ref d),some KD,some (.int m),some (.int S),some (.int X),some (.int Y),some o,some (.str z)]) (s1:=st) (by simp[e1,e2]) ?_
 cases r with
 | no h1 h2 =>
   subst h1 h2;have n1:P8 .non .non st=some (.bl false,st):=rfl;simp[n1]
 | em j h1 h2 h3 =>
   subst h1 h3;have n1:P8 (.int j) .non st=some (.bl true,st):=rfl;simp[n1,h2]
 | ne j K2 z2 h1 h2 h3 h4 h5 h6 =>
   subst h1 h6;have n1:P8 (.int j) .non st=some (.bl true,st):=rfl;simp[n1,h2,h3,m4,h4,h5]
 | eq j K2 z2 h1 h2 h3 h4 h5 h6 =>
   subst h1;have n1:P8 (.int j) .non st=some (.bl true,st):=rfl;simp[n1,h2,h3,m4,h4,h5,h6]
variable {a c f:Str}{P:List Tl}{i:Nat}{s1 s2:HB}{x y I:Int}
section
def PB:ME:=mL<|Hz (mU<|Hz (mK<|.int 0)<|Hz (mK<|.int 1)<|mZ)<|Hz (mU<|Hz (mK<|.int 1)<|Hz (mK<|.int 0)<|mZ)<|Hz (mU<|Hz (mK<|.int 0)<|Hz (IF<|mK<|.int 1)<|mZ)<|Hz (mU<|Hz (IF<|mK<|.int 1)<|Hz (mK<|.int 0)<|mZ)<|mZ
def off:Nat->Int×Int
 | 0=>(0,1)
 | 1=>(1,0)
 | 2=>(0,-1)
 | _=>(-1,0)
def Qv(p:Int×Int):D:=.tup [.int p.1,.int p.2]
def Kb:List D:=[Qv (off 0),Qv (off 1),Qv (off 2),Qv (off 3)]
def pB{e:D}(h:Kb[i]?=some e):i < 4/\e=Qv (off i):=by
 have hi:i < 4:=qax h;refine⟨hi,?_⟩
 match i,hi,h with
 | 0,_,h=>exact (Ap h).symm
 | 1,_,h=>exact (Ap h).symm
 | 2,_,h=>exact (Ap h).symm
 | 3,_,h=>exact (Ap h).symm
def uG{H0 KDv SDv P:D}{m':Int}{y7 y8 y9 y10 y11:Option D}(e0:∀ s:HB,HE B (.int 0) s=some (H0,s))(e1:∀ s:HB,HE H0 (.int 1) s=some (SDv,s))(e2:∀ s:HB,HE H0 (.int 2) s=some (KDv,s))(ed:Qd [SDv] st=some (.ref d,s1))
   (el:mF (LO PB) (Js 2<|gC (HG 7)<|gC (Js 2<|gC (HG 8)<|gC (HG 9)<|Jt)<|Jt) Ri [some B,some T,some P,some (.int k),some (.ref d),some KDv,some (.int 0),none,none,none,none,none] s1=some (.nx [some B,some T,some P,some (.int k),some (.ref d),some KDv,some (.int m'),y7,y8,y9,y10,y11],s2)) :
   Qq [B,T,P,.int k] st=some (.int m',s2):=by
 refine Jk ?_;unfold dE;refine HU (ρ1:=[some B,some T,some P,some (.int k),some (.ref d),some KDv,none,none,none,none,none,none]) (s1:=s1) (by simp[e0,e1,e2,ed]) ?_;refine HU (ρ1:=[some B,some T,some P,some (.int k),some (.ref d),some KDv,some (.int 0),none,none,none,none,none]) (s1:=s1) (by simp) ?_;refine HU el ?_;simp
def bt(stk:List (Str×Int))(a b:Str):Int:=if (a==b&&a != "")=true then sv stk a else 0
def uV(stk:List (Str×Int))(S N:List Str):((Jq S N).map fun p=>sv stk p.1).sum=((S.zip N).map fun p=>bt stk p.1 p.2).sum:=by
 unfold Jq
 induction S.zip N with
 | nil=>rfl
 | cons p l ih =>
   rw[Ex,Ax,CW,<-ih];unfold bt
   split
   . rw[Ax,CW]
   rw[F0]
variable {bed:D} {stk:List (Str×Int)} {ks:List (List Str)}
noncomputable abbrev RN (ks:List (List Str)) (P:List Tl) (x y:Int) (i:Nat):Str:=Ni ks P (x+(off i).1,y+(off i).2) ((i+2) % 4)
def sb(stk:List (Str×Int))(ks:List (List Str))(P:List Tl)(x y k:Int):Nat->Int
 | 0=>0
 | i+1=>sb stk ks P x y k i+bt stk ((Lg ks k).getD i "") (RN ks P x y i)
def jS{b d:Str}(hs:Lg ks k=[a,b,c,d]):sb stk ks P x y k 4=Kz stk ks P x y k:=by unfold Kz;rw[uV,hs];simp only[sb,hs,RN,off,names4,List.zip_cons_cons,List.zip_nil_right,Ax,Cp,CW,Hg,List.getD_cons_zero,List.getD_cons_succ,Int.add_zero,F0];rw[show y+-1=y - 1 from rfl,show x+-1=x - 1 from rfl];simp only[Nat.reduceAdd,Nat.reduceMod,Int.add_assoc]
def Yy(h:(a != "")=true):a≠"":=by
 rintro rfl
 revert h
 decide
def ZC{S:List Str}(hl:S.length=4)(hi:i < 4)(hI:I=1+(i:Int)):HE (Jl (f::S)) (.int I) st=some (.str (S.getD i ""),st):=by
 subst hI;refine Jh (by omega) ?_;have:(1+(i:Int)).toNat=i+1:=by omega
 rw[this,Ax,AU,AD,Ay,Ah (by omega)];rfl
def iZ(c:Ctx bed e stk ks w h)(hP:∀ t∈P,0<=t.2.2/\t.2.2 < (ks.length:Int))(hd:st[d]?=some (.dk<|KA stk))(k0:0<=k)(k1:k < (ks.length:Int))(hi:i < 4) :
   PZ (.tup<|ks.map Jl) d (i:Int) ((Lg ks k).getD i "") (((Jb P (x+(off i).1)<|y+(off i).2).map D.int).getD .non) (bt stk ((Lg ks k).getD i "")<|RN ks P x y i) st:=by
 have at4:∀ {a b c d:Str},([a,b,c,d]:List Str).getD i ""∈[a,b,c,d]:=fun {a b c d}=>by rw[Ay,Ah (by simpa using hi)];exact BI _
 unfold RN Ni;dsimp only
 cases hf:Jb P (x+(off i).1) (y+(off i).2) with
 | none =>
   refine .no rfl ?_;unfold bt;rw[if_neg];intro z;have z2:=Bool.and_eq_true_iff.mp z;have z1:(Lg ks k).getD i ""="":=eq_of_beq z2.1;exact Yy z2.2 z1
 | some j =>
   obtain⟨t,ht,rfl⟩:=TH hf;obtain⟨j0,j1⟩:=hP t ht;obtain⟨f,a0,a1,a2,a3,e1,es,ok1⟩:=Pb c.ks k0 k1;obtain⟨g,b0,b1,b2,b3,e2,es2,ok2⟩:=Pb c.ks j0 j1;dsimp only;rw[es,es2];have hj:(i+2) % 4 < 4:=by omega
   have o1:=ok1 _ (at4 (a:=a0) (b:=a1) (c:=a2) (d:=a3));have o2:Iz (([b0,b1,b2,b3]:List Str).getD ((i+2) % 4) ""):=(ok2 _ (by
     rw[Ay,Ah (by simpa using hj)];exact BI _)).1
   have i3:HE (.tup<|ks.map Jl) (.int t.2.2) st=some (Jl [g,b0,b1,b2,b3],st):=Jh j0 (by rw[AD,e2];rfl);have i4:=ZC (st:=st) (f:=g) (S:=[b0,b1,b2,b3]) (i:=(i+2) % 4) rfl hj (I:=1+((i:Int)+2) % 4) (by omega);have n1:=ne_str (st:=st) (Om o1.1.ab)<|Om NG.ab;have q1:=eq_str (st:=st) (Om o1.1.ab)<|Om o2.ab;show PZ _ _ _ _ (.int t.2.2) _ _;generalize hA:([a0,a1,a2,a3]:List Str).getD i ""=A at *;generalize hB:([b0,b1,b2,b3]:List Str).getD ((i+2) % 4) ""=B at *;unfold bt
   cases hn:(A != "") with
   | false =>
     rw[hn] at n1;rw[GS,if_neg (by decide)];exact .em _ rfl n1 rfl
   | true =>
     rw[hn] at n1;rw[G7]
     cases hq:(A==B) with
     | false =>
       rw[hq] at q1;rw[if_neg (by decide)];exact .ne _ _ _ rfl n1 i3 i4 q1 rfl
     | true =>
       rw[hq] at q1;rw[if_pos rfl];exact .eq _ _ _ rfl n1 i3 i4 q1<|Hd.QJ hd (U6 c.stk<|o1.2.resolve_left<|Yy hn).1
def Y0(c:Ctx bed e stk ks w h)(hP:∀ t∈P,0<=t.2.2/\t.2.2 < (ks.length:Int)){t:Nat}(ht:st[t]?=some (.dt<|P.map HF))(k0:0<=k)(k1:k < (ks.length:Int)) :
   ∃ st',Qq [bed,.ref t,.tup [.int x,.int y],.int k] st=some (.int (Kz stk ks P x y k),st')/\Gr st st':=by
 obtain⟨hs,i0,ie,i1,i2⟩:=c.at_;have ed:=YX (stk:=stk) (st:=st) (by have:=c.hs.sl;omega);have g1:=Gr.app st [.dk (KA stk)];have a1:=IK st<|.dk<|KA stk;generalize hs1:st++[O.dk (KA stk)]=s1 at *;have g2:=Gr.app s1 [.lst Kb];have a2:=IK s1<|.lst Kb;generalize hs2:s1++[O.lst Kb]=s2 at *;have t2:=((g1.trans g2).old _<|qax ht).trans ht;have d2:=(g2.old _<|qax a1).trans a1;have dic:Qg s2 t=true:=by unfold Qg;rw[t2]
 obtain⟨f,b0,b1,b2,b3,ek,es,ok⟩:=Pb c.ks k0 k1;have ik:HE (.tup<|ks.map Jl) (.int k) s2=some (Jl [f,b0,b1,b2,b3],s2):=Jh k0 (by rw[AD,ek];rfl);have key:=LR (W:=⟨pairs Kb,[(s1.length,Kb)]⟩) (g:=Js 2 (gC (HG 7)<|gC (Js 2<|gC (HG 8)<|gC (HG 9)<|Jt)<|Jt)) (m:=Ri) (ds:=pairs Kb) (ρ:=[some bed,some (.ref t),some (.tup [.int x,.int y]),some (.int k),some (.ref st.length),some (.tup<|ks.map Jl),some (.int 0),none,none,none,none,none]) (st:=s2)
   (Inv:=fun i ρ s=>s=s2/\∃ y7 y8 y9 y10 y11,ρ=[some bed,some (.ref t),some (.tup [.int x,.int y]),some (.int k),some (.ref st.length),some (.tup<|ks.map Jl),some (.int<|sb stk ks P x y k i),y7,y8,y9,y10,y11])
   ⟨rfl,_,_,_,_,_,rfl⟩ (fun _ _ s _ hI=>by rw[hI.1];exact Rf a2) (fun i d ρ s hd hI=>by
     obtain⟨rfl,y7,y8,y9,y10,y11,rfl⟩:=hI;obtain⟨e',he,rfl⟩:=aW hd;obtain⟨hi,rfl⟩:=pB he;have hl:look s t (.tup [.int (x+(off i).1),.int (y+(off i).2)])=some ((Jb P (x+(off i).1)<|y+(off i).2).map D.int):=by unfold look;simp only[t2,keysOf,keyOf,Ae,A9];rw[<-O7]
     have eg:=iD (B:=bed) (a:=x) (b:=y) (k:=k) (m:=sb stk ks P x y k i) (S:=(i:Int)) (X:=(off i).1) (Y:=(off i).2) (d:=st.length) (KD:=.tup (ks.map Jl)) (a10:=y10) (a11:=y11) dic hl;have si:=ZC (st:=s) (f:=f) (S:=Lg ks k) (i:=i) (by rw[es];rfl) hi (I:=1+(i:Int)) rfl;rw[es] at si;have bo:=iZ (x:=x) (y:=y) c hP d2 k0 k1 hi;rw[es] at bo;obtain⟨z10,z11,e2⟩:=mJ eg ik si bo;refine⟨[some bed,some (.ref t),some (.tup [.int x,.int y]),some (.int k),some (.ref st.length),some (.tup<|ks.map Jl),some (.int<|sb stk ks P x y k i),some (.int (i:Int)),some (.int (off i).1),some (.int (off i).2),y10,y11],s,_,_,?_,e2,rfl,some<|.int (i:Int),some<|.int (off i).1,some<|.int (off i).2,z10,z11,?_⟩
     . unfold Qv;simp
     rw[show sb stk ks P x y k (i+1)=sb stk ks P x y k i+bt stk ((Lg ks k).getD i "") (RN ks P x y i) from rfl,es])
 obtain⟨ρ',s',el,rfl,y7,y8,y9,y10,y11,rfl⟩:=key;have e4:sb stk ks P x y k (pairs Kb).length=Kz stk ks P x y k:=jS es;rw[e4] at el;refine⟨s',uG (y7:=y7) (y8:=y8) (y9:=y9) (y10:=y10) (y11:=y11) i0 i1 i2 ed ?_,g1.trans g2⟩;generalize D.tup (ks.map Jl)=KD at *;have en:LO PB [some bed,some (.ref t),some (.tup [.int x,.int y]),some (.int k),some (.ref st.length),some KD,some (.int 0),none,none,none,none,none] s1=some (⟨pairs Kb,[(s1.length,Kb)]⟩,s'):=by
   rw[nM];have e1:PB [some bed,some (.ref t),some (.tup [.int x,.int y]),some (.int k),some (.ref st.length),some KD,some (.int 0),none,none,none,none,none] s1=some (.ref s1.length,s'):=by rw[<-hs2];rfl
   rw[e1];simp only[Ae,U1,LV,Ik,a2,A9]
 rw[Ld,en];exact el
theorem Za:Qr=Hd.cR:=rfl
end
open L2.MP.Hb (HW)
def ZE{kvs:List (List Key×D)}(h:st[d]?=some (.dt kvs)):Nb (.tup [.int x,.int y]) (.ref d) st=some (.bl (!(Ir kvs [.inl x,.inl y]).isSome),st):=by
 have e0:IT 50 st (.ref d)=none:=by rw[IT];simp[Ik,h]
 have e1:inD true (.tup [.int x,.int y]) (.ref d) st=none:=by
   unfold inD;rw[e0]
   cases IT 50 st (.tup [.int x,.int y]) <;> rfl
 unfold Nb JX SN JX;rw[e1,KN];simp[N8,look,h,keysOf,keyOf,Kh]
variable {ρ:Ie}{s:HB}
def Vu{ma mb mc:ME}{a b c:Int}(h1:ma ρ s=some (.int a,s))(h2:mb ρ s=some (.int b,s))(h3:mc ρ s=some (.int c,s)):mT (JY KC Ks ma mb mc) ρ s=some (decide (a<=b/\b < c),s):=by
 rw[QQ];unfold JY
 by_cases h:a<=b
 . by_cases h':b < c
   . simp[h1,h2,h3,h,h']
   simp[h1,h2,h3,h,h']
 simp[h1,h2,h3,h]
def idx(i:Nat)(ds:List D):List D:=(ds.zipIdx i).map fun (d,k)=>.tup [.int (k:Nat),d]
theorem ZO(ds:List D):idx 0 ds=pairs ds:=rfl
def uI(i:Nat)(d:D)(ds:List D):idx i (d::ds)=.tup [.int (i:Nat),d]::idx (i+1) ds:=by unfold idx;rw[Ew,Ax]
section
variable {σ:Type} (A:σ->Tl->Prop) (f:σ->Nat->Tl->σ)
open Classical in
def fb:σ->Nat->List Tl->Option Nat×σ
 | P,_,[]=>(none,P)
 | P,i,t::S=>if A P t then fb (f P i t) (i+1) S else (some i,P)
inductive MV (L:Option (Fl×HB)) (r:Nat->D) (Inv:Nat->σ->Ie->HB->Prop) (J:HB->Prop) (N:Nat):Option Nat×σ->Prop
 | on (P:σ) (ρ:Ie) (s:HB) (h1:L=some (.nx ρ,s)) (h2:Inv N P ρ s):MV L r Inv J N (none,P)
 | at_ (j:Nat) (P:σ) (s:HB) (hj:j < N) (h1:L=some (.rt (r j),s)) (h2:J s):MV L r Inv J N (some j,P)
def VB{g:MG}{m:MS}{r:Nat->D}{Inv:Nat->σ->Ie->HB->Prop}{J:HB->Prop}{N:Nat}
   (step:∀ i t P ρ s,i < N->Inv i P ρ s->∃ ρ1 s1,g (.tup [.int (i:Nat),tD t]) ρ s=some (ρ1,s1)/\(A P t->∃ ρ2 s2,m ρ1 s1=some (.nx ρ2,s2)/\Inv (i+1) (f P i t) ρ2 s2)/\(¬ A P t->∃ s2,m ρ1 s1=some (.rt (r i),s2)/\J s2)) {dd:List D} :
   ∀ (S:List Tl) (P:σ) (i:Nat) (ρ:Ie) (s:HB),i+S.length=N->Inv i P ρ s->MV (J5 ⟨dd,[]⟩ g m (idx i<|S.map tD) ρ s) r Inv J N (fb A f P i S)
 | [],P,i,ρ,s,hN,h=>by
   have:i=N:=by simpa using hN
   subst this;exact .on P ρ s rfl h
 | t::S,P,i,ρ,s,hN,h=>by
   rw[AC] at hN;obtain⟨ρ1,s1,e1,hy,hn⟩:=step i t P ρ s (by omega) h;rw[Ax,uI];unfold fb
   by_cases ha:A P t
   . rw[if_pos ha];obtain⟨ρ2,s2,e2,h2⟩:=hy ha;rw[pV rfl e1 e2];exact VB step S (f P i t) (i+1) ρ2 s2 (by omega) h2
   rw[if_neg ha];obtain⟨s2,e2,h2⟩:=hn ha;exact .at_ i P s2 (by omega) (pW rfl e1 e2) h2
end
structure Good(stk:List (Str×Int))(ks:List (List Str))(w h:Int)(P:List Tl)(t:Tl):Prop where
 ok:Kw w h ks.length t
 no:Jb P t.1 t.2.1=none
 st:Kz stk ks P t.1 t.2.1 t.2.2≠0
noncomputable abbrev OJ:=List Tl×List Nat
noncomputable abbrev gA (stk:List (Str×Int)) (ks:List (List Str)) (w h:Int) (p:OJ) (t:Tl):Prop:=Good stk ks w h p.1 t
def gF(e:Int)(stk:List (Str×Int))(ks:List (List Str))(p:OJ)(i:Nat)(t:Tl):OJ:=(p.1++[t],if Kz stk ks p.1 t.1 t.2.1 t.2.2 < e then p.2++[i] else p.2)
def nD(F:List Nat):List D:=F.map fun (j:Nat)=>D.int (j:Int)
variable {b:Bool}{row:D}{F:List Nat}{a8:Option D}
section
variable {bed:D} {stk:List (Str×Int)} {ks:List (List Str)} {fl:Nat} {a9:Option D}
def Io(bed row:D)(d fl:Nat)(i x y k:Int)(a8 a9:Option D):Ie:=[some bed,some row,some (.ref d),some (.ref fl),some (.int i),some (.int x),some (.int y),some (.int k),a8,a9]
def jJ(c:Ctx bed e stk ks w h)(hd:s[d]?=some (.dt<|P.map HF)) :
   LN (JY KC Ks (mK<|.int 0) (mV 5)<|mB HE (mB HE (mV 0)<|mK<|.int 1)<|mK<|.int 0) (LN (JY KC Ks (mK<|.int 0) (mV 6)<|mB HE (mB HE (mV 0)<|mK<|.int 1)<|mK<|.int 1)<|mB Nb (mU<|Hz (mV 5)<|Hz (mV 6)<|mZ)<|mV 2) (Io bed row d fl I x y k a8 a9) s
    =some (.bl (decide (0<=x/\x < w)&&(decide (0<=y/\y < h)&&!(Jb P x y).isSome)),s):=by
 have i1:=c.fl s;have j0:HE (.tup [.int w,.int h]) (.int 0) s=some (.int w,s):=Jh (by decide) rfl;have j1:HE (.tup [.int w,.int h]) (.int 1) s=some (.int h,s):=Jh (by decide) rfl;have hin:Nb (.tup [.int x,.int y]) (.ref d) s=some (.bl (!(Jb P x y).isSome),s):=by rw[ZE hd,O7];cases Jb P x y <;> rfl
 unfold Io;generalize D.tup [.int w,.int h]=FF at *;have t1:=Vu (ma:=mK (.int 0)) (mb:=mV 5) (mc:=mB HE (mB HE (mV 0)<|mK<|.int 1) (mK<|.int 0)) (a:=0) (b:=x) (c:=w) (ρ:=[some bed,some row,some (.ref d),some (.ref fl),some (.int I),some (.int x),some (.int y),some (.int k),a8,a9]) (s:=s) rfl rfl (by simp[i1,j0]);have t2:=Vu (ma:=mK (.int 0)) (mb:=mV 6) (mc:=mB HE (mB HE (mV 0)<|mK<|.int 1) (mK<|.int 1)) (a:=0) (b:=y) (c:=h) (ρ:=[some bed,some row,some (.ref d),some (.ref fl),some (.int I),some (.int x),some (.int y),some (.int k),a8,a9]) (s:=s) rfl rfl (by simp[i1,j1]);generalize decide (0<=x/\x < w)=b1 at *;generalize decide (0<=y/\y < h)=b2 at *;generalize (Jb P x y).isSome=b4 at *;simp only[nL,t1,t2,Ae]
 cases b1 <;> cases b2 <;> simp[hin]
def eU(c:Ctx bed e stk ks w h) :
   Kc (LL<|mT<|mV 8) (LL<|mT<|JY KC Ks (mK<|.int 0) (mV 7)<|HM HX<|Hz (mB HE (mB HE (mV 0)<|mK<|.int 0)<|mK<|.int 2)<|mZ) (Io bed row d fl I x y k (some<|.bl b) a9) s=some (!(b&&decide (0<=k/\k < (ks.length:Int))),s):=by
 obtain⟨hs,i0,ie,_,i2⟩:=c.at_;have el:HX [.tup (ks.map Jl)] s=some (.int (ks.length:Int),s):=by rw[Oz,Af]
 have k0:=i0 s;have k2:=i2 s;unfold Io;generalize D.tup (ks.map Jl)=KK at *;generalize (ks.length:Int)=K at *;have t3:=Vu (ma:=mK (.int 0)) (mb:=mV 7) (mc:=HM HX (Hz (mB HE (mB HE (mV 0)<|mK<|.int 0)<|mK<|.int 2)<|mZ)) (a:=0) (b:=k) (c:=K) (ρ:=[some bed,some row,some (.ref d),some (.ref fl),some (.int I),some (.int x),some (.int y),some (.int k),some (.bl b),a9]) (s:=s) rfl rfl (by simp[k0,k2,el]);generalize decide (0<=k/\k < K)=b3 at *;generalize mT (JY KC Ks (mK<|.int 0) (mV 7)<|HM HX<|Hz (mB HE (mB HE (mV 0)<|mK<|.int 0)<|mK<|.int 2)<|mZ)=M3 at *
 cases b <;> cases b3 <;> simp[t3]
def YZ(ed:dput s d (.tup [.int x,.int y]) (.int k)=some s2):JR (mV 2) (mU<|Hz (mV 5)<|Hz (mV 6)<|mZ) (mV 7) (Io bed row d fl I x y k a8 a9) s=some (.nx (Io bed row d fl I x y k a8 a9),s2):=by
 unfold Io;rw[OU];have c1:HL (mV 7) (N6 IX (mV 2)<|mU<|Hz (mV 5)<|Hz (mV 6)<|mZ) [some bed,some row,some (.ref d),some (.ref fl),some (.int I),some (.int x),some (.int y),some (.int k),a8,a9] s=none:=by simp[IX]
 rw[c1,KN];unfold Nr;simp[ed]
def qN(c:Ctx bed e stk ks w h)(hP:∀ t∈P,0<=t.2.2/\t.2.2 < (ks.length:Int))(hd:s[d]?=some (.dt<|P.map HF))(hf:s[fl]?=some (.lst<|nD F))(hne:d≠fl)(hlen:P.length<=100)(hF:F.length<=100) :
   (Good stk ks w h P (x,y,k)->∃ s2 b8 b9,Uc (Io bed row d fl (i:Int) x y k a8 a9) s=some (.nx (Io bed row d fl (i:Int) x y k b8 b9),s2)/\s2[d]?=some (.dt<|(P++[(x,y,k)]).map HF)/\s2[fl]?=some (.lst<|nD<|if Kz stk ks P x y k < e then F++[i] else F)/\HW d fl s s2) /\
   (¬ Good stk ks w h P (x,y,k)->∃ s2,Uc (Io bed row d fl (i:Int) x y k a8 a9) s=some (.rt (.tup [.str "no",.int (i:Int)]),s2)/\Gr s s2):=by
 have h1:=jJ (row:=row) (fl:=fl) (I:=(i:Int)) (x:=x) (y:=y) (k:=k) (a8:=a8) (a9:=a9) c hd;have ret:∀ (s:HB) (a8 a9:Option D),mR (mU<|Hz (mK<|.str "no")<|Hz (mV 4)<|mZ) (Io bed row d fl (i:Int) x y k a8 a9) s=some (.rt (.tup [.str "no",.int (i:Int)]),s):=fun s a8 a9=>by unfold Io;simp
 obtain⟨hs,i0,ie,i1',i2⟩:=c.at_;generalize hb:(decide (0<=x/\x < w)&&(decide (0<=y/\y < h)&&!(Jb P x y).isSome))=b at h1;have h2:=eU (row:=row) (fl:=fl) (d:=d) (I:=(i:Int)) (x:=x) (y:=y) (k:=k) (a9:=a9) (b:=b) (s:=s) c;have st1:HL (LN (JY KC Ks (mK<|.int 0) (mV 5)<|mB HE (mB HE (mV 0)<|mK<|.int 1)<|mK<|.int 0)<|LN (JY KC Ks (mK<|.int 0) (mV 6)<|mB HE (mB HE (mV 0)<|mK<|.int 1)<|mK<|.int 1)<|mB Nb (mU<|Hz (mV 5)<|Hz (mV 6)<|mZ)<|mV 2) (HG 8) (Io bed row d fl (i:Int) x y k a8 a9) s=some (.nx (Io bed row d fl (i:Int) x y k (some<|.bl b) a9),s):=by rw[Lz,h1];rfl
 by_cases hk:(b&&decide (0<=k/\k < (ks.length:Int)))=true
 . obtain⟨hb1,hk1⟩:=Bool.and_eq_true_iff.mp hk;rw[hb1] at hb;simp only[Ar,decide_eq_true_eq,BN] at hb;obtain⟨⟨x0,x1⟩,⟨y0,y1⟩,hn⟩:=hb;have hn:Jb P x y=none:=by cases hq:Jb P x y with
     | none=>rfl
     | some _=>rw[hq] at hn;cases hn
   obtain⟨k0,k1⟩:=of_decide_eq_true hk1;obtain⟨s1,eh,g1⟩:=Y0 (x:=x) (y:=y) c hP hd k0 k1;have st2:IY (Kc (LL<|mT<|mV 8)<|LL<|mT<|JY KC Ks (mK<|.int 0) (mV 7)<|HM HX<|Hz (mB HE (mB HE (mV 0)<|mK<|.int 0)<|mK<|.int 2)<|mZ) (mR<|mU<|Hz (mK<|.str "no")<|Hz (mV 4)<|mZ) Je (Io bed row d fl (i:Int) x y k (some<|.bl b) a9) s=some (.nx (Io bed row d fl (i:Int) x y k (some<|.bl b) a9),s):=Kg (by rw[h2,hk];rfl);have st3:HL (HM Qq<|Hz (mV 0)<|Hz (mV 2)<|Hz (mU<|Hz (mV 5)<|Hz (mV 6)<|mZ)<|Hz (mV 7)<|mZ) (HG 9) (Io bed row d fl (i:Int) x y k (some<|.bl b) a9) s=some (.nx (Io bed row d fl (i:Int) x y k (some<|.bl b)<|some<|.int<|Kz stk ks P x y k),s1):=by unfold Io;simp[eh]
   have d1:=(g1.old _<|qax hd).trans hd;have f1:=(g1.old _<|qax hf).trans hf;generalize hR:Kz stk ks P x y k=R at *;refine⟨fun hg=>?_,fun hg=>?_⟩
   . have r0:R≠0:=by have:=hg.st;rw[<-hR];exact this
     have ep:=O9 (x:=x) (y:=y) (k:=k) d1 (by omega);rw[Ra (t:=(x,y,k)) hn] at ep;have st4:IY (mT<|mB Ku (mV 9)<|mK<|.int 0) (mR<|mU<|Hz (mK<|.str "no")<|Hz (mV 4)<|mZ) Je (Io bed row d fl (i:Int) x y k (some<|.bl b)<|some<|.int R) s1=some (.nx (Io bed row d fl (i:Int) x y k (some<|.bl b)<|some<|.int R),s1):=Kg (by unfold Io;simp[eq_int,r0])
     by_cases hlt:R < e
     . have eap:=append_at (x:=.int (i:Int)) f1 (by unfold nD;rw[Af];omega);have d2:(s1.set fl<|.lst<|nD F++[.int (i:Int)])[d]?=some (.dt<|P.map HF):=by rw[As (fun z=>hne z.symm)];exact d1
       have ep2:=O9 (x:=x) (y:=y) (k:=k) d2 (by omega);rw[Ra (t:=(x,y,k)) hn] at ep2;have l1:Ik s1 fl=some (nD F):=by simp only[Ik,f1]
       have st5:IY (mT<|mB Ks (mV 9)<|mB HE (mB HE (mV 0)<|mK<|.int 0)<|mK<|.int 0) (Jr<|JL (mV 3)<|Hz (mV 4)<|mZ) Je (Io bed row d fl (i:Int) x y k (some<|.bl b)<|some<|.int R) s1=some (.nx (Io bed row d fl (i:Int) x y k (some<|.bl b)<|some<|.int R),s1.set fl (.lst<|nD F++[.int (i:Int)])):=by
         refine Li (s1:=s1) ?_ ?_
         . unfold Io;simp[i0,ie,hlt]
         unfold Io;generalize nD F=ND at *;simp[l1,eap]
       have lf:fl < s1.length:=qax f1;have ldd:d < s1.length:=qax d1;refine⟨_,_,_,HU st1<|HU st2<|HU st3<|HU st4<|HU st5<|YZ ep2,?_,?_,?_⟩
       . rw[AF (by simpa using ldd)]
       . rw[As hne,AF lf,if_pos hlt];unfold nD;rw[BP];rfl
       exact ((HW.of g1).trans<|HW.setQ _ _ _ _).trans<|HW.setN _ _ _ _
     . have st5:IY (mT<|mB Ks (mV 9)<|mB HE (mB HE (mV 0)<|mK<|.int 0)<|mK<|.int 0) (Jr<|JL (mV 3)<|Hz (mV 4)<|mZ) Je (Io bed row d fl (i:Int) x y k (some<|.bl b)<|some<|.int R) s1=some (.nx (Io bed row d fl (i:Int) x y k (some<|.bl b)<|some<|.int R),s1):=Kg (by unfold Io;simp[i0,ie,hlt]);have ldd:d < s1.length:=qax d1;refine⟨_,_,_,HU st1<|HU st2<|HU st3<|HU st4<|HU st5<|YZ ep,?_,?_,?_⟩
       . rw[AF ldd]
       . rw[As hne,if_neg hlt];exact f1
       exact (HW.of g1).trans<|HW.setN _ _ _ _
   have r0:R=0:=Em fun z=>hg ⟨⟨x0,x1,y0,y1,k0,k1⟩,hn,by show Kz stk ks P x y k≠0;rw[hR];exact z⟩;refine⟨s1,HU st1<|HU st2<|HU st3<|Mp<|Li (s1:=s1) ?_<|ret _ _ _,g1⟩;unfold Io;simp[eq_int,r0]
 . refine⟨fun hg=>absurd ?_ hk,fun hg=>?_⟩
   . obtain⟨⟨x0,x1,y0,y1,k0,k1⟩,hn,_⟩:=hg;have hn:Jb P x y=none:=hn;have x0:0<=x:=x0;have x1:x < w:=x1;have y0:0<=y:=y0;have y1:y < h:=y1;have k0:0<=k:=k0;have k1:k < (ks.length:Int):=k1;rw[<-hb,hn];simp[x0,x1,y0,y1,k0,k1]
   rw[Bool.not_eq_true] at hk;exact⟨s,HU st1<|Mp<|Li (s1:=s) (by rw[h2,hk];rfl)<|ret _ _ _,Gr.refl _⟩
end
variable {ds:List D}{n:Nat}
def uX{N:Int}(h:ds.length=n)(hN:N=(n:Int)):Ws [.tup ds,.int N] st=some (.bl true,st):=by
 have e:HX [.tup ds] st=some (.int N,st):=by rw[Oz,h,hN]
 refine Jk ?_;have t1:tyName st (.tup ds)=some "tuple":=rfl;have t2:JZ "tuple" "tuple"=true:=by decide
 unfold bT;simp[t1,t2,e,eq_int]
def Zq{lo hi:Int}:T6 [.int x,.int lo,.int hi] st=some (.bl (decide (lo<=x)&&decide (x<=hi)),st):=by
 refine Jk ?_;have t1:tyName st (.int x)=some "int":=rfl;have t2:JZ "int" "int"=true:=by decide
 have t3:JZ "int" "bool"=false:=by decide
 unfold bU
 by_cases h1:lo<=x
 . simp[JY,t1,t2,t3,h1]
 simp[JY,t1,t2,t3,h1]
def PN(w h x y:Int):Bool:=(decide (0<=x)&&decide (x<=w - 1))&&(decide (0<=y)&&decide (y<=h - 1))
def pR{bed:D}{stk:List (Str×Int)}{ks:List (List Str)}(c:Ctx bed e stk ks w h):Rb [bed,.tup [.int x,.int y]] st=some (.bl (PN w h x y),st):=by
 have e1:=uX (ds:=[.int x,.int y]) (n:=2) (N:=2) (st:=st) rfl rfl;have e2:=Zq (x:=x) (lo:=0) (hi:=w - 1) (st:=st);have e3:=Zq (x:=y) (lo:=0) (hi:=h - 1) (st:=st);have i0:HE (.tup [.int x,.int y]) (.int 0) st=some (.int x,st):=Jh (by decide) rfl;have i1:HE (.tup [.int x,.int y]) (.int 1) st=some (.int y,st):=Jh (by decide) rfl;have j0:HE (.tup [.int w,.int h]) (.int 0) st=some (.int w,st):=Jh (by decide) rfl;have j1:HE (.tup [.int w,.int h]) (.int 1) st=some (.int h,st):=Jh (by decide) rfl;have cf:=c.fl;unfold PN;refine Jk ?_;unfold bS;refine HU (ρ1:=[some bed,some (.tup [.int x,.int y]),some (.tup [.int w,.int h])]) (s1:=st) (by simp[cf]) ?_;generalize (decide (0<=x)&&decide (x<=w - 1))=b1 at *;generalize (decide (0<=y)&&decide (y<=h - 1))=b2 at *
 cases b1 <;> simp[e1,e2,e3,i0,i1,j0,j1]
def xO{bed:D}{stk:List (Str×Int)}{ks:List (List Str)}(hb:K9 bed stk ks)(h:¬ (0<=k/\k < (ks.length:Int))):Pm [bed,.int k] st=some (.tup ([("":Str),"","",""].map D.str),st):=by
 obtain⟨hs,i0,_,i2⟩:=hb.h;have el:HX [.tup (ks.map Jl)] st=some (.int (ks.length:Int),st):=by rw[Oz,Af]
 have j0:=i0 st;have j2:=i2 st;refine Jk ?_;unfold T5;generalize D.tup (ks.map Jl)=KK at *;generalize (ks.length:Int)=K at *;refine HU (ρ1:=[some bed,some (.int k),some KK]) (s1:=st) (by simp[j0,j2]) ?_;have et:mT (JY KC Ks (mK<|.int 0) (mV 1)<|HM HX<|Hz (mV 2)<|mZ) [some bed,some (.int k),some KK] st=some (false,st):=by
   rw[QQ];unfold JY
   by_cases h0:0<=k
   . have h1:¬ k < K:=fun z=>h ⟨h0,z⟩;simp[el,h0,h1]
   simp[h0]
 refine HU (L2.MP.Ce.Kg et) ?_;simp
noncomputable abbrev RK (bed:D) (sd d:Nat) (x y k:Int) (a4 a5 a6:Option D):Ie:=[some bed,some (.ref sd),some (.ref d),some (.tup [.int x,.int y,.int k]),a4,a5,a6]
variable {sd:Nat}
def yE{bed:D}{c:Bool}(hin:Nk (.tup [.int x,.int y]) (.ref d) s=some (.bl b,s))(hp:Rb [bed,.tup [.int x,.int y]] s=some (.bl c,s))(h:b=true\/c=false):Qs [bed,.ref sd,.ref d,.tup [.int x,.int y,.int k]] s=some (.non,s):=by
 have es:My (.tup [.int x,.int y,.int k]) none (some 2) s=some (.tup [.int x,.int y],s):=rfl;refine Jk ?_;unfold WB;refine HU (ρ1:=RK bed sd d x y k (some<|.tup [.int x,.int y]) none none) (s1:=s) (by simp[es])<|Mp ?_
 cases b with
 | true=>simp[hin]
 | false =>
   have hc:c=false:=by rcases h with h | h <;> simp_all
   subst hc;simp[hin,hp]
def ZH{bed hs sl r:D}{ln:Nat}{E R:Int}(hin:Nk (.tup [.int x,.int y]) (.ref d) s=some (.bl false,s))(hp:Rb [bed,.tup [.int x,.int y]] s=some (.bl true,s))(e1:Uj [bed,.ref d,.tup [.int x,.int y]] s=some (.ref ln,s1))
   (e2:Pm [bed,.int k] s1=some (sl,s1)) (e3:Ur [.ref sd,sl,.ref ln] s1=some (.int R,s2)) (i0:HE bed (.int 0) s2=some (hs,s2)) (ie:HE hs (.int 0) s2=some (.int E,s2)) (hr:r=if R=0 then .non else if E<=R then .int 0 else .int 1):Qs [bed,.ref sd,.ref d,.tup [.int x,.int y,.int k]] s=some (r,s2):=by
 have j2:HE (.tup [.int x,.int y,.int k]) (.int 2) s1=some (.int k,s1):=Jh (by decide) rfl;have es:My (.tup [.int x,.int y,.int k]) none (some 2) s=some (.tup [.int x,.int y],s):=rfl;subst hr;refine Jk ?_;unfold WB;refine HU (ρ1:=RK bed sd d x y k (some<|.tup [.int x,.int y]) none none) (s1:=s) (by simp[es]) ?_;refine HU (ρ1:=RK bed sd d x y k (some<|.tup [.int x,.int y]) none none) (s1:=s) (by simp[hin,hp]) ?_;refine HU (ρ1:=RK bed sd d x y k (some<|.tup [.int x,.int y]) (some<|.ref ln) none) (s1:=s1) (by simp[e1]) ?_;refine HU (ρ1:=RK bed sd d x y k (some<|.tup [.int x,.int y]) (some<|.ref ln) (some<|.int R)) (s1:=s2) (by simp[j2,e2,e3]) ?_
 by_cases h0:R=0
 . rw[if_pos h0];exact Mp<|Li (s1:=s2) (by simp[eq_int,h0])<|by simp
 . rw[if_neg h0];refine HU (Kg (s1:=s2)<|by simp[eq_int,h0]) ?_
   by_cases h1:E<=R
   . simp[Hd.QO,i0,ie,h1]
   simp[Hd.QO,i0,ie,h1]
section
variable {bed:D} {stk:List (Str×Int)} {ks:List (List Str)} {fl:Nat}
def sC(c:Ctx bed e stk ks w h)(hP:∀ t∈P,0<=t.2.2/\t.2.2 < (ks.length:Int))(hd:st[d]?=some (.dt<|P.map HF))(hs:st[sd]?=some (.dk<|KA stk)) :
   ∃ st' r,Qs [bed,.ref sd,.ref d,.tup [.int x,.int y,.int k]] st=some (r,st')/\Gr st st'/\(Good stk ks w h P (x,y,k)->r=if e<=Kz stk ks P x y k then .int 0 else .int 1)/\(¬ Good stk ks w h P (x,y,k)->r=.non):=by
 have hin:Nk (.tup [.int x,.int y]) (.ref d) st=some (.bl (Jb P x y).isSome,st):=by rw[Yk hd,O7];cases Jb P x y <;> rfl
 have hp:=pR (x:=x) (y:=y) (st:=st) c
 by_cases hoff:(Jb P x y).isSome=true\/PN w h x y=false
 . refine⟨st,_,yE hin hp hoff,Gr.refl _,fun g=>?_,fun _=>rfl⟩;obtain⟨⟨x0,x1,y0,y1,k0,k1⟩,hn,_⟩:=g;have hn:Jb P x y=none:=hn;have x0:0<=x:=x0;have x1:x < w:=x1;have y0:0<=y:=y0;have y1:y < h:=y1
   rcases hoff with z | z
   . rw[hn] at z;cases z
   unfold PN at z;rw[decide_eq_true x0,decide_eq_true y0,decide_eq_true (show x<=w - 1 by omega),decide_eq_true (show y<=h - 1 by omega)] at z;cases z
 . have hf:(Jb P x y).isSome=false:=by cases q:(Jb P x y).isSome <;> simp_all
   have hi:PN w h x y=true:=by cases q:PN w h x y <;> simp_all
   rw[hf] at hin;rw[hi] at hp;have hn:Jb P x y=none:=Option.not_isSome_iff_eq_none.mp (by simp only[hf];decide);have hi4:0<=x/\x < w/\0<=y/\y < h:=by unfold PN at hi;simp only[Ar,decide_eq_true_eq] at hi;omega
   obtain⟨hh,i0,ie,_,i2⟩:=c.at_;obtain⟨s1,e1,a1,g1⟩:=vL (x:=x) (y:=y) c.bed c.ks hP hd;have hs1:=(g1.old _<|qax hs).trans hs;have oN:∀ z∈names4 ks P x y,BC z=true:=fun z hz=>by
     have:Iz z:=by
       simp only[names4,AW,AS,or_false] at hz
       rcases hz with rfl | rfl | rfl | rfl <;> exact Xy c.ks hP _ _
     exact Om this.ab
   by_cases hk:0<=k/\k < (ks.length:Int)
   . obtain⟨f,b0,b1,b2,b3,ek,es,hok⟩:=Pb c.ks (k:=k) hk.1 hk.2;obtain⟨s2,e2,g2⟩:=cK (S:=Lg ks k) (N:=names4 ks P x y) c.stk (by rw[es];exact Ag _) (by rw[es];exact fun z hz=>hok z hz) oN hs1 a1;refine⟨s2,_,ZH hin hp e1 (cG c.bed c.ks hk.1 hk.2) e2 (i0 _) (ie _) rfl,g1.trans g2,fun g=>?_,fun g=>?_⟩
     . exact if_neg g.st
     refine if_pos<|Em fun z=>g ⟨⟨hi4.1,hi4.2.1,hi4.2.2.1,hi4.2.2.2,hk.1,hk.2⟩,hn,z⟩
   . obtain⟨s2,e2,g2⟩:=cK (S:=["","","",""]) (N:=names4 ks P x y) c.stk (Ag _) (fun z hz=>by
       simp only[AW,AS,or_false,or_self] at hz;subst hz;exact⟨NG,.inl rfl⟩) oN hs1 a1
     refine⟨s2,_,ZH hin hp e1 (xO c.bed hk) e2 (i0 _) (ie _) rfl,g1.trans g2,fun g=>absurd ⟨g.ok.2.2.2.2.1,g.ok.2.2.2.2.2⟩ hk,fun g=>if_pos ?_⟩;have:Jq ["","","",""] (names4 ks P x y)=[]:=by
       unfold Jq;rw[List.filter_eq_nil_iff];intro p hp;obtain⟨a,b⟩:=p;have ha:a="":=by simpa using (C5 hp).1
       subst ha;simp
     rw[this];rfl
end
def fC{fl:Nat}(g:Gr st s)(f:HW d fl s s2)(hd:st.length<=d)(hl:st.length<=fl):Gr st s2 :=
 ⟨Az g.len f.len,fun j hj=>(f.old j (Av hj g.len) (by omega)<|by omega).trans (g.old j hj)⟩
section
variable {bed base:D} {stk:List (Str×Int)} {ks:List (List Str)} {fl:Nat}
noncomputable abbrev J8 (bed base row:D) (sd d fl:Nat) (a6 a7 a8:Option D):Ie:=[some bed,some base,some row,some (.ref sd),some (.ref d),some (.ref fl),a6,a7,a8]
def Zr(ed:dput s d (.tup [.int x,.int y]) (.int k)=some s2):JR (mV 4) (J0 (mV 7) Lb<|Lc<|mK<|.int 2) (mB HE (mV 7)<|mK<|.int 2) (J8 bed base row sd d fl (some<|.int I) (some<|.tup [.int x,.int y,.int k]) a8) s=some (.nx (J8 bed base row sd d fl (some<|.int I) (some<|.tup [.int x,.int y,.int k]) a8),s2):=by
 have es:My (.tup [.int x,.int y,.int k]) none (some 2) s=some (.tup [.int x,.int y],s):=rfl;have j2:HE (.tup [.int x,.int y,.int k]) (.int 2) s=some (.int k,s):=Jh (by decide) rfl;rw[OU];have c1:HL (mB HE (mV 7)<|mK<|.int 2) (N6 IX (mV 4)<|J0 (mV 7) Lb<|Lc<|mK<|.int 2) (J8 bed base row sd d fl (some<|.int I) (some<|.tup [.int x,.int y,.int k]) a8) s=none:=by simp[es,j2,IX]
 rw[c1,KN];unfold Nr;simp[es,j2,ed]
def fN(c:Ctx bed e stk ks w h)(hP:∀ t∈P,0<=t.2.2/\t.2.2 < (ks.length:Int))(hs:s[sd]?=some (.dk<|KA stk))(hd:s[d]?=some (.dt<|P.map HF))(hf:s[fl]?=some (.lst<|nD F))(hne:d≠fl)(hlen:P.length<=100)(hF:F.length<=100) :
   (Good stk ks w h P (x,y,k)->∃ s2 b8,Ro (J8 bed base row sd d fl (some<|.int (i:Int)) (some<|.tup [.int x,.int y,.int k]) a8) s=some (.nx (J8 bed base row sd d fl (some<|.int (i:Int)) (some<|.tup [.int x,.int y,.int k]) b8),s2)/\s2[d]?=some (.dt<|(P++[(x,y,k)]).map HF)/\s2[fl]?=some (.lst<|nD<|if Kz stk ks P x y k < e then F++[i] else F)/\HW d fl s s2) /\
   (¬ Good stk ks w h P (x,y,k)->∃ s2,Ro (J8 bed base row sd d fl (some<|.int (i:Int)) (some<|.tup [.int x,.int y,.int k]) a8) s=some (.rt (LI (i:Int)),s2)/\Gr s s2):=by
 obtain⟨s1,r,e1,g1,hy,hn⟩:=sC (x:=x) (y:=y) (k:=k) c hP hd hs;have d1:=(g1.old _<|qax hd).trans hd;have f1:=(g1.old _<|qax hf).trans hf;have st1:HL (HM Qs<|Hz (mV 0)<|Hz (mV 3)<|Hz (mV 4)<|Hz (mV 7)<|mZ) (HG 8) (J8 bed base row sd d fl (some<|.int (i:Int)) (some<|.tup [.int x,.int y,.int k]) a8) s=some (.nx (J8 bed base row sd d fl (some<|.int (i:Int)) (some<|.tup [.int x,.int y,.int k])<|some r),s1):=by simp[e1]
 refine⟨fun hg=>?_,fun hg=>?_⟩
 . have hr:=hy hg;have nf:Jb P x y=none:=hg.no;have lf:fl < s1.length:=qax f1;have ldd:d < s1.length:=qax d1
   by_cases hlt:Kz stk ks P x y k < e
   . rw[if_neg (by omega)] at hr;subst hr;have eap:=append_at (x:=.int (i:Int)) f1 (by unfold nD;rw[Af];omega);have d2:(s1.set fl<|.lst<|nD F++[.int (i:Int)])[d]?=some (.dt<|P.map HF):=by rw[As (fun z=>hne z.symm)];exact d1
     have ep2:=O9 (x:=x) (y:=y) (k:=k) d2 (by omega);rw[Ra (t:=(x,y,k)) nf] at ep2;have l1:Ik s1 fl=some (nD F):=by simp only[Ik,f1]
     have n1:Kf (.int 1) .non s1=some (.bl false,s1):=rfl;have st2:IY (mT<|mB Kf (mV 8)<|mK .non) (QZ LI<|mV 6) Je (J8 bed base row sd d fl (some<|.int (i:Int)) (some<|.tup [.int x,.int y,.int k])<|some<|.int 1) s1=some (.nx (J8 bed base row sd d fl (some<|.int (i:Int)) (some<|.tup [.int x,.int y,.int k])<|some<|.int 1),s1):=Kg (by simp[n1]);have st3:IY (mT<|mB Ku (mV 8)<|mK<|.int 1) (Jr<|JL (mV 5)<|Hz (mV 6)<|mZ) Je (J8 bed base row sd d fl (some<|.int (i:Int)) (some<|.tup [.int x,.int y,.int k])<|some<|.int 1) s1=some (.nx (J8 bed base row sd d fl (some<|.int (i:Int)) (some<|.tup [.int x,.int y,.int k])<|some<|.int 1),s1.set fl (.lst<|nD F++[.int (i:Int)])):=by refine Li (s1:=s1) (by simp[eq_int]) ?_;generalize nD F=ND at *;simp[l1,eap]
     refine⟨_,_,HU st1<|HU st2<|HU st3<|Zr ep2,?_,?_,?_⟩
     . rw[AF (by simpa using ldd)]
     . rw[As hne,AF lf,if_pos hlt];unfold nD;rw[BP];rfl
     exact ((HW.of g1).trans<|HW.setQ _ _ _ _).trans<|HW.setN _ _ _ _
   . rw[if_pos (by omega)] at hr;subst hr;have ep:=O9 (x:=x) (y:=y) (k:=k) d1 (by omega);rw[Ra (t:=(x,y,k)) nf] at ep;have n1:Kf (.int 0) .non s1=some (.bl false,s1):=rfl;have st2:IY (mT<|mB Kf (mV 8)<|mK .non) (QZ LI<|mV 6) Je (J8 bed base row sd d fl (some<|.int (i:Int)) (some<|.tup [.int x,.int y,.int k])<|some<|.int 0) s1=some (.nx (J8 bed base row sd d fl (some<|.int (i:Int)) (some<|.tup [.int x,.int y,.int k])<|some<|.int 0),s1):=Kg (by simp[n1]);have st3:IY (mT<|mB Ku (mV 8)<|mK<|.int 1) (Jr<|JL (mV 5)<|Hz (mV 6)<|mZ) Je (J8 bed base row sd d fl (some<|.int (i:Int)) (some<|.tup [.int x,.int y,.int k])<|some<|.int 0) s1=some (.nx (J8 bed base row sd d fl (some<|.int (i:Int)) (some<|.tup [.int x,.int y,.int k])<|some<|.int 0),s1):=Kg (by simp[eq_int]);refine⟨_,_,HU st1<|HU st2<|HU st3<|Zr ep,?_,?_,?_⟩
     . rw[AF ldd]
     . rw[As hne,if_neg hlt];exact f1
     exact (HW.of g1).trans<|HW.setN _ _ _ _
 have hr:=hn hg;subst hr;have n1:Kf .non .non s1=some (.bl true,s1):=rfl;exact⟨s1,HU st1<|Mp<|Li (s1:=s1) (by simp[n1]) rfl,g1⟩
end
inductive Res (L:Option (D×HB)) (st:HB) (v:List Nat->D) (r:Nat->D) (N:Nat):Option Nat×OJ->Prop
 | on (P:OJ) (s:HB) (hl:P.2.length<=N/\∀ j∈P.2,j < N) (h1:L=some (v P.2,s)) (h2:Gr st s):Res L st v r N (none,P)
 | at_ (j:Nat) (P:OJ) (s:HB) (hj:j < N) (h1:L=some (r j,s)) (h2:Gr st s):Res L st v r N (some j,P)
variable {S:List Tl}
section
variable {stk:List (Str×Int)} {ks:List (List Str)} {sd:List Tl}
structure WI(st:HB)(ks:List (List Str))(n d fl i:Nat)(p:OJ)(s:HB):Prop where
 d:s[d]?=some (.dt (p.1.map HF))
 f:s[fl]?=some (.lst (nD p.2))
 g:Gr st s
 k:∀ t∈p.1,0<=t.2.2/\t.2.2 < (ks.length:Int)
 l:p.1.length=n+i
 m:p.2.length<=i/\∀ j∈p.2,j < i
def WI.next{fl:Nat}{p:OJ}{t:Tl}(q:WI st ks n d fl i p s)(hg:Good stk ks w h p.1 t)(hd:st.length<=d)(hl:st.length<=fl)(h1:s2[d]?=some (.dt<|(p.1++[t]).map HF))(h2:s2[fl]?=some (.lst<|nD<|if Kz stk ks p.1 t.1 t.2.1 t.2.2 < e then p.2++[i] else p.2))(f:HW d fl s s2):WI st ks n d fl (i+1) (gF e stk ks p i t) s2:=by
 refine⟨h1,h2,fC q.g f hd hl,fun u hu=>?_,?_,?_⟩
 . rcases SL.mp hu with hu | hu
   . exact q.k u hu
   . cases On.mp hu
     exact⟨hg.ok.2.2.2.2.1,hg.ok.2.2.2.2.2⟩
 . show (p.1++[t]).length=_;rw[AM,q.l,BH];omega
 . have q1:=q.m.1;have q2:=q.m.2
   by_cases hlt:Kz stk ks p.1 t.1 t.2.1 t.2.2 < e
   . have hh:(gF e stk ks p i t).2=p.2++[i]:=if_pos hlt;rw[hh];refine⟨by rw[AM,BH];omega,fun j hj=>?_⟩
     rcases SL.mp hj with hj | hj
     . have:=q2 j hj;omega
     have:=On.mp hj;omega
   have hh:(gF e stk ks p i t).2=p.2:=if_neg hlt;rw[hh];exact⟨by omega,fun j hj=>by have:=q2 j hj;omega⟩
def jI(c:Ctx (HZ e stk ks w h sd) e stk ks w h)(hsd:∀ t∈sd,Kw w h ks.length t)(nd:IC sd)(hl:sd.length<=6)(hS:S.length<=13) :
   Res (Uk [HZ e stk ks w h sd,.tup (S.map tD)] st) st (fun F=>.tup (nD F)) (fun j=>.tup [.str "no",.int (j:Int)]) S.length (fb (gA stk ks w h) (gF e stk ks) (sd,[]) 0 S):=by
 obtain⟨d,s1,e1,a1,ld,g1⟩:=aQ (ts:=sd) (st:=st) (by omega);rw[Vt nd] at a1;have a2:=IK s1<|.lst [];have b2:(s1++[O.lst []])[d]?=some (.dt<|sd.map HF):=(Ai<|qax a1).trans a1;have g2:=g1.trans<|Gr.app s1 [.lst []];have hne:d≠s1.length:=An<|qax a1;have hl1:st.length<=s1.length:=g1.len;generalize hs2:s1++[O.lst []]=s2 at *;have key:=VB (A:=gA stk ks w h) (f:=gF e stk ks) (g:=Js 2 (gC (HG 4)<|gC (Js 3<|gC (HG 5)<|gC (HG 6)<|gC (HG 7)<|Jt)<|Jt)) (m:=Uc) (r:=fun j=>.tup [.str "no",.int (j:Int)]) (N:=S.length) (dd:=pairs (S.map tD))
   (Inv:=fun i p ρ s=>(∃ a4 a5 a6 a7 a8 a9,ρ=[some (HZ e stk ks w h sd),some (.tup<|S.map tD),some (.ref d),some (.ref s1.length),a4,a5,a6,a7,a8,a9])/\WI st ks sd.length d s1.length i p s)
   (J:=fun s=>Gr st s) (fun i t p ρ s hi hI=>by
     obtain⟨⟨a4,a5,a6,a7,a8,a9,rfl⟩,q⟩:=hI;obtain⟨x,y,k⟩:=t;have ql:=q.l;have qm:=q.m.1;obtain⟨hy,hn⟩:=qN (row:=.tup (S.map tD)) (i:=i) (x:=x) (y:=y) (k:=k) (a8:=a8) (a9:=a9) c q.k q.d q.f hne (by omega) (by omega);refine⟨Io (HZ e stk ks w h sd) (.tup<|S.map tD) d s1.length (i:Int) x y k a8 a9,s,rfl,fun hg=>?_,fun hg=>?_⟩
     . obtain⟨s3,b8,b9,e3,d3,f3,fr⟩:=hy hg;exact⟨_,s3,e3,⟨_,_,_,_,_,_,rfl⟩,q.next (t:=(x,y,k)) hg ld hl1 d3 f3 fr⟩
     obtain⟨s3,e3,g3⟩:=hn hg;exact⟨s3,e3,q.g.trans g3⟩) S (sd,[]) 0 [some (HZ e stk ks w h sd),some (.tup<|S.map tD),some (.ref d),some (.ref s1.length),none,none,none,none,none,none] s2 (by simp) ⟨⟨_,_,_,_,_,_,rfl⟩,⟨b2,a2,g2,fun t ht=>⟨(hsd t ht).2.2.2.2.1,(hsd t ht).2.2.2.2.2⟩,rfl,Ag _,by simp⟩⟩
 have i2:HE (HZ e stk ks w h sd) (.int 2) st=some (Jm sd,st):=Jh (by decide) rfl;generalize HZ e stk ks w h sd=bed at *;generalize Jm sd=SD at *;have st1:KY 2 3 (Hz (HM Qr<|Hz (mB HE (mV 0)<|mK<|.int 2)<|mZ)<|Hz (mL<|mZ)<|mZ) [some bed,some (.tup<|S.map tD),none,none,none,none,none,none,none,none] st=some (.nx [some bed,some (.tup<|S.map tD),some (.ref d),some (.ref s1.length),none,none,none,none,none,none],s2):=by rw[Za];generalize S.map tD=SS at *;simp[i2,e1,hs2]
 have en:LO (mV 1) [some bed,some (.tup<|S.map tD),some (.ref d),some (.ref s1.length),none,none,none,none,none,none] s2=some (⟨pairs<|S.map tD,[]⟩,s2):=VP rfl;rw[ZO] at key;generalize fb (gA stk ks w h) (gF e stk ks) (sd,[]) 0 S=o at *
 cases key with
 | on P ρ s h1 h2 =>
   obtain⟨⟨a4,a5,a6,a7,a8,a9,rfl⟩,q⟩:=h2;have et:=Pl q.f;refine .on P s q.m (Jk ?_) q.g;unfold WA;refine HU st1<|HU (by rw[Ld,en];exact h1) ?_;generalize nD P.2=ND at *;simp[et]
 | at_ j P s hj h1 h2 =>
   refine .at_ j P s hj (Jk ?_) h2;unfold WA;exact HU st1<|Mp (by rw[Ld,en];exact h1)
end
section
variable {y:Str} {o:Option (Str×Int)} {ys:List D} {n:Int} {m:ME}
def mP(h:KS MU c y=some b):RY (KS MU) [.er true c o,.fn y] s=some (.bl b,s):=by show (KS MU c y).map _=_;rw[h];rfl
def Xv:KS MU "NoGrowing" "NoGrowing"=some true:=by decide +kernel
def iF(h:Kr MU c=some b)(hm:m ρ s=some (.er true c o,s)):LX (Kr MU) m ρ s=some (.bl b,s):=by unfold LX;rw[hm];show (Kr MU c).map _=_;rw[h];rfl
def W0:Kr MU "NoGrowing"=some true:=by decide +kernel
def eO(hm:m ρ s=some (.er true c (some (f,n)),s)):Lo (Qw c) f m ρ s=some (.int n,s):=by unfold Lo;rw[hm];simp[Qw]
end
variable {g:GN}{mm:MA}{j:Nat}{mh:MS}
section
variable {stk:List (Str×Int)} {ks:List (List Str)} {sd:List Tl}
def vA(c:Ctx (HZ e stk ks w h sd) e stk ks w h)(hsd:∀ t∈sd,Kw w h ks.length t)(nd:IC sd)(hl:sd.length<=6)(hS:S.length<=13) :
   Res (Uq [HZ e stk ks w h sd,.tup (S.map tD)] st) st (fun F=>.tup (nD F)) (fun j=>LI (j:Int)) S.length (fb (gA stk ks w h) (gF e stk ks) (sd,[]) 0 S):=by
 obtain⟨hs,i0,ie,i1,i2⟩:=c.at_;have ed0:=YX (stk:=stk) (st:=st) (by have:=c.hs.sl;omega);obtain⟨s1,e1,a1,g1⟩:=iL (ts:=sd) (st:=st++[.dk (KA stk)]) (by omega);rw[Vt nd] at a1;have b1:s1[st.length]?=some (.dk<|KA stk):=(g1.old _<|by simp).trans<|IK st _;have l1:(st++[O.dk (KA stk)]).length=st.length+1:=by simp
 rw[l1] at e1 a1;have gA':=(Gr.app st [.dk (KA stk)]).trans g1;have a2:=IK s1<|.lst [];have d2:(s1++[O.lst []])[st.length+1]?=some (.dt<|sd.map HF):=(Ai<|qax a1).trans a1;have b2:(s1++[O.lst []])[st.length]?=some (.dk<|KA stk):=(Ai<|qax b1).trans b1;have g2:=gA'.trans<|Gr.app s1 [.lst []];have hne:st.length+1≠s1.length:=An<|qax a1;have hn2:st.length≠s1.length:=An<|qax b1;have hl1:st.length<=s1.length:=gA'.len;generalize hs2:s1++[O.lst []]=s2 at *;generalize hs0:st++[O.dk (KA stk)]=s0 at *;have key:=VB (A:=gA stk ks w h) (f:=gF e stk ks) (g:=Js 2 (gC (HG 6)<|gC (HG 7)<|Jt)) (m:=Ro) (r:=fun j=>LI (j:Int)) (N:=S.length) (dd:=pairs (S.map tD))
   (Inv:=fun i p ρ s=>(∃ a6 a7 a8,ρ=J8 (HZ e stk ks w h sd) (Jm sd) (.tup<|S.map tD) st.length (st.length+1) s1.length a6 a7 a8)/\s[st.length]?=some (.dk<|KA stk)/\WI st ks sd.length (st.length+1) s1.length i p s)
   (J:=fun s=>Gr st s) (fun i t p ρ s hi hI=>by
     obtain⟨⟨a6,a7,a8,rfl⟩,b,q⟩:=hI;obtain⟨x,y,k⟩:=t;have ql:=q.l;have qm:=q.m.1;obtain⟨hy,hn⟩:=fN (base:=Jm sd) (row:=.tup (S.map tD)) (i:=i) (x:=x) (y:=y) (k:=k) (a8:=a8) c q.k b q.d q.f hne (by omega) (by omega);refine⟨J8 (HZ e stk ks w h sd) (Jm sd) (.tup<|S.map tD) st.length (st.length+1) s1.length (some<|.int (i:Int)) (some<|.tup [.int x,.int y,.int k]) a8,s,rfl,fun hg=>?_,fun hg=>?_⟩
     . obtain⟨s3,b8,e3,d3,f3,fr⟩:=hy hg;exact⟨_,s3,e3,⟨_,_,_,rfl⟩,(fr.old _ (qax b) (by omega) hn2).trans b,q.next (t:=(x,y,k)) hg (by omega) hl1 d3 f3 fr⟩
     obtain⟨s3,e3,g3⟩:=hn hg;exact⟨s3,e3,q.g.trans g3⟩) S (sd,[]) 0 (J8 (HZ e stk ks w h sd) (Jm sd) (.tup<|S.map tD) st.length (st.length+1) s1.length none none none) s2 (by simp) ⟨⟨_,_,_,rfl⟩,b2,⟨d2,a2,g2,fun t ht=>⟨(hsd t ht).2.2.2.2.1,(hsd t ht).2.2.2.2.2⟩,rfl,Ag _,by simp⟩⟩
 have j2:HE (HZ e stk ks w h sd) (.int 2) st=some (Jm sd,st):=Jh (by decide) rfl;generalize HZ e stk ks w h sd=bed at *;generalize Jm sd=SD at *;have en:LO (mV 2) (J8 bed SD (.tup<|S.map tD) st.length (st.length+1) s1.length none none none) s2=some (⟨pairs<|S.map tD,[]⟩,s2):=VP rfl;rw[ZO] at key;have outer:∀ {r:D} {s:HB},Ue [bed,SD,.tup (S.map tD)] st=some (r,s)->Uq [bed,.tup (S.map tD)] st=some (r,s):=fun {r s} e9=>by refine Jk ?_;unfold dF;generalize D.tup (S.map tD)=RW at *;simp[j2,e9]
 have start:∀ {r:D} {s:HB},mS (mF (LO<|mV 2) (Js 2<|gC (HG 6)<|gC (HG 7)<|Jt)<|Ro) (mR<|HM LD<|Hz (mV 5)<|mZ) (J8 bed SD (.tup<|S.map tD) st.length (st.length+1) s1.length none none none) s2=some (.rt r,s)->Ue [bed,SD,.tup (S.map tD)] st=some (r,s):=fun {r s} e9=>by refine Jk ?_;unfold dN;have k0:=i0 st;have k1:=i1 st;generalize D.tup (S.map tD)=RW at *;generalize D.tup (stk.map Ko)=ST at *;refine HU (ρ1:=[some bed,some SD,some RW,some (.ref st.length),none,none,none,none,none]) (s1:=s0) (by simp[k0,k1,ed0]) ?_;refine HU (ρ1:=[some bed,some SD,some RW,some (.ref st.length),some (.ref<|st.length+1),none,none,none,none]) (s1:=s1) (by simp[e1]) ?_;refine HU (ρ1:=J8 bed SD RW st.length (st.length+1) s1.length none none none) (s1:=s2) (by simp[hs2]) ?_;exact e9
 generalize fb (gA stk ks w h) (gF e stk ks) (sd,[]) 0 S=o at *
 cases key with
 | on P ρ s h1 h2 =>
   obtain⟨⟨a6,a7,a8,rfl⟩,b,q⟩:=h2;have et:=Pl q.f;refine .on P s q.m (outer<|start ?_) q.g;refine HU (by rw[Ld,en];exact h1) ?_;generalize nD P.2=ND at *;simp[et]
 | at_ j P s hj h1 h2 =>
   refine .at_ j P s hj (outer<|start ?_) h2;exact Mp (by rw[Ld,en];exact h1)
def rD{n:Int}{ρ1:Ie}{s3:HB}(e1:mm ρ st=some (ds,st))(e2:g ds st=some (LI n,s2))(e3:mh (ρ.set j<|some<|.er true c<|some (f,n)) s2=some (.nx ρ1,s3)):OP g mm i j c f mh ρ st=some (.nx (ρ1.set j none),s3):=by unfold OP;rw[e1];simp only[Ae];rw[e2];simp only[Ae,LI];rw[e3];rfl
def uW{ts:List D}(e1:mm ρ st=some (ds,st))(e2:g ds st=some (.tup ts,s2)):OP g mm i j c f mh ρ st=some (.nx (ρ.set i<|some<|.tup ts),s2):=by unfold OP;rw[e1];simp only[Ae];rw[e2];rfl
def rC(c:Ctx (HZ e stk ks w h sd) e stk ks w h)(hsd:∀ t∈sd,Kw w h ks.length t)(nd:IC sd)(hl:sd.length<=6)(hS:S.length<=13) :
   Res (Ua [HZ e stk ks w h sd,.tup (S.map tD)] st) st (fun F=>.tup (nD F)) (fun j=>.tup [.str "no",.int (j:Int)]) S.length (fb (gA stk ks w h) (gF e stk ks) (sd,[]) 0 S):=by
 have key:=vA (st:=st) c hsd nd hl hS;generalize HZ e stk ks w h sd=bed at *;generalize D.tup (S.map tD)=row at *;generalize fb (gA stk ks w h) (gF e stk ks) (sd,[]) 0 S=o at *;have em:∀ ρ:Ie,Hz (mV 0) (Hz (mV 1)<|mZ) (some bed::some row::ρ) st=some ([bed,row],st):=fun ρ=>by simp
 cases key with
 | on P s hl h1 h2 =>
   refine .on P s hl (Jk ?_) h2;have n1:Kf .non .non s=some (.bl true,s):=rfl;unfold WQ;refine HU (ρ1:=[some bed,some row,some .non,some .non,none]) (s1:=st) rfl ?_;refine HU (ρ1:=[some bed,some row,some .non,some (.tup<|nD P.2),none]) (s1:=s) (uW (em _) h1) ?_;exact Mp<|Li (s1:=s) (by simp[n1])<|by simp
 | at_ j P s hj h1 h2 =>
   refine .at_ j P s hj (Jk ?_) h2;have e3:=fun s:HB=>mP (o:=some ("number",(j:Int))) (s:=s) Xv;have e4:LX (Kr MU) (mV 2) [some bed,some row,some (.er true "NoGrowing"<|some ("number",(j:Int))),some .non,none] s=some (.bl true,s):=iF W0 rfl;have e5:Lo (Qw "NoGrowing") "number" (mV 2) [some bed,some row,some (.er true "NoGrowing"<|some ("number",(j:Int))),some .non,none] s=some (.int (j:Int),s):=eO rfl;have n1:Kf (.er true "NoGrowing"<|some ("number",(j:Int))) .non s=some (.bl false,s):=rfl;have t1:tyName s (.int (j:Int))=some "int":=rfl;have t2:JZ "int" "bool"=false:=by decide
   unfold WQ;refine HU (ρ1:=[some bed,some row,some .non,some .non,none]) (s1:=st) rfl ?_;refine HU (ρ1:=[some bed,some row,some (.er true "NoGrowing"<|some ("number",(j:Int))),some .non,none]) (s1:=s) (rD (ρ1:=[some bed,some row,some (.er true "NoGrowing"<|some ("number",(j:Int))),some .non,some (.er true "NoGrowing"<|some ("number",(j:Int)))]) (s3:=s) (em _) h1 rfl) ?_;refine HU (Kg (s1:=s)<|by simp[n1]) ?_;refine HU (ρ1:=[some bed,some row,some (.er true "NoGrowing"<|some ("number",(j:Int))),some .non,none]) (s1:=s) ?_ ?_
   . refine Kg (s1:=s) ?_;generalize (j:Int)=J at *;simp[e3,e4,e5,t1,t2]
   generalize (j:Int)=J at *;simp[e5]
end
end L2.MP.T0
namespace L2.MP.T0
open PySem L2.MP L2.MP.Hd
open L2.MP.Hn (Jm Ji Pp bD)
open L2.MP.Hb (HW)
open L2.MP.Ce (Li Kg)
variable {l:Nat}{st:HB}
def fE{s:HB}{o:O}(g:Gr st s)(h:st.length<=l):Gr st (s.set l o) :=
 ⟨by simpa using g.len,fun k hk=>by rw[As (by omega)];exact g.old k hk⟩
variable {st0:HB}{m:Nat}
section
variable {bed:D} {e w h:Int} {stk:List (Str×Int)} {ks:List (List Str)} {P:List Tl} {d:Nat} {x y:Int}
def gH(c:Ctx bed e stk ks w h)(hP:∀ t∈P,0<=t.2.2/\t.2.2 < (ks.length:Int))(hd:st[d]?=some (.dt<|P.map HF))(x0:0<=x)(x1:x < w)(y0:0<=y)(y1:y < h) :
   ∃ (R:List Tl) (st':HB),Jv (JF<|HM HX<|Hz (mB HE (mB HE (mV 0)<|mK<|.int 0)<|mK<|.int 2)<|mZ) 1 [3,4,0,1] (HG 0) Rp Us [some bed,some (.ref d),some (.ref l),some (.int x),some (.int y)] st=some (.ref st'.length,st'++[.lst (R.map tD)])/\(∀ t∈R,Kw w h ks.length t)/\R.length<=13/\Gr st st':=by
 obtain⟨hs,i0,ie,_,i2⟩:=c.at_;have hhi:=c.hs.hi;have el:HX [.tup (ks.map Jl)] st=some (.int (ks.length:Int),st):=by rw[Oz,Af]
 have hr1:JF (HM HX<|Hz (mB HE (mB HE (mV 0)<|mK<|.int 0)<|mK<|.int 2)<|mZ) [some bed,some (.ref d),some (.ref l),some (.int x),some (.int y)] st=some (⟨run 0 ks.length,[]⟩,st):=by refine Va ?_ (by omega);have k0:=i0 st;have k2:=i2 st;generalize D.tup (ks.map Jl)=KK at *;generalize (ks.length:Int)=K at *;simp[k0,k2,el]
 have key:=Sk (W:=⟨run 0 ks.length,[]⟩) (g:=HG 0) (c:=Rp) (m:=Us) (ds:=run 0 ks.length) (acc:=[]) (ρ:=[none,some (.int x),some (.int y),some bed,some (.ref d)]) (st:=st)
   (Inv:=fun i acc ρ s=>(∃ R:List Tl,acc=R.map tD/\(∀ t∈R,Kw w h ks.length t)/\R.length<=i)/\(∃ a,ρ=[a,some (.int x),some (.int y),some bed,some (.ref d)])/\Gr st s)
   ⟨⟨[],rfl,by simp,Ag _⟩,⟨_,rfl⟩,Gr.refl st⟩ (fun _ _ _ _ _ _=>rfl) (fun i dd acc ρ s hdd hI=>by
     obtain⟨⟨R,rfl,hR,hl⟩,⟨a,rfl⟩,g⟩:=hI;obtain⟨hi,rfl⟩:=OZ hdd;obtain⟨s1,e1,g1⟩:=Y0 (x:=x) (y:=y) (k:=(i:Int)) c hP ((g.old _<|qax hd).trans hd) (by omega) (by omega);refine⟨[some (.int (i:Int)),some (.int x),some (.int y),some bed,some (.ref d)],s,decide (0 < Kz stk ks P x y (i:Int)),s1,rfl,?_,?_⟩
     . unfold Rp;generalize Kz stk ks P x y (i:Int)=R at *;generalize (i:Int)=I at *;simp[e1]
     . by_cases hp:0 < Kz stk ks P x y (i:Int)
       . refine .inl ⟨decide_eq_true hp,tD (x,y,(i:Int)),s1,rfl,⟨R++[(x,y,(i:Int))],by rw[BP];rfl,fun t ht=>?_,by simp[hl]⟩,⟨_,rfl⟩,g.trans g1⟩
         rcases SL.mp ht with ht | ht
         . exact hR t ht
         . cases On.mp ht
           exact⟨x0,x1,y0,y1,by show 0<=(i:Int);omega,by show (i:Int) < _;omega⟩
       exact .inr ⟨decide_eq_false hp,⟨R,rfl,hR,by omega⟩,⟨_,rfl⟩,g.trans g1⟩)
 obtain⟨xs,ρ',s',ec,⟨R,hx,hR,hl⟩,_,g⟩:=key;rw[GP] at hx;subst hx;rw[KP] at hl;refine⟨R,s',?_,hR,by omega,g⟩;rw[Qm,hr1];simp only[Ae];rw[show JJ [some bed,some (.ref d),some (.ref l),some (.int x),some (.int y)] 1 [3,4,0,1]=[none,some (.int x),some (.int y),some bed,some (.ref d)] from rfl,ec];simp only[Ae];rw[if_pos (Ll (by rw[Af];omega))]
structure RI(st:HB)(w h:Int)(n l m:Nat)(s:HB):Prop where
 g:Gr st s
 r:∃ R:List Tl,s[l]?=some (.lst (R.map tD))/\(∀ t∈R,Kw w h n t)/\R.length<=m
def gG(c:Ctx bed e stk ks w h)(hP:∀ t∈P,0<=t.2.2/\t.2.2 < (ks.length:Int))(q:RI st0 w h ks.length l m st)(hd:st0[d]?=some (.dt<|P.map HF))(hl:st0.length<=l)(hm:m<=5000)(x0:0<=x)(x1:x < w)(y0:0<=y)(y1:y < h) :
   ∃ s',Ut [some bed,some (.ref d),some (.ref l),some (.int x),some (.int y)] st=some (.nx [some bed,some (.ref d),some (.ref l),some (.int x),some (.int y)],s')/\RI st0 w h ks.length l (m+13) s':=by
 have hd':=(q.g.old _<|qax hd).trans hd;have hin:Nb (.tup [.int x,.int y]) (.ref d) st=some (.bl (!(Jb P x y).isSome),st):=by rw[ZE hd',O7];cases Jb P x y <;> rfl
 unfold Ut
 cases hf:(Jb P x y).isSome with
 | true =>
   rw[hf] at hin;obtain⟨R,h1,h2,h3⟩:=q.r;exact⟨st,Kg<|by simp[hin],q.g,R,h1,h2,by omega⟩
 | false =>
   rw[hf] at hin;obtain⟨R,h1,h2,h3⟩:=q.r;obtain⟨N,s1,e1,hN,nl,g1⟩:=gH (l:=l) c hP hd' x0 x1 y0 y1;have a2:=IK s1<|.lst<|N.map tD;have r1:Ik st l=some (R.map tD):=by simp only[Ik,h1]
   have g2:=g1.trans<|Gr.app s1 [.lst (N.map tD)];have h1':=(g2.old _<|qax h1).trans h1;generalize hs2:s1++[O.lst (N.map tD)]=s2 at *;have ex:=bD h1' a2 (by rw[Af,Af];omega);refine⟨s2.set l<|.lst<|R.map tD++N.map tD,Li (s1:=st) (by simp[hin]) ?_,fE (q.g.trans g2) hl,R++N,?_,fun t ht=>?_,?_⟩
   . generalize Jv (JF<|HM HX<|Hz (mB HE (mB HE (mV 0)<|mK<|.int 0)<|mK<|.int 2)<|mZ) 1 [3,4,0,1] (HG 0) Rp Us=MC at *;generalize R.map tD=RD at *;generalize N.map tD=ND at *;simp[iT,r1,e1,ex]
   . rw[AF (qax h1'),BP]
   . rcases SL.mp ht with ht | ht
     . exact h2 t ht
     exact hN t ht
   rw[AM];omega
def Xl(c:Ctx bed e stk ks w h)(hP:∀ t∈P,0<=t.2.2/\t.2.2 < (ks.length:Int)){a4:Option D}(q:RI st0 w h ks.length l m st)(hd:st0[d]?=some (.dt<|P.map HF))(hl:st0.length<=l)(hm:m<=4000)(x0:0<=x)(x1:x < w) :
   ∃ b4 s',Uu [some bed,some (.ref d),some (.ref l),some (.int x),a4] st=some (.nx [some bed,some (.ref d),some (.ref l),some (.int x),b4],s')/\RI st0 w h ks.length l (m+156) s':=by
 have fo:=c.fo;have f1:=fo.h0;have f2:=fo.h1;have ih:=c.fl st;have j1:HE (.tup [.int w,.int h]) (.int 1) st=some (.int h,st):=Jh (by decide) rfl;obtain⟨H,hH⟩:=Bq (show 0<=h by omega);have hr1:JF (mB HE (mB HE (mV 0)<|mK<|.int 1)<|mK<|.int 1) [some bed,some (.ref d),some (.ref l),some (.int x),a4] st=some (⟨run 0 H,[]⟩,st):=by refine OY (M:=h) (by omega) ?_ (by omega);simp[ih,j1]
 have key:=LR (W:=⟨run 0 H,[]⟩) (g:=HG 4) (m:=Ut) (ds:=run 0 H) (ρ:=[some bed,some (.ref d),some (.ref l),some (.int x),a4]) (st:=st)
   (Inv:=fun j ρ s=>(∃ b4,ρ=[some bed,some (.ref d),some (.ref l),some (.int x),b4])/\RI st0 w h ks.length l (m+13*j) s)
   ⟨⟨_,rfl⟩,q⟩ (fun _ _ _ _ _=>rfl) (fun j dd ρ s hdd hI=>by obtain⟨⟨b4,rfl⟩,q⟩:=hI;obtain⟨hj,rfl⟩:=OZ hdd;obtain⟨s',e',q'⟩:=gG (x:=x) (y:=(j:Int)) c hP q hd hl (by omega) x0 x1 (by omega) (by omega);exact⟨_,s,_,s',rfl,e',⟨_,rfl⟩,by rw[CZ,Dy,<-FB];exact q'⟩)
 obtain⟨ρ',s',el,⟨b4,rfl⟩,q'⟩:=key;rw[KP] at q';refine⟨b4,s',?_,q'.g,?_⟩
 . unfold Uu;rw[Ld,hr1];exact el
 obtain⟨R,h1,h2,h3⟩:=q'.r;exact⟨R,h1,h2,by omega⟩
def sL(c:Ctx bed e stk ks w h)(hP:∀ t∈P,0<=t.2.2/\t.2.2 < (ks.length:Int))(hd:st[d]?=some (.dt<|P.map HF)) :
   ∃ (R:List Tl) (st':HB),Ux [bed,.ref d] st=some (.ref st.length,st')/\st'[st.length]?=some (.lst<|R.map tD)/\(∀ t∈R,Kw w h ks.length t)/\R.length<=2000/\Gr st st':=by
 have fo:=c.fo;have f1:=fo.w0;have f2:=fo.w1;have g0:=Gr.app st [.lst []];have a0:=IK st<|.lst [];generalize hs0:st++[O.lst []]=s0 at *;have ih:=c.fl s0;have j0:HE (.tup [.int w,.int h]) (.int 0) s0=some (.int w,s0):=Jh (by decide) rfl;obtain⟨W,hW⟩:=Bq (show 0<=w by omega);have hr1:JF (mB HE (mB HE (mV 0)<|mK<|.int 1)<|mK<|.int 0) [some bed,some (.ref d),some (.ref st.length),none,none] s0=some (⟨run 0 W,[]⟩,s0):=by refine OY (M:=w) (by omega) ?_ (by omega);simp[ih,j0]
 have key:=LR (W:=⟨run 0 W,[]⟩) (g:=HG 3) (m:=Uu) (ds:=run 0 W) (ρ:=[some bed,some (.ref d),some (.ref st.length),none,none]) (st:=s0)
   (Inv:=fun j ρ s=>(∃ b3 b4,ρ=[some bed,some (.ref d),some (.ref st.length),b3,b4])/\RI st w h ks.length st.length (156*j) s)
   ⟨⟨_,_,rfl⟩,g0,[],a0,by simp,Ag _⟩ (fun _ _ _ _ _=>rfl) (fun j dd ρ s hdd hI=>by obtain⟨⟨b3,b4,rfl⟩,q⟩:=hI;obtain⟨hj,rfl⟩:=OZ hdd;obtain⟨c4,s',e',q'⟩:=Xl (x:=(j:Int)) (a4:=b4) c hP q hd (Ag _) (by omega) (by omega) (by omega);exact⟨_,s,_,s',rfl,e',⟨_,_,rfl⟩,by rw[CZ,Dy];exact q'⟩)
 obtain⟨ρ',s',el,⟨b3,b4,rfl⟩,q'⟩:=key;rw[KP] at q';obtain⟨R,h1,h2,h3⟩:=q'.r;refine⟨R,s',Jk ?_,h1,h2,by omega,q'.g⟩;unfold dS;refine HU (ρ1:=[some bed,some (.ref d),some (.ref st.length),none,none]) (s1:=s0) (by simp[hs0]) ?_;refine HU (by rw[Ld,hr1];exact el) ?_;simp
end
end L2.MP.T0
namespace L2.MP.T0
open PySem L2.MP L2.MP.Hd
open L2.MP.Hn (Jm Ji Pp)
open L2.MP.Hb (HW)
open L2.MP.Ce (Li Kg LW)
variable {P:List Tl}{d:Nat}{s:HB}
def zh1{P:List Tl}(hd:s[d]?=some (.dt<|P.map HF))(hl:P.length < 64):∃ L:List (Int×Int),Y3 (NH [.ref d] s=some (.ref s.length,s++[.lst (L.map Mg)])) (L.length=P.length) (∀ p∈L,∃ t∈P,t.1=p.1/\t.2.1=p.2):=by
 have fl:fits (P.map HF).length=true:=Ll (by rw[Af];omega);have ek:J9 (P.map HF)=(P.map fun t=>(t.1,t.2.1)).map Mg:=by unfold J9;rw[Be,Be];rfl
 have el:((P.map fun t=>(t.1,t.2.1)).map Mg).length=P.length:=by rw[Af,Af]
 by_cases h:P.length < 2
 . refine⟨P.map fun t=>(t.1,t.2.1),?_,by rw[Af],fun p hp=>?_⟩
   . unfold NH;simp only[hd,fl,if_true,ek];rw[if_pos (by rw[el];exact decide_eq_true h)]
   obtain⟨t,ht,rfl⟩:=PP.mp hp;exact⟨t,ht,rfl,rfl⟩
 . have er:rowsOf ((P.map fun t=>(t.1,t.2.1)).map Mg)=some (P.map fun t=>[t.1,t.2.1]):=by
     have:(P.map fun t=>(t.1,t.2.1)).map Mg=(P.map fun t=>[t.1,t.2.1]).map Il:=by rw[Be,Be];rfl
     rw[this];exact Wx fun r hr=>by obtain⟨t,_,rfl⟩:=PP.mp hr;simp
   have hp:=Wm<|P.map fun t=>[t.1,t.2.1];have hel:∀ r∈Lj (P.map fun t=>[t.1,t.2.1]),∃ t∈P,r=[t.1,t.2.1]:=fun r hr=>by obtain⟨t,ht,rfl⟩:=PP.mp<|hp.mem_iff.mp hr;exact⟨t,ht,rfl⟩
   have hlen:=hp.length_eq;rw[Af] at hlen;refine⟨(Lj<|P.map fun t=>[t.1,t.2.1]).map fun r=>(r.getD 0 0,r.getD 1 0),?_,by rw[Af];exact hlen,fun p hq=>?_⟩
   . have e2:((Lj<|P.map fun t=>[t.1,t.2.1]).map fun r=>(r.getD 0 0,r.getD 1 0)).map Mg=(Lj<|P.map fun t=>[t.1,t.2.1]).map Il:=by
       rw[Be];refine C4 fun r hr=>?_;obtain⟨t,_,rfl⟩:=hel r hr;rfl
     unfold NH;simp only[hd,fl,if_true,ek];rw[if_neg (by rw[el];simpa using h),er];simp only[Ae,Af];rw[if_pos (by simp;omega),e2]
   obtain⟨r,hr,rfl⟩:=PP.mp hq;obtain⟨t,ht,rfl⟩:=hel r hr;exact⟨t,ht,rfl,rfl⟩
def Wd(c:Int):Prop:=(-1<=c/\c<=100)\/c=1000000000000000000000000000000\/c=-100000000000000000000
def OH(t:Tl):Prop:=Wd t.1/\Wd t.2.1/\Wd t.2.2
def LM{c:Int}(h0:-1<=c)(h1:c<=100):Wd c:=.inl ⟨h0,h1⟩
variable {t:Tl}
def iC{P:List Tl}(h:t∈P):∃ k,Jb P t.1 t.2.1=some k/\∃ u∈P,u.2.2=k:=by
 cases hf:Jb P t.1 t.2.1 with
 | none=>exact absurd ⟨rfl,rfl⟩<|VQ.mp hf t h
 | some k=>exact⟨k,rfl,TH hf⟩
variable {bed:D}{e w h F x y k:Int}{stk:List (Str×Int)}{ks:List (List Str)}{n q m:Nat}{st s2:HB}
def iA{ρ:Ie}(hp:HR n q m st)(hm:m<=800000):∃ (F:Int) (s1:HB),HM KQ (Hz (mV 0)<|Hz (mL<|Hz (IF<|mK<|.int 1)<|Hz (mK<|.int 12)<|Hz (mB IP (mK<|.int 10)<|mK<|.int 30)<|Hz (IF<|mB IP (mK<|.int 10)<|mK<|.int 20)<|mZ)<|mZ) (some (.ref n)::ρ) st=some (.int F,s1)/\Wd F/\HR n q (m+1) s1/\HW n q st s1:=by
 have p30:∀ s:HB,IP (.int 10) (.int 30) s=some (.int 1000000000000000000000000000000,s):=fun s=>rfl;have p20:∀ s:HB,IP (.int 10) (.int 20) s=some (.int 100000000000000000000,s):=fun s=>rfl;have n20:∀ s:HB,NY (.int 100000000000000000000) s=some (.int (-100000000000000000000),s):=fun s=>rfl;have a1:=IK st<|.lst [.int (-1),.int 12,.int 1000000000000000000000000000000,.int (-100000000000000000000)];have p1:=hp.gr<|Gr.app st [.lst [.int (-1),.int 12,.int 1000000000000000000000000000000,.int (-100000000000000000000)]];have f1:=HW.app n q st [.lst [.int (-1),.int 12,.int 1000000000000000000000000000000,.int (-100000000000000000000)]];have ne:=hp.ne;generalize hs1:st++[O.lst [.int (-1),.int 12,.int 1000000000000000000000000000000,.int (-100000000000000000000)]]=s1 at *;obtain⟨dd,s2,e2,hd,p2,f2⟩:=O5 p1 a1 (by omega) (by omega) (by simp) (by simp) (by omega);obtain⟨F,rfl,hF⟩:∃ F,dd=.int F/\Wd F:=by
   simp only[AW,AS,or_false] at hd
   rcases hd with rfl | rfl | rfl | rfl
   . exact⟨_,rfl,LM (by decide)<|by decide⟩
   . exact⟨_,rfl,LM (by decide)<|by decide⟩
   . exact⟨_,rfl,.inr<|.inl rfl⟩
   exact⟨_,rfl,.inr<|.inr rfl⟩
 refine⟨F,s2,?_,hF,p2,f1.trans f2⟩;have el:mL (Hz (IF<|mK<|.int 1)<|Hz (mK<|.int 12)<|Hz (mB IP (mK<|.int 10)<|mK<|.int 30)<|Hz (IF<|mB IP (mK<|.int 10)<|mK<|.int 20)<|mZ) (some (.ref n)::ρ) st=some (.ref st.length,s1):=by rw[<-hs1];simp only[iU,Q2,QP,iV,Lk,LP,Ae,p30,p20,n20,LW,AC,Bf];rfl
 generalize mL (Hz (IF<|mK<|.int 1)<|Hz (mK<|.int 12)<|Hz (mB IP (mK<|.int 10)<|mK<|.int 30)<|Hz (IF<|mB IP (mK<|.int 10)<|mK<|.int 20)<|mZ)=ML at *;simp[el,e2]
noncomputable abbrev NO (n:Nat) (bed:D) (d:Nat) (F x y k:Int) (a7 a8:Option D):Ie:=[some (.ref n),some bed,some (.ref d),some (.int F),some (.int x),some (.int y),some (.int k),a7,a8]
def six(F x y k:Int)(N:Int):List Tl:=[(F,y,k),(x,F,k),(x,y,N),(x,y,-1),(x,y,F),(x,y,k)]
def kC{N:Int}{hs KK:D}{a7 a8:Option D}(i0:∀ s:HB,HE bed (.int 0) s=some (hs,s))(i2:∀ s:HB,HE hs (.int 2) s=some (KK,s))(el:∀ s:HB,HX [KK] s=some (.int N,s)) :
   HL (mL<|Hz (mU<|Hz (mV 3)<|Hz (mV 5)<|Hz (mV 6)<|mZ)<|Hz (mU<|Hz (mV 4)<|Hz (mV 3)<|Hz (mV 6)<|mZ)<|Hz (mU<|Hz (mV 4)<|Hz (mV 5)<|Hz (HM HX<|Hz (mB HE (mB HE (mV 1)<|mK<|.int 0)<|mK<|.int 2)<|mZ)<|mZ)<|Hz (mU<|Hz (mV 4)<|Hz (mV 5)<|Hz (IF<|mK<|.int 1)<|mZ)<|Hz (mU<|Hz (mV 4)<|Hz (mV 5)<|Hz (mV 3)<|mZ)<|Hz (mU<|Hz (mV 4)<|Hz (mV 5)<|Hz (mV 6)<|mZ)<|mZ) (HG 7) (NO n bed d F x y k a7 a8) st=some (.nx (NO n bed d F x y k (some<|.ref st.length) a8),st++[.lst ((six F x y k N).map tD)]):=by
 simp[i0,i2,el,LW];rfl
def pY{u v K:Int}{l7:Nat}{s1 s3:HB}{L:List D}{N:Nat}(es:NH [.ref d] s=some (.ref N,s1))(eo:KQ [.ref n,.ref N] s1=some (.tup [.int u,.int v],s2))(ix:HE (.ref d) (.tup [.int u,.int v]) s2=some (.int K,s2))(hs3:s2++[.lst [.tup [.int u,.int v,.int K],.tup [.int u,.int v,.int k]]]=s3)(hl:s2[l7]?=some (.lst L))(hL:L.length<=100) :
   mS (HL (HM KQ<|Hz (mV 0)<|Hz (HM NH<|Hz (mV 2)<|mZ)<|mZ)<|HG 8) (HL (mB HP (mV 7)<|mL<|Hz (mB HP (mV 8)<|mU<|Hz (mB HE (mV 2)<|mV 8)<|mZ)<|Hz (mB HP (mV 8)<|mU<|Hz (mV 6)<|mZ)<|mZ)<|HG 7) (NO n bed d F x y k (some<|.ref l7) none) s=some (.nx (NO n bed d F x y k (some<|.ref s3.length)<|some<|.tup [.int u,.int v]),s3++[.lst (L++[.tup [.int u,.int v,.int K],.tup [.int u,.int v,.int k]])]):=by
 refine HU (ρ1:=NO n bed d F x y k (some<|.ref l7) (some<|.tup [.int u,.int v])) (s1:=s2) (by simp[es,eo]) ?_;have e1:HP (.tup [.int u,.int v]) (.tup [.int K]) s2=some (.tup [.int u,.int v,.int K],s2):=Tg (by simp) (by simp);have e2:HP (.tup [.int u,.int v]) (.tup [.int k]) s2=some (.tup [.int u,.int v,.int k],s2):=Tg (by simp) (by simp);have a3:=IK s2<|.lst [.tup [.int u,.int v,.int K],.tup [.int u,.int v,.int k]];have l3:(s2++[O.lst [.tup [.int u,.int v,.int K],.tup [.int u,.int v,.int k]]])[l7]?=some (.lst L):=(Ai<|qax hl).trans hl;rw[hs3] at a3 l3;have ea:=Zj l3 a3 (by simp;omega);simp[ix,e1,e2,hs3,ea]
def zS(c:Ctx bed e stk ks w h)(hP:∀ t∈P,Kw w h ks.length t)(hp:HR n q m st)(hm:m<=700000)(hd:st[d]?=some (.dt<|P.map HF))(h1:d≠n)(h2:d≠q)(hl:P.length < 60) :
   ∃ (t:Tl) (st':HB),WT [.ref n,bed,.ref d] st=some (tD t,st')/\OH t/\HR n q (m+6) st'/\HW n q st st':=by
 obtain⟨hs,i0,ie,_,i2⟩:=c.at_;have hhi:=c.hs.hi;have hlo:=c.hs.lo;obtain⟨w0,w1,h0,h12⟩:=c.fo;obtain⟨F,s1,e1,hF,p1,f1⟩:=iA (ρ:=[some bed,some (.ref d),none,none,none,none,none,none]) hp (by omega);obtain⟨x,s2,e2,x0,x1,p2,f2⟩:=J7 (many:=w) p1 (by omega) (by omega) (by omega);obtain⟨y,s3,e3,y0,y1,p3,f3⟩:=J7 (many:=h) p2 (by omega) (by omega) (by omega);obtain⟨k,s4,e4,k0,k1,p4,f4⟩:=J7 (many:=(ks.length:Int)) p3 (by omega) (by omega) (by omega);have el:∀ s:HB,HX [.tup (ks.map Jl)] s=some (.int (ks.length:Int),s):=fun s=>by rw[Oz,Af]
 have fl:=c.fl;have j0:∀ s:HB,HE (.tup [.int w,.int h]) (.int 0) s=some (.int w,s):=fun s=>Jh (by decide) rfl;have j1:∀ s:HB,HE (.tup [.int w,.int h]) (.int 1) s=some (.int h,s):=fun s=>Jh (by decide) rfl;have wk:Wd k:=LM (by omega) (by omega);have wx:Wd x:=LM (by omega) (by omega);have wy:Wd y:=LM (by omega) (by omega);have h6:∀ t∈six F x y k (ks.length:Int),OH t:=fun t ht=>by
   simp only[six,AW,AS,or_false] at ht
   rcases ht with rfl | rfl | rfl | rfl | rfl | rfl
   . exact⟨hF,wy,wk⟩
   . exact⟨wx,hF,wk⟩
   . exact⟨wx,wy,LM (by show -1<=(ks.length:Int);omega) (by show (ks.length:Int)<=100;omega)⟩
   . exact⟨wx,wy,LM (c:=-1) (by decide)<|by decide⟩
   . exact⟨wx,wy,hF⟩
   exact⟨wx,wy,wk⟩
 have f14:=(((f1.trans f2).trans f3).trans f4)
 have a5:=IK s4<|.lst<|(six F x y k (ks.length:Int)).map tD;have p5:=p4.gr<|Gr.app s4 [.lst ((six F x y k (ks.length:Int)).map tD)];have f5:=f14.trans<|HW.app n q s4 [.lst ((six F x y k (ks.length:Int)).map tD)];have st3:=kC (n:=n) (d:=d) (st:=s4) (F:=F) (x:=x) (y:=y) (k:=k) (a7:=none) (a8:=none) i0 i2 el;have ne4:=p4.ne;generalize hs5:s4++[O.lst ((six F x y k (ks.length:Int)).map tD)]=s5 at *;have a6:=IK s5<|.dk [];have p6:=p5.gr<|Gr.app s5 [.dk []];have f6:=f5.trans<|HW.app n q s5 [.dk []];have b6:(s5++[O.dk []])[s4.length]?=some (.lst<|(six F x y k (ks.length:Int)).map tD):=(Ai<|qax a5).trans a5;have d5:=(f5.old _ (qax hd) h1 h2).trans hd;have d6:(s5++[O.dk []])[d]?=some (.dt<|P.map HF):=(Ai<|qax d5).trans d5;generalize hs6:s5++[O.dk []]=s6 at *;have eg:PD (.ref d) (.ref s5.length) s6=some (.bl (!(P.map HF).isEmpty),s6):=by unfold PD;simp only[d6,a6]
 have et:mT (mB PD (mV 2)<|Nq false) (NO n bed d F x y k (some<|.ref s4.length) none) s5=some (!(P.map HF).isEmpty,s6):=by generalize P.map HF=PK at *;simp[hs6,eg]
 obtain⟨l8,a8,L8,s8,st4,b8,h8,len8,p8,f8,n8,q8⟩:∃ (l8:Nat) (a8:Option D) (L8:List Tl) (s8:HB),IY (mT<|mB PD (mV 2)<|Nq false) (mS (HL (HM KQ<|Hz (mV 0)<|Hz (HM NH<|Hz (mV 2)<|mZ)<|mZ)<|HG 8)<|HL (mB HP (mV 7)<|mL<|Hz (mB HP (mV 8)<|mU<|Hz (mB HE (mV 2)<|mV 8)<|mZ)<|Hz (mB HP (mV 8)<|mU<|Hz (mV 6)<|mZ)<|mZ)<|HG 7) Je (NO n bed d F x y k (some<|.ref s4.length) none) s5=some (.nx (NO n bed d F x y k (some<|.ref l8) a8),s8)/\s8[l8]?=some (.lst<|L8.map tD)/\(∀ t∈L8,OH t)/\(0 < L8.length/\L8.length<=8)/\HR n q (m+5) s8/\HW n q st s8/\l8≠n/\l8≠q:=by
   cases hP0:P.isEmpty with
   | true =>
     have:(!(P.map HF).isEmpty)=false:=by rw[Gx,hP0];rfl
     rw[this] at et;exact⟨s4.length,none,six F x y k (ks.length:Int),s6,Kg et,b6,h6,by simp[six],p6.up<|by omega,f6,by omega,by omega⟩
   | false =>
     have:(!(P.map HF).isEmpty)=true:=by rw[Gx,hP0];rfl
     rw[this] at et;obtain⟨L,es,ll,hL⟩:=zh1 d6 (by omega);have P0:0 < P.length:=by cases P with
       | nil=>cases hP0
       | cons _ _=>simp
     have p7:=p6.gr<|Gr.app s6 [.lst (L.map Mg)];have a7:=IK s6<|.lst<|L.map Mg;have f7:=f6.trans<|HW.app n q s6 [.lst (L.map Mg)];have ne6:=p6.ne;have b7:(s6++[O.lst (L.map Mg)])[s4.length]?=some (.lst<|(six F x y k (ks.length:Int)).map tD):=(Ai<|qax b6).trans b6;have d7:(s6++[O.lst (L.map Mg)])[d]?=some (.dt<|P.map HF):=(Ai<|qax d6).trans d6;obtain⟨dd,s8,e8,hdd,p8,f8⟩:=O5 p7 a7 (by omega) (by omega) (by rw[Af];omega) (by rw[Af];omega) (by omega);obtain⟨⟨u,v⟩,hp',rfl⟩:=PP.mp hdd;obtain⟨t,ht,tu,tv⟩:=hL _ hp';have tu:t.1=u:=tu;have tv:t.2.1=v:=tv;have d8:=(f8.old _ (qax d7) h1 h2).trans d7;have b8:=(f8.old _ (qax b7) (by omega)<|by omega).trans b7;obtain⟨K,hK,z,hz,zK⟩:=iC ht;rw[tu,tv] at hK;have hv:Ir (P.map HF) [.inl u,.inl v]=some (.int K):=by rw[O7,hK];rfl
     have ix:HE (.ref d) (.tup [.int u,.int v]) s8=some (.int K,s8):=Yl d8 hv;have wt:=hP t ht;have wz:=hP z hz;have wK:Wd K:=by rw[<-zK];exact LM (by have:=wz.2.2.2.2.1;omega) (by have:=wz.2.2.2.2.2;omega)
     have wu:Wd u:=by rw[<-tu];exact LM (by have:=wt.1;omega) (by have:=wt.2.1;omega)
     have wv:Wd v:=by rw[<-tv];exact LM (by have:=wt.2.2.1;omega) (by have:=wt.2.2.2.1;omega)
     generalize hs7:s6++[O.lst (L.map Mg)]=s7 at *;have mr:=pY (n:=n) (bed:=bed) (F:=F) (x:=x) (y:=y) (k:=k) es e8 ix rfl b8 (by simp[six]);have p9:=p8.gr<|Gr.app s8 [.lst [.tup [.int u,.int v,.int K],.tup [.int u,.int v,.int k]]];have f9:=(f7.trans f8).trans<|HW.app n q s8 [.lst [.tup [.int u,.int v,.int K],.tup [.int u,.int v,.int k]]];generalize hs9:s8++[O.lst [.tup [.int u,.int v,.int K],.tup [.int u,.int v,.int k]]]=s9 at *;have ne9:=p9.ne;refine⟨s9.length,_,six F x y k (ks.length:Int)++[(u,v,K),(u,v,k)],_,Li et mr,?_,fun t ht=>?_,by simp[six],(p9.gr<|Gr.app _ _).up<|by omega,f9.trans<|HW.app _ _ _ _,by omega,by omega⟩
     . rw[IK,BP];rfl
     . rcases SL.mp ht with ht | ht
       . exact h6 t ht
       . simp only[AW,AS,or_false] at ht
         rcases ht with rfl | rfl
         . exact⟨wu,wv,wK⟩
         exact⟨wu,wv,wk⟩
 obtain⟨dd,s10,e10,hdd,p10,f10⟩:=O5 p8 b8 n8 q8 (by rw[Af];exact len8.1) (by rw[Af];omega) (by omega);obtain⟨t,ht,rfl⟩:=PP.mp hdd;refine⟨t,s10,Jk ?_,h8 t ht,p10.up<|by omega,f8.trans f10⟩;unfold dH;refine HU (ρ1:=[some (.ref n),some bed,some (.ref d),some (.int F),none,none,none,none,none]) (s1:=s1) (by
   show HL _ _ [some (.ref n),some bed,some (.ref d),none,none,none,none,none,none] st=_;rw[Lz,e1];rfl) ?_
 refine HU (ρ1:=NO n bed d F x y k none none) (s1:=s4) (by
   generalize D.tup (ks.map Jl)=KK at *;generalize (ks.length:Int)=K at *;simp[nO,fl,j0,j1,i0,i2,el,e2,e3,e4]) ?_
 refine HU st3<|HU st4 ?_;generalize tD t=TD at *;simp[e10]
def tP(t:Tl):PyData:=.tuple [.int t.1,.int t.2.1,.int t.2.2]
def cM{n:Nat}{st:HB}:∀ ts:List Tl,JQ (IT (n+2) st) (ts.map tD)=some (ts.map tP)
 | []=>rfl
 | t::ts=>by
   have e:IT (n+2) st (tD t)=some (tP t):=by obtain⟨x,y,k⟩:=t;show IT (n+2) st (.tup [.int x,.int y,.int k])=_;rw[IT];simp only[JQ,IT,Ae,A9];rfl
   rw[Ax,JQ,e,Ae,cM ts];rfl
variable {l:Nat}
def tO{ts:List Tl}(hl:st[l]?=some (.lst<|ts.map tD))(hm:st[m]?=some (.lst [])):Kk (.ref l) (.ref m) st=some (.bl !ts.isEmpty,st):=by
 have e:IT 100 st (.ref l)=some (.list<|ts.map tP):=by rw[IT];simp only[Ik,hl,Ae];rw[cM];rfl
 unfold Kk;rw[e,VZ (n:=98) (as:=[]) hm]
 cases ts <;> rfl
def mX{ds:List D}{x:D}(hl:s[l]?=some (.lst ds))(hx:ds[ds.length - 1]?=some x):HE (.ref l) (.int<|-1) s=some (x,s):=by
 have hlt:=qax hx;have:JT (.ref l) (.int<|-1) s=some (x,s):=by
   show (Ik s l).bind _=_;have e:KH ds (-1)=some x:=by
     unfold KH;have:LY ds.length (-1)=some (ds.length - 1):=by unfold LY;simp;omega
     rw[this];exact hx
   simp only[Ik,hl,Ae,e,A9]
 unfold HE JX;rw[this,Kh]
def Zo(ht:Kw w h n t)(hw:w<=100)(hh:h<=100)(hn:n<=100):OH t:=by obtain⟨a,b,c,d,e,f⟩:=ht;exact⟨LM (by omega)<|by omega,LM (by omega)<|by omega,LM (by omega)<|by omega⟩
section
variable {S:List Tl} {a4 a5:Option D}
noncomputable abbrev Lh (n:Nat) (bed:D) (d l:Nat) (a4 a5:Option D):Ie:=[some (.ref n),some bed,some (.ref d),some (.ref l),a4,a5]
def oM(ix:HE (.ref l) (.int<|-1) s=some (.tup [.int x,.int y,.int k],s))(ed:dput s d (.tup [.int x,.int y]) (.int k)=some s2):JR (mV 2) (J0 (mB HE (mV 3)<|IF<|mK<|.int 1) Lb<|Lc<|mK<|.int 2) (mB HE (mB HE (mV 3)<|IF<|mK<|.int 1)<|mK<|.int 2) (Lh n bed d l a4 a5) s=some (.nx (Lh n bed d l a4 a5),s2):=by
 have es:My (.tup [.int x,.int y,.int k]) none (some 2) s=some (.tup [.int x,.int y],s):=rfl;have j2:HE (.tup [.int x,.int y,.int k]) (.int 2) s=some (.int k,s):=Jh (by decide) rfl;rw[OU];have c1:HL (mB HE (mB HE (mV 3)<|IF<|mK<|.int 1)<|mK<|.int 2) (N6 IX (mV 2)<|J0 (mB HE (mV 3)<|IF<|mK<|.int 1) Lb<|Lc<|mK<|.int 2) (Lh n bed d l a4 a5) s=none:=by simp[es,j2,IX,LW,ix]
 rw[c1,KN];unfold Nr;simp[es,j2,ed,LW,ix]
structure WR(w h:Int)(kn n q d l m i:Nat)(st0:HB)(P S:List Tl)(s:HB):Prop where
 p:HR n q m s
 d:s[d]?=some (.dt (P.map HF))
 l:s[l]?=some (.lst (S.map tD))
 f:HW n q st0 s
 t:∀ t∈P,Kw w h kn t
 w:∀ t∈S,OH t
 pl:P.length<=6+i
 sl:S.length<=i
def sN{i:Nat}{st0:HB}(c:Ctx bed e stk ks w h)(r:WR w h ks.length n q d l m i st0 P S st)(hm:m<=600000)(hi:i<=13)(dn:d≠n)(dq:d≠q)(ln:l≠n)(lq:l≠q)(dl:d≠l)(d0:st0.length<=d)(l0:st0.length<=l) :
   ∃ (P' S':List Tl) (b5:Option D) (s':HB),Qt (Lh n bed d l a4 a5) st=some (.nx (Lh n bed d l a4 b5),s')/\WR w h ks.length n q d l (m+10) (i+1) st0 P' S' s':=by
 obtain⟨w0,w1,h0,h1⟩:=c.fo;have hhi:=c.hs.hi;have hPl:=r.pl;have hSl:=r.sl;obtain⟨R,s1,e1,a1,hR,lR,g1⟩:=sL c (fun t ht=>⟨(r.t t ht).2.2.2.2.1,(r.t t ht).2.2.2.2.2⟩) r.d;have p1:=r.p.gr g1;have ne0:=r.p.ne;obtain⟨u,s2,e2,u0,u1,p2,f2⟩:=J7 (many:=9) p1 (by omega) (by omega) (by omega);have f12:HW n q st s2:=(HW.of g1).trans f2;have d2:=(f12.old _ (qax r.d) dn dq).trans r.d;have l2:=(f12.old _ (qax r.l) ln lq).trans r.l;have a2:=(f2.old _ (qax a1) (by omega)<|by omega).trans a1;have st1:HL (HM Ux<|Hz (mV 1)<|Hz (mV 2)<|mZ) (HG 5) (Lh n bed d l a4 a5) st=some (.nx (Lh n bed d l a4<|some<|.ref st.length),s1):=by simp[e1]
 have la2:Ik s2 l=some (S.map tD):=by simp only[Ik,l2]
 have et:mT (mB Ku (HM IV<|Hz (mV 0)<|Hz (mK<|.int 9)<|mZ)<|mK<|.int 0) (Lh n bed d l a4<|some<|.ref st.length) s1=some (decide (u=0),s2):=by
   by_cases hu:u=0
   . simp[e2,eq_int,hu]
   simp[e2,eq_int,hu]
 by_cases hu:u=0
 . rw[decide_eq_true hu] at et;obtain⟨t,s3,e3,wt,p3,f3⟩:=zS c r.t p2 (by omega) d2 dn dq (by omega);have l3:=(f3.old _ (qax l2) ln lq).trans l2;have d3:=(f3.old _ (qax d2) dn dq).trans d2;have eap:=append_at (x:=tD t) l3 (by rw[Af];omega);refine⟨P,S++[t],some<|.ref st.length,s3.set l<|.lst<|S.map tD++[tD t],?_,(p3.set ln lq).up<|by omega,?_,?_,QG (r.f.trans<|f12.trans f3) l0,r.t,fun z hz=>?_,by omega,by simp;omega⟩
   . unfold Qt;refine HU st1 ?_;rw[Nt,et];simp only[Ae,if_true];generalize tD t=TD at *;generalize S.map tD=SD at *;simp[la2,e3,eap]
   . rw[As (fun z=>dl z.symm)];exact d3
   . rw[AF (qax l3),BP];rfl
   . rcases SL.mp hz with hz | hz
     . exact r.w z hz
     rw[On.mp hz];exact wt
 . rw[decide_eq_false hu] at et;have a3:=IK s2<|.lst [];have p3:=p2.gr<|Gr.app s2 [.lst []];have f3:=f12.trans<|HW.app n q s2 [.lst []];have d3:(s2++[O.lst []])[d]?=some (.dt<|P.map HF):=(Ai<|qax d2).trans d2;have l3:(s2++[O.lst []])[l]?=some (.lst<|S.map tD):=(Ai<|qax l2).trans l2;have r3:(s2++[O.lst []])[st.length]?=some (.lst<|R.map tD):=(Ai<|qax a2).trans a2;generalize hs3:s2++[O.lst []]=s3 at *;have en:=tO r3 a3;have et2:mT (mB Kk (mV 5)<|mL<|mZ) (Lh n bed d l a4<|some<|.ref st.length) s2=some (!R.isEmpty,s3):=by
     generalize R.isEmpty=b at *;simp[hs3,en]
   have la3:Ik s3 l=some (S.map tD):=by simp only[Ik,l3]
   cases hR0:R with
   | nil =>
     have et2:mT (mB Kk (mV 5)<|mL<|mZ) (Lh n bed d l a4<|some<|.ref st.length) s2=some (false,s3):=by rw[et2,hR0];rfl
     refine⟨P,S,some<|.ref st.length,s3,?_,p3.up<|by omega,d3,l3,r.f.trans f3,r.t,r.w,by omega,by omega⟩;unfold Qt;refine HU st1 ?_;rw[Nt,et];simp only[Ae,Bd,if_false];exact Kg et2
   | cons t0 R0 =>
     have et2:mT (mB Kk (mV 5)<|mL<|mZ) (Lh n bed d l a4<|some<|.ref st.length) s2=some (true,s3):=by rw[et2,hR0];rfl
     obtain⟨dd,s4,e4,hdd,p4,f4⟩:=O5 p3 r3 (by omega) (by omega) (by rw[Af,hR0];simp) (by rw[Af];omega) (by omega);obtain⟨⟨x,y,k⟩,ht,rfl⟩:=PP.mp hdd;have tok:=hR _ ht;have l4:=(f4.old _ (qax l3) ln lq).trans l3;have d4:=(f4.old _ (qax d3) dn dq).trans d3;have eap:=append_at (x:=tD (x,y,k)) l4 (by rw[Af];omega);have lt5:=qax l4;have l5:(s4.set l<|.lst<|S.map tD++[tD (x,y,k)])[l]?=some (.lst<|S.map tD++[tD (x,y,k)]):=AF lt5;have d5:(s4.set l<|.lst<|S.map tD++[tD (x,y,k)])[d]?=some (.dt<|P.map HF):=by rw[As (fun z=>dl z.symm)];exact d4
     have p5:=p4.set (o:=.lst (S.map tD++[tD (x,y,k)])) ln lq;have f5:=QG (o:=.lst (S.map tD++[tD (x,y,k)])) (r.f.trans<|f3.trans f4) l0;generalize hs5:s4.set l (.lst<|S.map tD++[tD (x,y,k)])=s5 at *;have ix:=mX l5 (x:=tD (x,y,k)) (by rw[AM,BH,FS,AV (Ag _),CN];rfl);have ed:=O9 (x:=x) (y:=y) (k:=k) d5 (by omega);have ldd:=qax d5;refine⟨IE P (x,y,k),S++[(x,y,k)],some<|.ref st.length,s5.set d<|.dt<|(IE P (x,y,k)).map HF,?_,(p5.set dn dq).up<|by omega,by rw[AF ldd],?_,QG f5 d0,ZJ r.t tok,fun z hz=>?_,?_,by simp;omega⟩
     . unfold Qt;refine HU st1 ?_;rw[Nt,et];simp only[Ae,Bd,if_false];refine Li et2<|HU (ρ1:=Lh n bed d l a4 (some<|.ref st.length)) (s1:=s5) ?_<|oM ix ed;generalize tD (x,y,k)=TD at *;generalize S.map tD=SD at *;simp[la3,e4,eap,hs5]
     . rw[As dl,l5,BP];rfl
     . rcases SL.mp hz with hz | hz
       . exact r.w z hz
       rw[On.mp hz];exact Zo tok (by omega) (by omega)<|by omega
     have:=VU P (x,y,k);omega
def jO{sd:List Tl}(c:Ctx (HZ e stk ks w h sd) e stk ks w h)(hsd:∀ t∈sd,Kw w h ks.length t)(nd:IC sd)(hl:sd.length<=6)(hp:HR n q m st)(hm:m<=500000) :
   ∃ (S:List Tl) (st':HB),WZ [.ref n,HZ e stk ks w h sd] st=some (.tup (S.map tD),st')/\(∀ t∈S,OH t)/\S.length<=12/\HR n q (m+200) st'/\HW n q st st':=by
 obtain⟨d,s1,e1,a1,ld,g1⟩:=aQ (ts:=sd) (st:=st) (by omega);rw[Vt nd] at a1;have p1:=hp.gr g1;have ne0:=hp.lt;have ne1:=p1.ne;have a2:=IK s1<|.lst [];have b2:(s1++[O.lst []])[d]?=some (.dt<|sd.map HF):=(Ai<|qax a1).trans a1;have g2:=g1.trans<|Gr.app s1 [.lst []];have p2:=p1.gr<|Gr.app s1 [.lst []];have hne:d≠s1.length:=An<|qax a1;have hl1:st.length<=s1.length:=g1.len;generalize hs2:s1++[O.lst []]=s2 at *;obtain⟨r,s3,e3,r0,r1,p3,f3⟩:=J7 (many:=13) p2 (by omega) (by omega) (by omega);obtain⟨K,rfl⟩:=Bq r0;have i2:HE (HZ e stk ks w h sd) (.int 2) st=some (Jm sd,st):=Jh (by decide) rfl;have d3:=(f3.old _ (qax b2) (by omega)<|by omega).trans b2;have l3:=(f3.old _ (qax a2) (by omega)<|by omega).trans a2;generalize HZ e stk ks w h sd=bed at *;generalize Jm sd=SD at *;have st1:KY 2 3 (Hz (HM Qr<|Hz (mB HE (mV 1)<|mK<|.int 2)<|mZ)<|Hz (mL<|mZ)<|mZ) [some (.ref n),some bed,none,none,none,none] st=some (.nx (Lh n bed d s1.length none none),s2):=by rw[Za];simp[i2,e1,hs2]
 have hr1:JF (HM IV<|Hz (mV 0)<|Hz (mK<|.int 13)<|mZ) (Lh n bed d s1.length none none) s2=some (⟨run 0 K,[]⟩,s3):=by refine OY (M:=(K:Int)) rfl ?_ (by omega);generalize (K:Int)=KK at *;simp[e3]
 have key:=LR (W:=⟨run 0 K,[]⟩) (g:=HG 4) (m:=Qt) (ds:=run 0 K) (ρ:=Lh n bed d s1.length none none) (st:=s3)
   (Inv:=fun i ρ s=>(∃ a4 a5,ρ=Lh n bed d s1.length a4 a5)/\∃ P S:List Tl,WR w h ks.length n q d s1.length (m+10+10*i) i st P S s)
   ⟨⟨_,_,rfl⟩,sd,[],⟨p3.up<|by omega,d3,l3,(HW.of g2).trans f3,hsd,by simp,by omega,Ag _⟩⟩ (fun _ _ _ _ _=>rfl) (fun i dd ρ s hdd hI=>by obtain⟨⟨a4,a5,rfl⟩,P,S,r⟩:=hI;obtain⟨hi,rfl⟩:=OZ hdd;obtain⟨P',S',b5,s',e',r'⟩:=sN (a4:=some (.int (i:Int))) (a5:=a5) c r (by omega) (by omega) (by omega) (by omega) (by omega) (by omega) hne ld hl1;exact⟨_,s,_,s',rfl,e',⟨_,_,rfl⟩,P',S',by rw[CZ,Dy,<-FB];exact r'⟩)
 obtain⟨ρ',s4,el,⟨a4,a5,rfl⟩,P,S,r⟩:=key;rw[KP] at r;have et:=Pl r.l;have hsl:=r.sl;refine⟨S,s4,Jk ?_,r.w,by omega,r.p.up<|by omega,r.f⟩;unfold dQ;refine HU st1<|HU (by rw[Ld,hr1];exact el) ?_;generalize S.map tD=SS at *;simp[et]
end
end L2.MP.T0
namespace L2.MP.T0
open PySem L2.MP L2.MP.Hd
open L2.MP.Hn (Jm)
structure Sb(w:Nat)(p:PyData):Prop where
 lay:p.canLay0=true
 int:p.intsShort 40=true
 shw:p.showable=true
 wt:p.weight<=w
def Tame(w k:Nat)(d:D):Prop:=∃ p,(∀ (m:Nat) (st:HB),IT (m+k) st d=some p)/\Sb w p
variable {w k:Nat}{d:D}
def Tame.up{w' k':Nat}(h:Tame w k d)(hw:w<=w')(hk:k<=k'):Tame w' k' d:=by obtain⟨p,e,t⟩:=h;refine⟨p,fun m st=>?_,t.lay,t.int,t.shw,Az t.wt hw⟩;have:=e (m+(k' - k)) st;rw[show m+(k' - k)+k=m+k' by omega] at this;exact this
variable {i:Int}
def Pj(h0:0<=i)(h1:i<=100):Tame 8 1 (.int i):=by
 refine⟨.int i,fun m st=>by rw[IT],by simp only[Bm],?_,?_,?_⟩
 . simp only[EC];exact decide_eq_true<|Az (PyData.shown_int_le<|by omega)<|by decide
 . simp only[De];refine decide_eq_true ?_
   by_cases hz:i.natAbs=0
   . rw[hz];decide
   exact Av ((Gk hz).mpr (show i.natAbs < 2 ^ 7 by omega))<|by decide
 . simp only[FC]
   split
   . exact Bc _
   . rename_i hz;have hz:i.natAbs≠0:=by simp at hz;omega
     have:=(Gk hz).mpr (show i.natAbs < 2 ^ 7 by omega);omega
def TL{x:Str}(h:Iz x):Tame 8 1 (.str x):=by refine⟨.str x,fun m st=>Q6 (Om h.ab),by simp only[Bm];exact Om h.ab,by simp only[EC],by simp only[De],?_⟩;have:=h.len;simp only[FC];rw[AK] at this;exact this
def Z8{w k:Nat}:∀ {ds:List D},(∀ d∈ds,Tame w k d)->∃ ps:List PyData,(∀ (m:Nat) (st:HB),JQ (IT (m+k) st) ds=some ps)/\BM ps=true/\DU 40 ps=true/\D5 ps=true/\EF ps<=(w+1)*ds.length
 | [],_=>⟨[],fun _ _=>rfl,by simp only[BM],by simp only[DU],by simp only[D5],by simp only[EF];omega⟩
 | d::ds,h=>by
   obtain⟨p,e,t⟩:=h d Ao;obtain⟨ps,e1,e2,e3,e4,e5⟩:=Z8 (ds:=ds) fun x hx=>h x<|Ak _ hx;refine⟨p::ps,fun m st=>?_,?_,?_,?_,?_⟩
   . rw[JQ,e,Ae,e1];rfl
   . simp only[BM,t.lay,e2];rfl
   . simp only[DU,t.int,e3];rfl
   . simp only[D5,t.shw,e4];rfl
   simp only[EF,AC];have:=t.wt;rw[CZ];omega
def Mf{L:Nat}{ds:List D}(h:∀ d∈ds,Tame w k d)(hl:ds.length<=L):Tame ((w+1)*L) (k+1) (.tup ds):=by
 obtain⟨ps,e1,e2,e3,e4,e5⟩:=Z8 h;refine⟨.tuple ps,fun m st=>?_,by simp only[Bm];exact e2,by simp only[EC];exact e3,by simp only[De];exact e4,?_⟩
 . rw[show m+(k+1)=(m+k)+1 by omega,IT,e1];rfl
 simp only[FC];exact Az e5<|Nat.mul_le_mul_left _ hl
def VG(h:Tame w k d)(hw:w<=100000)(hk:k<=100):∃ z:Str,∀ st:HB,Mm [d] st=some (.str z,st):=by
 obtain⟨p,e,t⟩:=h;refine⟨p.shown,fun st=>?_⟩;have e':=e (100 - k) st;rw[show 100 - k+k=100 by omega] at e';have hd:p.hasDict=false:=PyData.hasDict_of_canLay p t.lay;have hf:fits p.shown.length=true:=by unfold fits;have h1:=PyData.shown_le 40 (by decide) p<|PyData.leavesShort_of_canLay0 40 p t.lay t.int;have h2:(40+2)*p.weight<=42*100000:=GY (Ag _)<|Az t.wt hw;refine decide_eq_true ?_;rw[Dv];omega
 unfold Mm;simp only[e',Ae,t.shw,hd,hf];rfl
def xX{ss k:List Str}(h:MZ ss k):Tame 45 2 (Jl k):=by
 obtain⟨f,ds,rfl,hf,hl,hok⟩:=h.ex;refine Mf (w:=8) (k:=1) (L:=5) (fun d hd=>?_) (by simp[hl]);obtain⟨x,hx,rfl⟩:=PP.mp hd
 rcases M2.mp hx with rfl | hx
 . exact TL hf
 exact TL (hok x hx).1
variable {e:Int}{stk:List (Str×Int)}{ks:List (List Str)}
def zT(h:L7 e stk ks):Tame 1797 4 (OV e stk ks):=by
 have t1:Tame 598 3 (.int e):=(Pj (by have:=h.e0;omega) (by have:=h.e1;omega)).up (by decide) (by decide);have t2:Tame 598 3 (.tup<|stk.map Ko):=(Mf (w:=18) (k:=2) (L:=8) (fun d hd=>by
   obtain⟨p,hp,rfl⟩:=PP.mp hd;obtain⟨h1,h2,h3⟩:=h.nm p hp;refine Mf (w:=8) (k:=1) (L:=2) (fun d hd=>?_) (by simp);simp at hd
   rcases hd with rfl | rfl
   . exact TL h1
   exact Pj (by omega) (by omega)) (by rw[Af];exact h.sl)).up (by decide) (by decide)
 have t3:Tame 598 3 (.tup<|ks.map Jl):=Mf (w:=45) (k:=2) (L:=13) (fun d hd=>by obtain⟨k,hk,rfl⟩:=PP.mp hd;exact xX (h.kd k hk)) (by rw[Af];exact h.hi)
 refine Mf (w:=598) (k:=3) (L:=3) (fun d hd=>?_) (by simp);simp at hd
 rcases hd with rfl | rfl | rfl
 . exact t1
 . exact t2
 exact t3
def VF(h:Wd i):Tame 110 1 (.int i):=by
 rcases h with ⟨h0,h1⟩ | rfl | rfl
 . by_cases hz:0<=i
   . exact (Pj hz h1).up (by decide)<|by decide
   . have:i=-1:=by omega
     subst this;exact⟨.int<|-1,fun m st=>by rw[IT],by simp only[Bm],by decide +kernel,by decide +kernel,by decide +kernel⟩
 . exact⟨.int 1000000000000000000000000000000,fun m st=>by rw[IT],by simp only[Bm],by decide +kernel,by decide +kernel,by decide +kernel⟩
 exact⟨.int<|-100000000000000000000,fun m st=>by rw[IT],by simp only[Bm],by decide +kernel,by decide +kernel,by decide +kernel⟩
def cL{ts:List Tl}(ht:∀ t∈ts,OH t)(hl:ts.length<=15):Tame 5010 3 (.tup<|ts.map tD):=by
 refine Mf (w:=333) (k:=2) (L:=15) (fun d hd=>?_) (by rw[Af];exact hl);obtain⟨t,htm,rfl⟩:=PP.mp hd;obtain⟨a1,a2,a3⟩:=ht t htm;refine Mf (w:=110) (k:=1) (L:=3) (fun d hd=>?_) (by simp[ID]);simp[ID] at hd
 rcases hd with rfl | rfl | rfl
 . exact VF a1
 . exact VF a2
 exact VF a3
def uS{w h:Int}{sd ts:List Tl}(hs:L7 e stk ks)(hf:UN w h)(h1:∀ t∈sd,Kw w h ks.length t)(h2:∀ t∈ts,OH t)(l1:sd.length<=15)(l2:ts.length<=15):Tame 30068 6 (.tup [HZ e stk ks w h sd,.tup (ts.map tD)]):=by
 have:=hf.w0;have:=hf.w1;have:=hf.h0;have:=hf.h1;have:=hs.hi;have t1:Tame 5010 4 (OV e stk ks):=(zT hs).up (by decide) (by decide);have t2:Tame 5010 4 (.tup [.int w,.int h]):=(Mf (w:=8) (k:=1) (L:=2) (fun d hd=>by
   simp at hd
   rcases hd with rfl | rfl
   . exact Pj (by omega)<|by omega
   exact Pj (by omega) (by omega)) (by simp)).up (by decide) (by decide)
 have t3:Tame 5010 4 (Jm sd):=(cL (fun t ht=>Zo (h1 t ht) (by omega) (by omega) (by omega)) l1).up (by decide) (by decide);have tb:Tame 15033 5 (HZ e stk ks w h sd):=Mf (w:=5010) (k:=4) (L:=3) (fun d hd=>by
   simp at hd
   rcases hd with rfl | rfl | rfl
   . exact t1
   . exact t2
   exact t3) (by simp)
 have ts':Tame 15033 5 (.tup<|ts.map tD):=(cL h2 l2).up (by decide) (by decide);refine Mf (w:=15033) (k:=5) (L:=2) (fun d hd=>?_) (by simp);simp at hd
 rcases hd with rfl | rfl
 . exact tb
 exact ts'
def xY{F:List Nat}{N:Nat}(h:∀ j∈F,j<=100)(hl:F.length<=20):Tame 180 2 (.tup<|nD F):=by refine Mf (w:=8) (k:=1) (L:=20) (fun d hd=>?_) (by unfold nD;rw[Af];exact hl);obtain⟨j,hj,rfl⟩:=PP.mp hd;exact Pj (by omega) (by have:=h j hj;omega)
def fQ:Iz ("no":Str):=⟨by decide,by decide⟩
def rA{j:Nat}(h:j<=100):Tame 18 2 (.tup [.str "no",.int (j:Int)]):=by
 refine Mf (w:=8) (k:=1) (L:=2) (fun d hd=>?_) (by simp);simp at hd
 rcases hd with rfl | rfl
 . exact TL fQ
 exact Pj (by omega)<|by omega
end L2.MP.T0
namespace L2.MP.T0
open PySem L2.MP L2.MP.Hd
open L2.MP.Hn (Jm Ji Pp)
open L2.MP.Hb (HW)
open L2.MP.Ce (Li Kg LW)
variable {ds:List D}{st:HB}
def kE{lo hi:Option Int}{i j:Nat}(h0:HT.Ih ds.length 0 lo=i)(h1:HT.Ih ds.length ds.length hi=j):Pu (.tup ds) lo hi st=some (.tup ((ds.drop i).take<|j - i),st):=by
 have a1:Xj (.tup ds) lo hi st=none:=rfl;have a2:UB (.tup ds) lo hi st=none:=rfl;unfold Pu My UC;rw[a1,a2]
 by_cases hw:(decide (i=0)&&decide (j=ds.length))=true
 . have e1:Pt (.tup ds) lo hi st=none:=by
     unfold Pt;dsimp only;rw[h0,h1,if_pos hw]
   rw[e1,KN,KN,KN];unfold Xi;dsimp only;rw[h0,h1,if_pos hw];rw[Ar] at hw;rw[of_decide_eq_true hw.1,of_decide_eq_true hw.2];simp
 . have e1:Pt (.tup ds) lo hi st=some (.tup ((ds.drop i).take<|j - i),st):=by
     unfold Pt cutD;dsimp only;rw[h0,h1,if_neg hw]
   rw[e1,Kh,Kh,Kh]
def qP{a:Nat}(ha:a<=ds.length):Pu (.tup ds) none (some (a:Int)) st=some (.tup (ds.take a),st):=by rw[kE (i:=0) (j:=a) rfl (by rw[HT.NQ];omega)];simp
variable {n:Nat}{NS:List D}{a2 a7:Option D}{row:D}{z:Str}{s:HB}
section
variable {e w h:Int} {stk:List (Str×Int)} {ks:List (List Str)} {sd S T:List Tl}
def oP(c:Ctx (HZ e stk ks w h sd) e stk ks w h)(hsd:∀ t∈sd,Kw w h ks.length t)(nd:IC sd)(hl:sd.length<=6)(hT:T.length<=13) :
   ∃ (v:List D) (z:Str),(∀ s:HB,∃ s',Ua [HZ e stk ks w h sd,.tup (T.map tD)] s=some (.tup v,s')/\Gr s s')/\(∀ s:HB,∃ s',Uk [HZ e stk ks w h sd,.tup (T.map tD)] s=some (.tup v,s')/\Gr s s')/\∀ s:HB,Mm [.tup v] s=some (.str z,s):=by
 have tv:=fun s:HB=>rC (S:=T) (st:=s) c hsd nd hl hT;have dv:=fun s:HB=>jI (S:=T) (st:=s) c hsd nd hl hT;generalize fb (gA stk ks w h) (gF e stk ks) (sd,[]) 0 T=o at *;obtain⟨o,P⟩:=o
 cases o with
 | none =>
   have ok:P.2.length<=T.length/\∀ j∈P.2,j < T.length:=by
     have q:=tv []
     cases q with
     | on _ _ hl _ _=>exact hl
   obtain⟨z,hz⟩:=VG (xY (F:=P.2) (N:=0) (fun j hj=>by have:=ok.2 j hj;omega)<|by omega) (by decide) (by decide);refine⟨nD P.2,z,fun s=>?_,fun s=>?_,hz⟩
   . have q:=tv s
     cases q with
     | on _ s' _ e g=>exact⟨s',e,g⟩
   . have q:=dv s
     cases q with
     | on _ s' _ e g=>exact⟨s',e,g⟩
 | some j =>
   have ok:j < T.length:=by
     have q:=tv []
     cases q with
     | at_ _ _ _ hj _ _=>exact hj
   obtain⟨z,hz⟩:=VG (rA (j:=j)<|by omega) (by decide) (by decide);refine⟨_,z,fun s=>?_,fun s=>?_,hz⟩
   . have q:=tv s
     cases q with
     | at_ _ _ s' _ e g=>exact⟨s',e,g⟩
   . have q:=dv s
     cases q with
     | at_ _ _ s' _ e g=>exact⟨s',e,g⟩
noncomputable abbrev N0 (NS:List D) (n:Nat) (a2:Option D) (bed row:D) (a5 a6 a7:Option D):Ie:=[some (.kl NS),some (.ref n),a2,some bed,some row,a5,a6,a7]
def lP{s:HB}(c:Ctx (HZ e stk ks w h sd) e stk ks w h)(hsd:∀ t∈sd,Kw w h ks.length t)(nd:IC sd)(hl:sd.length<=6)(hT:T.length<=13)(hz:∀ s:HB,Mm [.tup [HZ e stk ks w h sd,row]] s=some (.str z,s)) :
   ∃ b7 s',Q5 (N0 NS n a2 (HZ e stk ks w h sd) row (some<|.str z) (some<|.tup<|T.map tD) a7) s=some (.nx (N0 NS n a2 (HZ e stk ks w h sd) row (some<|.str z) (some<|.tup<|T.map tD) b7),s')/\Gr s s':=by
 obtain⟨v,y,tl,du,hy⟩:=oP (T:=T) c hsd nd hl hT;obtain⟨s1,e1,g1⟩:=tl s;obtain⟨s2,e2,g2⟩:=du s1;have ns:∀ s:HB,OE (.str z) (.str z) s=some (.bl false,s):=fun _=>Zf;have n2:∀ s:HB,OE (.str y) (.str y) s=some (.bl false,s):=fun _=>Zf;have ty:tyName s1 (.tup v)=some "tuple":=rfl;have t2:JZ "tuple" "tuple"=true:=by decide
 refine⟨some<|.tup v,s2,?_,g1.trans g2⟩;generalize HZ e stk ks w h sd=bed at *;generalize D.tup (T.map tD)=TT at *;unfold Q5;refine HU (ρ1:=N0 NS n a2 bed row (some<|.str z) (some TT) (some<|.tup v)) (s1:=s1) (by simp[e1]) ?_;refine Kg (s1:=s2) ?_;simp[ty,t2,hy,e2,n2,hz,ns]
def mC{a6:Option D}{s:HB}{Ts:List (List Tl)}(c:Ctx (HZ e stk ks w h sd) e stk ks w h)(hsd:∀ t∈sd,Kw w h ks.length t)(nd:IC sd)(hl:sd.length<=6)(hT:∀ T∈Ts,T.length<=13)(hz:∀ s:HB,Mm [.tup [HZ e stk ks w h sd,row]] s=some (.str z,s)){L:Nat}(hL:s[L]?=some (.lst<|Ts.map fun T=>.tup (T.map tD))) :
   ∃ b6 b7 s',J5 ⟨Ts.map fun T=>.tup (T.map tD),[(L,Ts.map fun T=>.tup (T.map tD))]⟩ (HG 6) Q5 (Ts.map fun T=>.tup (T.map tD)) (N0 NS n a2 (HZ e stk ks w h sd) row (some<|.str z) a6 a7) s=some (.nx (N0 NS n a2 (HZ e stk ks w h sd) row (some<|.str z) b6 b7),s')/\Gr s s':=by
 have key:=LR (W:=⟨Ts.map fun T=>.tup (T.map tD),[(L,Ts.map fun T=>.tup (T.map tD))]⟩) (g:=HG 6) (m:=Q5) (ds:=Ts.map fun T=>.tup (T.map tD)) (ρ:=N0 NS n a2 (HZ e stk ks w h sd) row (some<|.str z) a6 a7) (st:=s)
   (Inv:=fun i ρ s'=>(∃ b6 b7,ρ=N0 NS n a2 (HZ e stk ks w h sd) row (some<|.str z) b6 b7)/\Gr s s') ⟨⟨_,_,rfl⟩,Gr.refl _⟩ (fun _ _ s' _ hI=>Rf ((hI.2.old _<|qax hL).trans hL)) (fun i dd ρ s' hd hI=>by obtain⟨⟨b6,b7,rfl⟩,g⟩:=hI;obtain⟨T,hTm,rfl⟩:=PP.mp (AI hd);obtain⟨c7,s2,e2,g2⟩:=lP (NS:=NS) (n:=n) (a2:=a2) (a7:=b7) (row:=row) (s:=s') c hsd nd hl (hT T hTm) hz;exact⟨_,s',_,s2,rfl,e2,⟨_,_,rfl⟩,g.trans g2⟩)
 obtain⟨ρ',s',el,⟨b6,b7,rfl⟩,g⟩:=key;exact⟨b6,b7,s',el,g⟩
end
def rE{q m:Nat}{a3 a4 a5 a6':Option D}(hp:HR n q m s)(hm:m<=10000) :
   ∃ (b3 b4 b5 b6 b7:Option D) (s':HB),Te [some (.kl NS),some (.ref n),a2,a3,a4,a5,a6',a7] s=some (.nx [some (.kl NS),some (.ref n),a2,b3,b4,b5,b6,b7],s')/\HR n q (m+1000) s':=by
 have a1:=IK s<|.lst [.int 5,.int 5,.int 5,.int 5,.int 5,.int 5,.int 5,.int 12];have p1:=hp.gr<|Gr.app s [.lst [.int 5,.int 5,.int 5,.int 5,.int 5,.int 5,.int 5,.int 12]];have ne:=hp.ne;generalize hs1:s++[O.lst [.int 5,.int 5,.int 5,.int 5,.int 5,.int 5,.int 5,.int 12]]=s1 at *;obtain⟨r,s2,e2,r0,r1,p2,f2⟩:=J7 (many:=8) p1 (by omega) (by omega) (by omega);have a2':=(f2.old _ (qax a1) (by omega)<|by omega).trans a1;obtain⟨M,hM,m0,m1⟩:∃ M:Int,([.int 5,.int 5,.int 5,.int 5,.int 5,.int 5,.int 5,.int 12]:List D)[r.toNat]?=some (.int M)/\1<=M/\M<=12:=by
   have:r=0\/r=1\/r=2\/r=3\/r=4\/r=5\/r=6\/r=7:=by omega
   rcases this with rfl | rfl | rfl | rfl | rfl | rfl | rfl | rfl
   . exact⟨5,rfl,by decide,by decide⟩
   . exact⟨5,rfl,by decide,by decide⟩
   . exact⟨5,rfl,by decide,by decide⟩
   . exact⟨5,rfl,by decide,by decide⟩
   . exact⟨5,rfl,by decide,by decide⟩
   . exact⟨5,rfl,by decide,by decide⟩
   . exact⟨5,rfl,by decide,by decide⟩
   exact⟨12,rfl,by decide,by decide⟩
 have ix:=SJ a2' r0 hM;obtain⟨e,stk,ks,w,h,sd,s3,e3,hs,hf,⟨hsd,nd⟩,lsd,p3,f3⟩:=iY p2 (by omega) m0 m1;have c:Ctx (HZ e stk ks w h sd) e stk ks w h:=jF hs hf;obtain⟨S,s4,e4,hS,lS,p4,f4⟩:=jO c hsd nd lsd p3 (by omega);obtain⟨z,hz⟩:=VG (uS hs hf hsd hS (by omega)<|by omega) (by decide) (by decide);obtain⟨u,s5,e5,u0,u1,p5,f5⟩:=J7 (many:=(S.length:Int)+1) p4 (by omega) (by omega) (by omega);obtain⟨A,rfl⟩:=Bq u0;have el:∀ s:HB,HX [.tup (S.map tD)] s=some (.int (S.length:Int),s):=fun s=>by rw[Oz,Af]
 have es:=qP (ds:=S.map tD) (a:=A) (st:=s5) (by rw[Af];omega);rw[<-List.map_take] at es;have a6:=IK s5 (.lst<|[S,S.take A,[],S].map fun T=>.tup (T.map tD));have p6:=p5.gr (Gr.app s5 [.lst ([S,S.take A,[],S].map fun T=>.tup (T.map tD))]);generalize hs6:s5++[O.lst ([S,S.take A,[],S].map fun T=>.tup (T.map tD))]=s6 at *;obtain⟨b6,b7,s7,e7,g7⟩:=mC (NS:=NS) (n:=n) (a2:=a2) (a6:=a6') (a7:=a7) (row:=.tup (S.map tD)) (Ts:=[S,S.take A,[],S]) c hsd nd lsd (fun T hT=>by
   simp only[AW,AS,or_false] at hT
   rcases hT with rfl | rfl | rfl | rfl
   . omega
   . rw[Bv];omega
   . exact Bc _
   omega) hz a6
 refine⟨some<|HZ e stk ks w h sd,some<|.tup<|S.map tD,some<|.str z,b6,b7,s7,?_,(p6.gr g7).up<|by omega⟩;unfold Te;have hz4:=hz s4;generalize HZ e stk ks w h sd=bed at *;refine HU (ρ1:=[some (.kl NS),some (.ref n),a2,some bed,a4,a5,a6',a7]) (s1:=s3) (by simp[hs1,e2,ix,e3]) ?_;have hd6:([S,S.take A,[],S].map fun T=>D.tup (T.map tD))=[.tup (S.map tD),.tup ((S.take A).map tD),.tup [],.tup (S.map tD)]:=rfl;rw[hd6] at a6 hs6 e7;generalize (A:Int)=AA at *;generalize (S.length:Int)=N at *;generalize (S.take A).map tD=SA at *;generalize S.map tD=SS at *;refine HU (ρ1:=[some (.kl NS),some (.ref n),a2,some bed,some (.tup SS),a5,a6',a7]) (s1:=s4) (by simp[e4]) ?_;refine HU (ρ1:=N0 NS n a2 bed (.tup SS) (some<|.str z) a6' a7) (s1:=s4) (by simp[hz4]) ?_;have hw:KU (mL<|Hz (mV 4)<|Hz (KW (mV 4) Lb<|Lc<|HM IV<|Hz (mV 1)<|Hz (mB HP (HM HX<|Hz (mV 4)<|mZ)<|mK<|.int 1)<|mZ)<|Hz (mU<|mZ)<|Hz (mV 4)<|mZ) (N0 NS n a2 bed (.tup SS) (some<|.str z) a6' a7) s4=some (⟨[.tup SS,.tup SA,.tup [],.tup SS],[(s5.length,[.tup SS,.tup SA,.tup [],.tup SS])]⟩,s6):=by
   have la:Ik s6 s5.length=some [.tup SS,.tup SA,.tup [],.tup SS]:=by simp only[Ik,a6]
   simp[U7,el,e5,es,hs6,Nv,la]
 rw[Ld,hw];exact e7
def tF(ns:List Int)(hl:ns.length<=63):∃ st,UW [.kl (ns.map D.int)] []=some (.bl true,st):=by
 obtain⟨n,q,s1,e1,p1,g1⟩:=xU (ns:=ns) [] hl;generalize ns.map D.int=NS at *;have key:=LR (W:=⟨run 0 3,[]⟩) (g:=HG 2) (m:=Te) (ds:=run 0 3) (ρ:=[some (.kl NS),some (.ref n),none,none,none,none,none,none]) (st:=s1)
   (Inv:=fun i ρ s=>(∃ a2 a3 a4 a5 a6 a7,ρ=[some (.kl NS),some (.ref n),a2,a3,a4,a5,a6,a7])/\HR n q (1000*i) s) ⟨⟨_,_,_,_,_,_,rfl⟩,p1⟩ (fun _ _ _ _ _=>rfl) (fun i dd ρ s hd hI=>by obtain⟨⟨a2,a3,a4,a5,a6,a7,rfl⟩,p⟩:=hI;obtain⟨hi,rfl⟩:=OZ hd;obtain⟨b3,b4,b5,b6,b7,s',e',p'⟩:=rE (NS:=NS) (a2:=some (.int (i:Int))) (a3:=a3) (a4:=a4) (a5:=a5) (a6':=a6) (a7:=a7) p (by omega);exact⟨_,s,_,s',rfl,e',⟨_,_,_,_,_,_,rfl⟩,by rw[CZ,Dy];exact p'⟩)
 obtain⟨ρ',s2,el,⟨a2,a3,a4,a5,a6,a7,rfl⟩,p2⟩:=key;refine⟨s2,Jk ?_⟩;unfold Ya;refine HU (ρ1:=[some (.kl NS),some (.ref n),none,none,none,none,none,none]) (s1:=s1) (by simp[e1]) ?_;refine HU (ρ1:=[some (.kl NS),some (.ref n),a2,a3,a4,a5,a6,a7]) (s1:=s2) (by
   rw[Ld,Va (k:=3) rfl (by omega)];exact el) ?_
 simp
end L2.MP.T0
namespace L2.MP.T0
open PySem L2 L2.MP PySem.Spec PyProof.Rows PySem.W
noncomputable abbrev hk:=Hx.OG fns QA cos Qy
end L2.MP.T0
open PySem PySem.W PyProof.Rows L2 L2.MP L2.MP.T0 in
set_option maxRecDepth 100000 in
set_option maxHeartbeats 0 in
theorem PySem.Challenge.cw_stickytiles_k68_wrong_ones_holds : PySem.Challenge.rw_stickytiles_k68_wrong_ones.Holds := by
 refine holds_law (by decide +kernel) fun said=>?_;refine holds_open (q:=vw) (loose:=[]) (XP:=XL vw []) (YP:=hk.says) rN hk.of hk.keeps (fun s e=>xl_of s (Bool.and_eq_true_iff.mp e).1) XL.keeps (by rfl) (by rfl) (by rfl) (fun s e=>recFacts_of (Bool.and_eq_true_iff.mp e).2) (by rfl) said (by decide +kernel) ⟨rfl,rfl,rfl,rfl,rfl,by decide +kernel⟩ ?hw ?hc
 case hw=>w_witness2
 case hc =>
   refine Hx.LS (l:=PySem.Challenge.rw_stickytiles_k68_wrong_ones) (n:=63) (k:=7) (x:="_law_script") (CX:=KL) (sp:=fun K=>Pr K 1 UW) rfl (by decide) rfl ⟨rfl,by decide,by decide,rfl⟩ (fun K w mg fa h A B X G e=>?_) (fun K H a ns hl hO hS=>(tF ns hl).elim fun _ e=>uL hO hS e) fun _ _ _ _ z=>z;obtain⟨f,⟨oc,od,kV,dc,pm,an,cd,ct,sl,l,c⟩,n,k⟩:=A.fn ("law",top 31) (AI (i:=24) rfl)
   cases e.symm.trans (mg_of X G n)
   exact⟨_,fun s v=>.of_eq rfl,fun base _ _=>iB (En.of A X G) (EE.of B Ao X G) (Sz (st:=top 31) l c k)⟩
