import PyProof.Rows.All
import Wide.All
import Wide.FinOn
import PyProof.EqAt
import PyProof.EqKinds
import PyProof.TupleCall
import PyProof.AttrMissHeap
import PyProof.StrWalks
import PyProof.ListStr
import PyProof.EnumMake
import PyProof.SumWalk
import PyProof.ReprRoads
import PyProof.DictWalks
import PyProof.FitsBits
import PyProof.Rows.RuleIs
import PyProof.DictTruth
import PyProof.MinMaxWalk
import PyProof.FactsAll.tuple_2
import PyProof.WalkInts
import PyProof.WalksMore
import PyProof.SetScanFacts
import PyProof.Draws
import PyProof.TupleKey
import PyProof.IsRules
import PyProof.NeKinds
import PyProof.FactsAll.dict_2
import PyProof.InstStoreFacts
import PyProof.AssignAttr
import KE.KDictList
import KE.KDictOf
import KE.KDictSum
import KE.KIsAll
import KE.KItem
import KE.KRevSl
import KE.KSortAsk
import KE.KSortTup
import OpenK.KCall
import OpenK.KCls
import OpenK.KDescr
import OpenK.KDict
import OpenK.KGet
import OpenK.KLine
import OpenK.KList
import OpenK.KMake
import OpenK.KMore
import OpenK.KNot
import OpenK.KOps
import OpenK.KWalk
import OpenK.Peek
import PySem.Challenge.RW_stickytiles_k39_mended
set_option maxHeartbeats 8000000
set_option maxRecDepth 100000
open PySem renaming wpAny_bind→Aa,wpAny_pure→Ac,wpAny_holding→AM,wpAny_newObj_type→AO,mem_of_lookup→AW,wpAny_callSpecial?_slot→A5,wpAny_field→A7,wpAny_call_entry→A9,wpAny_mono→Bp,wpAny_seqItems→Bu,wpAny_truthy_bool→Bv,codeAny_builtin→BA,plainId_quiet→BD,tupleKind_room_in1→BK,wpAny_letGo→BP,wpAny_rule→BR,wpAny_dictEntries→BU,wpAny_typeNameOfWhole_keyiter→BW,wpAny_setField_rec→B5,wpAny_passesOwn→B6,wpAny_notOrdered_dict→B7,wpAny_getItem_str_slice→Ck,wpAny_pyNext_list_item→Cp,sizeLine_eq→Cq,wpAny_pyNext_list_end→Cz,wpAny_tryCatch→CA,post_val_or_str→CM,wpAny_Call_Name_kw→CT,wpAny_pyIter_list→C4,wpAny_newList→De,wpAny_execs_nil→Dh,call_meetsIn→Dk,wpAny_typeOf→Dl,pushCells_keeps→Dp,wpAny_updateSeq_pair→Du,wpAny_setField→DG,wpAny_standAt→DP,wpAny_attempt→DS,wpAny_onRaise→DT,wpAny_Call_method→DX,call_meets→D0,wpAny_missedRemoval_other→D2,codeAny_mono→D5,wpAny_pyNext_tuple_item→Ee,wpAny_dictEpoch→Eo,size_of_entries→Ep,wpAny_updateSeq→Er,wpAny_pyNext_tuple_end→Eu,wpAny_isTrue_Compare1→EJ,wpAny_newTuple→EN,builtinLookup_eq_fast→ET,wpAny_isOneOf_keyiter→EU,wpAny_pyIter_keyiter→Ff,evalPart_none→Fh,wpAny_dictSet_pairs→Fk,wpAny_dictFind_heap→Fn,Within→Fp,seqIndex_neg→Fz,sub_AttributeError→FC,call_function_tree→FD,wpAny_assign_Name→FI,wpAny_sequenceKey→FO,wpAny_pyIter_enum→FV,seqIndex_of→F4,wpAny_of_eq→F6,wpAny_Name→Gi,typeIs_str→Gj,call→Gk
open PySem.W renaming Frag→Ab,keepIn→Bd,findIn→Bk,fnOf→Br,emptyDict→Bw,instObj→BQ,codeIn→Ca,plainGet→CC,hasDictIn→C5,isFn→Di,makesIn→Dj,nsIn→Dm,plainGet_of→Dx,lookIn→DE,callWith_K→DK,KitAt→DQ,methodObj→DV,plainOver→DW,kitx_dict→DY,takerIn→Ej,cellsFrom_some→Ew,methodCall_KW→EK,kitx_list→FR,handedIn→F8,kat_kind→Gc,kas_ask→Gs,kitOne→GG,KdlSrc→GH
open PySem.Heap renaming get?_push_of_some→Ad,lt_size→Ak,get?_push_size→Ap,size_push→A8,SameBut→BB,get?_update_self→BL,get?_update_other→Ct,ExtBut→EG
open Option renaming bind_some→Ae,map_some→AZ,isSome_map→Bx,isNone_none→Cn,getD_some→Df,isSome_some→Fu,getD_none→Ga,map_none→GC,bind→GZ
open List renaming length_map→Af,getElem?_set_ne→Ag,getElem?_eq_getElem→Ai,getElem?_append_left→Aj,mem_cons_of_mem→Al,append_assoc→Am,append_nil→Ao,getElem?_set_self→Aq,mem_cons_self→Ar,map_cons→As,length_cons→Au,getD_eq_getElem?_getD→Aw,size_toArray→Ax,getElem?_map→Ay,range→AB,length_append→AD,mem_of_getElem?→AF,map_map→AI,mem_append_right→AJ,mem_append_left→AK,length_filter_le→AN,find?_cons→AS,map_append→AU,getElem?_append_right→AY,lookup_cons→A2,mem_cons→A3,not_mem_nil→A4,getElem_mem→Ba,take_length→Bb,length_nil→Be,length_set→Bf,take_add_one→Bj,length_singleton→Bl,length_take→Bq,replicate→BE,any_cons→BI,length_replicate→BJ,eq_nil_of_length_eq_zero→BV,filterMap_cons→BX,toArray→B4,map_nil→Cd,filter_cons→Cg,getElem?_replicate→Cj,range_succ→Co,lookup→Cr,length_range→Cv,findIdx_cons→Cw,mergeSort_perm→CI,map_congr_left→CK,of_mem_zip→CL,mem_of_find?_eq_some→CP,nil_append→CQ,forIn_nil→CY,pairwise_mergeSort→C1,length_eraseIdx_le→C2,getElem?_cons_zero→C3,getElem?_set→C7,reverse_cons→C9,filter_eq_nil_iff→Dc,nodup_cons→Dq,mem_append→Dw,getElem_of_mem→Dz,getElem?_range→DA,flatten_append→DC,zip_cons_cons→DL,filter_append→DM,find?_append→DZ,drop_eq_getElem_cons→D1,mem_of_mem_eraseIdx→D9,mem_flatten→Ed,getElem?_cons_succ→Eh,forIn_cons→Ek,foldl_cons→Es,mem_filter→Et,drop_eq_nil_of_le→EB,countP_mono_left→EL,eraseIdx_sublist→EW,dropLast_eq_take→EY,mem_of_mem_take→Fe,length_reverse→Fm,replicate_succ→Fo,filterMap_map→Fw,find?_eq_none→FE,mem_map→FG,mem_singleton→FH,any_eq_false→FL,take_sublist→FM,zip_nil_left→FN,nodup_append→FP,getElem?_inj→FQ,foldl_append→FW,ext_getElem?→FY,flatten_cons→FZ,length→F3,map_id→F7,length_drop→F9,countP_cons→Gb,getElem_map→Gd,zipIdx_cons→Ge,zipIdx_nil→Gv,length_zip→Gx,filter_nil→Gz,find?_some→GB,nodup_nil→GD,drop_zero→GF,mem_range→GI,all_cons→GL,sum_cons→GP
open Nat renaming le_refl→Ah,ne_of_lt→Av,le_trans→AA,lt_of_lt_of_le→AC,lt_irrefl→AL,zero_le→A0,lt_of_le_of_lt→BM,lt_trans→B2,le_of_succ_le→B9,mul_le_mul→Cb,lt_succ_self→Cc,le_add_right→Cf,le_succ→Cs,le_of_lt→Cy,succ_le_succ→CG,ne_of_gt→CS,lt_succ_of_lt→C8,sub_self→Do,not_lt_zero→Dt,add_le_add_left→Dy,add_mul→DH,le_of_eq→D3,min_le_right→D7,le_succ_of_le→FX,log2_lt→F5,min_le_left→Gn
open Bool renaming and_eq_true→An,false_eq_true→AQ,false_ne_true→AV,not_eq_true'→BS,and_comm→DU,not_false→EZ,or_eq_true→Gm,and_true→GM
open Option.some renaming inj→Az
open PySem.Value renaming ref→AE,none→Bi,int→DI,str→Ei,bool→E4,type→Gh,isStrOf→GK,builtin→GO,isInt→GV,bytes→GW,float→GX
open PySem.NameKind renaming free→AG,cell→AX
open PySem.PassesOwn renaming never→AH
open Array renaming length_toList→AR,getElem?_toList→Bm,getD_eq_getD_getElem?→B3,toList→GS
open PySem.Around renaming under_plainId→A6,under→D4
open PySem.Paired renaming length→Bc,snoc→GY
open PySem.PyData renaming strOk→Bg,canLay0→BG,canLayAll0→BH,eqv→B0,depth→CU,showable→Dv,intsShortAll→DB,showableAll→DN,weightAll→Ec,depthAll→El,intsShort→Gf,weight→GR,int→G7
open Prod.mk renaming inj→Bn
open Or renaming inr→Bo,inl→Bs
open Ne renaming symm→Bt
open Int renaming toNat_natCast→By,toNat_of_nonneg→Bz,emod_lt_of_pos→BN,emod_nonneg→B8,le_trans→CV,le_refl→Da,le_of_lt→Ds,natCast_mul→Gp,le_antisymm→Gq
open PySem.Str renaming ofString→BC,empty→Fs
open PySem.Obj renaming mapSeq→BF,data_mapFields→CW,isFreed_of_fields→ES,data_mapDictKeys→Fg,cls_mapFields→FU,mapFields→GQ
open PyProof.Rows renaming slot_tuple_getitem→BO,callWith_type1→B1,slot_tupleiter_next→CJ,assignInOrder_cons→DJ,listUpdate_at→DR,entry_list_sort→Em,subscriptTail_builtinR→EA,seqEpoch_at→EF,slot_list_sort→EO,args_list_sort→ER,Subscript_→Fb,entry_tupleiter_next→Fd,entry_tuple_getitem→Fi,args_tupleiter_next→Fj,args_tuple_getitem→Fx,args_sorted1→FA,assignInOrder_nil→FJ,lt_int→Gg
open PySem.Heap.SameBut renaming update→BY
open PySem.Calls renaming callWith_builtin→BZ,spliced_cons→Cm,evalArgs_plain→CF,call_function_entry→CO,spliced_nil→C6,Name_function_global→DO
open PySem.AutoSeq1 renaming wpAny_loadPart'→Ci
open List.Pairwise renaming nil→Cu,sublist→E3
open PySem.F renaming slot_dict_pop→CB,plainAttrs_dict→CZ,plainAttrs_list→C0,slot_dict_get→Dg,args_tuple_add_2→D6,args_dict_get_2→Ef,entry_tuple_add→Eg,entry_dict_get→Ey,slot_tuple_add→Ez,entry_dict_pop→EH,type_dict_pop→EX
open True renaming intro→CD
open Sum renaming inl→CH,inr→DD
open Array.Perm renaming refl→CN
open ForInStep renaming yield→Dr
open PySem.Heap.IsList renaming «at»→DF
open PySem.Txt renaming slice_le→D8,slice→GJ
open Nat.succ renaming inj→Eb
open PySem.W.Looks renaming of_pure→EM
open PySem.W.KasFin renaming intro→Fc
open PySem.P renaming truthy_str→Fq
open PySem.Code renaming isFrame→Ft,isGuard→GU
open PySem.SeqAt.EqAt renaming int_int→Fv
open PySem.Heap.IsSliceOf renaming new→Fy
open PySem.Heap.IsListIter renaming «at»→FB
open PySem.W.UpdF renaming head→FS
open StateT renaming run_pure→Gu
open PyProof.Rows.Fr renaming set→Gy
open PySem.Heap.DictOf renaming new→GA
open Nat.le renaming dest→G4
open PySem.W.KatTups renaming cons→G5,nil→G8
open PyProof.Rows.SortSt renaming mk'→G6
set_option Elab.async false
set_option linter.all false
open PySem renaming Value→IR,model→KB,Expr→Pv,Heap→P3,compareOp→Re,Program→SZ,bootBuiltins→UF,mainGlobals→UV,eval→Wp,Stmt→W1
open List renaming getElem?_eq_some_iff→KF,mem_singleton→KM,mem_cons→On,mem_append→Os,mem_map→SL
noncomputable section
abbrev Qqa:=PySem.Value->PySem.Shared->Prop
abbrev Qqb (v:PySem.Env) (e:PySem.Expr) (l:List PySem.Expr):Prop:=PySem.starEach (e::l) v=(false,PySem.eval e v)::PySem.starEach l v
abbrev Qqc (p:PySem.Pos) (l:List PySem.Expr) (v:PySem.Env):Prop:=(PySem.backTo p (PySem.starEach l v)).any (·.1)=false
abbrev Qqd:PySem.Obj:={cls:=.type "dict",data:=.dict #[]}
namespace L2
open PySem PySem.Spec PyProof.Rows
noncomputable abbrev Key:=Sum Int Str
def Pt:Key->IR->Bool
 |.inl k,v=>GV k v
 |.inr x,v=>GK x v
def Yg(w:World):Key->Int
 |.inl k=>hashInt k
 |.inr x=>hashStr w x
def Nu:∀{k:Key}{v:IR},Pt k v=true->(∃i t,k=CH i/\v=DI i t)\/(∃x t,k=DD x/\v=Ei x t)
 |.inl i,v,h=>by obtain⟨t,e⟩:=Value.isInt_shape (k:=i) (v:=v) h;exact .inl ⟨i,t,rfl,e⟩
 |.inr x,v,h=>by obtain⟨t,e⟩:=Value.isStrOf_shape (x:=x) (v:=v) h;exact .inr ⟨x,t,rfl,e⟩
def zC(i:Int)(t:Tok):Pt (.inl i) (.int i t)=true:=by simp[Pt,GV]
def zD(x:Str)(t:Tok):Pt (.inr x) (.str x t)=true:=by simp[Pt,GK]
def kT(a b:Int):decide ((CH a:Key)=CH b)=(a==b):=by
 by_cases e:a=b
 ·subst e;simp
 have h:¬(CH a:Key)=CH b:=λq=>e<|Sum.inl.inj q;rw[decide_eq_false h];exact(beq_eq_false_iff_ne.mpr e).symm
def kX(a b:Str):decide ((DD a:Key)=DD b)=decide (a=b):=by
 by_cases e:a=b
 ·subst e;simp
 have h:¬(DD a:Key)=DD b:=λq=>e<|Sum.inr.inj q;rw[decide_eq_false h,decide_eq_false e]
def kU(a:Int)(b:Str):decide ((CH a:Key)=DD b)=false:=decide_eq_false λq=>nomatch q
def kW(a:Str)(b:Int):decide ((DD a:Key)=CH b)=false:=decide_eq_false λq=>nomatch q
def Jb(prog:SZ)(w:World):PySem.KeyKind prog w Key where
 is:=Pt
 hash:=Yg w
 inj:=λv a b f d=>by
  rcases Nu f with⟨i,t,rfl,rfl⟩|⟨x,t,rfl,rfl⟩
  ·rcases Nu d with⟨j,u,rfl,e⟩|⟨y,u,rfl,e⟩
   ·injection e with e1 _;rw[e1]
   exact nomatch e
  ·rcases Nu d with⟨j,u,rfl,e⟩|⟨y,u,rfl,e⟩
   ·exact nomatch e
   injection e with e1 _;rw[e1]
 byValue:=λk v h=>by rcases Nu h with⟨i,t,rfl,rfl⟩|⟨x,t,rfl,rfl⟩<;>rfl
 pyHash:=λc h=>by
  rcases Nu c with⟨i,t,rfl,rfl⟩|⟨x,t,rfl,rfl⟩
  ·exact wpAny_pyHash_int h
  exact wpAny_pyHash_str h
 eqBool:=λg c h=>by
  rcases Nu g with⟨i,t,rfl,rfl⟩|⟨x,t,rfl,rfl⟩
  ·rcases Nu c with⟨j,u,rfl,rfl⟩|⟨y,u,rfl,rfl⟩
   ·rw[kT]at h;exact wpAny_eqBool_int h
   rw[kU]at h;exact SeqAt.EqAt.int_str i t y u _ _ _ _ h
  ·rcases Nu c with⟨j,u,rfl,rfl⟩|⟨y,u,rfl,rfl⟩
   ·rw[kW]at h;exact SeqAt.EqAt.str_int x t j u _ _ _ _ h
   rw[kX]at h;exact wpAny_eqBool_str h
 «strs»:=λk x t v h=>by
  rcases Nu h with⟨i,u,rfl,e⟩|⟨y,u,rfl,e⟩
  ·exact nomatch e
  ·injection e with e1 _
   subst e1;cases v<;>rfl
def zjk(prog:SZ)(w:World)(i:Int)(t:Tok):(Jb prog w).is (.inl i) (.int i t)=true:=zC i t
def zjj(prog:SZ)(w:World)(x:Str)(t:Tok):(Jb prog w).is (.inr x) (.str x t)=true:=zD x t
inductive V where
 |non|bl (b:Bool)|int (i:Int)|str (x:Str)|byt (b:Array UInt8)|flt (b:UInt64)|ref (a:Addr)|ty (n:String)
 deriving DecidableEq
def RelV:V->IR->Prop
 |.non,u=>u=Bi
 |.bl b,u=>u=E4 b
 |.int i,u=>∃t,u=DI i t
 |.str x,u=>∃t,u=Ei x t
 |.byt b,u=>∃t,u=GW b t
 |.flt b,u=>∃t,u=GX b t
 |.ref a,u=>u=AE a
 |.ty n,u=>u=Gh n
noncomputable abbrev Vals:List V->List IR->Prop:=Paired RelV
variable {us:List IR}
def Vals.length{xs:List V}{us:List IR}(r:Vals xs us):xs.length=us.length:=Bc r
theorem Vals.get:∀{xs:List V}{us:List IR}{i:Nat}{x:V},Vals xs us->xs[i]?=some x->∃u,us[i]?=some u/\RelV x u
 |_,_,_,_,.nil,e=>by simp at e
 |_,_,0,_,.cons r _,e=>by simp at e;subst e;exact⟨_,rfl,r⟩
 |_,_,i+1,x,.cons _ t,e=>by obtain⟨u,a,b⟩:=Vals.get (i:=i) (x:=x) t (by simpa using e);exact⟨u,by simpa using a,b⟩
variable {u:IR}
theorem Vals.set{x:V}{u:IR}(r:RelV x u):∀{xs:List V}{us:List IR} (i:Nat),Vals xs us->Vals (xs.set i x) (us.set i u)
 |_,_,_,.nil=>.nil
 |_,_,0,.cons _ t=>.cons r t
 |_,_,i+1,.cons q t=>.cons q<|Vals.set r i t
theorem Vals.append:∀{xs a:List V}{us ws:List IR},Vals xs us->Vals a ws->Vals (xs++a) (us++ws)
 |_,_,_,_,.nil,s=>s
 |_,_,_,_,.cons r t,s=>.cons r<|Vals.append t s
theorem Vals.take:∀{xs:List V}{us:List IR} (n:Nat),Vals xs us->Vals (xs.take n) (us.take n)
 |_,_,0,_=>.nil
 |_,_,_+1,.nil=>.nil
 |_,_,n+1,.cons r t=>.cons r<|Vals.take n t
theorem Vals.drop:∀{xs:List V}{us:List IR} (n:Nat),Vals xs us->Vals (xs.drop n) (us.drop n)
 |_,_,0,r=>r
 |_,_,_+1,.nil=>.nil
 |_,_,n+1,.cons _ t=>Vals.drop n t
def Jh:Option V->Option IR->Prop
 |some v,some u=>RelV v u
 |none,none=>True
 |_,_=>False
variable {κ:Type}
def KV:List (κ×V)->List (κ×IR)->Prop:=Paired λ(p:κ×V) (q:κ×IR)=>p.1=q.1/\RelV p.2 q.2
def kV:Key->V
 |.inl i=>.int i
 |.inr x=>.str x
inductive HO where
  |lst (xs:List V)
  |tup (xs:List V)
  |dK (kvs:List (Key×V))|dT (kvs:List (List Key×V))
  |set (S:Int->Bool) (n:Nat)
  |ins (C dx:Addr) (fs:List (Str×V))
  |own (x:Addr)
  |xd (fs:List (Str×V))
  |met (f x:Addr)
  |rng (lo hi:Int)
  |frz (o:Obj) (u:HO)
  |tbl (ps:Array IR)
  |ext (φ:P3->Prop)
noncomputable abbrev Hp:=Addr->Option HO
def upd(H:Hp)(a:Addr)(o:HO):Hp:=λb=>if b=a then some o else H b
variable {H:Hp}{a:Addr}{o:HO}
def Lc:upd H a o a=some o:=by unfold upd;rw[if_pos rfl]
variable {b:Addr}
def HW(h:b≠a):upd H a o b=H b:=by unfold upd;rw[if_neg h]
def Qu{u:HO}(h:H a=some o)(h':H b=some u)(d:o≠u):a≠b:=by intro e;subst e;rw[h]at h';exact d<|Az h'
def J7(h:H a=some o)(h':H b=none):a≠b:=by intro e;subst e;rw[h]at h';cases h'
def Lh(h:P3)(a:Addr)(items:Array IR):Prop:=∃o,h.get? a=some o/\o.cls=.type "tuple"/\o.dict=none/\∃n,o.data=.seq items n
variable {h:P3}{items:Array IR}
def Lh.t(x:Lh h a items):IsTup h a items:=let ⟨o,ho,hc,_,r⟩:=x;⟨o,ho,hc,r⟩
variable {h':P3}
def Lh.keeps(x:Lh h a items)(hk:∀b o,h.get? b=some o->h'.get? b=some o):Lh h' a items:=let ⟨o,ho,r⟩:=x;⟨o,hk a o ho,r⟩
def Lh.new(h:P3)(items:Array IR):Lh (h.push {cls:=.type "tuple",data:=.seq items}) h.objs.size items:=⟨_,Ap _ rfl,rfl,rfl,0,rfl⟩
section
variable (P:SZ) (w:World)
def Jv(H:Hp)(h:P3)(a:Addr):HO->Prop
 |.lst xs=>xs.length<=sizeLine/\∃(its:List IR) (n:Nat),Vals xs its/\h.get? a=some {cls:=.type "list",data:=.seq its.toArray n}
 |.tup xs=>xs.length<=sizeLine/\∃its:List IR,Vals xs its/\Lh h a its.toArray
 |.dK kvs=>kvs.length<=sizeLine/\(a==sysModules)=false/\∃vs,KV kvs vs/\h.DictOf (Jb P w) a vs
 |.dT kvs=>kvs.length<=sizeLine/\(a==sysModules)=false/\∃xs:List (List Key×Addr×IR),
   Paired (λ(p:List Key×V) (q:List Key×Addr×IR)=>p.1=q.1/\H q.2.1=some (.tup<|p.1.map kV)/\RelV p.2 q.2.2) kvs xs /\
   ∃o es ep,h.get? a=some o/\o.ExactDict/\o.data=.dict es ep/\es.toList=xs.map (entryOfKey<|tupleKind<|Jb P w)/\(xs.map (·.1)).Nodup
 |.set S n=>h.SetOf (intKind P w) a S n
 |.ins C d fs=>H d=some (.own a)/\fs.length<=1000/\d≠a/\h.get? a=some (BQ C d) /\
   ∃c,h.Ns1 d c/\(∀f,Jh (fs.lookup f) (c f))/\Fp c (fs.map (·.1))
 |.own _=>∃o,h.get? a=some o
 |.xd fs=>∃c,h.Ns1 a c/\∀f,Jh (fs.lookup f) (c f)
 |.rng lo hi=>∃t u v,h.get? a=some {cls:=.type "range",data:=.fields #[.int lo t,.int hi u,.int 1 v]}
 |.frz o u=>h.get? a=some o/\Jv H h a u
 |.tbl ps=>h.get? a=some {cls:=.none,data:=.fields ps}
 |.met f x=>h.get? a=some (DV (.ref f)<|.ref x)
 |.ext φ=>φ h/\(∃o,h.get? a=some o)/\∀e g:P3,φ e->(∀o,e.get? a=some o->g.get? a=some o)->φ g
def Jz(H:Hp)(h:P3):Prop:=∀a o,H a=some o->Jv P w H h a o
end
variable {P:SZ}{w:World}{H':Hp}{α:Type}
def Jv.lt(x:Jv P w H h a o):a<h.objs.size:=by
 cases o with
 |lst xs=>obtain⟨_,_,_,_,e⟩:=x;exact Ak e
 |tup xs=>obtain⟨_,_,_,p⟩:=x;exact p.t.lt
 |dK b=>obtain⟨_,_,_,_,o,_,_,e,_⟩:=x;exact Ak e
 |dT b=>obtain⟨_,_,_,_,o,_,_,e,_⟩:=x;exact Ak e
 |set S n=>obtain⟨o,_,_,_,e,_⟩:=x;exact Ak e
 |ins C c fs=>obtain⟨_,_,_,e,_⟩:=x;exact Ak e
 |own y=>obtain⟨_,e⟩:=x;exact Ak e
 |xd fs=>obtain⟨_,⟨_,_,_,e,_⟩,_⟩:=x;exact Ak e
 |rng lo d=>obtain⟨_,_,_,e⟩:=x;exact Ak e
 |frz ob u=>obtain⟨e,_⟩:=x;exact Ak e
 |tbl g=>exact Ak (show h.get? a=some _ from x)
 |met f y=>exact Ak (show h.get? a=some _ from x)
 |ext φ=>obtain⟨_,⟨_,e⟩,_⟩:=x;exact Ak e
theorem Paired.mapP{α β:Type}{F G:α->β->Prop}:∀{l₁:List α}{l₂:List β},Paired F l₁ l₂->(∀a b,F a b->G a b)->Paired G l₁ l₂
 |_,_,.nil,_=>.nil
 |_,_,.cons r t,f=>.cons (f _ _ r)<|Paired.mapP t f
def Jv.stay(x:Jv P w H h a o)(k:∀b u,(b=a\/H b=some (.own a))->h.get? b=some u->h'.get? b=some u)(B:∀b,H b=some (.own a)->H' b=some (.own a)) (E:∀b xs,H b=some (.tup xs)->H' b=some (.tup xs)):Jv P w H' h' a o:=by
 induction o with
 |lst xs=>obtain⟨z,j,n,r,e⟩:=x;exact⟨z,j,n,r,k _ _ (.inl rfl) e⟩
 |tup xs=>obtain⟨z,j,r,ob,e,c⟩:=x;exact⟨z,j,r,ob,k _ _ (.inl rfl) e,c⟩
 |dK l=>obtain⟨z,y,F,r,ob,g,i,e,c⟩:=x;exact⟨z,y,F,r,ob,g,i,k _ _ (.inl rfl) e,c⟩
 |dT l=>
  obtain⟨z,y,xs,r,ob,g,i,e,c⟩:=x;exact⟨z,y,xs,Paired.mapP r λp q z=>⟨z.1,E _ _ z.2.1,z.2.2⟩,ob,g,i,k _ _ (.inl rfl) e,c⟩
 |set S n=>obtain⟨ob,g,i,t,e,c⟩:=x;exact⟨ob,g,i,t,k _ _ (.inl rfl) e,c⟩
 |ins C J fs=>
  obtain⟨d,z,ne,e,m,⟨s,g,i,G,c⟩,r⟩:=x;exact⟨B _ d,z,ne,k _ _ (.inl rfl) e,m,⟨s,g,i,k _ _ (.inr d) G,c⟩,r⟩
 |own y=>obtain⟨ob,e⟩:=x;exact⟨ob,k _ _ (.inl rfl) e⟩
 |xd fs=>obtain⟨m,⟨s,g,i,e,c⟩,r⟩:=x;exact⟨m,⟨s,g,i,k _ _ (.inl rfl) e,c⟩,r⟩
 |rng lo K=>obtain⟨t,u,v,e⟩:=x;exact⟨t,u,v,k _ _ (.inl rfl) e⟩
 |frz ob u I=>obtain⟨e,q⟩:=x;exact⟨k _ _ (.inl rfl) e,I q⟩
 |tbl A=>
  have e:h.get? a=some {cls:=.none,data:=.fields A}:=x;show h'.get? a=some {cls:=.none,data:=.fields A};exact k a _ (.inl rfl) e
 |met f y=>
  have e:h.get? a=some (DV (.ref f)<|.ref y):=x;show h'.get? a=some (DV (.ref f)<|.ref y);exact k a _ (.inl rfl) e
 |ext φ=>obtain⟨p,⟨o,e⟩,st⟩:=x;exact⟨st _ _ p λo q=>k _ _ (.inl rfl) q,⟨o,k _ _ (.inl rfl) e⟩,st⟩
def Jz.lt(x:Jz P w H h)(e:H a=some o):a<h.objs.size:=(x a o e).lt
def Jz.fresh(x:Jz P w H h)(e:h.objs.size<=a):H a=none:=by
 cases q:H a with
 |none=>rfl
 |some u=>exact absurd (AC (x.lt q) e)<|AL _
def Jz.kept(x:Jz P w H h)(k:∀b u,h.get? b=some u->h'.get? b=some u):Jz P w H h':=λa o e=>
 (x a o e).stay (λb u _ q=>k b u q) (λ_ q=>q) λ_ _ q=>q
def Jz.laid(x:Jz P w H h)(k:∀b u,h.get? b=some u->h'.get? b=some u)(f:h.objs.size<=a)(new:Jv P w (upd H a o) h' a o):Jz P w (upd H a o) h':=λb u e=>by
 have d:=x.fresh f;by_cases hb:b=a
 ·subst hb;rw[Lc]at e;cases e;exact new
 rw[HW hb]at e;exact(x b u e).stay (λc v _ q=>k c v q) (λc q=>by rw[HW (J7 q d)];exact q) λc xs q=>by rw[HW (J7 q d)];exact q
def Rd(H:Hp)(a:Addr)(u:HO):Prop:=H a=some u\/∃o,H a=some (.frz o u)
def Rd.ok{u:HO}(r:Rd H a u)(x:Jz P w H h):Jv P w H h a u:=by
 rcases r with r|⟨o,r⟩
 ·exact x a u r
 obtain⟨_,q⟩:=x a _ r;exact q
def Sd:Option HO->Prop
 |some (.lst _)=>True
 |some (.dK _)=>True
 |some (.dT _)=>True
 |some (.set _ _)=>True
 |some (.ins _ _ _)=>True
 |some (.ext _)=>True
 |_=>False
section
variable {x e:Addr}{o':HO}
def Jz.write(ok:Jz P w H h)(d:Sd (H x))(he:e=x\/H e=some (.own x))(k:∀b u,b≠e->h.get? b=some u->h'.get? b=some u)(f:∃u,h'.get? e=some u)(new:Jv P w (upd H x o') h' x o'):Jz P w (upd H x o') h':=λb u q=>by
 have a:∀c y,H c=some (.own y)->c≠x:=λc y r z=>by subst z;rw[r]at d;exact d
 have o:∀c xs,H c=some (.tup xs)->c≠x:=λc xs r z=>by subst z;rw[r]at d;exact d
 by_cases hb:b=x
 ·subst hb;rw[Lc]at q;cases q;exact new
 ·rw[HW hb]at q
  by_cases hbe:b=e
  ·have g:H b=some (.own x):=by
    rcases he with z|z
    ·exact absurd (hbe.trans z) hb
    rw[hbe];exact z
   rw[q]at g;cases g;obtain⟨v,i⟩:=f;exact⟨v,by rw[hbe];exact i⟩
  ·refine(ok b u q).stay (λc v hc r=>k c v ?_ r) (λc r=>by rw[HW (a c b r)];exact r) λc xs r=>by rw[HW (o c xs r)];exact r
   rcases hc with rfl|hc
   ·exact hbe
   ·rintro rfl
    rcases he with z|z
    ·exact a c b hc z
    rw[hc]at z;cases z;exact hb rfl
end
structure Un(fs ex:List Addr)(H H':Hp)(h h':P3):Prop where
 keep:∀b o,h.get? b=some o->H b=none->b∉fs->b∉ex->h'.get? b=some o
 slot:∀b o,h.get? b=some o->H b=none->b∈fs->b∉ex->∃sl,h'.get? b=some {o with slots:=sl}
 free:∀b o,h.get? b=some o->H b=none->b∉ex->H' b=none
 there:∀b o,h.get? b=some o->b∉ex->∃o',h'.get? b=some o'
 tups:∀b xs,H b=some (.tup xs)->H' b=some (.tup xs)
 frzs:∀b o u,H b=some (.frz o u)->H' b=some (.frz o u)
 tbls:∀b ps,H b=some (.tbl ps)->∃more,H' b=some (.tbl (ps++more))
section
variable {fs fs' ex ex':List Addr}{H1 H2:Hp}{h1 h2:P3}{x e:Addr}
def Un.any(u:Un fs ex H H1 h h1){ob:Obj}(q:h.get? b=some ob)(n:H b=none)(c:b∉ex):∃d,h1.get? b=some {ob with slots:=d}:=by
 by_cases hb:b∈fs
 ·exact u.slot b ob q n hb c
 exact⟨ob.slots,u.keep b ob q n hb c⟩
def Un.kept(k:∀b u,h.get? b=some u->h'.get? b=some u):Un fs ex H H h h':=⟨λb ob q _ _ _=>k b ob q,λb ob q _ _ _=>⟨ob.slots,k b ob q⟩,λ_ _ _ n _=>n,λb ob q _=>⟨ob,k b ob q⟩,λ_ _ q=>q,λ_ _ _ q=>q,λ_ a q=>⟨#[],by rw[q];simp⟩⟩
def Un.refl:Un fs ex H H h h:=Un.kept λ_ _ q=>q
def Un.laid(k:∀b u,h.get? b=some u->h'.get? b=some u)(c:h.objs.size<=a)(hn:H a=none):Un fs ex H (upd H a o) h h' where
 keep:=λb u q _ _ _=>k b u q
 slot:=λb u q _ _ _=>⟨u.slots,k b u q⟩
 free:=λb u q n _=>by rw[HW (Av<|AC (Ak q) c)];exact n
 there:=λb u q _=>⟨u,k b u q⟩
 tups:=λb xs q=>by rw[HW (J7 q hn)];exact q
 frzs:=λb u xs q=>by rw[HW (J7 q hn)];exact q
 tbls:=λb e q=>⟨#[],by rw[HW (J7 q hn),q];simp⟩
def Un.write(c:Sd (H x))(he:e=x\/H e=some (.own x))(k:∀b u,b≠e->h.get? b=some u->h'.get? b=some u)(d:∃u,h'.get? e=some u):Un fs ex H (upd H x o) h h':=by
 have a:∀b,H b=none->b≠x:=λb n z=>by subst z;rw[n]at c;exact c
 have w:∀b,H b=none->b≠e:=λb n z=>by
  subst z;rcases he with r|r
  ·exact a b n r
  rw[n]at r;cases r
 have hm:∀b u,H b=some u->¬Sd (some u)->b≠x:=λb u q nm z=>by subst z;rw[q]at c;exact nm c
 refine⟨λb u q n _ _=>k b u (w b n) q,λb u q n _ _=>⟨u.slots,k b u (w b n) q⟩,λb u q n _=>by rw[HW (a b n)];exact n,λb u q _=>?_,
  λb xs q=>by rw[HW (hm b _ q λz=>z)];exact q,λb u xs q=>by rw[HW (hm b _ q λz=>z)];exact q,λb P q=>⟨#[],by rw[HW (hm b _ q λz=>z),q];simp⟩⟩
 by_cases hbe:b=e
 ·subst hbe;exact d
 exact⟨u,k b u hbe q⟩
end
def UG(h:P3)(H:Hp):List Addr:=(AB h.objs.size).filter λa=>(H a).isSome
def KJ(h:P3)(H:Hp):P3:=PySem.W.hideAll h<|UG h H
def yY(h:P3)(H:Hp):(KJ h H).objs.size=h.objs.size:=PySem.W.hideAll_size _ _
def uA{o:Obj}(e:h.get? b=some o)(n:H b=none):(KJ h H).get? b=some o:=PySem.W.hideAll_get _ e λhm=>by have q:(H b).isSome=true:=(List.mem_filter.mp hm).2;rw[n]at q;simp at q
def pZ{o:Obj}(e:(KJ h H).get? b=some o):h.get? b=some o/\H b=none:=by
 have a:h.get? b=some o:=PySem.W.of_hideAll (UG h H) e;refine⟨a,?_⟩;cases q:H b with
 |none=>rfl
 |some x=>
  have hm:b∈UG h H:=List.mem_filter.mpr ⟨List.mem_range.mpr<|Ak a,by simp[q]⟩;have z:(KJ h H).get? b=none:=PySem.W.hideAll_none (UG h H) hm;rw[z]at e;cases e
def OV(g h:P3)(L:Addr):List (Addr×Obj):=(AB h.objs.size).filterMap λa=>if a=L\/(g.get? a).isSome=true then none else(h.get? a).map λo=>(a,o)
variable {g:P3}{L:Addr}
def W8{o:Obj}(d:a≠L)(e:g.get? a=none)(c:h.get? a=some o):(a,o)∈OV g h L:=List.mem_filterMap.mpr ⟨a,List.mem_range.mpr<|Ak c,by simp[d,e,c]⟩
def zgk{p:Addr×Obj}(c:p∈OV g h L):p.1≠L/\g.get? p.1=none/\h.get? p.1=some p.2:=by
 obtain⟨b,_,e⟩:=List.mem_filterMap.mp c;split at e
 ·cases e
 ·rename_i a
  cases q:h.get? b with
  |none=>rw[q]at e;simp at e
  |some u=>
   rw[q]at e;simp only[AZ,Option.some.injEq]at e;subst e;refine⟨λz=>a (.inl z),?_,q⟩;show g.get? b=none;cases r:g.get? b with
   |none=>rfl
   |some v=>exact(a<|.inr<|by simp[r]).elim
def VZ:News g L h (OV g h L):=λp o=>let ⟨a,b,c⟩:=zgk o;⟨c,a,b⟩
structure Mod(K:Ab)(mg:Str->Option IR)(base:P3):Prop where
 kin:K.In base
 glob:base.Ns UV mg
 blt:∃mb,base.Ns builtinsNs mb/\∀x:Str,x≠"__name__"->mb x=UF x
 nolimit:base.NoLimit
structure Cx where
 prog:SZ
 w:World
 K:Ab
 mg:Str->Option IR
 base:P3
 A:Around
 N:List Str
 s₀:Shared
 H₀:Hp
 env:Env
 outer:List Env
 stack:List Env
 ex:List Addr
 fn:Str->Bool
 calm:Bool
 pn:List (Addr×Obj)
 xe:Qqa
def L1(l:List Env):List Addr:=l.filterMap (·.frame)
noncomputable abbrev Cx.fs (X:Cx):List Addr:=L1 X.outer
def Yv(sc:Scope)(x:Str):Prop:=sc.names.lookup x=some .local\/sc.names.lookup x=some .cell\/sc.names.lookup x=some .free
def Loc(sc:Scope)(x:Str):Prop:=sc.names.lookup x=some .local\/sc.names.lookup x=some .cell
def Look(env:Env)(h:P3)(m:Str->Option IR)(x:Str)(u:IR):Prop:=(env.kindOf x=some .local/\m x=some u)\/((env.kindOf x=some .cell\/env.kindOf x=some .free)/\∃c,env.cells.lookup x=some c/\h.IsCell c (some u))
structure Cx.Ok(X:Cx):Prop where
 mod:Mod X.K X.mg X.base
 kind:X.env.scope.kind=.function
 glob:X.env.globals=UV
 blt:X.env.builtins=builtinsNs
 above:X.s₀.heap.objs.size<=X.env.locals
 inj:∀x y c,X.env.cells.lookup x=some c->X.env.cells.lookup y=some c->x=y
 has:∀x,(X.env.kindOf x=some .cell\/X.env.kindOf x=some .free)->∃c,X.env.cells.lookup x=some c
 cab:∀x c,X.fn x=true->X.env.cells.lookup x=some c->X.s₀.heap.objs.size<=c
 hd:X.calm=true->X.A.handled=none
 frames:X.A.frames=some X.stack
 stk:X.stack=X.outer\/(X.stack=X.env::X.outer/\X.env.frame=some X.env.locals)
 exf:∀b∈X.ex,b≠X.env.locals/\∀x c,X.env.cells.lookup x=some c->c≠b
 bs:∀b o,X.base.get? b=some o->X.s₀.heap.get? b=some o/\X.H₀ b=none
 bsz:X.base.objs.size<=X.s₀.heap.objs.size
 noex:∀b o,X.base.get? b=some o->b∉X.ex
 exfs:∀b∈X.ex,b∉X.fs
 funs:X.s₀.heap.FunFrames X.base X.outer
 frf:∀b∈X.fs,X.H₀ b=none
structure Inv(X:Cx)(qp:List (Addr×Obj))(σ:List (Option V))(H:Hp)(s:Shared):Prop where
 ok:X.Ok
 os:s.os=X.s₀.os
 bare:AllBare s.gens
 base:Un X.fs X.ex X.H₀ H X.s₀.heap s.heap
 loc:∃m,s.heap.Ns X.env.locals m/\∀(i:Nat) (x:Str) (v:V),X.N[i]?=some x->σ[i]?=some (some v)->Yv X.env.scope x->∃u,RelV v u/\Look X.env s.heap m x u
 cell:∀x c,X.env.cells.lookup x=some c->∃v,s.heap.IsCell c v
 free:H X.env.locals=none
 freeC:∀x c,X.env.cells.lookup x=some c->H c=none
 pin:∀p∈X.pn++qp,s.heap.get? p.1=some p.2/\H p.1=none/\p.1≠X.env.locals/\p.1∉X.fs/\∀v,p.2.data≠.cell v
 hok:Jz X.prog X.w H s.heap
 len:σ.length=X.N.length
variable {x:Str}{X:Cx}{qp:List (Addr×Obj)}{s s':Shared}{g':Array GenState}{t' i j:Nat}{d':Drawn}{ch:List Addr}{it:Addr}{N:List Str}{M:Model}{A:Around}{E:Qqa}{v:V}
section
variable {σ:List (Option V)}
def Cx.Ok.nofr(ok:X.Ok){o:Obj}(e:X.base.get? b=some o):b∉X.fs:=λa=>by have:=(ok.funs.mem a).1;rw[e]at this;cases this
def Inv.bs(I:Inv X qp σ H s):∀b o,X.base.get? b=some o->s.heap.get? b=some o/\H b=none:=λb o e=>
 ⟨I.base.keep b o (I.ok.bs b o e).1 (I.ok.bs b o e).2 (I.ok.nofr e)<|I.ok.noex b o e,I.base.free b o (I.ok.bs b o e).1 (I.ok.bs b o e).2<|I.ok.noex b o e⟩
def Inv.bk(I:Inv X qp σ H s):∀b o,X.base.get? b=some o->s.heap.get? b=some o:=λb o e=>(I.bs b o e).1
def Inv.mod(I:Inv X qp σ H s):Mod X.K X.mg X.base:=I.ok.mod
def Inv.kIn(I:Inv X qp σ H s):X.K.In s.heap:=I.ok.mod.kin.keeps I.bk
def Inv.fr(I:Inv X qp σ H s):∃m,Fr X.base X.env.locals s.heap m:=
 let ⟨m,hn,_⟩:=I.loc
 ⟨m,hn,I.bk,AA I.ok.bsz I.ok.above⟩
def Inv.lt(I:Inv X qp σ H s):X.env.locals<s.heap.objs.size:=let ⟨_,hn,_⟩:=I.loc;hn.lt
def Inv.sz(I:Inv X qp σ H s):X.s₀.heap.objs.size<=s.heap.objs.size:=AA I.ok.above<|Cy I.lt
def Inv.nofs(I:Inv X qp σ H s)(h:s.heap.objs.size<=a):a∉X.fs:=λb=>by obtain⟨_,o,g,_⟩:=I.ok.funs.mem b;exact absurd (AC (Ak g)<|AA I.sz h)<|AL _
def Inv.cne(I:Inv X qp σ H s):∀x c,X.env.cells.lookup x=some c->c≠X.env.locals:=λx c e z=>by obtain⟨v,o,g,hd⟩:=I.cell x c e;obtain⟨m,⟨h,i,j,a,b,_⟩,_⟩:=I.loc;rw[z,a]at g;cases g;rw[b]at hd;cases hd
def Inv.funs(I:Inv X qp σ H s):s.heap.FunFrames X.base X.outer:=by
 have all:∀(l:List Env),(∀b∈L1 l,b∈X.fs)->X.s₀.heap.FunFrames X.base l->s.heap.FunFrames X.base l:=by
  intro l
  induction l with
  |nil=>intro _ _;trivial
  |cons env r i=>
   intro h j;obtain⟨hk,⟨L,o,hf,u,v,hd⟩,w⟩:=j;have a:L∈X.fs:=h L (by unfold L1;rw[BX,hf];exact Ar);obtain⟨x,e⟩:=I.base.slot L o v (I.ok.frf L a) a λz=>I.ok.exfs L z a;exact⟨hk,⟨L,_,hf,u,e,hd⟩,i (λb g=>h b (by unfold L1;rw[BX,hf];exact Al _ g)) w⟩
 exact all X.outer (λ_ g=>g) I.ok.funs
def Inv.stack(I:Inv X qp σ H s):s.heap.FunFrames X.base X.stack:=by
 rcases I.ok.stk with e|⟨e,hf⟩
 ·rw[e];exact I.funs
 rw[e];obtain⟨m,a,_⟩:=I.loc;refine .cons (by rw[I.ok.kind];decide) hf a ?_ I.funs;exact Heap.get?_none_of_le<|AA I.ok.bsz I.ok.above
def Inv.stkSub(I:Inv X qp σ H s):∀b∈L1 X.stack,b∈X.env.locals::X.fs:=λb a=>by
 rcases I.ok.stk with e|⟨e,hf⟩
 ·rw[e]at a;exact Al _ a
 rw[e]at a;unfold L1 at a;rw[BX,hf]at a;exact a
def Inv.stkFree(I:Inv X qp σ H s):∀b∈L1 X.stack,H b=none:=λb hb=>by
 rcases On.mp (I.stkSub b hb)with e|hb
 ·rw[e];exact I.free
 obtain⟨_,o,a,_⟩:=I.ok.funs.mem hb;exact I.base.free b o a (I.ok.frf b hb) λz=>I.ok.exfs b z hb
def Inv.step{ch:List Addr}(I:Inv X qp σ H s)(f:∀b∈ch,(b∈X.ex\/X.s₀.heap.objs.size<=b)/\b≠X.env.locals/\(∀x c,X.env.cells.lookup x=some c->c≠b)/\∀p∈X.pn++qp,p.1≠b)(keep:∀b o,b≠X.env.locals->b∉X.fs->b∉ch->s.heap.get? b=some o->H b=none->h'.get? b=some o)(slot:∀b o,b≠X.env.locals->b∈X.fs->b∉ch->s.heap.get? b=some o->H b=none->∃G,h'.get? b=some {o with slots:=G}) (free:∀b o,b∉ch->s.heap.get? b=some o->H b=none->H' b=none)(there:∀b o,b∉ch->s.heap.get? b=some o->∃y,h'.get? b=some y)(B:∀b xs,H b=some (.tup xs)->H' b=some (.tup xs)) (C:∀b o u,H b=some (.frz o u)->H' b=some (.frz o u)) (F:∀b ps,H b=some (.tbl ps)->∃more,H' b=some (.tbl<|ps++more))(ns:∀m,s.heap.Ns X.env.locals m->h'.Ns X.env.locals m) (J:Jz X.prog X.w H' h') (Q:AllBare g'):
  Inv X qp σ H' {s with heap:=h',gens:=g',drawn:=d',toks:=t'}:=by
 have L:∀b o,X.s₀.heap.get? b=some o->b≠X.env.locals:=λb o e=>Av<|AC (Ak e) I.ok.above;have h:∀b o,X.s₀.heap.get? b=some o->b∉X.ex->b∉ch:=λb o e a A=>by
  rcases(f b A).1 with z|z
  ·exact a z
  exact absurd (AC (Ak e) z)<|AL _
 have cellK:∀x c,X.env.cells.lookup x=some c->∀v,s.heap.IsCell c v->h'.IsCell c v:=by
  rintro x c e v ⟨o,E,hd⟩;have g:c∉ch:=λz=>(f c z).2.2.1 x c e rfl;by_cases hc:c∈X.fs
  ·obtain⟨G,q⟩:=slot c o (I.cne x c e) hc g E<|I.freeC x c e;exact⟨_,q,hd⟩
  exact⟨o,keep c o (I.cne x c e) hc g E<|I.freeC x c e,hd⟩
 refine⟨I.ok,I.os,Q,⟨λb o e n A a=>?_,λb o e n A a=>?_,λb o e n a=>?_,λb o e a=>?_,λb xs e=>B b xs (I.base.tups b xs e),λb o xs e=>C b o xs (I.base.frzs b o xs e),λb ps e=>?_⟩,?_,λx c e=>?_,?_,λx c e=>?_,λp P=>?_,J,I.len⟩
 ·exact keep b o (L b o e) A (h b o e a) (I.base.keep b o e n A a)<|I.base.free b o e n a
 ·obtain⟨G,j⟩:=I.base.slot b o e n A a;obtain⟨N,M⟩:=slot b _ (L b o e) A (h b o e a) j<|I.base.free b o e n a;exact⟨N,M⟩
 ·obtain⟨y,j⟩:=I.base.there b o e a;exact free b y (h b o e a) j<|I.base.free b o e n a
 ·obtain⟨y,j⟩:=I.base.there b o e a;exact there b y (h b o e a) j
 ·obtain⟨S,j⟩:=I.base.tbls b ps e;obtain⟨T,M⟩:=F b _ j;exact⟨S++T,by rw[M,Array.append_assoc]⟩
 ·obtain⟨m,U,W⟩:=I.loc;refine⟨m,ns m U,λi x v j M Y=>?_⟩;obtain⟨u,r,l⟩:=W i x v j M Y;refine⟨u,r,?_⟩
  rcases l with l|⟨k,c,e,z⟩
  ·exact .inl l
  exact .inr ⟨k,c,e,cellK x c e _ z⟩
 ·obtain⟨v,z⟩:=I.cell x c e;exact⟨v,cellK x c e v z⟩
 ·obtain⟨m,⟨o,_,_,E,_⟩,_⟩:=I.loc;exact free _ o (λz=>(f _ z).2.1 rfl) E I.free
 ·obtain⟨v,o,E,hd⟩:=I.cell x c e;exact free c o (λz=>(f c z).2.2.1 x c e rfl) E<|I.freeC x c e
 obtain⟨e,n,ne,K,d⟩:=I.pin p P;have g:p.1∉ch:=λz=>(f p.1 z).2.2.2 p P rfl;exact⟨keep p.1 p.2 ne K g e n,free p.1 p.2 g e n,ne,K,d⟩
def Inv.un(I:Inv X qp σ H s)(u:Un X.fs [] H H' s.heap h')(c:Jz X.prog X.w H' h'):Inv X qp σ H' {s with heap:=h',toks:=t'}:=by obtain⟨m,⟨o,A,E,j,r⟩,_⟩:=id I.loc;obtain⟨L,v⟩:=u.any j I.free (by simp);exact I.step (g':=s.gens) (d':=s.drawn) (ch:=[]) (λ_ z=>nomatch z) (λb o _ g _ e n=>u.keep b o e n g (by simp)) (λb o _ g _ e n=>u.slot b o e n g (by simp)) (λb o _ e n=>u.free b o e n (by simp)) (λb o _ e=>u.there b o e (by simp)) u.tups u.frzs u.tbls (λM hm=>by obtain⟨N,h,i,a,x⟩:=hm;rw[j]at a;cases a;exact⟨_,h,i,v,x⟩) c I.bare
def Inv.call{ch:List Addr}(I:Inv X qp σ H s)(u:Un (L1 X.stack) ch H H' s.heap h')(f:Jz X.prog X.w H' h')(l:AllBare g')(d:∀b∈ch,(b∈X.ex\/X.s₀.heap.objs.size<=b)/\b≠X.env.locals/\(∀x c,X.env.cells.lookup x=some c->c≠b)/\∀p∈X.pn++qp,p.1≠b):
  Inv X qp σ H' {s with heap:=h',gens:=g',drawn:=d',toks:=t'}:=by
 obtain⟨m,⟨o,L,M,v,r⟩,_⟩:=id I.loc;obtain⟨N,h⟩:=u.any v I.free λz=>(d _ z).2.1 rfl;exact I.step (ch:=ch) d (λb o h A a e n=>u.keep b o e n (λz=>(On.mp<|I.stkSub b z).elim h A) a) (λb o _ _ a e n=>u.any e n a) (λb o a e n=>u.free b o e n a) (λb o a e=>u.there b o e a) u.tups u.frzs u.tbls (λP hm=>by obtain⟨q,i,j,g,E⟩:=hm;rw[v]at g;cases g;exact⟨_,i,j,h,E⟩) f l
def Inv.turned(I:Inv X qp σ H s)(k:∀b o,b≠it->s.heap.get? b=some o->h'.get? b=some o)(hn:H it=none)(d:it≠X.env.locals)(f:it∈X.ex\/X.s₀.heap.objs.size<=it) (l:∀x c,X.env.cells.lookup x=some c->c≠it) (y:∀p∈X.pn++qp,p.1≠it):Inv X qp σ H {s with heap:=h',toks:=t'}:=by
 have g:∀b u,H b=some u->b≠it:=λb u e z=>by rw[z,hn]at e;cases e
 refine I.step (g':=s.gens) (d':=s.drawn) (ch:=[it]) (λb h=>?_) (λb o _ _ a e _=>k b o (λz=>a (by simp[z])) e) (λb o _ _ a e _=>⟨o.slots,k b o (λz=>a (by simp[z])) e⟩) (λ_ _ _ _ n=>n)
  (λb o a e=>⟨o,k b o (λz=>a (by simp[z])) e⟩) (λ_ _ e=>e) (λ_ _ _ e=>e) (λb A e=>⟨#[],by rw[e];simp⟩) (λm hm=>?_) (λb u e=>?_) I.bare
 ·have e:b=it:=by simpa using h
  subst e;exact⟨f,d,l,y⟩
 ·obtain⟨o,i,j,w,r⟩:=hm;exact⟨o,i,j,k _ o (Bt d) w,r⟩
 ·refine(I.hok b u e).stay (λc v a q=>k c v ?_ q) (λ_ q=>q) λ_ _ q=>q
  rcases a with z|z
  ·rw[z];exact g b u e
  exact g c _ z
def Inv.tok(I:Inv X qp σ H s)(t:Nat):Inv X qp σ H {s with toks:=t}:=I.un (h':=s.heap) (t':=t) Un.refl I.hok
def Inv.kept{t':Nat}(I:Inv X qp σ H s)(k:∀b u,s.heap.get? b=some u->h'.get? b=some u):Inv X qp σ H {s with heap:=h',toks:=t'}:=I.un (Un.kept k)<|I.hok.kept k
def Inv.laid{a:Addr}{o:HO}{t':Nat}(I:Inv X qp σ H s)(k:∀b u,s.heap.get? b=some u->h'.get? b=some u)(c:s.heap.objs.size<=a)(new:Jv X.prog X.w (upd H a o) h' a o):
  Inv X qp σ (upd H a o) {s with heap:=h',toks:=t'}:=I.un (Un.laid k c<|I.hok.fresh c) (I.hok.laid k c new)
def Inv.write{x e:Addr}{o:HO}{t':Nat}(I:Inv X qp σ H s)(d:Sd (H x))(he:e=x\/H e=some (.own x))(k:∀b u,b≠e->s.heap.get? b=some u->h'.get? b=some u)(c:∃u,h'.get? e=some u)(new:Jv X.prog X.w (upd H x o) h' x o):Inv X qp σ (upd H x o) {s with heap:=h',toks:=t'}:=I.un (Un.write d he k c) (I.hok.write d he k c new)
def Inv.pins_of{c:List (Addr×Obj)}(I:Inv X qp σ H s)(h:∀p∈c,s.heap.get? p.1=some p.2/\H p.1=none/\p.1≠X.env.locals/\p.1∉X.fs/\∀v,p.2.data≠.cell v):Inv X c σ H s:=⟨I.ok,I.os,I.bare,I.base,I.loc,I.cell,I.free,I.freeC,λp a=>(Os.mp a).elim (λz=>I.pin p (AK _ z)) (h p),I.hok,I.len⟩
def aL(c:N.Nodup)(a:N[i]?=some x)(b:N[j]?=some x):i=j:=by obtain⟨h,e1⟩:=KF.mp a;obtain⟨o,g⟩:=KF.mp b;exact(List.getElem_inj c).mp<|e1.trans g.symm
def cF{Q:Unit->Shared->Prop}(I:Inv X qp σ H s)(hN:X.N.Nodup)(hi:X.N[i]?=some x)(f:Loc X.env.scope x)(r:RelV v u)(h:∀s',Inv X qp (σ.set i<|some v) H s'->(∃a,BB a s.heap s'.heap/\(a=X.env.locals\/X.env.cells.lookup x=some a))->Q () s') (hf:X.fn x=true\/X.env.scope.names.lookup x=some .local:=by first|exact .inl rfl|exact .inr rfl|assumption):wpAny M A (storeName X.env x u) Q E s:=by
 obtain⟨m,U,hl⟩:=id I.loc;have F:(X.env.scope.kind==.class || (X.env.scope.kind==.module&&X.env.locals != X.env.globals))=false:=by rw[I.ok.kind];rfl
 have hiσ:i<σ.length:=by rw[I.len];exact(KF.mp hi).1
 have cne:=I.cne;have tracked:∀{a:Addr}{h':P3},(∃o,s.heap.get? a=some o/\H a=none)->BB a s.heap h'->Jz X.prog X.w H h':=λ{a h'} ha g b ob e=>by
  obtain⟨_,_,P⟩:=ha;refine(I.hok b ob e).stay (λc S hc q=>(g.2 c ?_).trans q) (λ_ q=>q) λ_ _ q=>q;rintro rfl;rcases hc with rfl|hc
  ·rw[P]at e;cases e
  rw[P]at hc;cases hc
 rcases f with hk|hk
 ·refine wpAny_storeName_local hk U (λh' W g=>?_) F;obtain⟨oL,_,_,Y,_⟩:=id U;refine h _ ⟨I.ok,I.os,I.bare,⟨λb o e n B f=>?_,λb o e n B f=>?_,I.base.free,λb o e f=>?_,I.base.tups,I.base.frzs,I.base.tbls⟩,⟨_,W,λj y Z L l e3=>?_⟩,λy c e=>?_,I.free,I.freeC,λp hp=>?_,tracked ⟨oL,Y,I.free⟩ g,by simpa using I.len⟩ ⟨_,g,.inl rfl⟩
  ·exact(g.2 b<|Av<|AC (Ak e) I.ok.above).trans<|I.base.keep b o e n B f
  ·obtain⟨sl,L⟩:=I.base.slot b o e n B f;exact⟨sl,(g.2 b<|Av<|AC (Ak e) I.ok.above).trans L⟩
  ·obtain⟨o',L⟩:=I.base.there b o e f;exact⟨o',(g.2 b<|Av<|AC (Ak e) I.ok.above).trans L⟩
  ·by_cases hj:j=i
   ·subst hj;rw[hi]at L;cases L;rw[Aq hiσ]at l;cases l;exact⟨u,r,.inl ⟨hk,by simp⟩⟩
   ·rw[Ag (Bt hj)]at l;obtain⟨u',r',q⟩:=hl j y Z L l e3;refine⟨u',r',?_⟩
    rcases q with⟨k,e⟩|⟨k,c,e,z⟩
    ·refine .inl ⟨k,?_⟩;have:y≠x:=λe=>hj<|aL hN L<|e ▸ hi;simp[this,e]
    exact .inr ⟨k,c,e,z.sameBut g<|cne y c e⟩
  ·obtain⟨S,z⟩:=I.cell y c e;exact⟨S,z.sameBut g<|cne y c e⟩
  obtain⟨e,n,ne,nf,d⟩:=I.pin p hp;exact⟨(g.2 p.1 ne).trans e,n,ne,nf,d⟩
 ·have C:X.fn x=true:=by
   rcases hf with z|z
   ·exact z
   rw[z]at hk;cases hk
  obtain⟨c,hc⟩:=I.ok.has x<|.inl hk;obtain⟨S,z⟩:=I.cell x c hc;refine wpAny_storeName_cell I.ok.kind hk hc z λh' G g=>?_;obtain⟨oc,J,K⟩:=id z;refine h {s with heap:=h'} ⟨I.ok,I.os,I.bare,⟨λb o e n B f=>?_,λb o e n B f=>?_,I.base.free,λb o e f=>?_,I.base.tups,I.base.frzs,I.base.tbls⟩,⟨m,U.sameBut g<|Bt<|cne x c hc,λj y Z L l e3=>?_⟩,λy T e=>?_,I.free,I.freeC,λp hp=>?_,tracked ⟨oc,J,I.freeC x c hc⟩ g,by simpa using I.len⟩ ⟨c,g,.inr hc⟩
  ·exact(g.2 b<|Av<|AC (Ak e)<|I.ok.cab x c C hc).trans<|I.base.keep b o e n B f
  ·obtain⟨sl,L⟩:=I.base.slot b o e n B f;exact⟨sl,(g.2 b<|Av<|AC (Ak e)<|I.ok.cab x c C hc).trans L⟩
  ·obtain⟨o',L⟩:=I.base.there b o e f;exact⟨o',(g.2 b<|Av<|AC (Ak e)<|I.ok.cab x c C hc).trans L⟩
  ·by_cases hj:j=i
   ·subst hj;rw[hi]at L;cases L;rw[Aq hiσ]at l;cases l;exact⟨u,r,.inr ⟨.inl hk,c,hc,G⟩⟩
   ·rw[Ag (Bt hj)]at l;obtain⟨u',r',q⟩:=hl j y Z L l e3;refine⟨u',r',?_⟩
    rcases q with q|⟨k,T,e,z'⟩
    ·exact .inl q
    refine .inr ⟨k,T,e,z'.sameBut g ?_⟩;rintro rfl;exact hj<|aL hN L<|I.ok.inj _ _ _ e hc ▸ hi
  ·by_cases hcc:T=c
   ·subst hcc;exact⟨_,G⟩
   obtain⟨w2,z2⟩:=I.cell y T e;exact⟨w2,z2.sameBut g hcc⟩
  obtain⟨e,n,ne,nf,d⟩:=I.pin p hp;refine⟨(g.2 p.1 ?_).trans e,n,ne,nf,d⟩;intro q;rw[q,J]at e;have q':oc=p.2:=Az e;exact d S (by rw[<-q'];exact K)
def TM{Q:Unit->Shared->Prop}(I:Inv X qp σ H s)(c:X.N.Nodup)(hi:X.N[i]?=some x)(d:Loc X.env.scope x)(r:RelV v u)(h:∀s',Inv X qp (σ.set i<|some v) H s'->Q () s') (hf:X.fn x=true\/X.env.scope.names.lookup x=some .local:=by first|exact .inl rfl|exact .inr rfl|assumption):wpAny M A (storeName X.env x u) Q E s:=
 cF I c hi d r (λs' a _=>h s' a) hf
def Inv.call'{ch:List Addr}(I:Inv X qp σ H s)(l:s'.os=s.os)(u:Un (L1 X.stack) ch H H' s.heap s'.heap)(d:Jz X.prog X.w H' s'.heap)(m:AllBare s'.gens)(f:∀b∈ch,(b∈X.ex\/X.s₀.heap.objs.size<=b)/\b≠X.env.locals/\(∀x c,X.env.cells.lookup x=some c->c≠b)/\∀p∈X.pn++qp,p.1≠b):Inv X qp σ H' s':=by
 obtain⟨h',g',d',t',a⟩:=s';have e:a=s.os:=l;subst e;exact I.call (g':=g') (t':=t') (d':=d') u d m f
end
noncomputable abbrev XK:=IR->Option Addr->Hp->Prop
noncomputable abbrev St:=List (Option V)
noncomputable abbrev VK:=V->Hp->Prop
noncomputable abbrev TE:=St->Hp->VK->Prop
noncomputable abbrev TT:=St->Hp->(Bool->Hp->Prop)->Prop
noncomputable abbrev TA:=St->Hp->(List V->Hp->Prop)->Prop
structure Ends where
 nx:St->Hp->Prop
 rt:VK
 bk:St->Hp->Prop:=λ_ _=>False
 ct:St->Hp->Prop:=λ_ _=>False
noncomputable abbrev TS:=Ends->St->Hp->Prop
def EP(X:Cx)(qp:List (Addr×Obj))(σ:St)(Q:VK)(u:IR)(s':Shared):Prop:=∃v H',Inv X qp σ H' s'/\RelV v u/\Q v H'
def TP(X:Cx)(qp:List (Addr×Obj))(σ:St)(Q:Bool->Hp->Prop)(b:Bool)(s':Shared):Prop:=∃H',Inv X qp σ H' s'/\Q b H'
def AP(X:Cx)(qp:List (Addr×Obj))(σ:St)(Q:List V->Hp->Prop)(us:List IR)(s':Shared):Prop:=∃a H',Inv X qp σ H' s'/\Vals a us/\Q a H'
def SP(X:Cx)(qp:List (Addr×Obj))(D:Ends)(f:Flow)(s':Shared):Prop:=
 match f with
 |.next=>∃σ' H',Inv X qp σ' H' s'/\D.nx σ' H'
 |.brk=>∃σ' H',Inv X qp σ' H' s'/\D.bk σ' H'
 |.cont=>∃σ' H',Inv X qp σ' H' s'/\D.ct σ' H'
 |.ret u=>∃v σ' H',Inv X qp σ' H' s'/\RelV v u/\D.rt v H'
def PE(X:Cx)(e:Pv)(t:TE):Prop:=∀(qp:List (Addr×Obj)) (s:Shared) (σ:St) (H:Hp) (Q:VK),Inv X qp σ H s->t σ H Q->wpAny (KB X.prog X.w) X.A (Wp e X.env) (EP X qp σ Q) X.xe s
def PT(X:Cx)(e:Pv)(t:TT):Prop:=∀(qp:List (Addr×Obj)) (s:Shared) (σ:St) (H:Hp) (Q:Bool->Hp->Prop),Inv X qp σ H s->t σ H Q->wpAny (KB X.prog X.w) X.A (isTrue e X.env<|Wp e X.env) (TP X qp σ Q) X.xe s
def PW(X:Cx)(e:Pv)(t:TT):Prop:=∀(whole:Sem IR) (qp:List (Addr×Obj)) (s:Shared) (σ:St) (H:Hp) (Q:Bool->Hp->Prop),Inv X qp σ H s->t σ H Q->wpAny (KB X.prog X.w) X.A (isTrue e X.env whole) (TP X qp σ Q) X.xe s
variable {e:Pv}
def PW.pt{t:TT}(h:PW X e t):PT X e t:=h _
def PA(X:Cx)(es:List Pv)(t:TA):Prop:=∀(pos:Pos) (qp:List (Addr×Obj)) (s:Shared) (σ:St) (H:Hp) (Q:List V->Hp->Prop),Inv X qp σ H s->t σ H Q->wpAny (KB X.prog X.w) X.A (spliced<|backTo pos<|starEach es X.env) (AP X qp σ Q) X.xe s
def PS(X:Cx)(st:W1)(t:TS):Prop:=∀(qp:List (Addr×Obj)) (s:Shared) (σ:St) (H:Hp) (D:Ends),Inv X qp σ H s->t D σ H->wpAny (KB X.prog X.w) X.A (exec st X.env) (SP X qp D) X.xe s
def KO(X:Cx)(st:List W1)(t:TS):Prop:=∀(qp:List (Addr×Obj)) (s:Shared) (σ:St) (H:Hp) (D:Ends),Inv X qp σ H s->t D σ H->wpAny (KB X.prog X.w) X.A (execs st X.env) (SP X qp D) X.xe s
def HC{t:Sem α}{Q c:α->Shared->Prop}{s:Shared}(h:wpAny M A t Q E s)(d:∀a s,Q a s->c a s):wpAny M A t c E s:=Bp h d λ_ _ x=>x
variable {σ:St}{Q:Qqa}{pos:Pos}{ta tb:TE}{op:CmpOp}{c:Pv}
section
def Xt(i:Nat):TE:=λσ H Q=>∃v,σ[i]?=some (some v)/\Q v H
def tC(v:V):TE:=λ_ H Q=>Q v H
def nV(f:X.N[i]?=some x)(n:Yv X.env.scope x)(hd:(x==("__debug__":Str))=false:=by decide)(d:(x==("__classdict__":Str))=false:=by decide):PE X (.Name x pos) (Xt i):=by
 intro qp s σ H Q I h;obtain⟨v,e,h⟩:=h;obtain⟨m,g,j⟩:=I.loc;obtain⟨u,r,l⟩:=j i x v f e n;have fin:EP X qp σ Q u s:=⟨v,H,I,r,h⟩;rcases l with⟨hk,hm⟩|⟨hk,c,b,a⟩
 ·exact Gi (wpAny_loadName_local I.ok.kind hk g hm fin) hd
 ·rcases hk with hk|hk
  ·exact Gi (wpAny_loadName_cell I.ok.kind hk b a fin) hd
  exact Gi (wpAny_loadName_free I.ok.kind hk b a fin d) hd
def nO{i j pos}:PE X (.Constant (.int i) j pos) (tC<|.int i):=λ_ _ _ H _ I h=>wpAny_Constant_int ⟨.int i,H,I.tok _,⟨_,rfl⟩,h⟩
def hZ{b j pos}:PE X (.Constant (.bool b) j pos) (tC<|.bl b):=λ_ _ _ H _ I h=>Constant_bool ⟨.bl b,H,I,rfl,h⟩
def nQ{j pos}:PE X (.Constant .none j pos) (tC .non):=λ_ _ _ H _ I h=>Constant_none ⟨.non,H,I,rfl,h⟩
def nT{x j pos}:PE X (.Constant (.str x) j pos) (tC<|.str x):=λ_ _ _ H _ I h=>Calls.Constant_str ⟨.str x,H,I.tok _,⟨_,rfl⟩,h⟩
def Gl(X:Cx)(x:Str):Prop:=X.env.kindOf x=some .globalImplicit
def aC(I:Inv X qp σ H s)(d:Gl X x)(hm:X.mg x=some u)(h:Q u s)(hd:(x==("__debug__":Str))=false:=by decide):wpAny (KB X.prog X.w) X.A (Wp (.Name x pos) X.env) Q E s:=
 DO I.ok.kind d (Calls.loadGlobal_global (by rw[I.ok.glob];exact I.mod.glob.keeps I.bk) hm h) hd
def PH(I:Inv X qp σ H s)(d:Gl X x)(hm:X.mg x=none)(f:UF x=some u)(h:Q u s)(hn:x≠"__name__":=by decide) (hd:(x==("__debug__":Str))=false:=by decide):wpAny (KB X.prog X.w) X.A (Wp (.Name x pos) X.env) Q E s:=by
 obtain⟨c,a,b⟩:=I.mod.blt;exact DO I.ok.kind d (Calls.loadGlobal_builtin (by rw[I.ok.glob];exact I.mod.glob.keeps I.bk) hm (by rw[I.ok.blt];exact a.keeps I.bk) ((b x hn).trans f) h) hd
def tH(d:Gl X x)(hm:X.mg x=none)(f:UF x=some u)(r:RelV v u)(hn:x≠"__name__":=by decide)(hd:(x==("__debug__":Str))=false:=by decide):PE X (.Name x pos) (tC v):=λ_ _ _ H _ I h=>PH I d hm f ⟨v,H,I,r,h⟩ hn hd
variable {a b:Pv}
def PC(X:Cx)(op:CmpOp)(a b:Pv)(t:TE):Prop:=
 ∀(qp:List (Addr×Obj)) (s:Shared) (σ:St) (H:Hp) (Q:VK),Inv X qp σ H s->t σ H Q ->
  wpAny (KB X.prog X.w) X.A (Wp a X.env) (λv s₁=>wpAny (KB X.prog X.w) X.A (Wp b X.env) (λu s₂=>wpAny (KB X.prog X.w) X.A (Re op v u) (EP X qp σ Q) X.xe s₂) X.xe s₁) X.xe s
def tB(t:TE):TT:=λσ H Q=>t σ H λx H1=>∃c,x=.bl c/\Q c H1
def ZA{t:TE}(h:PC X op a b t)(l:behindInMarks op b=false:=by first|exact f _ (by decide) (by decide)|rfl):PT X (.Compare a [op] [b] pos) (tB t):=by intro qp s σ H Q I hw;refine EJ (HC (h qp s σ H _ I hw) λv s1 l=>HC l λu s2 e=>HC e ?_) l;rintro c s3 ⟨x,H1,g,i,j⟩;obtain⟨d,rfl,q⟩:=j;cases i;exact Bv ⟨H1,g,q⟩
variable {tA tB':TT}{rest:List Pv}
def XH(t u:TT):TT:=λσ H Q=>t σ H λc H1=>if c=true then u σ H1 Q else Q false H1
def tOr(t u:TT):TT:=λσ H Q=>t σ H λc H1=>if c=true then Q true H1 else u σ H1 Q
def Xz(t:TT):TT:=λσ H Q=>t σ H λc H1=>Q (!c) H1
def NC(d:PT X a tA):PW X (.BoolOp .And [a] pos) tA:=by
 intro b qp s σ H Q I h;refine isTrue_and<|HC (d qp s σ H Q I h) λc s1 e=>?_
 cases c with
 |true=>exact isTrue_and_nil e
 |false=>exact e
def Pd(d:PT X a tA):PW X (.BoolOp .Or [a] pos) tA:=by
 intro b qp s σ H Q I h;refine isTrue_or<|HC (d qp s σ H Q I h) λc s1 e=>?_
 cases c with
 |false=>exact isTrue_or_nil e
 |true=>exact e
def Pe(d:PT X a tA)(f:PW X (.BoolOp .And (b::rest) pos) tB'):PW X (.BoolOp .And (a::b::rest) pos) (XH tA tB'):=by
 intro i qp s σ H Q I h;refine isTrue_and<|HC (d qp s σ H _ I h) ?_;rintro c s1 ⟨H1,e,g⟩
 cases c with
 |true=>exact f i qp s1 σ H1 Q e g
 |false=>exact⟨H1,e,g⟩
def RL(d:PT X a tA)(f:PW X (.BoolOp .Or (b::rest) pos) tB'):PW X (.BoolOp .Or (a::b::rest) pos) (tOr tA tB'):=by
 intro i qp s σ H Q I h;refine isTrue_or<|HC (d qp s σ H _ I h) ?_;rintro c s1 ⟨H1,e,g⟩
 cases c with
 |true=>exact⟨H1,e,g⟩
 |false=>exact f i qp s1 σ H1 Q e g
def lQ(ha:PT X a tA):PT X (.UnaryOp .Not a pos) (Xz tA):=by intro qp s σ H Q I h;exact isTrue_not<|ha qp s σ H (λc H1=>Q (!c) H1) I h
def iM(ta tb:TE):TE:=λσ H Q=>ta σ H λx H1=>∃c,x=.bl c/\if c=true then tb σ H1 Q else Q (.bl false) H1
def iS(ta:TE):TE:=λσ H Q=>ta σ H λx H1=>∃c,x=.bl c/\Q (.bl<|!c) H1
def nS{op}{t:TE}(h:PE X a t):PE X (.BoolOp op [a] pos) t:=λqp s σ H Q I hw=>BoolOp_one<|h qp s σ H Q I hw
def nL(d:PE X a ta)(f:PE X (.BoolOp .And (b::rest) pos) tb):PE X (.BoolOp .And (a::b::rest) pos) (iM ta tb):=by
 intro qp s σ H Q I h;refine BoolOp_and<|HC (d qp s σ H _ I h) ?_;rintro v s1 ⟨x,H1,g,i,e⟩;obtain⟨c,rfl,e⟩:=e;cases i;refine Bv ?_
 cases c with
 |true=>exact f qp s1 σ H1 Q g e
 |false=>exact⟨.bl false,H1,g,rfl,e⟩
def nR(d:PE X a ta):PE X (.UnaryOp .Not a pos) (iS ta):=by intro qp s σ H Q I h;refine UnaryOp_<|HC (d qp s σ H _ I h) ?_;rintro v s1 ⟨x,H1,e,g,b⟩;obtain⟨c,rfl,b⟩:=b;cases g;exact not_of<|Bv ⟨.bl<|!c,H1,e,rfl,b⟩
def tIf(t:TT)(ta tb:TE):TE:=λσ H Q=>t σ H λc H1=>if c=true then ta σ H1 Q else tb σ H1 Q
def wF(f:PT X c tA)(l:PE X a ta)(m:PE X b tb):PE X (.IfExp c a b pos) (tIf tA ta tb):=by
 intro qp s σ H Q I h;refine wpAny_IfExp<|HC (f qp s σ H _ I h) ?_;rintro d s1 ⟨H1,e,g⟩
 cases d with
 |true=>exact l qp s1 σ H1 Q e g
 |false=>exact m qp s1 σ H1 Q e g
end
def JL(K:Ab)(H:Hp)(a:Addr)(xs:List V):Prop:=
 Rd H a (.lst xs) \/
  ∃(o:Obj) (b:Array IR) (n:Nat),K.lookup a=some o/\o.cls=.type "list"/\o.dict=none/\o.data=.seq b n/\b.size<=sizeLine/\Vals xs b.toList
def IK(K:Ab)(H:Hp)(a:Addr)(xs:List V):Prop:=
 Rd H a (.tup xs) \/
  ∃(o:Obj) (b:Array IR) (n:Nat),K.lookup a=some o/\o.cls=.type "tuple"/\o.data=.seq b n/\b.size<=sizeLine/\Vals xs b.toList
def Yu:IR->Option V
 |.none=>some .non
 |.bool b=>some<|.bl b
 |.int i _=>some<|.int i
 |.str x _=>some<|.str x
 |.bytes b _=>some<|.byt b
 |.float b _=>some<|.flt b
 |.ref a=>some<|.ref a
 |.type n=>some<|.ty n
 |_=>none
def RelV.abs{x:V}(r:RelV x u):Yu u=some x:=by
 cases x with
 |non=>cases r;rfl
 |bl _=>cases r;rfl
 |int _=>obtain⟨t,rfl⟩:=r;rfl
 |str _=>obtain⟨t,rfl⟩:=r;rfl
 |byt _=>obtain⟨t,rfl⟩:=r;rfl
 |flt _=>obtain⟨t,rfl⟩:=r;rfl
 |ref _=>cases r;rfl
 |ty _=>cases r;rfl
variable {y:V}
def RelV.inj{x:V}(r:RelV x u)(q:RelV y u):x=y:=Az<|r.abs.symm.trans q.abs
theorem Vals.inj:∀{xs d:List V}{us:List IR},Vals xs us->Vals d us->xs=d
 |_,_,_,.nil,.nil=>rfl
 |_,_,_,.cons r t,.cons f t'=>by rw[r.inj f,Vals.inj t t']
variable {K:Ab}
section
variable {xs ys:List V}
def JL.of(h:H a=some (.lst xs)):JL K H a xs:=.inl<|.inl h
def IK.of(h:H a=some (.tup xs)):IK K H a xs:=.inl<|.inl h
def Inv.list(I:Inv X qp σ H s)(h:JL X.K H a xs):∃its:List IR,Vals xs its/\PlainL s.heap a its.toArray/\xs.length<=sizeLine:=by
 rcases h with h|⟨o,its,n,hk,b,hd,c,g,r⟩
 ·obtain⟨z,its,n,r,e⟩:=h.ok I.hok;exact⟨its,r,⟨_,n,e,rfl,rfl,rfl⟩,z⟩
 refine⟨its.toList,r,⟨o,n,I.kIn a o hk,b,hd,by simpa using c⟩,?_⟩;have e:=r.length;simp only[AR]at e;omega
def Inv.tuple(I:Inv X qp σ H s)(h:IK X.K H a xs):∃its:List IR,Vals xs its/\IsTup s.heap a its.toArray/\xs.length<=sizeLine:=by
 rcases h with h|⟨o,its,n,hk,b,c,g,r⟩
 ·obtain⟨z,its,r,p⟩:=h.ok I.hok;exact⟨its,r,p.t,z⟩
 refine⟨its.toList,r,⟨o,I.kIn a o hk,b,n,by simpa using c⟩,?_⟩;have e:=r.length;simp only[AR]at e;omega
def Inv.list_inj(I:Inv X qp σ H s)(h:JL X.K H a xs)(h':JL X.K H a ys):xs=ys:=by
 obtain⟨c,r,⟨o,n,e,_,_,d⟩,_⟩:=I.list h;obtain⟨b,i,⟨j,u,g,_,_,d'⟩,_⟩:=I.list h';rw[e]at g;cases g;rw[d]at d';injection d' with d1 _
 have:c=b:=by simpa using congrArg GS d1
 subst this;exact r.inj i
def Inv.tuple_inj(I:Inv X qp σ H s)(h:IK X.K H a xs)(h':IK X.K H a ys):xs=ys:=by
 obtain⟨c,r,⟨o,e,_,n,d⟩,_⟩:=I.tuple h;obtain⟨b,i,⟨j,g,_,u,d'⟩,_⟩:=I.tuple h';rw[e]at g;cases g;rw[d]at d';injection d' with d1 _
 have:c=b:=by simpa using congrArg GS d1
 subst this;exact r.inj i
end
noncomputable abbrev Cx.wish (X:Cx) (E:Qqa):Cx:={X with xe:=E}
noncomputable abbrev Cx.nox (X:Cx):Cx:=X.wish λ_ _=>False
def Cx.Ok.wish{X:Cx}(ok:X.Ok)(E:Qqa):(X.wish E).Ok:=⟨ok.mod,ok.kind,ok.glob,ok.blt,ok.above,ok.inj,ok.has,ok.cab,ok.hd,ok.frames,ok.stk,ok.exf,ok.bs,ok.bsz,ok.noex,ok.exfs,ok.funs,ok.frf⟩
def Cx.Ok.unwish(ok:(X.wish E).Ok):X.Ok:=⟨ok.mod,ok.kind,ok.glob,ok.blt,ok.above,ok.inj,ok.has,ok.cab,ok.hd,ok.frames,ok.stk,ok.exf,ok.bs,ok.bsz,ok.noex,ok.exfs,ok.funs,ok.frf⟩
def Inv.wish(I:Inv X qp σ H s)(E:Qqa):Inv (X.wish E) qp σ H s:=⟨I.ok.wish E,I.os,I.bare,I.base,I.loc,I.cell,I.free,I.freeC,I.pin,I.hok,I.len⟩
def Inv.unwish(I:Inv (X.wish E) qp σ H s):Inv X qp σ H s:=⟨I.ok.unwish,I.os,I.bare,I.base,I.loc,I.cell,I.free,I.freeC,I.pin,I.hok,I.len⟩
def SP.unwish{D:Ends}{f:Flow}{s':Shared}(h:SP (X.wish E) qp D f s'):SP X qp D f s':=by
 cases f with
 |next=>obtain⟨σ',H',I,q⟩:=h;exact⟨σ',H',I.unwish,q⟩
 |brk=>obtain⟨σ',H',I,q⟩:=h;exact⟨σ',H',I.unwish,q⟩
 |cont=>obtain⟨σ',H',I,q⟩:=h;exact⟨σ',H',I.unwish,q⟩
 |ret u=>obtain⟨v,σ',H',I,r,q⟩:=h;exact⟨v,σ',H',I.unwish,r,q⟩
def KO.nox{st:List W1}{t:TS}(h:KO X.nox st t):KO X st t:=λqp s σ H D I hw=>
 Bp (h qp s σ H D (I.wish _) hw) (λ_ _ q=>q.unwish) λ_ _ z=>False.elim z
variable {te:TE}{tc:TT}
section
variable {st:W1}{rest:List W1}{t u:TS}
def YS:TS:=λD σ H=>D.nx σ H
def Xv(t u:TS):TS:=λD σ H=>t {D with nx:=u D} σ H
def sH:KO X [] YS:=λ_ _ σ H _ I h=>Dh ⟨σ,H,I,h⟩
def vB(d:PS X st t)(l:KO X rest u):KO X (st::rest) (Xv t u):=by
 intro qp s σ H D I h;refine wpAny_execs_cons<|HC (d qp s σ H {D with nx:=u D} I h) λf s1 q=>?_
 cases f with
 |next=>
  obtain⟨σ',H',a,q⟩:=q;exact l qp s1 σ' H' D a q
 |ret v=>exact q
 |brk=>exact q
 |cont=>exact q
def sI(d:PS X st t):KO X [st] t:=by
 intro qp s σ H D I h;refine wpAny_execs_cons<|HC (d qp s σ H D I h) λf s1 q=>?_
 cases f with
 |next=>exact Dh q
 |ret v=>exact q
 |brk=>exact q
 |cont=>exact q
def sG:PS X (.Pass pos) YS:=λ_ _ σ H _ I h=>wpAny_Pass ⟨σ,H,I,h⟩
def Inv.quiet(I:Inv X qp σ H s):interactive X.env=false:=by simp[interactive,I.ok.kind]
def iQ(te:TE):TS:=λD σ H=>te σ H λ_ H1=>D.nx σ H1
def sF(he:PE X e te)(d:swapsWith e none pos.line X.env=pure false:=by rfl):PS X (.Expr e pos) (iQ te):=by intro qp s σ H D I h;exact wpAny_Expr_any (HC (he qp s σ H _ I h) λv s1 ⟨x,H1,a,c,b⟩=>⟨σ,H1,a,b⟩) I.quiet d
def Xw(te:TE):TS:=λD σ H=>te σ H D.rt
def lM(he:PE X e te):PS X (.Return (some e) pos) (Xw te):=by intro qp s σ H D I h;exact wpAny_Return_some<|HC (he qp s σ H _ I h) λv s1 ⟨x,H1,a,b,c⟩=>⟨x,σ,H1,a,b,c⟩
def XB(c:TT)(t u:TS):TS:=λD σ H=>c σ H λb H1=>if b=true then t D σ H1 else u D σ H1
def iD{a b:List W1}(f:PT X c tc)(l:KO X a t)(m:KO X b u):PS X (.If c a b pos) (XB tc t u):=by
 intro qp s σ H D I h;refine wpAny_If<|HC (f qp s σ H _ I h) ?_;rintro d s1 ⟨H1,e,g⟩
 cases d with
 |true=>exact l qp s1 σ H1 D e g
 |false=>exact m qp s1 σ H1 D e g
end
noncomputable abbrev TG:=V->St->Hp->(St->Hp->Prop)->Prop
noncomputable abbrev Ox:=List V->St->Hp->(St->Hp->Prop)->Prop
def PG(X:Cx)(target:Pv)(t:TG):Prop:=
 ∀(qp:List (Addr×Obj)) (s:Shared) (σ:St) (H:Hp) (v:V) (u:IR) (Q:St->Hp->Prop),Inv X qp σ H s->RelV v u->t v σ H Q ->
  wpAny (KB X.prog X.w) X.A (assign target X.env u) (λ_ s'=>∃σ' H',Inv X qp σ' H' s'/\Q σ' H') X.xe s
def Nc(X:Cx)(ts:List Pv)(t:Ox):Prop:=
 ∀(qp:List (Addr×Obj)) (s:Shared) (σ:St) (H:Hp) (a:List V) (us:List IR) (Q:St->Hp->Prop),Inv X qp σ H s->Vals a us->t a σ H Q ->
  wpAny (KB X.prog X.w) X.A (assignInOrder ((assignEach ts X.env).map (·.2)) us) (λ_ s'=>∃σ' H',Inv X qp σ' H' s'/\Q σ' H') X.xe s
noncomputable abbrev Pn:=V->V->V->Hp->(Hp->Prop)->Prop
def Pp(X:Cx)(t:Pn):Prop:=
 ∀(qp:List (Addr×Obj)) (s:Shared) (σ:St) (H:Hp) (o i v:V) (a b u:IR) (Q:Hp->Prop),Inv X qp σ H s->RelV o a->RelV i b->RelV v u->t o i v H Q ->
  wpAny (KB X.prog X.w) X.A (setItem a b u) (λ_ s'=>∃H',Inv X qp σ H' s'/\Q H') X.xe s
variable {es:List Pv}{n:Nat}{tg:Pv}{pos':Pos}
def YG(i:Nat):TG:=λv σ H Q=>Q (σ.set i<|some v) H
def tO(d:X.N.Nodup)(hi:X.N[i]?=some x)(f:Loc X.env.scope x)(hf:X.fn x=true\/X.env.scope.names.lookup x=some .local:=by first|exact .inl rfl|exact .inr rfl|assumption):PG X (.Name x pos) (YG i):=by intro qp s σ H v u Q I r h;exact FI<|TM I d hi f r (λs' a=>⟨_,H,a,h⟩) hf
def Ym:Ox:=λa σ H Q=>a=[]/\Q σ H
def jA(t:TG)(u:Ox):Ox:=λa σ H Q=>∃v r,a=v::r/\t v σ H λσ' H'=>u r σ' H' Q
def tQ:Nc X [] Ym:=by intro qp s σ H a us Q I r h;obtain⟨e,h⟩:=h;subst e;cases r;exact FJ ⟨σ,H,I,h⟩
def wH{t:TG}{u:Ox}(d:PG X e t)(f:Nc X es u)(l:(assignEach (e::es) X.env).map (·.2)=assign e X.env::(assignEach es X.env).map (·.2):=by rfl):Nc X (e::es) (jA t u):=by
 intro qp s σ H i us Q I r h;obtain⟨v,j,a,h⟩:=h;subst a;cases r with
 |cons r b=>
  rw[l];refine DJ<|HC (d qp s σ H _ _ _ I r h) ?_;rintro _ s1 ⟨σ1,H1,c,g⟩;exact f qp s1 σ1 H1 _ _ Q c b g
def Yk(K:Ab)(n:Nat)(t:Ox):TG:=λv σ H Q=>∃a xs,v=.ref a/\IK K H a xs/\xs.length=n/\t xs σ H Q
def nX{k:Nat}{t:Ox}(f:X.calm=true)(h:Nc X es t)(hn:(assignEach es X.env).length=n:=by rfl) (d:(assignEach es X.env).findIdx? (·.1)=none:=by rfl):PG X (.Tuple es k pos) (Yk X.K n t):=by
 intro qp s σ H v u Q I r hw;obtain⟨a,xs,g,i,j,hw⟩:=hw;subst g;cases r;obtain⟨w,c,x,E⟩:=I.tuple i;refine assign_Tuple_tuple (I.ok.hd f) x (by simp[hn,<-j,c.length]) d λh' y=>?_;have A:Inv X qp σ H {s with heap:=h'}:=I.kept (t':=s.toks) λb o e=>y b o (Av<|Ak e) e;exact h qp _ σ H xs _ Q A (by simpa using c) hw
def Yl(to d:TE)(t:Pn):TG:=λv σ H Q=>to σ H λo H1=>d σ H1 λi a=>t o i v a λb=>Q σ b
def nW{o i:Pv}{to l:TE}{t:Pn}(m:PE X o to)(hi:PE X i l)(p:Pp X t)(q:∀v,assign (.Subscript o i pos) X.env v=(do
   let d <-holding [v] (Wp o X.env)
   let f <-holding [v,d] (Wp i X.env)
   standAt pos
   holding [v,d,f] (setItem d f v)
   release [v,d,f] []):=by intro _;rfl):PG X (.Subscript o i pos) (Yl to l t):=by
 intro qp s σ H v u Q I r h;rw[q];refine Aa<|AM<|HC (m qp s σ H _ I h) ?_;rintro d s1 ⟨x,H1,a,b,c⟩;refine Aa<|AM<|HC (hi qp s1 σ H1 _ a c) ?_;rintro f s2 ⟨y,e,g,j,n⟩;refine Aa<|DP<|Aa<|AM<|HC (p qp s2 σ e x y v d f u _ g b j r n) ?_;rintro _ s3 ⟨w,A,E⟩;exact wpAny_release ⟨σ,w,A,E⟩
def Pb(te:TE)(g:TG):TS:=λD σ H=>te σ H λx H1=>g x σ H1 D.nx
def lI{g:TG}(he:PE X e te)(d:PG X tg g)(f:swapsWithSole [tg] e pos.line X.env=pure false:=by rfl)(hw:swappedStores [tg] e X.env=pure none:=by rfl)(l:(assignEach [tg] X.env).map (·.2)=[assign tg X.env]:=by rfl):PS X (.Assign [tg] e pos) (Pb te g):=by
 intro qp s σ H D I h;refine wpAny_Assign_stores (HC (he qp s σ H _ I h) ?_) f hw;rintro v s1 ⟨x,H1,a,b,c⟩;rw[l];exact HC (d qp s1 σ H1 x v _ a b c) λ_ s2 q=>q
def lO(d:X.N.Nodup)(hi:X.N[i]?=some x)(f:Loc X.env.scope x)(he:PE X e te)(l:swapsWith e (some<|.Name x pos') pos.line X.env=pure false:=by rfl)(hf:X.fn x=true\/X.env.scope.names.lookup x=some .local:=by first|exact .inl rfl|exact .inr rfl|assumption):
  PS X (.Assign [.Name x pos'] e pos) (Pb te<|YG i):=by
 intro qp s σ H D I h;refine wpAny_Assign_Name (HC (he qp s σ H _ I h) ?_) l;rintro v s1 ⟨y,H1,a,b,c⟩;exact TM a d hi f b (λs2 g=>⟨_,H1,g,c⟩) hf
def Xy(i j:Nat)(ta:TA):TS:=λD σ H=>ta σ H λa H1=>∃v w,a=[v,w]/\D.nx ((σ.set i<|some v).set j<|some w) H1
def lL{y:Str}{a b:Pv}{ta:TA}{d py pt:Pos}{kt k2 pt2}(z:X.calm=true)(l:X.N.Nodup)(hi:X.N[i]?=some x)(B:X.N[j]?=some y)(f:i≠j)(m:X.env.scope.names.lookup x=some .local) (r:X.env.scope.names.lookup y=some .local) (C:PA X [a,b] ta)(hw:swappedStores [.Tuple [.Name x d,.Name y py] kt pt] (.Tuple [a,b] k2 pt2) X.env=pure (some [x,y]))(F:swapsWithSole [.Tuple [.Name x d,.Name y py] kt pt] (.Tuple [a,b] k2 pt2) pos.line X.env=pure false:=by rfl):
  PS X (.Assign [.Tuple [.Name x d,.Name y py] kt pt] (.Tuple [a,b] k2 pt2) pos) (Xy i j ta):=by
 intro qp s σ H D I h;rw[exec_Assign_arm];refine Aa<|DP ?_;rw[F];refine Aa<|Ac ?_;rw[if_neg (by decide)];refine Aa<|Tuple_<|HC (C _ qp s σ H _ I h) ?_;rintro us s1 ⟨T,H1,I1,L,n⟩;obtain⟨v,w,M,n⟩:=n;subst M;obtain⟨c,g,rfl,P,u⟩:∃c g,us=[c,g]/\RelV v c/\RelV w g:=by
  cases L with
  |cons p q=>
   cases q with
   |cons Q G=>
    cases G;exact⟨_,_,rfl,p,Q⟩
 refine AO ?_ (by show 2<=sizeLine;decide);have I2:Inv X qp σ H1 {s1 with heap:=s1.heap.push {cls:=.type "tuple",data:=.seq [c,g].toArray} }:=I1.kept (t':=s1.toks) λb o e=>Ad _ e;rw[hw];refine Aa<|Ac ?_;show wpAny (KB X.prog X.w) X.A (do rule "assign.swapped-stores";let items <-unpackItems (.ref s1.heap.objs.size) 2 none;assignInOrder [λv=>bindName X.env y v,λv=>bindName X.env x v] items.reverse;pure Flow.next) _ _ _;refine Aa<|BR<|Aa<|unpackItems_tuple (items:=#[c,g]) (I.ok.hd z) (IsTup.new s1.heap _) λh' E=>?_;have J:=I2.kept (h':=h') (t':=s1.toks) λb o e=>E b o (Av<|Ak e) e;show wpAny _ _ (assignInOrder [λv=>bindName X.env y v,λv=>bindName X.env x v] [g,c] >>= λ_=>pure Flow.next) _ _ _;refine Aa<|DJ<|wpAny_bindName<|TM J l B (.inl r) u (λs2 S=>?_)<|.inr r;refine DJ<|wpAny_bindName<|TM S l hi (.inl m) P (λs3 K=>FJ (Ac ?_))<|.inr m;rw[List.set_comm _ _ (Bt f)]at K;exact⟨_,H1,K,n⟩
variable {body:List W1}
def oY(c:TT)(tb:TS):TS:=λD σ H=>∃W:Nat->St->Hp->Prop,(∃m,W m σ H)/\∀m σ H,W m σ H ->
 c σ H λb H1=>if b=true then ∃N:St->Hp->Prop,(∀σ' H',N σ' H'->∃a,a<m/\W a σ' H')/\tb {D with nx:=N,ct:=N,bk:=D.nx} σ H1 else D.nx σ H1
def vA{tb:TS}(d:PassesOwn (KB X.prog X.w) X.A X.env X.xe)(l:PT X c tc)(m:KO X body tb):PS X (.While c body [] pos) (oY tc tb):=by
 intro qp s σ H D I h;obtain⟨W,⟨m0,K⟩,turn⟩:=h;refine wpAny_While<|codeAny_whileLoop (λn s'=>∃σ' H',Inv X qp σ' H' s'/\W n σ' H') ?_ m0 ⟨σ,H,I,K⟩;rintro n s1 ⟨σ1,H1,L,M⟩;refine B6 d<|HC (l qp s1 σ1 H1 _ L<|turn n σ1 H1 M) ?_;rintro b s2 ⟨x,y,e⟩
 cases b with
 |true=>
  obtain⟨N,E,e⟩:=e;rw[if_pos rfl];refine B6 d<|HC (m qp s2 σ1 x _ y e) λf s3 g=>?_
  cases f with
  |next=>
   obtain⟨σ3,a,i,j⟩:=g;obtain⟨o,hm,u⟩:=E σ3 a j;exact⟨o,hm,σ3,a,i,u⟩
  |cont=>
   obtain⟨σ3,a,i,j⟩:=g;obtain⟨o,hm,u⟩:=E σ3 a j;exact⟨o,hm,σ3,a,i,u⟩
  |brk=>exact g
  |ret v=>exact g
 |false=>
  rw[if_neg AV];exact Dh ⟨σ1,x,y,e⟩
structure It where
 go:Nat->Hp->Prop
 yld:Nat->Hp->V->Hp->Prop
 stop:Nat->Hp->Prop
def Kb(X:Cx)(qp:List (Addr×Obj))(H:Hp)(b:Addr):Prop:=H b=none/\b≠X.env.locals/\b∉X.fs/\(b∈X.ex\/X.s₀.heap.objs.size<=b)/\(∀x c,X.env.cells.lookup x=some c->c≠b)/\∀p∈X.pn++qp,p.1≠b
def Inv.fpOk(I:Inv X qp σ H s)(d:s.heap.objs.size<=b)(hn:H' b=none):Kb X qp H' b:=by
 refine⟨hn,CS<|AC I.lt d,I.nofs d,.inr<|AA I.sz d,λx c e z=>?_,λp a z=>?_⟩
 ·obtain⟨v,q⟩:=I.cell x c e;exact absurd (AC q.lt (by rw[z];exact d))<|AL _
 exact absurd (AC (Ak (I.pin p a).1) (by rw[z];exact d))<|AL _
structure Turn(P:SZ)(w:World)(K:Ab)(tg:Pv)(J:It)(fp:List Addr)(it:Addr)(tn:Nat->P3->Prop):Prop where
 mem:it∈fp
 obj:∀i h,tn i h->∀b∈fp,∃o,h.get? b=some o/\∀v,o.data≠.cell v
 keep:∀i h h',tn i h->(∀b∈fp,∀o,h.get? b=some o->h'.get? b=some o)->tn i h'
 item:∀(X:Cx),X.prog=P->X.w=w->X.K=K->X.calm=true->∀(i:Nat) (qp:List (Addr×Obj)) (s:Shared) (σ:St) (H:Hp) (E:Qqa),Inv X qp σ H s->(∀b∈fp,Kb X qp H b)->tn i s.heap->J.go i H ->
  wpAny (KB P w) X.A (pyNext (.ref it)) (λr s1=>∃u,r=some u /\
   wpAny (KB P w) X.A (letOwnedTupleGo tg (.ref it) u) (λ_ s2=>∃x H',Inv X qp σ H' s2/\RelV x u/\J.yld i H x H'/\tn (i+1) s2.heap/\∀b∈fp,H' b=none) E s1) E s
 done:∀(X:Cx),X.prog=P->X.w=w->X.K=K->X.calm=true->∀(i:Nat) (qp:List (Addr×Obj)) (s:Shared) (σ:St) (H:Hp) (E:Qqa),Inv X qp σ H s->(∀b∈fp,Kb X qp H b)->tn i s.heap->J.stop i H ->
  wpAny (KB P w) X.A (pyNext (.ref it)) (λr s1=>r=none/\Inv X qp σ H s1) E s
 self:∀(A:Around) (i:Nat) (s:Shared) (Q:Qqa) (E:Qqa),tn i s.heap->Q (.ref it) s->wpAny (KB P w) A (pyIter (.ref it)) Q E s
noncomputable abbrev TI:=St->Hp->(It->Hp->Prop)->Prop
def gU(X:Cx)(qp:List (Addr×Obj))(σ:St)(tg:Pv)(R:It->Hp->Prop)(d:IR)(s2:Shared):Prop:=∃(it:Addr) (a:List Addr) (c:Nat->P3->Prop) (J:It) (H':Hp),d=.ref it/\Inv X qp σ H' s2/\Turn X.prog X.w X.K tg J a it c/\c 0 s2.heap/\(∀b∈a,Kb X qp H' b)/\R J H'
def PI(X:Cx)(tg iter:Pv)(d:TI):Prop:=
 ∀(qp:List (Addr×Obj)) (s:Shared) (σ:St) (H:Hp) (R:It->Hp->Prop),Inv X qp σ H s->d σ H R ->
  wpAny (KB X.prog X.w) X.A (Wp iter X.env) (λv s1=>wpAny (KB X.prog X.w) X.A (pyIter v) (gU X qp σ tg R) X.xe s1) X.xe s
def QC{o:Obj}{n:String}{vs:Array IR}{Q:Unit->Shared->Prop}(f:s.heap.get? it=some o)(l:o.cls=.type n)(hd:o.data=.fields vs)(hn:["enumerate","zip","dict_itemiterator","dict_reverseitemiterator","odict_iterator","itertools.zip_longest","itertools.pairwise"].contains n=false) (d:Q () s):wpAny M A (letOwnedTupleGo tg (.ref it) u) Q E s:=by
 unfold letOwnedTupleGo;cases tg<;>first
  |exact Ac d
  |(cases u<;>first
    |exact Ac d
    |(refine Aa (wpAny_load f ?_);rw[l,hd];show wpAny M A (if(["enumerate","zip","dict_itemiterator","dict_reverseitemiterator","odict_iterator","itertools.zip_longest","itertools.pairwise"].contains n&&vs[0]?==some (rawInt _))=true then _ else _) Q E s;rw[if_neg (by intro h;rw[hn,Bool.false_and]at h;cases h)];exact Ac d))
def YB(K:Ab)(a:Addr):It:=⟨λi H=>∃xs x,JL K H a xs/\xs[i]?=some x,λi H x H'=>H'=H/\∀xs,JL K H a xs->xs[i]?=some x,λi H=>∃xs,JL K H a xs/\xs.length<=i⟩
def YA(K:Ab)(a:Addr):It:=⟨λi H=>∃xs x,IK K H a xs/\xs[i]?=some x,λi H x H'=>H'=H/\∀xs,IK K H a xs->xs[i]?=some x,λi H=>∃xs,IK K H a xs/\xs.length<=i⟩
def UJ(lo:Int)(n:Nat):It:=⟨λi _=>i<n,λi H x H'=>H'=H/\x=.int (lo+i),λi _=>n<=i⟩
def zlM(a it:Addr):Turn P w K tg (YB K a) [it] it (λi h=>h.IsListIter it a i) where
 mem:=by simp
 obj:=λi h st b g=>by
  have e:b=it:=by simpa using g
  subst e;obtain⟨o,e,c,d⟩:=st;exact⟨o,e,λv z=>by rw[d]at z;cases z⟩
 keep:=λi h h' st k=>st.at λo e=>k it (by simp) o e
 item:=by intro X y hw A m i qp s σ H E I hf st L;subst y hw A;obtain⟨xs,x,n,M⟩:=L;obtain⟨N,Q,p,q⟩:=I.list n;obtain⟨u,r,B⟩:=Q.get M;obtain⟨f0,f1,f2,f,f4,l⟩:=hf it (by simp);refine Cp st p.isList (x:=u) (by simpa using r) λh' j sb=>?_;have C:Inv X qp σ H {s with heap:=h'}:=I.turned (t':=s.toks) (λb o g e=>(sb.2 b g).trans e) f0 f1 f f4 l;obtain⟨o,e,c,d⟩:=id j;exact⟨u,rfl,QC (s:={s with heap:=h'}) e c d (by decide) ⟨x,H,C,B,⟨rfl,λJ F=>by rw[I.list_inj F n];exact M⟩,j,λb g=>(hf b g).1⟩⟩
 done:=by intro X y hw A m i qp s σ H E I hf st L;subst y hw A;obtain⟨xs,n,M⟩:=L;obtain⟨N,Q,p,q⟩:=I.list n;obtain⟨f0,f1,f2,f,f4,l⟩:=hf it (by simp);have S:=Q.length;exact Cz (I.ok.hd m) st p.isList (by simp;omega) λh' G=>⟨rfl,I.turned (t':=s.toks) (λb o g e=>G b o g e) f0 f1 f f4 l⟩
 self:=λ_ _ _ _ _ st h=>wpAny_pyIter_listiter st h
def zjJ(a it:Addr):Turn P w K tg (YA K a) [it] it (λi h=>h.IsTupleIter it a i) where
 mem:=by simp
 obj:=λi h st b g=>by
  have e:b=it:=by simpa using g
  subst e;obtain⟨o,e,c,d⟩:=st;exact⟨o,e,λv z=>by rw[d]at z;cases z⟩
 keep:=λi h h' st k=>st.at λo e=>k it (by simp) o e
 item:=by intro X A hw L m i qp s σ H E I hf st M;subst A hw L;obtain⟨xs,x,y,N⟩:=M;obtain⟨j,Q,p,q⟩:=I.tuple y;obtain⟨u,r,B⟩:=Q.get N;obtain⟨f0,f1,f2,f,f4,l⟩:=hf it (by simp);refine Ee st (show s.heap.IsTuple a j.toArray from p) (x:=u) (by simpa using r) λh' n sb=>?_;have C:Inv X qp σ H {s with heap:=h'}:=I.turned (t':=s.toks) (λb o g e=>(sb.2 b g).trans e) f0 f1 f f4 l;obtain⟨o,e,c,d⟩:=id n;exact⟨u,rfl,QC (s:={s with heap:=h'}) e c d (by decide) ⟨x,H,C,B,⟨rfl,λJ F=>by rw[I.tuple_inj F y];exact N⟩,n,λb g=>(hf b g).1⟩⟩
 done:=by intro X A hw L m i qp s σ H E I hf st M;subst A hw L;obtain⟨xs,y,N⟩:=M;obtain⟨j,Q,p,q⟩:=I.tuple y;obtain⟨f0,f1,f2,f,f4,l⟩:=hf it (by simp);have S:=Q.length;exact Eu (I.ok.hd m) st (show s.heap.IsTuple a j.toArray from p) (by simp;omega) λh' G=>⟨rfl,I.turned (t':=s.toks) (λb o g e=>G b o g e) f0 f1 f f4 l⟩
 self:=λ_ _ _ _ _ st h=>wpAny_pyIter_tupleiter st h
def zjK(it:Addr)(lo:Int)(n:Nat):Turn P w K tg (UJ lo n) [it] it (λi h=>IsRangeIter h it (lo+(i:Nat)*1) ((n:Int)-(i:Nat)) 1) where
 mem:=by simp
 obj:=λi h st b a=>by
  have e:b=it:=by simpa using a
  subst e;exact⟨_,st,λv z=>by have L:Data.fields _=Data.cell v:=z;cases L⟩
 keep:=λi h h' st k=>k it (by simp) _ st
 item:=by intro X g hw j u i qp s σ H E I hf st x;subst g hw j;obtain⟨f0,f1,f2,y,f4,A⟩:=hf it (by simp);have W:=Walks.range (prog:=X.prog) (w:=X.w) (I.ok.hd u) it lo 1 n;refine W.item i s _ _ x st λv h' tk M c N=>?_;obtain⟨t,rfl⟩:=M;have Q:Inv X qp σ H {s with heap:=h',toks:=tk}:=I.turned (λb o a e=>N b o (by simpa using a) e) f0 f1 y f4 A;refine⟨_,rfl,QC (s:={s with heap:=h',toks:=tk}) (n:="range_iterator") c rfl rfl (by decide) ⟨.int<|lo+i,H,Q,⟨t,?_⟩,⟨rfl,rfl⟩,c,λb a=>(hf b a).1⟩⟩;rw[Int.mul_one]
 done:=by intro X g hw j u i qp s σ H E I hf st x;subst g hw j;obtain⟨f0,f1,f2,y,f4,A⟩:=hf it (by simp);exact wpAny_pyNext_range_end (I.ok.hd u) st (by have:n<=i:=x;omega) λh' d=>⟨rfl,I.turned (t':=s.toks) (λb o a e=>d b o a e) f0 f1 y f4 A⟩
 self:=λ_ _ _ _ _ st h=>wpAny_pyIter_rangeiter st h
variable {p:Pos}{l:Pv}{tl:TE}{fp:List Addr}
def jC(K:Ab)(tl:TE):TI:=λσ H R=>tl σ H λx H1=>∃a,x=.ref a/\(∃xs,JL K H1 a xs)/\R (YB K a) H1
def Yi(K:Ab)(tl:TE):TI:=λσ H R=>tl σ H λx H1=>∃a,x=.ref a/\(∃xs,IK K H1 a xs)/\R (YA K a) H1
def tR(d:PE X l tl):PI X tg l (jC X.K tl):=by
 intro qp s σ H R I h;refine HC (d qp s σ H _ I h) ?_;rintro v s1 ⟨x,H1,I1,c,g⟩;obtain⟨a,e,⟨xs,i⟩,q⟩:=g;subst e;cases c;obtain⟨j,u,p,w⟩:=I1.list i;refine C4 p.isList ?_;refine⟨s1.heap.objs.size,[s1.heap.objs.size],_,_,H1,rfl,I1.kept (t':=s1.toks) λb o e=>Ad _ e,zlM a _,⟨_,Ap _ rfl,rfl,rfl⟩,λb n=>?_,q⟩;have e:b=s1.heap.objs.size:=by simpa using n
 subst e;exact I1.fpOk (Ah _)<|I1.hok.fresh<|Ah _
def lH(d:PE X l tl):PI X tg l (Yi X.K tl):=by
 intro qp s σ H R I h;refine HC (d qp s σ H _ I h) ?_;rintro v s1 ⟨x,H1,I1,g,i⟩;obtain⟨a,e,⟨xs,j⟩,q⟩:=i;subst e;cases g;obtain⟨c,u,p,w⟩:=I1.tuple j;refine wpAny_pyIter_tuple (show s1.heap.IsTuple a c.toArray from p) ?_;refine⟨s1.heap.objs.size,[s1.heap.objs.size],_,_,H1,rfl,I1.kept (t':=s1.toks) λb o e=>Ad _ e,zjJ a _,⟨_,Ap _ rfl,rfl,rfl⟩,λb n=>?_,q⟩;have e:b=s1.heap.objs.size:=by simpa using n
 subst e;exact I1.fpOk (Ah _)<|I1.hok.fresh<|Ah _
def vD{R:It->Hp->Prop}{lo hi:Int}{t u v:Tok}{tk:Nat}(I:Inv X qp σ H s)(d:-(2^62)<=lo)(f:lo<2^62)(m:-(2^62)<=hi)(r:hi<2^62)(q:R (UJ lo (hi-lo).toNat) H):wpAny (KB X.prog X.w) X.A (pyIter<|.ref s.heap.objs.size) (gU X qp σ tg R) E {s with heap:=s.heap.push {cls:=.type "range",data:=.fields #[.int lo t,.int hi u,.int 1 v]},toks:=tk}:=by
 refine wpAny_pyIter_range (IsRange.new ..) (small_one d f m r) ?_;have I1:Inv X qp σ H {s with heap:=s.heap.push {cls:=.type "range",data:=.fields #[.int lo t,.int hi u,.int 1 v]},toks:=tk}:=I.kept λb o e=>Ad _ e;refine⟨(s.heap.push {cls:=.type "range",data:=.fields #[.int lo t,.int hi u,.int 1 v]}).objs.size,[(s.heap.push {cls:=.type "range",data:=.fields #[.int lo t,.int hi u,.int 1 v]}).objs.size],_,_,H,rfl,
  I1.kept (t':=tk) λb o e=>Ad _ e,zjK _ lo (hi-lo).toNat,?_,λb a=>?_,q⟩
 ·have c:lo+((0:Nat):Int)*1=lo:=by simp
  have g:(((hi-lo).toNat:Nat):Int)-((0:Nat):Int)=Builtin.Range.rangeSize lo hi 1:=by rw[rangeSize_one];split<;>omega
  show IsRangeIter _ _ (lo+((0:Nat):Int)*1) ((((hi-lo).toNat:Nat):Int)-((0:Nat):Int)) 1;rw[c,g];exact Ap _ rfl
 ·have e:b=(s.heap.push {cls:=.type "range",data:=.fields #[.int lo t,.int hi u,.int 1 v]}).objs.size:=by simpa using a
  subst e;exact I1.fpOk (Ah _)<|I1.hok.fresh<|Ah _
def jD(ta:TA):TI:=λσ H R=>ta σ H λa H1=>∃j:Int,a=[.int j]/\-(2^62)<=j/\j<2^62/\R (UJ 0 j.toNat) H1
def yI{a:Pv}{ta:TA}(d:Gl X "range")(hm:X.mg "range"=none)(f:PA X [a] ta)(m:starEach [a] X.env=[(false,Wp a X.env)]:=by rfl):PI X tg (.Call (.Name "range" p) [a] [] pos) (jD ta):=by
 intro qp s σ H R I h;refine Call_<|PH I d hm boot_range<|B1 (HC (f pos qp s σ H _ I h) ?_) m rfl;rintro us s1 ⟨n,H1,c,g,b⟩;obtain⟨j,e,b,i,q⟩:=b;subst e
 cases g with
 |cons r l=>
  cases l;obtain⟨t,rfl⟩:=r;exact call_range_1<|vD c (by omega) (by omega) b i<|by simpa using q
def XC(d:TI)(g:TG)(tb:TS):TS:=λD σ H=>d σ H λJ H1=>∃W:Nat->Nat->St->Hp->Prop,(∃m,W 0 m σ H1)/\∀i m σ H,W i m σ H ->
 (J.stop i H/\D.nx σ H)\/(J.go i H/\∃N:St->Hp->Prop,(∀σ' H',N σ' H'->∃a,a<m/\W (i+1) a σ' H')/\∀x H',J.yld i H x H'->g x σ H' λσ2 b=>tb {D with nx:=N,ct:=N,bk:=D.nx} σ2 b)
def QK(fp:List Addr)(h:P3):List (Addr×Obj):=fp.filterMap λb=>(h.get? b).map λo=>(b,o)
def Uc{o:Obj}(d:b∈fp)(e:h.get? b=some o):(b,o)∈QK fp h:=List.mem_filterMap.mpr ⟨b,d,by rw[e];rfl⟩
def xZ{p:Addr×Obj}(d:p∈QK fp h):p.1∈fp/\h.get? p.1=some p.2:=by
 obtain⟨b,a,e⟩:=List.mem_filterMap.mp d;cases q:h.get? b with
 |none=>rw[q]at e;cases e
 |some o=>
  rw[q]at e;have c:(b,o)=p:=Az e;subst c;exact⟨a,q⟩
def Inv.pinned{fp:List Addr}(I:Inv X qp σ H s)(hf:∀b∈fp,Kb X qp H b)(f:∀b∈fp,∃o,s.heap.get? b=some o/\∀v,o.data≠.cell v):Inv X (qp++QK fp s.heap) σ H s:=I.pins_of λp g=>(Os.mp g).elim (λz=>I.pin p (AJ _ z)) λz=>by obtain⟨a,e⟩:=xZ z;obtain⟨f0,f1,f2,_⟩:=hf p.1 a;obtain⟨o,c,d⟩:=f p.1 a;rw[e]at c;cases c;exact⟨e,f0,f1,f2,d⟩
def Inv.unpinned{pl:List (Addr×Obj)}(I:Inv X (qp++pl) σ H s):Inv X qp σ H s:=I.pins_of λp a=>I.pin p<|AJ _<|AK _ a
def lK{iter:Pv}{C:TI}{g:TG}{tb:TS}(z:PassesOwn (KB X.prog X.w) X.A X.env X.xe)(F:X.calm=true)(hi:PI X tg iter C)(Y:PG X tg g)(q:KO X body tb)(Z:∀x,foldedSetIterable iter X.env x=pure x:=by intro _;rfl):PS X (.For tg iter body [] pos) (XC C g tb):=by
 intro qp s σ H D I h;refine wpAny_For (HC (hi qp s σ H _ I h) λv s1 h1=>HC h1 λitv s2 h2=>?_) Z;obtain⟨it,fp,G,J,H2,e,I2,T,L,f2,W,⟨m0,w0⟩,turn⟩:=h2;subst e;have a:∀{H':Hp},(∀b∈fp,H' b=none)->∀b∈fp,Kb X qp H' b:=λhn b q=>⟨hn b q,(f2 b q).2⟩;refine codeAny_forLoop_any (λn s'=>∃i σ' H',Inv X qp σ' H' s'/\G i s'.heap/\(∀b∈fp,H' b=none)/\W i n σ' H') ?_ m0 ⟨0,σ,H2,I2,L,λb q=>(f2 b q).1,w0⟩;rintro n s3 ⟨i,σ3,K,S,p,y,w3⟩;rcases turn i n σ3 K w3 with⟨stop,qn⟩|⟨go,N,hN,step⟩
 ·refine B6 z (HC (T.done X rfl rfl rfl F i qp s3 σ3 K X.xe S (a y) p stop) ?_);rintro r s4 ⟨M,I4⟩;subst M;exact Dh ⟨σ3,K,I4,qn⟩
 ·refine B6 z (HC (T.item X rfl rfl rfl F i qp s3 σ3 K X.xe S (a y) p go) ?_);rintro r s4 ⟨u,M,h4⟩;subst M;refine B6 z (HC h4 ?_);rintro _ s5 ⟨x,U,I5,r5,y5,l,P⟩;have Q:=I5.pinned (a P) (T.obj _ _ l);refine B6 z (HC (Y _ s5 σ3 U x u _ Q r5 (step x U y5)) ?_);rintro _ s6 ⟨σ6,H6,I6,q6⟩;refine B6 z (HC (q _ s6 σ6 H6 _ I6 q6) λf B j=>?_);have again:∀{σ7:St}{c:Hp},Inv X (qp++QK fp s5.heap) σ7 c B->N σ7 c->∃m,m<n/\∃i σ' H',Inv X qp σ' H' B/\G i B.heap/\(∀b∈fp,H' b=none)/\W i m σ' H':=λ{σ7 c} I7 E=>by
   obtain⟨m',hm,w7⟩:=hN σ7 c E;refine⟨m',hm,i+1,σ7,c,I7.unpinned,T.keep _ _ _ l λb q o e=>(I7.pin (b,o) (AJ _ (AJ _ (Uc q e)))).1,λb q=>?_,w7⟩;obtain⟨o,e,d⟩:=T.obj _ _ l b q;exact(I7.pin (b,o) (AJ _ (AJ _ (Uc q e)))).2.1
  cases f with
  |next=>obtain⟨σ7,c,I7,E⟩:=j;exact again I7 E
  |cont=>obtain⟨σ7,c,I7,E⟩:=j;exact again I7 E
  |brk=>obtain⟨σ7,c,I7,j⟩:=j;exact⟨σ7,c,I7.unpinned,j⟩
  |ret v=>obtain⟨x7,σ7,c,I7,r7,j⟩:=j;exact⟨x7,σ7,c,I7.unpinned,r7,j⟩
noncomputable abbrev R2:=V->V->Hp->VK->Prop
def JU(X:Cx)(f:IR->IR->Sem IR)(r:R2):Prop:=
 ∀(qp:List (Addr×Obj)) (s:Shared) (σ:St) (H:Hp) (x y:V) (v u:IR) (Q:VK),Inv X qp σ H s->RelV x v->RelV y u->r x y H Q ->
  wpAny (KB X.prog X.w) X.A (f v u) (EP X qp σ Q) X.xe s
def Yw(X:Cx)(f:IR->Sem IR)(r:V->Hp->VK->Prop):Prop:=
 ∀(qp:List (Addr×Obj)) (s:Shared) (σ:St) (H:Hp) (x:V) (v:IR) (Q:VK),Inv X qp σ H s->RelV x v->r x H Q ->
  wpAny (KB X.prog X.w) X.A (f v) (EP X qp σ Q) X.xe s
def ML(X:Cx)(f:IR)(r:List V->Hp->VK->Prop):Prop:=
 ∀(qp:List (Addr×Obj)) (s:Shared) (σ:St) (H:Hp) (xs:List V) (us:List IR) (Q:VK),Inv X qp σ H s->Vals xs us->r xs H Q ->
  wpAny (KB X.prog X.w) X.A (call f us) (EP X qp σ Q) X.xe s
def Yx(X:Cx)(r:V->Hp->(Bool->Hp->Prop)->Prop):Prop:=
 ∀(qp:List (Addr×Obj)) (s:Shared) (σ:St) (H:Hp) (x:V) (v:IR) (Q:Bool->Hp->Prop),Inv X qp σ H s->RelV x v->r x H Q ->
  wpAny (KB X.prog X.w) X.A (truthy v) (TP X qp σ Q) X.xe s
def RF(r:R2)(ta tb:TE):TE:=λσ H Q=>ta σ H λx H1=>tb σ H1 λy a=>r x y a Q
def tUn(r:V->Hp->VK->Prop)(ta:TE):TE:=λσ H Q=>ta σ H λx H1=>r x H1 Q
def rI(C:Int->Int->Prop)(g:Int->Int->V):R2:=λx y H Q=>∃i j,x=.int i/\y=.int j/\C i j/\Q (g i j) H
def NB(g:Int->Int->V):R2:=λx y H Q=>∃i j,x=.int i/\y=.int j/\Q (g i j) H
def rU(g:Int->V):V->Hp->VK->Prop:=λx H Q=>∃i,x=.int i/\Q (g i) H
variable {f:IR->IR->Sem IR}{r:R2}
section
variable {a b:Pv}{tc:TE}
def Pl(m:PE X a ta)(q:PE X b tb){R:V->V->Hp->Prop}(I:Inv X qp σ H s)(h:ta σ H λx H1=>tb σ H1 λy d=>R x y d)  
  (hf:∀v u s2 x y d,Inv X qp σ d s2->RelV x v->RelV y u->R x y d->wpAny (KB X.prog X.w) X.A (f v u) Q X.xe s2):
  wpAny (KB X.prog X.w) X.A (Wp a X.env) (λv s₁=>wpAny (KB X.prog X.w) X.A (Wp b X.env) (λu s₂=>wpAny (KB X.prog X.w) X.A (f v u) Q X.xe s₂) X.xe s₁) X.xe s:=by
 refine HC (m qp s σ H _ I h) ?_;rintro v s1 ⟨x,H1,c,e,g⟩;refine HC (q qp s1 σ H1 _ c g) ?_;rintro u s2 ⟨y,d,i,j,l⟩;exact hf v u s2 x y d i e j l
def iB{op:Operator}(d:JU X (binaryOp op) r)(m:PE X a ta)(z:PE X b tb):PE X (.BinOp a op b pos) (RF r ta tb):=by intro qp s σ H Q I h;exact wpAny_BinOp<|Pl m z I h λv u s2 x y c e f g q=>d qp s2 σ c x y v u Q e f g q
def iC{op:UnaryOp}{r:V->Hp->VK->Prop}(d:Yw X (unaryOp op) r)(m:PE X a ta):PE X (.UnaryOp op a pos) (tUn r ta):=by intro qp s σ H Q I h;exact UnaryOp_<|HC (m qp s σ H _ I h) λv s1 ⟨x,H1,b,c,e⟩=>d qp s1 σ H1 x v Q b c e
def RO{C:Int->Int->Prop}{g:Int->Int->Int}(rule:∀(i j:Int) (t u:Tok) (s:Shared) (Q:Qqa) (E:Qqa),C i j->Q (.int (g i j) s.toks) {s with toks:=s.toks+1}->wpAny (KB X.prog X.w) X.A (f (.int i t)<|.int j u) Q E s):
  JU X f (rI C λi j=>.int (g i j)):=by
 intro qp s σ H x y v u Q I a b h;obtain⟨i,j,rfl,rfl,c,q⟩:=h;obtain⟨t,rfl⟩:=a;obtain⟨t',rfl⟩:=b;exact rule i j t t' s _ _ c ⟨.int<|g i j,H,I.tok _,⟨_,rfl⟩,q⟩
def RN{g:Int->Int->Int}(rule:∀(i j:Int) (t u:Tok) (s:Shared) (Q:Qqa) (E:Qqa),Q (.int (g i j) s.toks) {s with toks:=s.toks+1}->wpAny (KB X.prog X.w) X.A (f (.int i t)<|.int j u) Q E s):
  JU X f (NB λi j=>.int (g i j)):=by
 intro qp s σ H x y v u Q I a b h;obtain⟨i,j,rfl,rfl,q⟩:=h;obtain⟨t,rfl⟩:=a;obtain⟨t',rfl⟩:=b;exact rule i j t t' s _ _ ⟨.int<|g i j,H,I.tok _,⟨_,rfl⟩,q⟩
def ND{g:Int->Int->Bool}(rule:∀(i j:Int) (t u:Tok) (s:Shared) (Q:Qqa) (E:Qqa),Q (.bool<|g i j) s->wpAny (KB X.prog X.w) X.A (f (.int i t)<|.int j u) Q E s):
  JU X f (NB λi j=>.bl (g i j)):=by
 intro qp s σ H x y v u Q I a b h;obtain⟨i,j,rfl,rfl,q⟩:=h;obtain⟨t,rfl⟩:=a;obtain⟨t',rfl⟩:=b;exact rule i j t t' s _ _ ⟨.bl<|g i j,H,I,rfl,q⟩
def Pq(i j:Int):Prop:=(-(2^64)<i/\i<2^64)\/(-(2^64)<j/\j<2^64)
def Pq.ok{i j:Int}(h:Pq i j):IntMulOk i j:=by
 rcases h with⟨a,b⟩|⟨a,b⟩
 ·exact .of_left<|intBits_le_64 a b
 exact .of_right<|intBits_le_64 a b
def mX:JU X (binaryOp .Add) (NB λi j=>.int (i+j)):=RN λ_ _ _ _ _ _ _ q=>add_int q
def nE:JU X (binaryOp .Sub) (NB λi j=>.int (i-j)):=RN λ_ _ _ _ _ _ _ q=>sub_int q
def nC:JU X (binaryOp .Mult) (rI Pq λi j=>.int (i*j)):=RO λ_ _ _ _ _ _ _ a q=>mul_int q a.ok
def nB:JU X (binaryOp .Mod) (rI (λ_ j=>0<j) λi j=>.int (i % j)):=RO λi j _ _ _ _ _ a q=>by have b:(0:Int)<j:=a;exact mod_int' (by omega) (by rw[Int.fmod_eq_emod_of_nonneg i (by omega)];exact q)
def unI{f:IR->Sem IR}{g:Int->Int}(rule:∀(i:Int) (t:Tok) (s:Shared) (Q:Qqa) (E:Qqa),Q (.int (g i) s.toks) {s with toks:=s.toks+1}->wpAny (KB X.prog X.w) X.A (f<|.int i t) Q E s):
  Yw X f (rU λi=>.int (g i)):=by
 intro qp s σ H x v Q I a h;obtain⟨i,rfl,q⟩:=h;obtain⟨t,rfl⟩:=a;exact rule i t s _ _ ⟨.int<|g i,H,I.tok _,⟨_,rfl⟩,q⟩
def pA:Yw X (unaryOp .USub) (rU λi=>.int (-i)):=unI λ_ _ _ _ _ q=>neg_int q
end
variable {op':CmpOp}{r':R2}
section
variable {a b:Pv}{tc:TE}
def U4{Q:VK}{k d:Bool}(I:Inv X qp σ H s)(q:Q (.bl k) H)(e:k=d):EP X qp σ Q (.bool d) s:=by subst e;exact⟨.bl k,H,I,rfl,q⟩
def hX:JU X (Re .Lt) (NB λi j=>.bl (decide (i<j))):=ND λ_ _ _ _ _ _ _ q=>Gg q
def hV:JU X (Re .LtE) (NB λi j=>.bl (decide (i<=j))):=ND λ_ _ _ _ _ _ _ q=>le_int q
def hG:JU X (Re .Gt) (NB λi j=>.bl (decide (j<i))):=ND λ_ _ _ _ _ _ _ q=>gt_int q
def hE:JU X (Re .GtE) (NB λi j=>.bl (decide (j<=i))):=ND λ_ _ _ _ _ _ _ q=>ge_int q
def yB:JU X (Re .In) (λx y H Q=>∃i j,x=.str i/\y=.str j/\Q (.bl<|!(Builtin.Str.occurrences j i 0 j.length 1).isEmpty) H):=by intro qp s σ H x y v u Q I a b h;obtain⟨i,j,rfl,rfl,q⟩:=h;obtain⟨t,rfl⟩:=a;obtain⟨t',rfl⟩:=b;exact in_str<|U4 I q rfl
def qI:JU X (Re .IsNot) (λx y H Q=>y=.non/\Q (.bl<|!decide (x=.non)) H):=by
 intro qp s σ H x y v u Q I a b h;obtain⟨rfl,q⟩:=h;cases b;refine isnot_none_gen<|U4 I q ?_
 cases x<;>first
  |(cases a;rfl)
  |(obtain⟨t,rfl⟩:=a;rfl)
def zhP:JU X (Re .NotIn) (λx y H Q=>∃i j,x=.str i/\y=.str j/\Q (.bl<|!(!(Builtin.Str.occurrences j i 0 j.length 1).isEmpty)) H):=by intro qp s σ H x y v u Q I a b h;obtain⟨i,j,rfl,rfl,q⟩:=h;obtain⟨t,rfl⟩:=a;obtain⟨t',rfl⟩:=b;exact notIn_str<|U4 I q rfl
def tK(d:JU X (Re op) r)(m:PE X a ta)(z:PE X b tb)(hm:behindInMarks op b=false):PE X (.Compare a [op] [b] pos) (RF r ta tb):=by intro qp s σ H Q I h;exact wpAny_Compare1 (Pl m z I h λv u s2 x y c e f g q=>d qp s2 σ c x y v u Q e f g q) hm
def YT(t:TE):TT:=λσ H Q=>t σ H λx H'=>∃k,x=.bl k/\Q k H'
def sJ(d:JU X (Re op) r)(m:PE X a ta)(q:PE X b tb)(hm:behindInMarks op b=false):PT X (.Compare a [op] [b] pos) (YT<|RF r ta tb):=by
 intro qp s σ H Q I h;refine EJ (HC (m qp s σ H _ I h) λv s1 ⟨x,H1,f,g,i⟩=>HC (q qp s1 σ H1 _ f i) λu s2 ⟨y,j,l,n,o⟩=>
  HC (d qp s2 σ j x y v u _ l g n o) λc s3 ⟨z,p,w,A,k,e,E⟩=>?_) hm
 subst e;cases A;exact Bv ⟨p,w,E⟩
def Vs(r r':R2)(ta tb tc:TE):TE:=λσ H Q=>ta σ H λx H1=>tb σ H1 λy b=>r x y b λz a=>∃k,z=.bl k /\
 (if k=true then tc σ a λc e=>r' y c e Q else Q (.bl false) a)
def wA(q:JU X (Re op) r)(m:JU X (Re op') r')(B:PE X a ta)(C:PE X b tb)(F:PE X c tc)(hm:lastMarks [op,op'] [b,c]=false:=by with_unfolding_all rfl):PE X (.Compare a [op,op'] [b,c] pos) (Vs r r' ta tb tc):=by
 intro qp s σ H Q I h;refine Compare_chain (HC (B qp s σ H _ I h) λv s1 ⟨x,H1,l,n,o⟩=>chain_link (HC (C qp s1 σ H1 _ l o) λu s2 ⟨y,p,w,f,A⟩=>
  HC (q qp s2 σ p x y v u _ w n f A) λd s3 ⟨z,g,i,E,k,e,j⟩=>?_)) hm
 subst e;cases E;refine Bv ?_;cases k with
 |false=>exact ite_ff ⟨.bl false,g,i,rfl,j⟩
 |true=>exact ite_tt<|chain_last<|HC (F qp s3 σ g _ i j) λK s4 ⟨L,M,N,P,G⟩=>m qp s4 σ M y L u K Q N f P G
def vC(q:JU X (Re op) r)(m:JU X (Re op') r')(B:PE X a ta)(C:PE X b tb)(F:PE X c tc)(hm:lastMarks [op,op'] [b,c]=false:=by with_unfolding_all rfl):PT X (.Compare a [op,op'] [b,c] pos) (YT<|Vs r r' ta tb tc):=by
 intro qp s σ H Q I h;refine isTrue_chain (HC (B qp s σ H _ I h) λv s1 ⟨x,H1,l,n,o⟩=>test_link (HC (C qp s1 σ H1 _ l o) λu s2 ⟨y,p,w,f,A⟩=>
  HC (q qp s2 σ p x y v u _ w n f A) λd s3 ⟨z,g,i,E,k,e,j⟩=>?_)) hm
 subst e;cases E;refine Bv ?_;cases k with
 |false=>
  obtain⟨k',K,L⟩:=j;cases K;exact ite_ff ⟨g,i,L⟩
 |true=>
  refine ite_tt<|test_last<|HC (F qp s3 σ g _ i j) λM s4 ⟨N,P,G,J,S⟩=>HC (m qp s4 σ P y N u M _ G f J S) ?_;rintro d' s5 ⟨z2,T,U,W,k2,Y,Z⟩;subst Y;cases W;exact Bv ⟨T,U,Z⟩
def R0(K:Ab)(x:V)(H:Hp)(k:Bool):Prop:=
 match x with
 |.non=>k=false
 |.bl b=>k=b
 |.int i=>k=(i != 0)
 |.str y=>y.length<=sizeLine/\k=((y.length:Int) != 0)
 |.byt y=>y.size<=sizeLine/\k=((y.size:Int) != 0)
 |.ref p=>(∃xs,JL K H p xs/\k=!xs.isEmpty)\/(∃xs,IK K H p xs/\k=!xs.isEmpty)\/∃a,H p=some (.dK a)/\k=!a.isEmpty
 |_=>False
def zkR{kvs:List (κ×V)}{vs:List (κ×IR)}(r:KV kvs vs):(!vs.isEmpty)=!kvs.isEmpty:=by cases r<;>rfl
def dX{xs:List V}{its:List IR}(r:Vals xs its):(!its.toArray.isEmpty)=!xs.isEmpty:=by cases r<;>simp
def OT:(sizeLine:Nat)<2^63:=by rw[Cq];decide
def oZ:Yx X (λx H Q=>∃k,R0 X.K x H k/\Q k H):=by
 intro qp s σ H x v Q I f h;obtain⟨k,e,q⟩:=h;have A:=OT;have E:sizeLine=16777216:=Cq;cases x with
 |non=>
  cases f;have a:k=false:=e;subst a;exact truthy_none ⟨H,I,q⟩
 |bl b=>
  cases f;have a:k=b:=e;subst a;exact Bv ⟨H,I,q⟩
 |int i=>
  obtain⟨t,rfl⟩:=f;have a:k=(i != 0):=e;subst a;exact PySem.P.truthy_int ⟨H,I,q⟩
 |str y=>
  obtain⟨t,rfl⟩:=f;obtain⟨o,a⟩:y.length<=sizeLine/\k=((y.length:Int) != 0):=e;subst a;exact Fq (by omega) ⟨H,I.tok _,q⟩
 |byt y=>
  obtain⟨t,rfl⟩:=f;obtain⟨o,a⟩:y.size<=sizeLine/\k=((y.size:Int) != 0):=e;subst a;exact PySem.W.truthy_bytes (by omega) ⟨H,I.tok _,q⟩
 |ref p=>
  cases f;have a:(∃xs,JL X.K H p xs/\k=!xs.isEmpty)\/(∃xs,IK X.K H p xs/\k=!xs.isEmpty)\/∃c,H p=some (.dK c)/\k=!c.isEmpty:=e;rcases a with⟨xs,g,a⟩|⟨xs,g,a⟩|⟨c,g,a⟩
  ·subst a;obtain⟨l,r,pl,n⟩:=I.list g;have hlen:=r.length;exact wpAny_truthy_list pl.isList (by simp only[Ax];omega) ⟨H,I.tok _,by rw[dX r];exact q⟩
  ·subst a;obtain⟨l,r,pl,n⟩:=I.tuple g;have hlen:=r.length;exact truthy_tuple pl (by simp only[Ax];omega) ⟨H,I.tok _,by rw[dX r];exact q⟩
  subst a;obtain⟨n,u,j,r,m⟩:c.length<=sizeLine/\(p==sysModules)=false/\∃j,KV c j/\s.heap.DictOf (Jb X.prog X.w) p j:=I.hok p _ g;have hlen:c.length=j.length:=Bc r;exact wpAny_truthy_dict u m (by omega) ⟨H,I.tok _,by rw[zkR r];exact q⟩
 |_=>exact(show False from e).elim
def aQ(d:PE X a ta)(he:∀whole,isTrue a X.env whole=(do let v <-whole;standAt a.pos;holding [v] (truthy v))):
  PT X a (λσ H Q=>ta σ H λx H'=>∃k,R0 X.K x H' k/\Q k H'):=by
 intro qp s σ H Q I h;exact isTrue_plain (HC (d qp s σ H _ I h) λv s1 ⟨x,H1,b,c,e⟩=>oZ qp s1 σ H1 x v Q b c e)<|he _
def zks:JU X (binaryOp .Add) (λx y H Q=>∃i j,x=.str i/\y=.str j/\i.length+j.length<=sizeLine/\Q (.str<|i++j) H):=by intro qp s σ H x y v u Q I a b h;obtain⟨i,j,rfl,rfl,c,q⟩:=h;obtain⟨t,rfl⟩:=a;obtain⟨t',rfl⟩:=b;exact add_str (λt' tk=>⟨.str<|i++j,H,I.tok _,⟨_,rfl⟩,q⟩) c
def vals1{x:V}(r:Vals [x] us):∃u,us=[u]/\RelV x u:=by
 cases r with
 |cons a b=>cases b;exact⟨_,rfl,a⟩
def vals2{x:V}(r:Vals [x,y] us):∃u d,us=[u,d]/\RelV x u/\RelV y d:=by
 cases r with
 |cons a b=>
  cases b with
  |cons c e=>cases e;exact⟨_,_,rfl,a,c⟩
def zL(d:X.calm=true):ML X (.builtin "min") (λxs H Q=>∃i j,xs=[.int i,.int j]/\Q (.int<|if j<i then j else i) H):=by
 intro qp s σ H xs us Q I r h;obtain⟨i,j,rfl,q⟩:=h;obtain⟨u,a,rfl,⟨t,rfl⟩,⟨t',rfl⟩⟩:=vals2 r;refine min_two_ints (I.ok.hd d) λh' tk k=>⟨_,H,I.kept k,?_,q⟩;by_cases hj:j<i
 ·rw[if_pos hj,if_pos hj];exact⟨_,rfl⟩
 rw[if_neg hj,if_neg hj];exact⟨_,rfl⟩
def dI:ML X (.type "int") (λxs H Q=>(∃i,xs=[.int i]/\Q (.int i) H)\/∃k,xs=[.bl k]/\Q (.int<|if k then 1 else 0) H):=by
 intro qp s σ H xs us Q I r h;rcases h with⟨i,rfl,q⟩|⟨k,rfl,q⟩
 ·obtain⟨u,rfl,t,rfl⟩:=vals1 r;exact call_int_int ⟨.int i,H,I,⟨_,rfl⟩,q⟩
 obtain⟨u,rfl,a⟩:=vals1 r;cases a;exact call_int_bool ⟨.int<|if k then 1 else 0,H,I.tok _,⟨_,rfl⟩,q⟩
end
structure Lq(h:P3)(x dx C:Addr)(mA:Str->Option IR):Prop where
 obj:h.get? x=some (BQ C dx)
 ns:h.Ns1 dx mA
 ne:dx≠x
variable {dx:Addr}{mA:Str->Option IR}
def zH(n:h.Ns1 dx mA):∃d,h.get? dx=some d/\∀name,DE name d=some (mA name):=by
 obtain⟨o,es,i,c,hd,hk,_,hm⟩:=n;refine⟨o,c,λname=>?_⟩;have e:=hm name;unfold nsFind findBy at e;rw[<-Array.find?_toList]at e;unfold DE;rw[hd];dsimp only;split
 ·rename_i y q;rw[q]at e;exact congrArg some e
 ·rename_i q;rw[q]at e;have a:es.toList.any (·.refKey)=false:=by
   rw[FL];intro y f;obtain⟨z,t,b⟩:=hk y<|Array.mem_toList_iff.mp f;simp[DictEntry.refKey,b]
  have g:¬es.toList.any (·.refKey)=true:=by rw[a];exact AV
  rw[if_neg g];exact congrArg some e
variable {C:Addr}
def Lq.look{x:Addr}(I:Lq h x dx C mA):∃d,PySem.W.InstAt h x (BQ C dx) C (some d)/\∀name,DE name d=some (mA name):=
 let ⟨d,ho,hl⟩:=zH I.ns
 ⟨d,⟨I.obj,rfl,rfl,ho⟩,hl⟩
variable {pl:Sem Bool}{prog:SZ}{name:Str}{kw:List (Str×IR)}
section
variable {x f:Addr}{v:IR}
def get_map{expr:Bool}(X:K.In s.heap)(I:Lq s.heap x dx C mA)(m:CC K C name=true)(q:C5 K C=true)(z:Bk K (.ref C) name=some none) (B:mA name=some v) (d:F8 v=true) (h:Q v {s with toks:=s.toks+1}):
  wpAny (KB prog w) A (getAttr (.ref x) name expr) Q E s:=by
 obtain⟨b,J,a⟩:=I.look;exact PySem.W.get_value X J (Dx m).1 (PySem.W.findObj_own q z rfl<|by rw[a,B]) d h
def tZ{Q:IR×List IR->Shared->Prop}(X:K.In s.heap)(I:Lq s.heap x dx C mA)(d:CC K C name=true)(hf:Bk K (.ref C) name=some (some<|.ref f)) (m:Di K (.ref f)=true) (q:mA name=none) (h:Q (.ref f,[.ref x]) s):
  wpAny (KB prog w) A (getMethod (.ref x) name pl) Q E s:=by
 obtain⟨a,J,b⟩:=I.look;exact PySem.W.method_fn X J (Dx d).1 (Dx d).2 hf (beq_iff_eq.mp m) (by show(DE name a).map (·.isSome)=some false;rw[b,q];rfl) h
def rG{ns:List Str}{Q:Unit->Shared->Prop}(X:K.In s.heap)(I:Lq s.heap x dx C mA)(d:Bk K (.ref C) "__setattr__"=some (some<|.builtin "object.__setattr__")) (m:DW K C=true) (q:Ej K C name=some none) (z:C5 K C=true)(hw:Fp mA ns) (hsz:ns.length<=sizeLine)(h:∀h',Lq h' x dx C (λy=>if y=name then some v else mA y)->BB dx s.heap h'->Q () {s with heap:=h',toks:=s.toks+2}):
  wpAny (KB prog w) A (setAttr (.ref x) name v) Q E s:=by
 obtain⟨u,J,H⟩:=I.look;refine PySem.W.set_plain X J d<|PySem.W.osa_open (s:={s with toks:=s.toks+1}) (r:=none) X J m q λb=>?_;obtain⟨cd,l,f⟩:=PySem.W.any_some z;have n:s.heap.get? x=some ⟨.ref C,some dx,.plain,#[]⟩:=I.obj;refine Aa<|Ac<|Aa<|Aa<|wpAny_loadPart n<|Aa<|PySem.W.Looks.here (s:={s with toks:=s.toks+1}) (PySem.W.looks_clsIn X l) ?_;rw[f];refine Ac (a:=some dx)<|Aa<|Ac<|Aa ?_;refine wpAny_nsSet1 (s:={s with toks:=s.toks+1}) I.ns λh' c e=>?_;obtain⟨L,o,p,g,i,j⟩:=c.count<|PySem.Within.cons name v hw;refine Aa<|wpAny_lookBehind g (by rw[i];exact pastItsLine_dict (AA j (by rw[Au];omega))) ?_;exact Ac<|h _ ⟨(e.2 _<|Bt I.ne).trans I.obj,c,I.ne⟩ e
def wQ{R:Result->Shared->Prop}{vs:List IR}(X:K.In s.heap)(hm:Dj K C=true)(hi:Bk K (.ref C) "__init__"=some (some<|.ref f)) (hf:PySem.W.typeIn K (.ref f)=some (.type "function"))(h:codeAny (KB prog w) (A.under<|.builtin "type.__call__" ⟨.ref C::vs,kw⟩) (.call (.ref f) ⟨.ref (s.heap.objs.size+1)::vs,kw⟩) (PySem.W.InitBack (s.heap.objs.size+1) R)
   {s with heap:=(s.heap.push Bw).push (BQ C s.heap.objs.size)}):
  codeAny (KB prog w) A (.call (.ref C) ⟨vs,kw⟩) R s:=by
 obtain⟨a,g,d,t,os⟩:=s;exact PySem.W.make_core (PySem.W.makes_of X hm) (PySem.W.looks_findIn X hi) (λself=>PySem.W.bind_fn X self hf) (.inl rfl) h
end
def IP(f:Str)(v:V):List (Str×V)->List (Str×V)
 |[]=>[(f,v)]
 |(g,x)::r=>if g=f then(g,v)::r else(g,x)::IP f v r
theorem eY(f g:Str)(v:V):∀fs:List (Str×V),(IP f v fs).lookup g=if g=f then some v else fs.lookup g
 |[]=>by
  show Cr g [(f,v)]=_;by_cases h:g=f
  ·have d:(g==f)=true:=beq_iff_eq.mpr h;simp only[Cr,d,if_pos h]
  have d:(g==f)=false:=beq_eq_false_iff_ne.mpr h;simp only[Cr,d,if_neg h]
 |(k,x)::r=>by
  have a:=eY f g v r;rw[show IP f v ((k,x)::r)=(if k=f then(k,v)::r else(k,x)::IP f v r) from rfl]
  by_cases hk:k=f
  ·rw[if_pos hk]
   by_cases h:g=k
   ·have d:(g==k)=true:=beq_iff_eq.mpr h;simp only[Cr,d,if_pos (h.trans hk)]
   have d:(g==k)=false:=beq_eq_false_iff_ne.mpr h;simp only[Cr,d,if_neg (λe:g=f=>h (e.trans hk.symm))]
  ·rw[if_neg hk]
   by_cases h:g=k
   ·have d:(g==k)=true:=beq_iff_eq.mpr h;simp only[Cr,d,if_neg (λe:g=f=>hk (h.symm.trans e))]
   have d:(g==k)=false:=beq_eq_false_iff_ne.mpr h;simp only[Cr,d];exact a
theorem Wj(f:Str)(v:V):∀fs:List (Str×V),f∈(IP f v fs).map (·.1)/\∀g,g∈fs.map (·.1)->g∈(IP f v fs).map (·.1)
 |[]=>⟨by simp[IP],λg h=>by simp at h⟩
 |(k,x)::r=>by
  obtain⟨d,i2⟩:=Wj f v r;rw[show IP f v ((k,x)::r)=(if k=f then(k,v)::r else(k,x)::IP f v r) from rfl]
  by_cases hk:k=f
  ·rw[if_pos hk];subst hk;exact⟨by simp,λg h=>by simpa using h⟩
  ·rw[if_neg hk];refine⟨?_,λg h=>?_⟩
   ·rw[As];exact Al _ d
   ·rw[As]at h ⊢
    rcases On.mp h with e|e
    ·exact On.mpr<|.inl e
    exact Al _<|i2 g e
theorem eX(f:Str)(v:V):∀fs:List (Str×V),(IP f v fs).length<=fs.length+1
 |[]=>by simp[IP]
 |(k,x)::r=>by
  have d:=eX f v r;rw[show IP f v ((k,x)::r)=(if k=f then(k,v)::r else(k,x)::IP f v r) from rfl]
  by_cases hk:k=f
  ·rw[if_pos hk,Au,Au];omega
  rw[if_neg hk,Au,Au];omega
def Jh.some_of{o:Option IR}(r:Jh (some v) o):∃u,o=some u/\RelV v u:=by
 cases o with
 |none=>exact(show False from r).elim
 |some u=>exact⟨u,rfl,r⟩
def Jh.none_of{o:Option IR}(r:Jh none o):o=none:=by
 cases o with
 |none=>rfl
 |some u=>exact(show False from r).elim
def yX(r:RelV v u):F8 u=true:=by
 cases v with
 |non=>cases (show u=Bi from r);rfl
 |bl b=>cases (show u=E4 b from r);rfl
 |int i=>obtain⟨t,e⟩:=(show ∃t,u=DI i t from r);cases e;rfl
 |str x=>obtain⟨t,e⟩:=(show ∃t,u=Ei x t from r);cases e;rfl
 |byt b=>obtain⟨t,e⟩:=(show ∃t,u=GW b t from r);cases e;rfl
 |flt b=>obtain⟨t,e⟩:=(show ∃t,u=GX b t from r);cases e;rfl
 |ref a=>cases (show u=AE a from r);rfl
 |ty n=>cases (show u=Gh n from r);rfl
section
variable {fs fs':List (Str×V)}
def VL(m:Jz P w H h)(e:H a=some (.ins C dx fs)):∃mA,Lq h a dx C mA/\(∀f,Jh (fs.lookup f) (mA f))/\Fp mA (fs.map (·.1))/\fs.length<=1000/\H dx=some (.own a):=by
 obtain⟨d,z,ne,ob,mA,n,r,q⟩:=(show Jv P w H h a (.ins C dx fs) from m a _ e)
 exact⟨mA,⟨ob,n,ne⟩,r,q,z,d⟩
end
structure Lu(K:Ab)(C:Addr):Prop where
 pg:CC K C Fs=true
 hd:C5 K C=true
 po:DW K C=true
 sa:Bk K (.ref C) "__setattr__"=some (some (.builtin "object.__setattr__"))
def Lu.get(c:Lu K C)(f:Str):CC K C f=true:=c.pg
def Nk(K:Ab)(C:Addr)(f:Str):Prop:=Bk K (.ref C) f=some none
def Nk.taker{f:Str}(n:Nk K C f):Ej K C f=some none:=by unfold Ej;rw[show Bk K (.ref C) f=some none from n];rfl
structure Meth(K:Ab)(C:Addr)(m:Str)(f:Addr):Prop where
 at_:Bk K (.ref C) m=some (some (.ref f))
 fn:Di K (.ref f)=true
 kp:Bd K (.ref f)=true
variable {m:Str}{env:Env}
section
variable {fs:List (Str×V)} {f:Str}
def zk0{b:Bool}(I:Inv X qp σ H s)(e:H a=some (.ins C dx fs))(c:Lu X.K C)(n:Nk X.K C f)(l:fs.lookup f=some v)(h:∀u s',Inv X qp σ H s'->RelV v u->Q u s'):wpAny (KB X.prog X.w) A (getAttr (.ref a) f b) Q E s:=by
 obtain⟨mA,O,r,_,_,_⟩:=VL I.hok e;obtain⟨u,i,g⟩:=Jh.some_of (v:=v) (o:=mA f) (by rw[<-l];exact r f);exact get_map I.kIn O (c.get f) c.hd n i (yX g)<|h u _ (I.tok _) g
def dU{g:Addr}{Q:IR×List IR->Shared->Prop}(I:Inv X qp σ H s)(e:H a=some (.ins C dx fs))(c:Lu X.K C)(k:Meth X.K C m g)(l:fs.lookup m=none)(h:Q (.ref g,[.ref a]) s):wpAny (KB X.prog X.w) A (getMethod (.ref a) m pl) Q E s:=by
 obtain⟨mA,O,r,_,_,_⟩:=VL I.hok e;have b:mA m=none:=Jh.none_of (by rw[<-l];exact r m);exact tZ I.kIn O (c.get m) k.at_ k.fn b h
def zj0{Q:Unit->Shared->Prop}(I:Inv X qp σ H s)(e:H a=some (.ins C dx fs))(c:Lu X.K C)(n:Nk X.K C f)(B:fs.length<1000)(d:RelV y u)(h:∀s',Inv X qp σ (upd H a<|.ins C dx<|IP f y fs) s'->Q () s'):wpAny (KB X.prog X.w) A (setAttr (.ref a) f u) Q E s:=by
 obtain⟨mA,O,r,wi,_,i⟩:=VL I.hok e;have j:(fs.map (·.1)).length<=sizeLine:=by rw[Af,Cq];omega
 refine rG I.kIn O c.sa c.po n.taker c.hd wi j λh' O' sb=>h _ ?_;have hd:∃o,h'.get? dx=some o:=let ⟨o,_,_,e',_⟩:=O'.ns;⟨o,e'⟩;refine I.write (x:=a) (e:=dx) (by rw[e];exact CD) (.inr i) (λb q l z=>(sb.2 b l).trans z) hd ?_;refine⟨by rw[HW O.ne];exact i,?_,O.ne,O'.obj,_,O'.ns,λg=>?_,λg m=>?_⟩
 ·have:=eX f y fs;omega
 ·show Jh ((IP f y fs).lookup g) (if g=f then some u else mA g);rw[eY]
  by_cases q:g=f
  ·rw[if_pos q,if_pos q];exact d
  rw[if_neg q,if_neg q];exact r g
 ·by_cases q:g=f
  ·rw[q];exact(Wj f y fs).1
  refine(Wj f y fs).2 g<|wi g λz=>m ?_;show(if g=f then some u else mA g)=none;rw[if_neg q];exact z
def Inv.made(I:Inv X qp σ H s):Inv X qp σ (upd (upd H s.heap.objs.size<|.own<|s.heap.objs.size+1) (s.heap.objs.size+1)<|.ins C s.heap.objs.size [])
  {s with heap:=(s.heap.push Bw).push (BQ C s.heap.objs.size)}:=by
 have c:(s.heap.push Bw).get? s.heap.objs.size=some Bw:=Ap s.heap rfl;have f:((s.heap.push Bw).push<|BQ C s.heap.objs.size).get? (s.heap.objs.size+1)=some (BQ C s.heap.objs.size):=by
  have:=Ap (s.heap.push Bw) (o:=BQ C s.heap.objs.size) rfl
  rwa [A8]at this
 have g:(s.heap.push Bw).Ns s.heap.objs.size (λ_=>none):=⟨Bw,#[],_,c,rfl,(λe he=>absurd he (by simp)),λ_=>rfl⟩
 have I1:=I.laid (a:=s.heap.objs.size) (o:=.own (s.heap.objs.size+1)) (h':=s.heap.push Bw) (t':=s.toks) (λb u q=>Ad _ q) (Ah _) ⟨_,c⟩;refine I1.laid (a:=s.heap.objs.size+1) (o:=.ins C s.heap.objs.size []) (t':=s.toks) (λb u q=>Ad _ q) (D3<|A8 _ _) ?_;have ne:s.heap.objs.size≠s.heap.objs.size+1:=Av<|Cc _;refine⟨by rw[HW ne,Lc],A0 _,ne,f,λ_=>none,(Heap.Ns1.of_empty g).at λo q=>Ad _ q,λ_=>CD,λy h=>absurd rfl h⟩
def oH{f:Str}(d:attributeBase e f env (Wp e env)=Wp e env)(h:wpAny (KB prog w) A (Wp e env) (λo s₁=>wpAny (KB prog w) A (getAttr o f true) Q E s₁) E s):wpAny (KB prog w) A (Wp (.Attribute e f pos) env) Q E s:=
 Attribute_any_ h (by rw[arm_eval_Attribute,d])
end
def XD(K:Ab)(ta:TE)(f:Str):TE:=λσ H Q=>ta σ H λx H1=>∃a C dx fs v,x=.ref a/\H1 a=some (.ins C dx fs)/\Lu K C/\Nk K C f/\fs.lookup f=some v/\Q v H1
def XN(K:Ab)(ta d:TE)(f:Str):TS:=λD σ H=>d σ H λy H1=>ta σ H1 λx b=>∃a C dx fs,x=.ref a/\b a=some (.ins C dx fs)/\Lu K C/\Nk K C f/\fs.length<1000 /\
 D.nx σ (upd b a<|.ins C dx<|IP f y fs)
variable {value:Pv}{tpos:Pos}{tv:TE}
section
variable {o:Pv}{f:Str}
def nN(he:PE X e ta)(d:attributeBase e f X.env (Wp e X.env)=Wp e X.env):PE X (.Attribute e f pos) (XD X.K ta f):=by intro qp s σ H Q I h;refine oH d<|HC (he qp s σ H _ I h) ?_;rintro u s1 ⟨x,H1,b,g,a,C,dx,fs,v,ex,i,c,n,l,q⟩;subst ex;obtain rfl:u=AE a:=g;exact zk0 b i c n l λo s2 j m=>⟨v,H1,j,m,q⟩
def lJ(d:PE X o ta)(z:PE X value tv)(B:swapsWith value (some<|.Attribute o f pos') pos.line X.env=pure false):PS X (.Assign [.Attribute o f pos'] value pos) (XN X.K ta tv f):=by intro qp s σ H D I h;refine plainObj_wpAny_Assign_Attribute (HC (z qp s σ H _ I h) λu s1 ⟨y,H1,b,e,q⟩=>HC (d qp s1 σ H1 _ b q) ?_) B;rintro g s2 ⟨x,v,i,j,a,C,dx,fs,ex,m,c,n,l,p⟩;subst ex;obtain rfl:g=AE a:=j;exact zj0 i m c n l e λs3 r=>⟨σ,_,r,p⟩
end
structure HK(k:Nat)(A:Around):Prop where
 hd:A.handled=none
 dp:A.depth+3*k+5<recursionLimit
 un:A.units+16*k+200<cLine
 gd:A.guards=some []
def HK.mono{k:Nat}(r:HK k A)(h:j<=k):HK j A:=⟨r.hd,by have:=r.dp;omega,by have:=r.un;omega,r.gd⟩
def HK.deeper{k:Nat}{A:Around}(r:HK (k+1) A)(env:Env):HK k (A.deeper env):=⟨r.hd,by have:=r.dp;show A.depth+1+3*k+5<_;omega,by have:=r.un;show A.units+3+16*k+200<_;omega,r.gd⟩
def zkI:(A.under<|.builtin "type.__call__" ⟨.ref C::us,kw⟩).depth=A.depth+1:=by first|rfl|simp[D4,Code.weight,Code.isCreation,GU,Code.isCaller,Code.frames,Ft,guardIds]
def zkH:(A.under<|.builtin "type.__call__" ⟨.ref C::us,kw⟩).units=A.units+1:=by first|rfl|simp[D4,Code.cUnits,Code.frames,Ft]
def zjl:(A.under<|.builtin "type.__call__" ⟨.ref C::us,kw⟩).guards=A.guards:=by
 have h:(Code.builtin "type.__call__" ⟨.ref C::us,kw⟩).guards=[]:=by first|rfl|simp[Code.guards,GU,guardIds]
 dsimp only[D4];rw[h];cases A.guards<;>rfl
def HK.make{k:Nat}(r:HK (k+1) A)(C:Addr)(us:List IR)(kw:List (Str×IR)):HK k (A.under<|.builtin "type.__call__" ⟨.ref C::us,kw⟩):=⟨r.hd,by have:=r.dp;rw[zkI];omega,by have:=r.un;rw[zkH];omega,by rw[zjl];exact r.gd⟩
def HK.depth{k:Nat}{A:Around}(r:HK k A):A.depth<recursionLimit:=by have:=r.dp;omega
def HK.units{k:Nat}{A:Around}(r:HK k A):A.units+64<cLine:=by have:=r.un;omega
def RG:TA:=λ_ H Q=>Q [] H
def iO(ta:TE)(d:TA):TA:=λσ H Q=>ta σ H λx H1=>d σ H1 λxs a=>Q (x::xs) a
section
variable {t:TA}
def ZC:PA X [] RG:=λ_ _ _ _ H Q I h=>C6 ⟨[],H,I,.nil,h⟩
def VI(d:PE X e te)(q:PA X es t)(z:Qqb X.env e es:=by rfl):PA X (e::es) (iO te t):=by intro pos qp s σ H Q I h;rw[z];show wpAny _ _ (spliced ((false,Wp e X.env)::backTo pos (starEach es X.env))) _ _ s;refine Cm<|HC (d qp s σ H _ I h) ?_;rintro u s1 ⟨x,H1,a,b,c⟩;exact HC (q pos qp s1 σ H1 _ a c) λus s2 ⟨xs,f,g,i,j⟩=>⟨x::xs,f,g,.cons b i,j⟩
def Xu(t:TA):TE:=λσ H Q=>t σ H λxs H1=>xs.length<=sizeLine/\∀p,H1 p=none->Q (.ref p) (upd H1 p<|.tup xs)
def XA(t:TA):TE:=λσ H Q=>t σ H λxs H1=>xs.length<=sizeLine/\∀p,H1 p=none->Q (.ref p) (upd H1 p<|.lst xs)
def nU{x1}(h:PA X es t):PE X (.Tuple es x1 pos) (Xu t):=by intro qp s σ H Q I a;refine wpAny_Tuple_spliced<|HC (h pos qp s σ H _ I a) λus s1 ⟨xs,H1,I1,r,z,q⟩=>⟨by rw[<-r.length];exact z,?_⟩;have hf:H1 s1.heap.objs.size=none:=I1.hok.fresh<|Ah _;refine⟨.ref s1.heap.objs.size,upd H1 s1.heap.objs.size<|.tup xs,I1.laid (t':=s1.toks) (λb u e=>Ad _ e) (Ah _) ?_,rfl,q _ hf⟩;exact⟨z,us,r,⟨_,Ap _ rfl,rfl,rfl,_,rfl⟩⟩
def nP(h:PA X es t):PE X (.List es pos) (XA t):=by intro qp s σ H Q I a;refine wpAny_List_spliced<|HC (h pos qp s σ H _ I a) λus s1 ⟨xs,H1,I1,r,z,q⟩=>⟨by rw[<-r.length];exact z,?_⟩;have hf:H1 s1.heap.objs.size=none:=I1.hok.fresh<|Ah _;refine⟨.ref s1.heap.objs.size,upd H1 s1.heap.objs.size<|.lst xs,I1.laid (t':=s1.toks) (λb u e=>Ad _ e) (Ah _) ?_,rfl,q _ hf⟩;exact⟨z,us,0,r,Ap _ rfl⟩
end
noncomputable abbrev Sp:=List V->Hp->VK->XK->Prop
noncomputable abbrev NZ:=List Env->Hp->Shared->XK->Qqa
structure Ls(P:SZ)(w:World)(K:Ab)(mg:Str->Option IR)(base:P3)(A:Around)(outer:List Env)(s:Shared)(H:Hp):Prop where
 frames:A.frames=some outer
 mod:Mod K mg base
 bs:∀b o,base.get? b=some o->s.heap.get? b=some o/\H b=none
 bsz:base.objs.size<=s.heap.objs.size
 funs:s.heap.FunFrames base outer
 frf:∀b∈L1 outer,H b=none
 hok:Jz P w H s.heap
 bare:AllBare s.gens
def CE(outer:List Env)(P:SZ)(w:World)(H:Hp)(s:Shared)(Q:VK)(u:IR)(s':Shared):Prop:=∃v H',s'.os=s.os/\AllBare s'.gens/\Un (L1 outer) [] H H' s.heap s'.heap/\Jz P w H' s'.heap/\RelV v u/\Q v H'
def CR(CX:NZ)(outer:List Env)(P:SZ)(w:World)(H:Hp)(s:Shared)(Q:VK)(E:XK)(r:Result)(s':Shared):Prop:=
 match r with
 |.ok (.ret u)=>CE outer P w H s Q u s'
 |.ok _=>False
 |.error e=>CX outer H s E e s'
structure I0(P:SZ)(w:World)(K:Ab)(mg:Str->Option IR)(base:P3)(CX:NZ)(k:Nat)(f:Addr)(fd:FuncData)(ps:List Str)(sp:Sp):Prop where
 len:∀vs H Q E,sp vs H Q E->vs.length=ps.length
 run:∀(A:Around) (outer:List Env) (s:Shared) (H:Hp) (args:Args) (us:List IR) (vs:List V) (Q:VK) (E:XK),HK k A->Ls P w K mg base A outer s H->BindsTo s fd args (ps.zip us)->Vals vs us->sp vs H Q E ->
  codeAny (KB P w) A (.call (.ref f) args) (CR CX outer P w H s Q E) s
variable {mg:Str->Option IR}{base:P3}{outer:List Env}
def Ls.make(e:Ls P w K mg base A outer s H)(C:Addr)(us:List IR)(kw:List (Str×IR)):
  Ls P w K mg base (A.under<|.builtin "type.__call__" ⟨.ref C::us,kw⟩) outer s H:=⟨by first|exact e.frames|(simpa[D4,Code.envs,Ft,pushEnvs]using e.frames),e.mod,e.bs,e.bsz,e.funs,e.frf,e.hok,e.bare⟩
def Inv.env0(I:Inv X qp σ H s):Ls X.prog X.w X.K X.mg X.base X.A X.stack s H:=⟨I.ok.frames,I.ok.mod,I.bs,AA I.ok.bsz I.sz,I.stack,I.stkFree,I.hok,I.bare⟩
def Inv.after{Q:VK}(I:Inv X qp σ H s)(h:CE X.stack X.prog X.w H s Q u s'):EP X qp σ Q u s':=by obtain⟨v,H',os,bare,un,a,r,q⟩:=h;obtain⟨e,g,d,t,c⟩:=s';obtain rfl:c=s.os:=os;exact⟨v,H',I.call (h':=e) (g':=g) (d':=d) (t':=t) (ch:=[]) un a bare λb z=>absurd z (by simp),r,q⟩
def iN(sp:Sp)(d:List V)(E:XK)(t:TA):TE:=λσ H Q=>t σ H λa H1=>sp (a++d) H1 Q E
def UY(C:Addr)(m:Str)(sp:Sp)(d:List V)(E:XK)(ta:TE)(t:TA):TE:=λσ H Q=>ta σ H λx H1=>∃a dx fs,x=.ref a/\H1 a=some (.ins C dx fs)/\fs.lookup m=none /\
 t σ H1 λb c=>sp (x::(b++d)) c Q E
def iR(C:Addr)(sp:Sp)(d:List V)(E:XK)(t:TA):TE:=λσ H Q=>t σ H λa H1=>∀x dx,H1 x=none->H1 dx=none->dx≠x ->
 sp (.ref x::(a++d)) (upd (upd H1 dx<|.own x) x<|.ins C dx []) (λv b=>v=.non/\Q (.ref x) b) E
def Binds(K:Ab)(fd:FuncData)(ps:List Str)(ds:List IR):Prop:=∀(s:Shared) (us:List IR),K.In s.heap->(us++ds).length=ps.length->BindsTo s fd ⟨us,[]⟩ (ps.zip<|us++ds)
variable {fd:FuncData}{ps:List Str}
def Binds.all(h:∀us:List IR,us.length=ps.length->bindArgs fd ⟨us,[]⟩=pure (ps.zip us)):Binds K fd ps []:=λs us _ a=>by rw[Ao]at a ⊢;exact .of_eq<|h us a
def Passes(CX:NZ)(X:Cx)(E:XK):Prop:=∀(qp:List (Addr×Obj)) (σ:St) (H:Hp) (s:Shared) (e:IR) (s':Shared),Inv X qp σ H s->CX X.stack H s E e s'->X.xe e s'
variable {CX:NZ}{sp:Sp}{apos:Pos}
section
variable {k:Nat}{f:Addr}{dvs:List V}{ds:List IR}{E:XK}{o:Pv}{t:TA}
def Vl{Q:VK}{vs:List V}(F:I0 X.prog X.w X.K X.mg X.base CX k f fd ps sp)(d:HK k X.A)(q:Binds X.K fd ps ds)(hd:Vals dvs ds)(z:Passes CX X E)(I:Inv X qp σ H s) (r:Vals vs us) (h:sp (vs++dvs) H Q E):wpAny (KB X.prog X.w) X.A (call (.ref f) us) (EP X qp σ Q) X.xe s:=by
 have b:Vals (vs++dvs) (us++ds):=r.append hd;have c:(us++ds).length=ps.length:=by rw[<-b.length];exact F.len _ _ _ _ h
 refine wpAny_call<|D5 (F.run X.A X.stack s H ⟨us,[]⟩ (us++ds) (vs++dvs) Q E d I.env0 (q s us I.kIn c) b h) λr s' a=>?_
 cases r with
 |error e=>exact z qp σ H s e s' I a
 |ok fl=>
  cases fl with
  |ret u=>exact I.after a
  |next=>exact False.elim a
  |brk=>exact False.elim a
  |cont=>exact False.elim a
def tJ(F:I0 X.prog X.w X.K X.mg X.base CX k f fd ps sp)(B:HK k X.A)(G:Gl X x)(hm:X.mg x=some (.ref f))(hk:Bd X.K (.ref f)=true)(J:Binds X.K fd ps ds)(hd:Vals dvs ds)(S:Passes CX X E)(T:PA X (e::es) t) (d:(x==("__debug__":Str))=false:=by decide) (he:Qqb X.env e es:=by rfl) (z:Qqc pos es X.env:=by rfl):
  PE X (.Call (.Name x p) (e::es) [] pos) (iN sp dvs E t):=by
 intro qp s σ H Q I h;refine CT<|aC I G hm ?_ d;refine DK (h₀:=X.base) I.ok.mod.kin hk (HC (T pos qp s σ H _ I h) λus s1 ⟨a,H1,I1,r,q⟩=>⟨I1.kIn,?_⟩) he z;exact Vl F B J hd S I1 r q
def tM(he:PE X o ta)(c:Lu X.K C)(hm:Meth X.K C m f)(F:I0 X.prog X.w X.K X.mg X.base CX k f fd ps sp)(G:HK k X.A)(J:Binds X.K fd ps ds)(hd:Vals dvs ds)(S:Passes CX X E)(T:PA X (e::es) t)(d:Qqb X.env e es:=by rfl) (z:Qqc pos es X.env:=by rfl)(U:Wp (.Call (.Attribute o m apos) (e::es) [] pos) X.env=(do
   let B <-Wp o X.env
   standAt apos.atName
   let (f,first) <-holding [B] (getMethod B m pl)
   callWith pos f first (backTo pos<|starEach (e::es) X.env) (backToKw pos<|keywordEach [] X.env)):=by rfl):
  PE X (.Call (.Attribute o m apos) (e::es) [] pos) (UY C m sp dvs E ta t):=by
 intro qp s σ H Q I h;refine EK (pl:=pl) (HC (he qp s σ H _ I h) ?_) U;rintro u s1 ⟨x,H1,b,i,a,dx,fs,ex,j,l,q⟩;subst ex;obtain rfl:u=AE a:=i;refine dU b j c hm l ?_;refine DK (first:=[.ref a]) (h₀:=X.base) I.ok.mod.kin hm.kp (HC (T pos qp s1 σ H1 _ b q) λus s2 ⟨g,p,I2,r,n⟩=>⟨I2.kIn,?_⟩) d z;exact Vl (us:=.ref a::us) (vs:=.ref a::g) F G J hd S I2 (.cons rfl r) n
def wG(he:PE X o ta)(c:Lu X.K C)(hm:Meth X.K C m f)(F:I0 X.prog X.w X.K X.mg X.base CX k f fd ps sp)(z:HK k X.A)(B:Binds X.K fd ps ds)(hd:Vals dvs ds)(G:Passes CX X E)(J:Wp (.Call (.Attribute o m apos) [] [] pos) X.env=(do
   let d <-Wp o X.env
   standAt apos.atName
   let (f,first) <-holding [d] (getMethod d m pl)
   callWith pos f first (backTo pos<|starEach [] X.env) (backToKw pos<|keywordEach [] X.env)):=by rfl):
  PE X (.Call (.Attribute o m apos) [] [] pos) (UY C m sp dvs E ta RG):=by
 intro qp s σ H Q I h;refine EK (pl:=pl) (HC (he qp s σ H _ I h) ?_) J;rintro u s1 ⟨x,H1,I1,b,a,dx,fs,ex,e,l,q⟩;subst ex;obtain rfl:u=AE a:=b;refine dU I1 e c hm l ?_;exact PySem.W.callWith_K0 (first:=[.ref a]) I1.kIn hm.kp<|Vl (us:=[.ref a]) (vs:=[.ref a]) F z B hd G I1 (.cons rfl .nil) q
structure Mk(K:Ab)(C f:Addr):Prop where
 makes:Dj K C=true
 init:Bk K (.ref C) "__init__"=some (some (.ref f))
 fn:Di K (.ref f)=true
 kp:Bd K (.ref C)=true
def vH{Q:VK}{vs:List V}(M:Mk X.K C f)(F:I0 X.prog X.w X.K X.mg X.base CX k f fd ps sp)(d:HK (k+1) X.A)(q:Binds X.K fd ps ds)(hd:Vals dvs ds)(z:Passes CX X E) (I:Inv X qp σ H s) (r:Vals vs us)(h:∀x dx,H x=none->H dx=none->dx≠x->sp (.ref x::(vs++dvs)) (upd (upd H dx<|.own x) x<|.ins C dx []) (λv B=>v=.non/\Q (.ref x) B) E):
  wpAny (KB X.prog X.w) X.A (call (.ref C) us) (EP X qp σ Q) X.xe s:=by
 have b:=h (s.heap.objs.size+1) s.heap.objs.size (I.hok.fresh<|Cs _) (I.hok.fresh<|Ah _)<|Av<|Cc _;have I2:=Inv.made (C:=C) I;have c:Vals (V.ref (s.heap.objs.size+1)::(vs++dvs)) (AE (s.heap.objs.size+1)::(us++ds)):=.cons rfl<|r.append hd;have g:(AE (s.heap.objs.size+1)::us++ds).length=ps.length:=by have e:=c.length;rw[F.len _ _ _ _ b]at e;exact e.symm
 refine wpAny_call (wQ (f:=f) I.kIn M.makes M.init (beq_iff_eq.mp M.fn) (D5 (F.run _ X.stack _ _ ⟨AE (s.heap.objs.size+1)::us,[]⟩ (AE (s.heap.objs.size+1)::(us++ds)) _ _ E (d.make C us [])
  (I2.env0.make C us []) (q _ (AE (s.heap.objs.size+1)::us) I2.kIn g) c b) λr s' a=>?_))
 cases r with
 |error e=>exact z qp σ _ _ e s' I2 a
 |ok fl=>
  cases fl with
  |ret u=>
   obtain⟨v,H',i,j,ev,l⟩:=I2.after a;subst ev;exact⟨j,⟨V.ref<|s.heap.objs.size+1,H',i,rfl,l⟩⟩
  |next=>exact False.elim a
  |brk=>exact False.elim a
  |cont=>exact False.elim a
def tL(M:Mk X.K C f)(F:I0 X.prog X.w X.K X.mg X.base CX k f fd ps sp)(B:HK (k+1) X.A)(G:Gl X x)(hm:X.mg x=some (.ref C))(J:Binds X.K fd ps ds)(hd:Vals dvs ds)(S:Passes CX X E)(T:PA X (e::es) t) (d:(x==("__debug__":Str))=false:=by decide) (he:Qqb X.env e es:=by rfl) (z:Qqc pos es X.env:=by rfl):
  PE X (.Call (.Name x p) (e::es) [] pos) (iR C sp dvs E t):=by
 intro qp s σ H Q I h;refine CT<|aC I G hm ?_ d;refine DK (h₀:=X.base) I.ok.mod.kin M.kp (HC (T pos qp s σ H _ I h) λus s1 ⟨a,H1,I1,r,q⟩=>⟨I1.kIn,?_⟩) he z;exact vH M F B J hd S I1 r q
end
structure IQ(N P:List Str)(sc:Scope):Prop where
 kind:sc.kind=.function
 co:sc.isCoroutine=false
 gen:sc.isGenerator=false
 nd:N.Nodup
 pre:N.take P.length=P
 par:∀x∈P,sc.names.lookup x=some .local\/sc.names.lookup x=some .cell
 nofree:∀y∈sc.names,y.2≠.free
variable {kindOf:Str->Option NameKind}
theorem dH{kindOf:Str->Option NameKind}{x:Str}:∀{binds:List (Str×IR)} {m:Str->Option IR},(∀v,(x,v)∉binds)->bindL kindOf binds m x=m x
 |[],_,_=>rfl
 |(n,v)::r,m,h=>by
  unfold bindL;rw[dH λw hw=>h w (Al _ hw)];split
  ·have:x≠n:=by rintro rfl;exact h v Ar
   simp[this]
  rfl
theorem dF{kindOf:Str->Option NameKind}{x:Str}:∀{binds:List (Str×IR)} {m:Str->Option IR},(∀v,(x,v)∉binds)->bindC kindOf binds m x=m x
 |[],_,_=>rfl
 |(n,v)::r,m,h=>by
  unfold bindC;rw[dF λw hw=>h w (Al _ hw)];split
  ·rfl
  ·have:x≠n:=by rintro rfl;exact h v Ar
   simp[this]
theorem dG{kindOf:Str->Option NameKind}{x:Str}{v:IR}:∀{P:List Str}{vs:List IR}{i:Nat}{m:Str->Option IR},P.Nodup->P[i]?=some x->vs[i]?=some v->kindOf x=some .local ->
  bindL kindOf (P.zip vs) m x=some v
 |[],_,_,_,_,h,_,_=>by simp at h
 |_::_,[],_,_,_,_,h,_=>by simp at h
 |p::P,w::vs,0,m,z,d,q,hk=>by simp at d q;subst d;subst q;show bindL kindOf ((p,w)::P.zip vs) m p=_;unfold bindL;rw[dH λv B=>(List.nodup_cons.mp z).1 (CL B).1,if_pos hk];simp
 |p::P,w::vs,i+1,m,z,d,q,hk=>by show bindL kindOf ((p,w)::P.zip vs) m x=_;unfold bindL;exact dG (i:=i) (List.nodup_cons.mp z).2 (by simpa using d) (by simpa using q) hk
theorem dE{kindOf:Str->Option NameKind}{x:Str}{v:IR}:∀{P:List Str}{vs:List IR}{i:Nat}{m:Str->Option IR},P.Nodup->P[i]?=some x->vs[i]?=some v->kindOf x≠some .local ->
  bindC kindOf (P.zip vs) m x=some v
 |[],_,_,_,_,h,_,_=>by simp at h
 |_::_,[],_,_,_,_,h,_=>by simp at h
 |p::P,w::vs,0,m,z,d,q,hk=>by simp at d q;subst d;subst q;show bindC kindOf ((p,w)::P.zip vs) m p=_;unfold bindC;rw[dF λv B=>(List.nodup_cons.mp z).1 (CL B).1,if_neg hk];simp
 |p::P,w::vs,i+1,m,z,d,q,hk=>by show bindC kindOf ((p,w)::P.zip vs) m x=_;unfold bindC;exact dE (i:=i) (List.nodup_cons.mp z).2 (by simpa using d) (by simpa using q) hk
def start(N:List Str)(vs:List V):St:=vs.map some++BE (N.length-vs.length) none
def JK(CX:NZ)(P:SZ)(w:World)(K:Ab)(mg:Str->Option IR)(base:P3)(N:List Str)(qual:Str)(scope:Scope)(f:Addr)(cd:IR)(A:Around)(outer:List Env)(s:Shared)(H:Hp)(E:XK):Cx where
 prog:=P
 w:=w
 K:=K
 mg:=mg
 base:=base
 A:=A.deeper (envOfC qual scope s.heap.objs.size f cd)
 N:=N
 s₀:=s
 H₀:=H
 env:=envOfC qual scope s.heap.objs.size f cd
 outer:=outer
 stack:=envOfC qual scope s.heap.objs.size f cd::outer
 ex:=[]
 calm:=true
 fn:=λ_=>true
 pn:=[]
 xe:=λe s'=>wpAny (KB P w) (A.deeper<|envOfC qual scope s.heap.objs.size f cd) (leaving (envOfC qual scope s.heap.objs.size f cd) e) (λ_ a=>CX outer H s E e a) (λb a=>CX outer H s E b a) s'
def aF{sc:Scope}(h:sc.names.lookup x=some .cell):∃c,(cellsFrom n sc.names []).lookup x=some c:=by have q:=Ew sc.names n []<|.inl h;exact Option.isSome_iff_exists.mp q
variable {qual:Str}{scope:Scope}
def zB{f:Addr}{cd:IR}{s1:Shared}{E:XK}{vs:List V}(S:IQ N ps scope) (hd:A.handled=none) (d:Ls P w K mg base A outer s H) (B:vs.length=ps.length) (r:Vals vs us)(x:InCallC s s.heap.objs.size (bindL (envOfC qual scope s.heap.objs.size f cd).kindOf (ps.zip us) λ_=>none) (cellsFrom (s.heap.objs.size+1) scope.names []) (bindC (envOfC qual scope s.heap.objs.size f cd).kindOf (ps.zip us) λ_=>none) s1):
  Inv (JK CX P w K mg base N qual scope f cd A outer s H E) [] (start N vs) H s1:=by
 have M:ps.length<=N.length:=by have:=congrArg F3 S.pre;rw[Bq]at this;omega
 obtain⟨o,tk,rfl,hk⟩:=x.done;have j:∀b:Addr,b∉(JK CX P w K mg base N qual scope f cd A outer s H E).ex:=λb z=>absurd (show b∈([]:List Addr) from z) (by simp);refine⟨⟨d.mod,S.kind,rfl,rfl,Ah _,λy z c o g=>?_,λy hy=>?_,λy c _ h=>?_,λ_=>hd,Around.frames_deeper d.frames,.inr ⟨rfl,rfl⟩,λb z=>absurd z (j b),d.bs,d.bsz,λb _ _=>j b,λb z=>absurd z (j b),d.funs,d.frf⟩,
  rfl,d.bare,Un.kept hk,⟨_,x.toInCall.ns,λi y v o g F=>?_⟩,λy c h=>⟨_,x.cell y c h⟩,d.hok.fresh (Ah _),λy c h=>?_,λp l=>absurd (show p∈([]:List (Addr×Obj)) from l) (by simp),d.hok.kept hk,?_⟩
 ·exact name_of_addr x.apart (AW o)<|AW g
 ·have hy:scope.names.lookup y=some .cell\/scope.names.lookup y=some .free:=hy
  rcases hy with hy|hy
  ·exact aF hy
  exact absurd rfl<|S.nofree _<|AW hy
 ·exact Cy<|x.above y c<|AW h
 ·have C:i<vs.length:=by
   unfold start at g;by_cases C:i<vs.length
   ·exact C
   ·rw[AY (by simpa using C)]at g;rw[Cj]at g
    split at g<;>cases g
  have Q:vs[i]?=some v:=by
   unfold start at g;rw[Aj (by simpa using C),Ay]at g
   cases e:vs[i]? with
   |none=>rw[e]at g;cases g
   |some a=>rw[e]at g;cases g;rfl
  obtain⟨u,L,X⟩:=r.get Q;have l:ps[i]?=some y:=by rw[<-S.pre,List.getElem?_take_of_lt (by omega)];exact o
  have m:ps.Nodup:=by rw[<-S.pre];exact S.nd.sublist<|FM _ _
  refine⟨u,X,?_⟩;rcases S.par y (AF l)with k|k
  ·exact .inl ⟨k,dG m l L k⟩
  obtain⟨c,e⟩:=aF (n:=s.heap.objs.size+1) k;refine .inr ⟨.inl k,c,e,?_⟩;have q:=x.cell y c e;rw[dE m l L (by show scope.names.lookup y≠_;rw[k];decide)]at q;exact q
 ·exact d.hok.fresh<|Cy<|x.above y c<|AW h
 unfold start;show _=N.length;rw[AD,Af,BJ];omega
def iZ{k:Nat}{f:Addr}{name qual:Str}{params:Arguments}{body:List W1}{scope:Scope}{G kV doc pm d T U:IR}{an Y:Option Addr}{B:Array (Option IR)}   (Z:K.lookup f=some ⟨U,Y,.func<|Br name qual params body scope G kV doc pm an d T,B⟩) (F:Ca K d qual=true) (S:IQ N ps scope)(len:∀vs H Q E,sp vs H Q E->vs.length=ps.length)(z:∀(A:Around) (outer:List Env) (s:Shared) (H:Hp) (vs:List V) (Q:VK) (E:XK),HK k (A.deeper<|envOfC qual scope s.heap.objs.size f d)->sp vs H Q E ->
   ∃t,KO (JK CX P w K mg base N qual scope f d A outer s H E) body t/\t {nx:=λ_ H'=>Q .non H',rt:=Q} (start N vs) H):
  I0 P w K mg base CX (k+1) f (Br name qual params body scope G kV doc pm an d T) ps sp:=by
 refine⟨len,λA outer s H args us vs Q E i g hb r h=>?_⟩;have m:=len _ _ _ _ h;have l:K.In s.heap:=g.mod.kin.keeps λb o e=>(g.bs b o e).1;have lim:s.heap.NoLimit:=g.mod.nolimit.keeps λb o e=>(g.bs b o e).1;have a:∀y∈ps.zip us,scope.names.lookup y.1=some .local\/(scope.names.lookup y.1=some .cell/\((cellsFrom (s.heap.objs.size+1) scope.names []).lookup y.1).isSome=true):=by
  rintro⟨n,v⟩ p;rcases S.par n (CL p).1 with q|q
  ·exact .inl q
  exact .inr ⟨q,Ew _ _ _<|.inl q⟩
 refine codeAny_call_function i.depth (l _ _ Z) rfl S.co S.gen rfl (PySem.W.codeRec_of l F)<|hb _ _ _ _ ?_;refine wpAny_newFunctionEnv_cells S.kind a λenv he s1 x=>?_;subst he;refine⟨lim.keeps x.toInCall.keep,codeAny_func ?_⟩;obtain⟨t,C,L⟩:=z A outer s H vs Q E (i.deeper _) h;have I:Inv (JK CX P w K mg base N qual scope f d A outer s H E) [] (start N vs) H s1:=zB S i.hd g m r x;refine Bp (C [] s1 (start N vs) H _ I L) (λfl s' c=>?_) λe s' c=>c;have fin:∀{σ':St}{H':Hp}{v:V}{u:IR},Inv (JK CX P w K mg base N qual scope f d A outer s H E) [] σ' H' s'->RelV v u->Q v H'->CE outer P w H s Q u s':=
  λ{σ' H' v u} J j q=>⟨v,H',J.os,J.bare,J.base,J.hok,j,q⟩
 cases fl with
 |ret u=>
  obtain⟨v,σ',H',J,j,q⟩:=c;exact fin J j q
 |next=>
  obtain⟨σ',H',J,q⟩:=c;exact fin (v:=V.non) (u:=Bi) J rfl q
 |brk=>
  obtain⟨_,_,_,q⟩:=c;exact False.elim q
 |cont=>
  obtain⟨_,_,_,q⟩:=c;exact False.elim q
variable {id T:String}
section
variable {t:TA}{r:List V->Hp->VK->Prop}
def XF(r:List V->Hp->VK->Prop)(t:TA):TE:=λσ H Q=>t σ H λa H1=>r a H1 Q
def aO(z:ML X (.builtin id) r)(B:Gl X x)(hm:X.mg x=none)(F:UF x=some (.builtin id))(G:PA X (e::es) t)(hn:x≠"__name__":=by decide)(d:(x==("__debug__":Str))=false:=by decide)(he:Qqb X.env e es:=by rfl) (q:Qqc pos es X.env:=by rfl):PE X (.Call (.Name x p) (e::es) [] pos) (XF r t):=by
 intro qp s σ H Q I h;refine CT<|PH I B hm F ?_ hn d;exact PyProof.Rows.callWith_builtin1 (HC (G pos qp s σ H _ I h) λus s1 ⟨a,H1,b,c,f⟩=>z qp s1 σ H1 a us Q b c f) he q
def yG(z:ML X (.type T) r)(B:Gl X x)(hm:X.mg x=none)(F:UF x=some (.type T))(G:PA X (e::es) t)(hn:x≠"__name__":=by decide)(d:(x==("__debug__":Str))=false:=by decide)(he:Qqb X.env e es:=by rfl) (q:Qqc pos es X.env:=by rfl):PE X (.Call (.Name x p) (e::es) [] pos) (XF r t):=by
 intro qp s σ H Q I h;refine CT<|PH I B hm F ?_ hn d;exact B1 (HC (G pos qp s σ H _ I h) λus s1 ⟨a,H1,b,c,f⟩=>z qp s1 σ H1 a us Q b c f) he q
end
variable {d:V}
section
variable [DecidableEq κ]
def IB(kvs:List (κ×V))(k:κ):Option V:=(kvs.find? λa=>decide (a.1=k)).map (·.2)
def putK(kvs:List (κ×V))(k:κ)(v:V):List (κ×V):=if(kvs.any λa=>decide (a.1=k))=true then kvs.map (λa=>if a.1=k then(a.1,v)else a)else kvs++[(k,v)]
def VW{p:κ×V}{r:List (κ×V)}{k:κ}(e:p.1=k):IB (p::r) k=some p.2:=by simp[IB,AS,e]
def Wc{p:κ×V}{r:List (κ×V)}{k:κ}(e:¬p.1=k):IB (p::r) k=IB r k:=by simp[IB,AS,e]
theorem bQ(k:κ):∀kvs:List (κ×V),(kvs.any λq=>decide (q.1=k))=(IB kvs k).isSome
 |[]=>rfl
 |p::r=>by
  rw[BI];by_cases e:p.1=k
  ·simp only[VW e,decide_eq_true e,Bool.true_or,Fu]
  rw[Wc e,decide_eq_false e,Bool.false_or];exact bQ k r
def W6(kvs:List (κ×V))(k:κ)(v:V):(putK kvs k v).length<=kvs.length+1:=by
 unfold putK;split
 ·rw[Af];omega
 rw[AD,Au,Be];omega
def Jh.isSome_eq{o:Option V}{u:Option IR}(r:Jh o u):o.isSome=u.isSome:=by
 cases o with
 |none=>cases u with
  |none=>rfl
  |some _=>exact(show False from r).elim
 |some _=>cases u with
  |none=>exact(show False from r).elim
  |some _=>rfl
def Jh.getD{o:Option V}{u:Option IR}{d:V}{d':IR}(r:Jh o u)(q:RelV d d'):RelV (o.getD d) (u.getD d'):=by
 cases o with
 |none=>cases u with
  |none=>exact q
  |some _=>exact(show False from r).elim
 |some _=>cases u with
  |none=>exact(show False from r).elim
  |some _=>exact r
def KV.val{kvs:List (κ×V)}{vs:List (κ×IR)}(r:KV kvs vs)(k:κ):Jh (IB kvs k) (valueAt vs k):=by
 unfold KV at r
 induction r with
 |nil=>exact CD
 |@cons p q ps a h t d=>
  obtain⟨h1,f⟩:=h;by_cases e:p.1=k
  ·have c:q.1=k:=h1.symm.trans e;have b:valueAt (q::a) k=some q.2:=by simp[valueAt,AS,c]
   rw[VW e,b];exact f
  ·have c:¬q.1=k:=λz=>e<|h1.trans z;have b:valueAt (q::a) k=valueAt a k:=by simp[valueAt,AS,c]
   rw[Wc e,b];exact d
def KV.any{kvs:List (κ×V)}{vs:List (κ×IR)}(r:KV kvs vs)(k:κ):(kvs.any λq=>decide (q.1=k))=vs.any λq=>decide (q.1=k):=by
 unfold KV at r
 induction r with
 |nil=>rfl
 |cons h t a=>rw[BI,BI,a,h.1]
def KV.repl{kvs:List (κ×V)}{vs:List (κ×IR)}(r:KV kvs vs)(k:κ)(F:RelV y u):
  KV (kvs.map λB=>if B.1=k then(B.1,y)else B) (vs.map λB=>if B.1=k then(B.1,u)else B):=by
 unfold KV at r ⊢
 induction r with
 |nil=>exact .nil
 |@cons p q ps d h t b=>
  rw[As,As];refine .cons ?_ b;obtain⟨a,c⟩:=h;by_cases e:p.1=k
  ·rw[if_pos e,if_pos (a.symm.trans e)];exact⟨a,F⟩
  rw[if_neg e,if_neg (λz=>e (a.trans z))];exact⟨a,c⟩
def KV.put{kvs:List (κ×V)}{vs:List (κ×IR)}(r:KV kvs vs)(k:κ)(q:RelV y u):KV (putK kvs k y) (stored vs k u):=by
 unfold putK stored;rw[r.any k];by_cases e:(vs.any λa=>decide (a.1=k))=true
 ·rw[if_pos e,if_pos e];exact r.repl k q
 rw[if_neg e,if_neg e];exact GY r ⟨rfl,q⟩
def KV.length{kvs:List (κ×V)}{vs:List (κ×IR)}(r:KV kvs vs):kvs.length=vs.length:=Bc r
end
def OB{k:Key}(r:RelV (kV k) u):(Jb P w).is k u=true:=by
 cases k with
 |inl i=>obtain⟨t,e⟩:=(show ∃t,u=DI i t from r);subst e;exact zjk P w i t
 |inr x=>obtain⟨t,e⟩:=(show ∃t,u=Ei x t from r);subst e;exact zjj P w x t
theorem cU{P:SZ}{w:World}:∀{ks:List Key}{us:List IR},Vals (ks.map kV) us->ItemsAre (Jb P w) ks us
 |[],_,r=>by rw[Cd]at r;cases r;exact .nil
 |k::ks,_,r=>by
  rw[As]at r;cases r with
  |cons h t=>exact .cons (OB h)<|cU t
noncomputable abbrev KT (H:Hp):List (List Key×V)->List (List Key×Addr×IR)->Prop:=Paired λp q=>p.1=q.1/\H q.2.1=some (.tup<|p.1.map kV)/\RelV p.2 q.2.2
variable {xs:List (List Key×Addr×IR)}{kvs:List (List Key×V)}
def KT.val(r:KT H kvs xs)(k:List Key):Jh (IB kvs k) ((atKey xs k).map (·.2)):=by
 induction r with
 |nil=>exact CD
 |@cons p q ps a h t d=>
  obtain⟨h1,_,f⟩:=h;by_cases e:p.1=k
  ·have c:q.1=k:=h1.symm.trans e;have b:atKey (q::a) k=some q.2:=by simp[atKey,AS,c]
   rw[VW e,b];exact f
  ·have c:¬q.1=k:=λz=>e<|h1.trans z;have b:atKey (q::a) k=atKey a k:=by simp[atKey,AS,c]
   rw[Wc e,b];exact d
def KT.repl(r:KT H kvs xs)(k:List Key)(F:RelV y u):
  KT H (kvs.map λB=>if B.1=k then(B.1,y)else B) (xs.map<|putAt k u):=by
 induction r with
 |nil=>exact .nil
 |@cons p q ps f h t c=>
  rw[As,As];refine .cons ?_ c;obtain⟨a,b,d⟩:=h;unfold putAt;by_cases e:p.1=k
  ·rw[if_pos e,if_pos (a.symm.trans e)];exact⟨a,b,F⟩
  rw[if_neg e,if_neg (λz=>e (a.trans z))];exact⟨a,b,d⟩
def KT.put(r:KT H kvs xs)(k:List Key)(B:H b=some (.tup<|k.map kV))(z:RelV y u):
  KT H (putK kvs k y) (storedH xs k b u):=by
 have e:(kvs.any λa=>decide (a.1=k))=(atKey xs k).isSome:=by rw[bQ,(r.val k).isSome_eq,Bx]
 unfold putK storedH;rw[e];by_cases q:(atKey xs k).isSome=true
 ·rw[if_pos q,if_pos q];exact r.repl k z
 rw[if_neg q,if_neg q];exact GY r ⟨rfl,B,z⟩
def KT.keeps(r:KT H kvs xs)(B:∀b q,H b=some (.tup q)->H' b=some (.tup q)):KT H' kvs xs:=Paired.mapP r λ_ _ z=>⟨z.1,B _ _ z.2.1,z.2.2⟩
def YO{u:HO}(ok:Jz P w H h)(e:Rd H a u):Jv P w H h a u:=e.ok ok
def OF{kvs:List (Key×V)}(ok:Jz P w H h)(e:Rd H a (.dK kvs)):kvs.length<=sizeLine/\(a==sysModules)=false/\∃vs,KV kvs vs/\h.DictOf (Jb P w) a vs:=show Jv P w H h a (.dK kvs) from YO ok e
def kA{kvs:List (Key×V)}(ok:Jz P w H h)(e:H a=some (.dK kvs)):kvs.length<=sizeLine/\(a==sysModules)=false/\∃vs,KV kvs vs/\h.DictOf (Jb P w) a vs:=OF ok<|.inl e
def Nj{ks:List Key}(ok:Jz P w H h)(e:H a=some (.tup<|ks.map kV)):(tupleKind<|Jb P w).is h ks a:=by
 obtain⟨_,b,r,o,c,d,_,n,f⟩:=(show Jv P w H h a (.tup<|ks.map kV) from ok a _ e)
 exact⟨o,b.toArray,n,c,d,f,by simpa using cU r⟩
def Oy(ok:Jz P w H h)(e:Rd H a (.dT kvs)):kvs.length<=sizeLine/\(a==sysModules)=false /\
  ∃xs,KT H kvs xs/\h.DictOfH (tupleKind<|Jb P w) a xs:=by
 obtain⟨z,y,xs,r,o,es,c,d,f,g,i,j⟩:=(show Jv P w H h a (.dT kvs) from YO ok e)
 refine⟨z,y,xs,r,o,es,c,d,f,g,i,λx hx=>?_,j⟩;have all:∀{l:List (List Key×V)} {m:List (List Key×Addr×IR)},KT H l m->∀x∈m,(tupleKind<|Jb P w).is h x.1 x.2.1:=by
  intro l m q
  induction q with
  |nil=>intro x hx;exact nomatch hx
  |@cons p q ps s b t n=>
   intro x hx;rcases On.mp hx with e|hx
   ·subst e;exact Nj ok (by rw[<-b.1];exact b.2.1)
   exact n x hx
 exact all r x hx
def UQ(ok:Jz P w H h)(e:H a=some (.dT kvs)):kvs.length<=sizeLine/\(a==sysModules)=false /\
  ∃xs,KT H kvs xs/\h.DictOfH (tupleKind<|Jb P w) a xs:=Oy ok (.inl e)
def Ja(H:Hp)(a:Addr)(y:V)(r:Option V):Prop:=(∃kvs k,Rd H a (.dK kvs)/\y=kV k/\r=IB kvs k)\/∃kvs k b,Rd H a (.dT kvs)/\y=.ref b/\H b=some (.tup<|k.map kV)/\r=IB kvs k
def KS(H:Hp)(a:Addr)(y v:V)(H':Hp):Prop:=
 (∃kvs k,H a=some (.dK kvs)/\y=kV k/\kvs.length<sizeLine/\H'=upd H a (.dK<|putK kvs k v)) \/
 ∃kvs k b,H a=some (.dT kvs)/\y=.ref b/\H b=some (.tup<|k.map kV)/\kvs.length<sizeLine/\H'=upd H a (.dT<|putK kvs k v)
def Ja.k{H:Hp}{a:Addr}{kvs:List (Key×V)}{k:Key}(e:H a=some (.dK kvs)):Ja H a (kV k) (IB kvs k):=.inl ⟨kvs,k,.inl e,rfl,rfl⟩
def Ja.t{k:List Key}(e:H a=some (.dT kvs))(q:H b=some (.tup<|k.map kV)):Ja H a (.ref b) (IB kvs k):=.inr ⟨kvs,k,b,.inl e,rfl,q,rfl⟩
def KS.k{H:Hp}{a:Addr}{kvs:List (Key×V)}{k:Key}{v:V}(e:H a=some (.dK kvs))(q:kvs.length<sizeLine):KS H a (kV k) v (upd H a<|.dK<|putK kvs k v):=.inl ⟨kvs,k,e,rfl,q,rfl⟩
def KS.t{k:List Key}(e:H a=some (.dT kvs))(q:H b=some (.tup<|k.map kV))(z:kvs.length<sizeLine):
  KS H a (.ref b) v (upd H a<|.dT<|putK kvs k v):=.inr ⟨kvs,k,b,e,rfl,q,z,rfl⟩
section
variable {r:IR}{o:Option V}
def Inv.big(I:Inv X qp σ H s):sysModules<s.heap.objs.size:=by have h:UV<s.heap.objs.size:=(I.mod.glob.keeps I.bk).lt;exact B2 (by decide) h
def yR(F:A.units+1<cLine)(I:Inv X qp σ H s)(g:Ja H a y (some v))(B:RelV y u)(h:∀q s',Inv X qp σ H s'->RelV v q->Q q s'):
  wpAny (KB X.prog X.w) A (getItem (.ref a) u) Q E s:=by
 rcases g with⟨kvs,k,e,d,l⟩|⟨kvs,k,b,e,d,j,l⟩
 ·subst d;obtain⟨z,hd,m,rel,f⟩:=OF I.hok e;obtain⟨q,hw,c⟩:=Jh.some_of (v:=v) (o:=valueAt m k) (by rw[l];exact rel.val k);exact wpAny_getItem_of (OB B) f.mapOf hw<|h q _ (I.tok _) c
 ·subst d
  cases (show u=AE b from B)
  obtain⟨z,hd,xs,rel,f⟩:=Oy I.hok e;obtain⟨q,hw,c⟩:=Jh.some_of (v:=v) (o:=(atKey xs k).map (·.2)) (by rw[l];exact rel.val k);obtain⟨p,n,i⟩:=Option.map_eq_some_iff.mp hw;refine wpAny_getItem_heap (BK F) (Nj I.hok j) f n ?_;rw[i];exact h q _ (I.tok _) c
def Yp(F:A.units+1<cLine)(I:Inv X qp σ H s)(g:Ja H a y o)(B:RelV y u)(h:∀s',Inv X qp σ H s'->Q (.bool o.isSome) s'):
  wpAny (KB X.prog X.w) A (Re .In u<|.ref a) Q E s:=by
 rcases g with⟨kvs,k,e,c,l⟩|⟨kvs,k,b,e,c,f,l⟩
 ·subst c;obtain⟨z,hd,i,rel,d⟩:=OF I.hok e;refine wpAny_in_of (OB B) hd d.mapOf ?_;rw[<-(rel.val k).isSome_eq,<-l];exact h _<|I.tok _
 ·subst c
  cases (show u=AE b from B)
  obtain⟨z,hd,xs,rel,d⟩:=Oy I.hok e;refine wpAny_in_heap (BK F) (Nj I.hok f) hd d ?_;have q:=(rel.val k).isSome_eq;rw[Bx]at q;rw[<-q,<-l];exact h _<|I.tok _
def oU(F:A.units+1<cLine)(I:Inv X qp σ H s)(g:Ja H a y o)(B:RelV y u)(h:∀s',Inv X qp σ H s'->Q (.bool<|!o.isSome) s'):
  wpAny (KB X.prog X.w) A (Re .NotIn u<|.ref a) Q E s:=by
 rcases g with⟨kvs,k,e,c,l⟩|⟨kvs,k,b,e,c,f,l⟩
 ·subst c;obtain⟨z,hd,i,rel,d⟩:=OF I.hok e;refine wpAny_notIn_of (OB B) hd d.mapOf ?_;rw[<-(rel.val k).isSome_eq,<-l];exact h _<|I.tok _
 ·subst c
  cases (show u=AE b from B)
  obtain⟨z,hd,xs,rel,d⟩:=Oy I.hok e;refine wpAny_notIn_heap (BK F) (Nj I.hok f) hd d ?_;have q:=(rel.val k).isSome_eq;rw[Bx]at q;rw[<-q,<-l];exact h _<|I.tok _
def To{ob:HO}(I:Inv X qp σ H s)(B:Sd (H a))(F:BB a s.heap h')(he:∃q,h'.get? a=some q)(new:Jv X.prog X.w (upd H a ob) h' a ob):
  Inv X qp σ (upd H a ob) {s with heap:=h',toks:=t'}:=
 I.write (x:=a) (e:=a) B (.inl rfl) (λb q c z=>(F.2 b c).trans z) he new
def Vg{kvs:List (Key×V)}{vs:List (Key×IR)}(z:kvs.length<=sizeLine)(hd:(a==sysModules)=false)(rel:KV kvs vs)(q:h'.DictOf (Jb P w) a vs):
  Jv P w H' h' a (.dK kvs):=⟨z,hd,vs,rel,q⟩
def yS{Q:Unit->Shared->Prop}(G:A.units+1<cLine)(I:Inv X qp σ H s)(g:KS H a y v H')(B:RelV y u)(F:RelV v r)(h:∀s',Inv X qp σ H' s'->Q () s'):
  wpAny (KB X.prog X.w) A (setItem (.ref a) u r) Q E s:=by
 rcases g with⟨kvs,k,e,i,l,j⟩|⟨kvs,k,b,e,i,x,l,j⟩
 ·subst i j;obtain⟨z,hd,K,rel,m⟩:=kA I.hok e;have n:K.length<=sizeLine:=by rw[<-rel.length];exact z
  have o:(putK kvs k v).length<=sizeLine:=by have:=W6 kvs k v;omega
  refine wpAny_setItem_pairs (hsz:=n) (OB B) m λh' d p=>h _ ?_;have he:∃q,h'.get? a=some q:=let ⟨q,_,_,f,_⟩:=d;⟨q,f⟩;exact To I (by rw[e];exact CD) p he<|Vg o hd (rel.put k F) d
 ·subst i j
  cases (show u=AE b from B)
  obtain⟨z,hd,xs,rel,m⟩:=UQ I.hok e;have n:xs.length<=sizeLine:=by rw[<-Bc rel];exact z
  have o:(putK kvs k v).length<=sizeLine:=by have:=W6 kvs k v;omega
  refine wpAny_setItem_heap (hsz:=n) (BK G) (Nj I.hok x) m λh' d p=>h _ ?_;obtain⟨q,es,L,f,M,N,P,_,T⟩:=d;refine To I (by rw[e];exact CD) p ⟨q,f⟩ ⟨o,hd,_,(rel.put k x F).keeps λc J C=>?_,q,es,L,f,M,N,P,T⟩;rw[HW (Qu C e λz=>nomatch z)];exact C
end
def MH(i:Pv):Prop:=∀a b,subscripted i false a b=operate [a,b] (getItem a b)
def rW{slice:Pv}(q:typeLookup (.type T) "__getitem__"=pure (some<|.builtin id)) (z:MH slice)(h:wpAny (KB prog w) A (Wp value env) (λo s₁=>wpAny (KB prog w) A (Wp slice env) (λi s₂=>s₂.TypeIs o T/\wpAny (KB prog w) A (getItem o i) Q E s₂) E s₁) E s):
  wpAny (KB prog w) A (Wp (.Subscript value slice pos) env) Q E s:=by
 refine Fb<|Bp h (λo s₁ h₁=>Bp h₁ (λi s₂ h₂=>?_) λ_ _ x=>x) λ_ _ x=>x;obtain⟨a,h₂⟩:=h₂;unfold subscriptTail;refine Aa ?_;rw[getitemInPython_of_ne a.not_modules];refine Aa<|wpAny_specialOf a q ?_;have fin:wpAny (KB prog w) A (subscripted slice false o i) (λr s₃=>wpAny (KB prog w) A (letTemporaryGo value o r >>= λ_=>pure r) Q E s₃) E s₂:=by rw[z o i];exact wpAny_operating<|Bp h₂ (λr s₃ h₃=>Aa (wpAny_letTemporaryGo<|Ac h₃)) λ_ _ x=>x
 first
  |exact Ac (Aa fin)
  |exact Aa (Ac<|Aa fin)
  |exact Aa fin
def zjp{o:Option V}(I:Inv X qp σ H s)(g:Ja H a y o):s.TypeIs (.ref a) "dict":=by
 rcases g with⟨kvs,k,e,_,_⟩|⟨kvs,k,b,e,_,_,_⟩
 ·obtain⟨_,_,d,_,c⟩:=OF I.hok e;exact c.typeIs
 obtain⟨_,_,xs,_,c⟩:=Oy I.hok e;exact c.typeIs
def iP(q ty:TE):TE:=λσ H Q=>q σ H λx H1=>ty σ H1 λy b=>∃a v,x=.ref a/\Ja b a y (some v)/\Q v b
def XE(ty q:TE):TE:=λσ H Q=>ty σ H λy H1=>q σ H1 λx b=>∃a o,x=.ref a/\Ja b a y o/\Q (.bl o.isSome) b
def rX(ty q:TE):TE:=λσ H Q=>ty σ H λy H1=>q σ H1 λx b=>∃a o,x=.ref a/\Ja b a y o/\Q (.bl<|!o.isSome) b
def iH(q ty tv:TE):TS:=λD σ H=>tv σ H λv H1=>q σ H1 λx c=>ty σ c λy d=>∃a b,x=.ref a/\KS d a y v b/\D.nx σ b
variable {td ty:TE}
section
variable {o i:Pv}
def ZK(q:X.A.units+1<cLine)(z:PE X o td)(hi:PE X i ty)(B:MH i):PE X (.Subscript o i pos) (iP td ty):=by intro qp s σ H Q I h;refine rW PySem.F.slot_dict_getitem.lookup B<|HC (z qp s σ H _ I h) λu s1 ⟨x,H1,d,e,f⟩=>HC (hi qp s1 σ H1 _ d f) ?_;rintro p s2 ⟨y,j,c,l,a,v,ex,g,m⟩;subst ex;obtain rfl:u=AE a:=e;exact⟨zjp c g,yR q c g l λr s3 n b=>⟨v,j,n,b,m⟩⟩
def nK(q:X.A.units+1<cLine)(hi:PE X i ty)(z:PE X o td):PC X .In i o (XE ty td):=by intro qp s σ H Q I h;refine HC (hi qp s σ H _ I h) λp s1 ⟨y,H1,b,c,d⟩=>HC (z qp s1 σ H1 _ b d) ?_;rintro u s2 ⟨x,e,f,j,a,l,ex,g,m⟩;subst ex;obtain rfl:u=AE a:=j;exact Yp q f g c λs3 n=>⟨.bl l.isSome,e,n,rfl,m⟩
def yF(q:X.A.units+1<cLine)(hi:PE X i ty)(z:PE X o td):PC X .NotIn i o (rX ty td):=by intro qp s σ H Q I h;refine HC (hi qp s σ H _ I h) λp s1 ⟨y,H1,b,c,d⟩=>HC (z qp s1 σ H1 _ b d) ?_;rintro u s2 ⟨x,e,f,j,a,l,ex,g,m⟩;subst ex;obtain rfl:u=AE a:=j;exact oU q f g c λs3 n=>⟨.bl<|!l.isSome,e,n,rfl,m⟩
def sE(q:X.A.units+1<cLine)(z:PE X o td)(hi:PE X i ty)(B:PE X value tv)(F:swapsWith value (some<|.Subscript o i pos') pos.line X.env=pure false):
  PS X (.Assign [.Subscript o i pos'] value pos) (iH td ty tv):=by
 intro qp s σ H D I h;refine wpAny_Assign_Subscript (HC (B qp s σ H _ I h) λr s1 ⟨v,H1,b,c,d⟩=>HC (z qp s1 σ H1 _ b d) λu s2 ⟨x,e,f,j,l⟩=>HC (hi qp s2 σ e _ f l) ?_) F;rintro E s3 ⟨y,K,m,n,a,p,ex,g,w⟩;subst ex;obtain rfl:u=AE a:=j;exact yS q m g n c λs4 C=>⟨σ,p,C,w⟩
end
def uU(h:P3)(q:sysModules<h.objs.size):Jv P w H (h.push Qqd) h.objs.size (.dT []):=⟨A0 _,beq_eq_false_iff_ne.mpr<|Bt<|Av q,[],.nil,_,#[],0,Ap _ rfl,⟨rfl,rfl,rfl⟩,rfl,rfl,GD⟩
def pR:TE:=λ_ H Q=>∀p,H p=none->Q (.ref p) (upd H p<|.dT [])
def wC:PE X (.Dict [] [] pos) pR:=λqp s σ H Q I h=>
 wpAny_Dict_empty ⟨.ref s.heap.objs.size,_,I.laid (a:=s.heap.objs.size) (o:=.dT []) (t':=s.toks) (λ_ _ q=>Ad _ q) (Ah _)<|uU s.heap I.big,rfl,h _<|I.hok.fresh<|Ah _⟩
def MX(kvs more:List (Key×V)):List (Key×V):=more.foldl (λacc a=>putK acc a.1 a.2) kvs
def KV.merge:∀{more:List (Key×V)} {rs:List (Key×IR)} {kvs:List (Key×V)} {vs:List (Key×IR)},KV more rs->KV kvs vs->KV (MX kvs more) (merged vs rs):=by
 intro more rs kvs vs r;unfold KV at r
 induction r generalizing kvs vs with
 |nil=>intro q;exact q
 |@cons p q ps c h t a=>
  intro b;have e:KV (putK kvs p.1 p.2) (stored vs q.1 q.2):=by have:=b.put p.1 h.2;rw[<-h.1];exact this
  exact a e
theorem Xl:∀(more kvs:List (Key×V)),(MX kvs more).length<=kvs.length+more.length
 |[],kvs=>by show kvs.length<=kvs.length+0;omega
 |p::r,kvs=>by have q:=Xl r<|putK kvs p.1 p.2;have a:=W6 kvs p.1 p.2;show(MX (putK kvs p.1 p.2) r).length<=_;rw[Au];omega
structure M1(X:Cx)(o:Pv)(m:Str)(apos:Pos)(e:Pv)(cpos:Pos):Prop where
 base:attributeBase o m X.env (Wp o X.env)=Wp o X.env
 few:((backTo cpos (starEach [e] X.env)).all (λx=>!x.1)&&(backToKw cpos (keywordEach [] X.env)).all (λx=>x.1.isSome)
  &&decide (([e]:List Pv).length+([]:List Keyword).length+(if([]:List Keyword).isEmpty then 0 else 1)<30))=true
 line:(apos.endLine==cpos.line)=true
 trees:backTo cpos (starEach [e] X.env)=[(false,Wp e X.env)]
structure M2(X:Cx)(o:Pv)(m:Str)(apos:Pos)(e f:Pv)(cpos:Pos):Prop where
 base:attributeBase o m X.env (Wp o X.env)=Wp o X.env
 few:((backTo cpos (starEach [e,f] X.env)).all (λx=>!x.1)&&(backToKw cpos (keywordEach [] X.env)).all (λx=>x.1.isSome)
  &&decide (([e,f]:List Pv).length+([]:List Keyword).length+(if([]:List Keyword).isEmpty then 0 else 1)<30))=true
 line:(apos.endLine==cpos.line)=true
 trees:backTo cpos (starEach [e,f] X.env)=[(false,Wp e X.env),(false,Wp f X.env)]
def Sg(H:Hp)(a:Addr):Prop:=(∃kvs,Rd H a (.dK kvs))\/∃kvs,Rd H a (.dT kvs)
def Ni(I:Inv X qp σ H s)(d:Sg H a):
  s.TypeIs (.ref a) "dict"/\(∀b,AE a=.ref b->∃ob,s.heap.get? b=some ob/\ob.dict=none)/\(a==sysModules)=false:=by
 rcases d with⟨kvs,e⟩|⟨kvs,e⟩
 ·obtain⟨_,hd,h,_,c⟩:=OF I.hok e;refine⟨c.typeIs,λb q=>?_,hd⟩;cases q;obtain⟨ob,_,_,f,g,_⟩:=c;exact⟨ob,f,g.2.1⟩
 obtain⟨_,hd,xs,_,c⟩:=Oy I.hok e;refine⟨c.typeIs,λb q=>?_,hd⟩;cases q;obtain⟨ob,_,_,f,g,_⟩:=c;exact⟨ob,f,g.2.1⟩
section
variable {r:IR}{o:Option V}
def kE(F:A.units+1<cLine)(I:Inv X qp σ H s)(g:Ja H a y o)(q:RelV y u)(h:∀B s',Inv X qp σ H s'->RelV (o.getD .non) B->Q B s'):
  wpAny (KB X.prog X.w) A (call (.builtin "dict.get") [.ref a,u]) Q E s:=by
 rcases g with⟨kvs,k,e,d,l⟩|⟨kvs,k,b,e,d,f,l⟩
 ·subst d;obtain⟨z,hd,i,rel,c⟩:=OF I.hok e;refine Dk Dg c.typeIs Ey (Ef _ _) (meets_dict_get (Jb X.prog X.w) a (OB q) hd) ⟨_,c.mapOf,h _ _ (I.tok _) ?_⟩;rw[l];exact(rel.val k).getD rfl
 ·subst d
  cases (show u=AE b from q)
  obtain⟨z,hd,xs,rel,c⟩:=Oy I.hok e;refine Dk Dg c.typeIs Ey (Ef _ _) (meetsH_dict_get (tupleKind<|Jb X.prog X.w) a b hd) ⟨BK F,k,xs,Nj I.hok f,c,h _ _ (I.tok _) ?_⟩;rw[l];exact(rel.val k).getD rfl
end
def pQ(td ty:TE):TE:=λσ H Q=>td σ H λx H1=>∃a,x=.ref a/\Sg H1 a/\ty σ H1 λy b=>∃o,Ja b a y o/\Q (o.getD .non) b
section
variable {o f:Pv}{cpos:Pos}{tx:TE}
def wB(q:X.A.units+1<cLine)(z:PE X o td)(he:PE X e ty)(m:M1 X o "get" apos e cpos):PE X (.Call (.Attribute o "get" apos) [e] [] cpos) (pQ td ty):=by intro qp s σ H Q I h;refine DX m.base m.few m.line CZ Dg PySem.F.type_dict_get<|HC (z qp s σ H _ I h) ?_;rintro u s1 ⟨x,H1,c,f,a,ex,d,i⟩;subst ex;obtain rfl:u=AE a:=f;obtain⟨t1,j,_⟩:=Ni c d;refine⟨t1,j,?_⟩;rw[m.trees];refine BZ rfl<|CF<|Cm<|HC (he qp s1 σ H1 _ c i) λw s2 ⟨y,l,n,p,C,g,r⟩=>C6 ?_;exact kE q n g p λE s3 v b=>⟨_,l,v,b,r⟩
end
end L2
namespace HT
open PySem PyProof.Rows
def lexLt:List Int->List Int->Bool
 |[],[]=>false
 |[],_::_=>true
 |_::_,[]=>false
 |x::xs,y::a=>if x=y then lexLt xs a else decide (x<y)
theorem Ie(x y:Int)(xs a:List Int):lexLt (x::xs) (y::a)=if x=y then lexLt xs a else decide (x<y):=rfl
theorem IT:lexLt [] []=false:=rfl
theorem HN(y:Int)(a:List Int):lexLt [] (y::a)=true:=rfl
theorem Ic(x:Int)(xs:List Int):lexLt (x::xs) []=false:=rfl
def tX(A:Around)(s:Shared)(a:Int)(t:Tok)(c:Int)(u:Tok):∃e,SeqAt.EqAt A s (.int a t) (.int c u) e/\(e=true ↔ a=c):=⟨(a==c),Fv a t c u,by simp⟩
def vF(A:Around)(s:Shared)(a:Int)(t:Tok)(c:Int)(u:Tok)(prog:SZ)(w:World)(E:Qqa)(Q:Qqa)(h:Q (.bool<|decide (a<c)) s):
  wpAny (KB prog w) A (richCompare .Lt (.int a t)<|.int c u) Q E s:=
 (Gg h:wpAny (KB prog w) A (Re .Lt (.int a t)<|.int c u) Q E s)
section
open PySem.SeqAt
open PySem.MeetsSeq PySem.MeetsSeq2 PySem.MeetsSeq3
def zgL(l b:Addr)(items items2:Array IR)(n L:Nat)(M F:Option Addr)(N G:Array (Option IR))(ns ms:List Int)(hi:IntsAre items.toList ns)(J:IntsAre items2.toList ms):
  Meets (Builtin.«tuple.__lt__» ⟨[.ref l,.ref b],[]⟩)
   (λ_ R s=>s.heap.get? l=some {cls:=.type "tuple",dict:=M,data:=.seq items n,slots:=N}/\s.heap.get? b=some {cls:=.type "tuple",dict:=F,data:=.seq items2 L,slots:=G} /\
    R (.ok<|.ret<|.bool<|lexLt ns ms) s):=
 .of_wp λprog w A R s h=>by
  obtain⟨C,g,d,tk,os⟩:=s;obtain⟨P,Q,h⟩:=h;have f2:=AutoSeq1.sub_tuple_tuple;have S:items.size=ns.length:=by rw[<-hi.length];simp
  have T:items2.size=ms.length:=by rw[<-J.length];simp
  wp_walk using wpAny_loadPart' P,wpAny_loadPart' Q,wpAny_forIn_list _ (λrest b H=>b.1=none/\H=⟨C,g,d,tk,os⟩/\∃(E ws:List IR) (f i:List Int),rest=E.zip ws /\
   IntsAre E f/\IntsAre ws i/\f.length+items2.size=i.length+items.size/\R (.ok<|.ret<|.bool<|lexLt f i) ⟨C,g,d,tk,os⟩) _
  case turn=>
   rintro⟨y,x⟩ rest b H ⟨r,rfl,E,ws,f,i,j,v,m,hlen,o⟩;cases v with
   |nil=>rw[FN]at j;cases j
   |cons a t z=>
    cases m with
    |nil=>rw[List.zip_nil_right]at j;cases j
    |cons c u B=>
     rw[DL]at j;injection j with hyx hrest
     injection hyx with hy hx
     subst hy hx;rw[Ie]at o;simp only[Au]at hlen;obtain⟨e,he,p⟩:=tX A.in1 ⟨C,g,d,tk,os⟩ a t c u;refine Aa<|he prog w _ _ ?_
     cases e with
     |true=>
      rw[if_pos (p.mp rfl)]at o
      wp_walk
      exact⟨rfl,rfl,_,_,_,_,hrest,z,B,by omega,o⟩
     |false=>
      rw[if_neg (λq=>absurd (p.mpr q) AV)]at o;have I:=vF A.in1 ⟨C,g,d,tk,os⟩ a t c u prog w
      wp_walk using I
      exact⟨_,rfl,by simpa using o⟩
  case fin=>
   rintro⟨b1,U⟩ H ⟨r,rfl,E,ws,f,i,j,v,m,hlen,o⟩;simp only at r;subst r;have K:lexLt f i=decide (items.size<items2.size):=by
    cases v with
    |nil=>
     cases m with
     |nil=>
      simp only[Be]at hlen;rw[IT];exact(decide_eq_false<|by omega).symm
     |cons c u hw=>
      simp only[Be,Au]at hlen;rw[HN];exact(decide_eq_true<|by omega).symm
    |cons a t K=>
     cases m with
     |nil=>
      simp only[Be,Au]at hlen;rw[Ic];exact(decide_eq_false<|by omega).symm
     |cons c u hw=>
      rw[DL]at j;cases j
   rw[K]at o
   wp_walk
   exact⟨_,rfl,by simpa[Builtin.Tuple.tupleCompareSizes]using o⟩
  case h=>
   exact⟨rfl,rfl,items.toList,items2.toList,ns,ms,rfl,hi,J,by omega,h⟩
end
variable {b t sl:Addr}{items:Array IR}{Q:Qqa}{vl vu:IR}{lo hi:Option Int}
section
variable {prog:SZ}{w:World}{A:Around}{E:Qqa}{s:Shared}
def Ln{l:Addr}{items2:Array IR}{ns ms:List Int}(j:IsTup s.heap l items)(m:IsTup s.heap b items2)(hi:IntsAre items.toList ns)(o:IntsAre items2.toList ms)(p:A.units<cLine) (h:Q (.bool<|lexLt ns ms) s):wpAny (KB prog w) A (Re .Lt (.ref l)<|.ref b) Q E s:=by
 obtain⟨⟨cls,q,data,sl⟩,f,g,n,hd⟩:=id j;obtain⟨⟨i,d,data2,e⟩,a,c,r,hd2⟩:=id m;simp only at g hd c hd2;subst g hd c hd2;exact richCompare_meets_room (op:=.Lt) ⟨_,f,rfl⟩ ⟨_,a,rfl⟩ PySem.F.slot_tuple_lt PySem.F.entry_tuple_lt (PySem.F.args_tuple_lt_2 _ _) (zgL l b items items2 n r q d sl e ns ms hi o)
  ⟨f,a,show E4 (lexLt ns ms)≠Value.notImplemented/\Q (.bool<|lexLt ns ms) s from⟨(λx=>nomatch x),h⟩⟩ p
def NR{vs ws:List IR}(o:IsTup s.heap t vs.toArray)(p:IsTup s.heap b ws.toArray)(h:vs≠[])(q:ws=[]->Q (.ref t) s) (r:ws≠[]->Q (.ref s.heap.objs.size) {s with heap:=s.heap.push {cls:=.type "tuple",data:=.seq (vs++ws).toArray} })(hsz:vs.length+ws.length<=sizeLine):wpAny (KB prog w) A (binaryOp .Add (.ref t)<|.ref b) Q E s:=by
 obtain⟨⟨cls,i,data,sl⟩,g,j,n,hd⟩:=id o;obtain⟨⟨l,c,data2,d⟩,a,f,m,hd2⟩:=id p;simp only at j hd f hd2;subst j hd f hd2;have e:vs.toArray++ws.toArray=(vs++ws).toArray:=by simp
 by_cases hw:ws=[]
 ·exact concat_meets ⟨_,g,rfl⟩ ⟨_,a,rfl⟩ noFill_tuple_add seq_tuple_add Ez Eg (D6 _ _)
   (tuple_addW1 t b vs.toArray ws.toArray n m i c sl d (by simpa using h)<|by simp[hw]) ⟨g,a,q hw⟩
 ·refine concat_meets ⟨_,g,rfl⟩ ⟨_,a,rfl⟩ noFill_tuple_add seq_tuple_add Ez Eg (D6 _ _)
   (tuple_addW2 t b vs.toArray ws.toArray n m i c sl d (by simpa using h) (by simpa using hw) (by rw[Ax,Ax];exact hsz)) ⟨g,a,?_⟩
  rw[e];exact r hw
def Ip(n d:Nat):Option Int->Nat
 |none=>d
 |some v=>if v<0 then(v+(n:Int)).toNat else min v.toNat n
def lX(n d:Nat)(hd:d<=n)(o:Option Int):Ip n d o<=n:=by
 cases o with
 |none=>exact hd
 |some v=>
  show(if v<0 then(v+(n:Int)).toNat else min v.toNat n)<=n;by_cases hv:v<0
  ·rw[if_pos hv];omega
  rw[if_neg hv];exact D7 _ _
def Z5(v:Int)(n d:Nat):(if v<0 then max (v+(n:Int)) 0 else min v (n:Int))=((Ip n d (some v):Nat):Int):=by
 show(if v<0 then max (v+(n:Int)) 0 else min v (n:Int))=(((if v<0 then(v+(n:Int)).toNat else min v.toNat n):Nat):Int);by_cases hv:v<0
 ·simp only[if_pos hv];omega
 simp only[if_neg hv];omega
def zQ(lo hi:Option Int)(n:Nat):Builtin.Slice.sliceAdjust lo hi 1 (n:Int)=(((Ip n 0 lo:Nat):Int),((Ip n n hi:Nat):Int)):=by
 have b:¬((1:Int)<0):=by omega
 unfold Builtin.Slice.sliceAdjust;simp only[b,if_false];refine Prod.ext ?_ ?_
 ·cases lo with
  |none=>rfl
  |some v=>exact Z5 v n 0
 ·cases hi with
  |none=>rfl
  |some v=>exact Z5 v n n
def zki(i j:Nat):Builtin.Slice.slicePlaces (i:Int) (j:Int) 1=j-i:=by
 unfold Builtin.Slice.slicePlaces;have b:(1:Int) > 0:=by omega
 simp only[b,if_true,Int.ediv_one];split<;>omega
def II{v:IR}{o:Option Int}{Q:Option Int->Shared->Prop}(p:IsPart v o)(h:Q o s):wpAny (KB prog w) A (Builtin.Slice.slicePartIndex v) Q E s:=by
 cases p with
 |none=>exact slicePart_none h
 |int i t=>exact slicePart_int h
def zeF{n:Nat}{Q:Int×Int×Nat->Shared->Prop}(c:s.heap.IsSliceOf sl vl vu .none)(pl:IsPart vl lo)(pu:IsPart vu hi)(h:Q (((Ip n 0 lo:Nat):Int),1,Ip n n hi-Ip n 0 lo) s):wpAny (KB prog w) A (Builtin.Slice.sliceApplied (.ref sl)<|pure (n:Int)) Q E s:=by
 obtain⟨os,b,d,a⟩:=id c;unfold Builtin.Slice.sliceApplied Builtin.Slice.sliceFields;refine Aa<|Aa<|A7 b a (x:=vl) rfl<|Aa<|A7 b a (x:=vu) rfl<|Aa<|A7 b a (x:=.none) rfl<|Ac ?_;refine Aa<|slicePart_none ?_;show wpAny _ _ (if((1:Int)==0)=true then _ else _) _ _ s;rw[if_neg (by decide)];refine Aa<|II pl<|Aa<|II pu<|Aa<|Ac ?_;show wpAny _ _ (match Builtin.Slice.sliceAdjust lo hi 1 (n:Int) with|(lo,hi)=>pure (lo,(1:Int),Builtin.Slice.slicePlaces lo hi 1)) _ _ s;rw[zQ lo hi n];show wpAny _ _ (pure (((Ip n 0 lo:Nat):Int),(1:Int),Builtin.Slice.slicePlaces ((Ip n 0 lo:Nat):Int) ((Ip n n hi:Nat):Int) 1)) _ _ s;rw[zki];exact Ac h
def wL(xs:Array IR)(i k:Nat):((AB k).filterMap λ(m:Nat)=>xs[((i:Int)+(m:Int)*1).toNat]?).toArray=((xs.toList.drop i).take k).toArray:=by
 have e:(λ(m:Nat)=>xs[((i:Int)+(m:Int)*1).toNat]?)=λm=>xs[i+m]?:=by
  funext m
  have:((i:Int)+(m:Int)*1).toNat=i+m:=by omega
  rw[this]
 rw[e];have:=pick_run xs i k;rw[Fw]at this;have b:((λx=>xs[x]?) ∘ λx=>i+x)=λm=>xs[i+m]?:=rfl;rw[b]at this;rw[this]
def JI(a:IsTup s.heap t items)(g:s.heap.IsSliceOf sl vl vu .none)(pl:IsPart vl lo)(pu:IsPart vu hi)(hw:¬(Ip items.size 0 lo=0/\Ip items.size items.size hi=items.size))(h:Q (.ref s.heap.objs.size) {s with heap:=s.heap.push {cls:=.type "tuple",data:=.seq ((items.toList.drop<|Ip items.size 0 lo).take<|Ip items.size items.size hi-Ip items.size 0 lo).toArray} })(hsz:items.size<=sizeLine):wpAny (KB prog w) A (getItem (.ref t)<|.ref sl) Q E s:=by
 have b:sizeOk (.seq ((items.toList.drop<|Ip items.size 0 lo).take<|Ip items.size items.size hi-Ip items.size 0 lo).toArray):=by show((items.toList.drop<|Ip items.size 0 lo).take<|Ip items.size items.size hi-Ip items.size 0 lo).toArray.size<=sizeLine;rw[Ax,Bq,F9,AR];omega
 have j:Ip items.size items.size hi<=items.size:=lX _ _ (Ah _) hi;obtain⟨os,c,d,i⟩:=id g;have e:s.TypeIs (.ref sl) "slice":=⟨os,c,d⟩;unfold getItem
 try with_reducible refine AM ?_
 first|refine Aa (Ac ?_)|skip
 refine Aa (FO a.typeIs (by decide) ?_);refine Aa (A5 (name:=BC "__getitem__") a.typeIs BO
  (A9 BO a.typeIs Fi ?_<|Fx _ _))
 show wpAny _ _ (Builtin.Tuple.tupleItemsOf (.ref t) >>= _) _ _ s;refine Aa<|tupleItemsOf_ a ?_;refine Aa<|Dl e ?_;rw[if_pos (by decide)];refine Aa<|zeF g pl pu ?_;have f:¬((((Ip items.size 0 lo:Nat):Int)==0&&(1:Int)==1&&(Ip items.size items.size hi-Ip items.size 0 lo)==items.size)=true):=by intro q;rw[An,An]at q;have l:((Ip items.size 0 lo:Nat):Int)=0:=eq_of_beq q.1.1;have n:Ip items.size items.size hi-Ip items.size 0 lo=items.size:=eq_of_beq q.2;exact hw ⟨by omega,by omega⟩
 show wpAny _ _ (if(((Ip items.size 0 lo:Nat):Int)==0&&(1:Int)==1&&(Ip items.size items.size hi-Ip items.size 0 lo)==items.size)=true then _ else _) _ _ s;rw[if_neg f,wL]
 first
  |exact Aa (m:=Builtin.Tuple.tupleExact _) (AO (Ac ⟨_,rfl,Ac h⟩) b)
  |exact Aa (m:=Builtin.Tuple.tupleExact _) (AO (Aa<|Ac<|Ac ⟨_,rfl,Ac h⟩) b)
  |exact Aa (Aa (m:=Builtin.Tuple.tupleExact _)<|AO (Ac<|Ac ⟨_,rfl,Ac h⟩) b)
  |exact Aa (Aa (m:=Builtin.Tuple.tupleExact _)<|AO (Ac ⟨_,rfl,Ac h⟩) b)
end
end HT
namespace L2
open PySem PySem.Spec PyProof.Rows
noncomputable abbrev TO:=St->Hp->(Option Int->Hp->Prop)->Prop
def PO(X:Cx)(e:Option Pv)(t:TO):Prop:=
 ∀(a:List (Addr×Obj)) (s:Shared) (σ:St) (H:Hp) (Q:Option Int->Hp->Prop),Inv X a σ H s->t σ H Q ->
  wpAny (KB X.prog X.w) X.A (evalPart e X.env) (λu c=>∃o b,Inv X a σ b c/\IsPart u o/\Q o b) X.xe s
def rZ:TO:=λ_ H Q=>Q none H
def iT(t:TE):TO:=λσ H Q=>t σ H λx H1=>∃i,x=.int i/\Q (some i) H1
def intsAre_of{ns:List Int}:∀{us:List IR},Vals (ns.map V.int) us->IntsAre us ns:=by
 induction ns with
 |nil=>intro us r;rw[Cd]at r;cases r;exact .nil
 |cons n ns ih=>
  intro us r;rw[As]at r;cases r with
  |cons a b=>
   obtain⟨t,e⟩:=a;subst e;exact .cons n t<|ih b
variable {X:Cx}{e:Pv}{pos:Pos}{xs:List V}{us:List IR}
section
variable {te:TE}{lo hi:Option Pv}{tl th:TO}{p2:Pos}
def sC:PO X none rZ:=by intro e s σ H Q I h;rw[Fh];exact Ac ⟨none,H,I,.none,h⟩
def ZL(h:PE X e te):PO X (some e) (iT te):=by intro a s σ H Q I hw;rw[evalPart_some];refine HC (h a s σ H _ I hw) ?_;rintro u s1 ⟨x,H1,b,c,d⟩;obtain⟨i,rfl,q⟩:=d;obtain⟨t,rfl⟩:=c;exact⟨some i,H1,b,.int i t,q⟩
def R8(X:Cx)(r:V->Option Int->Option Int->Hp->VK->Prop):Prop:=
 ∀(e:List (Addr×Obj)) (s:Shared) (σ:St) (H:Hp) (x:V) (v a b:IR) (lo hi:Option Int) (c:Addr) (Q:VK),Inv X e σ H s->RelV x v->s.heap.IsSliceOf c a b .none->IsPart a lo->IsPart b hi->r x lo hi H Q ->
  ∃T id,typeLookup (.type T) "__getitem__"=pure (some<|.builtin id)/\s.TypeIs v T/\wpAny (KB X.prog X.w) X.A (getItem v<|.ref c) (EP X e σ Q) X.xe s
def tSl(r:V->Option Int->Option Int->Hp->VK->Prop)(te:TE)(tl th:TO):TE:=λσ H Q=>te σ H λx H1=>tl σ H1 λl e=>th σ e λu X=>r x l u X Q
def V2{r:V->Option Int->Option Int->Hp->VK->Prop}(g:R8 X r)(he:PE X e te)(i:PO X lo tl)(j:PO X hi th):PE X (.Subscript e (.Slice lo hi none p2) pos) (tSl r te tl th):=by intro a s σ H Q I h;refine Fb<|HC (he a s σ H _ I h) ?_;rintro v s1 ⟨x,H1,m,n,o⟩;refine wpAny_Slice<|HC (i a s1 σ H1 _ m o) λc s2 ⟨l,p,y,pl,z⟩=>HC (j a s2 σ p _ y z) ?_;rintro d s3 ⟨u,f,I3,pu,B⟩;rw[Fh];refine Ac ?_;have C:Inv X a σ f {s3 with heap:=s3.heap.push {cls:=.type "slice",data:=.fields #[c,d,.none]} }:=I3.kept (t':=s3.toks) λb ob q=>Ad _ q;obtain⟨T,id,E,F,G⟩:=g a {s3 with heap:=s3.heap.push {cls:=.type "slice",data:=.fields #[c,d,.none]} } σ f x v c d l u s3.heap.objs.size Q C n (Fy ..) pl pu B;show wpAny (KB X.prog X.w) X.A (subscriptTail e (.Slice lo hi none p2) v<|.ref s3.heap.objs.size) (EP X a σ Q) X.xe {s3 with heap:=s3.heap.push {cls:=.type "slice",data:=.fields #[c,d,.none]} };exact tail_any (ops:=[.ref s3.heap.objs.size,v]) F E G<|by with_unfolding_all rfl
def K8(xs:List V)(lo hi:Option Int):List V:=(xs.drop<|HT.Ip xs.length 0 lo).take<|HT.Ip xs.length xs.length hi-HT.Ip xs.length 0 lo
def eU(xs:List V)(lo hi:Option Int):(K8 xs lo hi).length<=xs.length:=by unfold K8;rw[Bq,F9];omega
def RH(K:Ab):V->Option Int->Option Int->Hp->VK->Prop:=λx lo hi H Q=>∃a xs,x=.ref a/\IK K H a xs /\
 ¬(HT.Ip xs.length 0 lo=0/\HT.Ip xs.length xs.length hi=xs.length)/\∀p,H p=none->Q (.ref p) (upd H p<|.tup<|K8 xs lo hi)
def pK:R8 X (RH X.K):=by
 intro j s σ H x v l m lo hi n Q I f g pl pu h;obtain⟨a,xs,rfl,i,hw,q⟩:=h;cases f;obtain⟨e,r,c,d⟩:=I.tuple i;have hlen:e.toArray.size=xs.length:=by rw[Ax];exact r.length.symm
 refine⟨"tuple",_,PyProof.Rows.slot_tuple_getitem.lookup,c.typeIs,?_⟩;refine HT.JI c g pl pu (by rw[hlen];exact hw) ?_ (by rw[hlen];exact d);rw[hlen];refine⟨.ref s.heap.objs.size,_,I.laid (t':=s.toks) (o:=.tup (K8 xs lo hi)) (λb ob q=>Ad _ q) (Ah _) ?_,rfl,q _<|I.hok.fresh<|Ah _⟩;exact⟨AA (eU xs lo hi) d,_,(r.drop<|HT.Ip xs.length 0 lo).take<|HT.Ip xs.length xs.length hi-HT.Ip xs.length 0 lo,Lh.new _ _⟩
def iE(K:Ab):R2:=λx y H Q=>∃a b xs e,x=.ref a/\y=.ref b/\IK K H a xs/\IK K H b e/\xs≠[]/\xs.length+e.length<=sizeLine /\
 (e=[]->Q (.ref a) H)/\(e≠[]->∀p,H p=none->Q (.ref p) (upd H p<|.tup<|xs++e))
def Vals.nil_iff(r:Vals xs us):us=[] ↔ xs=[]:=by
 cases r with
 |nil=>simp
 |cons _ _=>simp
def qF:JU X (binaryOp .Add) (iE X.K):=by intro B s σ H x y v u Q I f g h;obtain⟨a,b,xs,i,rfl,rfl,j,l,m,c,n,p⟩:=h;cases f;cases g;obtain⟨r,e,A,_⟩:=I.tuple j;obtain⟨d,r2,p2,_⟩:=I.tuple l;refine HT.NR A p2 (λz=>m (e.nil_iff.mp z)) (λz=>⟨.ref a,H,I,rfl,n<|r2.nil_iff.mp z⟩) (λz=>?_) (by rw[<-e.length,<-r2.length];exact c);refine⟨.ref s.heap.objs.size,_,I.laid (t':=s.toks) (o:=.tup (xs++i)) (λb ob q=>Ad _ q) (Ah _) ?_,rfl,p (λw=>z (r2.nil_iff.mpr w)) _<|I.hok.fresh<|Ah _⟩;exact⟨by rw[AD];exact c,_,e.append r2,Lh.new _ _⟩
end
def Mg(n:Nat)(i:Int):Option Nat:=if 0<=i then(if i<n then some i.toNat else none)else if -(n:Int)<=i then some (i+n).toNat else none
variable {α:Type}
def Lf(xs:List α)(i:Int):Option α:=(Mg xs.length i).bind λj=>xs[j]?
variable {n:Nat}{i:Int}
def G9{j:Nat}(h:Mg n i=some j):seqIndex? i n=some j/\j<n/\-(n:Int)<=i/\i<n:=by
 unfold Mg at h;by_cases h0:0<=i
 ·rw[if_pos h0]at h
  by_cases h1:i<n
  ·rw[if_pos h1]at h;have e:i.toNat=j:=Az h;exact⟨by rw[F4 h0 h1,e],by omega,by omega,h1⟩
  rw[if_neg h1]at h;cases h
 ·rw[if_neg h0]at h
  by_cases h1:-(n:Int)<=i
  ·rw[if_pos h1]at h;have e:(i+n).toNat=j:=Az h;exact⟨by rw[Fz (by omega) h1,e],by omega,h1,by omega⟩
  rw[if_neg h1]at h;cases h
def Vw{xs:List α}{v:α}(h:Lf xs i=some v):∃j,seqIndex? i xs.length=some j/\xs[j]?=some v/\j<xs.length/\-(xs.length:Int)<=i/\i<xs.length:=by
 unfold Lf at h;cases e:Mg xs.length i with
 |none=>rw[e]at h;cases h
 |some j=>
  rw[e]at h;obtain⟨n,X,a,b⟩:=G9 e;exact⟨j,n,h,X,a,b⟩
def VF(b:Pv):Prop:=∀o i,subscripted b false o i=operate [o,i] (getItem o i)
def Sf(X:Cx)(r:R2):Prop:=
 ∀(value slice:Pv) (e:List (Addr×Obj)) (s:Shared) (σ:St) (H:Hp) (x y:V) (v u:IR) (Q:VK),Inv X e σ H s->RelV x v->RelV y u->r x y H Q ->
  subscripted slice false v u=operate [v,u] (getItem v u)->wpAny (KB X.prog X.w) X.A (subscriptTail value slice v u) (EP X e σ Q) X.xe s
def Se(X:Cx)(id:String)(r:V->List V->Hp->VK->Prop):Prop:=
 ∀(e:List (Addr×Obj)) (s:Shared) (σ:St) (H:Hp) (x:V) (xs:List V) (v:IR) (us:List IR) (Q:VK),Inv X e σ H s->RelV x v->Vals xs us->r x xs H Q ->
  wpAny (KB X.prog X.w) X.A (call (.builtin id) (v::us)) (EP X e σ Q) X.xe s
variable {qp:List (Addr×Obj)}{σ:St}{H:Hp}{s:Shared}{p:Addr}{ys:List V}{its its':List IR}{T:String}{x:V}
section
variable {a b:Pv}{ta tb:TE}
def iA{r:R2}(c:Sf X r)(d:PE X a ta)(f:PE X b tb)(g:VF b):PE X (.Subscript a b pos) (RF r ta tb):=by intro qp s σ H Q I h;exact Fb<|Pl d f I h λv u s2 x y e i n p q=>c a b qp s2 σ e x y v u Q i n p q (g _ _)
def XW(K:Ab):R2:=λx y H Q=>∃p xs i v,x=.ref p/\y=.int i/\JL K H p xs/\Lf xs i=some v/\Q v H
def XS(K:Ab):R2:=λx y H Q=>∃p xs i v,x=.ref p/\y=.int i/\IK K H p xs/\Lf xs i=some v/\Q v H
def XT:R2:=λx y H Q=>∃z i c,x=.str z/\y=.int i/\z.length<=sizeLine/\Lf z.cps.toList i=some c/\Q (.str ⟨#[c]⟩) H
def aA:Sf X (XW X.K):=by
 intro value slice qp s σ H x y v u Q I c d h n;obtain⟨p,xs,i,z,rfl,rfl,f,he,q⟩:=h;cases c;obtain⟨t,rfl⟩:=d;obtain⟨its,r,pl,B⟩:=I.list f;obtain⟨j,a,g,C,l,m⟩:=Vw he;obtain⟨w,T,b⟩:=r.get g;have o:=r.length;have E:=OT;have fin:EP X qp σ Q w s:=⟨z,H,I,b,q⟩;by_cases h0:0<=i
 ·have e:i.toNat=j:=by
   rw[F4 h0 m]at a;exact Az a
  exact item_listR pl.isList h0 (by omega) (by rw[e];simpa using T) fin n
 ·have e:(i+(its.toArray.size:Int)).toNat=j:=by
   rw[Fz (by omega) l]at a;rw[Ax,<-o];exact Az a
  exact EA (x:=w) pl.isList.typeIs slot_list_getitem.lookup
   (wpAny_getItem_list_neg (Q:=λr A=>r=w/\EP X qp σ Q r A) pl.isList (by omega) (by rw[Ax]<;>omega) (by omega) (by rw[e];simpa using T) ⟨rfl,fin⟩) n
def Io:Sf X (XS X.K):=by
 intro value slice qp s σ H x y v u Q I b e h n;obtain⟨p,xs,i,z,rfl,rfl,T,he,q⟩:=h;cases b;obtain⟨t,rfl⟩:=e;obtain⟨its,r,pl,m⟩:=I.tuple T;obtain⟨j,c,d,o,A,B⟩:=Vw he;obtain⟨w,f,a⟩:=r.get d;have g:=r.length;have C:=OT;have fin:EP X qp σ Q w s:=⟨z,H,I,a,q⟩;exact EA (x:=w) pl.typeIs slot_tuple_getitem.lookup
  (getItem_tuple (j:=j) (Q:=λr l=>r=w/\EP X qp σ Q r l) pl (by omega) (by omega) (by rw[Ax,<-g];exact c) (by simpa using f) ⟨rfl,fin⟩) n
def QQ:Sf X XT:=by
 intro value slice qp s σ H x y v u Q I b e h n;obtain⟨z,i,c,rfl,rfl,m,he,q⟩:=h;obtain⟨t,rfl⟩:=b;obtain⟨o,rfl⟩:=e;obtain⟨j,a,p,r,T,d⟩:=Vw he;have f:z.cps.toList.length=z.length:=by simp[Str.length]
 rw[f]at a T d;have w:=OT;exact tail_any (Gj s z t) slot_str_getitem.lookup (getItem_str (c:=c) (by
  have g:decide (i < -(2^63:Int))=false:=decide_eq_false (by omega);have l:decide (i ≥ 2^63)=false:=decide_eq_false (by omega);rw[g,l,Bool.or_false]) (by rw[a];simpa using p) ⟨.str ⟨#[c]⟩,H,I.tok _,⟨_,rfl⟩,q⟩) n
def zkG(its:List IR)(n j:Nat)(u:IR):BF (·.setIfInBounds j u) {cls:=.type "list",data:=.seq its.toArray n}={cls:=.type "list",data:=.seq (its.set j u).toArray n}:=by simp[BF]
def Inv.lst{qp:List (Addr×Obj)}{σ:St}{H:Hp}{s:Shared}{p:Addr}{xs:List V}(I:Inv X qp σ H s)(h:H p=some (.lst xs)):
  ∃(its:List IR) (n:Nat),Vals xs its/\s.heap.get? p=some {cls:=.type "list",data:=.seq its.toArray n}/\xs.length<=sizeLine:=by
 obtain⟨z,its,n,r,e⟩:=I.hok p _ h;exact⟨its,n,r,e,z⟩
def Inv.lstUpd{c:Nat}{f:Obj->Obj}(I:Inv X qp σ H s)(h:H p=some (.lst xs))(d:s.heap.get? p=some {cls:=.type "list",data:=.seq its.toArray n}) (hf:f {cls:=.type "list",data:=.seq its.toArray n}={cls:=.type "list",data:=.seq its'.toArray c}) (r:Vals ys its') (hz:ys.length<=sizeLine) (t:Nat):
  Inv X qp σ (upd H p<|.lst ys) {s with heap:=s.heap.update p f,toks:=t}:=by
 have e:(s.heap.update p f).get? p=some {cls:=.type "list",data:=.seq its'.toArray c}:=by rw[BL f d (by rw[hf]<;>rfl),hf]
 refine I.write (x:=p) (e:=p) (by rw[h];trivial) (.inl rfl) (λb u a q=>(Ct _ _<|Bt a).trans q) ⟨_,e⟩ ?_;exact⟨hz,its',c,r,e⟩
def iF:V->V->V->Hp->(Hp->Prop)->Prop:=λo i v H Q=>∃p xs k j,o=.ref p/\i=.int k/\H p=some (.lst xs)/\Mg xs.length k=some j/\Q (upd H p<|.lst<|xs.set j v)
def set_list:Pp X iF:=by
 intro qp s σ H o i v y z u Q I f g l h;obtain⟨p,xs,k,j,rfl,rfl,x,m,q⟩:=h;cases f;obtain⟨t,rfl⟩:=g;obtain⟨its,n,r,b,w⟩:=I.lst x;obtain⟨a,A,T,c⟩:=G9 m;have e:=r.length;have B:=OT;have d:Inv X qp σ (upd H p<|.lst<|xs.set j v) {s with heap:=s.heap.update p (BF (·.setIfInBounds j u))}:=
  I.lstUpd x b (zkG its n j u) (r.set l j) (by rw[Bf];exact w) s.toks
 by_cases h0:0<=k
 ·have hk:k.toNat=j:=by
   rw[F4 h0 c]at a;exact Az a
  exact PySem.W.ki_setAt b h0 (by omega) (by rw[Ax,<-e];exact c) (by rw[hk];exact⟨_,d,q⟩)
 ·have hk:(k+(its.toArray.size:Int)).toNat=j:=by
   rw[Fz (by omega) T]at a;rw[Ax,<-e];exact Az a
  exact PySem.W.ki_setBack b (by omega) (by rw[Ax,<-e];exact T) (by omega) (by rw[hk];exact⟨_,d,q⟩)
def zhG(lo hi:Option Int)(n:Nat):(sliceBounds lo hi none n).1=((HT.Ip n 0 lo:Nat):Int)/\(sliceBounds lo hi none n).2.1=((HT.Ip n n hi:Nat):Int)/\(sliceBounds lo hi none n).2.2=1:=by
 refine⟨?_,?_,rfl⟩
 ·cases lo with
  |none=>simp[sliceBounds,HT.Ip]
  |some i=>
   simp only[sliceBounds,HT.Ip,Ga,show(1:Int) > 0 by decide,if_true]
   by_cases h:i<0
   ·simp only[h,if_true]<;>omega
   simp only[h,if_false]<;>omega
 ·cases hi with
  |none=>simp[sliceBounds,HT.Ip]
  |some i=>
   simp only[sliceBounds,HT.Ip,Ga,show(1:Int) > 0 by decide,if_true]
   by_cases h:i<0
   ·simp only[h,if_true]<;>omega
   simp only[h,if_false]<;>omega
def zgR(its:List IR)(lo hi:Option Int):slicePick its.toArray lo hi none=((its.drop<|HT.Ip its.length 0 lo).take<|HT.Ip its.length its.length hi-HT.Ip its.length 0 lo).toArray:=by obtain⟨a,b,e⟩:=zhG lo hi its.toArray.size;unfold slicePick;rw[a,b,e];simp only[sliceRange_one,pick_run,Ax]<;>rfl
def RJ(K:Ab):V->Option Int->Option Int->Hp->VK->Prop:=λx lo b H Q=>∃a xs,x=.ref a/\JL K H a xs/\∀p,H p=none->Q (.ref p) (upd H p<|.lst<|K8 xs lo b)
def ZU:R8 X (RJ X.K):=by intro qp s σ H x v d f lo e g Q I n p pl pu h;obtain⟨a,xs,rfl,T,q⟩:=h;cases n;obtain⟨its,r,i,c⟩:=I.list T;have hlen:=r.length;refine⟨"list",_,slot_list_getitem.lookup,i.isList.typeIs,?_⟩;refine wpAny_getItem_list_slice i.isList p pl pu .none (by simp) ?_ (by rw[Ax]<;>omega);rw[zgR,<-hlen];refine⟨.ref s.heap.objs.size,_,I.laid (t':=s.toks) (o:=.lst (K8 xs lo e)) (λb ob q=>Ad _ q) (Ah _) ?_,rfl,q _<|I.hok.fresh<|Ah _⟩;exact⟨AA (eU xs lo e) c,_,0,(r.drop<|HT.Ip xs.length 0 lo).take<|HT.Ip xs.length xs.length e-HT.Ip xs.length 0 lo,Ap _ rfl⟩
def WT:ML X (.builtin "len") (λxs H Q=>∃p ys,xs=[.ref p]/\(JL X.K H p ys\/IK X.K H p ys)/\Q (.int ys.length) H):=by
 intro qp s σ H xs us Q I r h;obtain⟨p,ys,rfl,hq,q⟩:=h;obtain⟨u,rfl,b⟩:=vals1 r;cases b;have i:=OT;rcases hq with hq|hq
 ·obtain⟨its,a,pl,e⟩:=I.list hq;have hlen:=a.length;exact Calls.call_len_list pl.isList (by simp only[Ax]<;>omega) ⟨.int ys.length,H,I.tok _,⟨s.toks+1,by rw[Ax,hlen]⟩,q⟩
 obtain⟨its,a,pl,e⟩:=I.tuple hq;have hlen:=a.length;exact len_tuple pl (by simp only[Ax]<;>omega) ⟨.int ys.length,H,I.tok _,⟨s.toks+1,by rw[Ax,hlen]⟩,q⟩
def zib:ML X (.builtin "len") (λxs H Q=>∃z,xs=[.str z]/\z.length<=sizeLine/\Q (.int z.length) H):=by intro qp s σ H xs us Q I r h;obtain⟨z,rfl,a,q⟩:=h;obtain⟨u,rfl,t,rfl⟩:=vals1 r;have b:=OT;exact len_str (by omega) ⟨.int z.length,H,I.tok _,⟨_,rfl⟩,q⟩
def WU:ML X (.type "list") (λxs H Q=>∃p ys,xs=[.ref p]/\(JL X.K H p ys\/IK X.K H p ys)/\∀l,H l=none->Q (.ref l) (upd H l<|.lst ys)):=by
 intro qp s σ H xs us Q I r h;obtain⟨p,ys,rfl,hq,q⟩:=h;obtain⟨u,rfl,g⟩:=vals1 r;cases g;have fin:∀(its:List IR),Vals ys its->ys.length<=sizeLine->∀(a:P3) (i:Nat),(∀b f,s.heap.get? b=some f->a.get? b=some f) ->
   a.get? s.heap.objs.size=some {cls:=.type "list",dict:=none,data:=.seq its.toArray i,slots:=#[]}->EP X qp σ Q (.ref s.heap.objs.size) {s with heap:=a}:=λits x T a i kp e=>
  ⟨.ref s.heap.objs.size,_,I.laid (t':=s.toks) kp (Ah _) (show Jv X.prog X.w _ a _ (.lst ys) from⟨T,its,i,x,e⟩),rfl,q _<|I.hok.fresh<|Ah _⟩
 rcases hq with hq|hq
 ·obtain⟨its,x,pl,T⟩:=I.list hq;have hlen:=x.length;obtain⟨o,c,d,n,hd⟩:=pl.isList;exact call_list_seq p (.inl rfl) c d hd (λa i kp e=>fin its x T a i kp e) (by simp only[Ax]<;>omega)
 obtain⟨its,x,pl,T⟩:=I.tuple hq;have hlen:=x.length;obtain⟨o,c,d,n,hd⟩:=pl;exact call_list_seq p (.inr rfl) c d hd (λa i kp e=>fin its x T a i kp e) (by simp only[Ax]<;>omega)
def fJ:ML X (.type "tuple") (λxs H Q=>∃p ys,xs=[.ref p]/\((JL X.K H p ys/\∀l,H l=none->Q (.ref l) (upd H l<|.tup ys))\/(IK X.K H p ys/\Q (.ref p) H))):=by
 intro qp s σ H xs us Q I r h;obtain⟨p,ys,rfl,h⟩:=h;obtain⟨u,rfl,T⟩:=vals1 r;cases T;rcases h with⟨i,q⟩|⟨i,q⟩
 ·obtain⟨its,n,pl,x⟩:=I.list i;have hlen:=n.length;refine call_tuple_list pl.isList (λa kp=>?_) (by simp only[Ax]<;>omega);have I1:Inv X qp σ H {s with heap:=a}:=I.kept (t':=s.toks) kp;have c:Inv X qp σ (upd H a.objs.size<|.tup ys) {s with heap:=a.push {cls:=.type "tuple",data:=.seq its.toArray} }:=
   I1.laid (t':=s.toks) (λb o e=>Ad _ e) (Ah _) (show Jv X.prog X.w _ _ _ (.tup ys) from⟨x,its,n,Lh.new _ _⟩)
  exact⟨.ref a.objs.size,_,c,rfl,q _<|I1.hok.fresh<|Ah _⟩
 obtain⟨its,n,pl,x⟩:=I.tuple i;exact call_tuple_same pl ⟨.ref p,H,I,rfl,q⟩
def UE(K:Ab)(T:String)(x:V)(H:Hp):Prop:=match x with
 |.str _=>T="str"
 |.int _=>T="int"
 |.ref p=>(T="list"/\∃xs,JL K H p xs)\/(T="tuple"/\∃o,K.lookup p=some o/\o.cls=.type "tuple"/\o.dict=none) \/
   (T="dict"/\((∃a,H p=some (.dK a))\/∃a,H p=some (.dT a)))\/(T="set"/\∃S n,H p=some (.set S n))
 |_=>False
def ZE{v:IR}(I:Inv X qp σ H s)(r:RelV x v)(ty:UE X.K T x H):
  s.TypeIs v T/\∀a,v=.ref a->∃ob,s.heap.get? a=some ob/\ob.dict=none:=by
 cases x with
 |str z=>
  obtain⟨t,rfl⟩:=r;cases (show T="str" from ty)
  exact⟨Gj s z t,λ_ e=>nomatch e⟩
 |int i=>
  obtain⟨t,rfl⟩:=r;cases (show T="int" from ty)
  exact⟨typeIs_int s i t,λ_ e=>nomatch e⟩
 |ref p=>
  cases r;rcases ty with⟨rfl,xs,f⟩|⟨rfl,o,hk,g,hd⟩|⟨rfl,hk⟩|⟨rfl,S,n,hk⟩
  ·obtain⟨its,_,pl,_⟩:=I.list f;refine⟨pl.isList.typeIs,λa e=>?_⟩;cases e;obtain⟨o,n,e,c,hd,_⟩:=pl;exact⟨o,e,hd⟩
  ·refine⟨⟨o,I.kIn p o hk,g⟩,λa e=>?_⟩;cases e;exact⟨o,I.kIn _ o hk,hd⟩
  ·have z:∃o,s.heap.get? p=some o/\o.ExactDict:=by
    rcases hk with⟨b,hk⟩|⟨b,hk⟩
    ·obtain⟨_,_,_,_,o,_,_,e,ex,_⟩:=I.hok p _ hk;exact⟨o,e,ex⟩
    obtain⟨_,_,_,_,o,_,_,e,ex,_⟩:=I.hok p _ hk;exact⟨o,e,ex⟩
   obtain⟨o,e,ex⟩:=z;refine⟨⟨o,e,ex.1⟩,λa d=>?_⟩;cases d;exact⟨o,e,ex.2.1⟩
  obtain⟨o,_,_,_,e,ex,_⟩:=I.hok p _ hk;refine⟨⟨o,e,ex.1⟩,λa d=>?_⟩;cases d;exact⟨o,e,ex.2.1⟩
 |_=>exact False.elim ty
def XG(K:Ab)(T:String)(r:V->List V->Hp->VK->Prop)(to:TE):TE:=λσ H Q=>to σ H λx H1=>UE K T x H1/\r x [] H1 Q
def tBM(K:Ab)(T:String)(r:V->List V->Hp->VK->Prop)(to:TE)(t:TA):TE:=λσ H Q=>to σ H λx H1=>UE K T x H1/\t σ H1 λxs a=>r x xs a Q
variable {o:Pv}{es:List Pv}{to:TE}{t:TA}{name:Str}{apos cpos:Pos}{id:String}{r:V->List V->Hp->VK->Prop}
def nM(g:PlainAttrs T)(slot:Slot T name id)(f:typeOf (.builtin id)=pure (.type "method_descriptor"))(hm:Se X id r)(j:PE X o to)(c:attributeBase o name X.env (Wp o X.env)=Wp o X.env:=by rfl) (d:(apos.endLine==cpos.line)=true:=by rfl):PE X (.Call (.Attribute o name apos) [] [] cpos) (XG X.K T r to):=by
 intro qp s σ H Q I h;refine wpAny_Call_method0_late c d<|HC (j qp s σ H _ I h) ?_;rintro v s1 ⟨x,H1,a,b,ty,e⟩;obtain⟨i,n⟩:=ZE a b ty;exact⟨T,id,g,slot,f,i,n,BZ rfl<|PySem.evalArgs_none<|hm qp s1 σ H1 x [] v [] Q a b .nil e⟩
def YM(l:PlainAttrs T)(slot:Slot T name id)(j:typeOf (.builtin id)=pure (.type "method_descriptor"))(hm:Se X id r)(m:PE X o to)(q:PA X (e::es) t)(d:attributeBase o name X.env (Wp o X.env)=Wp o X.env:=by rfl)(g:((backTo cpos<|starEach (e::es) X.env).all (λx=>!x.1)&&(backToKw cpos<|keywordEach [] X.env).all (λx=>x.1.isSome)
   &&decide ((e::es).length+([]:List Keyword).length+(if([]:List Keyword).isEmpty then 0 else 1)<30))=true:=by rfl)
  (f:(apos.endLine==cpos.line)=true:=by rfl) (u:Qqb X.env e es:=by rfl) (c:Qqc cpos es X.env:=by rfl):
  PE X (.Call (.Attribute o name apos) (e::es) [] cpos) (tBM X.K T r to t):=by
 intro qp s σ H Q I h;refine wpAny_Call_method_late d g f rfl<|HC (m qp s σ H _ I h) ?_;rintro v s1 ⟨x,H1,a,b,ty,n⟩;obtain⟨p,w⟩:=ZE a b ty;refine⟨T,id,l,slot,j,p,w,?_⟩;have i:=q cpos qp s1 σ H1 _ a n;rw[u]at i ⊢;refine BZ (by show(false || (backTo cpos<|starEach es X.env).any (·.1))=false;rw[c]<;>rfl)<|CF ?_;exact HC i λus s2 ⟨y,z,A,B,C⟩=>hm qp s2 σ z x y v us Q A b B C
end
def Yz(X:Cx)(id:String)(r:V->List V->Hp->VK->Prop):Prop:=
 ∀(qp:List (Addr×Obj)) (s:Shared) (σ:St) (H:Hp) (x:V) (xs:List V) (v:IR) (us:List IR) (Q:VK),Inv X qp σ H s->RelV x v->Vals xs us->r x xs H Q ->
  wpAny (KB X.prog X.w) X.A (call (.builtin id) (v::us)) (EP X qp σ Q) X.xe s
def Vals.one:∀{x:V}{us:List IR},Vals [x] us->∃u,us=[u]/\RelV x u
 |_,_,.cons r .nil=>⟨_,rfl,r⟩
def Vals.two{y:V}(h:Vals [x,y] us):∃u v,us=[u,v]/\RelV x u/\RelV y v:=by
 cases h with
 |cons r t=>
  cases t with
  |cons q t=>
   cases t;exact⟨_,_,rfl,r,q⟩
def Vals.zero:∀{us:List IR},Vals [] us->us=[]
 |_,.nil=>rfl
def Vals.dropLast{xs:List V}{us:List IR}(h:Vals xs us):Vals xs.dropLast us.dropLast:=by
 induction h with
 |nil=>exact .nil
 |cons r t e=>
  cases t with
  |nil=>exact .nil
  |cons q i=>exact .cons r e
def zZ(l:List α):l.eraseIdx (l.length-1)=l.dropLast:=by
 induction l with
 |nil=>rfl
 |cons a r i=>
  cases r with
  |nil=>rfl
  |cons b r=>
   have e:(a::b::r).length-1=((b::r).length-1)+1:=by have n:(a::b::r).length=r.length+2:=rfl;have p:(b::r).length=r.length+1:=rfl;omega
   rw[e,List.eraseIdx_cons_succ,i]
   all_goals rfl
variable {t':Nat}
section
variable {l b:Addr}{zs:List V}
def Inv.lset{f:Array IR->Array IR}(I:Inv X qp σ H s)(a:H l=some (.lst xs))(e:s.heap.get? l=some {cls:=.type "list",data:=.seq its.toArray n}) (hf:f its.toArray=its'.toArray) (c:Vals ys its') (hz:ys.length<=sizeLine):
  Inv X qp σ (upd H l<|.lst ys) {s with heap:=s.heap.update l (BF f),toks:=t'}:=by
 have q:=PySem.IsL.update e f;rw[hf]at q;refine I.write (x:=l) (e:=l) (by rw[a];exact trivial) (.inl rfl) (λp u b i=>(Ct s.heap (BF f)<|Bt b).trans i) ⟨_,q⟩ ?_;exact⟨hz,its',_,c,q⟩
def Inv.lnew(I:Inv X qp σ H s)(a:Vals ys its)(hz:ys.length<=sizeLine):
  Inv X qp σ (upd H s.heap.objs.size<|.lst ys) {s with heap:=s.heap.push {cls:=.type "list",data:=.seq its.toArray},toks:=t'}:=
 I.laid (λ_ _ q=>Ad _ q) (Ah _) ⟨hz,its,0,a,Ap _ rfl⟩
def Inv.fresh(I:Inv X qp σ H s):H s.heap.objs.size=none:=I.hok.fresh<|Ah _
def Inv.lstM(I:Inv X qp σ H s)(a:H l=some (.lst xs)):xs.length<=sizeLine/\∃(its:List IR) (n:Nat),Vals xs its/\xs.length=its.length/\s.heap.get? l=some {cls:=.type "list",data:=.seq its.toArray n}:=by obtain⟨z,its,n,r,e⟩:=I.hok l _ a;exact⟨z,its,n,r,r.length,e⟩
def vV(h:n<=sizeLine):Builtin.List.listTooLong n=false:=by unfold Builtin.List.listTooLong;exact decide_eq_false<|by omega
end
def sL:V->List V->Hp->VK->Prop:=λx e H Q=>∃l xs y,x=.ref l/\e=[y]/\H l=some (.lst xs)/\xs.length<sizeLine/\Q .non (upd H l<|.lst<|xs++[y])
def dC:Yz X "list.append" sL:=by intro qp s σ H x b v us Q I p T h;obtain⟨l,xs,y,rfl,rfl,i,c,q⟩:=h;cases p;obtain⟨u,rfl,a⟩:=T.one;obtain⟨z,its,n,r,d,e⟩:=I.lstM i;refine D0 F.slot_list_append ⟨_,e,rfl⟩ F.entry_list_append (F.args_list_append_2 _ _) (PySem.list_append l its.toArray n u (by rw[Ax];omega)) ⟨e,?_⟩;refine⟨.non,_,I.lset (its':=its++[u]) i e (by simp) (r.append<|.cons a .nil) ?_,rfl,q⟩;rw[AD,Bl];omega
def sM:V->List V->Hp->VK->Prop:=λx e H Q=>∃l b xs zs,x=.ref l/\e=[.ref b]/\H l=some (.lst xs)/\H b=some (.lst zs)/\xs.length+zs.length<=sizeLine/\Q .non (upd H l<|.lst<|xs++zs)
def xS:Yz X "list.extend" sM:=by
 intro qp s σ H x y v us Q I c d h;obtain⟨l,b,xs,zs,rfl,rfl,a,f,A,q⟩:=h;cases c;obtain⟨u,rfl,g⟩:=d.one;cases g;obtain⟨z,its,n,r,B,e⟩:=I.lstM a;obtain⟨C,i,j,m,o,w⟩:=I.lstM f;have T:its.toArray.size+i.toArray.size<=sizeLine:=by rw[Ax,Ax];omega
 have p:¬(!its.toArray.isEmpty&&Builtin.List.listTooLong (its.toArray.size+i.toArray.size))=true:=by rw[vV T,Bool.and_false];exact AV
 refine D0 F.slot_list_extend ⟨_,e,rfl⟩ F.entry_list_extend (F.args_list_extend_2 _ _)
  (AutoSeq1.list_extend_list_list_0 l its.toArray n b i.toArray j p (by rw[Ax];omega)<|by omega) ⟨e,w,?_⟩
 refine⟨.non,_,I.lset (its':=its++i) a e (by simp) (r.append m) ?_,rfl,q⟩;rw[AD];omega
def XR:V->List V->Hp->VK->Prop:=λx e H Q=>∃l xs y,x=.ref l/\e=[]/\H l=some (.lst xs)/\xs[xs.length-1]?=some y/\Q y (upd H l<|.lst xs.dropLast)
def oG:Yz X "list.pop" XR:=by
 intro qp s σ H x j v us Q I a b h;obtain⟨l,xs,y,rfl,rfl,T,c,q⟩:=h;cases a;have i:=b.zero;subst i;obtain⟨z,its,n,r,d,e⟩:=I.lstM T;obtain⟨u,f,g⟩:=r.get c;have p:its.toArray[its.toArray.size-1]?=some u:=by show its.toArray[its.length-1]?=some u;rw[<-Bm,<-d];exact f
 refine D0 F.slot_list_pop ⟨_,e,rfl⟩ F.entry_list_pop (F.args_list_pop_1 _) (MeetsSeq.list_pop_last l its.toArray n u p (by rw[Ax];omega)) ⟨e,?_⟩;refine⟨y,_,I.lset (its':=its.dropLast) T e ?_ r.dropLast ?_,g,q⟩
 ·show its.toArray.eraseIdxIfInBounds (its.toArray.size-1)=its.dropLast.toArray;rw[Ax,List.eraseIdxIfInBounds_toArray,zZ]
 rw[List.length_dropLast];omega
def XY:R2:=λx y H Q=>∃l b xs zs,x=.ref l/\y=.ref b/\H l=some (.lst xs)/\H b=some (.lst zs)/\xs.length+zs.length<=sizeLine/\∀p,H p=none->Q (.ref p) (upd H p<|.lst<|xs++zs)
def mY:JU X (binaryOp .Add) XY:=by
 intro qp s σ H x y v u Q I p T h;obtain⟨l,b,xs,zs,rfl,rfl,a,c,m,q⟩:=h;cases p;cases T;obtain⟨z,its,n,r,o,e⟩:=I.lstM a;obtain⟨w,i,A,d,f,g⟩:=I.lstM c;refine PySem.P.add_list e g ?_ (by rw[Ax,Ax];omega);have j:its.toArray++i.toArray=(its++i).toArray:=by simp
 rw[j];exact⟨.ref _,_,I.lnew (t':=s.toks) (r.append d) (by rw[AD];omega),rfl,q _ I.fresh⟩
section
variable {prog:SZ}{w:World}{A:Around}{E:Qqa}
set_option maxRecDepth 100000 in
end
end L2
namespace Att
open PySem PySem.W PySem.Calls PyProof.Rows
def zfm{P:Params}{h:P3}:∀(ns:List Int) (vs:List IR),WellAll P h vs (ns.map WData.int)->IntsAre vs ns:=by
 intro ns
 induction ns with
 |nil=>
  intro vs w;rw[Cd]at w;cases w;exact .nil
 |cons n ns ih=>
  intro vs w;rw[As]at w;cases w with
  |cons a b=>
   cases a;exact .cons _ _<|ih _ b
def zl5{l:OpenLaw}{n:Nat}(hn:l.most=some n){P:Params}{h:P3}{args:List WData}{vals:List IR}(b:l.row.toRowW.claim.pre args=true) (g:WellAll P h vals args):
  ∃a vs ns,vals=[AE a]/\args=[WData.list (ns.map WData.int)]/\h.get? a=some {cls:=.type "list",data:=.seq vs.toArray}/\IntsAre vs ns/\ns.length<=n:=by
 have i:WShape.hasAll [] args [.list .int]=true:=(pre_splitW b).1;have j:l.pre.holds [] {args:=args}=true:=(pre_splitW b).2;obtain⟨d,r,rfl,m,o⟩:=hasAllW_cons i;obtain rfl:=hasAllW_nil o;obtain⟨xs,rfl,p⟩:=hasW_list m;obtain⟨ns,rfl⟩:=items_int p;have hlen:ns.length<=n:=by
  unfold OpenLaw.pre at j;have e:(WTm.not<|.lt (.lit<|.int (n:Int))<|.len<|.arg 0).holds [] {args:=[.list (ns.map .int)]}=true:=by have e:=(holds_andW j).1;rw[hn]at e;exact e
  have f:=condW_of e<|w_not<|w_lt w_lit<|w_len_list<|w_arg rfl;rw[Af]at f;refine Nat.le_of_not_lt λq=>?_;have s:(n:Int)<((ns.length:Nat):Int):=by omega
  first
   |(rw[decide_eq_true s]at f;exact absurd f (by decide))
   |(simp at f;omega)
 cases g with
 |cons u v=>
  cases v;cases u with
  |list w c=>exact⟨_,_,ns,rfl,rfl,w,zfm ns _ c,hlen⟩
def yM(l:OpenLaw)(args:List WData):l.row.toRowW.claim.post args (.bool true) args=true:=
 postW_of (r:=l.row.toRowW) (X:=(true==true))
  (show WShape.has [] (.bool true) .bool=true by first|rfl|decide|simp[WShape.has,WShape.arms,WShape.armsAll])
  (show(WTm.eq .res<|.lit<|.bool true).value [] {args:=args,res:=some (.bool true),after:=args}=some (.bool<|true==true) from w_eq_bool (w_res rfl) w_lit) rfl
def K9{l:OpenLaw}{n:Nat}{q:SZ}{loose:List Str}{XP:(Str->Option IR)->P3->Prop}{YP:World->P3->Prop}{d:DefRec}(hn:l.most=some n) (h:d.params.defaults=[])(call:∀(w:World) (s₀ s₁:Shared) (g i:Str->Option IR) (b:Addr) (o:Obj) (pm cd doc:IR) (a:Addr) (vs:List IR) (ns:List Int),
   Ground q loose [] XP w s₀ g i s₁.heap->YP w s₁.heap ->
   s₁.heap.get? b=some o->o.data=.func (docDef d.name d.params d.body d.scope pm cd doc)->s₁.heap.CodeRec cd d.name->g d.name=some (.ref b) ->
   s₁.heap.get? a=some {cls:=.type "list",data:=.seq vs.toArray}->IntsAre vs ns->ns.length<=n->s₁.gens=#[] ->
   codeAny (KB l.prog w) callerA (.call (.ref b) ⟨[.ref a],[]⟩) (λr s'=>r=.ok (.ret<|.bool true)/\OldK s₁.heap s'.heap/\s'.os=s₁.os/\AllBare s'.gens) s₁):
  WalkO q loose XP YP l.row.toRowW d [] (λf vs=>Gk f vs):=by
 intro w s₀ s₁ g i G Y b o pm cd doc x kV y hd j u m z args vals as c v A p B;obtain rfl:x=.none:=Dflts.none u h;obtain rfl:kV=.none:=Dflts.noKw u;obtain⟨a,vs,ns,rfl,rfl,e,hints,hlen⟩:=zl5 hn c p;refine enter_call<|D5 (call w s₀ s₁ g i b o pm cd doc a vs ns G Y y (fd_plain hd) j m e hints hlen z) λr s' C=>?_;obtain⟨rfl,E,F,H⟩:=C;exact⟨.inl ⟨.bool true,.bool true,[],rfl,λ_=>rfl,.bool true,yM l _,λ_=>⟨Cu,λ_ hm=>(nomatch hm)⟩⟩,E,F,H⟩
end Att
namespace L2
open PySem PySem.Spec PyProof.Rows
theorem cJ:∀{vs:List IR}{ns:List Int},IntsAre vs ns->Vals (ns.map V.int) vs
 |_,_,.nil=>.nil
 |_,_,.cons n t h=>.cons ⟨t,rfl⟩<|cJ h
def MF(H:Hp):Prop:=∀b,H b=none\/∃o xs,H b=some (.frz o<|.lst xs)
variable {P:SZ}{w:World}{K:Ab}{mg:Str->Option IR}{k:Nat}{fd:FuncData}{x:Str}{sp:Sp}
def uG{J:Str->Option IR}{CX:NZ}{L a:Addr}{x:Str}{s₁:Shared}{vs:List IR}{ns:List Int}(U:K.In s₁.heap) (j:s₁.heap.Ns UV mg) (f:s₁.heap.Ns builtinsNs J) (M:∀x:Str,x≠"__name__"->J x=UF x) (l:s₁.heap.NoLimit) (hg:s₁.gens=#[])(I:s₁.heap.get? a=some {cls:=.type "list",data:=.seq vs.toArray}) (hi:IntsAre vs ns) (W:ns.length<=sizeLine) (hr:HK k callerA)(F:∀base:P3,K.In base->base.Ns UV mg->I0 P w K mg base CX k L fd [x] sp) (i:∀(s:Shared) (u:IR),BindsTo s fd ⟨[u],[]⟩ [(x,u)])(N:∀H:Hp,MF H->JL K H a (ns.map V.int)->sp [.ref a] H (λv _=>v=.bl true) λ_ _ _=>False)(Q:∀H e s',CX [] H s₁ (λ_ _ _=>False) e s'->False):
  codeAny (KB P w) callerA (.call (.ref L) ⟨[.ref a],[]⟩) (λr s'=>r=.ok (.ret (.bool true))/\OldK s₁.heap s'.heap/\s'.os=s₁.os/\AllBare s'.gens) s₁:=by
 have X:=cJ hi;have p:=hi.length;have core:∀H:Hp,MF H->JL K H a (ns.map V.int)->Jz P w H s₁.heap->(∀b,H b≠none->b=a)->(H a≠none->K.lookup a=none) ->
   codeAny (KB P w) callerA (.call (.ref L) ⟨[.ref a],[]⟩) (λr s'=>r=.ok (.ret (.bool true))/\OldK s₁.heap s'.heap/\s'.os=s₁.os/\AllBare s'.gens) s₁:=by
  intro H Y hS y Z hK;have c:∀{b:Addr}{o:Obj},s₁.heap.get? b=some o->H b=none->(KJ s₁.heap H).get? b=some o:=λe n=>uA e n;have S:∀{b:Addr}{o:Obj}{A:Array DictEntry}{B:Nat},s₁.heap.get? b=some o->o.data=.dict A B->H b=none:=λ{b o A B} e d=>by
   cases q:H b with
   |none=>rfl
   |some u=>
    have T:b=a:=Z b (by rw[q];simp);subst T;rw[I]at e;cases e;have d':Data.seq vs.toArray _=Data.dict A B:=d;cases d'
  have g:∀{b:Addr}{m:Str->Option IR},s₁.heap.Ns b m->(KJ s₁.heap H).Ns b m:=λ{b m} ⟨o,A,B,e,d,r⟩=>⟨o,A,B,c e (S e d),d,r⟩;have C:K.In (KJ s₁.heap H):=λb o e=>c (U b o e) (by
   cases q:H b with
   |none=>rfl
   |some u=>
    have T:b=a:=Z b (by rw[q];simp);subst T;rw[hK (by rw[q];simp)]at e;cases e)
  have hM:Mod K mg (KJ s₁.heap H):=⟨C,g j,⟨J,g f,M⟩,let ⟨mc,h1,h2⟩:=l;⟨mc,g h1,h2⟩⟩;have e0:Ls P w K mg (KJ s₁.heap H) callerA [] s₁ H:=⟨rfl,hM,λb o e=>pZ e,D3 (yY _ _),trivial,λb f=>absurd (show b∈([]:List Addr) from f) (by simp),y,.of_eq hg⟩
  refine D5 ((F _ C (g j)).run callerA [] s₁ H ⟨[.ref a],[]⟩ [.ref a] [.ref a] _ _ hr e0 (i s₁ (.ref a)) (.cons rfl .nil) (N H Y hS)) λr s' h=>?_;cases r with
  |error e=>exact(Q H e s' h).elim
  |ok fl=>
   cases fl with
   |next=>exact False.elim h
   |brk=>exact False.elim h
   |cont=>exact False.elim h
   |ret u=>
    obtain⟨v,H',os,bare,un,E,r',q⟩:=h;have q':v=.bl true:=q;subst q';obtain rfl:u=E4 true:=r';refine⟨rfl,OldK.of_keep λb o e=>?_,os,bare⟩;cases q:H b with
    |none=>exact un.keep b o e q (by intro z;exact absurd (show b∈([]:List Addr) from z) (by simp)) (by simp)
    |some u=>
     rcases Y b with z|⟨ob,xs,z⟩
     ·rw[q]at z;cases z
     have z2:=un.frzs b ob _ z;obtain⟨e1,_⟩:=y b _ z;obtain⟨e2,_⟩:=E b _ z2;rw[e]at e1;cases e1;exact e2
 cases hk:K.lookup a with
 |some o=>
  have e:=U a o hk;rw[I]at e;cases e;refine core (λ_=>none) (λ_=>.inl rfl) (.inr ⟨_,vs.toArray,_,hk,rfl,rfl,rfl,by rw[Ax,p];exact W,by simpa using X⟩) (λb u z=>by have G:(none:Option HO)=some u:=z;cases G) (λb z=>absurd rfl z) λz=>absurd rfl z
 |none=>
  refine core (λb=>if b=a then some (.frz {cls:=.type "list",data:=.seq vs.toArray} (.lst (ns.map V.int)))else none) (λb=>?_) (.inl (.inr ⟨{cls:=.type "list",data:=.seq vs.toArray},if_pos rfl⟩)) (λb u z=>?_) (λb z=>?_) λ_=>hk
  ·by_cases f:b=a
   ·exact .inr ⟨_,_,if_pos f⟩
   exact .inl (if_neg f)
  ·by_cases f:b=a
   ·have G:=(if_pos f).symm.trans z;cases G;subst f;exact⟨I,by rw[Af];exact W,vs,_,X,I⟩
   have G:=(if_neg f).symm.trans z;cases G
  ·by_cases f:b=a
   ·exact f
   exact absurd (if_neg f) z
def NA{l:PySem.W.OpenLaw}{n:Nat}{q:SZ}{loose:List Str}{XP:(Str->Option IR)->P3->Prop}{YP:World->P3->Prop}{d:DefRec}{K:Params->Ab}{CX:World->NZ}{sp:World->Sp}(hn:l.most=some n) (i:n<=sizeLine) (j:d.params.defaults=[]) (z:HK k callerA)(A:∀(w:World) (h:P3),YP w h->(K w.params).In h)(F:∀(w:World) (mg:Str->Option IR) (c:Addr) (h:P3),(K w.params).In h->h.Ns UV mg->mg d.name=some (.ref c) ->
   ∃fd:FuncData,(∀(s:Shared) (u:IR),BindsTo s fd ⟨[u],[]⟩ [(x,u)]) /\
    ∀base:P3,(K w.params).In base->base.Ns UV mg->I0 l.prog w (K w.params) mg base (CX w) k c fd [x] (sp w))
  (m:∀(w:World) (H:Hp) (a:Addr) (ns:List Int),ns.length<=n->MF H->JL (K w.params) H a (ns.map V.int)->sp w [.ref a] H (λv _=>v=.bl true) λ_ _ _=>False)
  (p:∀(w:World) (H:Hp) (s:Shared) (e:IR) (s':Shared),CX w [] H s (λ_ _ _=>False) e s'->False):
  PySem.W.WalkO q loose XP YP l.row.toRowW d [] (λf vs=>Gk f vs):=by
 refine Att.K9 hn j λw s₀ s₁ mg M c o pm cd doc a vs ns G Y N hd B r P hints hlen C=>?_;have y:=A w _ Y;obtain⟨fd,E,I⟩:=F w mg c _ y G.T.g r;exact uG y G.T.g G.T.b G.T.builtins G.T.nolimit C P hints (AA hlen i) z I E (λH J L=>m w H a ns hlen J L) λH e s'=>p w H s₁ e s'
def inClass(s:W1)(j:Nat):W1:=match s with
 |.ClassDef _ _ _ body _ _ _ _ _ _ _=>body.getD j<|.Pass ⟨0,0,0,0⟩
 |_=>.Pass ⟨0,0,0,0⟩
def LN(s:W1):Arguments:=match s with
 |.FunctionDef _ a _ _ _ _ _ _ _ _=>a
 |_=>{posonlyargs:=[],args:=[],vararg:=none,kwonlyargs:=[],kw_defaults:=[],kwarg:=none,defaults:=[]}
def Kf(s:W1):List W1:=match s with
 |.FunctionDef _ _ b _ _ _ _ _ _ _=>b
 |_=>[]
def IW(s:W1):Scope:=match s with
 |.FunctionDef _ _ _ _ _ _ sc _ _ _=>sc
 |_=>{kind:=.function,names:=[],isGenerator:=false,isCoroutine:=false}
noncomputable abbrev Kx:NZ:=λ_ _ _ _ _ _=>False
noncomputable abbrev E0:XK:=λ_ _ _=>False
def Sy{X:Cx}:Passes Kx X E0:=λ_ _ _ _ _ _ _ h=>h.elim
structure MK(K:Ab)(x qual:Str)(st:W1)(f:Addr)(fd:FuncData):Prop where
 ex:∃(oc:IR) (od:Option Addr) (kV doc pm:IR) (an:Option Addr) (cdv ct:IR) (osl:Array (Option IR)),
  fd=Br x qual (LN st) (Kf st) (IW st) .none kV doc pm an cdv ct/\K.lookup f=some ⟨oc,od,.func fd,osl⟩/\Ca K cdv qual=true
 kp:Bd K (.ref f)=true
variable {qual:Str}{st:W1}{f:Addr}{ps:List Str}
section
variable {base:P3}
def MK.ok{N:List Str}(F:MK K x qual st f fd)(S:IQ N ps (IW st))(len:∀vs H Q E,sp vs H Q E->vs.length=ps.length)(b:∀(a:IR) (A:Around) (outer:List Env) (s:Shared) (H:Hp) (vs:List V) (Q:VK) (E:XK),HK k (A.deeper<|envOfC qual (IW st) s.heap.objs.size f a)->sp vs H Q E ->
   ∃t,KO (JK Kx P w K mg base N qual (IW st) f a A outer s H E).nox (Kf st) t/\t {nx:=λ_ e=>Q .non e,rt:=Q} (start N vs) H):I0 P w K mg base Kx (k+1) f fd ps sp:=by
 obtain⟨l,m,kV,doc,pm,an,a,n,g,rfl,i,c⟩:=F.ex;refine iZ i c S len λA outer s H vs Q E j d=>?_;obtain⟨t,h,q⟩:=b a A outer s H vs Q E j d;exact⟨t,h.nox,q⟩
def MK.binds(F:MK K x qual st f fd)(h:∀(kV doc pm:IR) (an:Option Addr) (a b:IR) (us:List IR),us.length=ps.length->bindArgs (Br x qual (LN st) (Kf st) (IW st) .none kV doc pm an a b) ⟨us,[]⟩=pure (ps.zip us)):Binds K fd ps []:=by
 obtain⟨c,d,kV,doc,pm,an,a,b,w,rfl,e,P⟩:=F.ex;exact .all<|h kV doc pm an a b
def OS{x qual:Str}{st:W1}{e:IR}{g an:Option Addr}{b:Array (Option IR)}{kV doc pm a d:IR}(l:K.lookup f=some ⟨e,g,.func<|Br x qual (LN st) (Kf st) (IW st) .none kV doc pm an a d,b⟩)(c:Ca K a qual=true) (k:Bd K (.ref f)=true):MK K x qual st f (Br x qual (LN st) (Kf st) (IW st) .none kV doc pm an a d):=⟨⟨e,g,kV,doc,pm,an,a,d,b,rfl,l,c⟩,k⟩
end
def Hv{A:Around}(a:HK k A):A.units+1<cLine:=BM (Dy (by decide:1<=64) _) a.units
end L2
namespace L2.MP
open PySem PySem.Spec PyProof.Rows
inductive D where
 |non|bl (b:Bool)|int (i:Int)|str (x:Str)|tup (xs:List D)|ref (n:Nat)|kl (xs:List D)|fn (x:Str)|er (b:Bool) (c:Str) (f:Option (Str×Int))
inductive O where
 |lst (xs:List D)|fz (xs:List D)|dk (kvs:List (Key×D))|dt (kvs:List (List Key×D))|fk (kvs:List (Key×D))|ft (kvs:List (List Key×D))|ob (C:Addr) (fs:List (Str×D))|sz (n:Nat)|dz
noncomputable abbrev Hf:=List O
noncomputable abbrev Ii:=List (Option D)
structure Kp(H H':Hp):Prop where
 tup:∀a xs,H a=some (.tup xs)->H' a=some (.tup xs)
 frz:∀a o u,H a=some (.frz o u)->H' a=some (.frz o u)
def Nb(K:Ab)(H:Hp)(a:Addr)(xs:List V):Prop:=(∃o,H a=some (.frz o<|.lst xs))\/∃(o:Obj) (b:Array IR) (n:Nat),K.lookup a=some o/\o.cls=.type "list"/\o.dict=none/\o.data=.seq b n/\b.size<=sizeLine/\Vals xs b.toList
variable {K:Ab}{H:Hp}{a:Addr}{xs:List V}
def Nb.sq(h:Nb K H a xs):JL K H a xs:=by
 rcases h with h|h
 ·exact .inl<|.inr h
 exact .inr h
variable {H':Hp}
def Nb.kp(T:Kp H H')(h:Nb K H a xs):Nb K H' a xs:=by
 rcases h with⟨o,h⟩|h
 ·exact .inl ⟨o,T.frz _ _ _ h⟩
 exact .inr h
def YC(K:Ab)(x:Str)(a:Addr):Prop:=Dm K UV x=some (some<|.ref a)
def gW(C a:Addr)(b:Option Addr)(h:P3):Prop:=∃o fs,h.get? a=some o/\o.cls=.ref C/\o.dict=b/\o.data=.fields fs
def UL(K:Ab)(H:Hp)(v:V)(c:Str):Option (Str×Int)->Prop
 |none=>∃a C o,v=.ref a/\YC K c C/\H a=some (.frz o<|.ext<|gW C a none)
 |some (f,n)=>∃a C o b d,v=.ref a/\YC K c C/\H a=some (.frz o<|.ext<|gW C a<|some b)/\H b=some (.frz d<|.xd [(f,.int n)])
variable {v:V}
def UL.kp{c:Str}{f:Option (Str×Int)}(T:∀a o u,H a=some (.frz o u)->(∀ps,u≠.dT ps)->H' a=some (.frz o u))(h:UL K H v c f):UL K H' v c f:=by
 cases f with
 |none=>
  obtain⟨a,C,o,e,q,r⟩:=h;exact⟨a,C,o,e,q,T _ _ _ r<|by simp⟩
 |some p=>
  obtain⟨a,C,o,b,d,e,q,r,z⟩:=h;exact⟨a,C,o,b,d,e,q,T _ _ _ r<|by simp,T _ _ _ z<|by simp⟩
mutual
def Rep(K:Ab)(H:Hp)(io:List Addr):V->D->Prop
 |v,.non=>v=.non
 |v,.bl b=>v=.bl b
 |v,.int i=>v=.int i
 |v,.str x=>v=.str x
 |v,.tup ds=>∃a xs,v=.ref a/\H a=some (.tup xs)/\Hi K H io xs ds
 |v,.ref n=>∃a,v=.ref a/\io[n]?=some a
 |v,.kl ds=>∃a xs,v=.ref a/\Nb K H a xs/\Hi K H io xs ds
 |v,.fn x=>∃a,v=.ref a/\YC K x a
 |v,.er b c f=>b=true/\UL K H v c f
def Hi(K:Ab)(H:Hp)(io:List Addr):List V->List D->Prop
 |xs,[]=>xs=[]
 |xs,d::ds=>∃y b,xs=y::b/\Rep K H io y d/\Hi K H io b ds
end
variable {io ka:List Addr}
mutual
theorem Rep.mono{K:Ab}{H H':Hp}{io ka:List Addr}(T:Kp H H'):∀{v:V}{d:D},Rep K H io v d->Rep K H' (io++ka) v d
 |_,.non,h=>h
 |_,.bl _,h=>h
 |_,.int _,h=>h
 |_,.str _,h=>h
 |_,.tup ds,h=>by obtain⟨a,xs,e,q,r⟩:=h;exact⟨a,xs,e,T.tup a xs q,Hi.mono T r⟩
 |_,.ref n,h=>by obtain⟨a,e,q⟩:=h;exact⟨a,e,by rw[Aj (KF.mp q).1];exact q⟩
 |_,.kl ds,h=>by obtain⟨a,xs,e,q,r⟩:=h;exact⟨a,xs,e,q.kp T,Hi.mono T r⟩
 |_,.fn _,h=>h
 |_,.er _ _ _,h=>⟨h.1,h.2.kp λa o u q _=>T.frz a o u q⟩
theorem Hi.mono{K:Ab}{H H':Hp}{io ka:List Addr}(T:Kp H H'):∀{xs:List V}{ds:List D},Hi K H io xs ds->Hi K H' (io++ka) xs ds
 |_,[],h=>h
 |_,d::ds,h=>by obtain⟨y,b,e,r,rs⟩:=h;exact⟨y,b,e,Rep.mono T r,Hi.mono T rs⟩
end
variable {H1 H2:Hp}{kb:List Addr}{st st':Hf}{d:D}{o:HO}{U:Ii}{p:Addr}{ob:O}
section
variable {ys:List V}{ds es:List D}
theorem Hi.length:∀{xs:List V}{ds:List D},Hi K H io xs ds->xs.length=ds.length
 |_,[],h=>by rw[show _=[] from h];rfl
 |_,d::ds,h=>by obtain⟨y,ys,e,_,rs⟩:=h;rw[e,Au,Au,Hi.length rs]
theorem Hi.get:∀{xs:List V}{ds:List D}{i:Nat}{d:D},Hi K H io xs ds->ds[i]?=some d->∃v,xs[i]?=some v/\Rep K H io v d
 |_,[],_,_,_,e=>by simp at e
 |_,a::ds,0,d,h,e=>by
  obtain⟨y,ys,rfl,r,_⟩:=h;have o:a=d:=by simpa using e
  subst o;exact⟨y,rfl,r⟩
 |_,a::ds,i+1,d,h,e=>by obtain⟨y,ys,rfl,_,rs⟩:=h;exact Hi.get (i:=i) rs<|by simpa using e
theorem Hi.append:∀{xs ys:List V}{ds es:List D},Hi K H io xs ds->Hi K H io ys es->Hi K H io (xs++ys) (ds++es)
 |_,_,[],_,h,q=>by rw[show _=[] from h];exact q
 |_,_,d::ds,_,h,q=>by obtain⟨y,ys,rfl,r,rs⟩:=h;exact⟨y,_,rfl,r,Hi.append rs q⟩
theorem Hi.set:∀{xs:List V}{ds:List D}{v:V}{d:D} (i:Nat),Hi K H io xs ds->Rep K H io v d->Hi K H io (xs.set i v) (ds.set i d)
 |_,[],_,_,_,h,_=>by rw[show _=[] from h];exact rfl
 |_,a::ds,v,d,0,h,q=>by obtain⟨y,ys,rfl,_,rs⟩:=h;exact⟨v,ys,rfl,q,rs⟩
 |_,a::ds,v,d,i+1,h,q=>by obtain⟨y,ys,rfl,r,rs⟩:=h;exact⟨y,_,rfl,r,Hi.set i rs q⟩
theorem Hi.take:∀{xs:List V}{ds:List D} (n:Nat),Hi K H io xs ds->Hi K H io (xs.take n) (ds.take n)
 |_,[],n,h=>by rw[show _=[] from h];simp[Hi]
 |_,_::_,0,_=>by simp[Hi]
 |_,d::ds,n+1,h=>by obtain⟨y,ys,rfl,r,rs⟩:=h;exact⟨y,_,rfl,r,Hi.take n rs⟩
theorem Hi.drop:∀{xs:List V}{ds:List D} (n:Nat),Hi K H io xs ds->Hi K H io (xs.drop n) (ds.drop n)
 |_,[],n,h=>by rw[show _=[] from h];simp[Hi]
 |_,_::_,0,h=>h
 |_,d::ds,n+1,h=>by obtain⟨y,ys,rfl,r,rs⟩:=h;exact Hi.drop n rs
theorem Hi.nil:Hi K H io [] []:=rfl
def Hi.cons(r:Rep K H io v d)(rs:Hi K H io xs ds):Hi K H io (v::xs) (d::ds):=⟨v,xs,rfl,r,rs⟩
def Hi.one(r:Hi K H io xs [d]):∃v,xs=[v]/\Rep K H io v d:=by
 obtain⟨y,ys,rfl,r,e⟩:=r;cases (show ys=[] from e)
 exact⟨y,rfl,r⟩
def Hi.two{e:D}(r:Hi K H io xs [d,e]):∃v u,xs=[v,u]/\Rep K H io v d/\Rep K H io u e:=by obtain⟨y,ys,rfl,r,q⟩:=r;obtain⟨v,rfl,a⟩:=q.one;exact⟨y,v,rfl,r,a⟩
noncomputable abbrev KR (κ:Type) (K:Ab) (H:Hp) (io:List Addr):List (κ×V)->List (κ×D)->Prop:=Paired λ(p:κ×V) (q:κ×D)=>p.1=q.1/\Rep K H io p.2 q.2
def Yy(a:Addr)(n:Nat)(h:P3):Prop:=∃o es d t,h.get? a=some o/\o.ExactSet/\o.data=.set es d t/\es.size<scanBound/\t.fits es.size=true/\es.size=n
def gX(a:Addr)(h:P3):Prop:=∃o es d,h.get? a=some o/\o.ExactDict/\o.data=.dict es d
def OR(K:Ab)(H:Hp)(io:List Addr)(a:Addr):O->Prop
 |.lst ds=>∃xs,H a=some (.lst xs)/\Hi K H io xs ds
 |.fz ds=>∃o xs,H a=some (.frz o<|.lst xs)/\Hi K H io xs ds
 |.dk kvs=>∃ps,H a=some (.dK ps)/\KR Key K H io ps kvs
 |.dt kvs=>∃ps,H a=some (.dT ps)/\KR (List Key) K H io ps kvs
 |.fk kvs=>∃o ps,H a=some (.frz o<|.dK ps)/\KR Key K H io ps kvs
 |.ft kvs=>∃o ps,H a=some (.frz o<|.dT ps)/\KR (List Key) K H io ps kvs
 |.ob C fs=>∃b ps,H a=some (.ins C b ps)/\KR Str K H io ps fs
 |.sz n=>H a=some (.ext<|Yy a n)
 |.dz=>H a=some (.ext<|gX a)
structure HA(K:Ab)(H:Hp)(io:List Addr)(st:Hf):Prop where
 len:io.length=st.length
 nd:io.Nodup
 ob:∀(n:Nat) (a:Addr) (o:O),io[n]?=some a->st[n]?=some o->OR K H io a o
structure HJ(K:Ab)(H:Hp)(io:List Addr)(σ:St)(U:Ii):Prop where
 len:σ.length=U.length
 at_:∀(i:Nat) (d:D),U[i]?=some (some d)->∃v,σ[i]?=some (some v)/\Rep K H io v d
structure Ext(io ka:List Addr)(H H':Hp):Prop where
 keep:∀b o,H b=some o->b∉io->H' b=some o
 fresh:∀b,b∈ka->H b=none
 frz:∀b o u,H b=some (.frz o u)->H' b=some (.frz o u)
def OR.stands{o:O}(h:OR K H io a o):∃u,H a=some u/\∀xs,u≠.tup xs/\∀ob,u≠.frz ob (.tup xs):=by
 cases o with
 |lst ds=>obtain⟨xs,e,_⟩:=h;exact⟨_,e,λ_=>⟨by simp,by simp⟩⟩
 |fz ds=>obtain⟨ob,xs,e,_⟩:=h;exact⟨_,e,λ_=>⟨by simp,by simp⟩⟩
 |dk d=>obtain⟨xs,e,_⟩:=h;exact⟨_,e,λ_=>⟨by simp,by simp⟩⟩
 |dt d=>obtain⟨xs,e,_⟩:=h;exact⟨_,e,λ_=>⟨by simp,by simp⟩⟩
 |fk d=>obtain⟨ob,xs,e,_⟩:=h;exact⟨_,e,λ_=>⟨by simp,by simp⟩⟩
 |ft d=>obtain⟨ob,xs,e,_⟩:=h;exact⟨_,e,λ_=>⟨by simp,by simp⟩⟩
 |ob C fs=>obtain⟨p,xs,e,_⟩:=h;exact⟨_,e,λ_=>⟨by simp,by simp⟩⟩
 |sz n=>exact⟨_,h,λ_=>⟨by simp,by simp⟩⟩
 |dz=>exact⟨_,h,λ_=>⟨by simp,by simp⟩⟩
def HA.mem(S:HA K H io st)(h:a∈io):∃u,H a=some u/\∀xs,u≠.tup xs/\∀ob,u≠.frz ob (.tup xs):=by
 obtain⟨n,d,e⟩:=Dz h;have o:io[n]?=some a:=by rw[Ai d,e]
 have p:n<st.length:=by rw[<-S.len];exact d
 exact(S.ob n a _ o<|Ai p).stands
def Ext.sqT(S:HA K H io st)(E:Ext io ka H H'):∀a xs,H a=some (.tup xs)->H' a=some (.tup xs):=by intro a xs h;refine E.keep _ _ h λm=>?_;obtain⟨u,e,q⟩:=S.mem m;rw[h]at e;exact(q xs).1 (Az e).symm
def Ext.kp(S:HA K H io st)(E:Ext io ka H H'):Kp H H':=⟨E.sqT S,E.frz⟩
def Ext.refl:Ext io [] H H:=⟨λ_ _ h _=>h,λ_ h=>absurd h (by simp),λ_ _ _ h=>h⟩
def Ext.trans(S1:HA K H1 (io++ka) st)(E1:Ext io ka H H1)(E2:Ext (io++ka) kb H1 H2):Ext io (ka++kb) H H2 where
 keep:=λb o h n=>E2.keep b o (E1.keep b o h n) λm=>by
  rcases Os.mp m with m|m
  ·exact n m
  rw[E1.fresh b m]at h;cases h
 fresh:=λb m=>by
  rcases Os.mp m with m|m
  ·exact E1.fresh b m
  ·have a:=E2.fresh b m
   cases e:H b with
   |none=>rfl
   |some o=>
    by_cases d:b∈io
    ·obtain⟨u,p,_⟩:=S1.mem<|AK _ d;rw[p]at a;cases a
    rw[E1.keep b o e d]at a;cases a
 frz:=λb o u h=>E2.frz b o u (E1.frz b o u h)
def Ext.app(E:Ext io (ka++[]) H H'):Ext io ka H H':=by rw[Ao]at E;exact E
def Rep.ext(S:HA K H io st)(E:Ext io ka H H')(h:Rep K H io v d):Rep K H' (io++ka) v d:=Rep.mono (E.kp S) h
def Hi.ext(S:HA K H io st)(E:Ext io ka H H')(h:Hi K H io xs ds):Hi K H' (io++ka) xs ds:=Hi.mono (E.kp S) h
def HJ.ext{σ:St}{U:Ii}(h:HJ K H io σ U)(S:HA K H io st)(E:Ext io ka H H'):HJ K H' (io++ka) σ U:=⟨h.len,λi d e=>let ⟨v,q,r⟩:=h.at_ i d e;⟨v,q,r.ext S E⟩⟩
def HJ.set{σ:St}{U:Ii}{v:V}{d:D}(i:Nat)(h:HJ K H io σ U)(r:Rep K H io v d):HJ K H io (σ.set i<|some v) (U.set i<|some d):=by
 refine⟨by rw[Bf,Bf];exact h.len,λj e q=>?_⟩
 by_cases hij:i=j
 ·subst hij;rw[C7]at q;rw[if_pos rfl]at q
  split at q
  ·rename_i a
   cases (Az<|Az q)
   exact⟨v,by rw[C7,if_pos rfl,if_pos (by rw[h.len];exact a)],r⟩
  ·cases q
 rw[Ag hij]at q;obtain⟨u,o,p⟩:=h.at_ j e q;exact⟨u,by rw[Ag hij];exact o,p⟩
def HA.nil(S:HA K H io st):HA K H (io++[]) st:=by rw[Ao];exact S
def KR.mono{κ:Type}{ps:List (κ×V)}{kvs:List (κ×D)}(T:Kp H H')(h:KR κ K H io ps kvs):KR κ K H' (io++ka) ps kvs:=Paired.mapP h λ_ _ z=>⟨z.1,Rep.mono T z.2⟩
def OR.mono{a:Addr}{o:O}(T:Kp H H')(e:H' a=H a)(h:OR K H io a o):OR K H' (io++ka) a o:=by
 cases o with
 |lst ds=>obtain⟨xs,q,r⟩:=h;exact⟨xs,e.trans q,Hi.mono T r⟩
 |fz ds=>obtain⟨ob,xs,q,r⟩:=h;exact⟨ob,xs,e.trans q,Hi.mono T r⟩
 |dk d=>obtain⟨xs,q,r⟩:=h;exact⟨xs,e.trans q,KR.mono T r⟩
 |dt d=>obtain⟨xs,q,r⟩:=h;exact⟨xs,e.trans q,KR.mono T r⟩
 |fk d=>obtain⟨ob,xs,q,r⟩:=h;exact⟨ob,xs,e.trans q,KR.mono T r⟩
 |ft d=>obtain⟨ob,xs,q,r⟩:=h;exact⟨ob,xs,e.trans q,KR.mono T r⟩
 |ob C fs=>obtain⟨p,xs,q,r⟩:=h;exact⟨p,xs,e.trans q,KR.mono T r⟩
 |sz n=>exact e.trans h
 |dz=>exact e.trans h
def Q6(S:HA K H io st)(c:H p=none):Ext io [] H (upd H p o)/\HA K (upd H p o) (io++[]) st:=by
 have E:Ext io [] H (upd H p o):=⟨λb u h _=>by rw[HW (J7 h c)];exact h,λ_ h=>absurd h (by simp),λb u v h=>by rw[HW (J7 h c)];exact h⟩
 refine⟨E,?_⟩;refine⟨by rw[Ao];exact S.len,by rw[Ao];exact S.nd,λn a ob d U=>?_⟩;rw[Ao]at d;obtain⟨u,e,_⟩:=(S.ob n a ob d U).stands;exact OR.mono (E.kp S) (HW<|J7 e c)<|S.ob n a ob d U
def PJ(S:HA K H io st)(c:H p=none)(new:∀H',Kp H H'->H' p=some o->OR K H' (io++[p]) p ob):Ext io [p] H (upd H p o)/\HA K (upd H p o) (io++[p]) (st++[ob]):=by
 have E:Ext io [p] H (upd H p o):=⟨λb u h _=>by rw[HW (J7 h c)];exact h,λb h=>by rw[KM.mp h];exact c,λb u v h=>by rw[HW (J7 h c)];exact h⟩
 have np:p∉io:=λm=>by obtain⟨u,g,_⟩:=S.mem m;rw[c]at g;cases g
 refine⟨E,by simp[S.len],?_,λn a U d f=>?_⟩
 ·rw[FP];refine⟨S.nd,by simp,λa i b j=>?_⟩;rw[KM.mp j];rintro rfl;exact np i
 ·by_cases hn:n<io.length
  ·rw[Aj hn]at d;rw[Aj (by rw[<-S.len];exact hn)]at f;obtain⟨u,g,_⟩:=(S.ob n a U d f).stands;exact OR.mono (E.kp S) (HW<|J7 g c)<|S.ob n a U d f
  ·have l:n<(io++[p]).length:=(KF.mp d).1;rw[AD,Bl]at l;have e:n=io.length:=by omega
   subst e;rw[AY (Ah _),Do]at d;rw[S.len,AY (Ah _),Do]at f;cases (Az d);cases (Az f);exact new _ (E.kp S) Lc
def MY{n:Nat}{o:HO}{old:O}(S:HA K H io st)(hn:io[n]?=some p)(g:st[n]?=some old)(nf:∀o u,H p≠some (.frz o u))(new:∀H',Kp H H'->H' p=some o->OR K H' (io++[]) p ob):Ext io [] H (upd H p o)/\HA K (upd H p o) (io++[]) (st.set n ob):=by
 have f:p∈io:=AF hn;have E:Ext io [] H (upd H p o):=⟨λb u h nb=>by rw[HW (λe=>nb (by rw[e];exact f))];exact h,λb h=>absurd h (by simp),λb u v h=>by
  by_cases hb:b=p
  ·subst hb;exact absurd h<|nf u v
  rw[HW hb];exact h⟩
 refine⟨E,by simp[S.len],by rw[Ao];exact S.nd,λm a U h1 d=>?_⟩;rw[Ao]at h1
 by_cases hm:m=n
 ·subst hm;rw[hn]at h1
  cases (Az h1);rw[C7,if_pos rfl]at d;split at d
  ·cases (Az d)
   exact new _ (E.kp S) Lc
  ·cases d
 ·rw[Ag (λe=>hm e.symm)]at d;have c:a≠p:=λe=>by
   subst e;exact hm<|(FQ (KF.mp h1).1 S.nd).mp<|h1.trans hn.symm
  exact OR.mono (E.kp S) (HW c)<|S.ob m a U h1 d
end
noncomputable abbrev ME:=Ii->Hf->Option (D×Hf)
noncomputable abbrev MT:=Ii->Hf->Option (Bool×Hf)
noncomputable abbrev MA:=Ii->Hf->Option (List D×Hf)
inductive Fl where
 |nx (U:Ii)|rt (d:D)|bk (U:Ii)|ct (U:Ii)
noncomputable abbrev MS:=Ii->Hf->Option (Fl×Hf)
noncomputable abbrev MG:=D->Ii->Hf->Option (Ii×Hf)
noncomputable abbrev NU:=List D->Ii->Hf->Option (Ii×Hf)
def Bh(K:Ab)(io:List Addr)(H:Hp)(st':Hf)(d:D)(Q:VK):Prop:=∀v H' ka,Ext io ka H H'->HA K H' (io++ka) st'->Rep K H' (io++ka) v d->Q v H'
inductive tE (K:Ab) (m:ME) (σ:L2.St) (H:Hp) (Q:VK):Prop
 |mk (U:Ii) (st:Hf) (io:List Addr) (d:D) (st':Hf) (h1:HJ K H io σ U) (h2:HA K H io st) (h3:m U st=some (d,st')) (h4:Bh K io H st' d Q)
inductive tT (K:Ab) (m:MT) (σ:L2.St) (H:Hp) (Q:Bool->Hp->Prop):Prop
 |mk (U:Ii) (st:Hf) (io:List Addr) (b:Bool) (st':Hf) (h1:HJ K H io σ U) (h2:HA K H io st) (h3:m U st=some (b,st')) (h4:∀H' ka,Ext io ka H H'->HA K H' (io++ka) st'->Q b H')
inductive tA (K:Ab) (m:MA) (σ:L2.St) (H:Hp) (Q:List V->Hp->Prop):Prop
 |mk (U:Ii) (st:Hf) (io:List Addr) (ds:List D) (st':Hf) (h1:HJ K H io σ U) (h2:HA K H io st) (h3:m U st=some (ds,st')) (h4:∀vs H' ka,Ext io ka H H'->HA K H' (io++ka) st'->Hi K H' (io++ka) vs ds->Q vs H')
def tS(K:Ab)(m:MS):TS:=λN σ H=>∃U st io f st',HJ K H io σ U/\HA K H io st/\m U st=some (f,st') /\
 match f with
 |.nx a=>∀σ' H' ka,Ext io ka H H'->HA K H' (io++ka) st'->HJ K H' (io++ka) σ' a->N.nx σ' H'
 |.bk a=>∀σ' H' ka,Ext io ka H H'->HA K H' (io++ka) st'->HJ K H' (io++ka) σ' a->N.bk σ' H'
 |.ct a=>∀σ' H' ka,Ext io ka H H'->HA K H' (io++ka) st'->HJ K H' (io++ka) σ' a->N.ct σ' H'
 |.rt d=>Bh K io H st' d N.rt
inductive tG (K:Ab) (m:MG) (v:V) (σ:L2.St) (H:Hp) (Q:L2.St->Hp->Prop):Prop
 |mk (d:D) (U:Ii) (st:Hf) (io:List Addr) (U':Ii) (st':Hf) (h0:Rep K H io v d) (h1:HJ K H io σ U) (h2:HA K H io st) (h3:m d U st=some (U',st')) (h4:∀σ' H' ka,Ext io ka H H'->HA K H' (io++ka) st'->HJ K H' (io++ka) σ' U'->Q σ' H')
inductive tGs (K:Ab) (m:NU) (vs:List V) (σ:L2.St) (H:Hp) (Q:L2.St->Hp->Prop):Prop
 |mk (ds:List D) (U:Ii) (st:Hf) (io:List Addr) (U':Ii) (st':Hf) (h0:Hi K H io vs ds) (h1:HJ K H io σ U) (h2:HA K H io st) (h3:m ds U st=some (U',st')) (h4:∀σ' H' ka,Ext io ka H H'->HA K H' (io++ka) st'->HJ K H' (io++ka) σ' U'->Q σ' H')
def SE(X:Cx)(e:Pv)(m:ME):Prop:=PE X e<|tE X.K m
def SB(X:Cx)(e:Pv)(m:MT):Prop:=PT X e<|tT X.K m
def SA(X:Cx)(es:List Pv)(m:MA):Prop:=PA X es<|tA X.K m
def SS(X:Cx)(s:W1)(m:MS):Prop:=PS X s<|tS X.K m
def KN(X:Cx)(s:List W1)(m:MS):Prop:=KO X s<|tS X.K m
def SG(X:Cx)(e:Pv)(m:MG):Prop:=PG X e<|tG X.K m
def UH(X:Cx)(e:List Pv)(m:NU):Prop:=Nc X e<|tGs X.K m
variable {σ:L2.St}{b:Bool}{pos:Pos}{t u:TT}{Q:VK}{op:CmpOp}{s1:Hf}{rs:List Pv}
section
variable {X:Cx}{e a b c:Pv}{es:List Pv}{st1 st2:W1}{rest body orelse:List W1}{m ma mb mc:ME}{mt mu:MT}{mm:MA}{ms mq mr:MS}{mg:MG}{mgs:NU}
def PE.imp{t u:TE}(h:PE X e t)(k:∀σ H Q,u σ H Q->t σ H Q):PE X e u:=λa s σ H Q I q=>h a s σ H Q I<|k σ H Q q
def PT.imp(h:PT X e t)(k:∀σ H Q,u σ H Q->t σ H Q):PT X e u:=λa s σ H Q I q=>h a s σ H Q I<|k σ H Q q
def PA.imp{t u:TA}(h:PA X es t)(k:∀σ H Q,u σ H Q->t σ H Q):PA X es u:=λp a s σ H Q I q=>h p a s σ H Q I<|k σ H Q q
def PS.imp{t u:TS}(h:PS X st1 t)(k:∀N σ H,u N σ H->t N σ H):PS X st1 u:=λa s σ H N I q=>h a s σ H N I<|k N σ H q
def KO.imp{t u:TS}(h:KO X rest t)(k:∀N σ H,u N σ H->t N σ H):KO X rest u:=λa s σ H N I q=>h a s σ H N I<|k N σ H q
def PG.imp{t u:TG}(h:PG X e t)(k:∀v σ H Q,u v σ H Q->t v σ H Q):PG X e u:=λa s σ H v w Q I r q=>h a s σ H v w Q I r<|k v σ H Q q
def Nc.imp{t u:Ox}(h:Nc X es t)(k:∀v σ H Q,u v σ H Q->t v σ H Q):Nc X es u:=λa s σ H v w Q I r q=>h a s σ H v w Q I r<|k v σ H Q q
def Ht{α β:Type}{x:Option α}{f:α->Option β}{y:β}(h:x.bind f=some y):∃z,x=some z/\f z=some y:=by
 cases x with
 |none=>cases h
 |some z=>exact⟨z,rfl,h⟩
def Bh.now(h:Bh K io H st d Q)(S:HA K H io st)(r:Rep K H io v d):Q v H:=h v H [] Ext.refl S.nil (by rw[Ao];exact r)
def Bh.on(h:Bh K io H st' d Q)(f:HA K H1 (io++ka) st)(E:Ext io ka H H1):Bh K (io++ka) H1 st' d Q:=λv H' kb a b r=>
 h v H' (ka++kb) (E.trans f a) (by rw[<-Am];exact b) (by rw[<-Am];exact r)
def mV(i:Nat):ME:=λU st=>match U[i]? with
 |some (some d)=>some (d,st)
 |_=>none
def He(i:Nat){x:Str}(h:X.N[i]?=some x:=by rfl)(f:Yv X.env.scope x:=by first|exact Bs rfl|exact Bo (Bs rfl)|exact Bo (Bo rfl))(hd:(x==("__debug__":Str))=false:=by decide)(g:(x==("__classdict__":Str))=false:=by decide):SE X (.Name x pos) (mV i):=PE.imp (nV h f hd g) <| by
 rintro σ H Q ⟨U,st,io,d,st',E,S,e,k⟩;unfold mV at e;split at e
 ·rename_i a he;cases e;obtain⟨v,f,r⟩:=E.at_ i _ he;exact⟨v,f,k.now S r⟩
 ·cases e
def mK(d:D):ME:=λ_ st=>some (d,st)
def Hk{i j pos}:SE X (.Constant (.int i) j pos) (mK<|.int i):=PE.imp nO <| by
 rintro σ H Q ⟨U,st,io,d,st',E,S,e,k⟩;cases e;exact k.now S rfl
def Px{b j pos}:SE X (.Constant (.bool b) j pos) (mK<|.bl b):=PE.imp hZ <| by
 rintro σ H Q ⟨U,st,io,d,st',E,S,e,k⟩;cases e;exact k.now S rfl
def Mn{x j pos}:SE X (.Constant (.str x) j pos) (mK<|.str x):=PE.imp nT <| by
 rintro σ H Q ⟨U,st,io,d,st',E,S,e,k⟩;cases e;exact k.now S rfl
def Te{j pos}:SE X (.Constant .none j pos) (mK .non):=PE.imp nQ <| by
 rintro σ H Q ⟨U,st,io,d,st',E,S,e,k⟩;cases e;exact k.now S rfl
noncomputable abbrev G2:=D->D->Hf->Option (D×Hf)
inductive RK (K:Ab) (g:G2) (x y:V) (H:Hp) (Q:VK):Prop
 |mk (dx dy:D) (st:Hf) (io:List Addr) (d:D) (st':Hf) (h0:Rep K H io x dx) (h1:Rep K H io y dy) (h2:HA K H io st) (h3:g dx dy st=some (d,st')) (h4:Bh K io H st' d Q)
def Jj(X:Cx)(f:IR->IR->Sem IR)(g:G2):Prop:=JU X f<|RK X.K g
def mB(g:G2)(ma mb:ME):ME:=λU st=>(ma U st).bind λ(x,s1)=>(mb U s1).bind λ(y,s2)=>g x y s2
def T6{g:G2}(h:tE K (mB g ma mb) σ H Q):RF (RK K g) (tE K ma) (tE K mb) σ H Q:=by obtain⟨U,st,io,d,st',E,S,e,k⟩:=h;obtain⟨⟨x,s1⟩,p,e⟩:=Ht e;obtain⟨⟨y,s2⟩,u,v⟩:=Ht e;refine⟨U,st,io,x,s1,E,S,p,λv1 H1 b c a R1=>?_⟩;refine⟨U,s1,io++b,y,s2,E.ext S c,a,u,λv2 H2 X m o R2=>?_⟩;exact⟨x,y,s2,(io++b)++X,d,st',R1.ext a m,R2,o,v,(k.on a c).on o m⟩
def HU{op:Operator}{g:G2}(f:Jj X (binaryOp op) g)(i:SE X a ma)(j:SE X b mb):SE X (.BinOp a op b pos) (mB g ma mb):=PE.imp (iB f i j) λ_ _ _ h=>T6 h
def Vp{g:G2}(f:Jj X (Re op) g)(i:SE X a ma)(j:SE X b mb)(hm:behindInMarks op b=false):SE X (.Compare a [op] [b] pos) (mB g ma mb):=PE.imp (tK f i j hm) λ_ _ _ h=>T6 h
def mT(m:ME):MT:=λU st=>(m U st).bind λ(x,s1)=>match x with
 |.bl b=>some (b,s1)
 |_=>none
def Tc{b:Bool}(e:mT m U st=some (b,st')):m U st=some (.bl b,st'):=by
 obtain⟨⟨x,s1⟩,a,e⟩:=Ht e;dsimp only at e;split at e
 ·cases e;exact a
 ·cases e
def Rc{Q:Bool->Hp->Prop}(h:tT K (mT m) σ H Q):tE K m σ H λx H'=>∃b,x=.bl b/\Q b H':=by obtain⟨U,st,io,b,st',E,S,e,k⟩:=h;exact⟨U,st,io,_,st',E,S,Tc e,λv H' ka a c d=>⟨b,d,k H' ka a c⟩⟩
def JW{g:G2}(f:Jj X (Re op) g)(i:SE X a ma)(j:SE X b mb)(hm:behindInMarks op b=false):SB X (.Compare a [op] [b] pos) (mT<|mB g ma mb):=PT.imp (sJ f i j hm) λσ H Q h=>T6 (Rc h)
def Sz(h:SE X a m)(he:∀whole,isTrue a X.env whole=(do let v <-whole;standAt a.pos;holding [v] (truthy v)):=by intro _;rfl):SB X a (mT m):=PT.imp (aQ h he) λσ H Q h=>by obtain⟨U,st,io,b,st',E,S,e,k⟩:=Rc h;refine⟨U,st,io,b,st',E,S,e,λv H' ka d o p=>?_⟩;obtain⟨c,u,q⟩:=k v H' ka d o p;subst u;exact⟨c,rfl,q⟩
def N1(m:MT):MT:=λU st=>(m U st).map λ(b,s)=>(!b,s)
def Vm(h:SB X a mt):SB X (.UnaryOp .Not a pos) (N1 mt):=PT.imp (lQ h) <| by
 rintro σ H Q ⟨U,st,io,b,st',E,S,e,k⟩;unfold N1 at e;cases c:mt U st with
 |none=>rw[c]at e;cases e
 |some p=>rw[c]at e;cases e;exact⟨U,st,io,_,_,E,S,c,λH' ka d m=>k H' ka d m⟩
def Kr(m n:MT):MT:=λU st=>(m U st).bind λ(b,s)=>if b=true then n U s else some (false,s)
def NG(m n:MT):MT:=λU st=>(m U st).bind λ(b,s)=>if b=true then some (true,s)else n U s
def SW(X:Cx)(e:Pv)(m:MT):Prop:=PW X e<|tT X.K m
def PW.imp(h:PW X e t)(k:∀σ H Q,u σ H Q->t σ H Q):PW X e u:=λw a s σ H Q I q=>h w a s σ H Q I<|k σ H Q q
def SW.sb(h:SW X a mt):SB X a mt:=PW.pt h
def OU(f:SB X a mt):SW X (.BoolOp .And [a] pos) mt:=NC f
def Zx(f:SB X a mt):SW X (.BoolOp .Or [a] pos) mt:=Pd f
def aM{n:MT}{Q:Bool->Hp->Prop}{b:Bool}(E:HJ K H io σ U)(S:HA K H io st)(X1:Ext io ka H H1)(f:HA K H1 (io++ka) s1)(e:n U s1=some (b,st'))(k:∀H' ka,Ext io ka H H'->HA K H' (io++ka) st'->Q b H'):tT K n σ H1 Q:=⟨U,s1,io++ka,b,st',E.ext S X1,f,e,λH' kb a c=>k H' (ka++kb) (X1.trans f a) (by rw[<-Am];exact c)⟩
def Od(f:SB X a mt)(g:SW X (.BoolOp .And (b::rs) pos) mu):SW X (.BoolOp .And (a::b::rs) pos) (Kr mt mu):=PW.imp (Pe f g) <| by
 rintro σ H Q ⟨U,st,io,v,st',E,S,e,k⟩;obtain⟨⟨x,s1⟩,m,e⟩:=Ht e;refine⟨U,st,io,x,s1,E,S,m,λH1 o c d=>?_⟩;cases x with
 |true=>rw[if_pos rfl];exact aM E S c d e k
 |false=>
  rw[if_neg (by decide)];have p:some (false,s1)=some (v,st'):=e;cases p;exact k H1 o c d
def YR(f:SB X a mt)(g:SW X (.BoolOp .Or (b::rs) pos) mu):SW X (.BoolOp .Or (a::b::rs) pos) (NG mt mu):=PW.imp (RL f g) <| by
 rintro σ H Q ⟨U,st,io,v,st',E,S,e,k⟩;obtain⟨⟨x,s1⟩,m,e⟩:=Ht e;refine⟨U,st,io,x,s1,E,S,m,λH1 o c d=>?_⟩;cases x with
 |false=>rw[if_neg (by decide)];exact aM E S c d e k
 |true=>
  rw[if_pos rfl];have p:some (true,s1)=some (v,st'):=e;cases p;exact k H1 o c d
def OH(m n:ME):ME:=λU st=>(mT m U st).bind λ(b,s)=>if b=true then n U s else some (.bl false,s)
def Sv(m:ME):ME:=λU st=>(mT m U st).map λ(b,s)=>(.bl !b,s)
def Vq{n:ME}(E:HJ K H io σ U)(S:HA K H io st)(f:Ext io ka H H1)(g:HA K H1 (io++ka) s1)(e:n U s1=some (d,st'))(k:Bh K io H st' d Q):tE K n σ H1 Q:=⟨U,s1,io++ka,d,st',E.ext S f,g,e,k.on g f⟩
def VR(f:SE X a ma):SE X (.BoolOp .And [a] pos) ma:=nS f
def QW(f:SE X a ma)(g:SE X (.BoolOp .And (b::rs) pos) mb):SE X (.BoolOp .And (a::b::rs) pos) (OH ma mb):=PE.imp (nL f g) <| by
 rintro σ H Q ⟨U,st,io,v,st',E,S,e,k⟩;obtain⟨⟨x,s1⟩,m,e⟩:=Ht e;refine⟨U,st,io,.bl x,s1,E,S,Tc m,λv1 H1 o c d p=>⟨x,p,?_⟩⟩;cases x with
 |true=>rw[if_pos rfl];exact Vq E S c d e k
 |false=>
  rw[if_neg (by decide)];have u:some (D.bl false,s1)=some (v,st'):=e;cases u;exact k _ H1 o c d rfl
def mG(f:SE X a ma):SE X (.UnaryOp .Not a pos) (Sv ma):=PE.imp (nR f) <| by
 rintro σ H Q ⟨U,st,io,v,st',E,S,e,k⟩;unfold Sv at e;cases b:mT ma U st with
 |none=>rw[b]at e;cases e
 |some p=>
  rw[b]at e;cases e;exact⟨U,st,io,_,_,E,S,Tc b,λv1 H1 c d m o=>⟨_,o,k _ H1 c d m rfl⟩⟩
def LX(c:MT)(m n:ME):ME:=λU st=>(c U st).bind λ(b,s)=>if b=true then m U s else n U s
def mD(f:SB X c mt)(g:SE X a ma)(h:SE X b mb):SE X (.IfExp c a b pos) (LX mt ma mb):=PE.imp (wF f g h) <| by
 rintro σ H Q ⟨U,st,io,v,st',E,S,e,k⟩;obtain⟨⟨x,s1⟩,o,e⟩:=Ht e;refine⟨U,st,io,x,s1,E,S,o,λH1 p d m=>?_⟩;cases x with
 |true=>rw[if_pos rfl];exact Vq E S d m e k
 |false=>rw[if_neg (by decide)];exact Vq E S d m e k
end
end L2.MP
set_option linter.unusedVariables false
namespace L2.MP
open PySem PySem.Spec PyProof.Rows
variable {X:Cx}{e a b c o tg iter:Pv}{es:List Pv}{st1 st2:W1}{rest body orelse:List W1}{pos pos':Pos}{m ma mb mc:ME}{mt mu:MT}{mm:MA}{ms mq mr:MS}{mg:MG}{mgs:NU}{K:Ab}{H H1 H2:Hp}{io ka kb:List Addr}{st st' s1:Hf}{α:Type}{x:Str}{ds:List D}{vs:List V}{Q:VK}{p:Addr}{σ:L2.St}{T:String}{k n i:Nat}{f:Fl}{fd:FuncData}{U:Ii}{N:Ends}
def mZ:MA:=λ_ st=>some ([],st)
def Hc(m:ME)(mm:MA):MA:=λU st=>(m U st).bind λ(x,s1)=>(mm U s1).bind λ(xs,s2)=>some (x::xs,s2)
def Hm:SA X [] mZ:=PA.imp ZC <| by
 rintro σ H Q ⟨U,st,io,ds,st',E,S,e,k⟩;cases e;exact k [] H [] Ext.refl S.nil Hi.nil
def Hh(d:SE X e m)(g:SA X es mm)(h:Qqb X.env e es:=by rfl):SA X (e::es) (Hc m mm):=PA.imp (VI d g h) <| by rintro σ H Q ⟨U,st,io,ds,st',E,S,e,k⟩;obtain⟨⟨x,s1⟩,f,e⟩:=Ht e;obtain⟨⟨xs,s2⟩,i,e⟩:=Ht e;cases e;refine⟨U,st,io,x,s1,E,S,f,λv1 H1 b X1 a R1=>⟨U,s1,io++b,xs,_,E.ext S X1,a,i,λvs H2 n c o R2=>?_⟩⟩;exact k _ H2 (b++n) (X1.trans a c) (by rw[<-Am];exact o) (by rw[<-Am];exact Hi.cons (R1.ext a c) R2)
def fits(n:Nat):Bool:=decide (n<=sizeLine)
def mU(mm:MA):ME:=λU st=>(mm U st).bind λ(xs,s)=>if fits xs.length=true then some (.tup xs,s)else none
def mL(mm:MA):ME:=λU st=>(mm U st).bind λ(xs,s)=>if fits xs.length=true then some (.ref s.length,s++[.lst xs])else none
def Iz{c:Prop}[Decidable c]{x:Option α}{y:α}(h:(if c then x else none)=some y):c/\x=some y:=by
 by_cases hc:c
 ·rw[if_pos hc]at h;exact⟨hc,h⟩
 rw[if_neg hc]at h;cases h
def Bh.tup{ds:List D}{vs:List V}{Q:VK}{p:Addr}(k:Bh K io H st (.tup ds) Q)(S:HA K H io st)(R:Hi K H io vs ds)(d:H p=none):Q (.ref p) (upd H p<|.tup vs):=by obtain⟨E,a⟩:=Q6 (o:=.tup vs) S d;refine k _ _ [] E a ⟨p,vs,rfl,Lc,R.ext S E⟩
def getElem?_len(l:List α)(x:α):(l++[x])[l.length]?=some x:=by rw[AY (Ah _),Do];rfl
def Bh.lst{ds:List D}{vs:List V}{Q:VK}{p:Addr}(k:Bh K io H (st++[.lst ds]) (.ref st.length) Q)(S:HA K H io st)(R:Hi K H io vs ds)(d:H p=none):Q (.ref p) (upd H p<|.lst vs):=by obtain⟨E,a⟩:=PJ (o:=.lst vs) (ob:=.lst ds) S d λb T e=>⟨vs,e,Hi.mono T R⟩;exact k _ _ [p] E a ⟨p,rfl,by rw[<-S.len];exact getElem?_len io p⟩
def Jf{x1}(h:SA X es mm):SE X (.Tuple es x1 pos) (mU mm):=PE.imp (nU h) <| by rintro σ H Q ⟨U,st,io,d,st',E,S,e,k⟩;obtain⟨⟨xs,s1⟩,b,e⟩:=Ht e;obtain⟨hf,e⟩:=Iz e;cases e;refine⟨U,st,io,xs,_,E,S,b,λvs H1 i c a R1=>⟨by rw[R1.length];exact of_decide_eq_true hf,λp f=>(k.on a c).tup a R1 f⟩⟩
def J5(h:SA X es mm):SE X (.List es pos) (mL mm):=PE.imp (nP h) <| by rintro σ H Q ⟨U,st,io,d,st',E,S,e,k⟩;obtain⟨⟨xs,s1⟩,b,e⟩:=Ht e;obtain⟨hf,e⟩:=Iz e;cases e;refine⟨U,st,io,xs,_,E,S,b,λvs H1 i c a R1=>⟨by rw[R1.length];exact of_decide_eq_true hf,λp f=>(k.on a c).lst a R1 f⟩⟩
noncomputable abbrev GN:=List D->Hf->Option (D×Hf)
inductive gN (K:Ab) (g:GN) (xs:List V) (H:Hp) (Q:VK):Prop
 |mk (ds:List D) (st:Hf) (io:List Addr) (d:D) (st':Hf) (h1:Hi K H io xs ds) (h2:HA K H io st) (h3:g ds st=some (d,st')) (h4:Bh K io H st' d Q)
def Jw(X:Cx)(f:IR)(g:GN):Prop:=ML X f<|gN X.K g
def Ho(g:GN)(mm:MA):ME:=λU st=>(mm U st).bind λ(xs,s)=>g xs s
def dQ{g:GN}(h:tE K (Ho g mm) σ H Q):XF (gN K g) (tA K mm) σ H Q:=by obtain⟨U,st,io,d,st',E,S,e,k⟩:=h;obtain⟨⟨xs,s1⟩,b,e⟩:=Ht e;exact⟨U,st,io,xs,s1,E,S,b,λvs H1 c f a i=>⟨xs,s1,io++c,d,st',i,a,e,k.on a f⟩⟩
def vK{p:Pos}{id:String}{g:GN}(l:Jw X (.builtin id) g)(q:Gl X x)(hm:X.mg x=none)(r:UF x=some (.builtin id))(s:SA X (e::es) mm)(hn:x≠"__name__":=by decide)(d:(x==("__debug__":Str))=false:=by decide)(he:Qqb X.env e es:=by rfl) (j:Qqc pos es X.env:=by rfl):SE X (.Call (.Name x p) (e::es) [] pos) (Ho g mm):=
 PE.imp (aO l q hm r s hn d he j) λ_ _ _ h=>dQ h
def zl4{p:Pos}{g:GN}(l:Jw X (.type T) g)(q:Gl X x)(hm:X.mg x=none)(r:UF x=some (.type T))(s:SA X (e::es) mm)(hn:x≠"__name__":=by decide)(d:(x==("__debug__":Str))=false:=by decide)(he:Qqb X.env e es:=by rfl) (j:Qqc pos es X.env:=by rfl):SE X (.Call (.Name x p) (e::es) [] pos) (Ho g mm):=
 PE.imp (yG l q hm r s hn d he j) λ_ _ _ h=>dQ h
def Mv(K:Ab)(n:Nat)(g:GN):Sp:=λvs H Q _=>∃ds st io d st',vs.length=n/\Hi K H io vs ds/\HA K H io st/\g ds st=some (d,st')/\Bh K io H st' d Q
def sQ{p:Pos}{f:Addr}{ps:List Str}{g:GN}(F:I0 X.prog X.w X.K X.mg X.base Kx k f fd ps (Mv X.K n g))(l:HK k X.A)(q:Gl X x)(hm:X.mg x=some (.ref f))(hk:Bd X.K (.ref f)=true)(r:Binds X.K fd ps [])(u:SA X (e::es) mm) (h:(x==("__debug__":Str))=false:=by decide) (he:Qqb X.env e es:=by rfl) (j:Qqc pos es X.env:=by rfl) (hn:(e::es).length=n:=by rfl)(v:∀U st xs s,mm U st=some (xs,s)->xs.length=n):
  SE X (.Call (.Name x p) (e::es) [] pos) (Ho g mm):=PE.imp (tJ F l q hm hk r .nil Sy u h he j) <| by
 rintro σ H Q ⟨U,st,io,d,st',E,S,e,k⟩;obtain⟨⟨xs,s1⟩,a,e⟩:=Ht e;refine⟨U,st,io,xs,s1,E,S,a,λvs H1 c i b R1=>⟨xs,s1,io++c,d,st',?_,?_,b,e,k.on b i⟩⟩
 ·rw[Ao,R1.length];exact v _ _ _ _ a
 rw[Ao];exact R1
def wO{xs:List D}{s:Hf}(h:mZ U st=some (xs,s)):xs.length=0:=by cases h;rfl
def xO{U:Ii}{st:Hf}{xs:List D}{s:Hf}(d:∀U st xs s,mm U st=some (xs,s)->xs.length=n)(h:Hc m mm U st=some (xs,s)):xs.length=n+1:=by obtain⟨⟨x,s1⟩,b,e⟩:=Ht h;obtain⟨⟨c,s2⟩,a,e⟩:=Ht e;cases e;rw[Au,d _ _ _ _ a]
def Wn(K:Ab)(io:List Addr)(H:Hp)(st':Hf)(N:Ends):Fl->Prop
 |.nx h=>∀σ' g ka,Ext io ka H g->HA K g (io++ka) st'->HJ K g (io++ka) σ' h->N.nx σ' g
 |.bk h=>∀σ' g ka,Ext io ka H g->HA K g (io++ka) st'->HJ K g (io++ka) σ' h->N.bk σ' g
 |.ct h=>∀σ' g ka,Ext io ka H g->HA K g (io++ka) st'->HJ K g (io++ka) σ' h->N.ct σ' g
 |.rt d=>Bh K io H st' d N.rt
inductive tSi (K:Ab) (m:MS) (N:Ends) (σ:L2.St) (H:Hp):Prop
 |mk (U:Ii) (st:Hf) (io:List Addr) (f:Fl) (st':Hf) (h1:HJ K H io σ U) (h2:HA K H io st) (h3:m U st=some (f,st')) (h4:Wn K io H st' N f)
def Lb:tS K ms N σ H ↔ tSi K ms N σ H:=by
 constructor
 ·rintro⟨U,st,io,f,st',E,S,e,k⟩;exact⟨U,st,io,f,st',E,S,e,by cases f<;>exact k⟩
 rintro⟨U,st,io,f,st',E,S,e,k⟩;exact⟨U,st,io,f,st',E,S,e,by cases f<;>exact k⟩
def Oh{P:L2.St->Hp->Prop}{g:Ii}(h:∀σ' d ka,Ext io ka H d->HA K d (io++ka) st'->HJ K d (io++ka) σ' g->P σ' d)(X1:Ext io ka H H1)(j:HA K H1 (io++ka) st):
  ∀σ' d kb,Ext (io++ka) kb H1 d->HA K d ((io++ka)++kb) st'->HJ K d ((io++ka)++kb) σ' g->P σ' d:=λσ' d kb a b c=>
 h σ' d (ka++kb) (X1.trans j a) (by rw[<-Am];exact b) (by rw[<-Am];exact c)
def Wn.on{N:Ends}{f:Fl}(h:Wn K io H st' N f)(g:Ext io ka H H1)(j:HA K H1 (io++ka) st):Wn K (io++ka) H1 st' N f:=by
 cases f with
 |nx a=>exact Oh h g j
 |bk a=>exact Oh h g j
 |ct a=>exact Oh h g j
 |rt d=>exact Bh.on h j g
def OM(E:HJ K H io σ U)(S:HA K H io st)(e:ms U st=some (f,st'))(w:Wn K io H st' N f):tS K ms N σ H:=Lb.mpr ⟨U,st,io,f,st',E,S,e,w⟩
def UZ(g:Ext io ka H H1)(d:HA K H1 (io++ka) s1)(E:HJ K H1 (io++ka) σ U)(e:ms U s1=some (f,st'))(w:Wn K io H st' N f):tS K ms N σ H1:=OM E d e (w.on g d)
def Jn:MS:=λU st=>some (.nx U,st)
def rT:KN X [] Jn:=KO.imp sH λN σ H h=>by obtain⟨U,st,io,f,st',E,S,e,w⟩:=Lb.mp h;cases e;exact w σ H [] Ext.refl S.nil (by rw[Ao];exact E)
def rS:SS X (.Pass pos) Jn:=PS.imp sG λN σ H h=>by obtain⟨U,st,io,f,st',E,S,e,w⟩:=Lb.mp h;cases e;exact w σ H [] Ext.refl S.nil (by rw[Ao];exact E)
def mS(m n:MS):MS:=λU st=>(m U st).bind λ(f,s)=>match f with
 |.nx a=>n a s
 |f=>some (f,s)
def xN(g:SS X st1 ms)(j:KN X rest mq):KN X (st1::rest) (mS ms mq):=KO.imp (vB g j) λN σ H h=>by
 obtain⟨U,st,io,f,st',E,S,e,w⟩:=Lb.mp h;obtain⟨⟨f1,s1⟩,b,e⟩:=Ht e;refine OM E S b ?_;cases f1 with
 |nx a=>exact λσ' n ka c i m=>UZ c i m e w
 |bk a=>cases e;exact w
 |ct a=>cases e;exact w
 |rt d=>cases e;exact w
def rV(d:SS X st1 ms):KN X [st1] ms:=sI d
def IG(m:ME):MS:=λU st=>(m U st).map λ(_,s)=>(.nx U,s)
def mR(m:ME):MS:=λU st=>(m U st).map λ(d,s)=>(.rt d,s)
def Ig{β:Type}{x:Option α}{f:α->β}{y:β}(h:x.map f=some y):∃z,x=some z/\f z=y:=by
 cases x with
 |none=>cases h
 |some z=>exact⟨z,rfl,Az h⟩
def KC(he:SE X e m)(g:swapsWith e none pos.line X.env=pure false:=by rfl):SS X (.Expr e pos) (IG m):=PS.imp (sF he g) λN σ H h=>by obtain⟨U,st,io,f,st',E,S,e,w⟩:=Lb.mp h;obtain⟨⟨d,s1⟩,b,e⟩:=Ig e;cases e;exact⟨U,st,io,d,_,E,S,b,λv c ka a i n=>w σ c ka a i (E.ext S a)⟩
def IL(he:SE X e m):SS X (.Return (some e) pos) (mR m):=PS.imp (lM he) λN σ H h=>by obtain⟨U,st,io,f,st',E,S,e,w⟩:=Lb.mp h;obtain⟨⟨d,s1⟩,a,e⟩:=Ig e;cases e;exact⟨U,st,io,d,_,E,S,a,w⟩
def Ji(c:MT)(m n:MS):MS:=λU st=>(c U st).bind λ(b,s)=>if b=true then m U s else n U s
def iK(d:SB X c mt)(g:KN X body ms)(j:KN X orelse mq):SS X (.If c body orelse pos) (Ji mt ms mq):=PS.imp (iD d g j) λN σ H h=>by
 obtain⟨U,st,io,f,st',E,S,e,w⟩:=Lb.mp h;obtain⟨⟨x,s1⟩,i,e⟩:=Ht e;refine⟨U,st,io,x,s1,E,S,i,λH1 m a b=>?_⟩;cases x with
 |true=>rw[if_pos rfl];exact UZ a b (E.ext S a) e w
 |false=>rw[if_neg (by decide)];exact UZ a b (E.ext S a) e w
def Hl(i:Nat):MG:=λd U st=>some (U.set i (some d),st)
def rJ(g:X.N.Nodup)(hi:X.N[i]?=some x)(h:Loc X.env.scope x)(hf:X.fn x=true\/X.env.scope.names.lookup x=some .local:=by first|exact .inl rfl|exact .inr rfl|assumption):SG X (.Name x pos) (Hl i):=PG.imp (tO g hi h hf) <| by rintro v σ H Q ⟨d,U,st,io,a,st',R,E,S,e,k⟩;cases e;exact k _ H [] Ext.refl S.nil (by rw[Ao];exact E.set i R)
def Ko:NU:=λds U st=>match ds with
 |[]=>some (U,st)
 |_=>none
def gC(g:MG)(h:NU):NU:=λds U st=>match ds with
 |d::r=>(g d U st).bind λ(a,s1)=>h r a s1
 |[]=>none
def Oj:UH X [] Ko:=Nc.imp tQ <| by
 rintro v σ H Q ⟨ds,U,st,io,a,st',R,E,S,e,k⟩;cases ds with
 |nil=>cases e;exact⟨R,k σ H [] Ext.refl S.nil (by rw[Ao];exact E)⟩
 |cons d r=>cases e
def KH(g:SG X e mg)(h:UH X es mgs)(j:(assignEach (e::es) X.env).map (·.2)=assign e X.env::(assignEach es X.env).map (·.2):=by rfl):UH X (e::es) (gC mg mgs):=
 Nc.imp (wH g h j) <| by
  rintro v σ H Q ⟨ds,U,st,io,f,st',R,E,S,e,k⟩;cases ds with
  |nil=>cases e
  |cons d r=>
   obtain⟨y,i,rfl,m,rs⟩:=R;obtain⟨⟨a,s1⟩,n,e⟩:=Ht e;refine⟨y,i,rfl,d,U,st,io,a,s1,m,E,S,n,λσ1 H1 o b c p=>?_⟩;exact⟨r,a,s1,io++o,f,st',rs.ext S b,p,c,e,Oh k b c⟩
def Kn(n:Nat)(h:NU):MG:=λd U st=>match d with
 |.tup ds=>if ds.length=n then h ds U st else none
 |_=>none
def Ob(j:X.calm=true)(h:UH X es mgs)(hn:(assignEach es X.env).length=n:=by rfl)(g:(assignEach es X.env).findIdx? (·.1)=none:=by rfl):SG X (.Tuple es k pos) (Kn n mgs):=
 PG.imp (nX j h hn g) <| by
  rintro v σ H Q ⟨d,U,st,io,b,st',R,E,S,e,k⟩;cases d with
  |tup ds=>
   obtain⟨a,xs,rfl,c,rs⟩:=R;obtain⟨f,e⟩:=Iz e;exact⟨a,xs,rfl,IK.of c,by rw[rs.length];exact f,ds,U,st,io,b,st',rs,E,S,e,k⟩
  |_=>cases e
noncomputable abbrev G3:=D->D->D->Hf->Option Hf
inductive RE (K:Ab) (g:G3) (o i v:V) (H:Hp) (Q:Hp->Prop):Prop
 |mk (d1 d2 d3:D) (st:Hf) (io:List Addr) (st':Hf) (h0:Rep K H io o d1) (h1:Rep K H io i d2) (h2:Rep K H io v d3) (h3:HA K H io st) (h4:g d1 d2 d3 st=some st') (h5:∀H' ka,Ext io ka H H'->HA K H' (io++ka) st'->Q H')
def R9(X:Cx)(g:G3):Prop:=Pp X<|RE X.K g
def LH(g:G3)(mo h:ME):MG:=λd U st=>(mo U st).bind λ(o,s1)=>(h U s1).bind λ(i,s2)=>(g o i d s2).map λs3=>(U,s3)
def mI{i:Pv}{mo l:ME}{g:G3}(q:SE X o mo)(hi:SE X i l)(r:R9 X g)(s:∀v,assign (.Subscript o i pos) X.env v=(do
   let h <-holding [v] (Wp o X.env)
   let j <-holding [v,h] (Wp i X.env)
   standAt pos
   holding [v,h,j] (setItem h j v)
   release [v,h,j] []):=by intro _;rfl):SG X (.Subscript o i pos) (LH g mo l):=
 PG.imp (nW q hi r s) <| by rintro v σ H Q ⟨d,U,st,io,A,st',R,E,S,e,k⟩;obtain⟨⟨x,s1⟩,N,e⟩:=Ht e;obtain⟨⟨y,s2⟩,T,e⟩:=Ht e;obtain⟨s3,u,e⟩:=Ig e;cases e;refine⟨U,st,io,x,s1,E,S,N,λv1 H1 a X1 b R1=>⟨U,s1,io++a,y,s2,E.ext S X1,b,T,λv2 H2 f m c R2=>?_⟩⟩;have X12:=X1.trans b m;refine⟨x,y,d,s2,(io++a)++f,_,R1.ext b m,R2,(R.ext S X1).ext b m,c,u,λw z n p=>?_⟩;rw[Am]at n c;rw[Am,Am]at p;refine k σ w ((a++f)++z) (X12.trans c n) (by simpa using p) ?_;have E2:HJ X.K H2 (io++(a++f)) σ U:=E.ext S X12;have:=E2.ext c n;simpa using this
def Hq(m:ME)(g:MG):MS:=λU st=>(m U st).bind λ(d,s1)=>(g d U s1).map λ(a,s2)=>(.nx a,s2)
def zI(h:tS K (Hq m mg) N σ H):Pb (tE K m) (tG K mg) N σ H:=by obtain⟨U,st,io,f,st',E,S,e,w⟩:=Lb.mp h;obtain⟨⟨x,s1⟩,c,e⟩:=Ht e;obtain⟨⟨i,s2⟩,n,e⟩:=Ig e;cases e;exact⟨U,st,io,x,s1,E,S,c,λv1 H1 o a b p=>⟨x,U,s1,io++o,i,_,p,E.ext S a,b,n,Oh w a b⟩⟩
def Vv(he:SE X e m)(d:SG X tg mg)(g:swapsWithSole [tg] e pos.line X.env=pure false:=by rfl)(hw:swappedStores [tg] e X.env=pure none:=by rfl)(j:(assignEach [tg] X.env).map (·.2)=[assign tg X.env]:=by rfl):SS X (.Assign [tg] e pos) (Hq m mg):=PS.imp (lI he d g hw j) λ_ _ _ h=>zI h
def pN(d:X.N.Nodup)(hi:X.N[i]?=some x)(g:Loc X.env.scope x)(he:SE X e m)(j:swapsWith e (some<|.Name x pos') pos.line X.env=pure false:=by rfl)(hf:X.fn x=true\/X.env.scope.names.lookup x=some .local:=by first|exact .inl rfl|exact .inr rfl|assumption):
  SS X (.Assign [.Name x pos'] e pos) (Hq m<|Hl i):=PS.imp (lO d hi g he j hf) λN σ H h=>by
 obtain⟨U,st,io,f,st',E,S,e,w⟩:=Lb.mp h;obtain⟨⟨x,s1⟩,b,e⟩:=Ht e;obtain⟨⟨K,s2⟩,c,e⟩:=Ig e;cases e;cases c;exact⟨U,st,io,x,_,E,S,b,λv1 H1 n a o p=>w _ H1 n a o ((E.ext S a).set i p)⟩
structure Wk where
 ds:List D
 g:List (Nat×List D)
def stays(W:Wk)(st:Hf):Prop:=∀p,p∈W.g->st[p.1]?=some (.lst p.2)\/st[p.1]?=some (.fz p.2)
structure Lr(K:Ab)(H0:Hp)(io:List Addr)(W:Wk)(J:It):Prop where
 go:∀i d H ka st,W.ds[i]?=some d->Ext io ka H0 H->HA K H (io++ka) st->stays W st->J.go i H/\∀x H',J.yld i H x H'->Ext (io++ka) [] H H'/\HA K H' (io++ka) st/\Rep K H' (io++ka) x d
 stop:∀H ka st,Ext io ka H0 H->HA K H (io++ka) st->stays W st->J.stop W.ds.length H
 stop':∀H ka st i,W.ds.length<=i->Ext io ka H0 H->HA K H (io++ka) st->stays W st->J.stop i H
noncomputable abbrev MI:=Ii->Hf->Option (Wk×Hf)
inductive tI (K:Ab) (m:MI) (σ:L2.St) (H:Hp) (R:It->Hp->Prop):Prop
 |mk (U:Ii) (st:Hf) (io:List Addr) (W:Wk) (st':Hf) (h1:HJ K H io σ U) (h2:HA K H io st) (h3:m U st=some (W,st')) (h4:∀J H' ka,Ext io ka H H'->HA K H' (io++ka) st'->Lr K H' (io++ka) W J->R J H')
def SI(X:Cx)(tg iter:Pv)(m:MI):Prop:=PI X tg iter<|tI X.K m
def PI.imp{t u:TI}(h:PI X tg iter t)(k:∀σ H R,u σ H R->t σ H R):PI X tg iter u:=λa s σ H R I q=>h a s σ H R I<|k σ H R q
mutual
def D.eqb:D->D->Bool
 |.non,.non=>true
 |.bl a,.bl b=>a==b
 |.int a,.int b=>decide (a=b)
 |.str a,.str b=>decide (a=b)
 |.tup a,.tup b=>D.eqbs a b
 |.ref a,.ref b=>decide (a=b)
 |.kl a,.kl b=>D.eqbs a b
 |.fn a,.fn b=>decide (a=b)
 |.er a b c,.er a2 d g=>decide (a=a2/\b=d/\c=g)
 |_,_=>false
def D.eqbs:List D->List D->Bool
 |[],[]=>true
 |a::as,b::bs=>D.eqb a b&&D.eqbs as bs
 |_,_=>false
end
mutual
theorem D.eqb_refl:∀a:D,D.eqb a a=true
 |.non=>rfl
 |.bl a=>by simp[D.eqb]
 |.int a=>by simp[D.eqb]
 |.str a=>by simp[D.eqb]
 |.tup a=>by rw[D.eqb];exact D.eqbs_refl a
 |.ref a=>by simp[D.eqb]
 |.kl a=>by rw[D.eqb];exact D.eqbs_refl a
 |.fn a=>by simp[D.eqb]
 |.er a b c=>by simp[D.eqb]
theorem D.eqbs_refl:∀a:List D,D.eqbs a a=true
 |[]=>rfl
 |a::as=>by rw[D.eqbs,D.eqb_refl a,D.eqbs_refl as];rfl
end
mutual
theorem D.eq_of:∀{a b:D},D.eqb a b=true->a=b
 |.non,b,h=>by cases b<;>simp[D.eqb]at h ⊢
 |.bl a,b,h=>by cases b<;>simp[D.eqb]at h ⊢;exact h
 |.int a,b,h=>by cases b<;>simp[D.eqb]at h ⊢;exact h
 |.str a,b,h=>by cases b<;>simp[D.eqb]at h ⊢;exact h
 |.tup a,.tup b,h=>by rw[D.eqb]at h;rw[D.eqs_of h]
 |.tup a,.non,h=>by simp[D.eqb]at h
 |.tup a,.bl _,h=>by simp[D.eqb]at h
 |.tup a,.int _,h=>by simp[D.eqb]at h
 |.tup a,.str _,h=>by simp[D.eqb]at h
 |.tup a,.ref _,h=>by simp[D.eqb]at h
 |.tup a,.kl _,h=>by simp[D.eqb]at h
 |.tup a,.fn _,h=>by simp[D.eqb]at h
 |.tup a,.er _ _ _,h=>by simp[D.eqb]at h
 |.kl a,.kl b,h=>by rw[D.eqb]at h;rw[D.eqs_of h]
 |.kl a,.non,h=>by simp[D.eqb]at h
 |.kl a,.bl _,h=>by simp[D.eqb]at h
 |.kl a,.int _,h=>by simp[D.eqb]at h
 |.kl a,.str _,h=>by simp[D.eqb]at h
 |.kl a,.ref _,h=>by simp[D.eqb]at h
 |.kl a,.tup _,h=>by simp[D.eqb]at h
 |.kl a,.fn _,h=>by simp[D.eqb]at h
 |.kl a,.er _ _ _,h=>by simp[D.eqb]at h
 |.fn a,b,h=>by cases b<;>simp[D.eqb]at h ⊢;exact h
 |.er a b c,d,h=>by cases d<;>simp[D.eqb]at h ⊢;exact h
 |.ref a,b,h=>by cases b<;>simp[D.eqb]at h ⊢;exact h
theorem D.eqs_of:∀{a b:List D},D.eqbs a b=true->a=b
 |[],[],_=>rfl
 |[],_::_,h=>by simp[D.eqbs]at h
 |_::_,[],h=>by simp[D.eqbs]at h
 |a::as,b::bs,h=>by rw[D.eqbs,An]at h;rw[D.eq_of h.1,D.eqs_of h.2]
end
noncomputable instance:DecidableEq D:=λa b=>if h:D.eqb a b=true then .isTrue (D.eq_of h)else .isFalse λe=>h (by rw[e];exact D.eqb_refl b)
def QP(st:Hf)(n:Nat)(ds:List D):Bool:=match st[n]? with
 |some (.lst xs)=>D.eqbs xs ds
 |some (.fz xs)=>D.eqbs xs ds
 |_=>false
def yZ(h:QP st n ds=true):st[n]?=some (.lst ds)\/st[n]?=some (.fz ds):=by
 unfold QP at h;split at h
 ·rename_i xs e;rw[D.eqs_of h]at e;exact .inl e
 ·rename_i xs e;rw[D.eqs_of h]at e;exact .inr e
 ·cases h
def zkV(h:st[n]?=some (.lst ds)):QP st n ds=true:=by unfold QP;rw[h];exact D.eqbs_refl ds
variable {mi:MI}{W:Wk}
def walked(W:Wk)(st:Hf):Bool:=W.g.all λp=>QP st p.1 p.2
def Rf(h:walked W st=true):stays W st:=λp a=>yZ<|List.all_eq_true.mp h p a
def KU(W:Wk)(g:MG)(m:MS):List D->Ii->Hf->Option (Fl×Hf)
 |[],U,st=>if walked W st=true then some (.nx U,st)else none
 |d::ds,U,st=>if walked W st=true then(g d U st).bind λ(U1,s1)=>(m U1 s1).bind λ(f,s2)=>match f with
  |.nx h=>KU W g m ds h s2
  |.ct h=>KU W g m ds h s2
  |.bk h=>some (.nx h,s2)
  |.rt d=>some (.rt d,s2)else none
def mF(mi:MI)(g:MG)(m:MS):MS:=λU st=>(mi U st).bind λ(W,s)=>KU W g m W.ds U s
def pM(Y:PassesOwn (KB X.prog X.w) X.A X.env X.xe)(Z:X.calm=true)(hi:SI X tg iter mi)(hg:SG X tg mg)(hb:KN X body ms)(hs:∀x,foldedSetIterable iter X.env x=pure x:=by intro _;rfl):SS X (.For tg iter body [] pos) (mF mi mg ms):=PS.imp (lK Y Z hi hg hb hs) λN σ H h=>by
 obtain⟨U,st,io,f,st',E,S,e,w⟩:=Lb.mp h;obtain⟨⟨W,s1⟩,e1,e⟩:=Ht e;refine⟨U,st,io,W,s1,E,S,e1,λJ H1 a j l IO=>?_⟩;refine⟨λi n σ2 H2=>n=W.ds.length-i/\∃q s2 b,Ext (io++a) b H1 H2/\HA X.K H2 ((io++a)++b) s2/\HJ X.K H2 ((io++a)++b) σ2 q/\KU W mg ms (W.ds.drop i) q s2=some (f,st'),
  ⟨_,rfl,U,s1,[],Ext.refl,by rw[Ao];exact l,by rw[Ao];exact E.ext S j,by rw[GF];exact e⟩,?_⟩
 rintro i n σ2 H2 ⟨rfl,q,s2,b,X2,S2,E2,c⟩;have w2:Wn X.K ((io++a)++b) H2 st' N f:=(w.on j l).on X2 S2;cases hd:W.ds[i]? with
 |none=>
  have r:W.ds.length<=i:=List.getElem?_eq_none_iff.mp hd;rw[EB r]at c;obtain⟨hw,c⟩:=Iz c;cases c;refine .inl ⟨?_,w2 σ2 H2 [] Ext.refl S2.nil (by rw[Ao];exact E2)⟩
  by_cases hi:i=W.ds.length
  ·rw[hi];exact IO.stop H2 b _ X2 S2 (Rf hw)
  exact IO.stop' H2 b _ i r X2 S2 (Rf hw)
 |some d=>
  have r:i<W.ds.length:=(KF.mp hd).1;have z:W.ds.drop i=d::W.ds.drop (i+1):=by rw[D1 r,(KF.mp hd).2]
  rw[z]at c;obtain⟨hw,c⟩:=Iz c;obtain⟨⟨U3,s3⟩,e3,c⟩:=Ht c;obtain⟨⟨f4,s4⟩,e4,c⟩:=Ht c;obtain⟨go,yl⟩:=IO.go i d H2 b s2 hd X2 S2 (Rf hw);refine .inr ⟨go,λσ5 s=>∃Q s5 m,Ext (io++a) m H1 s/\HA X.K s ((io++a)++m) s5/\HJ X.K s ((io++a)++m) σ5 Q/\KU W mg ms (W.ds.drop (i+1)) Q s5=some (f,st'),
   λσ5 s h5=>⟨W.ds.length-(i+1),by omega,rfl,h5⟩,λx F y=>?_⟩
  obtain⟨G,u,R3⟩:=yl x F y;have X23:Ext (io++a) b H1 F:=(X2.trans S2 G).app;refine⟨d,q,s2,(io++a)++b,U3,s3,R3,?_,u,e3,λσ6 I T B v E6=>?_⟩
  ·have:=E2.ext S2 G;rw[Ao]at this;exact this
  ·refine OM E6 v e4 ?_;have X26:=X23.trans u B;have C:HA X.K I ((io++a)++(b++T)) s3:=by rw[<-Am];exact v
   have fin:∀{o:Ii},KU W mg ms (W.ds.drop (i+1)) o s4=some (f,st')->∀σ7 p g,Ext ((io++a)++b++T) g I p->HA X.K p ((io++a)++b++T++g) s4->HJ X.K p ((io++a)++b++T++g) σ7 o ->
     ∃Q s5 m,Ext (io++a) m H1 p/\HA X.K p ((io++a)++m) s5/\HJ X.K p ((io++a)++m) σ7 Q/\KU W mg ms (W.ds.drop (i+1)) Q s5=some (f,st'):=by
    intro o e7 σ7 p g L M P;rw[Am (io++a)]at L;rw[Am (io++a),Am (io++a)]at M P;exact⟨o,s4,(b++T)++g,X26.trans C L,M,P,e7⟩
   cases f4 with
   |nx o=>exact fin c
   |ct o=>exact fin c
   |bk o=>
    cases c;exact((w.on j l).on X23 u).on B v
   |rt dd=>
    cases c;exact((w.on j l).on X23 u).on B v
variable {xs:List V}{l:Pv}{d:D}
def TF{x:D}{xs:List D}{s s2:Hf}(g:m U s=some (x,s1))(h:mm U s1=some (xs,s2)):Hc m mm U s=some (x::xs,s2):=by unfold Hc;rw[g];show GZ (mm U s1) _=_;rw[h];rfl
def HZ(st:Hf)(n:Nat):Option (List D):=match st[n]? with
 |some (.lst ds)=>some ds
 |some (.fz ds)=>some ds
 |_=>none
def KG(S:HA K H io st)(hn:io[n]?=some p)(h:HZ st n=some ds):∃xs,JL K H p xs/\Hi K H io xs ds:=by
 unfold HZ at h;split at h
 ·rename_i o he;cases h;obtain⟨xs,e,r⟩:=S.ob n p _ hn he;exact⟨xs,JL.of e,r⟩
 ·rename_i o he;cases h;obtain⟨ob,xs,e,r⟩:=S.ob n p _ hn he;exact⟨xs,.inl<|.inr ⟨ob,e⟩,r⟩
 ·cases h
def W7(hm:(n,ds)∈W.g)(h:stays W st):HZ st n=some ds:=by
 unfold HZ;rcases h _ hm with h|h
 ·have h:st[n]?=some (.lst ds):=h;rw[h]
 have h:st[n]?=some (.fz ds):=h;rw[h]
def gR(m:ME):MI:=λU st=>(m U st).bind λ(d,s)=>match d with
 |.ref n=>(HZ s n).map λds=>(⟨ds,[(n,ds)]⟩,s)
 |_=>none
def gP(m:ME):MI:=λU st=>(m U st).bind λ(d,s)=>match d with
 |.tup ds=>some (⟨ds,[]⟩,s)
 |_=>none
def LQ(h:io[n]?=some p):(io++ka)[n]?=some p:=by rw[Aj (KF.mp h).1];exact h
def kP(hn:io[n]?=some p):Lr K H io ⟨ds,[(n,ds)]⟩ (YB K p) where
 go:=λi d H1 f s hd l a c=>by obtain⟨xs,b,r⟩:=KG a (LQ hn)<|W7 Ar c;obtain⟨v,m,o⟩:=r.get hd;refine⟨⟨xs,v,b,m⟩,λx Q y=>?_⟩;obtain⟨rfl,y⟩:=y;have e:=y xs b;rw[m]at e;cases e;exact⟨Ext.refl,a,o⟩
 stop:=λH1 f s l a c=>by obtain⟨xs,b,r⟩:=KG a (LQ hn)<|W7 Ar c;exact⟨xs,b,by rw[r.length];exact Ah _⟩
 stop':=λH1 f s i N l a c=>by obtain⟨xs,b,r⟩:=KG a (LQ hn)<|W7 Ar c;exact⟨xs,b,by rw[r.length];exact N⟩
def rK(g:SE X l m):SI X tg l (gR m):=PI.imp (tR g) <| by
 rintro σ H R ⟨U,st,io,W,st',E,S,e,k⟩;obtain⟨⟨d,s1⟩,c,e⟩:=Ht e;dsimp only at e;split at e
 ·rename_i n;obtain⟨ds,f,e⟩:=Ig e;cases e;refine⟨U,st,io,_,_,E,S,c,λv H1 i o a x=>?_⟩;obtain⟨p,rfl,b⟩:=x;obtain⟨xs,K,r⟩:=KG a b f;exact⟨p,rfl,⟨xs,K⟩,k _ H1 i o a<|kP b⟩
 ·cases e
def kR(S:HA K H io st)(g:H p=some (.tup xs))(r:Hi K H io xs ds):Lr K H io ⟨ds,[]⟩ (YA K p) where
 go:=λi d H1 b s hd X1 a c=>by obtain⟨v,f,m⟩:=(r.ext S X1).get hd;have l:IK K H1 p xs:=IK.of<|X1.sqT S p xs g;refine⟨⟨xs,v,l,f⟩,λx o y=>?_⟩;obtain⟨rfl,y⟩:=y;have e:=y xs l;rw[f]at e;cases e;exact⟨Ext.refl,a,m⟩
 stop:=λH1 b s X1 a c=>⟨xs,IK.of<|X1.sqT S p xs g,by rw[r.length];exact Ah _⟩
 stop':=λH1 b s i n X1 a c=>⟨xs,IK.of<|X1.sqT S p xs g,by rw[r.length];exact n⟩
def mM(g:SE X l m):SI X tg l (gP m):=PI.imp (lH g) <| by
 rintro σ H R ⟨U,st,io,W,st',E,S,e,k⟩;obtain⟨⟨d,s1⟩,c,e⟩:=Ht e;dsimp only at e;split at e
 ·rename_i ds;cases e;refine⟨U,st,io,_,_,E,S,c,λv H1 f i a n=>?_⟩;obtain⟨p,xs,rfl,b,r⟩:=n;exact⟨p,rfl,⟨xs,IK.of b⟩,k _ H1 f i a<|kR a b r⟩
 ·cases e
def run(lo:Int)(n:Nat):List D:=(AB n).map λ(k:Nat)=>D.int<|lo+(k:Int)
def Ld(lo:Int)(n:Nat):(run lo n).length=n:=by unfold run;rw[Af,Cv]
def run_get{lo:Int}(h:(run lo n)[i]?=some d):i<n/\d=.int (lo+(i:Int)):=by
 have a:i<n:=by
  have q:=(KF.mp h).1
  rwa [Ld]at q
 unfold run at h;rw[Ay,DA a]at h;exact⟨a,(Az h).symm⟩
def kQ(lo:Int)(n:Nat):Lr K H io ⟨run lo n,[]⟩ (UJ lo n) where
 go:=λi d H1 c s hd e b f=>by obtain⟨a,rfl⟩:=run_get hd;refine⟨a,λx l y=>?_⟩;obtain⟨rfl,rfl⟩:=y;exact⟨Ext.refl,b,rfl⟩
 stop:=λH1 c s e b f=>by show n<=_;rw[Ld];exact Ah _
 stop':=λH1 c s i a e b f=>by
  show n<=i;have a:(run lo n).length<=i:=a
  rwa [Ld]at a
def small(j:Int):Bool:=decide (-(2^62)<=j)&&decide (j<2^62)
def bI{j:Int}(h:small j=true):-(2^62)<=j/\j<2^62:=by unfold small at h;rw[An]at h;exact⟨of_decide_eq_true h.1,of_decide_eq_true h.2⟩
def Jc(m:ME):MI:=λU st=>(m U st).bind λ(d,s)=>match d with
 |.int j=>if small j=true then some (⟨run 0 j.toNat,[]⟩,s)else none
 |_=>none
def Le{p:Pos}(h:Gl X "range")(hm:X.mg "range"=none)(q:SE X a m)(g:starEach [a] X.env=[(false,Wp a X.env)]:=by rfl):SI X tg (.Call (.Name "range" p) [a] [] pos) (Jc m):=
 PI.imp (yI h hm (Hh q Hm g) g) <| by
  rintro σ H R ⟨U,st,io,W,st',E,S,e,k⟩;obtain⟨⟨d,s1⟩,c,e⟩:=Ht e;dsimp only at e;split at e
  ·rename_i j;obtain⟨b,e⟩:=Iz e;cases e;refine⟨U,st,io,[.int j],_,E,S,(TF c rfl),λvs H1 f i l R1=>?_⟩;obtain⟨v,rfl,rfl⟩:=R1.one;exact⟨j,rfl,(bI b).1,(bI b).2,k _ H1 f i l<|kQ 0 _⟩
  ·cases e
def Mf(n:Nat)(ds:List D):Ii:=ds.map some++BE (n-ds.length) none
def Iw(n:Nat)(m:MS):GN:=λds st=>(m (Mf n ds) st).bind λ(f,s)=>match f with
 |.rt d=>some (d,s)
 |.nx _=>some (.non,s)
 |_=>none
def yT{N:List Str}(R:Hi K H io vs ds):HJ K H io (start N vs) (Mf N.length ds):=by
 have a:=R.length;refine⟨by unfold start Mf;simp[a],λi d h=>?_⟩;unfold Mf at h;unfold start
 by_cases hi:i<ds.length
 ·rw[Aj (by simpa using hi),Ay]at h
  cases e:ds[i]? with
  |none=>rw[e]at h;cases h
  |some c=>
   rw[e]at h;cases (Az<|Az h)
   obtain⟨v,b,r⟩:=R.get e;exact⟨v,by rw[Aj (by simpa[a]using hi),Ay,b];rfl,r⟩
 ·rw[AY (by simpa using hi),Cj]at h
  split at h<;>cases h
variable {w:World}
section
variable {P:SZ}{mg:Str->Option IR}{base:P3}
def NO{qual:Str}{st:W1}{f:Addr}{N ps:List Str}{m:MS}(F:MK K x qual st f fd)(S:IQ N ps (IW st))(j:∀(g:IR) (A:Around) (outer:List Env) (s:Shared) (H:Hp) (E:XK),HK k (A.deeper<|envOfC qual (IW st) s.heap.objs.size f g) ->
   KN (JK Kx P w K mg base N qual (IW st) f g A outer s H E).nox (Kf st) m):I0 P w K mg base Kx (k+1) f fd ps (Mv K ps.length<|Iw N.length m):=by
 refine F.ok S (λvs H Q E ⟨_,_,_,_,_,h,_⟩=>h) λg A outer s H vs Q E b h=>?_;obtain⟨ds,c,io,d,st',T,R,i,e,a⟩:=h;refine⟨_,j g A outer s H E b,?_⟩;obtain⟨⟨fl,s1⟩,l,e⟩:=Ht e;refine OM (yT R) i l ?_;cases fl with
 |rt W=>cases e;exact a
 |nx U=>cases e;exact λσ' n ka o p X=>a .non n ka o p rfl
 |bk U=>cases e
 |ct U=>cases e
end
def J3(cells:List (Str×Addr)):List (Str×NameKind)->List (Str×Addr)->List (Str×Addr)
 |[],acc=>acc
 |(n,k)::r,acc=>if k==.free then J3 cells r ((n,(cells.lookup n).getD 0)::acc)else J3 cells r acc
variable {env:Env}
theorem WH{env:Env}(f:Str×NameKind->List (Str×Addr)->Sem (ForInStep<|List<|Str×Addr))(hf:∀n k acc,f (n,k) acc=if k==.free then(do let c <-cellOf env n;pure (.yield ((n,c)::acc)))else pure (.yield acc)):
  ∀(names:List (Str×NameKind)) (acc:List (Str×Addr)),(∀n,(n,AG)∈names->∃c,env.cells.lookup n=some c)->(forIn names acc f:Sem (List<|Str×Addr))=pure (J3 env.cells names acc)
 |[],acc,_=>by rw[CY];rfl
 |(n,k)::r,acc,h=>by
  rw[Ek,hf];unfold J3;cases hk:k==AG with
  |false=>
   rw[if_neg (by simp),if_neg (by simp)];have:=WH f hf r acc λm hm=>h m<|Al _ hm;rw[<-this];rfl
  |true=>
   rw[if_pos rfl,if_pos rfl];have a:k=AG:=by simpa using hk
   obtain⟨c,b⟩:=h n (by rw[a];exact Ar);have:=WH f hf r ((n,c)::acc) λm hm=>h m<|Al _ hm;rw[b,Df,<-this];unfold cellOf;rw[b];rfl
variable {scope:Scope}
def zX(h:∀n,(n,AG)∈scope.names->∃c,env.cells.lookup n=some c):closureFor scope env=pure (J3 env.cells scope.names []):=by unfold closureFor;have:=WH (env:=env) (λx acc=>(match x with|(n,k)=>if k==.free then(do let c <-cellOf env n;pure (.yield ((n,c)::acc)))else pure (.yield acc))) (λ_ _ _=>rfl) scope.names [] h;refine Eq.trans ?_ this;simp only[bind_pure]
variable {cells:List (Str×Addr)}
theorem VV{cells:List (Str×Addr)}:∀{names:List (Str×NameKind)} {acc:List (Str×Addr)} {p:Str×Addr},p∈J3 cells names acc->p∈acc\/((p.1,AG)∈names/\p.2=(cells.lookup p.1).getD 0)
 |[],acc,p,h=>.inl h
 |(n,k)::r,acc,p,h=>by
  unfold J3 at h;cases hk:k==AG with
  |false=>
   rw[hk,if_neg (by simp)]at h
   rcases VV h with h|h
   ·exact .inl h
   exact .inr ⟨Al _ h.1,h.2⟩
  |true=>
   rw[hk,if_pos rfl]at h;have g:k=AG:=by simpa using hk
   rcases VV h with h|h
   ·rcases On.mp h with h|h
    ·subst h;exact .inr ⟨by rw[g];exact Ar,rfl⟩
    exact .inl h
   exact .inr ⟨Al _ h.1,h.2⟩
theorem TJ{cells:List (Str×Addr)}:∀{names:List (Str×NameKind)} {acc:List (Str×Addr)} {x:Str},((x,AG)∈names\/(acc.lookup x).isSome=true)->((J3 cells names acc).lookup x).isSome=true
 |[],acc,x,h=>by
  rcases h with h|h
  ·exact absurd h<|by simp
  exact h
 |(n,k)::r,acc,x,h=>by
  unfold J3;cases hk:k==AG with
  |false=>
   rw[if_neg (by simp)];refine TJ ?_
   rcases h with h|h
   ·rcases On.mp h with h|h
    ·have:k=AG:=(Bn h).2.symm;rw[this]at hk;exact absurd hk<|by decide
    exact .inl h
   exact .inr h
  |true=>
   rw[if_pos rfl];refine TJ ?_;by_cases hx:x=n
   ·subst hx;exact .inr<|by simp
   ·rcases h with h|h
    ·rcases On.mp h with h|h
     ·exact absurd (Bn h).1 hx
     exact .inl h
    ·refine .inr ?_;rw[A2];have:(x==n)=false:=by simpa using hx
     rw[this];exact h
theorem Wo:∀{names:List (Str×NameKind)} {n:Nat} {acc:List (Str×Addr)} {p:Str×Addr},p∈cellsFrom n names acc->p∈acc\/n<=p.2
 |[],_,_,_,h=>.inl h
 |(x,k)::r,n,acc,p,h=>by
  unfold cellsFrom at h;split at h
  ·rcases Wo h with h|h
   ·rcases On.mp h with h|h
    ·subst h;exact .inr<|Ah _
    exact .inl h
   exact .inr<|B9 h
  exact Wo h
theorem W4:∀{names:List (Str×NameKind)} {n:Nat} {acc:List (Str×Addr)},(acc.Pairwise λx y=>x.2≠y.2)->(∀p∈acc,p.2<n)->(cellsFrom n names acc).Pairwise λx y=>x.2≠y.2
 |[],_,_,h,_=>h
 |(x,k)::r,n,acc,h,hl=>by
  unfold cellsFrom;split
  ·refine W4 (List.pairwise_cons.mpr ⟨λy g e=>?_,h⟩) λp hp=>?_
   ·have q:=hl y g;have a:n=y.2:=e;rw[<-a]at q;exact AL _ q
   ·rcases On.mp hp with rfl|hp
    ·exact Cc _
    exact C8<|hl p hp
  exact W4 h hl
theorem VH:∀{names:List (Str×NameKind)} {n:Nat} {acc:List (Str×Addr)} {x:Str},((x,AX)∈names\/(acc.lookup x).isSome=true)->((cellsFrom n names acc).lookup x).isSome=true
 |[],n,acc,x,h=>by
  rcases h with h|h
  ·exact absurd h<|by simp
  exact h
 |(m,k)::r,n,acc,x,h=>by
  unfold cellsFrom;cases hk:k==AX with
  |false=>
   rw[if_neg (by simp)];refine VH ?_
   rcases h with h|h
   ·rcases On.mp h with h|h
    ·have:k=AX:=(Bn h).2.symm;rw[this]at hk;exact absurd hk<|by decide
    exact .inl h
   exact .inr h
  |true=>
   rw[if_pos rfl];refine VH ?_;by_cases hx:x=m
   ·subst hx;exact .inr<|by simp
   ·rcases h with h|h
    ·rcases On.mp h with h|h
     ·exact absurd (Bn h).1 hx
     exact .inl h
    ·refine .inr ?_;rw[A2];have:(x==m)=false:=by simpa using hx
     rw[this];exact h
theorem TH:∀{names:List (Str×NameKind)} {n:Nat} {acc:List (Str×Addr)} {x:Str},(x,AX)∉names->(cellsFrom n names acc).lookup x=acc.lookup x
 |[],_,_,_,_=>rfl
 |(m,k)::r,n,acc,x,h=>by
  unfold cellsFrom;cases hk:k==AX with
  |false=>rw[if_neg (by simp)];exact TH λq=>h (Al _ q)
  |true=>
   rw[if_pos rfl,TH λq=>h (Al _ q),A2];have g:k=AX:=by simpa using hk
   have:(x==m)=false:=by
    cases e:x==m with
    |false=>rfl
    |true=>exact absurd (by rw[g,show x=m by simpa using e];exact Ar) h
   rw[this]
theorem VG:∀{names:List (Str×NameKind)} {n:Nat} {acc:List (Str×Addr)} {x:Str}{c:Addr},(x,AX)∈names->(cellsFrom n names acc).lookup x=some c->n<=c
 |[],_,_,_,_,h,_=>absurd h<|by simp
 |(m,k)::r,n,acc,x,c,h,e=>by
  unfold cellsFrom at e;cases hk:k==AX with
  |false=>
   rw[hk,if_neg (by simp)]at e
   rcases On.mp h with h|h
   ·have:k=AX:=(Bn h).2.symm;rw[this]at hk;exact absurd hk<|by decide
   exact VG h e
  |true=>
   rw[hk,if_pos rfl]at e;by_cases a:(x,AX)∈r
   ·exact B9<|VG a e
   ·rw[TH a]at e
    rcases On.mp h with h|h
    ·have b:x=m:=(Bn h).1;subst b;rw[List.lookup_cons_self]at e;exact D3<|Az e
    exact absurd h a
theorem Wy:∀{names:List (Str×NameKind)} {h:P3} {acc:List (Str×Addr)} {p:Str×Addr},p∈cellsFrom h.objs.size names acc->p∈acc\/(pushCells h names).IsCell p.2 none
 |[],_,_,_,h=>.inl h
 |(x,k)::r,h,acc,p,e=>by
  unfold cellsFrom at e;unfold pushCells;split at e
  ·rename_i hk;rw[if_pos hk];have sz:(h.push {cls:=.type "cell",data:=.cell none}).objs.size=h.objs.size+1:=A8 ..;rw[<-sz]at e
   rcases Wy e with q|q
   ·rcases On.mp q with q|q
    ·subst q;exact .inr ⟨_,Dp _ _ _ _<|Ap _ rfl,rfl⟩
    exact .inl q
   exact .inr q
  rename_i hk;rw[if_neg hk];exact Wy e
def Ly(X:Cx)(scope:Scope)(N':List Str)(cells:List (Str×Addr))(C:Addr)(s0:Shared)(g:Hp)(ex:List Addr):Cx:={X with N:=N',s₀:=s0,H₀:=g,env:=compEnvC scope cells C X.env,outer:=X.stack,ex:=ex,fn:=λx=>scope.names.any λp=>p.1==x&&p.2==.cell,pn:=[],xe:=λ_ _=>False}
structure JM(X:Cx)(scope:Scope)(N':List Str)(nt:Nat)(fr:List Nat):Prop where
 kind:scope.kind=.function
 nd:(scope.names.map (·.1)).Nodup
 len:N'.length=nt+fr.length
 cap:∀(i j:Nat) (x:Str),fr[i]?=some j->N'[nt+i]?=some x->X.N[j]?=some x/\(x,AG)∈scope.names
 out:∀x,(x,AG)∈scope.names->X.env.kindOf x=some .cell\/X.env.kindOf x=some .free
theorem lookup_mem:∀{l:List (Str×NameKind)} {x:Str}{k:NameKind},(l.map (·.1)).Nodup->(x,k)∈l->l.lookup x=some k
 |[],_,_,_,h=>absurd h<|by simp
 |(n,j)::r,x,k,g,h=>by
  rw[As,Dq]at g;rw[A2];rcases On.mp h with h|h
  ·cases h;simp
  ·have:x≠n:=λe=>g.1 (by rw[<-e];exact SL.mpr ⟨_,h,rfl⟩);have:(x==n)=false:=by simpa using this
   rw[this];exact lookup_mem g.2 h
theorem UC{env:Env}:∀{l:List (Str×NameKind)} {x:Str}{k:NameKind},(l.map λ(n,k)=>if(k==AG&&env.scope.kind==.function&&env.kindOf n==some .cell)then(n,AX)else(n,k)).lookup x=some k ->
  ∃q,l.lookup x=some q/\(q=k\/q=.free)
 |[],_,_,h=>by simp at h
 |(n,j)::r,x,k,h=>by
  rw[As]at h;dsimp only at h;by_cases hc:(j==AG&&env.scope.kind==.function&&env.kindOf n==some .cell)=true
  ·rw[if_pos hc,A2]at h;rw[A2]
   cases g:x==n with
   |true=>
    have:j=.free:=by rw[An,An]at hc;simpa using hc.1.1
    exact⟨j,rfl,.inr this⟩
   |false=>rw[g]at h;exact UC h
  ·rw[if_neg hc,A2]at h;rw[A2]
   cases g:x==n with
   |true=>rw[g]at h;cases h;exact⟨j,rfl,.inl rfl⟩
   |false=>rw[g]at h;exact UC h
theorem WW{env:Env}:∀{l:List (Str×NameKind)} {x:Str},l.lookup x=some .free ->
  (l.map λ(n,k)=>if(k==AG&&env.scope.kind==.function&&env.kindOf n==some .cell)then(n,AX)else(n,k)).lookup x=some .cell \/
  (l.map λ(n,k)=>if(k==AG&&env.scope.kind==.function&&env.kindOf n==some .cell)then(n,AX)else(n,k)).lookup x=some .free
 |[],_,h=>by simp at h
 |(n,j)::r,x,h=>by
  rw[As];dsimp only;rw[A2]at h;by_cases hc:(j==AG&&env.scope.kind==.function&&env.kindOf n==some .cell)=true
  ·rw[if_pos hc,A2]
   cases g:x==n with
   |true=>exact .inl rfl
   |false=>rw[g]at h;exact WW h
  ·rw[if_neg hc,A2]
   cases g:x==n with
   |true=>rw[g]at h;cases h;exact .inr rfl
   |false=>rw[g]at h;exact WW h
variable {s:Shared}{N':List Str}{nt:Nat}{fr:List Nat}{qp:List (Addr×Obj)}{A:Around}{E:Qqa}{fp:List Addr}
noncomputable abbrev Qp (X:Cx) (scope:Scope):List (Str×Addr):=J3 X.env.cells scope.names []
noncomputable abbrev Lx (X:Cx) (scope:Scope) (C:Nat):List (Str×Addr):=cellsFrom (C+1) scope.names (Qp X scope)
def VA(Z:JM X scope N' nt fr)(ok:X.Ok){p:Str×Addr}(h:p∈Qp X scope):(p.1,AG)∈scope.names/\X.env.cells.lookup p.1=some p.2:=by
 rcases VV h with h|⟨a,b⟩
 ·exact absurd h<|by simp
 obtain⟨c,d⟩:=ok.has p.1<|Z.out p.1 a;rw[d,Df]at b;exact⟨a,by rw[d,b]⟩
def yO(Z:JM X scope N' nt fr)(ok:X.Ok)(h:(x,AG)∈scope.names):∃c,X.env.cells.lookup x=some c/\∀C,(Lx X scope C).lookup x=some c:=by
 obtain⟨c,d⟩:=ok.has x<|Z.out x h;refine⟨c,d,λC=>?_⟩;have no:(x,AX)∉scope.names:=λq=>by have a:=lookup_mem Z.nd h;have b:=lookup_mem Z.nd q;rw[a]at b;cases b
 rw[TH no];have q:=TJ (cells:=X.env.cells) (acc:=[])<|.inl h;obtain⟨f,e⟩:=Option.isSome_iff_exists.mp q;have:=(VA Z ok<|AW e).2;have this:X.env.cells.lookup x=some f:=this;rw[d]at this;rw[e,this]
def uQ(Z:JM X scope N' nt fr)(ok:X.Ok):(Qp X scope).Pairwise λx y=>x.2≠y.2:=by
 have gen:∀(names:List (Str×NameKind)) (acc:List (Str×Addr)),(∀n,(n,AG)∈names->∃c,X.env.cells.lookup n=some c)->(names.map (·.1)).Nodup->(∀p∈acc,p.1∉names.map (·.1)/\X.env.cells.lookup p.1=some p.2)->(acc.Pairwise λx y=>x.2≠y.2) ->
   (J3 X.env.cells names acc).Pairwise λx y=>x.2≠y.2:=by
  intro names
  induction names with
  |nil=>intro acc _ _ _ h;exact h
  |cons p r l=>
   intro acc hf b a d;obtain⟨n,k⟩:=p;rw[As,Dq]at b;unfold J3;cases hk:k==AG with
   |false=>
    rw[if_neg (by simp)];exact l acc (λm hm=>hf m (Al _ hm)) b.2 (λq hq=>⟨λz=>(a q hq).1 (by rw[As];exact Al _ z),(a q hq).2⟩) d
   |true=>
    rw[if_pos rfl];have f:k=AG:=by simpa using hk
    obtain⟨c,i⟩:=hf n (by rw[f];exact Ar);refine l _ (λm hm=>hf m (Al _ hm)) b.2 (λq hq=>?_)<|List.pairwise_cons.mpr ⟨λy o e=>?_,d⟩
    ·rcases On.mp hq with rfl|hq
     ·exact⟨b.1,by rw[i];rfl⟩
     exact⟨λz=>(a q hq).1 (by rw[As];exact Al _ z),(a q hq).2⟩
    have s:(X.env.cells.lookup n).getD 0=y.2:=e;rw[i,Df]at s;have w:=(a y o).2;rw[<-s]at w;have:=ok.inj _ _ _ w i;exact(a y o).1 (by rw[this,As];exact Ar)
 exact gen scope.names [] (λn A=>ok.has n (Z.out n A)) Z.nd (λp d=>absurd d (by simp)) Cu
def uR{M:Model}{cl:List (Str×Addr)}{Q:Env->Shared->Prop}(h:Q {scope:=scope,locals:=s.heap.objs.size,globals:=env.globals,cells:=cellsFrom (s.heap.objs.size+1) scope.names cl,qual:=env.qual,func:=none,code:=env.code,frame:=env.frame,builtins:=env.builtins}
   {s with heap:=pushCells (s.heap.push Qqd) scope.names}):
  wpAny M A (newFunctionEnv scope env.globals cl [] env.qual none .none<|some env) Q E s:=by
 simp only[newFunctionEnv,Fu,if_true];refine Aa<|wpAny_alloc ?_;refine Aa<|wpAny_layCells _ (λname kind cells=>by cases a:kind==AX<;>simp[a]) _ _ _ _ ?_;rw[show({s with heap:=s.heap.push Qqd}:Shared).heap.objs.size=s.heap.objs.size+1 from A8 ..];rw[CY];exact Aa<|Ac<|Ac h
def Nf(σ:L2.St)(nt:Nat)(fr:List Nat):L2.St:=BE nt none++fr.map λ(j:Nat)=>(σ[j]?).join
def uC{fp:List Addr}(Z:JM X scope N' nt fr)(I:Inv X qp σ H s)(hf:∀b∈fp,Kb X qp H b)(g:∀b∈fp,b<s.heap.objs.size):
  Inv (Ly X scope N' (Lx X scope s.heap.objs.size) s.heap.objs.size s H fp) [] (Nf σ nt fr) H {s with heap:=pushCells (s.heap.push Qqd) scope.names}:=by
 have ok:=I.ok;have kp:∀b o,s.heap.get? b=some o->(pushCells (s.heap.push Qqd) scope.names).get? b=some o:=λb o e=>Dp _ _ b o (Ad _ e);have N:∀p∈Qp X scope,p.2<s.heap.objs.size:=λp E=>by obtain⟨_,e⟩:=VA Z ok E;obtain⟨v,q⟩:=I.cell p.1 p.2 e;exact q.lt
 have sz:(s.heap.push Qqd).objs.size=s.heap.objs.size+1:=A8 ..;have cells:∀x c,(Lx X scope s.heap.objs.size).lookup x=some c->(X.env.cells.lookup x=some c)\/(s.heap.objs.size+1<=c/\(pushCells (s.heap.push Qqd) scope.names).IsCell c none):=λx c e=>by
  have m:=AW e;rcases Wo m with h|h
  ·exact .inl (VA Z ok h).2
  ·refine .inr ⟨h,?_⟩;have F:(x,c)∈cellsFrom (s.heap.push Qqd).objs.size scope.names (Qp X scope):=by rw[sz];exact m
   rcases Wy F with q|q
   ·have l:=N _ q;exact absurd (AC l (B9 h)) (AL _)
   exact q
 refine⟨⟨ok.mod,Z.kind,ok.glob,ok.blt,Ah _,λx y c K d=>?_,λx hx=>?_,λx c K d=>?_,ok.hd,ok.frames,.inl rfl,λb A=>?_,I.bs,AA ok.bsz I.sz,λb o e A=>?_,λb A=>?_,I.stack,I.stkFree⟩,
  rfl,I.bare,Un.kept kp,⟨λ_=>none,?_,λi x v K d h3=>?_⟩,λx c e=>?_,I.hok.fresh (Ah _),λx c e=>?_,λp E=>absurd E (by simp[Ly]),I.hok.kept kp,?_⟩
 ·exact name_of_addr (W4 (uQ Z ok) λp E=>C8 (N p E)) (AW K) (AW d)
 ·have hx:(relabel scope X.env).names.lookup x=some .cell\/(relabel scope X.env).names.lookup x=some .free:=hx;have q:(x,AX)∈scope.names\/(x,AG)∈scope.names:=by
   rcases hx with hx|hx
   ·obtain⟨G,e,z|z⟩:=UC hx
    ·subst z;exact .inl (AW e)
    subst z;exact .inr (AW e)
   ·obtain⟨G,e,z|z⟩:=UC hx
    ·subst z;exact .inr (AW e)
    subst z;exact .inr (AW e)
  refine Option.isSome_iff_exists.mp (VH (n:=s.heap.objs.size+1) (acc:=Qp X scope) ?_);rcases q with q|q
  ·exact .inl q
  exact .inr (TJ (.inl q))
 ·have K:(scope.names.any λp=>p.1==x&&p.2==AX)=true:=K;obtain⟨p,E,e⟩:=List.any_eq_true.mp K;rw[An]at e;have J:p.1=x:=by simpa using e.1
  have L:p.2=AX:=by simpa using e.2
  have hm:(x,AX)∈scope.names:=by rw[<-J,<-L];exact E
  exact B9 (VG hm d)
 ·refine⟨Av (g b A),λx c e z=>?_⟩
  rcases cells x c e with q|⟨q,_⟩
  ·exact(hf b A).2.2.2.2.1 x c q z
  have l:=g b A;rw[<-z]at l;exact absurd (AC l (B9 q)) (AL _)
 ·rcases(hf b A).2.2.2.1 with z|z
  ·exact ok.noex b o e z
  exact absurd (AC (Ak e) (AA ok.bsz z)) (AL _)
 ·intro M
  rcases On.mp (I.stkSub b M)with e|e
  ·exact(hf b A).2.1 e
  exact(hf b A).2.2.1 e
 ·exact(Heap.Ns.new s.heap (.type "dict")).keeps (Dp _ _)
 ·
  have T:nt<=i:=by
   by_cases T:i<nt
   ·unfold Nf at d;rw[Aj (by simpa using T),Cj,if_pos T]at d;cases d
   omega
  obtain⟨Q,rfl⟩:∃Q,i=nt+Q:=⟨i-nt,by omega⟩
  unfold Nf at d;rw[AY (by simp),BJ,Nat.add_sub_cancel_left,Ay]at d
  cases U:fr[Q]? with
  |none=>rw[U]at d;cases d
  |some j=>
   rw[U]at d;have d:(σ[j]?).join=some v:=Az d;have d:σ[j]?=some (some v):=by
    cases q:σ[j]? with
    |none=>rw[q]at d;cases d
    |some w=>rw[q]at d;cases w with
     |none=>cases d
     |some w=>cases d;rfl
   obtain⟨P,f⟩:=Z.cap Q j x U K;obtain⟨c,S,W⟩:=yO Z ok f;have B:=Z.out x f;obtain⟨m,hn,Y⟩:=I.loc;obtain⟨u,r,l⟩:=Y j x v P d (B.elim (λz=>.inr (.inl z)) λz=>.inr (.inr z));refine⟨u,r,.inr ⟨?_,c,W _,?_⟩⟩
   ·exact WW (lookup_mem Z.nd f)
   ·rcases l with⟨k,_⟩|⟨_,c',C,z⟩
    ·rcases B with q|q
     ·rw[k]at q;cases q
     rw[k]at q;cases q
    rw[S]at C;cases C;exact z.keeps kp
 ·rcases cells x c e with q|⟨_,q⟩
  ·obtain⟨v,z⟩:=I.cell x c q;exact⟨v,z.keeps kp⟩
  exact⟨none,q⟩
 ·rcases cells x c e with q|⟨q,_⟩
  ·exact I.freeC x c q
  exact I.hok.fresh (B9 q)
 show _=N'.length;unfold Nf;rw[Z.len,AD,BJ,Af]
noncomputable abbrev FF:Qqa:=λ_ _=>False
variable {elt:Pv}{ifs:List Pv}
def zjq{prog:SZ}{R:Result->Shared->Prop}{s:Shared}{target:Pv}{it acc:IR}(I:Nat->Shared->Prop)(turn:∀n s,I n s->wpAny (KB prog w) A (pyNext it) (λr s1=>match r with
   |none=>R (.ok .next) s1
   |some v=>wpAny (KB prog w) A (letOwnedTupleGo target it v) (λ_ s1=>wpAny (KB prog w) A (assign target env v) (λ_ s2=>
     wpAny (KB prog w) A (forIn ifs true λc r=>if r=true then do let ok <-isTrue c env (Wp c env);pure (Dr ok)else pure (Dr r)) (λok s3=>
      if ok=true then wpAny (KB prog w) A (Wp elt env) (λx s4=>
       wpAny (KB prog w) A (call (.builtin "list.append") [acc,x]) (λ_ s5=>∃m,m<n/\I m s5) FF s4) FF s3
      else ∃m,m<n/\I m s3) FF s2) FF s1) FF s1) FF s)
  (n:Nat) (h:I n s):
  codeAny (KB prog w) A (.compLoop (.ListComp elt [⟨target,iter,ifs,0⟩] scope pos) 0 it acc env) R s:=by
 refine codeAny_loop rfl I (λn s b=>?_) n h;show wpAny _ A ((compTurn (.ListComp elt [⟨target,iter,ifs,0⟩] scope pos) 0 it acc env).onRaise (λx=>do noteFrame x env;theTreesLotGoes x)) _ _ s;refine wpAny_noted ?_;rw[compTurn_list];refine Aa<|DP<|Aa<|Bp (turn n s b) (λr s₁ h₁=>?_) λ_ _ a=>False.elim a
 cases r with
 |none=>exact Ac h₁
 |some v=>
  refine Aa<|Bp h₁ (λ_ s₂ h₂=>?_) λ_ _ a=>False.elim a;refine Aa<|Bp h₂ (λ_ s₂ h₂=>Aa (Bp h₂ (λok s₃ h₃=>?_) λ_ _ a=>False.elim a)) λ_ _ a=>False.elim a
  cases ok with
  |false=>exact Ac ⟨rfl,h₃⟩
  |true=>
   exact Aa<|Aa<|Bp h₃ (λx s₄ h₄=>Aa (Bp h₄ (λ_ s₅ h₅=>Ac (Ac ⟨rfl,h₅⟩)) λ_ _ a=>False.elim a)) λ_ _ a=>False.elim a
def Jt(W:Wk)(g:MG)(c:MT)(m:ME):List D->Ii->Hf->Option (List D×Hf)
 |[],U,st=>if walked W st=true then some ([],st)else none
 |d::ds,U,st=>if walked W st=true then(g d U st).bind λ(U1,s1)=>(c U1 s1).bind λ(b,s2)=>
   if b=true then(m U1 s2).bind λ(x,s3)=>(Jt W g c m ds U1 s3).map λ(xs,s4)=>(x::xs,s4)else Jt W g c m ds U1 s2 else none
def IU(U:Ii)(nt:Nat)(fr:List Nat):Ii:=BE nt none++fr.map λ(j:Nat)=>(U[j]?).join
def Jm(mi:MI)(nt:Nat)(fr:List Nat)(g:MG)(c:MT)(m:ME):ME:=λU st=>(mi U st).bind λ(W,s1)=>(Jt W g c m W.ds (IU U nt fr) s1).bind λ(xs,s2)=>
 if fits xs.length=true then some (.ref s2.length,s2++[.lst xs])else none
def Je:MT:=λ_ st=>some (true,st)
def SC(X:Cx)(ifs:List Pv)(m:MT):Prop:=∀(qp:List (Addr×Obj)) (s:Shared) (σ:L2.St) (H:Hp) (Q:Bool->Hp->Prop),Inv X qp σ H s->tT X.K m σ H Q ->
 wpAny (KB X.prog X.w) X.A (forIn ifs true λc r=>if r=true then do let ok <-isTrue c X.env (Wp c X.env);pure (Dr ok)else pure (Dr r)) (TP X qp σ Q) X.xe s
def Nm:SC X [] Je:=by rintro qp s σ H Q I ⟨U,st,io,b,st',E,S,e,k⟩;cases e;rw[CY];exact Ac ⟨H,I,k H [] Ext.refl S.nil⟩
def QV{m:MT}(h:SB X c m):SC X [c] m:=λqp s σ H Q I q=>PySem.wpAny_tests_one<|h qp s σ H Q I q
def tW(h:HJ K H io σ U):HJ K H io (Nf σ nt fr) (IU U nt fr):=by
 refine⟨by unfold Nf IU;simp,λi d e=>?_⟩;unfold IU at e;unfold Nf
 by_cases hi:i<nt
 ·rw[Aj (by simpa using hi),Cj,if_pos hi]at e;cases e
 ·rw[AY (by simpa using hi),BJ,Ay]at e ⊢
  cases a:fr[i-nt]? with
  |none=>rw[a]at e;cases e
  |some j=>
   rw[a]at e;have e:(U[j]?).join=some d:=Az e;have e:U[j]?=some (some d):=by
    cases q:U[j]? with
    |none=>rw[q]at e;cases e
    |some w=>rw[q]at e;cases w with
     |none=>cases e
     |some w=>cases e;rfl
   obtain⟨v,b,r⟩:=h.at_ j d e;exact⟨v,by simp[b],r⟩
def adopt(S:HA K H io st)(g:H p=some (.lst xs))(np:p∉io)(R:Hi K H io xs ds):HA K H (io++[p]) (st++[.lst ds]):=by
 refine⟨by simp[S.len],?_,λn a ob c d=>?_⟩
 ·rw[FP];refine⟨S.nd,by simp,λa f b i=>?_⟩;rw[KM.mp i];rintro rfl;exact np f
 ·by_cases hn:n<io.length
  ·rw[Aj hn]at c;rw[Aj (by rw[<-S.len];exact hn)]at d;exact OR.mono ⟨λ_ _ h=>h,λ_ _ _ h=>h⟩ rfl<|S.ob n a ob c d
  ·have l:n<(io++[p]).length:=(KF.mp c).1;rw[AD,Bl]at l;have e:n=io.length:=by omega
   subst e;rw[AY (Ah _),Do]at c;rw[S.len,AY (Ah _),Do]at d;cases (Az c);cases (Az d);exact⟨xs,g,Hi.mono ⟨λ_ _ h=>h,λ_ _ _ h=>h⟩ R⟩
section
variable {g:MG}{c:MT}
structure CompEnd(X:Cx)(qp:List (Addr×Obj))(σ:L2.St)(H:Hp)(io:List Addr)(d:D)(st':Hf)(Dd C:Addr)(H5:Hp)(s6:Shared):Prop where
 inv:Inv X qp σ H5 s6
 ns:∃m,s6.heap.Ns C m
 free:H5 C=none
 ne:C≠X.env.locals
 young:X.s₀.heap.objs.size<=C
 cells:∀x c,X.env.cells.lookup x=some c->c≠C
 pin:∀p∈X.pn++qp,p.1≠C
 val:∃ka,Ext io ka H H5/\HA X.K H5 (io++ka) st'/\Rep X.K H5 (io++ka) (.ref Dd) d
inductive CompI (X Y:Cx) (W:Wk) (tn:Nat->P3->Prop) (fp io:List Addr) (H1:Hp) (Dd:Addr) (g:MG) (c:MT) (m:ME) (t2:Hf) (xs:List D) (n:Nat) (s5:Shared):Prop
 |mk (i:Nat) (σ5:L2.St) (H5:Hp) (U5:Ii) (st5:Hf) (k5:List Addr) (ac rs:List D) (h0:n=W.ds.length-i) (h1:Inv Y [] σ5 H5 s5) (h2:tn i s5.heap) (h3:∀b∈fp,H5 b=none) (h4:Ext io k5 H1 H5) (h5:Dd∉k5) (h6:HA X.K H5 (io++k5) st5) (h7:HJ X.K H5 (io++k5) σ5 U5) (h8:∃vs,H5 Dd=some (.lst vs)/\Hi X.K H5 (io++k5) vs ac) (h9:Jt W g c m (W.ds.drop i) U5 st5=some (rs,t2)) (h10:xs=ac++rs)
def aG(hx:X.xe=FF)(hc:X.calm=true)(Z:JM X scope N' nt fr)(hi:SI X tg iter mi)(hg:∀C s0 H0 fp,SG (Ly X scope N' (Lx X scope C) C s0 H0 fp) tg g) (ht:∀C s0 H0 fp,SC (Ly X scope N' (Lx X scope C) C s0 H0 fp) ifs c) (he:∀C s0 H0 fp,SE (Ly X scope N' (Lx X scope C) C s0 H0 fp) elt m)(hs:∀x,foldedSetIterable iter X.env x=pure x)         {use:Option (IR->Sem Unit)} {Qf:Qqa}{ps:Pos}(I:Inv X qp σ H s) (E:HJ X.K H io σ U) (S:HA X.K H io st) (e:Jm mi nt fr g c m U st=some (d,st'))(kf:∀y C P s6,CompEnd X qp σ H io d st' y C P s6->compPost (KB X.prog X.w) X.A X.xe use Qf (.ref y) C (.ok .next) s6):
  wpAny (KB X.prog X.w) X.A (comprehension (.ListComp elt [⟨tg,iter,ifs,0⟩] scope pos) scope X.env ps (newList []) false (Wp iter X.env) use) Qf X.xe s:=by
 obtain⟨⟨W,t1⟩,e1,e⟩:=Ht e;obtain⟨⟨xs,t2⟩,e2,e⟩:=Ht e;obtain⟨hfit,e⟩:=Iz e;cases e;refine wpAny_comprehension_free (use:=use) rfl hs (zX λn hn=>I.ok.has n (Z.out n hn)) Z.kind (λx hx hl=>by
  obtain⟨n,k⟩:=x;cases (show k=.local from hl)
  exact lookup_mem Z.nd hx) ?_
 refine HC (hi qp s σ H (λJ H1=>∃ka,Ext io ka H H1/\HA X.K H1 (io++ka) t1/\Lr X.K H1 (io++ka) W J) I ⟨U,st,io,W,t1,E,S,e1,λJ H' ka X' S' O'=>⟨ka,X',S',O'⟩⟩) λv sa ha=>?_;refine HC ha ?_;rintro itv s2 ⟨it,fp,tn,J,H1,Qo,I1,T,tn0,fpok,N,X1,S1,IO⟩;subst Qo;refine AO ?_;have hD:H1 s2.heap.objs.size=none:=I1.hok.fresh (Ah _);have I3:Inv X qp σ (upd H1 s2.heap.objs.size (.lst [])) {s2 with heap:=s2.heap.push {cls:=.type "list",data:=.seq ([]:List IR).toArray},toks:=s2.toks}:=I1.lnew .nil (A0 _);obtain⟨X2,S2a⟩:=Q6 (o:=.lst []) S1 hD;rw[Ao]at S2a;have S2:HA X.K (upd H1 s2.heap.objs.size (.lst [])) (io++N) t1:=S2a;clear S2a;generalize hH3:upd H1 s2.heap.objs.size (.lst [])=H3 at I3 X2 S2;have H3D:H3 s2.heap.objs.size=some (.lst []):=by rw[<-hH3];exact Lc
 generalize hD':s2.heap.objs.size=y at hD I3 X2 S2 hH3 H3D ⊢;generalize hs3:({s2 with heap:=s2.heap.push {cls:=.type "list",data:=.seq ([]:List IR).toArray},toks:=s2.toks}:Shared)=s3 at I3;have fplt:∀b∈fp,b<s3.heap.objs.size:=λb hb=>by obtain⟨o,ho,_⟩:=T.obj 0 _ tn0 b hb;rw[<-hs3];exact AC (Ak ho) (by show _<=(s2.heap.push _).objs.size;rw[A8];exact Cs _)
 have fpD:∀b∈fp,b≠y:=λb hb z=>by obtain⟨o,ho,_⟩:=T.obj 0 _ tn0 b hb;have:=Ak ho;rw[z,<-hD']at this;exact AL _ this
 have L:∀b∈fp,Kb X qp H3 b:=λb hb=>⟨by rw[<-hH3,HW (fpD b hb)];exact(fpok b hb).1,(fpok b hb).2⟩
 have tn3:tn 0 s3.heap:=T.keep 0 _ _ tn0 λb _ o ho=>by rw[<-hs3];exact Ad _ ho
 refine uR ?_;have I4:=uC (fp:=fp) Z I3 L fplt;have tn4:tn 0 (pushCells (s3.heap.push Qqd) scope.names):=T.keep 0 _ _ tn3 λb _ o ho=>Dp _ _ _ _ (Ad _ ho);generalize hs4:({s3 with heap:=pushCells (s3.heap.push Qqd) scope.names}:Shared)=s4 at I4;have tn4:tn 0 s4.heap:=by rw[<-hs4];exact tn4
 show codeAny (KB X.prog X.w) X.A (.compStart (.ListComp elt [⟨tg,iter,ifs,0⟩] scope pos) 0 (.ref it) (.ref y) (Ly X scope N' (Lx X scope s3.heap.objs.size) s3.heap.objs.size s3 H3 fp).env) _ _;generalize M:Ly X scope N' (Lx X scope s3.heap.objs.size) s3.heap.objs.size s3 H3 fp=Y at I4;have yP:Y.prog=X.prog:=by rw[<-M];rfl
 have yW:Y.w=X.w:=by rw[<-M];rfl
 have yK:Y.K=X.K:=by rw[<-M];rfl
 have yC:Y.calm=true:=by rw[<-M];exact hc
 have yA:Y.A=X.A:=by rw[<-M];rfl
 have yx:Y.xe=FF:=by rw[<-M];rfl
 have hg:=hg s3.heap.objs.size s3 H3 fp;have ht:=ht s3.heap.objs.size s3 H3 fp;have he:=he s3.heap.objs.size s3 H3 fp;rw[M]at hg ht he;have yex:Y.ex=fp:=by rw[<-M];rfl
 have yfs:∀b∈fp,b∉Y.fs:=λb hb hs=>by
  rw[<-M]at hs;have hs:b∈L1 X.stack:=hs;rcases On.mp (I3.stkSub b hs)with z|z
  ·exact(L b hb).2.1 z
  exact(L b hb).2.2.1 z
 have yL:Y.env.locals=s3.heap.objs.size:=by rw[<-M];rfl
 have hio:y∉io++N:=λhm=>by obtain⟨u,hu,_⟩:=S1.mem hm;rw[hD]at hu;cases hu
 have start:∀{H':Hp}{sx:Shared}{σ':L2.St},Inv Y [] σ' H' sx->(∀b∈fp,H' b=none)->∀b∈fp,Kb Y [] H' b:=λ{H' sx σ'} I' hn b hb=>by
  refine⟨hn b hb,λz=>?_,yfs b hb,.inl (by rw[yex];exact hb),λx cc e z=>?_,λp hp=>absurd hp (by rw[<-M];simp[Ly])⟩
  ·rw[yL]at z;exact absurd (fplt b hb) (by rw[z];exact AL _)
  exact(I'.ok.exf b (by rw[yex];exact hb)).2 x cc e z
 have loop:∀sx:Shared,Inv Y [] (Nf σ nt fr) H3 sx->tn 0 sx.heap->codeAny (KB X.prog X.w) X.A (.compLoop (.ListComp elt [⟨tg,iter,ifs,0⟩] scope pos) 0 (.ref it) (.ref y) Y.env) (compPost (KB X.prog X.w) X.A X.xe use Qf (.ref y) s3.heap.objs.size) sx:=by
  intro sx Ix tnx;refine zjq (CompI X Y W tn fp (io++N) H1 y g c m t2 xs) ?_ (W.ds.length-0)
   ⟨0,Nf σ nt fr,H3,IU U nt fr,t1,[],[],xs,rfl,Ix,tnx,λb hb=>(L b hb).1,X2,by simp,S2.nil,by rw[Ao];exact tW (by have:=(E.ext S X1).ext S1 X2;rw[Ao]at this;exact this),⟨[],H3D,rfl⟩,by rw[GF];exact e2,rfl⟩
  rintro n s5 ⟨i,σ5,P,U5,st5,l,ac,rs,rfl,I5,tn5,fr5,X25,nk5,S5,E5,⟨vs,hvs,Rvs⟩,G,exs⟩;have nD:∀{kk:List Addr},y∉kk->y∉(io++N)++kk:=λ{kk} hk hm=>(Os.mp hm).elim hio hk;have nF:∀{kk jj:List Addr}{Ha Hb:Hp}{vv:List V},Ext jj kk Ha Hb->Ha y=some (.lst vv)->y∉kk:=λ{kk jj Ha Hb vv} Xx hv hm=>by have q:=Xx.fresh y hm;rw[hv]at q;cases q
  cases hd:W.ds[i]? with
  |none=>
   have hl:W.ds.length<=i:=List.getElem?_eq_none_iff.mp hd;rw[EB hl]at G;obtain⟨hw,G⟩:=Iz G;cases G;have:=T.done Y yP yW yK yC i [] s5 σ5 P FF I5 (start I5 fr5) tn5 (IO.stop' P l _ i hl X25 S5 (Rf hw));rw[yA]at this;refine HC this ?_;rintro r s6 ⟨hr,I6⟩;subst hr;obtain⟨mm,hn,_⟩:=id I6.loc;rw[yL]at hn;have base:Un (L1 X.stack) fp H3 P s3.heap s6.heap:=by have b:=I6.base;rw[<-M]at b;exact b
   have os:s6.os=s3.os:=by have b:=I6.os;rw[<-M]at b;exact b
   have free:P s3.heap.objs.size=none:=by have b:=I6.free;rw[yL]at b;exact b
   have hok:Jz X.prog X.w P s6.heap:=by have b:=I6.hok;rw[yP,yW]at b;exact b
   have I7:Inv X qp σ P s6:=Inv.call' (s':=s6) (ch:=fp) I3 os base hok I6.bare λb hb=>⟨(L b hb).2.2.2.1,(L b hb).2.1,(L b hb).2.2.2.2.1,(L b hb).2.2.2.2.2⟩;have np:y∉(io++N)++l:=nD nk5;rw[Ao]at exs;subst exs;have SA:=adopt S5 hvs np Rvs;have X6:Ext io (N++l) H P:=X1.trans S1 X25;have lt3:X.env.locals<s3.heap.objs.size:=I3.lt;refine kf y s3.heap.objs.size P s6 ⟨I7,⟨mm,hn⟩,free,CS lt3,I3.sz,λx cc e z=>?_,λp hp z=>?_,?_⟩
   ·obtain⟨vv,q⟩:=I3.cell x cc e;have:=q.lt;rw[z]at this;exact AL _ this
   ·have:=Ak (I3.pin p hp).1;rw[z]at this;exact AL _ this
   refine⟨(N++l)++[y],⟨λb o hb nb=>X6.keep b o hb nb,λb hb=>?_,X6.frz⟩,(by simpa using SA),⟨y,rfl,?_⟩⟩
   ·rcases Os.mp hb with hb|hb
    ·exact X6.fresh b hb
    ·rw[KM.mp hb]
     cases q:H y with
     |none=>rfl
     |some o=>
      by_cases hb:y∈io
      ·exact absurd (AK _ hb) hio
      have:=X1.keep y o q hb;rw[hD]at this;cases this
   have:=getElem?_len ((io++N)++l) y;rw[<-S5.len];simpa using this
  |some dd=>
   have hl:i<W.ds.length:=(KF.mp hd).1;have hdr:W.ds.drop i=dd::W.ds.drop (i+1):=by rw[D1 hl,(KF.mp hd).2]
   rw[hdr]at G;obtain⟨hw,G⟩:=Iz G;obtain⟨⟨U6,t6⟩,e6,G⟩:=Ht G;obtain⟨⟨b7,t7⟩,e7,G⟩:=Ht G;obtain⟨go,yl⟩:=IO.go i dd P l st5 hd X25 S5 (Rf hw);have hit:=T.item Y yP yW yK yC i [] s5 σ5 P FF I5 (start I5 fr5) tn5 go;rw[yA]at hit;refine HC hit ?_;rintro r s6 ⟨u,hr,h6⟩;subst hr;refine HC h6 ?_;rintro _ s7 ⟨x,H7,I7,r7,y7,tn7,fr7⟩;obtain⟨X7,S7,R7⟩:=yl x H7 y7;have X57:Ext (io++N) l H1 H7:=(X25.trans S5 X7).app;have hv7:H7 y=some (.lst vs):=X7.keep _ _ hvs (nD nk5);have E7:HJ X.K H7 ((io++N)++l) σ5 U5:=by have:=E5.ext S5 X7;rw[Ao]at this;exact this
   have R7v:Hi X.K H7 ((io++N)++l) vs ac:=by have:=Rvs.ext S5 X7;rw[Ao]at this;exact this
   have I7p:=I7.pinned (start I7 fr7) (T.obj _ _ tn7);rw[<-yA,<-yP,<-yW];rw[<-yx];refine HC (hg _ s7 σ5 H7 x u (λσ8 H8=>∃Q,Ext ((io++N)++l) Q H7 H8/\HA X.K H8 (((io++N)++l)++Q) t6/\HJ X.K H8 (((io++N)++l)++Q) σ8 U6) I7p r7 (by rw[yK];exact⟨dd,U5,st5,(io++N)++l,U6,t6,R7,E7,S7,e6,λσ8 H8 Q X8 S8 E8=>⟨Q,X8,S8,E8⟩⟩)) ?_;rintro _ s8 ⟨σ8,H8,I8,Q,X8,S8,E8⟩;have S8':HA X.K H8 ((io++N)++(l++Q)) t6:=by rw[<-Am];exact S8
   have E8':HJ X.K H8 ((io++N)++(l++Q)) σ8 U6:=by rw[<-Am];exact E8
   have X38:Ext (io++N) (l++Q) H1 H8:=X57.trans S7 X8;have nk8:y∉l++Q:=λhm=>(Os.mp hm).elim nk5 (nF X8 hv7);refine HC (ht _ s8 σ8 H8 (λb H9=>b=b7/\∃F,Ext ((io++N)++(l++Q)) F H8 H9/\HA X.K H9 (((io++N)++(l++Q))++F) t7) I8 (by rw[yK];exact⟨U6,t6,(io++N)++(l++Q),b7,t7,E8',S8',e7,λH9 F X9 S9=>⟨rfl,F,X9,S9⟩⟩)) ?_;rintro ok s9 ⟨H9,I9,eb,F,X9,S9⟩;subst eb;have X39:Ext (io++N) ((l++Q)++F) H1 H9:=X38.trans S8' X9;have S9':HA X.K H9 ((io++N)++((l++Q)++F)) t7:=by rw[<-Am];exact S9
   have E9:HJ X.K H9 ((io++N)++((l++Q)++F)) σ8 U6:=by have:=E8'.ext S8' X9;rw[Am]at this;exact this
   have hv8:H8 y=some (.lst vs):=X8.keep _ _ hv7 (nD nk5);have hv9:H9 y=some (.lst vs):=X9.keep _ _ hv8 (nD nk8);have nk9:y∉(l++Q)++F:=λhm=>(Os.mp hm).elim nk8 (nF X9 hv8);have R8v:Hi X.K H8 ((io++N)++(l++Q)) vs ac:=by have:=R7v.ext S7 X8;rw[Am]at this;exact this
   have R9v:Hi X.K H9 ((io++N)++((l++Q)++F)) vs ac:=by have:=R8v.ext S8' X9;rw[Am]at this;exact this
   have back:∀{Hx:Hp}{sx:Shared}{σx:L2.St},Inv Y ([]++QK fp s7.heap) σx Hx sx->Inv Y [] σx Hx sx/\tn (i+1) sx.heap/\∀b∈fp,Hx b=none:=λ{Hx sx σx} Ix=>by refine⟨Ix.unpinned,T.keep _ _ _ tn7 λb hb o e=>(Ix.pin (b,o) (AJ _ (AJ _ (Uc hb e)))).1,λb hb=>?_⟩;obtain⟨o,e,dn⟩:=T.obj _ _ tn7 b hb;exact(Ix.pin (b,o) (AJ _ (AJ _ (Uc hb e)))).2.1
   cases ok with
   |false=>
    rw[if_neg (by decide)];have G:Jt W g c m (W.ds.drop (i+1)) U6 t7=some (rs,t2):=G;obtain⟨Ib,tnb,frb⟩:=back I9;exact⟨W.ds.length-(i+1),by omega,i+1,σ8,H9,U6,t7,(l++Q)++F,ac,rs,rfl,Ib,tnb,frb,X39,nk9,S9',E9,⟨vs,hv9,R9v⟩,G,exs⟩
   |true=>
    rw[if_pos rfl];have G:((m U6 t7).bind λ(x,s3)=>(Jt W g c m (W.ds.drop (i+1)) U6 s3).map λ(xs,s4)=>(x::xs,s4))=some (rs,t2):=G;obtain⟨⟨x10,t10⟩,e10,G⟩:=Ht G;obtain⟨⟨rs',t11⟩,e11,G⟩:=Ig G;cases G;refine HC (he _ s9 σ8 H9 (λv f=>∃B,Ext ((io++N)++((l++Q)++F)) B H9 f/\HA X.K f (((io++N)++((l++Q)++F))++B) t10/\Rep X.K f (((io++N)++((l++Q)++F))++B) v x10) I9
     (by rw[yK];exact⟨U6,t7,(io++N)++((l++Q)++F),x10,t10,E9,S9',e10,λv f B X10 S10 R10=>⟨B,X10,S10,R10⟩⟩)) λu10 s10 ⟨v10,f,I10,r10,B,X10,S10,R10⟩=>?_
    have X310:Ext (io++N) (((l++Q)++F)++B) H1 f:=X39.trans S9' X10;have nk10:y∉((l++Q)++F)++B:=λhm=>(Os.mp hm).elim nk9 (nF X10 hv9);have S10':HA X.K f ((io++N)++(((l++Q)++F)++B)) t10:=by rw[<-Am];exact S10
    have hv10:f y=some (.lst vs):=X10.keep _ _ hv9 (nD nk9);have E10:HJ X.K f ((io++N)++(((l++Q)++F)++B)) σ8 U6:=by have:=E9.ext S9' X10;rw[Am]at this;exact this
    have R10v:Hi X.K f ((io++N)++(((l++Q)++F)++B)) (vs++[v10]) (ac++[x10]):=by have a:=R9v.ext S9' X10;rw[Am]at a;rw[Am]at R10;exact a.append (Hi.cons R10 Hi.nil)
    have hlen:vs.length<sizeLine:=by rw[R9v.length];have:=of_decide_eq_true hfit;rw[exs]at this;simp at this;omega
    refine HC (dC _ s10 σ8 f (.ref y) [v10] (.ref y) [u10] (λ_ H11=>H11=upd f y (.lst (vs++[v10]))) I10 rfl (.cons r10 .nil) ⟨y,vs,v10,rfl,rfl,hv10,hlen,rfl⟩) ?_;rintro _ s11 ⟨_,H11,I11,_,e11'⟩;subst e11';have nD10:=nD nk10;have XU:∀b o,f b=some o->b≠y->upd f y (.lst (vs++[v10])) b=some o:=λb o hb hn=>by rw[HW hn];exact hb
    have TU:Kp f (upd f y (.lst (vs++[v10]))):=⟨λa ys hb=>XU a _ hb (Qu hb hv10 (by simp)),λa o u hb=>XU a _ hb (Qu hb hv10 (by simp))⟩
    have S11:HA X.K (upd f y (.lst (vs++[v10]))) ((io++N)++(((l++Q)++F)++B)) t10:=by refine⟨S10'.len,S10'.nd,λn a ob h1 h2=>?_⟩;have hne:a≠y:=λz=>nD10 (by rw[<-z];exact AF h1);have:=OR.mono (ka:=[]) TU (HW hne) (S10'.ob n a ob h1 h2);rw[Ao]at this;exact this
    have mono0:∀{v:V}{d:D},Rep X.K f ((io++N)++(((l++Q)++F)++B)) v d->Rep X.K (upd f y (.lst (vs++[v10]))) ((io++N)++(((l++Q)++F)++B)) v d:=λ{v d} h=>by have:=Rep.mono (ka:=[]) TU h;rw[Ao]at this;exact this
    have mono1:∀{v:List V}{d:List D},Hi X.K f ((io++N)++(((l++Q)++F)++B)) v d->Hi X.K (upd f y (.lst (vs++[v10]))) ((io++N)++(((l++Q)++F)++B)) v d:=λ{v d} h=>by have:=Hi.mono (ka:=[]) TU h;rw[Ao]at this;exact this
    obtain⟨Ib,tnb,frb⟩:=back I11;refine⟨W.ds.length-(i+1),by omega,i+1,σ8,upd f y (.lst (vs++[v10])),U6,t10,((l++Q)++F)++B,ac++[x10],rs',rfl,Ib,tnb,frb,⟨λb o hb nb=>XU b o (X310.keep b o hb nb) (λz=>by rw[z,hD]at hb;cases hb),X310.fresh,λb o u hb=>XU b _ (X310.frz b o u hb) (λz=>by rw[z,hD]at hb;cases hb)⟩,nk10,S11,⟨E10.len,λj dj hj=>?_⟩,⟨_,Lc,mono1 R10v⟩,e11,by rw[exs,Am];rfl⟩;obtain⟨v,q,r⟩:=E10.at_ j dj hj;exact⟨v,q,mono0 r⟩
 have l4:=loop s4 I4 tn4;exact codeAny_compStart_list l4 (T.self _ 0 _ _ _ tn4 l4)
def Mq(j:X.xe=FF)(r:X.calm=true)(Z:JM X scope N' nt fr)(hi:SI X tg iter mi)(u:∀C s0 h fp,SG (Ly X scope N' (Lx X scope C) C s0 h fp) tg g) (v:∀C s0 h fp,SC (Ly X scope N' (Lx X scope C) C s0 h fp) ifs c) (he:∀C s0 h fp,SE (Ly X scope N' (Lx X scope C) C s0 h fp) elt m)(y:∀x,foldedSetIterable iter X.env x=pure x:=by intro _;rfl):SE X (.ListComp elt [⟨tg,iter,ifs,0⟩] scope pos) (Jm mi nt fr g c m):=by
 rintro qp s σ H Q I ⟨U,st,io,d,st',E,S,e,k⟩;rw[eval_ListComp];refine aG (use:=none) j r Z hi u v he y I E S e λf C i l R=>?_;obtain⟨n,p⟩:=R.ns;refine⟨n,p,λT a=>?_⟩;obtain⟨ka,w,A,K⟩:=R.val;exact⟨.ref f,i,R.inv.turned (t':=l.toks) (it:=C) (λb o N q=>(a.2 b N).trans q) R.free R.ne (.inr R.young) R.cells R.pin,rfl,k _ _ ka w A K⟩
def WZ{x:Str}{j:Pos}(F:X.xe=FF)(G:X.calm=true)(Z:JM X scope N' nt fr)(hi:SI X tg iter mi)(J:∀C s0 r fp,SG (Ly X scope N' (Lx X scope C) C s0 r fp) tg g) (L:∀C s0 r fp,SC (Ly X scope N' (Lx X scope C) C s0 r fp) ifs c) (he:∀C s0 r fp,SE (Ly X scope N' (Lx X scope C) C s0 r fp) elt m)(M:X.N.Nodup) (u:X.N[i]?=some x) (B:X.env.scope.names.lookup x=some .local)(y:swapsWith (.ListComp elt [⟨tg,iter,ifs,0⟩] scope pos) (some<|.Name x pos') j.line X.env=pure true:=by rfl)(P:∀x,foldedSetIterable iter X.env x=pure x:=by intro _;rfl):SS X (.Assign [.Name x pos'] (.ListComp elt [⟨tg,iter,ifs,0⟩] scope pos) j) (Hq (Jm mi nt fr g c m)<|Hl i):=by
 intro qp s σ H N I h;obtain⟨U,st,io,f,st',E,S,e,w⟩:=Lb.mp h;obtain⟨⟨d,s1⟩,T,e⟩:=Ht e;obtain⟨⟨U',s2⟩,W,e⟩:=Ig e;cases e;cases W;rw[exec_Assign_Name_used _ _ _ _ y];refine Aa<|DP<|Aa ?_;show wpAny _ X.A (do let _ <-comprehension (.ListComp elt [⟨tg,iter,ifs,0⟩] scope pos) scope X.env _ (newList []) false (Wp iter X.env) (some<|assign (.Name x pos') X.env)) _ _ s;refine Aa<|HC (aG (use:=some (assign (.Name x pos') X.env)) (Qf:=λ_ p=>SP X qp N .next p) F G Z hi J L he P I E S T λK C Y s6 R=>?_) λ_ p hq=>Ac (Ac hq);obtain⟨m5,hn⟩:=R.ns;obtain⟨ka,Q,S5,R5⟩:=R.val;show wpAny _ _ (assign (.Name x pos') X.env<|.ref K) _ _ _;refine FI<|cF (v:=.ref K) R.inv M u (.inl B) rfl (?_)<|.inr B;rintro s7 I7 ⟨a,sb,ha⟩;have l:C≠a:=λz=>by
  rcases ha with q|q
  ·exact R.ne<|z.trans q
  exact R.cells _ _ q z.symm
 refine⟨m5,hn.sameBut sb l,λh' n=>?_⟩;refine⟨_,Y,I7.turned (t':=s7.toks) (it:=C) (λb o hb q=>(n.2 b hb).trans q) R.free R.ne (.inr R.young) R.cells R.pin,?_⟩;exact w _ _ ka Q S5<|(E.ext S Q).set i R5
end
variable {v:V}
def HE:G2
 |.int i,.int j,st=>some (.int (i+j),st)
 |.str a,.str b,st=>if fits (a.length+b.length)=true then some (.str (a++b),st)else none
 |.tup a,.tup b,st=>if(!a.isEmpty&&fits (a.length+b.length))=true then some (.tup (a++b),st)else none
 |.ref a,.ref b,st=>match st[a]?,st[b]? with
  |some (.lst x),some (.lst y)=>if fits (x.length+y.length)=true then some (.ref st.length,st++[.lst (x++y)])else none
  |_,_=>none
 |_,_,_=>none
def Jp:Jj X (binaryOp .Add) HE:=by
 rintro qp s σ H x y v u Q I f l ⟨K,m,st,io,d,st',n,o,S,e,k⟩;cases K with
 |int i=>
  cases m with
  |int j=>cases e;exact mX qp s σ H x y v u Q I f l ⟨i,j,n,o,k.now S rfl⟩
  |_=>cases e
 |str i=>
  cases m with
  |str j=>
   obtain⟨hf,e⟩:=Iz e;cases e;exact zks qp s σ H x y v u Q I f l ⟨i,j,n,o,of_decide_eq_true hf,k.now S rfl⟩
  |_=>cases e
 |tup i=>
  cases m with
  |tup j=>
   obtain⟨hf,e⟩:=Iz e;cases e;rw[An]at hf;obtain⟨p,xs,ex,a,b⟩:=n;obtain⟨q,w,A,E,c⟩:=o;refine qF qp s σ H x y v u Q I f l ⟨p,q,xs,w,ex,A,IK.of a,IK.of E,λz=>?_,by rw[b.length,c.length];exact of_decide_eq_true hf.2,λz=>?_,λz p a=>k.tup S (b.append c) a⟩
   ·have:=b.length;rw[z]at this;have:i=[]:=BV this.symm;rw[this]at hf;exact absurd hf.1<|by decide
   have:=c.length;rw[z]at this;have:j=[]:=BV this.symm;subst this;rw[Ao]at k;exact k.now S ⟨p,xs,rfl,a,b⟩
  |_=>cases e
 |ref i=>
  cases m with
  |ref j=>
   unfold HE at e;dsimp only at e;split at e
   ·rename_i g h N T;obtain⟨hf,e⟩:=Iz e;cases e;obtain⟨p,ex,a⟩:=n;obtain⟨q,A,E⟩:=o;obtain⟨xs,U,b⟩:=S.ob i p _ a N;obtain⟨w,W,c⟩:=S.ob j q _ E T;exact mY qp s σ H x y v u Q I f l ⟨p,q,xs,w,ex,A,U,W,by rw[b.length,c.length];exact of_decide_eq_true hf,λp a=>k.lst S (b.append c) a⟩
   ·cases e
  |_=>cases e
 |_=>cases e
def intD(c:Int->Int->Bool)(g:Int->Int->D):G2
 |.int i,.int j,st=>if c i j=true then some (g i j,st)else none
 |_,_,_=>none
def PN{f:IR->IR->Sem IR}{C:Int->Int->Prop}{c:Int->Int->Bool}{g:Int->Int->Int}(h:JU X f (rI C λi j=>.int (g i j)))(q:∀i j,c i j=true->C i j):Jj X f (intD c λi j=>.int (g i j)):=by
 rintro qp s σ H x y v u Q I a b ⟨l,m,st,io,d,st',n,o,S,e,k⟩;cases l with
 |int i=>
  cases m with
  |int j=>
   obtain⟨hf,e⟩:=Iz e;cases e;exact h qp s σ H x y v u Q I a b ⟨i,j,n,o,q i j hf,k.now S rfl⟩
  |_=>cases e
 |_=>cases e
def tt2:Int->Int->Bool:=λ_ _=>true
def K5:G2:=intD tt2 λi j=>.int<|i-j
def PR:Jj X (binaryOp .Sub) K5:=PN (C:=λ_ _=>True) (λqp s σ H x y v u Q I a b ⟨i,j,c,d,_,q⟩=>nE qp s σ H x y v u Q I a b ⟨i,j,c,d,q⟩) λ_ _ _=>trivial
def J1(i:Int):Bool:=decide (-(2^64)<i)&&decide (i<2^64)
def LW:G2:=intD (λi j=>J1 i || J1 j) λi j=>.int<|i*j
def qH:Jj X (binaryOp .Mult) LW:=PN nC λi j h=>by
 rw[Gm]at h;unfold J1 at h;rw[An,An]at h;rcases h with h|h
 ·exact .inl ⟨of_decide_eq_true h.1,of_decide_eq_true h.2⟩
 exact .inr ⟨of_decide_eq_true h.1,of_decide_eq_true h.2⟩
def Im:G2:=intD (λ_ j=>decide (0<j)) λi j=>.int<|i % j
def Mb:Jj X (binaryOp .Mod) Im:=PN nB λi j h=>of_decide_eq_true h
def L3(g:Int->Int->Bool):G2
 |.int i,.int j,st=>some (.bl (g i j),st)
 |_,_,_=>none
def Th{f:IR->IR->Sem IR}{g:Int->Int->Bool}(h:JU X f (NB λi j=>.bl (g i j))):Jj X f (L3 g):=by
 rintro qp s σ H x y v u Q I a b ⟨c,l,st,io,d,st',m,n,S,e,k⟩;cases c with
 |int i=>
  cases l with
  |int j=>cases e;exact h qp s σ H x y v u Q I a b ⟨i,j,m,n,k.now S rfl⟩
  |_=>cases e
 |_=>cases e
def Ph:G2:=L3 λi j=>decide (i<j)
def Qn:G2:=L3 λi j=>decide (i<=j)
def Na:G2:=L3 λi j=>decide (j<i)
def Mh:G2:=L3 λi j=>decide (j<=i)
def Zm:Jj X (Re .Lt) Ph:=Th hX
def Vr:Jj X (Re .LtE) Qn:=Th hV
def Zl:Jj X (Re .Gt) Na:=Th hG
def QJ:Jj X (Re .GtE) Mh:=Th hE
def MQ:D->Bool
 |.non=>true
 |_=>false
def N4:G2:=λx y st=>match y with
 |.non=>some (.bl !MQ x,st)
 |_=>none
def sN(h:Rep K H io v d):decide (v=.non)=MQ d:=by
 cases d with
 |non=>cases (show v=.non from h);rfl
 |bl b=>cases (show v=.bl b from h);rfl
 |int b=>cases (show v=.int b from h);rfl
 |str b=>cases (show v=.str b from h);rfl
 |tup b=>obtain⟨a,xs,rfl,_⟩:=h;rfl
 |ref b=>obtain⟨a,rfl,_⟩:=h;rfl
 |kl b=>obtain⟨a,xs,rfl,_⟩:=h;rfl
 |fn b=>obtain⟨a,rfl,_⟩:=h;rfl
 |er b c f=>cases f<;>(obtain⟨_,_,_,_,h⟩:=h;first|(obtain⟨rfl,_⟩:=h;rfl)|(obtain⟨_,rfl,_⟩:=h;rfl)|(obtain⟨_,_,rfl,_⟩:=h;rfl))
def aN:Jj X (Re .IsNot) N4:=by
 rintro qp s σ H x y v u Q I a b ⟨l,c,st,io,d,st',f,i,S,e,k⟩;cases c with
 |non=>
  cases e;refine qI qp s σ H x y v u Q I a b ⟨i,?_⟩;rw[sN f];exact k.now S rfl
 |_=>cases e
def RQ:D->Hf->Option (D×Hf)
 |.int i,st=>some (.int (-i),st)
 |_,_=>none
def NH(m:ME):ME:=λU st=>(m U st).bind λ(x,s)=>RQ x s
def mE(g:SE X a ma):SE X (.UnaryOp .USub a pos) (NH ma):=PE.imp (iC pA g) <| by
 rintro σ H Q ⟨U,st,io,d,st',E,S,e,k⟩;obtain⟨⟨x,s1⟩,b,e⟩:=Ht e;cases x with
 |int i=>
  cases e;exact⟨U,st,io,.int i,_,E,S,b,λv H1 c f l m=>⟨i,m,k _ H1 c f l rfl⟩⟩
 |_=>cases e
def Ka:G2
 |.tup ds,.int i,st=>(Lf ds i).map λd=>(d,st)
 |.ref n,.int i,st=>(HZ st n).bind λds=>(Lf ds i).map λd=>(d,st)
 |.kl ds,.int i,st=>(Lf ds i).map λd=>(d,st)
 |.str z,.int i,st=>if fits z.length=true then(Lf z.cps.toList i).map λc=>(.str ⟨#[c]⟩,st)else none
 |_,_,_=>none
def Vx{i:Int}(r:Hi K H io xs ds)(h:Lf ds i=some d):∃v,Lf xs i=some v/\Rep K H io v d:=by unfold Lf at h ⊢;rw[r.length];obtain⟨j,a,h⟩:=Ht h;obtain⟨v,b,c⟩:=r.get h;exact⟨v,by rw[a];exact b,c⟩
def Yh:Sf X (RK X.K Ka):=by
 rintro value slice qp s σ H x y v u Q I c f ⟨T,U,st,io,d,st',l,m,S,e,k⟩ o;cases U with
 |int i=>
  cases T with
  |tup ds=>
   obtain⟨A,b,e⟩:=Ig e;cases e;obtain⟨p,xs,ex,E,r⟩:=l;obtain⟨w,hw,a⟩:=Vx r b;exact Io value slice qp s σ H x y v u Q I c f ⟨p,xs,i,w,ex,m,IK.of E,hw,k.now S a⟩ o
  |ref n=>
   obtain⟨ds,W,e⟩:=Ht e;obtain⟨A,b,e⟩:=Ig e;cases e;obtain⟨p,ex,E⟩:=l;obtain⟨xs,N,r⟩:=KG S E W;obtain⟨w,hw,a⟩:=Vx r b;exact aA value slice qp s σ H x y v u Q I c f ⟨p,xs,i,w,ex,m,N,hw,k.now S a⟩ o
  |kl ds=>
   obtain⟨A,b,e⟩:=Ig e;cases e;obtain⟨p,xs,ex,N,r⟩:=l;obtain⟨w,hw,a⟩:=Vx r b;exact aA value slice qp s σ H x y v u Q I c f ⟨p,xs,i,w,ex,m,N.sq,hw,k.now S a⟩ o
  |str z=>
   obtain⟨hf,e⟩:=Iz e;obtain⟨A,b,e⟩:=Ig e;cases e;exact QQ value slice qp s σ H x y v u Q I c f ⟨z,i,A,l,m,of_decide_eq_true hf,b,k.now S rfl⟩ o
  |_=>cases e
 |_=>cases T<;>cases e
def iI(g:SE X a ma)(j:SE X b mb)(q:VF b:=by intro _ _;rfl):SE X (.Subscript a b pos) (mB Ka ma mb):=PE.imp (iA Yh g j q) λ_ _ _ h=>T6 h
def HP:GN
 |[.tup ds],st=>some (.int ds.length,st)
 |[.ref n],st=>(HZ st n).map λds=>(.int ds.length,st)
 |[.kl ds],st=>some (.int ds.length,st)
 |[.str z],st=>if fits z.length=true then some (.int z.length,st)else none
 |_,_=>none
def Mr:Jw X (.builtin "len") HP:=by
 rintro qp s σ H xs us Q I r ⟨ds,st,io,d,st',R,S,e,k⟩;cases ds with
 |nil=>cases e
 |cons i m=>
 cases m with
 |cons w a=>cases i<;>cases e
 |nil=>
 cases i with
 |tup l=>
  cases e;obtain⟨v,rfl,p,b,rfl,c,a⟩:=R.one;refine WT qp s σ H _ us Q I r ⟨p,b,rfl,.inr<|IK.of c,?_⟩;rw[a.length];exact k.now S rfl
 |ref n=>
  obtain⟨l,o,e⟩:=Ig e;cases e;obtain⟨v,rfl,p,rfl,c⟩:=R.one;obtain⟨b,f,a⟩:=KG S c o;refine WT qp s σ H _ us Q I r ⟨p,b,rfl,.inl f,?_⟩;rw[a.length];exact k.now S rfl
 |kl l=>
  cases e;obtain⟨v,rfl,p,b,rfl,f,a⟩:=R.one;refine WT qp s σ H _ us Q I r ⟨p,b,rfl,.inl f.sq,?_⟩;rw[a.length];exact k.now S rfl
 |str z=>
  obtain⟨hf,e⟩:=Iz e;cases e;obtain⟨v,rfl,rfl⟩:=R.one;exact zib qp s σ H _ us Q I r ⟨z,rfl,of_decide_eq_true hf,k.now S rfl⟩
 |_=>cases e
def Lo:GN
 |[.int i],st=>some (.int i,st)
 |[.bl b],st=>some (.int (if b then 1 else 0),st)
 |_,_=>none
def zK:Jw X (.type "int") Lo:=by
 rintro qp s σ H xs us Q I r ⟨ds,st,io,d,st',R,S,e,k⟩;cases ds with
 |nil=>cases e
 |cons a c=>
 cases c with
 |cons f l=>cases a<;>cases e
 |nil=>
 cases a with
 |int i=>
  cases e;obtain⟨v,rfl,rfl⟩:=R.one;exact dI qp s σ H _ us Q I r<|.inl ⟨i,rfl,k.now S rfl⟩
 |bl b=>
  cases e;obtain⟨v,rfl,rfl⟩:=R.one;exact dI qp s σ H _ us Q I r<|.inr ⟨b,rfl,k.now S rfl⟩
 |_=>cases e
def Qt:GN
 |[.int i,.int j],st=>some (.int (if j<i then j else i),st)
 |_,_=>none
def zM(g:X.calm=true):Jw X (.builtin "min") Qt:=by
 rintro qp s σ H xs us Q I r ⟨ds,st,io,d,st',R,S,e,k⟩;unfold Qt at e;split at e
 ·rename_i i j;cases e;obtain⟨v,u,rfl,rfl,rfl⟩:=R.two;exact zL g qp s σ H _ us Q I r ⟨i,j,rfl,k.now S rfl⟩
 ·cases e
def Qx:GN
 |[.tup ds],st=>if fits ds.length=true then some (.ref st.length,st++[.lst ds])else none
 |[.ref n],st=>(HZ st n).bind λds=>if fits ds.length=true then some (.ref st.length,st++[.lst ds])else none
 |[.kl ds],st=>if fits ds.length=true then some (.ref st.length,st++[.lst ds])else none
 |_,_=>none
def zV:Jw X (.type "list") Qx:=by
 rintro qp s σ H xs us Q I r ⟨ds,st,io,d,st',R,S,e,k⟩;cases ds with
 |nil=>cases e
 |cons m w=>
 cases w with
 |cons A a=>cases m<;>cases e
 |nil=>
 cases m with
 |tup o=>
  obtain⟨hf,e⟩:=Iz e;cases e;obtain⟨v,rfl,p,b,rfl,f,a⟩:=R.one;exact WU qp s σ H _ us Q I r ⟨p,b,rfl,.inr<|IK.of f,λl c=>k.lst S a c⟩
 |ref n=>
  obtain⟨o,x,e⟩:=Ht e;obtain⟨hf,e⟩:=Iz e;cases e;obtain⟨v,rfl,p,rfl,f⟩:=R.one;obtain⟨b,i,a⟩:=KG S f x;exact WU qp s σ H _ us Q I r ⟨p,b,rfl,.inl i,λl c=>k.lst S a c⟩
 |kl o=>
  obtain⟨hf,e⟩:=Iz e;cases e;obtain⟨v,rfl,p,b,rfl,i,a⟩:=R.one;exact WU qp s σ H _ us Q I r ⟨p,b,rfl,.inl i.sq,λl c=>k.lst S a c⟩
 |_=>cases e
def K3:GN
 |[.tup ds],st=>some (.tup ds,st)
 |[.ref n],st=>(HZ st n).map λds=>(.tup ds,st)
 |_,_=>none
def LR:Jw X (.type "tuple") K3:=by
 rintro qp s σ H xs us Q I r ⟨ds,st,io,d,st',R,S,e,k⟩;cases ds with
 |nil=>cases e
 |cons f i=>
 cases i with
 |cons A a=>cases f<;>cases e
 |nil=>
 cases f with
 |tup m=>
  cases e;obtain⟨v,rfl,p,b,rfl,c,a⟩:=R.one;exact fJ qp s σ H _ us Q I r ⟨p,b,rfl,.inr ⟨IK.of c,k.now S ⟨p,b,rfl,c,a⟩⟩⟩
 |ref n=>
  obtain⟨m,o,e⟩:=Ig e;cases e;obtain⟨v,rfl,p,rfl,c⟩:=R.one;obtain⟨b,w,a⟩:=KG S c o;exact fJ qp s σ H _ us Q I r ⟨p,b,rfl,.inl ⟨w,λl x=>k.tup S a x⟩⟩
 |_=>cases e
def Jr(f:D->Option PyData):List D->Option (List PyData)
 |[]=>some []
 |d::ds=>(f d).bind λp=>(Jr f ds).map λps=>p::ps
def ID:Nat->Hf->D->Option PyData
 |0,_,_=>none
 |n+1,st,d=>match d with
  |.non=>some .none
  |.bl b=>some<|.bool b
  |.int i=>some<|.int i
  |.str x=>if Bg x=true then some (.str x)else none
  |.tup ds=>(Jr (ID n st) ds).map .tuple
  |.ref k=>(HZ st k).bind λds=>(Jr (ID n st) ds).map .list
  |.kl _=>none
  |.fn _=>none
  |.er _ _ _=>none
theorem W5{n:Nat}:∀{ps:List PyData},(∀p∈ps,p.depth<=n)->El ps<=n
 |[],_=>by rw[El];exact A0 _
 |p::ps,h=>by rw[El];exact Nat.max_le.mpr ⟨h p Ar,W5 λq g=>h q (Al _ g)⟩
def fM{ps:List PyData}:(∀p∈ps,p.canLay0=true)->BH ps=true:=by
 induction ps with
 |nil=>intro _;simp only[BH]
 |cons p ps a=>
  intro h;simp only[BH];rw[h p Ar,a λq b=>h q (Al _ b)];rfl
theorem Wa{f:D->Option PyData}:∀{ds:List D}{ps:List PyData},Jr f ds=some ps->∀p∈ps,∃d,f d=some p
 |[],ps,h,p,hp=>by cases h;exact absurd hp<|by simp
 |d::ds,ps,h,p,hp=>by
  obtain⟨q,g,h⟩:=Ht h;obtain⟨b,a,h⟩:=Ig h;subst h;rcases On.mp hp with rfl|hp
  ·exact⟨d,g⟩
  exact Wa a p hp
theorem Mo:∀{n:Nat}{st:Hf}{d:D}{p:PyData},ID n st d=some p->p.canLay0=true/\p.depth<=n
 |0,_,_,_,h=>by cases h
 |n+1,st,d,p,h=>by
  cases d with
  |non=>cases h;exact⟨by simp only[BG],by simp only[CU];exact A0 _⟩
  |bl b=>cases h;exact⟨by simp only[BG],by simp only[CU];exact A0 _⟩
  |int b=>cases h;exact⟨by simp only[BG],by simp only[CU];exact A0 _⟩
  |str b=>
   obtain⟨g,h⟩:=Iz h;cases h;exact⟨by simp only[BG];exact g,by simp only[CU];exact A0 _⟩
  |tup ds=>
   obtain⟨c,e,h⟩:=Ig h;subst h;have q:∀p∈c,p.canLay0=true/\p.depth<=n:=λp a=>let ⟨d,hd⟩:=Wa e p a;Mo hd;exact⟨by simp only[BG];exact fM λp a=>(q p a).1,by simp only[CU];exact CG (W5 λp a=>(q p a).2)⟩
  |kl ds=>cases h
  |fn ds=>cases h
  |er _ _ _=>cases h
  |ref k=>
   obtain⟨ds,f,h⟩:=Ht h;obtain⟨c,e,h⟩:=Ig h;subst h;have q:∀p∈c,p.canLay0=true/\p.depth<=n:=λp a=>let ⟨d,hd⟩:=Wa e p a;Mo hd;exact⟨by simp only[BG];exact fM λp a=>(q p a).1,by simp only[CU];exact CG (W5 λp a=>(q p a).2)⟩
theorem WY{f:D->Option PyData}(hf:∀{v:V}{u:IR}{d:D}{p:PyData},Rep X.K H io v d->RelV v u->f d=some p->∃as,Reads s.heap u p as):
  ∀{xs:List V}{us:List IR}{ds:List D}{ps:List PyData},Hi X.K H io xs ds->Vals xs us->Jr f ds=some ps->∃as,ReadsAll s.heap us ps as
 |_,_,[],ps,h,r,e=>by
  cases (show _=[] from h)
  cases r;cases e;exact⟨_,.nil⟩
 |_,_,d::ds,ps,h,r,e=>by
  obtain⟨y,z,rfl,g,j⟩:=h;cases r with
  |cons a b=>
   obtain⟨q,c,e⟩:=Ht e;obtain⟨n,i,e⟩:=Ig e;subst e;obtain⟨as,l⟩:=hf g a c;obtain⟨bs,m⟩:=WY hf j b i;exact⟨_,.cons l m⟩
theorem Mt(I:Inv X qp σ H s)(S:HA X.K H io st):∀{n:Nat}{v:V}{u:IR}{d:D}{p:PyData},Rep X.K H io v d->RelV v u->ID n st d=some p->∃as,Reads s.heap u p as
 |0,_,_,_,_,_,_,h=>by cases h
 |n+1,v,u,d,p,h,r,e=>by
  cases d with
  |non=>cases e;cases (show v=.non from h);cases r;exact⟨_,.none⟩
  |bl b=>cases e;cases (show v=.bl b from h);cases r;exact⟨_,.bool _⟩
  |int b=>cases e;cases (show v=.int b from h);obtain⟨t,rfl⟩:=r;exact⟨_,.int _ _⟩
  |str b=>
   obtain⟨U,e⟩:=Iz e;cases e;cases (show v=.str b from h);obtain⟨t,rfl⟩:=r;exact⟨_,.str _ _⟩
  |tup ds=>
   obtain⟨E,c,q⟩:=Ig e;subst q;obtain⟨a,xs,rfl,i,rs⟩:=h;cases r;obtain⟨l,m,⟨o,w,x,k,hd⟩,N⟩:=I.tuple<|IK.of i;obtain⟨as,A⟩:=WY (f:=ID n st) (λh r e=>Mt I S h r e) rs m c;exact⟨_,.tuple w x hd<|by simpa using A⟩
  |kl ds=>cases e
  |fn ds=>cases e
  |er _ _ _=>cases e
  |ref k=>
   obtain⟨ds,Q,e⟩:=Ht e;obtain⟨E,c,q⟩:=Ig e;subst q;obtain⟨a,rfl,i⟩:=h;cases r;obtain⟨xs,T,rs⟩:=KG S i Q;obtain⟨l,m,⟨o,k,w,x,_,hd⟩,N⟩:=I.list T;obtain⟨as,A⟩:=WY (f:=ID n st) (λh r e=>Mt I S h r e) rs m c;exact⟨_,.list w x hd<|by simpa using A⟩
def Kv:G2:=λx y st=>(ID 100 st x).bind λp=>(ID 100 st y).map λq=>(.bl (B0 p q),st)
def JO:G2:=λx y st=>(ID 100 st x).bind λp=>(ID 100 st y).map λq=>(.bl !PyData.eqv p q,st)
def Oa(g:X.A.units+100<cLine):Jj X (Re .Eq) Kv:=by rintro qp s σ H x y v u Q I f i ⟨E,K,st,io,d,st',l,m,S,e,k⟩;obtain⟨p,a,e⟩:=Ht e;obtain⟨q,b,e⟩:=Ig e;cases e;obtain⟨as,n⟩:=Mt I S l f a;obtain⟨bs,o⟩:=Mt I S m i b;have c:=Mo a;have w:=Mo b;exact PySem.SeqAt.compareEq_reads n o c.1 w.1 (BM (Dy (AA (Gn _ _) c.2) _) g) ⟨.bl _,H,I,rfl,k.now S rfl⟩
def PK(g:X.A.units+100<cLine):Jj X (Re .NotEq) JO:=by rintro qp s σ H x y v u Q I f i ⟨E,K,st,io,d,st',l,m,S,e,k⟩;obtain⟨p,a,e⟩:=Ht e;obtain⟨q,b,e⟩:=Ig e;cases e;obtain⟨as,n⟩:=Mt I S l f a;obtain⟨bs,o⟩:=Mt I S m i b;have c:=Mo a;have w:=Mo b;exact PySem.SeqAt.compareNe_reads n o c.1 w.1 (BM (Dy (AA (Gn _ _) c.2) _) g) ⟨.bl _,H,I,rfl,k.now S rfl⟩
def J8(g:HK k A):A.units+100<cLine:=by have:=g.un;omega
variable {t':Nat}
section
variable {h':P3}
def Inv.turnNew{fp:List Addr}{o:HO}(I:Inv X qp σ H s)(hf:∀b∈fp,Kb X qp H b)(k:∀b ob,b∉fp->s.heap.get? b=some ob->h'.get? b=some ob)(h:s.heap.objs.size<=p)(j:∀b∈fp,∀ob,s.heap.get? b=some ob->∃g,h'.get? b=some g) (new:Jv X.prog X.w (upd H p o) h' p o):Inv X qp σ (upd H p o) {s with heap:=h',toks:=t'}:=by
 have a:=I.hok.fresh h;have f:∀b ob,s.heap.get? b=some ob->b≠p:=λb ob e=>Av<|AC (Ak e) h;refine Inv.step (ch:=fp) (g':=s.gens) (d':=s.drawn) I (λb d=>⟨(hf b d).2.2.2.1,(hf b d).2.1,(hf b d).2.2.2.2.1,(hf b d).2.2.2.2.2⟩) (λb ob _ _ hc e _=>k b ob hc e) (λb ob _ _ hc e _=>⟨ob.slots,k b ob hc e⟩)
  (λb ob hc e n=>by rw[HW (f b ob e)];exact n) (λb ob hc e=>⟨ob,k b ob hc e⟩) (λb xs e=>by rw[HW (J7 e a)];exact e) (λb ob u e=>by rw[HW (J7 e a)];exact e)
  (λb A e=>⟨#[],by rw[HW (J7 e a),e];simp⟩) (λm hm=>?_) (λb u e=>?_) I.bare
 ·obtain⟨ob,es,l,x,r⟩:=hm;exact⟨ob,es,l,k _ ob (λz=>(hf _ z).2.1 rfl) x,r⟩
 ·by_cases d:b=p
  ·subst d;rw[Lc]at e;cases e;exact new
  ·rw[HW d]at e;refine(I.hok b u e).stay (λc v hc q=>k c v (λz=>?_) q) (λc q=>by rw[HW (J7 q a)];exact q) λc xs q=>by rw[HW (J7 q a)];exact q
   have i:=(hf c z).1;rcases hc with rfl|hc
   ·rw[i]at e;cases e
   rw[i]at hc;cases hc
def Inv.turnAll{fp:List Addr}(I:Inv X qp σ H s)(hf:∀b∈fp,Kb X qp H b)(k:∀b ob,b∉fp->s.heap.get? b=some ob->h'.get? b=some ob):Inv X qp σ H {s with heap:=h',toks:=t'}:=by
 refine Inv.step (ch:=fp) (g':=s.gens) (d':=s.drawn) I (λb a=>⟨(hf b a).2.2.2.1,(hf b a).2.1,(hf b a).2.2.2.2.1,(hf b a).2.2.2.2.2⟩) (λb ob _ _ hc e _=>k b ob hc e) (λb ob _ _ hc e _=>⟨ob.slots,k b ob hc e⟩)
  (λb ob hc e n=>n) (λb ob hc e=>⟨ob,k b ob hc e⟩) (λb xs e=>e) (λb ob u e=>e)
  (λb l e=>⟨#[],by rw[e];simp⟩) (λm hm=>?_) (λb u e=>?_) I.bare
 ·obtain⟨ob,es,f,i,r⟩:=hm;exact⟨ob,es,f,k _ ob (λz=>(hf _ z).2.1 rfl) i,r⟩
 ·refine(I.hok b u e).stay (λc v hc q=>k c v (λz=>?_) q) (λc q=>q) λc xs q=>q;have d:=(hf c z).1
  rcases hc with rfl|hc
  ·rw[d]at e;cases e
  rw[d]at hc;cases hc
end
def boot_enumerate:UF "enumerate"=some (.type "enumerate"):=by decide +kernel
def pairs(ds:List D):List D:=(ds.zipIdx).map λ(d,k)=>.tup [.int (k:Nat),d]
def bX(h:(pairs ds)[i]?=some d):∃e,ds[i]?=some e/\d=.tup [.int (i:Nat),e]:=by
 unfold pairs at h;rw[Ay,List.getElem?_zipIdx]at h;cases e:ds[i]? with
 |none=>rw[e]at h;cases h
 |some x=>
  rw[e]at h;simp at h;exact⟨x,rfl,h.symm⟩
def pairs_len(ds:List D):(pairs ds).length=ds.length:=by unfold pairs;simp
section
variable {κ:Type} [DecidableEq κ]
def HQ(kvs:List (κ×D))(k:κ):Option D:=(kvs.find? λa=>decide (a.1=k)).map (·.2)
def putD(kvs:List (κ×D))(k:κ)(d:D):List (κ×D):=if(kvs.any λa=>decide (a.1=k))=true then kvs.map (λa=>if a.1=k then(a.1,d)else a)else kvs++[(k,d)]
def KR.any{ps:List (κ×V)}{kvs:List (κ×D)}(r:KR κ K H io ps kvs)(k:κ):(ps.any λg=>decide (g.1=k))=(kvs.any λg=>decide (g.1=k)):=by
 induction r with
 |nil=>rfl
 |cons z t a=>rw[BI,BI,a,z.1]
def KR.length{ps:List (κ×V)}{kvs:List (κ×D)}(r:KR κ K H io ps kvs):ps.length=kvs.length:=Bc r
def KR.val{ps:List (κ×V)}{kvs:List (κ×D)}(r:KR κ K H io ps kvs)(k:κ):(HQ kvs k=none/\IB ps k=none)\/∃d v,HQ kvs k=some d/\IB ps k=some v/\Rep K H io v d:=by
 induction r with
 |nil=>exact .inl ⟨rfl,rfl⟩
 |@cons p q b c z t a=>
  unfold HQ IB at *;rw[AS,AS,z.1];by_cases e:q.1=k
  ·rw[decide_eq_true e];exact .inr ⟨q.2,p.2,rfl,rfl,z.2⟩
  rw[decide_eq_false e];exact a
def KR.append{ps h:List (κ×V)}{kvs g:List (κ×D)}(r:KR κ K H io ps kvs)(j:KR κ K H io h g):KR κ K H io (ps++h) (kvs++g):=by
 induction r with
 |nil=>exact j
 |cons z t a=>exact .cons z a
def KR.put{ps:List (κ×V)}{kvs:List (κ×D)}(r:KR κ K H io ps kvs)(k:κ)(g:Rep K H io v d):KR κ K H io (putK ps k v) (putD kvs k d):=by
 unfold putK putD;rw[KR.any r k];by_cases e:(kvs.any λa=>decide (a.1=k))=true
 ·rw[if_pos e,if_pos e]
  induction r with
  |nil=>exact .nil
  |@cons p q f i z t c=>
   rw[As,As];have b:KR κ K H io (f.map λa=>if a.1=k then(a.1,v)else a) (i.map λa=>if a.1=k then(a.1,d)else a):=by
    clear c e
    induction t with
    |nil=>exact .nil
    |@cons p q f i z t c=>
     rw[As,As];refine .cons ?_ c;rw[z.1];by_cases e:q.1=k
     ·rw[if_pos e,if_pos e];exact⟨rfl,g⟩
     rw[if_neg e,if_neg e];exact z
   refine .cons ?_ b;rw[z.1];by_cases e:q.1=k
   ·rw[if_pos e,if_pos e];exact⟨rfl,g⟩
   rw[if_neg e,if_neg e];exact z
 rw[if_neg e,if_neg e];exact KR.append r<|.cons ⟨rfl,g⟩ .nil
end
def keyOf:D->Option Key
 |.int i=>some<|.inl i
 |.str x=>some<|.inr x
 |_=>none
def keysOf:List D->Option (List Key)
 |[]=>some []
 |d::ds=>(keyOf d).bind λk=>(keysOf ds).map λks=>k::ks
variable {y:V}{md mk:ME}
def T1{k:Key}(h:Rep K H io v d)(e:keyOf d=some k):v=kV k:=by
 cases d with
 |int i=>cases e;exact h
 |str i=>cases e;exact h
 |_=>cases e
theorem OZ:∀{xs:List V}{ds:List D}{ks:List Key},Hi K H io xs ds->keysOf ds=some ks->xs=ks.map kV
 |_,[],ks,h,e=>by cases e;exact h
 |_,d::ds,ks,h,e=>by obtain⟨y,q,rfl,g,j⟩:=h;obtain⟨k,a,e⟩:=Ht e;obtain⟨b,c,e⟩:=Ig e;subst e;rw[T1 g a,OZ j c];rfl
def look(st:Hf)(n:Nat)(k:D):Option (Option D):=match st[n]? with
 |some (.dk a)=>(keyOf k).map λq=>HQ a q
 |some (.dt a)=>match k with
  |.tup ds=>(keysOf ds).map λq=>HQ a q
  |_=>none
 |_=>none
def VY{k:D}{r:Option D}(S:HA K H io st)(g:io[n]?=some p)(j:Rep K H io y k)(h:look st n k=some r):∃o,Ja H p y o/\((r=none/\o=none)\/∃d v,r=some d/\o=some v/\Rep K H io v d):=by
 unfold look at h;split at h
 ·rename_i f e;obtain⟨q,i,h⟩:=Ig h;subst h;obtain⟨s,l,r⟩:=S.ob n p _ g e;have w:=T1 j i;subst w;refine⟨_,Ja.k l,?_⟩
  rcases KR.val r q with⟨a,c⟩|⟨d,v,a,c,m⟩
  ·exact .inl ⟨a,c⟩
  exact .inr ⟨d,v,a,c,m⟩
 ·rename_i f e
  split at h
  ·rename_i ds;obtain⟨q,i,h⟩:=Ig h;subst h;obtain⟨s,l,r⟩:=S.ob n p _ g e;obtain⟨b,xs,rfl,x,rs⟩:=j;have ex:=OZ rs i;subst ex;refine⟨_,Ja.t l x,?_⟩
   rcases KR.val r q with⟨a,c⟩|⟨d,v,a,c,m⟩
   ·exact .inl ⟨a,c⟩
   exact .inr ⟨d,v,a,c,m⟩
  ·cases h
 ·cases h
def YJ(md mk:ME):ME:=λU st=>(md U st).bind λ(d,s1)=>(mk U s1).bind λ(k,s2)=>match d with
 |.ref n=>(look s2 n k).bind λr=>r.map λv=>(v,s2)
 |_=>none
def sR{i:Pv}(h:X.A.units+1<cLine)(j:SE X o md)(hi:SE X i mk)(q:MH i:=by intro _ _;rfl):SE X (.Subscript o i pos) (YJ md mk):=PE.imp (ZK h j hi q) <| by
 rintro σ H Q ⟨U,st,io,d,st',E,S,e,k⟩;obtain⟨⟨x,s1⟩,f,e⟩:=Ht e;obtain⟨⟨y,s2⟩,l,e⟩:=Ht e;cases x with
 |ref n=>
  obtain⟨r,m,e⟩:=Ht e;obtain⟨w,s,e⟩:=Ig e;cases e;subst s;refine⟨U,st,io,_,s1,E,S,f,λv1 H1 K b c N=>⟨U,s1,io++K,y,_,E.ext S b,c,l,λv2 H2 C T a R2=>?_⟩⟩;obtain⟨p,rfl,W⟩:=N;obtain⟨o,g,⟨z,_⟩|⟨F,v,hd,u,B⟩⟩:=VY a (LQ W) R2 m
  ·cases z
  ·cases hd;subst u;exact⟨p,v,rfl,g,((k.on c b).on a T).now a B⟩
 |_=>cases e
def My(neg:Bool)(mk md:ME):ME:=λU st=>(mk U st).bind λ(k,s1)=>(md U s1).bind λ(d,s2)=>match d with
 |.ref n=>(look s2 n k).map λr=>(.bl (if neg then !r.isSome else r.isSome),s2)
 |_=>none
def cM{neg:Bool}(h:tE K (My neg mk md) σ H Q):tE K mk σ H λy H1=>tE K md σ H1 λx H2=>∃a o,x=.ref a/\Ja H2 a y o/\Q (.bl<|if neg then !o.isSome else o.isSome) H2:=by
 obtain⟨U,st,io,d,st',E,S,e,k⟩:=h;obtain⟨⟨y,s1⟩,m,e⟩:=Ht e;obtain⟨⟨x,s2⟩,s,e⟩:=Ht e;cases x with
 |ref n=>
  obtain⟨r,w,e⟩:=Ig e;cases e;refine⟨U,st,io,y,s1,E,S,m,λv1 H1 A i c R1=>⟨U,s1,io++A,_,_,E.ext S i,c,s,λv2 H2 T l f R2=>?_⟩⟩;obtain⟨p,rfl,N⟩:=R2;obtain⟨o,g,z⟩:=VY f N (R1.ext c l) w;have:o.isSome=r.isSome:=by
   rcases z with⟨a,b⟩|⟨W,v,a,b,_⟩
   ·rw[a,b];rfl
   rw[a,b];rfl
  exact⟨p,o,rfl,g,by rw[this];exact((k.on c i).on f l).now f rfl⟩
 |_=>cases e
variable {lo hi:Option Pv}{p2:Pos}
def lY{i:Pv}(g:X.A.units+1<cLine)(hi:SE X i mk)(j:SE X o md)(hm:behindInMarks .In o=false:=by rfl):SB X (.Compare i [.In] [o] pos) (mT<|My false mk md):=PT.imp (ZA (nK g hi j) hm) λσ H Q h=>cM (Rc h)
def zl7{i:Pv}(g:X.A.units+1<cLine)(hi:SE X i mk)(j:SE X o md)(hm:behindInMarks .NotIn o=false:=by rfl):SB X (.Compare i [.NotIn] [o] pos) (mT<|My true mk md):=PT.imp (ZA (yF g hi j) hm) λσ H Q h=>cM (Rc h)
def dput(st:Hf)(n:Nat)(k d:D):Option Hf:=match st[n]? with
 |some (.dk a)=>(keyOf k).bind λq=>if decide (a.length<sizeLine)=true then some (st.set n<|.dk<|putD a q d)else none
 |some (.dt a)=>match k with
  |.tup ds=>(keysOf ds).bind λq=>if decide (a.length<sizeLine)=true then some (st.set n<|.dt<|putD a q d)else none
  |_=>none
 |_=>none
def uT{k:D}(S:HA K H io st)(j:io[n]?=some p)(B:Rep K H io y k)(C:Rep K H io v d)(h:dput st n k d=some st'):∃g,KS H p y v g/\Ext io [] H g/\HA K g (io++[]) st':=by
 unfold dput at h;split at h
 ·rename_i c e;obtain⟨q,f,h⟩:=Ht h;obtain⟨i,h⟩:=Iz h;cases h;obtain⟨m,a,r⟩:=S.ob n p _ j e;have s:=T1 B f;subst s;have:=KR.length r;refine⟨_,KS.k a (by rw[this];exact of_decide_eq_true i),?_⟩;exact MY S j e (λo u z=>by rw[a]at z;cases z) λg T l=>⟨_,l,KR.put (KR.mono T r) q<|Rep.mono T C⟩
 ·rename_i c e
  split at h
  ·rename_i ds;obtain⟨q,f,h⟩:=Ht h;obtain⟨i,h⟩:=Iz h;cases h;obtain⟨m,a,r⟩:=S.ob n p _ j e;obtain⟨b,xs,rfl,w,rs⟩:=B;have ex:=OZ rs f;subst ex;have:=KR.length r;refine⟨_,KS.t a w (by rw[this];exact of_decide_eq_true i),?_⟩;exact MY S j e (λo u z=>by rw[a]at z;cases z) λg T l=>⟨_,l,KR.put (KR.mono T r) q<|Rep.mono T C⟩
  ·cases h
 ·cases h
def LK(md mk g:ME):MS:=λU st=>(g U st).bind λ(v,s1)=>(md U s1).bind λ(d,s2)=>(mk U s2).bind λ(k,s3)=>match d with
 |.ref n=>(dput s3 n k v).map λs4=>(.nx U,s4)
 |_=>none
def rR{i value:Pv}{j:ME}(q:X.A.units+1<cLine)(r:SE X o md)(hi:SE X i mk)(u:SE X value j)(z:swapsWith value (some<|.Subscript o i pos') pos.line X.env=pure false:=by rfl):
  SS X (.Assign [.Subscript o i pos'] value pos) (LK md mk j):=PS.imp (sE q r hi u z) λN σ H h=>by
 obtain⟨U,st,io,f,st',E,S,e,w⟩:=Lb.mp h;obtain⟨⟨v,s1⟩,T,e⟩:=Ht e;obtain⟨⟨d,s2⟩,W,e⟩:=Ht e;obtain⟨⟨k,s3⟩,B,e⟩:=Ht e;cases d with
 |ref n=>
  obtain⟨s4,C,e⟩:=Ig e;cases e;refine⟨U,st,io,v,s1,E,S,T,λv1 H1 m b a R1=>⟨U,s1,io++m,_,s2,E.ext S b,a,W,λv2 H2 y c l R2=>⟨U,s2,(io++m)++y,k,s3,(E.ext S b).ext a c,l,B,λY F G s x I=>?_⟩⟩⟩;obtain⟨p,rfl,J⟩:=R2;obtain⟨K,g,Q,L⟩:=uT x (LQ J) I ((R1.ext a c).ext l s) C;refine⟨p,K,rfl,g,?_⟩;have M:∀σ' P kb,Ext (((io++m)++y)++G) kb F P->_:=Oh (Oh (Oh w b a) c l) s x;exact M σ K [] Q L<|(((E.ext S b).ext a c).ext l s).ext x Q
 |_=>cases e
def OI(t:Bool):ME:=λ_ st=>some (.ref st.length,st++[if t then .dt []else .dk []])
def V4:SE X (.Dict [] [] pos) (OI true):=PE.imp wC <| by
 rintro σ H Q ⟨U,st,io,d,st',E,S,e,k⟩;cases e;intro p a;obtain⟨b,c⟩:=PJ (o:=.dT []) (ob:=.dt []) S a λf T e=>⟨[],e,.nil⟩;exact k _ _ [p] b c ⟨p,rfl,by rw[<-S.len];exact getElem?_len io p⟩
inductive Yb (K:Ab) (g:D->List D->Hf->Option (D×Hf)) (x:V) (xs:List V) (H:Hp) (Q:VK):Prop
 |mk (dx:D) (ds:List D) (st:Hf) (io:List Addr) (d:D) (st':Hf) (h0:Rep K H io x dx) (h1:Hi K H io xs ds) (h2:HA K H io st) (h3:g dx ds st=some (d,st')) (h4:Bh K io H st' d Q)
def K4:D->List D->Hf->Option (D×Hf):=λx xs st=>match x,xs with
 |.ref n,[d]=>match st[n]? with
  |some (.lst ds)=>if decide (ds.length<sizeLine)=true then some (.non,st.set n (.lst<|ds++[d]))else none
  |_=>none
 |_,_=>none
def append_in{ds:List D}{xs:List D}(h:K4 (.ref n) xs st=some (d,st')):∃ds x,st[n]?=some (.lst ds)/\xs=[x]/\ds.length<sizeLine/\d=.non/\st'=st.set n (.lst<|ds++[x]):=by
 unfold K4 at h
 match xs,h with
 |[x],h=>
  dsimp only at h;split at h
  ·rename_i ds e;obtain⟨a,h⟩:=Iz h;cases h;exact⟨ds,x,e,rfl,of_decide_eq_true a,rfl,rfl⟩
  ·cases h
 |[],h=>cases h
 |_::_::_,h=>cases h
def zkz:Se X "list.append" (Yb X.K K4):=by
 rintro qp s σ H x xs v us Q I i rs ⟨m,ds,st,io,d,st',A,Rs,S,e,k⟩;cases m with
 |ref n=>
  obtain⟨l,y,a,rfl,E,rfl,rfl⟩:=append_in (ds:=[]) e;obtain⟨p,rfl,b⟩:=A;obtain⟨w,rfl,N⟩:=Rs.one;obtain⟨c,f,r⟩:=S.ob n p _ b a;refine dC qp s σ H _ _ v us Q I i rs ⟨p,c,w,rfl,rfl,f,by rw[r.length];exact E,?_⟩;obtain⟨U,W⟩:=MY (o:=.lst (c++[w])) (ob:=.lst (l++[y])) S b a (λo u z=>by rw[f]at z;cases z) λh T g=>⟨_,g,(Hi.mono T r).append<|Hi.cons (Rep.mono T N) Hi.nil⟩
  exact k _ _ [] U W rfl
 |_=>unfold K4 at e;cases ds<;>cases e
def Wb{l:List D}(R:Rep K H io v (.ref n))(S:HA K H io st)(h:HZ st n=some l):UE K "list" v H:=by obtain⟨p,rfl,a⟩:=R;obtain⟨xs,b,_⟩:=KG S a h;exact .inl ⟨rfl,xs,b⟩
def JH(m:ME)(mm:MA):ME:=λU st=>(m U st).bind λ(x,s1)=>match x with
 |.ref n=>(HZ s1 n).bind λ_=>(mm U s1).bind λ(xs,s2)=>K4 x xs s2
 |_=>none
def Ms{apos g:Pos}(u:SE X o m)(z:SA X (e::es) mm)(j:attributeBase o "append" X.env (Wp o X.env)=Wp o X.env:=by rfl)(r:((backTo g<|starEach (e::es) X.env).all (λx=>!x.1)&&(backToKw g<|keywordEach [] X.env).all (λx=>x.1.isSome)
   &&decide ((e::es).length+([]:List Keyword).length+(if([]:List Keyword).isEmpty then 0 else 1)<30))=true:=by rfl)
  (q:(apos.endLine==g.line)=true:=by rfl) (B:Qqb X.env e es:=by rfl) (h:Qqc g es X.env:=by rfl):
  SE X (.Call (.Attribute o "append" apos) (e::es) [] g) (JH m mm):=
 PE.imp (YM C0 PySem.F.slot_list_append PySem.F.type_list_append zkz u z j r q B h) <| by
  rintro σ H Q ⟨U,st,io,d,st',E,S,e,k⟩;obtain⟨⟨x,s1⟩,p,e⟩:=Ht e;cases x with
  |ref n=>
   obtain⟨l,s,e⟩:=Ht e;obtain⟨⟨xs,s2⟩,v,e⟩:=Ht e;refine⟨U,st,io,_,s1,E,S,p,λv1 H1 b c a R1=>⟨Wb R1 a s,U,s1,io++b,xs,s2,E.ext S c,a,v,λvs H2 w f i R2=>?_⟩⟩;exact⟨_,xs,s2,(io++b)++w,d,st',R1.ext a f,R2,i,e,(k.on a c).on i f⟩
  |_=>cases e
noncomputable abbrev MO:=Ii->Hf->Option (Option Int×Hf)
inductive tOm (K:Ab) (m:MO) (σ:L2.St) (H:Hp) (Q:Option Int->Hp->Prop):Prop
 |mk (U:Ii) (st:Hf) (io:List Addr) (d:Option Int) (st':Hf) (h1:HJ K H io σ U) (h2:HA K H io st) (h3:m U st=some (d,st')) (h4:∀H' ka,Ext io ka H H'->HA K H' (io++ka) st'->Q d H')
def SO(X:Cx)(e:Option Pv)(m:MO):Prop:=PO X e<|tOm X.K m
def Kz:MO:=λ_ st=>some (none,st)
def KA(m:ME):MO:=λU st=>(m U st).bind λ(d,s)=>match d with
 |.int i=>some (some i,s)
 |_=>none
def M4:SO X none Kz:=λqp s σ H Q I ⟨U,st,io,d,st',E,S,e,k⟩=>sC qp s σ H Q I (by cases e;exact k H [] Ext.refl S.nil)
def M5(h:SE X e m):SO X (some e) (KA m):=λqp s σ H Q I ⟨U,st,io,d,st',E,S,e,k⟩=>ZL h qp s σ H Q I (by
 obtain⟨⟨x,s1⟩,a,e⟩:=Ht e;cases x with
 |int i=>
  cases e;exact⟨U,st,io,_,_,E,S,a,λv1 H1 b c f l=>⟨i,l,k H1 b c f⟩⟩
 |_=>cases e)
def cutD(xs:List D)(lo hi:Option Int):List D:=(xs.drop<|HT.Ip xs.length 0 lo).take<|HT.Ip xs.length xs.length hi-HT.Ip xs.length 0 lo
def VB(r:Hi K H io xs ds)(lo hi:Option Int):Hi K H io (K8 xs lo hi) (cutD ds lo hi):=by unfold K8 cutD;rw[r.length];exact(r.drop _).take _
def XJ:D->Option Int->Option Int->Hf->Option (D×Hf):=λx lo hi st=>match x with
 |.tup ds=>if(decide (HT.Ip ds.length 0 lo=0)&&decide (HT.Ip ds.length ds.length hi=ds.length))=true then none else some (.tup (cutD ds lo hi),st)
 |.ref n=>(HZ st n).map λds=>(.ref st.length,st++[.lst (cutD ds lo hi)])
 |_=>none
def gS(m:ME)(l h:MO):ME:=λU st=>(m U st).bind λ(x,s1)=>(l U s1).bind λ(lo,s2)=>(h U s2).bind λ(hi,s3)=>XJ x lo hi s3
def XQ(K:Ab):V->Option Int->Option Int->Hp->VK->Prop:=λx lo hi H Q=>RH K x lo hi H Q\/RJ K x lo hi H Q
def XI:R8 X (XQ X.K):=by
 intro qp s σ H x v a b lo hi c Q I d e pl pu h;rcases h with h|h
 ·exact pK qp s σ H x v a b lo hi c Q I d e pl pu h
 exact ZU qp s σ H x v a b lo hi c Q I d e pl pu h
def vO{g h:MO}(he:SE X e m)(j:SO X lo g)(u:SO X hi h):SE X (.Subscript e (.Slice lo hi none p2) pos) (gS m g h):=PE.imp (V2 XI he j u) <| by
 rintro σ H Q ⟨U,st,io,d,st',E,S,e,k⟩;obtain⟨⟨x,s1⟩,N,e⟩:=Ht e;obtain⟨⟨a,s2⟩,T,e⟩:=Ht e;obtain⟨⟨b,s3⟩,W,e⟩:=Ht e;refine⟨U,st,io,x,s1,E,S,N,λv1 H1 w i c R1=>⟨U,s1,io++w,a,s2,E.ext S i,c,T,λH2 B l o=>⟨U,s2,(io++w)++B,b,s3,(E.ext S i).ext c l,o,W,λG I y f=>?_⟩⟩⟩;have A:=(R1.ext c l).ext o y;have K:=((k.on c i).on o l).on f y;cases x with
 |tup ds=>
  have e:(if(decide (HT.Ip ds.length 0 a=0)&&decide (HT.Ip ds.length ds.length b=ds.length))=true then none else some (D.tup (cutD ds a b),s3))=some (d,st'):=e;by_cases hw:(decide (HT.Ip ds.length 0 a=0)&&decide (HT.Ip ds.length ds.length b=ds.length))=true
  ·rw[if_pos hw]at e;cases e
  rw[if_neg hw]at e;cases e;obtain⟨p,xs,rfl,s,r⟩:=A;refine .inl ⟨p,xs,rfl,IK.of s,λz=>hw ?_,λq v=>K.tup f (VB r _ _) v⟩;rw[r.length]at z;rw[An];exact⟨decide_eq_true z.1,decide_eq_true z.2⟩
 |ref n=>
  obtain⟨ds,C,e⟩:=Ig e;cases e;obtain⟨p,rfl,s⟩:=A;obtain⟨xs,F,r⟩:=KG f s C;exact .inr ⟨p,xs,rfl,F,λq v=>K.lst f (VB r _ _) v⟩
 |_=>cases e
def MM:G2:=intD (λ_ j=>decide (0<j)&&decide (j<2^128)) λi j=>.int<|i / j
def V1:Jj X (binaryOp .FloorDiv) MM:=PN (C:=λi j=>0<j/\j<2^128) (RO λi j _ _ _ _ _ b q=>by
 refine floordiv_int (by omega) (by rw[Int.fdiv_eq_ediv_of_nonneg i (by omega)];exact q)<|.inl<|PyProof.noPylong_of_log2 ?_;have h0:j.natAbs≠0:=by omega
 have a:j.natAbs<2^128:=by omega
 exact B2 ((F5 h0).mpr a) (by decide)) λi j h=>by rw[An]at h;exact⟨of_decide_eq_true h.1,of_decide_eq_true h.2⟩
def IF:G2:=intD (λi j=>decide (0<=j)&&decide ((Builtin.Int.intBits i:Int)*j<=2^27)) λi j=>.int<|i^j.toNat
def PQ:Jj X (binaryOp .Pow) IF:=PN (C:=λi j=>0<=j/\(Builtin.Int.intBits i:Int)*j<=2^27) (RO λi j _ _ _ _ _ a q=>pow_int a.1 a.2 q) λi j h=>by rw[An]at h;exact⟨of_decide_eq_true h.1,of_decide_eq_true h.2⟩
def J9(t T:String):Bool:=t==T || (t=="bool"&&T=="int")
def sorts:List String:=["NoneType","bool","int","str","tuple","list","dict"]
def kinds:List String:=["bool","int","str","tuple","list","dict"]
variable {t:String}
def qN(g:t∈sorts)(h:T∈kinds):GG K (.type t) (.type T)=some (J9 t T):=by
 have all:∀t∈sorts,∀T∈kinds,GG K (.type t) (.type T)=some (J9 t T):=by
  intro t g T h;simp only[sorts,kinds,A3,A4,or_false]at g h;rcases g with rfl|rfl|rfl|rfl|rfl|rfl|rfl<;>rcases h with rfl|rfl|rfl|rfl|rfl|rfl<;>rfl
 exact all t g T h
def tyName(st:Hf):D->Option String
 |.non=>some "NoneType"
 |.bl _=>some "bool"
 |.int _=>some "int"
 |.str _=>some "str"
 |.tup _=>some "tuple"
 |.ref n=>match st[n]? with
  |some (.lst _)=>some "list"
  |some (.fz _)=>some "list"
  |some (.dk _)=>some "dict"
  |some (.dt _)=>some "dict"
  |some .dz=>some "dict"
  |_=>none
 |.kl _=>none
 |.fn _=>none
 |.er _ _ _=>none
def aV(I:Inv X qp σ H s)(h:JL X.K H p xs):DQ p "list" s.heap:=by obtain⟨a,_,⟨o,n,e,c,_,_⟩,_⟩:=I.list h;exact⟨o,e,c⟩
def zE{ps:List (Key×V)}(I:Inv X qp σ H s)(h:H p=some (.dK ps)):DQ p "dict" s.heap:=by obtain⟨_,_,_,_,o,_,_,e,ex,_⟩:=I.hok p _ h;exact⟨o,e,ex.1⟩
def zF{ps:List (List Key×V)}(I:Inv X qp σ H s)(h:H p=some (.dT ps)):DQ p "dict" s.heap:=by obtain⟨_,_,_,_,o,_,_,e,ex,_⟩:=I.hok p _ h;exact⟨o,e,ex.1⟩
def kY(I:Inv X qp σ H s)(h:H p=some (.ext<|gX p)):DQ p "dict" s.heap:=by obtain⟨⟨o,_,_,e,ex,_⟩,_⟩:=I.hok p _ h;exact⟨o,e,ex.1⟩
def qL{u:IR}{Q:Qqa}(I:Inv X qp σ H s)(S:HA X.K H io st)(R:Rep X.K H io v d)(r:RelV v u)(g:tyName st d=some t)(h:T∈kinds)(q:∀tk,Q (.bool<|J9 t T) {s with toks:=tk}):wpAny (KB X.prog X.w) X.A (call (.builtin "isinstance") [u,.type T]) Q E s:=by
 have k:=λ{x:IR}{i:P3->Prop} (l:t∈sorts) (Z:PySem.W.KitX X.K x (.type t) i) (p:i s.heap) (m:x≠.builtin "__main__.__loader__#opaque")=>PySem.W.kia_one (prog:=X.prog) (w:=X.w) (A:=X.A) (E:=E) Z I.kIn p (qN l h) m q;cases d with
 |non=>cases g;cases (show v=.non from R);cases r;exact k (by decide) PySem.W.kitx_none trivial (by intro e;cases e)
 |bl b=>cases g;cases (show v=.bl b from R);cases r;exact k (by decide) PySem.W.kitx_bool trivial (by intro e;cases e)
 |int b=>cases g;cases (show v=.int b from R);obtain⟨t,rfl⟩:=r;exact k (by decide) PySem.W.kitx_int trivial (by intro e;cases e)
 |str b=>cases g;cases (show v=.str b from R);obtain⟨t,rfl⟩:=r;exact k (by decide) PySem.W.kitx_str trivial (by intro e;cases e)
 |tup ds=>
  cases g;obtain⟨p,xs,rfl,a,_⟩:=R;cases r;obtain⟨y,_,⟨o,e,c,_⟩,_⟩:=I.tuple<|IK.of a;exact k (by decide) PySem.W.kitx_tuple ⟨o,e,c⟩ (by intro e;cases e)
 |ref n=>
  obtain⟨p,rfl,a⟩:=R;cases r;unfold tyName at g;dsimp only at g;split at g
  ·rename_i o e;cases g;obtain⟨xs,f,_⟩:=S.ob n p _ a e;exact k (by decide) FR (aV I<|JL.of f) (by intro e;cases e)
  ·rename_i o e;cases g;obtain⟨ob,xs,f,_⟩:=S.ob n p _ a e;exact k (by decide) FR (aV I<|.inl<|.inr ⟨ob,f⟩) (by intro e;cases e)
  ·rename_i o e;cases g;obtain⟨xs,f,_⟩:=S.ob n p _ a e;exact k (by decide) DY (zE I f) (by intro e;cases e)
  ·rename_i o e;cases g;obtain⟨xs,f,_⟩:=S.ob n p _ a e;exact k (by decide) DY (zF I f) (by intro e;cases e)
  ·rename_i e;cases g;exact k (by decide) DY (kY I<|S.ob n p _ a e) (by intro e;cases e)
  ·cases g
 |kl ds=>cases g
 |fn ds=>cases g
 |er _ _ _=>cases g
def XX(K:Ab)(T:String):List V->Hp->VK->Prop:=λxs H Q=>∃x d st io t,xs=[x,.ty T]/\Rep K H io x d/\HA K H io st/\tyName st d=some t/\Q (.bl<|J9 t T) H
def uP(g:T∈kinds):ML X (.builtin "isinstance") (XX X.K T):=by rintro qp s σ H xs us Q I r ⟨x,d,st,io,t,e,R,S,b,q⟩;subst e;obtain⟨u,w,rfl,c,a⟩:=r.two;cases a;exact qL I S R c b g λtk=>⟨.bl _,H,I.tok tk,rfl,q⟩
def LY(T:String)(m:ME):ME:=λU st=>(m U st).bind λ(x,s)=>(tyName s x).map λt=>(.bl (J9 t T),s)
def mC{x y:Str}{p:Pos}(C:T∈kinds)(F:Gl X "isinstance")(hm:X.mg "isinstance"=none)(G:SE X a m)(g:Gl X y)(h:X.mg y=none)(j:UF y=some (.type T))(q:y≠"__name__":=by decide)(r:(y==("__debug__":Str))=false:=by decide)(B:starEach [a,.Name y p2] X.env=(false,Wp a X.env)::starEach [.Name y p2] X.env:=by rfl) (u:starEach [.Name y p2] X.env=[(false,Wp (.Name y p2) X.env)]:=by rfl) (z:(backTo pos<|starEach [.Name y p2] X.env).any (·.1)=false:=by rfl):
  SE X (.Call (.Name "isinstance" p) [a,.Name y p2] [] pos) (LY T m):=
 PE.imp (aO (uP C) F hm (by decide +kernel) (VI G (VI (tH (v:=.ty T) g h j rfl q r) ZC u) B) (by decide) (by decide) B z) <| by rintro σ H Q ⟨U,st,io,d,st',E,S,e,k⟩;obtain⟨⟨x,s1⟩,f,e⟩:=Ht e;obtain⟨t,i,e⟩:=Ig e;cases e;exact⟨U,st,io,x,_,E,S,f,λv1 H1 b l c n=>⟨v1,x,_,io++b,t,rfl,n,c,i,k _ H1 b l c rfl⟩⟩
theorem Ug{α:Type}{le:α->α->Prop}:∀{g j:List α},g.Perm j->g.Pairwise le->j.Pairwise le->(∀a∈g,∀b∈g,le a b->le b a->a=b)->g=j
 |[],j,p,_,_,_=>(List.Perm.nil_eq p)
 |a::g,[],p,_,_,_=>absurd p.symm (by intro h;have:=h.length_eq;simp at this)
 |a::g,b::j,p,z,B,an=>by
  obtain⟨C,u⟩:=List.pairwise_cons.mp z;obtain⟨hb,c⟩:=List.pairwise_cons.mp B;have e:a=b:=by
   have d:a∈b::j:=p.mem_iff.mp Ar;have f:b∈a::g:=p.mem_iff.mpr Ar;rcases On.mp d with q|q
   ·exact q
   ·rcases On.mp f with r|r
    ·exact r.symm
    exact an a Ar b (Al _ r) (C b r)<|hb a q
  subst e;rw[Ug ((List.perm_cons a).mp p) u c λx i y l=>an x (Al _ i) y (Al _ l)]
def sle(a b:Str):Bool:=!decide (b.cps.toList<a.cps.toList)
def Ol(ss:List Str):List Str:=ss.mergeSort sle
def ZW{a b:Str}(h:a.cps.toList=b.cps.toList):a=b:=by
 obtain⟨x⟩:=a;obtain⟨y⟩:=b;have:x=y:=by have c:x.toList=y.toList:=h;exact Array.toList_inj.mp c
 rw[this]
def zlX(a b:Str):(sle a b || sle b a)=true:=by
 unfold sle;rw[Gm,BS,BS,decide_eq_false_iff_not,decide_eq_false_iff_not];by_cases h:b.cps.toList<a.cps.toList
 ·exact .inr<|List.lt_asymm h
 exact .inl h
def cC(a b c:Str)(g:sle a b=true)(h:sle b c=true):sle a c=true:=by unfold sle at *;rw[BS,decide_eq_false_iff_not]at *;have g:a.cps.toList<=b.cps.toList:=g;have h:b.cps.toList<=c.cps.toList:=h;exact List.le_trans g h
def xG{a b:Str}(g:sle a b=true)(h:sle b a=true):a=b:=by unfold sle at *;rw[BS,decide_eq_false_iff_not]at *;exact ZW<|List.le_antisymm g h
theorem eG:∀{ss:List Str}{p:Str},risingS p ss=true->(p::ss).Pairwise λa b=>sle a b=true
 |[],p,_=>by simp
 |s::ss,p,h=>by
  have h':(!ltCps s.cps.toList p.cps.toList&&risingS s ss)=true:=h;rw[An]at h';have d:=eG h'.2;have c:sle p s=true:=by have:=h'.1;rw[ltCps_eq]at this;exact this
  refine List.pairwise_cons.mpr ⟨λx hx=>?_,d⟩;rcases On.mp hx with rfl|hx
  ·exact c
  exact cC _ _ _ c<|(List.pairwise_cons.mp d).1 x hx
variable {ss:List Str}
def zgP{g:List Str}(p:g.Perm ss)(h:sortedS g=true):g=Ol ss:=by
 have d:g.Pairwise λa b=>sle a b=true:=by
  cases g with
  |nil=>exact Cu
  |cons x r=>exact eG h
 refine Ug (p.trans (CI ss sle).symm) d (C1 (λa b c=>cC a b c) zlX ss) λa _ b _=>xG
def strsOf:List D->Option (List Str)
 |[]=>some []
 |.str x::r=>(strsOf r).map λxs=>x::xs
 |_=>none
def zi8{r:List D}(h:strsOf (d::r)=some ss):∃x xs,d=.str x/\strsOf r=some xs/\ss=x::xs:=by
 cases d with
 |str x=>
  obtain⟨xs,e,h⟩:=Ig h;exact⟨x,xs,rfl,e,h.symm⟩
 |_=>cases h
def dZ(ss:List Str):strsOf (ss.map D.str)=some ss:=by
 induction ss with
 |nil=>rfl
 |cons x r a=>show(strsOf<|r.map D.str).map _=_;rw[a];rfl
theorem V7:∀{xs:List V}{us:List IR}{ds:List D}{ss:List Str},Hi K H io xs ds->Vals xs us->strsOf ds=some ss->StrsAre us ss
 |_,_,[],ss,h,r,e=>by cases (show _=[] from h);cases r;cases e;exact .nil
 |_,_,d::ds,ss,h,r,e=>by
  obtain⟨y,q,rfl,g,j⟩:=h;obtain⟨x,rest,rfl,a,rfl⟩:=zi8 e;cases r with
  |cons b c=>
   cases (show y=.str x from g)
   obtain⟨t,rfl⟩:=b;exact .cons x t<|V7 j c a
theorem Ww:∀{us:List IR}{ss:List Str},StrsAre us ss->Vals (ss.map V.str) us
 |_,_,.nil=>.nil
 |_,_,.cons y t r=>.cons ⟨t,rfl⟩<|Ww r
def zlQ(ss:List Str):Hi K H io (ss.map V.str) (ss.map D.str):=by
 induction ss with
 |nil=>exact rfl
 |cons x r a=>exact Hi.cons rfl a
def Pj(h:n<64):n<=sizeLine:=AA (Cy h)<|by decide
def OX:GN
 |[.ref n],st=>(HZ st n).bind λds=>(strsOf ds).bind λss=>if decide (ss.length<64)=true then some (.ref st.length,st++[.lst ((Ol ss).map D.str)])else none
 |_,_=>none
def zhl:Jw X (.builtin "sorted") OX:=by
 rintro qp s σ H xs us Q I r ⟨ds,st,io,d,st',R,S,e,k⟩;unfold OX at e;split at e
 ·rename_i n;obtain⟨j,y,e⟩:=Ht e;obtain⟨ss,A,e⟩:=Ht e;obtain⟨l,e⟩:=Iz e;cases e;have l:=of_decide_eq_true l;obtain⟨v,rfl,p,rfl,E⟩:=R.one;obtain⟨u,rfl,K⟩:=r.one;cases K;obtain⟨z,N,T⟩:=KG S E y;obtain⟨i,w,pl,B⟩:=I.list N;have x:=V7 T w A;have hlen:i.length=ss.length:=by
   have C:=w.length;have U:=(Ww x).length;rw[Af]at U;omega
  refine sorted_strs pl.isList x (by omega) λout ss' a1 a2 W=>?_;have es:=zgP a2 W;obtain⟨g,m⟩:=sortedAll_at s.heap i out;have h:=Ww a1;have c:H (s.heap.objs.size+1)=none:=I.hok.fresh<|Cs _;have f:(ss'.map V.str).length<=sizeLine:=by rw[Af,a2.length_eq];exact Pj l
  refine⟨.ref<|s.heap.objs.size+1,upd H (s.heap.objs.size+1)<|.lst<|ss'.map V.str,I.laid (t':=s.toks) (a:=s.heap.objs.size+1) (λb o q=>sortedAll_old q) (Cs _) ⟨f,out.toList,g,h,by simpa using m⟩,rfl,?_⟩;rw[es]at *;exact k.lst S (zlQ _) c
 ·cases e
def XO:V->Option Int->Option Int->Hp->VK->Prop:=λx lo hi H Q=>∃z,x=.str z/\z.length<=sizeLine/\Q (.str<|GJ z lo hi) H
def pJ:R8 X XO:=by
 rintro qp s σ H x v m n lo hi o Q I f a pl pu ⟨z,e,b,q⟩;subst e;obtain⟨t,rfl⟩:=f;refine⟨"str",_,F.slot_str_getitem.lookup,Gj _ _ _,?_⟩;have fin:∀t' k,EP X qp σ Q (.str (GJ z lo hi) t') {s with toks:=k}:=λt' k=>⟨.str _,H,I.tok k,⟨t',rfl⟩,q⟩
 cases pl with
 |none=>
  cases pu with
  |none=>exact Ck (l:=none) (u:=none) (st:=none) a rfl<|CM ⟨AA (D8 z _ _) b,fin⟩
  |int j c=>exact Ck (l:=none) (u:=some (j,c)) (st:=none) a rfl<|CM ⟨AA (D8 z _ _) b,fin⟩
 |int i d=>
  cases pu with
  |none=>exact Ck (l:=some (i,d)) (u:=none) (st:=none) a rfl<|CM ⟨AA (D8 z _ _) b,fin⟩
  |int j c=>exact Ck (l:=some (i,d)) (u:=some (j,c)) (st:=none) a rfl<|CM ⟨AA (D8 z _ _) b,fin⟩
def gM:D->Option Int->Option Int->Hf->Option (D×Hf):=λx lo hi st=>match x with
 |.str z=>if fits z.length=true then some (.str (GJ z lo hi),st)else none
 |_=>none
def RU(m:ME)(l h:MO):ME:=λU st=>(m U st).bind λ(x,s1)=>(l U s1).bind λ(lo,s2)=>(h U s2).bind λ(hi,s3)=>gM x lo hi s3
def zl0{g h:MO}(he:SE X e m)(j:SO X lo g)(q:SO X hi h):SE X (.Subscript e (.Slice lo hi none p2) pos) (RU m g h):=PE.imp (V2 pJ he j q) <| by
 rintro σ H Q ⟨U,st,io,d,st',E,S,e,k⟩;obtain⟨⟨x,s1⟩,p,e⟩:=Ht e;obtain⟨⟨a,s2⟩,s,e⟩:=Ht e;obtain⟨⟨b,s3⟩,v,e⟩:=Ht e;refine⟨U,st,io,x,s1,E,S,p,λv1 H1 i c f w=>⟨U,s1,io++i,a,s2,E.ext S c,f,s,λH2 y l n=>⟨U,s2,(io++i)++y,b,s3,(E.ext S c).ext f l,n,v,λN T A o=>?_⟩⟩⟩;have K:=((k.on f c).on n l).on o A;cases x with
 |str z=>
  obtain⟨hf,e⟩:=Iz e;cases e;exact⟨z,w,of_decide_eq_true hf,K.now o rfl⟩
 |_=>cases e
def JG(x:Str)(n:Int):Str:=if n<1 then Fs else if(n==1 || x.length==0)=true then x else⟨(BE n.toNat x.cps).foldl (·++·) #[]⟩
def Sw:G2
 |.str x,.int n,st=>if(decide (-(2^62)<=n)&&decide (n<2^20)&&decide (x.length*n.toNat<=sizeLine)&&decide ((JG x n).length<=sizeLine))=true then some (.str (JG x n),st)else none
 |_,_,_=>none
def vY:Jj X (binaryOp .Mult) Sw:=by
 rintro qp s σ H x y v u Q I p w ⟨K,N,st,io,d,st',A,E,S,e,k⟩;unfold Sw at e;split at e
 ·rename_i z n;obtain⟨i,e⟩:=Iz e;cases e;rw[An,An,An]at i;obtain⟨⟨⟨l,m⟩,o⟩,a⟩:=i;have l:=of_decide_eq_true l;have m:=of_decide_eq_true m;have o:=of_decide_eq_true o;have a:=of_decide_eq_true a
  cases (show x=.str z from A)
  cases (show y=.int n from E)
  obtain⟨t,rfl⟩:=p;obtain⟨T,rfl⟩:=w;have fin:∀t' c,EP X qp σ Q (.str (JG z n) t') {s with toks:=c}:=λt' c=>⟨.str _,H,I.tok c,⟨t',rfl⟩,k.now S rfl⟩
  refine PySem.P.mul_str (by rw[decide_eq_false (by omega),decide_eq_false (by omega)];rfl) (λb _=>?_) (λb _=>?_) ?_
  ·have U:sizeLine=16777216:=Cq;have f:((n.toNat:Nat):Int)=n:=Bz (by omega);have hm:(z.length:Int)*n<=2^63-1:=by
    rw[<-f,<-Gp];omega
   have:=Int.le_ediv_of_mul_le (by omega:0<n) hm;omega
  ·unfold Builtin.Str.tooLong;exact decide_eq_false<|by omega
  ·unfold JG at fin a
   by_cases b:n<1
   ·rw[if_pos b]at fin a ⊢;exact⟨a,fin s.toks<|s.toks+1⟩
   rw[if_neg b]at fin a ⊢;exact CM ⟨a,fin⟩
 ·cases e
def RT(p:PyData):PyData->Option Bool
 |.list xs=>some<|xs.any λy=>B0 y p
 |.tuple xs=>some<|xs.any λy=>B0 y p
 |_=>none
def inD(neg:Bool):G2:=λx y st=>(ID 50 st x).bind λp=>(ID 50 st y).bind λq=>(RT p q).map λb=>(.bl (if neg then !b else b),st)
def eS{xs:List PyData}(h:(PyData.list xs).canLay0=true):BH xs=true:=by simpa only [BG]using h
def fN{xs:List PyData}(h:(PyData.tuple xs).canLay0=true):BH xs=true:=by simpa only [BG]using h
def nA(g:X.A.units+100<cLine):Jj X (Re .In) (inD false):=by
 rintro qp s σ H x y v u Q I w E ⟨T,U,st,io,d,st',K,N,S,e,k⟩;obtain⟨p,b,e⟩:=Ht e;obtain⟨q,c,e⟩:=Ht e;obtain⟨r,a,e⟩:=Ig e;cases e;obtain⟨as,f⟩:=Mt I S K w b;obtain⟨bs,i⟩:=Mt I S N E c;have l:=Mo b;have m:=Mo c;have o:∀n,X.A.units+1+min n p.depth<cLine:=λn=>by have:=D7 n p.depth;omega
 cases q with
 |list xs=>cases a;exact PySem.SeqAt.in_list_reads i f (eS m.1) l.1 (o _) ⟨.bl _,H,I,rfl,k.now S rfl⟩
 |tuple xs=>cases a;exact PySem.SeqAt.in_tuple_reads i f (fN m.1) l.1 (o _) ⟨.bl _,H,I,rfl,k.now S rfl⟩
 |_=>cases a
def yD(g:X.A.units+100<cLine):Jj X (Re .NotIn) (inD true):=by
 rintro qp s σ H x y v u Q I w E ⟨T,U,st,io,d,st',K,N,S,e,k⟩;obtain⟨p,b,e⟩:=Ht e;obtain⟨q,c,e⟩:=Ht e;obtain⟨r,a,e⟩:=Ig e;cases e;obtain⟨as,f⟩:=Mt I S K w b;obtain⟨bs,i⟩:=Mt I S N E c;have l:=Mo b;have m:=Mo c;have o:∀n,X.A.units+1+min n p.depth<cLine:=λn=>by have:=D7 n p.depth;omega
 cases q with
 |list xs=>cases a;exact PySem.SeqAt.notIn_list_reads i f (eS m.1) l.1 (o _) ⟨.bl _,H,I,rfl,k.now S rfl⟩
 |tuple xs=>cases a;exact PySem.SeqAt.notIn_tuple_reads i f (fN m.1) l.1 (o _) ⟨.bl _,H,I,rfl,k.now S rfl⟩
 |_=>cases a
def Mz:G2
 |.str i,.str j,st=>some (.bl (!(Builtin.Str.occurrences j i 0 j.length 1).isEmpty),st)
 |_,_,_=>none
def qG:Jj X (Re .In) Mz:=by
 rintro qp s σ H x y v u Q I a b ⟨l,m,st,io,d,st',c,f,S,e,k⟩;unfold Mz at e;split at e
 ·rename_i i j
  cases e;exact yB qp s σ H x y v u Q I a b ⟨i,j,c,f,k.now S rfl⟩
 ·cases e
end L2.MP
namespace Srt
open PySem PySem.W PyProof.Rows
variable {α:Type}
def Hd(n:Nat)(r:Nat->Int){α:Type}:KasT α->(α->Prop)->Prop
 |.ret a,Q=>Q a
 |.ask i j k,Q=>(i<n/\j<n)/\Hd n r (k<|decide (r i<r j)) Q
variable {n i j src d m N:Nat}{c:Prop}{p:Array Nat}
section
variable {r:Nat->Int}{β:Type}
theorem Hd.bind{f:α->KasT β}{Q:β->Prop}:∀{t:KasT α},Hd n r t (λa=>Hd n r (f a) Q)->Hd n r (t.bind f) Q
 |.ret _,h=>h
 |.ask i j k,h=>⟨h.1,Hd.bind (t:=k _) h.2⟩
theorem Hd.mono{P Q:α->Prop}(k:∀a,P a->Q a):∀{t:KasT α},Hd n r t P->Hd n r t Q
 |.ret a,h=>k a h
 |.ask i j f,h=>⟨h.1,Hd.mono k (t:=f _) h.2⟩
def QO[Decidable c]{A B:KasT α}{Q:α->Prop}(a:c)(h:Hd n r A Q):Hd n r (if decide c=true then A else B) Q:=by rw[decide_eq_true a,if_pos rfl];exact h
def QN[Decidable c]{A B:KasT α}{Q:α->Prop}(a:¬c)(h:Hd n r B Q):Hd n r (if decide c=true then A else B) Q:=by rw[decide_eq_false a,if_neg AV];exact h
def LI(n:Nat)(p:Array Nat):Prop:=∀k,p.getD k 0<n
def R(r:Nat->Int)(p:Array Nat)(k:Nat):Int:=r<|p.getD k 0
def Up(r:Nat->Int)(p:Array Nat)(m:Nat):Prop:=∀i j,i<=j->j<m->R r p i<=R r p j
def Dn(r:Nat->Int)(p:Array Nat)(m:Nat):Prop:=∀i j,i<=j->j<m->R r p j<=R r p i
def getD_eq{q:Array Nat}(h:p[i]?=q[j]?):p.getD i 0=q.getD j 0:=by rw[B3,B3,h]
def Tj(a:j<=p.size)(k:Nat):(kas_rev p i j).getD k 0=if i<=k/\k<j then p.getD (i+j-1-k) 0 else p.getD k 0:=by
 have e:=getElem?_mirror_all (i:=i) a k;unfold kas_rev;by_cases h:i<=k/\k<j
 ·rw[if_pos h]at e ⊢;exact getD_eq e
 rw[if_neg h]at e ⊢;exact getD_eq e
def Z4(a:src<p.size)(hd:d<=src)(k:Nat):(bubble p src d).getD k 0=if k=src-d then p.getD src 0 else if src-d<k/\k<=src then p.getD (k-1) 0 else p.getD k 0:=by
 have e:=getElem?_bubble a d hd k;by_cases h1:k=src-d
 ·rw[if_pos h1]at e ⊢;exact getD_eq e
 ·rw[if_neg h1]at e ⊢
  by_cases h2:src-d<k/\k<=src
  ·rw[if_pos h2]at e ⊢;exact getD_eq e
  rw[if_neg h2]at e ⊢;exact getD_eq e
def Q1(a:j<=p.size)(h:LI n p):LI n (kas_rev p i j):=λk=>by
 rw[Tj a];split
 ·exact h _
 exact h _
def oO(a:src<p.size)(hd:d<=src)(h:LI n p):LI n (bubble p src d):=λk=>by
 rw[Z4 a hd];by_cases h1:k=src-d
 ·rw[if_pos h1];exact h _
 ·rw[if_neg h1]
  by_cases h2:src-d<k/\k<=src
  ·rw[if_pos h2];exact h _
  rw[if_neg h2];exact h _
def Vj(p:Array Nat)(i j:Nat):(kas_rev p i j).size=p.size:=mirror_size _ _ _ _
def Td(p:Array Nat)(i j:Nat):(kas_rev p i j).Perm p:=mirror_perm _ _ _ _
def Up.more(h:Up r p m)(hl:m=0\/R r p (m-1)<=R r p m):Up r p (m+1):=λi j c d=>by
 by_cases hm:j<m
 ·exact h i j c hm
 ·have e:j=m:=by omega
  subst e;by_cases hi:i=j
  ·rw[hi];exact Da _
  ·rcases hl with hl|hl
   ·omega
   exact CV (h i (j-1) (by omega)<|by omega) hl
def Dn.more(h:Dn r p m)(hl:m=0\/R r p m<=R r p (m-1)):Dn r p (m+1):=λi j c d=>by
 by_cases hm:j<m
 ·exact h i j c hm
 ·have e:j=m:=by omega
  subst e;by_cases hi:i=j
  ·rw[hi];exact Da _
  ·rcases hl with hl|hl
   ·omega
   exact CV hl<|h i (j-1) (by omega)<|by omega
theorem Vf{p:Array Nat}(b:LI n p):∀(f m:Nat),1<=m->Up r p m->Hd n r (kas_asc p f m) λa=>m<=a/\a<=m+f/\Up r p a/\(a<m+f->R r p a<R r p (a-1))
 |0,m,e,h=>⟨Ah _,Ah _,h,λz=>absurd z (AL _)⟩
 |f+1,m,e,h=>by
  refine⟨⟨b _,b _⟩,?_⟩;by_cases c:r (p.getD m 0)<r (p.getD (m-1) 0)
  ·refine QO c ?_;exact⟨Ah _,Cf _ _,h,λ_=>c⟩
  refine QN c ?_;refine Hd.mono (λa h'=>?_)<|Vf b f (m+1) (by omega)<|h.more<|.inr<|Int.not_lt.mp c;exact⟨by omega,by omega,h'.2.2.1,λz=>h'.2.2.2 (by omega)⟩
def UM(r:Nat->Int)(p:Array Nat)(i j:Nat):Prop:=∀k,i<=k->k<j->R r p k=R r p (j-1)
def VJ(a:j<=p.size)(h:UM r p i j)(k:Nat):R r (kas_rev p i j) k=R r p k:=by
 unfold R;rw[Tj a];split
 ·rename_i hk;have c:=h (i+j-1-k) (by omega) (by omega);have d:=h k hk.1 hk.2;exact c.trans d.symm
 rfl
def Dn.same{f:Array Nat}(h:Dn r p m)(e:∀k,R r f k=R r p k):Dn r f m:=λi j a b=>by rw[e,e];exact h i j a b
def lV(hm:m<=p.size)(h:Dn r p m):Up r (kas_rev p 0 m) m:=λi j c d=>by unfold R;rw[Tj hm,Tj hm,if_pos (by omega),if_pos (by omega)];exact h (0+m-1-j) (0+m-1-i) (by omega)<|by omega
theorem Tp{N:Nat}:∀(f:Nat) (p:Array Nat) (m q:Nat),LI n p->p.size=N->1<=m->m+f<=N->q+1<=m->Dn r p m->UM r p (m-(q+1)) m ->
  Hd n r (kas_desc f p m q) λt=>LI n t.1/\t.1.Perm p/\m<=t.2.1/\t.2.1<=m+f/\t.2.2+1<=t.2.1/\Dn r t.1 t.2.1/\UM r t.1 (t.2.1-(t.2.2+1)) t.2.1
 |0,p,m,q,a,b,h,l,g,hd,he=>⟨a,CN _,Ah _,Ah _,g,hd,he⟩
 |f+1,p,m,q,a,b,h,l,g,hd,he=>by
  refine⟨⟨a _,a _⟩,?_⟩;by_cases c:r (p.getD m 0)<r (p.getD (m-1) 0)
  ·refine QO c ?_;have one:∀o:Array Nat,UM r o (m+1-(0+1)) (m+1):=λo k h l=>by
    have e:k=m+1-1:=by omega
    subst e;rfl
   by_cases hq:q > 0
   ·rw[if_pos hq];have j:m<=p.size:=by omega
    have e:=VJ j he;refine Hd.mono (λt i=>?_)<|Tp f (kas_rev p (m-(q+1)) m) (m+1) 0 (Q1 j a) ((Vj _ _ _).trans b) (by omega) (by omega) (by omega) ((hd.more<|.inr<|Ds c).same e)<|one _;exact⟨i.1,i.2.1.trans<|Td _ _ _,by omega,by omega,i.2.2.2.2⟩
   rw[if_neg hq];refine Hd.mono (λt i=>?_)<|Tp f p (m+1) 0 a b (by omega) (by omega) (by omega) (hd.more<|.inr<|Ds c)<|one _;exact⟨i.1,i.2.1,by omega,by omega,i.2.2.2.2⟩
  ·refine QN c ?_;refine⟨⟨a _,a _⟩,?_⟩
   by_cases d:r (p.getD (m-1) 0)<r (p.getD m 0)
   ·refine QO d ?_;exact⟨a,CN _,Ah _,Cf _ _,g,hd,he⟩
   ·refine QN d ?_;have eq:R r p m=R r p (m-1):=Gq (Int.not_lt.mp d)<|Int.not_lt.mp c;refine Hd.mono (λt i=>?_) (Tp f p (m+1) (q+1) a b (by omega) (by omega) (by omega) (hd.more<|.inr<|Int.not_lt.mp d) λk s u=>?_)
    ·exact⟨i.1,i.2.1,by omega,by omega,i.2.2.2.2⟩
    ·show R r p k=R r p (m+1-1)
     by_cases hk:k=m
     ·rw[hk];rfl
     rw[Nat.add_sub_cancel,eq];exact he k (by omega)<|by omega
def US(n N:Nat)(r:Nat->Int)(p:Array Nat)(t:Nat×Array Nat):Prop:=LI n t.2/\t.2.Perm p/\1<=t.1/\t.1<=N/\Up r t.2 t.1
def bM(a:LI n p)(e:p.size=N)(b:1<=m)(f:m<=N)(hd:Dn r p m):Hd n r (kas_tail3 m N p) (US n N r p):=by
 unfold kas_tail3;have c:m<=p.size:=by omega
 refine Hd.bind<|Hd.mono (λi d=>?_)<|Vf (Q1 c a) (N-m) m b<|lV c hd;exact⟨Q1 c a,Td _ _ _,by omega,by omega,d.2.2.1⟩
def eV(b:LI n p)(a:p.size=N)(g:1<=m)(h:m+1<=N)(hd:Dn r p (m+1)):Hd n r (kas_descPart m N p) (US n N r p):=by
 unfold kas_descPart;refine Hd.bind (Hd.mono (λt e=>?_) (Tp (N:=N) (N-(m+1)) p (m+1) 0 b a (by omega) (by omega) (by omega) hd λk l o=>by
  have:k=m+1-1:=by omega
  rw[this]))
 obtain⟨t1,i,t3,q,s,t6,f⟩:=e;have d:t.1.size=N:=i.size_eq.trans a;by_cases hq:t.2.2 > 0
 ·rw[if_pos hq];have j:t.2.1<=t.1.size:=by omega
  refine Hd.mono (λu c=>?_)<|bM (Q1 j t1) ((Vj _ _ _).trans d) (by omega) (by omega)<|t6.same<|VJ j f;exact⟨c.1,(c.2.1.trans<|Td _ _ _).trans i,c.2.2⟩
 rw[if_neg hq];refine Hd.mono (λu c=>?_)<|bM t1 d (by omega) (by omega) t6;exact⟨c.1,c.2.1.trans i,c.2.2⟩
def uS(f:LI n p)(o:p.size=N)(v:1<=N):Hd n r (kas_count N p) (US n N r p):=by
 unfold kas_count;have up1:Up r p 1:=λi j a b=>by
  have:i=j:=by omega
  rw[this];exact Da _
 refine Hd.bind<|Hd.mono (λm hm=>?_)<|Vf f (N-1) 1 (Ah _) up1;obtain⟨d,w,m3,s⟩:=hm
 by_cases e:(m==N)=true
 ·rw[if_pos e];exact⟨f,CN _,d,by omega,m3⟩
 ·rw[if_neg e];have ne:m≠N:=λz=>e (by simp[z]);have lt:=s (by omega)
  by_cases g:m > 1
  ·rw[if_pos g];refine⟨⟨f _,f _⟩,?_⟩
   by_cases c:r (p.getD 0 0)<r (p.getD (m-1) 0)
   ·refine QO c ?_;exact⟨f,CN _,d,by omega,m3⟩
   ·refine QN c ?_;have q:m<=p.size:=by omega
    have all:∀k,k<m->R r p k=R r p (m-1):=λk hk=>Gq (m3 k (m-1) (by omega)<|by omega)<|CV (Int.not_lt.mp c)<|m3 0 k (by omega) hk;have e:=VJ (i:=0) q λk _ hk=>all k hk;have dn:Dn r p m:=λi j a b=>by rw[all i (by omega),all j b];exact Da _
    refine Hd.mono (λu h=>?_)<|eV (Q1 (i:=0) q f) ((Vj _ _ _).trans o) d (by omega)<|(dn.more<|.inr<|Ds lt).same e;exact⟨h.1,h.2.1.trans<|Td _ _ _,h.2.2⟩
  ·rw[if_neg g];have l:m=1:=by omega
   subst l;have dn:Dn r p 1:=λi j a b=>by
    have:i=j:=by omega
    rw[this];exact Da _
   exact eV f o (Ah _) (by omega)<|dn.more<|.inr<|Ds lt
theorem Q9{p:Array Nat}{k:Nat}(e:LI n p)(hu:Up r p k):∀(f a b:Nat),a<=b->b<=k->b<=a+f->(∀x,x<a->R r p x<=R r p k)->(∀x,b<=x->x<k->R r p k<=R r p x) ->
  Hd n r (kas_place p k f a b) λl=>l<=k/\(∀x,x<l->R r p x<=R r p k)/\∀x,l<=x->x<k->R r p k<=R r p x
 |0,a,b,s,h,u,o,q=>by
  have:a=b:=by omega
  subst this;exact⟨h,o,q⟩
 |f+1,a,b,s,h,u,o,q=>by
  unfold kas_place;by_cases g:a ≥ b
  ·rw[if_pos g];have:a=b:=by omega
   subst this;exact⟨h,o,q⟩
  ·rw[if_neg g];refine⟨⟨e _,e _⟩,?_⟩
   by_cases c:r (p.getD k 0)<r (p.getD ((a+b) / 2) 0)
   ·refine QO c ?_;refine Q9 e hu f a ((a+b) / 2) (by omega) (by omega) (by omega) o λx d i=>?_;exact CV (Ds c)<|hu ((a+b) / 2) x d i
   refine QN c ?_;refine Q9 e hu f ((a+b) / 2+1) b (by omega) h (by omega) (λx j=>?_) q;exact CV (hu x ((a+b) / 2) (by omega)<|by omega)<|Int.not_lt.mp c
theorem YZ{N:Nat}:∀(f:Nat) (p:Array Nat) (k:Nat),LI n p->p.size=N->k+f=N->Up r p k->Hd n r (kas_bin f p k) λq=>q.Perm p/\Up r q N
 |0,p,k,o,s,hk,h=>⟨CN _,by rw[<-hk];exact h⟩
 |f+1,p,k,o,s,hk,h=>by
  unfold kas_bin;refine Hd.bind<|Hd.mono (λl u=>?_)<|Q9 o h k 0 k (A0 _) (Ah _) (by omega) (λx v=>absurd v (Dt _)) λx a b=>absurd (AC b a) (AL _);obtain⟨z,w,y⟩:=u;have c:k<p.size:=by omega
  refine Hd.mono (λq m=>⟨m.1.trans<|bubble_perm _ _ _,m.2⟩)<|YZ f (bubble p k<|k-l) (k+1) (oO c (by omega) o) ((bubble_size _ _ _).trans s) (by omega) λi j d A=>?_;have g:∀x,R r (bubble p k<|k-l) x=if x=l then R r p k else if l<x/\x<=k then R r p (x-1)else R r p x:=λx=>by
   unfold R;rw[Z4 c (by omega)];have e:k-(k-l)=l:=by omega
   rw[e];by_cases a1:x=l
   ·rw[if_pos a1,if_pos a1]
   ·rw[if_neg a1,if_neg a1]
    by_cases a2:l<x/\x<=k
    ·rw[if_pos a2,if_pos a2]
    rw[if_neg a2,if_neg a2]
  rw[g i,g j];by_cases h1:i=l
  ·rw[if_pos h1]
   by_cases h2:j=l
   ·rw[if_pos h2];exact Da _
   rw[if_neg h2,if_pos (by omega)];exact y (j-1) (by omega)<|by omega
  ·rw[if_neg h1]
   by_cases h2:j=l
   ·rw[if_pos h2,if_neg (by omega)];exact w i<|by omega
   ·rw[if_neg h2]
    by_cases h3:l<i/\i<=k
    ·rw[if_pos h3,if_pos (by omega)];exact h (i-1) (j-1) (by omega)<|by omega
    ·rw[if_neg h3]
     by_cases h4:l<j/\j<=k
     ·rw[if_pos h4];exact h i (j-1) (by omega)<|by omega
     rw[if_neg h4];exact h i j d<|by omega
def yN(hn:1<=n):LI n (B4<|AB n):=λk=>by
 rw[B3,List.getElem?_toArray];by_cases h:k<n
 ·rw[DA h];exact h
 rw[List.getElem?_eq_none_iff.mpr (by rw[Cv];omega)];exact hn
def LD(hn:1<=n):Hd n r (kas_sort n) λq=>q.Perm (B4<|AB n)/\Up r q n:=by
 unfold kas_sort;have d:(B4<|AB n).size=n:=by simp
 refine Hd.bind<|Hd.mono (λt m=>?_)<|uS (yN hn) d hn;obtain⟨t1,c,t3,p,i⟩:=m
 by_cases h:t.1<n
 ·rw[if_pos h];have e:max t.1 1=t.1:=Nat.max_eq_left t3;rw[e];refine Hd.mono (λq j=>⟨j.1.trans c,j.2⟩)<|YZ (N:=n) (n-t.1) t.2 t.1 t1 (c.size_eq.trans d) (by omega) i
 ·rw[if_neg h];have e:t.1=n:=by omega
  exact⟨c,by rw[<-e];exact i⟩
end
end Srt
namespace L2.MP
open PySem PySem.Spec PyProof.Rows
theorem Zo:∀a:List Int,HT.lexLt a a=false
 |[]=>rfl
 |x::r=>by rw[HT.Ie,if_pos rfl];exact Zo r
theorem ZF:∀{a b:List Int},HT.lexLt a b=false->HT.lexLt b a=false->a=b
 |[],[],_,_=>rfl
 |[],_::_,h,_=>by rw[HT.HN]at h;cases h
 |_::_,[],_,h=>by rw[HT.HN]at h;cases h
 |x::a,y::b,c,d=>by
  rw[HT.Ie]at c d;by_cases e:x=y
  ·subst e;rw[if_pos rfl]at c d;rw[ZF c d]
  rw[if_neg e]at c;rw[if_neg (Bt e)]at d;have a1:=of_decide_eq_false c;have a2:=of_decide_eq_false d;omega
theorem aX:∀{a b c:List Int},HT.lexLt b a=false->HT.lexLt c b=false->HT.lexLt c a=false
 |a,[],c,_,e=>by
  cases c with
  |nil=>
   cases a with
   |nil=>rfl
   |cons x a=>rename_i d;rw[HT.HN]at d;cases d
  |cons z c=>
   cases a with
   |nil=>exact HT.Ic _ _
   |cons x a=>rename_i d;rw[HT.HN]at d;cases d
 |a,y::b,[],_,e=>by rw[HT.HN]at e;cases e
 |[],y::b,z::c,_,_=>HT.Ic _ _
 |x::a,y::b,z::c,d,e=>by
  rw[HT.Ie]at d e ⊢;by_cases e1:y=x
  ·subst e1;rw[if_pos rfl]at d
   by_cases e2:z=y
   ·subst e2;rw[if_pos rfl]at e ⊢;exact aX d e
   rw[if_neg e2]at e ⊢;exact e
  ·rw[if_neg e1]at d;have a1:=of_decide_eq_false d
   by_cases e2:z=y
   ·subst e2;rw[if_neg e1];exact d
   rw[if_neg e2]at e;have a2:=of_decide_eq_false e;rw[if_neg (by omega)];exact decide_eq_false<|by omega
def ZG{a b:List Int}(h:HT.lexLt a b=true):HT.lexLt b a=false:=by
 cases e:HT.lexLt b a with
 |false=>rfl
 |true=>
  exfalso;have:∀{a b:List Int},HT.lexLt a b=true->HT.lexLt b a=true->False:=by
   intro a
   induction a with
   |nil=>intro b c d;cases b with
    |nil=>rw[HT.IT]at c;cases c
    |cons y b=>rw[HT.Ic]at d;cases d
   |cons x a f=>intro b c d;cases b with
    |nil=>rw[HT.Ic]at c;cases c
    |cons y b=>
     rw[HT.Ie]at c d;by_cases q:x=y
     ·subst q;rw[if_pos rfl]at c d;exact f c d
     rw[if_neg q]at c;rw[if_neg (Bt q)]at d;have a1:=of_decide_eq_true c;have a2:=of_decide_eq_true d;omega
  exact this h e
def JR(a b:List Int):Bool:=!HT.lexLt b a
def KW(ts:List (List Int)):List (List Int):=ts.mergeSort JR
def T5(a b c:List Int)(d:JR a b=true)(e:JR b c=true):JR a c=true:=by unfold JR at *;rw[BS]at *;exact aX d e
def cH(a b:List Int):(JR a b || JR b a)=true:=by
 unfold JR;cases e:HT.lexLt b a with
 |false=>rfl
 |true=>rw[ZG e];rfl
def bO{a b:List Int}(c:JR a b=true)(d:JR b a=true):a=b:=by unfold JR at *;rw[BS]at *;exact ZF d c
def rank(ts:List (List Int))(i:Nat):Int:=((ts.countP λt=>HT.lexLt t (ts.getD i [])):Nat)
variable {ts:List (List Int)}{i j:Nat}
def ZQ(hi:i<ts.length):(decide (rank ts i<rank ts j))=HT.lexLt (ts.getD i []) (ts.getD j []):=by
 unfold rank;cases e:HT.lexLt (ts.getD i []) (ts.getD j []) with
 |true=>
  refine decide_eq_true ?_;have le:ts.countP (λt=>HT.lexLt t (ts.getD i []))<ts.countP (λt=>HT.lexLt t (ts.getD j [])):=by
   have hm:ts.getD i []∈ts:=by rw[Aw,Ai hi];exact Ba hi
   generalize l:ts.getD i []=a at *;generalize m:ts.getD j []=b at *;clear l m hi;have sub:∀t,HT.lexLt t a=true->HT.lexLt t b=true:=λt d=>by
    cases q:HT.lexLt t b with
    |true=>rfl
    |false=>
     exfalso;have n:HT.lexLt a t=false:=ZG d;have:HT.lexLt a b=false:=by
      have f:JR b t=true:=by unfold JR;rw[q];rfl
      have g:JR t a=true:=by unfold JR;rw[n];rfl
      have:=T5 b t a f g;unfold JR at this;rw[BS]at this;exact this
     rw[e]at this;cases this
   induction ts with
   |nil=>exact absurd hm (by simp)
   |cons t r o=>
    rw[Gb,Gb];rcases On.mp hm with q|q
    ·subst q;rw[Zo,e];have:r.countP (λt=>HT.lexLt t a)<=r.countP (λt=>HT.lexLt t b):=EL λt _ d=>sub t d;simp only[AQ,if_false,if_true];omega
    ·have:=o q
     by_cases c:HT.lexLt t a=true
     ·rw[if_pos c,if_pos (sub t c)];omega
     rw[if_neg c];split<;>omega
  omega
 |false=>
  refine decide_eq_false ?_;have le:ts.countP (λt=>HT.lexLt t (ts.getD j []))<=ts.countP (λt=>HT.lexLt t (ts.getD i [])):=EL λt _ d=>by
   cases q:HT.lexLt t (ts.getD i []) with
   |true=>rfl
   |false=>
    exfalso;have f:JR (ts.getD j []) (ts.getD i [])=true:=by unfold JR;rw[e];rfl
    have g:JR (ts.getD i []) t=true:=by unfold JR;rw[q];rfl
    have h:=T5 _ _ _ f g;unfold JR at h;rw[d]at h;cases h
  omega
variable {n:Nat}{α:Type}{s:Shared}
theorem UR{n:Nat}{r:Nat->Int}{α:Type}{P:α->Prop}{Q:α->Shared->Prop}{s:Shared}{cmp:Nat->Nat->(Bool->Shared->Prop)->Shared->Prop}(b:∀i j,i<n->j<n->∀C:Bool->Shared->Prop,C (decide (r i<r j)) s->cmp i j C s)(c:∀a,P a->Q a s):
  ∀{t:PySem.W.KasT α},Srt.Hd n r t P->t.kasWp cmp Q s
 |.ret a,h=>c a h
 |.ask i j k,h=>b i j h.1.1 h.1.2 _<|UR b c (t:=k _) h.2
variable {prog:SZ}{w:World}{A:Around}{E:Qqa}
theorem eW{Q:Bool->Shared->Prop}:∀{xs c:List Int}{us ws:List IR} (i:Nat),Vals (xs.map V.int) us->Vals (c.map V.int) ws->Q (HT.lexLt xs c) s->PySem.W.KatLex prog w A true (decide (us.length<ws.length)) Q (us.zip ws) i s
 |[],[],_,_,i,.nil,.nil,h=>h
 |[],y::c,_,_,i,.nil,.cons r t,h=>by show Q (decide (_<_)) s;rw[decide_eq_true (by simp)];exact h
 |x::xs,[],_,_,i,.cons r t,.nil,h=>by show Q (decide (_<_)) s;rw[decide_eq_false (by simp)];exact h
 |x::xs,y::c,_,_,i,.cons r1 t1,.cons d t2,h=>by
  obtain⟨a1,rfl⟩:=r1;obtain⟨a2,rfl⟩:=d;rw[HT.Ie]at h;refine Fv x a1 y a2 prog w _ _ ?_;by_cases e:x=y
  ·subst e;rw[if_pos rfl]at h;rw[beq_self_eq_true,if_pos rfl];have:=eW (Q:=Q) (i+1) t1 t2 h;rw[Au,Au];have j:∀a b:Nat,decide (a+1<b+1)=decide (a<b):=λa b=>by
    by_cases q:a<b
    ·rw[decide_eq_true q,decide_eq_true (by omega)]
    rw[decide_eq_false q,decide_eq_false (by omega)]
   rw[j];exact this
  ·rw[if_neg e]at h;have n:(x==y)=false:=by simpa using e
   rw[n,if_neg AV];by_cases hi:i=0
   ·subst hi;exact oneLt_int h
   ·have:(true&&i==0)=false:=by simpa using hi
    rw[this];exact PySem.W.kat_one _ _<|Gg h
variable {X:Cx}{qp:List (Addr×Obj)}{σ:L2.St}{H:Hp}
def PL(H:Hp):List V->List (List Int)->Prop:=Paired λv t=>∃a,v=.ref a/\H a=some (.tup<|t.map V.int)/\t≠[]
theorem TN:∀{xs:List V} {ts:List (List Int)} {i:Nat},PL H xs ts->i<ts.length->∃a,xs[i]?=some (.ref a)/\H a=some (.tup<|(ts.getD i []).map V.int)/\ts.getD i []≠[]
 |_,[],i,_,hi=>absurd hi<|by simp
 |_,t::ts,0,.cons r q,_=>by obtain⟨a,rfl,b,hn⟩:=r;exact⟨a,rfl,b,hn⟩
 |_,t::ts,i+1,.cons r q,hi=>by have:=TN (i:=i) q (by simpa using hi);simpa using this
def YY{xs:List V}{us:List IR}{s':Shared}(I:Inv X qp σ H s)(hk:∀b o,H b≠none->s.heap.get? b=some o->s'.heap.get? b=some o)(T:PL H xs ts)(r:Vals xs us)(hi:i<ts.length)(e:j<ts.length)(C:Bool->Shared->Prop)(h:C (decide (rank ts i<rank ts j)) s'):Gs X.prog X.w A (PyProof.Rows.tuples' true) us i j C s':=by
 rw[ZQ hi]at h;obtain⟨a,f,c,_⟩:=TN T hi;obtain⟨b,g,d,_⟩:=TN T e;obtain⟨u,l,m⟩:=r.get f;obtain⟨y,n,E⟩:=r.get g;cases m;cases E;obtain⟨z,p,⟨B,ga,ca,na,q⟩,_⟩:=I.tuple<|IK.of (K:=X.K) c;obtain⟨F,v,⟨ob,x,G,nb,db⟩,_⟩:=I.tuple<|IK.of (K:=X.K) d;unfold Gs;rw[Aw,Aw,l,n];refine PySem.W.kat_lt (hk _ _ (by rw[c];simp) ga) q (hk _ _ (by rw[d];simp) x) db ?_;have:=eW (prog:=X.prog) (w:=X.w) (A:=A) (Q:=C) (s:=s') 0 p v h;simpa using this
variable {h':P3}
theorem Wf{h':P3}(I:Inv X qp σ H s)(hk:∀b o,H b≠none->s.heap.get? b=some o->h'.get? b=some o):∀{xs:List V}{us:List IR} {ts:List (List Int)},PL H xs ts->Vals xs us ->
  ∃fs:List IR,PySem.W.KatTups h' us fs/\fs.length=us.length/\∀v∈fs,∃i t,v=DI i t
 |_,_,[],.nil,.nil=>⟨[],G8,rfl,λv hv=>absurd hv (by simp)⟩
 |_,_,t::ts,.cons r q,.cons h e=>by
  obtain⟨a,rfl,f,hn⟩:=r;cases h;obtain⟨fs,j,w,A⟩:=Wf I hk q e;obtain⟨E,l,⟨o,g,c,n,d⟩,_⟩:=I.tuple<|IK.of (K:=X.K) f
  cases t with
  |nil=>exact absurd rfl hn
  |cons x t=>
   cases l with
   |@cons _ u _ m p y=>
    obtain⟨tk,rfl⟩:=p;refine⟨.int x tk::fs,G5 (hk _ _ (by rw[f];simp) g) c d (by simp) j,by rw[Au,Au,w],λv hv=>?_⟩
    rcases On.mp hv with rfl|hv
    ·exact⟨x,tk,rfl⟩
    exact A v hv
variable {a:Addr}{P:SZ}{h:P3}
def bV{o:HO}(x:Jv P w H h a o):∃u,h.get? a=some u:=by
 cases o with
 |lst xs=>obtain⟨_,_,_,_,e⟩:=x;exact⟨_,e⟩
 |tup xs=>obtain⟨_,_,_,o,e,_⟩:=x;exact⟨_,e⟩
 |dK i=>obtain⟨_,_,_,_,o,_,_,e,_⟩:=x;exact⟨_,e⟩
 |dT i=>obtain⟨_,_,_,_,o,_,_,e,_⟩:=x;exact⟨_,e⟩
 |set S n=>obtain⟨o,_,_,_,e,_⟩:=x;exact⟨_,e⟩
 |ins C j fs=>obtain⟨_,_,_,e,_⟩:=x;exact⟨_,e⟩
 |own y=>exact x
 |xd fs=>obtain⟨_,⟨_,_,_,e,_⟩,_⟩:=x;exact⟨_,e⟩
 |rng lo s=>obtain⟨_,_,_,e⟩:=x;exact⟨_,e⟩
 |frz ob u=>obtain⟨e,_⟩:=x;exact⟨_,e⟩
 |tbl A=>exact⟨_,x⟩
 |met f y=>exact⟨_,x⟩
 |ext φ=>obtain⟨_,e,_⟩:=x;exact e
variable {m:Str->Option IR}
def Zi{b:Str->Option IR}(x:h.Ns a m)(y:h.Ns a b):m=b:=by
 obtain⟨o,H,P,w,hd,_,hm⟩:=x;obtain⟨X,A,E,i,j,_,s⟩:=y;rw[w]at i;cases i;rw[hd]at j;cases j
 funext n
 rw[<-hm n,s n]
variable {l:Addr}
def Inv.laidAt{m:Str->Option IR}{o:HO}(I:Inv X qp σ H s)(k:∀b u,b≠X.env.locals->s.heap.get? b=some u->h'.get? b=some u)(ns:∀m,s.heap.Ns X.env.locals m->h'.Ns X.env.locals m)(f:∃u,h'.get? X.env.locals=some u)(g:s.heap.get? a=none) (d:H a=none) (p:a≠X.env.locals) (new:Jv X.prog X.w (upd H a o) h' a o):Inv X qp σ (upd H a o) {s with heap:=h'}:=by
 have na:∀b u,s.heap.get? b=some u->b≠a:=λb u e z=>by rw[z,g]at e;cases e
 refine Inv.step (t':=s.toks) (ch:=[]) (g':=s.gens) (d':=s.drawn) I (λb h=>absurd h (by simp)) (λb u i _ _ e _=>k b u i e) (λb u i _ _ e _=>⟨u.slots,k b u i e⟩) (λb u _ e n=>by rw[HW (na b u e)];exact n) (λb u _ e=>?_)
  (λb xs e=>by rw[HW (J7 e d)];exact e) (λb u v e=>by rw[HW (J7 e d)];exact e) (λb j e=>⟨#[],by rw[HW (J7 e d),e];simp⟩) ns (λb u e=>?_) I.bare
 ·by_cases h:b=X.env.locals
  ·rw[h];exact f
  exact⟨u,k b u h e⟩
 ·by_cases h:b=a
  ·subst h;rw[Lc]at e;cases e;exact new
  ·rw[HW h]at e;refine(I.hok b u e).stay (λc v hc q=>k c v (λz=>?_) q) (λc q=>by rw[HW (J7 q d)];exact q) λc xs q=>by rw[HW (J7 q d)];exact q
   subst z;rcases hc with rfl|hc
   ·rw[I.free]at e;cases e
   rw[I.free]at hc;cases hc
def zjc{xs:List V}{Q:VK}(I:Inv X qp σ H s)(hl:JL X.K H l xs)(T:PL H xs ts)(d:2<=ts.length)(Z:ts.length<64)(h:∀(q:Array Nat) (p:Addr),q.Perm (B4<|AB ts.length)->Srt.Up (rank ts) q ts.length->H p=none->Q (.ref p) (upd H p<|.lst<|q.toList.map λi=>xs.getD i .non)):
  wpAny (KB X.prog X.w) X.A (call (.builtin "sorted") [.ref l]) (EP X qp σ Q) X.xe s:=by
 obtain⟨E,y,pl,hz⟩:=I.list hl;have hlen:E.length=ts.length:=by have a:=y.length;have b:=Bc T;omega
 obtain⟨m,F⟩:=I.fr;have B:∀b,H b≠none->b≠X.env.locals:=λb f z=>f (by rw[z];exact I.free);have trkB:∀b,H b≠none->X.base.get? b=none:=λb f=>by
  cases e:X.base.get? b with
  |none=>rfl
  |some o=>exact absurd (I.bs b o e).2 f
 refine PySem.W.kat_sorted F (VZ (g:=X.base) (h:=s.heap) (L:=X.env.locals)) pl.isList (by omega) (by omega) λD e1 h' F' N' G=>?_;have keep:∀{d:P3}{o:Obj},Fr X.base X.env.locals d m->News X.base X.env.locals d ((D,o)::OV X.base s.heap X.env.locals)->∀b u,b≠X.env.locals->s.heap.get? b=some u->d.get? b=some u:=λ{d o} F2 Y b u f e=>by
  cases q:X.base.get? b with
  |some v=>
   have z:=(I.bs b v q).1;rw[e]at z;cases z;exact F2.keep b _ q
  |none=>exact(Y (b,u)<|Al _<|W8 f q e).1
 have hk:∀b o,H b≠none->s.heap.get? b=some o->h'.get? b=some o:=λb o f e=>keep F' N' b o (B b f) e;have x:=N' _ Ar;have M:s.heap.get? D=none:=by
  cases e:s.heap.get? D with
  |none=>rfl
  |some u=>exact absurd (G _<|W8 x.2.1 x.2.2 e)<|AL _
 have N:H D=none:=by
  cases e:H D with
  |none=>rfl
  |some o=>
   obtain⟨u,hu⟩:=bV<|I.hok D o e;rw[M]at hu;cases hu
 obtain⟨fs,k1,k2,k3⟩:=Wf (h':=h') I hk T y;refine Gc (s:={s with heap:=h'}) (T:=.type "int") k1 (by omega) (λv hv=>?_) rfl ?_
 ·obtain⟨i,t,rfl⟩:=k3 v hv;exact EM rfl
 have ok:=Srt.LD (n:=E.length) (r:=rank ts) (by omega);refine UR (n:=E.length) (r:=rank ts) (s:={s with heap:=h'}) (λi j S hj C hC=>YY (s':={s with heap:=h'}) I hk T y (by omega) (by omega) C hC) (λq U=>?_) ok;refine Fc F' N' (FS λp hp=>Av (G p hp)) λd c F2 Y=>?_;have hD2:=(Y _ Ar).1;rw[hlen]at U;have vals:Vals (q.toList.map λi=>xs.getD i .non) (q.toList.map λi=>E.getD i Bi):=by
  have P:∀i∈q.toList,i<xs.length:=λi S=>by have:i∈(B4<|AB ts.length).toList:=(Array.perm_iff_toList_perm.mp U.1).mem_iff.mp S;have hr:=y.length;simp at this;omega
  generalize q.toList=ql at P
  induction ql with
  |nil=>exact .nil
  |cons i r ih=>
   refine .cons ?_<|ih λj hj=>P j (Al _ hj);have S:=P i Ar;obtain⟨u,eu,ru⟩:=y.get<|Ai S;show RelV (xs.getD i V.non) (E.getD i Bi);rw[Aw,Aw,Ai S,eu];exact ru
 have hql:q.toList.length=ts.length:=by have:=(Array.perm_iff_toList_perm.mp U.1).length_eq;simpa using this
 have J:Inv X qp σ (upd H D<|.lst<|q.toList.map λi=>xs.getD i .non) {s with heap:=d}:=
  Inv.laidAt (m:=m) I (keep F2 Y) (λm' hm'=>by rw[Zi hm' F.ns];exact F2.ns) (let ⟨o,_,_,e,_⟩:=F2.ns;⟨o,e⟩) M N x.2.1 ⟨by rw[Af,hql];exact Pj Z,_,c,vals,hD2⟩
 exact⟨.ref D,_,J,rfl,h q D U.1 U.2 N⟩
def zgp(ts:List α)(d:α):(AB ts.length).map (λi=>ts.getD i d)=ts:=by
 apply List.ext_getElem
 ·simp
 intro i h a;simp[Aw,Ai a]
def eE{q:Array Nat}(f:q.Perm (B4<|AB ts.length))(d:Srt.Up (rank ts) q ts.length):q.toList.map (λi=>ts.getD i [])=KW ts:=by
 have hl:=Array.perm_iff_toList_perm.mp f;have hl:q.toList.Perm (AB ts.length):=by simpa using hl
 have s:q.toList.length=ts.length:=by rw[hl.length_eq,Cv]
 have w:(q.toList.map λi=>ts.getD i []).Perm ts:=by have:=hl.map λi=>ts.getD i [];rw[zgp]at this;exact this
 refine Ug (le:=λa b=>JR a b=true) (w.trans (CI ts JR).symm) ?_ (C1 (λa b c=>T5 a b c) cH ts) λa _ b _=>bO;rw[List.pairwise_iff_getElem];intro i j m h l;rw[Gd,Gd];rw[Af]at m h;have d:=d i j (Cy l) (by omega);have n:∀(k:Nat) (hk:k<q.toList.length),q.getD k 0=q.toList[k]:=λk hk=>by rw[B3,<-Bm,Ai hk];rfl
 unfold Srt.R at d;rw[n i m,n j h]at d;have lt:∀k∈q.toList,k<ts.length:=λk hk=>List.mem_range.mp<|hl.mem_iff.mp hk;have e:=ZQ (ts:=ts) (i:=q.toList[j]) (j:=q.toList[i])<|lt _<|Ba h;rw[decide_eq_false (by omega)]at e;unfold JR;rw[<-e];rfl
def intsOf:List D->Option (List Int)
 |[]=>some []
 |.int i::r=>(intsOf r).map λis=>i::is
 |_=>none
variable {d:D}
def zjo{r:List D}{ss:List Int}(h:intsOf (d::r)=some ss):∃x xs,d=.int x/\intsOf r=some xs/\ss=x::xs:=by
 cases d with
 |int x=>
  obtain⟨xs,e,h⟩:=Ig h;exact⟨x,xs,rfl,e,h.symm⟩
 |_=>cases h
def rowOf:D->Option (List Int)
 |.tup ds=>(intsOf ds).bind λt=>if(!t.isEmpty)=true then some t else none
 |_=>none
def rowsOf:List D->Option (List<|List Int)
 |[]=>some []
 |d::r=>(rowOf d).bind λt=>(rowsOf r).map λts=>t::ts
def HF(t:List Int):D:=.tup<|t.map D.int
variable {K:Ab}{io:List Addr}{st st':Hf}
theorem ints_rep:∀{xs:List V}{ds:List D}{t:List Int},Hi K H io xs ds->intsOf ds=some t->xs=t.map V.int/\ds=t.map D.int
 |_,[],t,h,e=>by cases e;exact⟨h,rfl⟩
 |_,d::ds,t,h,e=>by
  obtain⟨y,g,rfl,c,f⟩:=h;obtain⟨x,rest,rfl,i,rfl⟩:=zjo e;obtain⟨a,b⟩:=ints_rep f i;cases (show y=.int x from c)
  rw[a,b];exact⟨rfl,rfl⟩
theorem Q2:∀{xs:List V}{ds:List D} {ts:List (List Int)},Hi K H io xs ds->rowsOf ds=some ts->PL H xs ts/\ds=ts.map HF
 |_,[],ts,h,e=>by cases e;cases (show _=[] from h);exact⟨.nil,rfl⟩
 |_,d::ds,ts,h,e=>by
  obtain⟨y,g,rfl,c,f⟩:=h;obtain⟨t,i,e⟩:=Ht e;obtain⟨us,l,e⟩:=Ig e;subst e;obtain⟨a,b⟩:=Q2 f l;cases d with
  |tup zs=>
   obtain⟨w,f1,f2⟩:=Ht i;obtain⟨j,f2⟩:=Iz f2;cases f2;obtain⟨p,A,rfl,m,rs⟩:=c;obtain⟨n,s⟩:=ints_rep rs f1;subst n;refine⟨.cons ⟨p,rfl,m,λz=>?_⟩ a,?_⟩
   ·rw[z]at j;exact absurd j<|by decide
   rw[b,s];rfl
  |_=>cases i
def TX:GN
 |[.ref n],st=>(HZ st n).bind λds=>(rowsOf ds).bind λts=>if(decide (2<=ts.length)&&decide (ts.length<64))=true then some (.ref st.length,st++[.lst ((KW ts).map HF)])else none
 |_,_=>none
theorem Wq{xs:List V}{ts:List (List Int)}(r:Hi K H io xs (ts.map HF)):∀{q:List Nat},(∀i∈q,i<ts.length)->Hi K H io (q.map λi=>xs.getD i .non) ((q.map λi=>ts.getD i []).map HF)
 |[],_=>rfl
 |i::q,h=>by
  have hi:=h i Ar;have a:(ts.map HF)[i]?=some (HF<|ts.getD i []):=by rw[Ay,Ai hi,Aw,Ai hi];rfl
  obtain⟨v,d,l⟩:=r.get a;refine⟨_,_,rfl,?_,Wq r λj m=>h j (Al _ m)⟩;show Rep K H io (xs.getD i .non) _;rw[Aw,d];exact l
def zhk:Jw X (.builtin "sorted") TX:=by
 rintro qp s σ H xs us Q I r ⟨ds,st,io,d,st',R,S,e,k⟩;unfold TX at e;split at e
 ·rename_i n;obtain⟨zs,m,e⟩:=Ht e;obtain⟨ts,w,e⟩:=Ht e;obtain⟨a,e⟩:=Iz e;cases e;rw[An]at a;obtain⟨v,rfl,p,rfl,A⟩:=R.one;obtain⟨u,rfl,E⟩:=r.one;cases E;obtain⟨c,K,h⟩:=KG S A m;obtain⟨T,hd⟩:=Q2 h w;subst hd;refine zjc I K T (of_decide_eq_true a.1) (of_decide_eq_true a.2) λq f j P hf=>?_;have hm:∀i∈q.toList,i<ts.length:=λi b=>by
   have:=(Array.perm_iff_toList_perm.mp j).mem_iff.mp b;simpa using this
  have l:=Wq h hm;rw[eE j P]at l;exact k.lst S l hf
 ·cases e
variable {ma mb:ME}{pos p:Pos}{g:G2}{k:Nat}
section
variable {a b c e:Pv}{es:List Pv}{mc m:ME}{mm:MA}
def LF:Option α->Option α->Option α
 |some x,_=>some x
 |none,y=>y
def Nr{x y:Option α}{z:α}(h:LF x y=some z):x=some z\/y=some z:=by
 cases x with
 |none=>exact .inr h
 |some w=>exact .inl h
def JT(g h:G2):G2:=λx y st=>LF (g x y st)<|h x y st
def K6(g h:GN):GN:=λxs st=>LF (g xs st)<|h xs st
def SH{f:IR->IR->Sem IR}{h:G2}(p:Jj X f g)(q:Jj X f h):Jj X f (JT g h):=by
 rintro qp s σ H x y v u Q I a b ⟨c,i,st,io,d,st',j,l,S,e,k⟩;rcases Nr e with e|e
 ·exact p qp s σ H x y v u Q I a b ⟨c,i,st,io,d,st',j,l,S,e,k⟩
 exact q qp s σ H x y v u Q I a b ⟨c,i,st,io,d,st',j,l,S,e,k⟩
def P5{f:IR}{g h:GN}(p:Jw X f g)(q:Jw X f h):Jw X f (K6 g h):=by
 rintro qp s σ H xs us Q I r ⟨ds,st,io,d,st',R,S,e,k⟩;rcases Nr e with e|e
 ·exact p qp s σ H xs us Q I r ⟨ds,st,io,d,st',R,S,e,k⟩
 exact q qp s σ H xs us Q I r ⟨ds,st,io,d,st',R,S,e,k⟩
def Tt{U:Ii}{x y:D}{s0 s1 s2:Hf}{r:D×Hf}(f:ma U s0=some (x,s1))(o:mb U s1=some (y,s2))(q:g x y s2=some r):mB g ma mb U s0=some r:=by unfold mB;rw[f];show GZ (mb U s1) _=_;rw[o];exact q
def mH{h:G2}(p:SE X e (mB g ma mb))(q:SE X e (mB h ma mb)):SE X e (mB (JT g h) ma mb):=by
 rintro qp s σ H Q I ⟨U,st,io,d,st',E,S,e,k⟩;obtain⟨⟨x,s1⟩,a,e⟩:=Ht e;obtain⟨⟨y,s2⟩,b,e⟩:=Ht e;rcases Nr e with e|e
 ·exact p qp s σ H Q I ⟨U,st,io,d,st',E,S,Tt a b e,k⟩
 exact q qp s σ H Q I ⟨U,st,io,d,st',E,S,Tt a b e,k⟩
def Vn{h:G2}(p:SB X e (mT<|mB g ma mb))(q:SB X e (mT<|mB h ma mb)):SB X e (mT<|mB (JT g h) ma mb):=by
 rintro qp s σ H Q I ⟨U,st,io,d,st',E,S,e,k⟩;have e:=Tc e;obtain⟨⟨x,s1⟩,a,e⟩:=Ht e;obtain⟨⟨y,s2⟩,b,e⟩:=Ht e;rcases Nr e with e|e
 ·exact p qp s σ H Q I ⟨U,st,io,d,st',E,S,by unfold mT;rw[Tt a b e];rfl,k⟩
 exact q qp s σ H Q I ⟨U,st,io,d,st',E,S,by unfold mT;rw[Tt a b e];rfl,k⟩
def UO:G2:=λd k st=>match d with
 |.ref n=>(look st n k).bind λr=>r.map λv=>(v,st)
 |_=>none
def Hg:G2:=JT Ka UO
def Hz(r:X.A.units+1<cLine)(o:SE X a ma)(q:SE X b mb)(u:VF b:=by intro _ _;rfl)(f:MH b:=by intro _ _;rfl):SE X (.Subscript a b pos) (mB Hg ma mb):=mH (iI o q u) (show SE X (.Subscript a b pos) (YJ ma mb) from sR r o q f)
def NQ(neg:Bool):G2:=λk d st=>match d with
 |.ref n=>(look st n k).map λr=>(.bl (if neg then !r.isSome else r.isSome),st)
 |_=>none
def Km:G2:=JT (JT (inD false) Mz)<|NQ false
def SF:G2:=JT (inD true)<|NQ true
def QU(q:X.A.units+100<cLine)(f:SE X a ma)(o:SE X b mb)(hm:behindInMarks .In b=false:=by rfl):SB X (.Compare a [.In] [b] pos) (mT<|mB Km ma mb):=Vn (JW (SH (nA q) qG) f o hm) (show SB X _ (mT<|My false ma mb) from lY (by omega) f o hm)
def zl6(q:X.A.units+100<cLine)(f:SE X a ma)(o:SE X b mb)(hm:behindInMarks .NotIn b=false:=by rfl):SB X (.Compare a [.NotIn] [b] pos) (mT<|mB SF ma mb):=Vn (JW (yD q) f o hm) (show SB X _ (mT<|My true ma mb) from zl7 (by omega) f o hm)
def XM:D->Option Int->Option Int->Hf->Option (D×Hf):=λx lo a st=>LF (XJ x lo a st)<|gM x lo a st
def RV(m:ME)(l h:MO):ME:=λU st=>(m U st).bind λ(x,s1)=>(l U s1).bind λ(lo,s2)=>(h U s2).bind λ(a,s3)=>XM x lo a s3
def zl1{lo hi:Option Pv}{f o:MO}{u:Pos}(he:SE X e m)(q:SO X lo f)(r:SO X hi o):SE X (.Subscript e (.Slice lo hi none u) pos) (RV m f o):=by
 rintro qp s σ H Q I ⟨U,st,io,d,st',E,S,e0,k⟩;obtain⟨⟨x,s1⟩,a,e0⟩:=Ht e0;obtain⟨⟨g,s2⟩,b,e0⟩:=Ht e0;obtain⟨⟨h,s3⟩,c,e0⟩:=Ht e0;rcases Nr e0 with e0|e0
 ·exact vO he q r qp s σ H Q I ⟨U,st,io,d,st',E,S,by simp only[gS,a,b,c,Ae];exact e0,k⟩
 exact zl0 he q r qp s σ H Q I ⟨U,st,io,d,st',E,S,by simp only[RU,a,b,c,Ae];exact e0,k⟩
def Lv:D->Hf->Option (Wk×Hf)
 |.ref n,s=>(HZ s n).map λds=>(⟨ds,[(n,ds)]⟩,s)
 |.tup ds,s=>some (⟨ds,[]⟩,s)
 |_,_=>none
def mW(m:ME):MI:=λU st=>(m U st).bind λ(d,s)=>Lv d s
def rL{o l:Pv}(f:SE X l m):SI X o l (mW m):=by
 rintro qp s σ H R I ⟨U,st,io,W,st',E,S,a,k⟩;obtain⟨⟨d,s1⟩,b,a⟩:=Ht a;cases d with
 |ref n=>exact rK f qp s σ H R I ⟨U,st,io,W,st',E,S,by unfold gR;rw[b];exact a,k⟩
 |tup ds=>exact mM f qp s σ H R I ⟨U,st,io,W,st',E,S,by unfold gP;rw[b];exact a,k⟩
 |_=>cases a
def Il:G3:=λo i v st=>match o,i with
 |.ref n,.int k=>match st[n]? with
  |some (.lst ds)=>(Mg ds.length k).map λj=>st.set n<|.lst<|ds.set j v
  |_=>none
 |_,_=>none
def iJ:R9 X Il:=by
 rintro qp s σ H o i v h l u Q I m w A ⟨E,a,K,st,io,st',P,R2,f,S,e,k⟩;cases E with
 |ref n=>
  cases a with
  |int j=>
   unfold Il at e;dsimp only at e;split at e
   ·rename_i ds b;obtain⟨q,x,e⟩:=Ig e;cases e;obtain⟨p,rfl,c⟩:=P;obtain⟨d,g,r⟩:=S.ob n p _ c b;refine set_list qp s σ H _ _ v h l u Q I m w A ⟨p,d,j,q,rfl,R2,g,by rw[r.length];exact x,?_⟩;obtain⟨y,B⟩:=MY (o:=.lst (d.set q v)) (ob:=.lst (ds.set q K)) S c b (λo u z=>by rw[g]at z;cases z) λF T C=>⟨_,C,(Hi.mono T r).set q<|Rep.mono T f⟩
    exact k _ [] y B
   ·cases e
  |_=>cases e
 |_=>cases a<;>cases e
def Jg(mo f o:ME):MS:=λU st=>LF (Hq o (LH Il mo f) U st)<|LK mo f o U st
def Ma{o i value:Pv}{mo x y:ME}{pos':Pos}(C:X.A.units+1<cLine)(z:SE X o mo)(hi:SE X i x)(B:SE X value y)(F:swapsWith value (some<|.Subscript o i pos') pos.line X.env=pure false:=by rfl)(G:∀v,assign (.Subscript o i pos') X.env v=(do
   let q <-holding [v] (Wp o X.env)
   let r <-holding [v,q] (Wp i X.env)
   standAt pos'
   holding [v,q,r] (setItem q r v)
   release [v,q,r] []):=by intro _;rfl)
  (u:swapsWithSole [.Subscript o i pos'] value pos.line X.env=pure false:=by rfl) (hw:swappedStores [.Subscript o i pos'] value X.env=pure none:=by rfl)
  (J:(assignEach [.Subscript o i pos'] X.env).map (·.2)=[assign (.Subscript o i pos') X.env]:=by rfl):SS X (.Assign [.Subscript o i pos'] value pos) (Jg mo x y):=by
 intro qp s σ H N I h;obtain⟨U,st,io,f,st',E,S,e,w⟩:=Lb.mp h;rcases Nr e with e|e
 ·exact Vv B (mI z hi iJ G) u hw J qp s σ H N I<|OM E S e w
 exact rR C z hi B F qp s σ H N I<|OM E S e w
def NF(i j:Nat)(mm:MA):MS:=λU st=>(mm U st).bind λ(xs,s)=>match xs with
 |[x,y]=>some (.nx ((U.set i<|some x).set j<|some y),s)
 |_=>none
def Zv{x y:Str}{o py pt:Pos}{kt k2 pt2}(z:X.calm=true)(B:X.N.Nodup)(hi:X.N[i]?=some x)(C:X.N[j]?=some y)(r:i≠j)(F:X.env.scope.names.lookup x=some .local) (G:X.env.scope.names.lookup y=some .local) (I:SA X [a,b] mm)(hw:swappedStores [.Tuple [.Name x o,.Name y py] kt pt] (.Tuple [a,b] k2 pt2) X.env=pure (some [x,y]):=by rfl)(J:swapsWithSole [.Tuple [.Name x o,.Name y py] kt pt] (.Tuple [a,b] k2 pt2) pos.line X.env=pure false:=by rfl):
  SS X (.Assign [.Tuple [.Name x o,.Name y py] kt pt] (.Tuple [a,b] k2 pt2) pos) (NF i j mm):=PS.imp (lL z B hi C r F G I hw J) λN σ H h=>by
 obtain⟨U,st,io,f,st',E,S,e,w⟩:=Lb.mp h;obtain⟨⟨xs,s1⟩,c,e⟩:=Ht e
 match xs,e,c with
 |[u,v],e,c=>
  cases e;refine⟨U,st,io,_,_,E,S,c,λs H1 g d l R1=>?_⟩;obtain⟨p,q,rfl,m,n⟩:=R1.two;exact⟨p,q,rfl,w _ H1 g d l<|((E.ext S d).set i m).set j n⟩
def Jd(P:SZ)(w:World)(K:Ab)(o:Str->Option IR)(base:P3)(k:Nat)(x:Str)(n:Nat)(g:GN):Prop:=∃f fd a,I0 P w K o base Kx k f fd a (Mv K n g)/\o x=some (.ref f)/\Bd K (.ref f)=true/\Binds K fd a []
def JV(n:Nat)(mm:MA):Prop:=∀U st xs s,mm U st=some (xs,s)->xs.length=n
def JV.nil:JV 0 mZ:=λ_ _ _ _ h=>wO h
def JV.cons(h:JV n mm):JV (n+1) (Hc m mm):=λ_ _ _ _ q=>xO h q
def vL{x:Str}{g:GN}(F:Jd X.prog X.w X.K X.mg X.base k x n g)(r:HK k X.A)(u:Gl X x)(v:SA X (e::es) mm)(y:JV n mm)(o:(x==("__debug__":Str))=false:=by decide)(he:Qqb X.env e es:=by rfl) (q:Qqc pos es X.env:=by rfl) (hn:(e::es).length=n:=by rfl):
  SE X (.Call (.Name x p) (e::es) [] pos) (Ho g mm):=by
 obtain⟨f,fd,b,F,hm,hk,a⟩:=F;exact sQ F r u hm hk a v o he q hn y
def Laid(K:Ab)(o:Str->Option IR)(x:Str)(st:W1)(ps:List Str):Prop:=∃f fd,MK K x x st f fd/\o x=some (.ref f)/\Binds K fd ps []
def kG{q:Str->Option IR}{base:P3}{x:Str}{st:W1}{N ps:List Str}{m:MS}(L:Laid K q x st ps)(S:IQ N ps (IW st))(hbody:∀(f:Addr) (o:IR) (A:Around) (outer:List Env) (s:Shared) (H:Hp) (E:XK),HK k (A.deeper<|envOfC x (IW st) s.heap.objs.size f o) ->
   KN (JK Kx P w K q base N x (IW st) f o A outer s H E).nox (Kf st) m):Jd P w K q base (k+1) x ps.length (Iw N.length m):=by
 obtain⟨f,fd,F,hm,a⟩:=L;exact⟨f,fd,ps,NO F S<|hbody f,hm,F.kp,a⟩
end
variable {v:IR}
def zlV{at_:Addr}{R:PySem.Fin->Shared->Prop}(b:s.heap.get? at_=some (seqObj "list" #[v] k))(fin:R (.done<|.ret .none) {s with heap:=sortedHeap s.heap at_ [v] #[v]}):
  wpAny (KB prog w) A (Builtin.«list.sort» ⟨[.ref at_],[]⟩) R E s:=by
 have d:=Ak b;obtain⟨a,g1⟩:∃a,(s.heap.update at_<|BF λ_=>(#[]:Array IR)).get? at_=some (seqObj "list" #[] a):=⟨_,get?_update_seq b λ_=>#[]⟩
 have g2:(((s.heap.update at_<|BF λ_=>(#[]:Array IR)).push<|seqObj "tuple" #[v] 0).push<|seqObj "list" #[] 0).get? at_=some (seqObj "list" #[] a):=Ad _<|Ad _ g1;rw[list_sort_plain];refine Aa<|listItems_at b rfl<|Aa<|DR b rfl<|Aa<|EF g1 rfl<|Aa<|EN<|Aa<|De<|AM ?_;show wpAny (KB prog w) A _ R E {s with heap:=((s.heap.update at_<|BF λ_=>(#[]:Array IR)).push<|seqObj "tuple" #[v] 0).push (seqObj "list" #[] 0)};have two:(#[v]:Array IR).size<2:=by show 1<2;decide
 have same:(arrOf<|G6 general' ((#[v]:Array IR).zip #[v]) #[] 7 none).map (·.2)=#[v]:=by show(((#[v]:Array IR).zip #[v]).map (·.2))=#[v];simp
 dsimp only;rw[if_pos two,if_pos two];refine Aa<|Ac ?_;rw[Gu];refine Aa<|Ac ?_;dsimp only;rw[same];refine Aa<|EF g2 rfl<|Aa<|DR g2 rfl ?_;simp only[bne_self_eq_false,AQ,if_false];exact Ac fin
def zjd{R:Qqa}(b:s.heap.IsList l [v].toArray)(fin:R (.ref<|s.heap.objs.size+1) {s with heap:=sortedAll s.heap [v] #[v]}):
  wpAny (KB prog w) A (call (.builtin "sorted") [.ref l]) R E s:=by
 have sz:((s.heap.push<|seqObj "list" #[] 0).update s.heap.objs.size (BF (·++[v].toArray))).objs.size=s.heap.objs.size+1:=(Heap.size_update ..).trans<|size_push' ..;have a:(((s.heap.push<|seqObj "list" #[] 0).update s.heap.objs.size (BF (·++[v].toArray))).push<|seqObj "list" [v].toArray 0).get? (s.heap.objs.size+1)=some (seqObj "list" [v].toArray 0):=by rw[<-sz];exact Ap _ rfl
 refine CO kind_sorted plain_sorted entry_sorted (FA _) ?_;unfold Builtin.«sorted»;refine Aa (m:=checkCount "sorted" 1 1 _) (Ac<|Aa<|collect_list b<|Aa<|De ?_);show wpAny _ _ _ _ _ {s with heap:=((s.heap.push<|seqObj "list" #[] 0).update s.heap.objs.size (BF (·++[v].toArray))).push (seqObj "list" [v].toArray 0)};rw[sz];exact Aa<|AM<|A9 EO ⟨_,a,rfl⟩ Em (zlV a ⟨_,rfl,Ac ⟨_,rfl,fin⟩⟩)<|ER _
def Rb:GN
 |[.ref n],st=>(HZ st n).bind λds=>if decide (ds.length=1)=true then some (.ref st.length,st++[.lst ds])else none
 |_,_=>none
def zhn:Jw X (.builtin "sorted") Rb:=by
 rintro qp s σ H xs us Q I r ⟨ds,st,io,d,st',R,S,e,k⟩;unfold Rb at e;split at e
 ·rename_i n;obtain⟨zs,m,e⟩:=Ht e;obtain⟨w,e⟩:=Iz e;cases e;obtain⟨y,rfl⟩:=List.length_eq_one_iff.mp<|of_decide_eq_true w;obtain⟨v,rfl,p,rfl,A⟩:=R.one;obtain⟨u,rfl,E⟩:=r.one;cases E;obtain⟨x,K,j⟩:=KG S A m;obtain⟨P,l,pl,z⟩:=I.list K;obtain⟨c,rfl,B⟩:=j.one;obtain⟨i,rfl,C⟩:=l.one;refine zjd pl.isList ?_;obtain⟨f,h⟩:=sortedAll_at s.heap [i] #[i];have g:H (s.heap.objs.size+1)=none:=I.hok.fresh<|Cs _;refine⟨.ref<|s.heap.objs.size+1,upd H (s.heap.objs.size+1)<|.lst [c],I.laid (t':=s.toks) (a:=s.heap.objs.size+1) (λb o q=>sortedAll_old q) (Cs _) ⟨by show 1<=sizeLine;decide,[i],f,l,by simpa using h⟩,rfl,?_⟩;exact k.lst S j g
 ·cases e
def Md:GN:=K6 OX<|K6 Rb TX
def WV:Jw X (.builtin "sorted") Md:=P5 zhl<|P5 zhn zhk
variable {o:Obj}
def Inv.freeze{d:Addr}{o:Obj}{u:HO}(I:Inv X qp σ H s)(hd:H d=some u)(g:s.heap.get? d=some o)(e:∀xs,u≠.tup xs)(f:∀x,u≠.own x)(r:∀o w,u≠.frz o w)(B:∀ps,u≠.tbl ps):Inv X qp σ (upd H d<|.frz o u) s:=by
 have ne:∀{b:Addr}{v:HO},H b=some v->v≠u->b≠d:=λ{b v} q a z=>by subst z;rw[hd]at q;exact a (Az q).symm
 refine Inv.step (h':=s.heap) (t':=s.toks) (g':=s.gens) (d':=s.drawn) (ch:=[]) I (λ_ z=>nomatch z) (λb v _ _ _ q _=>q) (λb v _ _ _ q _=>⟨v.slots,q⟩) (λb v _ q n=>?_) (λb v _ q=>⟨v,q⟩) (λb xs q=>?_) (λb v w q=>?_) (λb ps q=>⟨#[],?_⟩) (λm hm=>hm) (λb v q=>?_) I.bare
 ·have:b≠d:=λz=>by
   rw[z,hd]at n;cases n
  rw[HW this];exact n
 ·rw[HW (ne q λz=>e xs z.symm)];exact q
 ·rw[HW (ne q λz=>r v w z.symm)];exact q
 ·rw[HW (ne q λz=>B ps z.symm),q];simp
 ·by_cases hb:b=d
  ·subst hb;rw[Lc]at q;cases q;refine⟨g,?_⟩;exact(I.hok b u hd).stay (λc x _ y=>y) (λc y=>by rw[HW (ne y λz=>f b z.symm)];exact y) λc xs y=>by rw[HW (ne y λz=>e xs z.symm)];exact y
  rw[HW hb]at q;exact(I.hok b v q).stay (λc x _ y=>y) (λc y=>by rw[HW (ne y λz=>f b z.symm)];exact y) λc xs y=>by rw[HW (ne y λz=>e xs z.symm)];exact y
def P6{d:Addr}{ps:List (List Key×V)}{es:Array DictEntry}{ep:Nat}(x:Jv P w H h d (.frz o<|.dT ps))(f:o.data=.dict es ep):
  h.get? d=some o/\es.size=ps.length/\∀(i:Nat) (k:List Key) (v:V),ps[i]?=some (k,v)->∃(c:DictEntry) (b:Addr),es[i]?=some c/\c.key=.ref b/\H b=some (.tup<|k.map kV)/\RelV v c.val:=by
 obtain⟨g,z,y,xs,r,G,K,X,s,ex,a,A,I⟩:=x;rw[g]at s;cases s;rw[f]at a;cases a;have u:es.size=ps.length:=by have n:=congrArg F3 A;have E:=Bc r;simp at n;omega
 refine⟨g,u,λi k v B=>?_⟩;have get:∀{l:List (List Key×V)} {m:List (List Key×Addr×IR)} {i:Nat},Paired (λ(p:List Key×V) (q:List Key×Addr×IR)=>p.1=q.1/\H q.2.1=some (.tup<|p.1.map kV)/\RelV p.2 q.2.2) l m->l[i]?=some (k,v)->∃q,m[i]?=some q/\H q.2.1=some (.tup<|k.map kV)/\RelV v q.2.2:=by
  intro l m i q
  induction q generalizing i with
  |nil=>intro e;simp at e
  |cons h t C=>
   cases i with
   |zero=>
    intro e;simp at e;subst e;exact⟨_,rfl,h.2.1,h.2.2⟩
   |succ j=>intro e;exact C<|by simpa using e
 obtain⟨q,F,n,E⟩:=get r B;have he:es[i]?=some (entryOfKey (tupleKind<|Jb P w) q):=by
  have:es.toList[i]?=some (entryOfKey (tupleKind<|Jb P w) q):=by rw[A,Ay,F];rfl
  simpa using this
 exact⟨_,q.2.1,he,rfl,n,E⟩
section
variable {m:ME}
def RX:Key->D
 |.inl i=>.int i
 |.inr x=>.str x
theorem TB:∀(ks:List Key),Hi K H io (ks.map kV) (ks.map RX)
 |[]=>rfl
 |.inl i::r=>⟨_,_,rfl,rfl,TB r⟩
 |.inr x::r=>⟨_,_,rfl,rfl,TB r⟩
end
inductive Sr where
 |l (a:Addr)|t (a:Addr)
def Sr.ad:Sr->Addr
 |.l a=>a
 |.t a=>a
def Sr.ob:Sr->Obj
 |.l a=>{cls:=.type "list_iterator",data:=.fields #[.ref a,.int 0 0]}
 |.t a=>{cls:=.type "tuple_iterator",data:=.fields #[.ref a,.int 0 0]}
def Sr.is(h:P3)(xs:Array IR):Sr->Prop
 |.l a=>h.IsList a xs
 |.t a=>IsTup h a xs
def Sr.at_(h:P3)(i:Addr)(k:Nat):Sr->Prop
 |.l a=>h.IsListIter i a k
 |.t a=>IsTupIter h i a k
variable {xs:Array IR}{x:Sr}
def Sr.is_keep(q:x.is h xs)(k:∀u,h.get? x.ad=some u->h'.get? x.ad=some u):x.is h' xs:=by
 cases x with
 |l a=>exact DF q k
 |t a=>obtain⟨o,g,c⟩:=q;exact⟨o,k o g,c⟩
def Sr.at_keep{i:Addr}(q:x.at_ h i n)(k:∀u,h.get? i=some u->h'.get? i=some u):x.at_ h' i n:=by
 cases x with
 |l a=>exact FB q k
 |t a=>obtain⟨o,g,c⟩:=q;exact⟨o,k o g,c⟩
def Sr.at_get{i:Addr}(q:x.at_ h i n):∃o vs,h.get? i=some o/\o.data=.fields vs:=by
 cases x with
 |l a=>obtain⟨o,g,c,d⟩:=q;exact⟨o,_,g,d⟩
 |t a=>obtain⟨o,g,c,d⟩:=q;exact⟨o,_,g,d⟩
variable {it:Addr}
def Sr.iter{R:Qqa}(h:x.is s.heap xs)(k:R (.ref s.heap.objs.size) {s with heap:=s.heap.push x.ob}):wpAny (KB prog w) A (pyIter<|.ref x.ad) R E s:=by
 cases x with
 |l a=>exact C4 h k
 |t a=>exact iter_tuple h k
def zkw{R:Qqa}(hit:IsTupIter s.heap it a i)(b:IsTup s.heap a xs)(c:xs[i]?=some v)(k:∀h',IsTupIter h' it a (i+1)->BB it s.heap h'->R v {s with heap:=h'}):wpAny (KB prog w) A (Builtin.SmallTypes.nextOf<|.ref it) R E s:=by
 obtain⟨l,g,rc,d⟩:=id hit;obtain⟨to,h,_,m,j⟩:=b;unfold Builtin.SmallTypes.nextOf;refine Aa (A5 (name:=BC "__next__") hit.typeIs CJ<|A9 CJ hit.typeIs Fd ?_<|Fj _);show wpAny _ _ (field (.ref it) 0 >>= _) _ _ s;refine Aa<|A7 g d (x:=.ref a) rfl ?_;show wpAny _ _ (if(AE a==Bi)=true then _ else _) _ _ s;rw[if_neg (show ¬(AE a==Bi)=true from λz=>AV z)];show wpAny _ _ (field (.ref it) 1 >>= _) _ _ s;refine Aa<|A7 g d (x:=.int i 0) rfl ?_;show wpAny _ _ (seqItems? (.ref a) >>= _) _ _ s;refine Aa<|Bu h j ?_;simp only[By,c];refine Aa<|DG g d (by simp)<|Ac ⟨v,rfl,Ac<|k _ ⟨_,BL _ g<|ES<|CW d _,(FU ..).trans rc,?_⟩<|BY ..⟩;rw[CW d];simp[rawInt]
def zgn{R:Qqa}(b:A.handled=none)(hit:IsTupIter s.heap it a i)(c:IsTup s.heap a xs)(f:xs[i]?=none)(k:∀h' e,EG it s.heap h'->(∃o,h'.get? e=some o/\o.cls=.type "StopIteration")->E (.ref e) {s with heap:=h'}):wpAny (KB prog w) A (Builtin.SmallTypes.nextOf<|.ref it) R E s:=by
 obtain⟨l,d,rc,g⟩:=id hit;obtain⟨to,h,_,n,j⟩:=c;unfold Builtin.SmallTypes.nextOf;refine Aa (A5 (name:=BC "__next__") hit.typeIs CJ<|A9 CJ hit.typeIs Fd ?_<|Fj _);show wpAny _ _ (field (.ref it) 0 >>= _) _ _ s;refine Aa<|A7 d g (x:=.ref a) rfl ?_;show wpAny _ _ (if(AE a==Bi)=true then _ else _) _ _ s;rw[if_neg (show ¬(AE a==Bi)=true from λz=>AV z)];show wpAny _ _ (field (.ref it) 1 >>= _) _ _ s;refine Aa<|A7 d g (x:=.int i 0) rfl ?_;show wpAny _ _ (seqItems? (.ref a) >>= _) _ _ s;refine Aa<|Bu h j ?_;simp only[By,f];refine Aa<|BR<|Aa<|DG d g (by simp) ?_;show wpAny _ _ (newExc (.type "StopIteration") [] >>= _) _ _ _;simp only[newExc,newTuple];refine Aa (Aa<|AO (Aa (m:=firstArgMember _ _)<|F6 (a:=Bi) (by first|rfl|(simp only[firstArgMember];rfl))<|AO ?_<|by size_fits)<|by size_fits);simp only[raiseNew];refine Aa<|wpAny_handled ?_
 first|rw[show A.in1.handled=none from b]|rw[b]
 refine Aa<|Ac<|wpAny_throw ?_;exact k _ _ (((BY ..).extBut.push _).push _) ⟨_,Ap _ rfl,rfl⟩
def Sr.next{R:Qqa}(hit:x.at_ s.heap it i)(h:x.is s.heap xs)(b:xs[i]?=some v)(k:∀h',x.at_ h' it (i+1)->BB it s.heap h'->R v {s with heap:=h'}):
  wpAny (KB prog w) A (Builtin.SmallTypes.nextOf<|.ref it) R E s:=by
 cases x with
 |l a=>exact wpAny_nextOf_list_item hit h b k
 |t a=>exact zkw hit h b k
def Sr.stop{R:Qqa}(b:A.handled=none)(hit:x.at_ s.heap it i)(h:x.is s.heap xs)(c:xs[i]?=none)(k:∀h' e,EG it s.heap h'->(∃o,h'.get? e=some o/\o.cls=.type "StopIteration")->E (.ref e) {s with heap:=h'}):wpAny (KB prog w) A (Builtin.SmallTypes.nextOf<|.ref it) R E s:=by
 cases x with
 |l a=>exact wpAny_nextOf_list_end b hit h c k
 |t a=>exact zgn b hit h c k
def Sr.at_new{i:Addr}(g:h.get? i=some x.ob):x.at_ h i 0:=by
 cases x with
 |l a=>exact⟨_,g,rfl,rfl⟩
 |t a=>exact⟨_,g,rfl,rfl⟩
noncomputable abbrev PB (h:P3) (x:Sr):P3:=h.push x.ob
noncomputable abbrev QG (h:P3) (x y:Sr):P3:=(PB h x).push y.ob
noncomputable abbrev QF (h:P3) (x y:Sr):P3:=(QG h x y).push {cls:=.type "tuple",data:=.seq #[.ref h.objs.size,.ref (PB h x).objs.size]}
noncomputable abbrev SD (h:P3) (x y:Sr):P3:=(QF h x y).push {cls:=.type "tuple",data:=.seq #[.none,.none]}
noncomputable abbrev OG (h:P3) (x y:Sr):P3:=(SD h x y).push {cls:=.type "zip",data:=.fields #[.none,.bool false,.bool false,.ref (QG h x y).objs.size,.ref (QF h x y).objs.size]}
def zlJ(x y:Sr)(xs b:Array IR):Meets (Builtin.«zip.__new__» ⟨[.type "zip",.ref x.ad,.ref y.ad],[]⟩) (λ_ R s=>x.is s.heap xs/\y.is s.heap b/\R (.ok<|.ret<|.ref (SD s.heap x y).objs.size) {s with heap:=OG s.heap x y}):=
 .of_wp λprog w A R s h=>by
  obtain⟨a,g,d,tk,os⟩:=s;obtain⟨j,l,h⟩:=h;have i:=sub_zip;have m:x.is (Shared.heap ⟨a,g,d,tk,os⟩) xs:=j;have n:y.is (Shared.heap ⟨a.push x.ob,g,d,tk,os⟩) b:=Sr.is_keep l λu q=>Ad _ q
  wp_walk using Sr.iter m,Sr.iter n
  exact⟨_,rfl,h⟩
structure Zp(z TI TO i j:Addr):Prop where
 TIz:TI≠z
 TOz:TO≠z
 iz:i≠z
 jz:j≠z
 TIO:TI≠TO
 TIi:TI≠i
 TIj:TI≠j
 TOi:TO≠i
 TOj:TO≠j
 ij:i≠j
def M8{a b:Nat}(h:a≠b):(show Addr from a)≠(show Addr from b):=h
def Zp.new(n:Nat):Zp (n+4) (n+2) (n+3) n (n+1):=⟨M8<|by omega,M8<|by omega,M8<|by omega,M8<|by omega,M8<|by omega,M8<|by omega,M8<|by omega,M8<|by omega,M8<|by omega,M8<|by omega⟩
variable {b:IR}{y:Sr}{z:Addr}{ys:Array IR}
def zO{R:Qqa}(e:x.is s.heap xs)(f:y.is s.heap ys)(k:∀h',IsZip h' (s.heap.objs.size+4) (s.heap.objs.size+2) (s.heap.objs.size+3) .none->IsPair h' (s.heap.objs.size+2) (.ref s.heap.objs.size) (.ref<|s.heap.objs.size+1)->IsPair h' (s.heap.objs.size+3) .none .none ->
   x.at_ h' s.heap.objs.size 0->y.at_ h' (s.heap.objs.size+1) 0->(∀c u,s.heap.get? c=some u->h'.get? c=some u)->R (.ref<|s.heap.objs.size+4) {s with heap:=h'}):wpAny (KB prog w) A (call (.type "zip") [.ref x.ad,.ref y.ad]) R E s:=by
 refine callType_new F.called_zip (by decide) (F.typeCall_zip_2 _ _) (F.newCall_zip_2 _ _) (λobj=>F.args_object_init_3 obj _ _) F.entry_zip_new (zlJ x y xs ys) ⟨e,f,?_⟩;have a:(PB s.heap x).objs.size=s.heap.objs.size+1:=A8 ..;have b:(QG s.heap x y).objs.size=s.heap.objs.size+2:=(A8 ..).trans (by rw[a]);have d:(QF s.heap x y).objs.size=s.heap.objs.size+3:=(A8 ..).trans (by rw[b]);have h:(SD s.heap x y).objs.size=s.heap.objs.size+4:=(A8 ..).trans (by rw[d]);have up:∀c u,(PB s.heap x).get? c=some u->(OG s.heap x y).get? c=some u:=λc u q=>Ad _<|Ad _<|Ad _<|Ad _ q;have g:(OG s.heap x y).get? (SD s.heap x y).objs.size=some {cls:=.type "zip",data:=.fields #[.none,.bool false,.bool false,.ref (QG s.heap x y).objs.size,.ref (QF s.heap x y).objs.size]}:=Ap _ rfl;have f4:(OG s.heap x y).get? (QF s.heap x y).objs.size=some {cls:=.type "tuple",data:=.seq #[.none,.none]}:=Ad _<|Ap _ rfl;have i:(OG s.heap x y).get? (QG s.heap x y).objs.size=some {cls:=.type "tuple",data:=.seq #[.ref s.heap.objs.size,.ref (PB s.heap x).objs.size]}:=Ad _<|Ad _<|Ap _ rfl;have f2:(OG s.heap x y).get? (PB s.heap x).objs.size=some y.ob:=Ad _<|Ad _<|Ad _<|Ap _ (by cases y<;>rfl);have f1:(OG s.heap x y).get? s.heap.objs.size=some x.ob:=up _ _<|Ap _ (by cases x<;>rfl);rw[b,d,h]at g;rw[a,b]at i;rw[d]at f4;rw[a]at f2;show _/\_;rw[h];exact⟨⟨_,g,rfl⟩,k _ g i f4 (Sr.at_new f1) (Sr.at_new f2) λc u q=>up c u (Ad _ q)⟩
def xD{TI TO i j:Addr}{m:Nat}{u a:IR}{R:Option IR->Shared->Prop}(D:Zp z TI TO i j)(xz:x.ad≠z/\x.ad≠TO/\x.ad≠i/\x.ad≠j)(f:y.ad≠z/\y.ad≠TO/\y.ad≠i/\y.ad≠j)(hz:IsZip s.heap z TI TO .none) (e:IsPair s.heap TI (.ref i) (.ref j)) (r:IsPair s.heap TO a b) (hi:x.at_ s.heap i n) (T:y.at_ s.heap j m) (U:x.is s.heap xs) (W:y.is s.heap ys) (Y:xs[n]?=some u) (Z:ys[m]?=some v)(k:∀h',IsZip h' z TI TO (rawInt s.heap.objs.size)->IsPair h' TI (.ref i) (.ref j)->IsPair h' TO u v->x.at_ h' i (n+1)->y.at_ h' j (m+1)->IsPair h' s.heap.objs.size u v ->
   (∀c o,c≠z->c≠TO->c≠i->c≠j->s.heap.get? c=some o->h'.get? c=some o)->R (some<|.ref s.heap.objs.size) {s with heap:=h'}):wpAny (KB prog w) A (pyNext<|.ref z) R E s:=by
 have ty:s.TypeIs (.ref z) "zip":=⟨_,hz,rfl⟩;unfold pyNext;refine Aa (DS<|A5 (name:=BC "__next__") ty F.slot_zip_next<|A9 F.slot_zip_next ty F.entry_zip_next ?_<|F.args_zip_next_1 _);show wpAny _ _ (field (.ref z) 2 >>= _) _ _ _;refine Aa<|A7 hz rfl (x:=.bool false) rfl ?_;show wpAny _ _ (field (.ref z) 3 >>= _) _ _ _;refine Aa<|A7 hz rfl (x:=.ref TI) rfl<|Aa<|Bu e rfl ?_;show wpAny _ _ (Builtin.SmallTypes.ownedTupleIsFree (.ref z) >>= _) _ _ _;unfold Builtin.SmallTypes.ownedTupleIsFree;refine Aa<|Aa<|A7 hz rfl (x:=.none) rfl<|Ac ?_;simp only[if_true];refine Aa<|BR<|Aa<|A7 hz rfl (x:=.ref TO) rfl<|Aa<|B5 hz (by simp) λg1 P s1=>?_
 replace P:IsZip g1 z TI TO .ellipsis:=P
 have k1:∀c o,c≠z->s.heap.get? c=some o->g1.get? c=some o:=λc o g q=>s1.extBut c o g q;simp only[Ge,Gv,Ek,CY];refine Aa<|Aa<|Aa<|DT ?_;show wpAny _ _ (Builtin.SmallTypes.nextOf (.ref i) >>= _) _ _ _;refine Aa<|Sr.next (Sr.at_keep hi λo q=>k1 _ o D.iz q) (Sr.is_keep U λo q=>k1 _ o xz.1 q) Y λg2 i2 s2=>Ac ?_;have k2:∀c o,c≠z->c≠i->s.heap.get? c=some o->g2.get? c=some o:=λc o g X q=>s2.extBut c o X<|k1 c o g q;have J:IsPair g2 TO a b:=k2 _ _ D.TOz D.TOi r;refine Aa<|Bu J rfl<|Aa<|Du J λg3 B s3=>(Aa<|BP<|Ac ?_)
 replace B:IsPair g3 TO u b:=B
 have k3:∀c o,c≠z->c≠i->c≠TO->s.heap.get? c=some o->g3.get? c=some o:=λc o g X nt q=>s3.extBut c o nt<|k2 c o g X q;refine Aa<|Aa<|DT ?_;show wpAny _ _ (Builtin.SmallTypes.nextOf (.ref j) >>= _) _ _ _;refine Aa<|Sr.next (Sr.at_keep T λo q=>k3 _ o D.jz D.ij.symm D.TOj.symm q) (Sr.is_keep W λo q=>k3 _ o f.1 f.2.2.1 f.2.1 q) Z λg4 j4 s4=>Ac ?_;have L:IsPair g4 TO u b:=s4.extBut _ _ D.TOj B;refine Aa<|Bu L rfl<|Aa<|Du L λd h s5=>(Aa<|BP<|Ac<|Ac ?_)
 replace h:IsPair d TO u v:=h
 refine Aa<|Bu h rfl<|Aa<|EN ?_;have sz:d.objs.size=s.heap.objs.size:=by rw[s5.1,s4.1,s3.1,s2.1,s1.1]
 have M:IsZip d z TI TO .ellipsis:=s5.extBut _ _ D.TOz.symm<|s4.extBut _ _ D.jz.symm<|s3.extBut _ _ D.TOz.symm<|s2.extBut _ _ D.iz.symm P;have k5:∀c o,c≠z->c≠TO->c≠i->c≠j->s.heap.get? c=some o->d.get? c=some o:=λc o l p C G q=>s5.extBut c o p<|s4.extBut c o G<|k3 c o l C p q;have i5:x.at_ d i (n+1):=Sr.at_keep i2 λo q=>s5.extBut _ _ D.TOi.symm<|s4.extBut _ _ D.ij<|s3.extBut _ _ D.TOi.symm q;have j5:y.at_ d j (m+1):=Sr.at_keep j4 λo q=>s5.extBut _ _ D.TOj.symm q;have N:z<d.objs.size:=Ak M;show wpAny _ _ (Builtin.SmallTypes.ownedTupleHandOut (.ref z) (.ref d.objs.size) >>= _) _ _ _;unfold Builtin.SmallTypes.ownedTupleHandOut;have z6:IsZip (d.push {cls:=.type "tuple",data:=.seq #[u,v]}) z TI TO .ellipsis:=Ad _ M;refine Aa<|Aa<|B5 z6 (by simp) λg7 I s7=>?_
 replace I:IsZip g7 z TI TO (rawInt d.objs.size):=I
 refine B5 I (by simp) λH K Q=>?_
 replace K:IsZip H z TI TO (rawInt d.objs.size):=K
 have up:∀c o,c≠z->d.get? c=some o->H.get? c=some o:=λc o g q=>Q.extBut c o g<|s7.extBut c o g<|Ad _ q;have S:IsPair H d.objs.size u v:=Q.extBut _ _ (CS N)<|s7.extBut _ _ (CS N)<|Ap _ rfl;rw[sz]at K S;refine Ac ⟨_,rfl,Ac ?_⟩;show R (some<|.ref d.objs.size) _;rw[sz];exact k H K (up _ _ D.TIz<|k5 _ _ D.TIz D.TIO D.TIi D.TIj e) (up _ _ D.TOz h) (Sr.at_keep i5 λo q=>up _ o D.iz q) (Sr.at_keep j5 λo q=>up _ o D.jz q) S λc o l p C G q=>up c o l (k5 c o l p C G q)
def uK{TI TO i j:Addr}{m:Nat}{a:IR}{R:Option IR->Shared->Prop}(G:A.handled=none)(D:Zp z TI TO i j)(xz:x.ad≠z/\x.ad≠TO/\x.ad≠i/\x.ad≠j)(f:y.ad≠z/\y.ad≠TO/\y.ad≠i/\y.ad≠j)(hz:IsZip s.heap z TI TO .none) (B:IsPair s.heap TI (.ref i) (.ref j)) (C:IsPair s.heap TO a b) (hi:x.at_ s.heap i n) (M:y.at_ s.heap j m) (I:x.is s.heap xs) (N:y.is s.heap ys) (he:xs[n]?=none\/ys[m]?=none)(k:∀h',(∀c o,c≠z->c≠TO->c≠i->c≠j->s.heap.get? c=some o->h'.get? c=some o)->R none {s with heap:=h'}):wpAny (KB prog w) A (pyNext<|.ref z) R E s:=by
 have ty:s.TypeIs (.ref z) "zip":=⟨_,hz,rfl⟩;have halt:∀h' e,(∀c o,c≠z->c≠TO->c≠i->c≠j->s.heap.get? c=some o->h'.get? c=some o)->(∃o,h'.get? e=some o/\o.cls=.type "StopIteration") ->
   wpAny (KB prog w) A (do if <-isInstance (.ref e) (.type "StopIteration")then pure none else throw (AE e)) R E {s with heap:=h'}:=λh' e q ⟨o,g,c⟩=>
  Aa (wpAny_isInstance (T:="StopIteration") (b:=true) ⟨o,g,c⟩ isSubtype_stop<|Ac<|k h' q)
 unfold pyNext;refine Aa (DS<|A5 (name:=BC "__next__") ty F.slot_zip_next<|A9 F.slot_zip_next ty F.entry_zip_next ?_<|F.args_zip_next_1 _);show wpAny _ _ (field (.ref z) 2 >>= _) _ _ _;refine Aa<|A7 hz rfl (x:=.bool false) rfl ?_;show wpAny _ _ (field (.ref z) 3 >>= _) _ _ _;refine Aa<|A7 hz rfl (x:=.ref TI) rfl<|Aa<|Bu B rfl ?_;show wpAny _ _ (Builtin.SmallTypes.ownedTupleIsFree (.ref z) >>= _) _ _ _;unfold Builtin.SmallTypes.ownedTupleIsFree;refine Aa<|Aa<|A7 hz rfl (x:=.none) rfl<|Ac ?_;simp only[if_true];refine Aa<|BR<|Aa<|A7 hz rfl (x:=.ref TO) rfl<|Aa<|B5 hz (by simp) λg1 p s1=>?_
 replace p:IsZip g1 z TI TO .ellipsis:=p
 have k1:∀c o,c≠z->s.heap.get? c=some o->g1.get? c=some o:=λc o d q=>s1.extBut c o d q;have sep:∀{g:P3}{e:Addr}{o:Obj},IsZip g z TI TO .ellipsis->g.get? e=some o->o.cls=.type "StopIteration"->e≠z:=λ{g e o} q h c r=>by subst r;rw[q]at h;cases h;simp at c
 simp only[Ge,Gv,Ek,CY];refine Aa<|Aa<|Aa<|DT ?_;show wpAny _ _ (Builtin.SmallTypes.nextOf (.ref i) >>= _) _ _ _
 cases v:xs[n]? with
 |none=>
  refine Aa<|Sr.stop G (Sr.at_keep hi λo q=>k1 _ o D.iz q) (Sr.is_keep I λo q=>k1 _ o xz.1 q) v ?_;rintro g2 e s2 ⟨H,he,ce⟩;have X:IsZip g2 z TI TO .ellipsis:=s2 _ _ D.iz.symm p;exact B5 X (by simp) λg3 _ s3=>halt g3 e (λc o l _ K _ q=>s3.extBut c o l (s2 c o K<|k1 c o l q)) ⟨H,s3.extBut _ _ (sep X he ce) he,ce⟩
 |some u=>
  have Q:ys[m]?=none:=he.resolve_left (by rw[v];simp);refine Aa<|Sr.next (Sr.at_keep hi λo q=>k1 _ o D.iz q) (Sr.is_keep I λo q=>k1 _ o xz.1 q) v λg2 i2 s2=>Ac ?_;have k2:∀c o,c≠z->c≠i->s.heap.get? c=some o->g2.get? c=some o:=λc o d P q=>s2.extBut c o P<|k1 c o d q;have J:IsPair g2 TO a b:=k2 _ _ D.TOz D.TOi C;refine Aa<|Bu J rfl<|Aa<|Du J λg3 o3 s3=>(Aa<|BP<|Ac ?_);have k3:∀c o,c≠z->c≠i->c≠TO->s.heap.get? c=some o->g3.get? c=some o:=λc o d P S q=>s3.extBut c o S<|k2 c o d P q;refine Aa<|Aa<|DT ?_;show wpAny _ _ (Builtin.SmallTypes.nextOf (.ref j) >>= _) _ _ _;refine Aa<|Sr.stop G (Sr.at_keep M λo q=>k3 _ o D.jz D.ij.symm D.TOj.symm q) (Sr.is_keep N λo q=>k3 _ o f.1 f.2.2.1 f.2.1 q) Q ?_;rintro U e s4 ⟨H,he,ce⟩;have L:IsZip U z TI TO .ellipsis:=s4 _ _ D.jz.symm<|s3.extBut _ _ D.TOz.symm<|s2.extBut _ _ D.iz.symm p;exact B5 L (by simp) λW _ s5=>halt W e (λc o l Y K Z q=>s5.extBut c o l (s4 c o Z<|k3 c o l K Y q)) ⟨H,s5.extBut _ _ (sep L he ce) he,ce⟩
def Sr.sq(H:Hp)(xs:List V):Sr->Prop
 |.l a=>H a=some (.lst xs)\/∃o,H a=some (.frz o<|.lst xs)
 |.t a=>H a=some (.tup xs)
def Sr.sq_ne{xs:List V}{b:Addr}(h:x.sq H xs)(c:H b=none):x.ad≠b:=by
 cases x with
 |l a=>rcases h with h|⟨o,h⟩<;>exact J7 h c
 |t a=>exact J7 (show H a=some (.tup xs) from h) c
def Sr.sq_inj{xs ys:List V}(h:x.sq H xs)(h':x.sq H ys):xs=ys:=by
 cases x with
 |l a=>rcases h with h|⟨o,h⟩<;>rcases h' with h'|⟨b,h'⟩<;>rw[h]at h'<;>cases h'<;>rfl
 |t a=>
  have h:H a=some (.tup xs):=h;have h':H a=some (.tup ys):=h';rw[h]at h';cases h';rfl
def Sr.sq_is{xs:List V}(I:Inv X qp σ H s)(h:x.sq H xs):∃its:List IR,Vals xs its/\x.is s.heap its.toArray:=by
 cases x with
 |l a=>
  obtain⟨its,b,p,_⟩:=I.list (show JL X.K H a xs from .inl h);exact⟨its,b,p.isList⟩
 |t a=>
  obtain⟨its,b,p,_⟩:=I.tuple<|IK.of (K:=X.K) h;exact⟨its,b,p⟩
def Itz(x y:Sr):It:=
 ⟨λi H=>∃xs ys u v,x.sq H xs/\y.sq H ys/\xs[i]?=some u/\ys[i]?=some v,λi H r a=>∃p u v,H p=none/\a=upd H p (.tup [u,v])/\r=.ref p/\(∀xs,x.sq H xs->xs[i]?=some u)/\∀ys,y.sq H ys->ys[i]?=some v,
  λi H=>∃xs ys,x.sq H xs/\y.sq H ys/\(xs.length<=i\/ys.length<=i)⟩
variable {elts:List Pv}
def xB{x1}(x y:Sr){TI TO i j:Addr}(D:Zp z TI TO i j):
  Turn P w K (.Tuple elts x1 pos) (Itz x y) [z,TI,TO,i,j] z (λn h=>IsZip h z TI TO .none/\IsPair h TI (.ref i) (.ref j)/\(∃a b,IsPair h TO a b)/\x.at_ h i n/\y.at_ h j n) where
 mem:=by simp
 obj:=λn h st b l=>by
  obtain⟨C,m,⟨a,c,p⟩,F,G⟩:=st;simp only[A3,A4,or_false]at l;rcases l with rfl|rfl|rfl|rfl|rfl
  ·exact⟨_,C,λv q=>by cases q⟩
  ·exact⟨_,m,λv q=>by cases q⟩
  ·exact⟨_,p,λv q=>by cases q⟩
  ·obtain⟨o,J,g,d⟩:=Sr.at_get F;exact⟨o,g,λv q=>by rw[d]at q;cases q⟩
  obtain⟨o,J,g,d⟩:=Sr.at_get G;exact⟨o,g,λv q=>by rw[d]at q;cases q⟩
 keep:=λn h h' st k=>by obtain⟨C,m,⟨a,c,p⟩,F,G⟩:=st;exact⟨k z (by simp) _ C,k TI (by simp) _ m,⟨a,c,k TO (by simp) _ p⟩,Sr.at_keep F λo q=>k i (by simp) o q,Sr.at_keep G λo q=>k j (by simp) o q⟩
 item:=by
  intro X Q hw S hc n qp s σ H E I hf st T;subst Q hw S;obtain⟨xs,ys,u,v,A,e,gu,gv⟩:=T;obtain⟨C,m,⟨a,c,p⟩,F,G⟩:=st;obtain⟨U,W,Y⟩:=Sr.sq_is I A;obtain⟨Z,ry,iy⟩:=Sr.sq_is I e;obtain⟨u',gu',ru⟩:=W.get gu;obtain⟨v',gv',rv⟩:=ry.get gv;have L:=(hf z<|by simp).1;have f:=(hf TO<|by simp).1;have M:=(hf i<|by simp).1;have N:=(hf j<|by simp).1;refine xD D ⟨Sr.sq_ne A L,Sr.sq_ne A f,Sr.sq_ne A M,Sr.sq_ne A N⟩ ⟨Sr.sq_ne e L,Sr.sq_ne e f,Sr.sq_ne e M,Sr.sq_ne e N⟩ C m p F G Y iy (u:=u') (v:=v') (by simpa using gu') (by simpa using gv') λh1 z1 ti1 to1 i1 j1 t1 k1=>?_;refine⟨_,rfl,wpAny_letOwnedTupleGo_zip (s:={s with heap:=h1}) z1 λB z2 b2=>?_⟩;have up:∀b o,b≠z->h1.get? b=some o->B.get? b=some o:=λb o nb q=>(b2.2 b nb).trans q;have k2:∀b o,b ∉ [z,TI,TO,i,j]->s.heap.get? b=some o->B.get? b=some o:=λb o l q=>by simp only[A3,A4,or_false,not_or]at l;exact up b o l.1<|k1 b o l.1 l.2.2.1 l.2.2.2.1 l.2.2.2.2 q
  have lt:∀b∈[z,TI,TO,i,j],b<s.heap.objs.size:=λb l=>by
   simp only[A3,A4,or_false]at l;rcases l with rfl|rfl|rfl|rfl|rfl
   ·exact Ak C
   ·exact Ak m
   ·exact Ak p
   ·obtain⟨o,J,g,d⟩:=Sr.at_get F;exact Ak g
   obtain⟨o,J,g,d⟩:=Sr.at_get G;exact Ak g
  have t2:B.get? s.heap.objs.size=some {cls:=.type "tuple",data:=.seq #[u',v']}:=up _ _ (CS<|lt z<|by simp) t1;have r:IsZip B z TI TO .none/\IsPair B TI (.ref i) (.ref j)/\(∃a b,IsPair B TO a b)/\x.at_ B i (n+1)/\y.at_ B j (n+1):=
   ⟨z2,up _ _ D.TIz ti1,⟨_,_,up _ _ D.TOz to1⟩,Sr.at_keep i1 λo q=>up _ o D.iz q,Sr.at_keep j1 λo q=>up _ o D.jz q⟩
  refine⟨.ref s.heap.objs.size,upd H s.heap.objs.size<|.tup [u,v],?_,rfl,⟨_,u,v,I.hok.fresh<|Ah _,rfl,rfl,λzs h=>by rw[Sr.sq_inj h A];exact gu,λzs h=>by rw[Sr.sq_inj h e];exact gv⟩,r,λb l=>?_⟩
  ·refine Inv.turnNew (s:=s) (h':=B) (t':=s.toks) I hf k2 (Ah _) (λb l ob q=>?_) ⟨by show 2<=sizeLine;decide,[u',v'],.cons ru<|.cons rv .nil,⟨_,t2,rfl,rfl,_,rfl⟩⟩;simp only[A3,A4,or_false]at l
   rcases l with rfl|rfl|rfl|rfl|rfl
   ·exact⟨_,z2⟩
   ·exact⟨_,r.2.1⟩
   ·obtain⟨_,_,q⟩:=r.2.2.1;exact⟨_,q⟩
   ·obtain⟨o,J,g,d⟩:=Sr.at_get r.2.2.2.1;exact⟨o,g⟩
   obtain⟨o,J,g,d⟩:=Sr.at_get r.2.2.2.2;exact⟨o,g⟩
  rw[HW (Av<|lt b l)];exact(hf b l).1
 done:=by
  intro X Q hw S hc n qp s σ H E I hf st T;subst Q hw S;obtain⟨xs,ys,A,e,he⟩:=T;obtain⟨C,m,⟨a,c,p⟩,F,G⟩:=st;obtain⟨U,W,Y⟩:=Sr.sq_is I A;obtain⟨Z,ry,iy⟩:=Sr.sq_is I e;have L:=(hf z<|by simp).1;have f:=(hf TO<|by simp).1;have M:=(hf i<|by simp).1;have N:=(hf j<|by simp).1;have l1:=W.length;have l2:=ry.length;exact uK (I.ok.hd hc) D ⟨Sr.sq_ne A L,Sr.sq_ne A f,Sr.sq_ne A M,Sr.sq_ne A N⟩ ⟨Sr.sq_ne e L,Sr.sq_ne e f,Sr.sq_ne e M,Sr.sq_ne e N⟩ C m p F G Y iy (by
   rcases he with h|h
   ·exact .inl (by simp;omega)
   ·exact .inr (by simp;omega)) λh' k=>⟨rfl,Inv.turnAll (t':=s.toks) I hf λb o l q=>by simp only[A3,A4,or_false,not_or]at l;exact k b o l.1 l.2.2.1 l.2.2.2.1 l.2.2.2.2 q⟩
 self:=λ_ _ _ _ _ st h=>wpAny_pyIter_zip st.1 h
def Mw(s:Hf):D->Option (List D×List (Nat×List D))
 |.ref n=>(HZ s n).map λds=>(ds,[(n,ds)])
 |.tup ds=>some (ds,[])
 |_=>none
def pairD(a b:List D):List D:=(a.zip b).map λp=>.tup [p.1,p.2]
def ON(x y:D)(s:Hf):Option (Wk×Hf):=(Mw s x).bind λ(a,f)=>(Mw s y).map λ(b,g)=>(⟨pairD a b,f++g⟩,s)
def Mx(ma mb:ME):MI:=λU st=>(ma U st).bind λ(x,s1)=>(mb U s1).bind λ(y,s2)=>ON x y s2
def VU{v:V}{ds:List D}{g:List (Nat×List D)}(S:HA K H io st)(R:Rep K H io v d)(h:Mw st d=some (ds,g)):∃x:Sr,v=.ref x.ad/\(∃xs,x.sq H xs) /\
  ∀H1 ka s1,Ext io ka H H1->HA K H1 (io++ka) s1->(∀p,p∈g->s1[p.1]?=some (.lst p.2)\/s1[p.1]?=some (.fz p.2))->∃xs,x.sq H1 xs/\Hi K H1 (io++ka) xs ds:=by
 cases d with
 |ref n=>
  obtain⟨l,e,q⟩:=Ig h;cases q;obtain⟨p,rfl,a⟩:=R;refine⟨.l p,rfl,?_,λH1 ka s1 X1 S1 i=>?_⟩
  ·unfold HZ at e
   split at e
   ·rename_i o he;cases e;obtain⟨xs,q,_⟩:=S.ob n p _ a he;exact⟨xs,.inl q⟩
   ·rename_i o he;cases e;obtain⟨ob,xs,q,_⟩:=S.ob n p _ a he;exact⟨xs,.inr ⟨ob,q⟩⟩
   ·cases e
  ·rcases i (n,ds) Ar with q|q
   ·obtain⟨xs,b,r⟩:=S1.ob n p _ (LQ a) q;exact⟨xs,.inl b,r⟩
   obtain⟨ob,xs,b,r⟩:=S1.ob n p _ (LQ a) q;exact⟨xs,.inr ⟨ob,b⟩,r⟩
 |tup ts=>
  cases h;obtain⟨p,xs,rfl,a,r⟩:=R;exact⟨.t p,rfl,⟨xs,a⟩,λH1 ka s1 X1 S1 _=>⟨xs,X1.sqT S p xs a,r.ext S X1⟩⟩
 |_=>cases h
def yE{a b:List D}(h:(pairD a b)[i]?=some d):∃x y,a[i]?=some x/\b[i]?=some y/\d=.tup [x,y]:=by unfold pairD at h;rw[Ay]at h;obtain⟨⟨x,y⟩,e,q⟩:=Ig h;rw[List.getElem?_zip_eq_some]at e;exact⟨x,y,e.1,e.2,q.symm⟩
def boot_zip:UF "zip"=some (.type "zip"):=by decide +kernel
def mO{x1}{tp:Pos}{a b:Pv}(hg:Gl X "zip")(hm:X.mg "zip"=none)(ha:SE X a ma)(N:SE X b mb)(c:starEach [a,b] X.env=[(false,Wp a X.env),(false,Wp b X.env)]:=by rfl)(C:starEach [b] X.env=[(false,Wp b X.env)]:=by rfl) (T:(backTo pos<|starEach [b] X.env).any (·.1)=false:=by rfl):SI X (.Tuple elts x1 tp) (.Call (.Name "zip" p) [a,b] [] pos) (Mx ma mb):=by
 rintro qp s σ H R I ⟨U,st,io,W,st',E,S,e,k⟩;obtain⟨⟨x,s1⟩,e1,e⟩:=Ht e;obtain⟨⟨y,s2⟩,e2,e⟩:=Ht e;obtain⟨⟨as,f⟩,e3,e⟩:=Ht e;obtain⟨⟨bs,g⟩,e4,e⟩:=Ig e;cases e;have F:starEach [a,b] X.env=(false,Wp a X.env)::starEach [b] X.env:=by rw[c,C]
 refine Call_<|PH I hg hm boot_zip<|B1 (HC (Hh ha (Hh N Hm C) F pos qp s σ H (λY Q=>∃Z,Ext io Z H Q/\HA X.K Q (io++Z) st'/\Hi X.K Q (io++Z) Y [x,y]) I ⟨U,st,io,[x,y],st',E,S,TF e1<|TF e2 rfl,λY H1 k1 X1 G R1=>⟨k1,X1,G,R1⟩⟩) ?_) F T;rintro us t1 ⟨Y,H1,I1,r1,k1,X1,G,R1⟩;obtain⟨v,u,rfl,Rx,Ry⟩:=R1.two;obtain⟨v',u',rfl,rv,ru⟩:=r1.two;obtain⟨xx,rfl,⟨xs,hx⟩,kx⟩:=VU G Rx e3;obtain⟨yy,rfl,⟨ys,hy⟩,ky⟩:=VU G Ry e4;cases rv;cases ru;obtain⟨its,vx,ix⟩:=Sr.sq_is I1 hx;obtain⟨jts,vy,iy⟩:=Sr.sq_is I1 hy;refine zO ix iy λh' hz hTI hTO J hj kk=>wpAny_pyIter_zip hz ?_;refine⟨_,_,_,_,H1,rfl,I1.kept (t':=t1.toks) kk,xB xx yy<|Zp.new t1.heap.objs.size,⟨hz,hTI,⟨_,_,hTO⟩,J,hj⟩,λb N=>?_,?_⟩
 ·have hle:t1.heap.objs.size<=b:=by
   simp only[A3,A4,or_false]at N;rcases N with rfl|rfl|rfl|rfl|rfl
   ·exact Cf _ 4
   ·exact Cf _ 2
   ·exact Cf _ 3
   ·exact Ah _
   exact Cf _ 1
  exact I1.fpOk hle<|I1.hok.fresh hle
 ·refine k _ H1 k1 X1 G ?_;have m:∀{s3:Hf},stays ⟨pairD as bs,f++g⟩ s3->(∀p,p∈f->s3[p.1]?=some (.lst p.2)\/s3[p.1]?=some (.fz p.2))/\∀p,p∈g->s3[p.1]?=some (.lst p.2)\/s3[p.1]?=some (.fz p.2):=λ{s3} h=>⟨λp hp=>h p (AK _ hp),λp hp=>h p (AJ _ hp)⟩
  have len:∀{a b:List D},(pairD a b).length=min a.length b.length:=λ{a b}=>by unfold pairD;rw[Af,Gx]
  refine⟨λi d w z s3 hd A n c=>?_,λw z s3 A n c=>?_,λw z s3 i J A n c=>?_⟩
  ·obtain⟨j,P,L⟩:=kx w z s3 A n (m c).1;obtain⟨l,B,M⟩:=ky w z s3 A n (m c).2;obtain⟨dx,dy,g1,g2,rfl⟩:=yE hd;obtain⟨u1,gu,ru⟩:=L.get g1;obtain⟨v1,gv,rv⟩:=M.get g2;refine⟨⟨j,l,u1,v1,P,B,gu,gv⟩,λr Q yl=>?_⟩;obtain⟨q,u2,v2,hq,rfl,rfl,yu,yv⟩:=yl;have e5:=yu j P;have e6:=yv l B;rw[gu]at e5;rw[gv]at e6;cases e5;cases e6;obtain⟨E',S'⟩:=Q6 (o:=.tup [u1,v1]) n hq;rw[Ao]at S';refine⟨E',S',⟨q,_,rfl,Lc,?_⟩⟩;have r2:=ru.ext n E';have r3:=rv.ext n E';rw[Ao]at r2 r3;exact Hi.cons r2<|Hi.cons r3 Hi.nil
  ·obtain⟨j,P,L⟩:=kx w z s3 A n (m c).1;obtain⟨l,B,M⟩:=ky w z s3 A n (m c).2;refine⟨j,l,P,B,?_⟩;show j.length<=(pairD as bs).length\/l.length<=(pairD as bs).length;rw[len,L.length,M.length];omega
  obtain⟨j,P,L⟩:=kx w z s3 A n (m c).1;obtain⟨l,B,M⟩:=ky w z s3 A n (m c).2;refine⟨j,l,P,B,?_⟩;have J:(pairD as bs).length<=i:=J;rw[len]at J;rw[L.length,M.length];omega
def L8(X:Cx)(fs:List Str):List Nat->List Str->Prop
 |[],[]=>True
 |j::c,x::xs=>(X.N[j]?=some x/\x∈fs)/\L8 X fs c xs
 |_,_=>False
def L4(X:Cx):List Str->Prop
 |[]=>True
 |x::xs=>(X.env.kindOf x=some .cell\/X.env.kindOf x=some .free)/\L4 X xs
theorem L4.get{X:Cx}:∀{fs:List Str}{x:Str},L4 X fs->x∈fs->X.env.kindOf x=some .cell\/X.env.kindOf x=some .free
 |[],_,_,m=>nomatch m
 |y::ys,x,h,m=>by
  rcases On.mp m with rfl|m
  ·exact h.1
  exact L4.get h.2 m
theorem L8.get{X:Cx}{fs:List Str}:∀{fr:List Nat}{xs:List Str}{i j:Nat}{x:Str},L8 X fs fr xs->fr[i]?=some j->xs[i]?=some x->X.N[j]?=some x/\x∈fs
 |[],[],i,j,x,_,h,_=>by simp at h
 |[],_::_,i,j,x,h,_,_=>h.elim
 |_::_,[],i,j,x,h,_,_=>h.elim
 |k::ks,y::ys,0,j,x,h,c,e=>by simp at c e;subst c e;exact h.1
 |k::ks,y::ys,i+1,j,x,h,c,e=>L8.get (i:=i) h.2 (by simpa using c)<|by simpa using e
def LC{scope:Scope}{N':List Str}{nt:Nat}{fr:List Nat}(fs:List Str)(kind:scope.kind=.function)(e:(scope.names.map (·.1)).Nodup)(hf:scope.names.all (λp=>!(p.2==AG) || fs.contains p.1)=true)(f:fs.all (λx=>scope.names.contains (x,AG))=true) (len:N'.length=nt+fr.length) (c:L8 X fs fr (N'.drop nt)) (out:L4 X fs):JM X scope N' nt fr:=by
 refine⟨kind,e,len,λi j x g h=>?_,λx l=>?_⟩
 ·have d:(N'.drop nt)[i]?=some x:=by rw[List.getElem?_drop];exact h
  obtain⟨a,b⟩:=c.get g d;refine⟨a,?_⟩;have:=List.all_eq_true.mp f x b;simpa using this
 ·have:=List.all_eq_true.mp hf _ l;have hm:x∈fs:=by simpa using this
  exact out.get hm
def Ml:UF "len"=some (.builtin "len"):=by decide +kernel
def Za:UF "min"=some (.builtin "min"):=by decide +kernel
def O1:UF "sorted"=some (.builtin "sorted"):=by decide +kernel
def Y9:UF "int"=some (.type "int"):=by decide +kernel
def oM:UF "bool"=some (.type "bool"):=by decide +kernel
def Z3:UF "list"=some (.type "list"):=by decide +kernel
def LB:UF "tuple"=some (.type "tuple"):=by decide +kernel
def Tz:UF "dict"=some (.type "dict"):=by decide +kernel
def HX:G2:=JT LW Sw
def Mc:Jj X (binaryOp .Mult) HX:=SH qH vY
theorem VM{K:Ab}{H:Hp}{io:List Addr}:∀(ns:List Int),Hi K H io (ns.map V.int) (ns.map D.int)
 |[]=>rfl
 |n::ns=>⟨_,_,rfl,rfl,VM ns⟩
def xK{ns:List Int}{g:GN}{E:XK}(c:MF H)(f:JL K H a (ns.map V.int))(e:g [.kl (ns.map D.int)] []=some (.bl true,st)):Mv K 1 g [.ref a] H (λv _=>v=.bl true) E:=by
 have d:Nb K H a (ns.map V.int):=by
  rcases f with(h|h)|h
  ·rcases c a with z|⟨o,xs,z⟩
   ·rw[z]at h;cases h
   rw[z]at h;cases h
  ·exact .inl h
  exact .inr h
 refine⟨_,[],[],_,_,rfl,Hi.cons (show Rep K H [] (.ref a) (.kl<|ns.map D.int) from⟨a,_,rfl,d,VM ns⟩) Hi.nil,⟨rfl,GD,λn b o h=>by simp at h⟩,e,λv j l m p i=>i⟩
end L2.MP
namespace L2.MP
structure Y3(a b c:Prop):Prop where
 h1:a
 h2:b
 h3:c
structure Y4(a b c d:Prop):Prop where
 h1:a
 h2:b
 h3:c
 h4:d
structure Y5(a b c d e:Prop):Prop where
 h1:a
 h2:b
 h3:c
 h4:d
 h5:e
structure Y6(a b c d e f:Prop):Prop where
 h1:a
 h2:b
 h3:c
 h4:d
 h5:e
 h6:f
structure Y7(a b c d e f g:Prop):Prop where
 h1:a
 h2:b
 h3:c
 h4:d
 h5:e
 h6:f
 h7:g
structure Y8(a b c d e f g h:Prop):Prop where
 h1:a
 h2:b
 h3:c
 h4:d
 h5:e
 h6:f
 h7:g
 h8:h
open PySem
structure Gr(st st':Hf):Prop where
 len:st.length<=st'.length
 old:∀k,k<st.length->st'[k]?=st[k]?
structure Fr(n:Nat)(st st':Hf):Prop where
 len:st.length<=st'.length
 old:∀k,k<st.length->k≠n->st'[k]?=st[k]?
def Gr.refl(st:Hf):Gr st st:=⟨Ah _,λ_ _=>rfl⟩
def Fr.refl(n:Nat)(st:Hf):Fr n st st:=⟨Ah _,λ_ _ _=>rfl⟩
def Gr.fr{st a:Hf}(h:Gr st a)(n:Nat):Fr n st a:=⟨h.len,λk hk _=>h.old k hk⟩
variable {a b c:Hf}
def Gr.trans{a b c:Hf}(h:Gr a b)(h':Gr b c):Gr a c:=⟨AA h.len h'.len,λk hk=>(h'.old k<|AC hk h.len).trans (h.old k hk)⟩
variable {n:Nat}
def Fr.trans{n:Nat}{a b c:Hf}(h:Fr n a b)(h':Fr n b c):Fr n a c:=⟨AA h.len h'.len,λk hk d=>(h'.old k (AC hk h.len) d).trans (h.old k hk d)⟩
def Gr.app(st:Hf)(l:List O):Gr st (st++l):=⟨by simp,λk hk=>Aj hk⟩
def Fr.app(n:Nat)(st:Hf)(l:List O):Fr n st (st++l):=(Gr.app st l).fr n
def Gy(n:Nat)(st:Hf)(o:O):Fr n st (st.set n o):=⟨by simp,λk _ hk=>by rw[Ag (λh=>hk h.symm)]⟩
variable {α:Type}
def qax{l:List α}{x:α}(h:l[n]?=some x):n<l.length:=(KF.mp h).1
def Iq(st:Hf)(o:O):(st++[o])[st.length]?=some o:=getElem?_len st o
variable {W:Wk}{g:MG}
theorem Ku{W:Wk}{g:MG}{m:MS}:∀{ds:List D}{Inv:Nat->Ii->Hf->Prop}{U:Ii}{st:Hf},Inv 0 U st->(∀k U s,k<=ds.length->Inv k U s->walked W s=true) ->
  (∀k d U s,ds[k]?=some d->Inv k U s->∃U1 s1 j s2,g d U s=some (U1,s1)/\m U1 s1=some (.nx j,s2)/\Inv (k+1) j s2)->∃f s',KU W g m ds U st=some (.nx f,s')/\Inv ds.length f s'
 |[],Inv,U,st,h0,i,step=>⟨U,st,by unfold KU;rw[if_pos (i 0 U st (Ah _) h0)],h0⟩
 |d::ds,Inv,U,st,h0,i,step=>by obtain⟨U1,s1,j,s2,l,o,p⟩:=step 0 d U st rfl h0;obtain⟨f,s',e,h⟩:=Ku (W:=W) (g:=g) (m:=m) (ds:=ds) (Inv:=λk=>Inv (k+1)) p (λk U s hk h=>i (k+1) U s (CG hk) h) λk d U s hd h=>step (k+1) d U s (by simpa using hd) h;refine⟨f,s',?_,h⟩;unfold KU;rw[if_pos (i 0 U st (A0 _) h0),l];simp only[Ae,o];exact e
variable {m:ME}
theorem OD{W:Wk}{g:MG}{c:MT}{m:ME}:∀{ds:List D}{Inv:Nat->List D->Ii->Hf->Prop}{acc:List D}{U:Ii}{st:Hf},Inv 0 acc U st->(∀k a U s,k<=ds.length->Inv k a U s->walked W s=true) ->
  (∀k d a U s,ds[k]?=some d->Inv k a U s->∃U1 s1 b s2,g d U s=some (U1,s1)/\c U1 s1=some (b,s2)/\((b=true/\∃x s3,m U1 s2=some (x,s3)/\Inv (k+1) (a++[x]) U1 s3)\/(b=false/\Inv (k+1) a U1 s2))) ->
  ∃xs f s',Jt W g c m ds U st=some (xs,s')/\Inv ds.length (acc++xs) f s'
 |[],Inv,acc,U,st,h0,i,step=>⟨[],U,st,by unfold Jt;rw[if_pos (i 0 acc U st (Ah _) h0)],by rw[Ao];exact h0⟩
 |d::ds,Inv,acc,U,st,h0,i,step=>by
  obtain⟨U1,s1,b,s2,o,p,j⟩:=step 0 d acc U st rfl h0;have n:∀k a U s,k<=ds.length->Inv (k+1) a U s->walked W s=true:=λk a U s hk h=>i (k+1) a U s (CG hk) h;have l:∀k d a U s,ds[k]?=some d->Inv (k+1) a U s->∃U1 s1 b s2,g d U s=some (U1,s1)/\c U1 s1=some (b,s2)/\((b=true/\∃x s3,m U1 s2=some (x,s3)/\Inv (k+1+1) (a++[x]) U1 s3)\/(b=false/\Inv (k+1+1) a U1 s2)):=λk d a U s hd h=>step (k+1) d a U s (by simpa using hd) h
  rcases j with⟨rfl,x,s3,q,j⟩|⟨rfl,j⟩
  ·obtain⟨xs,f,s',e,h⟩:=OD (W:=W) (g:=g) (c:=c) (m:=m) (ds:=ds) (Inv:=λk=>Inv (k+1)) j n l;refine⟨x::xs,f,s',?_,by simpa using h⟩;unfold Jt;rw[if_pos (i 0 acc U st (A0 _) h0),o];simp only[Ae,p,if_true,q,e,AZ]
  obtain⟨xs,f,s',e,h⟩:=OD (W:=W) (g:=g) (c:=c) (m:=m) (ds:=ds) (Inv:=λk=>Inv (k+1)) j n l;refine⟨xs,f,s',?_,h⟩;unfold Jt;rw[if_pos (i 0 acc U st (A0 _) h0),o];simp only[Ae,p,AQ,if_false,e]
theorem PF{W:Wk}{g:MG}{c:MT}{m:ME}{α:Type}{f h:α->D}{R:Ii->Prop}:∀{as:List α}{U:Ii}{st:Hf},R U->walked W st=true->(∀a∈as,∀U,R U->∃U1,g (f a) U st=some (U1,st)/\c U1 st=some (true,st)/\m U1 st=some (h a,st)/\R U1) ->
  Jt W g c m (as.map f) U st=some (as.map h,st)
 |[],U,st,r,d,_=>by unfold Jt;rw[Cd];simp only[d,if_true,Cd]
 |a::as,U,st,r,d,i=>by obtain⟨U1,j,l,o,r1⟩:=i a Ar U r;have e:=PF (W:=W) (g:=g) (c:=c) (m:=m) (f:=f) (h:=h) (R:=R) (as:=as) r1 d λb n=>i b<|Al _ n;rw[As];unfold Jt;rw[if_pos d,j];simp only[Ae,l,if_true,o,e,AZ,As]
def Oq{ds xs:List D}{s:Hf}(h:s[n]?=some (.lst xs)):walked ⟨ds,[(n,xs)]⟩ s=true:=by unfold walked;simp only[GL,List.all_nil,GM];exact zkV h
def JP(h:n<=10000):fits n=true:=by unfold fits;exact decide_eq_true<|AA h<|by decide
@[simp] theorem Kg(x:α)(y:Option α):LF (some x) y=some x:=rfl
@[simp] theorem Kh(y:Option α):LF none y=y:=rfl
end L2.MP
namespace L2.MP.Hn
open PySem L2.MP
end L2.MP.Hn
namespace L2.MP
open PySem
variable {n:Nat}{ds:List D}{mi:MI}{k:Int}{s:Hf}{x:D}
section
variable {U U1:Ii}{st s1:Hf}{m n ma mb:ME}{mm:MA}{ms mq:MS}{mt mu:MT}{g:G2}{gn:GN}{d:D}{i j:Nat}{mg:MG}{mgs:NU}{ml mh:MO}
@[simp] theorem Ve:mV i U st=match U[i]? with
 |some (some d)=>some (d,st)
 |_=>none:=rfl
@[simp] theorem Vc:mK d U st=some (d,st):=rfl
@[simp] theorem PD:mB g ma mb U st=(ma U st).bind λp=>(mb U p.2).bind λq=>g p.1 q.1 q.2:=rfl
@[simp] theorem lB:mT m U st=(m U st).bind λp=>match p.1 with
 |.bl b=>some (b,p.2)
 |_=>none:=rfl
@[simp] theorem Z1:N1 mt U st=(mt U st).map λp=>(!p.1,p.2):=rfl
@[simp] theorem zu3:Kr mt mu U st=(mt U st).bind λp=>if p.1=true then mu U p.2 else some (false,p.2):=rfl
@[simp] theorem zwe:NG mt mu U st=(mt U st).bind λp=>if p.1=true then some (true,p.2)else mu U p.2:=rfl
@[simp] theorem zu2:OH m n U st=(mT m U st).bind λp=>if p.1=true then n U p.2 else some (.bl false,p.2):=rfl
@[simp] theorem zu0:Sv m U st=(mT m U st).map λp=>(.bl !p.1,p.2):=rfl
@[simp] theorem pF:Ho gn mm U st=(mm U st).bind λp=>gn p.1 p.2:=rfl
@[simp] theorem pG:Hc m mm U st=(m U st).bind λp=>(mm U p.2).bind λq=>some (p.1::q.1,q.2):=rfl
@[simp] theorem lA:mZ U st=some ([],st):=rfl
@[simp] theorem zwa:mU mm U st=(mm U st).bind λp=>if fits p.1.length=true then some (.tup p.1,p.2)else none:=rfl
@[simp] theorem zwg:mL mm U st=(mm U st).bind λp=>if fits p.1.length=true then some (.ref p.2.length,p.2++[.lst p.1])else none:=rfl
@[simp] theorem zwc:mR m U st=(m U st).map λp=>(.rt p.1,p.2):=rfl
@[simp] theorem Nl:IG m U st=(m U st).map λp=>(.nx U,p.2):=rfl
@[simp] theorem N8:Hq m mg U st=(m U st).bind λp=>(mg p.1 U p.2).map λq=>(.nx q.1,q.2):=rfl
@[simp] theorem zwE:Hl i d U st=some (U.set i (some d),st):=rfl
@[simp] theorem pH:Jn U st=some (.nx U,st):=rfl
@[simp] theorem zwf:NH m U st=(m U st).bind λp=>RQ p.1 p.2:=rfl
@[simp] theorem LJ:Ji mt ms mq U st=(mt U st).bind λp=>if p.1=true then ms U p.2 else mq U p.2:=rfl
@[simp] theorem MV:Jg ma mb m U st=LF (Hq m (LH Il ma mb) U st) (LK ma mb m U st):=rfl
@[simp] theorem zwB{g3:G3}:LH g3 ma mb d U st=(ma U st).bind λp=>(mb U p.2).bind λq=>(g3 p.1 q.1 d q.2).map λs=>(U,s):=rfl
@[simp] theorem zwA:Kn i mgs d U st=match d with
 |.tup ds=>if ds.length=i then mgs ds U st else none
 |_=>none:=rfl
@[simp] theorem zwi:Ko [] U st=some (U,st):=rfl
@[simp] theorem zwF:gC mg mgs (d::ds) U st=(mg d U st).bind λp=>mgs ds p.1 p.2:=rfl
@[simp] theorem YE:Jc m U st=(m U st).bind λp=>match p.1 with
 |.int j=>if small j=true then some (⟨run 0 j.toNat,[]⟩,p.2)else none
 |_=>none:=rfl
@[simp] theorem zuY:Je U st=some (true,st):=rfl
theorem JN{k:Nat}{fr:List Nat}:Jm mi k fr mg mt m U st=(mi U st).bind λp=>(Jt p.1 mg mt m p.1.ds (IU U k fr) p.2).bind λq=>if fits q.1.length=true then some (.ref q.2.length,q.2++[.lst q.1])else none:=rfl
@[simp] theorem Ki:mF mi mg ms U st=(mi U st).bind λp=>KU p.1 mg ms p.1.ds U p.2:=rfl
@[simp] theorem zwD:Kz U st=some (none,st):=rfl
@[simp] theorem zwC:KA m U st=(m U st).bind λp=>match p.1 with
 |.int i=>some (some i,p.2)
 |_=>none:=rfl
@[simp] theorem zwh{T:String}:LY T m U st=(m U st).bind λp=>(tyName p.2 p.1).map λt=>(.bl (J9 t T),p.2):=rfl
@[simp] theorem zwj:JH m mm U st=(m U st).bind λp=>match p.1 with
 |.ref n=>(HZ p.2 n).bind λ_=>(mm U p.2).bind λq=>K4 p.1 q.1 q.2
 |_=>none:=rfl
@[simp] theorem zwd:NF i j mm U st=(mm U st).bind λp=>match p.1 with
 |[x,y]=>some (.nx ((U.set i<|some x).set j<|some y),p.2)
 |_=>none:=rfl
@[simp] theorem lC:Mx ma mb U st=(ma U st).bind λp=>(mb U p.2).bind λq=>ON p.1 q.1 q.2:=rfl
@[simp] theorem zuE:OI true U st=some (.ref st.length,st++[.dt []]):=rfl
@[simp] theorem zuF:OI false U st=some (.ref st.length,st++[.dk []]):=rfl
def Hw{r:Option (Fl×Hf)}(h:ms U st=some (.nx U1,s1))(k:mq U1 s1=r):mS ms mq U st=r:=by unfold mS;rw[h];exact k
def OQ(h:ms U st=some (.rt d,s)):mS ms mq U st=some (.rt d,s):=by unfold mS;rw[h];rfl
def IJ{N:Nat}(h:ms (Mf N ds) st=some (.rt d,s)):Iw N ms ds st=some (d,s):=by unfold Iw;rw[h];rfl
def Nt{k:Nat}(h:k<=10000:=by decide):fits k=true:=JP h
@[simp] theorem zws:fits 0=true:=Nt
@[simp] theorem zwr:fits 1=true:=Nt
@[simp] theorem zwq:fits 2=true:=Nt
@[simp] theorem zwp:fits 3=true:=Nt
@[simp] theorem zwo:fits 4=true:=Nt
@[simp] theorem zwn:fits 5=true:=Nt
@[simp] theorem zwm:fits 6=true:=Nt
@[simp] theorem zwl:fits 7=true:=Nt
@[simp] theorem zwk:fits 8=true:=Nt
def Om(h0:0<=k)(a:k<=1000000):small k=true:=by unfold small;simp;omega
def KY{n:Nat}(h:st[n]?=some (.lst ds))(h0:0<=k)(a:ds[k.toNat]?=some x):Hg (.ref n) (.int k) st=some (x,st):=by
 have g:=qax a;have d:k<ds.length:=by omega
 simp[Hg,JT,Ka,HZ,h,Lf,Mg,h0,d,Kg];exact(KF.mp a).2
def Io(h0:0<=k)(a:ds[k.toNat]?=some x):Hg (.tup ds) (.int k) st=some (x,st):=by
 have g:=qax a;have d:k<ds.length:=by omega
 simp[Hg,JT,Ka,Lf,Mg,h0,d,Kg];exact(KF.mp a).2
def jF(h0:0<=k)(a:ds[k.toNat]?=some x):Hg (.kl ds) (.int k) st=some (x,st):=by
 have g:=qax a;have d:k<ds.length:=by omega
 simp[Hg,JT,Ka,Lf,Mg,h0,d,Kg];exact(KF.mp a).2
def QQ{z:Str}{c:Nat}(hz:z.length<=10000)(h0:0<=k)(a:z.cps[k.toNat]?=some c):Hg (.str z) (.int k) st=some (.str ⟨#[c]⟩,st):=by
 have g:k.toNat<z.cps.size:=(Array.getElem?_eq_some_iff.mp a).1;have d:k<z.cps.size:=by omega
 have hf:fits z.length=true:=JP hz;simp[Hg,JT,Ka,Lf,Mg,h0,d,Kg,hf];exact(Array.getElem?_eq_some_iff.mp a).2
def Tr{n:Nat}(h:st[n]?=some (.lst ds)):HP [.ref n] st=some (.int ds.length,st):=by simp[HP,HZ,h]
theorem QZ:HP [.tup ds] st=some (.int ds.length,st):=rfl
theorem Vb:HP [.kl ds] st=some (.int ds.length,st):=rfl
def LA{n:Nat}(h:st[n]?=some (.lst ds)):K3 [.ref n] st=some (.tup ds,st):=by simp[K3,HZ,h]
@[simp] theorem add_int(a b:Int):HE (.int a) (.int b) st=some (.int (a+b),st):=rfl
@[simp] theorem sub_int(a b:Int):K5 (.int a) (.int b) st=some (.int (a-b),st):=rfl
def mul_int{a b:Int}(h:-1000000<=a/\a<=1000000):HX (.int a) (.int b) st=some (.int (a*b),st):=by
 have:J1 a=true:=by unfold J1;simp;omega
 simp[HX,JT,LW,intD,this,Kg]
def Tx{a b:List D}(c:a≠[])(h:a.length+b.length<=10000):HE (.tup a) (.tup b) st=some (.tup (a++b),st):=by
 have:fits (a.length+b.length)=true:=JP h;cases a with
 |nil=>exact absurd rfl c
 |cons x a=>simp[HE,this]at *
def pC{a b:Nat}{x y:List D}(c:st[a]?=some (.lst x))(e:st[b]?=some (.lst y))(h:x.length+y.length<=10000):HE (.ref a) (.ref b) st=some (.ref st.length,st++[.lst (x++y)]):=by have:fits (x.length+y.length)=true:=JP h;simp[HE,c,e,this]
def append_at{n:Nat}(h:st[n]?=some (.lst ds))(a:ds.length<=10000):K4 (.ref n) [x] st=some (.non,st.set n (.lst<|ds++[x])):=by have:ds.length<sizeLine:=BM a (by decide);simp[K4,h,this]
end
end L2.MP
set_option linter.unusedSimpArgs false
namespace L2.MP.Hn
open PySem L2.MP
end L2.MP.Hn
namespace L2.MP
open PySem PySem.Builtin PySem.Builtin.Str
theorem len_list(a:Str):a.length=a.cps.toList.length:=rfl
end L2.MP
namespace L2.MP
open PySem
def Tn{n:Nat}{st:Hf}{x:Str}(h:Bg x=true):ID (n+1) st (.str x)=some (.str x):=by rw[ID];simp[h]
def eq_int(a b:Int)(st:Hf):Kv (.int a) (.int b) st=some (.bl (a==b),st):=by unfold Kv;rw[ID,ID];simp[B0]
end L2.MP
namespace L2.MP.Hn
open PySem L2.MP
noncomputable abbrev JE:Str:="abcdefghijklmnopqrstuvwxyz"
def Ub:∀k:Nat,k<26->JE.cps[k]?=some (97+k):=by decide +kernel
end L2.MP.Hn
namespace L2.MP
open PySem
def J6(p:Str×Int):D:=.tup [.str p.1,.int p.2]
def IH(k:List Str):D:=.tup<|k.map D.str
end L2.MP
namespace L2.MP.Hn
open PySem L2.MP
def zfZ{st:Hf}{l:Nat}{ss:List Str}(a:st[l]?=some (.lst<|ss.map D.str))(h:ss.length<64):Md [.ref l] st=some (.ref st.length,st++[.lst ((Ol ss).map D.str)]):=by simp[Md,K6,OX,HZ,a,dZ,h,Kg]
end L2.MP.Hn
namespace L2.MP
open PySem
theorem dW:∀t:List Int,intsOf (t.map D.int)=some t
 |[]=>rfl
 |x::t=>by rw[As,intsOf,dW t];rfl
theorem Ri:∀{rows:List (List Int)},(∀r∈rows,r≠[])->rowsOf (rows.map HF)=some rows
 |[],_=>rfl
 |r::rows,h=>by
  have c:rowOf (HF r)=some r:=by
   unfold rowOf HF;simp only[dW,Ae];have:r.isEmpty=false:=by
    cases r with
    |nil=>exact absurd rfl<|h [] Ar
    |cons a b=>rfl
   simp[this]
  rw[As,rowsOf,c,Ae,Ri λq d=>h q (Al _ d)];rfl
variable {st:Hf}
def zjT{l:Nat}{rows:List (List Int)}(b:st[l]?=some (.lst<|rows.map HF))(h:∀r∈rows,r≠[])(a:rows.length<64):Md [.ref l] st=some (.ref st.length,st++[.lst ((KW rows).map HF)]):=by
 match rows,b,h,a with
 |[],b,h,a=>simp[Md,K6,OX,HZ,b,strsOf,Ol,KW,Kg]
 |[r],b,h,a=>
  have e:strsOf [HF r]=none:=rfl;simp[Md,K6,OX,Rb,HZ,b,e,KW,Kg,Kh]
 |r::q::rows,b,h,a=>
  have e:strsOf (HF r::HF q::rows.map HF)=none:=rfl;have c:=Ri h;simp only[As]at c;simp at a;have d:rows.length+1+1<64:=by omega
  simp[Md,K6,OX,Rb,TX,HZ,b,e,c,Kg,Kh,d]
def Ue(rows:List (List Int)):(KW rows).Perm rows:=CI _ _
def cD(rows:List (List Int)):(KW rows).Pairwise λa b=>JR a b=true:=C1 (λa b c=>T5 a b c) cH rows
def xH{a b:List (List Int)}(h:a.Perm b)(c:b.Pairwise λx y=>JR x y=true):KW a=b:=Ug ((Ue a).trans h) (cD a) c λx _ y _=>bO
noncomputable abbrev Tl:=Int×Int×Int
def Hj(t:Tl):List Key×D:=([CH t.1,CH t.2.1],.int t.2.2)
def HV(t:Tl):List Int:=[t.1,t.2.1,t.2.2]
def JD(a b:Tl):Bool:=decide (a.1=b.1)&&decide (a.2.1=b.2.1)
def IM(l:List Tl)(t:Tl):List Tl:=if l.any (λu=>JD u t)=true then l.map (λu=>if JD u t=true then t else u)else l++[t]
def QR(u t:Tl):decide ((Hj u).1=(Hj t).1)=JD u t:=by unfold Hj JD;by_cases h1:u.1=t.1<;>by_cases h2:u.2.1=t.2.1<;>simp[h1,h2]
def ZO(l:List Tl)(t:Tl):putD (l.map Hj) (Hj t).1 (Hj t).2=(IM l t).map Hj:=by
 unfold putD IM;have e:((l.map Hj).any λb=>decide (b.1=(Hj t).1))=l.any λu=>JD u t:=by
  rw[List.any_map]
  congr 1
  funext u
  exact QR u t
 rw[e];split
 ·rw[AI,AI];apply CK;intro u _;show(if(Hj u).1=(Hj t).1 then _ else _)=Hj (if JD u t=true then t else u)
  by_cases h:JD u t=true
  ·have a:(Hj u).1=(Hj t).1:=of_decide_eq_true<|(QR u t).trans h;rw[if_pos a,if_pos h,a]
  have a:¬(Hj u).1=(Hj t).1:=λz=>h<|(QR u t).symm.trans<|decide_eq_true z;rw[if_neg a,if_neg h]
 rw[AU];rfl
def Hy(l:List Tl):Prop:=l.Pairwise λa b=>JD a b=false
def eI(a b:Tl):JD a b=JD b a:=by unfold JD;by_cases h1:a.1=b.1<;>by_cases h2:a.2.1=b.2.1<;>simp[h1,h2,eq_comm]
variable {l:List Tl}{t:Tl}
def ZP(h:Hy l):Hy (IM l t):=by
 unfold IM;split
 ·unfold Hy at *;rw[List.pairwise_map];refine h.imp λ{a b} f=>?_;have i:∀{a b c:Tl},JD a b=true->JD a c=JD b c:=λ{a b c} q=>by
   unfold JD at *;simp at q;rw[q.1,q.2]
  by_cases g:JD a t=true
  ·by_cases d:JD b t=true
   ·have j:JD a b=JD t b:=i g;rw[eI]at d;rw[j,d]at f;cases f
   rw[if_pos g,if_neg d,eI];simpa using d
  ·by_cases d:JD b t=true
   ·rw[if_neg g,if_pos d];simpa using g
   rw[if_neg g,if_neg d];exact f
 ·rename_i m;unfold Hy at *;rw[List.pairwise_append];refine⟨h,List.pairwise_singleton _ _,λa g b d=>?_⟩;rw[KM.mp d]
  cases e:JD a t with
  |false=>rfl
  |true=>exact absurd (List.any_eq_true.mpr ⟨a,g,e⟩) m
def aR{P:Tl->Prop}{l:List Tl}{t:Tl}(h:∀u∈l,P u)(a:P t):∀u∈IM l t,P u:=by
 unfold IM;split
 ·intro u hu;obtain⟨v,b,rfl⟩:=SL.mp hu
  split
  ·exact a
  exact h v b
 ·intro u hu
  rcases Os.mp hu with hu|hu
  ·exact h u hu
  rw[KM.mp hu];exact a
def V3(l:List Tl)(t:Tl):(IM l t).length<=l.length+1:=by
 unfold IM;split
 ·rw[Af];omega
 simp
def Nn{t:Nat}{x y k:Int}(h:st[t]?=some (.dt<|l.map Hj))(a:l.length<=1000):dput st t (.tup [.int x,.int y]) (.int k)=some (st.set t<|.dt<|(IM l (x,y,k)).map Hj):=by have b:(l.map Hj).length<sizeLine:=BM (by rw[Af];exact a) (by decide);have e:=ZO l (x,y,k);have c:keysOf [.int x,.int y]=some (Hj (x,y,k)).1:=rfl;have d:D.int k=(Hj (x,y,k)).2:=rfl;unfold dput;simp only[h,c,Ae];rw[d,e,if_pos (decide_eq_true b)]
end L2.MP
namespace L2.MP.Hn
open PySem L2.MP
def HL(ts:List Tl):D:=.tup<|ts.map λt=>HF (HV t)
def Sl(r:List Int):Tl:=(r.getD 0 0,r.getD 1 0,r.getD 2 0)
def Hs(l:List Tl):List Tl:=(KW<|l.map HV).map Sl
def JX(l:List Tl):(Hs l).Perm l:=by
 have:=(Ue<|l.map HV).map Sl;rw[AI]at this;have e:Sl ∘ HV=id:=by funext t;rfl
 rw[e,F7]at this;exact this
def O2(l:List Tl):(Hs l).map HV=KW (l.map HV):=by
 unfold Hs;rw[AI]
 conv=>rhs;rw[<-F7 (KW<|l.map HV)]
 apply CK;intro r a;obtain⟨t,_,rfl⟩:=SL.mp<|(Ue _).mem_iff.mp a;rfl
def rQ{a b:List Tl}(h:a.Perm b)(c:(b.map HV).Pairwise λx y=>JR x y=true):Hs a=b:=by
 unfold Hs;rw[xH (h.map HV) c,AI];have e:Sl ∘ HV=id:=by funext t;rfl
 rw[e,F7]
def Mu{st:Hf}{l:Nat}{ts:List Tl}(c:st[l]?=some (.lst<|ts.map λt=>HF (HV t)))(a:ts.length<64):Md [.ref l] st=some (.ref st.length,st++[.lst ((Hs ts).map λt=>HF (HV t))]):=by
 have b:st[l]?=some (.lst<|(ts.map HV).map HF):=by rw[AI];exact c
 have e:=zjT b (λr d=>by obtain⟨t,_,rfl⟩:=SL.mp d;simp[HV]) (by rw[Af];exact a);rw[<-O2,AI]at e;exact e
end L2.MP.Hn
namespace L2.MP
open PySem PySem.Spec PyProof.Rows
section
variable {X:Cx}{K:Ab}{H:Hp}{io:List Addr}{st st':Hf}{a b c e:Pv}{es:List Pv}{ma mb mc m:ME}{mm:MA}{pos:Pos}
def Oi:D->List D->Hf->Option (D×Hf):=λx xs st=>match x,xs with
 |.ref n,[.ref k]=>match st[n]?,st[k]? with
  |some (.lst ds),some (.lst zs)=>if fits (ds.length+zs.length)=true then some (.non,st.set n (.lst<|ds++zs))else none
  |_,_=>none
 |_,_=>none
def extend_in{x:D}{xs:List D}{d:D}(h:Oi x xs st=some (d,st')):∃n k ds zs,x=.ref n/\xs=[.ref k]/\st[n]?=some (.lst ds)/\st[k]?=some (.lst zs)/\ds.length+zs.length<=sizeLine/\d=.non/\st'=st.set n (.lst<|ds++zs):=by
 unfold Oi at h;split at h
 ·rename_i n k
  split at h
  ·rename_i ds zs a b;obtain⟨hf,h⟩:=Iz h;cases h;exact⟨n,k,ds,zs,rfl,rfl,a,b,of_decide_eq_true hf,rfl,rfl⟩
  ·cases h
 ·cases h
def zky:Se X "list.extend" (Yb X.K Oi):=by
 rintro g s σ H x xs v us Q I h rs ⟨L,ds,st,io,d,st',i,Rs,S,e,k⟩;obtain⟨n,j,l,zs,rfl,rfl,a,y,A,rfl,rfl⟩:=extend_in e;obtain⟨p,rfl,b⟩:=i;obtain⟨w,rfl,B⟩:=Rs.one;obtain⟨q,rfl,C⟩:=B;obtain⟨c,m,r⟩:=S.ob n p _ b a;obtain⟨ws,E,f⟩:=S.ob j q _ C y;refine xS g s σ H _ _ v us Q I h rs ⟨p,q,c,ws,rfl,rfl,m,E,by rw[r.length,f.length];exact A,?_⟩;obtain⟨F,G⟩:=MY (o:=.lst (c++ws)) (ob:=.lst (l++zs)) S b a (λo u z=>by rw[m]at z;cases z) λM T J=>⟨_,J,(Hi.mono T r).append<|Hi.mono T f⟩
 exact k _ _ [] F G rfl
def Pg(m:ME)(mm:MA):ME:=λU st=>(m U st).bind λ(x,s1)=>match x with
 |.ref n=>(HZ s1 n).bind λ_=>(mm U s1).bind λ(xs,s2)=>Oi x xs s2
 |_=>none
def zl3{o:Pv}{apos f:Pos}(q:SE X o m)(r:SA X (e::es) mm)(h:attributeBase o "extend" X.env (Wp o X.env)=Wp o X.env:=by rfl)(j:((backTo f<|starEach (e::es) X.env).all (λx=>!x.1)&&(backToKw f<|keywordEach [] X.env).all (λx=>x.1.isSome)
   &&decide ((e::es).length+([]:List Keyword).length+(if([]:List Keyword).isEmpty then 0 else 1)<30))=true:=by rfl)
  (i:(apos.endLine==f.line)=true:=by rfl) (s:Qqb X.env e es:=by rfl) (g:Qqc f es X.env:=by rfl):
  SE X (.Call (.Attribute o "extend" apos) (e::es) [] f) (Pg m mm):=
 PE.imp (YM C0 PySem.F.slot_list_extend PySem.F.type_list_extend zky q r h j i s g) <| by
  rintro σ H Q ⟨U,st,io,d,st',E,S,e,k⟩;obtain⟨⟨x,s1⟩,u,e⟩:=Ht e;cases x with
  |ref n=>
   obtain⟨l,v,e⟩:=Ht e;obtain⟨⟨xs,s2⟩,w,e⟩:=Ht e;refine⟨U,st,io,_,s1,E,S,u,λv1 H1 b c a R1=>⟨Wb R1 a v,U,s1,io++b,xs,s2,E.ext S c,a,w,λz A y K p R2=>?_⟩⟩;exact⟨_,xs,s2,(io++b)++y,d,st',R1.ext a K,R2,p,e,(k.on a c).on p K⟩
  |_=>cases e
theorem kZ{U:Ii}:Pg m mm U st=(m U st).bind λp=>match p.1 with
 |.ref n=>(HZ p.2 n).bind λ_=>(mm U p.2).bind λq=>Oi p.1 q.1 q.2
 |_=>none:=rfl
end
end L2.MP
namespace L2.MP
open PySem
theorem TZ{W:Wk}{g:MG}{c:MT}{m:ME}{α:Type}{f h:α->D}{p:α->Bool}{R:Ii->Prop}:∀{as:List α}{U:Ii}{st:Hf},R U->walked W st=true->(∀a∈as,∀U,R U->∃U1,g (f a) U st=some (U1,st)/\c U1 st=some (p a,st)/\(p a=true->m U1 st=some (h a,st))/\R U1) ->
  Jt W g c m (as.map f) U st=some ((as.filter p).map h,st)
 |[],U,st,r,i,_=>by unfold Jt;rw[Cd];simp only[i,if_true,Gz,Cd]
 |a::as,U,st,r,i,l=>by
  obtain⟨U1,n,j,o,r1⟩:=l a Ar U r;have e:=TZ (W:=W) (g:=g) (c:=c) (m:=m) (f:=f) (h:=h) (p:=p) (R:=R) (as:=as) r1 i λb q=>l b<|Al _ q;rw[As];unfold Jt;rw[if_pos i,n]
  cases d:p a with
  |true=>
   rw[d]at j;simp only[Ae,j,if_true,o d,e,AZ,Cg,d,As]
  |false=>
   rw[d]at j;simp only[Ae,j,AQ,if_false,e,Cg,d]
end L2.MP
namespace L2.MP.Hn
open PySem L2.MP
def Qi{a b:List Tl}(h:a.Perm b):Hs a=Hs b:=by refine rQ (h.trans (JX b).symm) ?_;rw[O2];exact cD _
def eD{st:Hf}{n k:Nat}{ds zs:List D}(h:st[n]?=some (.lst ds))(h':st[k]?=some (.lst zs))(a:ds.length+zs.length<=10000):Oi (.ref n) [.ref k] st=some (.non,st.set n (.lst<|ds++zs)):=by have:fits (ds.length+zs.length)=true:=JP a;simp[Oi,h,h',this]
end L2.MP.Hn
namespace L2.MP
open PySem PySem.Spec PyProof.Rows
def zY(x:Sr)(o:Obj)(xs:Array IR):Meets (Builtin.«enumerate.__new__» ⟨[.type "enumerate",.ref x.ad],[]⟩) (λ_ R s=>s.heap.get? x.ad=some o/\x.is s.heap xs /\
   R (.ok<|.ret<|.ref (s.heap.push x.ob).objs.size) {s with heap:=(s.heap.push x.ob).push {cls:=.type "enumerate",data:=.fields #[.none,.bool false,.ref s.heap.objs.size,rawInt 0,.none,.none]} }):=
 .of_wp λprog w A R s h=>by
  obtain⟨f,g,d,tk,os⟩:=s;obtain⟨a,i,h⟩:=h;have e:=sub_enumerate;have b:x.is (Shared.heap ⟨f,g,d,tk,os⟩) xs:=i
  wp_walk using Ci a
  refine wpAny_stack_any λj=>Ac ?_;split
  ·rename_i c _ _ _ _ _
   cases (c==Gh "enumerate")
   ·wp_walk using Ci a,Sr.iter b
    exact⟨_,rfl,h⟩
   ·wp_walk using Ci a,Sr.iter b
    exact⟨_,rfl,h⟩
  ·wp_walk using Ci a,Sr.iter b
   exact⟨_,rfl,h⟩
variable {prog:SZ}{w:World}{A:Around}{E:Qqa}{s:Shared}{h:P3}{xs:Array IR}{x:Sr}
def Sr.is_get(q:x.is h xs):∃o,h.get? x.ad=some o:=by
 cases x with
 |l a=>obtain⟨o,g,_⟩:=q;exact⟨o,g⟩
 |t a=>obtain⟨o,g,_⟩:=q;exact⟨o,g⟩
def zT{R:Qqa}(a:x.is s.heap xs)(k:∀h',IsEnum h' (s.heap.objs.size+1) s.heap.objs.size 0 .none->x.at_ h' s.heap.objs.size 0->(∀c u,s.heap.get? c=some u->h'.get? c=some u)->R (.ref<|s.heap.objs.size+1) {s with heap:=h'}):
  wpAny (KB prog w) A (call (.type "enumerate") [.ref x.ad]) R E s:=by
 obtain⟨o,g⟩:=Sr.is_get a;refine callType_new F.called_enumerate (by decide) (F.typeCall_enumerate_1 _) (F.newCall_enumerate_1 _) (λobj=>F.args_object_init_2 obj _) F.entry_enumerate_new (zY x o xs) ⟨g,a,?_⟩;have h:(s.heap.push x.ob).objs.size=s.heap.objs.size+1:=A8 ..;have f2:((s.heap.push x.ob).push {cls:=.type "enumerate",data:=.fields #[.none,.bool false,.ref s.heap.objs.size,rawInt 0,.none,.none]}).get? (s.heap.push x.ob).objs.size=some {cls:=.type "enumerate",data:=.fields #[.none,.bool false,.ref s.heap.objs.size,rawInt 0,.none,.none]}:=Ap _ rfl;have f1:((s.heap.push x.ob).push {cls:=.type "enumerate",data:=.fields #[.none,.bool false,.ref s.heap.objs.size,rawInt 0,.none,.none]}).get? s.heap.objs.size=some x.ob:=Ad _<|Ap _ (by cases x<;>rfl);show _/\_;rw[h]at f2 ⊢;exact⟨⟨_,f2,rfl⟩,k _ f2 (Sr.at_new f1) λc u q=>Ad _ (Ad _ q)⟩
def Sr.draws(f:A.handled=none)(it:Addr)(x:Sr)(c:x.ad≠it)(items:Array IR):Draws prog w A it [it,x.ad] items.size (λi v=>items[i]?=some v) (λi h=>x.at_ h it i/\x.is h items) where
 live:=λ_ _ q=>let ⟨o,_,g,_⟩:=Sr.at_get q.1;⟨o,g⟩
 frame:=λ_ _ _ q k=>⟨Sr.at_keep q.1 λo e=>k it (by simp) o e,Sr.is_keep q.2 λo e=>k x.ad (by simp) o e⟩
 item:=λi s Q E d q k=>by refine Sr.next q.1 q.2 (v:=items[i]) (by simp[d]) λj a b=>?_;exact k _ j s.toks (by simp[d]) ⟨a,Sr.is_keep q.2 λo e=>b.extBut _ _ c e⟩ b
 done:=λs Q E q k=>Sr.stop f q.1 q.2 (by simp) k
def Sr.drawsEnd(a:A.handled=none)(it:Addr)(x:Sr)(items:Array IR)(n:Nat)(hn:items[n]?=none):Draws prog w A it [it,x.ad] n (λ_ _=>True) (λj h=>j=n/\x.at_ h it n/\x.is h items) where
 live:=λ_ _ q=>let ⟨o,_,g,_⟩:=Sr.at_get q.2.1;⟨o,g⟩
 frame:=λ_ _ _ q k=>⟨q.1,Sr.at_keep q.2.1 λo e=>k it (by simp) o e,Sr.is_keep q.2.2 λo e=>k x.ad (by simp) o e⟩
 item:=λi s Q E b q k=>absurd q.1 (Av b)
 done:=λs Q E q k=>Sr.stop a q.2.1 q.2.2 hn k
def Itn(x:Sr):It:=⟨λi H=>∃xs v,x.sq H xs/\xs[i]?=some v,λi H r h=>∃p v,H p=none/\h=upd H p (.tup [.int (i:Nat),v])/\r=.ref p/\∀xs,x.sq H xs->xs[i]?=some v,λi H=>∃xs,x.sq H xs/\xs.length<=i⟩
variable {P:SZ}{K:Ab}{elts:List Pv}{pos:Pos}
def zjL{x1}(x:Sr)(it e:Addr)(f:e≠it):
  Turn P w K (.Tuple elts x1 pos) (Itn x) [e,it] e (λi h=>(∃old,IsEnum h e it (i:Nat) old)/\x.at_ h it i) where
 mem:=by simp
 obj:=λi h st b hb=>by
  obtain⟨⟨old,he⟩,c⟩:=st;rcases On.mp hb with rfl|hb
  ·exact⟨_,he,λv z=>by cases z⟩
  rw[KM.mp hb];obtain⟨o,S,g,d⟩:=Sr.at_get c;exact⟨o,g,λv z=>by rw[d]at z;cases z⟩
 keep:=λi h T st k=>by obtain⟨⟨old,he⟩,c⟩:=st;exact⟨⟨old,k e (by simp) _ he⟩,Sr.at_keep c λo q=>k it (by simp) o q⟩
 item:= by
  intro X u hw B C i Z s σ H E I hf st F;subst u hw B;obtain⟨xs,v,l,U⟩:=F;obtain⟨⟨old,he⟩,c⟩:=st;obtain⟨a,G,J⟩:=Sr.sq_is I l;obtain⟨v',W,rv⟩:=G.get U;have fit:=(hf it<|by simp).1;have fe:=(hf e<|by simp).1;have L:i<a.toArray.size:=by have:=(KF.mp W).1;simpa using this
  refine wpAny_pyNext_enum_itemD (Sr.draws (A:=X.A.in1) (I.ok.hd C) it x (Sr.sq_ne l fit) a.toArray) he ⟨c,J⟩ L f (by
   simp only[A3,A4,or_false,not_or];exact⟨f,λz=>Sr.sq_ne l fe z.symm⟩) λy h1 tk M N Q t1 z1 k1=>?_
  have ey:y=v':=by
   have:a[i]?=some y:=by simpa using M
   rw[W]at this;exact(Az this).symm
  subst ey;refine⟨_,rfl,wpAny_letOwnedTupleGo_enum (s:={s with heap:=h1,toks:=tk+1}) N λr m j=>?_⟩;have k2:∀b o,b ∉ [e,it]->s.heap.get? b=some o->r.get? b=some o:=λb o hb q=>by have Y:b≠e:=λz=>hb (by simp[z]);have n2:b≠it:=λz=>hb (by simp[z]);exact(j.2 b Y).trans<|k1 b o Y n2 q
  have n:e≠s.heap.objs.size:=Av<|Ak he;have t2:r.get? s.heap.objs.size=some {cls:=.type "tuple",data:=.seq #[.int i tk,y]}:=(j.2 _ n.symm).trans t1;have p:x.at_ r it (i+1):=Sr.at_keep Q.1 λo q=>(j.2 it f.symm).trans q;refine⟨.ref s.heap.objs.size,upd H s.heap.objs.size<|.tup [.int (i:Nat),v],?_,rfl,⟨_,v,I.hok.fresh<|Ah _,rfl,rfl,λys M=>by rw[Sr.sq_inj M l];exact U⟩,⟨⟨_,by exact_mod_cast m⟩,p⟩,λb hb=>?_⟩
  ·exact Inv.turnNew (s:=s) (h':=r) (t':=tk+1) I hf k2 (Ah _) (λb hb ob q=>by
    rcases On.mp hb with rfl|hb
    ·exact⟨_,m⟩
    rw[KM.mp hb];obtain⟨o,S,g,d⟩:=Sr.at_get p;exact⟨o,g⟩) ⟨by show 2<=sizeLine;decide,[.int i tk,y],.cons ⟨_,rfl⟩<|.cons rv .nil,⟨_,t2,rfl,rfl,_,rfl⟩⟩
  ·rw[HW (λz=>?_)]
   ·exact(hf b hb).1
   ·rcases On.mp hb with q|hb
    ·exact n<|q.symm.trans z
    have q:=KM.mp hb;obtain⟨o,S,g,d⟩:=Sr.at_get c;exact(Av<|Ak g)<|q.symm.trans z
 done:=by intro X u hw B C i Z s σ H E I hf st F;subst u hw B;obtain⟨xs,l,hl⟩:=F;obtain⟨⟨old,he⟩,c⟩:=st;obtain⟨a,G,J⟩:=Sr.sq_is I l;have l1:=G.length;exact wpAny_pyNext_enum_endD (Sr.drawsEnd (A:=X.A.in1) (I.ok.hd C) it x a.toArray i (by simp;omega)) he ⟨rfl,c,J⟩ λT eb=>⟨rfl,Inv.turnAll (t':=s.toks) I hf λb o hb q=>eb b o (λz=>hb (by simp[z])) q⟩
 self:=λ_ _ _ _ _ st h=>by obtain⟨⟨old,he⟩,_⟩:=st;exact FV he h
variable {X:Cx}{H:Hp}{io:List Addr}{m:ME}{st st':Hf}{a:Pv}
def YF(x:D)(s:Hf):Option (Wk×Hf):=(Mw s x).map λ(a,f)=>(⟨pairs a,f⟩,s)
def Pu(m:ME):MI:=λU st=>(m U st).bind λ(x,s1)=>YF x s1
def ZS{x1}{Y:Pos}{p:Pos}(Z:Gl X "enumerate")(hm:X.mg "enumerate"=none)(ha:SE X a m)(c:starEach [a] X.env=[(false,Wp a X.env)]:=by rfl):
  SI X (.Tuple elts x1 Y) (.Call (.Name "enumerate" p) [a] [] pos) (Pu m):=by
 rintro qp s σ H R I ⟨U,st,io,W,st',E,S,e,k⟩;obtain⟨⟨x,s1⟩,e1,e⟩:=Ht e;obtain⟨⟨as,f⟩,e3,e⟩:=Ig e;cases e;refine Call_<|PH I Z hm boot_enumerate<|B1 (HC (Hh ha Hm c pos qp s σ H (λz u=>∃B,Ext io B H u/\HA X.K u (io++B) st'/\Hi X.K u (io++B) z [x]) I ⟨U,st,io,[x],st',E,S,TF e1 rfl,λz H1 C F y R1=>⟨C,F,y,R1⟩⟩) ?_) c rfl;rintro us t1 ⟨z,H1,I1,r1,C,F,y,R1⟩;obtain⟨v,rfl,Rx⟩:=R1.one;obtain⟨v',rfl,rv⟩:=r1.one;obtain⟨xx,rfl,⟨xs,hx⟩,G⟩:=VU y Rx e3;cases rv;obtain⟨its,vx,ix⟩:=Sr.sq_is I1 hx;refine zT ix λh' he A kk=>FV he ?_;refine⟨_,_,_,_,H1,rfl,I1.kept (t':=t1.toks) kk,zjL xx t1.heap.objs.size (t1.heap.objs.size+1)<|Nat.succ_ne_self _,⟨⟨_,he⟩,A⟩,λb hb=>?_,?_⟩
 ·have hle:t1.heap.objs.size<=b:=by
   rcases On.mp hb with q|hb
   ·rw[q];exact Cs _
   rw[KM.mp hb];exact Ah _
  exact I1.fpOk hle<|I1.hok.fresh hle
 ·refine k _ H1 C F y ?_;refine⟨λi d g j s3 hd l w c=>?_,λg j s3 l w c=>?_,λg j s3 i A l w c=>?_⟩
  ·obtain⟨h,P,n⟩:=G g j s3 l w c;obtain⟨dx,g1,rfl⟩:=bX hd;obtain⟨J,L,ru⟩:=n.get g1;refine⟨⟨h,J,P,L⟩,λr u yl=>?_⟩;obtain⟨q,u2,hq,rfl,rfl,yu⟩:=yl;have M:=yu h P;rw[L]at M;cases M;obtain⟨N,Q⟩:=Q6 (o:=.tup [.int (i:Nat),J]) w hq;rw[Ao]at Q;refine⟨N,Q,⟨q,_,rfl,Lc,?_⟩⟩;have T:=ru.ext w N;rw[Ao]at T;exact Hi.cons rfl<|Hi.cons T Hi.nil
  ·obtain⟨h,P,n⟩:=G g j s3 l w c;exact⟨h,P,by show h.length<=(pairs as).length;rw[pairs_len,n.length];exact Ah _⟩
  obtain⟨h,P,n⟩:=G g j s3 l w c;have A:(pairs as).length<=i:=A;rw[pairs_len]at A;exact⟨h,P,by rw[n.length];exact A⟩
@[simp] theorem zu1{U:Ii}:Pu m U st=(m U st).bind λp=>YF p.1 p.2:=rfl
variable {ma mb mc:ME}{b c:Pv}{g g':G2}{σ:L2.St}{op op':CmpOp}
def MW(g g':G2)(ma mb mc:ME):ME:=λU st=>(ma U st).bind λ(x,s1)=>(mb U s1).bind λ(y,s2)=>(g x y s2).bind λ(z,s3)=>match z with
 |.bl q=>if q=true then(mc U s3).bind λ(w,s4)=>g' y w s4 else some (.bl false,s3)
 |_=>none
def eT{Q:VK}(h:tE K (MW g g' ma mb mc) σ H Q):Vs (RK K g) (RK K g') (tE K ma) (tE K mb) (tE K mc) σ H Q:=by
 obtain⟨U,st,io,d,st',E,S,e,k⟩:=h;obtain⟨⟨x,s1⟩,n,e⟩:=Ht e;obtain⟨⟨y,s2⟩,o,e⟩:=Ht e;obtain⟨⟨z,s3⟩,p,e⟩:=Ht e;refine⟨U,st,io,x,s1,E,S,n,λv1 H1 a s b R1=>?_⟩;refine⟨U,s1,io++a,y,s2,E.ext S s,b,o,λv2 F A P c R2=>?_⟩;refine⟨x,y,s2,(io++a)++A,z,s3,R1.ext b P,R2,c,p,λG I f X m r=>?_⟩;have i:=((k.on b s).on c P).on m X;dsimp only at e;split at e
 ·rename_i q;refine⟨q,r,?_⟩
  cases q with
  |true=>
   rw[if_pos rfl]at e ⊢;obtain⟨⟨w,s4⟩,u,v⟩:=Ht e;refine⟨U,s3,((io++a)++A)++f,w,s4,((E.ext S s).ext b P).ext c X,m,u,λv4 J B j l C=>?_⟩;exact⟨y,w,s4,(((io++a)++A)++f)++B,d,st',(R2.ext c X).ext m j,C,l,v,i.on l j⟩
  |false=>
   rw[if_neg AV]at e ⊢;cases e;exact Bh.now i m rfl
 ·cases e
def vM(e:Jj X (Re op) g)(d:Jj X (Re op') g')(f:SE X a ma)(i:SE X b mb)(j:SE X c mc)(hm:lastMarks [op,op'] [b,c]=false:=by with_unfolding_all rfl):
  SE X (.Compare a [op,op'] [b,c] pos) (MW g g' ma mb mc):=PE.imp (wA e d f i j hm) λ_ _ _ h=>eT h
def vJ(e:Jj X (Re op) g)(d:Jj X (Re op') g')(f:SE X a ma)(i:SE X b mb)(j:SE X c mc)(hm:lastMarks [op,op'] [b,c]=false:=by with_unfolding_all rfl):
  SB X (.Compare a [op,op'] [b,c] pos) (mT<|MW g g' ma mb mc):=PT.imp (vC e d f i j hm) λ_ _ _ h=>eT (Rc h)
variable {e:Pv}{p2:Pos}
section
variable {mk:ME}{se:Pv}{te:TE}{ts:TO}
theorem cK{x:V}{u:IR}:∀{xs:List V}{us:List IR},Vals xs us->RelV x u->Vals (xs++[x]) (us++[u])
 |[],_,.nil,r=>.cons r .nil
 |y::xs,_,.cons z t,r=>.cons z<|cK t r
theorem bR:∀{xs:List V}{us:List IR},Vals xs us->Vals xs.reverse us.reverse
 |[],_,.nil=>.nil
 |x::xs,_,.cons r t=>by rw[C9,C9];exact cK (bR t) r
theorem cB:∀{xs:List V}{ds:List D}{x:V}{d:D},Hi K H io xs ds->Rep K H io x d->Hi K H io (xs++[x]) (ds++[d])
 |_,[],x,d,h,r=>by
  cases (show _=[] from h)
  exact⟨x,[],rfl,r,rfl⟩
 |_,e::ds,x,d,h,r=>by obtain⟨y,f,rfl,i,j⟩:=h;exact⟨y,f++[x],rfl,i,cB j r⟩
theorem aS:∀{ds:List D}{xs:List V},Hi K H io xs ds->Hi K H io xs.reverse ds.reverse
 |[],xs,h=>by
  cases (show xs=[] from h)
  exact rfl
 |d::ds,xs,h=>by obtain⟨y,j,rfl,f,i⟩:=h;rw[C9,C9];exact cB (aS i) f
end
def zh0:typeLookup (.type "list") "keys"=pure none:=by rw[typeLookup_type,ET];kernel_rfl
def T9:entryFor table "dict.update.loop"=some Builtin.«dict.update.loop»:=entryFor_of_fast<|by kernel_rfl
def Nv:plainId "dict.update.loop"=true:=by decide +kernel
section
variable {a:Addr}
def cV{Q:Option IR->Shared->Prop}{k:Nat}{f:Array (Option IR)}(i:s.heap.get? a=some {cls:=.type "list",dict:=none,data:=.seq xs k,slots:=f})(j:A.handled=none)(h:∀h' tk,(∀b u,s.heap.get? b=some u->h'.get? b=some u)->Q none {s with heap:=h',toks:=tk}):wpAny (KB prog w) A (getAttr? (.ref a) "keys") Q E s:=by
 obtain⟨H,g,d,tk,os⟩:=s;have x:∀c,(⟨H,g,d,c,os⟩:Shared).TypeIs (.ref a) "list":=λ_=>⟨_,i,rfl⟩;have f1:=FC;have K:=F.slot_list_getattribute.lookup;have f4:=F.slot_list_getattribute.bind<|.ref a;have P:=am_list_getattr_none;unfold getAttr? getAttrBy? getAttrBy
 repeat (any_goals (first|assumption|exact x _|((with_reducible show wpAny _ _ (call (GO "list.__getattribute__") _ _) _ _ _);refine D0 F.slot_list_getattribute (x _) am_entry_list_getattribute (F.args_list_getattribute_2 _ _) (meets_getattribute_miss_list a xs k f _ _ zh0<|by decide +kernel) ⟨i,j,λh' c e m=>?_⟩)|wp_step))
 obtain⟨X,l,he⟩:=m.there;show wpAny _ _ (getattributeRaised _ _ _ _ _ _ _) _ _ _;unfold getattributeRaised
 repeat (any_goals (first|assumption|wp_step))
 exact h _ _ m.keeps
def N7(prog:SZ)(w:World)(h:P3)(v:IR)(d:Key×IR):Prop:=∃p a,v=.ref p/\IsTup h p #[a,d.2]/\(Jb prog w).is d.1 a=true
def N7.keep{h':P3}{v:IR}{d:Key×IR}(q:N7 prog w h v d)(k:∀b o,v=.ref b->h.get? b=some o->h'.get? b=some o):N7 prog w h' v d:=by obtain⟨p,a,rfl,⟨o,g,c⟩,i⟩:=q;exact⟨p,a,rfl,⟨o,k p o rfl g,c⟩,i⟩
def fP{p:Addr}{Q:List IR->Shared->Prop}(f:IsTup s.heap p xs)(h:Q xs.toList s):wpAny (KB prog w) A (Builtin.Dict.pairItems<|.ref p) Q E s:=by
 obtain⟨a,g,d,tk,os⟩:=s;obtain⟨o,b,c,n,e⟩:=f;have m:(⟨a,g,d,tk,os⟩:Shared).TypeIs (.ref p) "tuple":=⟨_,b,c⟩;unfold Builtin.Dict.pairItems seqItems?
 repeat (any_goals (first|assumption|wp_step))
 rw[e];exact Ac<|Ac h
end
variable {its:List IR}{kvs:List (Key×IR)}
section
variable {a:Addr}
def zjQ{K:Type}[DecidableEq K](kvs:List (K×IR))(k:K)(v:IR):(stored kvs k v).length<=kvs.length+1:=by unfold stored;split<;>simp
theorem WK{K:Type}[DecidableEq K]:∀(more kvs:List (K×IR)),(merged kvs more).length<=kvs.length+more.length
 |[],kvs=>by show kvs.length<=kvs.length+0;omega
 |p::r,kvs=>by have d:=WK r<|stored kvs p.1 p.2;have a:=zjQ kvs p.1 p.2;show(merged (stored kvs p.1 p.2) r).length<=_;rw[Au];omega
def kB{R:Result->Shared->Prop}{D I l:Addr}{h0:P3}(Z:A.in1.handled=none)(hl:its.length=kvs.length)(hz:kvs.length<=sizeLine)(d:D≠I)(n:l≠D)(y:l≠I):
  ∀(k i:Nat) (s:Shared),kvs.length-i=k->i<=kvs.length->s.heap.IsListIter I l i->s.heap.IsList l its.toArray->s.heap.DictOf (Jb prog w) D (merged []<|kvs.take i) ->
  (∀(j:Nat) (v:IR) (f:Key×IR),its[j]?=some v->kvs[j]?=some f->N7 prog w s.heap v f/\v≠.ref D/\v≠.ref I)->(∀b o,b≠D->b≠I->h0.get? b=some o->s.heap.get? b=some o) ->
  (∀h' tk,h'.DictOf (Jb prog w) D (merged [] kvs)->(∀b o,b≠D->b≠I->h0.get? b=some o->h'.get? b=some o)->R (.ok<|.ret .none) {s with heap:=h',toks:=tk}) ->
  codeAny (KB prog w) A (.builtin "dict.update.loop" ⟨[.ref D,.ref I,rawInt i,.none],[]⟩) R s:=by
 intro k
 induction k with
 |zero=>
  intro i s hk hi hit a hd X h0k B;have C:i=kvs.length:=by omega
  subst C;refine BA T9 ?_;rw[A6 Nv _];show wpAny _ A.in1 (pyNext (.ref I) >>= _) _ _ s;refine Aa<|Cz Z hit a (by simp[hl]) λh' h=>?_;show wpAny _ A.in1 (Builtin.Dict.addKeywords D [] >>= λ_=>ret .none) _ _ _;refine Aa<|Ac<|Ac ?_;rw[Bb]at hd;refine B h' s.toks ?_ λb o F E e=>h b o E (h0k b o F E e);obtain⟨o,G,H,J,r⟩:=hd;exact⟨o,G,H,h D o d J,r⟩
 |succ k ih=>
  intro i s hk hi hit a hd X h0k B;have L:i<kvs.length:=by omega
  have m:i<its.length:=by omega
  refine BA T9 ?_;rw[A6 Nv _];show wpAny _ A.in1 (pyNext (.ref I) >>= _) _ _ s;have hv:its[i]?=some its[i]:=Ai m;have K:kvs[i]?=some kvs[i]:=Ai L;refine Aa<|Cp (x:=its[i]) hit a (by simp[m]) λh' P h=>?_;obtain⟨pa,nD,nI⟩:=X i _ _ hv K;have M:N7 prog w h' its[i] kvs[i]:=pa.keep λb o e g=>h.extBut b o (λz=>nI (by rw[e,z])) g;obtain⟨p,kx,H,tp,ik⟩:=M;have N:h'.DictOf (Jb prog w) D (merged []<|kvs.take i):=by obtain⟨o,G,H,J,r⟩:=hd;exact⟨o,G,H,h.extBut D o d J,r⟩
  have hlen:(merged []<|kvs.take i).length<=sizeLine:=by have:=WK (kvs.take i) [];rw[Bq,Be]at this;omega
  rw[H];refine Aa<|AM<|Aa<|CA<|fP (s:={s with heap:=h'}) tp ?_;refine AM<|Fk (s:={s with heap:=h'}) ik N (λE hd2 Q=>?_) hlen;have c:∀b o,b≠D->h'.get? b=some o->E.get? b=some o:=λb o hb e=>Q.extBut b o hb e;have e1:stored (merged []<|kvs.take i) kvs[i].1 kvs[i].2=merged [] (kvs.take<|i+1):=(merged_take_succ [] kvs i _ K).symm;refine Ac ⟨BD Nv _,?_⟩;refine ih (i+1) {s with heap:=E,toks:=s.toks+1} (by omega) (by omega) ?_ ?_ (by rw[<-e1];exact hd2) (λj v f F S=>?_) (λb o b1 U e=>c b o b1 (h.extBut b o U<|h0k b o b1 U e)) λh3 T d3 k3=>B h3 T d3 k3
  ·exact FB P λu e=>c I u (Bt d) e
  ·exact DF (DF a λu e=>h.extBut l u y e) λu e=>c l u n e
  obtain⟨q,W,Y⟩:=X j v f F S;exact⟨(q.keep λb o e g=>h.extBut b o (λz=>Y (by rw[e,z])) g).keep λb o e g=>c b o (λz=>W (by rw[e,z])) g,W,Y⟩
def zhp{l:Addr}{Q:Qqa}(C:A.handled=none)(d:PlainL s.heap l its.toArray)(M:its.length=kvs.length)(hz:kvs.length<=sizeLine)(N:∀(j:Nat) (v:IR) (i:Key×IR),its[j]?=some v->kvs[j]?=some i->N7 prog w s.heap v i)(h:∀h' tk,h'.DictOf (Jb prog w) s.heap.objs.size (merged [] kvs)->(∀b o,s.heap.get? b=some o->h'.get? b=some o)->Q (.ref s.heap.objs.size) {s with heap:=h',toks:=tk}):
  wpAny (KB prog w) A (call (.type "dict") [.ref l]) Q E s:=by
 refine callType_codes (Q₁:=λobj s₁=>obj=.ref s.heap.objs.size/\s₁={s with heap:=s.heap.push Qqd}) F.kt_called_dict (F.kt_typeCall_dict_1 _) F.entry_dict_init (kt_code_dict_new _ ⟨rfl,rfl⟩) ?_;rintro obj s₁ ⟨rfl,rfl⟩;have a:(s.heap.push Qqd).DictOf (Jb prog w) s.heap.objs.size []:=GA s.heap;have k1:∀b o,s.heap.get? b=some o->(s.heap.push Qqd).get? b=some o:=λb o e=>Ad _ e;have H:=d.keeps k1;obtain⟨⟨cl,di,da,sl⟩,n,g1,G,J,L⟩:=id H;simp only at G J L;subst G J L;have hlt:∀b o,s.heap.get? b=some o->b<s.heap.objs.size:=λb o e=>Ak e;have X:l<s.heap.objs.size:=by obtain⟨o,_,g,_⟩:=d;exact hlt l o g
 refine⟨a.typeIs,F.args_dict_init_2 _ _,?_⟩;unfold Builtin.«dict.__init__»;refine Aa ?_;unfold Builtin.Dict.selfAndRest;refine Aa<|B7 a.typeIs ?_;show wpAny _ _ (pure (s.heap.objs.size,[AE l])) _ _ _;refine Ac ?_;show wpAny _ _ (Builtin.Dict.updateFrom "dict.__init__" s.heap.objs.size (.ref l) [] .none) _ _ _;unfold Builtin.Dict.updateFrom;refine Aa (Dl (show Shared.TypeIs {s with heap:=s.heap.push Qqd} (.ref l) "list" from⟨_,g1,rfl⟩) ?_);rw[if_pos (by decide)];refine Aa<|cV g1 C λc P u=>?_;have K:=H.keeps u;have hd2:c.DictOf (Jb prog w) s.heap.objs.size []:=by obtain⟨o,y,z,f,r⟩:=a;exact⟨o,y,z,u _ o f,r⟩
 have m:s.heap.objs.size<c.objs.size:=by obtain⟨o,y,z,f,r⟩:=hd2;exact Ak f
 simp only[Cn,if_true];refine Aa<|BR ?_;refine Aa<|Sr.iter (x:=.l l) (s:={s with heap:=c,toks:=P}) (xs:=its.toArray) K.isList ?_;have B:∀b o,c.get? b=some o->(c.push<|Sr.ob<|.l l).get? b=some o:=λb o e=>Ad _ e;refine Ac ⟨BD Nv _,?_⟩;have S:s.heap.objs.size≠c.objs.size:=Av m;have T:l≠s.heap.objs.size:=Av X;have U:l≠c.objs.size:=Av<|B2 X m;show codeAny (KB prog w) A.in1 (.builtin "dict.update.loop" ⟨[.ref s.heap.objs.size,.ref c.objs.size,rawInt (0:Nat),.none],[]⟩) _ {s with heap:=c.push (Sr.ob<|.l l),toks:=P};refine kB (A:=A.in1) (h0:=s.heap) (l:=l) (its:=its) (kvs:=kvs) (D:=s.heap.objs.size) (I:=c.objs.size) C M hz S T U kvs.length 0 {s with heap:=c.push (Sr.ob<|.l l),toks:=P} rfl (A0 _) ?_ (K.keeps B).isList ?_ (λj v i W Y=>?_) (λb o _ _ e=>B b o (u b o<|k1 b o e)) λh' tk Z k'=>?_
 ·exact Sr.at_new (x:=.l l)<|Ap _ rfl
 ·obtain⟨o,y,z,f,r⟩:=hd2;exact⟨o,y,z,B _ o f,r⟩
 ·have q:=N j v i W Y;have nn:∀b,v=.ref b->b<s.heap.objs.size:=λb e=>by
   obtain⟨p,kx,rfl,⟨o,g,_⟩,_⟩:=q;cases e;exact hlt _ o g
  refine⟨q.keep λb o _ g=>B b o (u b o<|k1 b o g),λe=>?_,λe=>?_⟩
  ·exact absurd (nn _ e)<|AL _
  exact absurd (nn _ e)<|Nat.not_lt_of_lt m
 exact⟨rfl,h h' tk Z λb o e=>k' b o (Av<|hlt b o e) (Av<|B2 (hlt b o e) m) e⟩
end
def RM:D->Option (Key×D)
 |.tup [k,v]=>(keyOf k).map λq=>(q,v)
 |_=>none
def Pw:List D->Option (List<|Key×D)
 |[]=>some []
 |d::r=>(RM d).bind λt=>(Pw r).map λts=>t::ts
def Oe(kvs more:List (Key×D)):List (Key×D):=more.foldl (λacc a=>putD acc a.1 a.2) kvs
section
variable {qp:List (Addr×Obj)}
def aZ:∀{more:List (Key×V)} {M9:List (Key×D)} {kvs:List (Key×V)} {d:List (Key×D)},KR Key K H io more M9->KR Key K H io kvs d->KR Key K H io (MX kvs more) (Oe d M9):=by
 intro more M9 kvs d r;unfold KR at r
 induction r generalizing kvs d with
 |nil=>intro q;exact q
 |@cons p q c g h t a=>
  intro b;have e:KR Key K H io (putK kvs p.1 p.2) (putD d q.1 q.2):=by rw[<-h.1];exact KR.put b p.1 h.2
  exact a e
theorem Vh(I:Inv X qp σ H s):∀{n:List V}{ds:List D} {f:List (Key×D)} {its:List IR},Hi X.K H io n ds->Pw ds=some f->Vals n its ->
  ∃(i:List (Key×V)) (kvs:List (Key×IR)),KR Key X.K H io i f/\KV i kvs/\its.length=kvs.length/\kvs.length=f.length/\∀(j:Nat) (v:IR) (l:Key×IR),its[j]?=some v->kvs[j]?=some l->N7 X.prog X.w s.heap v l
 |_,[],f,_,h,e,r=>by
  cases e;cases (show _=[] from h)
  cases r;exact⟨[],[],.nil,.nil,rfl,rfl,λj v l h=>by simp at h⟩
 |_,d::ds,f,_,h,e,r=>by
  obtain⟨y,n,rfl,o,z⟩:=h;obtain⟨t,a,e⟩:=Ht e;obtain⟨T,b,e⟩:=Ig e;subst e;cases r with
  |@cons _ u _ us g c=>
   obtain⟨i,kvs,a1,a2,m,x,A⟩:=Vh I z b c;unfold RM at a;split at a
   ·rename_i k v;obtain⟨q,eq1,a⟩:=Ig a;subst a;obtain⟨p,U,rfl,E,rs⟩:=o;obtain⟨v1,W,rfl,P,rs⟩:=rs;obtain⟨v2,B,rfl,C,rs⟩:=rs
    cases (show B=[] from rs)
    have F:=T1 P eq1;subst F;cases g;obtain⟨Y,G,J,_⟩:=I.tuple<|IK.of (K:=X.K) E
    cases G with
    |cons L t1=>
     cases t1 with
     |cons M N=>
      cases N;rename_i Q S;refine⟨(q,v2)::i,(q,S)::kvs,.cons ⟨rfl,C⟩ a1,.cons ⟨rfl,M⟩ a2,by rw[Au,Au,m],by rw[Au,Au,x],λj v l a b=>?_⟩
      cases j with
      |zero=>
       cases a;cases b;exact⟨p,Q,rfl,J,OB L⟩
      |succ j=>exact A j v l a b
   ·cases a
def Sm:GN
 |[.ref n],st=>(HZ st n).bind λds=>(Pw ds).bind λd=>if fits d.length=true then some (.ref st.length,st++[.dk (Oe [] d)])else none
 |_,_=>none
def zS(f:X.calm=true):Jw X (.type "dict") Sm:=by
 rintro qp s σ H xs us Q I r ⟨ds,st,io,d,st',R,S,e,k⟩;unfold Sm at e;split at e
 ·rename_i n;obtain⟨zs,h,e⟩:=Ht e;obtain⟨c,m,e⟩:=Ht e;obtain⟨hf,e⟩:=Iz e;cases e;obtain⟨v,rfl,p,rfl,w⟩:=R.one;obtain⟨u,rfl,x⟩:=r.one;cases x;obtain⟨C,A,E⟩:=KG S w h;obtain⟨its,K,pl,F⟩:=I.list A;obtain⟨b,kvs,a1,a2,P,i,j⟩:=Vh I E m K;have g:kvs.length<=sizeLine:=by
   rw[i];exact of_decide_eq_true hf
  refine zhp (I.ok.hd f) pl P g j λG tk l q=>?_;have y:b.length=kvs.length:=Bc a2;have hm:(MX [] b).length<=sizeLine:=by have:=Xl b [];rw[Be]at this;omega
  have hd:(s.heap.objs.size==sysModules)=false:=beq_eq_false_iff_ne.mpr<|Bt<|Av I.big;refine⟨.ref s.heap.objs.size,_,I.laid (a:=s.heap.objs.size) (o:=.dK (MX [] b)) (t':=tk) q (Ah _)<|Vg hm hd (a2.merge .nil) l,rfl,?_⟩;obtain⟨z,B⟩:=PJ (o:=.dK (MX [] b)) (ob:=.dk (Oe [] c)) S (I.hok.fresh<|Ah _) λJ T e=>⟨_,e,aZ (KR.mono T a1) .nil⟩
  exact k _ _ [s.heap.objs.size] z B ⟨s.heap.objs.size,rfl,by rw[<-S.len];exact getElem?_len io _⟩
 ·cases e
end
def UI(n:Nat)(f:Nat->Option V):It:=⟨λi _=>i<n,λi H v a=>a=H/\f i=some v,λi _=>n<=i⟩
def zkP:List String:=["enumerate","zip","dict_itemiterator","dict_reverseitemiterator","odict_iterator","itertools.zip_longest","itertools.pairwise"]
variable {tg:Pv}
def zjI(it:Addr)(n:Nat)(f:Nat->Option V){R:Nat->IR->Prop}{T:Nat->P3->Prop}(W:∀A:Around,A.handled=none->Walks P w A it [it] [it] n R T)(F:∀i v,R i v->∃x,f i=some x/\RelV x v) (l:∀i h,T i h->∃o nm vs,h.get? it=some o/\o.cls=.type nm/\o.data=.fields vs/\zkP.contains nm=false)(j:∀(A:Around) (i:Nat) (s:Shared) (Q:Qqa) (E:Qqa),T i s.heap->Q (.ref it) s->wpAny (KB P w) A (pyIter<|.ref it) Q E s):
  Turn P w K tg (UI n f) [it] it (λi h=>i<=n/\T i h) where
 mem:=by simp
 obj:=λi h st b a=>by
  have e:b=it:=by simpa using a
  subst e;obtain⟨o,nm,vs,e,c,d,_⟩:=l i h st.2;exact⟨o,e,λv z=>by rw[d]at z;cases z⟩
 keep:=λi h g st k=>⟨st.1,(W {} rfl).frame i h g st.2 k⟩
 item:=by intro X p hw q r i C s σ H E I hf st m;subst p hw q;obtain⟨f0,f1,f2,u,f4,y⟩:=hf it (by simp);refine(W X.A<|I.ok.hd r).item i s _ _ m st.2 λv g tk G st' B=>?_;obtain⟨x,J,L⟩:=F i v G;have M:Inv X C σ H {s with heap:=g,toks:=tk}:=I.turned (λb o a e=>B b o (by simpa using a) e) f0 f1 u f4 y;obtain⟨o,nm,vs,e,c,d,N⟩:=l (i+1) g st';exact⟨_,rfl,QC (s:={s with heap:=g,toks:=tk}) e c d N ⟨x,H,M,L,⟨rfl,J⟩,⟨m,st'⟩,λb a=>(hf b a).1⟩⟩
 done:=by intro X p hw q r i C s σ H E I hf st m;subst p hw q;obtain⟨f0,f1,f2,u,f4,y⟩:=hf it (by simp);have e:i=n:=Nat.le_antisymm st.1 m;subst e;exact(W X.A<|I.ok.hd r).done s _ _ st.2 λg tk B=>⟨rfl,I.turned (λb o a e=>B b o (by simpa using a) e) f0 f1 u f4 y⟩
 self:=λA i s Q E st h=>j A i s Q E st.2 h
variable {n:Nat}
def kS{H:Hp}{io:List Addr}{ds:List D}{f:Nat->Option V}(hn:n=ds.length)(hf:∀i d,ds[i]?=some d->∃v,f i=some v/\∀H io,Rep K H io v d):Lr K H io ⟨ds,[]⟩ (UI n f) where
 go:=λi d H1 c s hd e a g=>by have b:i<ds.length:=(KF.mp hd).1;refine⟨by show i<n;omega,λx w y=>?_⟩;obtain⟨rfl,y⟩:=y;obtain⟨v,h,m⟩:=hf i d hd;rw[h]at y;cases y;exact⟨Ext.refl,a,m _ _⟩
 stop:=λH1 c s e a g=>by show n<=ds.length;omega
 stop':=λH1 c s i b e a g=>by show n<=i;have b:ds.length<=i:=b;omega
variable {l:Pv}{es:List Pv}{mm:MA}{mt:MT}{ms:MS}{body:List W1}{z:Str}
def signs(z:Str):List D:=z.cps.toList.map λc=>D.str ⟨#[c]⟩
def Py(z:Str)(i:Nat):Option V:=z.cps[i]?.map λc=>V.str ⟨#[c]⟩
def zlK(d:A.handled=none)(I:Addr)(x:Str)(t:Tok):Walks P w A I [I] [I] x.cps.size (SignAt x) (λi h=>h.IsStrIter I (strIterType x) x t i):=by
 unfold strIterType;cases x.cps.all (· < 128)
 ·exact Walks.strWide d I x t
 exact Walks.strAscii d I x t
def xA(it:Addr)(x:Str)(t:Tok):Turn P w K tg (UI x.cps.size<|Py x) [it] it (λi h=>i<=x.cps.size/\h.IsStrIter it (strIterType x) x t i):=
 zjI it x.cps.size (Py x) (λA a=>zlK a it x t) (λi v ⟨c,u,b,g⟩=>⟨.str ⟨#[c]⟩,by unfold Py;rw[b];rfl,u,g⟩)
  (λi h ⟨o,e,c,d⟩=>⟨o,_,_,e,c,d,by unfold strIterType;split<;>decide⟩) λA i s Q E st h=>by
   unfold strIterType at st;split at st
   ·exact wpAny_pyIter_striter_ascii st h
   exact wpAny_pyIter_striter_wide st h
def Yj(tl:TE):TI:=λσ H R=>tl σ H λx H1=>∃z,x=.str z/\R (UI z.cps.size<|Py z) H1
def lG{tl:TE}(d:PE X l tl):PI X tg l (Yj tl):=by
 intro a s σ H R I h;refine HC (d a s σ H _ I h) ?_;rintro v s1 ⟨x,H1,I1,c,g⟩;obtain⟨z,e,q⟩:=g;subst e;obtain⟨t,rfl⟩:=c;refine wpAny_pyIter_strU ?_;refine⟨s1.heap.objs.size,[s1.heap.objs.size],_,_,H1,rfl,I1.kept (t':=s1.toks) λb o e=>Ad _ e,xA _ z t,⟨A0 _,_,Ap _ rfl,rfl,rfl⟩,λb m=>?_,q⟩;have e:b=s1.heap.objs.size:=by simpa using m
 subst e;exact I1.fpOk (Ah _)<|I1.hok.fresh<|Ah _
def signs_get{i:Nat}{d:D}(h:(signs z)[i]?=some d):∃v,Py z i=some v/\∀H io,Rep K H io v d:=by unfold signs at h;rw[Ay]at h;obtain⟨c,a,e⟩:=Ig h;subst e;refine⟨.str ⟨#[c]⟩,?_,λH io=>rfl⟩;unfold Py;rw[Bm]at a;rw[a];rfl
def zlY(z:Str):z.cps.size=(signs z).length:=by unfold signs;rw[Af,AR]
def gQ(m:ME):MI:=λU st=>(m U st).bind λ(d,s)=>match d with
 |.str z=>some (⟨signs z,[]⟩,s)
 |_=>none
def mJ(f:SE X l m):SI X tg l (gQ m):=PI.imp (lG f) <| by
 rintro σ H R ⟨U,st,io,W,st',E,S,e,k⟩;obtain⟨⟨d,s1⟩,a,e⟩:=Ht e;dsimp only at e;split at e
 ·rename_i z;cases e;refine⟨U,st,io,_,_,E,S,a,λv H1 b c g n=>?_⟩;exact⟨z,n,k _ H1 b c g<|kS (zlY z) λi d h=>signs_get h⟩
 ·cases e
def Js(m:ME):MI:=λU st=>(m U st).bind λ(d,s)=>LF (Lv d s)<|match d with|.str z=>some (⟨signs z,[]⟩,s)|_=>none
def LP(f:SE X l m):SI X tg l (Js m):=by
 rintro a s σ H R I ⟨U,st,io,W,st',E,S,e0,k⟩;obtain⟨⟨d,s1⟩,b,e0⟩:=Ht e0;rcases Nr e0 with e0|e0
 ·exact rL f a s σ H R I ⟨U,st,io,W,st',E,S,by unfold mW;rw[b];exact e0,k⟩
 exact mJ f a s σ H R I ⟨U,st,io,W,st',E,S,by unfold gQ;rw[b];exact e0,k⟩
def IS(c:MT)(m:MS):Nat->MS
 |0=>λ_ _=>none
 |n+1=>λU st=>(c U st).bind λ(b,s)=>if b=true then(m U s).bind λ(f,s2)=>match f with
   |.nx i=>IS c m n i s2
   |.ct i=>IS c m n i s2
   |.bk i=>some (.nx i,s2)
   |.rt d=>some (.rt d,s2)
  else some (.nx U,s)
def xM(F:PassesOwn (KB X.prog X.w) X.A X.env X.xe)(G:SB X c mt)(I:KN X body ms):SS X (.While c body [] pos) (IS mt ms n):=PS.imp (vA F G I) λN σ H h=>by
 obtain⟨U,st,io,f,st',E,S,e,w⟩:=Lb.mp h;refine⟨λk σ2 d=>∃x s2 g,Ext io g H d/\HA X.K d (io++g) s2/\HJ X.K d (io++g) σ2 x/\IS mt ms k x s2=some (f,st'),⟨n,U,st,[],Ext.refl,S.nil,by rw[Ao];exact E,e⟩,?_⟩;rintro k σ2 d ⟨x,s2,g,X2,i,E2,a⟩;have r:Wn X.K (io++g) d st' N f:=w.on X2 i
 cases k with
 |zero=>cases a
 |succ k=>
  obtain⟨⟨b,s3⟩,J,a⟩:=Ht a;refine⟨x,s2,io++g,b,s3,E2,i,J,λu z P j=>?_⟩;have X23:=X2.trans i P;have v:HA X.K u (io++(g++z)) s3:=by rw[<-Am];exact j
  dsimp only;cases b with
  |false=>
   rw[if_neg (by decide)];have a:some (Fl.nx x,s3)=some (f,st'):=a;cases a;exact r σ2 u z P j<|E2.ext i P
  |true=>
   rw[if_pos rfl];obtain⟨⟨f4,s4⟩,L,a⟩:=Ht (show(ms x s3).bind _=some (f,st') from a);refine⟨λσ5 q=>∃o s5 l,Ext io l H q/\HA X.K q (io++l) s5/\HJ X.K q (io++l) σ5 o/\IS mt ms k o s5=some (f,st'),λσ5 q M=>⟨k,Cc k,M⟩,?_⟩;refine OM (E2.ext i P) j L ?_;have fin:∀{m:Ii},IS mt ms k m s4=some (f,st')->∀σ7 s p,Ext (io++g++z) p u s->HA X.K s (io++g++z++p) s4->HJ X.K s (io++g++z++p) σ7 m ->
     ∃o s5 l,Ext io l H s/\HA X.K s (io++l) s5/\HJ X.K s (io++l) σ7 o/\IS mt ms k o s5=some (f,st'):=by
    intro m Q σ7 s p y B C;rw[Am io]at y;rw[Am io,Am io]at B C;exact⟨m,s4,(g++z)++p,X23.trans v y,B,C,Q⟩
   cases f4 with
   |nx m=>exact fin a
   |ct m=>exact fin a
   |bk m=>
    cases a;exact r.on P j
   |rt T=>
    cases a;exact r.on P j
def SV:GN
 |[.str z],st=>if fits z.cps.size=true then some (.ref st.length,st++[.lst (signs z)])else none
 |_,_=>none
def zjY{acc:Array IR}(h:ItemsOf (SignAt z) acc z.cps.size):Vals (z.cps.toList.map λc=>V.str ⟨#[c]⟩) acc.toList:=by
 have aux:∀(l:List Nat) (a:List IR),a.length=l.length->(∀(j:Nat) (v:IR),a[j]?=some v->∃(c:Nat) (u:Tok),l[j]?=some c/\v=Ei ⟨#[c]⟩ u)->Vals (l.map λc=>V.str ⟨#[c]⟩) a:=by
  intro l
  induction l with
  |nil=>intro a b _;cases (BV b);exact .nil
  |cons c l ih=>
   intro a b e;cases a with
   |nil=>simp at b
   |cons v a=>
    obtain⟨m,u,g,rfl⟩:=e 0 v rfl;cases (show c=m by simpa using g)
    exact .cons ⟨u,rfl⟩<|ih a (by simpa using b) λj v h=>by simpa using e (j+1) v (by simpa using h)
 refine aux _ _ (by rw[AR,h.1,AR]) λj v n=>?_;obtain⟨c,u,g,e⟩:=h.2 j v (by rw[<-Bm];exact n);exact⟨c,u,by rw[Bm];exact g,e⟩
def zjZ(z:Str):Hi K H io (z.cps.toList.map λc=>V.str ⟨#[c]⟩) (signs z):=by
 unfold signs;generalize z.cps.toList=l
 induction l with
 |nil=>exact rfl
 |cons c l a=>exact Hi.cons rfl a
def zjs(f:X.calm=true):Jw X (.type "list") SV:=by
 rintro n s σ H xs us Q I r ⟨ds,st,io,d,st',R,S,e,k⟩;unfold SV at e;split at e
 ·rename_i z;obtain⟨hf,e⟩:=Iz e;cases e;obtain⟨v,rfl,rfl⟩:=R.one;obtain⟨u,rfl,l⟩:=r.one;obtain⟨t,rfl⟩:=l;have h:z.cps.size<=sizeLine:=of_decide_eq_true hf;refine call_list_str (hn:=h) (I.ok.hd f) z t λw tk acc m hk g a=>?_;refine⟨.ref s.heap.objs.size,upd H s.heap.objs.size<|.lst<|z.cps.toList.map λc=>V.str ⟨#[c]⟩,I.laid (t':=tk) (λb o q=>hk b o q) (Ah _) ⟨by rw[Af,AR];exact h,acc.toList,m,zjY a,by simpa using g⟩,rfl,?_⟩;exact k.lst S (zjZ z)<|I.hok.fresh<|Ah _
 ·cases e
def Qw:GN:=K6 Qx SV
def zU(d:X.calm=true):Jw X (.type "list") Qw:=P5 zV<|zjs d
def slK:D->Option Int->Option Int->Hf->Option (D×Hf):=λx lo a st=>match x with
 |.kl ds=>some (.ref st.length,st++[.lst (cutD ds lo a)])
 |_=>none
def Lk:D->Option Int->Option Int->Hf->Option (D×Hf):=λx lo a st=>LF (XM x lo a st)<|slK x lo a st
def IZ(m:ME)(l h:MO):ME:=λU st=>(m U st).bind λ(x,s1)=>(l U s1).bind λ(lo,s2)=>(h U s2).bind λ(a,s3)=>Lk x lo a s3
def M6{lo hi:Option Pv}{f i:MO}(he:SE X e m)(j:SO X lo f)(o:SO X hi i):SE X (.Subscript e (.Slice lo hi none p2) pos) (IZ m f i):=by
 rintro n s σ H Q I ⟨U,st,io,d,st',E,S,e0,k⟩;obtain⟨⟨x,s1⟩,w,e0⟩:=Ht e0;obtain⟨⟨b,s2⟩,z,e0⟩:=Ht e0;obtain⟨⟨c,s3⟩,A,e0⟩:=Ht e0;rcases Nr e0 with e0|e0
 ·exact zl1 he j o n s σ H Q I ⟨U,st,io,d,st',E,S,by simp only[RV,w,z,A,Ae];exact e0,k⟩
 ·refine V2 ZU he j o n s σ H Q I ?_;refine⟨U,st,io,x,s1,E,S,w,λv1 H1 K g a R1=>⟨U,s1,io++K,b,s2,E.ext S g,a,z,λG v h l=>⟨U,s2,(io++K)++v,c,s3,(E.ext S g).ext a h,l,A,λJ L P u=>?_⟩⟩⟩;have y:=(R1.ext a h).ext l P;have B:=((k.on a g).on l h).on u P
  cases x with
  |kl ds=>
   cases e0;obtain⟨p,xs,rfl,C,r⟩:=y;exact⟨p,xs,rfl,C.sq,λq F=>B.lst u (VB r _ _) F⟩
  |_=>cases e0
def ZJ:G2
 |.str i,.str j,st=>some (.bl (!(!(Builtin.Str.occurrences j i 0 j.length 1).isEmpty)),st)
 |_,_,_=>none
def zkq:Jj X (Re .NotIn) ZJ:=by
 rintro a s σ H x y v u Q I b c ⟨g,h,st,io,d,st',l,m,S,e,k⟩;cases g with
 |str i=>
  cases h with
  |str j=>cases e;exact zhP a s σ H x y v u Q I b c ⟨i,j,l,m,k.now S rfl⟩
  |_=>cases e
 |_=>cases e
def KZ:G2:=JT SF ZJ
def T3(i:X.A.units+100<cLine)(d:SE X a ma)(f:SE X b mb)(hm:behindInMarks .NotIn b=false:=by rfl):SB X (.Compare a [.NotIn] [b] pos) (mT<|mB KZ ma mb):=Vn (zl6 i d f hm) (JW zkq d f hm)
end L2.MP
namespace PySem.F
end PySem.F
namespace PySem
open Builtin
end PySem
namespace L2.MP
open PySem PySem.Spec PyProof.Rows
variable {st:Hf}{m ma mb:ME}{mm:MA}
section
variable {U U1:Ii}{s1:Hf}{n o:ME}{ms mq:MS}{mt mu:MT}{d:D}{ml mh:MO}
@[simp] theorem zwz:Js m U st=(m U st).bind λp=>LF (Lv p.1 p.2) (match p.1 with|.str z=>some (⟨signs z,[]⟩,p.2)|_=>none):=rfl
@[simp] theorem zwb:IZ m ml mh U st=(m U st).bind λp=>(ml U p.2).bind λq=>(mh U q.2).bind λr=>Lk p.1 q.1 r.1 r.2:=rfl
end
def Zb:UF "sum"=some (.builtin "sum"):=by decide +kernel
def Vz:UF "repr"=some (.builtin "repr"):=by decide +kernel
def kD:UF "any"=some (.builtin "any"):=by decide +kernel
variable {X:Cx}{K:Ab}{H:Hp}{io:List Addr}{st':Hf}{b c e:Pv}{mc:ME}{pos:Pos}{qp:List (Addr×Obj)}{σ:L2.St}{s:Shared}
section
variable {a:Pv}{es:List Pv}
def Qv:List D->Option (List Int)
 |[]=>some []
 |.int i::r=>(Qv r).map λis=>i::is
 |_=>none
theorem aU:∀{f:List V}{its:List IR}{ds:List D}{ns:List Int},Hi K H io f ds->Vals f its->Qv ds=some ns->its.length=ns.length/\∀(j:Nat) (v:IR),its[j]?=some v->∃t,v=DI (ns.getD j 0) t
 |_,_,[],ns,h,r,e=>by
  cases e;cases (show _=[] from h)
  cases r;exact⟨rfl,λj v h=>by simp at h⟩
 |_,_,d::ds,ns,h,r,e=>by
  obtain⟨y,f,rfl,g,n⟩:=h;cases d with
  |int i=>
   obtain⟨is,b,e⟩:=Ig e;subst e;cases r with
   |cons c m=>
    cases (show y=.int i from g)
    obtain⟨t,rfl⟩:=c;obtain⟨l,q⟩:=aU n m b;refine⟨by simp[l],λj v a=>?_⟩
    cases j with
    |zero=>cases a;exact⟨t,rfl⟩
    |succ j=>simpa using q j v (by simpa using a)
  |_=>cases e
def Oc(i:Int):Bool:=decide (-1000000<=i)&&decide (i<=1000000)
def LV:GN
 |[.ref n],st=>(HZ st n).bind λds=>(Qv ds).bind λns=>if(ns.all Oc&&decide (ns.length<=100000))=true then some (.int ns.sum,st)else none
 |_,_=>none
theorem Wx:∀(ns:List Int) (j:Nat),j<=ns.length->preSum (λi=>ns.getD i 0) j=(ns.take j).sum
 |ns,0,_=>by simp[preSum]
 |ns,j+1,h=>by
  have d:j<ns.length:=h;have a:(ns.take<|j+1).sum=(ns.take j).sum+ns[j]:=by rw[Bj,Ai d];simp only[Option.toList_some,List.sum_append,GP,List.sum_nil,Int.add_zero]
  rw[preSum,Wx ns j (by omega),a];simp only[Aw,Ai d,Df]
theorem cG:∀{ns:List Int},ns.all Oc=true->-1000000*(ns.length:Int)<=ns.sum/\ns.sum<=1000000*(ns.length:Int)
 |[],_=>by simp
 |i::ns,h=>by
  rw[GL,An]at h;obtain⟨d,f⟩:=h;unfold Oc at d;rw[An]at d;have a1:=of_decide_eq_true d.1;have a2:=of_decide_eq_true d.2;have a:=cG f;rw[GP,Au]
  push_cast
  omega
def cL(y:X.calm=true):Jw X (.builtin "sum") LV:=by
 rintro qp s σ H xs us Q I r ⟨ds,st,io,d,st',R,S,e,k⟩;unfold LV at e;split at e
 ·rename_i n;obtain⟨P,z,e⟩:=Ht e;obtain⟨ns,B,e⟩:=Ht e;obtain⟨hf,e⟩:=Iz e;cases e;rw[An]at hf;have a:=hf.1;have hlen:=of_decide_eq_true hf.2;obtain⟨v,rfl,p,rfl,C⟩:=R.one;obtain⟨u,rfl,E⟩:=r.one;cases E;obtain⟨T,h,F⟩:=KG S C z;obtain⟨m,G,pl,U⟩:=I.list h;obtain⟨l,K⟩:=aU F G B;refine call_sum_walk<|C4 pl.isList ?_;have f:p<s.heap.objs.size:=by
   obtain⟨o,_,e,_⟩:=pl;exact Ak e
  refine⟨_,_,_,_,_,_,λi=>ns.getD i 0,rfl,Walks.list (A:=X.A.in1) (I.ok.hd y) s.heap.objs.size p (Av f) m.toArray,⟨⟨_,Ap _ rfl,rfl,rfl⟩,?_⟩,?_,?_,?_,λW tk w hk=>?_⟩
  ·obtain⟨o,nn,e,c,Y,sq⟩:=pl;exact⟨o,Ad _ e,c,nn,sq⟩
  ·intro b hb;rw[A8];simp at hb
   rcases hb with hb|hb
   ·rw[hb];exact Cc _
   rw[hb];exact C8 f
  ·intro i v J;exact K i v<|by simpa using J
  ·intro j g;have g:j<ns.length:=by simpa[l]using g
   have b1:Oc (ns.getD j 0)=true:=by rw[Aw,Ai g];exact List.all_eq_true.mp a _<|Ba g
   have L:(ns.take<|j+1).all Oc=true:=List.all_eq_true.mpr λx h=>List.all_eq_true.mp a x<|Fe h;have Z:=cG L;rw[Wx ns (j+1) g];unfold Oc at b1;rw[An]at b1;have a1:=of_decide_eq_true b1.1;have a2:=of_decide_eq_true b1.2;have M:(ns.take<|j+1).length<=100000:=by rw[Bq];omega
   unfold InLong;dsimp only;omega
  ·refine⟨.int _,H,I.kept (t':=tk) λb o q=>hk b o ?_ (Ad _ q),⟨w,rfl⟩,?_⟩
   ·simp;exact Av<|Ak q
   ·have N:preSum (λi=>ns.getD i 0) m.toArray.size=ns.sum:=by
     rw[Ax,l,Wx ns ns.length (Ah _),Bb]
    rw[N];exact k.now S rfl
 ·cases e
def Nh:GN
 |[x],st=>(ID 100 st x).bind λp=>if(Dv p&&!p.hasDict&&fits p.shown.length)=true then some (.str p.shown,st)else none
 |_,_=>none
def WG(l:X.A.guards=some [])(C:X.A.units+110<cLine):Jw X (.builtin "repr") Nh:=by
 rintro qp s σ H xs us Q I r ⟨ds,st,io,d,st',R,S,e,k⟩;unfold Nh at e;split at e
 ·rename_i x;obtain⟨p,f,e⟩:=Ht e;obtain⟨hf,e⟩:=Iz e;cases e;rw[An,An]at hf;obtain⟨⟨g,n⟩,w⟩:=hf;have h:p.shown.length<=sizeLine:=of_decide_eq_true w;have m:p.hasDict=false:=by simpa using n
  obtain⟨v,rfl,y⟩:=R.one;obtain⟨u,rfl,B⟩:=r.one;have j:=(Mo f).2;obtain⟨as,c⟩:=Mt I S y B f;have fin:∀K u tk,(∀b o,s.heap.get? b=some o->K.get? b=some o)->EP X qp σ Q (.str p.shown u) {s with heap:=K,toks:=tk}:=λK u tk hk=>⟨.str p.shown,H,I.kept (t':=tk) λb o q=>hk b o q,⟨u,rfl⟩,k.now S rfl⟩
  cases u with
  |ref a=>exact repr_of_reads' c g (λz=>by rw[m]at z;cases z) l (by omega) (λb o q=>q) fin h
  |int i t=>
   cases c;exact PySem.P.repr_of_int (by simpa[Dv]using g)<|fin s.heap s.toks _ λb o q=>q
  |str z t=>
   cases c;exact PySem.P.repr_of_str (fin s.heap s.toks _ λb o q=>q)<|by simpa[PyData.shown]using h
  |bool b=>
   cases c;exact PySem.P.repr_of_bool<|fin s.heap s.toks _ λb o q=>q
  |none=>
   cases c;exact PySem.P.repr_of_none<|fin s.heap s.toks _ λb o q=>q
  |_=>cases c
 ·cases e
end
variable {o:Obj}{d it:Addr}{es:Array DictEntry}{prog:SZ}{w:World}{A:Around}{E:Qqa}{ep i:Nat}
def Wi{R:Qqa}(ty:s.TypeIs (.ref d) "dict")(hd:(d==sysModules)=false)(g:s.heap.get? d=some o)(a:o.data=.dict es ep)(k:R (.ref s.heap.objs.size) {s with heap:=s.heap.push {cls:=.type "dict_keyiterator",data:=.fields #[.ref d,.int 0 0,.int es.size 0,.int ep 0]} }):wpAny (KB prog w) A (pyIter<|.ref d) R E s:=by
 refine wpAny_pyIter_slot ty F.slot_dict_iter<|A9 F.slot_dict_iter ty F.entry_dict_iter ?go<|F.args_dict_iter_1 _;unfold Builtin.«dict.__iter__»;refine Aa ?_;unfold Builtin.Dict.dictSlotNone;refine Aa<|B7 ty ?_;show wpAny _ _ (pure<|AE d) _ _ s;refine Ac ?_;show wpAny _ _ (Builtin.Dict.showsAll d >>= _) _ _ s;unfold Builtin.Dict.showsAll;rw[if_neg (by rw[hd];exact AV)];refine Aa<|Ac<|Aa<|BU g a<|Aa<|Eo g a ?_;refine Aa (AO<|Ac ⟨_,rfl,"dict_keyiterator",_,⟨_,Ap _ rfl,rfl⟩,F.slot_dict_keyiterator_next.lookup,?_⟩);simpa[rawInt]using k
def cW{a:DictEntry}{R:Option IR->Shared->Prop}(hit:s.heap.IsKeyIter it d i es.size ep)(g:s.heap.get? d=some o)(f:o.data=.dict es ep)(h:es[i]?=some a)(k:∀h',h'.IsKeyIter it d (i+1) es.size ep->BB it s.heap h'->R (some a.key) {s with heap:=h'}):wpAny (KB prog w) A (pyNext<|.ref it) R E s:=by
 obtain⟨io,c,m,b⟩:=id hit;have own:Builtin.Dict_items.ownsTuple "dict_keyiterator"=false:=by decide
 unfold pyNext;refine Aa (DS<|A5 (name:=BC "__next__") hit.typeIs F.slot_dict_keyiterator_next<|A9 F.slot_dict_keyiterator_next hit.typeIs F.entry_dict_keyiterator_next ?_<|F.args_dict_keyiterator_next_1 _);refine Aa<|Ac<|Aa<|Aa ?_;refine Aa<|BW hit.typeIs<|Ac<|Aa<|wpAny_fieldsOf c b ?_;simp only[own,AQ,if_false];show wpAny _ _ (if(AE d==Bi)=true then _ else _) _ _ s;rw[if_neg (show ¬(AE d==Bi)=true from λz=>AV z)];refine Aa<|Ac<|Aa<|BU g f ?_;rw[if_neg (by simp)];refine Aa<|Ac<|Aa<|Eo g f ?_;rw[if_neg (by simp)];refine Ac ?_;have H:¬((i:Int)<0):=by omega
 simp only[H,if_false,By,h];refine Aa<|Aa<|BW hit.typeIs<|Ac<|Aa<|EU hit.typeIs ?_;show wpAny _ _ (setField (.ref it) 1 (rawInt<|(i:Int)+1) >>= _) _ _ s;refine Aa<|DG c b (by simp) ?_;have e:(s.heap.update it (GQ (·.setIfInBounds 1 (rawInt<|(i:Int)+1)))).IsKeyIter it d (i+1) es.size ep:=⟨_,BL _ c<|ES<|CW b _,(FU ..).trans m,by rw[CW b];simp[rawInt]⟩
 refine Aa (AM (Aa (EU (s:={s with heap:=s.heap.update it (GQ (·.setIfInBounds 1 (rawInt<|(i:Int)+1)))}) e.typeIs ?_)));show wpAny _ _ (pure a.key) _ _ _;exact Ac<|Ac ⟨_,rfl,Ac<|k _ e<|BY ..⟩
def cX{R:Option IR->Shared->Prop}(h:A.handled=none)(hit:s.heap.IsKeyIter it d i es.size ep)(g:s.heap.get? d=some o)(f:o.data=.dict es ep)(j:es[i]?=none)(k:∀h',EG it s.heap h'->R none {s with heap:=h'}):wpAny (KB prog w) A (pyNext<|.ref it) R E s:=by
 obtain⟨io,e,K,c⟩:=id hit;have own:Builtin.Dict_items.ownsTuple "dict_keyiterator"=false:=by decide
 unfold pyNext;refine Aa (DS<|A5 (name:=BC "__next__") hit.typeIs F.slot_dict_keyiterator_next<|A9 F.slot_dict_keyiterator_next hit.typeIs F.entry_dict_keyiterator_next ?_<|F.args_dict_keyiterator_next_1 _);refine Aa<|Ac<|Aa<|Aa ?_;refine Aa<|BW hit.typeIs<|Ac<|Aa<|wpAny_fieldsOf e c ?_;simp only[own,AQ,if_false];show wpAny _ _ (if(AE d==Bi)=true then _ else _) _ _ s;rw[if_neg (show ¬(AE d==Bi)=true from λz=>AV z)];refine Aa<|Ac<|Aa<|BU g f ?_;rw[if_neg (by simp)];refine Aa<|Ac<|Aa<|Eo g f ?_;rw[if_neg (by simp)];refine Ac ?_;have H:¬((i:Int)<0):=by omega
 simp only[H,if_false,By,j];refine Aa<|Aa<|BW hit.typeIs<|Ac ?_;show wpAny _ _ (setField (.ref it) 0 .none >>= _) _ _ s;refine Aa<|DG e c (by simp) ?_;show wpAny _ _ (newExc (.type "StopIteration") [] >>= _) _ _ _;simp only[newExc,newTuple];refine Aa (Aa<|AO (Aa (m:=firstArgMember _ _)<|F6 (a:=Bi) (by first|rfl|(simp only[firstArgMember];rfl))<|AO ?_<|by size_fits)<|by size_fits);simp only[raiseNew];refine Aa<|wpAny_handled ?_;rw[show A.in1.handled=none from h];refine Aa<|Ac<|wpAny_throw ?_;refine Aa (wpAny_isInstance (T:="StopIteration") (b:=true) ⟨_,Ap _ rfl,rfl⟩ isSubtype_stop<|Ac ?_);exact k _<|((BY ..).extBut.push _).push _
def gV(o:Obj)(d:Addr):It:=
 ⟨λi H=>∃c p,H d=some (.frz o<|.dT c)/\c[i]?=some p,λi H x e=>∃b c k v,e=H/\x=.ref b/\H d=some (.frz o<|.dT c)/\c[i]?=some (k,v)/\H b=some (.tup<|k.map kV),
  λi H=>∃c,H d=some (.frz o<|.dT c)/\c.length<=i⟩
variable {tg:Pv}
def zlN{P:SZ}(d it:Addr)(a:o.data=.dict es ep):
  Turn P w K tg (gV o d) [it] it (λi h=>h.IsKeyIter it d i es.size ep) where
 mem:=by simp
 obj:=λi h st b m=>by obtain⟨ob,e,c,l⟩:=st;rw[KM.mp m];exact⟨_,e,λv z=>by rw[l]at z;cases z⟩
 keep:=λi h f st k=>st.at λob e=>k it (by simp) ob e
 item:=by intro X n hw p y i qp s σ H E I hf st q;subst n hw p;obtain⟨B,⟨k,v⟩,j,r⟩:=q;obtain⟨g,C,ent⟩:=P6 (I.hok d _ j) a;obtain⟨F,b,he,A,m,L⟩:=ent i k v r;obtain⟨f0,f1,f2,u,f4,x⟩:=hf it (by simp);refine cW st g a he λf st' sb=>?_;have G:Inv X qp σ H {s with heap:=f}:=I.turned (t':=s.toks) (λb o m e=>(sb.2 b m).trans e) f0 f1 u f4 x;obtain⟨ob,e,c,l⟩:=id st';exact⟨F.key,rfl,QC (s:={s with heap:=f}) e c l (by decide) ⟨.ref b,H,G,by rw[A];rfl,⟨b,B,k,v,rfl,rfl,j,r,m⟩,st',λb m=>(hf b m).1⟩⟩
 done:=by intro X n hw p y i qp s σ H E I hf st q;subst n hw p;obtain⟨B,j,r⟩:=q;obtain⟨g,C,_⟩:=P6 (I.hok d _ j) a;obtain⟨f0,f1,f2,u,f4,x⟩:=hf it (by simp);exact cX (I.ok.hd y) st g a (by simp;omega) λf J=>⟨rfl,I.turned (t':=s.toks) (λb o m e=>J b o m e) f0 f1 u f4 x⟩
 self:=λ_ _ _ _ _ st h=>Ff st h
variable {n:Nat}{p:Addr}{y:V}
def Jl(kvs:List (List Key×D)):List D:=kvs.map λp=>.tup<|p.1.map RX
def Pz:D->Hf->Option (Wk×Hf)
 |.ref n,s=>match s[n]? with
  |some (.dt kvs)=>some (⟨Jl kvs,[]⟩,s.set n (.ft kvs))
  |_=>none
 |_,_=>none
def kO{ps:List (List Key×V)}{kvs:List (List Key×D)}(S:HA K H io st)(hn:io[n]?=some p)(f:H p=some (.frz o<|.dT ps))(r:KR (List Key) K H io ps kvs):Lr K H io ⟨Jl kvs,[]⟩ (gV o p) where
 go:= λi d H1 X s hd X1 E g=>by
  have u:=X1.frz _ _ _ f;have hd:(Jl kvs)[i]?=some d:=hd;unfold Jl at hd;rw[Ay]at hd;obtain⟨⟨k,y⟩,hk,rfl⟩:=Ig hd;have get:∀{l:List (List Key×V)} {m:List (List Key×D)} {i:Nat},KR (List Key) K H io l m->m[i]?=some (k,y)->∃v,l[i]?=some (k,v):=by
   intro l m i q
   induction q generalizing i with
   |nil=>intro e;simp at e
   |@cons a b _ _ h t C=>
    cases i with
    |zero=>
     intro e;simp at e;subst e;obtain⟨a1,a2⟩:=a;have z:a1=k:=h.1;subst z;exact⟨a2,rfl⟩
    |succ j=>intro e;exact C<|by simpa using e
  obtain⟨v,B⟩:=get r hk;refine⟨⟨ps,_,u,B⟩,λx J F=>?_⟩;obtain⟨b,G,L,M,rfl,rfl,c,w,I⟩:=F;rw[u]at c;cases c;rw[B]at w;cases w;exact⟨Ext.refl,E,⟨b,_,rfl,I,TB k⟩⟩
 stop:=λH1 X s X1 E g=>⟨ps,X1.frz _ _ _ f,by show ps.length<=(Jl kvs).length;unfold Jl;rw[Af,KR.length r];exact Ah _⟩
 stop':=λH1 X s i A X1 E g=>⟨ps,X1.frz _ _ _ f,by have A:(Jl kvs).length<=i:=A;unfold Jl at A;rw[Af,<-KR.length r]at A;exact A⟩
def Ov(m:ME):MI:=λU st=>(m U st).bind λ(d,s)=>Pz d s
def ZT{o:Pv}(F:SE X o m):SI X tg o (Ov m):=by
 rintro qp s σ H R I ⟨U,st,io,W,st',E,S,e,k⟩;obtain⟨⟨d,s1⟩,G,e⟩:=Ht e;cases d with
 |ref n=>
  unfold Pz at e;dsimp only at e;split at e
  ·rename_i A l;cases e;refine HC (F qp s σ H (λv c=>∃i,Ext io i H c/\HA X.K c (io++i) s1/\Rep X.K c (io++i) v (.ref n)) I ⟨U,st,io,_,s1,E,S,G,λv1 H1 w X1 S1 a=>⟨w,X1,S1,a⟩⟩) ?_;rintro v s2 ⟨x,H1,I1,L,w,X1,S1,a⟩;obtain⟨p,rfl,f⟩:=a;cases L;obtain⟨h,y,r⟩:=S1.ob n p _ f l;obtain⟨t1,Z,M⟩:=Ni I1<|.inr ⟨h,.inl y⟩;obtain⟨_,_,xs,_,o,es,ep,g,_,B,_,_⟩:=I1.hok p _ y;refine Wi (o:=o) (es:=es) (ep:=ep) t1 M g B ?_;have J:=I1.kept (t':=s2.toks) (h':=s2.heap.push {cls:=.type "dict_keyiterator",data:=.fields #[.ref p,.int 0 0,.int es.size 0,.int ep 0]}) λb u q=>Ad _ q;have N:=Inv.freeze J y (Ad _ g) (by simp) (by simp) (by simp) (by simp);obtain⟨X2,C⟩:=MY (o:=.frz o (.dT h)) (ob:=.ft A) S1 f l (λo u z=>by rw[y]at z;cases z) λc T P=>⟨o,h,P,KR.mono T r⟩
   refine⟨_,[_],_,_,_,rfl,N,zlN p _ B,⟨_,Ap _ rfl,rfl,rfl⟩,λb Q=>?_,?_⟩
   ·rw[KM.mp Q];refine I1.fpOk (Ah _) ?_;rw[HW (Bt<|Av<|Ak g)];exact I1.hok.fresh<|Ah _
   ·have j:((io++w)++[])[n]?=some p:=by rw[Ao];exact f
    have Y:=KR.mono (ka:=[]) (X2.kp S1) r;have ok:=kO C j Lc Y;refine k _ _ (w++[]) (X1.trans S1 X2) (by rw[<-Am];exact C) (by rw[<-Am];exact ok)
  ·cases e
 |_=>cases e
def Jk(st:Hf)(n:Nat)(k:D):Option (Option D):=match st[n]? with
 |some (.ft b)=>match k with
  |.tup ds=>(keysOf ds).map λq=>HQ b q
  |_=>none
 |_=>none
def cZ{k:D}{r:Option D}(S:HA K H io st)(a:io[n]?=some p)(f:Rep K H io y k)(h:Jk st n k=some r):∃o,Ja H p y o/\((r=none/\o=none)\/∃d v,r=some d/\o=some v/\Rep K H io v d):=by
 unfold Jk at h;split at h
 ·rename_i m e
  split at h
  ·rename_i ds;obtain⟨q,s,h⟩:=Ig h;subst h;obtain⟨ob,w,A,r⟩:=S.ob n p _ a e;obtain⟨b,xs,rfl,E,rs⟩:=f;have ex:=OZ rs s;subst ex;refine⟨_,.inr ⟨w,q,b,.inr ⟨ob,A⟩,rfl,E,rfl⟩,?_⟩
   rcases KR.val r q with⟨c,i⟩|⟨d,v,c,i,X⟩
   ·exact .inl ⟨c,i⟩
   exact .inr ⟨d,v,c,i,X⟩
  ·cases h
 ·cases h
variable {sl:Addr}{Q:Qqa}{α β:Type}
def zjx{t:Tok}{Q:Int×Int×Nat->Shared->Prop}(a:s.heap.IsSliceOf sl .none .none (.int (-1) t))(h:Q ((n:Int)-1,-1,n) s):wpAny (KB prog w) A (Builtin.Slice.sliceApplied (.ref sl)<|pure (n:Int)) Q E s:=by
 obtain⟨os,b,d,c⟩:=id a;unfold Builtin.Slice.sliceApplied Builtin.Slice.sliceFields;refine Aa<|Aa<|A7 b c (x:=.none) rfl<|Aa<|A7 b c (x:=.none) rfl<|Aa<|A7 b c (x:=.int (-1) t) rfl<|Ac ?_;refine Aa<|HT.II (.int (-1) t) ?_;show wpAny _ _ (if((-1:Int)==0)=true then _ else _) _ _ s;rw[if_neg (by decide)];refine Aa<|HT.II .none<|Aa<|HT.II .none<|Aa<|Ac ?_;have e:Builtin.Slice.sliceAdjust none none (-1) (n:Int)=((n:Int)-1,-1):=by unfold Builtin.Slice.sliceAdjust;simp
 have i:Builtin.Slice.slicePlaces ((n:Int)-1) (-1) (-1)=n:=by
  unfold Builtin.Slice.slicePlaces;have m:¬((-1:Int) > 0):=by decide
  simp only[m,if_false];by_cases hn:(-1:Int)<(n:Int)-1
  ·simp[hn]
  simp[hn];omega
 show wpAny _ _ (match Builtin.Slice.sliceAdjust none none (-1) (n:Int) with|(lo,o)=>pure (lo,(-1:Int),Builtin.Slice.slicePlaces lo o (-1))) _ _ s;rw[e];show wpAny _ _ (pure ((n:Int)-1,(-1:Int),Builtin.Slice.slicePlaces ((n:Int)-1) (-1) (-1))) _ _ s;rw[i];exact Ac h
theorem bC{α β:Type}{f g:α->Option β}:∀{l:List α},(∀x∈l,f x=g x)->l.filterMap f=l.filterMap g
 |[],_=>rfl
 |a::l,h=>by rw[BX,BX,h a Ar,bC λx j=>h x (Al _ j)]
def wM(xs:Array IR):((AB xs.size).filterMap λ(m:Nat)=>xs[(((xs.size:Int)-1)+(m:Int)*-1).toNat]?).toArray=xs.toList.reverse.toArray:=by
 congr 1
 have e:∀m∈AB xs.size,xs[(((xs.size:Int)-1)+(m:Int)*-1).toNat]?=xs[xs.size-1-m]?:=λm hm=>by
  have:=List.mem_range.mp hm;have:(((xs.size:Int)-1)+(m:Int)*-1).toNat=xs.size-1-m:=by omega
  rw[this]
 rw[bC e];have b:(AB xs.size).filterMap (λm=>xs[xs.size-1-m]?)=((AB xs.size).map λk=>xs.size-1-k).filterMap (xs[·]?):=by rw[Fw];rfl
 rw[b,PySem.W.krv_range,List.filterMap_reverse,PySem.W.krv_all]
def zes{t:Addr}{items:Array IR}{tk:Tok}(a:IsTup s.heap t items)(f:s.heap.IsSliceOf sl .none .none (.int (-1) tk))(h:Q (.ref s.heap.objs.size) {s with heap:=s.heap.push {cls:=.type "tuple",data:=.seq items.toList.reverse.toArray} }) (hsz:items.size<=sizeLine):wpAny (KB prog w) A (getItem (.ref t)<|.ref sl) Q E s:=by
 have b:sizeOk (.seq items.toList.reverse.toArray):=by show items.toList.reverse.toArray.size<=sizeLine;rw[Ax,Fm,AR];exact hsz
 obtain⟨os,c,d,n⟩:=id f;have e:s.TypeIs (.ref sl) "slice":=⟨os,c,d⟩;unfold getItem
 try with_reducible refine AM ?_
 first|refine Aa (Ac ?_)|skip
 refine Aa<|FO a.typeIs (by decide) ?_;refine Aa (A5 (name:=BC "__getitem__") a.typeIs BO<|A9 BO a.typeIs Fi ?_<|Fx _ _);show wpAny _ _ (Builtin.Tuple.tupleItemsOf (.ref t) >>= _) _ _ s;refine Aa<|tupleItemsOf_ a ?_;refine Aa<|Dl e ?_;rw[if_pos (by decide)];refine Aa<|zjx f ?_;have i:¬((((items.size:Int)-1)==0&&(-1:Int)==1&&items.size==items.size)=true):=by intro q;rw[An,An]at q;exact absurd q.1.2<|by decide
 show wpAny _ _ (if(((items.size:Int)-1)==0&&(-1:Int)==1&&items.size==items.size)=true then _ else _) _ _ s;rw[if_neg i,wM]
 first
  |exact Aa (m:=Builtin.Tuple.tupleExact _) (AO (Ac ⟨_,rfl,Ac h⟩) b)
  |exact Aa (m:=Builtin.Tuple.tupleExact _) (AO (Aa<|Ac<|Ac ⟨_,rfl,Ac h⟩) b)
  |exact Aa (Aa (m:=Builtin.Tuple.tupleExact _)<|AO (Ac<|Ac ⟨_,rfl,Ac h⟩) b)
  |exact Aa (Aa (m:=Builtin.Tuple.tupleExact _)<|AO (Ac ⟨_,rfl,Ac h⟩) b)
variable {mk md:ME}{apos cpos p2:Pos}{se:Pv}
section
variable {a:Pv}{es:List Pv}
def Su(st:Hf)(n:Nat)(k:D):Option (Option D):=LF (look st n k)<|Jk st n k
def zG{k:D}{r:Option D}(S:HA K H io st)(f:io[n]?=some p)(g:Rep K H io y k)(h:Su st n k=some r):∃o,Ja H p y o/\((r=none/\o=none)\/∃d v,r=some d/\o=some v/\Rep K H io v d):=by
 rcases Nr h with h|h
 ·exact VY S f g h
 exact cZ S f g h
def MN(st:Hf)(n:Nat):Bool:=match st[n]? with
 |some (.dk _)=>true
 |some (.dt _)=>true
 |some (.fk _)=>true
 |some (.ft _)=>true
 |_=>false
def Wd(S:HA K H io st)(f:io[n]?=some p)(h:MN st n=true):Sg H p:=by
 unfold MN at h;split at h
 ·rename_i a e;obtain⟨b,q,_⟩:=S.ob n p _ f e;exact .inl ⟨b,.inl q⟩
 ·rename_i a e;obtain⟨b,q,_⟩:=S.ob n p _ f e;exact .inr ⟨b,.inl q⟩
 ·rename_i a e;obtain⟨o,b,q,_⟩:=S.ob n p _ f e;exact .inl ⟨b,.inr ⟨o,q⟩⟩
 ·rename_i a e;obtain⟨o,b,q,_⟩:=S.ob n p _ f e;exact .inr ⟨b,.inr ⟨o,q⟩⟩
 ·cases h
def Nd(md mk:ME):ME:=λU st=>(md U st).bind λ(d,s1)=>match d with
 |.ref n=>if MN s1 n=true then(mk U s1).bind λ(k,s2)=>(Su s2 n k).map λr=>(r.getD .non,s2)else none
 |_=>none
def ZR{o:Pv}(f:X.A.units+1<cLine)(h:SE X o md)(he:SE X e mk)(mm:M1 X o "get" apos e cpos:=by exact⟨rfl,rfl,rfl,rfl⟩):SE X (.Call (.Attribute o "get" apos) [e] [] cpos) (Nd md mk):=
 PE.imp (wB f h he mm) <| by
  rintro σ H Q ⟨U,st,io,d,st',E,S,e,k⟩;obtain⟨⟨x,s1⟩,s,e⟩:=Ht e;cases x with
  |ref n=>
   obtain⟨hd,e⟩:=Iz e;obtain⟨⟨y,s2⟩,w,e⟩:=Ht e;obtain⟨r,K,e⟩:=Ig e;cases e;refine⟨U,st,io,_,s1,E,S,s,λv1 H1 j c b l=>?_⟩;obtain⟨p,rfl,i⟩:=l;refine⟨p,rfl,Wd b i hd,U,s1,io++j,y,_,E.ext S c,b,w,λv2 u B m a R2=>?_⟩;obtain⟨o,g,z⟩:=zG a (LQ i) R2 K;refine⟨o,g,?_⟩;rcases z with⟨rfl,rfl⟩|⟨C,v,rfl,rfl,q⟩
   ·exact((k.on b c).on a m).now a rfl
   exact((k.on b c).on a m).now a q
  |_=>cases e
def Ng:G2:=λd k st=>match d with
 |.ref n=>(Jk st n k).bind λr=>r.map λv=>(v,st)
 |_=>none
def bU{o i:Pv}(f:X.A.units+1<cLine)(h:SE X o md)(hi:SE X i mk)(j:MH i:=by intro _ _;rfl):SE X (.Subscript o i pos) (mB Ng md mk):=PE.imp (ZK f h hi j) <| by
 rintro σ H Q ⟨U,st,io,d,st',E,S,e,k⟩;obtain⟨⟨x,s1⟩,m,e⟩:=Ht e;obtain⟨⟨y,s2⟩,s,e⟩:=Ht e;cases x with
 |ref n=>
  obtain⟨r,K,e⟩:=Ht (show(Jk s2 n y).bind _=some (d,st') from e);obtain⟨w,l,e⟩:=Ig e;cases e;subst l;refine⟨U,st,io,_,s1,E,S,m,λv1 H1 q b c u=>⟨U,s1,io++q,y,_,E.ext S b,c,s,λv2 I J B a R2=>?_⟩⟩;obtain⟨p,rfl,C⟩:=u;obtain⟨o,g,⟨z,_⟩|⟨L,v,hd,F,G⟩⟩:=cZ a (LQ C) R2 K
  ·cases z
  ·cases hd;subst F;exact⟨p,v,rfl,g,((k.on c b).on a B).now a G⟩
 |_=>cases e
def lD(K:Ab)(f:TE)(ts:TO):TE:=λσ H Q=>f σ H λx H1=>ts σ H1 λk b=>k=some (-1)/\∃a xs,x=.ref a/\b a=some (.tup xs)/\∀p,b p=none->Q (.ref p) (upd b p<|.tup xs.reverse)
def tN{f:TE}{ts:TO}(he:PE X e f)(g:PO X (some se) ts):PE X (.Subscript e (.Slice none none (some se) p2) pos) (lD X.K f ts):=by
 intro qp s σ H Q I h;refine Fb<|HC (he qp s σ H _ I h) ?_;rintro v s1 ⟨x,H1,m,n,p⟩;refine wpAny_Slice ?_;rw[Fh];refine Ac<|Ac ?_;refine HC (g qp s1 σ H1 _ m p) ?_;rintro c s3 ⟨k,y,I3,E,hk,a,xs,j,l,u⟩;subst hk;subst j;cases n;have I4:Inv X qp σ y {s3 with heap:=s3.heap.push {cls:=.type "slice",data:=.fields #[.none,.none,c]} }:=I3.kept (t':=s3.toks) λb ob q=>Ad _ q;obtain⟨z,r,d,B⟩:=I4.tuple<|IK.of (K:=X.K) l;have hlen:=r.length;show wpAny (KB X.prog X.w) X.A (subscriptTail e (.Slice none none (some se) p2) (.ref a)<|.ref s3.heap.objs.size) (EP X qp σ Q) X.xe {s3 with heap:=s3.heap.push {cls:=.type "slice",data:=.fields #[.none,.none,c]} }
 cases E with
 |int i C=>
 refine tail_any (ops:=[.ref a,.ref s3.heap.objs.size]) d.typeIs PyProof.Rows.slot_tuple_getitem.lookup ?_ (by with_unfolding_all rfl);refine zes d (Fy ..) ?_ (by rw[Ax];omega);refine⟨.ref (s3.heap.push {cls:=.type "slice",data:=.fields #[.none,.none,.int (-1) C]}).objs.size,_,I4.laid (t':=s3.toks) (o:=.tup xs.reverse) (λb ob q=>Ad _ q) (Ah _) ?_,rfl,u _<|I4.hok.fresh<|Ah _⟩;exact⟨by rw[Fm];exact B,_,bR r,Lh.new _ _⟩
def UX(m mk:ME):ME:=λU st=>(m U st).bind λ(x,s1)=>(mk U s1).bind λ(k,s2)=>match x,k with
 |.tup ds,.int i=>if(decide (i=-1))=true then some (.tup ds.reverse,s2)else none
 |_,_=>none
def sW(he:SE X e m)(hk:SE X se mk):SE X (.Subscript e (.Slice none none (some se) p2) pos) (UX m mk):=
 PE.imp (tN he<|ZL hk) <| by
  rintro σ H Q ⟨U,st,io,d,st',E,S,e,k⟩;obtain⟨⟨x,s1⟩,s,e⟩:=Ht e;obtain⟨⟨y,s2⟩,w,e⟩:=Ht e;refine⟨U,st,io,x,s1,E,S,s,λv1 H1 A c a R1=>?_⟩;refine⟨U,s1,io++A,y,s2,E.ext S c,a,w,λv2 h j n o R2=>?_⟩;cases x with
  |tup ds=>
   cases y with
   |int i=>
    obtain⟨K,e⟩:=Iz e;cases e;have b:=of_decide_eq_true K;subst b;obtain⟨p,xs,rfl,f,r⟩:=R1.ext a n;exact⟨_,R2,rfl,p,xs,rfl,f,λl g=>((k.on a c).on o n).tup o (aS r) g⟩
   |_=>cases e
  |_=>cases e
end
def zg9:typeLookup (.type "tuple") "keys"=pure none:=by rw[typeLookup_type,ET];kernel_rfl
structure NX(prog:SZ)(w:World)(A:Around)(D I:Addr)(n:Nat)(key val:Nat->IR)(T:Nat->P3->Prop):Prop where
 keep:∀i h h',T i h->(∀b o,b≠I->h.get? b=some o->h'.get? b=some o)->T i h'
 step:∀i (s:Shared) (Q:Unit->Shared->Prop) (E:Qqa),i<n->T i s.heap->(∀h' tk,T (i+1) h'->BB D s.heap h'->Q () {s with heap:=h',toks:=tk})->wpAny (KB prog w) A (dictSet D (key i) (val i)) Q E s
variable {a I:Addr}{xs:Array IR}{x:Sr}{v:IR}{its:List IR}{key val:Nat->IR}{T:Nat->P3->Prop}{h h':P3}
def zkN{Q:Option IR->Shared->Prop}{k:Nat}{sl:Array (Option IR)}(f:s.heap.get? a=some {cls:=.type "tuple",dict:=none,data:=.seq xs k,slots:=sl})(j:A.handled=none)(h:∀h' tk,(∀b u,s.heap.get? b=some u->h'.get? b=some u)->Q none {s with heap:=h',toks:=tk}):wpAny (KB prog w) A (getAttr? (.ref a) "keys") Q E s:=by
 obtain⟨n,g,d,tk,os⟩:=s;have m:∀c,(⟨n,g,d,c,os⟩:Shared).TypeIs (.ref a) "tuple":=λ_=>⟨_,f,rfl⟩;have f1:=FC;have o:=F.slot_tuple_getattribute.lookup;have f4:=F.slot_tuple_getattribute.bind<|.ref a;have p:=am_tuple_getattr_none;unfold getAttr? getAttrBy? getAttrBy
 repeat (any_goals (first|assumption|exact m _|((with_reducible show wpAny _ _ (call (GO "tuple.__getattribute__") _ _) _ _ _);refine D0 F.slot_tuple_getattribute (m _) am_entry_tuple_getattribute (F.args_tuple_getattribute_2 _ _) (meets_getattribute_miss_tuple a xs k sl _ _ zg9<|by decide +kernel) ⟨f,j,λh' c e i=>?_⟩)|wp_step))
 obtain⟨v,x,he⟩:=i.there;show wpAny _ _ (getattributeRaised _ _ _ _ _ _ _) _ _ _;unfold getattributeRaised
 repeat (any_goals (first|assumption|wp_step))
 exact h _ _ i.keeps
def Sr.nextN{R:Option IR->Shared->Prop}(hit:x.at_ s.heap it i)(h:x.is s.heap xs)(f:xs[i]?=some v)(k:∀h',x.at_ h' it (i+1)->BB it s.heap h'->R (some v) {s with heap:=h'}):
  wpAny (KB prog w) A (pyNext<|.ref it) R E s:=by
 cases x with
 |l a=>exact Cp hit h f k
 |t a=>exact Ee (show s.heap.IsTupleIter it a i from hit) (show s.heap.IsTuple a xs from h) f k
def Sr.stopN{R:Option IR->Shared->Prop}(f:A.handled=none)(hit:x.at_ s.heap it i)(h:x.is s.heap xs)(g:xs[i]?=none)(k:∀h',EG it s.heap h'->R none {s with heap:=h'}):
  wpAny (KB prog w) A (pyNext<|.ref it) R E s:=by
 cases x with
 |l a=>exact Cz f hit h g k
 |t a=>exact Eu f (show s.heap.IsTupleIter it a i from hit) (show s.heap.IsTuple a xs from h) g k
def jB{R:Result->Shared->Prop}{D:Addr}{h0:P3}(F:NX prog w A.in1 D I n key val T)(P:A.in1.handled=none)(S:its.length=n)(f:D≠I)(l:x.ad≠D)(r:x.ad≠I):
  ∀(k i:Nat) (s:Shared),n-i=k->i<=n->x.at_ s.heap I i->x.is s.heap its.toArray->T i s.heap ->
  (∀(j:Nat) (v:IR),its[j]?=some v->∃p,v=.ref p/\IsTup s.heap p #[key j,val j]/\p≠D/\p≠I)->(∀b o,b≠D->b≠I->h0.get? b=some o->s.heap.get? b=some o) ->
  (∀h' tk,T n h'->(∀b o,b≠D->b≠I->h0.get? b=some o->h'.get? b=some o)->R (.ok<|.ret .none) {s with heap:=h',toks:=tk}) ->
  codeAny (KB prog w) A (.builtin "dict.update.loop" ⟨[.ref D,.ref I,rawInt i,.none],[]⟩) R s:=by
 intro k
 induction k with
 |zero=>
  intro i s hk U hit a hd H h0k hR;have K:i=n:=by omega
  subst K;refine BA T9 ?_;rw[A6 Nv _];show wpAny _ A.in1 (pyNext (.ref I) >>= _) _ _ s;refine Aa<|Sr.stopN P hit a (by simp[S]) λh' hx=>?_;show wpAny _ A.in1 (Builtin.Dict.addKeywords D [] >>= λ_=>ret .none) _ _ _;exact Aa<|Ac<|Ac<|hR h' s.toks (F.keep _ _ _ hd λb o m e=>hx b o m e) λb o Q y e=>hx b o y (h0k b o Q y e)
 |succ k W=>
  intro i s hk U hit a hd H h0k hR;have X:i<n:=by omega
  have h:i<its.length:=by omega
  refine BA T9 ?_;rw[A6 Nv _];show wpAny _ A.in1 (pyNext (.ref I) >>= _) _ _ s;have Y:its[i]?=some its[i]:=Ai h;refine Aa<|Sr.nextN (v:=its[i]) hit a (by simp[h]) λh' E hx=>?_;obtain⟨p,ep,Z,nD,nI⟩:=H i _ Y;have z:IsTup h' p #[key i,val i]:=by obtain⟨o,g,c⟩:=Z;exact⟨o,hx.extBut p o nI g,c⟩
  have B:T i h':=F.keep _ _ _ hd λb o m e=>hx.extBut b o m e;rw[ep];refine Aa<|AM<|Aa<|CA<|fP (s:={s with heap:=h'}) z ?_;refine AM<|F.step i {s with heap:=h'} _ _ X B λy C hd2 G=>?_;have d:∀b o,b≠D->h'.get? b=some o->y.get? b=some o:=λb o m e=>G.extBut b o m e;refine Ac ⟨BD Nv _,?_⟩;refine W (i+1) {s with heap:=y,toks:=C} (by omega) (by omega) ?_ ?_ hd2 (λj v Q=>?_) (λb o b1 L e=>d b o b1 (hx.extBut b o L<|h0k b o b1 L e)) λh3 J d3 k3=>hR h3 J d3 k3
  ·exact Sr.at_keep E λu e=>d I u (Bt f) e
  ·exact Sr.is_keep (Sr.is_keep a λu e=>hx.extBut _ u r e) λu e=>d _ u l e
  obtain⟨q,e,⟨o,g,c⟩,M,N⟩:=H j v Q;exact⟨q,e,⟨o,d q o M<|hx.extBut q o N g,c⟩,M,N⟩
def Sr.pl(h:P3)(xs:Array IR):Sr->Prop
 |.l a=>PlainL h a xs
 |.t a=>Lh h a xs
def Sr.pl_is(q:x.pl h xs):x.is h xs:=by
 cases x with
 |l a=>exact PlainL.isList q
 |t a=>exact Lh.t q
def Sr.pl_keep(q:x.pl h xs)(k:∀b u,h.get? b=some u->h'.get? b=some u):x.pl h' xs:=by
 cases x with
 |l a=>exact PlainL.keeps q k
 |t a=>exact Lh.keeps q k
def fI(G:A.handled=none)(f:x.pl s.heap its.toArray)(J:its.length=n)(L:∀I:Addr,s.heap.objs.size<I->NX prog w A.in1.in1 s.heap.objs.size I n key val T) (h0:T 0 (s.heap.push Qqd))(M:∀(j:Nat) (v:IR),its[j]?=some v->∃p,v=.ref p/\IsTup s.heap p #[key j,val j])(h:∀h' tk,T n h'->(∀b o,s.heap.get? b=some o->h'.get? b=some o)->Q (.ref s.heap.objs.size) {s with heap:=h',toks:=tk}):
  wpAny (KB prog w) A (call (.type "dict") [.ref x.ad]) Q E s:=by
 refine callType_codes (Q₁:=λobj s₁=>obj=.ref s.heap.objs.size/\s₁={s with heap:=s.heap.push Qqd}) F.kt_called_dict (F.kt_typeCall_dict_1 _) F.entry_dict_init (kt_code_dict_new _ ⟨rfl,rfl⟩) ?_;rintro obj s₁ ⟨rfl,rfl⟩;have H:Shared.TypeIs {s with heap:=s.heap.push Qqd} (.ref s.heap.objs.size) "dict":=⟨_,Ap _ rfl,rfl⟩
 have k1:∀b o,s.heap.get? b=some o->(s.heap.push Qqd).get? b=some o:=λb o e=>Ad _ e;have i:=Sr.pl_keep f k1;have hlt:∀b o,s.heap.get? b=some o->b<s.heap.objs.size:=λb o e=>Ak e;have K:x.ad<s.heap.objs.size:=by obtain⟨o,g⟩:=Sr.is_get<|Sr.pl_is f;exact hlt _ o g
 refine⟨H,F.args_dict_init_2 _ _,?_⟩;unfold Builtin.«dict.__init__»;refine Aa ?_;unfold Builtin.Dict.selfAndRest;refine Aa<|B7 H ?_;show wpAny _ _ (pure (s.heap.objs.size,[AE x.ad])) _ _ _;refine Ac ?_;show wpAny _ _ (Builtin.Dict.updateFrom "dict.__init__" s.heap.objs.size (.ref x.ad) [] .none) _ _ _;unfold Builtin.Dict.updateFrom;have rest:∀(m:P3) (d:Nat),(∀b u,(s.heap.push Qqd).get? b=some u->m.get? b=some u) ->
   codeAny (KB prog w) A.in1 (.builtin "dict.update.loop" ⟨[.ref s.heap.objs.size,.ref m.objs.size,rawInt (0:Nat),.none],[]⟩) (wants (λr s₂=>r=.none/\Q (.ref s.heap.objs.size) s₂) E) {s with heap:=m.push x.ob,toks:=d}:=by
  intro m d k2;have X:=Sr.pl_keep i k2;have y:s.heap.objs.size<m.objs.size:=by obtain⟨o,N,_⟩:=H;exact Ak<|k2 _ o N
  have C:∀b o,m.get? b=some o->(m.push x.ob).get? b=some o:=λb o e=>Ad _ e;have P:s.heap.objs.size≠m.objs.size:=Av y;have S:x.ad≠s.heap.objs.size:=Av K;have U:x.ad≠m.objs.size:=Av<|B2 K y;have FF:=L m.objs.size y;refine jB (A:=A.in1) (h0:=s.heap) (x:=x) (its:=its) FF G J P S U n 0 {s with heap:=m.push x.ob,toks:=d} rfl (A0 _) ?_ (Sr.pl_is<|Sr.pl_keep X C) ?_ (λj v W=>?_) (λb o _ _ e=>C b o (k2 b o<|k1 b o e)) λh' tk Y Z=>?_
  ·exact Sr.at_new<|Ap _ (by cases x<;>rfl)
  ·exact FF.keep _ _ _ h0 λb o _ e=>C b o (k2 b o e)
  ·obtain⟨p,e,⟨o,g,c⟩⟩:=M j v W;exact⟨p,e,⟨o,C p o<|k2 p o<|k1 p o g,c⟩,Av<|hlt p o g,Av<|B2 (hlt p o g) y⟩
  exact⟨rfl,h h' tk Y λb o e=>Z b o (Av<|hlt b o e) (Av<|B2 (hlt b o e) y) e⟩
 cases x with
 |l a=>
  obtain⟨⟨cl,di,da,sl⟩,nn,g1,q,z,B⟩:=id i;simp only at q z B;subst q z B;refine Aa (Dl (show Shared.TypeIs {s with heap:=s.heap.push Qqd} (.ref a) "list" from⟨_,g1,rfl⟩) ?_);rw[if_pos (by decide)];refine Aa<|cV g1 G λm d k2=>?_;simp only[Cn,if_true];refine Aa<|BR ?_;refine Aa<|Sr.iter (x:=.l a) (s:={s with heap:=m,toks:=d}) (xs:=its.toArray) (Sr.pl_is (x:=.l a)<|Sr.pl_keep (x:=.l a) i k2) ?_;exact Ac ⟨BD Nv _,rest m d k2⟩
 |t a=>
  obtain⟨⟨cl,di,da,sl⟩,g1,q,z,nn,B⟩:=id i;simp only at q z B;subst q z B;refine Aa (Dl (show Shared.TypeIs {s with heap:=s.heap.push Qqd} (.ref a) "tuple" from⟨_,g1,rfl⟩) ?_);rw[if_pos (by decide)];refine Aa<|zkN g1 G λm d k2=>?_;simp only[Cn,if_true];refine Aa<|BR ?_;refine Aa<|Sr.iter (x:=.t a) (s:={s with heap:=m,toks:=d}) (xs:=its.toArray) (Sr.pl_is (x:=.t a)<|Sr.pl_keep (x:=.t a) i k2) ?_;exact Ac ⟨BD Nv _,rest m d k2⟩
noncomputable abbrev K1:=List Key×Addr×IR
def Mi(acc xs:List K1):List K1:=xs.foldl (λacc x=>storedH acc x.1 x.2.1 x.2.2) acc
variable {k:List Key}
def zi9{acc:List K1}{x:K1}(h:x∈storedH acc k a v):(∃y∈acc,y.1=x.1/\y.2.1=x.2.1)\/(x.1=k/\x.2.1=a):=by
 unfold storedH at h;split at h
 ·obtain⟨y,b,e⟩:=SL.mp h;refine .inl ⟨y,b,?_⟩;rw[<-e];unfold putAt
  split<;>exact⟨rfl,rfl⟩
 ·rcases Os.mp h with h|h
  ·exact .inl ⟨x,h,rfl,rfl⟩
  rw[KM.mp h];exact .inr ⟨rfl,rfl⟩
theorem cA:∀{xs acc:List K1}{x:K1},x∈Mi acc xs->(∃y∈acc,y.1=x.1/\y.2.1=x.2.1)\/∃y∈xs,y.1=x.1/\y.2.1=x.2.1
 |[],acc,x,h=>.inl ⟨x,h,rfl,rfl⟩
 |z::zs,acc,x,h=>by
  rcases cA (xs:=zs) (acc:=storedH acc z.1 z.2.1 z.2.2) h with⟨y,f,e1,e2⟩|⟨y,f,e⟩
  ·rcases zi9 f with⟨u,g,f1,f2⟩|⟨f1,f2⟩
   ·exact .inl ⟨u,g,f1.trans e1,f2.trans e2⟩
   exact .inr ⟨z,Ar,f1.symm.trans e1,f2.symm.trans e2⟩
  exact .inr ⟨y,Al _ f,e⟩
def zja(acc:List K1)(k:List Key)(a:Addr)(v:IR):(storedH acc k a v).length<=acc.length+1:=by unfold storedH;split<;>simp
theorem Wz:∀(xs acc:List K1),(Mi acc xs).length<=acc.length+xs.length
 |[],acc=>by show acc.length<=acc.length+0;omega
 |z::zs,acc=>by have f:=Wz zs<|storedH acc z.1 z.2.1 z.2.2;have a:=zja acc z.1 z.2.1 z.2.2;show(Mi (storedH acc z.1 z.2.1 z.2.2) zs).length<=_;rw[Au];omega
def zke{xs:List K1}{x:K1}(e:xs[i]?=some x):Mi [] (xs.take<|i+1)=storedH (Mi []<|xs.take i) x.1 x.2.1 x.2.2:=by rw[Bj,e];unfold Mi;rw[FW];rfl
def RY(xs:List K1)(i:Nat):IR:=match xs[i]? with|some x=>.ref x.2.1|none=>.none
def RD(xs:List K1)(i:Nat):IR:=match xs[i]? with|some x=>x.2.2|none=>.none
def FT(prog:SZ)(w:World)(D:Addr)(xs:List K1)(i:Nat)(h:P3):Prop:=h.DictOfH (tupleKind<|Jb prog w) D (Mi []<|xs.take i)/\∀x∈xs,(tupleKind<|Jb prog w).is h x.1 x.2.1
def Wg{b:Addr}(q:(tupleKind<|Jb prog w).is h k b)(f:∀o,h.get? b=some o->h'.get? b=some o):(tupleKind<|Jb prog w).is h' k b:=by obtain⟨o,its,n,a,r⟩:=q;exact⟨o,its,n,f o a,r⟩
def iX{D:Addr}{xs:List K1}(j:A.units<cLine)(f:D≠I)(l:∀x∈xs,x.2.1≠I)(q:∀x∈xs,x.2.1≠D)(hz:xs.length<=sizeLine):NX prog w A D I xs.length (RY xs) (RD xs) (FT prog w D xs) where
 keep:=by
  rintro i h h' ⟨⟨o,es,ep,n,p,hd,he,v,H⟩,hk⟩ k;have all:∀x∈xs,(tupleKind<|Jb prog w).is h' x.1 x.2.1:=λx a=>Wg (hk x a) λo e=>k _ o (l x a) e;refine⟨⟨o,es,ep,k _ o f n,p,hd,he,λx a=>?_,H⟩,all⟩
  rcases cA a with⟨y,b,_⟩|⟨y,b,K,T⟩
  ·exact nomatch b
  have:=all y<|Fe b;rw[K,T]at this;exact this
 step:=by
  rintro i s Q E d ⟨hd,hk⟩ h;have e:xs[i]?=some xs[i]:=Ai d;have X:RY xs i=.ref xs[i].2.1:=by unfold RY;rw[e]
  have ev:RD xs i=xs[i].2.2:=by unfold RD;rw[e]
  rw[X,ev];have r:(Mi []<|xs.take i).length<=sizeLine:=by have:=Wz (xs.take i) [];rw[Bq,Be]at this;omega
  refine wpAny_dictSet_heap (hsz:=r) j (hk _<|Ba d) hd λh' c m=>h h' _ ⟨?_,λx a=>?_⟩ m
  ·rw[zke e];exact c
  exact Wg (hk x a) λo g=>m.extBut _ o (q x a) g
variable {κ:Type}
def Og[DecidableEq κ](kvs more:List (κ×V)):List (κ×V):=more.foldl (λacc a=>putK acc a.1 a.2) kvs
def Of(kvs more:List (List Key×D)):List (List Key×D):=more.foldl (λacc a=>putD acc a.1 a.2) kvs
def YN:D->Option (List Key×D)
 |.tup [.tup ks,v]=>(keysOf ks).map λq=>(q,v)
 |_=>none
def OP:List D->Option (List<|List Key×D)
 |[]=>some []
 |d::r=>(YN d).bind λt=>(OP r).map λts=>t::ts
def wW:∀{more:List (List Key×V)} {f:List K1} {kvs:List (List Key×V)} {xs:List K1},KT H more f->KT H kvs xs->KT H (Og kvs more) (Mi xs f):=by
 intro more f kvs xs r
 induction r generalizing kvs xs with
 |nil=>intro q;exact q
 |@cons p q c d h t a=>
  intro b;have e:KT H (putK kvs p.1 p.2) (storedH xs q.1 q.2.1 q.2.2):=by rw[<-h.1];exact KT.put b p.1 h.2.1 h.2.2
  exact a e
def xR:∀{more:List (List Key×V)} {M9:List (List Key×D)} {kvs:List (List Key×V)} {f:List (List Key×D)},KR (List Key) K H io more M9->KR (List Key) K H io kvs f->KR (List Key) K H io (Og kvs more) (Of f M9):=by
 intro more M9 kvs f r;unfold KR at r
 induction r generalizing kvs f with
 |nil=>intro q;exact q
 |@cons p q c d h t a=>
  intro b;have e:KR (List Key) K H io (putK kvs p.1 p.2) (putD f q.1 q.2):=by rw[<-h.1];exact KR.put b p.1 h.2
  exact a e
theorem ZN(I:Inv X qp σ H s):∀{l:List V}{ds:List D} {f:List (List Key×D)} {its:List IR},Hi X.K H io l ds->OP ds=some f->Vals l its ->
  ∃(g:List (List Key×V)) (xs:List K1),KR (List Key) X.K H io g f/\KT H g xs/\its.length=xs.length/\xs.length=f.length/\∀(j:Nat) (v:IR) (x:K1),its[j]?=some v->xs[j]?=some x->∃p,v=.ref p/\IsTup s.heap p #[.ref x.2.1,x.2.2]
 |_,[],f,_,h,e,r=>by
  cases e;cases (show _=[] from h)
  cases r;exact⟨[],[],.nil,.nil,rfl,rfl,λj v z h=>by simp at h⟩
 |_,d::ds,f,_,h,e,r=>by
  obtain⟨y,l,rfl,B,C⟩:=h;obtain⟨t,a,e⟩:=Ht e;obtain⟨Y,c,e⟩:=Ig e;subst e;cases r with
  |@cons _ u _ us m i=>
   obtain⟨g,xs,a1,a2,n,o,w⟩:=ZN I C c i;unfold YN at a;split at a
   ·rename_i ks v;obtain⟨q,eq1,a⟩:=Ig a;subst a;obtain⟨p,Z,rfl,A,rs⟩:=B;obtain⟨v1,w1,rfl,E,rs⟩:=rs;obtain⟨v2,Q,rfl,T,rs⟩:=rs
    cases (show Q=[] from rs)
    obtain⟨b,zs,rfl,F,G⟩:=E;have J:=OZ G eq1;subst J;cases m;obtain⟨ia,L,M,_⟩:=I.tuple<|IK.of (K:=X.K) A
    cases L with
    |cons N t1=>
     cases t1 with
     |cons P S=>
      cases S;rename_i U W;cases (show U=AE b from N)
      refine⟨(q,v2)::g,(q,b,W)::xs,.cons ⟨rfl,T⟩ a1,.cons ⟨rfl,F,P⟩ a2,by rw[Au,Au,n],by rw[Au,Au,o],λj v z a c=>?_⟩
      cases j with
      |zero=>
       cases a;cases c;exact⟨p,rfl,M⟩
      |succ j=>exact w j v z a c
   ·cases a
def iG{k:Nat}(f:HK k A):A.units+2<cLine:=by have:=f.un;omega
def Qr:GN
 |[.ref n],st=>(HZ st n).bind λds=>(OP ds).bind λf=>if fits f.length=true then some (.ref st.length,st++[.dt (Of [] f)])else none
 |[.tup ds],st=>(OP ds).bind λf=>if fits f.length=true then some (.ref st.length,st++[.dt (Of [] f)])else none
 |_,_=>none
def aH{r:List V}{ds:List D}{l:List (List Key×D)}(I:Inv X qp σ H s)(M:A.handled=none)(N:A.units+2<cLine)(pl:x.pl s.heap its.toArray)(P:Vals r its)(r1:Hi X.K H io r ds)(S:OP ds=some l)(hf:l.length<=sizeLine)(h:∀s' f,Inv X qp σ (upd H s.heap.objs.size<|.dT<|Og [] f) s'->KR (List Key) X.K H io f l->Q (.ref s.heap.objs.size) s'):wpAny (KB X.prog X.w) A (call (.type "dict") [.ref x.ad]) Q E s:=by
 obtain⟨f,xs,a1,a2,m,z,B⟩:=ZN I r1 S P;have C:xs.length<=sizeLine:=by rw[z];exact hf
 have c:∀y∈xs,(tupleKind<|Jb X.prog X.w).is s.heap y.1 y.2.1:=by
  clear B z m C a1
  induction a2 with
  |nil=>intro y hy;exact nomatch hy
  |@cons p q ps qs F t U=>
   intro y hy;rcases On.mp hy with e|hy
   ·subst e;exact Nj I.hok (by rw[<-F.1];exact F.2.1)
   exact U y hy
 have d:∀y∈xs,y.2.1<s.heap.objs.size:=λy hy=>by obtain⟨o,_,_,g,_⟩:=c y hy;exact Ak g
 refine fI (T:=FT X.prog X.w s.heap.objs.size xs) (key:=RY xs) (val:=RD xs) M pl m (λi G=>iX N (Av G) (λy hy=>Av (B2 (d y hy) G)) (λy hy=>Av (d y hy)) C) ⟨Heap.DictOfH.new s.heap,λy hy=>Wg (c y hy) λo g=>Ad _ g⟩ (λj v e=>?_) λh' tk W Y=>?_
 ·have Z:j<xs.length:=by
   rw[<-m];exact(KF.mp e).1
  have ex:xs[j]?=some xs[j]:=Ai Z;obtain⟨p,ep,tp⟩:=B j v _ e ex;refine⟨p,ep,?_⟩;unfold RY RD;rw[ex];exact tp
 ·have hlV:f.length=xs.length:=Bc a2;obtain⟨⟨o,es,ep,ho,hc,n,he,u,J⟩,_⟩:=W;rw[Bb]at he u J;have L:KT H (Og [] f) (Mi [] xs):=wW a2 .nil;have hm:(Og [] f).length<=sizeLine:=by
   have:=Wz xs [];rw[Bc L];rw[Be]at this;omega
  have hd:(s.heap.objs.size==sysModules)=false:=beq_eq_false_iff_ne.mpr<|Bt<|Av I.big;refine h _ f (I.laid (a:=s.heap.objs.size) (o:=.dT (Og [] f)) (t':=tk) Y (Ah _) ⟨hm,hd,Mi [] xs,?_,o,es,ep,ho,hc,n,he,J⟩) a1;exact KT.keeps L λb r e=>by rw[HW (J7 e<|I.hok.fresh<|Ah _)];exact e
def zju(g:X.calm=true)(j:X.A.units+2<cLine):Jw X (.type "dict") Qr:=by
 rintro qp s σ H xs us Q I r ⟨ds,st,io,d,st',R,S,e,k⟩;have fin:∀(a:List (List Key×D)),(d,st')=(D.ref st.length,st++[O.dt (Of [] a)])->∀c b,Inv X qp σ (upd H s.heap.objs.size<|.dT<|Og [] b) c->KR (List Key) X.K H io b a->∃v h,Inv X qp σ h c/\RelV v (.ref s.heap.objs.size)/\Q v h:=λa z c b B a1=>by
  cases z;obtain⟨C,F⟩:=PJ (o:=.dT (Og [] b)) (ob:=.dt (Of [] a)) S (I.hok.fresh<|Ah _) λh T e=>⟨_,e,xR (KR.mono T a1) .nil⟩
  exact⟨.ref s.heap.objs.size,_,B,rfl,k _ _ [s.heap.objs.size] C F ⟨s.heap.objs.size,rfl,by rw[<-S.len];exact getElem?_len io _⟩⟩
 unfold Qr at e;split at e
 ·rename_i n;obtain⟨zs,G,e⟩:=Ht e;obtain⟨a,i,e⟩:=Ht e;obtain⟨hf,e⟩:=Iz e;obtain⟨v,rfl,p,rfl,m⟩:=R.one;obtain⟨u,rfl,y⟩:=r.one;cases y;obtain⟨q,J,E⟩:=KG S m G;obtain⟨its,f,pl,L⟩:=I.list J;exact aH (x:=.l p) I (I.ok.hd g) j pl f E i (of_decide_eq_true hf)<|fin a (by cases e;rfl)
 ·rename_i zs;obtain⟨a,i,e⟩:=Ht e;obtain⟨hf,e⟩:=Iz e;obtain⟨v,rfl,p,q,rfl,m,E⟩:=R.one;obtain⟨u,rfl,y⟩:=r.one;cases y;obtain⟨L,its,f,pl⟩:=(show Jv X.prog X.w H s.heap p (.tup q) from I.hok p _ m)
  exact aH (x:=.t p) I (I.ok.hd g) j pl f E i (of_decide_eq_true hf)<|fin a (by cases e;rfl)
 ·cases e
def VQ{k:Nat}(f:HK k A):A.units+110<cLine:=by have:=f.un;omega
def IV:G2:=intD (λi j=>decide (Builtin.Int.intBits i<=2^20)&&decide (Builtin.Int.intBits j<=2^20)) λi j=>.int<|i*j
def Q0:Jj X (binaryOp .Mult) IV:=PN (C:=λi j=>Builtin.Int.intBits i<=2^20/\Builtin.Int.intBits j<=2^20) (RO λi j _ _ _ _ _ a q=>PyProof.Rows.mul_int q (IntMulOk.of_bits a.1 a.2)) λi j h=>by rw[An]at h;exact⟨of_decide_eq_true h.1,of_decide_eq_true h.2⟩
def Pf:G2
 |.str x,.str y,st=>some (.bl (x != y),st)
 |_,_,_=>none
def Zn:Jj X (Re .NotEq) Pf:=by
 rintro qp s σ H x y v u Q I a b ⟨i,m,st,io,d,st',c,h,S,e,k⟩;unfold Pf at e;split at e
 ·cases e
  cases (show x=_ from c)
  cases (show y=_ from h)
  obtain⟨t,rfl⟩:=a;obtain⟨n,rfl⟩:=b;exact PyProof.Rows.ne_str ⟨.bl _,H,I,rfl,k.now S rfl⟩
 ·cases e
def FK(prog:SZ)(w:World)(D:Addr)(kvs:List (Key×IR))(i:Nat)(h:P3):Prop:=h.DictOf (Jb prog w) D<|merged []<|kvs.take i
def Qk(xs:List IR)(i:Nat):IR:=match xs[i]? with|some x=>x|none=>.none
def RC(xs:List (Key×IR))(i:Nat):IR:=match xs[i]? with|some x=>x.2|none=>.none
def iW{D:Addr}{kvs:List (Key×IR)}{f:List IR}(g:D≠I)(hz:kvs.length<=sizeLine)(hk:∀(j:Nat) (l:Key×IR),kvs[j]?=some l->(Jb prog w).is l.1 (Qk f j)=true):NX prog w A D I kvs.length (Qk f) (RC kvs) (FK prog w D kvs) where
 keep:=λi h h' ⟨o,es,ep,b,r⟩ k=>⟨o,es,ep,k D o g b,r⟩
 step:=λi s Q E c hd h=>by
  have e:kvs[i]?=some kvs[i]:=Ai c;have ev:RC kvs i=kvs[i].2:=by unfold RC;rw[e]
  rw[ev];have d:(merged []<|kvs.take i).length<=sizeLine:=by have:=WK (kvs.take i) [];rw[Bq,Be]at this;omega
  refine Fk (hk i _ e) hd (λh' a m=>h h' _ ?_ m) d;have n:stored (merged []<|kvs.take i) kvs[i].1 kvs[i].2=merged [] (kvs.take<|i+1):=(merged_take_succ [] kvs i _ e).symm;unfold FK;rw[<-n];exact a
theorem bY{h:P3}:∀{its:List IR} {kvs:List (Key×IR)},its.length=kvs.length->(∀(j:Nat) (v:IR) (f:Key×IR),its[j]?=some v->kvs[j]?=some f->N7 prog w h v f) ->
  ∃g:List IR,∀(j:Nat) (v:IR) (f:Key×IR),its[j]?=some v->kvs[j]?=some f->∃p,v=.ref p/\IsTup h p #[Qk g j,f.2]/\(Jb prog w).is f.1 (Qk g j)=true
 |[],kvs,_,_=>⟨[],λj v f e=>by simp at e⟩
 |v::its,[],e,_=>by cases e
 |v::its,f::kvs,e,l=>by
  obtain⟨g,hk⟩:=bY (its:=its) (kvs:=kvs) (by simpa using e) λj u q a b=>l (j+1) u q a b;obtain⟨p,c,a,b,d⟩:=l 0 v f rfl rfl;refine⟨c::g,λj u q f1 f2=>?_⟩
  cases j with
  |zero=>
   cases f1;cases f2;exact⟨p,a,b,d⟩
  |succ j=>exact hk j u q f1 f2
def Sn:GN
 |[.tup ds],st=>(Pw ds).bind λf=>if fits f.length=true then some (.ref st.length,st++[.dk (Oe [] f)])else none
 |_,_=>none
def zjv(g:X.calm=true):Jw X (.type "dict") Sn:=by
 rintro qp s σ H xs us Q I r ⟨ds,st,io,d,st',R,S,e,k⟩;unfold Sn at e;split at e
 ·rename_i zs;obtain⟨y,l,e⟩:=Ht e;obtain⟨hf,e⟩:=Iz e;cases e;obtain⟨v,rfl,p,z,rfl,B,C⟩:=R.one;obtain⟨u,rfl,F⟩:=r.one;cases F;obtain⟨hz,its,G,pl⟩:=(show Jv X.prog X.w H s.heap p (.tup z) from I.hok p _ B)
  obtain⟨c,b,a1,a2,m,J,L⟩:=Vh I C l G;have A:b.length<=sizeLine:=by rw[J];exact of_decide_eq_true hf
  obtain⟨h,hk⟩:=bY m L;have E:∀(j:Nat) (n:Key×IR),b[j]?=some n->(Jb X.prog X.w).is n.1 (Qk h j)=true:=λj n e=>by
   have K:j<its.length:=by rw[m];exact(KF.mp e).1
   obtain⟨_,_,_,q⟩:=hk j _ n (Ai K) e;exact q
  refine fI (x:=.t p) (T:=FK X.prog X.w s.heap.objs.size b) (key:=Qk h) (val:=RC b) (I.ok.hd g) pl m (λi M=>iW (Av M) A E) (GA s.heap) (λj v e=>?_) λh' tk f N=>?_
  ·have K:j<b.length:=by
    rw[<-m];exact(KF.mp e).1
   have ex:b[j]?=some b[j]:=Ai K;obtain⟨P,ep,U,_⟩:=hk j v _ e ex;refine⟨P,ep,?_⟩;unfold RC;rw[ex];exact U
  ·have f:h'.DictOf (Jb X.prog X.w) s.heap.objs.size (merged [] b):=by
    have:FK X.prog X.w s.heap.objs.size b b.length h':=f;unfold FK at this
    rwa [Bb]at this
   have W:c.length=b.length:=Bc a2;have hm:(MX [] c).length<=sizeLine:=by have:=Xl c [];rw[Be]at this;omega
   have hd:(s.heap.objs.size==sysModules)=false:=beq_eq_false_iff_ne.mpr<|Bt<|Av I.big;refine⟨.ref s.heap.objs.size,_,I.laid (a:=s.heap.objs.size) (o:=.dK (MX [] c)) (t':=tk) N (Ah _)<|Vg hm hd (a2.merge .nil) f,rfl,?_⟩;obtain⟨Y,Z⟩:=PJ (o:=.dK (MX [] c)) (ob:=.dk (Oe [] y)) S (I.hok.fresh<|Ah _) λH' T e=>⟨_,e,aZ (KR.mono T a1) .nil⟩
   exact k _ _ [s.heap.objs.size] Y Z ⟨s.heap.objs.size,rfl,by rw[<-S.len];exact getElem?_len io _⟩
 ·cases e
def OE:GN:=K6 Sm Sn
def W3(f:X.calm=true):Jw X (.type "dict") OE:=P5 (zS f)<|zjv f
def Zg:entryFor table "any.loop"=some Builtin.«any.loop»:=F.entry_any_loop
def SJ:plainId "any.loop"=true:=F.plain_any_loop
def NM(z:Str):Bool:=(z.length:Int) != 0
def pE{R:Result->Shared->Prop}{l:Addr}(g:A.in1.handled=none)(f:l≠I):∀(ss:List Str) (i:Nat) (s:Shared),StrsAre (its.drop i) ss->(∀z∈ss,z.length<=sizeLine)->s.heap.IsListIter I l i->s.heap.IsList l its.toArray ->
  (∀h' tk,(∀b o,b≠I->s.heap.get? b=some o->h'.get? b=some o)->R (.ok<|.ret<|.bool<|ss.any NM) {s with heap:=h',toks:=tk})->codeAny (KB prog w) A (.builtin "any.loop" ⟨[.ref I],[]⟩) R s:=by
 intro ss
 induction ss with
 |nil=>
  intro i s c v hit n p;have hd:its.drop i=[]:=by generalize its.drop i=d at c;cases c;rfl
  have K:its[i]?=none:=List.getElem?_eq_none (by have:=congrArg F3 hd;simp at this;omega);refine BA Zg (by
   rw[A6 SJ _];refine Aa (Cz g hit n (by simpa using K) λh' x=>Aa (BR<|Ac ?_));exact p h' s.toks λb o a e=>x b o a e)
 |cons z zs Q=>
  intro i s c v hit n p;obtain⟨t,rest,hd,T⟩:∃t rest,its.drop i=.str z t::rest/\StrsAre rest zs:=by
   generalize its.drop i=d at c;cases c with
   |cons y t r=>exact⟨t,_,rfl,r⟩
  have x:its[i]?=some (.str z t):=by have:=congrArg (λl=>l[0]?) hd;simpa using this
  have hd2:its.drop (i+1)=rest:=by have:=congrArg List.tail hd;simpa using this
  have X:sizeLine=16777216:=Cq;have j:=v z Ar;refine BA Zg (by
   rw[A6 SJ _];refine Aa<|Cp hit n (by simpa using x) λh' h E=>Aa (AM<|Fq (by omega)<|Aa<|BP ?_);have kp:∀b o,b≠I->s.heap.get? b=some o->h'.get? b=some o:=λb o a e=>E.extBut b o a e;show wpAny _ _ (if NM z=true then _ else _) _ _ _
   cases a:NM z with
   |true=>
    rw[if_pos rfl];refine Aa<|BR<|Ac ?_;have q:=p h' (s.toks+1+1) kp;rw[BI,a]at q;exact q
   |false=>
    rw[if_neg (by decide)];refine Ac ⟨BD SJ _,Q (i+1) _ (by rw[hd2];exact T) (λu B=>v u (Al _ B)) h (DF n λu e=>kp l u f e) λC H F=>?_⟩;have q:=p C H λb o m e=>F b o m (kp b o m e);rw[BI,a]at q;exact q)
def MD:GN
 |[.ref n],st=>(HZ st n).bind λds=>(strsOf ds).bind λss=>if(ss.all λz=>decide (z.length<=sizeLine))=true then some (.bl (ss.any NM),st)else none
 |_,_=>none
def zJ(f:X.calm=true):Jw X (.builtin "any") MD:=by
 rintro qp s σ H xs us Q I r ⟨ds,st,io,d,st',R,S,e,k⟩;unfold MD at e;split at e
 ·rename_i n;obtain⟨l,w,e⟩:=Ht e;obtain⟨ss,x,e⟩:=Ht e;obtain⟨a,e⟩:=Iz e;cases e;obtain⟨v,rfl,p,rfl,y⟩:=R.one;obtain⟨u,rfl,A⟩:=r.one;cases A;obtain⟨B,E,K⟩:=KG S y w;obtain⟨its,T,pl,i⟩:=I.list E;have g:=V7 K T x;have c:p<s.heap.objs.size:=by
   obtain⟨o,_,e,_⟩:=pl;exact Ak e
  have h:∀z∈ss,z.length<=sizeLine:=λz i=>of_decide_eq_true (List.all_eq_true.mp a z i);refine FD F.kind_any F.plain_any F.entry_any (F.args_any1 _) (by
   unfold Builtin.«any»;refine Aa (m:=oneArg "any" _) (Ac<|Aa<|C4 pl.isList<|Ac ⟨BD SJ _,?_⟩);refine pE (I.ok.hd f) (Av c) ss 0 _ (by simpa using g) h ⟨_,Ap _ rfl,rfl,rfl⟩ (pl.keeps λb o e=>Ad _ e).isList λh' tk j=>?_;exact⟨.bl _,H,I.kept (t':=tk) λb o q=>j b o (Av<|Ak q) (Ad _ q),rfl,k.now S rfl⟩)
 ·cases e
def J4[DecidableEq κ](kvs:List (κ×α))(q:κ):List (κ×α):=kvs.eraseIdx<|kvs.findIdx λa=>decide (a.1=q)
def Ui{α β:Type}{R:α->β->Prop}:∀{l:List α}{m:List β} (j:Nat),Paired R l m->Paired R (l.eraseIdx j) (m.eraseIdx j):=by
 intro l m j h
 induction h generalizing j with
 |nil=>exact .nil
 |cons z t ih=>
  cases j with
  |zero=>exact t
  |succ j=>exact .cons z<|ih j
def Ud[DecidableEq κ]{R:κ×α->κ×β->Prop}(g:∀p q,R p q->p.1=q.1){l:List (κ×α)}{m:List (κ×β)}(q:κ)(h:Paired R l m):(l.findIdx λf=>decide (f.1=q))=m.findIdx λf=>decide (f.1=q):=by
 induction h with
 |nil=>rfl
 |@cons a b l m z t c=>rw[Cw,Cw,g _ _ z,c]
theorem WI{α β:Type}(f:α->β):∀(l:List α) (k:Nat),(l.map f).eraseIdx k=(l.eraseIdx k).map f
 |[],_=>rfl
 |_::_,0=>rfl
 |a::l,k+1=>by show f a::(l.map f).eraseIdx k=f a::(l.eraseIdx k).map f;rw[WI f l k]
theorem U9{κ α:Type}[DecidableEq κ]{k:κ}{p:α}:∀{xs:List (κ×α)} {j:Nat},(xs.map (·.1)).Nodup->xs[j]?=some (k,p)->(xs.findIdx λf=>decide (f.1=k))=j
 |[],j,_,h=>by simp at h
 |x::xs,0,_,h=>by
  have h:x=(k,p):=by simpa using h
  rw[Cw,h,decide_eq_true rfl];rfl
 |x::xs,j+1,a,h=>by
  have h:xs[j]?=some (k,p):=by simpa using h
  rw[As,Dq]at a;have b:¬x.1=k:=λe=>a.1<|SL.mpr ⟨(k,p),AF h,e.symm⟩;rw[Cw,decide_eq_false b,U9 a.2 h];rfl
section
variable {K:Type} [DecidableEq K] {knd:HeapKind prog w K}
def YU{xs:List (K×Addr×IR)}{k:K}{Q:Option DictEntry->Shared->Prop}(q:knd.room A)(f:knd.is s.heap k a)(hm:s.heap.DictOfH knd d xs)(hz:xs.length<=sizeLine)(g:∃(j:Nat) (p:Addr×IR),xs[j]?=some (k,p))(hQ:∀(j:Nat) (p:Addr×IR) h',xs[j]?=some (k,p)->h'.DictOfH knd d (xs.eraseIdx j)->BB d s.heap h'->Q (some ⟨knd.hash k,.ref p.1,p.2⟩) {s with heap:=h',toks:=s.toks+knd.draws k}):
  wpAny (KB prog w) A (Builtin.Dict.takeOut d<|.ref a) Q E s:=by
 obtain⟨o,es,ep,b,n,hd,he,c,m⟩:=hm;have i:es.size<=sizeLine:=by have e:=Ep he;omega
 unfold Builtin.Dict.takeOut
 try with_reducible refine AM ?_
 refine Aa<|knd.pyHash q f<|Aa<|Fn (s:={s with toks:=s.toks+knd.draws k}) q f b hd he c m (λhno=>?_) λj p h=>?_
 ·obtain⟨j,p,h⟩:=g;exact absurd h<|hno j p
 ·refine Aa<|BU (s:={s with toks:=s.toks+knd.draws k}) b hd ?_;rw[entry_at he j,h];refine Aa (wpAny_updateDictKeys (hz:=i) (s:={s with toks:=s.toks+knd.draws k}) b hd<|Ac<|hQ j p _ h ⟨_,_,ep+1,BL _ b<|Obj.isFreed_of_dict<|Fg hd _,n.mapDictKeys _,Fg hd _,?_,?_,?_⟩<|BY ..)
  ·have v:(es.eraseIdxIfInBounds j).toList=es.toList.eraseIdx j:=by obtain⟨l⟩:=es;simp
   rw[v,he,WI]
  ·intro x y;exact knd.keeps (c x<|D9 y) b hd<|BY ..
  rw[<-WI];exact m.sublist<|EW _ _
def wV(d a:Addr):MeetsIn prog w (Builtin.«dict.pop» ⟨[.ref d,.ref a],[]⟩) (λA R s=>knd.room A.in1/\∃k xs,knd.is s.heap k a/\s.heap.DictOfH knd d xs/\xs.length<=sizeLine/\(∃(j:Nat) (p:Addr×IR),xs[j]?=some (k,p)) /\
  ∀(j:Nat) (p:Addr×IR) h' tk,xs[j]?=some (k,p)->h'.DictOfH knd d (xs.eraseIdx j)->BB d s.heap h'->R (.ok<|.ret p.2) {s with heap:=h',toks:=tk}):=
 .of_wp <| by
  rintro A R s ⟨x,k,xs,b,hm,y,c,h⟩;unfold Builtin.«dict.pop»;refine Aa ?_;unfold Builtin.Dict.keyAndDefault;refine Aa<|B7 hm.typeIs<|Ac ?_;have E:(keyPart<|AE a).isSome=false:=rfl;obtain⟨o,es,ep,H,Q,hd,he,I,T⟩:=id hm;have i:es.isEmpty=false:=by obtain⟨j,p,m⟩:=c;have v:=Ep he;have X:j<xs.length:=(KF.mp m).1;rw[Array.isEmpty_eq_false_iff];intro e;rw[e]at v;simp at v;omega
  simp only[E,AQ,if_false];refine Aa<|BU H hd<|Aa<|Ac ?_;simp only[i,AQ,if_false];refine Aa<|YU x b hm y c λj p h' m n K=>?_;rw[show(some (⟨knd.hash k,.ref p.1,p.2⟩:DictEntry)).isNone=false from rfl];refine Aa<|BP<|Ac ⟨p.2,rfl,?_⟩;exact h j p h' _ m n K
end
variable {kvs:List (List Key×V)}
def ZZ{xs:List (List Key×Addr×IR)}{v:V}(r:KT H kvs xs)(l:IB kvs k=some v):∃(j:Nat) (p:Addr×IR),xs[j]?=some (k,p):=by
 have h:=r.val k;rw[l]at h;cases a:atKey xs k with
 |none=>rw[a]at h;exact h.elim
 |some p=>
  unfold atKey at a;obtain⟨x,b,d⟩:=Ig a;have hk:x.1=k:=by have h0:=GB b;simpa using h0
  obtain⟨j,c,e⟩:=Dz<|CP b;exact⟨j,x.2,by rw[Ai c,e,<-hk]⟩
def kF{b:Addr}{v:V}(g:A.units+1<cLine)(I:Inv X qp σ H s)(e:H a=some (.dT kvs))(r:H b=some (.tup<|k.map kV))(l:IB kvs k=some v)(h:∀f s',Inv X qp σ (upd H a<|.dT<|J4 kvs k) s'->RelV v f->Q f s'):wpAny (KB X.prog X.w) A (call (.builtin "dict.pop") [.ref a,.ref b]) Q E s:=by
 obtain⟨z,hd,xs,rel,m⟩:=UQ I.hok e;have T:xs.length<=sizeLine:=by rw[<-Bc rel];exact z
 refine Dk CB m.typeIs EH (PySem.F.args_dict_pop_2 _ _) (wV (knd:=tupleKind (Jb X.prog X.w)) a b) ⟨BK g,k,xs,Nj I.hok r,m,T,ZZ rel l,λj p h' tk o n u=>h _ _ ?_ ?_⟩
 ·obtain⟨q,es,ep,x,B,C,G,_,J⟩:=n;have d:(xs.map (·.1)).Nodup:=by obtain⟨_,_,_,_,_,_,_,_,d⟩:=m;exact d
  have L:(kvs.findIdx λM=>decide (M.1=k))=j:=(Ud (λp q z=>z.1) k rel).trans<|U9 d o;have N:(J4 kvs k).length<=sizeLine:=AA (C2 _ _) z;have i:KT H (J4 kvs k) (xs.eraseIdx j):=by unfold J4;rw[L];exact Ui j rel
  refine To I (by rw[e];exact CD) u ⟨q,x⟩ ⟨N,hd,_,i.keeps λc P y=>?_,q,es,ep,x,B,C,G,J⟩;rw[HW (Qu y e λz=>nomatch z)];exact y
 ·have d:(xs.map (·.1)).Nodup:=by obtain⟨_,_,_,_,_,_,_,_,d⟩:=m;exact d
  have K:=rel.val k;rw[l,atKey_of_get d o]at K;exact K
def oX(f ty:TE):TE:=λσ H Q=>f σ H λx H1=>∃a,x=.ref a/\Sg H1 a/\ty σ H1 λy c=>∃kvs k b v,c a=some (.dT kvs)/\y=.ref b/\c b=some (.tup<|k.map kV)/\IB kvs k=some v/\Q v (upd c a<|.dT<|J4 kvs k)
def wD{o:Pv}{f ty:TE}(g:X.A.units+1<cLine)(j:PE X o f)(he:PE X e ty)(m:M1 X o "pop" apos e cpos):PE X (.Call (.Attribute o "pop" apos) [e] [] cpos) (oX f ty):=by intro qp s σ H Q I h;refine DX m.base m.few m.line CZ CB EX<|HC (j qp s σ H _ I h) ?_;rintro u s1 ⟨x,H1,i,n,a,ex,d,p⟩;subst ex;obtain rfl:u=AE a:=n;obtain⟨t1,w,_⟩:=Ni i d;refine⟨t1,w,?_⟩;rw[m.trees];refine BZ rfl<|CF<|Cm<|HC (he qp s1 σ H1 _ i p) λE s2 ⟨y,F,K,T,kvs,k,b,v,q,r,z,l,B⟩=>C6 ?_;subst r;obtain rfl:E=AE b:=T;exact kF g K q z l λG s3 C c=>⟨v,_,C,c,B⟩
def Qz(md mk:ME):ME:=λU st=>(md U st).bind λ(d,s1)=>match d with
 |.ref n=>if MN s1 n=true then(mk U s1).bind λ(k,s2)=>match k,s2[n]? with
   |.tup ds,some (.dt kvs)=>(keysOf ds).bind λq=>(HQ kvs q).map λv=>(v,s2.set n (.dt<|J4 kvs q))
   |_,_=>none
  else none
 |_=>none
def sV{o:Pv}(g:X.A.units+1<cLine)(j:SE X o md)(he:SE X e mk)(mm:M1 X o "pop" apos e cpos:=by exact⟨rfl,rfl,rfl,rfl⟩):SE X (.Call (.Attribute o "pop" apos) [e] [] cpos) (Qz md mk):=
 PE.imp (wD g j he mm) <| by
  rintro σ H Q ⟨U,st,io,d,st',E,S,e,k⟩;obtain⟨⟨x,s1⟩,l,e⟩:=Ht e;cases x with
  |ref n=>
   obtain⟨hd,e⟩:=Iz e;obtain⟨⟨y,s2⟩,B,e⟩:=Ht e;refine⟨U,st,io,_,s1,E,S,l,λv1 H1 C m h F=>?_⟩;obtain⟨p,rfl,s⟩:=F;refine⟨p,rfl,Wd h s hd,U,s1,io++C,y,_,E.ext S m,h,B,λv2 Z G J S2 R2=>?_⟩;dsimp only at e;split at e
   ·rename_i ds kvs w;obtain⟨q,eq1,e⟩:=Ht e;obtain⟨v,ev,e⟩:=Ig e;cases e;have a:=LQ (ka:=G) s;obtain⟨I,K,r⟩:=S2.ob n p _ a w;obtain⟨b,xs,rfl,L,rs⟩:=R2;have ex:=OZ rs eq1;subst ex
    rcases KR.val r q with⟨z,_⟩|⟨d',M,c,i,N⟩
    ·rw[ev]at z;cases z
    ·rw[ev]at c;cases c;refine⟨I,q,b,M,K,rfl,L,i,?_⟩;obtain⟨f,P⟩:=MY (o:=.dT (J4 I q)) (ob:=.dt (J4 kvs q)) S2 a w (λo u z=>by rw[K]at z;cases z) λH' T W=>⟨_,W,by
      have Y:=Ud (λp q z=>z.1) q (KR.mono (ka:=[]) T r);unfold J4;rw[Y];exact Ui _ (KR.mono T r)⟩
     exact((k.on h m).on S2 J) _ _ [] f P (by
      have:=Rep.ext S2 f N;exact this)
   ·cases e
  |_=>cases e
end L2.MP
namespace L2.MP
variable {prog:SZ}{w:World}{A:Around}{E:Qqa}{s:Shared}
section
open PySem PySem.Spec PyProof.Rows PySem.Builtin PySem.Builtin.Str
variable {z y:Str}{t u:Tok}{Q:Qqa}
end
variable {X:Cx}{K:Ab}{H:Hp}{io:List Addr}{st st':Hf}{a b c e:Pv}{es:List Pv}{ma mb mc m:ME}{mm:MA}{pos:Pos}
section
open PySem PySem.Spec PyProof.Rows
end
open PySem
variable {U:Ii}
theorem Vd{c:MT}{n:ME}:LX c m n U st=(c U st).bind λp=>if p.1=true then m U p.2 else n U p.2:=rfl
variable {s1:Hf}
def qS{W:Wk}{g:MG}{m:MS}{d:D}{ds:List D}{U1 f:Ii}{s2:Hf}(h:walked W st=true)(i:g d U st=some (U1,s1))(j:m U1 s1=some (.nx f,s2)):KU W g m (d::ds) U st=KU W g m ds f s2:=by
 conv=>lhs;unfold KU
 rw[if_pos h,i];simp only[Ae,j]
open PySem.Spec PyProof.Rows
@[irreducible] def Iu (X:Cx) (s:List W1) (m:MS):Prop:=KN X s m
@[irreducible] def JS (X:Cx) (s:W1) (m:MS):Prop:=SS X s m
@[irreducible] def JA (X:Cx) (es:List Pv) (m:MA):Prop:=SA X es m
variable {n:Nat}{body:List W1}{ms:MS}
section
variable {st1 st2:W1}{rest orelse:List W1}{mt mu:MT}{mq mr:MS}{mg:MG}{mi:MI}
def Iu.out(h:Iu X body ms):KN X body ms:=by unfold Iu at h;exact h
def Iu.mk(h:KN X body ms):Iu X body ms:=by unfold Iu;exact h
def JS.out(h:JS X st1 ms):SS X st1 ms:=by unfold JS at h;exact h
def JS.mk(h:SS X st1 ms):JS X st1 ms:=by unfold JS;exact h
def JA.out(h:JA X es mm):SA X es mm:=by unfold JA at h;exact h
def JA.mk(h:SA X es mm):JA X es mm:=by unfold JA;exact h
def Kt:Iu X [] Jn:=.mk rT
def HM(h:JS X st1 ms):Iu X [st1] ms:=.mk<|rV h.out
def HB(h:JS X st1 ms)(d:Iu X rest mq):Iu X (st1::rest) (mS ms mq):=.mk<|xN h.out d.out
def Kd(d:SB X c mt)(f:Iu X body ms)(g:Iu X orelse mq):JS X (.If c body orelse pos) (Ji mt ms mq):=.mk<|iK d f.out g.out
def Ks{d iter:Pv}(f:PassesOwn (KB X.prog X.w) X.A X.env X.xe)(g:X.calm=true)(hi:SI X d iter mi)(h:SG X d mg)(i:Iu X body ms)(j:∀x,foldedSetIterable iter X.env x=pure x:=by intro _;rfl):JS X (.For d iter body [] pos) (mF mi mg ms):=.mk<|pM f g hi h i.out j
def We(d:PassesOwn (KB X.prog X.w) X.A X.env X.xe)(f:SB X c mt)(g:Iu X body ms):JS X (.While c body [] pos) (IS mt ms n):=.mk<|xM d f g.out
def La:JA X [] mZ:=.mk Hm
def Ia(d:SE X e m)(f:JA X es mm)(hs:∀q,Qqb X.env e q:=by intro _;rfl):JA X (e::es) (Hc m mm):=.mk<|Hh d f.out<|hs _
end
variable {xs:List V}
section
variable {o:Pv}{apos cpos:Pos}
def N5:D->List D->Hf->Option (D×Hf):=λx xs st=>match x,xs with
 |.ref n,[]=>match st[n]? with
  |some (.lst ds)=>(ds[ds.length-1]?).map λd=>(d,st.set n (.lst ds.dropLast))
  |_=>none
 |_,_=>none
def Hi.dropLast:∀{xs:List V}{ds:List D},Hi K H io xs ds->Hi K H io xs.dropLast ds.dropLast:=by intro xs ds r;rw[EY,EY,r.length];exact r.take _
def vQ:Se X "list.pop" (Yb X.K N5):=by
 rintro U s σ H x xs v us Q I f rs ⟨B,ds,st,io,d,st',g,Rs,S,e,k⟩;unfold N5 at e;split at e
 ·rename_i n
  split at e
  ·rename_i l b;obtain⟨y,h,e⟩:=Ig e;cases e;obtain⟨p,rfl,c⟩:=g
   cases (show xs=[] from Rs)
   obtain⟨m,A,r⟩:=S.ob n p _ c b;obtain⟨w,hw,a⟩:=r.get h;refine oG U s σ H _ _ v us Q I f rs ⟨p,m,w,rfl,rfl,A,by rw[r.length];exact hw,?_⟩;obtain⟨E,i⟩:=MY (o:=.lst m.dropLast) (ob:=.lst l.dropLast) S c b (λo u z=>by rw[A]at z;cases z) λC T j=>⟨_,j,by rw[Ao]at *;exact(Hi.mono (ka:=[]) T r.dropLast) |> λq=>by rw[Ao]at q;exact q⟩
   exact k _ _ [] E i (a.ext S E)
  ·cases e
 ·cases e
def UW(m:ME):ME:=λU st=>(m U st).bind λ(x,s1)=>match x with
 |.ref n=>(HZ s1 n).bind λ_=>N5 x [] s1
 |_=>none
def sT(h:SE X o m)(f:attributeBase o "pop" X.env (Wp o X.env)=Wp o X.env:=by rfl)(g:(apos.endLine==cpos.line)=true:=by rfl):SE X (.Call (.Attribute o "pop" apos) [] [] cpos) (UW m):=
 PE.imp (nM C0 PySem.F.slot_list_pop PySem.F.type_list_pop vQ h f g) <| by
  rintro σ H Q ⟨U,st,io,d,st',E,S,e,k⟩;obtain⟨⟨x,s1⟩,c,e⟩:=Ht e;cases x with
  |ref n=>
   obtain⟨l,s,e⟩:=Ht e;refine⟨U,st,io,_,s1,E,S,c,λv1 H1 w A a b=>⟨Wb b a s,?_⟩⟩;exact⟨_,[],s1,io++w,d,st',b,rfl,a,e,k.on a A⟩
  |_=>cases e
theorem Z2:UW m U st=(m U st).bind λp=>match p.1 with
 |.ref n=>(HZ p.2 n).bind λ_=>N5 p.1 [] p.2
 |_=>none:=rfl
def Lj:D->Hf->Option Bool
 |.bl b,_=>some b
 |.non,_=>some false
 |.int i,_=>some<|i != 0
 |.tup ds,_=>some<|!ds.isEmpty
 |.ref n,st=>(HZ st n).map λds=>!ds.isEmpty
 |_,_=>none
def KI(m:ME):MT:=λU st=>(m U st).bind λ(x,s1)=>(Lj x s1).map λb=>(b,s1)
def dY{ds:List D}(r:Hi K H io xs ds):(!xs.isEmpty)=!ds.isEmpty:=by have:=r.length;cases xs<;>cases ds<;>simp_all
def Vo(h:SE X a m)(he:∀whole,isTrue a X.env whole=(do let v <-whole;standAt a.pos;holding [v] (truthy v)):=by intro _;rfl):SB X a (KI m):=
 PT.imp (aQ h he) <| by
  rintro σ H Q ⟨U,st,io,b,st',E,S,e,k⟩;obtain⟨⟨x,s1⟩,s,e⟩:=Ht e;obtain⟨q,c,e⟩:=Ig e;cases e;refine⟨U,st,io,x,st',E,S,s,λv w A K o n=>⟨b,?_,k w A K o⟩⟩;unfold Lj at c;split at c
  ·cases c
   cases (show v=_ from n)
   exact rfl
  ·cases c
   cases (show v=_ from n)
   exact rfl
  ·cases c
   cases (show v=_ from n)
   exact rfl
  ·cases c;obtain⟨p,xs,rfl,d,r⟩:=n;exact .inr<|.inl ⟨xs,.inl<|.inl d,(dY r).symm⟩
  ·obtain⟨ds,f,c⟩:=Ig c;cases c;obtain⟨p,rfl,g⟩:=n;obtain⟨i,j,l⟩:=KG o g f;exact .inl ⟨i,j,(dY l).symm⟩
  ·cases c
theorem S0:KI m U st=(m U st).bind λp=>(Lj p.1 p.2).map λb=>(b,p.2):=rfl
end
variable {d:Addr}{o:Obj}{ep:Nat}
def eB(l:A.handled=none)(it d:Addr)(f:d≠it){es:Array DictEntry}(g:o.data=.dict es ep):
  Walks prog w A it [it,d] [it] es.size (λi v=>∃j,es[i]?=some j/\v=j.key) (λi h=>h.IsKeyIter it d i es.size ep/\h.get? d=some o) where
 sub:=λb a=>by simp at a;simp[a]
 frame:=λ_ _ _ st hk=>⟨st.1.at λo e=>hk it (by simp) o e,hk d (by simp) o st.2⟩
 item:=λi s Q E H st c=>by have n:es[i]?=some es[i]:=Array.getElem?_eq_getElem H;refine cW st.1 st.2 g n λm st' sb=>?_;exact c _ m s.toks ⟨_,n,rfl⟩ ⟨st',(sb.2 d f).trans st.2⟩ λb ob a e=>(sb.2 b λz=>a (by simp[z])).trans e
 done:=λs Q E st c=>cX l st.1 st.2 g (by simp) λm K=>c m s.toks λb ob a e=>K b ob (λz=>a (by simp[z])) e
 self:=λ_ _ _ _ st c=>Ff st.1 c
def bL{es:Array DictEntry}(f:o.data=.dict es ep)(hd:(d==sysModules)=false)(ty:∀s:Shared,s.heap.get? d=some o->s.TypeIs (.ref d) "dict"):
  GH prog w "dict" d d es.size (λi v=>∃j,es[i]?=some j/\v=j.key) (λh=>h.get? d=some o) where
 type:=ty
 there:=λ_ g=>⟨Ak g,Ak g⟩
 keep:=λ_ _ g hk=>hk d (.inl rfl) o g
 notList:=by decide
 notTuple:=by decide
 hint:=λ_ _ s _ g a=>PySem.W.kdl_hint_dict (ty s g) a
 iter:=λc s b g=>⟨_,_,λ_ _ a=>Wi (ty s g) hd g f a,eB b _ d (Av<|Ak g) f,⟨⟨_,Ap _ rfl,rfl,rfl⟩,Ad _ g⟩⟩
theorem T2{K:Ab}{H:Hp}{io:List Addr}:∀{vs:List IR} {ps:List (List Key×V)} {kvs:List (List Key×D)},KR (List Key) K H io ps kvs->vs.length=ps.length->(∀(j:Nat) (v:IR) (p:List Key×V),vs[j]?=some v->ps[j]?=some p->∃b,v=.ref b/\H b=some (.tup<|p.1.map kV))->∃g,Vals g vs/\Hi K H io g (Jl kvs)
 |[],_,_,.nil,_,_=>⟨[],.nil,rfl⟩
 |[],_::_,_,.cons _ _,f,_=>by simp at f
 |v::vs,_,_,.nil,f,_=>by simp at f
 |v::vs,p::ps,q::kvs,.cons h t,f,i=>by obtain⟨b,rfl,l⟩:=i 0 v p rfl rfl;obtain⟨g,a,c⟩:=T2 (vs:=vs) t (by simpa using f) λj v p d e=>i (j+1) v p (by simpa using d) (by simpa using e);refine⟨.ref b::g,.cons rfl a,Hi.cons ⟨b,_,rfl,l,?_⟩ c⟩;rw[h.1];exact TB _
def SU:GN
 |[.ref n],st=>match st[n]? with
  |some (.dt kvs)=>if fits kvs.length=true then some (.ref st.length,st++[.lst (Jl kvs)])else none
  |_=>none
 |_,_=>none
def zjt(J:X.calm=true):Jw X (.type "list") SU:=by
 rintro qp s σ H xs us Q I r ⟨ds,st,io,d,st',R,S,e,k⟩;unfold SU at e;split at e
 ·rename_i n
  split at e
  ·rename_i L M;obtain⟨hf,e⟩:=Iz e;cases e;obtain⟨v,rfl,p,rfl,N⟩:=R.one;obtain⟨u,rfl,P⟩:=r.one;cases P;obtain⟨f,A,h⟩:=S.ob n p _ N M;obtain⟨t1,t2,T⟩:=Ni I<|.inr ⟨f,.inl A⟩;obtain⟨z,y,xs,r0,o,es,ep,g,ex,i,et,nd⟩:=I.hok p _ A;have x:=I.hok p _ A;have Y:Jv X.prog X.w H s.heap p (.frz o<|.dT f):=⟨g,x⟩
   obtain⟨l,B,ent⟩:=P6 Y i;have c:es.size<=sizeLine:=by rw[B,KR.length h];exact of_decide_eq_true hf
   refine PySem.W.kdl_call (bL (prog:=X.prog) (w:=X.w) i T λs' l=>?_) (I.ok.hd J) g c λh' tk acc Z hk E a=>?_
   ·obtain⟨o',m,K⟩:=t1;rw[g]at m;cases m;exact⟨o,l,K⟩
   ·obtain⟨C,F,rr⟩:=T2 (vs:=acc.toList) h (by rw[AR,a.1,B]) λj v q e1 e2=>by
     obtain⟨en',h1,h2⟩:=a.2 j v (by rw[<-Bm];exact e1);obtain⟨en2,b,G,h4,h5,_⟩:=ent j q.1 q.2 e2;rw[h1]at G;cases G;exact⟨b,by rw[h2,h4],h5⟩
    have U:C.length<=sizeLine:=by rw[F.length,AR,a.1];exact c
    refine⟨.ref s.heap.objs.size,upd H s.heap.objs.size<|.lst C,I.laid (t':=tk) (λb o q=>hk b o q) (Ah _) ⟨U,acc.toList,Z,F,by simpa using E⟩,rfl,?_⟩;exact k.lst S rr<|I.hok.fresh<|Ah _
  ·cases e
 ·cases e
def OC:GN:=K6 Qw SU
def dP(f:X.calm=true):Jw X (.type "list") OC:=P5 (zU f)<|zjt f
def Sx:G2:=JT N4 λx y st=>match x,y with
 |.bl a,.bl b=>some (.bl (a != b),st)
 |_,_=>none
def vZ:Jj X (Re .IsNot) Sx:=SH aN (by
 rintro n s σ H x y v u Q I a b ⟨o,w,st,io,d,st',c,m,S,e,k⟩
 (try dsimp only at e)
 split at e
 ·cases e
  cases (show x=_ from c)
  cases (show y=_ from m)
  cases a;cases b;exact PyProof.Rows.isnot_bool ⟨.bl _,H,I,rfl,k.now S rfl⟩
 ·cases e)
structure Kl(H H':Hp):Prop where
 tup:∀a xs,H a=some (.tup xs)->H' a=some (.tup xs)
 frz:∀a o u,H a=some (.frz o u)->(∀ps,u≠.dT ps)->H' a=some (.frz o u)
variable {K0:Ab}{G0 G1:Hp}{i0:List Addr}
section
variable {H':Hp}
def Nb.kl{a:Addr}(T:Kl H H')(h:Nb K H a xs):Nb K H' a xs:=by
 rcases h with⟨o,h⟩|h
 ·exact .inl ⟨o,T.frz _ _ _ h<|by simp⟩
 exact .inr h
mutual
theorem Rep.thawn{K0:Ab}{G0 G1:Hp}{i0:List Addr}(T:Kl G0 G1):∀{v:V}{d:D},Rep K0 G0 i0 v d->Rep K0 G1 i0 v d
 |_,.non,h=>h
 |_,.bl _,h=>h
 |_,.int _,h=>h
 |_,.str _,h=>h
 |_,.tup ds,h=>by obtain⟨a,xs,e,q,r⟩:=h;exact⟨a,xs,e,T.tup a xs q,Hi.thawn T r⟩
 |_,.ref n,h=>h
 |_,.kl ds,h=>by obtain⟨a,xs,e,q,r⟩:=h;exact⟨a,xs,e,q.kl T,Hi.thawn T r⟩
 |_,.fn _,h=>h
 |_,.er _ _ _,h=>⟨h.1,h.2.kp T.frz⟩
theorem Hi.thawn{K0:Ab}{G0 G1:Hp}{i0:List Addr}(T:Kl G0 G1):∀{xs:List V}{ds:List D},Hi K0 G0 i0 xs ds->Hi K0 G1 i0 xs ds
 |_,[],h=>h
 |_,d::ds,h=>by obtain⟨y,f,e,r,rs⟩:=h;exact⟨y,f,e,Rep.thawn T r,Hi.thawn T rs⟩
end
def KR.thawn{κ:Type}{ps:List (κ×V)}{kvs:List (κ×D)}(T:Kl H H')(h:KR κ K H io ps kvs):KR κ K H' io ps kvs:=Paired.mapP h λ_ _ z=>⟨z.1,Rep.thawn T z.2⟩
def OR.thawn{a:Addr}{o:O}(T:Kl H H')(e:H' a=H a)(h:OR K H io a o):OR K H' io a o:=by
 cases o with
 |lst ds=>obtain⟨xs,q,r⟩:=h;exact⟨xs,e.trans q,Hi.thawn T r⟩
 |fz ds=>obtain⟨ob,xs,q,r⟩:=h;exact⟨ob,xs,e.trans q,Hi.thawn T r⟩
 |dk b=>obtain⟨xs,q,r⟩:=h;exact⟨xs,e.trans q,KR.thawn T r⟩
 |dt b=>obtain⟨xs,q,r⟩:=h;exact⟨xs,e.trans q,KR.thawn T r⟩
 |fk b=>obtain⟨ob,xs,q,r⟩:=h;exact⟨ob,xs,e.trans q,KR.thawn T r⟩
 |ft b=>obtain⟨ob,xs,q,r⟩:=h;exact⟨ob,xs,e.trans q,KR.thawn T r⟩
 |ob C fs=>obtain⟨c,xs,q,r⟩:=h;exact⟨c,xs,e.trans q,KR.thawn T r⟩
 |sz n=>exact e.trans h
 |dz=>exact e.trans h
end
variable {ps:List (List Key×V)}{qp:List (Addr×Obj)}
section
variable {σ:List (Option V)}
def Inv.thaw{o:Obj}(I:Inv X qp σ H s)(hd:H d=some (.frz o<|.dT ps))(f:∀o u,X.H₀ d≠some (.frz o u)):Inv X qp σ (upd H d<|.dT ps) s:=by
 have ne:∀{b:Addr}{v:HO},H b=some v->v≠.frz o (.dT ps)->b≠d:=λ{b v} q e z=>by subst z;rw[hd]at q;exact e (Az q).symm
 have nn:∀{b:Addr},H b=none->b≠d:=λ{b} q z=>by rw[z,hd]at q;cases q
 refine⟨I.ok,I.os,I.bare,⟨I.base.keep,I.base.slot,λb v q n w=>?_,I.base.there,λb xs q=>?_,λb v u q=>?_,λb xs q=>?_⟩,I.loc,I.cell,?_,λx c q=>?_,λp A=>?_,λb v q=>?_,I.len⟩
 ·have:=I.base.free b v q n w;rw[HW (nn this)];exact this
 ·have:=I.base.tups b xs q;rw[HW (ne this<|by simp)];exact this
 ·have h:=I.base.frzs b v u q;have:b≠d:=λz=>f v u (by rw[<-z];exact q);rw[HW this];exact h
 ·obtain⟨m,h⟩:=I.base.tbls b xs q;exact⟨m,by rw[HW (ne h<|by simp)];exact h⟩
 ·rw[HW (nn I.free)];exact I.free
 ·rw[HW (nn<|I.freeC x c q)];exact I.freeC x c q
 ·obtain⟨a,b,c⟩:=I.pin p A;exact⟨a,by rw[HW (nn b)];exact b,c⟩
 ·by_cases hb:b=d
  ·subst hb;rw[Lc]at q;cases q;exact(I.hok b _ hd).2.stay (λc x _ y=>y) (λc y=>by rw[HW (ne y<|by simp)];exact y) λc xs y=>by rw[HW (ne y<|by simp)];exact y
  rw[HW hb]at q;exact(I.hok b v q).stay (λc x _ y=>y) (λc y=>by rw[HW (ne y<|by simp)];exact y) λc xs y=>by rw[HW (ne y<|by simp)];exact y
end
def Vt(n:Nat)(st0 st:Hf):Option Hf:=match st0[n]? with
 |some (.dt _)=>match st[n]? with
  |some (.ft a)=>some<|st.set n<|.dt a
  |_=>none
 |_=>none
def QA(i:Nat)(m:ME):ME:=λU st=>match U[i]? with
 |some (some<|.ref n)=>(m U st).bind λ(d,s)=>(Vt n st s).map λt=>(d,t)
 |_=>none
variable {p:Addr}
section
variable {i:Nat}
def sA{H1:Hp}{ka:List Addr}{f:List (List Key×V)}{kvs:List (List Key×D)}(S:HA K H io st)(X1:Ext io ka H H1)(S1:HA K H1 (io++ka) s1)(hn:io[n]?=some p) (h0:H p=some (.dT f)) (j:s1[n]?=some (.ft kvs)) (g:H1 p=some (.frz o<|.dT ps)) (r:KR (List Key) K H1 (io++ka) ps kvs):
  Kl H1 (upd H1 p<|.dT ps)/\Ext io ka H (upd H1 p<|.dT ps)/\HA K (upd H1 p<|.dT ps) (io++ka) (s1.set n<|.dt kvs):=by
 have ne:∀{b:Addr}{v:HO},H1 b=some v->v≠.frz o (.dT ps)->b≠p:=λ{b v} q i z=>by subst z;rw[g]at q;exact i (Az q).symm
 have T:Kl H1 (upd H1 p<|.dT ps):=⟨λa xs q=>by rw[HW (ne q<|by simp)];exact q,λa v u q m=>by rw[HW (ne q (λz=>by cases z;exact m ps rfl))];exact q⟩
 have d:(io++ka)[n]?=some p:=by rw[Aj (KF.mp hn).1];exact hn
 refine⟨T,⟨λb u h nb=>?_,X1.fresh,λb v u h=>?_⟩,by rw[Bf];exact S1.len,S1.nd,λk a ob h1 c=>?_⟩
 ·rw[HW (λz=>nb (by rw[z];exact AF hn))];exact X1.keep b u h nb
 ·have:b≠p:=λz=>by
   rw[z,h0]at h;cases h
  rw[HW this];exact X1.frz b v u h
 ·by_cases hk:k=n
  ·subst hk;rw[d]at h1
   cases (Az h1);rw[C7,if_pos rfl]at c;split at c
   ·cases (Az c)
    exact⟨ps,Lc,KR.thawn T r⟩
   ·cases c
  ·rw[Ag (λz=>hk z.symm)]at c;have e:a≠p:=λz=>by
    subst z;exact hk<|(FQ (KF.mp h1).1 S1.nd).mp<|h1.trans d.symm
   exact OR.thawn T (HW e)<|S1.ob k a ob h1 c
def sX(h:SE X e m):SE X e (QA i m):=by
 rintro qp s σ H Q I ⟨U,st,io,d,st',E,S,a,k⟩;unfold QA at a;split at a
 ·rename_i n _;obtain⟨⟨P,s1⟩,C,a⟩:=Ht a;obtain⟨t,b,a⟩:=Ig a;cases a;unfold Vt at b
  split at b
  ·rename_i q c
   split at b
   ·rename_i F y;cases b;refine HC (h qp s σ H (λv w=>∃A,Ext io A H w/\HA X.K w (io++A) s1/\Rep X.K w (io++A) v d) I ⟨U,st,io,d,s1,E,S,C,λv1 H1 f g S1 j=>⟨f,g,S1,j⟩⟩) ?_;rintro v s2 ⟨x,H1,G,J,f,g,S1,j⟩;have p:n<io.length:=by rw[S.len];exact(KF.mp c).1
    obtain⟨L,h0,_⟩:=S.ob n _ _ (Ai p) c;have l:(io++f)[n]?=some io[n]:=by rw[Aj p];exact Ai p
    obtain⟨o,ps,B,r⟩:=S1.ob n _ _ l y;obtain⟨T,M,N⟩:=sA S g S1 (Ai p) h0 y B r;refine⟨x,_,Inv.thaw G B λo u z=>?_,J,k _ _ _ M N<|Rep.thawn T j⟩;have:=I.base.frzs _ _ _ z;rw[h0]at this;cases this
   ·cases b
  ·cases b
 ·cases a
end
variable {vs:List IR}
def cE{l:Addr}{R:Qqa}(h:IsTup s.heap l vs.toArray)(hz:vs.length<=sizeLine)(go:∀D h',(∀b o,s.heap.get? b=some o->h'.get? b=some o)->s.heap.get? D=none->h'.get? D=some (seqObj "list" vs.toArray 0)->wpAny (KB prog w) A.in1.in1 (Builtin.«list.sort» ⟨[.ref D],[]⟩) (λf s'=>f=.done (.ret .none)/\R (.ref D) s') (λ_ _=>False) {s with heap:=h'}):
  wpAny (KB prog w) A (call (.builtin "sorted") [.ref l]) R E s:=by
 obtain⟨o,g,c,n,d⟩:=h;refine CO kind_sorted plain_sorted entry_sorted (FA _) ?_;unfold Builtin.«sorted»;refine Aa (m:=checkCount "sorted" 1 1 _) (Ac<|Aa<|PySem.wpAny_collect_seq l (.inr rfl) g c d (λa k1=>Aa (De ?_<|by simpa using hz))<|by simpa using hz);have p:(a.push<|seqObj "list" vs.toArray 0).get? a.objs.size=some (seqObj "list" vs.toArray 0):=Ap _ rfl;have fr:s.heap.get? a.objs.size=none:=by
  cases e:s.heap.get? a.objs.size with
  |none=>rfl
  |some u=>exact absurd (Ak<|k1 _ _ e)<|AL _
 refine Aa<|AM<|A9 EO ⟨_,p,rfl⟩ Em (Bp (go _ _ (λb u e=>Ad _ (k1 b u e)) fr p) (λf s' ⟨e,r⟩=>?_) λ_ _ x=>x.elim)<|ER _;subst e;exact⟨_,rfl,Ac ⟨_,rfl,r⟩⟩
def xI{at_:Addr}{k:Nat}{R:PySem.Fin->Shared->Prop}(g:vs.length<2)(f:s.heap.get? at_=some (seqObj "list" vs.toArray k))(fin:R (.done<|.ret .none) {s with heap:=sortedHeap s.heap at_ vs vs.toArray}):
  wpAny (KB prog w) A (Builtin.«list.sort» ⟨[.ref at_],[]⟩) R E s:=by
 have d:=Ak f;have b:vs.length<=sizeLine:=AA (Cy g) (by decide);obtain⟨ep,g1⟩:∃ep,(s.heap.update at_<|BF λ_=>(#[]:Array IR)).get? at_=some (seqObj "list" #[] ep):=⟨_,get?_update_seq f λ_=>#[]⟩
 have g2:(((s.heap.update at_<|BF λ_=>(#[]:Array IR)).push<|seqObj "tuple" vs.toArray 0).push<|seqObj "list" #[] 0).get? at_=some (seqObj "list" #[] ep):=Ad _<|Ad _ g1;rw[list_sort_plain];refine Aa (listItems_at f rfl<|Aa<|DR f rfl (Aa<|EF g1 rfl<|Aa<|EN (Aa<|De<|AM ?_)<|by simpa using b)<|by simpa using b);show wpAny (KB prog w) A _ R E {s with heap:=((s.heap.update at_<|BF λ_=>(#[]:Array IR)).push<|seqObj "tuple" vs.toArray 0).push (seqObj "list" #[] 0)};have two:vs.toArray.size<2:=by simpa using g
 have same:(arrOf<|G6 general' (vs.toArray.zip vs.toArray) #[] 7 none).map (·.2)=vs.toArray:=by
  show((vs.toArray.zip vs.toArray).map (·.2))=vs.toArray;simp;clear two g2 g1 f b fin g
  induction vs with
  |nil=>rfl
  |cons a r e=>simpa using e
 dsimp only;rw[if_pos two,if_pos two];refine Aa<|Ac ?_;rw[Gu];refine Aa<|Ac ?_;dsimp only;rw[same];refine Aa<|EF g2 rfl<|Aa<|DR g2 rfl ?_ (hsz2:=by simp;omega);simp only[bne_self_eq_false,AQ,if_false];exact Ac fin
variable {Q:VK}{its:List IR}{ts:List (List Int)}
section
variable {σ:L2.St}
def Inv.notL(I:Inv X qp σ H s){D:Addr}(h:s.heap.get? D=none):D≠X.env.locals/\X.base.get? D=none/\H D=none:=by
 refine⟨λz=>?_,?_,?_⟩
 ·obtain⟨m,⟨o,_,_,e,_⟩,_⟩:=I.loc;rw[<-z,h]at e;cases e
 ·cases e:X.base.get? D with
  |none=>rfl
  |some u=>rw[(I.bs D u e).1]at h;cases h
 ·cases e:H D with
  |none=>rfl
  |some o=>
   obtain⟨u,a⟩:=bV<|I.hok D o e;rw[h]at a;cases a
def bJ{D:Addr}{h':P3}(I:Inv X qp σ H s)(i:Vals xs its)(l:xs.length<2)(k:∀b o,s.heap.get? b=some o->h'.get? b=some o)(g:s.heap.get? D=none)(j:h'.get? D=some (seqObj "list" its.toArray 0))(h:∀p,H p=none->Q (.ref p) (upd H p<|.lst xs)):
  wpAny (KB X.prog X.w) X.A.in1.in1 (Builtin.«list.sort» ⟨[.ref D],[]⟩) (λf s'=>f=.done (.ret .none)/\EP X qp σ Q (.ref D) s') (λ_ _=>False) {s with heap:=h'}:=by
 have hlen:=i.length;have d:xs.length<=sizeLine:=AA (Cy l) (by decide);refine xI (by omega) j ⟨rfl,?_⟩;obtain⟨n,r,c⟩:=Inv.notL I g;obtain⟨ep,e⟩:=sortedHeap_at (out:=its.toArray) j;have a:∀b u,s.heap.get? b=some u->(sortedHeap h' D its its.toArray).get? b=some u:=λb u q=>by
  have E:b≠D:=λz=>by rw[z,g]at q;cases q
  rw[sortedHeap_old E (Ak<|k b u q)];exact k b u q
 have J:Inv X qp σ (upd H D<|.lst xs) {s with heap:=sortedHeap h' D its its.toArray}:=by obtain⟨m,F⟩:=I.fr;refine Inv.laidAt (m:=m) I (λb u _=>a b u) (λK ⟨o,a1,a2,q,U⟩=>⟨o,a1,a2,a _ _ q,U⟩) (let ⟨K,⟨o,_,_,q,_⟩,_⟩:=I.loc;⟨o,a _ _ q⟩) g c n ⟨d,its,ep,i,e⟩
 exact⟨.ref D,_,J,rfl,h D c⟩
def bK{D:Addr}{h0:P3}(I:Inv X qp σ H s)(y:Vals xs its)(T:PL H xs ts)(l:2<=ts.length)(P:ts.length<64)(k0:∀b o,s.heap.get? b=some o->h0.get? b=some o)(x:s.heap.get? D=none)(gD:h0.get? D=some (seqObj "list" its.toArray 0))(h:∀(q:Array Nat) (p:Addr),q.Perm (B4<|AB ts.length)->Srt.Up (rank ts) q ts.length->H p=none->Q (.ref p) (upd H p<|.lst<|q.toList.map λi=>xs.getD i .non)):
  wpAny (KB X.prog X.w) X.A.in1.in1 (Builtin.«list.sort» ⟨[.ref D],[]⟩) (λf s'=>f=.done (.ret .none)/\EP X qp σ Q (.ref D) s') (λ_ _=>False) {s with heap:=h0}:=by
 have hlen:its.length=ts.length:=by have a:=y.length;have b:=Bc T;omega
 obtain⟨m,F⟩:=I.fr;have K:∀b,H b≠none->b≠X.env.locals:=λb U z=>U (by rw[z];exact I.free);obtain⟨n1,n2,B⟩:=Inv.notL I x;have nD:∀p∈OV X.base s.heap X.env.locals,p.1≠D:=λp hp z=>by have q:=(VZ (g:=X.base) (h:=s.heap) (L:=X.env.locals) p hp).1;rw[z,x]at q;cases q
 refine PySem.W.kat_list_sort (s:={s with heap:=h0}) (news:=OV X.base s.heap X.env.locals) (F.kept k0) ((VZ (g:=X.base) (h:=s.heap) (L:=X.env.locals)).grown k0) gD n1 n2 nD (by omega) (by omega) λe1 E F' N'=>?_;have keep:∀{l:P3}{o:Obj},PyProof.Rows.Fr X.base X.env.locals l m->News X.base X.env.locals l ((D,o)::OV X.base s.heap X.env.locals)->∀b u,b≠X.env.locals->s.heap.get? b=some u->l.get? b=some u:=λ{l o} F2 N b u U e=>by
  cases q:X.base.get? b with
  |some v=>
   have z:=(I.bs b v q).1;rw[e]at z;cases z;exact F2.keep b _ q
  |none=>exact(N (b,u)<|Al _<|W8 U q e).1
 have hk:∀b o,H b≠none->s.heap.get? b=some o->E.get? b=some o:=λb o U e=>keep F' N' b o (K b U) e;obtain⟨fs,k1,k2,k3⟩:=Wf (h':=E) I hk T y;refine Gc (s:={s with heap:=E}) (T:=.type "int") k1 (by omega) (λv hv=>?_) rfl ?_
 ·obtain⟨i,t,rfl⟩:=k3 v hv;exact EM rfl
 have ok:=Srt.LD (n:=its.length) (r:=rank ts) (by omega);refine UR (n:=its.length) (r:=rank ts) (s:={s with heap:=E}) (λi j G hj C hC=>YY (s':={s with heap:=E}) I hk T y (by omega) (by omega) C hC) (λq M=>?_) ok;refine Fc F' N' (FS nD) λl c F2 N=>⟨rfl,?_⟩
 have S:=(N _ Ar).1;rw[hlen]at M;have vals:Vals (q.toList.map λi=>xs.getD i .non) (q.toList.map λi=>its.getD i Bi):=by
  have d:∀i∈q.toList,i<xs.length:=λi G=>by have:i∈(B4<|AB ts.length).toList:=(Array.perm_iff_toList_perm.mp M.1).mem_iff.mp G;have hr:=y.length;simp at this;omega
  generalize q.toList=ql at d
  induction ql with
  |nil=>exact .nil
  |cons i r ih=>
   refine .cons ?_<|ih λj hj=>d j (Al _ hj);have G:=d i Ar;obtain⟨u,eu,ru⟩:=y.get<|Ai G;show RelV (xs.getD i V.non) (its.getD i Bi);rw[Aw,Aw,Ai G,eu];exact ru
 have Y:q.toList.length=ts.length:=by have:=(Array.perm_iff_toList_perm.mp M.1).length_eq;simpa using this
 have J:Inv X qp σ (upd H D<|.lst<|q.toList.map λi=>xs.getD i .non) {s with heap:=l}:=
  Inv.laidAt (m:=m) I (keep F2 N) (λm' Z=>by rw[Zi Z F.ns];exact F2.ns) (let ⟨o,_,_,e,_⟩:=F2.ns;⟨o,e⟩) x B n1 ⟨by rw[Af,Y];exact Pj P,_,c,vals,S⟩
 exact⟨.ref D,_,J,rfl,h q D M.1 M.2 B⟩
end
def eK{q:Array Nat}(S:HA K H io st)(r1:Hi K H io xs (ts.map HF))(f:q.Perm (B4<|AB ts.length))(g:Srt.Up (rank ts) q ts.length)(hf:H p=none)(k:Bh K io H (st++[.lst ((KW ts).map HF)]) (.ref st.length) Q):Q (.ref p) (upd H p<|.lst<|q.toList.map λi=>xs.getD i .non):=by
 have hm:∀i∈q.toList,i<ts.length:=λi b=>by have:=(Array.perm_iff_toList_perm.mp f).mem_iff.mp b;simpa using this
 have a:=Wq r1 hm;rw[eE f g]at a;exact k.lst S a hf
def TY:GN
 |[.tup ds],st=>if decide (ds.length<2)=true then some (.ref st.length,st++[.lst ds])else(rowsOf ds).bind λts=>if(decide (2<=ts.length)&&decide (ts.length<64))=true then some (.ref st.length,st++[.lst ((KW ts).map HF)])else none
 |_,_=>none
def zhj:Jw X (.builtin "sorted") TY:=by
 rintro qp s σ H xs us Q I r ⟨ds,st,io,d,st',R,S,e,k⟩;unfold TY at e;split at e
 ·rename_i zs;obtain⟨v,rfl,p,A,rfl,E,c⟩:=R.one;obtain⟨u,rfl,U⟩:=r.one;cases U;have w:IK X.K H p A:=.inl (.inl E)
  split at e
  ·rename_i a;cases e;have f:=c.length;obtain⟨its,b,pl,g⟩:=I.tuple w;exact cE pl (by have:=b.length;omega) λD h m n o=>bJ I b (by rw[f];exact of_decide_eq_true a) m n o λq hf=>k.lst S c hf
  obtain⟨ts,i,e⟩:=Ht e;obtain⟨a,e⟩:=Iz e;cases e;rw[An]at a;obtain⟨T,hd⟩:=Q2 c i;subst hd;obtain⟨its,b,pl,g⟩:=I.tuple w;refine cE pl (by have:=b.length;omega) λD h m n o=>bK I b T (of_decide_eq_true a.1) (of_decide_eq_true a.2) m n o λq x j l hf=>eK S c j l hf k
 ·cases e
def Nq:GN:=K6 Md TY
def Us:Jw X (.builtin "sorted") Nq:=P5 WV zhj
def Sk:G2
 |.tup a,.tup b,st=>if(a.isEmpty&&fits b.length)=true then some (.tup b,st)else none
 |_,_,_=>none
def vX:Jj X (binaryOp .Add) Sk:=by
 rintro qp s σ H x y v u Q I E K ⟨J,L,st,io,d,st',U,A,S,e,k⟩;unfold Sk at e;split at e
 ·rename_i i j;obtain⟨hf,e⟩:=Iz e;cases e;rw[An]at hf;obtain⟨p,xs,rfl,o,f⟩:=U;obtain⟨q,M,rfl,g,h⟩:=id A;cases E;cases K;obtain⟨m,F⟩:=I.fr;obtain⟨its,l,r,_⟩:=I.tuple<|IK.of o;obtain⟨n,B,C,_⟩:=I.tuple<|IK.of g;have w:its=[]:=by
   have a:=f.length;have b:=l.length;have c:i=[]:=by simpa using hf.1
   rw[c]at a;exact BV (by have N:xs.length=0:=a;omega)
  have G:n.length<=sizeLine:=by have a:=h.length;have b:=B.length;have c:=of_decide_eq_true hf.2;omega
  exact PyProof.Rows.add_tuples F (news:=[]) (λp o=>nomatch o) r C (λ_=>⟨.ref q,H,I,rfl,k.now S A⟩) (λz _=>absurd w z) (λz _=>absurd w z) (by rw[w];simpa using G)
 ·cases e
def NT:G2:=JT HE Sk
def qE:Jj X (binaryOp .Add) NT:=SH Jp vX
open PySem.SeqAt PySem.MeetsSeq PySem.MeetsSeq2 PySem.MeetsSeq3
end L2.MP
namespace L2.MP
open PySem L2 PySem.Spec PyProof.Rows
section
variable {K:Ab}{x:Str}{st:W1}{f:Addr}
structure NY(K:Ab)(x:Str)(st:W1)(f:Addr):Prop where
 ex:∃(oc:IR) (od:Option Addr) (kV dc pm:IR) (an:Option Addr) (cd ct:IR) (sl:Array (Option IR)),K.lookup f=some ⟨oc,od,.func (Br x x (LN st) (Kf st) (IW st) .none kV dc pm an cd ct),sl⟩/\Ca K cd x=true
 ns:Dm K UV x=some (some (.ref f))
 kp:Bd K (.ref f)=true
def iU{b kV d pm cd e:IR}{g an:Option Addr}{h:Array (Option IR)}(a:Dm K UV x=some (some<|.ref f))(l:K.lookup f=some ⟨b,g,.func<|Br x x (LN st) (Kf st) (IW st) .none kV d pm an cd e,h⟩)(c:Ca K cd x=true)(k:Bd K (.ref f)=true):NY K x st f:=⟨⟨b,g,kV,d,pm,an,cd,e,h,l,c⟩,a,k⟩
end
variable {α:Type}
def NL{P:List α->Prop}(h:∀a,P [a])(l:List α)(e:l.length=1):P l:=by
 rcases l with _|⟨a,_|⟨b,l⟩⟩
 ·cases e
 ·exact h a
 ·cases e
def NK{P:List α->Prop}(h:∀a b,P [a,b])(l:List α)(e:l.length=2):P l:=by
 rcases l with _|⟨a,l⟩
 ·cases e
 exact NL (P:=λl=>P (a::l)) (h a) l<|Eb e
def NJ{P:List α->Prop}(h:∀a b c,P [a,b,c])(l:List α)(e:l.length=3):P l:=by
 rcases l with _|⟨a,l⟩
 ·cases e
 exact NK (P:=λl=>P (a::l)) (h a) l<|Eb e
def NI{P:List α->Prop}(h:∀a b c d,P [a,b,c,d])(l:List α)(e:l.length=4):P l:=by
 rcases l with _|⟨a,l⟩
 ·cases e
 exact NJ (P:=λl=>P (a::l)) (h a) l<|Eb e
def Yf{P:List α->Prop}(h:∀a b c d f,P [a,b,c,d,f])(l:List α)(e:l.length=5):P l:=by
 rcases l with _|⟨a,l⟩
 ·cases e
 exact NI (P:=λl=>P (a::l)) (h a) l<|Eb e
end L2.MP
namespace L2.MP
open PySem PySem.Spec PyProof.Rows
variable {prog:SZ}{w:World}{A:Around}{E:Qqa}{s:Shared}{d:Addr}{n:Nat}{P:Nat->IR->Prop}
def zlU{T:String}{r:Addr}{h:P3->Prop}{R:Qqa}(K:GH prog w T r d n P h)(l:A.handled=none)(g:h s.heap)(hz:n<=sizeLine)(go:∀(D:Addr) (h':P3) (tk:Nat) (vs:List IR),(∀b o,s.heap.get? b=some o->h'.get? b=some o)->s.heap.get? D=none->h'.get? D=some (seqObj "list" vs.toArray 0)->vs.length=n->(∀(j:Nat) (v:IR),vs[j]?=some v->P j v)->wpAny (KB prog w) A.in1.in1 (Builtin.«list.sort» ⟨[.ref D],[]⟩) (λf s'=>f=.done (.ret .none)/\R (.ref D) s') (λ_ _=>False) {s with heap:=h',toks:=tk}):
  wpAny (KB prog w) A (call (.builtin "sorted") [.ref r]) R E s:=by
 refine CO kind_sorted plain_sorted entry_sorted (FA _) ?_;unfold Builtin.«sorted»;refine Aa (m:=checkCount "sorted" 1 1 _) (Ac<|Aa<|PySem.W.kdu_collect (A:=A.in1) K l g hz λc tk acc k1 a=>Aa (De ?_ (by rw[AR,a.1];exact hz)));have i:(c.push<|seqObj "list" acc.toList.toArray 0).get? c.objs.size=some (seqObj "list" acc.toList.toArray 0):=Ap _ rfl;have fr:s.heap.get? c.objs.size=none:=by
  cases e:s.heap.get? c.objs.size with
  |none=>rfl
  |some u=>exact absurd (Ak<|k1 _ _ e)<|AL _
 refine Aa<|AM<|A9 EO ⟨_,i,rfl⟩ Em (Bp (go _ _ tk acc.toList (λb u e=>Ad _ (k1 b u e)) fr i (by rw[AR,a.1]) λj v e=>a.2 j v (by rw[<-Bm];exact e)) (λf s' ⟨e,r⟩=>?_) λ_ _ x=>x.elim)<|ER _;subst e;exact⟨_,rfl,Ac ⟨_,rfl,r⟩⟩
variable {X:Cx}{K:Ab}{H:Hp}{io:List Addr}{st st':Hf}{qp:List (Addr×Obj)}{σ:L2.St}
def P2:GN
 |[.ref n],st=>match st[n]? with
  |some (.dt kvs)=>if fits kvs.length=true then(if decide ((Jl kvs).length<2)=true then some (.ref st.length,st++[.lst (Jl kvs)])else(rowsOf<|Jl kvs).bind λts=>if(decide (2<=ts.length)&&decide (ts.length<64))=true then some (.ref st.length,st++[.lst ((KW ts).map HF)])else none)else none
  |_=>none
 |_,_=>none
def Inv.tk(I:Inv X qp σ H s)(t':Nat):Inv X qp σ H {s with toks:=t'}:=Inv.step (t':=t') (ch:=[]) (g':=s.gens) (d':=s.drawn) I (λb d=>absurd d (by simp)) (λb u _ _ _ e _=>e) (λb u _ _ _ e _=>⟨u.slots,e⟩) (λb u _ e n=>n) (λb u _ e=>⟨u,e⟩)
  (λb xs e=>e) (λb u v e=>e) (λb w e=>⟨#[],by rw[e];simp⟩) (λm h=>h) (λb u e=>I.hok b u e) I.bare
def zhm(Y:X.calm=true):Jw X (.builtin "sorted") P2:=by
 rintro qp s σ H xs us Q I r ⟨ds,st,io,d,st',R,S,e,k⟩;unfold P2 at e;split at e
 ·rename_i n
  split at e
  ·rename_i P Z;obtain⟨hf,e⟩:=Iz e;obtain⟨v,rfl,p,rfl,hp⟩:=R.one;obtain⟨u,rfl,ru⟩:=r.one;cases ru;obtain⟨B,a,C⟩:=S.ob n p _ hp Z;obtain⟨t1,t2,hs⟩:=Ni I<|.inr ⟨B,.inl a⟩;obtain⟨z,y,xs,r0,o,es,ep,g,ex,F,et,nd⟩:=I.hok p _ a;have x:=I.hok p _ a;have fz:Jv X.prog X.w H s.heap p (.frz o<|.dT B):=⟨g,x⟩
   obtain⟨G,J,ent⟩:=P6 fz F;have c:es.size<=sizeLine:=by rw[J,KR.length C];exact of_decide_eq_true hf
   refine zlU (bL (prog:=X.prog) (w:=X.w) F hs λs' G=>?_) (I.ok.hd Y) g c λD h' tk L hk M N f h=>?_
   ·obtain⟨o',E,i⟩:=t1;rw[g]at E;cases E;exact⟨o,G,i⟩
   ·obtain⟨ys,U,K⟩:=T2 (vs:=L) C (by rw[f,J]) λj v q l e2=>by
     obtain⟨en',h1,A⟩:=h j v l;obtain⟨en2,b,W,h4,h5,_⟩:=ent j q.1 q.2 e2;rw[h1]at W;cases W;exact⟨b,by rw[A,h4],h5⟩
    have m:ys.length=(Jl P).length:=K.length;split at e
    ·rename_i A;cases e;exact bJ (s:={s with toks:=tk}) (Inv.tk I tk) U (by rw[m];exact of_decide_eq_true A) hk M N λq hf=>k.lst S K hf
    obtain⟨ts,l,e⟩:=Ht e;obtain⟨A,e⟩:=Iz e;cases e;rw[An]at A;obtain⟨T,hd⟩:=Q2 K l;rw[hd]at K;exact bK (s:={s with toks:=tk}) (Inv.tk I tk) U T (of_decide_eq_true A.1) (of_decide_eq_true A.2) hk M N λq p' hq hu hf=>eK S K hq hu hf k
  ·cases e
 ·cases e
variable {o e:Pv}{m:ME}{pos apos p:Pos}{C a:Addr}{f x qual c:Str}{g:GN}{pl:Sem Bool}{k:Nat}{ps N:List Str}{mg:Str->Option IR}{base:P3}
section
variable {value:Pv}{es:List Pv}{mo mv:ME}{mm:MA}{pos':Pos}
def HY(f:Str)(d:D):List (Str×D)->List (Str×D)
 |[]=>[(f,d)]
 |(g,x)::r=>if g=f then(g,d)::r else(g,x)::HY f d r
theorem KR.Jk{f:Str}:∀{ps:List (Str×V)} {fs:List (Str×D)},KR Str K H io ps fs->(ps.lookup f=none/\fs.lookup f=none)\/∃v d,ps.lookup f=some v/\fs.lookup f=some d/\Rep K H io v d
 |_,_,.nil=>.inl ⟨rfl,rfl⟩
 |(a,v)::ps,(b,d)::fs,.cons h t=>by
  obtain⟨e,r⟩:=h;cases (show a=b from e)
  simp only[Cr];cases f==a with
  |true=>exact .inr ⟨v,d,rfl,rfl,r⟩
  |false=>exact KR.Jk t
theorem KR.IP{f:Str}{v:V}{d:D}(r:Rep K H io v d):∀{ps:List (Str×V)} {fs:List (Str×D)},KR Str K H io ps fs->KR Str K H io (L2.IP f v ps) (HY f d fs)
 |_,_,.nil=>.cons ⟨rfl,r⟩ .nil
 |(a,x)::ps,(b,y)::fs,.cons h t=>by
  obtain⟨e,q⟩:=h;cases (show a=b from e)
  unfold L2.IP HY;by_cases z:a=f
  ·rw[if_pos z,if_pos z];exact .cons ⟨rfl,r⟩ t
  rw[if_neg z,if_neg z];exact .cons ⟨rfl,q⟩<|KR.IP r t
def HD(C:Addr)(f:Str)(m:ME):ME:=λU st=>(m U st).bind λ(x,s1)=>match x with
 |.ref n=>match s1[n]? with
  |some (.ob a fs)=>if decide (a=C)=true then(fs.lookup f).map λd=>(d,s1)else none
  |_=>none
 |_=>none
def lZ(b:Lu X.K C)(hn:Nk X.K C f)(h:SE X e m)(i:attributeBase e f X.env (Wp e X.env)=Wp e X.env:=by rfl):SE X (.Attribute e f pos) (HD C f m):=PE.imp (nN h i) <| by
 rintro σ H Q ⟨U,st,io,d,st',E,S,e,k⟩;obtain⟨⟨x,s1⟩,c,e⟩:=Ht e;refine⟨U,st,io,x,s1,E,S,c,λv1 H1 r g S1 o=>?_⟩;cases x with
 |ref n=>
  dsimp only at e;split at e
  ·rename_i u fs s;obtain⟨w,e⟩:=Iz e;obtain⟨y,a,e⟩:=Ig e;cases e
   cases (of_decide_eq_true w);obtain⟨p,rfl,A⟩:=o;obtain⟨N,ps,P,j⟩:=S1.ob n p _ A s;rcases KR.Jk (f:=f) j with⟨_,z⟩|⟨v,B,l,hd,q⟩
   ·rw[a]at z;cases z
   rw[a]at hd;cases hd;exact⟨p,C,N,ps,v,rfl,P,b,hn,l,k _ _ _ g S1 q⟩
  ·cases e
 |_=>cases e
def Lw(C:Addr)(f:Str)(mo mv:ME):MS:=λU st=>(mv U st).bind λ(y,s1)=>(mo U s1).bind λ(x,s2)=>match x with
 |.ref n=>match s2[n]? with
  |some (.ob a fs)=>if(decide (a=C)&&decide (fs.length<1000))=true then some (.nx U,s2.set n (.ob a<|HY f y fs))else none
  |_=>none
 |_=>none
def pL(j:Lu X.K C)(hn:Nk X.K C f)(l:SE X o mo)(q:SE X value mv)(r:swapsWith value (some<|.Attribute o f pos') pos.line X.env=pure false:=by rfl):SS X (.Assign [.Attribute o f pos'] value pos) (Lw C f mo mv):=PS.imp (lJ l q r) <| by
 intro N σ H h;obtain⟨U,st,io,fl,st',E,S,e,w⟩:=Lb.mp h;obtain⟨⟨y,s1⟩,v,e⟩:=Ht e;obtain⟨⟨x,s2⟩,B,e⟩:=Ht e;refine⟨U,st,io,y,s1,E,S,v,λv1 H1 F c a R1=>⟨U,s1,io++F,x,s2,E.ext S c,a,B,λv2 M Q d S2 R2=>?_⟩⟩;cases x with
 |ref n=>
  dsimp only at e;split at e
  ·rename_i W fs s;obtain⟨g,e⟩:=Iz e;rw[An]at g;cases e
   cases (of_decide_eq_true g.1);obtain⟨p,rfl,A⟩:=R2;obtain⟨m,ps,P,b⟩:=S2.ob n p _ A s;have G:ps.length<1000:=by rw[KR.length b];exact of_decide_eq_true g.2
   have I:=R1.ext a d;obtain⟨i,J⟩:=MY (o:=.ins C m (L2.IP f v1 ps)) (ob:=.ob C (HY f y fs)) S2 A s (λo u z=>by rw[P]at z;cases z) λY T L=>⟨m,_,L,KR.IP (Rep.mono T I)<|KR.mono T b⟩
   refine⟨p,C,m,ps,rfl,P,j,hn,G,?_⟩;have Ea:=(E.ext S c).ext a d;exact((w.on c a).on d S2) σ _ [] i J<|Ea.ext S2 i
  ·cases e
 |_=>cases e
def Lg(C:Addr)(f:Str)(g:GN)(mo:ME)(mm:MA):ME:=λU st=>(mo U st).bind λ(x,s1)=>match x with
 |.ref n=>match s1[n]? with
  |some (.ob a fs)=>if(decide (a=C)&&(fs.lookup f).isNone)=true then(mm U s1).bind λ(ds,s2)=>g (.ref n::ds) s2 else none
  |_=>none
 |_=>none
def MU(P:SZ)(w:World)(K:Ab)(mg:Str->Option IR)(base:P3)(k:Nat)(C:Addr)(f:Str)(n:Nat)(g:GN):Prop:=∃a fd ps,I0 P w K mg base Kx k a fd ps (Mv K n g)/\Meth K C f a/\Binds K fd ps []
def Zr{Q:VK}{Ex:XK}(b:JV n mm)(h:tE X.K (Lg C f g mo mm) σ H Q):UY C f (Mv X.K (n+1) g) [] Ex (tE X.K mo) (tA X.K mm) σ H Q:=by
 obtain⟨U,st,io,d,st',E,S,e,k⟩:=h;obtain⟨⟨x,s1⟩,i,e⟩:=Ht e;refine⟨U,st,io,x,s1,E,S,i,λv1 H1 o s S1 R1=>?_⟩;cases x with
 |ref n=>
  dsimp only at e;split at e
  ·rename_i y fs j;obtain⟨a,e⟩:=Iz e;rw[An]at a;obtain⟨⟨ds,s2⟩,w,e⟩:=Ht e;have c:=of_decide_eq_true a.1;obtain⟨p,rfl,l⟩:=id R1;obtain⟨q,ps,A,r⟩:=S1.ob n p _ l j;rw[c]at A;have m:ps.lookup f=none:=by
    rcases KR.Jk (f:=f) r with⟨z,_⟩|⟨v,B,F,hd,G⟩
    ·exact z
    rw[hd]at a;cases a.2
   refine⟨p,q,ps,rfl,A,m,U,s1,io++o,ds,s2,E.ext S s,S1,w,λI J u N P R2=>?_⟩;refine⟨.ref n::ds,s2,(io++o)++u,d,st',?_,?_,P,e,(k.on S1 s).on P N⟩
   ·rw[Ao,Au,R2.length,b _ _ _ _ w]
   rw[Ao];exact Hi.cons (R1.ext S1 N) R2
  ·cases e
 |_=>cases e
def Q3(F:MU X.prog X.w X.K X.mg X.base k C f (n+1) g)(l:Lu X.K C)(q:HK k X.A)(r:SE X o mo)(u:SA X (e::es) mm)(v:JV n mm)(b:Qqb X.env e es:=by rfl) (i:Qqc pos es X.env:=by rfl)(y:Wp (.Call (.Attribute o f apos) (e::es) [] pos) X.env=(do
   let j <-Wp o X.env
   standAt apos.atName
   let (f,first) <-holding [j] (getMethod j f pl)
   callWith pos f first (backTo pos<|starEach (e::es) X.env) (backToKw pos<|keywordEach [] X.env)):=by rfl):SE X (.Call (.Attribute o f apos) (e::es) [] pos) (Lg C f g mo mm):=by
 obtain⟨a,fd,ps,F,hm,c⟩:=F;exact PE.imp (tM r l hm F q c .nil Sy u b i y) λσ H Q h=>Zr v h
def V5(F:MU X.prog X.w X.K X.mg X.base k C f 1 g)(i:Lu X.K C)(j:HK k X.A)(l:SE X o mo)(q:Wp (.Call (.Attribute o f apos) [] [] pos) X.env=(do
   let b <-Wp o X.env
   standAt apos.atName
   let (f,first) <-holding [b] (getMethod b f pl)
   callWith pos f first (backTo pos<|starEach [] X.env) (backToKw pos<|keywordEach [] X.env)):=by rfl):SE X (.Call (.Attribute o f apos) [] [] pos) (Lg C f g mo mZ):=by
 obtain⟨a,fd,ps,F,hm,c⟩:=F;refine PE.imp (wG l i hm F j c .nil Sy q) λσ H Q h=>?_;have t:=Zr (n:=0) (Ex:=E0) JV.nil h;obtain⟨U,st,io,d,st',E,S,e,k⟩:=t;refine⟨U,st,io,d,st',E,S,e,λv1 H1 m s x N=>?_⟩;obtain⟨p,P,ps,r,u,v,G,s2,y,ds,s3,I,S2,z,B⟩:=k v1 H1 m s x N;refine⟨p,P,ps,r,u,v,?_⟩;cases z;exact B [] H1 [] Ext.refl S2.nil rfl
def Qy(C:Addr)(g:GN)(mm:MA):ME:=λU st=>(mm U st).bind λ(ds,s1)=>(g (.ref s1.length::ds)<|s1++[.ob C []]).bind λ(d,s2)=>match d with
 |.non=>some (.ref s1.length,s2)
 |_=>none
def sS{fd:FuncData}(M:Mk X.K C a)(F:I0 X.prog X.w X.K X.mg X.base Kx k a fd ps (Mv X.K (n+1) g))(q:Binds X.K fd ps [])(u:HK (k+1) X.A)(y:Gl X x)(hm:X.mg x=some (.ref C))(B:SA X (e::es) mm)(G:JV n mm)(b:(x==("__debug__":Str))=false:=by decide) (he:Qqb X.env e es:=by rfl) (h:Qqc pos es X.env:=by rfl):
  SE X (.Call (.Name x p) (e::es) [] pos) (Qy C g mm):=PE.imp (tL M F u y hm q .nil Sy B b he h) <| by
 rintro σ H Q ⟨U,st,io,d,st',E,S,e,k⟩;obtain⟨⟨ds,s1⟩,P,e⟩:=Ht e;obtain⟨⟨r,s2⟩,I,e⟩:=Ht e;refine⟨U,st,io,ds,s1,E,S,P,λJ H1 L W c R1 x f Y m s=>?_⟩;cases r with
 |non=>
  cases e;obtain⟨i,Sa⟩:=Q6 (o:=.own x) c m;have N:upd H1 f (.own x) x=none:=by rw[HW (λz=>s z.symm)];exact Y
  obtain⟨j,l⟩:=PJ (o:=.ins C f []) (ob:=.ob C []) Sa N λZ T e'=>⟨f,[],e',.nil⟩;have R2:=(R1.ext c i).ext Sa j;refine⟨.ref s1.length::ds,s1++[.ob C []],((io++L)++[])++[x],.non,_,?_,?_,l,I,λv Z ka X' S' R'=>⟨R',?_⟩⟩
  ·rw[Ao,Au,R1.length,G _ _ _ _ P]
  ·rw[Ao J];exact Hi.cons ⟨x,rfl,by rw[<-Sa.len];exact getElem?_len _ x⟩ R2
  have kk:=((k.on c W).on Sa i).on l j;exact kk _ _ ka X' S' ⟨x,rfl,LQ (by rw[<-Sa.len];exact getElem?_len _ x)⟩
 |_=>cases e
def YX(K:Ab)(C:Addr)(x qual:Str)(st:W1)(ps:List Str):Prop:=∃f fd,MK K x qual st f fd/\Meth K C x f/\Binds K fd ps []
def qZ{P:SZ}{st:W1}{m:MS}(L:YX K C x qual st ps)(S:IQ N ps (IW st))(hbody:∀(f:Addr) (b:IR) (A:Around) (outer:List Env) (s:Shared) (H:Hp) (E:XK),HK k (A.deeper<|envOfC qual (IW st) s.heap.objs.size f b) ->
   KN (JK Kx P w K mg base N qual (IW st) f b A outer s H E).nox (Kf st) m):MU P w K mg base (k+1) C x ps.length (Iw N.length m):=by
 obtain⟨f,fd,F,hm,a⟩:=L;exact⟨f,fd,ps,NO F S<|hbody f,hm,a⟩
def SX(P:SZ)(w:World)(K:Ab)(mg:Str->Option IR)(base:P3)(k:Nat)(C:Addr)(x:Str)(n:Nat)(g:GN):Prop:=∃a fd ps,Mk K C a/\I0 P w K mg base Kx k a fd ps (Mv K n g)/\Binds K fd ps []/\mg x=some (.ref C)
def vN(F:SX X.prog X.w X.K X.mg X.base k C x (n+1) g)(i:HK (k+1) X.A)(j:Gl X x)(l:SA X (e::es) mm)(q:JV n mm)(b:(x==("__debug__":Str))=false:=by decide) (he:Qqb X.env e es:=by rfl) (h:Qqc pos es X.env:=by rfl):
  SE X (.Call (.Name x p) (e::es) [] pos) (Qy C g mm):=by
 obtain⟨a,fd,ps,M,F,c,hm⟩:=F;exact sS M F c i j hm l q b he h
def YW(K:Ab)(mg:Str->Option IR)(C:Addr)(c x qual:Str)(st:W1)(ps:List Str):Prop:=∃f fd,MK K x qual st f fd/\Mk K C f/\Binds K fd ps []/\mg c=some (.ref C)
def qY{P:SZ}{st:W1}{m:MS}(L:YW K mg C c x qual st ps)(S:IQ N ps (IW st))(hbody:∀(f:Addr) (b:IR) (A:Around) (outer:List Env) (s:Shared) (H:Hp) (E:XK),HK k (A.deeper<|envOfC qual (IW st) s.heap.objs.size f b) ->
   KN (JK Kx P w K mg base N qual (IW st) f b A outer s H E).nox (Kf st) m):SX P w K mg base (k+1) C c ps.length (Iw N.length m):=by
 obtain⟨f,fd,F,M,a,hm⟩:=L;exact⟨f,fd,ps,M,NO F S<|hbody f,a,hm⟩
def inClass(st:W1)(j:Nat):W1:=match st with
 |.ClassDef _ _ _ body _ _ _ _ _ _ _=>body.getD j<|.Pass ⟨0,0,0,0⟩
 |_=>.Pass ⟨0,0,0,0⟩
end
section
variable {K:Type} [DecidableEq K] {knd:HeapKind prog w K}
def lE{xs:List (K×Addr×IR)}{k:K}{Q:Option DictEntry->Shared->Prop}(i:knd.room A)(b:knd.is s.heap k a)(hm:s.heap.DictOfH knd d xs)(h:∀(j:Nat) (p:Addr×IR),xs[j]?≠some (k,p))(l:Q none {s with toks:=s.toks+knd.draws k}):wpAny (KB prog w) A (Builtin.Dict.takeOut d<|.ref a) Q E s:=by
 obtain⟨o,m,n,e,x,hd,he,c,f⟩:=hm;unfold Builtin.Dict.takeOut
 try with_reducible refine AM ?_
 exact Aa<|knd.pyHash i b<|Aa<|Fn (s:={s with toks:=s.toks+knd.draws k}) i b e hd he c f (λ_=>Ac l) λj p g=>absurd g (h j p)
def xQ(d a:Addr)(x:IR):MeetsIn prog w (Builtin.«dict.pop» ⟨[.ref d,.ref a,x],[]⟩) (λA R s=>knd.room A.in1/\(d==sysModules)=false/\∃k xs,knd.is s.heap k a/\s.heap.DictOfH knd d xs/\xs.length<=sizeLine /\
  (∀(j:Nat) (p:Addr×IR) h' tk,xs[j]?=some (k,p)->h'.DictOfH knd d (xs.eraseIdx j)->BB d s.heap h'->R (.ok<|.ret p.2) {s with heap:=h',toks:=tk}) /\
  ((∀(j:Nat) (p:Addr×IR),xs[j]?≠some (k,p))->∀tk,R (.ok<|.ret x) {s with toks:=tk})):=
 .of_wp <| by
  rintro A R s ⟨E,H,k,xs,c,hm,N,h,h'⟩;unfold Builtin.«dict.pop»;refine Aa ?_;unfold Builtin.Dict.keyAndDefault;refine Aa<|B7 hm.typeIs<|Ac ?_;have P:(keyPart<|AE a).isSome=false:=rfl;obtain⟨o,K,l,X,q,hd,he,b,r⟩:=id hm;simp only[P,AQ,if_false];refine Aa<|BU X hd<|Aa<|Ac ?_;have u:=Ep he
  cases g:K.isEmpty with
  |true=>
   have h0:xs.length=0:=by
    have:K.size=0:=by simpa using g
    omega
   simp only[if_true];refine Aa<|BR<|Aa<|Ac ?_;simp only[Cn,if_true];refine Aa<|D2 H ?_;exact Aa<|BR<|Ac ⟨x,rfl,h' (λj p m=>absurd (KF.mp m).1 (by omega)) _⟩
  |false=>
   simp only[AQ,if_false];by_cases e:∃(j:Nat) (p:Addr×IR),xs[j]?=some (k,p)
   ·refine Aa<|YU E c hm N e λj p i m n C=>?_;rw[show(some (⟨knd.hash k,.ref p.1,p.2⟩:DictEntry)).isNone=false from rfl];refine Aa<|BP<|Ac ⟨p.2,rfl,?_⟩;exact h j p i _ m n C
   have f:∀(j:Nat) (p:Addr×IR),xs[j]?≠some (k,p):=λj p z=>e ⟨j,p,z⟩;refine Aa<|lE E c hm f ?_;simp only[Cn,if_true];refine Aa<|D2 H ?_;exact Aa<|BR<|Ac ⟨x,rfl,h' f _⟩
end
variable {Q:Qqa}{cpos:Pos}
section
variable {mk mx:ME}{f:Pv}
def oV{b:Addr}{kvs:List (List Key×V)}{k:List Key}{z:V}{u:IR}(r:A.units+1<cLine)(I:Inv X qp σ H s)(e:H a=some (.dT kvs))(y:H b=some (.tup<|k.map kV))(Z:RelV z u)(h:∀v i s',IB kvs k=some v->Inv X qp σ (upd H a<|.dT<|J4 kvs k) s'->RelV v i->Q i s') (h':∀s',IB kvs k=none->Inv X qp σ H s'->Q u s'):wpAny (KB X.prog X.w) A (call (.builtin "dict.pop") [.ref a,.ref b,u]) Q E s:=by
 obtain⟨K,hd,xs,rel,n⟩:=UQ I.hok e;obtain⟨t1,t2,B⟩:=Ni I<|.inr ⟨kvs,.inl e⟩;have G:xs.length<=sizeLine:=by rw[<-Bc rel];exact K
 have g:(xs.map (·.1)).Nodup:=by obtain⟨_,_,_,_,_,_,_,_,g⟩:=n;exact g
 refine Dk CB n.typeIs EH (PySem.F.args_dict_pop_3 _ _ _) (xQ (knd:=tupleKind (Jb X.prog X.w)) a b u) ⟨BK r,B,k,xs,Nj I.hok y,n,G,λj p h2 tk m o x=>?_,λhno tk=>?_⟩
 ·have d:=rel.val k;rw[atKey_of_get g m]at d
  cases l:IB kvs k with
  |none=>rw[l]at d;exact d.elim
  |some v=>
   rw[l]at d;refine h v p.2 _ l ?_ d;obtain⟨q,J,L,N,C,M,S,_,T⟩:=o;have U:(kvs.findIdx λW=>decide (W.1=k))=j:=(Ud (λp q z=>z.1) k rel).trans<|U9 g m;have Y:(J4 kvs k).length<=sizeLine:=AA (C2 _ _) K;have f:KT H (J4 kvs k) (xs.eraseIdx j):=by unfold J4;rw[U];exact Ui j rel
   refine To I (by rw[e];exact CD) x ⟨q,N⟩ ⟨Y,hd,_,f.keeps λc ys P=>?_,q,J,L,N,C,M,S,T⟩;rw[HW (Qu P e λz=>nomatch z)];exact P
 ·have l:IB kvs k=none:=by
   cases l:IB kvs k with
   |none=>rfl
   |some v=>
    obtain⟨j,p,m⟩:=ZZ rel l;exact absurd m<|hno j p
  exact h' _ l<|Inv.tk I tk
def rY(h ty i:TE):TE:=λσ H Q=>h σ H λx H1=>∃a,x=.ref a/\Sg H1 a/\ty σ H1 λy e=>i σ e λz d=>∃c k b,d a=some (.dT c)/\y=.ref b/\d b=some (.tup<|k.map kV)/\(∀v,IB c k=some v->Q v (upd d a<|.dT<|J4 c k))/\(IB c k=none->Q z d)
def yH{i ty j:TE}(q:X.A.units+1<cLine)(r:PE X o i)(he:PE X e ty)(hf:PE X f j)(m:M2 X o "pop" apos e f cpos):PE X (.Call (.Attribute o "pop" apos) [e,f] [] cpos) (rY i ty j):=by
 intro qp s σ H Q I h;refine DX m.base m.few m.line CZ CB EX (HC (r qp s σ H _ I h) ?_);rintro u s1 ⟨x,H1,n,w,a,ex,d,C⟩;subst ex;obtain rfl:u=AE a:=w;obtain⟨t1,E,_⟩:=Ni n d;refine⟨t1,E,?_⟩;rw[m.trees];refine BZ rfl (CF (Cm (HC (he qp s1 σ H1 _ n C) λK s2 ⟨y,N,P,B,F⟩=>
  Cm (HC (hf qp s2 σ N _ P F) λY s3 ⟨z,G,J,p,L,k,b,M,S,T,U,W⟩=>C6 ?_))))
 subst S;obtain rfl:K=AE b:=B;exact oV q J M T p (λv Z s4 l c g=>⟨v,_,c,g,U v l⟩) λs4 l c=>⟨z,G,c,p,W l⟩
def N3(md mk mx:ME):ME:=λU st=>(md U st).bind λ(d,s1)=>match d with
 |.ref n=>if MN s1 n=true then(mk U s1).bind λ(k,s2)=>(mx U s2).bind λ(x,s3)=>match k,s3[n]? with
   |.tup ds,some (.dt a)=>(keysOf ds).bind λq=>match HQ a q with
     |some v=>some (v,s3.set n (.dt<|J4 a q))
     |none=>some (x,s3)
   |_,_=>none
  else none
 |_=>none
def sU{md:ME}(W:X.A.units+1<cLine)(Y:SE X o md)(he:SE X e mk)(hf:SE X f mx)(mm:M2 X o "pop" apos e f cpos:=by exact⟨rfl,rfl,rfl,rfl⟩):SE X (.Call (.Attribute o "pop" apos) [e,f] [] cpos) (N3 md mk mx):=
 PE.imp (yH W Y he hf mm) <| by
  rintro σ H Q ⟨U,st,io,d,st',E,S,e,k⟩;obtain⟨⟨x,s1⟩,Z,f1⟩:=Ht e;clear e;cases x with
  |ref n=>
   obtain⟨hd,f2⟩:=Iz f1;obtain⟨⟨y,s2⟩,e2,i⟩:=Ht f2;obtain⟨⟨z,s3⟩,e3,e⟩:=Ht i;clear f1 f2 i;refine⟨U,st,io,_,s1,E,S,Z,λv1 H1 j s c R1=>?_⟩;obtain⟨p,rfl,l⟩:=R1;refine⟨p,rfl,Wd c l hd,U,s1,io++j,y,_,E.ext S s,c,e2,λv2 H2 B K w R2=>⟨U,s2,(io++j)++B,z,_,(E.ext S s).ext c K,w,e3,λv3 H3 k3 N S3 R3=>?_⟩⟩;dsimp only at e;split at e
   ·rename_i ds P F;obtain⟨q,eq1,e⟩:=Ht e;have g:=LQ (ka:=k3)<|LQ (ka:=B) l;obtain⟨ps,I,r⟩:=S3.ob n p _ g F;obtain⟨b,xs,rfl,hb,rs⟩:=R2.ext w N;have ex:=OZ rs eq1;subst ex;refine⟨ps,q,b,I,rfl,hb,λv C=>?_,λC=>?_⟩
    ·rcases KR.val r q with⟨J,h⟩|⟨d',v',m,a,L⟩
     ·rw[C]at h;cases h
     ·rw[C]at a;cases a;rw[m]at e;cases e;obtain⟨M,S'⟩:=MY (o:=.dT (J4 ps q)) (ob:=.dt (J4 P q)) S3 g F (λo u z=>by rw[I]at z;cases z) λH' T e'=>⟨_,e',by
       have hi:=Ud (λp q z=>z.1) q (KR.mono (ka:=[]) T r);unfold J4;rw[hi];exact Ui _ (KR.mono T r)⟩
      exact(((k.on c s).on w K).on S3 N) _ _ [] M S'<|Rep.ext S3 M L
    ·rcases KR.val r q with⟨J,h⟩|⟨d',v',m,a,L⟩
     ·rw[J]at e;cases e;exact(((k.on c s).on w K).on S3 N).now S3 R3
     rw[C]at a;cases a
   ·cases e
  |_=>cases f1
end
section
variable {q:Obj}{es:Array DictEntry}{ep:Nat}
def lU(b:(a==sysModules)=false):MeetsIn prog w (Builtin.«dict.__len__» ⟨[.ref a],[]⟩) (λ_ R s=>∃q es ep,s.heap.get? a=some q/\q.data=.dict es ep/\R (.ok<|.ret<|.int es.size s.toks) {s with toks:=s.toks+1}):=.of_wp <| by rintro A R s ⟨q,es,ep,g,c,h⟩;show wpAny _ _ (dictSize a >>= _) _ _ s;unfold dictSize;refine Aa<|Aa<|BU g c<|Ac ?_;show wpAny _ _ (Builtin.Dict.pendingCount a >>= _) _ _ s;refine Aa<|wpAny_pendingCount_other b<|wpAny_ret_mkInt ?_;rw[Nat.add_zero];exact h
def vE{Q:Bool->Shared->Prop}(b:(a==sysModules)=false)(g:s.heap.get? a=some q)(i:q.data=.dict es ep)(ty:s.TypeIs (.ref a) "dict")(hz:es.size<=sizeLine)(h:∀tk,Q (!es.isEmpty) {s with toks:=tk}):wpAny (KB prog w) A (truthy<|.ref a) Q E s:=by
 have d:(es.size:Int)<2^63:=by have:=Cq;omega
 have ne:((es.size:Int) != 0)=!es.isEmpty:=by
  obtain⟨l⟩:=es;cases l<;>simp<;>omega
 have body:wpAny (KB prog w) A (runValue<|.builtin "len" ⟨[.ref a],[]⟩) (λr c=>r=.int es.size (s.toks+1)/\Q (!es.isEmpty) c) E s:=by refine wpAny_runValue<|BA entry_len ?_;rw[A6 plain_len _];unfold Builtin.«len»;refine Aa (m:=oneArg "len" _) (Ac<|Aa (m:=callSpecial? (.ref a) (BC "__len__"))<|A5 (name:=BC "__len__") ty F.slot_dict_len<|Dk F.slot_dict_len ty F.entry_dict_len (F.args_dict_len_1 _) (lU b) ⟨q,es,ep,g,i,?_⟩);show wpAny _ _ _ _ _ {s with toks:=s.toks+1};refine Aa<|AM<|Ac<|Aa<|BP ?_;show wpAny _ _ (if(es.size:Int)<0 then _ else _) _ _ _;rw[if_neg (by omega)];show wpAny _ _ (if(es.size:Int) ≥ 2^63 then _ else _) _ _ _;rw[if_neg (by omega)];exact Aa<|wpAny_mkInt<|Ac ⟨rfl,h _⟩
 unfold truthy;refine Aa (wpAny_callSpecial?_none (name:=BC "__bool__") ty noBool_dict<|Aa<|wpAny_specialOf (name:=BC "__len__") ty F.slot_dict_len.lookup<|Aa<|Bp body (λr c z=>?_) λ_ _ z=>z);obtain⟨rfl,z⟩:=z;exact Ac<|ne ▸ z
end
section
variable {a:Pv}
def OJ(m:ME):MT:=λU st=>(m U st).bind λ(x,s1)=>match x with
 |.ref n=>match s1[n]? with
  |some (.dt a)=>if fits a.length=true then some (!a.isEmpty,s1)else none
  |_=>none
 |_=>none
def sP(h:SE X a m)(he:∀whole,isTrue a X.env whole=(do let v <-whole;standAt a.pos;holding [v] (truthy v)):=by intro _;rfl):SB X a (OJ m):=by
 rintro qp s σ H Q I ⟨U,st,io,b,st',E,S,e,k⟩;obtain⟨⟨x,s1⟩,j,e⟩:=Ht e;refine isTrue_plain (HC (h qp s σ H (λv H1=>∃d,Ext io d H H1/\HA X.K H1 (io++d) s1/\Rep X.K H1 (io++d) v x) I ⟨U,st,io,x,s1,E,S,j,λv H1 d f S1 A=>⟨d,f,S1,A⟩⟩) ?_)<|he _;rintro u s2 ⟨v,H1,I1,q,d,f,S1,A⟩
 cases x with
 |ref n=>
  dsimp only at e;split at e
  ·rename_i c r;obtain⟨hf,e⟩:=Iz e;cases e;obtain⟨p,rfl,B⟩:=A;cases q;obtain⟨ps,C,F⟩:=S1.ob n p _ B r;obtain⟨t1,T,G⟩:=Ni I1<|.inr ⟨ps,.inl C⟩;obtain⟨z,y,xs,W,o,N,Y,g,ex,P,Z,nd⟩:=I1.hok p _ C;have J:Jv X.prog X.w H1 s2.heap p (.frz o<|.dT ps):=⟨g,I1.hok p _ C⟩
   obtain⟨g',L,ent⟩:=P6 J P;have i:N.size=c.length:=by rw[L,KR.length F]
   refine vE G g P t1 (by rw[i];exact of_decide_eq_true hf) λtk=>⟨H1,Inv.tk I1 tk,?_⟩
   have M:(!N.isEmpty)=!c.isEmpty:=by
    obtain⟨l⟩:=N;cases l<;>cases c<;>simp at i ⊢
   rw[M];exact k _ _ f S1
  ·cases e
 |_=>cases e
end
variable {good:P3->Prop}{bt:Nat->Nat->Bool}{h:P3}
section
variable {I S:Addr}{fp wr:List Addr}{St:Nat->P3->Prop}{R:Result->Shared->Prop}
def N0(prog:SZ)(w:World)(A:Around)(P:Nat->IR->Prop)(good:P3->Prop)(bt:Nat->Nat->Bool):Prop:=∀(i j:Nat) (u v:IR) (s:Shared) (Q E:Qqa),good s.heap->P i u->P j v->Q (.bool<|bt i j) s->wpAny (KB prog w) A (richCompare .Lt u v) Q E s
def Keeps(wr:List Addr)(S:Addr)(h h':P3):Prop:=∀b o,b∉wr->b≠S->h.get? b=some o->h'.get? b=some o
def Keeps.trans{i j l:P3}(x:Keeps wr S i j)(y:Keeps wr S j l):Keeps wr S i l:=λb o p q e=>y b o p q<|x b o p q e
def Keeps.upd{g:Obj->Obj}:Keeps wr S h (h.update S g):=λb o _ q e=>(Ct _ _<|Bt q).trans e
def bS{i:Nat}{g:Obj->Obj}(W:Walks prog w A.in1 I fp wr n P St)(hf:S∉fp)(x:St i h):St i (h.update S g):=W.frame _ _ _ x λb a o e=>(Ct _ _ (λz:S=b=>hf (z ▸ a))).trans e
def Yc(W:Walks prog w A.in1 I fp wr n P St)(i:∀h h',good h->Keeps wr S h h'->good h')(ask:N0 prog w A.in1 P good bt)(hf:S∉fp):∀(r j:Nat) (s:Shared) (u:IR) (c:Nat),j+1+r=n->St (j+1) s.heap->good s.heap->P (argBest bt j) u->s.heap.get? S=some {cls:=.type "list",dict:=none,data:=.seq #[u,u] c,slots:=#[]} ->
  (∀v h' tk,P (argBest bt<|n-1) v->Keeps wr S s.heap h'->R (.ok<|.ret v) {s with heap:=h',toks:=tk})->codeAny (KB prog w) A (.builtin "min.loop" ⟨[.ref I,.none,.ref S],[]⟩) R s:=by
 have hw:S∉wr:=λz=>hf<|W.sub _ z;have nm:(toString "min"++toString ".loop":String)="min.loop":=by decide
 intro r
 induction r with
 |zero=>
  intro j s u c f a X pu g fin;have f:j+1=n:=f;refine BA F.entry_min_loop ?_;rw[A6 F.plain_min_loop _];show wpAny _ A.in1 (seqItems? (.ref S) >>= _) _ _ s;refine Aa<|Bu g rfl ?_;show wpAny _ A.in1 (tryCatch (pyNext<|.ref I) _ >>= _) _ _ s;refine Aa<|CA<|W.done s _ _ (f ▸ a) λl tk kp=>?_;show wpAny _ A.in1 (updateSeq S (λ_=>#[]) >>= _) _ _ _;refine Aa<|Er (kp S _ hw g) rfl<|Aa<|BP<|Ac<|fin u _ tk (by rw[<-f];exact pu)<|Keeps.trans (λb o p _ e=>kp b o p e) Keeps.upd
 |succ r q=>
  intro j s u c f a X pu g fin;have x:j+1<n:=by omega
  refine BA F.entry_min_loop ?_;rw[A6 F.plain_min_loop _];show wpAny _ A.in1 (seqItems? (.ref S) >>= _) _ _ s;refine Aa<|Bu g rfl ?_;show wpAny _ A.in1 (tryCatch (pyNext<|.ref I) _ >>= _) _ _ s;refine Aa<|CA<|W.item (j+1) s _ _ x a λv l tk y m kp=>?_;have C:Keeps wr S s.heap l:=λb o p _ e=>kp b o p e;have d:=kp S _ hw g;have g1:=i _ _ X C;show wpAny _ A.in1 (tryCatch (holding [v,v]<|richCompare .Lt v u >>= _) _ >>= _) _ _ _;refine Aa<|CA<|AM<|Aa<|ask (j+1) (argBest bt j) v u _ _ _ g1 y pu<|Aa<|AM<|Bv<|Aa<|BP<|Ac ?_
  cases B:bt (j+1) (argBest bt j) with
  |true=>
   simp only[if_true];refine Aa<|Er d rfl<|Aa<|BP ?_;rw[nm];exact Ac ⟨BD F.plain_min_loop _,q (j+1) _ v _ (by omega) (bS W hf m) (i _ _ g1 Keeps.upd) (by simp only[argBest,B,if_true];exact y) (BL _ d rfl) λE H K N Q=>fin E H K N ((C.trans Keeps.upd).trans Q)⟩
  |false=>
   simp only[AQ,if_false];refine Aa<|BP ?_;rw[nm];exact Ac ⟨BD F.plain_min_loop _,q (j+1) _ u c (by omega) m g1 (by simp only[argBest,B,AQ,if_false];exact pu) d λE H K N Q=>fin E H K N (C.trans Q)⟩
def zkA(W:Walks prog w A.in1 I fp wr n P St)(i:∀h h',good h->Keeps wr S h h'->good h')(ask:N0 prog w A.in1 P good bt)(hf:S∉fp)(hn:0<n){c:Nat}(st0:St 0 s.heap)(l:good s.heap)(j:s.heap.get? S=some {cls:=.type "list",dict:=none,data:=.seq #[] c,slots:=#[]})(fin:∀v h' tk,P (argBest bt<|n-1) v->Keeps wr S s.heap h'->R (.ok<|.ret v) {s with heap:=h',toks:=tk}):codeAny (KB prog w) A (.builtin "min.loop" ⟨[.ref I,.none,.ref S],[]⟩) R s:=by
 have hw:S∉wr:=λz=>hf<|W.sub _ z;have nm:(toString "min"++toString ".loop":String)="min.loop":=by decide
 refine BA F.entry_min_loop ?_;rw[A6 F.plain_min_loop _];show wpAny _ A.in1 (seqItems? (.ref S) >>= _) _ _ s;refine Aa<|Bu j rfl ?_;show wpAny _ A.in1 (tryCatch (pyNext<|.ref I) _ >>= _) _ _ s;refine Aa<|CA<|W.item 0 s _ _ hn st0 λv g tk m d kp=>?_;have f:Keeps wr S s.heap g:=λb o p _ e=>kp b o p e;have a:=kp S _ hw j;show wpAny _ A.in1 (updateSeq S (λ_=>#[v,v]) >>= _) _ _ _;refine Aa<|Er a rfl ?_;rw[nm];exact Ac ⟨BD F.plain_min_loop _,Yc W i ask hf (n-1) 0 _ v _ (by omega) (bS W hf d) (i _ _ (i _ _ l f) Keeps.upd) m (BL _ a rfl) λx C E H K=>fin x C E H ((f.trans Keeps.upd).trans K)⟩
end
def zN{x:IR}(hn:0<n)(ask:N0 prog w A.in1 P good bt)(i:∀h h',good h->(∀b o,b<s.heap.objs.size->h.get? b=some o->h'.get? b=some o)->good h')(j:good s.heap)(h:wpAny (KB prog w) A.in1 (pyIter x) (λit s2=>∃I fp wr St,it=.ref I/\Walks prog w A.in1 I fp wr n P St/\St 0 s2.heap/\(∀b∈fp,b<s2.heap.objs.size)/\(∀b∈wr,s.heap.objs.size<=b)/\(∀b o,s.heap.get? b=some o->s2.heap.get? b=some o)/\s.heap.objs.size<=s2.heap.objs.size /\
   ∀v h' tk,P (argBest bt<|n-1) v->(∀b o,b∉wr->s2.heap.get? b=some o->h'.get? b=some o)->Q v {s2 with heap:=h',toks:=tk}) E s):
  wpAny (KB prog w) A (call (.builtin "min") [x]) Q E s:=by
 have nm:(toString "min"++toString ".loop":String)="min.loop":=by decide
 refine FD F.kind_min F.plain_min F.entry_min (F.args_min1 _) ?_;show wpAny _ A.in1 (Builtin.Builtins.bindParams "min" ["key","default"] 0 ⟨[],[]⟩ >>= _) _ _ s;refine Aa (F6 (show Builtin.Builtins.bindParams "min" ["key","default"] 0 ⟨[],[]⟩=pure [none,none] from rfl)<|Aa<|Ac<|Aa<|Bp h (λit s2 z=>?_) λ_ _ e=>e);obtain⟨I,fp,wr,St,rfl,W,c,hfp,d,m,f,fin⟩:=z;refine Aa<|AO ?_;have hf:s2.heap.objs.size∉fp:=λz=>AL _<|hfp _ z;have hw:s2.heap.objs.size∉wr:=λz=>hf<|W.sub _ z;rw[nm];have p:∀h h',good h->Keeps wr s2.heap.objs.size h h'->good h':=λh h' g k=>i h h' g λb o a e=>k b o (λz=>Nat.not_le.mpr a (d b z)) (Av<|AC a f) e;refine Ac ⟨BD F.plain_min_loop _,zkA W p ask hf hn (W.frame _ _ _ c λb _ o e=>Ad _ e) (i _ _ j λb o _ e=>Ad _ (m b o e)) (Ap _ rfl) λv C tk H kp=>?_⟩;exact fin v C tk H λb o a e=>kp b o a (Av<|Ak e) (Ad _ e)
def Qq(ts:List (List Int)):List Int:=ts.getD (argBest (λi j=>HT.lexLt (ts.getD i []) (ts.getD j []))<|ts.length-1) []
theorem WR(bt:Nat->Nat->Bool):∀k,argBest bt k<=k
 |0=>Ah _
 |k+1=>by
  unfold argBest;split
  ·exact Ah _
  exact FX<|WR bt k
def OL:GN
 |[.ref n],st=>match st[n]? with
  |some (.dt kvs)=>if(fits kvs.length&&!kvs.isEmpty)=true then(rowsOf<|Jl kvs).map λts=>(HF (Qq ts),st)else none
  |_=>none
 |_,_=>none
def zW(hc:X.calm=true)(hu:X.A.units+1<cLine):Jw X (.builtin "min") OL:=by
 rintro qp s σ H xs us Q I r ⟨ds,st,io,d,st',R,S,e,k⟩;unfold OL at e;split at e
 ·rename_i n
  split at e
  ·rename_i C c;obtain⟨hf,e⟩:=Iz e;obtain⟨P,J,e⟩:=Ig e;cases e;rw[An]at hf;obtain⟨v,rfl,p,rfl,hp⟩:=R.one;obtain⟨u,rfl,L⟩:=r.one;cases L;obtain⟨ps,M,U⟩:=S.ob n p _ hp c;obtain⟨t1,t2,hs⟩:=Ni I<|.inr ⟨ps,.inl M⟩;obtain⟨z,y,zs,r0,o,f,ep,g,ex,W,et,nd⟩:=I.hok p _ M;have fz:Jv X.prog X.w H s.heap p (.frz o<|.dT ps):=⟨g,I.hok p _ M⟩
   obtain⟨g',Y,ent⟩:=P6 fz W;have B:∀(j:Nat) (v:IR),(f.toList.map (·.key))[j]?=some v ↔ ∃c,f[j]?=some c/\v=c.key:=λj v=>by
    rw[Ay,Bm];cases f[j]? with
    |none=>simp
    |some x=>simp[eq_comm]
   obtain⟨ys,rv,rr⟩:=T2 (vs:=f.toList.map (·.key)) U (by rw[Af,AR,Y]) λj v q J e2=>by obtain⟨en',h1,h2⟩:=(B j v).mp J;obtain⟨en2,b,h3,h4,h5,_⟩:=ent j q.1 q.2 e2;rw[h1]at h3;cases h3;exact⟨b,by rw[h2,h4],h5⟩
   obtain⟨T,hd⟩:=Q2 rr J;have hlen:f.size=P.length:=by rw[Y,KR.length U,<-show(Jl C).length=C.length from(Af _),hd,Af]
   have hn:0<f.size:=by
    rw[Y,KR.length U];cases C with
    |nil=>exact absurd hf.2<|by decide
    |cons a l=>simp
   have get:∀{i:Nat}{v:IR},(∃c,f[i]?=some c/\v=c.key)->i<P.length/\∃a,v=.ref a/\H a=some (.tup<|(P.getD i []).map V.int):=λ{i v} h=>by
    have hv:=(B i v).mpr h;have G:i<P.length:=by have:=(KF.mp hv).1;rw[Af,AR,hlen]at this;exact this
    obtain⟨a,ea,N,_⟩:=TN T G;obtain⟨u,eu,L⟩:=rv.get ea;cases L;rw[hv]at eu;cases eu;exact⟨G,a,rfl,N⟩
   have ask:N0 X.prog X.w X.A.in1 (λi v=>∃c,f[i]?=some c/\v=c.key) (λh=>∀b q,H b≠none->s.heap.get? b=some q->h.get? b=some q) (λi j=>HT.lexLt (P.getD i []) (P.getD j [])):=λi j u v s1 Q E hg pu Z hq=>by obtain⟨G,a,rfl,N⟩:=get pu;obtain⟨hj,b,rfl,m⟩:=get Z;obtain⟨ia,va,⟨oa,ga,ca,na,da⟩,_⟩:=I.tuple<|IK.of (K:=X.K) N;obtain⟨ib,vb,⟨ob,gb,cb,nb,db⟩,_⟩:=I.tuple<|IK.of (K:=X.K) m;exact HT.Ln (items:=ia.toArray) (items2:=ib.toArray) ⟨oa,hg _ _ (by rw[N];simp) ga,ca,na,da⟩ ⟨ob,hg _ _ (by rw[m];simp) gb,cb,nb,db⟩ (L2.intsAre_of va) (L2.intsAre_of vb) hu hq
   have F:p<s.heap.objs.size:=Ak g;refine zN (n:=f.size) hn ask (λh h' gh kk b q m e=>kk b q (Ak e) (gh b q m e)) (λb q _ e=>e)<|Wi t1 hs g W ?_;refine⟨_,_,_,_,rfl,eB (A:=X.A.in1) (I.ok.hd hc) s.heap.objs.size p (Av F) W,⟨⟨_,Ap _ rfl,rfl,rfl⟩,Ad _ g⟩,λb m=>?_,λb m=>?_,λb q e=>Ad _ e,?_,λv h' tk Z kk=>?_⟩
   ·show b<(s.heap.push _).objs.size;rw[A8];simp only[A3,A4,or_false]at m
    rcases m with rfl|rfl
    ·exact Cc _
    exact C8 F
   ·exact D3 (KM.mp m).symm
   ·show _<=(s.heap.push _).objs.size;rw[A8];exact Cs _
   obtain⟨G,a,rfl,N⟩:=get Z;rw[hlen]at N;exact⟨.ref a,H,Inv.kept (s:=s) (h':=h') (t':=tk) I λb q e=>kk b q (λz=>Av (Ak e) (KM.mp z)) (Ad _ e),rfl,k.now S ⟨a,_,rfl,N,VM _⟩⟩
  ·cases e
 ·cases e
open L2
section
variable {st:W1}{f:Addr}
structure Si(K:Ab)(c:Str)(C:Addr):Prop where
 ns:Dm K UV c=some (some (.ref C))
 cl:Lu K C
 ms:Dj K C=true
 kc:Bd K (.ref C)=true
def jW(a:Dm K UV c=some (some<|.ref C))(b:CC K C Fs=true)(hd:C5 K C=true)(po:DW K C=true)(i:Bk K (.ref C) "__setattr__"=some (some<|.builtin "object.__setattr__"))(mk:Dj K C=true)(j:Bd K (.ref C)=true):Si K c C:=⟨a,⟨b,hd,po,i⟩,mk,j⟩
structure MJ(K:Ab)(C:Addr)(x qual:Str)(st:W1)(f:Addr):Prop where
 ex:∃(oc:IR) (od:Option Addr) (kV dc pm:IR) (an:Option Addr) (cd ct:IR) (sl:Array (Option IR)),K.lookup f=some ⟨oc,od,.func (Br x qual (LN st) (Kf st) (IW st) .none kV dc pm an cd ct),sl⟩/\Ca K cd qual=true
 at_:Bk K (.ref C) x=some (some (.ref f))
 fn:Di K (.ref f)=true
 kp:Bd K (.ref f)=true
def jG{b kV j pm cd q:IR}{r an:Option Addr}{u:Array (Option IR)}(a:Bk K (.ref C) x=some (some<|.ref f))(i:Di K (.ref f)=true)(l:K.lookup f=some ⟨b,r,.func<|Br x qual (LN st) (Kf st) (IW st) .none kV j pm an cd q,u⟩)(c:Ca K cd qual=true)(k:Bd K (.ref f)=true):MJ K C x qual st f:=⟨⟨b,r,kV,j,pm,an,cd,q,u,l,c⟩,a,i,k⟩
def uF(F:MJ K C x qual st f)(b:∀(kV doc pm:IR) (an:Option Addr) (j q:IR) (us:List IR),us.length=ps.length->bindArgs (Br x qual (LN st) (Kf st) (IW st) .none kV doc pm an j q) ⟨us,[]⟩=pure (ps.zip us)):YX K C x qual st ps:=by obtain⟨⟨d,e,kV,g,pm,an,cd,q,h,l,c⟩,a,i,k⟩:=F;exact⟨_,_,OS l c k,⟨a,i,k⟩,(OS l c k).binds b⟩
end
end L2.MP
namespace L2.MP
open PySem PySem.Spec PyProof.Rows
end L2.MP
namespace L2.MP
open PySem PySem.Spec
open PyProof.Rows
end L2.MP
namespace L2.MP
open PySem PySem.Spec
open PyProof.Rows
section
variable {X:Cx}{K:Ab}{H:Hp}{io:List Addr}{m:ME}{st st':Hf}{tg:Pv}
end
end L2.MP
namespace L2.MP
open PySem PySem.Spec
open PyProof.Rows
end L2.MP
namespace L2.MP.ST
open PySem PySem.SetTable
end L2.MP.ST
namespace L2.MP
open PySem PySem.Spec PyProof.Rows
end L2.MP
namespace L2.MP
open PySem PySem.Spec
open PyProof.Rows
variable {X:Cx}{pos:Pos}
end L2.MP
namespace L2.MP.ST
open PySem PySem.SetTable
end L2.MP.ST
namespace L2.MP
open PySem PySem.Spec PyProof.Rows
end L2.MP
namespace L2.MP
open PySem PySem.Spec
open PyProof.Rows
end L2.MP
namespace L2.MP
open PySem PyProof.Rows
section
open PySem.SeqAt
open PySem.MeetsSeq PySem.MeetsSeq2 PySem.MeetsSeq3
end
open PySem.Spec
open PySem.SeqAt
end L2.MP
namespace L2.MP
open PySem PySem.Spec PyProof.Rows
end L2.MP
namespace L2.MP
open PySem
section
variable {prog:SZ}{w:World}{A:Around}{E:Qqa}{hp:P3}{gs:Array GenState}{dr:Drawn}{tk:Nat}{os:OsState}
variable {nm ql:Str}{C N x:Addr}{bs bm top:List IR}{sn:List Str}{sub:List IR}{b2:Bool}{b3:Option Bool}{dd:Option Addr}{k0 k1 k2 k3 k5:Option IR}{B newId sa owner:String}{mN:Str->Option IR}{name:Str}{v:IR}{nn:List Str}{o:Obj}
open Builtin Builtin.ObjectAttr in
end
open PySem.Spec PyProof.Rows
end L2.MP
namespace L2.MP
open PySem
open PySem.Spec PyProof.Rows
open PySem.W
end L2.MP
namespace L2.MP
open PySem PySem.W PyProof.Rows Builtin.ObjectAttr
end L2.MP
namespace L2.MP
open PySem PySem.W
open PySem.Spec PyProof.Rows
end L2.MP
namespace L2.MP.Hb
open PySem L2.MP
end L2.MP.Hb
namespace L2.MP
open PySem
theorem cI{f:D->Option PyData}(hf:∀x:Int,f (.int x)=some (.int x)):∀as:List Int,Jr f (as.map D.int)=some (as.map G7)
 |[]=>rfl
 |x::as=>by rw[As,Jr,hf x,Ae,cI hf as];rfl
def P4{n:Nat}{st:Hf}{k:Nat}{as:List Int}(hk:st[k]?=some (.lst<|as.map D.int)):ID (n+2) st (.ref k)=some (.list<|as.map G7):=by rw[ID];simp only[HZ,hk,Ae];rw[cI (λx=>by rw[ID])];rfl
end L2.MP
namespace L2.MP.Hb
open PySem L2.MP
noncomputable abbrev Ll (c:Nat):D:=.str ⟨#[c]⟩
theorem aE(c:Nat):∀(k:Nat) (a:Array Nat),((BE k #[c]).foldl (·++·) a).toList=a.toList++BE k c
 |0,a=>by simp
 |k+1,a=>by rw[Fo,Es,aE c k (a++#[c])];simp[Fo]
def Ti{c:Nat}{n:Int}(a:1<=n):(JG ⟨#[c]⟩ n).cps.toList=BE n.toNat c:=by
 unfold JG;rw[if_neg (by omega)]
 by_cases hn:n=1
 ·subst hn;rfl
 ·rw[if_neg]
  ·exact aE c n.toNat #[]
  ·simp[hn];show ¬((⟨#[c]⟩:Str).length=0);show ¬(1=0)
   decide
def WX{c:Nat}{n:Int}{st:Hf}(a:1<=n)(f:n<=1000):HX (Ll c) (.int n) st=some (.str (JG ⟨#[c]⟩ n),st):=by
 have b:(JG ⟨#[c]⟩ n).length=n.toNat:=by rw[len_list,Ti a,BJ]
 have d:(⟨#[c]⟩:Str).length=1:=rfl;have e:sizeLine=16777216:=Cq;have:(decide (-(2^62)<=n)&&decide (n<2^20)&&decide ((⟨#[c]⟩:Str).length*n.toNat<=sizeLine)&&decide ((JG ⟨#[c]⟩ n).length<=sizeLine))=true:=by rw[b,d,e];rw[decide_eq_true (show -(2^62)<=n by omega),decide_eq_true (show n<2^20 by omega),decide_eq_true (show 1*n.toNat<=16777216 by omega),decide_eq_true (show n.toNat<=16777216 by omega)];rfl
 show HX (.str ⟨#[c]⟩) (.int n) st=_;unfold HX JT LW intD;dsimp only;rw[Kh];unfold Sw;dsimp only;rw[if_pos this]
end L2.MP.Hb
namespace L2.MP.Hd
open PySem L2.MP
def fX:MS:=mS (Hq (mB Hg (mV 0)<|mK<|.int 0)<|Hl 1)<|mS (Hq (mB Hg (mV 0)<|mK<|.int 1)<|Hl 2)<|mR<|mU<|Hc (mU<|Hc (mV 1)<|Hc (mB HE (mV 2)<|mK<|.int 1)<|mZ)<|Hc (mU<|Hc (mB HE (mV 1)<|mK<|.int 1)<|Hc (mV 2)<|mZ)<|Hc (mU<|Hc (mV 1)<|Hc (mB K5 (mV 2)<|mK<|.int 1)<|mZ)<|Hc (mU<|Hc (mB K5 (mV 1)<|mK<|.int 1)<|Hc (mV 2)<|mZ)<|mZ
def Me:GN:=Iw 3 fX
def WM:MS:=mS (Hq (mB Hg (mB Hg (mV 0)<|mK<|.int 0)<|mK<|.int 2)<|Hl 2) (mS (Ji (mT<|MW Qn Ph (mK<|.int 0) (mV 1)<|Ho HP<|Hc (mV 2)<|mZ) (mR<|IZ (mB Hg (mV 2)<|mV 1) (KA<|mK<|.int 1)<|Kz)<|Jn)<|mR<|mU<|Hc (mK<|.str "")<|Hc (mK<|.str "")<|Hc (mK<|.str "")<|Hc (mK<|.str "")<|mZ)
def P8:GN:=Iw 3 WM
def Uv:MS:=Jg (mV 1) (mU<|Hc (mV 2)<|Hc (mV 3)<|mZ)<|mV 4
def gJ:MS:=mS (Hq (OI true)<|Hl 1)<|mS (mF (Js<|mV 0) (Kn 3<|gC (Hl 2)<|gC (Hl 3)<|gC (Hl 4)<|Ko)<|Uv)<|mR<|mV 1
def Qh:GN:=Iw 5 gJ
def O6:MS:=Ji (mT<|mB Km (mV 5)<|mV 1) (IG<|JH (mV 3)<|Hc (mB Hg (Ho P8<|Hc (mV 0)<|Hc (mB Hg (mV 1)<|mV 5)<|mZ)<|mB Im (mB HE (mV 4)<|mK<|.int 2)<|mK<|.int 4)<|mZ) (IG<|JH (mV 3)<|Hc (mK<|.str "")<|mZ)
def fZ:MS:=mS (Hq (mL<|mZ)<|Hl 3)<|mS (mF (Pu<|Ho Me<|Hc (mV 2)<|mZ) (Kn 2<|gC (Hl 4)<|gC (Hl 5)<|Ko)<|O6)<|mR<|mV 3
def Qa:GN:=Iw 6 fZ
def Rv:ME:=mB Hg (mV 2)<|mV 0
def Rz:MT:=Kr (mT<|mB Kv (mV 0)<|mV 1) (mT<|mB JO (mV 0)<|mK<|.str "")
def gG:MS:=mR<|Ho LV<|Hc (Jm (Mx (mV 1)<|mV 2) 2 [0] (Kn 2<|gC (Hl 0)<|gC (Hl 1)<|Ko) Rz<|Rv)<|mZ
def O7:GN:=Iw 3 gG
def Xo:MS:=mS (Hq (LX (mT<|mB Ph (mV 1)<|Ho HP<|Hc (mV 0)<|mZ) (mB Hg (mV 0)<|mV 1)<|mK<|.int 0)<|Hl 2)<|mS (Hq (mB IV (mB IV (mB IV (mB IV (mB IF (mK<|.int 10)<|mK<|.int 60)<|mB IF (mK<|.int 10)<|mK<|.int 60)<|mB IF (mK<|.int 10)<|mK<|.int 60)<|mB IF (mK<|.int 10)<|mK<|.int 60)<|mB IF (mK<|.int 10)<|mK<|.int 60)<|Hl 3)<|mS (Hq (mB IV (mB Im (mV 2)<|mV 3)<|Ho Lo<|Hc (mB Mh (mV 2)<|mB IF (mK<|.int 10)<|mK<|.int 18)<|mZ)<|Hl 4)<|mR<|mL<|Hc (mV 4)<|Hc (mB Im (mB HE (mB Im (mV 2)<|mK<|.int 2305843009213693951)<|mB HX (mK<|.int 7919)<|mV 1)<|mK<|.int 2305843009213693951)<|Hc (mK<|.int 0)<|mZ
def Xe:GN:=Iw 5 Xo
def Rg:MS:=mS (Ji (mT<|mB Na (mB Hg (mV 0)<|mK<|.int 0)<|mK<|.int 0) (mS (Hq (mB Im (mB Hg (mV 0)<|mK<|.int 0)<|mV 1)<|Hl 2)<|mS (Jg (mV 0) (mK<|.int 0)<|mB MM (mB Hg (mV 0)<|mK<|.int 0)<|mV 1)<|mR<|mV 2)<|Jn)<|mS (Jg (mV 0) (mK<|.int 2)<|mB HE (mB Hg (mV 0)<|mK<|.int 2)<|mK<|.int 1)<|mS (Hq (mB Im (mB HX (mB HE (mB HE (mB Hg (mV 0)<|mK<|.int 1)<|mB HX (mB HX (mK<|.int 104729)<|mB Hg (mV 0)<|mK<|.int 2)<|mB Hg (mV 0)<|mK<|.int 2)<|mB HX (mK<|.int 31)<|mB Hg (mV 0)<|mK<|.int 2)<|mK<|.int 48271)<|mK<|.int 2305843009213693921)<|Hl 3)<|mS (Hq (mB Im (mB HX (mV 3)<|mB HE (mB Im (mV 3)<|mK<|.int 1000003)<|mB HX (mK<|.int 39373)<|mB Hg (mV 0)<|mK<|.int 2)<|mK<|.int 2305843009213693907)<|Hl 3)<|mR<|mB Im (mB HE (mB MM (mV 3)<|mK<|.int 65537)<|mB MM (mV 3)<|mK<|.int 1000033)<|mV 1
def Ih:GN:=Iw 4 Rg
def Qc:ME:=mB HX (mB Hg (mV 1)<|mV 2)<|mB HE (mV 0)<|mK<|.int 1
def Qd:ME:=mB HX (mB Hg (mV 1)<|mB Im (mB HE (mV 2)<|mB HX (mV 3)<|mV 0)<|mK<|.int 26)<|mB HE (mK<|.int 1)<|mB Im (mB HE (mB HX (mV 0)<|mV 0)<|mV 2)<|mK<|.int 8
def Xq:MS:=mS (Hq (mK<|.str "abcdefghijklmnopqrstuvwxyz")<|Hl 2) (mS (Hq (mU<|Hc (Ho Ih<|Hc (mV 0)<|Hc (mK<|.int 26)<|mZ)<|Hc (mB Hg (mL<|Hc (mK<|.int 1)<|Hc (mK<|.int 3)<|Hc (mK<|.int 5)<|Hc (mK<|.int 7)<|Hc (mK<|.int 9)<|Hc (mK<|.int 11)<|mZ)<|Ho Ih<|Hc (mV 0)<|Hc (mK<|.int 6)<|mZ)<|mZ)<|Kn 2<|gC (Hl 3)<|gC (Hl 4)<|Ko)<|mS (Ji (mT<|mB Kv (Ho Ih<|Hc (mV 0)<|Hc (mK<|.int 3)<|mZ)<|mK<|.int 0) (mR<|Jm (Jc<|mV 1) 1 [2,3] (Hl 0) Je<|Qc)<|Jn)<|mR<|Ho Md<|Hc (Jm (Jc<|mV 1) 1 [2,3,4] (Hl 0) Je<|Qd)<|mZ)
def Xg:GN:=Iw 5 Xq
def O9:ME:=mB Hg (mB HE (mL<|Hc (mK<|.str "")<|mZ)<|mV 1) (Ho Ih<|Hc (mV 2)<|Hc (mB HE (Ho HP<|Hc (mV 1)<|mZ)<|mK<|.int 1)<|mZ)
def fR:MS:=mS (Hq (mB Hg (mL<|Hc (mK<|.str "")<|Hc (mB Hg (mK<|.str "abcdefghijklmnopqrstuvwxyz0123456789")<|Ho Ih<|Hc (mV 0)<|Hc (mK<|.int 36)<|mZ)<|mZ)<|Ho Ih<|Hc (mV 0)<|Hc (mK<|.int 2)<|mZ)<|Hl 2) (mS (Hq (Jm (Jc<|mK<|.int 4) 1 [1,0] (Hl 0) Je<|O9)<|Hl 3)<|mR<|mU<|Hc (mV 2)<|Hc (mB Hg (mV 3)<|mK<|.int 0)<|Hc (mB Hg (mV 3)<|mK<|.int 1)<|Hc (mB Hg (mV 3)<|mK<|.int 2)<|Hc (mB Hg (mV 3)<|mK<|.int 3)<|mZ)
def WS:GN:=Iw 4 fR
def Qb:ME:=mU<|Hc (mV 0)<|Hc (mB Hg (mL<|Hc (mK<|.int 1)<|Hc (mK<|.int 2)<|Hc (mK<|.int 1)<|Hc (mB HE (mK<|.int 1)<|Ho Ih<|Hc (mV 1)<|Hc (mK<|.int 4)<|mZ)<|mZ)<|Ho Ih<|Hc (mV 1)<|Hc (mK<|.int 4)<|mZ)<|mZ
def Rl:ME:=Ho WS<|Hc (mV 1)<|Hc (mV 2)<|mZ
def Xp:MS:=mS (Hq (Ho Xg<|Hc (mV 0)<|Hc (mB HE (mK<|.int 1)<|Ho Ih<|Hc (mV 0)<|Hc (mK<|.int 4)<|mZ)<|mZ)<|Hl 1)<|mS (Hq (mB Hg (mL<|Hc (mK<|.int 1)<|Hc (mK<|.int 1)<|Hc (mK<|.int 2)<|Hc (mK<|.int 2)<|Hc (mK<|.int 1)<|Hc (mK<|.int 3)<|Hc (mK<|.int 4)<|Hc (mK<|.int 2)<|mZ)<|Ho Ih<|Hc (mV 0)<|Hc (mK<|.int 8)<|mZ)<|Hl 2)<|mS (Hq (Ho K3<|Hc (Jm (Js<|mV 1) 1 [0] (Hl 0) Je<|Qb)<|mZ)<|Hl 3)<|mS (Hq (Jm (Jc<|mB HE (mK<|.int 1)<|Ho Ih<|Hc (mV 0)<|Hc (mB Hg (mL<|Hc (mK<|.int 3)<|Hc (mK<|.int 5)<|Hc (mK<|.int 5)<|Hc (mK<|.int 12)<|mZ)<|Ho Ih<|Hc (mV 0)<|Hc (mK<|.int 4)<|mZ)<|mZ) 1 [0,1] (Hl 0) Je<|Rl)<|Hl 4)<|mS (Ji (mT<|mB Kv (Ho Ih<|Hc (mV 0)<|Hc (mK<|.int 6)<|mZ)<|mK<|.int 0) (IG<|JH (mV 4)<|Hc (mB Hg (mV 4)<|Ho Ih<|Hc (mV 0)<|Hc (Ho HP<|Hc (mV 4)<|mZ)<|mZ)<|mZ)<|Jn)<|mR<|mU<|Hc (mV 2)<|Hc (mV 3)<|Hc (Ho K3<|Hc (mV 4)<|mZ)<|mZ
def Xf:GN:=Iw 5 Xp
def Ru:MS:=mS (Hq (mU<|Hc (Ho Ih<|Hc (mV 0)<|Hc (mB Hg (mV 2)<|mK<|.int 0)<|mZ)<|Hc (Ho Ih<|Hc (mV 0)<|Hc (mB Hg (mV 2)<|mK<|.int 1)<|mZ)<|mZ)<|Hl 6)<|Jg (mV 4) (mV 6)<|Ho Ih<|Hc (mV 0)<|Hc (Ho HP<|Hc (mB Hg (mV 1)<|mK<|.int 2)<|mZ)<|mZ
def RA:ME:=mB HE (mV 0)<|mU<|Hc (mB Ng (mV 1)<|mV 0)<|mZ
def gL:MS:=mS (Hq (OI true)<|Hl 4)<|mS (mF (Jc<|Ho Ih<|Hc (mV 0)<|Hc (mB HE (mV 3)<|mK<|.int 1)<|mZ) (Hl 5)<|Ru)<|mR<|Ho K3<|Hc (Ho Md<|Hc (Jm (Ov<|mV 4) 1 [4] (Hl 0) Je<|RA)<|mZ)<|mZ
def Ot:GN:=Iw 7 gL
def T7:MS:=mS (Hq (Ho Xf<|Hc (mV 0)<|mZ)<|Hl 1)<|mS (Hq (mU<|Hc (mB HE (mK<|.int 1)<|Ho Ih<|Hc (mV 0)<|Hc (mK<|.int 5)<|mZ)<|Hc (mB HE (mK<|.int 1)<|Ho Ih<|Hc (mV 0)<|Hc (mB Hg (mL<|Hc (mK<|.int 5)<|Hc (mK<|.int 5)<|Hc (mK<|.int 5)<|Hc (mK<|.int 12)<|mZ)<|Ho Ih<|Hc (mV 0)<|Hc (mK<|.int 4)<|mZ)<|mZ)<|mZ)<|Hl 2)<|mS (Ji (mT<|mB Kv (Ho Ih<|Hc (mV 0)<|Hc (mK<|.int 2)<|mZ)<|mK<|.int 0) (Hq (UX (mV 2)<|NH<|mK<|.int 1)<|Hl 2)<|Jn)<|mR<|mU<|Hc (mV 1)<|Hc (mV 2)<|Hc (Ho Ot<|Hc (mV 0)<|Hc (mV 1)<|Hc (mV 2)<|Hc (mB Hg (mL<|Hc (mK<|.int 1)<|Hc (mK<|.int 2)<|Hc (mK<|.int 6)<|mZ)<|Ho Ih<|Hc (mV 0)<|Hc (mK<|.int 3)<|mZ)<|mZ)<|mZ
def WC:GN:=Iw 3 T7
def Rm:ME:=mU<|Hc (mU<|Hc (mV 0)<|Hc (mV 1)<|mZ)<|Hc (mV 2)<|mZ
def fE:MS:=mR<|Ho Qr<|Hc (Jm (Js<|mV 0) 3 [] (Kn 3<|gC (Hl 0)<|gC (Hl 1)<|gC (Hl 2)<|Ko) Je<|Rm)<|mZ
def Rr:GN:=Iw 1 fE
def fT:MS:=mS (Hq (mV 0)<|Kn 2<|gC (Hl 2)<|gC (Hl 3)<|Ko)<|mR<|mB Hg (mL<|Hc (mU<|Hc (mV 2)<|Hc (mB HE (mV 3)<|mK<|.int 1)<|mZ)<|Hc (mU<|Hc (mB HE (mV 2)<|mK<|.int 1)<|Hc (mV 3)<|mZ)<|Hc (mU<|Hc (mV 2)<|Hc (mB K5 (mV 3)<|mK<|.int 1)<|mZ)<|Hc (mU<|Hc (mB K5 (mV 2)<|mK<|.int 1)<|Hc (mV 3)<|mZ)<|mZ)<|mV 1
def Nz:GN:=Iw 4 fT
def O4:MS:=mS (Hq (Nd (mV 1)<|Ho Nz<|Hc (mV 2)<|Hc (mV 6)<|mZ)<|Hl 7) (mS (Hq (mB Hg (mB Hg (mV 4)<|mV 3)<|mB HE (mV 6)<|mK<|.int 1)<|Hl 8)<|Ji (Kr (mT<|mB N4 (mV 7)<|mK .non)<|Kr (mT<|mB JO (mV 8)<|mK<|.str "")<|mT<|mB Kv (mB Hg (mB Hg (mV 4)<|mV 7)<|mB HE (mB Im (mB HE (mV 6)<|mK<|.int 2)<|mK<|.int 4)<|mK<|.int 1)<|mV 8) (IG<|JH (mV 5)<|Hc (mV 6)<|mZ)<|Jn)
def fF:MS:=mS (NF 4 5<|Hc (mB Hg (mB Hg (mV 0)<|mK<|.int 0)<|mK<|.int 2)<|Hc (mL<|mZ)<|mZ)<|mS (mF (Jc<|mK<|.int 4) (Hl 6)<|O4)<|mR<|mV 5
def Xh:GN:=Iw 9 fF
def Rh:ME:=mB Hg (mV 1)<|mB Hg (mB Hg (mB Hg (mB Hg (mV 2)<|mK<|.int 0)<|mK<|.int 2)<|mV 3)<|mB HE (mV 0)<|mK<|.int 1
def WL:MS:=mS (Hq (Ho Xh<|Hc (mV 0)<|Hc (mV 1)<|Hc (mV 2)<|Hc (mV 3)<|mZ)<|Hl 4)<|mS (Ji (mT<|mB Kv (mV 4)<|mL<|mZ) (mR<|mK<|.int 0)<|Jn)<|mS (Hq (Ho OE<|Hc (mB Hg (mB Hg (mV 0)<|mK<|.int 0)<|mK<|.int 1)<|mZ)<|Hl 5)<|mR<|Ho LV<|Hc (Jm (Js<|mV 4) 1 [5,0,3] (Hl 0) Je<|Rh)<|mZ
def Nx:GN:=Iw 6 WL
end L2.MP.Hd
namespace L2.MP
open PySem
@[simp] theorem zv1(n:Nat)(ds:List D):Mf n ds=ds.map some++BE (n-ds.length) none:=rfl
@[simp] theorem zuW(U:Ii)(n:Nat)(l:List Nat):IU U n l=BE n none++l.map λ(j:Nat)=>(U[j]?).join:=rfl
variable {a b:Int}{st:Hf}
@[simp] theorem zwt:Ph (.int a) (.int b) st=some (.bl (decide (a<b)),st):=rfl
@[simp] theorem zwu:Qn (.int a) (.int b) st=some (.bl (decide (a<=b)),st):=rfl
@[simp] theorem zwx:Na (.int a) (.int b) st=some (.bl (decide (b<a)),st):=rfl
@[simp] theorem zwy:Mh (.int a) (.int b) st=some (.bl (decide (b<=a)),st):=rfl
@[simp] theorem zww:Lo [.int a] st=some (.int a,st):=rfl
@[simp] theorem zwv{b:Bool}:Lo [.bl b] st=some (.int (if b then 1 else 0),st):=rfl
end L2.MP
namespace L2.MP.Hd
open PySem L2.MP
def HI(n m:Nat)(st:Hf):Prop:=∃a b c:Int,st[n]?=some (.lst [.int a,.int b,.int c])/\0<=a/\0<=b/\b<2305843009213693951/\0<=c/\c<=(m:Int)
variable {n m:Nat}{st:Hf}
def HI.lt(h:HI n m st):n<st.length:=by obtain⟨a,b,c,e,_⟩:=h;exact qax e
def HI.ne(h:HI n m st):st.length≠n:=CS h.lt
def HI.gr{d:Hf}(h:HI n m st)(g:Gr st d):HI n m d:=by obtain⟨a,b,c,e,r⟩:=h;exact⟨a,b,c,(g.old n<|qax e).trans e,r⟩
variable {k:Nat}
def HI.up(h:HI n m st)(hk:m<=k):HI n k st:=by obtain⟨a,b,c,e,d,f,g,i,j⟩:=h;exact⟨a,b,c,e,d,f,g,i,by omega⟩
def HI.set{n m l:Nat}{st:Hf}{o:O}(h:HI n m st)(d:l≠n):HI n m (st.set l o):=by obtain⟨a,b,c,e,r⟩:=h;exact⟨a,b,c,by rw[Ag d];exact e,r⟩
variable {a b:Int}
def YK(h:J1 a=true):HX (.int a) (.int b) st=some (.int (a*b),st):=by simp[HX,JT,LW,intD,h,Kg]
def mul_r(h:J1 b=true):HX (.int a) (.int b) st=some (.int (a*b),st):=by simp[HX,JT,LW,intD,h,Kg]
def L9(h:0<b):Im (.int a) (.int b) st=some (.int (a % b),st):=by simp[Im,intD,h]
def UP(h:0<b)(c:b<340282366920938463463374607431768211456):MM (.int a) (.int b) st=some (.int (a / b),st):=by simp[MM,intD,h,c]
variable {many:Int}{s1:Hf}
def nJ{c:Int}(d:Hg (.ref n) (.int 0) st=some (.int a,st))(e:0<a)(f:Im (.int a) (.int many) st=some (.int b,st))(g:MM (.int a) (.int many) st=some (.int c,st))(h:Il (.ref n) (.int 0) (.int c) st=some s1):Rg [some (.ref n),some (.int many),none,none] st=some (.rt (.int b),s1):=by
 unfold Rg;refine OQ ?_;have m:mT (mB Na (mB Hg (mV 0)<|mK<|.int 0)<|mK<|.int 0) [some (.ref n),some (.int many),none,none] st=some (true,st):=by simp[JN,d,e]
 rw[LJ,m];refine Hw (U1:=[some (.ref n),some (.int many),some (.int b),none]) (s1:=st) (by simp[JN,d,f]) ?_;refine Hw (U1:=[some (.ref n),some (.int many),some (.int b),none]) (s1:=s1) (by simp[JN,d,g,h]) ?_;simp[JN]
variable {x2 x3:Int}
def oF{c d e f j l x5 o p x8 r:Int}(u:Hg (.ref n) (.int 0) st=some (.int a,st))(v:¬0<a)(w:Hg (.ref n) (.int 2) st=some (.int c,st))(hd:c+1=d)(x:Il (.ref n) (.int 2) (.int d) st=some s1)(y:Hg (.ref n) (.int 1) s1=some (.int b,s1)) (q:Hg (.ref n) (.int 2) s1=some (.int d,s1))(z:HX (.int 104729) (.int d) s1=some (.int j,s1)) (A:HX (.int j) (.int d) s1=some (.int x2,s1)) (B:HX (.int 31) (.int d) s1=some (.int x3,s1)) (C:HX (.int<|b+x2+x3) (.int 48271) s1=some (.int l,s1)) (E:Im (.int l) (.int 2305843009213693921) s1=some (.int e,s1))(F:Im (.int e) (.int 1000003) s1=some (.int x5,s1)) (G:HX (.int 39373) (.int d) s1=some (.int o,s1)) (H:HX (.int e) (.int<|x5+o) s1=some (.int p,s1)) (I:Im (.int p) (.int 2305843009213693907) s1=some (.int f,s1))(g:MM (.int f) (.int 65537) s1=some (.int x8,s1)) {s:Int} (h:MM (.int f) (.int 1000033) s1=some (.int s,s1)) (i:Im (.int<|x8+s) (.int many) s1=some (.int r,s1)):
  Rg [some (.ref n),some (.int many),none,none] st=some (.rt (.int r),s1):=by
 unfold Rg;have m:mT (mB Na (mB Hg (mV 0)<|mK<|.int 0)<|mK<|.int 0) [some (.ref n),some (.int many),none,none] st=some (false,st):=by simp[JN,u,v]
 refine Hw (U1:=[some (.ref n),some (.int many),none,none]) (s1:=st) (by rw[LJ,m];rfl) ?_;refine Hw (U1:=[some (.ref n),some (.int many),none,none]) (s1:=s1) (by simp[JN,w,hd,x]) ?_;refine Hw (U1:=[some (.ref n),some (.int many),none,some (.int e)]) (s1:=s1) (by simp[JN,y,q,z,A,B,C,E]) ?_;refine Hw (U1:=[some (.ref n),some (.int many),none,some (.int f)]) (s1:=s1) (by simp[JN,q,F,G,H,I]) ?_;simp[JN,g,h,i]
def JQ(h:HI n m st)(hm:m<=1000000)(i:0<many)(w:many<18446744073709551616):∃(r:Int) (g:Hf),Y5 (Ih [.ref n,.int many] st=some (.int r,g)) (0<=r) (r<many) (HI n (m+1) g) (Fr n st g):=by
 obtain⟨a,b,c,e,q,s,j,y,z⟩:=h;have u:=qax e;have v:Hg (.ref n) (.int 0) st=some (.int a,st):=KY e (by decide) rfl
 by_cases h0:0<a
 ·have l:Il (.ref n) (.int 0) (.int<|a / many) st=some (st.set n<|.lst [.int (a / many),.int b,.int c]):=by simp[Il,e,Mg]
  have A:MM (.int a) (.int many) st=some (.int (a / many),st):=UP i (by omega);exact⟨a % many,_,IJ<|nJ v h0 (L9 i) A l,B8 _<|by omega,BN _ i,⟨a / many,b,c,by simp[u],Int.ediv_nonneg q<|by omega,s,j,y,by omega⟩,Gy _ _ _⟩
 ·have B:Hg (.ref n) (.int 2) st=some (.int c,st):=KY e (by decide) rfl;obtain⟨d,hd⟩:∃d,c+1=d:=⟨_,rfl⟩
  have l:Il (.ref n) (.int 2) (.int d) st=some (st.set n<|.lst [.int a,.int b,.int d]):=by simp[Il,e,Mg]
  have o:(st.set n<|.lst [.int a,.int b,.int d])[n]?=some (.lst [.int a,.int b,.int d]):=by simp[u]
  have f:Fr n st (st.set n<|.lst [.int a,.int b,.int d]):=Gy _ _ _;generalize st.set n (.lst [.int a,.int b,.int d])=s1 at l o f;have C:Hg (.ref n) (.int 1) s1=some (.int b,s1):=KY o (by decide) rfl;have E:Hg (.ref n) (.int 2) s1=some (.int d,s1):=KY o (by decide) rfl;have p:J1 d=true:=by unfold J1;simp;omega
  have F:J1 48271=true:=by decide
  have k3:∀x:Int,J1 (x % 2305843009213693921)=true:=λx=>by have i:=B8 x (show(2305843009213693921:Int)≠0 by decide);have w:=BN x (show(0:Int)<2305843009213693921 by decide);unfold J1;simp;omega
  refine⟨_,s1,IJ<|oF v h0 B hd l C E (mul_r p) (mul_r p) (mul_r p) (mul_r F) (L9<|by decide) (L9<|by decide) (mul_r p) (YK<|k3 _) (L9<|by decide) (UP (by decide)<|by decide) (UP (by decide)<|by decide)<|L9 i,B8 _<|by omega,BN _ i,⟨a,b,d,o,q,s,j,by omega,by omega⟩,f⟩
def kJ(st:Hf):∃F:Int,Y3 (0<F) (F.natAbs<2^1100) (∀U:Ii,mB IV (mB IV (mB IV (mB IV (mB IF (mK<|.int 10)<|mK<|.int 60)<|mB IF (mK<|.int 10)<|mK<|.int 60)<|mB IF (mK<|.int 10)<|mK<|.int 60)<|mB IF (mK<|.int 10)<|mK<|.int 60) (mB IF (mK<|.int 10)<|mK<|.int 60) U st=some (.int F,st)):=
 ⟨10^300,by decide +kernel,by decide +kernel,λU=>by
  have b:mB IF (mK<|.int 10) (mK<|.int 60) U st=some (.int (10^60),st):=by
   rw[PD];simp only[Vc,Ae];have:(decide ((0:Int)<=60)&&decide ((Builtin.Int.intBits 10:Int)*60<=2^27))=true:=by decide +kernel
   unfold IF intD;dsimp only;rw[if_pos this];rfl
  have a:∀(i j k:Nat),i+j=k->(decide (Builtin.Int.intBits ((10:Int)^i)<=2^20)&&decide (Builtin.Int.intBits ((10:Int)^j)<=2^20))=true->IV (.int<|10^i) (.int<|10^j) st=some (.int (10^k),st):=λi j k hk h=>by unfold IV intD;dsimp only;rw[if_pos h,<-hk,Int.pow_add]
  have m:=a 60 60 120 rfl (by decide +kernel);have n:=a 120 60 180 rfl (by decide +kernel);have c:=a 180 60 240 rfl (by decide +kernel);have d:=a 240 60 300 rfl (by decide +kernel);have h0:=b;generalize (10:Int)^60=a1 at *;generalize (10:Int)^120=a2 at *;generalize (10:Int)^180=e at *;generalize (10:Int)^240=f at *;generalize (10:Int)^300=g at *;simp only[PD,Vc,Ae]at b;simp only[PD,Vc,Ae,b,m,n,c,d]⟩
theorem lF(U:Ii)(st:Hf):mB IF (mK<|.int 10) (mK<|.int 18) U st=some (.int 1000000000000000000,st):=rfl
def vR(c:Builtin.Int.intBits a<=2^20)(d:b=0\/b=1):IV (.int a) (.int b) st=some (.int (a*b),st):=by
 have m:Builtin.Int.intBits b<=2^20:=by rcases d with rfl|rfl<;>decide +kernel
 unfold IV intD;dsimp only;rw[if_pos];rw[decide_eq_true c,decide_eq_true m];rfl
variable {F:Int}
def oK(h0:0<=a)(d:a<F)(c:F.natAbs<2^1100):Builtin.Int.intBits a<=2^20:=by
 have b:a.natAbs<F.natAbs:=by omega
 exact AA (PyProof.Rows.intBits_le<|B2 b c)<|by decide
variable {U:Ii}
theorem Vd{c:MT}{m n:ME}:LX c m n U st=(c U st).bind λp=>if p.1=true then m U p.2 else n U p.2:=rfl
variable {ds:List D}{cell:Int}
def uO{k own:Int}(c:LX (mT<|mB Ph (mV 1)<|Ho HP<|Hc (mV 0)<|mZ) (mB Hg (mV 0)<|mV 1) (mK<|.int 0) [some (.kl ds),some (.int k),none,none,none] st=some (.int cell,st))(d:mB IV (mB IV (mB IV (mB IV (mB IF (mK<|.int 10)<|mK<|.int 60)<|mB IF (mK<|.int 10)<|mK<|.int 60)<|mB IF (mK<|.int 10)<|mK<|.int 60)<|mB IF (mK<|.int 10)<|mK<|.int 60) (mB IF (mK<|.int 10)<|mK<|.int 60) [some (.kl ds),some (.int k),some (.int cell),none,none] st=some (.int F,st))(e:mB IV (mB Im (mV 2)<|mV 3) (Ho Lo<|Hc (mB Mh (mV 2)<|mB IF (mK<|.int 10)<|mK<|.int 18)<|mZ) [some (.kl ds),some (.int k),some (.int cell),some (.int F),none] st=some (.int own,st))(f:Im (.int cell) (.int 2305843009213693951) st=some (.int x2,st)) (g:HX (.int 7919) (.int k) st=some (.int x3,st)) (h:Im (.int<|x2+x3) (.int 2305843009213693951) st=some (.int b,st)):
  Xo [some (.kl ds),some (.int k),none,none,none] st=some (.rt (.ref st.length),st++[.lst [.int own,.int b,.int 0]]):=by
 unfold Xo;refine Hw (U1:=[some (.kl ds),some (.int k),some (.int cell),none,none]) (s1:=st) (by rw[N8,c];rfl) ?_;refine Hw (U1:=[some (.kl ds),some (.int k),some (.int cell),some (.int F),none]) (s1:=st) (by rw[N8,d];rfl) ?_;refine Hw (U1:=[some (.kl ds),some (.int k),some (.int cell),some (.int F),some (.int own)]) (s1:=st) (by rw[N8,e];rfl) ?_;simp[JN,f,g,h]
def nH{k:Int}(h0:0<F)(d:F.natAbs<2^1100):∃own:Int,0<=own/\mB IV (mB Im (mV 2)<|mV 3) (Ho Lo<|Hc (mB Mh (mV 2)<|mB IF (mK<|.int 10)<|mK<|.int 18)<|mZ) [some (.kl ds),some (.int k),some (.int cell),some (.int F),none] st=some (.int own,st):=by
 have m0:=B8 cell (show F≠0 by omega);have n:=BN cell h0;have U:=L9 (a:=cell) (st:=st) h0;generalize cell % F=x at m0 n U;have e:=oK m0 n d;have m:=lF [some (.kl ds),some (.int k),some (.int cell),some (.int F),none] st;have f:∃j:Int,(j=0\/j=1)/\Ho Lo (Hc (mB Mh (mV 2)<|mB IF (mK<|.int 10)<|mK<|.int 18)<|mZ) [some (.kl ds),some (.int k),some (.int cell),some (.int F),none] st=some (.int j,st):=by generalize mB IF (mK<|.int 10) (mK<|.int 18)=g at m;refine⟨if decide (1000000000000000000<=cell)=true then 1 else 0,by split<;>simp,?_⟩;rw[pF,pG,PD];simp only[Ve,Eh,C3,Ae,m,Mh,L3,lA];rfl
 obtain⟨j,c,h⟩:=f;refine⟨x*j,by rcases c with rfl|rfl<;>omega,?_⟩;have em:=vR (a:=x) (b:=j) (st:=st) e c;rw[PD,PD];simp only[Ve,Eh,C3,Ae,U];rw[h];simp only[Ae];exact em
def uN{ns:List Int}{k:Int}(h0:0<=k)(e:k<=1000):∃c,Y3 (Xe [.kl (ns.map D.int),.int k] st=some (.ref st.length,c)) (HI st.length 0 c) (Gr st c):=by
 obtain⟨F,m,n,eF⟩:=kJ st;have a:∃cell:Int,LX (mT<|mB Ph (mV 1)<|Ho HP<|Hc (mV 0)<|mZ) (mB Hg (mV 0)<|mV 1) (mK<|.int 0) [some (.kl<|ns.map D.int),some (.int k),none,none,none] st=some (.int cell,st):=by
  by_cases hk:k<(ns.length:Int)
  ·have b:k.toNat<ns.length:=by omega
   have ex:Hg (.kl<|ns.map D.int) (.int k) st=some (.int ns[k.toNat],st):=jF h0 (by rw[Ay,Ai b];rfl);exact⟨ns[k.toNat],by rw[Vd];simp[JN,Vb,hk,ex]⟩
  exact⟨0,by rw[Vd];simp[JN,Vb,hk]⟩
 obtain⟨cell,a⟩:=a;obtain⟨own,o0,U⟩:=nH (ds:=ns.map D.int) (k:=k) (cell:=cell) (st:=st) m n;have d:=B8 (cell % 2305843009213693951+7919*k) (show(2305843009213693951:Int)≠0 by decide);have b1:=BN (cell % 2305843009213693951+7919*k) (show(0:Int)<2305843009213693951 by decide);exact⟨_,IJ<|uO a (eF _) U (L9<|by decide) (YK<|by decide)<|L9<|by decide,⟨own,_,0,Iq _ _,o0,d,b1,by decide,by decide⟩,Gr.app _ _⟩
open L2.MP.Hb (WX Ti Ll)
noncomputable abbrev JE:Str:=Hn.JE
def Ub:∀k:Nat,k<26->JE.cps[k]?=some (97+k):=Hn.Ub
structure Iy(x:Str):Prop where
 len:x.cps.toList.length<=8
 ab:∀c∈x.cps.toList,48<=c/\c<=122
def QI{x:Str}(h:∀c∈x.cps.toList,48<=c/\c<=122):Bg x=true:=by unfold Bg;rw[Array.all_eq_true'];intro c a;have:=h c (by simpa using a);simp;omega
def P1:Iy "":=⟨by decide,by decide⟩
variable {c:Nat}
def Zh{k:Int}(d:1<=k)(g:k<=8)(e:48<=c)(f:c<=122):Iy (JG ⟨#[c]⟩ k):=by refine⟨by rw[Ti d,BJ];omega,λx a=>?_⟩;rw[Ti d]at a;rw[List.eq_of_mem_replicate a];exact⟨e,f⟩
def QM{m:ME}(e:m U st=some (.int (k:Int),st))(hk:k<=1000):Jc m U st=some (⟨run 0 k,[]⟩,st):=by have a:small (k:Int)=true:=Om (by omega) (by omega);rw[YE,e,Ae];simp only[a,if_true];rw[By]
variable {M:Int}
def QL{m:ME}(d:M=(k:Int))(e:m U st=some (.int M,s1))(hk:k<=1000):Jc m U st=some (⟨run 0 k,[]⟩,s1):=by have a:small M=true:=Om (by omega) (by omega);rw[YE,e,Ae];simp only[a,if_true];rw[d,By]
def run_map(k:Nat):run 0 k=(AB k).map λ(i:Nat)=>D.int (i:Int):=by unfold run;apply CK;intro i _;rw[Int.zero_add]
def LL{j:Nat}{d:D}(h:(run 0 j)[k]?=some d):k<j/\d=.int (k:Int):=by have hk:=qax h;rw[Ld]at hk;rw[run_map,Ay,DA hk]at h;exact⟨hk,by cases h;rfl⟩
variable {x r1:Int}{y:D}
def xU(d:∀s:Hf,Hg (.str JE) (.int r1) s=some (Ll c,s))(em:HX (Ll c) (.int<|x+1) st=some (y,st)):Qc [some (.int x),some (.str JE),some (.int r1)] st=some (y,st):=by unfold Qc;simp[d,em]
def xT(hm:m<=8)(d:0<=r1)(e:r1<26):∃ts:List Str,Y3 (ts.length=m) ((∀x∈ts,Iy x)) (Jt ⟨run 0 m,[]⟩ (Hl 0) Je Qc (run 0 m) [none,some (.str JE),some (.int r1)] st=some (ts.map D.str,st)):=by
 have a:∀s:Hf,Hg (.str JE) (.int r1) s=some (Ll (97+r1.toNat),s):=λs=>QQ (by decide) d (Ub _<|by omega);have y:48<=97+r1.toNat:=by omega
 have F:97+r1.toNat<=122:=by omega
 generalize 97+r1.toNat=c at a y F;refine⟨(AB m).map λ(i:Nat)=>JG ⟨#[c]⟩ ((i:Int)+1),by simp,λx M=>?_,?_⟩
 ·obtain⟨i,b,rfl⟩:=SL.mp M;have:=List.mem_range.mp b;exact Zh (by omega) (by omega) y F
 have:∀W:Wk,walked W st=true->Jt W (Hl 0) Je Qc (run 0 m) [none,some (.str JE),some (.int r1)] st=some (((AB m).map λ(i:Nat)=>JG ⟨#[c]⟩ ((i:Int)+1)).map D.str,st):=by intro W f;rw[run_map,AI];refine PF (R:=λU=>∃x,U=[x,some (.str JE),some (.int r1)]) ⟨none,rfl⟩ f λi b U g=>?_;obtain⟨x,rfl⟩:=g;have b:=List.mem_range.mp b;have em:=WX (c:=c) (n:=(i:Int)+1) (st:=st) (by omega) (by omega);exact⟨[some (.int (i:Int)),some (.str JE),some (.int r1)],by simp,rfl,xU a em,⟨_,rfl⟩⟩
 exact this _ rfl
variable {w:Int}
def xW{d e q1 f:Int}(g:HX (.int w) (.int x) st=some (.int d,st))(h:Im (.int<|r1+d) (.int 26) st=some (.int e,st))(ex:Hg (.str JE) (.int e) st=some (Ll c,st))(i:HX (.int x) (.int x) st=some (.int q1,st))(j:Im (.int<|q1+r1) (.int 8) st=some (.int f,st))(em:HX (Ll c) (.int<|1+f) st=some (y,st)):Qd [some (.int x),some (.str JE),some (.int r1),some (.int w)] st=some (y,st):=by unfold Qd;simp[g,h,ex,i,j,em]
def xV(hm:m<=8)(i:0<=w)(j:w<=11):∃ts:List Str,Y3 (ts.length=m) ((∀x∈ts,Iy x)) (Jt ⟨run 0 m,[]⟩ (Hl 0) Je Qd (run 0 m) [none,some (.str JE),some (.int r1),some (.int w)] st=some (ts.map D.str,st)):=by
 have key:=OD (W:=⟨run 0 m,[]⟩) (g:=Hl 0) (c:=Je) (m:=Qd) (ds:=run 0 m) (acc:=[]) (st:=st) (U:=[none,some (.str JE),some (.int r1),some (.int w)])
  (Inv:=λk a U s=>Y3 ((∃x,U=[x,some (.str JE),some (.int r1),some (.int w)])) ((∃ts:List Str,a=ts.map D.str/\ts.length=k/\∀x∈ts,Iy x)) (s=st))
  ⟨⟨none,rfl⟩,⟨[],rfl,rfl,by simp⟩,rfl⟩ (λ_ _ _ _ _ _=>rfl) (λk d a U s hd l=>by
   obtain⟨⟨x,rfl⟩,⟨ts,rfl,y,F⟩,rfl⟩:=l;obtain⟨hk,rfl⟩:=LL hd;have o:HX (.int w) (.int (k:Int)) s=some (.int (w*(k:Int)),s):=mul_int (by omega);have e:Im (.int<|r1+w*(k:Int)) (.int 26) s=some (.int ((r1+w*(k:Int)) % 26),s):=L9 (by decide);have p:=BN (r1+w*(k:Int)) (show(0:Int)<26 by decide);have f:=B8 (r1+w*(k:Int)) (show(26:Int)≠0 by decide);have q:HX (.int (k:Int)) (.int (k:Int)) s=some (.int ((k:Int)*(k:Int)),s):=mul_int (by omega);have h:Im (.int<|(k:Int)*(k:Int)+r1) (.int 8) s=some (.int (((k:Int)*(k:Int)+r1) % 8),s):=L9 (by decide);have r:=BN ((k:Int)*(k:Int)+r1) (show(0:Int)<8 by decide);have u:=B8 ((k:Int)*(k:Int)+r1) (show(8:Int)≠0 by decide);generalize (r1+w*(k:Int)) % 26=b at e p f;generalize ((k:Int)*(k:Int)+r1) % 8=M at h r u;have ex:Hg (.str JE) (.int b) s=some (Ll (97+b.toNat),s):=QQ (by decide) f (Ub _<|by omega);have em:=WX (c:=97+b.toNat) (n:=1+M) (st:=s) (by omega) (by omega);refine⟨[some (.int (k:Int)),some (.str JE),some (.int r1),some (.int w)],s,true,s,rfl,rfl,.inl ⟨rfl,.str<|JG ⟨#[97+b.toNat]⟩<|1+M,s,xW o e ex q h em,⟨_,rfl⟩,⟨ts++[JG ⟨#[97+b.toNat]⟩ (1+M)],by simp,by simp[y],λx hx=>?_⟩,rfl⟩⟩
   rcases Os.mp hx with hx|hx
   ·exact F x hx
   rw[KM.mp hx];exact Zh (by omega) (by omega) (by omega) (by omega))
 obtain⟨xs,z,A,v,_,⟨ts,hx,y,F⟩,rfl⟩:=key;rw[CQ]at hx;subst hx;exact⟨ts,by rw[y,Ld],F,v⟩
def vS(v:M=(k:Int))(h:HI n m st)(z:k<=8)(hm:m<=900000):∃(ss:List Str) (l:Nat) (d:Hf),Y7 (Xg [.ref n,.int M] st=some (.ref l,d)) (d[l]?=some (.lst<|ss.map D.str)) (ss.length=k) ((∀x∈ss,Iy x)) (l≠n) (HI n (m+3) d) (Fr n st d):=by
 obtain⟨r1,s1,K,U,e,C,f1⟩:=JQ (many:=26) h (by omega) (by decide) (by decide);have E:=C.gr<|Gr.app s1 [.lst [.int 1,.int 3,.int 5,.int 7,.int 9,.int 11]];have f2:=Fr.app n s1 [.lst [.int 1,.int 3,.int 5,.int 7,.int 9,.int 11]];have a2:=Iq s1<|.lst [.int 1,.int 3,.int 5,.int 7,.int 9,.int 11];have f:=C.ne;generalize g:s1++[O.lst [.int 1,.int 3,.int 5,.int 7,.int 9,.int 11]]=s2 at E f2 a2;obtain⟨a,s3,L,i,N,P,G⟩:=JQ (many:=6) E (by omega) (by decide) (by decide);have Q:=(G.old _ (qax a2) f).trans a2;obtain⟨w,hw,j,o⟩:∃w:Int,[D.int 1,.int 3,.int 5,.int 7,.int 9,.int 11][a.toNat]?=some (.int w)/\0<=w/\w<=11:=by
  have:a=0\/a=1\/a=2\/a=3\/a=4\/a=5:=by omega
  rcases this with rfl|rfl|rfl|rfl|rfl|rfl<;>exact⟨_,rfl,by decide,by decide⟩
 have S:Hg (.ref s1.length) (.int a) s3=some (.int w,s3):=KY Q i hw;obtain⟨T,s4,H,W,X,p,f4⟩:=JQ (many:=3) P (by omega) (by decide) (by decide);have c:Fr n st s4:=((f1.trans f2).trans G).trans f4;have g1:Hq (mU<|Hc (Ho Ih<|Hc (mV 0)<|Hc (mK<|.int 26)<|mZ)<|Hc (mB Hg (mL<|Hc (mK<|.int 1)<|Hc (mK<|.int 3)<|Hc (mK<|.int 5)<|Hc (mK<|.int 7)<|Hc (mK<|.int 9)<|Hc (mK<|.int 11)<|mZ)<|Ho Ih<|Hc (mV 0)<|Hc (mK<|.int 6)<|mZ)<|mZ) (Kn 2<|gC (Hl 3)<|gC (Hl 4)<|Ko)
   [some (.ref n),some (.int M),some (.str JE),none,none] st=some (.nx [some (.ref n),some (.int M),some (.str JE),some (.int r1),some (.int w)],s3):=by
  simp[K,g,L,S]
 by_cases hr:T=0
 ·subst hr;obtain⟨ts,q,r,y⟩:=xT (st:=s4) z U e;have fl:fits (ts.map D.str).length=true:=JP (by simp;omega);refine⟨ts,s4.length,s4++[.lst (ts.map D.str)],IJ ?_,Iq _ _,q,r,p.ne,p.gr<|Gr.app _ _,c.trans<|Fr.app _ _ _⟩;generalize ts.map D.str=A at y fl;unfold Xq;refine Hw (U1:=[some (.ref n),some (.int M),some (.str JE),none,none]) (s1:=st) (by simp) ?_;refine Hw g1<|OQ ?_;have b:Jm (Jc<|mV 1) 1 [2,3] (Hl 0) Je Qc [some (.ref n),some (.int M),some (.str JE),some (.int r1),some (.int w)] s4=some (.ref s4.length,s4++[.lst A]):=by
   rw[JN,QL (s1:=s4) (k:=k) v (by simp) (by omega)];simp only[Ae];rw[show IU [some (.ref n),some (.int M),some (.str JE),some (.int r1),some (.int w)] 1 [2,3]=[none,some (.str JE),some (.int r1)] from rfl,y];simp only[Ae,fl,if_true]
  simp[H,eq_int,b]
 ·obtain⟨ts,q,r,y⟩:=xV (r1:=r1) (st:=s4) z j o;have fl:fits (ts.map D.str).length=true:=JP (by simp;omega);have s:=p.gr<|Gr.app s4 [.lst (ts.map D.str)];have u:=Hn.zfZ (Iq s4<|.lst<|ts.map D.str) (by omega);have I:=Fr.app n s4 [.lst (ts.map D.str)];have J:(Ol ts).Perm ts:=CI _ _;generalize F:s4++[O.lst (ts.map D.str)]=s5 at s u I;refine⟨Ol ts,s5.length,s5++[.lst ((Ol ts).map D.str)],IJ ?_,Iq _ _,by rw[<-q];exact J.length_eq,λx Y=>r x (J.mem_iff.mp Y),s.ne,s.gr<|Gr.app _ _,(c.trans I).trans<|Fr.app _ _ _⟩;generalize (Ol ts).map D.str=B at u;generalize ts.map D.str=A at y fl F;unfold Xq;refine Hw (U1:=[some (.ref n),some (.int M),some (.str JE),none,none]) (s1:=st) (by simp) ?_;refine Hw g1 ?_;refine Hw (U1:=[some (.ref n),some (.int M),some (.str JE),some (.int r1),some (.int w)]) (s1:=s4) (by simp[H,eq_int,hr]) ?_;have b:Jm (Jc<|mV 1) 1 [2,3,4] (Hl 0) Je Qd [some (.ref n),some (.int M),some (.str JE),some (.int r1),some (.int w)] s4=some (.ref s4.length,s5):=by
   rw[JN,QL (s1:=s4) (k:=k) v (by simp) (by omega)];simp only[Ae];rw[show IU [some (.ref n),some (.int M),some (.str JE),some (.int r1),some (.int w)] 1 [2,3,4]=[none,some (.str JE),some (.int r1),some (.int w)] from rfl,y];simp only[Ae,fl,if_true,F]
  simp[b,u]
end L2.MP.Hd
namespace L2.MP.Hd
open PySem L2.MP
open L2.MP.Hb (Ll)
noncomputable abbrev Pc:Str:="abcdefghijklmnopqrstuvwxyz0123456789"
def rH:∀k:Nat,k<36->∃c,Pc.cps[k]?=some c/\48<=c/\c<=122:=by
 have:∀k:Nat,k<36->(match Pc.cps[k]? with|some c=>decide (48<=c/\c<=122)|none=>false)=true:=by decide +kernel
 intro k hk;have:=this k hk;split at this
 ·rename_i c e;exact⟨c,e,of_decide_eq_true this⟩
 ·cases this
structure L7(ss:List Str)(k:List Str):Prop where
 ex:∃f ds,k=f::ds/\Iy f/\ds.length=4/\∀x∈ds,Iy x/\(x=""\/x∈ss)
variable {lN a n:Nat}{r:Int}{s s1 s2 s3:Hf}
def rM{c:Int}{v:Option D}{y:D}(b:s++[.lst [.str ""]]=s1)(d:HE (.ref s.length) (.ref lN) s1=some (.ref a,s2))(e:HP [.ref lN] s2=some (.int c,s2))(f:Ih [.ref n,.int (c+1)] s2=some (.int r,s3))(ex:Hg (.ref a) (.int r) s3=some (y,s3)):
  O9 [v,some (.ref lN),some (.ref n)] s=some (y,s3):=by
 unfold O9;simp[b,d,e,f,ex]
variable {m:Nat}{ss:List Str}{st:Hf}
def xE{ss:List Str}(h:HI n m st)(v:st[lN]?=some (.lst<|ss.map D.str))(F:lN≠n)(Q:ss.length<=100)(hn:∀x∈ss,Iy x)(hm:m<=800000):
  ∃(ds:List Str) (f:Hf),Y5 (Jt ⟨run 0 4,[]⟩ (Hl 0) Je O9 (run 0 4) [none,some (.ref lN),some (.ref n)] st=some (ds.map D.str,f)) (ds.length=4) ((∀x∈ds,Iy x/\(x=""\/x∈ss))) (HI n (m+4) f) (Fr n st f):=by
 have key:=OD (W:=⟨run 0 4,[]⟩) (g:=Hl 0) (c:=Je) (m:=O9) (ds:=run 0 4) (acc:=[]) (st:=st) (U:=[none,some (.ref lN),some (.ref n)])
  (Inv:=λk a U s=>Y4 ((∃x,U=[x,some (.ref lN),some (.ref n)])) ((∃ds:List Str,a=ds.map D.str/\ds.length=k/\∀x∈ds,Iy x/\(x=""\/x∈ss))) (HI n (m+k) s) (Fr n st s))
  ⟨⟨_,rfl⟩,⟨[],rfl,rfl,by simp⟩,h,Fr.refl _ _⟩ (λ_ _ _ _ _ _=>rfl) (λk d a U s hd G=>by
   obtain⟨⟨x,rfl⟩,⟨ds,rfl,hlen,i⟩,o,hf⟩:=G;have H:=(LL hd).1;have j:s[lN]?=some (.lst<|ss.map D.str):=(hf.old _ (qax v) F).trans v;have a1:=Iq s (.lst [.str ""]);have b:(s++[O.lst [D.str ""]])[lN]?=some (.lst<|ss.map D.str):=by rw[Aj (qax j)];exact j
   have p:=o.gr (Gr.app s [.lst [.str ""]]);have f1:=Fr.app n s [.lst [.str ""]];generalize q:s++[O.lst [D.str ""]]=s1 at a1 b p f1;have w:=pC a1 b (by simp;omega);have a2:=Iq s1 (.lst<|[.str ""]++ss.map D.str);have l:(s1++[O.lst ([.str ""]++ss.map D.str)])[lN]?=some (.lst<|ss.map D.str):=by rw[Aj (qax b)];exact b
   have z:=p.gr (Gr.app s1 [.lst ([.str ""]++ss.map D.str)]);have f2:=Fr.app n s1 [.lst ([.str ""]++ss.map D.str)];have u:=p.ne;generalize I:s1++[O.lst ([.str ""]++ss.map D.str)]=s2 at a2 l z f2 w;have A:=Tr l;rw[Af]at A;obtain⟨r,s3,J,K,S,L,B⟩:=JQ (many:=(ss.length:Int)+1) z (by omega) (by omega) (by omega);have C:=(B.old _ (qax a2) u).trans a2;have E:r.toNat<((("":Str))::ss).length:=by simp;omega
   have hm:[D.str ""]++ss.map D.str=((("":Str))::ss).map D.str:=rfl;rw[hm]at C;have ex:=KY (x:=.str ((("":Str))::ss)[r.toNat]) C K (by rw[Ay,Ai E];rfl);have e:((("":Str))::ss)[r.toNat]∈("":Str)::ss:=Ba E;generalize ((("":Str))::ss)[r.toNat]=y at ex e;have M:Iy y/\(y=""\/y∈ss):=by
    rcases On.mp e with rfl|h
    ·exact⟨P1,.inl rfl⟩
    exact⟨hn y h,.inr h⟩
   refine⟨[some d,some (.ref lN),some (.ref n)],s,true,s,by simp,rfl,.inl ⟨rfl,.str y,s3,rM q w A J ex,⟨_,rfl⟩,⟨ds++[y],by simp,by simp[hlen],λx hx=>?_⟩,L,((hf.trans f1).trans f2).trans B⟩⟩
   rcases Os.mp hx with hx|hx
   ·exact i x hx
   rw[KM.mp hx];exact M)
 obtain⟨xs,T,N,P,_,⟨ds,hx,hlen,i⟩,o,hf⟩:=key;rw[CQ]at hx;subst hx;rw[Ld]at hlen o;exact⟨ds,N,P,hlen,i,o,hf⟩
def qM{ss:List Str}(h:HI n m st)(z:st[lN]?=some (.lst<|ss.map D.str))(A:lN≠n)(I:ss.length<=100)(hn:∀x∈ss,Iy x)(hm:m<=700000):
  ∃(k:List Str) (e:Hf),Y4 (WS [.ref n,.ref lN] st=some (IH k,e)) (L7 ss k) (HI n (m+6) e) (Fr n st e):=by
 obtain⟨B,s1,J,l,K,C,f1⟩:=JQ (many:=36) h (by omega) (by decide) (by decide);obtain⟨r,g1,L,M⟩:=rH B.toNat (by omega);have N:Hg (.str Pc) (.int B) s1=some (Ll r,s1):=QQ (by decide) l g1;have a2:=Iq s1 (.lst [.str "",Ll r]);have E:=C.gr (Gr.app s1 [.lst [.str "",Ll r]]);have f2:=Fr.app n s1 [.lst [.str "",Ll r]];have o:=C.ne;generalize p:s1++[O.lst [D.str "",Ll r]]=s2 at a2 E f2;obtain⟨j,s3,P,q,Q,S,F⟩:=JQ (many:=2) E (by omega) (by decide) (by decide);have T:=(F.old _ (qax a2) o).trans a2;obtain⟨x,U,W⟩:∃x:Str,[D.str "",Ll r][j.toNat]?=some (.str x)/\Iy x:=by
  have:j=0\/j=1:=by omega
  rcases this with rfl|rfl
  ·exact⟨"",rfl,P1⟩
  exact⟨⟨#[r]⟩,rfl,⟨by simp,by simp;omega⟩⟩
 have X:Hg (.ref s1.length) (.int j) s3=some (.str x,s3):=KY T q U;have f:Fr n st s3:=(f1.trans f2).trans F;have u:=(f.old _ (qax z) A).trans z;obtain⟨ds,s4,g,v,s,Y,f4⟩:=xE S u A I hn (by omega);have fd:fits (ds.map D.str).length=true:=JP (by simp;omega)
 match ds,v,s,g,fd with
 |[a,b,c,d],_,s,g,fd=>
  have i:=Iq s4<|.lst [.str a,.str b,.str c,.str d];have G:=Y.gr<|Gr.app s4 [.lst [.str a,.str b,.str c,.str d]];have H:=Fr.app n s4 [.lst [.str a,.str b,.str c,.str d]];have g:Jt ⟨run 0 4,[]⟩ (Hl 0) Je O9 (run 0 4) [none,some (.ref lN),some (.ref n)] s3=some ([.str a,.str b,.str c,.str d],s4):=g;generalize w:s4++[O.lst [.str a,.str b,.str c,.str d]]=s5 at i G H;have Z:Hg (.ref s4.length) (.int 0) s5=some (.str a,s5):=KY i (by decide) rfl;have j1:Hg (.ref s4.length) (.int 1) s5=some (.str b,s5):=KY i (by decide) rfl;have j2:Hg (.ref s4.length) (.int 2) s5=some (.str c,s5):=KY i (by decide) rfl;have j3:Hg (.ref s4.length) (.int 3) s5=some (.str d,s5):=KY i (by decide) rfl;refine⟨[x,a,b,c,d],s5,IJ ?_,⟨x,[a,b,c,d],rfl,W,rfl,s⟩,G.up<|by omega,(f.trans f4).trans H⟩;unfold fR;refine Hw (U1:=[some (.ref n),some (.ref lN),some (.str x),none]) (s1:=s3) (by simp[J,N,p,P,X]) ?_;have y:Jm (Jc<|mK<|.int 4) 1 [1,0] (Hl 0) Je O9 [some (.ref n),some (.ref lN),some (.str x),none] s3=some (.ref s4.length,s5):=by rw[JN,QM (k:=4) rfl (by decide)];simp only[Ae];rw[show IU [some (.ref n),some (.ref lN),some (.str x),none] 1 [1,0]=[none,some (.ref lN),some (.ref n)] from rfl,g];simp only[Ae,Au,Be,w];rfl
  refine Hw (U1:=[some (.ref n),some (.ref lN),some (.str x),some (.ref s4.length)]) (s1:=s5) (by rw[N8,y];rfl) ?_;simp[Z,j1,j2,j3,IH]
def LM(e:Int)(stk:List (Str×Int))(ks:List (List Str)):D:=.tup [.int e,.tup (stk.map J6),.tup (ks.map IH)]
structure NV(e:Int)(stk:List (Str×Int))(ks:List (List Str)):Prop where
 e0:1<=e
 e1:e<=4
 sl:stk.length<=8
 nm:∀p∈stk,Iy p.1/\1<=p.2/\p.2<=4
 lo:1<=ks.length
 hi:ks.length<=13
 kd:∀k∈ks,L7 (stk.map (·.1)) k
def wY{a:Nat}{nm:D}{c y:Int}(d:Ih [.ref n,.int 4] s=some (.int r,s1))(b:s1++[.lst [.int 1,.int 2,.int 1,.int (1+r)]]=s2)(e:Ih [.ref n,.int 4] s2=some (.int c,s3))(ex:Hg (.ref s1.length) (.int c) s3=some (.int y,s3)):Qb [some nm,some (.ref n)] s=some (.tup [nm,.int y],s3):=by unfold Qb;simp[d,b,e,ex]
def zlR{ss:List Str}(h:HI n m st)(v:st[lN]?=some (.lst<|ss.map D.str))(C:lN≠n)(P:ss.length<=8)(hn:∀x∈ss,Iy x)(hm:m<=800000):
  ∃(stk:List (Str×Int)) (e:Hf),Y5 (Jt ⟨ss.map D.str,[(lN,ss.map D.str)]⟩ (Hl 0) Je Qb (ss.map D.str) [none,some (.ref n)] st=some (stk.map J6,e)) (stk.map (·.1)=ss) ((∀p∈stk,Iy p.1/\1<=p.2/\p.2<=4)) (HI n (m+16) e) (Fr n st e):=by
 have key:=OD (W:=⟨ss.map D.str,[(lN,ss.map D.str)]⟩) (g:=Hl 0) (c:=Je) (m:=Qb) (ds:=ss.map D.str) (acc:=[]) (st:=st) (U:=[none,some (.ref n)])
  (Inv:=λk a U s=>Y4 ((∃x,U=[x,some (.ref n)])) ((∃stk:List (Str×Int),a=stk.map J6/\stk.map (·.1)=ss.take k/\∀p∈stk,Iy p.1/\1<=p.2/\p.2<=4)) (HI n (m+2*k) s) (Fr n st s))
  ⟨⟨_,rfl⟩,⟨[],rfl,by simp,by simp⟩,h,Fr.refl _ _⟩ (λk a U s _ l=>Oq ((l.h4.old _ (qax v) C).trans v)) (λk d a U s hd l=>by
   obtain⟨⟨x,rfl⟩,⟨stk,rfl,b,f⟩,hp,hf⟩:=l;rw[Ay]at hd;obtain⟨nm,i,rfl⟩:=Ig hd;have hk:=qax i;obtain⟨r,s1,E,Q,S,w,f1⟩:=JQ (many:=4) hp (by omega) (by decide) (by decide);have a2:=Iq s1<|.lst [.int 1,.int 2,.int 1,.int (1+r)];have z:=w.gr<|Gr.app s1 [.lst [.int 1,.int 2,.int 1,.int (1+r)]];have f2:=Fr.app n s1 [.lst [.int 1,.int 2,.int 1,.int (1+r)]];have o:=w.ne;generalize q:s1++[O.lst [.int 1,.int 2,.int 1,.int (1+r)]]=s2 at a2 z f2;obtain⟨j,s3,F,u,G,H,A⟩:=JQ (many:=4) z (by omega) (by decide) (by decide);have I:=(A.old _ (qax a2) o).trans a2;obtain⟨y,J,K,L⟩:∃y:Int,[D.int 1,.int 2,.int 1,.int (1+r)][j.toNat]?=some (.int y)/\1<=y/\y<=4:=by
    have:j=0\/j=1\/j=2\/j=3:=by omega
    rcases this with rfl|rfl|rfl|rfl
    ·exact⟨1,rfl,by decide,by decide⟩
    ·exact⟨2,rfl,by decide,by decide⟩
    ·exact⟨1,rfl,by decide,by decide⟩
    exact⟨1+r,rfl,by omega,by omega⟩
   have ex:Hg (.ref s1.length) (.int j) s3=some (.int y,s3):=KY I u J;refine⟨[some (.str nm),some (.ref n)],s,true,s,rfl,rfl,.inl ⟨rfl,J6 (nm,y),s3,wY (a:=0) E q F ex,⟨_,rfl⟩,⟨stk++[(nm,y)],by simp,?_,λp hp=>?_⟩,H.up<|by omega,((hf.trans f1).trans f2).trans A⟩⟩
   ·rw[AU,b,Bj,i];rfl
   ·rcases Os.mp hp with hp|hp
    ·exact f p hp
    rw[KM.mp hp];exact⟨hn nm<|AF i,K,L⟩)
 obtain⟨xs,T,M,N,_,⟨stk,B,b,f⟩,hp,hf⟩:=key;rw[CQ]at B;subst B;rw[Af]at b hp;rw[Bb]at b;exact⟨stk,M,N,b,f,hp.up<|by omega,hf⟩
def uD{j:Nat}{ss:List Str}(h:HI n m st)(f:st[lN]?=some (.lst<|ss.map D.str))(l:lN≠n)(z:ss.length<=8)(hn:∀x∈ss,Iy x)(hm:m<=600000)(A:j<=12):
  ∃(ks:List (List Str)) (b:Hf),Y5 (Jt ⟨run 0 j,[]⟩ (Hl 0) Je Rl (run 0 j) [none,some (.ref n),some (.ref lN)] st=some (ks.map IH,b)) (ks.length=j) ((∀k∈ks,L7 ss k)) (HI n (m+72) b) (Fr n st b):=by
 have key:=OD (W:=⟨run 0 j,[]⟩) (g:=Hl 0) (c:=Je) (m:=Rl) (ds:=run 0 j) (acc:=[]) (st:=st) (U:=[none,some (.ref n),some (.ref lN)])
  (Inv:=λi a U s=>Y4 ((∃x,U=[x,some (.ref n),some (.ref lN)])) ((∃ks:List (List Str),a=ks.map IH/\ks.length=i/\∀k∈ks,L7 ss k)) (HI n (m+6*i) s) (Fr n st s))
  ⟨⟨_,rfl⟩,⟨[],rfl,rfl,by simp⟩,h,Fr.refl _ _⟩ (λ_ _ _ _ _ _=>rfl) (λi d a U s hd p=>by
   obtain⟨⟨x,rfl⟩,⟨ks,rfl,hlen,r⟩,e,hf⟩:=p;have B:=(LL hd).1;obtain⟨k,s1,q,hk,u,f1⟩:=qM e ((hf.old _ (qax f) l).trans f) l (by omega) hn (by omega);refine⟨[some d,some (.ref n),some (.ref lN)],s,true,s,rfl,rfl,.inl ⟨rfl,IH k,s1,?_,⟨_,rfl⟩,⟨ks++[k],by simp,by simp[hlen],λy hy=>?_⟩,u.up<|by omega,hf.trans f1⟩⟩
   ·unfold Rl;simp[q]
   ·rcases Os.mp hy with hy|hy
    ·exact r y hy
    rw[KM.mp hy];exact hk)
 obtain⟨xs,C,v,w,_,⟨ks,o,hlen,r⟩,e,hf⟩:=key;rw[CQ]at o;subst o;rw[Ld]at hlen e;exact⟨ks,v,w,hlen,r,e.up<|by omega,hf⟩
def PU{xs:List Int}{lo hi:Int}(h:HI n m st)(hm:m<=900000)(l:1<=xs.length)(d:xs.length<=100)(e:∀x∈xs,lo<=x/\x<=hi):∃(r y:Int) (b:Hf),Y6 (Ih [.ref n,.int (xs.length:Int)] (st++[.lst (xs.map D.int)])=some (.int r,b)) (Hg (.ref st.length) (.int r) b=some (.int y,b)) (lo<=y) (y<=hi) (HI n (m+1) b) (Fr n st b):=by
 have a1:=Iq st<|.lst<|xs.map D.int;have a:=h.gr<|Gr.app st [.lst (xs.map D.int)];have f1:=Fr.app n st [.lst (xs.map D.int)];have f:=h.ne;generalize st++[O.lst (xs.map D.int)]=s1 at a1 a f1;obtain⟨r,s2,g,i,o,j,f2⟩:=JQ (many:=(xs.length:Int)) a (by omega) (by omega) (by omega);have a2:=(f2.old _ (qax a1) f).trans a1;have s:r.toNat<xs.length:=by omega
 have c:=e _<|Ba s;exact⟨r,xs[r.toNat],s2,g,KY a2 i (by rw[Ay,Ai s];rfl),c.1,c.2,j,f1.trans f2⟩
def uB(h:HI n m st)(hm:m<=100000):∃(e:Int) (stk:List (Str×Int)) (ks:List (List Str)) (p:Hf),Y4 (Xf [.ref n] st=some (LM e stk ks,p)) (NV e stk ks) (HI n (m+200) p) (Fr n st p):=by
 obtain⟨r1,s1,e1,r10,r11,p1,f1⟩:=JQ (many:=4) h (by omega) (by decide) (by decide);obtain⟨ss,lN,s2,e2,at2,hss,A,Q,p2,f2⟩:=vS (k:=(1+r1).toNat) (M:=1+r1) (by omega) p1 (by omega) (by omega);obtain⟨r3,s,s3,e3,x3,B,C,p3,f3⟩:=PU (xs:=[1,1,2,2,1,3,4,2]) (lo:=1) (hi:=4) p2 (by omega) (by decide) (by decide) (by decide);have d:=(f3.old _ (qax at2) Q).trans at2;obtain⟨stk,s4,e4,g,i,p4,f4⟩:=zlR p3 d Q (by omega) A (by omega);have lstk:stk.length=ss.length:=by rw[<-g,Af]
 have a5:=Iq s4<|.lst<|stk.map J6;have p5:=p4.gr<|Gr.app s4 [.lst (stk.map J6)];have S:=Fr.app n s4 [.lst (stk.map J6)];have fs:fits (stk.map J6).length=true:=JP (by rw[Af];omega);generalize T:s4++[O.lst (stk.map J6)]=s5 at a5 p5 S;have et:=LA a5;obtain⟨r6,y6,s6,e6,x6,y60,y61,p6,f6⟩:=PU (xs:=[3,5,5,12]) (lo:=3) (hi:=12) p5 (by omega) (by decide) (by decide) (by decide);obtain⟨U,s7,e7,r70,r71,p7,f7⟩:=JQ (many:=y6) p6 (by omega) (by omega) (by omega);have W:=(((f4.trans S).trans<|f6.trans f7).old _ (qax d) Q).trans d;obtain⟨ks,r,e8,hks,E,p8,f8⟩:=uD (j:=(1+U).toNat) p7 W Q (by omega) A (by omega) (by omega);have X:=Iq r<|.lst<|ks.map IH;have p9:=p8.gr<|Gr.app r [.lst (ks.map IH)];have f9:=Fr.app n r [.lst (ks.map IH)];have fk:fits (ks.map IH).length=true:=JP (by rw[Af];omega);have q:=p8.ne;generalize Y:r++[O.lst (ks.map IH)]=Z at X p9 f9;obtain⟨F,u,G,r100,r101,H,I⟩:=JQ (many:=6) p9 (by omega) (by decide) (by decide);have b:=(I.old _ (qax X) q).trans X;have l:Fr n st u:=((f1.trans f2).trans<|f3.trans f4).trans<|((S.trans f6).trans<|f7.trans f8).trans<|f9.trans I;have sm:small (1+U)=true:=Om (by omega) (by omega);have J:Jm (Js<|mV 1) 1 [0] (Hl 0) Je Qb [some (.ref n),some (.ref lN),some (.int s),none,none] s3=some (.ref s4.length,s5):=by
  have:Js (mV 1) [some (.ref n),some (.ref lN),some (.int s),none,none] s3=some (⟨ss.map D.str,[(lN,ss.map D.str)]⟩,s3):=by simp[Lv,HZ,d]
  rw[JN,this];simp only[Ae];rw[show IU [some (.ref n),some (.ref lN),some (.int s),none,none] 1 [0]=[none,some (.ref n)] from rfl,e4];simp only[Ae,fs,if_true,T]
 have K:Jm (Jc<|mB HE (mK<|.int 1)<|Ho Ih<|Hc (mV 0)<|Hc (mB Hg (mL<|Hc (mK<|.int 3)<|Hc (mK<|.int 5)<|Hc (mK<|.int 5)<|Hc (mK<|.int 12)<|mZ)<|Ho Ih<|Hc (mV 0)<|Hc (mK<|.int 4)<|mZ)<|mZ) 1 [0,1] (Hl 0) Je Rl [some (.ref n),some (.ref lN),some (.int s),some (.tup<|stk.map J6),none] s5=some (.ref r.length,Z):=by
  have e6':Ih [.ref n,.int 4] (s5++[.lst [.int 3,.int 5,.int 5,.int 12]])=some (.int r6,s6):=e6;have:Jc (mB HE (mK<|.int 1)<|Ho Ih<|Hc (mV 0)<|Hc (mB Hg (mL<|Hc (mK<|.int 3)<|Hc (mK<|.int 5)<|Hc (mK<|.int 5)<|Hc (mK<|.int 12)<|mZ)<|Ho Ih<|Hc (mV 0)<|Hc (mK<|.int 4)<|mZ)<|mZ) [some (.ref n),some (.ref lN),some (.int s),some (.tup<|stk.map J6),none] s5=some (⟨run 0 (1+U).toNat,[]⟩,s7):=by simp[e6',x6,e7,sm]
  rw[JN,this];simp only[Ae];rw[show IU [some (.ref n),some (.ref lN),some (.int s),some (.tup<|stk.map J6),none] 1 [0,1]=[none,some (.ref n),some (.ref lN)] from rfl,e8];simp only[Ae,fk,if_true,Y]
 have e3':Ih [.ref n,.int 8] (s2++[.lst [.int 1,.int 1,.int 2,.int 2,.int 1,.int 3,.int 4,.int 2]])=some (.int r3,s3):=e3;have pre:∀{R:Option (Fl×Hf)},mS (Ji (mT<|mB Kv (Ho Ih<|Hc (mV 0)<|Hc (mK<|.int 6)<|mZ)<|mK<|.int 0) (IG<|JH (mV 4)<|Hc (mB Hg (mV 4)<|Ho Ih<|Hc (mV 0)<|Hc (Ho HP<|Hc (mV 4)<|mZ)<|mZ)<|mZ)<|Jn) (mR<|mU<|Hc (mV 2)<|Hc (mV 3)<|Hc (Ho K3<|Hc (mV 4)<|mZ)<|mZ)
   [some (.ref n),some (.ref lN),some (.int s),some (.tup<|stk.map J6),some (.ref r.length)] Z=R->Xp (Mf 5 [.ref n]) st=R:=λhR=>by
  unfold Xp;refine Hw (U1:=[some (.ref n),some (.ref lN),none,none,none]) (s1:=s2) (by simp[e1,e2]) ?_;refine Hw (U1:=[some (.ref n),some (.ref lN),some (.int s),none,none]) (s1:=s3) (by simp[e3',x3]) ?_;refine Hw (U1:=[some (.ref n),some (.ref lN),some (.int s),some (.tup<|stk.map J6),none]) (s1:=s5) (by simp[J,et]) ?_;exact Hw (U1:=[some (.ref n),some (.ref lN),some (.int s),some (.tup<|stk.map J6),some (.ref r.length)]) (s1:=Z) (by rw[N8,K];rfl) hR
 have v:∀k∈ks,L7 (stk.map (·.1)) k:=by rw[g];exact E
 by_cases hr:F=0
 ·subst hr;have el:=Tr b;rw[Af]at el;obtain⟨a,c,e11,L,r111,p11,N⟩:=JQ (many:=(ks.length:Int)) H (by omega) (by omega) (by omega);have w:=(N.old _ (qax b) q).trans b;have P:a.toNat<ks.length:=by omega
  have ex:Hg (.ref r.length) (.int a) c=some (IH ks[a.toNat],c):=KY w L (by rw[Ay,Ai P];rfl);have o:ks[a.toNat]∈ks:=Ba P;generalize ks[a.toNat]=y at ex o;have ea:=append_at (x:=IH y) w (by rw[Af];omega);have a12:(c.set r.length<|.lst<|ks.map IH++[IH y])[r.length]?=some (.lst<|ks.map IH++[IH y]):=by simp[qax w]
  have z:=LA a12;have hlen8:st.length<=r.length:=(((f1.trans f2).trans<|f3.trans f4).trans<|(S.trans f6).trans<|f7.trans f8).len;refine⟨s,stk,ks++[y],c.set r.length<|.lst<|ks.map IH++[IH y],IJ<|pre ?_,⟨B,C,by omega,i,by simp,by simp;omega,λk hk=>?_⟩,(p11.set q).up<|by omega,?_⟩
  ·generalize c.set r.length (.lst<|ks.map IH++[IH y])=s12 at *;refine Hw (U1:=[some (.ref n),some (.ref lN),some (.int s),some (.tup<|stk.map J6),some (.ref r.length)]) (s1:=s12) (by simp[G,eq_int,el,e11,ex,ea,HZ,b]) ?_;simp[z,LM]
  ·rcases Os.mp hk with hk|hk
   ·exact v k hk
   rw[KM.mp hk];exact v y o
  have f:=l.trans N;exact⟨by rw[Bf];exact f.len,λk hk hkn=>by rw[Ag (by omega)];exact f.old k hk hkn⟩
 have z:=LA b;refine⟨s,stk,ks,u,IJ<|pre ?_,⟨B,C,by omega,i,by omega,by omega,v⟩,H.up<|by omega,l⟩;refine Hw (U1:=[some (.ref n),some (.ref lN),some (.int s),some (.tup<|stk.map J6),some (.ref r.length)]) (s1:=u) (by simp[G,eq_int,hr]) ?_;simp[z,LM]
end L2.MP.Hd
namespace L2.MP.Hd
open PySem L2.MP
open L2.MP.Hn (HL Mu Hs JX)
def IA(w h a:Int)(t:Tl):Prop:=0<=t.1/\t.1<w/\0<=t.2.1/\t.2.1<h/\0<=t.2.2/\t.2.2<a
theorem QT:∀{l:List Tl}{t:Tl},Hy l->t∈l->HQ (l.map Hj) (Hj t).1=some (.int t.2.2)
 |[],t,_,h=>by cases h
 |u::l,t,c,h=>by
  have a:(∀b∈l,JD u b=false)/\Hy l:=List.pairwise_cons.mp c;unfold HQ;rw[As,AS,QR];rcases On.mp h with rfl|h
  ·have:JD t t=true:=by unfold JD;simp
   rw[this];rfl
  rw[a.1 t h];exact QT a.2 h
structure Po(n t m:Nat)(w h kn:Int)(st0:Hf)(l:List Tl)(s:Hf):Prop where
 at_:s[t]?=some (.dt (l.map Hj))
 ok:∀u∈l,IA w h kn u
 nd:Hy l
 pot:HI n m s
 fr:Fr n st0 s
noncomputable abbrev IX (n:Nat) (hd:D) (w h most:Int) (t:Nat) (v u:Option D):Ii:=[some (.ref n),some hd,some (.tup [.int w,.int h]),some (.int most),some (.ref t),v,u]
variable {n t:Nat}{w h most x y k:Int}{s:Hf}{v u:Option D}
def Vi{K:Int}{hd KK:D}{s1 s2 s3 s4:Hf}(d:Hg (.tup [.int w,.int h]) (.int 0) s=some (.int w,s))(e:Ih [.ref n,.int w] s=some (.int x,s1))(f:Hg (.tup [.int w,.int h]) (.int 1) s1=some (.int h,s1))(g:Ih [.ref n,.int h] s1=some (.int y,s2))(a:Hg hd (.int 2) s2=some (KK,s2))(b:HP [KK] s2=some (.int K,s2))(c:Ih [.ref n,.int K] s2=some (.int k,s3))(i:dput s3 t (.tup [.int x,.int y]) (.int k)=some s4):
  Ru (IX n hd w h most t v u) s=some (.nx (IX n hd w h most t v<|some<|.tup [.int x,.int y]),s4):=by
 unfold Ru;refine Hw (U1:=IX n hd w h most t v (some<|.tup [.int x,.int y])) (s1:=s2) (by simp[IX,JN,d,e,f,g]) ?_;rw[MV];have j:Hq (Ho Ih<|Hc (mV 0)<|Hc (Ho HP<|Hc (mB Hg (mV 1)<|mK<|.int 2)<|mZ)<|mZ) (LH Il (mV 4)<|mV 6) (IX n hd w h most t v<|some<|.tup [.int x,.int y]) s2=none:=by simp[IX,JN,a,b,c,Il]
 rw[j,Kh];unfold LK;simp[IX,JN,a,b,c,i]
variable {m:Nat}{a b:D}{ks:List D}
def zjR{st0:Hf}{l:List Tl}(q:Po n t m w h ks.length st0 l s)(g:t≠n)(o:st0.length<=t)(hw:0<w)(p:w<=1000)(r:0<h)(z:h<=1000)(hk:0<ks.length)(A:ks.length<100000)(B:l.length<=1000)(hm:m<=900000):
  ∃(i:List Tl) (C:Option D) (s':Hf),Y3 (Ru (IX n (.tup [a,b,.tup ks]) w h most t v u) s=some (.nx (IX n (.tup [a,b,.tup ks]) w h most t v C),s')) (Po n t (m+3) w h ks.length st0 i s') (i.length<=l.length+1):=by
 obtain⟨x,s1,E,x0,F,G,f1⟩:=JQ (many:=w) q.pot (by omega) hw (by omega);obtain⟨y,s2,H,I,J,K,f2⟩:=JQ (many:=h) G (by omega) r (by omega);obtain⟨k,s3,L,M,N,P,Q⟩:=JQ (many:=ks.length) K (by omega) (by omega) (by omega);have c:=(f1.trans f2).trans Q;have d:=(c.old _ (qax q.at_) g).trans q.at_;have S:=Nn (x:=x) (y:=y) (k:=k) d B;have f:=qax d;have e:=q.fr.trans c;refine⟨IM l (x,y,k),_,s3.set t<|.dt<|(IM l (x,y,k)).map Hj,Vi (Io (by decide) rfl) E (Io (by decide) rfl) H (Io (by decide) rfl) QZ L S,⟨by simp[f],aR q.ok ⟨x0,F,I,J,M,N⟩,ZP q.nd,P.set g,⟨by have:=e.len;simpa using this,λj T U=>by rw[Ag (by omega)];exact e.old j T U⟩⟩,V3 _ _⟩
def uY(hk:Ng (.ref t) (.tup [.int x,.int y]) s=some (.int k,s)):RA [some (.tup [.int x,.int y]),some (.ref t)] s=some (.tup [.int x,.int y,.int k],s):=by have a:HE (.tup [.int x,.int y]) (.tup [.int k]) s=some (.tup [.int x,.int y,.int k],s):=Tx (by simp) (by simp);unfold RA;simp[hk,a]
variable {st:Hf}
def fQ(L:HI n m st)(hw:0<w)(z:w<=1000)(T:0<h)(C:h<=1000)(hk:0<ks.length)(E:ks.length<100000)(hm:0<=most)(X:most<60)(Y:m<=800000):
  ∃(ts:List Tl) (c:Hf),Y6 (Ot [.ref n,.tup [a,b,.tup ks],.tup [.int w,.int h],.int most] st=some (HL ts,c)) ((∀t∈ts,IA w h ks.length t)) ((∃l:List Tl,ts=Hs l/\Hy l)) ((ts.length:Int)<=most) (HI n (m+181) c) (Fr n st c):=by
 have f:st.length≠n:=L.ne;have Z:=L.gr<|Gr.app st [.dt []];obtain⟨r,s1,F,r0,r1,p1,f1⟩:=JQ (many:=most+1) Z (by omega) (by omega) (by omega);have G:s1[st.length]?=some (.dt<|([]:List Tl).map Hj):=(f1.old _ (by simp) f).trans<|Iq st _;have key:=Ku (W:=⟨run 0 r.toNat,[]⟩) (g:=Hl 5) (m:=Ru) (ds:=run 0 r.toNat) (U:=IX n (.tup [a,b,.tup ks]) w h most st.length none none) (st:=s1)
  (Inv:=λk U s=>∃(l:List Tl) (v u:Option D),Y3 (U=IX n (.tup [a,b,.tup ks]) w h most st.length v u) (l.length<=k) (Po n st.length (m+1+3*k) w h ks.length st l s))
  ⟨[],none,none,rfl,Ah _,⟨G,by simp,Cu,p1,(Fr.app _ _ _).trans f1⟩⟩ (λ_ _ _ _ _=>rfl) (λk d U s hd hI=>by obtain⟨l,v,u,rfl,M,q⟩:=hI;have hkl:=(LL hd).1;obtain⟨l',u',s',e,q',hl'⟩:=zjR (most:=most) (a:=a) (b:=b) (v:=some d) (u:=u) q f (Ah _) hw z T C hk E (by omega) (by omega);exact⟨_,s,_,s',rfl,e,l',some d,u',rfl,by omega,q'⟩)
 obtain⟨U',s2,e2,l,v,u,rfl,M,q⟩:=key;rw[Ld]at M q;have H:=qax q.at_;have i:Pz (.ref st.length) s2=some (⟨Jl<|l.map Hj,[]⟩,s2.set st.length (.ft<|l.map Hj)):=by unfold Pz;simp only[q.at_]
 have N:(s2.set st.length<|.ft<|l.map Hj)[st.length]?=some (.ft<|l.map Hj):=by simp[H]
 have o:Fr n st (s2.set st.length<|.ft<|l.map Hj):=⟨by have:=q.fr.len;simpa using this,λj hj nj=>by rw[Ag (by omega)];exact q.fr.old j hj nj⟩
 have P:HI n (m+1+3*r.toNat) (s2.set st.length<|.ft<|l.map Hj):=q.pot.set f;generalize hs3:s2.set st.length (.ft<|l.map Hj)=s3 at i N o P;have Qo:Jl (l.map Hj)=l.map λt=>D.tup [.int t.1,.int t.2.1]:=by unfold Jl;rw[AI];rfl
 have I:Jt ⟨Jl<|l.map Hj,[]⟩ (Hl 0) Je RA (Jl<|l.map Hj) [none,some (.ref st.length)] s3=some (l.map λt=>HF (HV t),s3):=by
  rw[Qo];refine PF (R:=λU=>∃x,U=[x,some (.ref st.length)]) ⟨none,rfl⟩ rfl λt f U hU=>?_;obtain⟨x,rfl⟩:=hU;have hv:=QT q.nd f;have hk:Ng (.ref st.length) (.tup [.int t.1,.int t.2.1]) s3=some (.int t.2.2,s3):=by have F:keysOf [.int t.1,.int t.2.1]=some (Hj t).1:=rfl;simp only[Ng,Jk,N,F,AZ,Ae,hv]
  exact⟨[some (.tup [.int t.1,.int t.2.1]),some (.ref st.length)],rfl,rfl,uY hk,⟨_,rfl⟩⟩
 have fl:fits (l.map λt=>HF (HV t)).length=true:=JP (by rw[Af];omega);have a4:=Iq s3 (.lst<|l.map λt=>HF (HV t));have J:=Mu a4 (by omega);have Q:=P.gr (Gr.app s3 [.lst (l.map λt=>HF (HV t))]);have f4:=Fr.app n s3 [.lst (l.map λt=>HF (HV t))];have y:=JX l;generalize p:s3++[O.lst (l.map λt=>HF (HV t))]=s4 at J Q f4;have S:=LA (Iq s4<|.lst<|(Hs l).map λt=>HF (HV t));refine⟨Hs l,s4++[.lst ((Hs l).map λt=>HF (HV t))],IJ ?_,λt f=>q.ok t (y.mem_iff.mp f),⟨l,rfl,q.nd⟩,by rw[y.length_eq];omega,(Q.gr<|Gr.app _ _).up<|by omega,(o.trans f4).trans<|Fr.app _ _ _⟩;have sm:small r=true:=Om r0 (by omega);unfold gL HL;generalize ((Hs l).map λt=>HF (HV t))=B at J S;generalize (l.map λt=>HF (HV t))=A at I fl p;generalize Jl (l.map Hj)=KD at I i;refine Hw (U1:=IX n (.tup [a,b,.tup ks]) w h most st.length none none) (s1:=st++[.dt []]) (by simp[IX,]) ?_;refine Hw (U1:=IX n (.tup [a,b,.tup ks]) w h most st.length v u) (s1:=s2) (by
  have:Jc (Ho Ih<|Hc (mV 0)<|Hc (mB HE (mV 3)<|mK<|.int 1)<|mZ) (IX n (.tup [a,b,.tup ks]) w h most st.length none none) (st++[.dt []])=some (⟨run 0 r.toNat,[]⟩,s1):=by simp[IX,F,sm]
  rw[Ki,this];exact e2) ?_
 have K:Jm (Ov<|mV 4) 1 [4] (Hl 0) Je RA (IX n (.tup [a,b,.tup ks]) w h most st.length v u) s2=some (.ref s3.length,s4):=by have:Ov (mV 4) (IX n (.tup [a,b,.tup ks]) w h most st.length v u) s2=some (⟨KD,[]⟩,s3):=i;rw[JN,this];simp only[Ae];rw[show IU (IX n (.tup [a,b,.tup ks]) w h most st.length v u) 1 [4]=[none,some (.ref st.length)] from rfl,I];simp only[Ae,fl,if_true,p]
 simp[K,J,S]
structure JB(w h:Int):Prop where
 w0:1<=w
 w1:w<=12
 h0:1<=h
 h1:h<=12
 wh:w<=5\/h<=5
def Hu(e:Int)(stk:List (Str×Int))(ks:List (List Str))(w h:Int)(sd:List Tl):D:=.tup [LM e stk ks,.tup [.int w,.int h],HL sd]
def oI(G:HI n m st)(hm:m<=100000):∃(e:Int) (stk:List (Str×Int)) (ks:List (List Str)) (w h:Int) (sd:List Tl) (c:Hf),Y8 (WC [.ref n] st=some (Hu e stk ks w h sd,c)) (NV e stk ks) (JB w h) ((∀t∈sd,IA w h ks.length t)) ((∃l:List Tl,sd=Hs l/\Hy l)) (sd.length<=6) (HI n (m+400) c) (Fr n st c):=by
 obtain⟨e,stk,ks,s1,r,f,H,f1⟩:=uB G hm;obtain⟨v,s2,z,I,J,K,f2⟩:=JQ (many:=5) H (by omega) (by decide) (by decide);obtain⟨L,M,s3,N,A,P,Q,S,f3⟩:=PU (xs:=[5,5,5,12]) (lo:=5) (hi:=12) K (by omega) (by decide) (by decide) (by decide);obtain⟨x,s4,B,T,U,W,f4⟩:=JQ (many:=M) S (by omega) (by omega) (by omega);obtain⟨X,s5,C,Y,Z,p5,f5⟩:=JQ (many:=2) W (by omega) (by decide) (by decide);obtain⟨r6,E,g,e6,x6,y60,y61,p6,f6⟩:=PU (xs:=[1,2,6]) (lo:=1) (hi:=6) p5 (by omega) (by decide) (by decide) (by decide);have y:Ih [.ref n,.int 4] (s2++[.lst [.int 5,.int 5,.int 5,.int 12]])=some (.int L,s3):=N;have i:Ih [.ref n,.int 3] (s5++[.lst [.int 1,.int 2,.int 6]])=some (.int r6,g):=e6;have k1:=f.lo;have k2:=f.hi;have j:Fr n st g:=((f1.trans f2).trans<|f3.trans f4).trans<|f5.trans f6;obtain⟨w,h,hwh,u⟩:∃w h:Int,(∀R:Option (Fl×Hf),mR (mU<|Hc (mV 1)<|Hc (mV 2)<|Hc (Ho Ot<|Hc (mV 0)<|Hc (mV 1)<|Hc (mV 2)<|Hc (mB Hg (mL<|Hc (mK<|.int 1)<|Hc (mK<|.int 2)<|Hc (mK<|.int 6)<|mZ)<|Ho Ih<|Hc (mV 0)<|Hc (mK<|.int 3)<|mZ)<|mZ)<|mZ) [some (.ref n),some (LM e stk ks),some (.tup [.int w,.int h])] s5=R->T7 (Mf 3 [.ref n]) st=R)/\JB w h:=by
  generalize LM e stk ks=hd at *;by_cases hr:X=0
  ·subst hr;refine⟨1+x,1+v,λR o=>?_,by omega,by omega,by omega,by omega,by omega⟩;unfold T7;refine Hw (U1:=[some (.ref n),some hd,none]) (s1:=s1) (by simp[r]) ?_;refine Hw (U1:=[some (.ref n),some hd,some (.tup [.int (1+v),.int (1+x)])]) (s1:=s4) (by simp[z,y,A,B]) ?_;refine Hw (U1:=[some (.ref n),some hd,some (.tup [.int (1+x),.int (1+v)])]) (s1:=s5) ?_ o;have er:∀s:Hf,UX (mV 2) (NH<|mK<|.int 1) [some (.ref n),some hd,some (.tup [.int (1+v),.int (1+x)])] s=some (.tup [.int (1+x),.int (1+v)],s):=λs=>rfl;simp[C,eq_int,er]
  refine⟨1+v,1+x,λR o=>?_,by omega,by omega,by omega,by omega,by omega⟩;unfold T7;refine Hw (U1:=[some (.ref n),some hd,none]) (s1:=s1) (by simp[r]) ?_;refine Hw (U1:=[some (.ref n),some hd,some (.tup [.int (1+v),.int (1+x)])]) (s1:=s4) (by simp[z,y,A,B]) ?_;refine Hw (U1:=[some (.ref n),some hd,some (.tup [.int (1+v),.int (1+x)])]) (s1:=s5) (by simp[C,eq_int,hr]) o
 have:=u.w0;have:=u.w1;have:=u.h0;have:=u.h1;obtain⟨sd,F,p,d,q,hsl,p7,f7⟩:=fQ (w:=w) (h:=h) (most:=E) (a:=.int e) (b:=.tup (stk.map J6)) (ks:=ks.map IH) p6 (by omega) (by omega) (by omega) (by omega) (by rw[Af];omega) (by rw[Af];omega) (by omega) (by omega) (by omega);have p:Ot [.ref n,LM e stk ks,.tup [.int w,.int h],.int E] g=some (HL sd,F):=p;rw[Af]at d;refine⟨e,stk,ks,w,h,sd,F,IJ<|hwh _ ?_,f,u,d,q,by omega,p7.up<|by omega,j.trans f7⟩;unfold Hu;generalize LM e stk ks=hd at *;simp[i,x6,p]
end L2.MP.Hd
namespace L2.MP.Hd
open PySem L2.MP
open L2.MP.Hn (HL)
variable {x y:Int}{d:Nat}{kvs:List (List Key×D)}{st:Hf}
def Pr(h:st[d]?=some (.dt kvs)):Km (.tup [.int x,.int y]) (.ref d) st=some (.bl (HQ kvs [.inl x,.inl y]).isSome,st):=by
 have a:ID 50 st (.ref d)=none:=by rw[ID];simp[HZ,h]
 have b:inD false (.tup [.int x,.int y]) (.ref d) st=none:=by
  unfold inD;rw[a];cases ID 50 st (.tup [.int x,.int y])<;>rfl
 have c:Mz (.tup [.int x,.int y]) (.ref d) st=none:=rfl;unfold Km JT;rw[show LF (inD false (.tup [.int x,.int y]) (.ref d) st) (Mz (.tup [.int x,.int y]) (.ref d) st)=none by rw[b,c];rfl,Kh];simp[NQ,look,h,keysOf,keyOf]
variable {v:D}
def Ss(h:st[d]?=some (.dt kvs))(a:HQ kvs [.inl x,.inl y]=some v):Hg (.ref d) (.tup [.int x,.int y]) st=some (v,st):=by
 have b:Ka (.ref d) (.tup [.int x,.int y]) st=none:=by simp[Ka,HZ,h]
 unfold Hg JT;rw[b,Kh];simp[UO,look,h,keysOf,keyOf,a]
variable {a b:Str}
def eq_str(c:Bg a=true)(e:Bg b=true):Kv (.str a) (.str b) st=some (.bl (a==b),st):=by unfold Kv;rw[Tn c,Tn e];simp[B0]
def ne_str(c:Bg a=true)(e:Bg b=true):JO (.str a) (.str b) st=some (.bl (a != b),st):=by unfold JO;rw[Tn c,Tn e];simp[B0,bne]
def Lp(ts:List Tl):List Tl:=ts.foldl IM []
theorem bA:∀(ts acc:List Tl),Of (acc.map Hj) (ts.map Hj)=(ts.foldl IM acc).map Hj
 |[],acc=>rfl
 |t::ts,acc=>by show Of (putD (acc.map Hj) (Hj t).1 (Hj t).2) (ts.map Hj)=_;rw[ZO];exact bA ts<|IM acc t
theorem bE:∀(ts acc:List Tl),(ts.foldl IM acc).length<=acc.length+ts.length
 |[],acc=>by simp
 |t::ts,acc=>by have c:=bE ts<|IM acc t;have a:=V3 acc t;simp only[Es,Au];omega
def HS(P:List Tl)(x y:Int):Option Int:=(P.find? λt=>decide (t.1=x)&&decide (t.2.1=y)).map λt=>t.2.2
theorem Lz(x y:Int):∀P:List Tl,HQ (P.map Hj) [.inl x,.inl y]=(HS P x y).map D.int
 |[]=>rfl
 |t::P=>by
  have c:=Lz x y P;have hk:decide ((Hj t).1=[CH x,CH y])=(decide (t.1=x)&&decide (t.2.1=y)):=QR t (x,y,0);unfold HQ HS at *;rw[As,AS,AS,hk];cases decide (t.1=x)&&decide (t.2.1=y) with
  |true=>rfl
  |false=>exact c
variable {P:List Tl}{k:Int}
def M3{P:List Tl}(h:HS P x y=some k):∃t∈P,t.2.2=k:=by unfold HS at h;obtain⟨t,e,h⟩:=Ig h;exact⟨t,CP e,h⟩
variable {t:Tl}{s:Hf}
theorem oC:Rm [some (.int t.1),some (.int t.2.1),some (.int t.2.2)] s=some (.tup [.tup [.int t.1,.int t.2.1],.int t.2.2],s):=rfl
theorem Zz:∀ts:List Tl,OP (ts.map λt=>.tup [.tup [.int t.1,.int t.2.1],.int t.2.2])=some (ts.map Hj)
 |[]=>rfl
 |t::ts=>by have c:=Zz ts;rw[As,OP,c];rfl
theorem wZ{a b c:Option D}{r:Ii}:Kn 3 (gC (Hl 0)<|gC (Hl 1)<|gC (Hl 2)<|Ko) (HF<|HV t) (a::b::c::r) st=some (some (.int t.1)::some (.int t.2.1)::some (.int t.2.2)::r,st):=rfl
variable {ts:List Tl}
def Wl(f:ts.length<=1000):∃(l:Nat) (c:Hf),Y4 (Rr [HL ts] st=some (.ref l,c)) (c[l]?=some (.dt<|(Lp ts).map Hj)) (st.length<=l) (Gr st c):=by
 have d:Jt ⟨ts.map λt=>HF (HV t),[]⟩ (Kn 3<|gC (Hl 0)<|gC (Hl 1)<|gC (Hl 2)<|Ko) Je Rm (ts.map λt=>HF (HV t)) [none,none,none] st=some (ts.map λt=>.tup [.tup [.int t.1,.int t.2.1],.int t.2.2],st):=by
  have:∀W:Wk,walked W st=true->Jt W (Kn 3<|gC (Hl 0)<|gC (Hl 1)<|gC (Hl 2)<|Ko) Je Rm (ts.map λt=>HF (HV t)) [none,none,none] st=some (ts.map λt=>.tup [.tup [.int t.1,.int t.2.1],.int t.2.2],st):=by intro W s;refine PF (R:=λU=>∃x y z,U=[x,y,z]) ⟨none,none,none,rfl⟩ s λt g U v=>?_;obtain⟨x,y,z,rfl⟩:=v;exact⟨_,wZ,rfl,oC,_,_,_,rfl⟩
  exact this _ rfl
 have fl:fits (ts.map λt=>D.tup [.tup [.int t.1,.int t.2.1],.int t.2.2]).length=true:=JP (by rw[Af];omega);have a1:=Iq st<|.lst<|ts.map λt=>.tup [.tup [.int t.1,.int t.2.1],.int t.2.2];have P:fits (ts.map Hj).length=true:=JP (by rw[Af];omega);have g1:=Gr.app st [.lst (ts.map λt=>.tup [.tup [.int t.1,.int t.2.1],.int t.2.2])];generalize b:st++[O.lst (ts.map λt=>.tup [.tup [.int t.1,.int t.2.1],.int t.2.2])]=s1 at a1 g1;have e:Qr [.ref st.length] s1=some (.ref s1.length,s1++[.dt ((Lp ts).map Hj)]):=by unfold Qr;have hm:Of [] (ts.map Hj)=(Lp ts).map Hj:=bA ts [];simp only[HZ,a1,Ae,Zz,P,if_true,hm]
 refine⟨s1.length,s1++[.dt ((Lp ts).map Hj)],IJ ?_,Iq _ _,g1.len,g1.trans<|Gr.app _ _⟩;unfold fE HL;generalize (ts.map λt=>HF (HV t))=T at *;generalize (ts.map λt=>D.tup [.tup [.int t.1,.int t.2.1],.int t.2.2])=A at *;have a:Jm (Js<|mV 0) 3 [] (Kn 3<|gC (Hl 0)<|gC (Hl 1)<|gC (Hl 2)<|Ko) Je Rm (Mf 1 [.tup T]) st=some (.ref st.length,s1):=by
  have:Js (mV 0) (Mf 1 [.tup T]) st=some (⟨T,[]⟩,st):=by simp[Lv]
  rw[JN,this];simp only[Ae];rw[show IU (Mf 1 [.tup T]) 3 []=[none,none,none] from rfl,d];simp only[Ae,fl,if_true,b]
 simp at a ⊢;simp[a,e]
variable {n:Nat}
def lR{T:D}{s':Hf}(c:dput s n (.tup [.int x,.int y]) (.int k)=some s'):Uv [some T,some (.ref n),some (.int x),some (.int y),some (.int k)] s=some (.nx [some T,some (.ref n),some (.int x),some (.int y),some (.int k)],s'):=by
 unfold Uv;rw[MV];have a:Hq (mV 4) (LH Il (mV 1)<|mU<|Hc (mV 2)<|Hc (mV 3)<|mZ) [some T,some (.ref n),some (.int x),some (.int y),some (.int k)] s=none:=by simp[Il]
 rw[a,Kh];unfold LK;simp[c]
def Va(q:ts.length<=500):∃(e:Hf),Y3 (Qh [HL ts] st=some (.ref st.length,e)) (e[st.length]?=some (.dt<|(Lp ts).map Hj)) (Gr st e):=by
 have key:=Ku (W:=⟨ts.map λt=>HF (HV t),[]⟩) (g:=Kn 3 (gC (Hl 2)<|gC (Hl 3)<|gC (Hl 4)<|Ko)) (m:=Uv) (ds:=ts.map λt=>HF (HV t)) (U:=[some (HL ts),some (.ref st.length),none,none,none]) (st:=st++[.dt []])
  (Inv:=λk U s=>Y3 ((∃a b c,U=[some (HL ts),some (.ref st.length),a,b,c])) (s[st.length]?=some (.dt<|((ts.take k).foldl IM []).map Hj)) (Gr st s))
  ⟨⟨_,_,_,rfl⟩,Iq _ _,Gr.app _ _⟩ (λ_ _ _ _ _=>rfl) (λk d U s hd h=>by
   obtain⟨⟨a,b,c,rfl⟩,n,v⟩:=h;rw[Ay]at hd;obtain⟨t,i,rfl⟩:=Ig hd;have P:((ts.take k).foldl IM []).length<=1000:=by have:=bE (ts.take k) [];rw[Bq,Be]at this;omega
   have l:=Nn (x:=t.1) (y:=t.2.1) (k:=t.2.2) n P;refine⟨[some (HL ts),some (.ref st.length),some (.int t.1),some (.int t.2.1),some (.int t.2.2)],s,_,_,rfl,lR l,⟨_,_,_,rfl⟩,?_,?_⟩
   ·rw[Aq (qax n),Bj,i,FW];rfl
   exact⟨by rw[Bf];exact v.len,λj o=>by rw[Ag (by omega)];exact v.old j o⟩)
 obtain⟨r,f,p,⟨a,b,c,rfl⟩,n,v⟩:=key;rw[Af,Bb]at n;refine⟨f,IJ ?_,n,v⟩;unfold gJ;refine Hw (U1:=[some (HL ts),some (.ref st.length),none,none,none]) (s1:=st++[.dt []]) (by simp) ?_;refine Hw (U1:=[some (HL ts),some (.ref st.length),a,b,c]) (s1:=f) (by
  have:Js (mV 0) [some (HL ts),some (.ref st.length),none,none,none] (st++[.dt []])=some (⟨ts.map λt=>HF (HV t),[]⟩,st++[.dt []]):=by unfold HL;simp[Lv]
  rw[Ki,this];exact p) ?_
 simp
def IE(ks:List (List Str))(k:Int):List Str:=(ks.getD k.toNat []).tail
structure Ky(bed:D)(stk:List (Str×Int))(ks:List (List Str)):Prop where
 h:∃hs:D,(∀s:Hf,Hg bed (.int 0) s=some (hs,s))/\(∀s:Hf,Hg hs (.int 1) s=some (.tup (stk.map J6),s))/\∀s:Hf,Hg hs (.int 2) s=some (.tup (ks.map IH),s)
structure KP(ss:List Str)(ks:List (List Str)):Prop where
 hi:ks.length<=100
 kd:∀k∈ks,L7 ss k
variable {ss:List Str}{ks:List (List Str)}
def Mp(h:KP ss ks)(h0:0<=k)(g:k<(ks.length:Int)):∃f a b c d:Str,Y3 (ks[k.toNat]?=some [f,a,b,c,d]) (IE ks k=[a,b,c,d]) (∀x∈[a,b,c,d],Iy x/\(x=""\/x∈ss)):=by
 have hk:k.toNat<ks.length:=by omega
 obtain⟨f,ds,e,hf,y,n⟩:=(h.kd _<|Ba hk).ex;have s:ks[k.toNat]?=some (f::ds):=by rw[Ai hk,e]
 have v:IE ks k=ds:=by unfold IE;rw[Aw,s];rfl
 match ds,y,n,s,v with
 |[a,b,c,d],_,n,s,v=>exact⟨f,a,b,c,d,s,v,n⟩
variable {bed hs KK kd sl:D}
def xF{K:Int}(c:Hg bed (.int 0) st=some (hs,st))(e:Hg hs (.int 2) st=some (KK,st))(f:HP [KK] st=some (.int K,st))(h0:0<=k)(g:k<K)(h:Hg KK (.int k) st=some (kd,st))(es:Lk kd (some 1) none st=some (sl,st)):WM [some bed,some (.int k),none] st=some (.rt sl,st):=by
 unfold WM;refine Hw (U1:=[some bed,some (.int k),some KK]) (s1:=st) (by simp[c,e])<|OQ ?_;have a:mT (MW Qn Ph (mK<|.int 0) (mV 1)<|Ho HP<|Hc (mV 2)<|mZ) [some bed,some (.int k),some KK] st=some (true,st):=by rw[lB];unfold MW;simp[f,h0,g]
 rw[LJ,a];simp[h,es]
variable {stk:List (Str×Int)}
def eJ(i:Ky bed stk ks)(h:KP ss ks)(h0:0<=k)(g:k<(ks.length:Int)):P8 [bed,.int k] st=some (.tup ((IE ks k).map D.str),st):=by obtain⟨hs,n,_,s⟩:=i.h;obtain⟨f,a,b,c,d,e,v,_⟩:=Mp h h0 g;rw[v];refine IJ<|xF (n st) (s st) QZ h0 (by rw[Af];exact g) (Io h0 (by rw[Ay,e];rfl)) ?_;rfl
def Ws:Me [.tup [.int x,.int y]] st=some (.tup [.tup [.int x,.int (y+1)],.tup [.int (x+1),.int y],.tup [.int x,.int (y-1)],.tup [.int (x-1),.int y]],st):=by have a:Hg (.tup [.int x,.int y]) (.int 0) st=some (.int x,st):=Io (by decide) rfl;have b:Hg (.tup [.int x,.int y]) (.int 1) st=some (.int y,st):=Io (by decide) rfl;refine IJ ?_;unfold fX;refine Hw (U1:=[some (.tup [.int x,.int y]),some (.int x),none]) (s1:=st) (by simp[a]) ?_;refine Hw (U1:=[some (.tup [.int x,.int y]),some (.int x),some (.int y)]) (s1:=st) (by simp[b]) ?_;simp
def JZ(ks:List (List Str))(P:List Tl)(p:Int×Int)(j:Nat):Str:=match HS P p.1 p.2 with
 |some k=>(IE ks k).getD j ""
 |none=>""
variable {pl nr:D}{l:Nat}{J I:Int}{L:List D}
def jE{L0:D}{y:D}(c:Km nr (.ref d) s=some (.bl true,s))(e:s[l]?=some (.lst L))(f:Hg (.ref d) nr s=some (.int k,s))(hs:P8 [bed,.int k] s=some (sl,s))(hm:Im (.int<|J+2) (.int 4) s=some (.int I,s))(g:Hg sl (.int I) s=some (y,s))(h:K4 (.ref l) [y] s=some (.non,s.set l (.lst<|L++[y]))):
  O6 [some bed,some (.ref d),some pl,some (.ref l),some (.int J),some nr] s=some (.nx [some bed,some (.ref d),some pl,some (.ref l),some (.int J),some nr],s.set l (.lst<|L++[y])):=by
 unfold O6;simp[c,HZ,e,f,hs,hm,g,h]
def nG(c:Km nr (.ref d) s=some (.bl false,s))(e:s[l]?=some (.lst L))(f:K4 (.ref l) [.str ""] s=some (.non,s.set l (.lst<|L++[.str ""]))):
  O6 [some bed,some (.ref d),some pl,some (.ref l),some (.int J),some nr] s=some (.nx [some bed,some (.ref d),some pl,some (.ref l),some (.int J),some nr],s.set l (.lst<|L++[.str ""])):=by
 unfold O6;simp[c,HZ,e,f]
variable {j:Nat}
def Tv{P:List Tl}{a b:Int}(o:Ky bed stk ks)(h:KP ss ks)(p:∀t∈P,0<=t.2.2/\t.2.2<(ks.length:Int))(hd:s[d]?=some (.dt<|P.map Hj))(c:s[l]?=some (.lst L))(z:L.length<=10)(q:(J+2) % 4=I)(r:I=(j:Int))(g:j<4):
  O6 [some bed,some (.ref d),some pl,some (.ref l),some (.int J),some (.tup [.int a,.int b])] s=some (.nx [some bed,some (.ref d),some pl,some (.ref l),some (.int J),some (.tup [.int a,.int b])],s.set l (.lst<|L++[.str (JZ ks P (a,b) j)])):=by
 have n:=Pr (x:=a) (y:=b) hd;have v:=Lz a b P;unfold JZ;cases hf:HS P a b with
 |none=>
  rw[hf]at v;rw[v]at n;exact nG n c<|append_at c<|by omega
 |some k=>
  rw[hf]at v;have v:HQ (P.map Hj) [.inl a,.inl b]=some (.int k):=v;rw[v]at n;obtain⟨t,u,rfl⟩:=M3 hf;obtain⟨i,m⟩:=p t u;obtain⟨f,x0,A,B,C,e,w,_⟩:=Mp h i m;refine jE (L0:=.non) n c (Ss hd v) (eJ o h i m) (by rw[L9 (by decide),q]) (Io (by omega) ?_) (append_at c<|by omega);show((IE ks t.2.2).map D.str)[I.toNat]?=some (D.str<|(IE ks t.2.2).getD j "");rw[w,r,By]
  match j,g with
  |0,_=>rfl
  |1,_=>rfl
  |2,_=>rfl
  |3,_=>rfl
def names4(ks:List (List Str))(P:List Tl)(x y:Int):List Str:=[JZ ks P (x,y+1) 2,JZ ks P (x+1,y) 3,JZ ks P (x,y-1) 0,JZ ks P (x-1,y) 1]
variable {U:Ii}{ds:List D}
def aI{e:ME}(h:e U st=some (.tup ds,s)):Pu e U st=some (⟨pairs ds,[]⟩,s):=by unfold Pu;rw[h];rfl
def cQ{P:List Tl}(e:Ky bed stk ks)(h:KP ss ks)(f:∀t∈P,0<=t.2.2/\t.2.2<(ks.length:Int))(hd:st[d]?=some (.dt<|P.map Hj)):
  ∃c,Y3 (Qa [bed,.ref d,.tup [.int x,.int y]] st=some (.ref st.length,c)) (c[st.length]?=some (.lst<|(names4 ks P x y).map D.str)) (Gr st c):=by
 have p:=qax hd;have key:=Ku (W:=⟨pairs [.tup [.int x,.int (y+1)],.tup [.int (x+1),.int y],.tup [.int x,.int (y-1)],.tup [.int (x-1),.int y]],[]⟩) (g:=Kn 2 (gC (Hl 4)<|gC (Hl 5)<|Ko)) (m:=O6) (ds:=[D.tup [.int 0,.tup [.int x,.int (y+1)]],.tup [.int 1,.tup [.int (x+1),.int y]],.tup [.int 2,.tup [.int x,.int (y-1)]],.tup [.int 3,.tup [.int (x-1),.int y]]]) (U:=[some bed,some (.ref d),some (.tup [.int x,.int y]),some (.ref st.length),none,none]) (st:=st++[.lst []])
  (Inv:=λk U s=>Y3 ((∃a b,U=[some bed,some (.ref d),some (.tup [.int x,.int y]),some (.ref st.length),a,b])) (s[st.length]?=some (.lst<|((names4 ks P x y).take k).map D.str)) (Gr st s))
  ⟨⟨_,_,rfl⟩,Iq _ _,Gr.app _ _⟩ (λ_ _ _ _ _=>rfl) (λk B U s l r=>by
   obtain⟨⟨u,v,rfl⟩,n,L⟩:=r;have J:=(L.old _ p).trans hd;have i:(((names4 ks P x y).take k).map D.str).length<=10:=by rw[Af,Bq];simp[names4];omega
   have gr:∀o:O,Gr st (s.set st.length o):=λo=>⟨by rw[Bf];exact L.len,λj w=>by rw[Ag (by omega)];exact L.old j w⟩
   have at':∀o:O,(s.set st.length o)[st.length]?=some o:=λo=>Aq<|qax n
   match k,l with
   |0,l=>
    cases l;exact⟨_,s,_,_,rfl,Tv (pl:=.tup [.int x,.int y]) (I:=2) (j:=2) e h f J n i (by decide) rfl<|by decide,⟨_,_,rfl⟩,at' _,gr _⟩
   |1,l=>
    cases l;exact⟨_,s,_,_,rfl,Tv (pl:=.tup [.int x,.int y]) (I:=3) (j:=3) e h f J n i (by decide) rfl<|by decide,⟨_,_,rfl⟩,at' _,gr _⟩
   |2,l=>
    cases l;exact⟨_,s,_,_,rfl,Tv (pl:=.tup [.int x,.int y]) (I:=0) (j:=0) e h f J n i (by decide) rfl<|by decide,⟨_,_,rfl⟩,at' _,gr _⟩
   |3,l=>
    cases l;exact⟨_,s,_,_,rfl,Tv (pl:=.tup [.int x,.int y]) (I:=1) (j:=1) e h f J n i (by decide) rfl<|by decide,⟨_,_,rfl⟩,at' _,gr _⟩
   |k+4,l=>exact absurd l (by simp))
 obtain⟨C,q,z,⟨u,v,rfl⟩,n,L⟩:=key;refine⟨q,IJ ?_,n,L⟩;unfold fZ;refine Hw (U1:=[some bed,some (.ref d),some (.tup [.int x,.int y]),some (.ref st.length),none,none]) (s1:=st++[.lst []]) (by simp) ?_;refine Hw (U1:=[some bed,some (.ref d),some (.tup [.int x,.int y]),some (.ref st.length),u,v]) (s1:=q) (by
  have A:Ho Me (Hc (mV 2)<|mZ) [some bed,some (.ref d),some (.tup [.int x,.int y]),some (.ref st.length),none,none] (st++[.lst []])=some (.tup [.tup [.int x,.int (y+1)],.tup [.int (x+1),.int y],.tup [.int x,.int (y-1)],.tup [.int (x-1),.int y]],st++[.lst []]):=by have:=Ws (x:=x) (y:=y) (st:=st++[.lst []]);simp[this]
  rw[Ki,aI A];exact z) ?_
 simp
def LG(S N:List Str)(j:Nat):Bool:=S.getD j "" != ""&&S.getD j ""==N.getD j ""
def alike(S N:List Str):List Nat:=(AB 4).filter<|LG S N
def TK:Bg ("":Str)=true:=by decide +kernel
def RP{P:List Tl}(h:KP ss ks)(g:∀t∈P,0<=t.2.2/\t.2.2<(ks.length:Int))(p:Int×Int)(j:Nat):Iy (JZ ks P p j):=by
 unfold JZ;split
 ·rename_i k hf;obtain⟨t,n,rfl⟩:=M3 hf;obtain⟨s,v⟩:=g t n;obtain⟨f,a,b,c,d,e,y,l⟩:=Mp h s v;rw[y,Aw]
  cases I:[a,b,c,d][j]? with
  |none=>exact P1
  |some x=>exact(l x<|AF I).1
 exact P1
def RW(p:Str×Int):Key×D:=(.inr p.1,.int p.2)
def JF(stk:List (Str×Int)):List (Key×D):=Oe []<|stk.map RW
def uV{κ:Type}[DecidableEq κ]:∀(kvs:List (κ×D)) (k q:κ) (d:D),HQ (putD kvs k d) q=if q=k then some d else HQ kvs q:=by
 intro kvs k q d;unfold putD;by_cases h:(kvs.any λb=>decide (b.1=k))=true
 ·rw[if_pos h]
  induction kvs with
  |nil=>simp at h
  |cons p r l=>
   unfold HQ at *;rw[As,AS,AS];by_cases hp:p.1=k
   ·simp only[hp,if_true]
    by_cases hq:q=k
    ·simp[hq]
    ·have:¬k=q:=λe=>hq e.symm;simp only[this,decide_false,hq,if_false];clear h l
     induction r with
     |nil=>rfl
     |cons u r a=>
      rw[As,AS,AS];by_cases hu:u.1=k
      ·simp only[hu,if_true,this,decide_false];exact a
      ·simp only[hu,if_false]
       by_cases huq:u.1=q
       ·simp[huq]
       simp only[huq,decide_false];exact a
   ·simp only[hp,if_false]
    by_cases hpq:p.1=q
    ·have:¬q=k:=λe=>hp<|hpq.trans e;simp[hpq,this]
    simp only[hpq,decide_false];refine l ?_;rw[BI]at h;simpa[hp]using h
 ·rw[if_neg h];unfold HQ;rw[DZ]
  by_cases hq:q=k
  ·subst hq;have:kvs.find? (λb=>decide (b.1=q))=none:=by
    rw[FE];intro x n j;exact h<|List.any_eq_true.mpr ⟨x,n,j⟩
   simp[this]
  have:¬k=q:=λe=>hq e.symm;simp[hq,this]
def X0(d:Option D):Prop:=∃v:Int,d=some (.int v)/\1<=v/\v<=4
theorem dB{q:Str}:∀{more:List (Str×Int)} {acc:List (Key×D)},(∀p∈more,1<=p.2/\p.2<=4)->(X0 (HQ acc<|.inr q)\/q∈more.map (·.1))->X0 (HQ (Oe acc<|more.map RW)<|.inr q)
 |[],acc,_,h=>by
  rcases h with h|h
  ·exact h
  ·cases h
 |p::r,acc,c,h=>by
  show X0 (HQ (Oe (putD acc (.inr p.1)<|.int p.2)<|r.map RW)<|.inr q);refine dB (λu f=>c u (Al _ f)) ?_;rw[uV]
  by_cases e:q=p.1
  ·subst e;rw[if_pos rfl];have:=c p Ar;exact .inl ⟨p.2,rfl,this.1,this.2⟩
  ·have a:¬(DD q:Key)=.inr p.1:=λz=>e (by injection z);rw[if_neg a]
   rcases h with h|h
   ·exact .inl h
   ·rcases On.mp h with h|h
    ·exact absurd h e
    exact .inr h
def sv(stk:List (Str×Int))(a:Str):Int:=match HQ (JF stk) (.inr a) with|some (.int v)=>v|_=>0
def QE{stk:List (Str×Int)}(h:∀p∈stk,1<=p.2/\p.2<=4)(c:a∈stk.map (·.1)):HQ (JF stk) (.inr a)=some (.int<|sv stk a)/\1<=sv stk a/\sv stk a<=4:=by
 obtain⟨v,e,b,d⟩:=dB (acc:=[]) h<|.inr c;have e:HQ (JF stk) (.inr a)=some (.int v):=e;have:sv stk a=v:=by unfold sv;rw[e]
 rw[this];exact⟨e,b,d⟩
theorem ZM:∀stk:List (Str×Int),Pw (stk.map J6)=some (stk.map RW)
 |[]=>rfl
 |p::r=>by have c:=ZM r;rw[As,Pw,c];rfl
def VC(c:stk.length<=1000):OE [.tup (stk.map J6)] st=some (.ref st.length,st++[.dk (JF stk)]):=by have a:fits (stk.map RW).length=true:=JP (by rw[Af];omega);have b:Sm [.tup (stk.map J6)] st=none:=rfl;unfold OE K6;rw[b,Kh];unfold Sn;simp only[ZM,Ae,a,if_true];rfl
def YI{kvs:List (Key×D)}(h:st[d]?=some (.dk kvs))(c:HQ kvs (.inr a)=some v):Hg (.ref d) (.str a) st=some (v,st):=by
 have b:Ka (.ref d) (.str a) st=none:=by simp[Ka,HZ,h]
 unfold Hg JT;rw[b,Kh];simp[UO,look,h,keyOf,c]
theorem Z9:∀ns:List Int,Qv (ns.map D.int)=some ns
 |[]=>rfl
 |n::r=>by have c:=Z9 r;rw[As,Qv,c];rfl
def Zw{ns:List Int}(c:st[l]?=some (.lst<|ns.map D.int))(h:∀n∈ns,0<=n/\n<=100)(hn:ns.length<=100):LV [.ref l] st=some (.int ns.sum,st):=by
 have a:(ns.all Oc&&decide (ns.length<=100000))=true:=by rw[An];refine⟨List.all_eq_true.mpr λn hn=>?_,decide_eq_true<|by omega⟩;have:=h n hn;unfold Oc;simp;omega
 unfold LV;simp only[HZ,c,Ae,Z9,a,if_true]
def pB{K:Option D}(c:Bg a=true)(e:Bg b=true):Rz [some (.str a),some (.str b),K] s=some (a==b&&a != "",s):=by
 have d:=eq_str (st:=s) c e;have j:=ne_str (st:=s) c TK;unfold Rz;cases h:a==b with
 |true=>simp[d,j,h]
 |false=>simp[d,j,h]
def pO(h:Hg (.ref d) (.str a) s=some (v,s)):Rv [some (.str a),some (.str b),some (.ref d)] s=some (v,s):=by unfold Rv;simp[h]
def Jq(S N:List Str):List (Str×Str):=(S.zip N).filter λp=>p.1==p.2&&p.1 != ""
variable {S N:List Str}
def eM{stk:List (Str×Int)}{S N:List Str}(c:∀p∈stk,1<=p.2/\p.2<=4)(E:S.length<=4)(f:∀x∈S,Iy x/\(x=""\/x∈stk.map (·.1)))(oN:∀x∈N,Bg x=true)(hd:st[d]?=some (.dk<|JF stk))(o:st[l]?=some (.lst<|N.map D.str)):
  ∃e,O7 [.ref d,.tup (S.map D.str),.ref l] st=some (.int ((Jq S N).map λp=>sv stk p.1).sum,e)/\Gr st e:=by
 have u:pairD (S.map D.str) (N.map D.str)=(S.zip N).map λp=>D.tup [.str p.1,.str p.2]:=by unfold pairD;rw[List.zip_map,AI];rfl
 have j:∀p∈S.zip N,p.1∈S/\p.2∈N:=λp I=>by obtain⟨a,b⟩:=p;exact CL I
 have hw:walked ⟨(S.zip N).map λp=>D.tup [.str p.1,.str p.2],[(l,N.map D.str)]⟩ st=true:=Oq o;have g:Jt ⟨(S.zip N).map λp=>D.tup [.str p.1,.str p.2],[(l,N.map D.str)]⟩ (Kn 2<|gC (Hl 0)<|gC (Hl 1)<|Ko) Rz Rv ((S.zip N).map λp=>D.tup [.str p.1,.str p.2]) [none,none,some (.ref d)] st=some ((Jq S N).map λp=>D.int (sv stk p.1),st):=by
  refine TZ (R:=λU=>∃x y,U=[x,y,some (.ref d)]) ⟨none,none,rfl⟩ hw λp I U w=>?_;obtain⟨x,y,rfl⟩:=w;obtain⟨P,q⟩:=j p I;refine⟨[some (.str p.1),some (.str p.2),some (.ref d)],rfl,pB (QI (f _ P).1.ab)<|oN _ q,λJ=>?_,_,_,rfl⟩;have s:p.1≠"":=by rw[An]at J;simpa using J.2
  have v:p.1∈stk.map (·.1):=by
   rcases(f _ P).2 with h|h
   ·exact absurd h s
   exact h
  exact pO<|YI hd (QE c v).1
 have hm:((Jq S N).map λp=>D.int (sv stk p.1))=((Jq S N).map λp=>sv stk p.1).map D.int:=by rw[AI];rfl
 rw[hm]at g;have hlen:(Jq S N).length<=4:=by refine AA (AN _ _) ?_;rw[Gx];omega
 have L:∀n∈(Jq S N).map (λp=>sv stk p.1),0<=n/\n<=100:=λn z=>by
  obtain⟨p,I,rfl⟩:=SL.mp z;obtain⟨i,J⟩:=List.mem_filter.mp I;obtain⟨P,q⟩:=j p i;have s:p.1≠"":=by rw[An]at J;simpa using J.2
  have v:p.1∈stk.map (·.1):=by
   rcases(f _ P).2 with h|h
   ·exact absurd h s
   exact h
  have:=QE c v;omega
 have B:=Zw (Iq st<|.lst<|((Jq S N).map λp=>sv stk p.1).map D.int) L (by rw[Af];omega);have fl:fits (((Jq S N).map λp=>sv stk p.1).map D.int).length=true:=JP (by rw[Af,Af];omega);generalize ((Jq S N).map λp=>sv stk p.1).sum=R at *;generalize ((Jq S N).map λp=>sv stk p.1).map D.int=A at *;refine⟨st++[.lst A],IJ ?_,Gr.app _ _⟩;rw[<-u]at g;generalize S.map D.str=SS at *;generalize C:N.map D.str=r at *;unfold gG;have m:Jm (Mx (mV 1)<|mV 2) 2 [0] (Kn 2<|gC (Hl 0)<|gC (Hl 1)<|Ko) Rz Rv [some (.ref d),some (.tup SS),some (.ref l)] st=some (.ref st.length,st++[.lst A]):=by
  have:Mx (mV 1) (mV 2) [some (.ref d),some (.tup SS),some (.ref l)] st=some (⟨pairD SS r,[(l,r)]⟩,st):=by rw[lC];simp[Ve,ON,Mw,HZ,o]
  rw[JN,this];simp only[Ae];rw[show IU [some (.ref d),some (.tup SS),some (.ref l)] 2 [0]=[none,none,some (.ref d)] from rfl,g];simp only[Ae,fl,if_true]
 simp[m,B]
def ZV{a b:Int}(h0:0<=J)(h:[D.tup [.int x,.int (y+1)],.tup [.int (x+1),.int y],.tup [.int x,.int (y-1)],.tup [.int (x-1),.int y]][J.toNat]?=some (.tup [.int a,.int b])):∃s',Nz [.tup [.int x,.int y],.int J] s=some (.tup [.int a,.int b],s')/\Gr s s':=by have ex:=KY (Iq s<|.lst [.tup [.int x,.int (y+1)],.tup [.int (x+1),.int y],.tup [.int x,.int (y-1)],.tup [.int (x-1),.int y]]) h0 h;refine⟨s++[.lst [.tup [.int x,.int (y+1)],.tup [.int (x+1),.int y],.tup [.int x,.int (y-1)],.tup [.int (x-1),.int y]]],IJ ?_,Gr.app _ _⟩;unfold fT;refine Hw (U1:=[some (.tup [.int x,.int y]),some (.int J),some (.int x),some (.int y)]) (s1:=s) (by simp) ?_;simp[ex]
variable {s1:Hf}
def Zu{a b:Int}{mk:ME}{md:ME}(hm:md U s=some (.ref d,s))(h:s[d]?=some (.dt kvs))(hk:mk U s=some (.tup [.int a,.int b],s1))(c:s1[d]?=some (.dt kvs)):Nd md mk U s=some ((HQ kvs [.inl a,.inl b]).getD .non,s1):=by
 have j:MN s d=true:=by unfold MN;rw[h]
 have l:Su s1 d (.tup [.int a,.int b])=some (HQ kvs [.inl a,.inl b]):=by
  unfold Su;have:look s1 d (.tup [.int a,.int b])=some (HQ kvs [.inl a,.inl b]):=by unfold look;simp only[c];rfl
  rw[this,Kg]
 unfold Nd;rw[hm];simp only[Ae,j,if_true];rw[hk];simp only[Ae,l,AZ]
variable {a7 a8:Option D}{mine:Str}
section
variable {mineD:D}
def pY(c:Nd (mV 1) (Ho Nz<|Hc (mV 2)<|Hc (mV 6)<|mZ) [some bed,some (.ref d),some pl,some (.int k),some KK,some (.ref l),some (.int J),a7,a8] s=some (.non,s1))(hk:Hg KK (.int k) s1=some (kd,s1)) (hm:Hg kd (.int<|J+1) s1=some (.str mine,s1)):
  O4 [some bed,some (.ref d),some pl,some (.int k),some KK,some (.ref l),some (.int J),a7,a8] s=some (.nx [some bed,some (.ref d),some pl,some (.int k),some KK,some (.ref l),some (.int J),some .non,some (.str mine)],s1):=by
 unfold O4;refine Hw (U1:=[some bed,some (.ref d),some pl,some (.int k),some KK,some (.ref l),some (.int J),some .non,a8]) (s1:=s1) (by rw[N8,c];rfl) ?_;refine Hw (U1:=[some bed,some (.ref d),some pl,some (.int k),some KK,some (.ref l),some (.int J),some .non,some (.str mine)]) (s1:=s1) (by simp[hk,hm]) ?_;simp[N4,MQ]
def rO{o:Int}{e:D}{os:Str}(m:Nd (mV 1) (Ho Nz<|Hc (mV 2)<|Hc (mV 6)<|mZ) [some bed,some (.ref d),some pl,some (.int k),some KK,some (.ref l),some (.int J),a7,a8] s=some (.int o,s1))(hk:Hg KK (.int k) s1=some (kd,s1)) (hm:Hg kd (.int<|J+1) s1=some (.str mine,s1)) (f:Bg mine=true) (p:Bg os=true) (g:Im (.int<|J+2) (.int 4) s1=some (.int I,s1)) (h:Hg KK (.int o) s1=some (e,s1)) (c:Hg e (.int<|I+1) s1=some (.str os,s1)) (i:s1[l]?=some (.lst L)) (q:L.length<=10):
  O4 [some bed,some (.ref d),some pl,some (.int k),some KK,some (.ref l),some (.int J),a7,a8] s=some (.nx [some bed,some (.ref d),some pl,some (.int k),some KK,some (.ref l),some (.int J),some (.int o),some (.str mine)],if(mine != ""&&os==mine)=true then s1.set l (.lst<|L++[.int J])else s1):=by
 have a:=ne_str (st:=s1) f TK;have j:=eq_str (st:=s1) p f;have v:=append_at (x:=.int J) i (by omega);unfold O4;refine Hw (U1:=[some bed,some (.ref d),some pl,some (.int k),some KK,some (.ref l),some (.int J),some (.int o),a8]) (s1:=s1) (by rw[N8,m];rfl) ?_;refine Hw (U1:=[some bed,some (.ref d),some pl,some (.int k),some KK,some (.ref l),some (.int J),some (.int o),some (.str mine)]) (s1:=s1) (by simp[hk,hm]) ?_
 cases b:mine != "" with
 |false=>simp[N4,MQ,a,b]
 |true=>
  cases n:os==mine with
  |false=>simp[N4,MQ,a,b,g,h,c,j,n]
  |true=>simp[N4,MQ,a,b,g,h,c,j,n,HZ,i,v]
end
def TC{P:List Tl}{a b:Int}{i:Nat}(h:KP ss ks)(hP:∀t∈P,0<=t.2.2/\t.2.2<(ks.length:Int))(M:0<=k)(k1:k<(ks.length:Int))(hd:s[d]?=some (.dt<|P.map Hj))(Q:s[l]?=some (.lst L))(hL:L.length<=10)(hJ:J=(i:Int)) (hi:i<4) (hI:(J+2) % 4=I) (hj:I=(j:Int)) (p:j<4) (hp:[D.tup [.int x,.int (y+1)],.tup [.int (x+1),.int y],.tup [.int x,.int (y-1)],.tup [.int (x-1),.int y]][J.toNat]?=some (.tup [.int a,.int b])):
  ∃(b7 b8:Option D) (s':Hf),Y3 (O4 [some bed,some (.ref d),some (.tup [.int x,.int y]),some (.int k),some (.tup<|ks.map IH),some (.ref l),some (.int J),a7,a8] s=some (.nx [some bed,some (.ref d),some (.tup [.int x,.int y]),some (.int k),some (.tup<|ks.map IH),some (.ref l),some (.int J),b7,b8],s')) (s'[l]?=some (.lst<|if((IE ks k).getD i "" != ""&&(IE ks k).getD i ""==JZ ks P (a,b) j)=true then L++[.int J]else L)) (Fr l s s'):=by
 obtain⟨s1,e1,g1⟩:=ZV (x:=x) (y:=y) (s:=s) (by omega) hp;have q:=(g1.old _<|qax hd).trans hd;have n:=(g1.old _<|qax Q).trans Q;have v:=Zu (a:=a) (b:=b) (s1:=s1) (md:=mV 1) (mk:=Ho Nz (Hc (mV 2)<|Hc (mV 6)<|mZ)) (U:=[some bed,some (.ref d),some (.tup [.int x,.int y]),some (.int k),some (.tup<|ks.map IH),some (.ref l),some (.int J),a7,a8]) rfl hd (by simp[e1]) q;have m:=Lz a b P;obtain⟨f,x0,r,w,A,e,T,B⟩:=Mp h M k1;have W:Hg (.tup<|ks.map IH) (.int k) s1=some (IH [f,x0,r,w,A],s1):=Io M (by rw[Ay,e];rfl);have em:Hg (IH [f,x0,r,w,A]) (.int<|J+1) s1=some (.str ((IE ks k).getD i ""),s1):=by
  refine Io (by omega) ?_;rw[T];have:(J+1).toNat=i+1:=by omega
  rw[this]
  match i,hi with
  |0,_=>rfl
  |1,_=>rfl
  |2,_=>rfl
  |3,_=>rfl
 have X:Iy ((IE ks k).getD i ""):=by
  rw[T,Aw];cases C:[x0,r,w,A][i]? with
  |none=>exact P1
  |some u=>exact(B u<|AF C).1
 generalize (IE ks k).getD i ""=mine at em X ⊢;cases hf:HS P a b with
 |none=>
  have E:JZ ks P (a,b) j="":=by unfold JZ;rw[hf]
  rw[hf]at m;rw[m]at v;refine⟨_,_,s1,pY v W em,?_,g1.fr l⟩;rw[E];have:(mine != ""&&mine=="")=false:=by cases h:mine=="" <;> simp[bne,h]
  rw[this];exact n
 |some o=>
  have E:JZ ks P (a,b) j=(IE ks o).getD j "":=by unfold JZ;rw[hf]
  rw[hf]at m;rw[m]at v;obtain⟨t,ht,rfl⟩:=M3 hf;obtain⟨o0,o1⟩:=hP t ht;obtain⟨Y,F,G,H,K,e',N,S⟩:=Mp h o0 o1;have eo:Hg (.tup<|ks.map IH) (.int t.2.2) s1=some (IH [Y,F,G,H,K],s1):=Io o0 (by rw[Ay,e'];rfl);have c:Hg (IH [Y,F,G,H,K]) (.int<|I+1) s1=some (.str ((IE ks t.2.2).getD j ""),s1):=by
   refine Io (by omega) ?_;rw[N];have:(I+1).toNat=j+1:=by omega
   rw[this]
   match j,p with
   |0,_=>rfl
   |1,_=>rfl
   |2,_=>rfl
   |3,_=>rfl
  have Z:Iy ((IE ks t.2.2).getD j ""):=by
   rw[N,Aw];cases C:[F,G,H,K][j]? with
   |none=>exact P1
   |some u=>exact(S u<|AF C).1
  rw[E];generalize (IE ks t.2.2).getD j ""=os at c Z ⊢;have v:Nd (mV 1) (Ho Nz<|Hc (mV 2)<|Hc (mV 6)<|mZ) [some bed,some (.ref d),some (.tup [.int x,.int y]),some (.int k),some (.tup<|ks.map IH),some (.ref l),some (.int J),a7,a8] s=some (.int t.2.2,s1):=v;have rd:=rO v W em (QI X.ab) (QI Z.ab) (by rw[L9 (by decide),hI]) eo c n hL;have g:(mine != ""&&os==mine)=(mine != ""&&mine==os):=by
   have:(os==mine)=(mine==os):=by
    by_cases hq:os=mine
    ·subst hq;rfl
    rw[beq_false_of_ne hq,beq_false_of_ne λz=>hq z.symm]
   rw[this]
  rw[g]at rd;refine⟨_,_,_,rd,?_,?_⟩
  ·by_cases hc:(mine != ""&&mine==os)=true
   ·rw[if_pos hc,if_pos hc,Aq (qax n)]
   rw[if_neg hc,if_neg hc];exact n
  ·by_cases hc:(mine != ""&&mine==os)=true
   ·rw[if_pos hc];exact(g1.fr l).trans<|Gy _ _ _
   rw[if_neg hc];exact g1.fr l
def fl(p:Nat->Bool)(k:Nat):List D:=((AB k).filter p).map λ(i:Nat)=>D.int (i:Int)
def PX(p:Nat->Bool)(k:Nat):fl p (k+1)=if p k=true then fl p k++[.int (k:Int)]else fl p k:=by
 unfold fl;rw[Co,DM,AU];by_cases h:p k=true
 ·rw[if_pos h];simp[h]
 rw[if_neg h];simp[h]
def zh3{P:List Tl}(H:Ky bed stk ks)(h:KP ss ks)(p:∀t∈P,0<=t.2.2/\t.2.2<(ks.length:Int))(q:0<=k)(r:k<(ks.length:Int))(hd:st[d]?=some (.dt<|P.map Hj)):
  ∃o,Y3 (Xh [bed,.ref d,.tup [.int x,.int y],.int k] st=some (.ref st.length,o)) (o[st.length]?=some (.lst<|(alike (IE ks k)<|names4 ks P x y).map λ(i:Nat)=>D.int (i:Int))) (Gr st o):=by
 obtain⟨hs,K,_,M⟩:=H.h;have A:=qax hd;have key:=Ku (W:=⟨run 0 4,[]⟩) (g:=Hl 6) (m:=O4) (ds:=[D.int 0,.int 1,.int 2,.int 3]) (U:=[some bed,some (.ref d),some (.tup [.int x,.int y]),some (.int k),some (.tup<|ks.map IH),some (.ref st.length),none,none,none]) (st:=st++[.lst []])
  (Inv:=λi U s=>Y3 ((∃a b c,U=[some bed,some (.ref d),some (.tup [.int x,.int y]),some (.int k),some (.tup<|ks.map IH),some (.ref st.length),a,b,c])) (s[st.length]?=some (.lst<|fl (LG (IE ks k)<|names4 ks P x y) i)) (Gr st s))
  ⟨⟨_,_,_,rfl⟩,Iq _ _,Gr.app _ _⟩ (λ_ _ _ _ _=>rfl) (λi X U s l Q=>by
   obtain⟨⟨u,v,w,rfl⟩,L,S⟩:=Q;have N:=(S.old _ A).trans hd;have z:(fl (LG (IE ks k)<|names4 ks P x y) i).length<=10:=by
    have Y:(fl (LG (IE ks k)<|names4 ks P x y) i).length<=i:=by unfold fl;rw[Af];exact AA (AN _ _)<|by simp
    have:=qax l;simp at this;omega
   have fin:∀J:Hf,Fr st.length s J->Gr st J:=λJ f=>⟨AA S.len f.len,λj G=>(f.old j (AC G S.len)<|by omega).trans (S.old j G)⟩
   match i,l with
   |0,l=>
    cases l;obtain⟨B,C,J,e,n,f⟩:=TC (bed:=bed) (I:=2) (i:=0) (j:=2) (a:=x) (b:=y+1) (x:=x) (y:=y) (a7:=v) (a8:=w) h p q r N L z rfl (by decide) (by decide) rfl (by decide) rfl;exact⟨_,s,_,J,rfl,e,⟨_,_,_,rfl⟩,by rw[PX];exact n,fin J f⟩
   |1,l=>
    cases l;obtain⟨B,C,J,e,n,f⟩:=TC (bed:=bed) (I:=3) (i:=1) (j:=3) (a:=x+1) (b:=y) (x:=x) (y:=y) (a7:=v) (a8:=w) h p q r N L z rfl (by decide) (by decide) rfl (by decide) rfl;exact⟨_,s,_,J,rfl,e,⟨_,_,_,rfl⟩,by rw[PX];exact n,fin J f⟩
   |2,l=>
    cases l;obtain⟨B,C,J,e,n,f⟩:=TC (bed:=bed) (I:=0) (i:=2) (j:=0) (a:=x) (b:=y-1) (x:=x) (y:=y) (a7:=v) (a8:=w) h p q r N L z rfl (by decide) (by decide) rfl (by decide) rfl;exact⟨_,s,_,J,rfl,e,⟨_,_,_,rfl⟩,by rw[PX];exact n,fin J f⟩
   |3,l=>
    cases l;obtain⟨B,C,J,e,n,f⟩:=TC (bed:=bed) (I:=1) (i:=3) (j:=1) (a:=x-1) (b:=y) (x:=x) (y:=y) (a7:=v) (a8:=w) h p q r N L z rfl (by decide) (by decide) rfl (by decide) rfl;exact⟨_,s,_,J,rfl,e,⟨_,_,_,rfl⟩,by rw[PX];exact n,fin J f⟩
   |i+4,l=>exact absurd l (by simp))
 obtain⟨Z,J,T,⟨u,v,w,rfl⟩,L,S⟩:=key;refine⟨J,IJ ?_,L,S⟩;have E:=K st;have F:=M st;generalize ks.map IH=KK at *;unfold fF;refine Hw (U1:=[some bed,some (.ref d),some (.tup [.int x,.int y]),some (.int k),some (.tup KK),some (.ref st.length),none,none,none]) (s1:=st++[.lst []]) (by simp[E,F]) ?_;refine Hw (U1:=[some bed,some (.ref d),some (.tup [.int x,.int y]),some (.int k),some (.tup KK),some (.ref st.length),u,v,w]) (s1:=J) (by
  rw[Ki,QM (k:=4) rfl (by decide)];exact T) ?_
 simp
def jV{e:Nat}(c:Hg bed (.int 0) s=some (hs,s))(f:Hg hs (.int 2) s=some (KK,s))(g:Hg KK (.int k) s=some (kd,s))(h:Hg kd (.int<|J+1) s=some (.str mine,s))(i:Hg (.ref e) (.str mine) s=some (v,s)):Rh [some (.int J),some (.ref e),some bed,some (.int k)] s=some (v,s):=by unfold Rh;simp[c,f,g,h,i]
def eq_nil{m:Nat}{js:List Nat}(c:st[l]?=some (.lst<|js.map λ(i:Nat)=>D.int (i:Int)))(hm:st[m]?=some (.lst [])):Kv (.ref l) (.ref m) st=some (.bl js.isEmpty,st):=by
 have e:(js.map λ(i:Nat)=>D.int (i:Int))=(js.map λ(i:Nat)=>(i:Int)).map D.int:=by rw[AI];rfl
 rw[e]at c;unfold Kv;rw[P4 (n:=98) c,P4 (n:=98) (as:=[]) hm];cases js<;>rfl
def cY{stk:List (Str×Int)}{P:List Tl}(E:Ky bed stk ks)(h:KP (stk.map (·.1)) ks)(c:∀p∈stk,1<=p.2/\p.2<=4)(m:stk.length<=1000)(X:∀t∈P,0<=t.2.2/\t.2.2<(ks.length:Int))(o:0<=k)(F:k<(ks.length:Int))(hd:st[d]?=some (.dt<|P.map Hj)):
  ∃g,Nx [bed,.ref d,.tup [.int x,.int y],.int k] st=some (.int ((alike (IE ks k)<|names4 ks P x y).map λi=>sv stk ((IE ks k).getD i "")).sum,g)/\Gr st g:=by
 obtain⟨s1,G,a1,g1⟩:=zh3 (x:=x) (y:=y) E h X o F hd;obtain⟨hs,H,Y,Z⟩:=id E.h;have j:∀i∈alike (IE ks k) (names4 ks P x y),i<4/\(IE ks k).getD i ""≠"":=λi l=>by obtain⟨K,s⟩:=List.mem_filter.mp l;unfold LG at s;rw[An]at s;exact⟨List.mem_range.mp K,by simpa using s.1⟩
 have hle:(alike (IE ks k)<|names4 ks P x y).length<=4:=by have:=AN (LG (IE ks k)<|names4 ks P x y)<|AB 4;rw[Cv]at this;exact this
 obtain⟨f,x0,v,I,J,e,M,q⟩:=Mp h o F;generalize alike (IE ks k) (names4 ks P x y)=js at *;have a2:(s1++[O.lst []])[st.length]?=some (.lst<|js.map λ(i:Nat)=>D.int (i:Int)):=by rw[Aj (qax a1)];exact a1
 have r:=eq_nil a2<|Iq s1<|.lst [];have g2:=Gr.app s1 [.lst []];generalize L:s1++[O.lst []]=s2 at *
 by_cases hj:js=[]
 ·subst hj;refine⟨s2,IJ ?_,g1.trans g2⟩;unfold WL;refine Hw (U1:=[some bed,some (.ref d),some (.tup [.int x,.int y]),some (.int k),some (.ref st.length),none]) (s1:=s1) (by simp[G])<|OQ ?_;simp[L,r]
 ·have w:js.isEmpty=false:=by cases js with
   |nil=>exact absurd rfl hj
   |cons a b=>rfl
  rw[w]at r;have ed:=VC (stk:=stk) (st:=s2) m;have a3:=Iq s2<|.dk<|JF stk;have N:(s2++[O.dk (JF stk)])[st.length]?=some (.lst<|js.map λ(i:Nat)=>D.int (i:Int)):=by rw[Aj (qax a2)];exact a2
  have g3:=Gr.app s2 [.dk (JF stk)];generalize hs3:s2++[O.dk (JF stk)]=s3 at *;have side:∀i∈js,(IE ks k).getD i ""∈stk.map (·.1):=λi l=>by
   obtain⟨K,s⟩:=j i l;rw[M]at s ⊢;have hx:[x0,v,I,J].getD i ""∈[x0,v,I,J]:=by
    rw[Aw];cases Q:[x0,v,I,J][i]? with
    |none=>
     rw[Aw,Q]at s;exact absurd rfl s
    |some u=>exact AF Q
   rcases(q _ hx).2 with h3|h3
   ·exact absurd h3 s
   exact h3
  have T:Jt ⟨js.map λ(i:Nat)=>D.int (i:Int),[(st.length,js.map λ(i:Nat)=>D.int (i:Int))]⟩ (Hl 0) Je Rh (js.map λ(i:Nat)=>D.int (i:Int)) [none,some (.ref s2.length),some bed,some (.int k)] s3=some (js.map λi=>D.int (sv stk<|(IE ks k).getD i ""),s3):=by
   refine PF (R:=λU=>∃x,U=[x,some (.ref s2.length),some bed,some (.int k)]) ⟨none,rfl⟩ (Oq N) λi l U hU=>?_;obtain⟨u,rfl⟩:=hU;have ek:Hg (.tup<|ks.map IH) (.int k) s3=some (IH [f,x0,v,I,J],s3):=Io o (by rw[Ay,e];rfl);have ij:Hg (IH [f,x0,v,I,J]) (.int<|(i:Int)+1) s3=some (.str ((IE ks k).getD i ""),s3):=by
    refine Io (by omega) ?_;rw[M];have:((i:Int)+1).toNat=i+1:=by omega
    rw[this]
    match i,(j i l).1 with
    |0,_=>rfl
    |1,_=>rfl
    |2,_=>rfl
    |3,_=>rfl
   exact⟨[some (.int (i:Int)),some (.ref s2.length),some bed,some (.int k)],rfl,rfl,jV (H s3) (Z s3) ek ij<|YI a3 (QE c<|side i l).1,_,rfl⟩
  have hm:(js.map λi=>D.int (sv stk<|(IE ks k).getD i ""))=(js.map λi=>sv stk ((IE ks k).getD i "")).map D.int:=by rw[AI];rfl
  rw[hm]at T;have S:∀n∈js.map (λi=>sv stk ((IE ks k).getD i "")),0<=n/\n<=100:=λn hn=>by obtain⟨i,l,rfl⟩:=SL.mp hn;have:=QE c<|side i l;omega
  have z:=Zw (Iq s3<|.lst<|(js.map λi=>sv stk ((IE ks k).getD i "")).map D.int) S (by rw[Af];omega);have B:fits ((js.map λi=>sv stk ((IE ks k).getD i "")).map D.int).length=true:=JP (by rw[Af,Af];omega);generalize (js.map λi=>sv stk ((IE ks k).getD i "")).sum=R at *;generalize (js.map λi=>sv stk ((IE ks k).getD i "")).map D.int=A at *;refine⟨s3++[.lst A],IJ ?_,((g1.trans g2).trans g3).trans<|Gr.app _ _⟩;generalize (js.map λ(i:Nat)=>D.int (i:Int))=W at *;unfold WL;refine Hw (U1:=[some bed,some (.ref d),some (.tup [.int x,.int y]),some (.int k),some (.ref st.length),none]) (s1:=s1) (by simp[G]) ?_;refine Hw (U1:=[some bed,some (.ref d),some (.tup [.int x,.int y]),some (.int k),some (.ref st.length),none]) (s1:=s2) (by simp[L,r]) ?_;refine Hw (U1:=[some bed,some (.ref d),some (.tup [.int x,.int y]),some (.int k),some (.ref st.length),some (.ref s2.length)]) (s1:=s3) (by simp[H,Y,ed]) ?_;have C:Jm (Js<|mV 4) 1 [5,0,3] (Hl 0) Je Rh [some bed,some (.ref d),some (.tup [.int x,.int y]),some (.int k),some (.ref st.length),some (.ref s2.length)] s3=some (.ref s3.length,s3++[.lst A]):=by
   have:Js (mV 4) [some bed,some (.ref d),some (.tup [.int x,.int y]),some (.int k),some (.ref st.length),some (.ref s2.length)] s3=some (⟨W,[(st.length,W)]⟩,s3):=by simp[Lv,HZ,N]
   rw[JN,this];simp only[Ae];rw[show IU [some bed,some (.ref d),some (.tup [.int x,.int y]),some (.int k),some (.ref st.length),some (.ref s2.length)] 1 [5,0,3]=[none,some (.ref s2.length),some bed,some (.int k)] from rfl,T];simp only[Ae,B,if_true]
  simp[C,z]
def zlP(f:S.length=4)(g:N.length=4):((Jq S N).map λp=>sv stk p.1)=(alike S N).map λi=>sv stk (S.getD i ""):=by
 match S,N,f,g with
 |[a,b,c,d],[j,l,n,s],_,_=>
  have e:AB 4=[0,1,2,3]:=rfl;have f0:LG [a,b,c,d] [j,l,n,s] 0=(a==j&&a != ""):=DU _ _;have f1:LG [a,b,c,d] [j,l,n,s] 1=(b==l&&b != ""):=DU _ _;have f2:LG [a,b,c,d] [j,l,n,s] 2=(c==n&&c != ""):=DU _ _;have v:LG [a,b,c,d] [j,l,n,s] 3=(d==s&&d != ""):=DU _ _;unfold Jq alike;rw[e];simp only[DL,FN,Cg,Gz,f0,f1,f2,v];cases (a==j&&a != "")<;>cases (b==l&&b != "")<;>cases (c==n&&c != "")<;>cases (d==s&&d != "")<;>rfl
structure R6(w:Nat)(p:PyData):Prop where
 lay:p.canLay0=true
 int:p.intsShort 13=true
 shw:p.showable=true
 wt:p.weight<=w
def Tame(w k:Nat)(d:D):Prop:=∃p,(∀(m:Nat) (st:Hf),ID (m+k) st d=some p)/\R6 w p
def V8{i:Int}(h0:0<=i)(c:i<=100):Tame 8 1 (.int i):=by
 refine⟨.int i,λm st=>by rw[ID],by simp only[BG],?_,?_,?_⟩
 ·simp only[Gf];exact decide_eq_true<|PyData.shown_int_le<|by omega
 ·simp only[Dv];refine decide_eq_true ?_
  by_cases a:i.natAbs=0
  ·rw[a];decide
  exact AC ((F5 a).mpr (show i.natAbs<2^7 by omega))<|by decide
 ·simp only[GR]
  split
  ·exact A0 _
  ·rename_i a;have a:i.natAbs≠0:=by simp at a;omega
   have:=(F5 a).mpr (show i.natAbs<2^7 by omega);omega
variable {w:Nat}
theorem bN{w k:Nat}:∀{ds:List D},(∀d∈ds,Tame w k d)->∃ps:List PyData,(∀(m:Nat) (st:Hf),Jr (ID (m+k) st) ds=some ps)/\BH ps=true/\DB 13 ps=true/\DN ps=true/\Ec ps<=(w+1)*ds.length
 |[],_=>⟨[],λ_ _=>rfl,by simp only[BH],by simp only[DB],by simp only[DN],by simp only[Ec];omega⟩
 |d::ds,h=>by
  obtain⟨p,e,t⟩:=h d Ar;obtain⟨ps,a,b,j,l,s⟩:=bN (ds:=ds) λx n=>h x<|Al _ n;refine⟨p::ps,λm st=>?_,?_,?_,?_,?_⟩
  ·rw[Jr,e,Ae,a];rfl
  ·simp only[BH,t.lay,b];rfl
  ·simp only[DB,t.int,j];rfl
  ·simp only[DN,t.shw,l];rfl
  simp only[Ec,Au];have:=t.wt;rw[Nat.mul_add];omega
def V9{k L:Nat}{ds:List D}(h:∀d∈ds,Tame w k d)(c:ds.length<=L):Tame ((w+1)*L) (k+1) (.tup ds):=by
 obtain⟨a,b,j,l,n,s⟩:=bN h;refine⟨.tuple a,λm st=>?_,by simp only[BG];exact j,by simp only[Gf];exact l,by simp only[Dv];exact n,?_⟩
 ·rw[show m+(k+1)=(m+k)+1 by omega,ID,b];rfl
 simp only[GR];exact AA s<|Nat.mul_le_mul_left _ c
def sO{k:Nat}{d:D}(h:Tame w k d)(hw:w<=1000000)(hk:k<=100):∃z:Str,∀st:Hf,Nh [d] st=some (.str z,st):=by
 obtain⟨p,e,t⟩:=h;refine⟨p.shown,λst=>?_⟩;have a:=e (100-k) st;rw[show 100-k+k=100 by omega]at a;have hd:p.hasDict=false:=PyData.hasDict_of_canLay p t.lay;have hf:fits p.shown.length=true:=by unfold fits;refine decide_eq_true<|PyData.shown_fits (B:=13) (by decide) (by decide) (PyData.leavesShort_of_canLay0 13 p t.lay t.int)<|AA t.wt<|AA hw<|by decide
 unfold Nh;simp only[a,Ae,t.shw,hd,hf];rfl
def eA{w h c:Int}{ts:List Tl}(e:∀t∈ts,IA w h c t)(f:ts.length<=60)(hw:w<=100)(g:h<=100)(hk:c<=100):Tame 1680 3 (HL ts):=by
 refine V9 (w:=27) (k:=2) (L:=60) (λd hd=>?_) (by rw[Af];exact f);obtain⟨t,a,rfl⟩:=SL.mp hd;obtain⟨a1,a2,b,l,j,n⟩:=e t a;refine V9 (w:=8) (k:=1) (L:=3) (λd hd=>?_) (by simp[HV]);simp[HV]at hd
 rcases hd with rfl|rfl|rfl
 ·exact V8 a1<|by omega
 ·exact V8 b<|by omega
 exact V8 j<|by omega
def pT{z:Str}:Pf (.str z) (.str z) st=some (.bl false,st):=by unfold Pf;simp
def HG(p:Int×Int):D:=.tup [.int p.1,.int p.2]
end L2.MP.Hd
namespace L2.MP
open PySem
end L2.MP
namespace L2.MP.Ce
open PySem L2.MP
end L2.MP.Ce
namespace L2.MP.Hx
open PySem L2 L2.MP PySem.W PyProof.Rows
def MC(h:P3):Frag:=(AB h.objs.size).filterMap λa=>(h.get? a).map λo=>(a,o)
theorem VN{g:Addr->Option Obj}(a:Addr):∀l:List Addr,(l.filterMap λb=>(g b).map λo=>(b,o)).lookup a=if a∈l then g a else none
 |[]=>rfl
 |b::l=>by
  rw[BX];by_cases h:a=b
  ·subst h;rw[if_pos Ar]
   cases c:g a with
   |none=>
    simp only[GC];rw[VN a l,c];split<;>rfl
   |some o=>simp only[AZ,A2,beq_self_eq_true]
  ·have e:(a==b)=false:=beq_false_of_ne h;have d:(if a∈b::l then g a else none)=if a∈l then g a else none:=by simp only[A3,h,false_or]
   rw[d,<-VN a l];cases c:g b with
   |none=>simp only[GC]
   |some o=>simp only[AZ,A2,e]
def cT(h:P3)(a:Addr):(MC h).lookup a=h.get? a:=by
 unfold MC;rw[VN];split
 ·rfl
 ·rename_i b
  cases c:h.get? a with
  |none=>rfl
  |some o=>exact absurd (List.mem_range.mpr<|Ak c) b
def rA(h:P3):(MC h).In h:=λa o e=>(cT h a).symm.trans e
def Qm(g:Addr->Option Obj)(ns:Addr)(x:Str):Option (Option IR):=match g ns with
 |some ⟨_,_,.dict a _,_⟩=>(match a.toList.find? (·.key.isStr x) with
   |some e=>some<|some e.val
   |none=>if a.toList.any (·.refKey)then none else some none)
 |_=>none
def jZ(g:Addr->Option Obj)(cd:IR)(q:Str):Bool:=match cd with
 |.ref c=>(match g c with
   |some ⟨_,_,.fields a,_⟩=>(match a.toList with|_::.str n _::_=>n==q|_=>false)
   |_=>false)
 |_=>false
def Yn(g:Addr->Option Obj)(x:Str):Option (FuncData×Bool):=match Qm g UV x with
 |some (some<|.ref f)=>(match g f with
   |some ⟨_,_,.func fd,_⟩=>some ({fd with kwdefaults:=.none,doc:=.none,pyModule:=.none,annotations:=none,code:=.none,closureTuple:=.none},jZ g fd.code x)
   |_=>none)
 |_=>none
def Yo(x:Str)(st:W1):Option (FuncData×Bool):=some (fnOf x x (LN st) (Kf st) (IW st) .none .none .none .none none .none .none,true)
def Yr(v:Option (Option IR)):Option (Str⊕Int):=match v with
 |some (some<|.str s _)=>some<|.inl s
 |some (some<|.int i _)=>some<|.inr i
 |_=>none
def Sh(K:Frag)(x:Str):Str⊕Int->Prop
 |.inl s=>∃t,nsIn K UV x=some (some<|.str s t)
 |.inr i=>∃t,nsIn K UV x=some (some<|.int i t)
variable {K:Frag}
def aB{f:Addr}{a:IR}{b:Option Addr}{fd:FuncData}{c:Array (Option IR)}(h:K.lookup f=some ⟨a,b,.func fd,c⟩):keepIn K (.ref f)=true:=by unfold keepIn;dsimp only;rw[h]
variable {x:Str}{st:W1}
def iV(e:Yn (K.lookup ·) x=Yo x st):∃f,NY K x st f:=by
 unfold Yn Yo at e;cases a:Qm (K.lookup ·) UV x with
 |none=>rw[a]at e;cases e
 |some v=>
  cases v with
  |none=>rw[a]at e;cases e
  |some v=>
   cases v with
   |ref f=>
    rw[a]at e;dsimp only at e;cases c:K.lookup f with
    |none=>rw[c]at e;cases e
    |some o=>
     rw[c]at e;obtain⟨g,h,d,i⟩:=o;cases d with
     |func fd=>
      dsimp only at e;obtain⟨a1,a2⟩:=Bn<|Az e;obtain⟨n,q,p,b,sc,gl,cl,j,l,m,pm,an,cd,r,s⟩:=fd;cases a1;exact⟨f,iU a c a2<|aB c⟩
     |_=>cases e
   |_=>rw[a]at e;cases e
def jY{c:Str⊕Int}(e:Yr (Qm (K.lookup ·) UV x)=some c):Sh K x c:=by
 unfold Yr at e;cases a:Qm (K.lookup ·) UV x with
 |none=>rw[a]at e;cases e
 |some v=>
  cases v with
  |none=>rw[a]at e;cases e
  |some v=>
   rw[a]at e;cases v with
   |str s t=>cases e;exact⟨t,a⟩
   |int i t=>cases e;exact⟨t,a⟩
   |_=>cases e
structure UK(K:Frag)(fns:List (Str×W1))(bl:List Str)(co:List (Str×(Str⊕Int))):Prop where
 fn:∀p∈fns,∃f,NY K p.1 p.2 f
 bl:∀x∈bl,nsIn K UV x=some none
 co:∀c∈co,Sh K c.1 c.2
theorem PM{α β:Type}{f g:α->β}:∀{l:List α},l.map f=l.map g->∀a∈l,f a=g a
 |[],_,a,h=>by cases h
 |b::l,e,a,h=>by
  obtain⟨c,d⟩:=List.cons.inj e;rcases On.mp h with rfl|h
  ·exact c
  exact PM d a h
def YQ(g:Addr->Option Obj)(fns:List (Str×W1))(a:List Str)(co:List (Str×(Str⊕Int))):List (Option<|FuncData×Bool)×List (Option<|Option IR)×List (Option<|Str⊕Int):=(fns.map λp=>Yn g p.1,a.map λx=>Qm g UV x,co.map λc=>Yr (Qm g UV c.1))
def RZ(fns:List (Str×W1))(a:List Str)(co:List (Str×(Str⊕Int))):List (Option<|FuncData×Bool)×List (Option<|Option IR)×List (Option<|Str⊕Int):=(fns.map λp=>Yo p.1 p.2,a.map λ_=>some none,co.map λc=>some c.2)
variable {bl:List Str}{co:List (Str×(Str⊕Int))}
def kM{fns:List (Str×W1)}(e:YQ (K.lookup ·) fns bl co=RZ fns bl co):UK K fns bl co:=by obtain⟨b,a⟩:=Bn e;obtain⟨a,d⟩:=Bn a;exact⟨λp f=>iV (PM b p f),λx g=>PM a x g,λc h=>jY (PM d c h)⟩
def Yd(K:Frag)(C:Addr)(x qual:Str):Option (FuncData×Bool×Bool):=match findIn K (.ref C) x with
 |some (some<|.ref f)=>(match K.lookup f with
   |some ⟨_,_,.func fd,_⟩=>some ({fd with kwdefaults:=.none,doc:=.none,pyModule:=.none,annotations:=none,code:=.none,closureTuple:=.none},codeIn K fd.code qual,isFn K (.ref f))
   |_=>none)
 |_=>none
def Ye(x qual:Str)(st:W1):Option (FuncData×Bool×Bool):=some (fnOf x qual (LN st) (Kf st) (IW st) .none .none .none .none none .none .none,true,true)
def jH{C:Addr}{qual:Str}(e:Yd K C x qual=Ye x qual st):∃f,MJ K C x qual st f:=by
 unfold Yd Ye at e;cases a:findIn K (.ref C) x with
 |none=>rw[a]at e;cases e
 |some v=>
  cases v with
  |none=>rw[a]at e;cases e
  |some v=>
   cases v with
   |ref f=>
    rw[a]at e;dsimp only at e;cases c:K.lookup f with
    |none=>rw[c]at e;cases e
    |some o=>
     rw[c]at e;obtain⟨h,i,d,j⟩:=o;cases d with
     |func fd=>
      dsimp only at e;obtain⟨a1,a2⟩:=Bn<|Az e;obtain⟨a2,g⟩:=Bn a2;obtain⟨n,q,p,b,sc,gl,cl,l,m,r,pm,an,cd,s,u⟩:=fd;cases a1;exact⟨f,jG a g c a2<|aB c⟩
     |_=>cases e
   |_=>rw[a]at e;cases e
structure NW(K:Frag)(C:Addr)(c:Str)(ms:List (Str×Str×W1))(no:List Str):Prop where
 cl:Si K c C
 md:∀m∈ms,∃f,MJ K C m.1 m.2.1 m.2.2 f
 no:∀x∈no,findIn K (.ref C) x=some none
noncomputable abbrev YD:=Option ((Bool×Option (Option IR))×List (Option<|FuncData×Bool×Bool)×List (Option<|Option IR))
def Ys(K:Frag)(c:Str)(ms:List (Str×Str×W1))(no:List Str):YD:=match nsIn K UV c with
 |some (some<|.ref C)=>some ((plainGet K C Fs&&hasDictIn K C&&plainOver K C&&makesIn K C&&keepIn K (.ref C),findIn K (.ref C) "__setattr__"),ms.map λm=>Yd K C m.1 m.2.1,no.map λx=>findIn K (.ref C) x)
 |_=>none
def Yt(ms:List (Str×Str×W1))(no:List Str):YD:=some ((true,some (some<|.builtin "object.__setattr__")),ms.map λm=>Ye m.1 m.2.1 m.2.2,no.map λ_=>some none)
variable {c:Str}{ms:List (Str×Str×W1)}{no:List Str}
def jX(e:Ys K c ms no=Yt ms no):∃C,NW K C c ms no:=by
 unfold Ys Yt at e;cases a:nsIn K UV c with
 |none=>rw[a]at e;cases e
 |some v=>
  cases v with
  |none=>rw[a]at e;cases e
  |some v=>
   cases v with
   |ref C=>
    rw[a]at e;dsimp only at e;obtain⟨a1,a2⟩:=Bn<|Az e;obtain⟨a2,d⟩:=Bn a2;obtain⟨b,f⟩:=Bn a1;simp only[An]at b;obtain⟨⟨⟨⟨b1,g⟩,h⟩,i⟩,j⟩:=b;exact⟨C,jW a b1 g h f i j,λm hm=>jH (PM a2 m hm),λx l=>PM d x l⟩
   |_=>rw[a]at e;cases e
def Ow(fns:List (Str×W1))(bl:List Str)(co:List (Str×(Str⊕Int)))(c:Str)(ms:List (Str×Str×W1))(no:List Str):Hook where
 α:=(List (Option<|FuncData×Bool)×List (Option<|Option IR)×List (Option<|Str⊕Int))×YD
 obs s:=(YQ s.heap.get? fns bl co,Ys (MC s.heap) c ms no)
 val _:=(RZ fns bl co,Yt ms no)
 says _ h:=∃(K:Frag) (C:Addr),K.In h/\UK K fns bl co/\NW K C c ms no
 of w s e:=by obtain⟨x,d⟩:=Bn e;obtain⟨C,f⟩:=jX d;exact⟨MC s.heap,C,rA _,kM (by rw[funext (cT s.heap)];exact x),f⟩
 keeps w h h':=λ⟨K,C,a,b⟩ k=>⟨K,C,a.keeps k,b⟩
def LU{l:OpenLaw}{n k:Nat}{q:SZ}{loose:List Str}{XP:(Str->Option IR)->P3->Prop}{fns:List (Str×W1)}{d:DefRec}{CX:NZ}{sp:Frag->Addr->Sp}(hn:l.most=some n) (j:n<=sizeLine) (m:d.params.defaults=[]) (r:HK k callerA)(F:∀(K:Frag) (C:Addr) (w:World) (g:Str->Option IR) (i:Addr) (h:P3),UK K fns bl co->NW K C c ms no->K.In h->h.Ns UV g->g d.name=some (.ref i) ->
   ∃fd:FuncData,(∀(s:Shared) (u:IR),BindsTo s fd ⟨[u],[]⟩ [(x,u)])/\∀base:P3,K.In base->base.Ns UV g->I0 l.prog w K g base CX k i fd [x] (sp K C))
  (o:∀(K:Frag) (C:Addr) (H:Hp) (a:Addr) (ns:List Int),ns.length<=n->MF H->JL K H a (ns.map V.int)->sp K C [.ref a] H (λv _=>v=.bl true) λ_ _ _=>False)
  (p:∀(H:Hp) (s:Shared) (e:IR) (s':Shared),CX [] H s (λ_ _ _=>False) e s'->False):
  WalkO q loose XP (Ow fns bl co c ms no).says l.row.toRowW d [] (λf vs=>Gk f vs):=by
 intro w s₀ s₁ g z G Y;obtain⟨K,C,A,B,E⟩:=Y;exact L2.NA (K:=λ_=>K) (CX:=λ_=>CX) (sp:=λ_=>sp K C) (YP:=λ_ h=>K.In h) hn j m r (λ_ _ y=>y) (λw g i h a b e=>F K C w g i h B E a b e) (λ_ H a ns I J L=>o K C H a ns I J L) (λ_ H s e s'=>p H s e s') w s₀ s₁ g z G A
end L2.MP.Hx
namespace L2.MP
open PySem L2 PySem.W PyProof.Rows
variable {K:Frag}{mg:Str->Option IR}{bl ps:List Str}{co:List (Str×(Str⊕Int))}{h base:P3}{x qual:Str}{st:W1}{P:SZ}{w:World}{k:Nat}{m:MS}
section
variable {fns:List (Str×W1)}
structure En(K:Frag)(mg:Str->Option IR)(fns:List (Str×W1))(bl:List Str)(co:List (Str×(Str⊕Int))):Prop where
 b:∀x∈bl,mg x=none
 c:∀c∈co,match c.2 with
  |.inl s=>∃t,mg c.1=some (.str s t)
  |.inr i=>∃t,mg c.1=some (.int i t)
 l:∀p∈fns,∃f,NY K p.1 p.2 f/\mg p.1=some (.ref f)
def En.of(A:Hx.UK K fns bl co)(X:K.In h)(G:h.Ns UV mg):En K mg fns bl co:=by
 refine⟨λx m=>mg_none_of X G (A.bl x m),λc w=>?_,λp P=>?_⟩
 ·have q:=A.co c w;obtain⟨x,c⟩:=c
  cases c with
  |inl s=>obtain⟨t,q⟩:=q;exact⟨t,mg_of X G q⟩
  |inr i=>obtain⟨t,q⟩:=q;exact⟨t,mg_of X G q⟩
 obtain⟨f,q⟩:=A.fn p P;exact⟨f,q,mg_of X G q.ns⟩
def En.b1(Z:En K mg fns bl co)(h:x∈bl:=by decide +kernel):mg x=none:=Z.b x h
def Ql(N ps:List Str)(sc:Scope):Bool:=decide (sc.kind=.function)&&decide (sc.isCoroutine=false)&&decide (sc.isGenerator=false)&&decide N.Nodup&&decide (N.take ps.length=ps)&&ps.all (λx=>decide (sc.names.lookup x=some .local\/sc.names.lookup x=some .cell))&&sc.names.all λy=>decide (y.2≠.free)
def N6{N:List Str}{sc:Scope}(h:Ql N ps sc=true):IQ N ps sc:=by unfold Ql at h;simp only[An,decide_eq_true_eq,List.all_eq_true]at h;obtain⟨⟨⟨⟨⟨⟨a,b⟩,c⟩,d⟩,e⟩,f⟩,g⟩:=h;exact⟨a,b,c,d,e,f,g⟩
noncomputable abbrev gY (x:Str) (st:W1) (ps:List Str):Prop:=∀(kV doc pm:IR) (an:Option Addr) (h m:IR) (us:List IR),us.length=ps.length->bindArgs (Br x x (LN st) (Kf st) (IW st) .none kV doc pm an h m) ⟨us,[]⟩=pure (ps.zip us)
def En.laid{i:Nat}(Z:En K mg fns bl co)(hi:fns[i]?=some (x,st))(b:gY x st ps):Laid K mg x st ps:=by obtain⟨f,F,hm⟩:=Z.l _<|AF hi;obtain⟨⟨h,m,kV,w,pm,an,cd,P,d,l,c⟩,a,k⟩:=F;exact⟨_,_,OS l c k,hm,(OS l c k).binds b⟩
def Jo(Z:En K mg fns bl co)(st:W1)(i:Nat)(N ps:List Str)(a:N.Nodup->∀(f:Addr) (c:IR) (A:Around) (outer:List Env) (s:Shared) (H:Hp) (E:XK),HK k (A.deeper<|envOfC x (IW st) s.heap.objs.size f c) ->
   KN (JK Kx P w K mg base N x (IW st) f c A outer s H E).nox (Kf st) m) (hi:fns[i]?=some (x,st):=by rfl)
  (S:Ql N ps (IW st)=true:=by decide +kernel) (b:gY x st ps:=by intro _ _ _ _ _ _;first|exact NL λ_=>rfl|exact NK λ_ _=>rfl|exact NJ λ_ _ _=>rfl|exact NI λ_ _ _ _=>rfl|exact Yf λ_ _ _ _ _=>rfl):Jd P w K mg base (k+1) x ps.length (Iw N.length m):=
 kG (Z.laid hi b) (N6 S) (a (N6 S).nd)
def iY{f:Addr}{fd:FuncData}(F:MK K x qual st f fd)(N ps:List Str)(a:N.Nodup->∀(b:IR) (A:Around) (outer:List Env) (s:Shared) (H:Hp) (E:XK),HK k (A.deeper<|envOfC qual (IW st) s.heap.objs.size f b) ->
   KN (JK Kx P w K mg base N qual (IW st) f b A outer s H E).nox (Kf st) m) (S:Ql N ps (IW st)=true:=by decide +kernel):I0 P w K mg base Kx (k+1) f fd ps (Mv K ps.length<|Iw N.length m):=NO F (N6 S) (a (N6 S).nd)
end
variable {X:Cx}{e:Pv}{pos pos':Pos}{g:GN}{T:String}
section
variable {es:List Pv}{m:ME}{mm:MA}{p p2:Pos}{y:Str}
def sgn(i:Nat)(a:X.N.Nodup)(hi:X.N[i]?=some x:=by rfl)(b:Loc X.env.scope x:=by first|exact Bs rfl|exact Bo rfl)(hf:X.fn x=true\/X.env.scope.names.lookup x=some .local:=by first|exact .inl rfl|exact .inr rfl|assumption):SG X (.Name x pos) (Hl i):=rJ a hi b hf
def Ij(i:Nat)(a:X.N.Nodup)(he:SE X e m)(hi:X.N[i]?=some x:=by rfl)(b:Loc X.env.scope x:=by first|exact Bs rfl|exact Bo rfl)(c:swapsWith e (some<|.Name x pos') pos.line X.env=pure false:=by rfl)(hf:X.fn x=true\/X.env.scope.names.lookup x=some .local:=by first|exact .inl rfl|exact .inr rfl|assumption):SS X (.Assign [.Name x pos'] e pos) (Hq m<|Hl i):=pN a hi b he c hf
def HR{j n:Nat}(F:Jd X.prog X.w X.K X.mg X.base k x n g)(c:HK j X.A)(d:SA X (e::es) mm)(f:k<=j:=by decide)(i:Gl X x:=by rfl)(l:JV n mm:=by repeat (first|exact JV.nil|refine JV.cons ?_))(a:(x==("__debug__":Str))=false:=by decide)(he:Qqb X.env e es:=by rfl) (b:Qqc pos es X.env:=by rfl) (hn:(e::es).length=n:=by rfl):SE X (.Call (.Name x p) (e::es) [] pos) (Ho g mm):=vL F (c.mono f) i d l a he b hn
variable {fns:List (Str×W1)}
def Pk(Z:En X.K X.mg fns bl co)(l:SE X e m)(n:UF y=some (.type T))(o:T∈kinds:=by decide)(q:Gl X "isinstance":=by rfl)(hm:("isinstance":Str)∈bl:=by decide +kernel)(a:Gl X y:=by rfl)(c:y∈bl:=by decide +kernel)(d:y≠"__name__":=by decide)(f:(y==("__debug__":Str))=false:=by decide)(r:starEach [e,.Name y p2] X.env=(false,Wp e X.env)::starEach [.Name y p2] X.env:=by rfl) (i:starEach [.Name y p2] X.env=[(false,Wp (.Name y p2) X.env)]:=by rfl) (j:(backTo pos<|starEach [.Name y p2] X.env).any (·.1)=false:=by rfl):SE X (.Call (.Name "isinstance" p) [e,.Name y p2] [] pos) (LY T m):=
 mC (x:="isinstance") o q (Z.b _ hm) l a (Z.b _ c) n d f r i j
def J0{id:String}(Z:En X.K X.mg fns bl co)(d:Jw X (.builtin id) g)(f:UF x=some (.builtin id))(i:SA X (e::es) mm)(j:Gl X x:=by rfl)(hm:x∈bl:=by decide +kernel)(hn:x≠"__name__":=by decide)(a:(x==("__debug__":Str))=false:=by decide)(he:Qqb X.env e es:=by rfl) (c:Qqc pos es X.env:=by rfl):SE X (.Call (.Name x p) (e::es) [] pos) (Ho g mm):=vK d j (Z.b _ hm) f i hn a he c
def Kw(Z:En X.K X.mg fns bl co)(d:Jw X (.type T) g)(f:UF x=some (.type T))(i:SA X (e::es) mm)(j:Gl X x:=by rfl)(hm:x∈bl:=by decide +kernel)(hn:x≠"__name__":=by decide)(a:(x==("__debug__":Str))=false:=by decide)(he:Qqb X.env e es:=by rfl) (c:Qqc pos es X.env:=by rfl):SE X (.Call (.Name x p) (e::es) [] pos) (Ho g mm):=zl4 d j (Z.b _ hm) f i hn a he c
def cS{scope:Scope}(N':List Str)(nt:Nat)(fr:List Nat)(fs:List Str)(kind:scope.kind=.function:=by rfl)(b:(scope.names.map (·.1)).Nodup:=by decide +kernel)(hf:scope.names.all (λp=>!(p.2==AG) || fs.contains p.1)=true:=by decide +kernel)(c:fs.all (λx=>scope.names.contains (x,AG))=true:=by decide +kernel) (len:N'.length=nt+fr.length:=by rfl) (a:L8 X fs fr (N'.drop nt):=by trivial) (out:L4 X fs:=by trivial):JM X scope N' nt fr:=LC fs kind b hf c len a out
end
section
variable {C:Addr}{c:Str} {ms:List (Str×Str×W1)} {no:List Str}
structure EC(K:Frag)(mg:Str->Option IR)(C:Addr)(c:Str)(ms:List (Str×Str×W1))(no:List Str):Prop where
 cl:Lu K C
 mi:makesIn K C=true
 kc:keepIn K (.ref C)=true
 mc:mg c=some (.ref C)
 m:∀p∈ms,∃f,MJ K C p.1 p.2.1 p.2.2 f
 n:∀x∈no,Nk K C x
def EC.of(B:Hx.NW K C c ms no)(X:K.In h)(G:h.Ns UV mg):EC K mg C c ms no:=⟨B.cl.cl,B.cl.ms,B.cl.kc,mg_of X G B.cl.ns,B.md,B.no⟩
noncomputable abbrev Sj (x qual:Str) (st:W1) (ps:List Str):Prop:=∀(kV doc pm:IR) (an:Option Addr) (c e:IR) (us:List IR),us.length=ps.length->bindArgs (Br x qual (LN st) (Kf st) (IW st) .none kV doc pm an c e) ⟨us,[]⟩=pure (ps.zip us)
def P0(Q:EC K mg C c ms no)(st:W1)(i:Nat)(N ps:List Str)(hbody:N.Nodup->∀(f:Addr) (a:IR) (A:Around) (outer:List Env) (s:Shared) (H:Hp) (E:XK),HK k (A.deeper<|envOfC qual (IW st) s.heap.objs.size f a) ->
   KN (JK Kx P w K mg base N qual (IW st) f a A outer s H E).nox (Kf st) m) (hi:ms[i]?=some (x,qual,st):=by rfl)
  (S:Ql N ps (IW st)=true:=by decide +kernel) (b:Sj x qual st ps:=by intro _ _ _ _ _ _;first|exact NL λ_=>rfl|exact NK λ_ _=>rfl|exact NJ λ_ _ _=>rfl|exact NI λ_ _ _ _=>rfl):MU P w K mg base (k+1) C x ps.length (Iw N.length m):=by
 obtain⟨f,F⟩:=Q.m _<|AF hi;exact qZ (uF F b) (N6 S)<|hbody (N6 S).nd
def wR(Q:EC K mg C c ms no)(st:W1)(i:Nat)(N ps:List Str)(hbody:N.Nodup->∀(f:Addr) (d:IR) (A:Around) (outer:List Env) (s:Shared) (H:Hp) (E:XK),HK k (A.deeper<|envOfC qual (IW st) s.heap.objs.size f d) ->
   KN (JK Kx P w K mg base N qual (IW st) f d A outer s H E).nox (Kf st) m) (hi:ms[i]?=some (("__init__":Str),qual,st):=by rfl)
  (S:Ql N ps (IW st)=true:=by decide +kernel) (b:Sj "__init__" qual st ps:=by intro _ _ _ _ _ _;first|exact NL λ_=>rfl|exact NK λ_ _=>rfl|exact NJ λ_ _ _=>rfl|exact NI λ_ _ _ _=>rfl):SX P w K mg base (k+1) C c ps.length (Iw N.length m):=by
 obtain⟨f,⟨g,h,kV,x,pm,an,cd,T,X,l,e⟩,a,i,k⟩:=Q.m _<|AF hi;have L:YW K mg C c "__init__" qual st ps:=⟨_,_,OS l e k,⟨Q.mi,a,i,Q.kc⟩,(OS l e k).binds b,Q.mc⟩
 exact qY L (N6 S)<|hbody (N6 S).nd
variable {o value:Pv}{m mo mv:ME}{f:Str}
def Ju(Q:EC X.K X.mg C c ms no)(a:SE X e m)(hm:f∈no:=by decide +kernel)(b:attributeBase e f X.env (Wp e X.env)=Wp e X.env:=by rfl):SE X (.Attribute e f pos) (HD C f m):=lZ Q.cl (Q.n _ hm) a b
def QD(Q:EC X.K X.mg C c ms no)(a:SE X o mo)(b:SE X value mv)(hm:f∈no:=by decide +kernel)(d:swapsWith value (some<|.Attribute o f pos') pos.line X.env=pure false:=by rfl):SS X (.Assign [.Attribute o f pos'] value pos) (Lw C f mo mv):=pL Q.cl (Q.n _ hm) a b d
end
end L2.MP
namespace L2.MP.Hx
open PySem L2 L2.MP PySem.W PyProof.Rows
end L2.MP.Hx
namespace L2.MP
open PySem L2 PySem.W PyProof.Rows Hx
def Lm(c:Str):Str->Bool:=λx=>decide (x=c)
section
variable {X:Cx}{ds:List ED}{c f n1:Str}{st:W1}{m:ME}{mm:MA}{e:Pv}{es:List Pv}{p p2 pos:Pos}{d:ED}
end
end L2.MP
namespace L2.MP.Hx
open PySem L2 L2.MP PySem.W PyProof.Rows
end L2.MP.Hx
namespace L2.MP
open PySem L2 PySem.W PyProof.Rows
end L2.MP
namespace L2.MP.T0
open PySem L2.MP L2.MP.Hd
def Wu:MS:=mR (OH (LY "int"<|mV 0)<|OH (Sv<|LY "bool"<|mV 0)<|MW Qn Qn (mV 1) (mV 0)<|mV 2)
def Rj:GN:=Iw 3 Wu
def dN:MS:=mR (OH (LY "tuple"<|mV 0)<|mB Kv (Ho HP<|Hc (mV 0)<|mZ)<|mV 1)
def WN:GN:=Iw 2 dN
def Wt:MS:=mS (Hq (mB Hg (mV 0)<|mK<|.int 1)<|Hl 2)<|mR<|OH (Ho WN<|Hc (mV 1)<|Hc (mK<|.int 2)<|mZ)<|OH (Ho Rj<|Hc (mB Hg (mV 1)<|mK<|.int 0)<|Hc (mK<|.int 0)<|Hc (mB K5 (mB Hg (mV 2)<|mK<|.int 0)<|mK<|.int 1)<|mZ)<|Ho Rj<|Hc (mB Hg (mV 1)<|mK<|.int 1)<|Hc (mK<|.int 0)<|Hc (mB K5 (mB Hg (mV 2)<|mK<|.int 1)<|mK<|.int 1)<|mZ
def Nw:GN:=Iw 3 Wt
def W0:MS:=mS (Hq (IZ (mV 3) Kz<|KA<|mK<|.int 2)<|Hl 4)<|mS (Ji (NG (mT<|mB Km (mV 4)<|mV 2)<|N1<|mT<|Ho Nw<|Hc (mV 0)<|Hc (mV 4)<|mZ) (mR<|mK<|.bl false)<|Jn)<|mS (Hq (Ho Qa<|Hc (mV 0)<|Hc (mV 2)<|Hc (mV 4)<|mZ)<|Hl 5)<|mR<|mB Mh (Ho O7<|Hc (mV 1)<|Hc (Ho P8<|Hc (mV 0)<|Hc (mB Hg (mV 3)<|mK<|.int 2)<|mZ)<|Hc (mV 5)<|mZ)<|mB Hg (mB Hg (mV 0)<|mK<|.int 0)<|mK<|.int 0
def Oo:GN:=Iw 6 W0
def Qe:MS:=Ji (mT<|mB Mh (Ho O7<|Hc (mV 1)<|Hc (IZ (mV 7) (KA<|mK<|.int 1)<|Kz)<|Hc (mV 2)<|mZ)<|mB Hg (mV 4)<|mK<|.int 0) (IG<|JH (mV 5)<|Hc (mU<|Hc (mB Hg (mV 3)<|mK<|.int 0)<|Hc (mB Hg (mV 3)<|mK<|.int 1)<|Hc (mV 6)<|mZ)<|mZ)<|Jn
def Xn:MS:=mS (Hq (mB Hg (mV 0)<|mK<|.int 0)<|Hl 4)<|mS (Hq (mL<|mZ)<|Hl 5)<|mS (Ji (N1<|mT<|Ho MD<|Hc (mV 2)<|mZ) (mR<|mV 5)<|Jn)<|mS (mF (Pu<|mB Hg (mV 4)<|mK<|.int 2) (Kn 2<|gC (Hl 6)<|gC (Hl 7)<|Ko)<|Qe)<|mR<|mV 5
def Uk:GN:=Iw 8 Xn
def O8(C:Addr):MS:=mS (IG<|N3 (HD C "ready"<|mV 0) (mV 1)<|mK .non) (Ji (Kr (mT<|mB KZ (mV 1)<|HD C "kinds"<|mV 0)<|mT<|Ho Nw<|Hc (HD C "bed"<|mV 0)<|Hc (mV 1)<|mZ) (mS (Hq (Ho Qa<|Hc (HD C "bed"<|mV 0)<|Hc (HD C "kinds"<|mV 0)<|Hc (mV 1)<|mZ)<|Hl 2)<|mS (Hq (Ho Uk<|Hc (HD C "bed"<|mV 0)<|Hc (HD C "strengths"<|mV 0)<|Hc (mV 2)<|Hc (mV 1)<|mZ)<|Hl 3)<|Ji (KI<|mV 3) (Jg (HD C "ready"<|mV 0) (mV 1)<|mV 3)<|Jn)<|Jn)
def M7(C:Addr):GN:=Iw 4<|O8 C
def Ut(C:Addr):MS:=IG (Lg C "look_at" (M7 C) (mV 0)<|Hc (mU<|Hc (mV 2)<|Hc (mV 3)<|mZ)<|mZ)
def Uu(C:Addr):MS:=mF (Jc<|mB Hg (mB Hg (mV 1)<|mK<|.int 1)<|mK<|.int 1) (Hl 3)<|Ut C
def fV(C:Addr):MS:=mS (Lw C "bed" (mV 0)<|mV 1) (mS (Lw C "strengths" (mV 0)<|Ho OE<|Hc (mB Hg (mB Hg (mV 1)<|mK<|.int 0)<|mK<|.int 1)<|mZ)<|mS (Lw C "kinds" (mV 0)<|Ho Qh<|Hc (mB Hg (mV 1)<|mK<|.int 2)<|mZ)<|mS (Lw C "laid" (mV 0)<|mL<|mZ)<|mS (Lw C "ready" (mV 0)<|OI true)<|mF (Jc<|mB Hg (mB Hg (mV 1)<|mK<|.int 1)<|mK<|.int 0) (Hl 2)<|Uu C)
def Uw(C:Addr):GN:=Iw 4<|fV C
def UD(C:Addr):MS:=IG (Lg C "look_at" (M7 C) (mV 0)<|Hc (mV 2)<|mZ)
def gE(C:Addr):MS:=mS (IG<|Lg C "look_at" (M7 C) (mV 0)<|Hc (mV 1)<|mZ) (mF (Js<|Ho Me<|Hc (mV 1)<|mZ) (Hl 2)<|UD C)
def RB(C:Addr):GN:=Iw 3<|gE C
def dJ(C:Addr):MS:=mS (IG<|JH (HD C "laid"<|mV 0)<|Hc (mV 1)<|mZ) (mS (Jg (HD C "kinds"<|mV 0) (IZ (mV 1) Kz<|KA<|mK<|.int 2)<|mB Hg (mV 1)<|mK<|.int 2)<|IG<|Lg C "look_around" (RB C) (mV 0)<|Hc (IZ (mV 1) Kz<|KA<|mK<|.int 2)<|mZ)
def P7(C:Addr):GN:=Iw 2<|dJ C
def Wr(C:Addr):MS:=mS (Ji (N1<|OJ<|HD C "ready"<|mV 0) (mR<|mK .non)<|Jn) (mS (Hq (mB Hg (mB Hg (HD C "ready"<|mV 0)<|Ho OL<|Hc (HD C "ready"<|mV 0)<|mZ)<|mK<|.int 0)<|Hl 1)<|mS (IG<|Lg C "lay" (P7 C) (mV 0)<|Hc (mV 1)<|mZ)<|mR<|mV 1)
def O0(C:Addr):GN:=Iw 2<|Wr C
def fW(C:Addr):MS:=mR (Ho K3<|Hc (Ho Nq<|Hc (mB HE (Ho OC<|Hc (mB Hg (HD C "bed"<|mV 0)<|mK<|.int 2)<|mZ)<|HD C "laid"<|mV 0)<|mZ)<|mZ)
def Ux(C:Addr):GN:=Iw 1<|fW C
def dM(C:Addr):MS:=mR (Ho K3<|Hc (HD C "laid"<|mV 0)<|mZ)
def Ua(C:Addr):GN:=Iw 1<|dM C
def Uo(C:Addr):MT:=mT (mB Sx (Lg C "on" (O0 C) (mV 1) mZ)<|mK .non)
def Xj(C:Addr):MS:=Jn
def eN(C:Addr):MS:=mS (Hq (Qy C (Uw C)<|Hc (mV 0)<|mZ)<|Hl 1) (mS (IS (Uo C) (Xj C) 1000)<|mR<|mU<|Hc (Lg C "row" (Ua C) (mV 1) mZ)<|Hc (Lg C "standing" (Ux C) (mV 1) mZ)<|mZ)
def WB(C:Addr):GN:=Iw 2<|eN C
def Uj:ME:=mV 0
def Ro:MT:=mT<|mB Km (mV 0)<|mV 1
def Rp:MT:=KI<|mV 6
def Ou:MS:=mS (Hq (UW<|mV 6)<|Hl 7)<|mS (Hq (mU<|Hc (mB Hg (mV 7)<|mK<|.int 0)<|Hc (mB Hg (mV 7)<|mK<|.int 1)<|Hc (mB Hg (mV 4)<|mV 7)<|mZ)<|Hl 8)<|Ji (mT<|Ho Oo<|Hc (mV 0)<|Hc (mV 2)<|Hc (mV 3)<|Hc (mV 8)<|mZ) (mS (IG<|JH (mV 5)<|Hc (mV 8)<|mZ)<|mS (Jg (mV 3) (mV 7)<|mB Hg (mV 4)<|mV 7)<|IG<|Pg (mV 6)<|Hc (Jm (Js<|Ho Me<|Hc (mV 7)<|mZ) 1 [4] (Hl 0) Ro<|Uj)<|mZ)<|Jn
def eQ:MS:=mS (Hq (Ho OE<|Hc (mB Hg (mB Hg (mV 0)<|mK<|.int 0)<|mK<|.int 1)<|mZ)<|Hl 2)<|mS (Hq (Ho Qh<|Hc (mB Hg (mV 0)<|mK<|.int 2)<|mZ)<|Hl 3)<|mS (Hq (Ho Qh<|Hc (mV 1)<|mZ)<|Hl 4)<|mS (Hq (mL<|mZ)<|Hl 5)<|mS (Hq (Ho OC<|Hc (mV 4)<|mZ)<|Hl 6)<|mS (IS Rp Ou 1000)<|mR<|Ho K3<|Hc (mV 5)<|mZ
def WD:GN:=Iw 9 eQ
def eR:MS:=mR<|mU<|Hc (mB Hg (mV 0)<|mK<|.int 0)<|Hc (mB Hg (mV 0)<|mK<|.int 1)<|Hc (Ho K3<|Hc (Ho Nq<|Hc (mV 1)<|mZ)<|mZ)<|mZ
def W2:GN:=Iw 2 eR
def Z0:MS:=mR<|Ho K3<|Hc (Ho Nq<|Hc (mB NT (mB Hg (mV 0)<|mK<|.int 2)<|Ho WD<|Hc (mV 0)<|Hc (mV 1)<|mZ)<|mZ)<|mZ
def VE:GN:=Iw 2 Z0
def dO(C:Addr):ME:=mV 0
def WO(C:Addr):MT:=mT<|mB KZ (mV 0)<|mV 1
def aJ(C:Addr):MS:=mS (Hq (Ho VE<|Hc (mV 0)<|Hc (mV 1)<|mZ)<|Hl 2)<|mS (Hq (Ho K3<|Hc (Jm (Js<|mV 1) 1 [2] (Hl 0) (WO C)<|dO C)<|mZ)<|Hl 3)<|mR<|mU<|Hc (mV 3)<|Hc (mB Hg (Ho (WB C)<|Hc (Ho W2<|Hc (mV 0)<|Hc (mV 2)<|mZ)<|mZ)<|mK<|.int 0)<|mZ
def PZ(C:Addr):GN:=Iw 4<|aJ C
def Qj:ME:=mB HE (mV 0)<|mU<|Hc (mB Ng (mV 1)<|mV 0)<|mZ
def gF:MS:=mR<|Ho K3<|Hc (Ho Nq<|Hc (QA 0<|Jm (Ov<|mV 0) 1 [0] (Hl 0) Je<|Qj)<|mZ)<|mZ
def Xr:GN:=Iw 1 gF
def Rk:ME:=mV 0
def O5:MT:=mT<|mB Km (Ho Nz<|Hc (mU<|Hc (mV 1)<|Hc (mV 2)<|mZ)<|Hc (mV 0)<|mZ)<|mV 3
def Rn:MS:=mS (Hq (Jm (Jc<|mK<|.int 4) 1 [3,4,1] (Hl 0) O5<|Rk)<|Hl 5)<|Ji (Kr (mT<|mB KZ (mU<|Hc (mV 3)<|Hc (mV 4)<|mZ)<|mV 1)<|mT<|mB JO (mV 5)<|mL<|mZ) (IG<|JH (mV 2)<|Hc (mU<|Hc (mV 3)<|Hc (mV 4)<|mZ)<|mZ)<|Jn
def W9:MS:=mF (Jc<|mB Hg (mB Hg (mV 0)<|mK<|.int 1)<|mK<|.int 1) (Hl 4)<|Rn
def fD:MS:=mS (Hq (mL<|mZ)<|Hl 2)<|mS (mF (Jc<|mB Hg (mB Hg (mV 0)<|mK<|.int 1)<|mK<|.int 0) (Hl 3)<|W9)<|mR<|mV 2
def Ul:GN:=Iw 6 fD
def Qg:MS:=Ji (mT<|mB Mh (Ho Nx<|Hc (mV 0)<|Hc (mV 1)<|Hc (mV 3)<|Hc (mV 4)<|mZ)<|mB Hg (mB Hg (mV 0)<|mK<|.int 0)<|mK<|.int 0) (IG<|JH (mV 2)<|Hc (mB HE (mV 3)<|mU<|Hc (mV 4)<|mZ)<|mZ)<|Jn
def Um:MS:=mF (Jc<|Ho HP<|Hc (mB Hg (mB Hg (mV 0)<|mK<|.int 0)<|mK<|.int 2)<|mZ) (Hl 4)<|Qg
def eP:MS:=mS (Hq (mL<|mZ)<|Hl 2)<|mS (mF (Js<|Ho Ul<|Hc (mV 0)<|Hc (mV 1)<|mZ) (Hl 3)<|Um)<|mR<|mV 2
def O3:GN:=Iw 5 eP
def Pa:MS:=mS (Hq (Ho O3<|Hc (mV 1)<|Hc (mV 3)<|mZ)<|Hl 6)<|Ji (mT<|mB JO (mV 6)<|mL<|mZ) (mS (Hq (mB Hg (mV 6)<|Ho Ih<|Hc (mV 0)<|Hc (Ho HP<|Hc (mV 6)<|mZ)<|mZ)<|Hl 7)<|mS (Jg (mV 3) (IZ (mV 7) Kz<|KA<|mK<|.int 2)<|mB Hg (mV 7)<|mK<|.int 2)<|IG<|JH (mV 4)<|Hc (mV 7)<|mZ)<|Jn
def fU:MS:=mS (NF 3 4<|Hc (Ho Rr<|Hc (mB Hg (mV 1)<|mK<|.int 2)<|mZ)<|Hc (mL<|mZ)<|mZ)<|mS (mF (Jc<|mV 2) (Hl 5)<|Pa)<|mR<|Ho K3<|Hc (mV 4)<|mZ
def Ur:GN:=Iw 8 fU
def Ny:MS:=Ji (Kr (mT<|mB KZ (mU<|Hc (mV 4)<|Hc (mV 5)<|mZ)<|mV 2)<|mT<|mB Mh (Ho Nx<|Hc (mV 0)<|Hc (mV 2)<|Hc (mU<|Hc (mV 4)<|Hc (mV 5)<|mZ)<|Hc (mV 6)<|mZ)<|mB Hg (mB Hg (mV 0)<|mK<|.int 0)<|mK<|.int 0) (mS (Jg (mV 2) (mU<|Hc (mV 4)<|Hc (mV 5)<|mZ)<|mV 6)<|Hq (mK<|.bl true)<|Hl 3)<|Jn
def Uz:MT:=KI<|mV 3
def Uy:MS:=mS (Hq (mK<|.bl false)<|Hl 3)<|mF (Js<|mV 1) (Kn 3<|gC (Hl 4)<|gC (Hl 5)<|gC (Hl 6)<|Ko)<|Ny
def fG:MS:=mS (Hq (Ho Rr<|Hc (mB Hg (mV 0)<|mK<|.int 2)<|mZ)<|Hl 2)<|mS (Hq (mK<|.bl true)<|Hl 3)<|mS (IS Uz Uy 1000)<|mR<|mV 2
def Xi:GN:=Iw 7 fG
def UA:MS:=Jg (mV 2) (IZ (mV 3) Kz<|KA<|mK<|.int 2)<|mB Hg (mV 3)<|mK<|.int 2
def UB:MS:=mS (Hq (Ho P2<|Hc (mV 2)<|mZ)<|Hl 5)<|mS (Hq (Ho Ih<|Hc (mV 0)<|Hc (mK<|.int 4)<|mZ)<|Hl 6)<|mS (Hq (mU<|Hc (Ho Ih<|Hc (mV 0)<|Hc (mB Hg (mB Hg (mV 1)<|mK<|.int 1)<|mK<|.int 0)<|mZ)<|Hc (Ho Ih<|Hc (mV 0)<|Hc (mB Hg (mB Hg (mV 1)<|mK<|.int 1)<|mK<|.int 1)<|mZ)<|mZ)<|Hl 7)<|mS (Ji (Kr (mT<|mB Na (mV 6)<|mK<|.int 0)<|mT<|mB JO (mV 5)<|mL<|mZ) (Hq (mB Hg (mV 5)<|Ho Ih<|Hc (mV 0)<|Hc (Ho HP<|Hc (mV 5)<|mZ)<|mZ)<|Hl 7)<|Jn)<|Ji (Kr (mT<|mB Kv (mV 6)<|mK<|.int 3)<|mT<|mB Km (mV 7)<|mV 2) (IG<|Qz (mV 2)<|mV 7)<|Jg (mV 2) (mV 7)<|Ho Ih<|Hc (mV 0)<|Hc (Ho HP<|Hc (mB Hg (mB Hg (mV 1)<|mK<|.int 0)<|mK<|.int 2)<|mZ)<|mZ
def gB:MS:=mS (Hq (Ho Rr<|Hc (mB Hg (mV 1)<|mK<|.int 2)<|mZ)<|Hl 2)<|mS (mF (Js<|Ho Ur<|Hc (mV 0)<|Hc (mV 1)<|Hc (mK<|.int 12)<|mZ) (Hl 3)<|UA)<|mS (mF (Jc<|Ho Ih<|Hc (mV 0)<|Hc (mK<|.int 6)<|mZ) (Hl 4)<|UB)<|mR<|Ho Xr<|Hc (mV 2)<|mZ
def Rq:GN:=Iw 8 gB
def fH:ME:=mV 0
def Uq:MT:=mT<|mB JO (Nd (mV 1)<|IZ (mV 0) Kz<|KA<|mK<|.int 2)<|mB Hg (mV 0)<|mK<|.int 2
def Rt:MS:=mS (Jg (mV 2) (IZ (mV 7) Kz<|KA<|mK<|.int 2)<|mB Hg (mV 7)<|mK<|.int 2)<|IG<|JH (mV 4)<|Hc (mV 7)<|mZ
def Xk:MS:=mS (Hq (Ho O3<|Hc (mV 0)<|Hc (mV 2)<|mZ)<|Hl 6)<|mF (Js<|IZ (mV 6) Kz<|KA<|mK<|.int 1) (Hl 7)<|Rt
def eO:MS:=mS (Hq (Ho Xi<|Hc (mV 0)<|Hc (mV 1)<|mZ)<|Hl 2)<|mS (Hq (Ho K3<|Hc (Jm (Js<|mV 1) 1 [2] (Hl 0) Uq<|fH)<|mZ)<|Hl 3)<|mS (Hq (mL<|mZ)<|Hl 4)<|mS (mF (Jc<|mB HX (mB Hg (mB Hg (mV 0)<|mK<|.int 1)<|mK<|.int 0)<|mB Hg (mB Hg (mV 0)<|mK<|.int 1)<|mK<|.int 1) (Hl 5)<|Xk)<|mR<|mU<|Hc (mV 3)<|Hc (Ho K3<|Hc (mV 4)<|mZ)<|mZ
def T8:GN:=Iw 8 eO
def QX(C:Addr):MS:=mS (Hq (Ho Nh<|Hc (Ho T8<|Hc (mV 3)<|Hc (mV 4)<|mZ)<|mZ)<|Hl 5)<|Ji (NG (mT<|mB Pf (Ho Nh<|Hc (Ho (PZ C)<|Hc (mV 3)<|Hc (mV 4)<|mZ)<|mZ)<|mV 5)<|mT<|mB Pf (Ho Nh<|Hc (Ho (PZ C)<|Hc (mV 3)<|Hc (mV 4)<|mZ)<|mZ)<|mV 5) (mR<|mK<|.bl false)<|Jn
def Tw(C:Addr):MS:=mS (Hq (Ho Xe<|Hc (mV 0)<|Hc (mV 1)<|mZ)<|Hl 2)<|mS (Hq (Ho WC<|Hc (mV 2)<|mZ)<|Hl 3)<|mF (Js<|mL<|Hc (Ho Rq<|Hc (mV 2)<|Hc (mV 3)<|mZ)<|Hc (Ho Ot<|Hc (mV 2)<|Hc (mB Hg (mV 3)<|mK<|.int 0)<|Hc (mB Hg (mV 3)<|mK<|.int 1)<|Hc (mK<|.int 9)<|mZ)<|mZ) (Hl 4)<|QX C
def YV(C:Addr):MS:=mS (mF (Jc<|mB HE (mK<|.int 1)<|Ho Qt<|Hc (mK<|.int 3)<|Hc (Ho HP<|Hc (mV 0)<|mZ)<|mZ) (Hl 1)<|Tw C)<|mR<|mK<|.bl true
def UT(C:Addr):GN:=Iw 6<|YV C
open L2 PySem.Spec PyProof.Rows
def top(i:Nat):W1:=PySem.Challenge.pw_stickytiles_k39_mended.main.body.getD i<|.Pass ⟨0,0,0,0⟩
def fns:List (Str×W1):=("_wall",top 0)::("is_whole",top 2)::("is_tuple",top 3)::("is_place",top 4)::("places_around",top 6)::("sides_of",top 7)::("kinds_by_place",top 8)::("names_facing",top 9)::("strength_together",top 10)::("is_growing",top 11)::("growings_at",top 12)::("first_end",top 16)::("row_among",top 17)::("with_seed",top 19)::("sound",top 20)::("mended",top 21)::("_law_begin",top 23)::("_law_draw",top 24)::("_law_names",top 25)::("_law_kind",top 26)::("_law_house",top 27)::("_law_standing",top 28)::("_law_bed",top 29)::("_law_lying",top 30)::("_law_standing_of",top 31)::("_law_step",top 32)::("_law_sides",top 33)::("_law_by",top 34)::("_law_empty",top 35)::("_law_may",top 36)::("_law_walk",top 37)::("_law_sound",top 38)::("_law_spoilt",top 39)::("_law_due",top 40)::("law",top 41)::[]
def gT:List Str:=["isinstance","int","bool","tuple","len","enumerate","zip","sum","any","dict","range","min","list","sorted","repr"]
def cos:List (Str×(Str⊕Int)):=[]
def M9:List (Str×Str×W1):=[("look_at","Grow.look_at",inClass (top 14) 1),("__init__","Grow.__init__",inClass (top 14) 0),("look_around","Grow.look_around",inClass (top 14) 2),("lay","Grow.lay",inClass (top 14) 3),("on","Grow.on",inClass (top 14) 5),("standing","Grow.standing",inClass (top 14) 7),("row","Grow.row",inClass (top 14) 8)]
def gO:List Str:=["bed","strengths","kinds","laid","ready"]
section
variable {P:SZ}{w:World}{K:Ab}{mg:Str->Option IR}{base:P3} (Z:En K mg fns gT cos) {C:Addr} (Q:EC K mg C "Grow" M9 gO)
def RS:(["side","name","strengths"]:List Str).Nodup:=by decide +kernel
def jI:(["near","kinds"]:List Str).Nodup:=by decide +kernel
def jJ:(["tile","part"]:List Str).Nodup:=by decide +kernel
def jK:(["_law_k","_law_letters","_law_first"]:List Str).Nodup:=by decide +kernel
def jL:(["_law_k","_law_letters","_law_first","_law_step_here"]:List Str).Nodup:=by decide +kernel
def jM:(["_law_side","_law_names_here","_law_pot"]:List Str).Nodup:=by decide +kernel
def jN:(["_law_name","_law_pot"]:List Str).Nodup:=by decide +kernel
def jO:(["_law_k","_law_pot","_law_names_here"]:List Str).Nodup:=by decide +kernel
def YL:(["_law_place","_law_there"]:List Str).Nodup:=by decide +kernel
def UU:(["_law_x","_law_y","_law_kind_here"]:List Str).Nodup:=by decide +kernel
def jP:(["_law_side","_law_strengths","_law_bed_here","_law_kind_here"]:List Str).Nodup:=by decide +kernel
def jQ:(["_law_side","_law_x","_law_y","_law_there"]:List Str).Nodup:=by decide +kernel
def jR:(["_law_tile","_law_there"]:List Str).Nodup:=by decide +kernel
include Z Q
theorem fA:Jd P w K mg base 1 "is_whole" 3 Rj:=Jo (k:=0) Z (top 2) 1 ["thing","least","most"] ["thing","least","most"] λQ f C A outer s H E a=>Iu.out (HM<|JS.mk<|IL<|QW (Pk Z (He 0) Y9)<|QW (mG<|Pk Z (He 0) oM)<|VR<|vM Vr Vr (He 1) (He 0)<|He 2)
theorem zjf:Jd P w K mg base 1 "is_tuple" 2 WN:=Jo (k:=0) Z (top 3) 2 ["thing","size"] ["thing","size"] λa f C A outer s H E Q=>Iu.out (HM<|JS.mk<|IL<|QW (Pk Z (He 0) LB)<|VR<|Vp (Oa<|J8 Q) (J0 Z Mr Ml<|Hh (He 0)<|Hm) (He 1) rfl)
theorem eZ:Jd P w K mg base 2 "is_place" 2 Nw:=Jo (k:=1) Z (top 4) 3 ["bed","thing","floor"] ["bed","thing"] λa f b A outer s H E C=>Iu.out (HB (JS.mk<|Ij 2 a<|Hz (Hv C) (He 0)<|Hk)<|HM<|JS.mk<|IL<|QW (HR (zjf Z Q) C<|Hh (He 1)<|Hh Hk<|Hm)<|QW (HR (fA Z Q) C<|Hh (Hz (Hv C) (He 1)<|Hk)<|Hh Hk<|Hh (HU PR (Hz (Hv C) (He 2)<|Hk)<|Hk)<|Hm)<|VR<|HR (fA Z Q) C<|Hh (Hz (Hv C) (He 1)<|Hk)<|Hh Hk<|Hh (HU PR (Hz (Hv C) (He 2)<|Hk)<|Hk)<|Hm)
theorem Xd:Jd P w K mg base 1 "places_around" 1 Me:=Jo (k:=0) Z (top 6) 4 ["place","x","y"] ["place"] λC f a A outer s H E Q=>Iu.out (HB (JS.mk<|Ij 1 C<|Hz (Hv Q) (He 0)<|Hk)<|HB (JS.mk<|Ij 2 C<|Hz (Hv Q) (He 0)<|Hk)<|HM<|JS.mk<|IL<|Jf<|JA.out<|Ia (Jf<|Hh (He 1)<|Hh (HU Jp (He 2)<|Hk)<|Hm)<|Ia (Jf<|Hh (HU Jp (He 1)<|Hk)<|Hh (He 2)<|Hm)<|Ia (Jf<|Hh (He 1)<|Hh (HU PR (He 2)<|Hk)<|Hm)<|Ia (Jf<|Hh (HU PR (He 1)<|Hk)<|Hh (He 2)<|Hm)<|La)
theorem fC:Jd P w K mg base 1 "sides_of" 2 P8:=Jo (k:=0) Z (top 7) 5 ["bed","kind","kinds"] ["bed","kind"] λQ f a A outer s H E C=>Iu.out (HB (JS.mk<|Ij 2 Q<|Hz (Hv C) (Hz (Hv C) (He 0)<|Hk)<|Hk)<|HB (Kd (vJ Vr Zm Hk (He 1)<|J0 Z Mr Ml<|Hh (He 2)<|Hm) (HM<|JS.mk<|IL<|M6 (Hz (Hv C) (He 2)<|He 1) (M5<|Hk)<|M4)<|Kt)<|HM<|JS.mk<|IL<|Jf<|JA.out<|Ia Mn<|Ia Mn<|Ia Mn<|Ia Mn<|La)
theorem Xs:Jd P w K mg base 1 "kinds_by_place" 1 Qh:=Jo (k:=0) Z (top 8) 6 ["standing","kinds","x","y","kind"] ["standing"] λC f Q A outer s H E a=>Iu.out (HB (JS.mk<|Ij 1 C<|V4)<|HB (Ks AH rfl (LP<|He 0) (Ob rfl<|KH (sgn 2 C)<|KH (sgn 3 C)<|KH (sgn 4 C)<|Oj)<|HM<|JS.mk<|Ma (Hv a) (He 1) (Jf<|Hh (He 2)<|Hh (He 3)<|Hm)<|He 4)<|HM<|JS.mk<|IL<|He 1)
theorem fY:Jd P w K mg base 2 "names_facing" 3 Qa:=Jo (k:=1) Z (top 9) 7 ["bed","standing_kinds","place","names","side","near"] ["bed","standing_kinds","place"] λa f b A outer s H E C=>Iu.out (HB (JS.mk<|Ij 3 a<|J5<|Hm)<|HB (Ks AH rfl (ZS rfl Z.b1<|HR (Xd Z Q) C<|Hh (He 2)<|Hm) (Ob rfl<|KH (sgn 4 a)<|KH (sgn 5 a)<|Oj)<|HM<|Kd (QU (J8 C) (He 5)<|He 1) (HM<|JS.mk<|KC<|Ms (He 3)<|Hh (Hz (Hv C) (HR (fC Z Q) C<|Hh (He 0)<|Hh (Hz (Hv C) (He 1)<|He 5)<|Hm)<|HU Mb (HU Jp (He 4)<|Hk)<|Hk)<|Hm)<|HM<|JS.mk<|KC<|Ms (He 3)<|Hh Mn<|Hm)<|HM<|JS.mk<|IL<|He 3)
theorem gH:Jd P w K mg base 1 "strength_together" 3 O7:=Jo (k:=0) Z (top 10) 8 ["strengths","sides","names"] ["strengths","sides","names"] λd f c A outer s H E Q=>Iu.out (HM<|JS.mk<|IL<|J0 Z (cL rfl) Zb<|Hh (Mq rfl rfl (LC (N':=["side","name","strengths"]) (nt:=2) (fr:=[0]) ["strengths"] rfl (by decide +kernel) (by decide +kernel) (by decide +kernel) rfl ⟨⟨rfl,by decide⟩,trivial⟩ ⟨by first|exact Bs rfl|exact Bo rfl,trivial⟩) (mO rfl Z.b1 (He 1)<|He 2) (λC s0 a b=>Ob rfl (KH (sgn 0 RS)<|KH (sgn 1 RS)<|Oj)) (λC s0 a b=>QV (SW.sb<|Od (JW (Oa<|J8 Q) (He 0) (He 1) rfl)<|OU<|JW (PK<|J8 Q) (He 0) Mn rfl)) λC s0 a b=>Hz (Hv Q) (He 2) (He 0))<|Hm)
theorem zg3:Jd P w K mg base 3 "is_growing" 4 Oo:=Jo (k:=2) Z (top 11) 9 ["bed","strengths","standing_kinds","tile","place","names"] ["bed","strengths","standing_kinds","tile"] λa f b A outer s H E C=>Iu.out (HB (JS.mk<|Ij 4 a<|M6 (He 3) M4<|M5<|Hk)<|HB (Kd (SW.sb<|YR (QU (J8 C) (He 4)<|He 2)<|Zx<|Vm<|Sz<|HR (eZ Z Q) C<|Hh (He 0)<|Hh (He 4)<|Hm) (HM<|JS.mk<|IL<|Px)<|Kt)<|HB (JS.mk<|Ij 5 a<|HR (fY Z Q) C<|Hh (He 0)<|Hh (He 2)<|Hh (He 4)<|Hm)<|HM<|JS.mk<|IL<|Vp QJ (HR (gH Z Q) C<|Hh (He 1)<|Hh (HR (fC Z Q) C<|Hh (He 0)<|Hh (Hz (Hv C) (He 3)<|Hk)<|Hm)<|Hh (He 5)<|Hm) (Hz (Hv C) (Hz (Hv C) (He 0)<|Hk)<|Hk) rfl)
theorem zgj:Jd P w K mg base 2 "growings_at" 4 Uk:=Jo (k:=1) Z (top 12) 10 ["bed","strengths","names","place","house","found","number","kind"] ["bed","strengths","names","place"] λa f b A outer s H E C=>Iu.out (HB (JS.mk<|Ij 4 a<|Hz (Hv C) (He 0)<|Hk)<|HB (JS.mk<|Ij 5 a<|J5<|Hm)<|HB (Kd (Vm<|Sz<|J0 Z (zJ rfl) kD<|Hh (He 2)<|Hm) (HM<|JS.mk<|IL<|He 5)<|Kt)<|HB (Ks AH rfl (ZS rfl Z.b1<|Hz (Hv C) (He 4)<|Hk) (Ob rfl<|KH (sgn 6 a)<|KH (sgn 7 a)<|Oj)<|HM<|Kd (JW QJ (HR (gH Z Q) C<|Hh (He 1)<|Hh (M6 (He 7) (M5<|Hk)<|M4)<|Hh (He 2)<|Hm) (Hz (Hv C) (He 4)<|Hk) rfl) (HM<|JS.mk<|KC<|Ms (He 5)<|Hh (Jf<|Hh (Hz (Hv C) (He 3)<|Hk)<|Hh (Hz (Hv C) (He 3)<|Hk)<|Hh (He 6)<|Hm)<|Hm)<|Kt)<|HM<|JS.mk<|IL<|He 5)
theorem Xc:MU P w K mg base 3 C "look_at" 2 (M7 C):=P0 (k:=2) Q (inClass (top 14) 1) 0 ["self","place","names","found"] ["self","place"] λb f c A outer s H E a=>Iu.out (HB (JS.mk<|KC<|sU (Hv a) (Ju Q<|He 0) (He 1)<|Te)<|HM<|Kd (SW.sb<|Od (T3 (J8 a) (He 1)<|Ju Q<|He 0)<|OU<|Sz<|HR (eZ Z Q) a<|Hh (Ju Q<|He 0)<|Hh (He 1)<|Hm) (HB (JS.mk<|Ij 2 b<|HR (fY Z Q) a<|Hh (Ju Q<|He 0)<|Hh (Ju Q<|He 0)<|Hh (He 1)<|Hm)<|HB (JS.mk<|Ij 3 b<|HR (zgj Z Q) a<|JA.out<|Ia (Ju Q<|He 0)<|Ia (Ju Q<|He 0)<|Ia (He 2)<|Ia (He 1)<|La)<|HM<|Kd (Vo<|He 3) (HM<|JS.mk<|Ma (Hv a) (Ju Q<|He 0) (He 1)<|He 3)<|Kt)<|Kt)
theorem zeN:SX P w K mg base 4 C "Grow" 2 (Uw C):=wR (k:=3) Q (inClass (top 14) 0) 1 ["self","bed","x","y"] ["self","bed"] λb f c A outer s H E a=>Iu.out (HB (JS.mk<|QD Q (He 0)<|He 1)<|HB (JS.mk<|QD Q (He 0)<|Kw Z (W3 rfl) Tz<|Hh (Hz (Hv a) (Hz (Hv a) (He 1)<|Hk)<|Hk)<|Hm)<|HB (JS.mk<|QD Q (He 0)<|HR (Xs Z Q) a<|Hh (Hz (Hv a) (He 1)<|Hk)<|Hm)<|HB (JS.mk<|QD Q (He 0)<|J5<|Hm)<|HB (JS.mk<|QD Q (He 0)<|V4)<|HM<|Ks AH rfl (Le rfl Z.b1<|Hz (Hv a) (Hz (Hv a) (He 1)<|Hk)<|Hk) (sgn 2 b)<|HM<|Ks AH rfl (Le rfl Z.b1<|Hz (Hv a) (Hz (Hv a) (He 1)<|Hk)<|Hk) (sgn 3 b)<|HM<|JS.mk<|KC<|Q3 (Xc Z Q) Q.cl (a.mono<|by decide) (He 0) (Hh (Jf<|Hh (He 2)<|Hh (He 3)<|Hm)<|Hm)<|JV.cons JV.nil)
theorem zdI:MU P w K mg base 4 C "look_around" 2 (RB C):=P0 (k:=3) Q (inClass (top 14) 2) 2 ["self","place","near"] ["self","place"] λb f c A outer s H E a=>Iu.out (HB (JS.mk<|KC<|Q3 (Xc Z Q) Q.cl (a.mono<|by decide) (He 0) (Hh (He 1)<|Hm)<|JV.cons JV.nil)<|HM<|Ks AH rfl (LP<|HR (Xd Z Q) a<|Hh (He 1)<|Hm) (sgn 2 b)<|HM<|JS.mk<|KC<|Q3 (Xc Z Q) Q.cl (a.mono<|by decide) (He 0) (Hh (He 2)<|Hm)<|JV.cons JV.nil)
theorem zjh:MU P w K mg base 5 C "lay" 2 (P7 C):=P0 (k:=4) Q (inClass (top 14) 3) 3 ["self","tile"] ["self","tile"] λc f b A outer s H E a=>Iu.out (HB (JS.mk<|KC<|Ms (Ju Q<|He 0)<|Hh (He 1)<|Hm)<|HB (JS.mk<|Ma (Hv a) (Ju Q<|He 0) (M6 (He 1) M4<|M5<|Hk)<|Hz (Hv a) (He 1)<|Hk)<|HM<|JS.mk<|KC<|Q3 (zdI Z Q) Q.cl (a.mono<|by decide) (He 0) (Hh (M6 (He 1) M4<|M5<|Hk)<|Hm)<|JV.cons JV.nil)
theorem zku:MU P w K mg base 6 C "on" 1 (O0 C):=P0 (k:=5) Q (inClass (top 14) 5) 4 ["self","tile"] ["self"] λb f c A outer s H E a=>Iu.out (HB (Kd (Vm<|sP<|Ju Q<|He 0) (HM<|JS.mk<|IL<|Te)<|Kt)<|HB (JS.mk<|Ij 1 b<|Hz (Hv a) (Hz (Hv a) (Ju Q<|He 0)<|J0 Z (zW rfl<|Hv a) Za<|Hh (Ju Q<|He 0)<|Hm)<|Hk)<|HB (JS.mk<|KC<|Q3 (zjh Z Q) Q.cl (a.mono<|by decide) (He 0) (Hh (He 1)<|Hm)<|JV.cons JV.nil)<|HM<|JS.mk<|IL<|He 1)
theorem zeM:MU P w K mg base 1 C "standing" 1 (Ux C):=P0 (k:=0) Q (inClass (top 14) 7) 5 ["self"] ["self"] λc f a A outer s H E b=>Iu.out (HM<|JS.mk<|IL<|Kw Z LR LB<|Hh (J0 Z Us O1<|Hh (HU Jp (Kw Z (dP rfl) Z3<|Hh (Hz (Hv b) (Ju Q<|He 0)<|Hk)<|Hm)<|Ju Q<|He 0)<|Hm)<|Hm)
theorem zjg:MU P w K mg base 1 C "row" 1 (Ua C):=P0 (k:=0) Q (inClass (top 14) 8) 6 ["self"] ["self"] λb f a A outer s H E c=>Iu.out (HM<|JS.mk<|IL<|Kw Z LR LB<|Hh (Ju Q<|He 0)<|Hm)
theorem zhV:Jd P w K mg base 7 "first_end" 1 (WB C):=Jo (k:=6) Z (top 16) 11 ["bed","keeper"] ["bed"] λb f c A outer s H E a=>Iu.out (HB (JS.mk<|Ij 1 b<|vN (zeN Z Q) (a.mono<|by decide) rfl (Hh (He 0)<|Hm)<|JV.cons JV.nil)<|HB (We AH (JW vZ (V5 (zku Z Q) Q.cl (a.mono<|by decide)<|He 1) Te rfl)<|HM<|JS.mk<|rS)<|HM<|JS.mk<|IL<|Jf<|Hh (V5 (zjg Z Q) Q.cl (a.mono<|by decide)<|He 1)<|Hh (V5 (zeM Z Q) Q.cl (a.mono<|by decide)<|He 1)<|Hm)
theorem zhS:Jd P w K mg base 4 "row_among" 2 WD:=Jo (k:=3) Z (top 17) 12 ["bed","tiles","strengths","standing_kinds","kinds","row","asked","place","tile"] ["bed","tiles"] λb f e A outer s H E a=>Iu.out (HB (JS.mk<|Ij 2 b<|Kw Z (W3 rfl) Tz<|Hh (Hz (Hv a) (Hz (Hv a) (He 0)<|Hk)<|Hk)<|Hm)<|HB (JS.mk<|Ij 3 b<|HR (Xs Z Q) a<|Hh (Hz (Hv a) (He 0)<|Hk)<|Hm)<|HB (JS.mk<|Ij 4 b<|HR (Xs Z Q) a<|Hh (He 1)<|Hm)<|HB (JS.mk<|Ij 5 b<|J5<|Hm)<|HB (JS.mk<|Ij 6 b<|Kw Z (dP rfl) Z3<|Hh (He 4)<|Hm)<|HB (We AH (Vo<|He 6)<|HB (JS.mk<|Ij 7 b<|sT<|He 6)<|HB (JS.mk<|Ij 8 b<|Jf<|Hh (Hz (Hv a) (He 7)<|Hk)<|Hh (Hz (Hv a) (He 7)<|Hk)<|Hh (Hz (Hv a) (He 4)<|He 7)<|Hm)<|HM<|Kd (Sz<|HR (zg3 Z Q) a<|JA.out<|Ia (He 0)<|Ia (He 2)<|Ia (He 3)<|Ia (He 8)<|La) (HB (JS.mk<|KC<|Ms (He 5)<|Hh (He 8)<|Hm)<|HB (JS.mk<|Ma (Hv a) (He 3) (He 7)<|Hz (Hv a) (He 4)<|He 7)<|HM<|JS.mk<|KC<|zl3 (He 6)<|Hh (Mq rfl rfl (LC (N':=["near","kinds"]) (nt:=1) (fr:=[4]) ["kinds"] rfl (by decide +kernel) (by decide +kernel) (by decide +kernel) rfl ⟨⟨rfl,by decide⟩,trivial⟩ ⟨by first|exact Bs rfl|exact Bo rfl,trivial⟩) (LP<|HR (Xd Z Q) a<|Hh (He 7)<|Hm) (λC s0 c d=>sgn 0 jI) (λC s0 c d=>QV (QU (J8 a) (He 0)<|He 1)) λC s0 c d=>He 0)<|Hm)<|Kt)<|HM<|JS.mk<|IL<|Kw Z LR LB<|Hh (He 5)<|Hm)
theorem zhR:Jd P w K mg base 1 "with_seed" 2 W2:=Jo (k:=0) Z (top 19) 13 ["bed","tiles"] ["bed","tiles"] λa f Q A outer s H E C=>Iu.out (HM<|JS.mk<|IL<|Jf<|Hh (Hz (Hv C) (He 0)<|Hk)<|Hh (Hz (Hv C) (He 0)<|Hk)<|Hh (Kw Z LR LB<|Hh (J0 Z Us O1<|Hh (He 1)<|Hm)<|Hm)<|Hm)
theorem vW:Jd P w K mg base 5 "sound" 2 VE:=Jo (k:=4) Z (top 20) 14 ["bed","standing"] ["bed","standing"] λb f a A outer s H E C=>Iu.out (HM<|JS.mk<|IL<|Kw Z LR LB<|Hh (J0 Z Us O1<|Hh (HU qE (Hz (Hv C) (He 0)<|Hk)<|HR (zhS Z Q) C<|Hh (He 0)<|Hh (He 1)<|Hm)<|Hm)<|Hm)
theorem bW:Jd P w K mg base 8 "mended" 2 (PZ C):=Jo (k:=7) Z (top 21) 15 ["bed","standing","part","off"] ["bed","standing"] λb f e A outer s H E a=>Iu.out (HB (JS.mk<|Ij 2 b<|HR (vW Z Q) a<|Hh (He 0)<|Hh (He 1)<|Hm)<|HB (JS.mk<|Ij 3 b<|Kw Z LR LB<|Hh (Mq rfl rfl (LC (N':=["tile","part"]) (nt:=1) (fr:=[2]) ["part"] rfl (by decide +kernel) (by decide +kernel) (by decide +kernel) rfl ⟨⟨rfl,by decide⟩,trivial⟩ ⟨by first|exact Bs rfl|exact Bo rfl,trivial⟩) (LP<|He 1) (λC s0 c d=>sgn 0 jJ) (λC s0 c d=>QV (T3 (J8 a) (He 0)<|He 1)) λC s0 c d=>He 0)<|Hm)<|HM<|JS.mk<|IL<|Jf<|Hh (He 3)<|Hh (Hz (Hv a) (HR (zhV Z Q) a<|Hh (HR (zhR Z Q) a<|Hh (He 0)<|Hh (He 2)<|Hm)<|Hm)<|Hk)<|Hm)
theorem zgi:Jd P w K mg base 1 "_law_begin" 2 Xe:=Jo (k:=0) Z (top 23) 16 ["_law_script","_law_k","_law_cell","_law_far","_law_own"] ["_law_script","_law_k"] λC f Q A outer s H E a=>Iu.out (HB (JS.mk<|Ij 2 C<|mD (JW Zm (He 1) (J0 Z Mr Ml<|Hh (He 0)<|Hm) rfl) (Hz (Hv a) (He 0)<|He 1)<|Hk)<|HB (JS.mk<|Ij 3 C<|HU Q0 (HU Q0 (HU Q0 (HU Q0 (HU PQ Hk<|Hk)<|HU PQ Hk<|Hk)<|HU PQ Hk<|Hk)<|HU PQ Hk<|Hk)<|HU PQ Hk<|Hk)<|HB (JS.mk<|Ij 4 C<|HU Q0 (HU Mb (He 2)<|He 3)<|Kw Z zK Y9<|Hh (Vp QJ (He 2) (HU PQ Hk<|Hk) rfl)<|Hm)<|HM<|JS.mk<|IL<|J5<|Hh (He 4)<|Hh (HU Mb (HU Jp (HU Mb (He 2)<|Hk)<|HU Mc Hk<|He 1)<|Hk)<|Hh Hk<|Hm)
theorem JC:Jd P w K mg base 1 "_law_draw" 2 Ih:=Jo (k:=0) Z (top 24) 17 ["_law_pot","_law_many","_law_digit","_law_mixed"] ["_law_pot","_law_many"] λQ f a A outer s H E C=>Iu.out (HB (Kd (JW Zl (Hz (Hv C) (He 0)<|Hk) Hk rfl) (HB (JS.mk<|Ij 2 Q<|HU Mb (Hz (Hv C) (He 0)<|Hk)<|He 1)<|HB (JS.mk<|Ma (Hv C) (He 0) Hk<|HU V1 (Hz (Hv C) (He 0)<|Hk)<|He 1)<|HM<|JS.mk<|IL<|He 2)<|Kt)<|HB (JS.mk<|Ma (Hv C) (He 0) Hk<|HU Jp (Hz (Hv C) (He 0)<|Hk)<|Hk)<|HB (JS.mk<|Ij 3 Q<|HU Mb (HU Mc (HU Jp (HU Jp (Hz (Hv C) (He 0)<|Hk)<|HU Mc (HU Mc Hk<|Hz (Hv C) (He 0)<|Hk)<|Hz (Hv C) (He 0)<|Hk)<|HU Mc Hk<|Hz (Hv C) (He 0)<|Hk)<|Hk)<|Hk)<|HB (JS.mk<|Ij 3 Q<|HU Mb (HU Mc (He 3)<|HU Jp (HU Mb (He 3)<|Hk)<|HU Mc Hk<|Hz (Hv C) (He 0)<|Hk)<|Hk)<|HM<|JS.mk<|IL<|HU Mb (HU Jp (HU V1 (He 3)<|Hk)<|HU V1 (He 3)<|Hk)<|He 1)
theorem zgf:Jd P w K mg base 2 "_law_names" 2 Xg:=Jo (k:=1) Z (top 25) 18 ["_law_pot","_law_many","_law_letters","_law_first","_law_step_here"] ["_law_pot","_law_many"] λd f e A outer s H E a=>Iu.out (HB (JS.mk<|Ij 2 d<|Mn)<|HB (JS.mk<|Vv (Jf<|Hh (HR (JC Z Q) a<|Hh (He 0)<|Hh Hk<|Hm)<|Hh (Hz (Hv a) (J5<|JA.out<|Ia Hk<|Ia Hk<|Ia Hk<|Ia Hk<|Ia Hk<|Ia Hk<|La)<|HR (JC Z Q) a<|Hh (He 0)<|Hh Hk<|Hm)<|Hm)<|Ob rfl<|KH (sgn 3 d)<|KH (sgn 4 d)<|Oj)<|HB (Kd (JW (Oa<|J8 a) (HR (JC Z Q) a<|Hh (He 0)<|Hh Hk<|Hm) Hk rfl) (HM<|JS.mk<|IL<|Mq rfl rfl (LC (N':=["_law_k","_law_letters","_law_first"]) (nt:=1) (fr:=[2,3]) ["_law_letters","_law_first"] rfl (by decide +kernel) (by decide +kernel) (by decide +kernel) rfl ⟨⟨rfl,by decide⟩,⟨⟨rfl,by decide⟩,trivial⟩⟩ ⟨by first|exact Bs rfl|exact Bo rfl,⟨by first|exact Bs rfl|exact Bo rfl,trivial⟩⟩) (Le rfl Z.b1<|He 1) (λC s0 b c=>sgn 0 jK) (λC s0 b c=>Nm) λC s0 b c=>HU Mc (Hz (Hv a) (He 1)<|He 2) (HU Jp (He 0)<|Hk))<|Kt)<|HM<|JS.mk<|IL<|J0 Z WV O1<|Hh (Mq rfl rfl (LC (N':=["_law_k","_law_letters","_law_first","_law_step_here"]) (nt:=1) (fr:=[2,3,4]) ["_law_letters","_law_first","_law_step_here"] rfl (by decide +kernel) (by decide +kernel) (by decide +kernel) rfl ⟨⟨rfl,by decide⟩,⟨⟨rfl,by decide⟩,⟨⟨rfl,by decide⟩,trivial⟩⟩⟩ ⟨by first|exact Bs rfl|exact Bo rfl,⟨by first|exact Bs rfl|exact Bo rfl,⟨by first|exact Bs rfl|exact Bo rfl,trivial⟩⟩⟩) (Le rfl Z.b1<|He 1) (λC s0 b c=>sgn 0 jL) (λC s0 b c=>Nm) λC s0 b c=>HU Mc (Hz (Hv a) (He 1)<|HU Mb (HU Jp (He 2)<|HU Mc (He 3)<|He 0)<|Hk) (HU Jp Hk<|HU Mb (HU Jp (HU Mc (He 0)<|He 0)<|He 2)<|Hk))<|Hm)
theorem zg2:Jd P w K mg base 2 "_law_kind" 2 WS:=Jo (k:=1) Z (top 26) 19 ["_law_pot","_law_names_here","_law_face","_law_sides_here"] ["_law_pot","_law_names_here"] λb f e A outer s H E a=>Iu.out (HB (JS.mk<|Ij 2 b<|Hz (Hv a) (J5<|Hh Mn<|Hh (Hz (Hv a) Mn<|HR (JC Z Q) a<|Hh (He 0)<|Hh Hk<|Hm)<|Hm)<|HR (JC Z Q) a<|Hh (He 0)<|Hh Hk<|Hm)<|HB (JS.mk<|WZ (i:=3) rfl rfl (LC (N':=["_law_side","_law_names_here","_law_pot"]) (nt:=1) (fr:=[1,0]) ["_law_names_here","_law_pot"] rfl (by decide +kernel) (by decide +kernel) (by decide +kernel) rfl ⟨⟨rfl,by decide⟩,⟨⟨rfl,by decide⟩,trivial⟩⟩ ⟨by first|exact Bs rfl|exact Bo rfl,⟨by first|exact Bs rfl|exact Bo rfl,trivial⟩⟩) (Le rfl Z.b1<|Hk) (λC s0 c d=>sgn 0 jM) (λC s0 c d=>Nm) (λC s0 c d=>Hz (Hv a) (HU Jp (J5<|Hh Mn<|Hm)<|He 1) (HR (JC Z Q) a<|Hh (He 2)<|Hh (HU Jp (J0 Z Mr Ml<|Hh (He 1)<|Hm)<|Hk)<|Hm)) b rfl rfl)<|HM<|JS.mk<|IL<|Jf<|JA.out<|Ia (He 2)<|Ia (Hz (Hv a) (He 3)<|Hk)<|Ia (Hz (Hv a) (He 3)<|Hk)<|Ia (Hz (Hv a) (He 3)<|Hk)<|Ia (Hz (Hv a) (He 3)<|Hk)<|La)
theorem zgg:Jd P w K mg base 3 "_law_house" 1 Xf:=Jo (k:=2) Z (top 27) 20 ["_law_pot","_law_names_here","_law_enough","_law_sticks","_law_kinds"] ["_law_pot"] λd f e A outer s H E a=>Iu.out (HB (JS.mk<|Ij 1 d<|HR (zgf Z Q) a<|Hh (He 0)<|Hh (HU Jp Hk<|HR (JC Z Q) a<|Hh (He 0)<|Hh Hk<|Hm)<|Hm)<|HB (JS.mk<|Ij 2 d<|Hz (Hv a) (J5<|JA.out<|Ia Hk<|Ia Hk<|Ia Hk<|Ia Hk<|Ia Hk<|Ia Hk<|Ia Hk<|Ia Hk<|La)<|HR (JC Z Q) a<|Hh (He 0)<|Hh Hk<|Hm)<|HB (JS.mk<|Ij 3 d<|Kw Z LR LB<|Hh (Mq rfl rfl (LC (N':=["_law_name","_law_pot"]) (nt:=1) (fr:=[0]) ["_law_pot"] rfl (by decide +kernel) (by decide +kernel) (by decide +kernel) rfl ⟨⟨rfl,by decide⟩,trivial⟩ ⟨by first|exact Bs rfl|exact Bo rfl,trivial⟩) (LP<|He 1) (λC s0 b c=>sgn 0 jN) (λC s0 b c=>Nm) λC s0 b c=>Jf (Hh (He 0)<|Hh (Hz (Hv a) (J5<|JA.out<|Ia Hk<|Ia Hk<|Ia Hk<|Ia (HU Jp Hk<|HR (JC Z Q) a<|Hh (He 1)<|Hh Hk<|Hm)<|La)<|HR (JC Z Q) a<|Hh (He 1)<|Hh Hk<|Hm)<|Hm))<|Hm)<|HB (JS.mk<|WZ (i:=4) rfl rfl (LC (N':=["_law_k","_law_pot","_law_names_here"]) (nt:=1) (fr:=[0,1]) ["_law_pot","_law_names_here"] rfl (by decide +kernel) (by decide +kernel) (by decide +kernel) rfl ⟨⟨rfl,by decide⟩,⟨⟨rfl,by decide⟩,trivial⟩⟩ ⟨by first|exact Bs rfl|exact Bo rfl,⟨by first|exact Bs rfl|exact Bo rfl,trivial⟩⟩) (Le rfl Z.b1<|HU Jp Hk<|HR (JC Z Q) a<|Hh (He 0)<|Hh (Hz (Hv a) (J5<|JA.out<|Ia Hk<|Ia Hk<|Ia Hk<|Ia Hk<|La)<|HR (JC Z Q) a<|Hh (He 0)<|Hh Hk<|Hm)<|Hm) (λC s0 b c=>sgn 0 jO) (λC s0 b c=>Nm) (λC s0 b c=>HR (zg2 Z Q) a (Hh (He 1)<|Hh (He 2)<|Hm)) d rfl rfl)<|HB (Kd (JW (Oa<|J8 a) (HR (JC Z Q) a<|Hh (He 0)<|Hh Hk<|Hm) Hk rfl) (HM<|JS.mk<|KC<|Ms (He 4)<|Hh (Hz (Hv a) (He 4)<|HR (JC Z Q) a<|Hh (He 0)<|Hh (J0 Z Mr Ml<|Hh (He 4)<|Hm)<|Hm)<|Hm)<|Kt)<|HM<|JS.mk<|IL<|Jf<|Hh (He 2)<|Hh (He 3)<|Hh (Kw Z LR LB<|Hh (He 4)<|Hm)<|Hm)
theorem gI:Jd P w K mg base 2 "_law_standing" 4 Ot:=Jo (k:=1) Z (top 28) 21 ["_law_pot","_law_house_here","_law_floor","_law_most","_law_there","_law_k","_law_place"] ["_law_pot","_law_house_here","_law_floor","_law_most"] λb f e A outer s H E a=>Iu.out (HB (JS.mk<|Ij 4 b<|V4)<|HB (Ks AH rfl (Le rfl Z.b1<|HR (JC Z Q) a<|Hh (He 0)<|Hh (HU Jp (He 3)<|Hk)<|Hm) (sgn 5 b)<|HB (JS.mk<|Ij 6 b<|Jf<|Hh (HR (JC Z Q) a<|Hh (He 0)<|Hh (Hz (Hv a) (He 2)<|Hk)<|Hm)<|Hh (HR (JC Z Q) a<|Hh (He 0)<|Hh (Hz (Hv a) (He 2)<|Hk)<|Hm)<|Hm)<|HM<|JS.mk<|Ma (Hv a) (He 4) (He 6)<|HR (JC Z Q) a<|Hh (He 0)<|Hh (J0 Z Mr Ml<|Hh (Hz (Hv a) (He 1)<|Hk)<|Hm)<|Hm)<|HM<|JS.mk<|IL<|Kw Z LR LB<|Hh (J0 Z WV O1<|Hh (Mq rfl rfl (LC (N':=["_law_place","_law_there"]) (nt:=1) (fr:=[4]) ["_law_there"] rfl (by decide +kernel) (by decide +kernel) (by decide +kernel) rfl ⟨⟨rfl,by decide⟩,trivial⟩ ⟨by first|exact Bs rfl|exact Bo rfl,trivial⟩) (ZT<|He 4) (λC s0 c d=>sgn 0 YL) (λC s0 c d=>Nm) λC s0 c d=>HU Jp (He 0) (Jf<|Hh (bU (Hv a) (He 1)<|He 0)<|Hm))<|Hm)<|Hm)
theorem zhU:Jd P w K mg base 4 "_law_bed" 1 WC:=Jo (k:=3) Z (top 29) 22 ["_law_pot","_law_house_here","_law_floor"] ["_law_pot"] λa f b A outer s H E C=>Iu.out (HB (JS.mk<|Ij 1 a<|HR (zgg Z Q) C<|Hh (He 0)<|Hm)<|HB (JS.mk<|Ij 2 a<|Jf<|Hh (HU Jp Hk<|HR (JC Z Q) C<|Hh (He 0)<|Hh Hk<|Hm)<|Hh (HU Jp Hk<|HR (JC Z Q) C<|Hh (He 0)<|Hh (Hz (Hv C) (J5<|JA.out<|Ia Hk<|Ia Hk<|Ia Hk<|Ia Hk<|La)<|HR (JC Z Q) C<|Hh (He 0)<|Hh Hk<|Hm)<|Hm)<|Hm)<|HB (Kd (JW (Oa<|J8 C) (HR (JC Z Q) C<|Hh (He 0)<|Hh Hk<|Hm) Hk rfl) (HM<|JS.mk<|Ij 2 a<|sW (He 2)<|mE<|Hk)<|Kt)<|HM<|JS.mk<|IL<|Jf<|Hh (He 1)<|Hh (He 2)<|Hh (HR (gI Z Q) C<|JA.out<|Ia (He 0)<|Ia (He 1)<|Ia (He 2)<|Ia (Hz (Hv C) (J5<|Hh Hk<|Hh Hk<|Hh Hk<|Hm)<|HR (JC Z Q) C<|Hh (He 0)<|Hh Hk<|Hm)<|La)<|Hm)
theorem Xm:Jd P w K mg base 1 "_law_lying" 1 Rr:=Jo (k:=0) Z (top 30) 23 ["_law_standing_here"] ["_law_standing_here"] λd f b A outer s H E c=>Iu.out (HM<|JS.mk<|IL<|Kw Z (zju rfl<|iG c) Tz<|Hh (Mq rfl rfl (cS ["_law_x","_law_y","_law_kind_here"] 3 [] []) (LP<|He 0) (λC s0 Q a=>Ob rfl (KH (sgn 0 UU)<|KH (sgn 1 UU)<|KH (sgn 2 UU)<|Oj)) (λC s0 Q a=>Nm) λC s0 Q a=>Jf (Hh (Jf<|Hh (He 0)<|Hh (He 1)<|Hm)<|Hh (He 2)<|Hm))<|Hm)
theorem zds:Jd P w K mg base 1 "_law_standing_of" 1 Xr:=Jo (k:=0) Z (top 31) 24 ["_law_there"] ["_law_there"] λd f b A outer s H E c=>Iu.out (HM<|JS.mk<|IL<|Kw Z LR LB<|Hh (J0 Z Us O1<|Hh (sX<|Mq rfl rfl (LC (N':=["_law_place","_law_there"]) (nt:=1) (fr:=[0]) ["_law_there"] rfl (by decide +kernel) (by decide +kernel) (by decide +kernel) rfl ⟨⟨rfl,by decide⟩,trivial⟩ ⟨by first|exact Bs rfl|exact Bo rfl,trivial⟩) (ZT<|He 0) (λC s0 Q a=>sgn 0 YL) (λC s0 Q a=>Nm) λC s0 Q a=>HU Jp (He 0) (Jf<|Hh (bU (Hv c) (He 1)<|He 0)<|Hm))<|Hm)<|Hm)
theorem fK:Jd P w K mg base 1 "_law_step" 2 Nz:=Jo (k:=0) Z (top 32) 25 ["_law_place","_law_side","_law_x","_law_y"] ["_law_place","_law_side"] λC f Q A outer s H E a=>Iu.out (HB (JS.mk<|Vv (He 0)<|Ob rfl<|KH (sgn 2 C)<|KH (sgn 3 C)<|Oj)<|HM<|JS.mk<|IL<|Hz (Hv a) (J5<|JA.out<|Ia (Jf<|Hh (He 2)<|Hh (HU Jp (He 3)<|Hk)<|Hm)<|Ia (Jf<|Hh (HU Jp (He 2)<|Hk)<|Hh (He 3)<|Hm)<|Ia (Jf<|Hh (He 2)<|Hh (HU PR (He 3)<|Hk)<|Hm)<|Ia (Jf<|Hh (HU PR (He 2)<|Hk)<|Hh (He 3)<|Hm)<|La)<|He 1)
theorem zge:Jd P w K mg base 2 "_law_sides" 4 Xh:=Jo (k:=1) Z (top 33) 26 ["_law_bed_here","_law_there","_law_place","_law_kind_here","_law_kinds","_law_found","_law_side","_law_other","_law_mine"] ["_law_bed_here","_law_there","_law_place","_law_kind_here"] λa f b A outer s H E C=>Iu.out (HB (JS.mk<|Zv (i:=4) (j:=5) rfl a rfl rfl (by decide) rfl rfl<|Hh (Hz (Hv C) (Hz (Hv C) (He 0)<|Hk)<|Hk)<|Hh (J5<|Hm)<|Hm)<|HB (Ks AH rfl (Le rfl Z.b1<|Hk) (sgn 6 a)<|HB (JS.mk<|Ij 7 a<|ZR (Hv C) (He 1)<|HR (fK Z Q) C<|Hh (He 2)<|Hh (He 6)<|Hm)<|HB (JS.mk<|Ij 8 a<|Hz (Hv C) (Hz (Hv C) (He 4)<|He 3)<|HU Jp (He 6)<|Hk)<|HM<|Kd (SW.sb<|Od (JW aN (He 7) Te rfl)<|Od (JW (PK<|J8 C) (He 8) Mn rfl)<|OU<|JW (Oa<|J8 C) (Hz (Hv C) (Hz (Hv C) (He 4)<|He 7)<|HU Jp (HU Mb (HU Jp (He 6)<|Hk)<|Hk)<|Hk) (He 8) rfl) (HM<|JS.mk<|KC<|Ms (He 5)<|Hh (He 6)<|Hm)<|Kt)<|HM<|JS.mk<|IL<|He 5)
theorem fB:Jd P w K mg base 3 "_law_by" 4 Nx:=Jo (k:=2) Z (top 34) 27 ["_law_bed_here","_law_there","_law_place","_law_kind_here","_law_sides_here","_law_strengths"] ["_law_bed_here","_law_there","_law_place","_law_kind_here"] λb f e A outer s H E a=>Iu.out (HB (JS.mk<|Ij 4 b<|HR (zge Z Q) a<|JA.out<|Ia (He 0)<|Ia (He 1)<|Ia (He 2)<|Ia (He 3)<|La)<|HB (Kd (JW (Oa<|J8 a) (He 4) (J5<|Hm) rfl) (HM<|JS.mk<|IL<|Hk)<|Kt)<|HB (JS.mk<|Ij 5 b<|Kw Z (W3 rfl) Tz<|Hh (Hz (Hv a) (Hz (Hv a) (He 0)<|Hk)<|Hk)<|Hm)<|HM<|JS.mk<|IL<|J0 Z (cL rfl) Zb<|Hh (Mq rfl rfl (LC (N':=["_law_side","_law_strengths","_law_bed_here","_law_kind_here"]) (nt:=1) (fr:=[5,0,3]) ["_law_strengths","_law_bed_here","_law_kind_here"] rfl (by decide +kernel) (by decide +kernel) (by decide +kernel) rfl ⟨⟨rfl,by decide⟩,⟨⟨rfl,by decide⟩,⟨⟨rfl,by decide⟩,trivial⟩⟩⟩ ⟨by first|exact Bs rfl|exact Bo rfl,⟨by first|exact Bs rfl|exact Bo rfl,⟨by first|exact Bs rfl|exact Bo rfl,trivial⟩⟩⟩) (LP<|He 4) (λC s0 c d=>sgn 0 jP) (λC s0 c d=>Nm) λC s0 c d=>Hz (Hv a) (He 1) (Hz (Hv a) (Hz (Hv a) (Hz (Hv a) (Hz (Hv a) (He 2)<|Hk)<|Hk)<|He 3)<|HU Jp (He 0)<|Hk))<|Hm)
theorem zgh:Jd P w K mg base 2 "_law_empty" 2 Ul:=Jo (k:=1) Z (top 35) 28 ["_law_bed_here","_law_there","_law_found","_law_x","_law_y","_law_beside"] ["_law_bed_here","_law_there"] λb f e A outer s H E a=>Iu.out (HB (JS.mk<|Ij 2 b<|J5<|Hm)<|HB (Ks AH rfl (Le rfl Z.b1<|Hz (Hv a) (Hz (Hv a) (He 0)<|Hk)<|Hk) (sgn 3 b)<|HM<|Ks AH rfl (Le rfl Z.b1<|Hz (Hv a) (Hz (Hv a) (He 0)<|Hk)<|Hk) (sgn 4 b)<|HB (JS.mk<|WZ (i:=5) rfl rfl (LC (N':=["_law_side","_law_x","_law_y","_law_there"]) (nt:=1) (fr:=[3,4,1]) ["_law_x","_law_y","_law_there"] rfl (by decide +kernel) (by decide +kernel) (by decide +kernel) rfl ⟨⟨rfl,by decide⟩,⟨⟨rfl,by decide⟩,⟨⟨rfl,by decide⟩,trivial⟩⟩⟩ ⟨by first|exact Bs rfl|exact Bo rfl,⟨by first|exact Bs rfl|exact Bo rfl,⟨by first|exact Bs rfl|exact Bo rfl,trivial⟩⟩⟩) (Le rfl Z.b1<|Hk) (λC s0 c d=>sgn 0 jQ) (λC s0 c d=>QV (QU (J8 a) (HR (fK Z Q) a<|Hh (Jf<|Hh (He 1)<|Hh (He 2)<|Hm)<|Hh (He 0)<|Hm)<|He 3)) (λC s0 c d=>He 0) b rfl rfl)<|HM<|Kd (SW.sb<|Od (T3 (J8 a) (Jf<|Hh (He 3)<|Hh (He 4)<|Hm)<|He 1)<|OU<|JW (PK<|J8 a) (He 5) (J5<|Hm) rfl) (HM<|JS.mk<|KC<|Ms (He 2)<|Hh (Jf<|Hh (He 3)<|Hh (He 4)<|Hm)<|Hm)<|Kt)<|HM<|JS.mk<|IL<|He 2)
theorem fO:Jd P w K mg base 4 "_law_may" 2 O3:=Jo (k:=3) Z (top 36) 29 ["_law_bed_here","_law_there","_law_found","_law_place","_law_kind_here"] ["_law_bed_here","_law_there"] λa f b A outer s H E C=>Iu.out (HB (JS.mk<|Ij 2 a<|J5<|Hm)<|HB (Ks AH rfl (LP<|HR (zgh Z Q) C<|Hh (He 0)<|Hh (He 1)<|Hm) (sgn 3 a)<|HM<|Ks AH rfl (Le rfl Z.b1<|J0 Z Mr Ml<|Hh (Hz (Hv C) (Hz (Hv C) (He 0)<|Hk)<|Hk)<|Hm) (sgn 4 a)<|HM<|Kd (JW QJ (HR (fB Z Q) C<|JA.out<|Ia (He 0)<|Ia (He 1)<|Ia (He 3)<|Ia (He 4)<|La) (Hz (Hv C) (Hz (Hv C) (He 0)<|Hk)<|Hk) rfl) (HM<|JS.mk<|KC<|Ms (He 2)<|Hh (HU Jp (He 3)<|Jf<|Hh (He 4)<|Hm)<|Hm)<|Kt)<|HM<|JS.mk<|IL<|He 2)
theorem zg1:Jd P w K mg base 5 "_law_walk" 3 Ur:=Jo (k:=4) Z (top 37) 30 ["_law_pot","_law_bed_here","_law_most","_law_there","_law_row","_law_k","_law_some","_law_tile"] ["_law_pot","_law_bed_here","_law_most"] λa f b A outer s H E C=>Iu.out (HB (JS.mk<|Zv (i:=3) (j:=4) rfl a rfl rfl (by decide) rfl rfl<|Hh (HR (Xm Z Q) C<|Hh (Hz (Hv C) (He 1)<|Hk)<|Hm)<|Hh (J5<|Hm)<|Hm)<|HB (Ks AH rfl (Le rfl Z.b1<|He 2) (sgn 5 a)<|HB (JS.mk<|Ij 6 a<|HR (fO Z Q) C<|Hh (He 1)<|Hh (He 3)<|Hm)<|HM<|Kd (JW (PK<|J8 C) (He 6) (J5<|Hm) rfl) (HB (JS.mk<|Ij 7 a<|Hz (Hv C) (He 6)<|HR (JC Z Q) C<|Hh (He 0)<|Hh (J0 Z Mr Ml<|Hh (He 6)<|Hm)<|Hm)<|HB (JS.mk<|Ma (Hv C) (He 3) (M6 (He 7) M4<|M5<|Hk)<|Hz (Hv C) (He 7)<|Hk)<|HM<|JS.mk<|KC<|Ms (He 4)<|Hh (He 7)<|Hm)<|Kt)<|HM<|JS.mk<|IL<|Kw Z LR LB<|Hh (He 4)<|Hm)
theorem zgd:Jd P w K mg base 4 "_law_sound" 2 Xi:=Jo (k:=3) Z (top 38) 31 ["_law_bed_here","_law_standing_here","_law_there","_law_grows","_law_x","_law_y","_law_kind_here"] ["_law_bed_here","_law_standing_here"] λC f b A outer s H E a=>Iu.out (HB (JS.mk<|Ij 2 C<|HR (Xm Z Q) a<|Hh (Hz (Hv a) (He 0)<|Hk)<|Hm)<|HB (JS.mk<|Ij 3 C<|Px)<|HB (We AH (Vo<|He 3)<|HB (JS.mk<|Ij 3 C<|Px)<|HM<|Ks AH rfl (LP<|He 1) (Ob rfl<|KH (sgn 4 C)<|KH (sgn 5 C)<|KH (sgn 6 C)<|Oj)<|HM<|Kd (SW.sb<|Od (T3 (J8 a) (Jf<|Hh (He 4)<|Hh (He 5)<|Hm)<|He 2)<|OU<|JW QJ (HR (fB Z Q) a<|JA.out<|Ia (He 0)<|Ia (He 2)<|Ia (Jf<|Hh (He 4)<|Hh (He 5)<|Hm)<|Ia (He 6)<|La) (Hz (Hv a) (Hz (Hv a) (He 0)<|Hk)<|Hk) rfl) (HB (JS.mk<|Ma (Hv a) (He 2) (Jf<|Hh (He 4)<|Hh (He 5)<|Hm)<|He 6)<|HM<|JS.mk<|Ij 3 C<|Px)<|Kt)<|HM<|JS.mk<|IL<|He 2)
theorem zfj:Jd P w K mg base 6 "_law_spoilt" 2 Rq:=Jo (k:=5) Z (top 39) 32 ["_law_pot","_law_bed_here","_law_there","_law_tile","_law_k","_law_places","_law_way","_law_place"] ["_law_pot","_law_bed_here"] λa f b A outer s H E C=>Iu.out (HB (JS.mk<|Ij 2 a<|HR (Xm Z Q) C<|Hh (Hz (Hv C) (He 1)<|Hk)<|Hm)<|HB (Ks AH rfl (LP<|HR (zg1 Z Q) C<|Hh (He 0)<|Hh (He 1)<|Hh Hk<|Hm) (sgn 3 a)<|HM<|JS.mk<|Ma (Hv C) (He 2) (M6 (He 3) M4<|M5<|Hk)<|Hz (Hv C) (He 3)<|Hk)<|HB (Ks AH rfl (Le rfl Z.b1<|HR (JC Z Q) C<|Hh (He 0)<|Hh Hk<|Hm) (sgn 4 a)<|HB (JS.mk<|Ij 5 a<|J0 Z (zhm rfl) O1<|Hh (He 2)<|Hm)<|HB (JS.mk<|Ij 6 a<|HR (JC Z Q) C<|Hh (He 0)<|Hh Hk<|Hm)<|HB (JS.mk<|Ij 7 a<|Jf<|Hh (HR (JC Z Q) C<|Hh (He 0)<|Hh (Hz (Hv C) (Hz (Hv C) (He 1)<|Hk)<|Hk)<|Hm)<|Hh (HR (JC Z Q) C<|Hh (He 0)<|Hh (Hz (Hv C) (Hz (Hv C) (He 1)<|Hk)<|Hk)<|Hm)<|Hm)<|HB (Kd (SW.sb<|Od (JW Zl (He 6) Hk rfl)<|OU<|JW (PK<|J8 C) (He 5) (J5<|Hm) rfl) (HM<|JS.mk<|Ij 7 a<|Hz (Hv C) (He 5)<|HR (JC Z Q) C<|Hh (He 0)<|Hh (J0 Z Mr Ml<|Hh (He 5)<|Hm)<|Hm)<|Kt)<|HM<|Kd (SW.sb<|Od (JW (Oa<|J8 C) (He 6) Hk rfl)<|OU<|QU (J8 C) (He 7)<|He 2) (HM<|JS.mk<|KC<|sV (Hv C) (He 2)<|He 7)<|HM<|JS.mk<|Ma (Hv C) (He 2) (He 7)<|HR (JC Z Q) C<|Hh (He 0)<|Hh (J0 Z Mr Ml<|Hh (Hz (Hv C) (Hz (Hv C) (He 1)<|Hk)<|Hk)<|Hm)<|Hm)<|HM<|JS.mk<|IL<|HR (zds Z Q) C<|Hh (He 2)<|Hm)
theorem zhT:Jd P w K mg base 5 "_law_due" 2 T8:=Jo (k:=4) Z (top 40) 33 ["_law_bed_here","_law_standing_here","_law_there","_law_off","_law_row","_law_k","_law_some","_law_tile"] ["_law_bed_here","_law_standing_here"] λb f e A outer s H E a=>Iu.out (HB (JS.mk<|Ij 2 b<|HR (zgd Z Q) a<|Hh (He 0)<|Hh (He 1)<|Hm)<|HB (JS.mk<|Ij 3 b<|Kw Z LR LB<|Hh (Mq rfl rfl (LC (N':=["_law_tile","_law_there"]) (nt:=1) (fr:=[2]) ["_law_there"] rfl (by decide +kernel) (by decide +kernel) (by decide +kernel) rfl ⟨⟨rfl,by decide⟩,trivial⟩ ⟨by first|exact Bs rfl|exact Bo rfl,trivial⟩) (LP<|He 1) (λC s0 c d=>sgn 0 jR) (λC s0 c d=>QV (JW (PK<|J8 a) (ZR (Hv a) (He 1)<|M6 (He 0) M4<|M5<|Hk) (Hz (Hv a) (He 0)<|Hk) rfl)) λC s0 c d=>He 0)<|Hm)<|HB (JS.mk<|Ij 4 b<|J5<|Hm)<|HB (Ks AH rfl (Le rfl Z.b1<|HU Mc (Hz (Hv a) (Hz (Hv a) (He 0)<|Hk)<|Hk)<|Hz (Hv a) (Hz (Hv a) (He 0)<|Hk)<|Hk) (sgn 5 b)<|HB (JS.mk<|Ij 6 b<|HR (fO Z Q) a<|Hh (He 0)<|Hh (He 2)<|Hm)<|HM<|Ks AH rfl (LP<|M6 (He 6) M4<|M5<|Hk) (sgn 7 b)<|HB (JS.mk<|Ma (Hv a) (He 2) (M6 (He 7) M4<|M5<|Hk)<|Hz (Hv a) (He 7)<|Hk)<|HM<|JS.mk<|KC<|Ms (He 4)<|Hh (He 7)<|Hm)<|HM<|JS.mk<|IL<|Jf<|Hh (He 3)<|Hh (Kw Z LR LB<|Hh (He 4)<|Hm)<|Hm)
theorem kK{f:Addr}{fd:FuncData}(F:MK K "law" "law" (top 41) f fd):I0 P w K mg base Kx 9 f fd ["_law_script"] (Mv K 1<|UT C):=iY (k:=8) F ["_law_script","_law_k","_law_pot","_law_bed_here","_law_standing_here","_law_due_here"] ["_law_script"] λb c A outer s H E a=>Iu.out (HB (Ks AH rfl (Le rfl Z.b1<|HU Jp Hk<|J0 Z (zM rfl) Za<|Hh Hk<|Hh (J0 Z Mr Ml<|Hh (He 0)<|Hm)<|Hm) (sgn 1 b)<|HB (JS.mk<|Ij 2 b<|HR (zgi Z Q) a<|Hh (He 0)<|Hh (He 1)<|Hm)<|HB (JS.mk<|Ij 3 b<|HR (zhU Z Q) a<|Hh (He 2)<|Hm)<|HM<|Ks AH rfl (LP<|J5<|Hh (HR (zfj Z Q) a<|Hh (He 2)<|Hh (He 3)<|Hm)<|Hh (HR (gI Z Q) a<|JA.out<|Ia (He 2)<|Ia (Hz (Hv a) (He 3)<|Hk)<|Ia (Hz (Hv a) (He 3)<|Hk)<|Ia Hk<|La)<|Hm) (sgn 4 b)<|HB (JS.mk<|Ij 5 b<|J0 Z (WG a.gd<|VQ a) Vz<|Hh (HR (zhT Z Q) a<|Hh (He 3)<|Hh (He 4)<|Hm)<|Hm)<|HM<|Kd (SW.sb<|YR (JW Zn (J0 Z (WG a.gd<|VQ a) Vz<|Hh (HR (bW Z Q) a<|Hh (He 3)<|Hh (He 4)<|Hm)<|Hm) (He 5) rfl)<|Zx<|JW Zn (J0 Z (WG a.gd<|VQ a) Vz<|Hh (HR (bW Z Q) a<|Hh (He 3)<|Hh (He 4)<|Hm)<|Hm) (He 5) rfl) (HM<|JS.mk<|IL<|Px)<|Kt)<|HM<|JS.mk<|IL<|Px)
end
end L2.MP.T0
namespace L2.MP.T0
open PySem L2.MP L2.MP.Hd
open L2.MP.Hn (HL)
variable {x y:Int}
def V0{d:Nat}{kvs:List (List Key×D)}{st:Hf}(h:st[d]?=some (.dt kvs)):KZ (.tup [.int x,.int y]) (.ref d) st=some (.bl (!(HQ kvs [.inl x,.inl y]).isSome),st):=by
 have a:ID 50 st (.ref d)=none:=by rw[ID];simp[HZ,h]
 have b:inD true (.tup [.int x,.int y]) (.ref d) st=none:=by
  unfold inD;rw[a];cases ID 50 st (.tup [.int x,.int y])<;>rfl
 unfold KZ JT SF JT;rw[b,Kh];simp[NQ,look,h,keysOf,keyOf,Kg]
def tD(t:Tl):D:=HF<|HV t
def Kj(stk:List (Str×Int))(ks:List (List Str))(P:List Tl)(x y:Int)(k:Nat):Int:=((Jq (IE ks (k:Int))<|names4 ks P x y).map λp=>sv stk p.1).sum
def gK(e:Int)(stk:List (Str×Int))(ks:List (List Str))(P:List Tl)(x y:Int)(n:Nat):List Tl:=((AB n).filter λk=>decide (e<=Kj stk ks P x y k)).map λ(k:Nat)=>(x,y,(k:Int))
def Tq(e:Int)(stk:List (Str×Int))(ks:List (List Str))(P:List Tl)(x y:Int)(n:Nat):gK e stk ks P x y (n+1)=if e<=Kj stk ks P x y n then gK e stk ks P x y n++[(x,y,(n:Int))]else gK e stk ks P x y n:=by
 unfold gK;rw[Co,DM,AU];by_cases h:e<=Kj stk ks P x y n
 ·rw[if_pos h];simp[h]
 rw[if_neg h];simp[h]
def SN(e:Int)(stk:List (Str×Int))(ks:List (List Str))(P:List Tl)(x y:Int)(n:Nat):(gK e stk ks P x y n).length<=n:=by unfold gK;rw[Af];exact AA (AN _ _)<|by simp
structure Ctx(bed:D)(e:Int)(stk:List (Str×Int))(ks:List (List Str))(w h:Int):Prop where
 at_:∃hs:D,(∀s:Hf,Hg bed (.int 0) s=some (hs,s))/\(∀s:Hf,Hg hs (.int 0) s=some (.int e,s))/\(∀s:Hf,Hg hs (.int 1) s=some (.tup (stk.map J6),s))/\∀s:Hf,Hg hs (.int 2) s=some (.tup (ks.map IH),s)
 fl:∀s:Hf,Hg bed (.int 1) s=some (.tup [.int w,.int h],s)
 hs:NV e stk ks
 fo:JB w h
variable {e w h:Int}
def Ctx.bed{bed:D}{e w h:Int}{stk:List (Str×Int)}{ks:List (List Str)}(c:Ctx bed e stk ks w h):Ky bed stk ks:=let ⟨x,i0,_,i1,i2⟩:=c.at_;⟨x,i0,i1,i2⟩
def Ctx.ks{bed:D}{e w h:Int}{stk:List (Str×Int)}{ks:List (List Str)}(c:Ctx bed e stk ks w h):KP (stk.map (·.1)) ks:=⟨by have:=c.hs.hi;omega,c.hs.kd⟩
def Ctx.stk{bed:D}{e w h:Int}{stk:List (Str×Int)}{ks:List (List Str)}(c:Ctx bed e stk ks w h):∀p∈stk,1<=p.2/\p.2<=4:=λp x=>(c.hs.nm p x).2
def Ya{S:List Str}:Jq S [("":Str),("":Str),("":Str),("":Str)]=[]:=by
 unfold Jq;rw[Dc];intro p e;obtain⟨a,b⟩:=p;have w:b="":=by have:=(CL e).2;simpa using this
 subst w;cases h:a=="" with
 |true=>simp[bne,h]
 |false=>simp[h]
def Zt{stk:List (Str×Int)}{ks:List (List Str)}{P:List Tl}(he:1<=e)(h:names4 ks P x y=[("":Str),("":Str),("":Str),("":Str)])(n:Nat):gK e stk ks P x y n=[]:=by
 unfold gK;have:(AB n).filter (λk=>decide (e<=Kj stk ks P x y k))=[]:=by rw[Dc];intro k _;unfold Kj;rw[h,Ya];simp;omega
 rw[this];rfl
end L2.MP.T0
namespace L2.MP.T0
open PySem L2.MP L2.MP.Hd
def nb(x y:Int):Nat->Int×Int
 |0=>(x,y+1)
 |1=>(x+1,y)
 |2=>(x,y-1)
 |_=>(x-1,y)
def Iv(P:List Tl)(x y:Int)(j:Nat):Bool:=(HS P (nb x y j).1 (nb x y j).2).isSome
def Lm(P:List Tl)(x y:Int):Bool:=!(HS P x y).isSome&&!((AB 4).filter<|Iv P x y).isEmpty
variable {ks:List (List Str)}{P:List Tl}{x y:Int}
def pW(h:(AB 4).filter (Iv P x y)=[]):names4 ks P x y=[("":Str),("":Str),("":Str),("":Str)]:=by
 rw[Dc]at h;have a:HS P x (y+1)=none:=by simpa[Iv,nb]using h 0 (by decide)
 have b:HS P (x+1) y=none:=by simpa[Iv,nb]using h 1 (by decide)
 have c:HS P x (y-1)=none:=by simpa[Iv,nb]using h 2 (by decide)
 have d:HS P (x-1) y=none:=by simpa[Iv,nb]using h 3 (by decide)
 unfold names4 JZ;simp only[a,b,c,d]
section
variable (P:List Tl)
def eC(x:Int)(m:Nat):List (Int×Int):=((AB m).filter λ(j:Nat)=>Lm P x (j:Int)).map λ(j:Nat)=>(x,(j:Int))
def eF(h:Int)(n:Nat):List (Int×Int):=((AB n).map λ(i:Nat)=>eC P (i:Int) h.toNat).flatten
def oW(x:Int)(m:Nat):eC P x (m+1)=if Lm P x (m:Int)=true then eC P x m++[(x,(m:Int))]else eC P x m:=by
 unfold eC;rw[Co,DM,AU];by_cases h:Lm P x (m:Int)=true
 ·rw[if_pos h];simp[h]
 rw[if_neg h];simp[h]
def VD(h:Int)(n:Nat):eF P h (n+1)=eF P h n++eC P (n:Int) h.toNat:=by unfold eF;rw[Co,AU,DC];simp
def Zd(x:Int)(m:Nat):(eC P x m).length<=m:=by unfold eC;rw[Af];exact AA (AN _ _)<|by simp
theorem SM(h:Int):∀n:Nat,(eF P h n).length<=n*h.toNat
 |0=>by simp[eF]
 |n+1=>by have a:=SM h n;have x:=Zd P (n:Int) h.toNat;rw[VD,AD,DH];omega
end
def Ik(e:Int)(stk:List (Str×Int))(ks:List (List Str))(P:List Tl)(ps:List (Int×Int)):List Tl:=(ps.map λp=>gK e stk ks P p.1 p.2 ks.length).flatten
def wU(e:Int)(stk:List (Str×Int))(ks:List (List Str))(P:List Tl)(a b:List (Int×Int)):Ik e stk ks P (a++b)=Ik e stk ks P a++Ik e stk ks P b:=by unfold Ik;rw[AU,DC]
variable {l:Nat}{st:Hf}
def ne_nil{m:Nat}{js:List Nat}(a:st[l]?=some (.lst<|js.map λ(i:Nat)=>D.int (i:Int)))(hm:st[m]?=some (.lst [])):JO (.ref l) (.ref m) st=some (.bl !js.isEmpty,st):=by
 have e:(js.map λ(i:Nat)=>D.int (i:Int))=(js.map λ(i:Nat)=>(i:Int)).map D.int:=by rw[AI];rfl
 rw[e]at a;unfold JO;rw[P4 (n:=98) a,P4 (n:=98) (as:=[]) hm];cases js<;>rfl
variable {d:Nat}{s s1:Hf}
def pV{J a b:Int}{q:Bool}(c:Nz [.tup [.int x,.int y],.int J] s=some (.tup [.int a,.int b],s1))(e:Km (.tup [.int a,.int b]) (.ref d) s1=some (.bl q,s1)):O5 [some (.int J),some (.int x),some (.int y),some (.ref d)] s=some (q,s1):=by unfold O5;simp[c,e]
def pU(hd:st[d]?=some (.dt<|P.map Hj)):∃b,Jt ⟨run 0 4,[]⟩ (Hl 0) O5 Rk (run 0 4) [none,some (.int x),some (.int y),some (.ref d)] st=some (((AB 4).filter<|Iv P x y).map λ(i:Nat)=>D.int (i:Int),b)/\Gr st b:=by
 have key:=OD (W:=⟨run 0 4,[]⟩) (g:=Hl 0) (c:=O5) (m:=Rk) (ds:=run 0 4) (acc:=[]) (st:=st) (U:=[none,some (.int x),some (.int y),some (.ref d)])
  (Inv:=λk a U s=>Y3 ((∃u,U=[u,some (.int x),some (.int y),some (.ref d)])) (a=fl (Iv P x y) k) (Gr st s))
  ⟨⟨_,rfl⟩,rfl,Gr.refl _⟩ (λ_ _ _ _ _ _=>rfl) (λk z a U s j p=>by
   obtain⟨⟨u,rfl⟩,rfl,n⟩:=p;obtain⟨hk,rfl⟩:=LL j;have q:[D.tup [.int x,.int (y+1)],.tup [.int (x+1),.int y],.tup [.int x,.int (y-1)],.tup [.int (x-1),.int y]][((k:Nat):Int).toNat]?=some (.tup [.int (nb x y k).1,.int (nb x y k).2]):=by
    rw[By]
    match k,hk with
    |0,_=>rfl
    |1,_=>rfl
    |2,_=>rfl
    |3,_=>rfl
   obtain⟨s1,r,g1⟩:=ZV (s:=s) (J:=(k:Int)) (by omega) q;have l:=n.trans g1;have e:=Pr (x:=(nb x y k).1) (y:=(nb x y k).2)<|(l.old _<|qax hd).trans hd;rw[Lz,Bx]at e;have f:=pV r e
   cases h:(HS P (nb x y k).1 (nb x y k).2).isSome with
   |true=>
    rw[h]at f;refine⟨[some (.int (k:Int)),some (.int x),some (.int y),some (.ref d)],s,true,s1,rfl,f,.inl ⟨rfl,.int (k:Int),s1,rfl,⟨_,rfl⟩,?_,l⟩⟩;rw[PX,if_pos (show Iv P x y k=true from h)]
   |false=>
    rw[h]at f;refine⟨[some (.int (k:Int)),some (.int x),some (.int y),some (.ref d)],s,false,s1,rfl,f,.inr ⟨rfl,⟨_,rfl⟩,?_,l⟩⟩;rw[PX,if_neg (show ¬Iv P x y k=true by unfold Iv;rw[h];decide)])
 obtain⟨xs,A,v,w,_,o,n⟩:=key;rw[CQ]at o;subst o;exact⟨v,w,n⟩
variable {bed:D}{a5:Option D}{L:List D}{s2:Hf}
def oQ{b:Nat}{c e:Bool}(h:Jm (Jc<|mK<|.int 4) 1 [3,4,1] (Hl 0) O5 Rk [some bed,some (.ref d),some (.ref l),some (.int x),some (.int y),a5] s=some (.ref b,s1))(f:KZ (.tup [.int x,.int y]) (.ref d) s1=some (.bl c,s1))(a:s1++[.lst []]=s2)(g:JO (.ref b) (.ref s1.length) s2=some (.bl e,s2))(i:s2[l]?=some (.lst L))(j:K4 (.ref l) [.tup [.int x,.int y]] s2=some (.non,s2.set l (.lst<|L++[.tup [.int x,.int y]]))):
  Rn [some bed,some (.ref d),some (.ref l),some (.int x),some (.int y),a5] s=some (.nx [some bed,some (.ref d),some (.ref l),some (.int x),some (.int y),some (.ref b)],if c=true then(if e=true then s2.set l (.lst<|L++[.tup [.int x,.int y]])else s2)else s1):=by
 unfold Rn;refine Hw (U1:=[some bed,some (.ref d),some (.ref l),some (.int x),some (.int y),some (.ref b)]) (s1:=s1) (by rw[N8,h];rfl) ?_
 cases c with
 |false=>simp[f]
 |true=>
  cases e with
  |false=>simp[f,a,g]
  |true=>simp[f,a,g,HZ,i,j]
variable {st0:Hf}
def oP{L:List (Int×Int)}(hd:s[d]?=some (.dt<|P.map Hj))(e:s[l]?=some (.lst<|L.map HG))(A:L.length<=9000)(h0:st0.length<=l)(f:d≠l)(h:Gr st0 s):
  ∃(o:Option D) (s':Hf),Y4 (Rn [some bed,some (.ref d),some (.ref l),some (.int x),some (.int y),a5] s=some (.nx [some bed,some (.ref d),some (.ref l),some (.int x),some (.int y),o],s')) (s'[l]?=some (.lst<|(if Lm P x y=true then L++[(x,y)]else L).map HG)) (s'[d]?=s[d]?) (Gr st0 s'):=by
 obtain⟨s1,p,g1⟩:=pU (x:=x) (y:=y) hd;have hle:((AB 4).filter<|Iv P x y).length<=4:=by have:=AN (Iv P x y)<|AB 4;rw[Cv]at this;exact this
 have m:fits (((AB 4).filter<|Iv P x y).map λ(i:Nat)=>D.int (i:Int)).length=true:=JP (by rw[Af];omega);have a2:=Iq s1<|.lst<|((AB 4).filter<|Iv P x y).map λ(i:Nat)=>D.int (i:Int);have g2:=g1.trans<|Gr.app s1 [.lst (((AB 4).filter<|Iv P x y).map λ(i:Nat)=>D.int (i:Int))];have q:Jm (Jc<|mK<|.int 4) 1 [3,4,1] (Hl 0) O5 Rk [some bed,some (.ref d),some (.ref l),some (.int x),some (.int y),a5] s=some (.ref s1.length,s1++[.lst (((AB 4).filter<|Iv P x y).map λ(i:Nat)=>D.int (i:Int))]):=by rw[JN,QM (k:=4) rfl (by decide)];simp only[Ae];rw[show IU [some bed,some (.ref d),some (.ref l),some (.int x),some (.int y),a5] 1 [3,4,1]=[none,some (.int x),some (.int y),some (.ref d)] from rfl,p];simp only[Ae,m,if_true]
 generalize s1++[O.lst (((AB 4).filter<|Iv P x y).map λ(i:Nat)=>D.int (i:Int))]=s2 at *;have b:=V0 (x:=x) (y:=y)<|(g2.old _<|qax hd).trans hd;rw[Lz,Bx]at b;have r:(s2++[O.lst []])[s1.length]?=some (.lst<|((AB 4).filter<|Iv P x y).map λ(i:Nat)=>D.int (i:Int)):=by rw[Aj (qax a2)];exact a2
 have u:=ne_nil r<|Iq s2<|.lst [];have g3:=g2.trans<|Gr.app s2 [.lst []];have n:=(g2.old _<|qax e).trans e;have a:=(g3.old _<|qax e).trans e;have hd2:=g2.old _<|qax hd;have c:=g3.old _<|qax hd;have v:=append_at (x:=.tup [.int x,.int y]) a (by rw[Af];omega);have w:=oQ q b rfl u a v;generalize s2++[O.lst []]=s3 at *;refine⟨_,_,w,?_,?_,?_⟩
 ·unfold Lm
  cases (HS P x y).isSome with
  |true=>simpa using n
  |false=>
   cases ((AB 4).filter<|Iv P x y).isEmpty with
   |true=>simpa using a
   |false=>
    simp only[EZ,if_true,GM];rw[Aq (qax a),AU];rfl
 ·cases (HS P x y).isSome with
  |true=>simpa using hd2
  |false=>
   cases ((AB 4).filter<|Iv P x y).isEmpty with
   |true=>simpa using c
   |false=>
    simp only[EZ,if_true];rw[Ag (Bt f)];exact c
 ·cases (HS P x y).isSome with
  |true=>simpa using h.trans g2
  |false=>
   cases ((AB 4).filter<|Iv P x y).isEmpty with
   |true=>simpa using h.trans g3
   |false=>
    simp only[EZ,if_true];have g:=h.trans g3;exact⟨by rw[Bf];exact g.len,λj z=>by rw[Ag (by omega)];exact g.old j z⟩
variable {e w h:Int}{stk:List (Str×Int)}
def TK(c:Ctx bed e stk ks w h)(hd:st[d]?=some (.dt<|P.map Hj)):
  ∃o,Y3 (Ul [bed,.ref d] st=some (.ref st.length,o)) (o[st.length]?=some (.lst<|(eF P h w.toNat).map HG)) (Gr st o):=by
 have f1:=c.fo.w0;have f2:=c.fo.w1;have f3:=c.fo.h0;have f4:=c.fo.h1;have E:=qax hd;have F:h.toNat<=12:=by omega
 have bound:∀n m:Nat,n<=12->m<=h.toNat->(eF P h n++eC P (n:Int) m).length<=9000:=λn m N hm=>by have b1:=SM P h n;have b2:=Zd P (n:Int) m;have b3:n*h.toNat<=12*12:=Cb N F;rw[AD];omega
 have G:(st++[O.lst []])[d]?=some (.dt<|P.map Hj):=by rw[Aj E];exact hd
 have key:=Ku (W:=⟨run 0 w.toNat,[]⟩) (g:=Hl 3) (m:=W9) (ds:=run 0 w.toNat) (U:=[some bed,some (.ref d),some (.ref st.length),none,none,none]) (st:=st++[.lst []])
  (Inv:=λk U s=>Y4 ((∃a b H,U=[some bed,some (.ref d),some (.ref st.length),a,b,H])) (s[st.length]?=some (.lst<|(eF P h k).map HG)) (s[d]?=some (.dt<|P.map Hj)) (Gr st s))
  ⟨⟨_,_,_,rfl⟩,Iq _ _,G,Gr.app _ _⟩ (λ_ _ _ _ _=>rfl) (λk Q U s p I=>by
   obtain⟨⟨u,v,q,rfl⟩,L,f,B⟩:=I;obtain⟨hk,rfl⟩:=LL p;have C:=Ku (W:=⟨run 0 h.toNat,[]⟩) (g:=Hl 4) (m:=Rn) (ds:=run 0 h.toNat) (U:=[some bed,some (.ref d),some (.ref st.length),some (.int (k:Int)),v,q]) (st:=s)
    (Inv:=λj U s=>Y4 ((∃b H,U=[some bed,some (.ref d),some (.ref st.length),some (.int (k:Int)),b,H])) (s[st.length]?=some (.lst<|(eF P h k++eC P (k:Int) j).map HG)) (s[d]?=some (.dt<|P.map Hj)) (Gr st s))
    ⟨⟨_,_,rfl⟩,by simpa[eC]using L,f,B⟩ (λ_ _ _ _ _=>rfl) (λj Q U s p I=>by
     obtain⟨⟨v,q,rfl⟩,L,f,B⟩:=I;obtain⟨hj,rfl⟩:=LL p;obtain⟨b5,A,S,l,i,r⟩:=oP (bed:=bed) (x:=(k:Int)) (y:=(j:Int)) (a5:=q) f L (bound k j (by omega)<|by omega) (Ah _) (by omega) B;refine⟨[some bed,some (.ref d),some (.ref st.length),some (.int (k:Int)),some (.int (j:Int)),q],s,_,A,rfl,S,⟨_,_,rfl⟩,?_,i.trans f,r⟩;rw[l,oW]
     by_cases ho:Lm P (k:Int) (j:Int)=true
     ·rw[if_pos ho,if_pos ho,Am]
     rw[if_neg ho,if_neg ho])
   obtain⟨T,A,J,⟨X,Y,rfl⟩,l,i,r⟩:=C;rw[Ld]at l;refine⟨[some bed,some (.ref d),some (.ref st.length),some (.int (k:Int)),v,q],s,[some bed,some (.ref d),some (.ref st.length),some (.int (k:Int)),X,Y],A,rfl,?_,⟨_,_,_,rfl⟩,by rw[VD];exact l,i,r⟩;have K:small h=true:=Om (by omega) (by omega);have z:=c.fl s;have M:Hg (.tup [.int w,.int h]) (.int 1) s=some (.int h,s):=Io (by decide) rfl;unfold W9;have:Jc (mB Hg (mB Hg (mV 0)<|mK<|.int 1)<|mK<|.int 1) [some bed,some (.ref d),some (.ref st.length),some (.int (k:Int)),v,q] s=some (⟨run 0 h.toNat,[]⟩,s):=by generalize (k:Int)=kk;simp[z,M,K]
   rw[Ki,this];exact J)
 obtain⟨T,A,J,⟨u,v,q,rfl⟩,L,f,B⟩:=key;rw[Ld]at L;refine⟨A,IJ ?_,L,B⟩;have K:small w=true:=Om (by omega) (by omega);have z:=c.fl (st++[.lst []]);have Z:Hg (.tup [.int w,.int h]) (.int 0) (st++[.lst []])=some (.int w,st++[.lst []]):=Io (by decide) rfl;unfold fD;refine Hw (U1:=[some bed,some (.ref d),some (.ref st.length),none,none,none]) (s1:=st++[.lst []]) (by simp) ?_;refine Hw (U1:=[some bed,some (.ref d),some (.ref st.length),u,v,q]) (s1:=A) (by
  have:Jc (mB Hg (mB Hg (mV 0)<|mK<|.int 1)<|mK<|.int 0) [some bed,some (.ref d),some (.ref st.length),none,none,none] (st++[.lst []])=some (⟨run 0 w.toNat,[]⟩,st++[.lst []]):=by simp[z,Z,K]
  rw[Ki,this];exact J) ?_
 simp
open L2.MP.Hn (HL Mu Hs JX)
def Tb{k:Nat}(h:(IE ks (k:Int)).length=4):((alike (IE ks (k:Int))<|names4 ks P x y).map λi=>sv stk ((IE ks (k:Int)).getD i "")).sum=Kj stk ks P x y k:=by unfold Kj;rw[zlP h rfl]
variable {hs pl:D}{K E:Int}
def pS{R:Int}{v:D}(b:Nx [bed,.ref d,pl,.int K] s=some (.int R,s1))(c:Hg bed (.int 0) s1=some (hs,s1))(f:Hg hs (.int 0) s1=some (.int E,s1))(g:E<=R)(i:s1[l]?=some (.lst L))(j:HE pl (.tup [.int K]) s1=some (v,s1))(a:K4 (.ref l) [v] s1=some (.non,s1.set l (.lst<|L++[v]))):
  Qg [some bed,some (.ref d),some (.ref l),some pl,some (.int K)] s=some (.nx [some bed,some (.ref d),some (.ref l),some pl,some (.int K)],s1.set l (.lst<|L++[v])):=by
 unfold Qg;simp[b,c,f,g,HZ,i,j,a]
def vP{R:Int}(a:Nx [bed,.ref d,pl,.int K] s=some (.int R,s1))(b:Hg bed (.int 0) s1=some (hs,s1))(c:Hg hs (.int 0) s1=some (.int E,s1))(f:¬E<=R):
  Qg [some bed,some (.ref d),some (.ref l),some pl,some (.int K)] s=some (.nx [some bed,some (.ref d),some (.ref l),some pl,some (.int K)],s1):=by
 unfold Qg;simp[a,b,c,f]
def Q9{P:List Tl}{p:Int×Int}{a4:Option D}{L:List Tl}(c:Ctx bed e stk ks w h)(B:∀t∈P,0<=t.2.2/\t.2.2<(ks.length:Int))(hd:s[d]?=some (.dt<|P.map Hj))(C:s[l]?=some (.lst<|L.map tD))(T:L.length<=9000)(h0:st0.length<=l)(i:d≠l)(X:Gr st0 s):
  ∃(F:Option D) (s':Hf),Y3 (Um [some bed,some (.ref d),some (.ref l),some (HG p),a4] s=some (.nx [some bed,some (.ref d),some (.ref l),some (HG p),F],s')) (s'[l]?=some (.lst<|(L++gK e stk ks P p.1 p.2 ks.length).map tD)) (Fr l s s'):=by
 obtain⟨hs,j,z,Y,G⟩:=c.at_;have H:=c.hs.hi;have key:=Ku (W:=⟨run 0 ks.length,[]⟩) (g:=Hl 4) (m:=Qg) (ds:=run 0 ks.length) (U:=[some bed,some (.ref d),some (.ref l),some (HG p),a4]) (st:=s)
  (Inv:=λk U s'=>Y3 ((∃a,U=[some bed,some (.ref d),some (.ref l),some (HG p),a])) (s'[l]?=some (.lst<|(L++gK e stk ks P p.1 p.2 k).map tD)) (Fr l s s'))
  ⟨⟨_,rfl⟩,by simpa[gK]using C,Fr.refl _ _⟩ (λ_ _ _ _ _=>rfl) (λk Z U s' n I=>by
   obtain⟨⟨u,rfl⟩,b,hf⟩:=I;obtain⟨hk,rfl⟩:=LL n;have A:((k:Nat):Int)<(ks.length:Int):=by omega
   obtain⟨f,b0,b1,b2,b3,ek,J,M⟩:=Mp c.ks (k:=(k:Int)) (by omega) A;have o:=(hf.old _ (qax hd) i).trans hd;obtain⟨s2,q,g2⟩:=cY (x:=p.1) (y:=p.2) c.bed c.ks c.stk (by have:=c.hs.sl;omega) B (by omega) A o;rw[Tb (by rw[J];rfl)]at q;have E:=(g2.old _<|qax b).trans b;have hlen:=SN e stk ks P p.1 p.2 k
   by_cases hR:e<=Kj stk ks P p.1 p.2 k
   ·have N:HE (.tup [.int p.1,.int p.2]) (.tup [.int (k:Int)]) s2=some (tD (p.1,p.2,(k:Int)),s2):=Tx (by simp) (by simp);have r:=append_at (x:=tD (p.1,p.2,(k:Int))) E (by rw[Af,AD];omega);refine⟨_,s',_,_,rfl,pS q (j _) (z _) hR E N r,⟨_,rfl⟩,?_,(hf.trans<|g2.fr l).trans<|Gy _ _ _⟩;rw[Aq (qax E),Tq,if_pos hR];simp
   refine⟨_,s',_,_,rfl,vP q (j _) (z _) hR,⟨_,rfl⟩,?_,hf.trans<|g2.fr l⟩;rw[Tq,if_neg hR];exact E)
 obtain⟨U',s',Q,⟨u,rfl⟩,b,hf⟩:=key;rw[Ld]at b;refine⟨u,s',?_,b,hf⟩;have v:HP [.tup (ks.map IH)] s=some (.int (ks.length:Int),s):=by rw[QZ,Af]
 have S:Jc (Ho HP<|Hc (mB Hg (mB Hg (mV 0)<|mK<|.int 0)<|mK<|.int 2)<|mZ) [some bed,some (.ref d),some (.ref l),some (HG p),a4] s=some (⟨run 0 ks.length,[]⟩,s):=by refine QM (k:=ks.length) ?_ (by omega);generalize (ks.length:Int)=K at *;simp[j,G,v]
 unfold Um;rw[Ki,S];exact Q
def Zq{P:List Tl}(c:Ctx bed e stk ks w h)(G:∀t∈P,0<=t.2.2/\t.2.2<(ks.length:Int))(hd:st[d]?=some (.dt<|P.map Hj)):
  ∃f,Y3 (O3 [bed,.ref d] st=some (.ref st.length,f)) (f[st.length]?=some (.lst<|(Ik e stk ks P<|eF P h w.toNat).map tD)) (Gr st f):=by
 have f1:=c.fo.w0;have f2:=c.fo.w1;have T:=c.fo.h0;have f4:=c.fo.h1;have H:=c.hs.hi;have o:=qax hd;have x:(st++[O.lst []])[d]?=some (.dt<|P.map Hj):=by rw[Aj o];exact hd
 have a1:=Iq st<|.lst [];have g1:=Gr.app st [.lst []];have X:(st++[O.lst []]).length=st.length+1:=by simp
 generalize r:st++[O.lst []]=s1 at *;obtain⟨s2,I,a2,g2⟩:=TK c x;have z:=(g2.old _<|qax a1).trans a1;have hd2:=(g2.old _<|qax x).trans x;have hlen:=SM P h w.toNat;have C:(eF P h w.toNat).length<=144:=AA hlen<|Cb (show w.toNat<=12 by omega) (show h.toNat<=12 by omega);generalize eF P h w.toNat=ps at *;have bound:∀i:Nat,(Ik e stk ks P<|ps.take i).length<=9000:=λi=>by
  have:∀y:List (Int×Int),(Ik e stk ks P y).length<=y.length*13:=by
   intro y
   induction y with
   |nil=>simp[Ik]
   |cons q y Y=>
    have J:=SN e stk ks P q.1 q.2 ks.length;have F:(Ik e stk ks P (q::y)).length=(gK e stk ks P q.1 q.2 ks.length).length+(Ik e stk ks P y).length:=by simp[Ik]
    rw[F,Au,DH];omega
  have J:=this<|ps.take i;have F:(ps.take i).length<=144:=by rw[Bq];omega
  omega
 have key:=Ku (W:=⟨ps.map HG,[(s1.length,ps.map HG)]⟩) (g:=Hl 3) (m:=Um) (ds:=ps.map HG) (U:=[some bed,some (.ref d),some (.ref st.length),none,none]) (st:=s2)
  (Inv:=λi U s=>Y3 ((∃a b,U=[some bed,some (.ref d),some (.ref st.length),a,b])) (s[st.length]?=some (.lst<|(Ik e stk ks P<|ps.take i).map tD)) (Fr st.length s2 s))
  ⟨⟨_,_,rfl⟩,z,Fr.refl _ _⟩ (λi U s _ A=>Oq ((A.h3.old _ (qax a2)<|by omega).trans a2)) (λi Z U s E A=>by obtain⟨⟨u,v,rfl⟩,l,hf⟩:=A;rw[Ay]at E;obtain⟨p,M,rfl⟩:=Ig E;obtain⟨b4,L,N,K,B⟩:=Q9 (st0:=[]) (p:=p) (a4:=v) c G ((hf.old _ (qax hd2)<|by omega).trans hd2) l (bound i) (A0 _) (by omega) ⟨A0 _,λj n=>absurd n (Dt _)⟩;refine⟨_,s,_,L,rfl,N,⟨_,_,rfl⟩,?_,hf.trans B⟩;rw[K,Bj,M,wU];simp[Ik])
 obtain⟨U',L,Q,⟨u,v,rfl⟩,l,hf⟩:=key;rw[Af,Bb]at l;refine⟨L,IJ ?_,l,?_⟩
 ·generalize ps.map HG=PS at *;unfold eP;refine Hw (U1:=[some bed,some (.ref d),some (.ref st.length),none,none]) (s1:=s1) (by simp[r]) ?_;refine Hw (U1:=[some bed,some (.ref d),some (.ref st.length),u,v]) (s1:=L) (by
   have S:Js (Ho Ul<|Hc (mV 0)<|Hc (mV 1)<|mZ) [some bed,some (.ref d),some (.ref st.length),none,none] s1=some (⟨PS,[(s1.length,PS)]⟩,s2):=by simp[I,Lv,HZ,a2]
   rw[Ki,S];exact Q) ?_
  simp
 have g:=g1.trans g2;exact⟨AA g.len hf.len,λj n=>(hf.old j (AC n g.len)<|by omega).trans (g.old j n)⟩
def VX{lo hi:Int}(a:lo<=x)(b:x<=hi):Rj [.int x,.int lo,.int hi] st=some (.bl true,st):=by
 refine IJ ?_;have t1:tyName st (.int x)=some "int":=rfl;have d:J9 "int" "int"=true:=by decide
 have t3:J9 "int" "bool"=false:=by decide
 unfold Wu;simp[MW,t1,d,t3,a,b]
def bP{ds:List D}{n:Nat}{N:Int}(h:ds.length=n)(a:N=(n:Int)):WN [.tup ds,.int N] st=some (.bl true,st):=by
 have e:HP [.tup ds] st=some (.int N,st):=by rw[QZ,h,a]
 refine IJ ?_;have t1:tyName st (.tup ds)=some "tuple":=rfl;have d:J9 "tuple" "tuple"=true:=by decide
 unfold dN;simp[t1,d,e,eq_int]
def aP(c:Ctx bed e stk ks w h)(x0:0<=x)(f:x<w)(a:0<=y)(g:y<h):Nw [bed,.tup [.int x,.int y]] st=some (.bl true,st):=by have d:=bP (ds:=[.int x,.int y]) (n:=2) (N:=2) (st:=st) rfl rfl;have l:=VX (x:=x) (lo:=0) (hi:=w-1) (st:=st) x0 (by omega);have s:=VX (x:=y) (lo:=0) (hi:=h-1) (st:=st) a (by omega);have E:Hg (.tup [.int x,.int y]) (.int 0) st=some (.int x,st):=Io (by decide) rfl;have K:Hg (.tup [.int x,.int y]) (.int 1) st=some (.int y,st):=Io (by decide) rfl;have L:Hg (.tup [.int w,.int h]) (.int 0) st=some (.int w,st):=Io (by decide) rfl;have P:Hg (.tup [.int w,.int h]) (.int 1) st=some (.int h,st):=Io (by decide) rfl;have b:=c.fl;refine IJ ?_;unfold Wt;refine Hw (U1:=[some bed,some (.tup [.int x,.int y]),some (.tup [.int w,.int h])]) (s1:=st) (by simp[b]) ?_;simp[d,l,s,E,K,L,P]
variable {k:Int}{sd:Nat}
def rD{b:D}{ln:Nat}{R:Int}(a:Km (.tup [.int x,.int y]) (.ref d) s=some (.bl false,s))(c:Nw [bed,.tup [.int x,.int y]] s=some (.bl true,s))(f:Qa [bed,.ref d,.tup [.int x,.int y]] s=some (.ref ln,s1))(g:P8 [bed,.int k] s1=some (b,s1)) (i:O7 [.ref sd,b,.ref ln] s1=some (.int R,s2)) (j:Hg bed (.int 0) s2=some (hs,s2)) (m:Hg hs (.int 0) s2=some (.int E,s2)):Oo [bed,.ref sd,.ref d,.tup [.int x,.int y,.int k]] s=some (.bl (decide (E<=R)),s2):=by
 have e:Hg (.tup [.int x,.int y,.int k]) (.int 2) s1=some (.int k,s1):=Io (by decide) rfl;have h:Lk (.tup [.int x,.int y,.int k]) none (some 2) s=some (.tup [.int x,.int y],s):=rfl;refine IJ ?_;unfold W0;refine Hw (U1:=[some bed,some (.ref sd),some (.ref d),some (.tup [.int x,.int y,.int k]),some (.tup [.int x,.int y]),none]) (s1:=s) (by simp[h]) ?_;refine Hw (U1:=[some bed,some (.ref sd),some (.ref d),some (.tup [.int x,.int y,.int k]),some (.tup [.int x,.int y]),none]) (s1:=s) (by simp[a,c]) ?_;refine Hw (U1:=[some bed,some (.ref sd),some (.ref d),some (.tup [.int x,.int y,.int k]),some (.tup [.int x,.int y]),some (.ref ln)]) (s1:=s1) (by simp[f]) ?_;simp[e,g,i,j,m]
def Kq(e:Int)(stk:List (Str×Int))(ks:List (List Str))(w h:Int)(P:List Tl)(t:Tl):Prop:=IA w h ks.length t/\HS P t.1 t.2.1=none/\e<=Kj stk ks P t.1 t.2.1 t.2.2.toNat
def rC(a:Km (.tup [.int x,.int y]) (.ref d) s=some (.bl true,s)):Oo [bed,.ref sd,.ref d,.tup [.int x,.int y,.int k]] s=some (.bl false,s):=by have e:Lk (.tup [.int x,.int y,.int k]) none (some 2) s=some (.tup [.int x,.int y],s):=rfl;refine IJ ?_;unfold W0;refine Hw (U1:=[some bed,some (.ref sd),some (.ref d),some (.tup [.int x,.int y,.int k]),some (.tup [.int x,.int y]),none]) (s1:=s) (by simp[e]) ?_;refine OQ ?_;simp[a]
variable {t:Tl}
def rB{P:List Tl}{t:Tl}(c:Ctx bed e stk ks w h)(i:∀t∈P,0<=t.2.2/\t.2.2<(ks.length:Int))(hd:st[d]?=some (.dt<|P.map Hj))(hs:st[sd]?=some (.dk<|JF stk))(j:IA w h ks.length t):
  ∃(b:Bool) (a:Hf),Y3 (Oo [bed,.ref sd,.ref d,tD t] st=some (.bl b,a)) ((b=true ↔ Kq e stk ks w h P t)) (Gr st a):=by
 obtain⟨x,y,k⟩:=t;have tt:=j;obtain⟨x0,n,o,q,s,E⟩:=j;have s:0<=k:=s;have E:k<(ks.length:Int):=E;cases hf:HS P x y with
 |some C=>
  have l:Km (.tup [.int x,.int y]) (.ref d) st=some (.bl true,st):=by rw[Pr hd,Lz,hf];rfl
  refine⟨false,st,rC l,⟨λz=>(by cases z),λz=>?_⟩,Gr.refl _⟩;have:HS P x y=none:=z.2.1;rw[hf]at this;cases this
 |none=>
  obtain⟨F,r,ie,_,G⟩:=c.at_;obtain⟨f,H,b1,I,J,M,m,L⟩:=Mp c.ks (k:=k) s E;obtain⟨s1,u,a1,g1⟩:=cQ (x:=x) (y:=y) c.bed c.ks i hd;have g:=(g1.old _<|qax hs).trans hs;have v:∀z∈names4 ks P x y,Bg z=true:=λz K=>by
   have:Iy z:=by
    simp only[names4,A3,A4,or_false]at K;rcases K with rfl|rfl|rfl|rfl<;>exact RP c.ks i _ _
   exact QI this.ab
  obtain⟨s2,A,g2⟩:=eM (S:=IE ks k) (N:=names4 ks P x y) c.stk (by rw[m];exact Ah _) (by rw[m];exact λz K=>L z K) v g a1;have l:Km (.tup [.int x,.int y]) (.ref d) st=some (.bl false,st):=by rw[Pr hd,Lz,hf];rfl
  refine⟨_,s2,rD l (aP c x0 n o q) u (eJ c.bed c.ks s E) A (r _)<|ie _,?_,g1.trans g2⟩;rw[decide_eq_true_iff];have B:Kj stk ks P x y k.toNat=((Jq (IE ks k)<|names4 ks P x y).map λp=>sv stk p.1).sum:=by unfold Kj;rw[Bz s]
  rw[<-B];exact⟨λz=>⟨tt,hf,z⟩,λz=>z.2.2⟩
def aY(hf:JB w h)(a:t∈Ik e stk ks P (eF P h w.toNat)):Kq e stk ks w h P t:=by
 have f1:=hf.w0;have y:=hf.h0;simp only[Ik,eF,eC,gK,Ed,FG,Et,GI]at a;obtain⟨l,⟨p,⟨m,⟨i,E,rfl⟩,s⟩,rfl⟩,a⟩:=a;simp only[FG,Et,GI]at s a;obtain⟨j,⟨K,d⟩,rfl⟩:=s;obtain⟨k,⟨hk,hs⟩,rfl⟩:=a;have x:HS P (i:Int) (j:Int)=none:=by unfold Lm at d;rw[An]at d;simpa using d.1
 refine⟨⟨?_,?_,?_,?_,?_,?_⟩,x,by simpa using hs⟩
 ·show(0:Int)<=(i:Int);omega
 ·show(i:Int)<w;omega
 ·show(0:Int)<=(j:Int);omega
 ·show(j:Int)<h;omega
 ·show(0:Int)<=(k:Int);omega
 show(k:Int)<(ks.length:Int);omega
def K2(e:Int)(stk:List (Str×Int))(ks:List (List Str))(w h:Int):List Tl->List Tl->Prop
 |_,[]=>True
 |P,t::R=>Kq e stk ks w h P t/\K2 e stk ks w h (P++[t]) R
theorem Ra:∀{R P:List Tl}{t:Tl},K2 e stk ks w h P R->Kq e stk ks w h (P++R) t->K2 e stk ks w h P (R++[t])
 |[],P,t,_,hm=>⟨by simpa using hm,trivial⟩
 |u::R,P,t,a,hm=>⟨a.1,Ra a.2<|by simpa using hm⟩
theorem P9:∀{R P:List Tl},K2 e stk ks w h P R->∀t∈R,IA w h ks.length t
 |u::R,P,a,t,ht=>by
  rcases On.mp ht with rfl|ht
  ·exact a.1.1
  exact P9 a.2 t ht
theorem Vk:∀{R P:List Tl}{i:Nat}{t:Tl},K2 e stk ks w h P R->R[i]?=some t->Kq e stk ks w h (P++R.take i) t
 |u::R,P,0,t,b,a=>by simp at a;subst a;simpa using b.1
 |u::R,P,i+1,t,b,a=>by have:=Vk b.2 (i:=i) (t:=t) (by simpa using a);simpa using this
def LO{P:List Tl}:HS P x y=none ↔ ∀t∈P,¬(t.1=x/\t.2.1=y):=by unfold HS;simp
def OW(hn:HS P t.1 t.2.1=none):IM P t=P++[t]:=by have d:=LO.mp hn;unfold IM;rw[if_neg];intro z;obtain⟨u,e,z⟩:=List.any_eq_true.mp z;unfold JD at z;rw[An]at z;exact d u e ⟨of_decide_eq_true z.1,of_decide_eq_true z.2⟩
def ZI(a:Hy (P++[t])):HS P t.1 t.2.1=none:=by refine LO.mpr λu d z=>?_;have:=(List.pairwise_append.mp a).2.2 u d t (by simp);unfold JD at this;simp[z.1,z.2]at this
def pX(a:Hy P)(hn:HS P t.1 t.2.1=none):Hy (P++[t]):=by refine List.pairwise_append.mpr ⟨a,by simp,λu d v e=>?_⟩;rw[KM.mp e];have:=LO.mp hn u d;unfold JD;simpa using this
theorem bF:∀{ts acc:List Tl},Hy (acc++ts)->ts.foldl IM acc=acc++ts
 |[],acc,_=>by simp
 |t::ts,acc,b=>by
  have a:Hy ((acc++[t])++ts):=by simpa using b
  have d:Hy (acc++[t]):=(List.pairwise_append.mp a).1;rw[Es,OW (ZI d),bF a];simp
def PV{ts:List Tl}(a:Hy ts):Lp ts=ts:=by have:=bF (ts:=ts) (acc:=[]) (by simpa using a);simpa[Lp]using this
def PY{a b:List Tl}(h:a.Perm b)(c:Hy b):Hy a:=by
 refine(List.Perm.pairwise_iff (λ{x y} z=>?_) h).mpr c;unfold JD at *;rw[Bool.and_eq_false_iff]at *;rcases z with z|z
 ·exact .inl<|by simpa using λq=>(of_decide_eq_false z) q.symm
 exact .inr<|by simpa using λq=>(of_decide_eq_false z) q.symm
theorem Mm{e w h:Int}{stk:List (Str×Int)}{ks:List (List Str)}:∀{R P:List Tl},Hy P->K2 e stk ks w h P R->Hy (P++R)
 |[],P,a,_=>by simpa using a
 |t::R,P,a,b=>by have:=Mm (pX a b.1.2.1) b.2;simpa using this
end L2.MP.T0
namespace L2.MP.T0
open PySem L2.MP L2.MP.Hd
open L2.MP.Hn (HL Mu Hs JX O2 Qi)
theorem OY(ts:List Tl):HL ts=.tup (ts.map tD):=rfl
variable {ts:List Tl}
def zlW(h:ts.length<2):Hs ts=ts:=by
 have a:=JX ts
 match ts,h,a with
 |[],_,a=>exact a.eq_nil
 |[t],_,a=>exact List.perm_singleton.mp a
variable {st:Hf}
def eL(a:ts.length<64):Nq [.tup (ts.map tD)] st=some (.ref st.length,st++[.lst ((Hs ts).map tD)]):=by
 have b:Md [.tup (ts.map tD)] st=none:=rfl;unfold Nq K6;rw[b,Kh];unfold TY;dsimp only;by_cases h:ts.length<2
 ·rw[if_pos (by simpa using h),zlW h]
 ·rw[if_neg (by simp;omega)];have c:rowsOf (ts.map tD)=some (ts.map HV):=by
   have:ts.map tD=(ts.map HV).map HF:=by rw[AI];rfl
   rw[this];exact Ri λr d=>by obtain⟨t,_,rfl⟩:=SL.mp d;simp[HV]
  rw[c];simp only[Ae];rw[if_pos (by simp;omega),<-O2,AI];rfl
variable {l:Nat}
def fL(b:st[l]?=some (.lst<|ts.map tD))(a:ts.length<64):Nq [.ref l] st=some (.ref st.length,st++[.lst ((Hs ts).map tD)]):=by unfold Nq K6;rw[Mu b a,Kg];rfl
variable {x y k:Int}{s:Hf}
def yJ{t:Nat}(hk:Ng (.ref t) (.tup [.int x,.int y]) s=some (.int k,s)):Qj [some (.tup [.int x,.int y]),some (.ref t)] s=some (.tup [.int x,.int y,.int k],s):=by have l:HE (.tup [.int x,.int y]) (.tup [.int k]) s=some (.tup [.int x,.int y,.int k],s):=Tx (by simp) (by simp);unfold Qj;simp[hk,l]
variable {P:List Tl}{d:Nat}
def zfX(hd:st[d]?=some (.dt<|P.map Hj))(g:Hy P)(b:P.length<64):∃a,Xr [.ref d] st=some (HL (Hs P),a)/\Gr st a:=by
 have l:=qax hd;have s:Pz (.ref d) st=some (⟨Jl<|P.map Hj,[]⟩,st.set d (.ft<|P.map Hj)):=by unfold Pz;simp only[hd]
 have y:(st.set d<|.ft<|P.map Hj)[d]?=some (.ft<|P.map Hj):=by simp[l]
 have back:(st.set d (.ft<|P.map Hj)++[O.lst (P.map tD)]).set d (.dt<|P.map Hj)=st++[.lst (P.map tD)]:=by
  rw[List.set_append_left _ _ (by simpa using l),List.set_set]
  congr 1
  apply FY;intro i;by_cases hi:i=d
  ·subst hi;rw[Aq l,hd]
  rw[Ag (λz=>hi z.symm)]
 have f:(st.set d (.ft<|P.map Hj)++[O.lst (P.map tD)])[d]?=some (.ft<|P.map Hj):=by rw[Aj (by simpa using l)];exact y
 have ls:(st.set d<|.ft<|P.map Hj).length=st.length:=by simp
 generalize h:st.set d (.ft<|P.map Hj)=s3 at s y back f ls;have Qo:Jl (P.map Hj)=P.map λt=>D.tup [.int t.1,.int t.2.1]:=by unfold Jl;rw[AI];rfl
 have j:Jt ⟨Jl<|P.map Hj,[]⟩ (Hl 0) Je Qj (Jl<|P.map Hj) [none,some (.ref d)] s3=some (P.map tD,s3):=by
  rw[Qo];refine PF (R:=λU=>∃x,U=[x,some (.ref d)]) ⟨none,rfl⟩ rfl λt m U n=>?_;obtain⟨x,rfl⟩:=n;have o:=QT g m;have hk:Ng (.ref d) (.tup [.int t.1,.int t.2.1]) s3=some (.int t.2.2,s3):=by have p:keysOf [.int t.1,.int t.2.1]=some (Hj t).1:=rfl;simp only[Ng,Jk,y,p,AZ,Ae,o]
  exact⟨[some (.tup [.int t.1,.int t.2.1]),some (.ref d)],rfl,rfl,yJ hk,⟨_,rfl⟩⟩
 have fl:fits (P.map tD).length=true:=JP (by rw[Af];omega);have q:=fL (Iq st<|.lst<|P.map tD) b;have r:=LA<|Iq (st++[.lst (P.map tD)])<|.lst<|(Hs P).map tD;refine⟨st++[.lst (P.map tD)]++[.lst ((Hs P).map tD)],IJ ?_,(Gr.app _ _).trans<|Gr.app _ _⟩;have c:Jm (Ov<|mV 0) 1 [0] (Hl 0) Je Qj [some (.ref d)] st=some (.ref st.length,s3++[.lst (P.map tD)]):=by have:Ov (mV 0) [some (.ref d)] st=some (⟨Jl<|P.map Hj,[]⟩,s3):=s;rw[JN,this];simp only[Ae];rw[show IU [some (D.ref d)] 1 [0]=[none,some (.ref d)] from rfl,j];simp only[Ae,fl,if_true,ls]
 have e:QA 0 (Jm (Ov<|mV 0) 1 [0] (Hl 0) Je<|Qj) [some (.ref d)] st=some (.ref st.length,st++[.lst (P.map tD)]):=by unfold QA;simp only[C3,c,Ae];unfold Vt;rw[hd,f];show Option.map _ (some<|List.set _ _ _)=_;rw[back];rfl
 unfold gF;rw[OY];generalize (Hs P).map tD=B at *;generalize P.map tD=A at *;generalize st++[O.lst A]=s4 at *;generalize s4++[O.lst B]=s5 at *;simp[e,q,r]
def zP{a b:List Tl}(h:a.length+b.length<=1000):NT (.tup<|a.map tD) (.tup<|b.map tD) st=some (.tup ((a++b).map tD),st):=by
 unfold NT JT;cases a with
 |nil=>
  have d:HE (.tup<|([]:List Tl).map tD) (.tup<|b.map tD) st=none:=rfl;rw[d,Kh];unfold Sk;have:fits b.length=true:=JP (by simp at h;omega);simp[this]
 |cons t a=>
  rw[Tx (by simp) (by simp at h ⊢;omega),Kg,AU]
def tP(t:Tl):PyData:=.tuple [.int t.1,.int t.2.1,.int t.2.2]
variable {n:Nat}
theorem Uh{n:Nat}{st:Hf}:∀ts:List Tl,Jr (ID (n+2) st) (ts.map tD)=some (ts.map tP)
 |[]=>rfl
 |t::ts=>by
  have e:ID (n+2) st (tD t)=some (tP t):=by obtain⟨x,y,k⟩:=t;show ID (n+2) st (.tup [.int x,.int y,.int k])=_;rw[ID];simp only[Jr,ID,Ae,AZ];rfl
  rw[As,Jr,e,Ae,Uh ts];rfl
variable {m:Nat}
def vT(a:st[l]?=some (.lst<|ts.map tD))(hm:st[m]?=some (.lst [])):JO (.ref l) (.ref m) st=some (.bl !ts.isEmpty,st):=by
 have e:ID 100 st (.ref l)=some (.list<|ts.map tP):=by rw[ID];simp only[HZ,a,Ae];rw[Uh];rfl
 unfold JO;rw[e,P4 (n:=98) (as:=[]) hm];cases ts<;>rfl
variable {bed t2:D}{q:Nat}{a5 a6 a7:Option D}{s1 s2:Hf}
def xC(b:O3 [bed,.ref d] s=some (.ref q,s1))(a:s1++[.lst []]=s2)(c:JO (.ref q) (.ref s1.length) s2=some (.bl false,s2)):
  Pa [some (.ref n),some bed,some t2,some (.ref d),some (.ref l),a5,a6,a7] s=some (.nx [some (.ref n),some bed,some t2,some (.ref d),some (.ref l),a5,some (.ref q),a7],s2):=by
 unfold Pa;refine Hw (U1:=[some (.ref n),some bed,some t2,some (.ref d),some (.ref l),a5,some (.ref q),a7]) (s1:=s1) (by simp[b]) ?_;rw[LJ];simp[a,c]
def uX{N r:Int}{L:List D}{s3 s4 s5:Hf}(b:O3 [bed,.ref d] s=some (.ref q,s1))(a:s1++[.lst []]=s2)(c:JO (.ref q) (.ref s1.length) s2=some (.bl true,s2))(e:HP [.ref q] s2=some (.int N,s2))(f:Ih [.ref n,.int N] s2=some (.int r,s3))(g:Hg (.ref q) (.int r) s3=some (.tup [.int x,.int y,.int k],s3)) (h:dput s3 d (.tup [.int x,.int y]) (.int k)=some s4) (i:s4[l]?=some (.lst L)) (ap:K4 (.ref l) [.tup [.int x,.int y,.int k]] s4=some (.non,s5)):
  Pa [some (.ref n),some bed,some t2,some (.ref d),some (.ref l),a5,a6,a7] s=some (.nx [some (.ref n),some bed,some t2,some (.ref d),some (.ref l),a5,some (.ref q),some (.tup [.int x,.int y,.int k])],s5):=by
 have m:Lk (.tup [.int x,.int y,.int k]) none (some 2) s3=some (.tup [.int x,.int y],s3):=rfl;have P:Hg (.tup [.int x,.int y,.int k]) (.int 2) s3=some (.int k,s3):=Io (by decide) rfl;unfold Pa;refine Hw (U1:=[some (.ref n),some bed,some t2,some (.ref d),some (.ref l),a5,some (.ref q),a7]) (s1:=s1) (by simp[b]) ?_;rw[LJ];have j:mT (mB JO (mV 6)<|mL<|mZ) [some (.ref n),some bed,some t2,some (.ref d),some (.ref l),a5,some (.ref q),a7] s1=some (true,s2):=by simp[a,c]
 rw[j,Ae];show mS _ _ _ s2=_;refine Hw (U1:=[some (.ref n),some bed,some t2,some (.ref d),some (.ref l),a5,some (.ref q),some (.tup [.int x,.int y,.int k])]) (s1:=s3) (by simp[e,f,g]) ?_;refine Hw (U1:=[some (.ref n),some bed,some t2,some (.ref d),some (.ref l),a5,some (.ref q),some (.tup [.int x,.int y,.int k])]) (s1:=s4) ?_ (by simp[HZ,i,ap]);rw[MV];have o:Hq (mB Hg (mV 7)<|mK<|.int 2) (LH Il (mV 3)<|IZ (mV 7) Kz<|KA<|mK<|.int 2) [some (.ref n),some bed,some t2,some (.ref d),some (.ref l),a5,some (.ref q),some (.tup [.int x,.int y,.int k])] s3=none:=by simp[m,P,Il]
 rw[o,Kh];unfold LK;simp[m,P,h]
structure Pm(n d l m:Nat)(P R:List Tl)(st0 s:Hf):Prop where
 at_:s[d]?=some (.dt ((P++R).map Hj))
 row:s[l]?=some (.lst (R.map tD))
 pot:HI n m s
 fr:Fr n st0 s
variable {e w h:Int}{stk:List (Str×Int)}{ks:List (List Str)}
def zlL{P R:List Tl}{st0:Hf}(c:Ctx bed e stk ks w h)(q:Pm n d l m P R st0 s)(Y:∀t∈P,IA w h ks.length t)(K:K2 e stk ks w h P R)(hd:st0.length<=d)(hl:st0.length<=l)(p:d≠l)(v:d≠n)(A:l≠n)(hlen:P.length+R.length<=100)(hm:m<=900000):
  ∃(R':List Tl) (Z b7:Option D) (s':Hf),Y4 (Pa [some (.ref n),some bed,some t2,some (.ref d),some (.ref l),a5,a6,a7] s=some (.nx [some (.ref n),some bed,some t2,some (.ref d),some (.ref l),a5,Z,b7],s')) (Pm n d l (m+1) P R' st0 s') (K2 e stk ks w h P R') (R'.length<=R.length+1):=by
 have hK:∀t∈P++R,0<=t.2.2/\t.2.2<(ks.length:Int):=λt hh=>by
  have:IA w h ks.length t:=by
   rcases Os.mp hh with hh|hh
   ·exact Y t hh
   exact P9 K t hh
  exact⟨this.2.2.2.2.1,this.2.2.2.2.2⟩
 obtain⟨s1,T,a1,g1⟩:=Zq c hK q.at_;have g2:Gr s (s1++[.lst []]):=g1.trans<|Gr.app _ _;have a2:(s1++[O.lst []])[s.length]?=some (.lst<|(Ik e stk ks (P++R)<|eF (P++R) h w.toNat).map tD):=by rw[Aj (qax a1)];exact a1
 have b2:=Iq s1<|.lst [];have B:∀t∈Ik e stk ks (P++R) (eF (P++R) h w.toNat),Kq e stk ks w h (P++R) t:=λt ht=>aY c.fo ht;generalize hM:Ik e stk ks (P++R) (eF (P++R) h w.toNat)=M at a1 a2 B;have I:=vT a2 b2;generalize C:s1++[O.lst []]=s2 at *;have at2:=(g2.old _<|qax q.at_).trans q.at_;have a:=(g2.old _<|qax q.row).trans q.row;have b:=q.pot.gr g2;have E:=q.fr.trans<|g2.fr n
 cases L:M with
 |nil=>
  rw[L]at I;exact⟨R,_,_,s2,xC T C I,⟨at2,a,b.up<|by omega,E⟩,K,by omega⟩
 |cons u M'=>
  rw[L]at I;have hML:0<M.length:=by rw[L];simp
  have hsz:M.length<100000:=by
   have bound:∀i:List (Int×Int),(Ik e stk ks (P++R) i).length<=i.length*13:=by
    intro i;have k13:=c.hs.hi
    induction i with
    |nil=>simp[Ik]
    |cons z i ih=>
     have h1:=SN e stk ks (P++R) z.1 z.2 ks.length;have h2:(Ik e stk ks (P++R) (z::i)).length=(gK e stk ks (P++R) z.1 z.2 ks.length).length+(Ik e stk ks (P++R) i).length:=by simp[Ik]
     rw[h2,Au,DH];omega
   have f2:=c.fo.w1;have f4:=c.fo.h1;have U:(eF (P++R) h w.toNat).length<=144:=AA (SM (P++R) h w.toNat)<|Cb (show w.toNat<=12 by omega) (show h.toNat<=12 by omega);have:=bound<|eF (P++R) h w.toNat;rw[hM]at this;omega
  have el:HP [.ref s.length] s2=some (.int (M.length:Int),s2):=by rw[Tr a2,Af]
  have sq:s.length≠n:=q.pot.ne;obtain⟨r,s3,e3,r0,r1,p3,J⟩:=JQ (many:=(M.length:Int)) b (by omega) (by omega) (by omega);have a3:=(J.old _ (qax a2) sq).trans a2;have F:r.toNat<M.length:=by omega
  have N:(M.map tD)[r.toNat]?=some (tD M[r.toNat]):=by rw[Ay,Ai F];rfl
  have W:=KY a3 r0 N;have o:=B _<|Ba F;generalize M[r.toNat]=t at W o;obtain⟨x,y,k⟩:=t;have G:=(J.old _ (qax at2) v).trans at2;have f:=(J.old _ (qax a) A).trans a;have X:=Nn (x:=x) (y:=y) (k:=k) G (by simp;omega);rw[OW o.2.1,Am]at X;have g:(s3.set d<|.dt<|(P++(R++[(x,y,k)])).map Hj)[l]?=some (.lst<|R.map tD):=by rw[Ag p];exact f
  have ap:=append_at (x:=tD (x,y,k)) g (by rw[Af];omega);have Q:=qax G;have S:=qax f;have H:=E.trans J;refine⟨R++[(x,y,k)],_,_,_,uX T C I el e3 W X g ap,⟨?_,?_,?_,?_⟩,Ra K o,by simp⟩
  ·rw[Ag (Bt p),Aq Q]
  ·rw[Aq (by simpa using S)];simp
  ·exact(p3.set v).set A
  exact⟨by have:=H.len;simpa using this,λj hj nj=>by rw[Ag (by omega),Ag (by omega)];exact H.old j hj nj⟩
variable {sd:List Tl}
def uW{sd:List Tl}(c:Ctx (Hu e stk ks w h sd) e stk ks w h)(p:HI n m st)(hm:m<=800000)(b:∀t∈sd,IA w h ks.length t)(r:Hy sd)(H:sd.length<=6):
  ∃(R:List Tl) (a:Hf),Y5 (Ur [.ref n,Hu e stk ks w h sd,.int 12] st=some (.tup (R.map tD),a)) (K2 e stk ks w h sd R) (R.length<=12) (HI n (m+12) a) (Fr n st a):=by
 obtain⟨d,s1,u,a1,hd,g1⟩:=Wl (ts:=sd) (st:=st) (by omega);rw[PV r]at a1;have I:=p.lt;have x:=qax a1;have a2:(s1++[O.lst []])[d]?=some (.dt<|(sd++[]).map Hj):=by rw[Aj x,Ao];exact a1
 have v:(s1++[O.lst []])[s1.length]?=some (.lst<|([]:List Tl).map tD):=Iq s1 _;have g2:Gr st (s1++[O.lst []]):=g1.trans<|Gr.app _ _;have y:=g1.len;have key:=Ku (W:=⟨run 0 12,[]⟩) (g:=Hl 5) (m:=Pa) (ds:=run 0 12) (U:=[some (.ref n),some (Hu e stk ks w h sd),some (.int 12),some (.ref d),some (.ref s1.length),none,none,none]) (st:=s1++[O.lst []])
  (Inv:=λk U s=>(∃a5 a6 a7,U=[some (.ref n),some (Hu e stk ks w h sd),some (.int 12),some (.ref d),some (.ref s1.length),a5,a6,a7])/\∃R,Pm n d s1.length (m+k) sd R st s/\K2 e stk ks w h sd R/\R.length<=k)
  ⟨⟨_,_,_,rfl⟩,[],⟨a2,v,p.gr g2,g2.fr n⟩,trivial,Ah _⟩ (λ_ _ _ _ _=>rfl) (λk J U s P z=>by obtain⟨⟨a5,a6,a7,rfl⟩,R,q,f,i⟩:=z;obtain⟨hk,rfl⟩:=LL P;obtain⟨A,K,L,l,e,B,j,C⟩:=zlL (t2:=.int 12) (a5:=some (.int (k:Int))) (a6:=a6) (a7:=a7) c q b f hd y (by omega) (by omega) (by omega) (by omega) (by omega);exact⟨_,s,_,l,rfl,e,⟨_,_,_,rfl⟩,A,B,j,by omega⟩)
 obtain⟨M,l,E,⟨a5,a6,a7,rfl⟩,R,q,f,i⟩:=key;rw[Ld]at i q;have F:=LA q.row;have G:∀s:Hf,Hg (Hu e stk ks w h sd) (.int 2) s=some (HL sd,s):=λs=>Io (by decide) rfl;refine⟨R,l,IJ ?_,f,i,q.pot,q.fr⟩;unfold fU;generalize Hu e stk ks w h sd=bed at *;have o:Jc (mV 2) [some (.ref n),some bed,some (.int 12),some (.ref d),some (.ref s1.length),none,none,none] (s1++[O.lst []])=some (⟨run 0 12,[]⟩,s1++[O.lst []]):=QM (k:=12) rfl (by omega);refine Hw (U1:=[some (.ref n),some bed,some (.int 12),some (.ref d),some (.ref s1.length),none,none,none]) (s1:=s1++[O.lst []]) (by simp[G,u]) ?_;refine Hw (U1:=[some (.ref n),some bed,some (.int 12),some (.ref d),some (.ref s1.length),a5,a6,a7]) (s1:=l) (by rw[Ki,o];exact E) ?_;simp[F]
def Sub(P Q:List Tl):Prop:=∀x y k,HS P x y=some k->HS Q x y=some k
variable {Q:List Tl}
def Tf(h:Sub P Q)(p:Int×Int)(j:Nat):JZ ks P p j=""\/JZ ks P p j=JZ ks Q p j:=by
 unfold JZ;cases e:HS P p.1 p.2 with
 |none=>exact .inl rfl
 |some k=>rw[h _ _ _ e];exact .inr rfl
def qB{S:List Str}{j:Nat}(h:Sub P Q)(a:LG S (names4 ks P x y) j=true):LG S (names4 ks Q x y) j=true:=by
 unfold LG at *;rw[An]at *;refine⟨a.1,?_⟩;have key:(names4 ks P x y).getD j ""=""\/(names4 ks P x y).getD j ""=(names4 ks Q x y).getD j "":=by
  unfold names4
  match j with
  |0=>exact Tf h _ _
  |1=>exact Tf h _ _
  |2=>exact Tf h _ _
  |3=>exact Tf h _ _
  |n+4=>exact .inl rfl
 rcases key with e|e
 ·rw[e]at a;have d:=a.1;unfold bne at d;rw[a.2]at d;cases d
 rw[<-e];exact a.2
theorem ZX{f:Nat->Int}{p q:Nat->Bool}(h0:∀i,q i=true->0<=f i)(h:∀i,p i=true->q i=true):∀l:List Nat,((l.filter p).map f).sum<=((l.filter q).map f).sum
 |[]=>by simp
 |i::l=>by
  have a:=ZX h0 h l;cases d:p i with
  |true=>simp[d,h i d];omega
  |false=>
   cases eq:q i with
   |true=>have e:=h0 i eq;simp[d,eq];omega
   |false=>simpa[d,eq]using a
def wX{k:Nat}(c:Ctx bed e stk ks w h)(a:Sub P Q)(hk:k<ks.length):Kj stk ks P x y k<=Kj stk ks Q x y k:=by
 obtain⟨f,s,b1,b,g,j,l,n⟩:=Mp c.ks (k:=(k:Int)) (by omega) (by omega);rw[<-Tb (P:=P) (by rw[l];rfl),<-Tb (P:=Q) (by rw[l];rfl)];unfold alike;refine ZX (λi m=>?_) (λi m=>qB a m) _;unfold LG at m;rw[An]at m;have d:=m.1;have hm:(IE ks (k:Int)).getD i ""∈IE ks (k:Int):=by
  rw[Aw]at d ⊢;cases q:(IE ks (k:Int))[i]? with
  |none=>rw[q]at d;exact absurd d<|by decide
  |some z=>exact AF q
 rw[l]at hm;rcases(n _ hm).2 with z|z
 ·rw[l,z]at d;exact absurd d<|by decide
 have:=(QE c.stk z).2.1;rw[l];omega
def M3(h:HS P x y=some k):(x,y,k)∈P:=by unfold HS at h;obtain⟨t,e,rfl⟩:=Ig h;have d:=GB e;have l:=CP e;rw[An]at d;rw[<-of_decide_eq_true d.1,<-of_decide_eq_true d.2];exact l
variable {t:Tl}
def Np(a:Hy P)(h:t∈P):HS P t.1 t.2.1=some t.2.2:=by
 have l:=QT a h;have d:=Lz t.1 t.2.1 P;rw[show HQ (P.map Hj) [.inl t.1,.inl t.2.1]=some (.int t.2.2) from l]at d
 cases e:HS P t.1 t.2.1 with
 |none=>rw[e]at d;cases d
 |some k=>rw[e]at d;simp at d;rw[d]
variable {A B:List Tl}
def pP{A:List Tl}(h:∀t∈A,t∈B)(a:Hy (sd++B)):Sub (sd++A) (sd++B):=λx y k hf=>by
 refine Np (t:=(x,y,k)) a ?_;rcases Os.mp (M3 hf)with z|z
 ·exact AK _ z
 exact AJ _<|h _ z
variable {T:List Tl}
structure Cl(e:Int)(stk:List (Str×Int))(ks:List (List Str))(w h:Int)(sd T R:List Tl):Prop where
 row:K2 e stk ks w h sd R
 sub:∀t∈R,t∈T
 sat:∀t∈T,¬Kq e stk ks w h (sd++R) t
theorem UN{A B:List Tl}(c:Ctx bed e stk ks w h)(a:Hy T)(b:Hy sd)(f:K2 e stk ks w h sd A)(g:∀t∈A,t∈T)(hB:Cl e stk ks w h sd T B):∀i:Nat,∀t∈A.take i,t∈B
 |0,t,ht=>by simp at ht
 |i+1,t,ht=>by
  have j:=UN c a b f g hB i;rw[Bj,Dw]at ht;rcases ht with ht|ht
  ·exact j t ht
  ·have ht:A[i]?=some t:=by
    cases q:A[i]? with
    |none=>rw[q]at ht;cases ht
    |some z=>rw[q]at ht;rw[KM.mp ht]
   have hm:=Vk f ht;have m:=g t<|AF ht;have l:=Mm b hB.row;have s:=hm.1.2.2.2.2.1;have x:=hm.1.2.2.2.2.2
   cases q:HS (sd++B) t.1 t.2.1 with
   |none=>exact absurd ⟨hm.1,q,CV hm.2.2<|wX c (pP j l)<|by omega⟩<|hB.sat t m
   |some k=>
    rcases Os.mp (M3 q)with z|z
    ·exact absurd ⟨rfl,rfl⟩<|LO.mp hm.2.1 _<|AK _ z
    have n:=Np a m;have d:=Np a<|hB.sub _ z;have d:HS T t.1 t.2.1=some k:=d;rw[n]at d;cases d;exact z
def aK{l:List Tl}(c:Hy l):l.Nodup:=by refine List.Pairwise.imp (λ{a b} z q=>?_) c;subst q;unfold JD at z;simp at z
def oR(c:Ctx bed e stk ks w h)(b:Hy T)(a:Hy sd)(f:Cl e stk ks w h sd T A)(g:Cl e stk ks w h sd T B):Hs (sd++A)=Hs (sd++B):=by
 refine Qi<|List.Perm.append_left sd<|(List.perm_ext_iff_of_nodup ?_ ?_).mpr λt=>⟨λz=>?_,λz=>?_⟩
 ·exact aK (List.pairwise_append.mp<|Mm a f.row).2.1
 ·exact aK (List.pairwise_append.mp<|Mm a g.row).2.1
 ·exact UN c b a f.row f.sub g A.length t (by rw[Bb];exact z)
 exact UN c b a g.row g.sub f B.length t (by rw[Bb];exact z)
def free(T P:List Tl):Nat:=(T.filter λt=>(HS P t.1 t.2.1).isNone).length
theorem filter_lt{α:Type}{p q:α->Bool}(h:∀a,p a=true->q a=true):∀{l:List α},(l.filter p).length<=(l.filter q).length/\((∃a∈l,q a=true/\p a=false)->(l.filter p).length+1<=(l.filter q).length)
 |[]=>⟨Ah _,λ⟨a,f,_⟩=>by cases f⟩
 |a::l=>by
  obtain⟨g,c⟩:=filter_lt h (l:=l);cases d:p a with
  |true=>
   have eq:=h a d;simp only[Cg,d,eq,if_true,Au];refine⟨by omega,?_⟩;rintro⟨b,hb,z⟩
   rcases On.mp hb with rfl|hb
   ·rw[d]at z;cases z.2
   have:=c ⟨b,hb,z⟩;omega
  |false=>
   cases eq:q a with
   |true=>
    simp only[Cg,d,eq,if_true,Au,AQ,if_false];exact⟨by omega,λ_=>by omega⟩
   |false=>
    simp only[Cg,d,eq,AQ,if_false];refine⟨g,?_⟩;rintro⟨b,hb,z⟩;rcases On.mp hb with rfl|hb
    ·rw[eq]at z;cases z.1
    exact c ⟨b,hb,z⟩
def bH(a:t∈T)(hn:HS P t.1 t.2.1=none):free T (P++[t])+1<=free T P:=by
 refine(filter_lt λu d=>?_).2 ⟨t,a,by rw[hn];rfl,?_⟩
 ·have e:HS (P++[t]) u.1 u.2.1=none:=by simpa using d
  have h:=LO.mp e;have:HS P u.1 u.2.1=none:=LO.mpr λv l=>h v<|AK _ l;rw[this];rfl
 ·cases q:HS (P++[t]) t.1 t.2.1 with
  |none=>exact absurd ⟨rfl,rfl⟩<|LO.mp q t<|by simp
  |some k=>rfl
def Z8(T P:List Tl):free T P<=T.length:=AN _ _
end L2.MP.T0
namespace L2.MP.T0
open PySem L2.MP L2.MP.Hd
open L2.MP.Hn (HL Mu Hs JX O2 Qi eD)
variable {st s:Hf}{n:Nat}
def Li{o:O}(g:Gr st s)(h:st.length<=n):Gr st (s.set n o):=⟨by rw[Bf];exact g.len,λj a=>by rw[Ag (by omega)];exact g.old j a⟩
def Ke(p:Int×Int):List (Int×Int):=[(p.1,p.2+1),(p.1+1,p.2),(p.1,p.2-1),(p.1-1,p.2)]
def MR(T:List Tl)(p:Int×Int):List (Int×Int):=(Ke p).filter λa=>(HS T a.1 a.2).isSome
def Wm(T:List Tl)(p:Int×Int):(MR T p).length<=4:=AN _ _
variable {P:List Tl}{t:Tl}{x y:Int}
def QY(h:¬(t.1=x/\t.2.1=y)):HS (P++[t]) x y=HS P x y:=by
 unfold HS;rw[DZ];have:[t].find? (λt=>decide (t.1=x)&&decide (t.2.1=y))=none:=by rw[FE];intro u n;rw[KM.mp n];simpa using h
 rw[this,Option.or_none]
variable {ks:List (List Str)}
def dD(h:(x,y)∉Ke (t.1,t.2.1)):names4 ks (P++[t]) x y=names4 ks P x y:=by simp only[Ke,A3,A4,or_false,Prod.mk.injEq,not_or]at h;obtain⟨h0,n,s,a⟩:=h;unfold names4 JZ;rw[QY (x:=x) (y:=y+1) (by omega),QY (x:=x+1) (y:=y) (by omega),QY (x:=x) (y:=y-1) (by omega),QY (x:=x-1) (y:=y) (by omega)]
variable {bed tl:D}{e w h k:Int}{stk:List (Str×Int)}{sd T:List Tl}{a2 d3 d4 l5 l6:Nat}{L:List D}{a7 a8 a0 a1:Option D}{s1 s2 st0:Hf}{p:Int×Int}{A:List (Int×Int)}
def vI{R:List Tl}{u:Tl}(b:u∈T)(a:Hy T)(hm:Kq e stk ks w h (sd++(R++[t])) u):Kq e stk ks w h (sd++R) u\/(u.1,u.2.1)∈MR T (t.1,t.2.1):=by
 rw[<-Am]at hm;have s:HS (sd++R) u.1 u.2.1=none:=by have x:=LO.mp hm.2.1;exact LO.mpr λv y=>x v (AK _ y)
 by_cases p:(u.1,u.2.1)∈Ke (t.1,t.2.1)
 ·refine .inr<|List.mem_filter.mpr ⟨p,?_⟩;have:HS T u.1 u.2.1=some u.2.2:=Np a b;rw[this];rfl
 refine .inl ⟨hm.1,s,?_⟩;have n:=hm.2.2;unfold Kj at n ⊢;rw[dD p]at n;exact n
structure RI(a2 d3 d4 l5 l6:Nat)(stk:List (Str×Int))(sd T R:List Tl)(A:List (Int×Int))(st0 s:Hf):Prop where
 h2:s[a2]?=some (.dk (JF stk))
 h3:s[d3]?=some (.dt ((sd++R).map Hj))
 h4:s[d4]?=some (.dt (T.map Hj))
 h5:s[l5]?=some (.lst (R.map tD))
 h6:s[l6]?=some (.lst (A.map HG))
 fr:Gr st0 s
def pD(a:s[l6]?=some (.lst L))(b:N5 (.ref l6) [] s=some (.tup [.int x,.int y],s1))(c:Hg (.ref d4) (.tup [.int x,.int y]) s1=some (.int k,s1))(d:Oo [bed,.ref a2,.ref d3,.tup [.int x,.int y,.int k]] s1=some (.bl false,s2)):
  Ou [some bed,some tl,some (.ref a2),some (.ref d3),some (.ref d4),some (.ref l5),some (.ref l6),a7,a8] s=some (.nx [some bed,some tl,some (.ref a2),some (.ref d3),some (.ref d4),some (.ref l5),some (.ref l6),some (.tup [.int x,.int y]),some (.tup [.int x,.int y,.int k])],s2):=by
 have e:Hg (.tup [.int x,.int y]) (.int 0) s1=some (.int x,s1):=Io (by decide) rfl;have h:Hg (.tup [.int x,.int y]) (.int 1) s1=some (.int y,s1):=Io (by decide) rfl;unfold Ou;refine Hw (U1:=[some bed,some tl,some (.ref a2),some (.ref d3),some (.ref d4),some (.ref l5),some (.ref l6),some (.tup [.int x,.int y]),a8]) (s1:=s1) (by simp[Z2,HZ,a,b]) ?_;refine Hw (U1:=[some bed,some tl,some (.ref a2),some (.ref d3),some (.ref d4),some (.ref l5),some (.ref l6),some (.tup [.int x,.int y]),some (.tup [.int x,.int y,.int k])]) (s1:=s1) (by simp[e,h,c]) ?_;simp[d]
def uL{c d:List D}{m:Nat}{a8:Option D}{s3 s4 s5 b:Hf}(f:s[l6]?=some (.lst L))(g:N5 (.ref l6) [] s=some (.tup [.int x,.int y],s1))(i:Hg (.ref d4) (.tup [.int x,.int y]) s1=some (.int k,s1))(j:Oo [bed,.ref a2,.ref d3,.tup [.int x,.int y,.int k]] s1=some (.bl true,s2))(l:s2[l5]?=some (.lst c)) (o:K4 (.ref l5) [.tup [.int x,.int y,.int k]] s2=some (.non,s3)) (a:Hg (.ref d4) (.tup [.int x,.int y]) s3=some (.int k,s3)) (q:dput s3 d3 (.tup [.int x,.int y]) (.int k)=some s4)(r:∀a8:Option D,Jm (Js<|Ho Me<|Hc (mV 7)<|mZ) 1 [4] (Hl 0) Ro Uj [some bed,some tl,some (.ref a2),some (.ref d3),some (.ref d4),some (.ref l5),some (.ref l6),some (.tup [.int x,.int y]),a8] s4=some (.ref m,s5)) (u:s4[l6]?=some (.lst d)) (ex:Oi (.ref l6) [.ref m] s5=some (.non,b)):
  Ou [some bed,some tl,some (.ref a2),some (.ref d3),some (.ref d4),some (.ref l5),some (.ref l6),a7,a8] s=some (.nx [some bed,some tl,some (.ref a2),some (.ref d3),some (.ref d4),some (.ref l5),some (.ref l6),some (.tup [.int x,.int y]),some (.tup [.int x,.int y,.int k])],b):=by
 have e:Hg (.tup [.int x,.int y]) (.int 0) s1=some (.int x,s1):=Io (by decide) rfl;have h:Hg (.tup [.int x,.int y]) (.int 1) s1=some (.int y,s1):=Io (by decide) rfl;unfold Ou;refine Hw (U1:=[some bed,some tl,some (.ref a2),some (.ref d3),some (.ref d4),some (.ref l5),some (.ref l6),some (.tup [.int x,.int y]),a8]) (s1:=s1) (by simp[Z2,HZ,f,g]) ?_;refine Hw (U1:=[some bed,some tl,some (.ref a2),some (.ref d3),some (.ref d4),some (.ref l5),some (.ref l6),some (.tup [.int x,.int y]),some (.tup [.int x,.int y,.int k])]) (s1:=s1) (by simp[e,h,i]) ?_;rw[LJ];have n:mT (Ho Oo<|Hc (mV 0)<|Hc (mV 2)<|Hc (mV 3)<|Hc (mV 8)<|mZ) [some bed,some tl,some (.ref a2),some (.ref d3),some (.ref d4),some (.ref l5),some (.ref l6),some (.tup [.int x,.int y]),some (.tup [.int x,.int y,.int k])] s1=some (true,s2):=by simp[j]
 rw[n,Ae];show mS _ _ _ s2=_;refine Hw (U1:=[some bed,some tl,some (.ref a2),some (.ref d3),some (.ref d4),some (.ref l5),some (.ref l6),some (.tup [.int x,.int y]),some (.tup [.int x,.int y,.int k])]) (s1:=s3) (by simp[HZ,l,o]) ?_;refine Hw (U1:=[some bed,some tl,some (.ref a2),some (.ref d3),some (.ref d4),some (.ref l5),some (.ref l6),some (.tup [.int x,.int y]),some (.tup [.int x,.int y,.int k])]) (s1:=s4) ?_ (by simp[kZ,HZ,u,r,ex]);rw[MV];have p:Hq (mB Hg (mV 4)<|mV 7) (LH Il (mV 3)<|mV 7) [some bed,some tl,some (.ref a2),some (.ref d3),some (.ref d4),some (.ref l5),some (.ref l6),some (.tup [.int x,.int y]),some (.tup [.int x,.int y,.int k])] s3=none:=by simp[a,Il]
 rw[p,Kh];unfold LK;simp[a,q]
def vU{b c d f:Option D}(g:s[d4]?=some (.dt<|T.map Hj)):Jm (Js<|Ho Me<|Hc (mV 7)<|mZ) 1 [4] (Hl 0) Ro Uj [a0,a1,b,c,some (.ref d4),d,f,some (HG p),a8] s=some (.ref s.length,s++[.lst ((MR T p).map HG)]):=by
 have n:Jt ⟨(Ke p).map HG,[]⟩ (Hl 0) Ro Uj ((Ke p).map HG) [none,some (.ref d4)] s=some ((MR T p).map HG,s):=by refine TZ (R:=λU=>∃x,U=[x,some (.ref d4)]) ⟨none,rfl⟩ rfl λa L U w=>?_;obtain⟨x,rfl⟩:=w;have e:=Pr (x:=a.1) (y:=a.2) g;rw[Lz,Bx]at e;refine⟨[some (HG a),some (.ref d4)],rfl,?_,λ_=>rfl,⟨_,rfl⟩⟩;have e:Km (HG a) (.ref d4) s=some (.bl (HS T a.1 a.2).isSome,s):=e;unfold Ro;generalize HG a=A at *;simp[e]
 have fl:fits ((MR T p).map HG).length=true:=JP (by rw[Af];have:=Wm T p;omega);have h:=Ws (x:=p.1) (y:=p.2) (st:=s);have h:Me [HG p] s=some (.tup ((Ke p).map HG),s):=h;have hw:Js (Ho Me<|Hc (mV 7)<|mZ) [a0,a1,b,c,some (.ref d4),d,f,some (HG p),a8] s=some (⟨(Ke p).map HG,[]⟩,s):=by generalize (Ke p).map HG=N at *;generalize HG p=A at *;simp[h,Lv]
 rw[JN,hw];simp only[Ae];rw[show IU [a0,a1,b,c,some (D.ref d4),d,f,some (HG p),a8] 1 [4]=[none,some (.ref d4)] from rfl,n];simp only[Ae,fl,if_true]
def uZ(h:s[n]?=some (.lst<|(A++[p]).map HG)):N5 (.ref n) [] s=some (HG p,s.set n (.lst<|A.map HG)):=by unfold N5;simp[h]
def zR{R:List Tl}(c:Ctx bed e stk ks w h)(hn:st0.length<=a2/\a2<d3/\d3<d4/\d4<l5/\l5<l6)(q:RI a2 d3 d4 l5 l6 stk sd T R (A++[p]) st0 s)(F:(p.1,p.2,k)∈T)(hT:∀t∈T,IA w h ks.length t)(g:∀t∈sd,IA w h ks.length t)(i:Hy T)(hr:K2 e stk ks w h sd R)(hlen:sd.length+R.length<=900)(hA:A.length<=9000):
  ∃(b7 b8:Option D) (s':Hf) (j:List Tl) (l:List (Int×Int)),Y3 (Ou [some bed,some tl,some (.ref a2),some (.ref d3),some (.ref d4),some (.ref l5),some (.ref l6),a7,a8] s=some (.nx [some bed,some tl,some (.ref a2),some (.ref d3),some (.ref d4),some (.ref l5),some (.ref l6),b7,b8],s')) (RI a2 d3 d4 l5 l6 stk sd T j l st0 s') (((j=R/\l=A/\¬Kq e stk ks w h (sd++R) (p.1,p.2,k))\/(j=R++[(p.1,p.2,k)]/\l=A++MR T p/\Kq e stk ks w h (sd++R) (p.1,p.2,k)))):=by
 obtain⟨n0,n1,n2,n3,n4⟩:=hn;have G:=uZ q.h6;have a:=qax q.h6;have hK:∀t∈sd++R,0<=t.2.2/\t.2.2<(ks.length:Int):=λt hh=>by
  have:IA w h ks.length t:=by
   rcases Os.mp hh with hh|hh
   ·exact g t hh
   exact P9 hr t hh
  exact⟨this.2.2.2.2.1,this.2.2.2.2.2⟩
 have m:(s.set l6<|.lst<|A.map HG)[a2]?=some (.dk<|JF stk):=by rw[Ag (by omega)];exact q.h2
 have r:(s.set l6<|.lst<|A.map HG)[d3]?=some (.dt<|(sd++R).map Hj):=by rw[Ag (by omega)];exact q.h3
 have u:(s.set l6<|.lst<|A.map HG)[d4]?=some (.dt<|T.map Hj):=by rw[Ag (by omega)];exact q.h4
 have H:(s.set l6<|.lst<|A.map HG)[l5]?=some (.lst<|R.map tD):=by rw[Ag (by omega)];exact q.h5
 have I:(s.set l6<|.lst<|A.map HG)[l6]?=some (.lst<|A.map HG):=by rw[Aq a]
 have xg:Gr st0 (s.set l6<|.lst<|A.map HG):=Li q.fr (by omega);generalize s.set l6 (.lst<|A.map HG)=s1 at *;have J:HQ (T.map Hj) [.inl p.1,.inl p.2]=some (.int k):=QT i F;have K:=Ss u J;obtain⟨b,s2,M,N,g2⟩:=rB c hK r m<|hT _ F;have Q:=(g2.old _<|qax m).trans m;have B:=(g2.old _<|qax r).trans r;have S:=(g2.old _<|qax u).trans u;have f:=(g2.old _<|qax H).trans H;have U:=(g2.old _<|qax I).trans I;have W:=xg.trans g2
 cases b with
 |false=>
  refine⟨_,_,s2,R,A,pD q.h6 G K M,⟨Q,B,S,f,U,W⟩,.inl ⟨rfl,rfl,λz=>?_⟩⟩;exact absurd (N.mpr z)<|by decide
 |true=>
  have hm:=N.mp rfl;have d:=qax f;have L:=qax B;have ea:=append_at (x:=tD (p.1,p.2,k)) f (by rw[Af];omega);have X:(s2.set l5<|.lst<|R.map tD++[tD (p.1,p.2,k)])[d4]?=some (.dt<|T.map Hj):=by rw[Ag (by omega)];exact S
  have Y:(s2.set l5<|.lst<|R.map tD++[tD (p.1,p.2,k)])[d3]?=some (.dt<|(sd++R).map Hj):=by rw[Ag (by omega)];exact B
  have z2:(s2.set l5<|.lst<|R.map tD++[tD (p.1,p.2,k)])[a2]?=some (.dk<|JF stk):=by rw[Ag (by omega)];exact Q
  have z6:(s2.set l5<|.lst<|R.map tD++[tD (p.1,p.2,k)])[l6]?=some (.lst<|A.map HG):=by rw[Ag (by omega)];exact U
  have z5:(s2.set l5<|.lst<|R.map tD++[tD (p.1,p.2,k)])[l5]?=some (.lst<|(R++[(p.1,p.2,k)]).map tD):=by rw[Aq d];simp
  have zg:Gr st0 (s2.set l5<|.lst<|R.map tD++[tD (p.1,p.2,k)]):=Li W (by omega);generalize s2.set l5 (.lst<|R.map tD++[tD (p.1,p.2,k)])=s3 at *;have C:=Ss X J;have Z:=Nn (x:=p.1) (y:=p.2) (k:=k) Y (by simp;omega);rw[OW hm.2.1,Am]at Z;have L:=qax Y;have w2:(s3.set d3<|.dt<|(sd++(R++[(p.1,p.2,k)])).map Hj)[a2]?=some (.dk<|JF stk):=by rw[Ag (by omega)];exact z2
  have w3:(s3.set d3<|.dt<|(sd++(R++[(p.1,p.2,k)])).map Hj)[d3]?=some (.dt<|(sd++(R++[(p.1,p.2,k)])).map Hj):=by rw[Aq L]
  have w4:(s3.set d3<|.dt<|(sd++(R++[(p.1,p.2,k)])).map Hj)[d4]?=some (.dt<|T.map Hj):=by rw[Ag (by omega)];exact X
  have w5:(s3.set d3<|.dt<|(sd++(R++[(p.1,p.2,k)])).map Hj)[l5]?=some (.lst<|(R++[(p.1,p.2,k)]).map tD):=by rw[Ag (by omega)];exact z5
  have E:(s3.set d3<|.dt<|(sd++(R++[(p.1,p.2,k)])).map Hj)[l6]?=some (.lst<|A.map HG):=by rw[Ag (by omega)];exact z6
  have wg:Gr st0 (s3.set d3<|.dt<|(sd++(R++[(p.1,p.2,k)])).map Hj):=Li zg (by omega);generalize s3.set d3 (.dt<|(sd++(R++[(p.1,p.2,k)])).map Hj)=s4 at *;have v:∀{n:Nat}{o:O},s4[n]?=some o->(s4++[O.lst ((MR T p).map HG)])[n]?=some o:=λ{n o} z=>by rw[Aj (qax z)];exact z
  have vg:=wg.trans<|Gr.app s4 [O.lst ((MR T p).map HG)];have hnl:=Wm T p;have ex:=eD (v E) (Iq s4<|.lst<|(MR T p).map HG) (by rw[Af,Af];omega);have P:=qax<|v E;refine⟨_,_,_,R++[(p.1,p.2,k)],A++MR T p,uL q.h6 G K M f ea C Z (λa8=>vU w4) E ex,⟨?_,?_,?_,?_,?_,Li vg<|by omega⟩,.inr ⟨rfl,rfl,hm⟩⟩
  ·rw[Ag (by omega)];exact v w2
  ·rw[Ag (by omega)];exact v w3
  ·rw[Ag (by omega)];exact v w4
  ·rw[Ag (by omega)];exact v w5
  rw[Aq P,AU]
def uM{A:List D}{a2 a3 a4 a5:Option D}(h:s[l6]?=some (.lst A)):Rp [a0,a1,a2,a3,a4,a5,some (.ref l6),a7,a8] s=some (!A.isEmpty,s):=by unfold Rp;simp[S0,Lj,HZ,h]
theorem WQ{st0:Hf}(c:Ctx bed e stk ks w h)(hn:st0.length<=a2/\a2<d3/\d3<d4/\d4<l5/\l5<l6)(v:∀t∈T,IA w h ks.length t)(g:∀t∈sd,IA w h ks.length t)(a:Hy T)(j:Hy sd)(l:sd.length<=6)(m:T.length<=60):∀(n:Nat) {R:List Tl} {A:List (Int×Int)} {a7 a8:Option D}{s:Hf},n<=1000->RI a2 d3 d4 l5 l6 stk sd T R A st0 s->K2 e stk ks w h sd R->(∀t∈R,t∈T)->(∀p∈A,∃k,(p.1,p.2,k)∈T)->(∀t∈T,Kq e stk ks w h (sd++R) t->(t.1,t.2.1)∈A)->R.length+free T (sd++R)<=T.length->A.length+5*free T (sd++R)<n ->
  ∃(R':List Tl) (C E:Option D) (s':Hf),IS Rp Ou n [some bed,some tl,some (.ref a2),some (.ref d3),some (.ref d4),some (.ref l5),some (.ref l6),a7,a8] s=some (.nx [some bed,some tl,some (.ref a2),some (.ref d3),some (.ref d4),some (.ref l5),some (.ref l6),C,E],s')/\RI a2 d3 d4 l5 l6 stk sd T R' [] st0 s'/\Cl e stk ks w h sd T R'/\R'.length<=T.length
 |0,R,A,a7,a8,s,_,_,_,_,_,_,_,i=>absurd i<|Dt _
 |n+1,R,A,a7,a8,s,F,q,r,d,G,f,o,i=>by
  have M:=uM (a0:=some bed) (a1:=some tl) (a2:=some (.ref a2)) (a3:=some (.ref d3)) (a4:=some (.ref d4)) (a5:=some (.ref l5)) (a7:=a7) (a8:=a8) q.h6;rcases(List.eq_nil_or_concat A).imp_right (λ⟨B,b,z⟩=>(⟨B,b,z.trans List.concat_eq_append⟩:∃B b,A=B++[b]))with rfl|⟨A,p,rfl⟩
  ·refine⟨R,a7,a8,s,?_,q,⟨r,d,λt x z=>?_⟩,by omega⟩
   ·rw[IS];simp[M]
   have:=f t x z;cases this
  ·have hR:=o;obtain⟨k,hk⟩:=G p (by simp);rw[AD,Bl]at i;obtain⟨C,E,s1,R1,A1,Q,N,S⟩:=zR (tl:=tl) (a7:=a7) (a8:=a8) c hn q hk v g a r (by omega) (by omega);have fin:∃(R':List Tl) (P H:Option D) (s':Hf),IS Rp Ou n [some bed,some tl,some (.ref a2),some (.ref d3),some (.ref d4),some (.ref l5),some (.ref l6),C,E] s1=some (.nx [some bed,some tl,some (.ref a2),some (.ref d3),some (.ref d4),some (.ref l5),some (.ref l6),P,H],s')/\RI a2 d3 d4 l5 l6 stk sd T R' [] st0 s'/\Cl e stk ks w h sd T R'/\R'.length<=T.length:=by
    rcases S with⟨rfl,rfl,I⟩|⟨rfl,rfl,hm⟩
    ·refine WQ c hn v g a j l m n (by omega) N r d (λz J=>G z (AK _ J)) (λt x z=>?_) o (by omega)
     rcases Os.mp (f t x z)with y|y
     ·exact y
     have y:=KM.mp y;have U:=Np a x;have L:=Np a hk;subst y;have L:HS T t.1 t.2.1=some k:=L;rw[U]at L;cases L;exact absurd z I
    ·have hf:=bH hk hm.2.1;rw[Am]at hf;have W:=Wm T p;refine WQ c hn v g a j l m n (by omega) N (Ra r hm) (λt x=>?_) (λz J=>?_) (λt x z=>?_) (by rw[AD,Bl];omega) (by rw[AD];omega)
     ·rcases Os.mp x with y|y
      ·exact d t y
      rw[KM.mp y];exact hk
     ·rcases Os.mp J with y|y
      ·exact G z<|AK _ y
      have y:=(List.mem_filter.mp y).2;obtain⟨X,y⟩:=Option.isSome_iff_exists.mp y;exact⟨X,M3 y⟩
     ·rcases vI x a z with y|y
      ·rcases Os.mp (f t x y)with u|u
       ·exact AK _ u
       have u:=KM.mp u;have Y:=LO.mp z.2.1 (p.1,p.2,k) (by simp);subst u;exact absurd ⟨rfl,rfl⟩ Y
      exact AJ _ y
   obtain⟨R',P,H,s',Z,q2,cl,hl⟩:=fin;refine⟨R',P,H,s',?_,q2,cl,hl⟩;rw[IS];dsimp only;rw[M];have K:(!((A++[p]).map HG).isEmpty)=true:=by simp
   simp only[Ae,K,if_true,Q];exact Z
def qR{d:Nat}(hd:s[d]?=some (.dt<|T.map Hj))(a:T.length<=60):OC [.ref d] s=some (.ref s.length,s++[.lst ((T.map λt=>(t.1,t.2.1)).map HG)]):=by
 have e:Qw [.ref d] s=none:=by simp[Qw,K6,LF,Qx,SV,HZ,hd]
 have fl:fits T.length=true:=JP (by omega);have h:Jl (T.map Hj)=(T.map λt=>(t.1,t.2.1)).map HG:=by unfold Jl;rw[AI,AI];rfl
 unfold OC K6;rw[e,Kh];unfold SU;simp only[hd,Af,fl,if_true,h]
def zhL(c:Ctx (Hu e stk ks w h sd) e stk ks w h)(m:∀t∈T,IA w h ks.length t)(g:∀t∈sd,IA w h ks.length t)(a:Hy T)(b:Hy sd)(i:sd.length<=6)(d:T.length<=60):
  ∃(R:List Tl) (f:Hf),Y4 (WD [Hu e stk ks w h sd,HL T] st=some (.tup (R.map tD),f)) (Gr st f) (Cl e stk ks w h sd T R) (R.length<=T.length):=by
 obtain⟨Q,r,S,B,U⟩:=c.at_;have A:=VC (stk:=stk) (st:=st) (by have:=c.hs.sl;omega);obtain⟨s1,L,a1,g1⟩:=Va (ts:=sd) (st:=st++[.dk (JF stk)]) (by omega);rw[PV b]at a1;have b1:s1[st.length]?=some (.dk<|JF stk):=(g1.old _<|by simp).trans<|Iq st _;have C:(st++[O.dk (JF stk)]).length=st.length+1:=by simp
 rw[C]at L a1;obtain⟨s2,E,a2,g2⟩:=Va (ts:=T) (st:=s1) (by omega);rw[PV a]at a2;have W:st.length+1<s1.length:=qax a1;have X:s1.length<s2.length:=qax a2;have F:=((Gr.app st [.dk (JF stk)]).trans g1).trans g2;have G:=(g2.old _<|qax a1).trans a1;have H:=(g2.old _<|qax b1).trans b1;have v:∀{n:Nat}{o u:O},s2[n]?=some o->(s2++[u])[n]?=some o:=λ{n o u} z=>by rw[Aj (qax z)];exact z
 have y:∀{n:Nat}{o u:O},(s2++[O.lst []])[n]?=some o->(s2++[O.lst []]++[u])[n]?=some o:=λ{n o u} z=>by rw[Aj (qax z)];exact z
 have P:=qR (s:=s2++[O.lst []]) (v a2) d;have j:(s2++[O.lst []]).length=s2.length+1:=by simp
 have q:RI st.length (st.length+1) s1.length s2.length (s2.length+1) stk sd T [] (T.map λt=>(t.1,t.2.1)) st (s2++[O.lst []]++[.lst ((T.map λt=>(t.1,t.2.1)).map HG)]):=
  ⟨y<|v H,by rw[Ao];exact y (v G),y<|v a2,y<|Iq s2 _,by rw[<-j];exact Iq _ _,(F.trans<|Gr.app _ _).trans<|Gr.app _ _⟩
 rw[j]at P;have hf:=Z8 T (sd++[]);generalize s2++[O.lst []]++[O.lst ((T.map λt=>(t.1,t.2.1)).map HG)]=s3 at *;obtain⟨R,Y,Z,s4,I,l,cl,J⟩:=WQ (tl:=HL T) (a7:=none) (a8:=none) c ⟨Ah _,by omega,by omega,by omega,by omega⟩ m g a b i d 1000 (Ah _) q trivial (λt x=>by cases x) (λp K=>by obtain⟨t,x,rfl⟩:=SL.mp K;exact⟨t.2.2,x⟩) (λt x _=>SL.mpr ⟨t,x,rfl⟩) (by simpa using hf) (by rw[Af];omega)
 have M:∀s:Hf,Hg (Hu e stk ks w h sd) (.int 2) s=some (HL sd,s):=λs=>Io (by decide) rfl;have N:=LA l.h5;refine⟨R,s4,IJ ?_,l.fr,cl,J⟩;unfold eQ;generalize Hu e stk ks w h sd=bed at *;generalize HL T=TT at *;generalize HL sd=SS at *;refine Hw (U1:=[some bed,some TT,some (.ref st.length),none,none,none,none,none,none]) (s1:=st++[O.dk (JF stk)]) (by simp[r,B,A]) ?_;refine Hw (U1:=[some bed,some TT,some (.ref st.length),some (.ref<|st.length+1),none,none,none,none,none]) (s1:=s1) (by simp[M,L]) ?_;refine Hw (U1:=[some bed,some TT,some (.ref st.length),some (.ref<|st.length+1),some (.ref s1.length),none,none,none,none]) (s1:=s2) (by simp[E]) ?_;refine Hw (U1:=[some bed,some TT,some (.ref st.length),some (.ref<|st.length+1),some (.ref s1.length),some (.ref s2.length),none,none,none]) (s1:=s2++[O.lst []]) (by simp) ?_;refine Hw (U1:=[some bed,some TT,some (.ref st.length),some (.ref<|st.length+1),some (.ref s1.length),some (.ref s2.length),some (.ref<|s2.length+1),none,none]) (s1:=s3) (by simp[P]) ?_;refine Hw I ?_;simp[N]
def xJ(c:Ctx (Hu e stk ks w h sd) e stk ks w h)(l:∀t∈T,IA w h ks.length t)(f:∀t∈sd,IA w h ks.length t)(g:Hy T)(i:Hy sd)(j:sd.length<=6)(m:T.length<=50):
  ∃(R:List Tl) (d:Hf),Y4 (VE [Hu e stk ks w h sd,HL T] st=some (HL (Hs<|sd++R),d)) (Gr st d) (Cl e stk ks w h sd T R) (R.length<=T.length):=by
 obtain⟨R,s1,n,g1,cl,p⟩:=zhL (st:=st) c l f g i j (by omega);have x:=zP (a:=sd) (b:=R) (st:=s1) (by omega);have y:=eL (ts:=sd++R) (st:=s1) (by simp;omega);have A:=LA<|Iq s1<|.lst<|(Hs<|sd++R).map tD;have L:∀s:Hf,Hg (Hu e stk ks w h sd) (.int 2) s=some (.tup (sd.map tD),s):=λs=>Io (by decide) rfl;refine⟨R,s1++[.lst ((Hs<|sd++R).map tD)],IJ ?_,g1.trans<|Gr.app _ _,cl,p⟩;unfold Z0;rw[OY (Hs<|sd++R)];generalize Hu e stk ks w h sd=bed at *;generalize HL T=TT at *;generalize (Hs<|sd++R).map tD=B at *;generalize (sd++R).map tD=C at *;generalize R.map tD=P at *;generalize sd.map tD=SS at *;generalize s1++[O.lst B]=s5 at *;simp[L,n,x,y,A]
end L2.MP.T0
namespace L2.MP.T0
open PySem L2.MP L2.MP.Hd
open L2.MP.Hn (HL Mu Hs JX O2 Qi)
variable {bed hs:D}{e w h x y k E:Int}{stk:List (Str×Int)}{ks:List (List Str)}{sd:List Tl}{d:Nat}{g a3 a4 a5 a6:Option D}{s s1 s2 st0 st:Hf}
section
variable {TT:D}{T:List Tl}
def qW(a:KZ (.tup [.int x,.int y]) (.ref d) s=some (.bl false,s)):
  Ny [some bed,some TT,some (.ref d),g,some (.int x),some (.int y),some (.int k)] s=some (.nx [some bed,some TT,some (.ref d),g,some (.int x),some (.int y),some (.int k)],s):=by
 unfold Ny;simp[a]
def qX{R:Int}(a:KZ (.tup [.int x,.int y]) (.ref d) s=some (.bl true,s))(b:Nx [bed,.ref d,.tup [.int x,.int y],.int k] s=some (.int R,s1))(c:Hg bed (.int 0) s1=some (hs,s1))(f:Hg hs (.int 0) s1=some (.int E,s1))(i:¬E<=R):
  Ny [some bed,some TT,some (.ref d),g,some (.int x),some (.int y),some (.int k)] s=some (.nx [some bed,some TT,some (.ref d),g,some (.int x),some (.int y),some (.int k)],s1):=by
 unfold Ny;simp[a,b,c,f,i]
def uJ{R:Int}(a:KZ (.tup [.int x,.int y]) (.ref d) s=some (.bl true,s))(b:Nx [bed,.ref d,.tup [.int x,.int y],.int k] s=some (.int R,s1))(c:Hg bed (.int 0) s1=some (hs,s1))(f:Hg hs (.int 0) s1=some (.int E,s1))(i:E<=R)(j:dput s1 d (.tup [.int x,.int y]) (.int k)=some s2):
  Ny [some bed,some TT,some (.ref d),g,some (.int x),some (.int y),some (.int k)] s=some (.nx [some bed,some TT,some (.ref d),some (.bl true),some (.int x),some (.int y),some (.int k)],s2):=by
 unfold Ny;rw[LJ];have e:Kr (mT<|mB KZ (mU<|Hc (mV 4)<|Hc (mV 5)<|mZ)<|mV 2) (mT<|mB Mh (Ho Nx<|Hc (mV 0)<|Hc (mV 2)<|Hc (mU<|Hc (mV 4)<|Hc (mV 5)<|mZ)<|Hc (mV 6)<|mZ)<|mB Hg (mB Hg (mV 0)<|mK<|.int 0)<|mK<|.int 0) [some bed,some TT,some (.ref d),g,some (.int x),some (.int y),some (.int k)] s=some (true,s1):=by simp[a,b,c,f,i]
 rw[e,Ae];show mS _ _ _ s1=_;refine Hw (U1:=[some bed,some TT,some (.ref d),g,some (.int x),some (.int y),some (.int k)]) (s1:=s2) ?_ (by simp);rw[MV];have h:Hq (mV 6) (LH Il (mV 2)<|mU<|Hc (mV 4)<|Hc (mV 5)<|mZ) [some bed,some TT,some (.ref d),g,some (.int x),some (.int y),some (.int k)] s1=none:=by simp[Il]
 rw[h,Kh];unfold LK;simp[j]
def qV{R:List Tl}{t:Tl}(c:Ctx bed e stk ks w h)(hd:s[d]?=some (.dt<|(sd++R).map Hj))(h0:st0.length<=d)(b:Gr st0 s)(r:∀t∈sd++R,0<=t.2.2/\t.2.2<(ks.length:Int))(n:IA w h ks.length t)(hlen:sd.length+R.length<=900):
  ∃(s':Hf) (g':Option D) (j:List Tl),Y4 (Ny [some bed,some TT,some (.ref d),g,some (.int t.1),some (.int t.2.1),some (.int t.2.2)] s=some (.nx [some bed,some TT,some (.ref d),g',some (.int t.1),some (.int t.2.1),some (.int t.2.2)],s')) (s'[d]?=some (.dt<|(sd++j).map Hj)) (Gr st0 s') (((g'=g/\j=R/\¬Kq e stk ks w h (sd++R) t)\/(g'=some (.bl true)/\j=R++[t]/\Kq e stk ks w h (sd++R) t))):=by
 obtain⟨x,y,k⟩:=t;have tt:=n;obtain⟨x0,A,B,C,T,a⟩:=n;have T:0<=k:=T;have a:k<(ks.length:Int):=a;have E:=V0 (x:=x) (y:=y) hd;rw[Lz,Bx]at E;cases hf:HS (sd++R) x y with
 |some F=>
  rw[hf]at E;refine⟨s,g,R,qW E,hd,b,.inl ⟨rfl,rfl,λz=>?_⟩⟩;have:HS (sd++R) x y=none:=z.2.1;rw[hf]at this;cases this
 |none=>
  rw[hf]at E;obtain⟨hs,o,p,G,H⟩:=c.at_;obtain⟨f,I,b1,J,K,L,u,v⟩:=Mp c.ks T a;obtain⟨s2,l,g2⟩:=cY (x:=x) (y:=y) c.bed c.ks c.stk (by have:=c.hs.sl;omega) r T a hd;have m:((alike (IE ks k)<|names4 ks (sd++R) x y).map λi=>sv stk ((IE ks k).getD i "")).sum=Kj stk ks (sd++R) x y k.toNat:=by have:=Tb (stk:=stk) (P:=sd++R) (x:=x) (y:=y) (k:=k.toNat) (ks:=ks) (by rw[Bz T,u];rfl);rw[Bz T]at this;exact this
  rw[m]at l;have hd2:=(g2.old _<|qax hd).trans hd
  by_cases hR:e<=Kj stk ks (sd++R) x y k.toNat
  ·have hm:Kq e stk ks w h (sd++R) (x,y,k):=⟨tt,hf,hR⟩
   have q:=Nn (x:=x) (y:=y) (k:=k) hd2 (by simp;omega);rw[OW hm.2.1,Am]at q;exact⟨_,_,R++[(x,y,k)],uJ E l (o _) (p _) hR q,by rw[Aq (qax hd2)],Li (b.trans g2) h0,.inr ⟨rfl,rfl,hm⟩⟩
  exact⟨s2,g,R,qX E l (o _) (p _) hR,hd2,b.trans g2,.inl ⟨rfl,rfl,λz=>hR z.2.2⟩⟩
structure LS(e:Int)(stk:List (Str×Int))(ks:List (List Str))(w h:Int)(d:Nat)(sd T R:List Tl)(st0 s:Hf):Prop where
 at_:s[d]?=some (.dt ((sd++R).map Hj))
 fr:Gr st0 s
 row:K2 e stk ks w h sd R
 sub:∀t∈R,t∈T
 few:R.length+free T (sd++R)<=T.length
def qU{R:List Tl}(c:Ctx bed e stk ks w h)(q:LS e stk ks w h d sd T R st0 s)(h0:st0.length<=d)(A:∀t∈T,IA w h ks.length t)(p:∀t∈sd,IA w h ks.length t)(C:sd.length<=6)(F:T.length<=60):
  ∃(g:Bool) (b f j:Option D) (a:List Tl) (s':Hf),Y4 (Uy [some bed,some (HL T),some (.ref d),a3,a4,a5,a6] s=some (.nx [some bed,some (HL T),some (.ref d),some (.bl g),b,f,j],s')) (LS e stk ks w h d sd T a st0 s') ((g=false->∀t∈T,¬Kq e stk ks w h (sd++a) t)) ((g=true->free T (sd++a)<free T (sd++R))):=by
 have key:=Ku (W:=⟨T.map tD,[]⟩) (g:=Kn 3 (gC (Hl 4)<|gC (Hl 5)<|gC (Hl 6)<|Ko)) (m:=Ny) (ds:=T.map tD) (U:=[some bed,some (HL T),some (.ref d),some (.bl false),a4,a5,a6]) (st:=s)
  (Inv:=λi U s=>∃(g:Bool) (b f j:Option D) (a:List Tl),Y4 (U=[some bed,some (HL T),some (.ref d),some (.bl g),b,f,j]) (LS e stk ks w h d sd T a st0 s) ((g=false->a=R/\∀t∈T.take i,¬Kq e stk ks w h (sd++R) t)) ((g=true->free T (sd++a)<free T (sd++R))))
  ⟨false,_,_,_,R,rfl,q,λ_=>⟨rfl,λt o=>by simp at o⟩,λz=>by cases z⟩ (λ_ _ _ _ _=>rfl) (λi L U s E G=>by
   obtain⟨g,b,f,j,a,rfl,q',l,x⟩:=G;rw[Ay]at E;obtain⟨t,o,rfl⟩:=Ig E;have y:=AF o;have H:∀t∈sd++a,0<=t.2.2/\t.2.2<(ks.length:Int):=λt hh=>by
    have:IA w h ks.length t:=by
     rcases Os.mp hh with hh|hh
     ·exact p t hh
     exact A t<|q'.sub t hh
    exact⟨this.2.2.2.2.1,this.2.2.2.2.2⟩
   have B:=q'.few;obtain⟨s2,g2,R2,I,at2,n,J⟩:=qV (TT:=HL T) (g:=some (.bl g)) c q'.at_ h0 q'.fr H (A t y) (by omega);refine⟨[some bed,some (HL T),some (.ref d),some (.bl g),some (.int t.1),some (.int t.2.1),some (.int t.2.2)],s,_,s2,rfl,I,?_⟩
   rcases J with⟨rfl,rfl,r⟩|⟨rfl,rfl,hm⟩
   ·refine⟨g,_,_,_,R2,rfl,⟨at2,n,q'.row,q'.sub,q'.few⟩,λz=>?_,x⟩;obtain⟨rfl,v⟩:=l z;refine⟨rfl,λu hu=>?_⟩;rw[Bj,o,Dw]at hu
    rcases hu with hu|hu
    ·exact v u hu
    rw[KM.mp hu];exact r
   ·have hf:=bH y hm.2.1;rw[Am]at hf;refine⟨true,_,_,_,a++[t],rfl,⟨at2,n,Ra q'.row hm,λu hu=>?_,by rw[AD,Bl];omega⟩,(λz=>nomatch z),λ_=>?_⟩
    ·rcases Os.mp hu with hu|hu
     ·exact q'.sub u hu
     rw[KM.mp hu];exact y
    ·cases g with
     |true=>have:=x rfl;omega
     |false=>obtain⟨rfl,_⟩:=l rfl;omega)
 obtain⟨M,s',K,g,b,f,j,a,rfl,q',l,x⟩:=key;rw[Af,Bb]at l;refine⟨g,b,f,j,a,s',?_,q',λz=>by obtain⟨rfl,v⟩:=l z;exact v,x⟩;unfold Uy;refine Hw (U1:=[some bed,some (HL T),some (.ref d),some (.bl false),a4,a5,a6]) (s1:=s) (by simp) ?_;have hw:Js (mV 1) [some bed,some (HL T),some (.ref d),some (.bl false),a4,a5,a6] s=some (⟨T.map tD,[]⟩,s):=rfl;rw[Ki,hw];exact K
def aT{g:Bool}{a0 a1 a2:Option D}:Uz [a0,a1,a2,some (.bl g),a4,a5,a6] s=some (g,s):=by unfold Uz;simp[S0,Lj]
theorem aD{st0:Hf}(c:Ctx bed e stk ks w h)(h0:st0.length<=d)(r:∀t∈T,IA w h ks.length t)(a:∀t∈sd,IA w h ks.length t)(b:sd.length<=6)(f:T.length<=60):∀(n:Nat) {R:List Tl}{g:Bool}{a4 a5 a6:Option D}{s:Hf},LS e stk ks w h d sd T R st0 s->(g=false->0<n/\∀t∈T,¬Kq e stk ks w h (sd++R) t)->(g=true->free T (sd++R)+1<n) ->
  ∃(i:List Tl) (m o p:Option D) (s':Hf),IS Uz Uy n [some bed,some (HL T),some (.ref d),some (.bl g),a4,a5,a6] s=some (.nx [some bed,some (HL T),some (.ref d),some (.bl false),m,o,p],s')/\LS e stk ks w h d sd T i st0 s'/\∀t∈T,¬Kq e stk ks w h (sd++i) t
 |0,R,g,a4,a5,a6,s,q,j,l=>by
  cases g with
  |false=>exact absurd (j rfl).1<|AL _
  |true=>exact absurd (l rfl)<|Dt _
 |n+1,R,false,a4,a5,a6,s,q,j,l=>by refine⟨R,a4,a5,a6,s,?_,q,(j rfl).2⟩;rw[IS];dsimp only;rw[aT];rfl
 |n+1,R,true,a4,a5,a6,s,q,j,l=>by have G:=l rfl;obtain⟨g,m,o,p,H,s1,y,E,u,x⟩:=qU (a3:=some (.bl true)) (a4:=a4) (a5:=a5) (a6:=a6) c q h0 r a b f;obtain⟨i,v,A,B,s',C,F,sat⟩:=aD c h0 r a b f n (g:=g) (a4:=m) (a5:=o) (a6:=p) E (λz=>⟨by omega,u z⟩) (λz=>by have:=x z;omega);refine⟨i,v,A,B,s',?_,F,sat⟩;rw[IS];dsimp only;rw[aT];simp only[Ae,if_true,y];exact C
def zh2(c:Ctx (Hu e stk ks w h sd) e stk ks w h)(j:∀t∈T,IA w h ks.length t)(b:∀t∈sd,IA w h ks.length t)(f:Hy sd)(i:sd.length<=6)(l:T.length<=50):
  ∃(d:Nat) (R:List Tl) (a:Hf),Y5 (Xi [Hu e stk ks w h sd,HL T] st=some (.ref d,a)) (a[d]?=some (.dt<|(sd++R).map Hj)) (Gr st a) (Cl e stk ks w h sd T R) (R.length<=T.length/\st.length<=d):=by
 obtain⟨d,s1,y,a1,hd,g1⟩:=Wl (ts:=sd) (st:=st) (by omega);rw[PV f]at a1;have hf:=Z8 T<|sd++[];obtain⟨R,o,p,r,s2,E,q,sat⟩:=aD (g:=true) (a4:=none) (a5:=none) (a6:=none) c hd j b i (by omega) 1000 (T:=T) (R:=[]) (s:=s1) ⟨by rw[Ao];exact a1,g1,trivial,λt m=>(by cases m),by simpa using hf⟩ (λz=>by cases z) (λ_=>by omega);have x:=q.few;refine⟨d,R,s2,IJ ?_,q.at_,q.fr,⟨q.row,q.sub,sat⟩,by omega,hd⟩;have n:∀s:Hf,Hg (Hu e stk ks w h sd) (.int 2) s=some (HL sd,s):=λs=>Io (by decide) rfl;unfold fG;generalize Hu e stk ks w h sd=bed at *;generalize HL T=TT at *;generalize HL sd=SS at *;refine Hw (U1:=[some bed,some TT,some (.ref d),none,none,none,none]) (s1:=s1) (by simp[n,y]) ?_;refine Hw (U1:=[some bed,some TT,some (.ref d),some (.bl true),none,none,none]) (s1:=s1) (by simp) ?_;refine Hw E ?_;simp
end
theorem cP{α β:Type}(f:α->β):∀(l:List α) (i:Nat),(l.map f).eraseIdx i=(l.eraseIdx i).map f
 |[],i=>by simp
 |a::l,0=>by simp
 |a::l,i+1=>by simp[cP f l i]
def XZ(p:Int×Int):PyData:=.tuple [.int p.1,.int p.2]
variable {n:Nat}
theorem ZY{n:Nat}{st:Hf}:∀ps:List (Int×Int),Jr (ID (n+2) st) (ps.map HG)=some (ps.map XZ)
 |[]=>rfl
 |p::ps=>by
  have e:ID (n+2) st (HG p)=some (XZ p):=by show ID (n+2) st (.tup [.int p.1,.int p.2])=_;rw[ID];simp only[Jr,ID,Ae,AZ];rfl
  rw[As,Jr,e,Ae,ZY ps];rfl
variable {m:Nat}
def jS{l:Nat}{ps:List (Int×Int)}(a:st[l]?=some (.lst<|ps.map HG))(hm:st[m]?=some (.lst [])):JO (.ref l) (.ref m) st=some (.bl !ps.isEmpty,st):=by
 have e:ID 100 st (.ref l)=some (.list<|ps.map XZ):=by rw[ID];simp only[HZ,a,Ae];rw[ZY];rfl
 unfold JO;rw[e,P4 (n:=98) (as:=[]) hm];cases ps<;>rfl
variable {P:List Tl}
def zjU{P:List Tl}(hd:s[d]?=some (.dt<|P.map Hj))(a:P.length<64):∃L:List (Int×Int),Y3 (P2 [.ref d] s=some (.ref s.length,s++[.lst (L.map HG)])) (L.length=P.length) (∀p∈L,∃t∈P,t.1=p.1/\t.2.1=p.2):=by
 have fl:fits (P.map Hj).length=true:=JP (by rw[Af];omega);have n:Jl (P.map Hj)=(P.map λt=>(t.1,t.2.1)).map HG:=by unfold Jl;rw[AI,AI];rfl
 have w:((P.map λt=>(t.1,t.2.1)).map HG).length=P.length:=by rw[Af,Af]
 by_cases h:P.length<2
 ·refine⟨P.map λt=>(t.1,t.2.1),?_,by rw[Af],λp hp=>?_⟩
  ·unfold P2;simp only[hd,fl,if_true,n];rw[if_pos (by rw[w];exact decide_eq_true h)]
  obtain⟨t,g,rfl⟩:=SL.mp hp;exact⟨t,g,rfl,rfl⟩
 ·have x:rowsOf ((P.map λt=>(t.1,t.2.1)).map HG)=some (P.map λt=>[t.1,t.2.1]):=by
   have:(P.map λt=>(t.1,t.2.1)).map HG=(P.map λt=>[t.1,t.2.1]).map HF:=by rw[AI,AI];rfl
   rw[this];exact Ri λr e=>by obtain⟨t,_,rfl⟩:=SL.mp e;simp
  have hp:=Ue<|P.map λt=>[t.1,t.2.1];have m:∀r∈KW (P.map λt=>[t.1,t.2.1]),∃t∈P,r=[t.1,t.2.1]:=λr e=>by obtain⟨t,g,rfl⟩:=SL.mp<|hp.mem_iff.mp e;exact⟨t,g,rfl⟩
  have hlen:=hp.length_eq;rw[Af]at hlen;refine⟨(KW<|P.map λt=>[t.1,t.2.1]).map λr=>(r.getD 0 0,r.getD 1 0),?_,by rw[Af];exact hlen,λp y=>?_⟩
  ·have E:((KW<|P.map λt=>[t.1,t.2.1]).map λr=>(r.getD 0 0,r.getD 1 0)).map HG=(KW<|P.map λt=>[t.1,t.2.1]).map HF:=by
    rw[AI];refine CK λr e=>?_;obtain⟨t,_,rfl⟩:=m r e;rfl
   unfold P2;simp only[hd,fl,if_true,n];rw[if_neg (by rw[w];simpa using h),x];simp only[Ae,Af];rw[if_pos (by simp;omega),E]
  obtain⟨r,e,rfl⟩:=SL.mp y;obtain⟨t,g,rfl⟩:=m r e;exact⟨t,g,rfl,rfl⟩
variable {q:Nat}{wy r:Int}
section
variable {pl:D}{s3:Hf}
def wI(hw:¬0<wy):Ji (Kr (mT<|mB Na (mV 6)<|mK<|.int 0)<|mT<|mB JO (mV 5)<|mL<|mZ) (Hq (mB Hg (mV 5)<|Ho Ih<|Hc (mV 0)<|Hc (Ho HP<|Hc (mV 5)<|mZ)<|mZ)<|Hl 7) Jn [some (.ref n),some bed,some (.ref d),a3,a4,some (.ref q),some (.int wy),some pl] s=some (.nx [some (.ref n),some bed,some (.ref d),a3,a4,some (.ref q),some (.int wy),some pl],s):=by simp[hw]
def wJ(hw:0<wy)(hs:s++[.lst []]=s1)(a:JO (.ref q) (.ref s.length) s1=some (.bl false,s1)):Ji (Kr (mT<|mB Na (mV 6)<|mK<|.int 0)<|mT<|mB JO (mV 5)<|mL<|mZ) (Hq (mB Hg (mV 5)<|Ho Ih<|Hc (mV 0)<|Hc (Ho HP<|Hc (mV 5)<|mZ)<|mZ)<|Hl 7) Jn [some (.ref n),some bed,some (.ref d),a3,a4,some (.ref q),some (.int wy),some pl] s=some (.nx [some (.ref n),some bed,some (.ref d),a3,a4,some (.ref q),some (.int wy),some pl],s1):=by simp[hw,hs,a]
def wK{N:Int}{a:D}(hw:0<wy)(hs:s++[.lst []]=s1)(b:JO (.ref q) (.ref s.length) s1=some (.bl true,s1))(c:HP [.ref q] s1=some (.int N,s1))(f:Ih [.ref n,.int N] s1=some (.int r,s2))(i:Hg (.ref q) (.int r) s2=some (a,s2)):Ji (Kr (mT<|mB Na (mV 6)<|mK<|.int 0)<|mT<|mB JO (mV 5)<|mL<|mZ) (Hq (mB Hg (mV 5)<|Ho Ih<|Hc (mV 0)<|Hc (Ho HP<|Hc (mV 5)<|mZ)<|mZ)<|Hl 7) Jn [some (.ref n),some bed,some (.ref d),a3,a4,some (.ref q),some (.int wy),some pl] s=some (.nx [some (.ref n),some bed,some (.ref d),a3,a4,some (.ref q),some (.int wy),some a],s2):=by simp[hw,hs,b,c,f,i]
def MB:MS:=Ji (Kr (mT<|mB Kv (mV 6)<|mK<|.int 3)<|mT<|mB Km (mV 7)<|mV 2) (IG<|Qz (mV 2)<|mV 7)<|Jg (mV 2) (mV 7)<|Ho Ih<|Hc (mV 0)<|Hc (Ho HP<|Hc (mB Hg (mB Hg (mV 1)<|mK<|.int 0)<|mK<|.int 2)<|mZ)<|mZ
def qJ{kvs:List (List Key×D)}(hw:wy=3)(hd:s[d]?=some (.dt kvs))(a:Km (.tup [.int x,.int y]) (.ref d) s=some (.bl true,s))(b:HQ kvs [.inl x,.inl y]=some (.int k)):MB [some (.ref n),some bed,some (.ref d),a3,a4,some (.ref q),some (.int wy),some (.tup [.int x,.int y])] s=some (.nx [some (.ref n),some bed,some (.ref d),a3,a4,some (.ref q),some (.int wy),some (.tup [.int x,.int y])],s.set d (.dt<|J4 kvs [.inl x,.inl y])):=by
 have hk:keysOf [.int x,.int y]=some [.inl x,.inl y]:=rfl;have e:Qz (mV 2) (mV 7) [some (.ref n),some bed,some (.ref d),a3,a4,some (.ref q),some (.int wy),some (.tup [.int x,.int y])] s=some (.int k,s.set d (.dt<|J4 kvs [.inl x,.inl y])):=by unfold Qz;simp[MN,hd,hk,b]
 subst hw;unfold MB;rw[LJ];have g:Kr (mT<|mB Kv (mV 6)<|mK<|.int 3) (mT<|mB Km (mV 7)<|mV 2) [some (.ref n),some bed,some (.ref d),a3,a4,some (.ref q),some (.int 3),some (.tup [.int x,.int y])] s=some (true,s):=by simp[eq_int,a]
 rw[g,Ae,if_pos rfl,Nl,e];rfl
def rE{a:D}{K:Int}(j:Kr (mT<|mB Kv (mV 6)<|mK<|.int 3) (mT<|mB Km (mV 7)<|mV 2) [some (.ref n),some bed,some (.ref d),a3,a4,some (.ref q),some (.int wy),some (.tup [.int x,.int y])] s=some (false,s))(b:Hg bed (.int 0) s=some (hs,s))(c:Hg hs (.int 2) s=some (a,s))(f:HP [a] s=some (.int K,s))(i:Ih [.ref n,.int K] s=some (.int r,s1))(l:dput s1 d (.tup [.int x,.int y]) (.int r)=some s2):MB [some (.ref n),some bed,some (.ref d),a3,a4,some (.ref q),some (.int wy),some (.tup [.int x,.int y])] s=some (.nx [some (.ref n),some bed,some (.ref d),a3,a4,some (.ref q),some (.int wy),some (.tup [.int x,.int y])],s2):=by
 unfold MB;rw[LJ,j,Ae,if_neg AV,MV];have e:Hq (Ho Ih<|Hc (mV 0)<|Hc (Ho HP<|Hc (mB Hg (mB Hg (mV 1)<|mK<|.int 0)<|mK<|.int 2)<|mZ)<|mZ) (LH Il (mV 2)<|mV 7) [some (.ref n),some bed,some (.ref d),a3,a4,some (.ref q),some (.int wy),some (.tup [.int x,.int y])] s=none:=by simp[b,c,f,i,Il]
 rw[e,Kh];unfold LK;simp[b,c,f,i,l]
end
def U8{k:Nat}{o:O}(g:Fr n st s)(h:st.length<=k):Fr n st (s.set k o):=⟨by rw[Bf];exact g.len,λj d e=>by rw[Ag (by omega)];exact g.old j d e⟩
def KQ(w h:Int)(p:Int×Int):Prop:=0<=p.1/\p.1<w/\0<=p.2/\p.2<h
variable {p:Int×Int}{a7:Option D}
def PU{L:List (Int×Int)}{p:Int×Int}(a:s[q]?=some (.lst<|L.map HG))(c:HI n m s)(i:q≠n)(hm:m<=1000000)(z:L.length<=100)(hf:KQ w h p)(b:∀p∈L,KQ w h p):
  ∃(f:Int×Int) (s':Hf),Y4 (Ji (Kr (mT<|mB Na (mV 6)<|mK<|.int 0)<|mT<|mB JO (mV 5)<|mL<|mZ) (Hq (mB Hg (mV 5)<|Ho Ih<|Hc (mV 0)<|Hc (Ho HP<|Hc (mV 5)<|mZ)<|mZ)<|Hl 7) Jn [some (.ref n),some bed,some (.ref d),a3,a4,some (.ref q),some (.int wy),some (HG p)] s=some (.nx [some (.ref n),some bed,some (.ref d),a3,a4,some (.ref q),some (.int wy),some (HG f)],s')) (KQ w h f) (HI n (m+1) s') (Fr n s s'):=by
 by_cases hw:0<wy
 ·have a1:(s++[O.lst []])[q]?=some (.lst<|L.map HG):=by rw[Aj (qax a)];exact a
  have b1:=Iq s<|.lst [];have g1:=Gr.app s [.lst []];have g:=jS a1 b1;generalize hs:s++[O.lst []]=s1 at *;have E:=c.gr g1
  cases x:L with
  |nil=>
   rw[x]at g;exact⟨p,s1,wJ hw hs g,hf,E.up<|by omega,g1.fr n⟩
  |cons u A=>
   rw[x]at g;have h0:0<L.length:=by rw[x];simp
   have P:HP [.ref q] s1=some (.int (L.length:Int),s1):=by rw[Tr a1,Af]
   obtain⟨r,s2,j,l,B,o,f2⟩:=JQ (many:=(L.length:Int)) E hm (by omega) (by omega);have a2:=(f2.old _ (qax a1) i).trans a1;have e:r.toNat<L.length:=by omega
   have y:(L.map HG)[r.toNat]?=some (HG L[r.toNat]):=by rw[Ay,Ai e];rfl
   have v:=KY a2 l y;exact⟨L[r.toNat],s2,wK hw hs g P j v,b _<|Ba e,o,(g1.fr n).trans f2⟩
 exact⟨p,s,wI hw,hf,c.up<|by omega,Fr.refl _ _⟩
structure SP(n m d:Nat)(w h kn:Int)(P:List Tl)(st0 s:Hf):Prop where
 at_:s[d]?=some (.dt (P.map Hj))
 nd:Hy P
 ok:∀t∈P,IA w h kn t
 pot:HI n m s
 fr:Fr n st0 s
def kN(c:Ctx bed e stk ks w h)(a:SP n m d w h ks.length P st0 s)(h0:st0.length<=d)(b:d≠n)(hm:m<=1000000)(hf:KQ w h p)(L:P.length<=900)(M:0<ks.length):
  ∃(P':List Tl) (s':Hf),Y3 (MB [some (.ref n),some bed,some (.ref d),a3,a4,some (.ref q),some (.int wy),some (HG p)] s=some (.nx [some (.ref n),some bed,some (.ref d),a3,a4,some (.ref q),some (.int wy),some (HG p)],s')) (SP n (m+1) d w h ks.length P' st0 s') (P'.length<=P.length+1):=by
 obtain⟨x,y⟩:=p;have E:=qax a.at_;have g:=Pr (x:=x) (y:=y) a.at_;by_cases hb:wy=3/\(HS P x y).isSome=true
 ·obtain⟨f,hs⟩:=hb;obtain⟨k,hk⟩:=Option.isSome_iff_exists.mp hs;have j:=Lz x y P;rw[hk]at j;rw[j]at g;have i:=qJ (n:=n) (bed:=bed) (q:=q) (a3:=a3) (a4:=a4) (k:=k) f a.at_ g j;have e:J4 (P.map Hj) [.inl x,.inl y]=(P.eraseIdx<|(P.map Hj).findIdx λl=>decide (l.1=[.inl x,.inl y])).map Hj:=cP _ _ _;rw[e]at i;refine⟨_,_,i,⟨by rw[Aq E],?_,λt o=>a.ok t (D9 o),(a.pot.set b).up<|by omega,U8 a.fr h0⟩,FX<|C2 _ _⟩;exact E3 (EW _ _) a.nd
 ·obtain⟨hs,u,N,Q,v⟩:=c.at_;have A:=c.hs.hi;have B:HP [.tup (ks.map IH)] s=some (.int (ks.length:Int),s):=by rw[QZ,Af]
  obtain⟨r,s1,C,F,G,H,f1⟩:=JQ (many:=(ks.length:Int)) a.pot hm (by omega) (by omega);have a1:=(f1.old _ E b).trans a.at_;have I:=Nn (x:=x) (y:=y) (k:=r) a1 (by omega);have J:Kr (mT<|mB Kv (mV 6)<|mK<|.int 3) (mT<|mB Km (mV 7)<|mV 2) [some (.ref n),some bed,some (.ref d),a3,a4,some (.ref q),some (.int wy),some (.tup [.int x,.int y])] s=some (false,s):=by
   by_cases f:wy=3
   ·have K:(HS P x y).isSome=false:=by
     cases z:(HS P x y).isSome with
     |false=>rfl
     |true=>exact absurd ⟨f,z⟩ hb
    rw[Lz,Bx,K]at g;subst f;simp[eq_int,g]
   simp[eq_int,f]
  have i:=rE J (u _) (v _) B C I;refine⟨_,_,i,⟨by rw[Aq (qax a1)],ZP a.nd,aR a.ok ⟨hf.1,hf.2.1,hf.2.2.1,hf.2.2.2,F,G⟩,H.set b,U8 (a.fr.trans f1) h0⟩,V3 _ _⟩
def zjb(c:Ctx bed e stk ks w h)(a:SP n m d w h ks.length P st0 s)(h0:st0.length<=d)(b:d≠n)(hm:m<=900000)(hl:P.length<=60)(K:0<ks.length):
  ∃(P':List Tl) (M N Q:Option D) (s':Hf),Y3 (UB [some (.ref n),some bed,some (.ref d),a3,a4,a5,a6,a7] s=some (.nx [some (.ref n),some bed,some (.ref d),a3,a4,M,N,Q],s')) (SP n (m+5) d w h ks.length P' st0 s') (P'.length<=P.length+1):=by
 have f1:=c.fo.w0;have f2:=c.fo.w1;have f3:=c.fo.h0;have f4:=c.fo.h1;obtain⟨L,S,T,f⟩:=zjU a.at_ (by omega);have a1:=Iq s<|.lst<|L.map HG;have g1:=Gr.app s [.lst (L.map HG)];have sq:s.length≠n:=a.pot.ne;have g:=a.pot.gr g1;generalize s++[O.lst (L.map HG)]=s1 at *;obtain⟨r,s2,U,W,X,Y,i⟩:=JQ (many:=4) g (by omega) (by decide) (by decide);obtain⟨I,s3,Z,j,l,p3,o⟩:=JQ (many:=w) Y (by omega) (by omega) (by omega);obtain⟨J,s4,e4,u,v,p4,z⟩:=JQ (many:=h) p3 (by omega) (by omega) (by omega);have x:=(i.trans o).trans z;have A:=(x.old _ (qax a1) sq).trans a1;have B:∀p∈L,KQ w h p:=λp hp=>by obtain⟨t,ht,z1,z2⟩:=f p hp;obtain⟨x0,x1,y0,y1,_,_⟩:=a.ok t ht;unfold KQ;rw[<-z1,<-z2];exact⟨x0,x1,y0,y1⟩
 obtain⟨p,s5,e5,C,p5,F⟩:=PU (bed:=bed) (d:=d) (a3:=a3) (a4:=a4) (wy:=r) (p:=(I,J)) A p4 sq (by omega) (by omega) ⟨j,l,u,v⟩ B;have y:=((g1.fr n).trans x).trans F;have G:=(y.old _ (qax a.at_) b).trans a.at_;obtain⟨P',s6,e6,E,H⟩:=kN (q:=s.length) (a3:=a3) (a4:=a4) (wy:=r) c (⟨G,a.nd,a.ok,p5,a.fr.trans y⟩:SP n _ d w h ks.length P st0 s5) h0 b (by omega) C (by omega) K;refine⟨P',some<|.ref s.length,some<|.int r,some<|HG p,s6,?_,⟨E.at_,E.nd,E.ok,E.pot.up<|by omega,E.fr⟩,H⟩;have cf:=c.fl;have j0:∀s:Hf,Hg (.tup [.int w,.int h]) (.int 0) s=some (.int w,s):=λs=>Io (by decide) rfl;have j1:∀s:Hf,Hg (.tup [.int w,.int h]) (.int 1) s=some (.int h,s):=λs=>Io (by decide) rfl;unfold UB;refine Hw (U1:=[some (.ref n),some bed,some (.ref d),a3,a4,some (.ref s.length),a6,a7]) (s1:=s1) (by simp[S]) ?_;refine Hw (U1:=[some (.ref n),some bed,some (.ref d),a3,a4,some (.ref s.length),some (.int r),a7]) (s1:=s2) (by simp[U]) ?_;refine Hw (U1:=[some (.ref n),some bed,some (.ref d),a3,a4,some (.ref s.length),some (.int r),some (HG (I,J))]) (s1:=s4) (by simp[cf,j0,j1,Z,e4,HG]) ?_;refine Hw e5 ?_;exact e6
def rP(a:dput s d (.tup [.int x,.int y]) (.int k)=some s2):UA [some (.ref n),some bed,some (.ref d),some (.tup [.int x,.int y,.int k]),a4,a5,a6,a7] s=some (.nx [some (.ref n),some bed,some (.ref d),some (.tup [.int x,.int y,.int k]),a4,a5,a6,a7],s2):=by
 have e:Lk (.tup [.int x,.int y,.int k]) none (some 2) s=some (.tup [.int x,.int y],s):=rfl;have g:Hg (.tup [.int x,.int y,.int k]) (.int 2) s=some (.int k,s):=Io (by decide) rfl;unfold UA;rw[MV];have h:Hq (mB Hg (mV 3)<|mK<|.int 2) (LH Il (mV 2)<|IZ (mV 3) Kz<|KA<|mK<|.int 2) [some (.ref n),some bed,some (.ref d),some (.tup [.int x,.int y,.int k]),a4,a5,a6,a7] s=none:=by simp[e,g,Il]
 rw[h,Kh];unfold LK;simp[e,g,a]
def zlT{sd:List Tl}(c:Ctx (Hu e stk ks w h sd) e stk ks w h)(Q:HI n m st)(hm:m<=700000)(j:∀t∈sd,IA w h ks.length t)(z:Hy sd)(Y:sd.length<=6)(Z:0<ks.length):
  ∃(P:List Tl) (a:Hf),Y6 (Rq [.ref n,Hu e stk ks w h sd] st=some (HL (Hs P),a)) (Hy P) ((∀t∈P,IA w h ks.length t)) (P.length<=24) (HI n (m+50) a) (Fr n st a):=by
 obtain⟨d,s1,e1,a1,hd,g1⟩:=Wl (ts:=sd) (st:=st) (by omega);rw[PV z]at a1;have hn:=Q.lt;have p:d≠n:=by omega
 obtain⟨R,s2,e2,A,hR,p2,f2⟩:=uW (st:=s1) c (Q.gr g1) (by omega) j z Y;have a2:=(f2.old _ (qax a1) p).trans a1;have B:=(g1.fr n).trans f2;have key:=Ku (W:=⟨R.map tD,[]⟩) (g:=Hl 3) (m:=UA) (ds:=R.map tD) (U:=[some (.ref n),some (Hu e stk ks w h sd),some (.ref d),none,none,none,none,none]) (st:=s2)
  (Inv:=λi U s=>Y4 ((∃a3,U=[some (.ref n),some (Hu e stk ks w h sd),some (.ref d),a3,none,none,none,none])) (s[d]?=some (.dt<|(sd++R.take i).map Hj)) (HI n (m+12) s) (Fr n st s))
  ⟨⟨_,rfl⟩,by simpa using a2,p2,B⟩ (λ_ _ _ _ _=>rfl) (λi dd U s E C=>by
   obtain⟨⟨a3,rfl⟩,l,F,G⟩:=C;rw[Ay]at E;obtain⟨⟨x,y,k⟩,ht,rfl⟩:=Ig E;have H:=Vk A ht;have T:=Nn (x:=x) (y:=y) (k:=k) l (by simp;omega);have o:IM (sd++R.take i) (x,y,k)=sd++R.take (i+1):=by rw[OW H.2.1,Am,Bj,ht];rfl
   rw[o]at T;exact⟨_,s,_,_,rfl,rP T,⟨_,rfl⟩,by rw[Aq (qax l)],F.set p,U8 G hd⟩)
 obtain⟨U',s3,el,⟨a3,rfl⟩,b,I,J⟩:=key;rw[Af,Bb]at b;obtain⟨r,s4,e4,r0,r1,p4,f4⟩:=JQ (many:=6) I (by omega) (by decide) (by decide);have K:=(f4.old _ (qax b) p).trans b;obtain⟨f,L,hr6⟩:∃f:Nat,r=(f:Int)/\f<=5:=⟨r.toNat,by omega,by omega⟩
 have u:=Ku (W:=⟨run 0 f,[]⟩) (g:=Hl 4) (m:=UB) (ds:=run 0 f) (U:=[some (.ref n),some (Hu e stk ks w h sd),some (.ref d),a3,none,none,none,none]) (st:=s4)
  (Inv:=λi U s=>(∃a4 a5 a6 a7,U=[some (.ref n),some (Hu e stk ks w h sd),some (.ref d),a3,a4,a5,a6,a7])/\∃P:List Tl,SP n (m+13+5*i) d w h ks.length P st s/\P.length<=18+i)
  ⟨⟨_,_,_,_,rfl⟩,sd++R,⟨K,Mm z A,λt ht=>by
   rcases Os.mp ht with ht|ht
   ·exact j t ht
   ·exact P9 A t ht,p4,J.trans f4⟩,by simp;omega⟩ (λ_ _ _ _ _=>rfl) (λi dd U s E C=>by
   obtain⟨⟨a4,a5,a6,a7,rfl⟩,P,q,X⟩:=C;obtain⟨hi,rfl⟩:=LL E;obtain⟨P',b5,b6,b7,s',e5,v,hP'⟩:=zjb (a3:=a3) (a4:=some (.int (i:Int))) (a5:=a5) (a6:=a6) (a7:=a7) c q hd p (by omega) (by omega) Z;exact⟨_,s,_,s',rfl,e5,⟨_,_,_,_,rfl⟩,P',⟨v.at_,v.nd,v.ok,v.pot.up<|by omega,v.fr⟩,by omega⟩)
 obtain⟨U'',s5,M,⟨a4,a5,a6,a7,rfl⟩,P,q,X⟩:=u;rw[Ld]at q X;obtain⟨s6,e6,g6⟩:=zfX q.at_ q.nd (by omega);refine⟨P,s6,IJ ?_,q.nd,q.ok,by omega,(q.pot.gr g6).up<|by omega,q.fr.trans<|g6.fr n⟩;have x2:∀s:Hf,Hg (Hu e stk ks w h sd) (.int 2) s=some (HL sd,s):=λs=>Io (by decide) rfl;unfold gB;generalize Hu e stk ks w h sd=bed at *;generalize HL sd=SS at *;generalize HL (Hs P)=S at *;generalize R.map tD=RR at *;refine Hw (U1:=[some (.ref n),some bed,some (.ref d),none,none,none,none,none]) (s1:=s1) (by simp[x2,e1]) ?_;have hw:Js (Ho Ur<|Hc (mV 0)<|Hc (mV 1)<|Hc (mK<|.int 12)<|mZ) [some (.ref n),some bed,some (.ref d),none,none,none,none,none] s1=some (⟨RR,[]⟩,s2):=by simp[e2,Lv]
 refine Hw (U1:=[some (.ref n),some bed,some (.ref d),a3,none,none,none,none]) (s1:=s3) (by rw[Ki,hw];exact el) ?_;have N:Jc (Ho Ih<|Hc (mV 0)<|Hc (mK<|.int 6)<|mZ) [some (.ref n),some bed,some (.ref d),a3,none,none,none,none] s3=some (⟨run 0 f,[]⟩,s4):=by refine QL (s1:=s4) (k:=f) L ?_ (by omega);simp[e4]
 refine Hw (U1:=[some (.ref n),some bed,some (.ref d),a3,a4,a5,a6,a7]) (s1:=s5) (by rw[Ki,N];exact M) ?_;simp[e6]
end L2.MP.T0
namespace L2.MP.T0
open PySem L2.MP L2.MP.Hd
open L2.MP.Hn (HL Mu Hs JX)
variable {bed pl hs sl:D}{d ln l:Nat}{num E:Int}{L:List D}{s s1:Hf}
def Vi{R a b:Int}{c:D}(es:Lk c (some 1) none s=some (sl,s))(e:O7 [.ref d,sl,.ref ln] s=some (.int R,s1))(f:Hg hs (.int 0) s1=some (.int E,s1))(g:E<=R)(h:s1[l]?=some (.lst L))(i:Hg pl (.int 0) s1=some (.int a,s1))(j:Hg pl (.int 1) s1=some (.int b,s1))(m:K4 (.ref l) [.tup [.int a,.int b,.int num]] s1=some (.non,s1.set l (.lst<|L++[.tup [.int a,.int b,.int num]]))):
  Qe [some bed,some (.ref d),some (.ref ln),some pl,some hs,some (.ref l),some (.int num),some c] s=some (.nx [some bed,some (.ref d),some (.ref ln),some pl,some hs,some (.ref l),some (.int num),some c],s1.set l (.lst<|L++[.tup [.int a,.int b,.int num]])):=by
 unfold Qe;simp[es,e,f,g,HZ,h,i,j,m]
def rN{R:Int}{a:D}(es:Lk a (some 1) none s=some (sl,s))(b:O7 [.ref d,sl,.ref ln] s=some (.int R,s1))(c:Hg hs (.int 0) s1=some (.int E,s1))(e:¬E<=R):
  Qe [some bed,some (.ref d),some (.ref ln),some pl,some hs,some (.ref l),some (.int num),some a] s=some (.nx [some bed,some (.ref d),some (.ref ln),some pl,some hs,some (.ref l),some (.int num),some a],s1):=by
 unfold Qe;simp[es,b,c,e]
variable {e w h x y:Int}{stk:List (Str×Int)}{ks:List (List Str)}{P:List Tl}{st:Hf}
def jU{P:List Tl}(c:Ctx bed e stk ks w h)(hP:∀t∈P,0<=t.2.2/\t.2.2<(ks.length:Int))(hd:st[d]?=some (.dk<|JF stk))(hn:st[ln]?=some (.lst<|(names4 ks P x y).map D.str)):
  ∃n,Uk [bed,.ref d,.ref ln,.tup [.int x,.int y]] st=some (.ref st.length,n)/\n[st.length]?=some (.lst<|(gK e stk ks P x y ks.length).map tD)/\Gr st n:=by
 obtain⟨hs,i0,ie,_,i2⟩:=c.at_;have o:strsOf ((names4 ks P x y).map D.str)=some (names4 ks P x y):=dZ _;have hN:∀u∈names4 ks P x y,Iy u:=λu E=>by
  simp[names4]at E;rcases E with rfl|rfl|rfl|rfl<;>exact RP c.ks hP _ _
 have I:sizeLine=16777216:=Cq;have p:((names4 ks P x y).all λz=>decide (z.length<=sizeLine))=true:=List.all_eq_true.mpr λu E=>decide_eq_true (by
  have:=(hN u E).len;rw[len_list,I];omega)
 have J:(st++[O.lst []])[ln]?=some (.lst<|(names4 ks P x y).map D.str):=by rw[Aj (qax hn)];exact hn
 have H:MD [.ref ln] (st++[O.lst []])=some (.bl ((names4 ks P x y).any NM),st++[O.lst []]):=by unfold MD;simp only[HZ,J,Ae,o,p,if_true]
 have hd1:(st++[O.lst []])[d]?=some (.dk<|JF stk):=by rw[Aj (qax hd)];exact hd
 have a1:=Iq st<|.lst [];have g1:=Gr.app st [.lst []];have s1l:(st++[O.lst []]).length=st.length+1:=by simp
 generalize q:st++[O.lst []]=s1 at *;by_cases hany:(names4 ks P x y).any NM=true
 ·rw[hany]at H;have K:=qax hd;have M:=qax hn;have key:=Ku (W:=⟨pairs<|ks.map IH,[]⟩) (g:=Kn 2 (gC (Hl 6)<|gC (Hl 7)<|Ko)) (m:=Qe) (ds:=pairs (ks.map IH)) (U:=[some bed,some (.ref d),some (.ref ln),some (.tup [.int x,.int y]),some hs,some (.ref st.length),none,none]) (st:=s1)
   (Inv:=λk U s=>(∃a b,U=[some bed,some (.ref d),some (.ref ln),some (.tup [.int x,.int y]),some hs,some (.ref st.length),a,b])/\s[st.length]?=some (.lst<|(gK e stk ks P x y k).map tD)/\Gr st s)
   ⟨⟨_,_,rfl⟩,a1,g1⟩ (λ_ _ _ _ _=>rfl) (λk dd U s Q hI=>by
    obtain⟨⟨u,v,rfl⟩,L,r⟩:=hI;obtain⟨kd,A,rfl⟩:=bX Q;rw[Ay]at A;obtain⟨kk,B,rfl⟩:=Ig A;have hk:=qax B;have k1:((k:Nat):Int)<(ks.length:Int):=by omega
    obtain⟨f,b0,b1,b2,b3,ek,T,X⟩:=Mp c.ks (k:=(k:Int)) (by omega) k1;have C:kk=[f,b0,b1,b2,b3]:=by rw[By,B]at ek;exact Az ek
    subst C;have F:Lk (IH [f,b0,b1,b2,b3]) (some 1) none s=some (.tup ((IE ks (k:Int)).map D.str),s):=by rw[T];rfl
    obtain⟨s2,e2,g2⟩:=eM (S:=IE ks (k:Int)) (N:=names4 ks P x y) (st:=s) c.stk (by rw[T];exact Ah _) (λu E=>by rw[T]at E;exact X u E) (λu E=>QI (hN u E).ab) ((r.old _ K).trans hd)<|(r.old _ M).trans hn;have l:=(g2.old _<|qax L).trans L;have Y:=r.trans g2;have hlen:=SN e stk ks P x y k;have k13:=c.hs.hi
    by_cases hR:e<=Kj stk ks P x y k
    ·have Z:=append_at (x:=.tup [.int x,.int y,.int (k:Int)]) l (by rw[Af];omega);refine⟨_,s,_,_,rfl,Vi F e2 (ie _) hR l (Io (by decide) rfl) (Io (by decide) rfl) Z,⟨_,_,rfl⟩,?_,⟨by rw[Bf];exact Y.len,λj hj=>by rw[Ag (by omega)];exact Y.old j hj⟩⟩;rw[Aq (qax l),Tq,if_pos hR,AU];rfl
    refine⟨_,s,_,_,rfl,rN F e2 (ie _) hR,⟨_,_,rfl⟩,?_,Y⟩;rw[Tq,if_neg hR];exact l)
  obtain⟨U',s',el,⟨u,v,rfl⟩,L,r⟩:=key;have hpl:(pairs<|ks.map IH).length=ks.length:=by unfold pairs;simp
  rw[hpl]at L;refine⟨s',IJ ?_,L,r⟩;unfold Xn;refine Hw (U1:=[some bed,some (.ref d),some (.ref ln),some (.tup [.int x,.int y]),some hs,none,none,none]) (s1:=st) (by simp[i0]) ?_;refine Hw (U1:=[some bed,some (.ref d),some (.ref ln),some (.tup [.int x,.int y]),some hs,some (.ref st.length),none,none]) (s1:=s1) (by simp[q]) ?_;refine Hw (U1:=[some bed,some (.ref d),some (.ref ln),some (.tup [.int x,.int y]),some hs,some (.ref st.length),none,none]) (s1:=s1) (by simp[H]) ?_;refine Hw (U1:=[some bed,some (.ref d),some (.ref ln),some (.tup [.int x,.int y]),some hs,some (.ref st.length),u,v]) (s1:=s') (by
   have ec:mB Hg (mV 4) (mK<|.int 2) [some bed,some (.ref d),some (.ref ln),some (.tup [.int x,.int y]),some hs,some (.ref st.length),none,none] s1=some (.tup (ks.map IH),s1):=by simp[i2]
   rw[Ki,aI ec];exact el) ?_
  simp
 ·have hf:(names4 ks P x y).any NM=false:=by simpa using hany
  rw[hf]at H;have i:∀u∈names4 ks P x y,u="":=λu E=>by
   have h1:NM u=false:=by rw[FL]at hf;simpa using hf u E
   unfold NM at h1;have h2:u.length=0:=by simpa using h1
   refine ZW ?_;have h3:u.cps.toList.length=0:=by rw[<-len_list];exact h2
   rw[List.length_eq_zero_iff.mp h3];rfl
  have h4:names4 ks P x y=[("":Str),("":Str),("":Str),("":Str)]:=by have q0:=i (JZ ks P (x,y+1) 2) (by simp[names4]);have q1:=i (JZ ks P (x+1,y) 3) (by simp[names4]);have q2:=i (JZ ks P (x,y-1) 0) (by simp[names4]);have q3:=i (JZ ks P (x-1,y) 1) (by simp[names4]);unfold names4;rw[q0,q1,q2,q3]
  have G:gK e stk ks P x y ks.length=[]:=Zt c.hs.e0 h4 _;refine⟨s1,IJ ?_,by rw[G];exact a1,g1⟩;unfold Xn;refine Hw (U1:=[some bed,some (.ref d),some (.ref ln),some (.tup [.int x,.int y]),some hs,none,none,none]) (s1:=st) (by simp[i0]) ?_;refine Hw (U1:=[some bed,some (.ref d),some (.ref ln),some (.tup [.int x,.int y]),some hs,some (.ref st.length),none,none]) (s1:=s1) (by simp[q])<|OQ ?_;simp[H]
def N9(bed:D)(sd a ld b:Nat):List (Str×D):=[("bed",bed),("strengths",.ref sd),("kinds",.ref a),("laid",.ref ld),("ready",.ref b)]
def OA(C:Addr)(o:Nat)(bed:D)(sd a ld b:Nat)(s:Hf):Prop:=s[o]?=some (.ob C<|N9 bed sd a ld b)
variable {kd o sd ld rd:Nat}{C:Addr}{U:Ii}{f:Str}{fs:List (Str×D)}
section
variable {m:ME}
def QS{d:D}(hm:m U s=some (.ref o,s1))(h:s1[o]?=some (.ob C fs))(l:fs.lookup f=some d):HD C f m U s=some (d,s1):=by unfold HD;simp[hm,h,l]
def Qs(h:OA C o bed sd kd ld rd s):HD C "bed" (mV 0) (some (.ref o)::U) s=some (bed,s):=QS rfl h rfl
def kC(h:OA C o bed sd kd ld rd s):HD C "strengths" (mV 0) (some (.ref o)::U) s=some (.ref sd,s):=QS rfl h rfl
def So(h:OA C o bed sd kd ld rd s):HD C "kinds" (mV 0) (some (.ref o)::U) s=some (.ref kd,s):=QS rfl h rfl
def U0(h:OA C o bed sd kd ld rd s):HD C "laid" (mV 0) (some (.ref o)::U) s=some (.ref ld,s):=QS rfl h rfl
def QB(h:OA C o bed sd kd ld rd s):HD C "ready" (mV 0) (some (.ref o)::U) s=some (.ref rd,s):=QS rfl h rfl
end
noncomputable abbrev Yq:=(Int×Int)×Nat
def IC(q:Yq):List Key×D:=([.inl q.1.1,.inl q.1.2],.ref q.2)
def Kc(Y:List Yq)(p:Int×Int):List Yq:=Y.filter λq=>!decide (q.1=p)
def SQ(q:Yq)(p:Int×Int):decide ((IC q).1=[.inl p.1,.inl p.2])=decide (q.1=p):=by obtain⟨⟨a,b⟩,n⟩:=q;obtain⟨x,y⟩:=p;simp[IC]
variable {p:Int×Int}
def cN:∀{Y:List Yq},(∀q∈Y,q.1≠p)->Kc Y p=Y:=λ{Y} h=>List.filter_eq_self.mpr λq d=>by simpa using h q d
theorem Z6{p:Int×Int}:∀{Y:List Yq},(Y.map (·.1)).Nodup->J4 (Y.map IC) [.inl p.1,.inl p.2]=(Kc Y p).map IC
 |[],_=>rfl
 |q::Y,a=>by
  rw[As,Dq]at a;unfold J4;rw[As,Cw,SQ];by_cases h:q.1=p
  ·rw[decide_eq_true h];have:∀z∈Y,z.1≠p:=λz l e=>a.1<|SL.mpr ⟨z,l,e.trans h.symm⟩;have d:Kc (q::Y) p=Y:=by
    have:=cN this;unfold Kc at this ⊢;simp[h,this]
   rw[d];rfl
  ·rw[decide_eq_false h];have f:=Z6 (p:=p) a.2;unfold J4 at f;have d:Kc (q::Y) p=q::Kc Y p:=by
    unfold Kc;simp[h]
   rw[d,As,<-f];rfl
theorem Vu{p:Int×Int}:∀{Y:List Yq},(HQ (Y.map IC) [.inl p.1,.inl p.2]=none/\∀q∈Y,q.1≠p)\/∃n,(p,n)∈Y/\HQ (Y.map IC) [.inl p.1,.inl p.2]=some (.ref n)
 |[]=>.inl ⟨rfl,λq c=>nomatch c⟩
 |q::Y=>by
  by_cases h:q.1=p
  ·refine .inr ⟨q.2,by rw[<-h];exact Ar,?_⟩;unfold HQ;rw[As,AS];have:=SQ q p;simp[this,h,IC]
  ·have e:HQ ((q::Y).map IC) [.inl p.1,.inl p.2]=HQ (Y.map IC) [.inl p.1,.inl p.2]:=by
    unfold HQ;rw[As,AS];have:=SQ q p;simp[this,h]
   rcases Vu (p:=p) (Y:=Y)with⟨a,b⟩|⟨n,a,b⟩
   ·exact .inl ⟨e.trans a,λz hz=>by
     rcases On.mp hz with rfl|hz
     ·exact h
     exact b z hz⟩
   exact .inr ⟨n,Al _ a,e.trans b⟩
variable {Y:List Yq}
def sD(h:OA C o bed sd kd ld rd s)(c:s[rd]?=some (.dt<|Y.map IC))(g:(Y.map (·.1)).Nodup):
  ∃v,N3 (HD C "ready"<|mV 0) (mV 1) (mK .non) (some (.ref o)::some (HG p)::U) s=some (v,s.set rd (.dt<|(Kc Y p).map IC)):=by
 have hk:keysOf [.int p.1,.int p.2]=some [.inl p.1,.inl p.2]:=rfl;have hd:MN s rd=true:=by unfold MN;rw[c]
 have d:=qax c;rcases Vu (p:=p) (Y:=Y)with⟨a,b⟩|⟨n,a,b⟩
 ·refine⟨.non,?_⟩;have e:s.set rd (.dt<|(Kc Y p).map IC)=s:=by
   rw[cN b];apply FY;intro i;by_cases hi:i=rd
   ·subst hi;rw[Aq d,c]
   rw[Ag (λz=>hi z.symm)]
  rw[e];unfold N3;rw[QB h];simp[hd,c,HG,hk,a]
 refine⟨.ref n,?_⟩;rw[<-Z6 g];unfold N3;rw[QB h];simp[hd,c,HG,hk,b]
variable {N:Nat}
def Oz{ms:MS}{ds:List D}(h:ms (Mf N ds) st=some (.nx U,s)):Iw N ms ds st=some (.non,s):=by unfold Iw;rw[h];rfl
def bT{lo hi:Int}(h:¬(lo<=x/\x<=hi)):Rj [.int x,.int lo,.int hi] st=some (.bl false,st):=by
 refine IJ ?_;have t1:tyName st (.int x)=some "int":=rfl;have d:J9 "int" "int"=true:=by decide
 have t3:J9 "int" "bool"=false:=by decide
 unfold Wu;by_cases h1:lo<=x
 ·have e:¬x<=hi:=λz=>h ⟨h1,z⟩;simp[MW,t1,d,t3,h1,e]
 simp[MW,t1,d,t3,h1]
def wN(c:Ctx bed e stk ks w h)(hn:¬KQ w h p):Nw [bed,HG p] st=some (.bl false,st):=by
 obtain⟨x,y⟩:=p;have f:=bP (ds:=[.int x,.int y]) (n:=2) (N:=2) (st:=st) rfl rfl;have l:Hg (.tup [.int x,.int y]) (.int 0) st=some (.int x,st):=Io (by decide) rfl;have s:Hg (.tup [.int x,.int y]) (.int 1) st=some (.int y,st):=Io (by decide) rfl;have o:Hg (.tup [.int w,.int h]) (.int 0) st=some (.int w,st):=Io (by decide) rfl;have C:Hg (.tup [.int w,.int h]) (.int 1) st=some (.int h,st):=Io (by decide) rfl;have E:=c.fl;refine IJ ?_;unfold Wt;refine Hw (U1:=[some bed,some (.tup [.int x,.int y]),some (.tup [.int w,.int h])]) (s1:=st) (by simp[E,HG]) ?_
 by_cases hx:0<=x/\x<w
 ·have d:=VX (x:=x) (lo:=0) (hi:=w-1) (st:=st) hx.1 (by omega);have L:=bT (x:=y) (lo:=0) (hi:=h-1) (st:=st) λz=>hn ⟨hx.1,hx.2,z.1,by show y<h;omega⟩;simp[f,d,L,l,s,o,C]
 have d:=bT (x:=x) (lo:=0) (hi:=w-1) (st:=st) λz=>hx ⟨z.1,by omega⟩;simp[f,d,l,o]
variable {v:D}{a2 a3:Option D}{s2 s3:Hf}
section
variable {s4:Hf}
def uE(b:N3 (HD C "ready"<|mV 0) (mV 1) (mK .non) [some (.ref o),some pl,none,none] s=some (v,s1))(c:OA C o bed sd kd ld rd s1)(a:KZ pl (.ref kd) s1=some (.bl false,s1)):
  O8 C [some (.ref o),some pl,none,none] s=some (.nx [some (.ref o),some pl,none,none],s1):=by
 have d:HD C "kinds" (mV 0) [some (.ref o),some pl,none,none] s1=some (.ref kd,s1):=So c;unfold O8;refine Hw (U1:=[some (.ref o),some pl,none,none]) (s1:=s1) (by rw[Nl,b];rfl) ?_;simp[d,a]
def nY(c:N3 (HD C "ready"<|mV 0) (mV 1) (mK .non) [some (.ref o),some pl,none,none] s=some (v,s1))(b:OA C o bed sd kd ld rd s1)(a:KZ pl (.ref kd) s1=some (.bl true,s1))(g:Nw [bed,pl] s1=some (.bl false,s1)):
  O8 C [some (.ref o),some pl,none,none] s=some (.nx [some (.ref o),some pl,none,none],s1):=by
 have d:HD C "kinds" (mV 0) [some (.ref o),some pl,none,none] s1=some (.ref kd,s1):=So b;have e:HD C "bed" (mV 0) [some (.ref o),some pl,none,none] s1=some (bed,s1):=Qs b;unfold O8;refine Hw (U1:=[some (.ref o),some pl,none,none]) (s1:=s1) (by rw[Nl,c];rfl) ?_;simp[d,e,a,g]
def aW{r:Option (Fl×Hf)}(g:N3 (HD C "ready"<|mV 0) (mV 1) (mK .non) [some (.ref o),some pl,none,none] s=some (v,s1))(b:OA C o bed sd kd ld rd s1)(a:KZ pl (.ref kd) s1=some (.bl true,s1))(i:Nw [bed,pl] s1=some (.bl true,s1))(j:Qa [bed,.ref kd,pl] s1=some (.ref ln,s2)) (c:OA C o bed sd kd ld rd s2) (m:Uk [bed,.ref sd,.ref ln,pl] s2=some (.ref l,s3)) (k:Ji (KI<|mV 3) (Jg (HD C "ready"<|mV 0) (mV 1)<|mV 3) Jn [some (.ref o),some pl,some (.ref ln),some (.ref l)] s3=r):
  O8 C [some (.ref o),some pl,none,none] s=r:=by
 have d:HD C "kinds" (mV 0) [some (.ref o),some pl,none,none] s1=some (.ref kd,s1):=So b;have e:HD C "bed" (mV 0) [some (.ref o),some pl,none,none] s1=some (bed,s1):=Qs b;have f:HD C "bed" (mV 0) [some (.ref o),some pl,some (.ref ln),none] s2=some (bed,s2):=Qs c;have h:HD C "strengths" (mV 0) [some (.ref o),some pl,some (.ref ln),none] s2=some (.ref sd,s2):=kC c;unfold O8;refine Hw (U1:=[some (.ref o),some pl,none,none]) (s1:=s1) (by rw[Nl,g];rfl) ?_;rw[LJ];have p:Kr (mT<|mB KZ (mV 1)<|HD C "kinds"<|mV 0) (mT<|Ho Nw<|Hc (HD C "bed"<|mV 0)<|Hc (mV 1)<|mZ) [some (.ref o),some pl,none,none] s1=some (true,s1):=by simp[d,e,a,i]
 rw[p,Ae,if_pos rfl];refine Hw (U1:=[some (.ref o),some pl,some (.ref ln),none]) (s1:=s2) (by simp[d,e,j]) ?_;exact Hw (U1:=[some (.ref o),some pl,some (.ref ln),some (.ref l)]) (s1:=s3) (by simp[f,h,m]) k
def qO(a:s3[l]?=some (.lst [])):Ji (KI<|mV 3) (Jg (HD C "ready"<|mV 0) (mV 1)<|mV 3) Jn [some (.ref o),some pl,some (.ref ln),some (.ref l)] s3=some (.nx [some (.ref o),some pl,some (.ref ln),some (.ref l)],s3):=by simp[S0,Lj,HZ,a]
def nZ{d:D}(a:s3[l]?=some (.lst (d::L)))(b:OA C o bed sd kd ld rd s3)(c:dput s3 rd (.tup [.int x,.int y]) (.ref l)=some s4):Ji (KI<|mV 3) (Jg (HD C "ready"<|mV 0) (mV 1)<|mV 3) Jn [some (.ref o),some (.tup [.int x,.int y]),some (.ref ln),some (.ref l)] s3=some (.nx [some (.ref o),some (.tup [.int x,.int y]),some (.ref ln),some (.ref l)],s4):=by
 have e:HD C "ready" (mV 0) [some (.ref o),some (.tup [.int x,.int y]),some (.ref ln),some (.ref l)] s3=some (.ref rd,s3):=QB b;rw[LJ];have f:KI (mV 3) [some (.ref o),some (.tup [.int x,.int y]),some (.ref ln),some (.ref l)] s3=some (true,s3):=by simp[S0,Lj,HZ,a]
 rw[f,Ae,if_pos rfl,MV];have h:Hq (mV 3) (LH Il (HD C "ready"<|mV 0)<|mV 1) [some (.ref o),some (.tup [.int x,.int y]),some (.ref ln),some (.ref l)] s3=none:=by simp[e,Il]
 rw[h,Kh];unfold LK;simp[e,c]
end
structure Gw(C:Addr)(o sd kd ld rd:Nat)(bed:D)(stk:List (Str×Int))(P R:List Tl)(F:Int×Int->List Tl)(Y:List Yq)(st0 s:Hf):Prop where
 ob:OA C o bed sd kd ld rd s
 hs:s[sd]?=some (.dk (JF stk))
 hk:s[kd]?=some (.dt (P.map Hj))
 hl:s[ld]?=some (.lst (R.map tD))
 hr:s[rd]?=some (.dt (Y.map IC))
 nd:(Y.map (·.1)).Nodup
 hy:∀q∈Y,rd<q.2/\s[q.2]?=some (.lst ((F q.1).map tD))
 fr:Gr st0 s
def Kk(e:Int)(stk:List (Str×Int))(ks:List (List Str))(w h:Int)(P:List Tl)(p:Int×Int):Prop:=KQ w h p/\HS P p.1 p.2=none/\gK e stk ks P p.1 p.2 ks.length≠[]
def Q8{q:Yq}:q∈Kc Y p ↔ q∈Y/\q.1≠p:=by unfold Kc;rw[Et];simp
variable {n:Nat}
def lS{Y:List Yq}(h:∀q∈Y,q.1≠p):putD (Y.map IC) [.inl p.1,.inl p.2] (.ref n)=(Y++[(p,n)]).map IC:=by
 unfold putD;rw[if_neg,AU]
 ·rfl
 intro z;obtain⟨f,d,z⟩:=List.any_eq_true.mp z;obtain⟨q,e,rfl⟩:=SL.mp d;rw[SQ]at z;exact h q e<|of_decide_eq_true z
variable {F F':Int×Int->List Tl}{st0 s':Hf}{Y':List Yq}
section
variable {R:List Tl}
def Gw.gr(q:Gw C o sd kd ld rd bed stk P R F Y st0 s)(g:Gr s s'):Gw C o sd kd ld rd bed stk P R F Y st0 s':=⟨(g.old _<|qax q.ob).trans q.ob,(g.old _<|qax q.hs).trans q.hs,(g.old _<|qax q.hk).trans q.hk,(g.old _<|qax q.hl).trans q.hl,(g.old _<|qax q.hr).trans q.hr,q.nd,λz d=>⟨(q.hy z d).1,(g.old _<|qax (q.hy z d).2).trans (q.hy z d).2⟩,q.fr.trans g⟩
def Gw.rdy{Y':List Yq}(q:Gw C o sd kd ld rd bed stk P R F Y st0 s)(hn:st0.length<=o/\o<sd/\sd<kd/\kd<ld/\ld<rd)(b:(Y'.map (·.1)).Nodup)(a:∀z∈Y',rd<z.2/\s[z.2]?=some (.lst<|(F' z.1).map tD)):Gw C o sd kd ld rd bed stk P R F' Y' st0 (s.set rd<|.dt<|Y'.map IC):=by
 obtain⟨e,f,h,l,n⟩:=hn;refine⟨?_,?_,?_,?_,?_,b,λz d=>⟨(a z d).1,?_⟩,Li q.fr<|by omega⟩
 ·unfold OA;rw[Ag (by omega)];exact q.ob
 ·rw[Ag (by omega)];exact q.hs
 ·rw[Ag (by omega)];exact q.hk
 ·rw[Ag (by omega)];exact q.hl
 ·rw[Aq (qax q.hr)]
 have:=(a z d).1;rw[Ag (by omega)];exact(a z d).2
def WJ(c:Ctx bed e stk ks w h)(hn:st0.length<=o/\o<sd/\sd<kd/\kd<ld/\ld<rd)(q:Gw C o sd kd ld rd bed stk P R F Y st0 s)(M:∀t∈P,0<=t.2.2/\t.2.2<(ks.length:Int))(A:Y.length<=1000):
  ∃(Y':List Yq) (s':Hf),M7 C [.ref o,HG p] s=some (.non,s')/\Gw C o sd kd ld rd bed stk P R (λg=>if g=p then gK e stk ks P p.1 p.2 ks.length else F g) Y' st0 s'/\(∀g,(∃n,(g,n)∈Y') ↔ (g≠p/\∃n,(g,n)∈Y)\/(g=p/\Kk e stk ks w h P p))/\Y'.length<=Y.length+1:=by
 obtain⟨v,r⟩:=sD (p:=p) (U:=[none,none]) q.ob q.hr q.nd;have N:((Kc Y p).map (·.1)).Nodup:=q.nd.sublist<|(List.filter_sublist).map _;have l:Gw C o sd kd ld rd bed stk P R (λg=>if g=p then gK e stk ks P p.1 p.2 ks.length else F g) (Kc Y p) st0 (s.set rd<|.dt<|(Kc Y p).map IC):=q.rdy hn N λz hz=>by obtain⟨W,B⟩:=Q8.mp hz;rw[if_neg B];exact q.hy z W
 have G:(Kc Y p).length<=Y.length:=AN _ _;have i:∀z∈Kc Y p,z.1≠p:=λz hz=>(Q8.mp hz).2;have base:∀g,(∃n,(g,n)∈Kc Y p) ↔ (g≠p/\∃n,(g,n)∈Y):=λg=>⟨λ⟨n,z⟩=>⟨(Q8.mp z).2,n,(Q8.mp z).1⟩,λ⟨z,n,B⟩=>⟨n,Q8.mpr ⟨B,z⟩⟩⟩;have stay:¬Kk e stk ks w h P p->∀g,(∃n,(g,n)∈Kc Y p) ↔ (g≠p/\∃n,(g,n)∈Y)\/(g=p/\Kk e stk ks w h P p):=λH g=>(base g).trans ⟨.inl,λz=>z.elim id λz=>absurd z.2 H⟩;generalize s.set rd (.dt<|(Kc Y p).map IC)=s1 at *;have d:=V0 (x:=p.1) (y:=p.2) l.hk;rw[Lz,Bx]at d
 cases hf:HS P p.1 p.2 with
 |some k'=>
  rw[hf]at d;exact⟨_,s1,Oz<|uE r l.ob d,l,stay (λz=>by rw[z.2.1]at hf;cases hf),by omega⟩
 |none=>
  rw[hf]at d;by_cases f:KQ w h p
  ·obtain⟨s2,Q,a1,g1⟩:=cQ (x:=p.1) (y:=p.2) c.bed c.ks M l.hk;have j:=l.gr g1;obtain⟨s3,S,a2,g2⟩:=jU (x:=p.1) (y:=p.2) c M j.hs a1;have E:=j.gr g2;have m:=aP (st:=s1) c f.1 f.2.1 f.2.2.1 f.2.2.2
   cases u:gK e stk ks P p.1 p.2 ks.length with
   |nil=>
    rw[u]at a2 E;exact⟨_,s3,Oz<|aW r l.ob d m Q j.ob S<|qO a2,E,stay λz=>z.2.2 u,by omega⟩
   |cons t L=>
    rw[u]at a2 E;have I:rd<s2.length:=qax j.hr;have X:dput s3 rd (.tup [.int p.1,.int p.2]) (.ref s2.length)=some (s3.set rd<|.dt<|(Kc Y p++[(p,s2.length)]).map IC):=by have hk:keysOf [.int p.1,.int p.2]=some [.inl p.1,.inl p.2]:=rfl;have J:(Kc Y p).length<sizeLine:=BM (AA G A) (by decide);unfold dput;rw[E.hr];simp only[hk,Ae,Af,decide_eq_true J,if_true];rw[lS i]
    refine⟨Kc Y p++[(p,s2.length)],_,Oz<|aW r l.ob d m Q j.ob S<|nZ a2 E.ob X,E.rdy hn ?_ λz hz=>?_,λg=>?_,by rw[AD,Bl];omega⟩
    ·rw[AU];refine List.nodup_append.mpr ⟨N,by simp,λa Z b T z=>?_⟩;obtain⟨y,hy,rfl⟩:=SL.mp Z;simp at T;exact i y hy<|z.trans T
    ·rcases Os.mp hz with hz|hz
     ·exact E.hy z hz
     rw[KM.mp hz];refine⟨I,?_⟩;show s3[s2.length]?=_;rw[a2,if_pos rfl]
    ·have K:Kk e stk ks w h P p:=⟨f,hf,by rw[u];simp⟩
     constructor
     ·rintro⟨n,z⟩
      rcases Os.mp z with z|z
      ·exact .inl<|(base g).mp ⟨n,z⟩
      have:=KM.mp z;exact .inr ⟨by cases this;rfl,K⟩
     ·rintro(z|⟨rfl,_⟩)
      ·obtain⟨n,z⟩:=(base g).mpr z;exact⟨n,AK _ z⟩
      exact⟨s2.length,by simp⟩
  exact⟨_,s1,Oz<|nY r l.ob d<|wN c f,l,stay λz=>f z.1,by omega⟩
end
variable {F0:Int×Int->List Tl}{Y0:List Yq}
section
variable {R:List Tl}
structure Jy(e:Int)(stk:List (Str×Int))(ks:List (List Str))(w h:Int)(P:List Tl)(ps:List (Int×Int))(F0:Int×Int->List Tl)(Y0:List Yq)(F:Int×Int->List Tl)(Y:List Yq):Prop where
 old:∀p,p∉ps->((∃n,(p,n)∈Y) ↔ ∃n,(p,n)∈Y0)/\F p=F0 p
 new:∀p,p∈ps->((∃n,(p,n)∈Y) ↔ Kk e stk ks w h P p)/\F p=gK e stk ks P p.1 p.2 ks.length
def Jy.nil:Jy e stk ks w h P [] F0 Y0 F0 Y0:=⟨λp _=>⟨Iff.rfl,rfl⟩,λp d=>nomatch d⟩
def Jy.step{ps:List (Int×Int)}(u:Jy e stk ks w h P ps F0 Y0 F Y)(g:∀c,(∃n,(c,n)∈Y') ↔ (c≠p/\∃n,(c,n)∈Y)\/(c=p/\Kk e stk ks w h P p)):Jy e stk ks w h P (ps++[p]) F0 Y0 (λc=>if c=p then gK e stk ks P p.1 p.2 ks.length else F c) Y':=by
 refine⟨λc d=>?_,λc d=>?_⟩
 ·rw[Dw,not_or,FH]at d;obtain⟨a,b⟩:=u.old c d.1;refine⟨(g c).trans ⟨λz=>?_,λz=>.inl ⟨d.2,a.mpr z⟩⟩,by rw[if_neg d.2];exact b⟩
  rcases z with z|z
  ·exact a.mp z.2
  exact absurd z.1 d.2
 ·by_cases hpp:c=p
  ·subst hpp;refine⟨(g c).trans ⟨λz=>?_,λz=>.inr ⟨rfl,z⟩⟩,by rw[if_pos rfl]⟩
   rcases z with z|z
   ·exact absurd rfl z.1
   exact z.2
  ·rw[Dw,FH]at d;have f:c∈ps:=d.resolve_right hpp;obtain⟨a,b⟩:=u.new c f;refine⟨(g c).trans ⟨λz=>?_,λz=>.inl ⟨hpp,a.mpr z⟩⟩,by rw[if_neg hpp];exact b⟩
   rcases z with z|z
   ·exact a.mp z.2
   exact absurd z.1 hpp
def Q5{g:GN}{mm:MA}(hf:(N9 bed sd kd ld rd).lookup f=none)(h:OA C o bed sd kd ld rd s):Lg C f g (mV 0) mm (some (.ref o)::U) s=(mm (some (.ref o)::U) s).bind λp=>g (.ref o::p.1) p.2:=by have h:s[o]?=some (.ob C<|N9 bed sd kd ld rd):=h;have e:mV 0 (some (.ref o)::U) s=some (.ref o,s):=rfl;unfold Lg;rw[e];simp only[Ae,h,hf];simp
def zjw{a:D}{a2:Option D}(h:OA C o bed sd kd ld rd s)(b:M7 C [.ref o,a] s=some (v,s1)):UD C [some (.ref o),some pl,some a] s=some (.nx [some (.ref o),some pl,some a],s1):=by have d:=Q5 (C:=C) (o:=o) (f:="look_at") (g:=M7 C) (mm:=Hc (mV 2) mZ) (U:=[some pl,some a]) rfl h;unfold UD;rw[Nl,d];simp[b]
def zgs(c:Ctx bed e stk ks w h)(hn:st0.length<=o/\o<sd/\sd<kd/\kd<ld/\ld<rd)(q:Gw C o sd kd ld rd bed stk P R F Y st0 s)(b:∀t∈P,0<=t.2.2/\t.2.2<(ks.length:Int))(j:Y.length<=900):
  ∃(F':Int×Int->List Tl) (Y':List Yq) (s':Hf),RB C [.ref o,HG p] s=some (.non,s')/\Gw C o sd kd ld rd bed stk P R F' Y' st0 s'/\Jy e stk ks w h P (p::Ke p) F Y F' Y'/\Y'.length<=Y.length+5:=by
 obtain⟨L,s1,u,z,B,Z⟩:=WJ (p:=p) c hn q b (by omega);have G:=Jy.step (ps:=[]) (F0:=F) (F:=F) Jy.nil B;have key:=Ku (W:=⟨(Ke p).map HG,[]⟩) (g:=Hl 2) (m:=UD C) (ds:=(Ke p).map HG) (U:=[some (.ref o),some (HG p),none]) (st:=s1)
  (Inv:=λi U s=>(∃a,U=[some (.ref o),some (HG p),a])/\∃(F':Int×Int->List Tl) (Y':List Yq),Gw C o sd kd ld rd bed stk P R F' Y' st0 s/\Jy e stk ks w h P (p::(Ke p).take i) F Y F' Y'/\Y'.length<=Y.length+1+i)
  ⟨⟨_,rfl⟩,_,L,z,by simpa using G,by omega⟩ (λ_ _ _ _ _=>rfl) (λi dd U s d H=>by obtain⟨⟨a,rfl⟩,F',Y',l,n,v⟩:=H;rw[Ay]at d;obtain⟨r,E,rfl⟩:=Ig d;have hi:i<4:=(KF.mp E).1;obtain⟨I,s2,J,K,M,l2⟩:=WJ (p:=r) c hn l b (by omega);refine⟨_,s,_,s2,rfl,zjw (a2:=none) l.ob J,⟨_,rfl⟩,_,I,K,?_,by omega⟩;rw[Bj,E];exact Jy.step n M)
 obtain⟨U',s2,Q,⟨a,rfl⟩,F',Y',l,n,v⟩:=key;rw[Af,Bb]at n;have S:((Ke p).map HG).length=4:=rfl;rw[S]at v;refine⟨F',Y',s2,Oz (U:=[some (.ref o),some (HG p),a]) ?_,l,n,by omega⟩;have T:=Q5 (C:=C) (o:=o) (f:="look_at") (g:=M7 C) (mm:=Hc (mV 1) mZ) (U:=[some (HG p),none]) rfl q.ob;unfold gE;refine Hw (U1:=[some (.ref o),some (HG p),none]) (s1:=s1) (by
  show IG _ [some (.ref o),some (HG p),none] s=_;rw[Nl,T];simp[u]) ?_
 have X:Me [HG p] s1=some (.tup ((Ke p).map HG),s1):=Ws (x:=p.1) (y:=p.2) (st:=s1);have hw:Js (Ho Me<|Hc (mV 1)<|mZ) [some (.ref o),some (HG p),none] s1=some (⟨(Ke p).map HG,[]⟩,s1):=by generalize (Ke p).map HG=N at *;generalize HG p=A at *;simp[X,Lv]
 rw[Ki,hw];exact Q
end
variable {t:Tl}
section
variable {R:List Tl}
def Zs(a:p∉Ke (t.1,t.2.1))(n:Nat):gK e stk ks (P++[t]) p.1 p.2 n=gK e stk ks P p.1 p.2 n:=by unfold gK Kj;rw[dD (x:=p.1) (y:=p.2) a]
structure Good(e:Int)(stk:List (Str×Int))(ks:List (List Str))(w h:Int)(P:List Tl)(F:Int×Int->List Tl)(Y:List Yq):Prop where
 key:∀p,(∃n,(p,n)∈Y) ↔ Kk e stk ks w h P p
 lst:∀p,Kk e stk ks w h P p->F p=gK e stk ks P p.1 p.2 ks.length
def Zj(c:p∉(t.1,t.2.1)::Ke (t.1,t.2.1)):Kk e stk ks w h (P++[t]) p ↔ Kk e stk ks w h P p:=by rw[A3,not_or]at c;unfold Kk;rw[Zs c.2,QY λz=>c.1 (by obtain⟨a,b⟩:=p;exact Prod.ext z.1.symm z.2.symm)]
def yV(g:Good e stk ks w h P F Y)(u:Jy e stk ks w h (P++[t]) ((t.1,t.2.1)::Ke (t.1,t.2.1)) F Y F' Y'):Good e stk ks w h (P++[t]) F' Y':=by
 refine⟨λp=>?_,λp d=>?_⟩
 ·by_cases hm:p∈(t.1,t.2.1)::Ke (t.1,t.2.1)
  ·exact(u.new p hm).1
  exact((u.old p hm).1.trans<|g.key p).trans (Zj hm).symm
 ·by_cases hm:p∈(t.1,t.2.1)::Ke (t.1,t.2.1)
  ·exact(u.new p hm).2
  rw[(u.old p hm).2,g.lst p ((Zj hm).mp d),Zs];rw[A3,not_or]at hm;exact hm.2
def Gw.lay(q:Gw C o sd kd ld rd bed stk P R F Y st0 s)(hn:st0.length<=o/\o<sd/\sd<kd/\kd<ld/\ld<rd)(R':List Tl):Gw C o sd kd ld rd bed stk P R' F Y st0 (s.set ld<|.lst<|R'.map tD):=by
 obtain⟨e,f,h,l,n⟩:=hn;refine⟨?_,?_,?_,?_,?_,q.nd,λz d=>⟨(q.hy z d).1,?_⟩,Li q.fr<|by omega⟩
 ·unfold OA;rw[Ag (by omega)];exact q.ob
 ·rw[Ag (by omega)];exact q.hs
 ·rw[Ag (by omega)];exact q.hk
 ·rw[Aq (qax q.hl)]
 ·rw[Ag (by omega)];exact q.hr
 have:=(q.hy z d).1;rw[Ag (by omega)];exact(q.hy z d).2
def Gw.kin(q:Gw C o sd kd ld rd bed stk P R F Y st0 s)(hn:st0.length<=o/\o<sd/\sd<kd/\kd<ld/\ld<rd)(P':List Tl):Gw C o sd kd ld rd bed stk P' R F Y st0 (s.set kd<|.dt<|P'.map Hj):=by
 obtain⟨e,f,h,l,n⟩:=hn;refine⟨?_,?_,?_,?_,?_,q.nd,λz d=>⟨(q.hy z d).1,?_⟩,Li q.fr<|by omega⟩
 ·unfold OA;rw[Ag (by omega)];exact q.ob
 ·rw[Ag (by omega)];exact q.hs
 ·rw[Aq (qax q.hk)]
 ·rw[Ag (by omega)];exact q.hl
 ·rw[Ag (by omega)];exact q.hr
 have:=(q.hy z d).1;rw[Ag (by omega)];exact(q.hy z d).2
def oB{k:Int}(h0:OA C o bed sd kd ld rd s)(a:s[ld]?=some (.lst L))(b:K4 (.ref ld) [.tup [.int x,.int y,.int k]] s=some (.non,s1))(c:OA C o bed sd kd ld rd s1)(i:dput s1 kd (.tup [.int x,.int y]) (.int k)=some s2)(j:OA C o bed sd kd ld rd s2)(m:RB C [.ref o,.tup [.int x,.int y]] s2=some (v,s3)):
  P7 C [.ref o,.tup [.int x,.int y,.int k]] s=some (.non,s3):=by
 have d:∀q:Hf,Lk (.tup [.int x,.int y,.int k]) none (some 2) q=some (.tup [.int x,.int y],q):=λ_=>rfl;have e:Hg (.tup [.int x,.int y,.int k]) (.int 2) s1=some (.int k,s1):=Io (by decide) rfl;have l:HD C "laid" (mV 0) [some (.ref o),some (.tup [.int x,.int y,.int k])] s=some (.ref ld,s):=U0 h0;have h:HD C "kinds" (mV 0) [some (.ref o),some (.tup [.int x,.int y,.int k])] s1=some (.ref kd,s1):=So c;have n:=Q5 (C:=C) (o:=o) (f:="look_around") (g:=RB C) (mm:=Hc (IZ (mV 1) Kz<|KA<|mK<|.int 2) mZ) (U:=[some (.tup [.int x,.int y,.int k])]) rfl j;refine Oz (U:=[some (.ref o),some (.tup [.int x,.int y,.int k])]) ?_;unfold dJ;refine Hw (U1:=[some (.ref o),some (.tup [.int x,.int y,.int k])]) (s1:=s1) (by simp[l,HZ,a,b]) ?_;refine Hw (U1:=[some (.ref o),some (.tup [.int x,.int y,.int k])]) (s1:=s2) ?_ (by rw[Nl,n];simp[d,m]);rw[MV];have p:Hq (mB Hg (mV 1)<|mK<|.int 2) (LH Il (HD C "kinds"<|mV 0)<|IZ (mV 1) Kz<|KA<|mK<|.int 2) [some (.ref o),some (.tup [.int x,.int y,.int k])] s1=none:=by simp[h,d,e,Il]
 rw[p,Kh];unfold LK;simp[h,d,e,i]
def oA(c:Ctx bed e stk ks w h)(hn:st0.length<=o/\o<sd/\sd<kd/\kd<ld/\ld<rd)(q:Gw C o sd kd ld rd bed stk P R F Y st0 s)(g:Good e stk ks w h P F Y)(b:∀t∈P,0<=t.2.2/\t.2.2<(ks.length:Int))(i:0<=t.2.2/\t.2.2<(ks.length:Int))(hf:HS P t.1 t.2.1=none)(a:Y.length<=900)(j:P.length<=900)(m:R.length<=900):
  ∃(F':Int×Int->List Tl) (Y':List Yq) (s':Hf),P7 C [.ref o,tD t] s=some (.non,s')/\Gw C o sd kd ld rd bed stk (P++[t]) (R++[t]) F' Y' st0 s'/\Good e stk ks w h (P++[t]) F' Y'/\Y'.length<=Y.length+5:=by
 obtain⟨x,y,k⟩:=t;have f:=append_at (x:=tD (x,y,k)) q.hl (by rw[Af];omega);have v:R.map tD++[tD (x,y,k)]=(R++[(x,y,k)]).map tD:=by simp
 rw[v]at f;have d:=q.lay hn (R++[(x,y,k)]);have l:=Nn (x:=x) (y:=y) (k:=k) d.hk (by omega);rw[OW hf]at l;have n:=d.kin hn (P++[(x,y,k)]);obtain⟨F',Y',s3,E,L,N,U⟩:=zgs (p:=(x,y)) c hn n (λz hz=>by
  rcases Os.mp hz with hz|hz
  ·exact b z hz
  rw[KM.mp hz];exact i) a
 exact⟨F',Y',s3,oB q.ob q.hl f d.ob l n.ob E,L,yV g N,U⟩
end
def Q4{a:ME}{y:D}(b:a (some (.ref o)::U) s=some (y,s2))(h:s2[o]?=some (.ob C fs))(c:fs.length<1000):Lw C f (mV 0) a (some (.ref o)::U) s=some (.nx (some (.ref o)::U),s2.set o (.ob C<|HY f y fs)):=by have e:mV 0 (some (.ref o)::U) s2=some (.ref o,s2):=rfl;unfold Lw;rw[b];simp only[Ae,e,h];simp[c]
section
variable {R:List Tl}
def zA(h:OA C o bed sd kd ld rd s)(a:M7 C [.ref o,.tup [.int x,.int y]] s=some (v,s1)):Ut C [some (.ref o),some pl,some (.int x),some (.int y)] s=some (.nx [some (.ref o),some pl,some (.int x),some (.int y)],s1):=by have d:=Q5 (C:=C) (o:=o) (f:="look_at") (g:=M7 C) (mm:=Hc (mU<|Hc (mV 2)<|Hc (mV 3) mZ) mZ) (U:=[some pl,some (.int x),some (.int y)]) rfl h;unfold Ut;rw[Nl,d];simp[a]
def KL(x:Int)(m:Nat):List (Int×Int):=(AB m).map λ(j:Nat)=>(x,(j:Int))
def Jx(h n:Nat):List (Int×Int):=((AB n).map λ(i:Nat)=>KL (i:Int) h).flatten
def yQ(x:Int)(m:Nat):KL x (m+1)=KL x m++[(x,(m:Int))]:=by unfold KL;rw[Co,AU];rfl
def cR(h n:Nat):Jx h (n+1)=Jx h n++KL (n:Int) h:=by unfold Jx;rw[Co,AU,DC];simp
def Tu{h:Nat}(h0:0<=p.1)(c:p.1<(n:Int))(g:0<=p.2)(i:p.2<(h:Int)):p∈Jx h n:=by unfold Jx KL;rw[Ed];refine⟨_,SL.mpr ⟨p.1.toNat,by simp;omega,rfl⟩,SL.mpr ⟨p.2.toNat,by simp;omega,?_⟩⟩;obtain⟨a,b⟩:=p;simp at *;omega
def tY(c:Ctx bed e stk ks w h)(hn:st0.length<=o/\o<sd/\sd<kd/\kd<ld/\ld<rd)(q:Gw C o sd kd ld rd bed stk P R F0 [] st0 s)(J:∀t∈P,0<=t.2.2/\t.2.2<(ks.length:Int)):
  ∃(F:Int×Int->List Tl) (Y:List Yq) (b a:Option D) (s':Hf),mF (Jc<|mB Hg (mB Hg (mV 1)<|mK<|.int 1)<|mK<|.int 0) (Hl 2) (Uu C) [some (.ref o),some bed,a2,a3] s=some (.nx [some (.ref o),some bed,b,a],s')/\Gw C o sd kd ld rd bed stk P R F Y st0 s'/\Good e stk ks w h P F Y/\Y.length<=144:=by
 have f1:=c.fo.w0;have f2:=c.fo.w1;have f3:=c.fo.h0;have f4:=c.fo.h1;have K:∀s:Hf,Hg (.tup [.int w,.int h]) (.int 0) s=some (.int w,s):=λs=>Io (by decide) rfl;have M:∀s:Hf,Hg (.tup [.int w,.int h]) (.int 1) s=some (.int h,s):=λs=>Io (by decide) rfl;have x:h.toNat<=12:=by omega
 have key:=Ku (W:=⟨run 0 w.toNat,[]⟩) (g:=Hl 2) (m:=Uu C) (ds:=run 0 w.toNat) (U:=[some (.ref o),some bed,a2,a3]) (st:=s)
  (Inv:=λi U s=>(∃b a,U=[some (.ref o),some bed,b,a])/\∃(F:Int×Int->List Tl) (Y:List Yq),Gw C o sd kd ld rd bed stk P R F Y st0 s/\Jy e stk ks w h P (Jx h.toNat i) F0 [] F Y/\Y.length<=i*h.toNat)
  ⟨⟨_,_,rfl⟩,F0,[],q,Jy.nil,A0 _⟩ (λ_ _ _ _ _=>rfl) (λi Q U s f L=>by
   obtain⟨⟨b,a,rfl⟩,F,Y,v,d,N⟩:=L;obtain⟨hi,rfl⟩:=LL f;have r:i*h.toNat<=12*12:=Cb (by omega) x;have y:=Ku (W:=⟨run 0 h.toNat,[]⟩) (g:=Hl 3) (m:=Ut C) (ds:=run 0 h.toNat) (U:=[some (.ref o),some bed,some (.int (i:Int)),a]) (st:=s)
    (Inv:=λj U s=>(∃a,U=[some (.ref o),some bed,some (.int (i:Int)),a])/\∃(F:Int×Int->List Tl) (Y:List Yq),Gw C o sd kd ld rd bed stk P R F Y st0 s/\Jy e stk ks w h P (Jx h.toNat i++KL (i:Int) j) F0 [] F Y/\Y.length<=i*h.toNat+j)
    ⟨⟨_,rfl⟩,F,Y,v,by simpa[KL]using d,by omega⟩ (λ_ _ _ _ _=>rfl) (λj Q U s f L=>by obtain⟨⟨a,rfl⟩,F,Y,v,d,N⟩:=L;obtain⟨hj,rfl⟩:=LL f;obtain⟨S,s2,T,u,X,H⟩:=WJ (p:=((i:Int),(j:Int))) c hn v J (by omega);refine⟨_,s,_,s2,rfl,zA v.ob T,⟨_,rfl⟩,_,S,u,?_,by omega⟩;rw[yQ,<-Am];exact Jy.step d X)
   obtain⟨Z,s',A,⟨B,rfl⟩,F',Y',u,I,H⟩:=y;rw[Ld]at I H;refine⟨[some (.ref o),some bed,some (.int (i:Int)),a],s,[some (.ref o),some bed,some (.int (i:Int)),B],s',rfl,?_,⟨_,_,rfl⟩,F',Y',u,by rw[cR];exact I,by rw[DH];omega⟩;have G:small h=true:=Om (by omega) (by omega);have l:=c.fl s;unfold Uu;have:Jc (mB Hg (mB Hg (mV 1)<|mK<|.int 1)<|mK<|.int 1) [some (.ref o),some bed,some (.int (i:Int)),a] s=some (⟨run 0 h.toNat,[]⟩,s):=by generalize (i:Int)=kk;simp[l,M,G]
   rw[Ki,this];exact A)
 obtain⟨Z,s',A,⟨b,a,rfl⟩,F,Y,v,d,N⟩:=key;rw[Ld]at d N;have r:w.toNat*h.toNat<=12*12:=Cb (by omega) x;refine⟨F,Y,b,a,s',?_,v,⟨λp=>?_,λp E=>?_⟩,by omega⟩
 ·have G:small w=true:=Om (by omega) (by omega);have l:=c.fl s;have:Jc (mB Hg (mB Hg (mV 1)<|mK<|.int 1)<|mK<|.int 0) [some (.ref o),some bed,a2,a3] s=some (⟨run 0 w.toNat,[]⟩,s):=by simp[l,K,G]
  rw[Ki,this];exact A
 ·by_cases hm:p∈Jx h.toNat w.toNat
  ·exact(d.new p hm).1
  refine(d.old p hm).1.trans ⟨λ⟨n,z⟩=>(nomatch z),λz=>absurd (Tu z.1.1 (by have:=z.1.2.1;omega) z.1.2.2.1 (by have:=z.1.2.2.2;omega)) hm⟩
 have hm:p∈Jx h.toNat w.toNat:=Tu E.1.1 (by have:=E.1.2.1;omega) E.1.2.2.1 (by have:=E.1.2.2.2;omega);exact(d.new p hm).2
end
section
variable {sd:List Tl}
def QH{k:Nat}{x y:O}(h:s[n]?=some x)(hk:n≠k):(s.set k y)[n]?=some x:=by rw[Ag (λz=>hk z.symm)];exact h
def Mj{x y:O}(h:s[n]?=some x):(s++[y])[n]?=some x:=by rw[Aj (qax h)];exact h
theorem bZ(f:Str)(d:D):∀fs:List (Str×D),(HY f d fs).length<=fs.length+1
 |[]=>Ah _
 |(g,x)::r=>by
  have a:=bZ f d r;unfold HY;split
  ·simp
  simp;omega
def MZ{d:D}(h:fs.length<=n):(HY f d fs).length<=n+1:=AA (bZ f d fs)<|CG h
def TV(h:fs.length<=0+1+1+1+1):fs.length<1000:=BM h<|by decide
def qK(c:Ctx (Hu e stk ks w h sd) e stk ks w h)(a:∀t∈sd,IA w h ks.length t)(g:Hy sd)(K:sd.length<=60):
  ∃(s5 kd ld rd:Nat) (F:Int×Int->List Tl) (Y:List Yq) (b:Hf),Uw C [.ref st.length,Hu e stk ks w h sd] (st++[.ob C []])=some (.non,b)/\(st.length<=st.length/\st.length<s5/\s5<kd/\kd<ld/\ld<rd)/\Gw C st.length s5 kd ld rd (Hu e stk ks w h sd) stk sd [] F Y st b/\Good e stk ks w h sd F Y/\Y.length<=144:=by
 obtain⟨hs,M,ie,Q,i2⟩:=c.at_;have S:∀s:Hf,Hg (Hu e stk ks w h sd) (.int 2) s=some (HL sd,s):=λs=>Io (by decide) rfl;have T:∀t∈sd,0<=t.2.2/\t.2.2<(ks.length:Int):=λt L=>⟨(a t L).2.2.2.2.1,(a t L).2.2.2.2.2⟩
 have o0:=Iq st (.ob C []);have W:Gr st (st++[.ob C []]):=Gr.app _ _;have X:(st++[O.ob C []]).length=st.length+1:=by simp
 generalize Z:st++[O.ob C []]=t0 at *;generalize N:Hu e stk ks w h sd=bed at *;have r1:Lw C "bed" (mV 0) (mV 1) [some (.ref st.length),some bed,none,none] t0=some (.nx [some (.ref st.length),some bed,none,none],t0.set st.length (.ob C (HY "bed" bed []))):=Q4 rfl o0 (by simp);have P:(t0.set st.length (.ob C (HY "bed" bed [])))[st.length]?=some (.ob C (HY "bed" bed [])):=by rw[Aq (qax o0)]
 have g1:Gr st (t0.set st.length (.ob C (HY "bed" bed []))):=Li W (Ah _);have p:(t0.set st.length (.ob C (HY "bed" bed []))).length=st.length+1:=by rw[Bf,X]
 generalize t0.set st.length (.ob C (HY "bed" bed []))=t1 at *;have i:=VC (stk:=stk) (st:=t1) (by have:=c.hs.sl;omega);rw[p]at i;have d1:(t1++[O.dk (JF stk)])[st.length+1]?=some (.dk (JF stk)):=by rw[<-p];exact Iq t1 _
 have r2:Lw C "strengths" (mV 0) (Ho OE (Hc (mB Hg (mB Hg (mV 1) (mK (.int 0))) (mK (.int 1))) mZ)) [some (.ref st.length),some bed,none,none] t1=some (.nx [some (.ref st.length),some bed,none,none],(t1++[O.dk (JF stk)]).set st.length (.ob C (HY "strengths" (.ref (st.length+1)) (HY "bed" bed [])))):=Q4 (by simp[M,Q,i]) (Mj P) (TV (AA (MZ (Ah 0)) (by decide)));have j:((t1++[O.dk (JF stk)]).set st.length (.ob C (HY "strengths" (.ref (st.length+1)) (HY "bed" bed []))))[st.length]?=some (.ob C (HY "strengths" (.ref (st.length+1)) (HY "bed" bed []))):=by rw[Aq (qax (Mj P))]
 have m:=QH (k:=st.length) (y:=O.ob C (HY "strengths" (.ref (st.length+1)) (HY "bed" bed []))) d1 (by omega);have g2:Gr st ((t1++[O.dk (JF stk)]).set st.length (.ob C (HY "strengths" (.ref (st.length+1)) (HY "bed" bed [])))):=Li (g1.trans (Gr.app _ _)) (Ah _);have l2:((t1++[O.dk (JF stk)]).set st.length (.ob C (HY "strengths" (.ref (st.length+1)) (HY "bed" bed [])))).length=st.length+2:=by simp[p]
 generalize (t1++[O.dk (JF stk)]).set st.length (.ob C (HY "strengths" (.ref (st.length+1)) (HY "bed" bed [])))=r at *;obtain⟨t3,u,a3,g3⟩:=Va (ts:=sd) (st:=r) (by omega);rw[PV g]at a3;rw[l2]at u a3;have A:=(g3.old _ (qax j)).trans j;have d3:=(g3.old _ (qax m)).trans m;have l3:=qax a3;have v:=g2.trans g3;have r3:Lw C "kinds" (mV 0) (Ho Qh (Hc (mB Hg (mV 1) (mK (.int 2))) mZ)) [some (.ref st.length),some bed,none,none] r=some (.nx [some (.ref st.length),some bed,none,none],t3.set st.length (.ob C (HY "kinds" (.ref (st.length+2)) (HY "strengths" (.ref (st.length+1)) (HY "bed" bed []))))):=Q4 (by simp[S,u]) A (TV (AA (MZ (MZ (Ah 0))) (by decide)));have B:(t3.set st.length (.ob C (HY "kinds" (.ref (st.length+2)) (HY "strengths" (.ref (st.length+1)) (HY "bed" bed [])))))[st.length]?=some (.ob C (HY "kinds" (.ref (st.length+2)) (HY "strengths" (.ref (st.length+1)) (HY "bed" bed [])))):=by rw[Aq (qax A)]
 have d4:=QH (k:=st.length) (y:=O.ob C (HY "kinds" (.ref (st.length+2)) (HY "strengths" (.ref (st.length+1)) (HY "bed" bed [])))) d3 (by omega);have G:=QH (k:=st.length) (y:=O.ob C (HY "kinds" (.ref (st.length+2)) (HY "strengths" (.ref (st.length+1)) (HY "bed" bed [])))) a3 (by omega);have g4:Gr st (t3.set st.length (.ob C (HY "kinds" (.ref (st.length+2)) (HY "strengths" (.ref (st.length+1)) (HY "bed" bed []))))):=Li v (Ah _);generalize t3.set st.length (.ob C (HY "kinds" (.ref (st.length+2)) (HY "strengths" (.ref (st.length+1)) (HY "bed" bed []))))=d at *;have l4:st.length+2<d.length:=qax G
 have r4:Lw C "laid" (mV 0) (mL mZ) [some (.ref st.length),some bed,none,none] d=some (.nx [some (.ref st.length),some bed,none,none],(d++[O.lst []]).set st.length (.ob C (HY "laid" (.ref d.length) (HY "kinds" (.ref (st.length+2)) (HY "strengths" (.ref (st.length+1)) (HY "bed" bed [])))))):=Q4 (by simp) (Mj B) (TV (AA (MZ (MZ (MZ (Ah 0)))) (by decide)));have H:((d++[O.lst []]).set st.length (.ob C (HY "laid" (.ref d.length) (HY "kinds" (.ref (st.length+2)) (HY "strengths" (.ref (st.length+1)) (HY "bed" bed []))))))[st.length]?=some (.ob C (HY "laid" (.ref d.length) (HY "kinds" (.ref (st.length+2)) (HY "strengths" (.ref (st.length+1)) (HY "bed" bed []))))):=by rw[Aq (qax (Mj B))]
 have l:∀{n:Nat}{x:O},(d++[O.lst []])[n]?=some x->n≠st.length->((d++[O.lst []]).set st.length (.ob C (HY "laid" (.ref d.length) (HY "kinds" (.ref (st.length+2)) (HY "strengths" (.ref (st.length+1)) (HY "bed" bed []))))))[n]?=some x:=λz E=>QH z E;have d5:=l (Mj d4) (by omega);have k5:=l (Mj G) (by omega);have I:=l (Iq d (.lst [])) (by omega);have g5:Gr st ((d++[O.lst []]).set st.length (.ob C (HY "laid" (.ref d.length) (HY "kinds" (.ref (st.length+2)) (HY "strengths" (.ref (st.length+1)) (HY "bed" bed [])))))):=Li (g4.trans (Gr.app _ _)) (Ah _);clear l;generalize (d++[O.lst []]).set st.length (.ob C (HY "laid" (.ref d.length) (HY "kinds" (.ref (st.length+2)) (HY "strengths" (.ref (st.length+1)) (HY "bed" bed [])))))=f at *;have l5:d.length<f.length:=qax I
 have r5:Lw C "ready" (mV 0) (OI true) [some (.ref st.length),some bed,none,none] f=some (.nx [some (.ref st.length),some bed,none,none],(f++[O.dt []]).set st.length (.ob C (N9 bed (st.length+1) (st.length+2) d.length f.length))):=Q4 (by simp) (Mj H) (TV (MZ (MZ (MZ (MZ (Ah 0))))));have o:∀{n:Nat}{x:O},(f++[O.dt []])[n]?=some x->n≠st.length->((f++[O.dt []]).set st.length (.ob C (N9 bed (st.length+1) (st.length+2) d.length f.length)))[n]?=some x:=λz E=>QH z E;have q:Gw C st.length (st.length+1) (st.length+2) d.length f.length bed stk sd [] (λ_=>[]) [] st ((f++[O.dt []]).set st.length (.ob C (N9 bed (st.length+1) (st.length+2) d.length f.length))):=
  ⟨by unfold OA;rw[Aq (qax (Mj H))],o (Mj d5) (by omega),o (Mj k5) (by omega),o (Mj I) (by omega),o (Iq f (.dt [])) (by omega),Cu,λz hz=>(nomatch hz),Li (g5.trans (Gr.app _ _)) (Ah _)⟩
 have J:st.length<=st.length/\st.length<st.length+1/\st.length+1<st.length+2/\st.length+2<d.length/\d.length<f.length:=⟨Ah _,by omega,by omega,l4,l5⟩
 obtain⟨F,Y,b2,b3,t7,e7,q7,g7,y7⟩:=tY (a2:=none) (a3:=none) c J q T;refine⟨_,_,_,_,F,Y,t7,Oz (U:=[some (.ref st.length),some bed,b2,b3]) ?_,J,q7,g7,y7⟩;unfold fV;refine Hw r1 (Hw r2 (Hw r3 (Hw r4 (Hw r5 e7))))
end
def LZ(p q:Int×Int):Prop:=p.1<q.1\/(p.1=q.1/\p.2<q.2)
def qQ(p q:Int×Int):HT.lexLt [p.1,p.2] [q.1,q.2]=true ↔ LZ p q:=by
 unfold LZ;rw[HT.Ie,HT.Ie,HT.IT];by_cases h1:p.1=q.1
 ·rw[if_pos h1]
  by_cases h2:p.2=q.2
  ·rw[if_pos h2];constructor
   ·intro z;cases z
   intro z;omega
  rw[if_neg h2,decide_eq_true_iff];omega
 rw[if_neg h1,decide_eq_true_iff];omega
theorem Vy{α:Type}{lt:α->α->Prop}(tr:∀a b c,lt a b->lt b c->lt a c)(m:∀a,¬lt a a)(at_:Nat->α)(g:Nat->Nat->Bool){N:Nat}(q:∀i j,i<=N->j<=N->(g i j=true ↔ lt (at_ i) (at_ j))):∀k j,k<=N->j<=k->¬lt (at_ j) (at_<|argBest g k)
 |0,j,_,r=>by
  have:j=0:=by omega
  subst this;exact m _
 |k+1,j,d,r=>by
  have hk:=WR g k;unfold argBest;split
  ·rename_i h
   by_cases hjk:j=k+1
   ·subst hjk;exact m _
   intro z;exact Vy tr m at_ g q k j (by omega) (by omega)<|tr _ _ _ z<|(q _ _ d<|by omega).mp h
  ·rename_i h
   by_cases hjk:j=k+1
   ·subst hjk;exact λz=>h ((q _ _ d<|by omega).mpr z)
   exact Vy tr m at_ g q k j (by omega)<|by omega
def IY(q:Yq):List Int:=[q.1.1,q.1.2]
def oJ{Y:List Yq}(g:Y≠[]):∃q∈Y,Qq (Y.map IY)=IY q/\∀z∈Y,¬LZ z.1 q.1:=by
 have n:0<Y.length:=List.length_pos_iff.mpr g;have get:∀i,i<=Y.length-1->(Y.map IY).getD i []=IY (Y.getD i ((0,0),0)):=λi f=>by
  have:i<Y.length:=by omega
  simp[Aw,this]
 have key:=Vy (lt:=LZ) (λa b c x y=>by unfold LZ at *;omega) (λa z=>by unfold LZ at z;omega) (λi=>(Y.getD i ((0,0),0)).1) (λi j=>HT.lexLt ((Y.map IY).getD i []) ((Y.map IY).getD j [])) (N:=Y.length-1) (λi j f d=>by rw[get i f,get j d];exact qQ _ _) (Y.length-1)
 have h:=WR (λi j=>HT.lexLt ((Y.map IY).getD i []) ((Y.map IY).getD j []))<|Y.length-1;have e:Qq (Y.map IY)=(Y.map IY).getD (argBest (λi j=>HT.lexLt ((Y.map IY).getD i []) ((Y.map IY).getD j []))<|Y.length-1) []:=by unfold Qq;rw[Af]
 rw[e];generalize argBest (λi j=>HT.lexLt ((Y.map IY).getD i []) ((Y.map IY).getD j [])) (Y.length-1)=b at *;refine⟨Y.getD b ((0,0),0),?_,get b h,λz l=>?_⟩
 ·have:b<Y.length:=by omega
  rw[Aw,Ai this];exact Ba this
 obtain⟨j,d,rfl⟩:=Dz l;have:=key j (Ah _) (by omega);simpa[Aw,d]using this
section
variable {R:List Tl}
def oE(b:s[rd]?=some (.dt<|Y.map IC))(c:Y≠[])(g:Y.length<=1000):OL [.ref rd] s=some (HF (Qq<|Y.map IY),s):=by
 have fl:fits (Y.map IC).length=true:=JP (by rw[Af];omega);have ne:(!(Y.map IC).isEmpty)=true:=by
  cases Y with
  |nil=>exact absurd rfl c
  |cons a l=>rfl
 have d:Jl (Y.map IC)=(Y.map IY).map HF:=by unfold Jl;rw[AI,AI];rfl
 have e:rowsOf ((Y.map IY).map HF)=some (Y.map IY):=Ri λr b=>by obtain⟨q,_,rfl⟩:=SL.mp b;simp[IY]
 unfold OL;simp only[b,fl,ne,Bool.and_self,if_true,d,e,AZ]
def ZD(a:OA C o bed sd kd ld rd s)(b:s[rd]?=some (.dt<|Y.map IC))(c:Y.length<=1000):OJ (HD C "ready"<|mV 0) (some (.ref o)::U) s=some (!Y.isEmpty,s):=by
 have fl:fits (Y.map IC).length=true:=JP (by rw[Af];omega);unfold OJ;rw[QB a];simp only[Ae,b,fl,if_true]
 cases Y<;>rfl
def qC(q:Gw C o sd kd ld rd bed stk P R F [] st0 s):O0 C [.ref o] s=some (.non,s):=by
 have t:=ZD (U:=[none]) q.ob q.hr (by simp);refine IJ ?_;unfold Wr;refine OQ ?_;show Ji _ _ _ [some (.ref o),none] s=_;rw[LJ];have d:N1 (OJ<|HD C "ready"<|mV 0) [some (.ref o),none] s=some (true,s):=by rw[Z1,t];rfl
 rw[d,Ae,if_pos rfl];simp
def gZ{p:D}{tl:D}(a:OA C o bed sd kd ld rd s)(t:OJ (HD C "ready"<|mV 0) [some (.ref o),none] s=some (true,s))(em:OL [.ref rd] s=some (p,s))(b:Hg (.ref rd) p s=some (.ref n,s))(c:Hg (.ref n) (.int 0) s=some (tl,s))(i:P7 C [.ref o,tl] s=some (v,s1)):O0 C [.ref o] s=some (tl,s1):=by
 have d:∀U:Ii,HD C "ready" (mV 0) (some (.ref o)::U) s=some (.ref rd,s):=λU=>QB a;have e:=Q5 (C:=C) (o:=o) (f:="lay") (g:=P7 C) (mm:=Hc (mV 1) mZ) (U:=[some tl]) rfl a;refine IJ ?_;unfold Wr;refine Hw (U1:=[some (.ref o),none]) (s1:=s) ?_ ?_
 ·show Ji _ _ _ [some (.ref o),none] s=_;rw[LJ];have h:N1 (OJ<|HD C "ready"<|mV 0) [some (.ref o),none] s=some (false,s):=by rw[Z1,t];rfl
  rw[h,Ae,if_neg AV];rfl
 refine Hw (U1:=[some (.ref o),some tl]) (s1:=s) (by simp[d,em,b,c]) ?_;refine Hw (U1:=[some (.ref o),some tl]) (s1:=s1) (by rw[Nl,e];simp[i]) ?_;simp
def kL(a:t∈gK e stk ks P p.1 p.2 n):t.1=p.1/\t.2.1=p.2/\0<=t.2.2/\t.2.2<(n:Int):=by unfold gK at a;obtain⟨k,hk,rfl⟩:=SL.mp a;have:=List.mem_range.mp (List.mem_filter.mp hk).1;exact⟨rfl,rfl,by show(0:Int)<=(k:Int);omega,by show(k:Int)<(n:Int);omega⟩
def qD(c:Ctx bed e stk ks w h)(hn:st0.length<=o/\o<sd/\sd<kd/\kd<ld/\ld<rd)(q:Gw C o sd kd ld rd bed stk P R F Y st0 s)(g:Good e stk ks w h P F Y)(G:∀t∈P,0<=t.2.2/\t.2.2<(ks.length:Int))(b:Y≠[])(j:Y.length<=900)(m:P.length<=900)(r:R.length<=900):
  ∃(p:Int×Int) (t:Tl) (L:List Tl) (F':Int×Int->List Tl) (Y':List Yq) (s':Hf),Kk e stk ks w h P p/\(∀i,Kk e stk ks w h P i->¬LZ i p)/\gK e stk ks P p.1 p.2 ks.length=t::L/\O0 C [.ref o] s=some (tD t,s')/\Gw C o sd kd ld rd bed stk (P++[t]) (R++[t]) F' Y' st0 s'/\Good e stk ks w h (P++[t]) F' Y'/\Y'.length<=Y.length+5:=by
 obtain⟨⟨p,H⟩,B,I,v⟩:=oJ b;have d:=(g.key p).mp ⟨H,B⟩;have f:∀i,Kk e stk ks w h P i->¬LZ i p:=λi E=>by obtain⟨n',N⟩:=(g.key i).mpr E;exact v _ N
 have t:=ZD (U:=[none]) q.ob q.hr (by omega);have tt:(!Y.isEmpty)=true:=by
  cases Y with
  |nil=>exact absurd rfl b
  |cons a l=>rfl
 rw[tt]at t;have em:=oE q.hr b (by omega);rw[I]at em;have em:OL [.ref rd] s=some (.tup [.int p.1,.int p.2],s):=em
 rcases Vu (p:=p) (Y:=Y)with⟨_,z⟩|⟨n,u,J⟩
 ·exact absurd rfl<|z _ B
 ·have K:=Ss q.hr J;have A:=(q.hy _ u).2;rw[g.lst p d]at A
  cases x:gK e stk ks P p.1 p.2 ks.length with
  |nil=>exact absurd x d.2.2
  |cons y L=>
   rw[x]at A;have M:Hg (.ref n) (.int 0) s=some (tD y,s):=KY A (by decide) rfl;obtain⟨Q,S,T,W⟩:=kL (p:=p) (t:=y) (by rw[x];exact Ar);obtain⟨F',Y',s',X,Z,g',l'⟩:=oA (t:=y) c hn q g G ⟨T,W⟩ (by rw[Q,S];exact d.2.1) j m r;exact⟨p,y,L,F',Y',s',d,f,x,gZ q.ob t em K M X,Z,g',l'⟩
end
end L2.MP.T0
namespace L2.MP.T0
open PySem L2.MP L2.MP.Hd
variable {e w h:Int}{stk:List (Str×Int)}{ks:List (List Str)}{P L:List Tl}{f:Int×Int->List Tl}{p:Int×Int}{t:Tl}{m n:Nat}{bed:D}
theorem bB{f:Int×Int->List Tl}:∀{ps:List (Int×Int)},(∀p∈ps,f p=[])->(ps.map f).flatten=[]
 |[],_=>rfl
 |p::ps,h=>by rw[As,FZ,h p Ar,bB λq a=>h q (Al _ a)];rfl
theorem dS{f:Int×Int->List Tl}{p:Int×Int}{t:Tl}{L:List Tl}(d:f p=t::L):∀{ps:List (Int×Int)},ps.Pairwise LZ->p∈ps->(∀q∈ps,f q≠[]->¬LZ q p)->∃M,(ps.map f).flatten=t::M
 |[],_,hm,_=>nomatch hm
 |q::ps,c,hm,hl=>by
  rw[As,FZ];rw[List.pairwise_cons]at c;rcases On.mp hm with rfl|hm
  ·exact⟨L++(ps.map f).flatten,by rw[d];rfl⟩
  ·have:f q=[]:=by
    cases z:f q with
    |nil=>rfl
    |cons a b=>exact absurd (c.1 p hm)<|hl q Ar (by rw[z];simp)
   rw[this];exact dS d c.2 hm λr e=>hl r (Al _ e)
def kI(x:Int)(m:Nat):(eC P x m).Pairwise LZ:=by unfold eC;refine List.Pairwise.map _ (R:=λa b:Nat=>a<b) (λa b e=>.inr ⟨rfl,by show(a:Int)<(b:Int);omega⟩) ?_;exact List.Pairwise.filter _ List.pairwise_lt_range
def SK{x:Int}:p∈eC P x m ↔ p.1=x/\0<=p.2/\p.2<(m:Int)/\Lm P p.1 p.2=true:=by
 unfold eC;rw[FG];constructor
 ·rintro⟨j,n,rfl⟩;obtain⟨e,f⟩:=List.mem_filter.mp n;have:=List.mem_range.mp e;exact⟨rfl,by show(0:Int)<=(j:Int);omega,by show(j:Int)<(m:Int);omega,f⟩
 rintro⟨h0,e,f,w⟩;obtain⟨a,b⟩:=p;have h0:a=x:=h0;have e:0<=b:=e;have f:b<(m:Int):=f;subst h0;have h:((b.toNat:Nat):Int)=b:=Bz e;exact⟨b.toNat,List.mem_filter.mpr ⟨List.mem_range.mpr<|by omega,by rw[h];exact w⟩,by rw[h]⟩
def Ze(d:0<=h):p∈eF P h n ↔ 0<=p.1/\p.1<(n:Int)/\0<=p.2/\p.2<h/\Lm P p.1 p.2=true:=by
 unfold eF;rw[Ed];constructor
 ·rintro⟨l,w,L⟩;obtain⟨i,a,rfl⟩:=SL.mp w;have:=List.mem_range.mp a;obtain⟨h0,e,f,m⟩:=SK.mp L;exact⟨by omega,by omega,e,by omega,m⟩
 rintro⟨h0,e,f,m,b⟩;have c:((p.1.toNat:Nat):Int)=p.1:=Bz h0;exact⟨_,SL.mpr ⟨p.1.toNat,List.mem_range.mpr<|by omega,rfl⟩,SK.mpr ⟨c.symm,f,by omega,b⟩⟩
theorem Zf:∀n:Nat,(eF P h n).Pairwise LZ
 |0=>by simp[eF]
 |n+1=>by rw[VD];refine List.pairwise_append.mpr ⟨Zf n,kI _ _,λa c b d=>?_⟩;have d:=(SK.mp d).1;unfold eF at c;obtain⟨l,e,f⟩:=List.mem_flatten.mp c;obtain⟨i,m,rfl⟩:=SL.mp e;have:=List.mem_range.mp m;have c:=(SK.mp f).1;exact .inl<|by omega
def jT(c:Ctx bed e stk ks w h)(b:Kk e stk ks w h P p):p∈eF P h w.toNat:=by
 have f1:=c.fo.w0;have d:=c.fo.h0;obtain⟨⟨x0,g,f,m⟩,hf,n⟩:=b;refine(Ze<|by omega).mpr ⟨x0,by omega,f,m,?_⟩;unfold Lm;rw[hf]
 cases L:(AB 4).filter (Iv P p.1 p.2) with
 |nil=>exact absurd (Zt c.hs.e0 (pW L) _) n
 |cons a l=>rfl
def YH(c:Ctx bed e stk ks w h)(a:p∈eF P h w.toNat)(b:gK e stk ks P p.1 p.2 ks.length≠[]):Kk e stk ks w h P p:=by have f1:=c.fo.w0;have L:=c.fo.h0;obtain⟨h0,d,m,n,f⟩:=(Ze<|by omega).mp a;refine⟨⟨h0,by omega,m,n⟩,?_,b⟩;unfold Lm at f;rw[An]at f;simpa using f.1
def xP(c:Ctx bed e stk ks w h)(hno:∀p,¬Kk e stk ks w h P p):Ik e stk ks P (eF P h w.toNat)=[]:=by
 unfold Ik;refine bB (f:=λp=>gK e stk ks P p.1 p.2 ks.length) λp m=>?_;cases z:gK e stk ks P p.1 p.2 ks.length with
 |nil=>rfl
 |cons a l=>exact absurd (YH c m (by rw[z];simp))<|hno p
def zkF(c:Ctx bed e stk ks w h)(b:Kk e stk ks w h P p)(d:∀a,Kk e stk ks w h P a->¬LZ a p)(g:gK e stk ks P p.1 p.2 ks.length=t::L):∃M,Ik e stk ks P (eF P h w.toNat)=t::M:=by unfold Ik;exact dS (f:=λp=>gK e stk ks P p.1 p.2 ks.length) (p:=p) g (Zf _) (jT c b) λq n m=>d q (YH c n m)
variable {C:Addr}{o kd ld rd:Nat}{S:List Tl}{F:Int×Int->List Tl}{Y:List Yq}{st0 s:Hf}{ps:List (Int×Int)}
section
variable {sd:Nat}
def JY(e:Int)(stk:List (Str×Int))(ks:List (List Str))(w h:Int)(P:List Tl):Option Tl:=(Ik e stk ks P<|eF P h w.toNat).head?
def Hr(e:Int)(stk:List (Str×Int))(ks:List (List Str))(w h:Int)(S:List Tl):Nat->List Tl
 |0=>[]
 |n+1=>match JY e stk ks w h (S++Hr e stk ks w h S n) with
  |some t=>Hr e stk ks w h S n++[t]
  |none=>Hr e stk ks w h S n
def V6(a:JY e stk ks w h (S++Hr e stk ks w h S n)=some t):Hr e stk ks w h S (n+1)=Hr e stk ks w h S n++[t]:=by rw[Hr,a]
theorem TR{n:Nat}(a:JY e stk ks w h (S++Hr e stk ks w h S n)=none):∀k,Hr e stk ks w h S (n+k)=Hr e stk ks w h S n
 |0=>rfl
 |k+1=>by have b:=TR a k;show Hr e stk ks w h S (n+k+1)=_;rw[Hr,b,a]
theorem VS:∀n,(Hr e stk ks w h S n).length<=n
 |0=>Ah _
 |n+1=>by
  have a:=VS n;rw[Hr];split
  ·rw[AD,Bl];omega
  omega
def rF(hn:JY e stk ks w h (S++Hr e stk ks w h S n)=none)(hm:JY e stk ks w h (S++Hr e stk ks w h S m)=none):Hr e stk ks w h S n=Hr e stk ks w h S m:=by
 rcases Nat.le_total n m with z|z
 ·obtain⟨k,rfl⟩:=G4 z;exact(TR hn k).symm
 obtain⟨k,rfl⟩:=G4 z;exact TR hm k
def Tg(hf:JB w h)(a:JY e stk ks w h P=some t):Kq e stk ks w h P t:=aY hf<|List.mem_of_mem_head? a
theorem VT(hf:JB w h):∀n,K2 e stk ks w h S (Hr e stk ks w h S n)
 |0=>trivial
 |n+1=>by
  have a:=VT hf n;rw[Hr];split
  ·rename_i t f;exact Ra a<|Tg hf f
  exact a
def Sq(ps:List (Int×Int))(P:List Tl):Nat:=(ps.filter λp=>(HS P p.1 p.2).isNone).length
def Wh(a:(t.1,t.2.1)∈ps)(hn:HS P t.1 t.2.1=none):Sq ps (P++[t])+1<=Sq ps P:=by
 refine(filter_lt λu e=>?_).2 ⟨(t.1,t.2.1),a,by rw[hn];rfl,?_⟩
 ·have f:HS (P++[t]) u.1 u.2=none:=by simpa using e
  have h:=LO.mp f;have:HS P u.1 u.2=none:=LO.mpr λv m=>h v<|AK _ m;rw[this];rfl
 ·cases q:HS (P++[t]) t.1 t.2.1 with
  |none=>exact absurd ⟨rfl,rfl⟩<|LO.mp q t<|by simp
  |some k=>rfl
def ZH(hf:JB w h)(hm:Kq e stk ks w h P t):(t.1,t.2.1)∈Jx h.toNat w.toNat:=by have f1:=hf.w0;have m:=hf.h0;obtain⟨⟨x0,n,f,o,_,_⟩,_,_⟩:=hm;exact Tu x0 (by show t.1<_;omega) f (by show t.2.1<_;omega)
theorem VP(a:Nat):∀n,(Jx a n).length=n*a
 |0=>by simp[Jx]
 |n+1=>by rw[cR,AD,VP a n,DH];simp[KL]
theorem TQ(hf:JB w h):∀n,(∀m,m<n->JY e stk ks w h (S++Hr e stk ks w h S m)≠none)->Sq (Jx h.toNat w.toNat) (S++Hr e stk ks w h S n)+n<=w.toNat*h.toNat
 |0,_=>by have:=AN (λp:Int×Int=>(HS (S++Hr e stk ks w h S 0) p.1 p.2).isNone)<|Jx h.toNat w.toNat;rw[VP]at this;exact this
 |n+1,hh=>by
  have o:=TQ hf n λm hm=>hh m<|by omega
  cases f:JY e stk ks w h (S++Hr e stk ks w h S n) with
  |none=>exact absurd f<|hh n<|by omega
  |some t=>
   have hm:=Tg hf f;have:=Wh (ZH hf hm) hm.2.1;rw[V6 f,<-Am];omega
end
open L2.MP.Hn (HL Mu Hs JX)
variable {kn:Int}
section
variable {s5:Nat}{R:List Tl}
theorem bG{ps:List (Int×Int)}(a:Hy P)(b:∀t∈P,(t.1,t.2.1)∈ps):∀n,n<=P.length->Sq ps (P.take n)+n<=ps.length
 |0,_=>AN _ _
 |n+1,hn=>by
  have c:=bG a b n (by omega);have f:n<P.length:=hn;have e:P.take (n+1)=P.take n++[P[n]]:=by rw[Bj,Ai f];rfl
  have h:Hy (P.take n++[P[n]]):=by rw[<-e];exact E3 (FM _ _) a
  have:=Wh (b _<|Ba f)<|ZI h;rw[e];omega
def TL(hf:JB w h):w.toNat*h.toNat<=60:=by
 have e:=hf.w1;have f:=hf.h1;rcases hf.wh with z|z
 ·exact Cb (show w.toNat<=5 by omega) (show h.toNat<=12 by omega)
 exact Cb (show w.toNat<=12 by omega) (show h.toNat<=5 by omega)
def SY(hf:JB w h)(a:Hy P)(b:∀t∈P,IA w h kn t):P.length<=60:=by
 have f1:=hf.w0;have m:=hf.h0;have:=bG (ps:=Jx h.toNat w.toNat) a (λt e=>by obtain⟨x0,n,f,o,_,_⟩:=b t e;exact Tu x0 (by show t.1<_;omega) f (by show t.2.1<_;omega)) P.length (Ah _)
 rw[VP]at this;have:=TL hf;omega
def Ta(hf:JB w h)(a:Hy S)(m:Nat):Hy (S++Hr e stk ks w h S m):=Mm a<|VT hf m
def T4(hf:JB w h)(a:∀t∈S,IA w h ks.length t)(m:Nat):∀t∈S++Hr e stk ks w h S m,IA w h ks.length t:=λt ht=>by
 rcases Os.mp ht with ht|ht
 ·exact a t ht
 exact P9 (VT hf m) t ht
def Zy(a:∀t∈P,IA w h kn t):∀t∈P,0<=t.2.2/\t.2.2<kn:=λt e=>⟨(a t e).2.2.2.2.1,(a t e).2.2.2.2.2⟩
def VO{f:Str}{g:GN}{mm:MA}{b:Option D}{U:Ii}(hf:(N9 bed s5 kd ld rd).lookup f=none)(h:OA C o bed s5 kd ld rd s):Lg C f g (mV 1) mm (b::some (.ref o)::U) s=(mm (b::some (.ref o)::U) s).bind λp=>g (.ref o::p.1) p.2:=by have h:s[o]?=some (.ob C<|N9 bed s5 kd ld rd):=h;have e:mV 1 (b::some (.ref o)::U) s=some (.ref o,s):=rfl;unfold Lg;rw[e];simp only[Ae,h,hf];simp
def Zk{d:D}{s1:Hf}(h:OA C o bed s5 kd ld rd s)(a:O0 C [.ref o] s=some (d,s1)):Uo C [some bed,some (.ref o)] s=some (!MQ d,s1):=by
 have e:=VO (C:=C) (o:=o) (f:="on") (g:=O0 C) (mm:=mZ) (b:=some bed) (U:=[]) rfl h;have nn:∀q:Hf,Sx d .non q=some (.bl !MQ d,q):=λq=>by unfold Sx JT N4;rw[Kg]
 unfold Uo;simp[e,a,nn]
theorem dR(c:Ctx bed e stk ks w h)(hn:st0.length<=o/\o<s5/\s5<kd/\kd<ld/\ld<rd)(u:∀t∈S,IA w h ks.length t)(a:Hy S):
  ∀(n m:Nat) {F:Int×Int->List Tl}{Y:List Yq}{s:Hf},Gw C o s5 kd ld rd bed stk (S++Hr e stk ks w h S m) (Hr e stk ks w h S m) F Y st0 s->Good e stk ks w h (S++Hr e stk ks w h S m) F Y->(∀j,j<m->JY e stk ks w h (S++Hr e stk ks w h S j)≠none)->w.toNat*h.toNat<n+m->Y.length<=144+5*m ->
  ∃(M:Nat) (v:Int×Int->List Tl) (x:List Yq) (s':Hf),Y3 (IS (Uo C) (Xj C) n [some bed,some (.ref o)] s=some (.nx [some bed,some (.ref o)],s')) (Gw C o s5 kd ld rd bed stk (S++Hr e stk ks w h S M) (Hr e stk ks w h S M) v x st0 s') (JY e stk ks w h (S++Hr e stk ks w h S M)=none)
 |0,m,F,Y,s,q,g,b,d,E=>by have:=TQ (e:=e) (stk:=stk) (ks:=ks) (S:=S) c.fo m b;omega
 |n+1,m,F,Y,s,q,g,b,d,E=>by
  have hf:=TQ (e:=e) (stk:=stk) (ks:=ks) (S:=S) c.fo m b;have G:=TL c.fo;have y:=T4 (e:=e) (stk:=stk) (ks:=ks) c.fo u m;have H:=SY c.fo (Ta (e:=e) (stk:=stk) (ks:=ks) c.fo a m) y;have I:=VS (e:=e) (stk:=stk) (ks:=ks) (w:=w) (h:=h) (S:=S) m;by_cases hy:Y=[]
  ·subst hy;have P:=Zk q.ob<|qC q;refine⟨m,F,[],s,?_,q,?_⟩
   ·rw[IS];simp[P,MQ]
   ·unfold JY;rw[xP c λp J=>by
     obtain⟨k,hk⟩:=(g.key p).mpr J;cases hk]
    rfl
  ·obtain⟨p,t,L,v,x,s',i,f,K,N,z,A,Q⟩:=qD c hn q g (Zy y) hy (by omega) (by omega) (by omega);obtain⟨M0,l⟩:=zkF c i f K;have B:JY e stk ks w h (S++Hr e stk ks w h S m)=some t:=by
    unfold JY;rw[l];rfl
   rw[Am,<-V6 B]at z A;have P:=Zk q.ob N;have nn:(!MQ (tD t))=true:=rfl;rw[nn]at P;obtain⟨M,T,U,s2,W,X,Z⟩:=dR c hn u a n (m+1) z A (λj hj=>by
    by_cases r:j=m
    ·subst r;rw[B];simp
    exact b j (by omega)) (by omega) (by omega)
   refine⟨M,T,U,s2,?_,X,Z⟩;rw[IS];simp only[P,Ae,if_true];unfold Xj;rw[pH];exact W
def lW(q:Gw C o s5 kd ld rd bed stk P R F Y st0 s):Ua C [.ref o] s=some (.tup (R.map tD),s):=by have f:=U0 (U:=[]) q.ob;have e:=LA q.hl;refine IJ ?_;unfold dM;simp[f,e]
def iL(q:Gw C o s5 kd ld rd bed stk P R F Y st0 s)(a:∀st:Hf,Hg bed (.int 2) st=some (HL S,st))(b:(S++R).length<64):∃s',Ux C [.ref o] s=some (HL (Hs<|S++R),s')/\Gr s s':=by
 have d:∀st:Hf,OA C o bed s5 kd ld rd st->HD C "bed" (mV 0) [some (.ref o)] st=some (bed,st):=λst z=>Qs z;have f1:=Qs (U:=[]) q.ob;rw[AD]at b;have m:fits S.length=true:=JP (by omega);have n:OC [HL S] s=some (.ref s.length,s++[.lst (S.map tD)]):=by
  rw[OY];unfold OC Qw K6;have:Qx [.tup (S.map tD)] s=some (.ref s.length,s++[.lst (S.map tD)]):=by unfold Qx;simp only[Af,m,if_true]
  rw[this,Kg,Kg]
 have h:=q.gr<|Gr.app s [.lst (S.map tD)];have a1:=Iq s<|.lst<|S.map tD;have f2:=U0 (U:=[]) h.ob;generalize e:s++[O.lst (S.map tD)]=s1 at *;have g1:Gr s s1:=e ▸ Gr.app _ _;have p:HE (.ref s.length) (.ref ld) s1=some (.ref s1.length,s1++[.lst ((S++R).map tD)]):=by have w:fits (S.length+R.length)=true:=JP (by omega);unfold HE;simp only[a1,h.hl,Af,w,if_true];rw[AU]
 have a2:=Iq s1<|.lst<|(S++R).map tD;have L:=fL a2 (by rw[AD];omega);generalize f:s1++[O.lst ((S++R).map tD)]=s2 at *;have g2:Gr s1 s2:=f ▸ Gr.app _ _;have c:=LA<|Iq s2<|.lst<|(Hs<|S++R).map tD;refine⟨s2++[.lst ((Hs<|S++R).map tD)],IJ ?_,(g1.trans g2).trans<|Gr.app _ _⟩;unfold fW;rw[OY (Hs<|S++R)];generalize (Hs<|S++R).map tD=B at *;generalize HL S=SS at *;simp[f1,a,n,f2,p,L,c]
def NP(e:Int)(stk:List (Str×Int))(ks:List (List Str))(w h:Int)(S:List Tl)(M:Nat):D:=.tup [.tup ((Hr e stk ks w h S M).map tD),HL (Hs<|S++Hr e stk ks w h S M)]
def zh9{st:Hf}(c:Ctx (Hu e stk ks w h S) e stk ks w h)(i:∀t∈S,IA w h ks.length t)(a:Hy S)(l:S.length<=60):
  ∃(M:Nat) (d:Hf),Y3 (WB C [Hu e stk ks w h S] st=some (NP e stk ks w h S M,d)) (Gr st d) (JY e stk ks w h (S++Hr e stk ks w h S M)=none):=by
 obtain⟨s5,kd,ld,rd,F,Y,s1,n,p,q,g,E⟩:=qK (C:=C) (st:=st) c i a l;have L:=TL c.fo;obtain⟨M,G,H,s2,P,m,r⟩:=dR (S:=S) c p i a 1000 0 (F:=F) (Y:=Y) (s:=s1) (by simpa[Hr]using q) (by simpa[Hr]using g) (λj I=>by omega) (by omega) (by omega);have u:=T4 (e:=e) (stk:=stk) (ks:=ks) c.fo i M;have v:=SY c.fo (Ta (e:=e) (stk:=stk) (ks:=ks) c.fo a M) u;have x:∀s:Hf,Hg (Hu e stk ks w h S) (.int 2) s=some (HL S,s):=λs=>Io (by decide) rfl;obtain⟨s3,y,g3⟩:=iL m x (by omega);have z:=lW m;have A:=VO (C:=C) (o:=st.length) (f:="row") (g:=Ua C) (mm:=mZ) (b:=some (Hu e stk ks w h S)) (U:=[]) rfl m.ob;have B:=VO (C:=C) (o:=st.length) (f:="standing") (g:=Ux C) (mm:=mZ) (b:=some (Hu e stk ks w h S)) (U:=[]) rfl m.ob;refine⟨M,s3,IJ ?_,m.fr.trans g3,r⟩;unfold eN NP;generalize Hu e stk ks w h S=bed at *;generalize (Hr e stk ks w h S M).map tD=J at *;generalize HL (Hs<|S++Hr e stk ks w h S M)=SS at *;refine Hw (U1:=[some bed,some (.ref st.length)]) (s1:=s1) ?_<|Hw P ?_
 ·have em:Qy C (Uw C) (Hc (mV 0) mZ) [some bed,none] st=some (.ref st.length,s1):=by
   unfold Qy;simp[n]
  show Hq _ _ [some bed,none] st=_;simp[em]
 simp[A,z,B,y]
end
end L2.MP.T0
namespace L2.MP.T0
open PySem L2.MP L2.MP.Hd
open L2.MP.Hn (HL Mu Hs JX Qi)
variable {bed:D}{d l:Nat}{e w h:Int}{stk:List (Str×Int)}{ks:List (List Str)}{S P:List Tl}{st0 s:Hf}
structure EI(d l:Nat)(P R:List Tl)(st0 s:Hf):Prop where
 at_:s[d]?=some (.dt (P.map Hj))
 row:s[l]?=some (.lst (R.map tD))
 fr:Gr st0 s
def EI.gr{R:List Tl}{s':Hf}(q:EI d l P R st0 s)(g:Gr s s'):EI d l P R st0 s':=⟨(g.old _<|qax q.at_).trans q.at_,(g.old _<|qax q.row).trans q.row,q.fr.trans g⟩
def yU(hf:JB w h){n:Nat}(a:∀m,m<n->JY e stk ks w h (S++Hr e stk ks w h S m)≠none)(hn:w.toNat*h.toNat<=n):JY e stk ks w h (S++Hr e stk ks w h S n)=none:=by
 have l:=TQ (e:=e) (stk:=stk) (ks:=ks) (S:=S) hf n a;cases d:JY e stk ks w h (S++Hr e stk ks w h S n) with
 |none=>rfl
 |some t=>
  have hm:=Tg hf d;have:=Wh (ZH hf hm) hm.2.1;omega
section
variable {S' Q:List Tl}
def bD(A B:List Tl)(x y:Int):HS (A++B) x y=(HS A x y).or (HS B x y):=by unfold HS;rw[DZ];cases List.find? (λt:Tl=>decide (t.1=x)&&decide (t.2.1=y)) A<;>rfl
def xY(h':HS P=HS Q):JY e stk ks w h P=JY e stk ks w h Q:=by
 have d:JZ ks P=JZ ks Q:=by funext p j;unfold JZ;rw[h']
 have l:names4 ks P=names4 ks Q:=by funext x y;unfold names4;rw[d]
 have s:Iv P=Iv Q:=by funext x y j;unfold Iv;rw[h']
 have S:Lm P=Lm Q:=by funext x y;unfold Lm;rw[h',s]
 have s1:Kj stk ks P=Kj stk ks Q:=by funext x y k;unfold Kj;rw[l]
 have g1:gK e stk ks P=gK e stk ks Q:=by funext x y n;unfold gK;rw[s1]
 have b:eC P=eC Q:=by funext x m;unfold eC;rw[S]
 have f1:eF P=eF Q:=by funext a n;unfold eF;rw[b]
 unfold JY Ik;rw[g1,f1]
theorem WA(h':HS S=HS S'):∀n,Hr e stk ks w h S n=Hr e stk ks w h S' n
 |0=>rfl
 |n+1=>by have a:=WA h' n;have d:JY e stk ks w h (S++Hr e stk ks w h S n)=JY e stk ks w h (S'++Hr e stk ks w h S' n):=xY (by funext x y;rw[bD,bD,h',a]);rw[Hr,Hr,d,a]
def Q7(hp:P.Perm Q)(a:Hy Q):HS P=HS Q:=by
 funext x y
 refine Option.ext λk=>⟨λz=>?_,λz=>?_⟩
 ·exact Np (t:=(x,y,k)) a<|hp.mem_iff.mp<|M3 z
 exact Np (t:=(x,y,k)) (PY hp a)<|hp.mem_iff.mpr<|M3 z
def tF(hf:JB w h):JY e stk ks w h (S++Hr e stk ks w h S (w.toNat*h.toNat))=none:=by
 by_cases hh:∀m,m<w.toNat*h.toNat->JY e stk ks w h (S++Hr e stk ks w h S m)≠none
 ·exact yU hf hh<|Ah _
 obtain⟨m,hm⟩:=Classical.not_forall.mp hh;obtain⟨hm,d⟩:=Classical.not_imp.mp hm;have d:=Classical.not_not.mp d;have:=TR d<|w.toNat*h.toNat-m;rw[show m+(w.toNat*h.toNat-m)=w.toNat*h.toNat by omega]at this;rw[this];exact d
end
variable {off:D}{a5 a6 a7:Option D}{ds:List D}
section
variable {TT:D}{q:Nat}
def pI{a b:Option Int}(h:s[l]?=some (.lst ds)):Lk (.ref l) a b s=some (.ref s.length,s++[.lst (cutD ds a b)]):=by
 have:XJ (.ref l) a b s=some (.ref s.length,s++[.lst (cutD ds a b)]):=by show(HZ s l).map _=_;simp only[HZ,h,AZ]
 unfold Lk XM;rw[this,Kg,Kg]
def oT(ds:List D):cutD ds none (some 1)=ds.take 1:=by cases ds<;>rfl
def zla{s1:Hf}(c:s1[q]?=some (.lst ds)):Js (IZ (mV 6) Kz<|KA<|mK<|.int 1) [some bed,some TT,some (.ref d),some off,some (.ref l),a5,some (.ref q),a7] s1=some (⟨ds.take 1,[(s1.length,ds.take 1)]⟩,s1++[.lst (ds.take 1)]):=by have e:=pI (a:=none) (b:=some 1) c;rw[oT]at e;have a:=Iq s1<|.lst<|ds.take 1;simp[e,Lv,HZ,a]
def qT{x y k:Int}{L:List D}{s2 s3:Hf}(a:dput s d (.tup [.int x,.int y]) (.int k)=some s2)(b:s2[l]?=some (.lst L))(ap:K4 (.ref l) [.tup [.int x,.int y,.int k]] s2=some (.non,s3)):
  Rt [some bed,some TT,some (.ref d),some off,some (.ref l),a5,a6,some (.tup [.int x,.int y,.int k])] s=some (.nx [some bed,some TT,some (.ref d),some off,some (.ref l),a5,a6,some (.tup [.int x,.int y,.int k])],s3):=by
 have e:Lk (.tup [.int x,.int y,.int k]) none (some 2) s=some (.tup [.int x,.int y],s):=rfl;have h:Hg (.tup [.int x,.int y,.int k]) (.int 2) s=some (.int k,s):=Io (by decide) rfl;unfold Rt;refine Hw (U1:=[some bed,some TT,some (.ref d),some off,some (.ref l),a5,a6,some (.tup [.int x,.int y,.int k])]) (s1:=s2) ?_ (by simp[HZ,b,ap]);rw[MV];have q:Hq (mB Hg (mV 7)<|mK<|.int 2) (LH Il (mV 2)<|IZ (mV 7) Kz<|KA<|mK<|.int 2) [some bed,some TT,some (.ref d),some off,some (.ref l),a5,a6,some (.tup [.int x,.int y,.int k])] s=none:=by simp[e,h,Il]
 rw[q,Kh];unfold LK;simp[e,h,a]
end
section
variable {TT:D}{m:Nat}
def tV(c:Ctx bed e stk ks w h)(b:st0.length<=d/\d<l)(A:∀t∈S,IA w h ks.length t)(f:Hy S)(q:EI d l (S++Hr e stk ks w h S m) (Hr e stk ks w h S m) st0 s):
  ∃(B C:Option D) (s':Hf),Xk [some bed,some TT,some (.ref d),some off,some (.ref l),a5,a6,a7] s=some (.nx [some bed,some TT,some (.ref d),some off,some (.ref l),a5,B,C],s')/\EI d l (S++Hr e stk ks w h S (m+1)) (Hr e stk ks w h S<|m+1) st0 s':=by
 have o:=T4 (e:=e) (stk:=stk) (ks:=ks) c.fo A m;have E:=Ta (e:=e) (stk:=stk) (ks:=ks) c.fo f m;have g:=SY c.fo E o;obtain⟨s1,F,a1,g1⟩:=Zq c (Zy o) q.at_;have P:JY e stk ks w h (S++Hr e stk ks w h S m)=(Ik e stk ks (S++Hr e stk ks w h S m)<|eF (S++Hr e stk ks w h S m) h w.toNat).head?:=rfl;generalize Ik e stk ks (S++Hr e stk ks w h S m) (eF (S++Hr e stk ks w h S m) h w.toNat)=M at a1 P;have p:=q.gr g1;have r:=zla (bed:=bed) (TT:=TT) (off:=off) (d:=d) (l:=l) (a5:=a5) (a7:=a7) a1;have u:Hq (Ho O3<|Hc (mV 0)<|Hc (mV 2)<|mZ) (Hl 6) [some bed,some TT,some (.ref d),some off,some (.ref l),a5,a6,a7] s=some (.nx [some bed,some TT,some (.ref d),some off,some (.ref l),a5,some (.ref s.length),a7],s1):=by simp[F]
 have at2:=Iq s1<|.lst<|(M.map tD).take 1;have a:=p.gr<|Gr.app s1 [.lst ((M.map tD).take 1)];have Q:l<s1.length:=qax p.row;generalize G:s1++[O.lst ((M.map tD).take 1)]=s2 at *
 cases M with
 |nil=>
  have H:Hr e stk ks w h S (m+1)=Hr e stk ks w h S m:=by rw[Hr,P];rfl
  refine⟨some<|.ref s.length,a7,s2,Hw u ?_,by rw[H];exact a⟩;rw[Ki,r];have at2:s2[s1.length]?=some (.lst []):=at2;show KU ⟨[],[(s1.length,[])]⟩ (Hl 7) Rt [] _ s2=_;unfold KU;rw[if_pos (Oq at2)]
 |cons t L=>
  have P:JY e stk ks w h (S++Hr e stk ks w h S m)=some t:=P;have hm:=Tg c.fo P;have v:=V6 P;obtain⟨x,y,k⟩:=t;have z:=Nn (x:=x) (y:=y) (k:=k) a.at_ (by omega);rw[OW hm.2.1,Am,<-v]at z;have i:=qax a.at_;have j:(s2.set d<|.dt<|(S++Hr e stk ks w h S (m+1)).map Hj)[l]?=some (.lst<|(Hr e stk ks w h S m).map tD):=by rw[Ag (by omega)];exact a.row
  have I:(s2.set d<|.dt<|(S++Hr e stk ks w h S (m+1)).map Hj)[s1.length]?=some (.lst<|[(x,y,k)].map tD):=by rw[Ag (by omega)];exact at2
  have J:(s2.set d<|.dt<|(S++Hr e stk ks w h S (m+1)).map Hj)[d]?=some (.dt<|(S++Hr e stk ks w h S (m+1)).map Hj):=by rw[Aq i]
  have n:Gr st0 (s2.set d<|.dt<|(S++Hr e stk ks w h S (m+1)).map Hj):=Li a.fr b.1;generalize s2.set d (.dt<|(S++Hr e stk ks w h S (m+1)).map Hj)=s3 at *;have K:=VS (e:=e) (stk:=stk) (ks:=ks) (w:=w) (h:=h) (S:=S) m;rw[AD]at g;have ap:=append_at (x:=tD (x,y,k)) j (by rw[Af];omega);have N:=qT (bed:=bed) (TT:=TT) (off:=off) (a5:=a5) (a6:=some (.ref s.length)) z j ap;refine⟨some<|.ref s.length,some<|tD (x,y,k),s3.set l<|.lst<|(Hr e stk ks w h S m).map tD++[tD (x,y,k)],Hw u ?_,?_,?_,Li n<|by omega⟩
  ·rw[Ki,r];have at2:s2[s1.length]?=some (.lst [tD (x,y,k)]):=at2;show KU ⟨[tD (x,y,k)],[(s1.length,[tD (x,y,k)])]⟩ (Hl 7) Rt [tD (x,y,k)] _ s2=_;rw[qS (Oq at2) (U1:=[some bed,some TT,some (.ref d),some off,some (.ref l),a5,some (.ref s.length),some (tD (x,y,k))]) rfl N];unfold KU;rw[if_pos (Oq (by rw[Ag (by omega)];exact I))];rfl
  ·rw[Ag (by omega)];exact J
  rw[Aq (qax j),v,AU];rfl
end
end L2.MP.T0
namespace L2.MP.T0
open PySem L2.MP L2.MP.Hd
open L2.MP.Hn (HL Mu Hs JX O2 Qi)
variable {e w h:Int}{stk:List (Str×Int)}{ks:List (List Str)}{sd:List Tl}
def Zc(a:NV e stk ks)(hf:JB w h):Ctx (Hu e stk ks w h sd) e stk ks w h:=⟨⟨LM e stk ks,λs=>Io (by decide) rfl,λs=>Io (by decide) rfl,λs=>Io (by decide) rfl,λs=>Io (by decide) rfl⟩,λs=>Io (by decide) rfl,a,hf⟩
def Wv{a:Int}{l:List Tl}(h':∀t∈l,IA w h a t):∀t∈Hs l,IA w h a t:=λt e=>h' t<|(JX l).mem_iff.mp e
def WE{sd R:List Tl}(a:∀t∈sd,IA w h ks.length t)(b:K2 e stk ks w h sd R):∀t∈sd++R,IA w h ks.length t:=λt ht=>by
 rcases Os.mp ht with ht|ht
 ·exact a t ht
 exact P9 b t ht
def Ir(S:List Tl)(t:Tl):Bool:=!decide (HS S t.1 t.2.1=some t.2.2)
def K7(e:Int)(stk:List (Str×Int))(ks:List (List Str))(w h:Int)(T S:List Tl):D:=.tup [.tup ((T.filter<|Ir S).map tD),.tup ((Hr e stk ks w h S<|w.toNat*h.toNat).map tD)]
def ne_int(a b:Int)(st:Hf):JO (.int a) (.int b) st=some (.bl (!decide (a=b)),st):=by unfold JO;rw[ID,ID];simp[B0];rfl
variable {t:Tl}{s:Hf}
def qA{d:Nat}{S:List Tl}(hd:s[d]?=some (.dt<|S.map Hj)):Uq [some (tD t),some (.ref d)] s=some (Ir S t,s):=by
 obtain⟨x,y,k⟩:=t;have w:Lk (.tup [.int x,.int y,.int k]) none (some 2) s=some (.tup [.int x,.int y],s):=rfl;have h:Hg (.tup [.int x,.int y,.int k]) (.int 2) s=some (.int k,s):=Io (by decide) rfl;have e:Nd (mV 1) (IZ (mV 0) Kz<|KA<|mK<|.int 2) [some (.tup [.int x,.int y,.int k]),some (.ref d)] s=some ((HQ (S.map Hj) [.inl x,.inl y]).getD .non,s):=Zu rfl hd (by simp[w]) hd;rw[Lz]at e;unfold Uq Ir;show mT _ [some (.tup [.int x,.int y,.int k]),some (.ref d)] s=_;dsimp only;have b:=λa=>ne_int a k s;have nn:JO .non (.int k) s=some (.bl true,s):=rfl
 cases hf:HS S x y with
 |none=>
  rw[hf]at e;simp[e,h,nn]
 |some a=>
  rw[hf]at e;simp[e,h,b]
variable {T:List Tl}
def Z7{mt:MT}{mc:ME}{U:Ii}{fr:List Nat}{v:Option D}{p:Tl->Bool}(b:IU U 1 fr=[none,v])(hw:U[1]?=some (some<|HL T))(c:∀t,mt [some (tD t),v] s=some (p t,s))(d:∀t,mc [some (tD t),v] s=some (tD t,s))(f:T.length<=1000):
  Jm (Js<|mV 1) 1 fr (Hl 0) mt mc U s=some (.ref s.length,s++[.lst ((T.filter p).map tD)]):=by
 have e:Js (mV 1) U s=some (⟨T.map tD,[]⟩,s):=by rw[OY]at hw;simp[hw,Lv]
 have h:Jt ⟨T.map tD,[]⟩ (Hl 0) mt mc (T.map tD) [none,v] s=some ((T.filter p).map tD,s):=
  TZ (R:=λr=>∃u,r=[u,v]) ⟨none,rfl⟩ rfl λa _ r w=>by obtain⟨u,rfl⟩:=w;exact⟨[some (tD a),v],rfl,c a,λ_=>d a,_,rfl⟩
 have fl:fits ((T.filter p).map tD).length=true:=JP (by rw[Af];have:=AN p T;omega);rw[JN,e];simp only[Ae];rw[b,h];simp only[Ae,fl,if_true]
variable {C:Addr}{P:List Tl}{bed:D}{a0 a1 a2 a5:Option D}{s1 s2:Hf}
section
variable {st:Hf}
def kH(c:Ctx (Hu e stk ks w h sd) e stk ks w h)(x:∀t∈T,IA w h ks.length t)(a:∀t∈sd,IA w h ks.length t)(b:Hy sd)(l:sd.length<=6)(n:T.length<=50):
  ∃(R:List Tl) (f:Hf),Y3 (T8 [Hu e stk ks w h sd,HL T] st=some (K7 e stk ks w h T (sd++R),f)) (Gr st f) (Cl e stk ks w h sd T R):=by
 obtain⟨d,R,s1,y,hd,g1,cl,hR,o⟩:=zh2 (st:=st) c x a b l n;have z:=Mm b cl.row;have A:=WE a cl.row;have dl:=qax hd;have B:=Z7 (mt:=Uq) (mc:=fH) (U:=[some (Hu e stk ks w h sd),some (HL T),some (.ref d),none,none,none,none,none]) (fr:=[2]) (T:=T) (p:=Ir (sd++R)) (s:=s1) rfl rfl (λt=>qA hd) (λt=>rfl) (by omega);have at2:=Iq s1<|.lst<|(T.filter<|Ir<|sd++R).map tD;have E:=LA at2;have g2:=Gr.app s1 [.lst ((T.filter<|Ir<|sd++R).map tD)];have hd2:=(g2.old _ dl).trans hd;generalize F:s1++[O.lst ((T.filter<|Ir<|sd++R).map tD)]=s2 at *;have q:EI d s2.length (sd++R++Hr e stk ks w h (sd++R) 0) (Hr e stk ks w h (sd++R) 0) st (s2++[.lst []]):=by refine⟨?_,Iq s2 _,(g1.trans g2).trans<|Gr.app _ _⟩;rw[Aj (qax hd2),Hr,Ao];exact hd2
 have j:=qax hd2;have f1:=c.fo.w0;have f2:=c.fo.w1;have f3:=c.fo.h0;have G:=TL c.fo;have H:=c.fl;have I:∀st:Hf,Hg (.tup [.int w,.int h]) (.int 0) st=some (.int w,st):=λ_=>Io (by decide) rfl;have J:∀st:Hf,Hg (.tup [.int w,.int h]) (.int 1) st=some (.int h,st):=λ_=>Io (by decide) rfl;have em:∀st:Hf,HX (.int w) (.int h) st=some (.int (w*h),st):=λ_=>mul_int (by omega);have key:=Ku (W:=⟨run 0<|w.toNat*h.toNat,[]⟩) (g:=Hl 5) (m:=Xk) (ds:=run 0 (w.toNat*h.toNat)) (U:=[some (Hu e stk ks w h sd),some (HL T),some (.ref d),some (.tup<|(T.filter<|Ir<|sd++R).map tD),some (.ref s2.length),none,none,none]) (st:=s2++[.lst []])
  (Inv:=λi U s=>(∃a5 C P,U=[some (Hu e stk ks w h sd),some (HL T),some (.ref d),some (.tup<|(T.filter<|Ir<|sd++R).map tD),some (.ref s2.length),a5,C,P])/\EI d s2.length (sd++R++Hr e stk ks w h (sd++R) i) (Hr e stk ks w h (sd++R) i) st s)
  ⟨⟨_,_,_,rfl⟩,q⟩ (λ_ _ _ _ _=>rfl) (λi K U s L N=>by obtain⟨⟨a5,C,P,rfl⟩,Q⟩:=N;obtain⟨b6,b7,S,X,Y⟩:=tV (TT:=HL T) (off:=.tup ((T.filter<|Ir<|sd++R).map tD)) (a5:=some K) (a6:=C) (a7:=P) c ⟨o,j⟩ A z Q;exact⟨_,s,_,S,rfl,X,⟨_,_,_,rfl⟩,Y⟩)
 obtain⟨U',s3,Z,⟨a5,C,P,rfl⟩,r⟩:=key;rw[Ld]at r;have u:=LA r.row;have er:Jc (mB HX (mB Hg (mB Hg (mV 0)<|mK<|.int 1)<|mK<|.int 0)<|mB Hg (mB Hg (mV 0)<|mK<|.int 1)<|mK<|.int 1) [some (Hu e stk ks w h sd),some (HL T),some (.ref d),some (.tup<|(T.filter<|Ir<|sd++R).map tD),some (.ref s2.length),none,none,none] (s2++[O.lst []])=some (⟨run 0<|w.toNat*h.toNat,[]⟩,s2++[O.lst []]):=by
  refine QL (s1:=s2++[O.lst []]) (k:=w.toNat*h.toNat) (M:=w*h) ?_ ?_<|by omega
  ·rw[Gp,Bz (by omega),Bz (by omega)]
  generalize Hu e stk ks w h sd=bed at *;generalize HL T=TT at *;simp[H,I,J,em]
 refine⟨R,s3,IJ ?_,r.fr,cl⟩;unfold eO K7;generalize (Hr e stk ks w h (sd++R)<|w.toNat*h.toNat).map tD=RR at *;generalize (T.filter<|Ir<|sd++R).map tD=v at *;generalize Hu e stk ks w h sd=bed at *;generalize HL T=TT at *;refine Hw (U1:=[some bed,some TT,some (.ref d),none,none,none,none,none]) (s1:=s1) (by simp[y]) ?_;refine Hw (U1:=[some bed,some TT,some (.ref d),some (.tup v),none,none,none,none]) (s1:=s2) (by simp[B,E]) ?_;refine Hw (U1:=[some bed,some TT,some (.ref d),some (.tup v),some (.ref s2.length),none,none,none]) (s1:=s2++[O.lst []]) (by simp) ?_;refine Hw (U1:=[some bed,some TT,some (.ref d),some (.tup v),some (.ref s2.length),a5,C,P]) (s1:=s3) (by rw[Ki,er];exact Z) ?_;simp[u]
def xX:KZ (tD t) (.tup<|P.map tD) s=some (.bl (!decide (t∈P)),s):=by
 have w:∀a b:Tl,B0 (tP a) (tP b)=decide (a=b):=λa b=>by obtain⟨a1,a2,c⟩:=a;obtain⟨b1,d,f⟩:=b;simp[tP,B0,PyData.eqvAll];rfl
 have T:∀n (a:Tl),ID (n+2) s (tD a)=some (tP a):=λn a=>by
  have:=Uh (n:=n) (st:=s) [a];simp only[As,Cd,Jr]at this;cases C:ID (n+2) s (tD a) with
  |none=>rw[C]at this;cases this
  |some z=>rw[C]at this;simpa using this
 have e:ID 50 s (.tup<|P.map tD)=some (.tuple<|P.map tP):=by rw[ID,Uh (n:=47) P];rfl
 have any:∀Q:List Tl,(Q.map tP).any (λy=>B0 y (tP t))=decide (t∈Q)
  |[]=>rfl
  |a::Q=>by
   have h:(Q.map tP).any (λy=>B0 y (tP t))=decide (t∈Q):=by
    induction Q with
    |nil=>rfl
    |cons b Q h=>
     rw[As,BI,w,h];by_cases hb:b=t
     ·subst hb;simp
     simp[hb,Bt hb]
   rw[As,BI,w,h];by_cases hb:a=t
   ·subst hb;simp
   simp[hb,Bt hb]
 unfold KZ SF JT inD;rw[T 48 t,e];simp only[Ae,RT,AZ,any,Kg];rfl
def mP(a:Hy P):(!decide (t∈P))=Ir P t:=by
 unfold Ir
 congr 1
 rw[decide_eq_decide];exact⟨Np a,M3⟩
def sY(a:P.length<64):W2 [Hu e stk ks w h sd,HL P] st=some (Hu e stk ks w h (Hs P),st++[.lst ((Hs P).map tD)]):=by have C:∀s:Hf,Hg (Hu e stk ks w h sd) (.int 0) s=some (LM e stk ks,s):=λs=>Io (by decide) rfl;have T:∀s:Hf,Hg (Hu e stk ks w h sd) (.int 1) s=some (.tup [.int w,.int h],s):=λs=>Io (by decide) rfl;have b:=eL (ts:=P) (st:=st) a;have c:=LA<|Iq st<|.lst<|(Hs P).map tD;refine IJ ?_;unfold eR;rw[show Hu e stk ks w h (Hs P)=.tup [LM e stk ks,.tup [.int w,.int h],.tup ((Hs P).map tD)] from rfl,OY P];generalize Hu e stk ks w h sd=bed at *;generalize LM e stk ks=d at *;generalize (Hs P).map tD=B at *;generalize P.map tD=A at *;simp[C,T,b,c]
def dA(c:Ctx (Hu e stk ks w h sd) e stk ks w h)(o:∀t∈T,IA w h ks.length t)(b:∀t∈sd,IA w h ks.length t)(g:Hy T)(d:Hy sd)(i:sd.length<=6)(j:T.length<=50):
  ∃(R:List Tl) (f:Hf),Y3 (PZ C [Hu e stk ks w h sd,HL T] st=some (K7 e stk ks w h T (sd++R),f)) (Gr st f) (Cl e stk ks w h sd T R):=by
 obtain⟨R,s1,q,g1,cl,I⟩:=xJ (st:=st) c o b g d i j;have l:=Mm d cl.row;have r:=WE b cl.row;have pl:(Hs<|sd++R).length<=56:=by rw[(JX _).length_eq,AD];omega
 have a:=PY (JX<|sd++R) l;have m:=PY (JX<|Hs<|sd++R) a;have u:HS (Hs<|Hs<|sd++R)=HS (sd++R):=(Q7 (JX _) a).trans<|Q7 (JX _) l;have v:Ir (Hs<|sd++R)=Ir (sd++R):=by
  funext t
  unfold Ir;rw[Q7 (JX<|sd++R) l]
 have x:=Z7 (mt:=WO C) (mc:=dO C) (U:=[some (Hu e stk ks w h sd),some (HL T),some (HL<|Hs<|sd++R),none]) (fr:=[2]) (T:=T) (p:=Ir (sd++R)) (s:=s1) rfl rfl (λt=>by have:=xX (t:=t) (P:=Hs (sd++R)) (s:=s1);rw[mP a,v,<-OY]at this;unfold WO;simp[this]) (λt=>rfl) (by omega)
 have at2:=Iq s1<|.lst<|(T.filter<|Ir<|sd++R).map tD;have y:=LA at2;have g2:=Gr.app s1 [.lst ((T.filter<|Ir<|sd++R).map tD)];generalize s1++[O.lst ((T.filter<|Ir<|sd++R).map tD)]=s2 at *;have z:=sY (e:=e) (stk:=stk) (ks:=ks) (w:=w) (h:=h) (sd:=sd) (st:=s2) (P:=Hs (sd++R)) (by omega);have g3:=Gr.app s2 [.lst ((Hs<|Hs<|sd++R).map tD)];generalize s2++[O.lst ((Hs<|Hs<|sd++R).map tD)]=s3 at *;have A:Ctx (Hu e stk ks w h<|Hs<|Hs<|sd++R) e stk ks w h:=Zc c.hs c.fo;obtain⟨M,s4,B,E,F⟩:=zh9 (C:=C) (st:=s3) A (Wv<|Wv r) m (by rw[(JX _).length_eq];omega);have sq:Hr e stk ks w h (Hs<|Hs<|sd++R) M=Hr e stk ks w h (sd++R) (w.toNat*h.toNat):=(rF F<|tF c.fo).trans<|WA u _;have G:∀s:Hf,Hg (NP e stk ks w h (Hs<|Hs<|sd++R) M) (.int 0) s=some (.tup ((Hr e stk ks w h (sd++R)<|w.toNat*h.toNat).map tD),s):=λs=>by rw[<-sq];exact Io (by decide) rfl
 refine⟨R,s4,IJ ?_,((g1.trans g2).trans g3).trans E,cl⟩;unfold aJ K7;generalize (Hr e stk ks w h (sd++R)<|w.toNat*h.toNat).map tD=J at *;generalize (T.filter<|Ir<|sd++R).map tD=H at *;generalize NP e stk ks w h (Hs<|Hs<|sd++R) M=K at *;generalize Hu e stk ks w h (Hs<|Hs<|sd++R)=n at *;generalize Hu e stk ks w h sd=bed at *;generalize HL (Hs<|sd++R)=PP at *;generalize HL T=TT at *;refine Hw (U1:=[some bed,some TT,some PP,none]) (s1:=s1) (by simp[q]) ?_;refine Hw (U1:=[some bed,some TT,some PP,some (.tup H)]) (s1:=s2) (by simp[x,y]) ?_;simp[z,B,G]
def cO{R b:List Tl}(c:Ctx (Hu e stk ks w h sd) e stk ks w h)(d:Hy T)(a:Hy sd)(f:Cl e stk ks w h sd T R)(g:Cl e stk ks w h sd T b):K7 e stk ks w h T (sd++R)=K7 e stk ks w h T (sd++b):=by
 have hf:HS (sd++R)=HS (sd++b):=by rw[<-Q7 (JX<|sd++R) (Mm a f.row),<-Q7 (JX<|sd++b) (Mm a g.row),oR c d a f g]
 have s:Ir (sd++R)=Ir (sd++b):=by
  funext t
  unfold Ir;rw[hf]
 unfold K7;rw[s,WA hf]
def tU{R:List Tl}(c:Ctx (Hu e stk ks w h sd) e stk ks w h)(f:∀t∈T,IA w h ks.length t)(a:∀t∈sd,IA w h ks.length t)(b:Hy sd)(g:T.length<=50)(cl:Cl e stk ks w h sd T R):∃z:Str,∀st:Hf,Nh [K7 e stk ks w h T (sd++R)] st=some (.str z,st):=by
 have f2:=c.fo.w1;have f4:=c.fo.h1;have i:=c.hs.hi;have j:=WE a cl.row;have s:=T4 (e:=e) (stk:=stk) (ks:=ks) c.fo j<|w.toNat*h.toNat;have C:=SY c.fo (Ta (e:=e) (stk:=stk) (ks:=ks) c.fo (Mm b cl.row)<|w.toNat*h.toNat) s;have t1:=eA (ts:=T.filter (Ir<|sd++R)) (λt P=>f t (List.mem_filter.mp P).1) (by have:=AN (Ir<|sd++R) T;omega) (by omega) (by omega) (by omega);have l:=eA (ts:=Hr e stk ks w h (sd++R) (w.toNat*h.toNat)) (λt P=>s t (AJ _ P)) (by rw[AD]at C;omega) (by omega) (by omega) (by omega);refine sO (V9 (w:=1680) (k:=3) (L:=2) (λd hd=>?_)<|Ah 2) (by decide) (by decide);simp only[A3,A4,or_false]at hd
 rcases hd with rfl|rfl
 ·exact t1
 exact l
def qP{TT E:D}{z:Str}{s3:Hf}(b:T8 [bed,TT] s=some (E,s1))(c:PZ C [bed,TT] s1=some (E,s2))(d:PZ C [bed,TT] s2=some (E,s3))(a:∀st:Hf,Nh [E] st=some (.str z,st)):
  QX C [a0,a1,a2,some bed,some TT,a5] s=some (.nx [a0,a1,a2,some bed,some TT,some (.str z)],s3):=by
 have ns:∀st:Hf,Pf (.str z) (.str z) st=some (.bl false,st):=λ_=>pT;unfold QX;refine Hw (U1:=[a0,a1,a2,some bed,some TT,some (.str z)]) (s1:=s1) (by simp[b,a]) ?_;simp[c,d,a,ns]
def mQ(c:Ctx (Hu e stk ks w h sd) e stk ks w h)(b:∀t∈sd,IA w h ks.length t)(a:Hy sd)(f:sd.length<=6)(g:∀t∈T,IA w h ks.length t)(d:Hy T)(m:T.length<=24):
  ∃(n:Option D) (s':Hf),QX C [a0,a1,a2,some (Hu e stk ks w h sd),some (HL T),a5] s=some (.nx [a0,a1,a2,some (Hu e stk ks w h sd),some (HL T),n],s')/\Gr s s':=by
 obtain⟨R,s1,o,g1,cl⟩:=kH (st:=s) c g b a f (by omega);obtain⟨z,p⟩:=tU c g b a (by omega) cl;obtain⟨R2,s2,j,g2,P⟩:=dA (C:=C) (st:=s1) c g b d a f (by omega);rw[cO c d a P cl]at j;obtain⟨q,s3,l,g3,i⟩:=dA (C:=C) (st:=s2) c g b d a f (by omega);rw[cO c d a i cl]at l;exact⟨_,s3,qP o j l p,(g1.trans g2).trans g3⟩
end
variable {a4:Option D}
def uI{c fl a b:D}{n:Nat}(d:Rq [.ref n,bed] s=some (a,s1))(f:Hg bed (.int 0) s1=some (c,s1))(g:Hg bed (.int 1) s1=some (fl,s1))(i:Ot [.ref n,c,fl,.int 9] s1=some (b,s2)):
  Js (mL<|Hc (Ho Rq<|Hc (mV 2)<|Hc (mV 3)<|mZ)<|Hc (Ho Ot<|Hc (mV 2)<|Hc (mB Hg (mV 3)<|mK<|.int 0)<|Hc (mB Hg (mV 3)<|mK<|.int 1)<|Hc (mK<|.int 9)<|mZ)<|mZ) [a0,a1,some (.ref n),some bed,a4,a5] s=some (⟨[a,b],[(s2.length,[a,b])]⟩,s2++[.lst [a,b]]):=by
 have e:=Iq s2<|.lst [a,b];simp[d,f,g,i,Lv,HZ,e]
def vG{ns:List Int}{k:Int}{a3:Option D}(h0:0<=k)(N:k<=1000):
  ∃(Q S f d:Option D) (s':Hf),Tw C [some (.kl<|ns.map D.int),some (.int k),a2,a3,a4,a5] s=some (.nx [some (.kl<|ns.map D.int),some (.int k),Q,S,f,d],s'):=by
 obtain⟨s1,X,Y,g1⟩:=uN (ns:=ns) (k:=k) (st:=s) h0 N;generalize hn:s.length=n at *;obtain⟨e,stk,ks,w,h,sd,s2,Z,y,hf,o,⟨l,z,A⟩,p,p2,f2⟩:=oI Y (by omega);have K:Hy sd:=by rw[z];exact PY (JX l) A
 have c:Ctx (Hu e stk ks w h sd) e stk ks w h:=Zc y hf;have w0:=hf.w0;have w1:=hf.w1;have w2:=hf.h1;have w3:=hf.h0;have k2:=y.hi;have k1:=y.lo;obtain⟨P,s3,e3,B,Kk,lP,p3,f3⟩:=zlT c p2 (by omega) o K p (by omega);obtain⟨j,s4,e4,r,⟨l',E,u⟩,lt,p4,f4⟩:=fQ (most:=9) (a:=.int e) (b:=.tup (stk.map J6)) (ks:=ks.map IH) (w:=w) (h:=h) p3 (by omega) (by omega) (by omega) (by omega) (by rw[Af];omega) (by rw[Af];omega) (by omega) (by omega) (by omega);rw[Af]at r;have F:Hy j:=by rw[E];exact PY (JX l') u
 have i0:∀s:Hf,Hg (Hu e stk ks w h sd) (.int 0) s=some (LM e stk ks,s):=λs=>Io (by decide) rfl;have i1:∀s:Hf,Hg (Hu e stk ks w h sd) (.int 1) s=some (.tup [.int w,.int h],s):=λs=>Io (by decide) rfl;have hw:=uI (a0:=some (.kl<|ns.map D.int)) (a1:=some (.int k)) (a4:=a4) (a5:=a5) e3 (i0 _) (i1 _) e4;have G:[HL (Hs P),HL j]=[Hs P,j].map HL:=rfl;rw[G]at hw;have L:=Iq s4<|.lst<|[Hs P,j].map HL;have all:∀T∈[Hs P,j],(∀t∈T,IA w h ks.length t)/\Hy T/\T.length<=24:=λT x=>by
  simp only[A3,A4,or_false]at x;rcases x with rfl|rfl
  ·exact⟨Wv Kk,PY (JX P) B,by rw[(JX P).length_eq];exact lP⟩
  exact⟨r,F,by omega⟩
 generalize [Hs P,j]=Ts at *;generalize hs5:s4++[O.lst (Ts.map HL)]=s5 at *;have key:=Ku (W:=⟨Ts.map HL,[(s4.length,Ts.map HL)]⟩) (g:=Hl 4) (m:=QX C) (ds:=Ts.map HL) (U:=[some (.kl<|ns.map D.int),some (.int k),some (.ref n),some (Hu e stk ks w h sd),a4,a5]) (st:=s5)
  (Inv:=λi U q=>(∃f d,U=[some (.kl<|ns.map D.int),some (.int k),some (.ref n),some (Hu e stk ks w h sd),f,d])/\Gr s5 q)
  ⟨⟨_,_,rfl⟩,Gr.refl _⟩ (λi U q _ H=>Oq ((H.2.old _<|qax L).trans L)) (λi dd U q v H=>by obtain⟨⟨f,d,rfl⟩,gq⟩:=H;rw[Ay]at v;obtain⟨T,x,rfl⟩:=Ig v;obtain⟨I,J,lT⟩:=all T (AF x);obtain⟨c5,s',e5,g5⟩:=mQ (C:=C) (a0:=some (.kl<|ns.map D.int)) (a1:=some (.int k)) (a2:=some (.ref n)) (a5:=d) (s:=q) c o K p I J lT;exact⟨_,q,_,s',rfl,e5,⟨_,_,rfl⟩,gq.trans g5⟩)
 obtain⟨U',s6,el,⟨f,d,rfl⟩,g6⟩:=key;refine⟨some<|.ref n,some<|Hu e stk ks w h sd,f,d,s6,?_⟩;generalize Hu e stk ks w h sd=bed at *;generalize ns.map D.int=M at *;unfold Tw;refine Hw (U1:=[some (.kl M),some (.int k),some (.ref n),a3,a4,a5]) (s1:=s1) (by simp[X]) ?_;refine Hw (U1:=[some (.kl M),some (.int k),some (.ref n),some bed,a4,a5]) (s1:=s2) (by simp[Z]) ?_;rw[Ki,hw];exact el
def uH(ns:List Int)(p:ns.length<=63):∃st,UT C [.kl (ns.map D.int)] []=some (.bl true,st):=by
 obtain⟨M,T,f⟩:∃M:Nat,(1+(if(ns.length:Int)<3 then(ns.length:Int)else 3))=(M:Int)/\M<=4:=by
  by_cases h:(ns.length:Int)<3
  ·exact⟨1+ns.length,by rw[if_pos h];omega,by omega⟩
  exact⟨4,by rw[if_neg h];rfl,by omega⟩
 have key:=Ku (W:=⟨run 0 M,[]⟩) (g:=Hl 1) (m:=Tw C) (ds:=run 0 M) (U:=[some (.kl<|ns.map D.int),none,none,none,none,none]) (st:=[])
  (Inv:=λi U s=>∃a b c d e,U=[some (.kl<|ns.map D.int),a,b,c,d,e]) ⟨_,_,_,_,_,rfl⟩ (λ_ _ _ _ _=>rfl) (λi q U s hd j=>by obtain⟨a1,a2,w,a4,a5,rfl⟩:=j;obtain⟨r,rfl⟩:=LL hd;obtain⟨u,v,x,y,l,e⟩:=vG (C:=C) (ns:=ns) (k:=(i:Int)) (a2:=a2) (a3:=w) (a4:=a4) (a5:=a5) (s:=s) (by omega) (by omega);exact⟨[some (.kl<|ns.map D.int),some (.int (i:Int)),a2,w,a4,a5],s,_,l,rfl,e,_,_,_,_,_,rfl⟩)
 obtain⟨z,s2,n,a1,a2,w,a4,a5,rfl⟩:=key;refine⟨s2,IJ ?_⟩;unfold YV;have P:HP [.kl (ns.map D.int)] []=some (.int (ns.length:Int),[]):=by rw[Vb,Af]
 have o:Jc (mB HE (mK<|.int 1)<|Ho Qt<|Hc (mK<|.int 3)<|Hc (Ho HP<|Hc (mV 0)<|mZ)<|mZ) [some (.kl<|ns.map D.int),none,none,none,none,none] []=some (⟨run 0 M,[]⟩,[]):=by refine QL (s1:=[]) (k:=M) T ?_ (by omega);generalize ns.map D.int=A at *;generalize (ns.length:Int)=K at *;simp[P,Qt]
 refine Hw (U1:=[some (.kl<|ns.map D.int),a1,a2,w,a4,a5]) (s1:=s2) (by
  show mF _ _ _ [some (.kl<|ns.map D.int),none,none,none,none,none] []=_;rw[Ki,o];exact n) ?_
 simp
end L2.MP.T0
namespace L2.MP.T0
open PySem L2 L2.MP PySem.Spec PyProof.Rows PySem.W
def vw:SZ:=view PySem.Challenge.pw_stickytiles_k39_mended [0,2,3,4,6,7,8,9,10,11,12,14,16,17,19,20,21,23,24,25,26,27,28,29,30,31,32,33,34,35,36,37,38,39,40,41]
noncomputable abbrev hk:=Hx.Ow fns gT cos "Grow" M9 gO
def sZ:LeftO PySem.Challenge.pw_stickytiles_k39_mended vw [] (λs=>xlAt vw [] s&&recOk [] s) hk.obs hk.val 20000:=by
 intro w
 kernel_rfl
end L2.MP.T0
open PySem PySem.W PyProof.Rows L2 L2.MP L2.MP.T0 in
set_option maxRecDepth 100000 in
set_option maxHeartbeats 0 in
theorem PySem.Challenge.cw_stickytiles_k39_mended_holds : PySem.Challenge.rw_stickytiles_k39_mended.Holds := by
 refine holds_law (by decide +kernel) λb=>?_;refine holds_open (q:=vw) (loose:=[]) (XP:=XL vw []) (YP:=hk.says) sZ hk.of hk.keeps (λs e=>xl_of s (Bool.and_eq_true_iff.mp e).1) XL.keeps (by rfl) (by rfl) (by rfl) (λs e=>recFacts_of (Bool.and_eq_true_iff.mp e).2) (by rfl) b (by decide +kernel) ⟨rfl,rfl,rfl,rfl,rfl,by decide +kernel⟩ ?hw ?hc
 case hw=>w_witness2
 case hc=>
  refine Hx.LU (l:=PySem.Challenge.rw_stickytiles_k39_mended) (n:=63) (k:=9) (x:="_law_script") (CX:=Kx) (sp:=λK C=>Mv K 1 (UT C)) rfl (by decide) rfl ⟨rfl,by decide,by decide,rfl⟩ (λK C w m o h A B X G e=>?_) (λK C H a ns d g j=>(uH (C:=C) ns d).elim λ_ e=>xK g j e) λ_ _ _ _ z=>z;obtain⟨f,⟨p,r,kV,u,pm,an,cd,y,E,l,c⟩,n,k⟩:=A.fn ("law",top 41) (AF (i:=34) rfl)
  cases e.symm.trans (mg_of X G n);exact⟨_,λs v=>.of_eq rfl,λbase _ _=>kK (En.of A X G) (EC.of B X G) (OS (st:=top 41) l c k)⟩